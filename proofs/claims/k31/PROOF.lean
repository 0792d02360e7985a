import PyProof.Rows.All
import Wide.All
import OpenK.AllK
import Wide.FinOn
import HandS.Base
import HandS.Call
import HandS.List
import HandS.OwnEq
import HandS.Ends
import HandS.ClsMeth
import HandS.ExcOwn
import HandS.ExcIs
import HandS.TryOnly
import KE.KExcSuper
import HandS.ExcInit
import HandS.ExcField
import HandS.Words
import HandS.SortKw
import HandS.IterNext
import KE.DataMinMax
import KE.KExcIs
import KE.KExcLine
import HandS.OwnIter
import HandS.Walk
import KE.GoesMore
import KE.SortData
import HandS.SortRule
import HandS.IsInst
import HandS.WideBits
import HandS.Exc
import HandS.TryMany
import HandS.Style
import HandS.Strs
import HandS.Deep
import PyProof.StrLawsChain
import HandS.Text
import PyProof.Rows.StrCut
import HandS.Wide
import HandS.TupAny
import HandS.Star
import HandS.More
import HandS.Defaults
import HandS.Codes
import HandS.ForMost
import HandS.FStr
import HandS.StrMore
import HandS.Replace
import HandS.WordsExc
import PyProof.StrBlock2
import HandS.Zip
import HandS.Conv
import PySem.Challenge.RW_unbrokenrows_k31_patterns_that_lie_there
set_option Elab.async false
set_option linter.all false
set_option maxRecDepth 100000
namespace My
open PySem PySem.Spec PyProof.Rows L2
section
variable {X : Cx} {CX : CXT} {n : Nat} {f C : Addr} {fd : FuncData} {ps : List Str} {sp : Sp} {E : XK}
/-- a promise, called anywhere in the running body -/
theorem call_at (G0 : FnOk X.prog X.w X.K X.mg X.base CX n f fd ps sp) (hb : Binds X.K fd ps []) (hx : Passes CX X E) {A : Around} (hr : Room n A) (hA : A.frames = X.A.frames)
    {pins : List (Addr × Obj)} {s : Shared} {σ : L2.St} {H : Hp} (I : Inv X pins σ H s) {vs : List V} {us : List Value} (r : Vals vs us) {Q : VK} (h : sp vs H Q E) :
    wpAny (model X.prog X.w) A (call (.ref f) us) (EP X pins σ Q) X.xe s := by
  have e0 : Env0 X.prog X.w X.K X.mg X.base A X.stack s H := by
    have e := I.env0
    exact ⟨by rw [hA]; exact e.frames, e.mod, e.bs, e.bsz, e.funs, e.frf, e.hok, e.bare⟩
  have hl := G0.len _ _ _ _ h
  refine wpAny_call (codeAny_mono (G0.run A X.stack s H ⟨us, []⟩ us vs Q E hr e0 (by
    have := hb s us I.kIn (by rw [List.append_nil, ← r.length]; exact hl)
    simpa using this) r h) fun r s' hq => ?_)
  cases r with
  | error e => exact hx pins σ H s e s' I hq
  | ok fl =>
    cases fl with
    | ret w => exact I.after hq
    | next => exact False.elim hq
    | brk => exact False.elim hq
    | cont => exact False.elim hq
theorem relV_noNI {v : V} {u : Value} (r : RelV v u) : u ≠ .notImplemented := by
  intro e
  subst e
  cases v <;> first | (cases r; done) | (obtain ⟨_, z⟩ := r; cases z)
theorem cmpBack_of {pins : List (Addr × Obj)} {σ : L2.St} {Q : VK} {v : Value} {s : Shared} (h : EP X pins σ Q v s) : PySem.W.CmpBack (EP X pins σ Q) v s := by
  obtain ⟨x, H', I', r, q⟩ := id h
  cases v <;> first | exact h | exact absurd rfl (relV_noNI r)
/-- x op y, both instances of the class at C, by its own method -/
def rOwn2 (C : Addr) (sp : Sp) (E : XK) : R2 := fun x y H Q => ∃ a b dx dy fs gs, x = .ref a ∧ y = .ref b ∧ H a = some (.ins C dx fs) ∧ H b = some (.ins C dy gs) ∧ sp [.ref a, .ref b] H Q E
theorem op_own2 {op : Operator} (G0 : FnOk X.prog X.w X.K X.mg X.base CX n f fd ps sp) (hb : Binds X.K fd ps []) (hx : Passes CX X E) (hr : Room n X.A)
    (hs : PySem.W.findIn X.K (.ref C) (PySem.dunder op.info.2) = some (some (.ref f))) (hf : PySem.W.isFn X.K (.ref f) = true) (hc : PySem.W.selfFirst X.K C = true) : OpR X (binaryOp op) (rOwn2 C sp E) := by
  intro pins s σ H x y v u Q I rx ry h
  obtain ⟨a, b, dx, dy, fs, gs, rfl, rfl, ha, hb', q⟩ := h
  cases rx
  cases ry
  obtain ⟨mA, J, _⟩ := ins_get I.hok ha
  obtain ⟨mB, J', _⟩ := ins_get I.hok hb'
  obtain ⟨od, J, _⟩ := J.look
  obtain ⟨od', J', _⟩ := J'.look
  obtain ⟨m, hF⟩ := I.fr
  refine PySem.W.binop_K hF I.ok.mod.kin J J'.type hc hs hf ?_
  exact wpAny_mono (call_at G0 hb hx hr rfl I (vs := [.ref a, .ref b]) (.cons rfl (.cons rfl .nil)) q) (fun v s' z => cmpBack_of z) fun _ _ z => z
/-- x op k, x such an instance, k a whole number -/
def rOwnI (C : Addr) (sp : Sp) (E : XK) : R2 := fun x y H Q => ∃ a dx fs k, x = .ref a ∧ y = .int k ∧ H a = some (.ins C dx fs) ∧ sp [.ref a, .int k] H Q E
theorem op_ownI {op : Operator} {fo ro rc : Option Value} (G0 : FnOk X.prog X.w X.K X.mg X.base CX n f fd ps sp) (hb : Binds X.K fd ps []) (hx : Passes CX X E) (hr : Room n X.A)
    (hs : PySem.W.findIn X.K (.ref C) (PySem.dunder op.info.2) = some (some (.ref f))) (hf : PySem.W.isFn X.K (.ref f) = true) (hc : PySem.W.selfFirst X.K C = true)
    (hrr : PySem.W.findIn X.K (.ref C) (dunderR op.info.2) = some rc) (hp : rc = none ∨ ∃ g : Addr, rc = some (.ref g))
    (h1 : PySem.W.findIn X.K (.type "int") (PySem.dunder op.info.2) = some fo) (h2 : PySem.W.findIn X.K (.type "int") (dunderR op.info.2) = some ro) (hsub : PySem.W.subIn X.K (.type "int") (.ref C) = some false) :
    OpR X (binaryOp op) (rOwnI C sp E) := by
  intro pins s σ H x y v u Q I rx ry h
  obtain ⟨a, dx, fs, k, rfl, rfl, ha, q⟩ := h
  cases rx
  obtain ⟨t, rfl⟩ := ry
  obtain ⟨mA, J, _⟩ := ins_get I.hok ha
  obtain ⟨od, J, _⟩ := J.look
  obtain ⟨m, hF⟩ := I.fr
  refine PySem.W.ksp_binT (T := "int") hF I.ok.mod.kin J rfl hc hs hf hrr hp h1 h2 hsub ?_
  exact wpAny_mono (call_at G0 hb hx hr rfl I (vs := [.ref a, .int k]) (.cons rfl (.cons ⟨_, rfl⟩ .nil)) q) (fun v s' z => cmpBack_of z) fun _ _ z => z
/-- one-place operators of such an instance -/
def rOwn1 (C : Addr) (sp : Sp) (E : XK) : V → Hp → VK → Prop := fun x H Q => ∃ a dx fs, x = .ref a ∧ H a = some (.ins C dx fs) ∧ sp [.ref a] H Q E
theorem un_own (G0 : FnOk X.prog X.w X.K X.mg X.base CX n f fd ps sp) (hb : Binds X.K fd ps []) (hx : Passes CX X E) (hr : Room n X.A)
    (hs : PySem.W.findIn X.K (.ref C) "__neg__" = some (some (.ref f))) (hf : PySem.W.isFn X.K (.ref f) = true) : UnR X (unaryOp .USub) (rOwn1 C sp E) := by
  intro pins s σ H x v Q I rx h
  obtain ⟨a, dx, fs, rfl, ha, q⟩ := h
  cases rx
  obtain ⟨mA, J, _⟩ := ins_get I.hok ha
  obtain ⟨od, J, _⟩ := J.look
  obtain ⟨m, hF⟩ := I.fr
  exact PySem.W.ksp_neg hF I.ok.mod.kin J hs hf (call_at G0 hb hx hr rfl I (vs := [.ref a]) (.cons rfl .nil) q)
/-- abs(x), bool(x) of such an instance -/
theorem call_absOwn (G0 : FnOk X.prog X.w X.K X.mg X.base CX n f fd ps sp) (hb : Binds X.K fd ps []) (hx : Passes CX X E) (hr : Room (n + 1) X.A)
    (hs : PySem.W.findIn X.K (.ref C) "__abs__" = some (some (.ref f))) (hf : PySem.W.isFn X.K (.ref f) = true) :
    CallR X (.builtin "abs") (fun xs H Q => ∃ a dx fs, xs = [V.ref a] ∧ H a = some (.ins C dx fs) ∧ sp [.ref a] H Q E) := by
  intro pins s σ H xs us Q I r h
  obtain ⟨a, dx, fs, rfl, ha, q⟩ := h
  obtain ⟨u, rfl, r1⟩ := vals1 r
  cases r1
  obtain ⟨mA, J, _⟩ := ins_get I.hok ha
  obtain ⟨od, J, _⟩ := J.look
  refine PySem.Calls.call_function_entry kind_abs plain_abs entry_abs (args_abs _) ?_
  unfold Builtin.«abs»
  refine wpAny_bind (m := oneArg "abs" _) (wpAny_pure ?_)
  refine wpAny_bind (m := callSpecial? (.ref a) (Str.ofString "__abs__")) (PySem.W.special_fn I.kIn J hs (beq_iff_eq.mp hf) ?_)
  refine wpAny_mono (call_at G0 hb hx (A := X.A.in1) hr.in1 rfl I (vs := [.ref a]) (.cons rfl .nil) q) (fun v s' z => ?_) fun _ _ z => z
  exact wpAny_pure ⟨_, rfl, z⟩
theorem meets_bool_own (prog : Program) (w : World) (l : Addr) : MeetsIn prog w (Builtin.«bool.__new__» ⟨[.type "bool", .ref l], []⟩)
    (fun A R s => wpAny (model prog w) A.in1 (truthy (.ref l)) (fun b s' => R (.ok (.ret (.bool b))) s') (fun e s' => R (.error e) s') s) := by
  intro A R s hs
  have f1 := F.conv_sub_bool
  unfold Builtin.«bool.__new__»
  dsimp only
  repeat (any_goals (first | assumption | (with_reducible refine wpAny_mono hs (fun b s' z => ?_) (fun _ _ z => z)) | wp_step))
  all_goals first | exact z | skip
theorem call_boolOwn (G0 : FnOk X.prog X.w X.K X.mg X.base CX n f fd ps sp) (hb : Binds X.K fd ps []) (hx : Passes CX X E) (hr : Room (n + 2) X.A)
    (hs : PySem.W.findIn X.K (.ref C) "__bool__" = some (some (.ref f))) (hf : PySem.W.isFn X.K (.ref f) = true) :
    CallR X (.type "bool") (fun xs H Q => ∃ a dx fs, xs = [V.ref a] ∧ H a = some (.ins C dx fs) ∧ sp [.ref a] H (fun v H' => ∃ k, v = .bl k ∧ Q v H') E) := by
  intro pins s σ H xs us Q I r h
  obtain ⟨a, dx, fs, rfl, ha, q⟩ := h
  obtain ⟨u, rfl, r1⟩ := vals1 r
  cases r1
  obtain ⟨mA, J, _⟩ := ins_get I.hok ha
  obtain ⟨od, J, _⟩ := J.look
  obtain ⟨m, hF⟩ := I.fr
  refine callType_newIn F.called_bool F.newNe_bool (F.typeCall_bool_1 _) (F.newCall_bool_1 _) (fun obj => F.args_object_init_2 obj _) F.entry_bool_new (meets_bool_own X.prog X.w a) ?_
  refine PySem.W.truthy_K hF I.ok.mod.kin J hs hf ?_
  refine wpAny_mono (call_at G0 hb hx (A := X.A.in1.in1) hr.in1.in1 rfl I (vs := [.ref a]) (.cons rfl .nil) q) (fun v s' z => ?_) fun _ _ z => z
  obtain ⟨x, H', I', r, k, rfl, q'⟩ := z
  cases r
  exact ⟨PySem.typeIs_bool _ _, .bl k, H', I', rfl, q'⟩
/-- == of two such instances -/
def rOwnEq (C : Addr) (sp : Sp) (E : XK) : R2 := fun x y H Q => ∃ a b dx dy fs gs, x = .ref a ∧ y = .ref b ∧ H a = some (.ins C dx fs) ∧ H b = some (.ins C dy gs) ∧ sp [.ref a, .ref b] H Q E
theorem op_eqOwn (G0 : FnOk X.prog X.w X.K X.mg X.base CX n f fd ps sp) (hb : Binds X.K fd ps []) (hx : Passes CX X E) (hr : Room n X.A)
    (hs : PySem.W.findIn X.K (.ref C) "__eq__" = some (some (.ref f))) (hf : PySem.W.isFn X.K (.ref f) = true) : OpR X (compareOp .Eq) (rOwnEq C sp E) := by
  intro pins s σ H x y v u Q I rx ry h
  obtain ⟨a, b, dx, dy, fs, gs, rfl, rfl, ha, hb', q⟩ := h
  cases rx
  cases ry
  obtain ⟨mA, J, _⟩ := ins_get I.hok ha
  obtain ⟨mB, J', _⟩ := ins_get I.hok hb'
  obtain ⟨od, J, _⟩ := J.look
  obtain ⟨od', J', _⟩ := J'.look
  obtain ⟨m, hF⟩ := I.fr
  show wpAny (model X.prog X.w) X.A (richCompare .Eq (.ref a) (.ref b)) (EP X pins σ Q) X.xe s
  refine PySem.W.cmp_K (op := .Eq) (tb := .ref C) hr.units0 hF I.ok.mod.kin J J'.type (by simp [PySem.W.notFirst]) hs hf ?_
  exact wpAny_mono (call_at G0 hb hx hr rfl I (vs := [.ref a, .ref b]) (.cons rfl (.cons rfl .nil)) q) (fun v s' z => cmpBack_of z) fun _ _ z => z
end
end My
set_option maxRecDepth 100000
namespace My
open PySem PySem.Spec PyProof.Rows L2
open ClX (CRead)
section
variable {X : Cx} {CX : CXT} {n k : Nat} {f C : Addr} {fd : FuncData} {ps : List Str} {sp : Sp} {E : XK}
/-- str(x) of an instance with its own __str__ -/
theorem call_strOwn (G0 : FnOk X.prog X.w X.K X.mg X.base CX n f fd ps sp) (hb : Binds X.K fd ps []) (hx : Passes CX X E) (hr : Room (n + 2) X.A)
    (hs : PySem.W.findIn X.K (.ref C) "__str__" = some (some (.ref f))) (hf : PySem.W.isFn X.K (.ref f) = true) :
    CallR X (.type "str") (fun xs H Q => ∃ a dx fs, xs = [V.ref a] ∧ H a = some (.ins C dx fs) ∧ sp [.ref a] H (fun v H' => ∃ z, v = .str z ∧ Q v H') E) := by
  intro pins s σ H xs us Q I r h
  obtain ⟨a, dx, fs, rfl, ha, q⟩ := h
  obtain ⟨u, rfl, r1⟩ := vals1 r
  cases r1
  obtain ⟨mA, J, _⟩ := ins_get I.hok ha
  obtain ⟨od, J, _⟩ := J.look
  refine PySem.W.kso_call (hr.in1.in1.units0) I.kIn J hs hf ?_
  refine wpAny_mono (call_at G0 hb hx (A := X.A.in1.in1) hr.in1.in1 rfl I (vs := [.ref a]) (.cons rfl .nil) q) (fun v s' z => ?_) fun _ _ z => z
  obtain ⟨x, H', I', r, y, rfl, q'⟩ := z
  obtain ⟨t, rfl⟩ := r
  exact ⟨.str y, H', I', ⟨_, rfl⟩, q'⟩
/-- C.m is a staticmethod: its record at p, its def at g -/
structure SMet (K : PySem.W.Frag) (C : Addr) (mc : Value) (m : Str) (p g : Addr) : Prop where
  at_ : PySem.W.findCls K (.ref C) mc m = some (.get (.builtin "staticmethod.__get__") (.ref p) .none (.ref C))
  rc : ∃ rest, PySem.W.recIn K p "staticmethod" = some (.ref g :: rest)
  kp : PySem.W.keepIn K (.ref g) = true
theorem getmethsm_ok {pins : List (Addr × Obj)} {σ : L2.St} {H : Hp} {s : Shared} {p g : Addr} {mc : Value} {m : Str} {A : Around} {E : Value → Shared → Prop} {pl : Sem Bool} {Q : Value × List Value → Shared → Prop} (I : Inv X pins σ H s) (r : CRead X.K C mc) (k : SMet X.K C mc m p g)
    (h : ∀ s', Inv X pins σ H s' → Q (.ref g, []) s') : wpAny (model X.prog X.w) A (getMethod (.ref C) m pl) Q E s := by
  refine PySem.W.method_cls I.kIn r.ga ?_
  obtain ⟨rest, hp⟩ := k.rc
  refine PySem.W.cls_bind I.kIn r.rd k.at_ ?_
  refine wpAny_call (PySem.W.sm_get (s := { s with toks := s.toks + 1 }) I.kIn hp (PySem.W.handed_on rfl ?_))
  exact h _ (I.tok _)
/-- C.m(e, ..), m a staticmethod of the class at C -/
def tSMeth (C : Addr) (sp : Sp) (dvs : List V) (E : XK) (ta : TE) (t : TA) : TE := fun σ H Q => ta σ H fun x H1 => x = .ref C ∧ t σ H1 fun vs H2 => sp (vs ++ dvs) H2 Q E
theorem pe_smeth {o e : Expr} {es : List Expr} {p g : Addr} {mc : Value} {m : Str} {pos apos : Pos} {ta : TE} {t : TA} {pl : Sem Bool} {ds : List Value} {dvs : List V} (he : PE X o ta) (r : CRead X.K C mc) (c : SMet X.K C mc m p g)
    (G0 : FnOk X.prog X.w X.K X.mg X.base CX k g fd ps sp) (hr : Room k X.A) (hb : Binds X.K fd ps ds) (hd : Vals dvs ds) (hx : Passes CX X E) (ha : PA X (e :: es) t)
    (hst : starEach (e :: es) X.env = (false, eval e X.env) :: starEach es X.env := by rfl) (hpl : (backTo pos (starEach es X.env)).any (·.1) = false := by rfl)
    (ht : eval (.Call (.Attribute o m apos) (e :: es) [] pos) X.env = (do
      let ov ← eval o X.env
      standAt apos.atName
      let (f, first) ← holding [ov] (getMethod ov m pl)
      callWith pos f first (backTo pos (starEach (e :: es) X.env)) (backToKw pos (keywordEach [] X.env))) := by rfl) :
    PE X (.Call (.Attribute o m apos) (e :: es) [] pos) (tSMeth C sp dvs E ta t) := by
  refine ⟨fun pins s σ H Q I h => ?_⟩
  refine PySem.W.methodCall_KW (pl := pl) (thn (he.run pins s σ H _ I h) fun u s1 ⟨x, H1, I1, rx, ex, q⟩ => ?_) ht
  subst ex
  obtain rfl : u = Value.ref C := rx
  refine getmethsm_ok I1 r c fun s2 I2 => ?_
  refine PySem.W.callWith_K (h₀ := X.base) I2.ok.mod.kin c.kp (thn (ha.run pos pins s2 σ H1 _ I2 q) fun us s3 ⟨vs, H2, I3, r3, q3⟩ => ⟨I3.kIn, ?_⟩) hst hpl
  exact run_fn G0 hr hb hd hx I3 r3 q3
/-- C(e, ..) where what its __init__ raises is wished for -/
def tMakeS (C : Addr) (sp : Sp) (E : L2.St → XK) (t : TA) : TE := fun σ H Q => t σ H fun vs H1 => ∀ x dx, H1 x = none → H1 dx = none → dx ≠ x →
  sp (.ref x :: vs) (upd (upd H1 dx (.own x)) x (.ins C dx [])) (fun v H2 => v = .non ∧ Q (.ref x) H2) (E σ)
theorem run_makeS {E : L2.St → XK} {pins : List (Addr × Obj)} {σ : L2.St} {H : Hp} {s : Shared} {Q : VK} {us : List Value} {vs : List V} (M : Mk X.K C f) (G0 : FnOk X.prog X.w X.K X.mg X.base CX k f fd ps sp) (hr : Room (k + 1) X.A) (hb : Binds X.K fd ps [])
    (hx : PassesAt CX X σ (E σ)) (I : Inv X pins σ H s) (r : Vals vs us)
    (h : ∀ x dx, H x = none → H dx = none → dx ≠ x → sp (.ref x :: vs) (upd (upd H dx (.own x)) x (.ins C dx [])) (fun v H2 => v = .non ∧ Q (.ref x) H2) (E σ)) :
    wpAny (model X.prog X.w) X.A (call (.ref C) us) (EP X pins σ Q) X.xe s := by
  have hq := h (s.heap.objs.size + 1) s.heap.objs.size (I.hok.fresh (Nat.le_succ _)) (I.hok.fresh (Nat.le_refl _)) (Nat.ne_of_lt (Nat.lt_succ_self _))
  have I2 := Inv.made (C := C) I
  have r2 : Vals (V.ref (s.heap.objs.size + 1) :: vs) (Value.ref (s.heap.objs.size + 1) :: us) := .cons rfl r
  have hl : (Value.ref (s.heap.objs.size + 1) :: us).length = ps.length := by
    have e := r2.length
    rw [G0.len _ _ _ _ hq] at e
    exact e.symm
  have b := hb _ (Value.ref (s.heap.objs.size + 1) :: us) I2.kIn (by rw [List.append_nil]; exact hl)
  rw [List.append_nil] at b
  refine wpAny_call (make_map (f := f) I.kIn M.makes M.init (beq_iff_eq.mp M.fn) (codeAny_mono (G0.run _ X.stack _ _ ⟨Value.ref (s.heap.objs.size + 1) :: us, []⟩ (Value.ref (s.heap.objs.size + 1) :: us) _ _ (E σ) (hr.make C us [])
    (I2.env0.make C us []) b r2 hq) fun r s' hq' => ?_))
  cases r with
  | error e => exact hx pins _ _ e s' I2 hq'
  | ok fl =>
    cases fl with
    | ret u =>
      obtain ⟨v, H', I3, rv, ev, q3⟩ := I2.after hq'
      subst ev
      exact ⟨rv, ⟨V.ref (s.heap.objs.size + 1), H', I3, rfl, q3⟩⟩
    | next => exact False.elim hq'
    | brk => exact False.elim hq'
    | cont => exact False.elim hq'
theorem pe_makeS {E : L2.St → XK} {x : Str} {p pos : Pos} {e : Expr} {es : List Expr} {t : TA} (M : Mk X.K C f) (G0 : FnOk X.prog X.w X.K X.mg X.base CX k f fd ps sp) (hr : Room (k + 1) X.A) (hg : Gl X x) (hm : X.mg x = some (.ref C)) (hb : Binds X.K fd ps []) (hx : ∀ σ, PassesAt CX X σ (E σ))
    (ha : PA X (e :: es) t) (hdb : (x == ("__debug__" : Str)) = false := by decide) (he : starEach (e :: es) X.env = (false, eval e X.env) :: starEach es X.env := by rfl) (hpl : (backTo pos (starEach es X.env)).any (·.1) = false := by rfl) :
    PE X (.Call (.Name x p) (e :: es) [] pos) (tMakeS C sp E t) := by
  refine ⟨fun pins s σ H Q I h => ?_⟩
  refine wpAny_Call_Name_kw (ld_glob I hg hm ?_ hdb)
  refine PySem.W.callWith_K (h₀ := X.base) I.ok.mod.kin M.kp (thn (ha.run pos pins s σ H _ I h) fun us s1 ⟨vs, H1, I1, r, q⟩ => ⟨I1.kIn, ?_⟩) he hpl
  exact run_makeS M G0 hr hb (hx σ) I1 r q
end
/-- isinstance(e, c) in an except suite of any error -/
theorem call_isEx {X : Cx} {a : Addr} {oe : Obj} {cls : Value} {d : Option Addr} {pn : List (Addr × Obj)} (hz : Zc cls d oe) (hf : ∃ vs, oe.data = .fields vs) :
    CallR (X.suite a ((a, oe) :: pn)) (.builtin "isinstance") (fun xs H Q => ∃ D, cls = .ref D ∧ d = none ∧ ExcC X.K D ∧ rIsE X.K D a xs H Q) := by
  intro pins s σ H xs us Q I r h
  obtain ⟨D, rfl, rfl, c, q⟩ := h
  exact call_isE c hz hf pins s σ H xs us Q I r q
/-- an own class against an own class, against a built-in one -/
theorem kit_own {K : PySem.W.Frag} {C D : Addr} {b : Bool} (hi : PySem.W.isClsIn K D = true) (ht : PySem.W.typeIn K (.ref D) = some (.type "type")) (hs : PySem.W.subIn K (.ref C) (.ref D) = some b) (hne : C ≠ D ∨ b = true) : PySem.W.kitOne K (.ref C) (.ref D) = some b := by
  unfold PySem.W.kitOne
  by_cases e : C = D
  · rcases hne with h | h
    · exact absurd e h
    · rw [if_pos (by rw [e]; simp), h]
  · rw [if_neg (by simp [e])]
    show (if ((PySem.W.clsIn K D).isSome && PySem.W.typeIn K (.ref D) == some (.type "type")) = true then _ else _) = _
    rw [if_pos (by
      rw [ht]
      have : (PySem.W.clsIn K D).isSome = true := hi
      rw [this]; simp)]
    exact hs
theorem kit_ownT {K : PySem.W.Frag} {C : Addr} {T : String} {b : Bool} (hm : PySem.W.kitMeta T = true) (hs : PySem.W.subIn K (.ref C) (.type T) = some b) : PySem.W.kitOne K (.ref C) (.type T) = some b := by
  unfold PySem.W.kitOne PySem.W.kitCls
  rw [if_neg (by simp)]
  show (if PySem.W.kitMeta T = true then _ else _) = _
  rw [if_pos hm]
  exact hs
end My
set_option maxRecDepth 100000
set_option maxHeartbeats 1000000
/-! own exceptions whose __init__ says super().__init__(text) and then stores its fields -/
namespace My
open PySem PySem.Spec PyProof.Rows L2
/-- the names of such a def: its parameters are local, nothing is a cell, __class__ alone is free -/
structure SupScope (N ps : List Str) (sc : Scope) : Prop where
  kind : sc.kind = .function
  co : sc.isCoroutine = false
  gen : sc.isGenerator = false
  nd : ps.Nodup
  eqN : N = ps
  par : ∀ x ∈ ps, sc.names.lookup x = some .local
  nocell : ∀ y ∈ sc.names, y.2 ≠ .cell
  free : ∀ y ∈ sc.names, y.2 = .free → y.1 = "__class__"
  ks : sc.names.lookup ("super" : Str) = some .globalImplicit
  kc : sc.names.lookup ("__class__" : Str) = some .free
/-- the context of its body -/
def cxSup (CX : CXT) (P : Program) (w : World) (K : PySem.W.Frag) (mg : Str → Option Value) (base : Heap) (N : List Str) (qual : Str) (scope : Scope) (f : Addr) (cd : Value) (cc : Addr) (A : Around) (outer : List Env) (s : Shared) (H : Hp) (E : XK) : Cx where
  prog := P
  w := w
  K := K
  mg := mg
  base := base
  A := A.deeper (PySem.W.ksEnv qual scope s.heap.objs.size f cd cc)
  N := N
  s_0 := s
  H_0 := H
  env := PySem.W.ksEnv qual scope s.heap.objs.size f cd cc
  outer := outer
  stack := PySem.W.ksEnv qual scope s.heap.objs.size f cd cc :: outer
  ex := []
  calm := true
  fn := fun _ => false
  pn := []
  xe := fun e s' => wpAny (model P w) (A.deeper (PySem.W.ksEnv qual scope s.heap.objs.size f cd cc)) (leaving (PySem.W.ksEnv qual scope s.heap.objs.size f cd cc) e) (fun _ s'' => CX outer H s E e s'') (fun e' s'' => CX outer H s E e' s'') s'
theorem lookup_of_mem {l : List (Str × Value)} {y : Str} {u : Value} (nd : (l.map (·.1)).Nodup) (h : (y, u) ∈ l) : l.lookup y = some u := by
  induction l with
  | nil => cases h
  | cons p r ih =>
    obtain ⟨z, v⟩ := p
    rw [List.map_cons, List.nodup_cons] at nd
    rcases List.mem_cons.mp h with e | e
    · cases e; simp [List.lookup]
    · have hne : y ≠ z := fun q => nd.1 (by rw [← q]; exact List.mem_map.mpr ⟨_, e, rfl⟩)
      have : (y == z) = false := by simpa using hne
      simp only [List.lookup, this]
      exact ih nd.2 e
theorem map_fst_zip_sub : ∀ (ps : List Str) (us : List Value), ((ps.zip us).map (·.1)).Sublist ps
  | [], _ => by simp
  | _ :: _, [] => by simp
  | p :: ps, u :: us => by simpa using map_fst_zip_sub ps us
theorem nd_rev {l : List Str} (h : l.Nodup) : l.reverse.Nodup := by
  induction l with
  | nil => simp
  | cons a t ih =>
    rw [List.nodup_cons] at h
    rw [List.reverse_cons, List.nodup_append]
    exact ⟨ih h.2, by simp, fun x hx y hy e => h.1 (by simp at hy; rw [← hy, ← e]; simpa using hx)⟩
theorem zip_lookup {ps : List Str} {us : List Value} {i : Nat} {y : Str} {u : Value} (nd : ps.Nodup) (h1 : ps[i]? = some y) (h2 : us[i]? = some u) : (ps.zip us).reverse.lookup y = some u := by
  refine lookup_of_mem ?_ ?_
  · rw [List.map_reverse]
    have : ((ps.zip us).map (·.1)).Nodup := by
      exact nd.sublist (map_fst_zip_sub ps us)
    exact nd_rev this
  · rw [List.mem_reverse]
    have : (ps.zip us)[i]? = some (y, u) := by rw [List.getElem?_zip_eq_some]; exact ⟨h1, h2⟩
    exact List.mem_of_getElem? this
section
variable {CX : CXT} {P : Program} {w : World} {K : PySem.W.Frag} {mg : Str → Option Value} {base : Heap} {N ps : List Str} {qual : Str} {scope : Scope} {f cc : Addr} {cd : Value} {A : Around} {outer : List Env} {s : Shared} {H : Hp} {E : XK}
theorem env_cells {x : Str} {c : Addr} {L : Addr} (h : (PySem.W.ksEnv qual scope L f cd cc).cells.lookup x = some c) : x = "__class__" ∧ c = cc := by
  have h' : ([(("__class__" : Str), cc)] : List (Str × Addr)).lookup x = some c := h
  by_cases e : x = "__class__"
  · subst e
    simp [List.lookup] at h'
    exact ⟨rfl, h'.symm⟩
  · have : (x == ("__class__" : Str)) = false := by simpa using e
    simp [List.lookup, this] at h'
theorem inv_sup {us : List Value} {vs : List V} {h1 : Heap} {t : Nat} {cl : Value} {cld : Option Addr} {cv : Option Value} {csl : Array (Option Value)} (S : SupScope N ps scope) (hd : A.handled = none) (e0 : Env0 P w K mg base A outer s H) (hl : vs.length = ps.length) (r : Vals vs us)
    (hcell : K.lookup cc = some ⟨cl, cld, .cell cv, csl⟩)
    (hns : h1.Ns s.heap.objs.size (fun x => (ps.zip us).reverse.lookup x)) (hk : ∀ b o, s.heap.get? b = some o → h1.get? b = some o) :
    Inv (cxSup CX P w K mg base N qual scope f cd cc A outer s H E) [] (L2.start N vs) H { s with heap := h1, toks := t } := by
  have noA : ∀ b : Addr, b ∉ (cxSup CX P w K mg base N qual scope f cd cc A outer s H E).ex := fun b z => absurd (show b ∈ ([] : List Addr) from z) (by simp)
  have hcb := e0.mod.kin _ _ hcell
  refine ⟨⟨e0.mod, S.kind, rfl, rfl, Nat.le_refl _, fun y z c h1 h2 => (env_cells h1).1.trans (env_cells h2).1.symm, fun y hy => ?_, fun y c h _ => absurd h Bool.false_ne_true, fun _ => hd, Around.frames_deeper e0.frames, .inr ⟨rfl, rfl⟩, fun b z => absurd z (noA b), e0.bs, e0.bsz, fun b _ _ => noA b, fun b z => absurd z (noA b), e0.funs, e0.frf⟩,
    rfl, e0.bare, Un.kept hk, ⟨_, hns, fun i y v h1 h2 h3 => ?_⟩, fun y c h => ?_, e0.hok.fresh (Nat.le_refl _), fun y c h => ?_, fun p hp => absurd (show p ∈ ([] : List (Addr × Obj)) from hp) (by simp), e0.hok.kept hk, ?_⟩
  · have hy : scope.names.lookup y = some .cell ∨ scope.names.lookup y = some .free := hy
    rcases hy with hy | hy
    · exact absurd rfl (S.nocell _ (PySem.mem_of_lookup hy))
    · have e := S.free _ (PySem.mem_of_lookup hy) rfl
      refine ⟨cc, ?_⟩
      show ([(("__class__" : Str), cc)] : List (Str × Addr)).lookup y = some cc
      have e' : y = "__class__" := e
      rw [e']
      simp [List.lookup]
  · have hlen : N.length = vs.length := by rw [S.eqN, hl]
    have e2 : L2.start N vs = vs.map some := by unfold L2.start; rw [hlen, Nat.sub_self]; simp
    rw [e2, List.getElem?_map] at h2
    cases ea : vs[i]? with
    | none => rw [ea] at h2; cases h2
    | some a =>
      rw [ea] at h2
      cases h2
      obtain ⟨u, hu, rv⟩ := r.get ea
      have hp : ps[i]? = some y := by rw [← S.eqN]; exact h1
      exact ⟨u, rv, .inl ⟨S.par y (List.mem_of_getElem? hp), zip_lookup S.nd hp hu⟩⟩
  · obtain ⟨rfl, rfl⟩ := env_cells h
    exact ⟨cv, _, hk _ _ (e0.bs _ _ hcb).1, rfl⟩
  · obtain ⟨rfl, rfl⟩ := env_cells h
    exact (e0.bs _ _ hcb).2
  · unfold L2.start
    show _ = N.length
    rw [List.length_append, List.length_map, List.length_replicate, S.eqN]
    omega
end
open PySem.W (ksFn ksEnv)
/-- what the written part says of such a class -/
structure SupCls (P : Program) (K : PySem.W.Frag) (mg : Str → Option Value) (C : Addr) : Prop where
  cd : ∃ cd, PySem.W.clsIn K C = some cd
  mro : PySem.W.mroIn K C (.ref C) = some true
  sup : PySem.W.ks_superIn K C C "__init__" = some (some (.builtin "ValueError.__init__"))
  opq : PySem.W.nsIn K PySem.cStatics "thirdparty.any" = some none
  ve : PySem.W.subIn K (.ref C) (.type "ValueError") = some true
  mgs : mg "super" = none
  top : (P.main.scope.names.lookup ("super" : Str)).isSome = false
  ox : OexC K C
/-- and of its __init__ -/
structure SupFn (P : Program) (K : PySem.W.Frag) (st : Stmt) (qual : Str) (C f : Addr) (fd : FuncData) : Prop where
  ex : ∃ (oc : Value) (od : Option Addr) (kV doc pm : Value) (an : Option Addr) (cda : Addr) (ct : Value) (cc : Addr) (sl : Array (Option Value)),
    fd = ksFn "__init__" qual (defArgs st) (defBody st) (defScope st) .none kV doc pm an (.ref cda) ct cc ∧ K.lookup f = some ⟨oc, od, .func fd, sl⟩ ∧ PySem.W.codeIn K (.ref cda) qual = true ∧
    (∃ (a : Value) (b : Option Addr) (vs : Array Value) (d : Array (Option Value)) (file : Str) (tf : Tok), K.lookup cda = some ⟨a, b, .fields vs, d⟩ ∧ vs[2]? = some (.str file tf) ∧ ((P.main.file : Str) == file) = true) ∧
    ∃ (a : Value) (b : Option Addr) (d : Array (Option Value)), K.lookup cc = some ⟨a, b, .cell (some (.ref C)), d⟩
section
variable {CX : CXT} {P : Program} {w : World} {K : PySem.W.Frag} {mg : Str → Option Value} {base : Heap} {N ps : List Str} {qual : Str} {scope : Scope} {f cc cda C a : Addr} {A : Around} {outer : List Env} {s0 : Shared} {H0 : Hp} {E : XK}
variable {oc : Value} {od : Option Addr} {fd : FuncData} {sl : Array (Option Value)} {vs : Array Value} {file : Str} {tf : Tok}
theorem mw_call {X : Cx} {pins : List (Addr × Obj)} {σ : L2.St} {H : Hp} {s : Shared} {u : Addr} {us : List Value} {Q : Value → Shared → Prop} {B : Around} {EE : Value → Shared → Prop} (T : OexC X.K C) (I : Inv X ((u, PySem.W.kxs_mw "ValueError.__init__" a) :: pins) σ H s)
    (ea : H a = some (exo a C none)) (hz : us.length ≤ sizeLine) (q : ∀ s', Inv X ((u, PySem.W.kxs_mw "ValueError.__init__" a) :: pins) σ H s' → Q .none s') :
    wpAny (model X.prog X.w) B (call (.ref u) us) Q EE s := by
  obtain ⟨nm, q0, N0, bs, bm, sn, sub, ab, col, dd, k0, k1, k2, k3, k5, hC, hbm⟩ := T.cls
  obtain ⟨t1, ho⟩ := exo_at I.hok ea
  have hu := ClX.pin_at I
  have KX := I.kIn
  have eu : upd H a (exo a C none) = H := by
    funext b
    by_cases hb : b = a
    · rw [hb, upd_same, ea]
    · rw [upd_ne hb]
  have T1 : (Value.type "method-wrapper" == Value.type "method" || Value.type "method-wrapper" == Value.type "builtin_function_or_method" || Value.type "method-wrapper" == Value.type "method-wrapper") = true := by decide
  obtain ⟨hp, g, d, t, os⟩ := s
  refine wpAny_call (codeAny_of_tree ?_)
  show wpAny _ _ (callAny (.ref u) ⟨us, []⟩) _ _ _
  unfold callAny
  refine wpAny_bind (wpAny_load hu ?_)
  simp only [PySem.W.kxs_mw, T1, if_true]
  refine PySem.W.KFB.if_so (by decide) ?_
  refine wpAny_bind (PySem.W.check_bound_init F.excBase_ValueError.toExcCallFacts (KX _ _ hC) ho rfl ?_)
  refine wpAny_bind (wpAny_pure (wpAny_pure ⟨PySem.plainId_quiet F.excBase_ValueError.init.plain _, codeAny_builtin F.excBase_ValueError.initEntry ?_⟩))
  refine PySem.W.exc_init_tree (cls := .ref C) (t0 := t1) (dv := none) (c2 := .none) (c3 := .none) (b4 := .bool false) ho hz fun h' k e1 _ => ?_
  have J := I.write (t' := t) (x := a) (e := a) (o := exo a C none) (by rw [ea]; exact True.intro) (.inl rfl) k ⟨_, e1⟩ (exo_ok e1)
  rw [eu] at J
  exact q _ J

/-- super().__init__(e, ..) at the head of the body -/
theorem sup_run {an : Option Addr} {kV doc pm ct : Value} {body : List Stmt} {args : Arguments} {σ : L2.St} {H : Hp} {s : Shared} {ta : TA} {e : Expr} {es : List Expr} {p0 p1 p2 p3 p4 : Pos} {ar : Arg} {Q : Flow → Shared → Prop}
    (S : SupScope N ps scope) (D : SupCls P K mg C)
    (lk : K.lookup f = some ⟨oc, od, .func (ksFn "__init__" qual args body scope .none kV doc pm an (.ref cda) ct cc), sl⟩) (har : (args.posonlyargs ++ args.args).head? = some ar)
    (lc : ∃ (a : Value) (b : Option Addr) (vs : Array Value) (d : Array (Option Value)) (file : Str) (tf : Tok), K.lookup cda = some ⟨a, b, .fields vs, d⟩ ∧ vs[2]? = some (.str file tf) ∧ ((P.main.file : Str) == file) = true)
    (lq : ∃ (a : Value) (b : Option Addr) (d : Array (Option Value)), K.lookup cc = some ⟨a, b, .cell (some (.ref C)), d⟩)
    (I : Inv (cxSup CX P w K mg base N qual scope f (.ref cda) cc A outer s0 H0 E) [] σ H s) (h0 : σ[0]? = some (some (.ref a))) (hN : N[0]? = some ar.arg) (hloc : scope.names.lookup ar.arg = some .local)
    (ea : H a = some (exo a C none)) (hes : PA (cxSup CX P w K mg base N qual scope f (.ref cda) cc A outer s0 H0 E) (e :: es) ta)
    {R : Hp → Prop} (q : ta σ H fun us H1 => us.length ≤ 1000 ∧ H1 a = some (exo a C none) ∧ R H1)
    (cont : ∀ H1 s', R H1 → Inv (cxSup CX P w K mg base N qual scope f (.ref cda) cc A outer s0 H0 E) [] σ H1 s' → Q .next s')
    (he : starEach (e :: es) (ksEnv qual scope s0.heap.objs.size f (.ref cda) cc) = (false, eval e (ksEnv qual scope s0.heap.objs.size f (.ref cda) cc)) :: starEach es (ksEnv qual scope s0.heap.objs.size f (.ref cda) cc))
    (hpl : (backTo p3 (starEach es (ksEnv qual scope s0.heap.objs.size f (.ref cda) cc))).any (·.1) = false) 
    (hsw : swapsWith (.Call (.Attribute (.Call (.Name "super" p0) [] [] p1) "__init__" p2) (e :: es) [] p3) none p4.line (ksEnv qual scope s0.heap.objs.size f (.ref cda) cc) = pure false)
    {pl : Sem Bool} (hcall : eval (.Call (.Attribute (.Call (.Name "super" p0) [] [] p1) "__init__" p2) (e :: es) [] p3) (ksEnv qual scope s0.heap.objs.size f (.ref cda) cc) = (do
      let ov ← attributeBase (.Call (.Name "super" p0) [] [] p1) "__init__" (ksEnv qual scope s0.heap.objs.size f (.ref cda) cc) (eval (.Call (.Name "super" p0) [] [] p1) (ksEnv qual scope s0.heap.objs.size f (.ref cda) cc))
      standAt p2.atName
      let (fx, first) ← holding [ov] (getMethod ov "__init__" pl)
      callWith p3 fx first (backTo p3 (starEach (e :: es) (ksEnv qual scope s0.heap.objs.size f (.ref cda) cc))) []))
    (B : List Stmt) :
    PySem.wpAt (model P w) (A.deeper (ksEnv qual scope s0.heap.objs.size f (.ref cda) cc)) (.func B (ksEnv qual scope s0.heap.objs.size f (.ref cda) cc))
      (exec (.Expr (.Call (.Attribute (.Call (.Name "super" p0) [] [] p1) "__init__" p2) (e :: es) [] p3) p4) (ksEnv qual scope s0.heap.objs.size f (.ref cda) cc)) Q (cxSup CX P w K mg base N qual scope f (.ref cda) cc A outer s0 H0 E).xe s := by
  have KX : K.In s.heap := I.kIn
  obtain ⟨t1, hoe⟩ := exo_at I.hok ea
  obtain ⟨m, hn, hl⟩ := I.loc
  obtain ⟨u, ru, look⟩ := hl 0 ar.arg (.ref a) hN h0 (Or.inl hloc)
  obtain rfl : u = Value.ref a := ru
  have hm : m ar.arg = some (.ref a) := by
    rcases look with z | ⟨z, _⟩
    · exact z.2
    · have z : scope.names.lookup ar.arg = some .cell ∨ scope.names.lookup ar.arg = some .free := z
      rw [hloc] at z
      rcases z with z | z <;> cases z
  obtain ⟨c1, c2, vs, c3, file, tf, hcode, hvs, hfile⟩ := lc
  obtain ⟨c4, c5, c6, hcell⟩ := lq
  obtain ⟨cd, hcd⟩ := D.cd
  obtain ⟨mb, hb1, hb2⟩ := I.mod.blt
  obtain ⟨oD, hD1, hD2⟩ : ∃ oD, s.heap.get? C = some oD ∧ oD.data = .cls cd := by
    unfold PySem.W.clsIn at hcd
    split at hcd
    · rename_i ho
      cases hcd
      exact ⟨_, KX _ _ ho, rfl⟩
    · cases hcd
  obtain ⟨hh, g, d, t, os⟩ := s
  refine ks_wpAt_Expr_any ?_ I.quiet hsw
  refine ks_wpAt_MethodCall (he := hcall) ?_
  refine ks_wpAt_super_base (ar := ar) S.ks S.kc rfl rfl (KX _ _ lk) rfl har rfl (KX _ _ hcode) rfl hvs hfile D.top ?_
  refine PySem.W.ks_loadName_global S.kind S.ks (Calls.loadGlobal_builtin (I.mod.glob.keeps I.bk) D.mgs (hb1.keeps I.bk) ((hb2 _ (by decide)).trans PyProof.Rows.Boot.«super») ⟨rfl, ?_⟩)
  refine wpAny_loadName_free S.kind S.kc rfl ⟨_, KX _ _ hcell, rfl⟩ ?_
  refine wpAny_loadName_local S.kind hloc hn hm ?_
  refine ks_wpAny_isType_cls hD1 hD2 ⟨rfl, ?_⟩
  refine ks_wpAny_call_super hD1 hD2 hoe rfl (fun c z => by cases z) (PySem.W.looks_mroIn KX D.mro) (fun h' e1 k => ?_)
  have I1 := ClX.pin_new (t' := t) I k (Nat.le_refl _) e1 (fun v z => by cases z)
  have KX1 : K.In h' := I1.kIn
  have hca : a ≠ C := fun z => by
    subst z
    rw [hoe] at hD1
    cases hD1
    cases hD2
  have hsI : PySem.W.Looks (model P w) h' (isInstance (.ref a) (.type "ValueError")) true := by
    have II : PySem.W.InstAt h' a _ C none := ⟨k _ _ hoe, rfl, rfl, trivial⟩
    exact II.type.andThen (PySem.W.looks_subIn KX1 D.ve)
  have hsup := D.sup
  unfold PySem.W.ks_superIn at hsup
  rw [hcd] at hsup
  refine PySem.W.kxs_getMethod PySem.W.kxs_ValueError e1 (PySem.W.looks_opaque KX1 D.opq) (l₀ := cd.mro) (fun A Q E s k q => wpAny_bind ((PySem.W.looks_clsIn KX1 hcd) A _ E s k (wpAny_pure q))) rfl KX1 hsup hsI hca rfl ?_
  have I2 := ClX.pin_new (t' := t + 1) I1 (h' := h'.push (PySem.W.kxs_mw "ValueError.__init__" a)) (o := PySem.W.kxs_mw "ValueError.__init__" a) (fun b o z => Heap.get?_push_of_some _ z) (Nat.le_refl _) (Heap.get?_push_at rfl rfl) (fun v z => by cases z)
  dsimp only
  rw [he]
  refine PySem.W.kxs_callWith (i := "ValueError.__init__") (x := a) (by show (false || (backTo p3 (starEach es _)).any (·.1)) = false; rw [hpl]; rfl) (Calls.evalArgs_plain ?_)
  have run := hes.run p3 _ _ σ H _ I2 q
  rw [show starEach (e :: es) (cxSup CX P w K mg base N qual scope f (.ref cda) cc A outer s0 H0 E).env = _ from he] at run
  refine thn run fun us s1 ⟨xs, H1, I3, r1, hz, ea1, q1⟩ => ⟨ClX.pin_at I3, ?_⟩
  have hlen : us.length ≤ sizeLine := by
    rw [← Paired.length r1, sizeLine_eq]
    omega
  exact mw_call D.ox I3 ea1 hlen fun s' J => cont _ s' q1 (ClX.unpin (ClX.unpin J))

/-- such an __init__, by what it says behind super() -/
theorem sup_ok {st : Stmt} {fd : FuncData} {k : Nat} {sp : Sp} {body : List Stmt} {e : Expr} {p0 p1 p2 p3 p4 : Pos} {ar : Arg} {pl : Sem Bool} (F : SupFn P K st qual C f fd) (S : SupScope N ps (defScope st)) (D : SupCls P K mg C)
    (hb : defBody st = .Expr (.Call (.Attribute (.Call (.Name "super" p0) [] [] p1) "__init__" p2) [e] [] p3) p4 :: body) (har : ((defArgs st).posonlyargs ++ (defArgs st).args).head? = some ar) (hN : N[0]? = some ar.arg)
    (he : ∀ env : Env, starEach [e] env = [(false, eval e env)])
    (hsw : ∀ env : Env, swapsWith (.Call (.Attribute (.Call (.Name "super" p0) [] [] p1) "__init__" p2) [e] [] p3) none p4.line env = pure false)
    (hcall : ∀ env : Env, eval (.Call (.Attribute (.Call (.Name "super" p0) [] [] p1) "__init__" p2) [e] [] p3) env = (do
      let ov ← attributeBase (.Call (.Name "super" p0) [] [] p1) "__init__" env (eval (.Call (.Name "super" p0) [] [] p1) env)
      standAt p2.atName
      let (fx, first) ← holding [ov] (getMethod ov "__init__" pl)
      callWith p3 fx first (backTo p3 (starEach [e] env)) []))
    (len : ∀ vs H Q E, sp vs H Q E → vs.length = ps.length)
    (hbody : ∀ (cda : Value) (cc : Addr) (A : Around) (outer : List Env) (s : Shared) (H : Hp) (vs : List V) (Q : VK) (E : XK), Room k (A.deeper (ksEnv qual (defScope st) s.heap.objs.size f cda cc)) → sp vs H Q E →
      ∃ (a : Addr) (te : TE) (t : TS), vs[0]? = some (.ref a) ∧ H a = some (exo a C none) ∧ PE (cxSup CX P w K mg base N qual (defScope st) f cda cc A outer s H E) e te ∧ PSs (cxSup CX P w K mg base N qual (defScope st) f cda cc A outer s H E) body t ∧
        te (L2.start N vs) H fun x H1 => [x].length ≤ 1000 ∧ H1 a = some (exo a C none) ∧ t { nx := fun _ H' => Q .non H', rt := Q } (L2.start N vs) H1) : FnOk P w K mg base CX (k + 1) f fd ps sp := by
  obtain ⟨oc, od, kV, doc, pm, an, cda, ct, cc, sl, rfl, lk, hcd, lc, lq⟩ := F.ex
  refine ⟨len, fun A outer s H args us vs Q E hr e0 hbi r hsp => ?_⟩
  have hl := len _ _ _ _ hsp
  have KX : K.In s.heap := e0.mod.kin.keeps fun b o e => (e0.bs b o e).1
  have lim : s.heap.NoLimit := e0.mod.nolimit.keeps fun b o e => (e0.bs b o e).1
  obtain ⟨c4, c5, c6, hcell⟩ := lq
  refine ks_codeAny_call_defAt (body := defBody st) hr.depth (KX _ _ lk) rfl lim (PySem.W.codeRec_of KX hcd) rfl hbi S.nocell (fun ⟨n, v⟩ hy => S.par n (List.of_mem_zip hy).1) (fun h1 hns hk => ?_) S.co S.gen S.kind
  obtain ⟨a, te, t, hv, ea, pe, pss, q⟩ := hbody (.ref cda) cc A outer s H vs Q E (hr.deeper _) hsp
  have I : Inv (cxSup CX P w K mg base N qual (defScope st) f (.ref cda) cc A outer s H E) [] (L2.start N vs) H _ := inv_sup (t := s.toks + (ps.zip us).length) S hr.hd e0 hl r hcell hns hk
  have fin : ∀ {σ' : L2.St} {H' : Hp} {v : V} {u : Value} {s' : Shared}, Inv (cxSup CX P w K mg base N qual (defScope st) f (.ref cda) cc A outer s H E) [] σ' H' s' → RelV v u → Q v H' → CE outer P w H s Q u s' :=
    fun {σ' H' v u s'} J rv q => ⟨v, H', J.os, J.bare, J.base, J.hok, rv, q⟩
  have h0 : (L2.start N vs)[0]? = some (some (V.ref a)) := by
    unfold L2.start
    rw [List.getElem?_append_left (by rw [List.length_map]; exact (List.getElem?_eq_some_iff.mp hv).1), List.getElem?_map, hv]
    rfl
  have hloc : (defScope st).names.lookup ar.arg = some .local := S.par _ (by rw [← S.eqN]; exact List.mem_of_getElem? hN)
  show PySem.wpAt _ _ _ (execs (defBody st) _) _ _ _
  rw [hb]
  refine ks_wpAt_execs_cons ?_
  refine sup_run S D lk har lc ⟨c4, c5, c6, hcell⟩ I h0 hN hloc ea (pa_cons pe pa_nil (he _)) q (fun H1 s1 q1 J => ?_) (he _) rfl (hsw _) (hcall _) _
  refine wpAt_of_wpAny (wpAny_mono (pss.run [] s1 (L2.start N vs) H1 _ J q1) (fun fl s' hs => ?_) fun e s' hs => hs)
  cases fl with
  | ret u =>
    obtain ⟨v, σ', H', J, rv, q⟩ := hs
    exact fin J rv q
  | next =>
    obtain ⟨σ', H', J, q⟩ := hs
    exact fin (v := V.non) (u := Value.none) J rfl q
  | brk =>
    obtain ⟨_, _, _, q⟩ := hs
    exact False.elim q
  | cont =>
    obtain ⟨_, _, _, q⟩ := hs
    exact False.elim q
end
end My
set_option maxRecDepth 100000
set_option maxHeartbeats 1000000
namespace My
open PySem PySem.Spec PyProof.Rows L2
/-! ### max(x, default=d) of a list of whole numbers -/
theorem ints_reads {h : Heap} : ∀ {ns : List Int} {us : List Value}, Vals (ns.map V.int) us → ReadsAll h us (ns.map PyData.int) []
  | [], _, .nil => .nil
  | n :: ns, _, .cons r t => by
    obtain ⟨tk, rfl⟩ := r
    exact ReadsAll.cons (as := []) (bs := []) (.int n tk) (ints_reads t)
theorem alike_ints (ns : List Int) : PySem.W.AlikeAll (ns.map PyData.int) := by
  refine ⟨fun x hx y hy => ?_, fun x hx => ?_⟩
  · obtain ⟨i, _, rfl⟩ := List.mem_map.mp hx
    obtain ⟨j, _, rfl⟩ := List.mem_map.mp hy
    rfl
  · obtain ⟨i, _, rfl⟩ := List.mem_map.mp hx
    exact fun z => nomatch z
theorem depth_ints : ∀ ns : List Int, PyData.depthAll (ns.map PyData.int) ≤ 1
  | [] => by simp [PyData.depthAll]
  | n :: ns => by
    have := depth_ints ns
    simp only [List.map_cons, PyData.depthAll, PyData.depth]
    omega
theorem foldl_max (ns : List Int) : ∀ n : Int, (ns.foldl max n ∈ n :: ns) ∧ ∀ y ∈ n :: ns, y ≤ ns.foldl max n := by
  induction ns with
  | nil => intro n; simp
  | cons k r ih =>
    intro n
    obtain ⟨h1, h2⟩ := ih (max n k)
    rw [List.foldl_cons]
    refine ⟨?_, fun y hy => ?_⟩
    · rcases List.mem_cons.mp h1 with e | e
      · rw [e]
        rcases Int.le_total n k with z | z
        · rw [Int.max_eq_right z]; simp
        · rw [Int.max_eq_left z]; simp
      · exact List.mem_cons_of_mem _ (List.mem_cons_of_mem _ e)
    · have hm := h2 (max n k) List.mem_cons_self
      rcases List.mem_cons.mp hy with e | e
      · rw [e]; omega
      · rcases List.mem_cons.mp e with e | e
        · rw [e]; omega
        · exact h2 y (List.mem_cons_of_mem _ e)
section
variable {X : Cx}
def rMaxDf (K : PySem.W.Frag) : List V → List V → Hp → VK → Prop := fun xs zs H Q => ∃ (a : Addr) (ns : List Int) (d : Int), xs = [.ref a] ∧ zs = [.int d] ∧ SqL K H a (ns.map V.int) ∧
  (ns = [] → Q (.int d) H) ∧ ∀ m, m ∈ ns → (∀ y ∈ ns, y ≤ m) → Q (.int m) H
theorem call_maxDf (hc : X.calm = true) (hu : X.A.units + 10 < cLine) : CallRK X (.builtin "max") ["default"] (rMaxDf X.K) := by
  intro pins s σ H xs zs us ws Q I r rz h
  obtain ⟨a, ns, d, rfl, rfl, hq, h0, h1⟩ := h
  obtain rfl := Vals.ref1 r
  obtain ⟨w, rfl, rw'⟩ := rz.one
  obtain ⟨its, rv, pl, hz⟩ := I.list hq
  have hd := depth_ints ns
  refine PySem.W.max_list_default (I.ok.hd hc) pl.isList (xs := ns.map PyData.int) (as := []) (by rw [List.toList_toArray]; exact ints_reads rv) (alike_ints ns) (by show X.A.units + 1 + _ < _; omega) (fun e h' tk k => ?_) fun y ys i v h' tk bs e hv rd k => ?_
  · exact ⟨.int d, H, I.kept (t' := tk) k, rw', h0 (List.map_eq_nil_iff.mp e)⟩
  · cases ns with
    | nil => cases e
    | cons n ns =>
      rw [List.map_cons] at e
      obtain ⟨rfl, rfl⟩ := List.cons.inj e
      rw [PySem.W.maxD_ints] at rd
      obtain ⟨t0, rfl, _⟩ := reads_int_inv rd
      obtain ⟨m1, m2⟩ := foldl_max ns n
      exact ⟨.int (ns.foldl max n), H, I.kept (t' := tk) k, ⟨_, rfl⟩, h1 _ m1 m2⟩
/-! ### isinstance(e, c) of a caught error with fields -/
theorem call_isExD {a : Addr} {oe : Obj} {cls : Value} {d : Option Addr} {pn : List (Addr × Obj)} (hz : Zc cls d oe) (hf : ∃ vs, oe.data = .fields vs) :
    CallR (X.suite a ((a, oe) :: pn)) (.builtin "isinstance") (fun xs H Q => ∃ D dd fs, cls = .ref D ∧ d = some dd ∧ H dd = some (.xd fs) ∧ ExcC X.K D ∧ rIsE X.K D a xs H Q) := by
  intro pins s σ H xs us Q I r h
  obtain ⟨D, dd, fs, rfl, rfl, hd, C, c, cv, b, rfl, hcv, e, q⟩ := h
  cases r with
  | cons rx rr =>
    cases rr with
    | cons rt rr =>
      cases rr
      cases rx
      have ec := hcv _ rt
      subst ec
      obtain ⟨hget, _⟩ := I.pin (a, oe) (List.mem_append.mpr (.inl List.mem_cons_self))
      obtain ⟨vs, hv⟩ := hf
      have hx : ObjOk X.prog X.w H s.heap dd (.xd fs) := I.hok dd _ hd
      obtain ⟨mA, ⟨od, es, ep, ho, _⟩, _⟩ := hx
      have J : PySem.W.InstAt s.heap a oe D (some od) := ⟨hget, hz.1, by unfold PySem.W.notCls; rw [hv] <;> rfl, by rw [hz.2]; exact ho⟩
      obtain ⟨cdD, hcD, _⟩ := PySem.W.any_some C.hd
      refine PySem.W.kia_one (PySem.W.kitx_exc (od := some od) (by rw [hcD]; rfl) C.hg C.hk C.hs C.ha C.hn C.ht C.hm) I.kIn J e (fun z => nomatch z) fun tk => ⟨.bl b, H, I.kept (t' := tk) fun _ _ z => z, rfl, q⟩
end
/-! ### what such a class has, by a check -/
theorem tail_refs : ∀ {l : List Value}, PySem.W.excTail [.type "ValueError", .type "Exception", .type "BaseException", .type "object"] l = true → PySem.HandSPX.refsVE l = true := by
  intro l
  induction l with
  | nil => intro h; revert h; decide
  | cons a t ih =>
    intro h
    cases a <;> first | exact ih h | exact h
theorem oex_of {K : PySem.W.Frag} {C : Addr} (q : PySem.W.excInitIn K C [.type "ValueError", .type "Exception", .type "BaseException", .type "object"] "ValueError.__new__" = true) (hd : PySem.W.hasDictIn K C = true)
    (sa : PySem.W.findIn K (.ref C) "__setattr__" = some (some (.builtin "object.__setattr__"))) (bp : PySem.W.subIn K (.ref C) (.type "BaseException") = some true) (tp : PySem.W.typeIn K (.ref C) = some (.type "type")) (kp : PySem.W.keepIn K (.ref C) = true) : OexC K C := by
  refine ⟨?_, sa, bp, tp, kp⟩
  unfold PySem.W.excInitIn at q
  split at q
  · rename_i dd cd sl ho
    split at q
    · rename_i C' bm k0 k1 k2 k3 n k5 hm hs
      simp only [Bool.and_eq_true, beq_iff_eq, Bool.not_eq_true'] at q
      obtain ⟨⟨⟨e1, e2⟩, hdel⟩, ht⟩ := q
      subst e1
      subst e2
      obtain ⟨cd1, hc1, hd1⟩ := PySem.W.any_some hd
      have ec : PySem.W.clsIn K C' = some cd := by unfold PySem.W.clsIn; rw [ho]
      rw [ec] at hc1
      cases hc1
      obtain ⟨nm, bs, mro, ns, qn, hdc, sn, sub, ab, col, del⟩ := cd
      dsimp only at hm hdel hd1
      subst hm
      subst hdel
      subst hd1
      have hsl : sl = #[k0, k1, k2, k3, some (.builtin "ValueError.__new__"), k5] := by
        obtain ⟨l⟩ := sl
        simp only at hs
        rw [hs]
      subst hsl
      exact ⟨nm, qn, ns, bs, bm, sn, sub, ab, col, dd, k0, k1, k2, k3, k5, ho, tail_refs ht⟩
    · cases q
  · cases q
/-! ### the promises of such an __init__ -/
/-- one field -/
def spX1 (C : Addr) (f : Str) (P : V → Prop) : Sp := fun vs H Q _ => ∃ (a : Addr) (y : V), vs = [.ref a, y] ∧ P y ∧ H a = some (exo a C none) ∧ ∀ d, H d = none → d ≠ a → Q .non (upd (upd H d (exd d [(f, y)])) a (exo a C (some d)))
def smallI (y : V) : Prop := ∃ i : Int, y = .int i ∧ i.natAbs < 1000000
theorem small_log {i : Int} (h : i.natAbs < 1000000) : i.natAbs.log2 < 1920 := by
  rcases Nat.eq_zero_or_pos i.natAbs with e | e
  · rw [e]; decide
  · exact Nat.lt_of_lt_of_le ((Nat.log2_lt (by omega)).mpr (Nat.lt_of_lt_of_le h (by decide : 1000000 ≤ 2 ^ 20))) (by decide)
end My
set_option maxRecDepth 100000
set_option maxHeartbeats 1000000
namespace My
open PySem PySem.Spec PyProof.Rows L2
/-! ### iter(t) of a tuple; list(o), o's class with its own __iter__ (a tuple's iterator) and its own __len__ -/
/-- a tuple's iterator at it, over the tuple at l, the next place i -/
def TitO (l it : Addr) (i : Nat) : HO := .ext fun h => h.IsTupleIter it l i
/-- at it stands something -/
def AnyO (it : Addr) : HO := .ext fun h => ∃ o, h.get? it = some o
theorem titO_ok {P : Program} {w : World} {H : Hp} {h : Heap} {l it : Addr} {i : Nat} (e : h.IsTupleIter it l i) : ObjOk P w H h it (TitO l it i) :=
  ⟨e, ⟨_, e.choose_spec.1⟩, fun h1 h2 q k => let ⟨o, ho, r⟩ := q; ⟨o, k _ ho, r⟩⟩
theorem anyO_ok {P : Program} {w : World} {H : Hp} {h : Heap} {it : Addr} (e : ∃ o, h.get? it = some o) : ObjOk P w H h it (AnyO it) := ⟨e, e, fun h1 h2 q k => let ⟨o, ho⟩ := q; ⟨o, k _ ho⟩⟩
section
variable {X : Cx} {pins : List (Addr × Obj)} {σ : L2.St} {H : Hp} {s : Shared} {l it S : Addr} {i : Nat}
theorem titO_get (I : Inv X pins σ H s) (e : H it = some (TitO l it i)) : s.heap.IsTupleIter it l i := (I.hok it _ e).1
theorem call_iterT : CallR X (.builtin "iter") (fun xs H Q => ∃ (l : Addr) (zs : List V), xs = [.ref l] ∧ SqT X.K H l zs ∧ ∀ it, H it = none → Q (.ref it) (upd H it (TitO l it 0))) := by
  intro pins s σ H xs us Q I r h
  obtain ⟨l, zs, rfl, hq, q⟩ := h
  obtain rfl := Vals.ref1 r
  obtain ⟨its, rv, pl, hz⟩ := I.tuple hq
  refine Calls.call_function_entry (by decide +kernel) (by decide +kernel) PySem.W.kdk_entry_iter (PySem.W.kdk_args_iter _) ?_
  unfold Builtin.«iter»
  refine wpAny_bind (m := someArgs "iter" 1 2 _) (wpAny_of_eq (a := [Value.ref l]) (by first | rfl | kernel_rfl!) ?_)
  show wpAny _ _ (pyIter (.ref l) >>= _) _ _ _
  refine wpAny_bind (wpAny_pyIter_tuple (show s.heap.IsTuple l its.toArray from pl) (wpAny_pure ⟨_, rfl, ?_⟩))
  exact ⟨.ref s.heap.objs.size, _, I.laid (t' := s.toks) (fun b u e => Heap.get?_push_of_some _ e) (Nat.le_refl _) (titO_ok ⟨_, Heap.get?_push_size _ rfl, rfl, rfl⟩), rfl, q _ (I.hok.fresh (Nat.le_refl _))⟩
/-- the end of a tuple's iterator; its record stays -/
theorem tup_end {prog : Program} {w : World} {A : Around} {E : Value → Shared → Prop} {items : Array Value} {Q : Option Value → Shared → Prop} (hh : A.handled = none) (hit : s.heap.IsTupleIter it l i) (ht : s.heap.IsTuple l items) (hx : items[i]? = none)
    (hQ : ∀ h', (∀ b o, b ≠ it → s.heap.get? b = some o → h'.get? b = some o) → (∃ o, h'.get? it = some o) → Q none { s with heap := h' }) : wpAny (model prog w) A (pyNext (.ref it)) Q E s := by
  obtain ⟨o, ho, hc, hd⟩ := id hit
  obtain ⟨ol, hol, _, nl, hdl⟩ := ht
  have hup := Heap.get?_update_self (Obj.mapFields (·.setIfInBounds 0 Value.none)) ho (Obj.isFreed_of_fields (Obj.data_mapFields hd _))
  unfold pyNext
  refine wpAny_bind (wpAny_attempt (wpAny_callSpecial?_slot (name := Str.ofString "__next__") hit.typeIs PySem.F.slot_tuple_iterator_next (wpAny_call_entry PySem.F.slot_tuple_iterator_next hit.typeIs PySem.F.entry_tuple_iterator_next ?_ (PySem.F.args_tuple_iterator_next_1 _))))
  show wpAny _ _ (field (.ref it) 0 >>= _) _ _ s; refine wpAny_bind (wpAny_field ho hd (x := .ref l) rfl ?_); show wpAny _ _ (if (Value.ref l == Value.none) = true then _ else _) _ _ s
  rw [if_neg (fun z => by revert z; exact Bool.false_ne_true : ¬ ((Value.ref l == Value.none) = true))]; show wpAny _ _ (field (.ref it) 1 >>= _) _ _ s
  refine wpAny_bind (wpAny_field ho hd (x := .int i 0) rfl ?_); show wpAny _ _ (seqItems? (.ref l) >>= _) _ _ s
  refine wpAny_bind (wpAny_seqItems hol hdl ?_)
  simp only [Int.toNat_natCast, hx]
  refine wpAny_bind (wpAny_rule (wpAny_bind (wpAny_setField ho hd (by simp) ?_))); show wpAny _ _ (newExc (.type "StopIteration") [] >>= _) _ _ _
  refine wpAny_bind ?_
  simp only [newExc, newTuple]
  refine wpAny_bind (wpAny_newObj_type ?_ (by size_fits)); refine wpAny_bind (m := firstArgMember _ _) (wpAny_of_eq (a := Value.none) (by first | rfl | (simp only [firstArgMember]; rfl)) ?_)
  refine wpAny_newObj_type ?_ (by size_fits)
  simp only [raiseNew]
  refine wpAny_bind (wpAny_handled ?_)
  first | rw [show A.in1.handled = none from hh] | rw [hh]
  refine wpAny_bind (wpAny_pure (wpAny_throw ?_))
  refine wpAny_bind (wpAny_isInstance (T := "StopIteration") (b := true) ⟨_, Heap.get?_push_size _ rfl, rfl⟩ isSubtype_stop (wpAny_pure (hQ _ (fun b ob hb e => ?_) ⟨_, Heap.get?_push_of_some _ (Heap.get?_push_of_some _ hup)⟩)))
  exact Heap.get?_push_of_some _ (Heap.get?_push_of_some _ ((Heap.get?_update_other _ _ (Ne.symm hb)).trans e))
/-- list.extend over it -/
theorem tit_loop {A1 : Around} {ys : List V} {Rs : Result → Shared → Prop} (hh : A1.handled = none) :
    ∀ (k i : Nat) (H : Hp) (s : Shared), ys.length - i = k → i ≤ ys.length → Inv X pins σ H s → H it = some (TitO l it i) → H l = some (.tup ys) → H S = some (.lst (ys.take i)) → ys.length < sizeLine →
      (∀ H2 s2, Inv X pins σ H2 s2 → (∀ b, b ≠ it → b ≠ S → H2 b = H b) → H2 S = some (.lst ys) → Rs (.ok (.ret .none)) s2) → codeAny (model X.prog X.w) A1 (.builtin "list.extend.loop" ⟨[.ref S, .ref it, .none], []⟩) Rs s := by
  intro k
  induction k with
  | zero =>
    intro i H s hk hi I h1 h2 h3 hz hR
    have hne : S ≠ it := ne_of h3 h1 (fun z => nomatch z)
    obtain ⟨its, rv, pl, _⟩ := I.tuple (SqT.of h2)
    refine codeAny_builtin PySem.F.entry_extend_loop ?_
    rw [Around.under_plainId PySem.F.plain_extend_loop _]
    show wpAny _ A1.in1 (pyNext (.ref it) >>= _) _ _ s
    have hno : (its.toArray)[i]? = none := by
      have := rv.length
      rw [List.getElem?_toArray, List.getElem?_eq_none_iff]
      omega
    refine wpAny_bind (tup_end hh (titO_get I h1) (show s.heap.IsTuple l its.toArray from pl) hno fun h' k' e' => wpAny_pure ?_)
    have J := I.write (t' := s.toks) (x := it) (e := it) (o := AnyO it) (by rw [h1]; exact True.intro) (.inl rfl) k' e' (anyO_ok e')
    refine hR _ _ J (fun b hb _ => upd_ne hb) ?_
    rw [upd_ne hne, h3, List.take_of_length_le (by omega)]
  | succ k ih =>
    intro i H s hk hi I h1 h2 h3 hz hR
    have hne : S ≠ it := ne_of h3 h1 (fun z => nomatch z)
    have hln : l ≠ it := ne_of h2 h1 (fun z => nomatch z)
    have hlS : l ≠ S := ne_of h2 h3 (fun z => nomatch z)
    obtain ⟨its, rv, pl, _⟩ := I.tuple (SqT.of h2)
    have hlen := rv.length
    have hlt : i < ys.length := by omega
    obtain ⟨u, hu, ru⟩ := rv.get (i := i) (x := ys[i]) (by simp [hlt])
    refine codeAny_builtin PySem.F.entry_extend_loop ?_
    rw [Around.under_plainId PySem.F.plain_extend_loop _]
    show wpAny _ A1.in1 (pyNext (.ref it) >>= _) _ _ s
    refine wpAny_bind (wpAny_pyNext_tuple_item (titO_get I h1) (show s.heap.IsTuple l its.toArray from pl) (x := u) (by rw [List.getElem?_toArray]; exact hu) fun h' hit hs => ?_)
    have J := I.write (t' := s.toks) (x := it) (e := it) (o := TitO l it (i + 1)) (by rw [h1]; exact True.intro) (.inl rfl) (fun b o hb e => hs.extBut b o hb e) ⟨_, hit.choose_spec.1⟩ (titO_ok hit)
    have h3' : upd H it (TitO l it (i + 1)) S = some (.lst (ys.take i)) := by rw [upd_ne hne]; exact h3
    show wpAny _ A1.in1 (updateSeq S (·.push u) >>= _) _ _ _
    obtain ⟨z, its3, n3, r3, hl3, e3⟩ := J.lstM h3'
    have hl4 : its3.length = i := by rw [← hl3, List.length_take]; omega
    refine wpAny_bind (wpAny_updateSeq e3 rfl (wpAny_pure ⟨plainId_quiet PySem.F.plain_extend_loop _, ?_⟩) (by rw [List.size_toArray]; omega) (by show (its3.toArray.push u).size ≤ sizeLine + 1; rw [Array.size_push, List.size_toArray]; omega))
    have et : ys.take (i + 1) = ys.take i ++ [ys[i]] := by rw [List.take_succ]; simp [hlt]
    have J2 := J.lset (f := (·.push u)) (its' := its3 ++ [u]) (t' := s.toks) (ys := ys.take (i + 1)) h3' e3 (by simp) (by rw [et]; exact r3.append (.cons ru .nil)) (by rw [List.length_take]; omega)
    refine ih (i + 1) _ _ (by omega) hlt J2 ?_ ?_ upd_same hz fun H2 s2 I2 k2 e2 => hR H2 s2 I2 (fun b hb hc => ?_) e2
    · rw [upd_ne (Ne.symm hne), upd_same]
    · rw [upd_ne hlS, upd_ne hln]; exact h2
    · rw [k2 b hb hc, upd_ne hc, upd_ne hb]
/-- what such a class must have -/
structure ItL (K : PySem.W.Frag) (C fi fl : Addr) : Prop where
  it : PySem.W.findIn K (.ref C) "__iter__" = some (some (.ref fi))
  itF : PySem.W.isFn K (.ref fi) = true
  ln : PySem.W.findIn K (.ref C) "__len__" = some (some (.ref fl))
  lnF : PySem.W.isFn K (.ref fl) = true

/-- list(o): its __iter__ gives a tuple's iterator, its __len__ a number -/
def rLstIt (C : Addr) (spI spL : Sp) (EI EL : XK) : List V → Hp → VK → Prop := fun xs H Q => ∃ a dx fs, xs = [.ref a] ∧ H a = some (.ins C dx fs) ∧ ∀ q, H q = none → q ≠ a →
  spI [.ref a] (upd H q (.lst [])) (fun v H1 => ∃ it l ys, v = .ref it ∧ H1 it = some (TitO l it 0) ∧ H1 l = some (.tup ys) ∧ H1 q = some (.lst []) ∧ H1 a = some (.ins C dx fs) ∧ ys.length < sizeLine ∧
    spL [.ref a] H1 (fun n H2 => H2 = H1 ∧ ∃ k : Int, n = .int k ∧ 0 ≤ k ∧ k < 1000) EL ∧ ∀ H2, (∀ b, b ≠ it → b ≠ q → H2 b = H1 b) → H2 q = some (.lst ys) → Q (.ref q) H2) EI
section
variable {X : Cx} {CI : CXT} {n : Nat} {C fi fl : Addr} {fdI fdL : FuncData} {psI psL : List Str} {spI spL : Sp} {EI EL : XK}
theorem call_at0 {f : Addr} {fd : FuncData} {ps : List Str} {sp : Sp} {E : XK} (G0 : FnOk X.prog X.w X.K X.mg X.base CX0 n f fd ps sp) (hb : Binds X.K fd ps []) {A : Around} (hr : Room n A) (hA : A.frames = X.A.frames)
    {pins : List (Addr × Obj)} {s : Shared} {σ : L2.St} {H : Hp} (I : Inv X pins σ H s) {vs : List V} {us : List Value} (r : Vals vs us) {Q : VK} {EE : Value → Shared → Prop} (h : sp vs H Q E) :
    wpAny (model X.prog X.w) A (call (.ref f) us) (EP X pins σ Q) EE s := by
  have e0 : Env0 X.prog X.w X.K X.mg X.base A X.stack s H := by
    have e := I.env0
    exact ⟨by rw [hA]; exact e.frames, e.mod, e.bs, e.bsz, e.funs, e.frf, e.hok, e.bare⟩
  have hl := G0.len _ _ _ _ h
  refine wpAny_call (codeAny_mono (G0.run A X.stack s H ⟨us, []⟩ us vs Q E hr e0 (by
    have := hb s us I.kIn (by rw [List.append_nil, ← r.length]; exact hl)
    simpa using this) r h) fun r s' hq => ?_)
  cases r with
  | error e => exact False.elim hq
  | ok fl =>
    cases fl with
    | ret w => exact I.after hq
    | next => exact False.elim hq
    | brk => exact False.elim hq
    | cont => exact False.elim hq
theorem call_listIt (hc : ItL X.K C fi fl) (FI : FnOk X.prog X.w X.K X.mg X.base CI n fi fdI psI spI) (bI : Binds X.K fdI psI []) (xI : Passes CI X EI)
    (FL : FnOk X.prog X.w X.K X.mg X.base CX0 n fl fdL psL spL) (bL : Binds X.K fdL psL []) (hr : Room (n + 4) X.A) : CallR X (.type "list") (rLstIt C spI spL EI EL) := by
  intro pins s σ H xs us Q I rv h
  obtain ⟨a, dx, fs, rfl, ha, hq⟩ := h
  obtain ⟨u, rfl, ru⟩ := rv.one
  cases ru
  have sb : Sub X (n + 2) X.A.in1.in1 := (Sub.in1 (Sub.in1 (⟨hr, rfl⟩ : Sub X (n + 4) X.A)))
  refine callType_codes (Q₁ := fun obj s₁ => obj = .ref s.heap.objs.size ∧ s₁ = { s with heap := s.heap.push { cls := .type "list", data := .seq #[] } }) PySem.F.called_list (PySem.F.typeCall_list_1 _) PySem.F.entry_list_init (code_list_new _ ⟨rfl, rfl⟩) fun obj s₁ h₁ => ?_
  obtain ⟨rfl, rfl⟩ := h₁
  have hS : (s.heap.push { cls := .type "list", data := .seq #[] }).get? s.heap.objs.size = some { cls := .type "list", data := .seq #[] } := Heap.get?_push_size _ rfl
  refine ⟨⟨_, hS, rfl⟩, PySem.F.args_list_init_2 _ _, ?_⟩
  have fr : H s.heap.objs.size = none := I.hok.fresh (Nat.le_refl _)
  have sp0 := hq _ fr (fun z => by rw [z, ha] at fr; cases fr)
  have I1 : Inv X pins σ (upd H s.heap.objs.size (.lst [])) { s with heap := s.heap.push { cls := .type "list", data := .seq #[] } } := I.lnew (its := []) (t' := s.toks) .nil (Nat.zero_le _)
  show wpAny _ _ (do let old ← Builtin.List.listItems (.ref s.heap.objs.size); Builtin.List.listUpdate (.ref s.heap.objs.size) (fun _ => #[]); letGo old.toList.reverse; Builtin.List.listExtendWith (.ref s.heap.objs.size) (.ref a) .none) _ _ _
  refine wpAny_bind ?_
  unfold Builtin.List.listItems
  refine wpAny_bind (wpAny_seqItems hS rfl (wpAny_pure ?_))
  show wpAny _ _ (updateSeq s.heap.objs.size (fun _ => #[]) >>= fun _ => letGo (#[] : Array Value).toList.reverse >>= fun _ => Builtin.List.listExtendWith (.ref s.heap.objs.size) (.ref a) .none) _ _ _
  refine wpAny_bind (wpAny_updateSeq hS rfl ?_)
  have I2 := I1.lset (f := fun _ => #[]) (its := []) (its' := []) (ys := []) (t' := s.toks) upd_same hS rfl .nil (Nat.zero_le _)
  rw [upd_upd] at I2
  refine wpAny_bind (wpAny_letGo ?_)
  have ha2 : upd H s.heap.objs.size (.lst []) a = some (.ins C dx fs) := by rw [upd_ne (ne_of_none ha fr)]; exact ha
  have hne : s.heap.objs.size ≠ a := fun z => by rw [z, ha] at fr; cases fr
  generalize hq0 : s.heap.objs.size = q at *
  generalize hH0 : upd H q (.lst []) = H0 at *
  obtain ⟨mA, J, _⟩ := ins_get I2.hok ha2
  obtain ⟨od, J, _⟩ := J.look
  obtain ⟨m0, hF⟩ := I2.fr
  unfold Builtin.List.listExtendWith
  refine wpAny_bind (J.type.here ?_)
  have h1 : Builtin.List.listSameRef (.ref q) (.ref a) = false := by simp [Builtin.List.listSameRef, hne]
  simp only [h1, (rfl : (Value.ref C == Value.type "list") = false), (rfl : (Value.ref C == Value.type "tuple") = false), Bool.or_false, Bool.false_eq_true, if_false]
  refine wpAny_bind (PySem.W.owit_iter hF I2.ok.mod.kin J hc.it hc.itF ?_)
  refine wpAny_mono (call_at FI bI xI (A := X.A.in1.in1) (sb.mono (by omega)).room sb.fr I2 (vs := [.ref a]) (.cons rfl .nil) sp0) (fun v s3 z => ?_) fun _ _ z => z
  obtain ⟨x, H1, I3, r3, it, l, ys, ex, e1, e2, e3, e4, hz, q1, q2⟩ := z
  subst ex
  obtain rfl : v = Value.ref it := r3
  have hit := titO_get I3 e1
  unfold PySem.W.OwitIt
  refine wpAny_specialOf (show s3.TypeIs (.ref it) "tuple_iterator" from hit.typeIs) PySem.F.slot_tuple_iterator_next.lookup ?_
  show wpAny _ _ _ _ _ s3
  refine wpAny_bind (wpAny_holding ?_)
  obtain ⟨mB, J3, _⟩ := ins_get I3.hok e4
  obtain ⟨od3, J3, _⟩ := J3.look
  obtain ⟨m3, hF3⟩ := I3.fr
  unfold Builtin.List.listLengthHint
  refine wpAny_bind (wpAny_bind (J3.type.here ((PySem.W.looks_findIn I3.kIn hc.ln).here ?_)))
  refine PySem.W.KFB.if_not rfl ?_
  refine PySem.W.KFB.if_so rfl ?_
  refine wpAny_bind (wpAny_rule (wpAny_bind (wpAny_attempt ?_)))
  refine PySem.W.len_K hF3 I3.ok.mod.kin J3 hc.ln hc.lnF (wpAny_mono (call_at0 FL bL (A := X.A.in1.in1.in1) (Sub.in1 (sb.mono (show n + 1 ≤ n + 2 by omega))).room sb.fr I3 (vs := [.ref a]) (.cons rfl .nil) q1) (fun v s4 z => ?_) fun _ _ z => z)
  obtain ⟨x, H2, I4, r4, eH, k0, ek, hk0, hk1⟩ := z
  subst ek
  subst eH
  obtain ⟨tk4, rfl⟩ := r4
  refine ⟨⟨hk0, by omega⟩, ?_⟩
  refine wpAny_bind (wpAny_of_eq (a := some k0) rfl ?_)
  show wpAny _ _ (if Builtin.List.listTooLong k0.toNat = true then _ else _) _ _ _
  refine PySem.W.KFB.if_not (notLongL (by rw [sizeLine_eq]; omega)) (wpAny_pure ?_)
  have I5 := I4.tok (s4.toks + 1)
  have hne1 : q ≠ it := ne_of e3 e1 (fun z => nomatch z)
  have go : ∀ s5, Inv X pins σ H2 s5 → codeAny (model X.prog X.w) X.A.in1 (.builtin "list.extend.loop" ⟨[.ref q, .ref it, .none], []⟩) (wants (fun r s₂ => r = .none ∧ EP X pins σ Q (.ref q) s₂) X.xe) s5 := fun s5 I6 =>
    tit_loop (A1 := X.A.in1) (Rs := wants (fun r s₂ => r = .none ∧ EP X pins σ Q (.ref q) s₂) X.xe) (show X.A.in1.handled = none from hr.hd) ys.length 0 H2 s5 (by omega) (Nat.zero_le _) I6 e1 e2 (by rw [List.take_zero]; exact e3) hz fun H7 s7 I7 k7 e7 => ⟨rfl, .ref q, H7, I7, rfl, q2 H7 k7 e7⟩
  refine wpAny_ite_split (fun _ => ?_) (fun _ => wpAny_pure ⟨plainId_quiet PySem.F.plain_extend_loop _, go _ I5⟩)
  refine wpAny_bind (wpAny_rule (wpAny_bind ?_))
  show wpAny _ _ (updateSeq q (·.push .none) >>= fun _ => updateSeq q (·.pop)) _ _ _
  obtain ⟨z, its, n5, r5, hl5, e5⟩ := I5.lstM e3
  cases r5
  refine wpAny_bind (wpAny_updateSeq e5 rfl ?_)
  have I6 := I5.lset (f := (·.push Value.none)) (its' := [Value.none]) (ys := [.non]) (t' := s4.toks + 1) e3 e5 (by simp) (.cons rfl .nil) (by rw [List.length_singleton, sizeLine_eq]; decide)
  obtain ⟨z6, its6, n6, r6, hl6, e6⟩ := I6.lstM upd_same
  obtain ⟨u6, rfl, ru6⟩ := r6.one
  refine wpAny_updateSeq e6 rfl (wpAny_pure ⟨plainId_quiet PySem.F.plain_extend_loop _, go _ ?_⟩) (by show 1 ≤ sizeLine; rw [sizeLine_eq]; decide) (by show 0 ≤ sizeLine + 1; exact Nat.zero_le _)
  have I7 := I6.lset (f := (·.pop)) (its := [u6]) (its' := []) (ys := []) (t' := s4.toks + 1) upd_same e6 (by rfl) .nil (Nat.zero_le _)
  rw [upd_upd] at I7
  have hH : upd H2 q (.lst []) = H2 := by
    funext b
    by_cases hb : b = q
    · rw [hb, upd_same, e3]
    · rw [upd_ne hb]
  rw [hH] at I7
  exact I7
end
end
end My
set_option maxRecDepth 100000
set_option maxHeartbeats 2000000
namespace My
open PySem PySem.Spec PyProof.Rows L2
/-! ### enumerate(t), t a tuple -/
theorem enum_new1 {v : Value} {o : Obj} {G : Heap → Prop} (B : Begins v o G) :
    Meets (Builtin.«enumerate.__new__» ⟨[.type "enumerate", v], []⟩) (fun _ R s => G s.heap ∧
      R (.ok (.ret (.ref (s.heap.push o).objs.size))) { s with heap := (s.heap.push o).push { cls := .type "enumerate", data := .fields #[.none, .bool false, .ref s.heap.objs.size, rawInt 0, .none, .none] } }) := by
  refine .of_wp fun prog w A R s h => ?_
  obtain ⟨hp, g, d, tk, os⟩ := s
  obtain ⟨h1, h⟩ := h
  have hsub := sub_enumerate
  have goB : ∀ {A' : Around} {E Q : Value → Shared → Prop}, Q (.ref hp.objs.size) ⟨hp.push o, g, d, tk, os⟩ → wpAny (model prog w) A' (pyIter v) Q E ⟨hp, g, d, tk, os⟩ := fun q => B.iter prog w _ _ ⟨hp, g, d, tk, os⟩ _ h1 q
  wp_walk using goB
  refine wpAny_stack_any fun st => wpAny_pure ?_
  split
  · rename_i c _ _ _ _ _
    cases (c == Value.type "enumerate") <;> (wp_walk using goB; exact ⟨_, rfl, h⟩)
  · wp_walk using goB
    exact ⟨_, rfl, h⟩
theorem call_enum1 {prog : Program} {w : World} {A : Around} {E : Value → Shared → Prop} {s : Shared} {v : Value} {o : Obj} {G : Heap → Prop} {Q : Value → Shared → Prop} (B : Begins v o G) (h1 : G s.heap)
    (h : ∀ h', IsEnum h' (s.heap.objs.size + 1) s.heap.objs.size 0 .none → h'.get? s.heap.objs.size = some o → (∀ b o, s.heap.get? b = some o → h'.get? b = some o) → Q (.ref (s.heap.objs.size + 1)) { s with heap := h' }) :
    wpAny (model prog w) A (call (.type "enumerate") [v]) Q E s := by
  refine callType_new PySem.F.called_enumerate (by decide) (PySem.F.typeCall_enumerate_1 _) (PySem.F.newCall_enumerate_1 _) (fun obj => PySem.F.args_object_init_2 obj _) PySem.F.entry_enumerate_new (enum_new1 B) ⟨h1, ?_⟩
  have hz : (s.heap.push o).objs.size = s.heap.objs.size + 1 := Heap.size_push ..
  show _ ∧ _
  rw [hz]
  have he : IsEnum ((s.heap.push o).push { cls := .type "enumerate", data := .fields #[.none, .bool false, .ref s.heap.objs.size, rawInt 0, .none, .none] }) (s.heap.objs.size + 1) s.heap.objs.size 0 .none := by
    have q := Heap.get?_push_size (s.heap.push o) (o := { cls := .type "enumerate", data := .fields #[.none, .bool false, .ref s.heap.objs.size, rawInt 0, .none, .none] }) rfl
    rwa [hz] at q
  exact ⟨⟨_, he, rfl⟩, h _ he (Heap.get?_push_of_some _ (Heap.get?_push_size _ B.free)) fun b o x => Heap.get?_push_of_some _ (Heap.get?_push_of_some _ x)⟩
def IteT (K : PySem.W.Frag) (a : Addr) : It :=
  ⟨fun i H => ∃ (xs : List V) (x : V), SqT K H a xs ∧ xs[i]? = some x, fun i H v H' => ∃ T x, v = .ref T ∧ H T = none ∧ H' = upd H T (.tup [.int (i : Nat), x]) ∧ ∀ xs, SqT K H a xs → xs[i]? = some x, fun i H => ∃ xs : List V, SqT K H a xs ∧ xs.length ≤ i⟩
theorem turn_enumT {P : Program} {w : World} {K : PySem.W.Frag} {elts : List Expr} {kk : Nat} {tpos : Pos} (a e it : Addr) (hae : a ≠ e) (hai : a ≠ it) :
    Turn P w K (.Tuple elts kk tpos) (IteT K a) [e, it] e (fun i h => (∃ old, IsEnum h e it ((i : Nat) : Int) old) ∧ h.IsTupleIter it a i ∧ e ≠ it) where
  mem := by simp
  obj := fun i h st b hb => by
    obtain ⟨⟨old, he⟩, ⟨o, ho, hc, hd⟩, _⟩ := st
    have e' : b = e ∨ b = it := by simpa using hb
    rcases e' with z | z
    · rw [z]; exact ⟨_, he, fun v q => nomatch q⟩
    · rw [z]; exact ⟨o, ho, fun v q => by rw [hd] at q; cases q⟩
  keep := fun i h h' st k => let ⟨⟨old, he⟩, hi, hne⟩ := st; ⟨⟨old, k e (by simp) _ he⟩, hi.at fun o q => k it (by simp) o q, hne⟩
  item := by
    intro X hP hw hK hc i pins s σ H E I hf st hg
    subst hP hw hK
    obtain ⟨⟨old, he⟩, hit, hne⟩ := st
    obtain ⟨xs, x, hq, hx⟩ := hg
    obtain ⟨its, rv, p, hz⟩ := I.tuple hq
    obtain ⟨u, hu, ru⟩ := rv.get hx
    have hel : e < s.heap.objs.size := Heap.lt_size he
    have hil : it < s.heap.objs.size := by obtain ⟨_, q, _⟩ := hit; exact Heap.lt_size q
    have hlt : i < its.toArray.size := by rw [List.size_toArray]; exact (List.getElem?_eq_some_iff.mp hu).1
    refine wpAny_pyNext_enum_itemD (Draws.tuple (A := X.A.in1) (show X.A.in1.handled = none from I.ok.hd hc) it a hai its.toArray) he ⟨hit, p⟩ hlt hne (by simp [hne, Ne.symm hae]) fun x1 h' tk px ho st' hT hsz hk => ?_
    obtain ⟨hit', _⟩ := st'
    have ex1 : x1 = u := by
      rw [List.getElem?_toArray, hu] at px
      exact (Option.some.inj px).symm
    subst ex1
    refine ⟨_, rfl, wpAny_letOwnedTupleGo_enum (s := { s with heap := h', toks := tk + 1 }) ho fun h'' he' sb => ?_⟩
    have hT2 : h''.get? s.heap.objs.size = some { cls := .type "tuple", data := .seq #[.int i tk, x1] } := (sb.2 _ (Nat.ne_of_gt hel)).trans hT
    have new : ObjOk X.prog X.w (upd H s.heap.objs.size (.tup [.int (i : Nat), x])) h'' s.heap.objs.size (.tup [.int (i : Nat), x]) :=
      ⟨by show 2 ≤ sizeLine; decide, [.int i tk, x1], .cons ⟨_, rfl⟩ (.cons ru .nil), ⟨_, hT2, rfl, _, rfl⟩⟩
    have I1 : Inv X pins σ (upd H s.heap.objs.size (.tup [.int (i : Nat), x])) { s with heap := h'', toks := tk + 1 } :=
      I.turnedNew (ch := [e, it]) (fun b ob hb q => (sb.2 b (fun z => hb (by simp [z]))).trans (hk b ob (fun z => hb (by simp [z])) (fun z => hb (by simp [z])) q)) hf (Nat.le_refl _) new
    refine ⟨.ref s.heap.objs.size, _, I1, rfl, ⟨_, x, rfl, I.hok.fresh (Nat.le_refl _), rfl, fun ys hy => by rw [I.tuple_inj hy hq]; exact hx⟩, ⟨⟨x1, ?_⟩, hit'.at fun o q => (sb.2 it (Ne.symm hne)).trans q, hne⟩, fun b hb => ?_⟩
    · rw [show ((i + 1 : Nat) : Int) = (i : Int) + 1 by omega]; exact he'
    · have hb' : b < s.heap.objs.size := by
        rcases (by simpa using hb : b = e ∨ b = it) with z | z
        · rw [z]; exact hel
        · rw [z]; exact hil
      rw [upd_ne (Nat.ne_of_lt hb')]; exact (hf b hb).1
  done := by
    intro X hP hw hK hc i pins s σ H E I hf st hg
    subst hP hw hK
    obtain ⟨⟨old, he⟩, hit, hne⟩ := st
    obtain ⟨xs, hq, hx⟩ := hg
    obtain ⟨its, rv, p, hz⟩ := I.tuple hq
    obtain ⟨f0, f1, f2, f3, f4, f5⟩ := hf it (by simp)
    have hl := rv.length
    have hno : (its.toArray)[i]? = none := by rw [List.getElem?_toArray, List.getElem?_eq_none_iff]; omega
    have D : Draws X.prog X.w X.A.in1 it [it, a] i (fun _ _ => True) (fun j h => j = i ∧ h.IsTupleIter it a i ∧ h.IsTuple a its.toArray) :=
      ⟨fun _ _ st => ⟨_, st.2.1.choose_spec.1⟩, fun _ _ _ st hk => ⟨st.1, st.2.1.at fun o q => hk it (by simp) o q, st.2.2.at fun o q => hk a (by simp) o q⟩,
        fun j s Q E hj st _ => absurd st.1 (Nat.ne_of_lt hj), fun s Q E st hE => wpAny_nextOf_tuple_end (show X.A.in1.handled = none from I.ok.hd hc) st.2.1 st.2.2 hno hE⟩
    exact wpAny_pyNext_enum_endD D he ⟨rfl, hit, p⟩ fun h' eb => ⟨rfl, I.turned (t' := s.toks) (fun b o hb q => eb b o hb q) f0 f1 f3 f4 f5⟩
  self := fun A i s Q E st h => let ⟨⟨_, he⟩, _⟩ := st; wpAny_pyIter_enum he h
def iEnumT (K : PySem.W.Frag) (ta : TA) : TI := fun σ H R => ta σ H fun vs H1 => ∃ a xs, vs = [.ref a] ∧ SqT K H1 a xs ∧ R (IteT K a) H1
theorem pi_enumT {X : Cx} {e : Expr} {ta : TA} {p pos tpos : Pos} {elts : List Expr} {kk : Nat} (hg : Gl X "enumerate") (hm : X.mg "enumerate" = none) (ha : PA X [e] ta) (hs : starEach [e] X.env = [(false, eval e X.env)] := by rfl) :
    PI X (.Tuple elts kk tpos) (.Call (.Name "enumerate" p) [e] [] pos) (iEnumT X.K ta) := by
  refine ⟨fun pins s σ H R I h => ?_⟩
  refine Call_ (ld_blt I hg hm boot_enumerate (PyProof.Rows.callWith_type1 (thn (ha.run pos pins s σ H _ I h) fun us s1 ⟨vs, H1, I1, r1, a, xs, ex, hq, q⟩ => ?_) hs rfl))
  subst ex
  obtain rfl := Vals.ref1 r1
  obtain ⟨its, rv, p', hz⟩ := I1.tuple hq
  have hal : a < s1.heap.objs.size := by obtain ⟨_, z, _⟩ := p'; exact Heap.lt_size z
  refine call_enum1 (begins_tuple a its.toArray) (show s1.heap.IsTuple a its.toArray from p') fun h' he hit hk => wpAny_pyIter_enum he ?_
  have I2 : Inv X pins σ H1 { s1 with heap := h' } := I1.kept (t' := s1.toks) hk
  refine ⟨s1.heap.objs.size + 1, [s1.heap.objs.size + 1, s1.heap.objs.size], _, _, H1, rfl, I2, turn_enumT a (s1.heap.objs.size + 1) s1.heap.objs.size (Nat.ne_of_lt (Nat.lt_succ_of_lt hal)) (Nat.ne_of_lt hal), ⟨⟨.none, he⟩, ⟨_, hit, rfl, rfl⟩, Nat.succ_ne_self _⟩, fun b hb => ?_, q⟩
  have hle : s1.heap.objs.size ≤ b := by
    rcases (by simpa using hb : b = s1.heap.objs.size + 1 ∨ b = s1.heap.objs.size) with z | z
    · rw [z]; exact Nat.le_add_right _ _
    · rw [z]; exact Nat.le_refl _
  exact I1.fpOk hle (I1.hok.fresh hle)
theorem walk_enumT {K : PySem.W.Frag} {a : Addr} {xs : List V} : Walk (IteT K a) xs.length (fun H => SqT K H a xs) (YPair (fun i => some (.int (i : Nat))) (fun i => xs[i]?)) := by
  refine ⟨fun i _ hi q => ⟨xs, xs[i], q, by simp [hi]⟩, fun _ q => ⟨xs, q, Nat.le_refl _⟩, fun i H v H' _ q y => ?_⟩
  obtain ⟨T, x, h1, h2, h3, h4⟩ := y
  exact ⟨T, .int (i : Nat), x, h1, h2, h3, rfl, h4 xs q⟩
end My
set_option maxRecDepth 100000
set_option maxHeartbeats 4000000
namespace PySem.SeqAt
open PySem PySem.Spec PyProof.Rows
/-- tuple's own __lt__, called as sorting calls it -/
theorem call_tuple_lt {prog : Program} {w : World} {A : Around} {s : Shared} {E : Value → Shared → Prop} {Q : Value → Shared → Prop} {l b : Addr} {items items2 : Array Value} {e r : Nat → Bool} (hl : s.heap.IsTuple l items) (hb : s.heap.IsTuple b items2)
    (he : ∀ j (h1 : j < items.size) (h2 : j < items2.size), EqAt A.in1 s items[j] items2[j] (e j)) (hr : ∀ j (h1 : j < items.size) (h2 : j < items2.size), e j = false → RcLt A.in1 s items[j] items2[j] (r j))
    (h : Q (.bool (firstLt e r (decide (items.size < items2.size)) (List.range (min items.size items2.size)))) s) : wpAny (model prog w) A (call (.builtin "tuple.__lt__") [.ref l, .ref b]) Q E s := by
  obtain ⟨⟨cls, dd, data, sl⟩, ho, hc, n, hd⟩ := id hl
  obtain ⟨⟨cls2, dd2, data2, sl2⟩, ho2, hc2, n2, hd2⟩ := id hb
  simp only at hc hd hc2 hd2
  subst hc hd hc2 hd2
  exact call_meets F.slot_tuple_lt ⟨_, ho, rfl⟩ F.entry_tuple_lt (F.args_tuple_lt_2 _ _) (tuple_ltAt l b items items2 n n2 dd dd2 sl sl2 e r) ⟨ho, ho2, he, hr, h⟩
end PySem.SeqAt
namespace PySem.W
open PySem PySem.Calls PyProof.Rows PySem.SeqAt
abbrev encT (b : List Int) : PyData := .tuple (b.map .int)
abbrev encL (b : List Int) : PyData := .list (b.map .int)
section
variable {prog : Program} {w : World} {A : Around} {E : Value → Shared → Prop} {s : Shared}
theorem oneLt_tup {xs ys : List PyData} {a b : Value} {as bs : List Addr} {Q : Bool → Shared → Prop} (ra : Reads s.heap a (.tuple xs) as) (rb : Reads s.heap b (.tuple ys) bs) (hal : alikeAll xs ys = true)
    (hu : A.units + min (PyData.depth (.tuple xs)) (PyData.depth (.tuple ys)) < cLine) (hq : Q (dataLt (.tuple xs) (.tuple ys)) s) : wpAny (model prog w) A (oneLt' true a b) Q E s := by
  cases ra with
  | @tuple l o vs n _ as₁ h1 h2 h3 h4 =>
    cases rb with
    | @tuple l' o' vs' n' _ bs₁ k1 k2 k3 k4 =>
      have n1 : vs.size = xs.length := by simpa using ReadsAll.length _ _ _ h4
      have n2 : vs'.size = ys.length := by simpa using ReadsAll.length _ _ _ k4
      rw [dataLt_tuple, ← firstLt_toks xs ys hal, ← n1, ← n2] at hq
      rw [oneLt'_eq]
      simp only [if_true]
      refine wpAny_bind (wpAny_cRoomFor (room_here hu) ?_)
      refine wpAny_bind (wpAny_callSpecialIfBound?_slot (T := "tuple") ⟨_, h1, h2⟩ F.slot_tuple_lt (call_tuple_lt (e := pairEq xs ys) (r := fun j => dataLt (xs.getD j .none) (ys.getD j .none)) ⟨_, h1, h2, _, h3⟩ ⟨_, k1, k2, _, k3⟩ (fun j j1 j2 => ?_) (fun j j1 j2 hj => ?_) ?_))
      · have := eqAt_alikeAll xs ys A.in1 s vs.toList vs'.toList _ _ h4 k4 hal (room_in hu) j (by simpa using j1) (by simpa using j2)
        simpa using this
      · have := rcLt_alikeAll xs ys A.in1 s vs.toList vs'.toList _ _ h4 k4 hal (room_in hu) j (by simpa using j1) (by simpa using j2) hj
        simpa using this
      · exact wpAny_truthy_bool hq
end
/-! ### which kind of keys tuples of ints are -/
section
variable {M : Model} {A : Around} {E : Value → Shared → Prop} {s : Shared}
theorem tup_firsts : ∀ (vs : List Value) (bs : List (List Int)) {Q : List (Option Value) → Shared → Prop}, EachIs (fun v b => ∃ as, Reads s.heap v (encT b) as) vs bs → (∀ fs : List (Option Value), EachIs (fun f b => f.isSome = !b.isEmpty) fs bs → Q fs s) → wpAny M A (vs.mapM firstOfTuple') Q E s
  | [], [], _, _, h => by rw [List.mapM_nil]; exact wpAny_pure (h [] .nil)
  | [], _ :: _, _, e, _ => nomatch e
  | _ :: _, [], _, e, _ => nomatch e
  | v :: vs, b :: bs, Q, .cons ⟨as, r⟩ e, h => by
    rw [List.mapM_cons]
    refine wpAny_bind ?_
    rw [kas_first_eq]
    cases r with
    | @tuple a o xs n _ _ ho hc hd hr =>
      refine wpAny_bind (Looks.here (show Looks M s.heap (typeOf (.ref a)) o.cls from (Looks.ld ho).andThen .now) ?_)
      rw [hc, if_neg (by first | decide | simp)]
      refine wpAny_bind (listItems_at ho hd (wpAny_pure ?_))
      refine wpAny_bind (tup_firsts vs bs (Q := fun fs s' => wpAny M A (pure (xs[0]? :: fs)) Q E s') e fun fs hf => wpAny_pure (h _ (.cons ?_ hf)))
      have hl := SeqAt.ReadsAll.length _ _ _ hr
      rw [List.length_map] at hl
      have hl : xs.size = b.length := by simpa using hl
      cases b with
      | nil => rw [Array.getElem?_eq_none (by rw [hl]; exact Nat.zero_le _)]; rfl
      | cons x t => rw [Array.getElem?_eq_getElem (by rw [hl]; exact Nat.succ_pos _)]; rfl
theorem tup_kind {vs : List Value} {bs : List (List Int)} {Q : SortKind → Shared → Prop} (e : EachIs (fun v b => ∃ as, Reads s.heap v (encT b) as) vs bs) {b0 : List Int} {bt : List (List Int)} (hb : bs = b0 :: bt) (hne : [] ∈ bs)
    (h : Q (if b0.isEmpty then oneType' else general') s) : wpAny M A (keyKind' vs.toArray) Q E s := by
  rw [keyKind'_eq, List.mapM_toArray, map_eq_pure_bind]
  refine wpAny_bind (wpAny_bind (tup_firsts vs bs e fun fs hf => wpAny_pure ?_))
  have hall : ¬ (fs.toArray.all fun x => x.isSome) = true := fun z => by
    simp only [List.all_toArray, List.all_eq_true] at z
    have : ∀ {fs : List (Option Value)} {bs : List (List Int)}, EachIs (fun f b => f.isSome = !b.isEmpty) fs bs → (∀ f ∈ fs, f.isSome = true) → [] ∉ bs := by
      intro fs bs hf
      induction hf with
      | nil => intro _ h; cases h
      | cons h t ih =>
        intro z hm
        rcases List.mem_cons.mp hm with hm | hm
        · subst hm
          have := z _ List.mem_cons_self
          rw [h] at this
          cases this
        · exact ih (fun f hf => z f (List.mem_cons_of_mem _ hf)) hm
    exact this hf z hne
  rw [if_neg hall]
  subst hb
  cases hf with
  | @cons f _ ft _ h0 ht =>
  have e0 : ((f :: ft).toArray[0]?.bind id) = f := by simp
  rw [e0]
  cases b0 with
  | cons x t =>
    have h0 : f.isSome = true := h0
    rw [if_pos h0]
    exact wpAny_pure h
  | nil =>
    have h0 : f.isSome = false := h0
    rw [if_neg (by rw [h0]; decide)]
    rw [oneTypeOnly'_eq, List.mapM_toArray, map_eq_pure_bind]
    have tk : ∀ {vs : List Value} {bs : List (List Int)}, EachIs (fun v b => ∃ as, Reads s.heap v (encT b) as) vs bs → ∀ v ∈ vs, Looks M s.heap (typeOf v) (.type "tuple") := by
      intro vs bs e
      induction e with
      | nil => intro v hv; cases hv
      | cons h t ih =>
        intro v hv
        rcases List.mem_cons.mp hv with rfl | hv
        · obtain ⟨as, r⟩ := h
          exact looks_reads r
        · exact ih v hv
    refine wpAny_bind (wpAny_bind (wpAny_bind (kas_mapM (r := Value.type "tuple") _ (fun v hv Q' hq => (tk e v hv).here hq) (wpAny_pure ?_))))
    have hlen : 0 < vs.length := by rw [e.length]; exact Nat.succ_pos _
    have hall2 : ((List.map (fun _ => Value.type "tuple") vs).toArray.all fun x => x == Value.type "tuple") = true := by
      simp only [List.all_toArray, List.all_map, List.all_eq_true]
      intro _ _
      exact beq_self_eq_true _
    have h00 : (List.map (fun _ => Value.type "tuple") vs).toArray[0]? = some (Value.type "tuple") := by
      cases vs with
      | nil => cases hlen
      | cons a t => simp
    rw [h00]
    simp only [hall2, if_true]
    exact wpAny_pure (wpAny_pure h)
end
section
variable {prog : Program} {w : World} {A : Around} {E : Value → Shared → Prop} {s : Shared}
theorem alike_encT (b b' : List Int) : alike (encT b) (encT b') = true := by
  show alikeAll _ _ = true
  exact alike_ints b b'
theorem depth_encT (b : List Int) : (encT b).depth = 1 := by
  show PyData.depth (.tuple _) = 1
  simp only [PyData.depth]
  rw [depth_ints]
theorem SortsAt.tupI {vs : List Value} {bs : List (List Int)} (e : EachIs (fun v b => ∃ as, Reads s.heap v (encT b) as) vs bs) (hu : A.units + 2 < cLine) : SortsAt prog w A s (dataKind s.heap (bs.map encT)) vs := by
  have e' := each_map (R := fun v d => ∃ as, Reads s.heap v d as) encT e
  have hal : AllAlike (bs.map encT) := AllAlike.of fun b b' => alike_encT b b'
  have hd : ∀ d ∈ bs.map encT, A.units + d.depth < cLine := fun d hd => by
    obtain ⟨b, _, rfl⟩ := List.mem_map.mp hd
    rw [depth_encT]; omega
  by_cases hne : [] ∈ bs
  · cases bs with
    | nil => cases hne
    | cons b0 bt =>
    refine ⟨fun v hv => ?_, ⟨_, ?_, fun h2 E Q hq => tup_kind e rfl hne hq⟩⟩
    · obtain ⟨d, hd, as, r⟩ := e'.left v hv
      exact ⟨_, dataKind_some hal hd r⟩
    · intro E x y a b Q ha hb hq
      obtain ⟨d, as, hd1, ra, rfl⟩ := dataKind_inv ha
      obtain ⟨d', as', hd', rb, rfl⟩ := dataKind_inv hb
      have hq : Q (dataLt d d') s := hq
      obtain ⟨c, _, rfl⟩ := List.mem_map.mp hd1
      obtain ⟨c', _, rfl⟩ := List.mem_map.mp hd'
      have hroom : A.units + min (encT c).depth (encT c').depth < cLine := by rw [depth_encT, depth_encT]; omega
      split
      · rw [keyLt'_oneType]
        exact oneLt_tup ra rb (alike_ints c c') hroom hq
      · show wpAny _ _ (oneLt' false x y) _ _ _
        exact oneLt_alike (fun z => nomatch z) ra rb (alike_encT c c') (fun z => nomatch z) hroom hq
  · exact SortsAt.data e' hal (.inl fun d hd => by
      obtain ⟨b, hb, rfl⟩ := List.mem_map.mp hd
      cases b with
      | nil => exact absurd hb hne
      | cons x t => exact ⟨_, _, rfl⟩) hd
theorem dataLe_encT : dataLe false encT = fun p q : List Int => decide (p ≤ q) := by
  rw [← dataLe_rows (fun b : List Int => b)]
  funext p q
  show (!dataLt (encT q) (encT p)) = !dataLt (encL q) (encL p)
  rw [show dataLt (encT q) (encT p) = dataLt (encL q) (encL p) from (dataLt_tuple _ _).trans (dataLt_list _ _).symm]
/-- sorted of tuples of ints, empty ones among them -/
theorem sorted_tupsI {l : Addr} {vs : List Value} {bs : List (List Int)} {R : Value → List Int → Prop} {Q : Value → Shared → Prop} (hl : s.heap.IsList l vs.toArray) (e : EachIs R vs bs) (er : EachIs (fun v b => ∃ as, Reads s.heap v (encT b) as) vs bs) (hL : bs.length ≤ sizeLine)
    (hu : A.units + 4 < cLine) (h : ∀ out, out.length = bs.length → EachIs R out (bs.mergeSort fun p q => decide (p ≤ q)) → Q (.ref (s.heap.objs.size + 1)) { s with heap := sortedAll s.heap vs (List.toArray out) }) :
    wpAny (model prog w) A (call (.builtin "sorted") [.ref l]) Q E s := by
  have er' : EachIs (fun v b => ∃ as, Reads (sortingHeap (copyHeap s.heap vs) (s.heap.objs.size + 1) vs) v (encT b) as) vs bs := er.mono fun _ _ ⟨as, r⟩ => ⟨as, PyProof.Rows.Reads.keeps (fun _ _ => sorting_copy_old) r⟩
  refine sorted_vals hl (SortsAt.tupI (s := { s with heap := sortingHeap (copyHeap s.heap vs) (s.heap.objs.size + 1) vs }) er' (by show A.units + 1 + 1 + 2 < cLine; omega)) (by rw [e.length]; exact hL) ?_
  refine h _ (by rw [sortVals_length false rfl]; exact e.length) ?_
  have := sortVals_data false e er' (AllAlike.of fun b b' => alike_encT b b')
  rw [dataLe_encT] at this
  exact this
end
end PySem.W
namespace L2
open PySem PySem.Spec PyProof.Rows PySem.W
theorem vals_each {Rv : V → List Int → Prop} : ∀ {xs : List V} {us : List Value} {bs : List (List Int)}, Vals xs us → EachIs Rv xs bs → EachIs (fun v b => ∃ x, RelV x v ∧ Rv x b) us bs
  | _, _, _, .nil, .nil => .nil
  | _, _, _, .cons r t, .cons h e => .cons ⟨_, r, h⟩ (vals_each t e)
theorem each_vals {Rv : V → List Int → Prop} : ∀ {us : List Value} {bs : List (List Int)}, EachIs (fun v b => ∃ x, RelV x v ∧ Rv x b) us bs → ∃ ys, Vals ys us ∧ EachIs Rv ys bs
  | _, _, .nil => ⟨[], .nil, .nil⟩
  | _, _, .cons ⟨x, r, h⟩ e => let ⟨ys, a, b⟩ := each_vals e; ⟨x :: ys, .cons r a, .cons h b⟩
def rSortD (K : PySem.W.Frag) (enc : List Int → PyData) : List V → Hp → VK → Prop := fun vs H Q => ∃ (a : Addr) (xs : List V) (bs : List (List Int)) (Rv : V → List Int → Prop), vs = [.ref a] ∧ SqL K H a xs ∧ EachIs Rv xs bs ∧ (∀ x b, Rv x b → Dp K H x (enc b)) ∧
  ∀ ys p, EachIs Rv ys (bs.mergeSort fun p q => decide (p ≤ q)) → H p = none → Q (.ref p) (upd H p (.lst ys))
section
variable {X : Cx}
theorem cr_sortTI (hu : X.A.units + 10 < cLine) : CallR X (.builtin "sorted") (rSortD X.K encT) := by
  intro pins s σ H vs us Q I r h
  obtain ⟨a, xs, bs, Rv, rfl, hs, hx, hd, q⟩ := h
  obtain ⟨its, rv, hl, hz⟩ := I.list hs
  obtain ⟨u, rfl, ru⟩ := vals1 r
  obtain rfl : u = Value.ref a := ru
  have e := vals_each rv hx
  have er : EachIs (fun v b => ∃ as, Reads s.heap v (encT b) as) its bs := e.mono fun v b ⟨x, rx, hr⟩ => Dp.reads I _ _ _ (hd x b hr) rx
  have hbl : bs.length = its.length := e.length.symm
  refine sorted_tupsI hl.isList e er (by rw [hbl, ← rv.length]; exact hz) (by omega) fun out ho eo => ?_
  obtain ⟨ys, vy, ey⟩ := each_vals eo
  obtain ⟨ep, he'⟩ := PyProof.Rows.sortedAll_at s.heap its (List.toArray out)
  have hlen : ys.length ≤ sizeLine := by rw [vy.length, ho, hbl, ← rv.length]; exact hz
  exact ⟨.ref _, upd H (s.heap.objs.size + 1) (.lst ys), I.laid (t' := s.toks) (fun _ _ => PyProof.Rows.sortedAll_old) (Nat.le_succ _) ⟨hlen, out, ep, vy, he'⟩, rfl, q _ _ ey (I.hok.fresh (Nat.le_succ _))⟩
theorem cr_sortLI (hu : X.A.units + 10 < cLine) : CallR X (.builtin "sorted") (rSortD X.K encL) := by
  intro pins s σ H vs us Q I r h
  obtain ⟨a, xs, bs, Rv, rfl, hs, hx, hd, q⟩ := h
  obtain ⟨its, rv, hl, hz⟩ := I.list hs
  obtain ⟨u, rfl, ru⟩ := vals1 r
  obtain rfl : u = Value.ref a := ru
  have e := vals_each rv hx
  have er : EachIs (fun v b => ∃ as, Reads s.heap v (encL b) as) its bs := e.mono fun v b ⟨x, rx, hr⟩ => Dp.reads I _ _ _ (hd x b hr) rx
  have hbl : bs.length = its.length := e.length.symm
  refine sorted_data hl.isList e er (AllAlike.of fun b b' => by show alikeAll _ _ = true; exact alike_ints b b') (Sortable.others fun b => ⟨fun z => (nomatch z), fun _ z => (nomatch z)⟩) (by rw [hbl, ← rv.length]; exact hz) (fun b _ => ?_) fun out ho eo => ?_
  · have : (encL b).depth = 1 := by show PyData.depth (.list _) = 1; simp only [PyData.depth]; rw [depth_ints]
    omega
  rw [show dataLe false encL = fun p q : List Int => decide (p ≤ q) from dataLe_rows (fun b : List Int => b)] at eo
  obtain ⟨ys, vy, ey⟩ := each_vals eo
  obtain ⟨ep, he'⟩ := PyProof.Rows.sortedAll_at s.heap its (List.toArray out)
  have hlen : ys.length ≤ sizeLine := by rw [vy.length, ho, hbl, ← rv.length]; exact hz
  exact ⟨.ref _, upd H (s.heap.objs.size + 1) (.lst ys), I.laid (t' := s.toks) (fun _ _ => PyProof.Rows.sortedAll_old) (Nat.le_succ _) ⟨hlen, out, ep, vy, he'⟩, rfl, q _ _ ey (I.hok.fresh (Nat.le_succ _))⟩
end
end L2
set_option maxRecDepth 100000
set_option maxHeartbeats 4000000
namespace My
open PySem L2 PySem.Spec PyProof.Rows
section
variable {X : Cx} {CX : CXT} {n : Nat} {f C : Addr} {fd : FuncData} {ps : List Str} {sp : Sp}
/-- a promise that may raise, called anywhere in the running body -/
theorem call_atS {σ : L2.St} {E : XK} (G0 : FnOk X.prog X.w X.K X.mg X.base CX n f fd ps sp) (hb : Binds X.K fd ps []) (hx : PassesAt CX X σ E) {A : Around} (hr : Room n A) (hA : A.frames = X.A.frames)
    {pins : List (Addr × Obj)} {s : Shared} {H : Hp} (I : Inv X pins σ H s) {vs : List V} {us : List Value} (r : Vals vs us) {Q : VK} (h : sp vs H Q E) :
    wpAny (model X.prog X.w) A (call (.ref f) us) (EP X pins σ Q) X.xe s := by
  have e0 : Env0 X.prog X.w X.K X.mg X.base A X.stack s H := by
    have e := I.env0
    exact ⟨by rw [hA]; exact e.frames, e.mod, e.bs, e.bsz, e.funs, e.frf, e.hok, e.bare⟩
  have hl := G0.len _ _ _ _ h
  refine wpAny_call (codeAny_mono (G0.run A X.stack s H ⟨us, []⟩ us vs Q E hr e0 (by
    have := hb s us I.kIn (by rw [List.append_nil, ← r.length]; exact hl)
    simpa using this) r h) fun r s' hq => ?_)
  cases r with
  | error e => exact hx pins H s e s' I hq
  | ok fl =>
    cases fl with
    | ret w => exact I.after hq
    | next => exact False.elim hq
    | brk => exact False.elim hq
    | cont => exact False.elim hq
/-- a[b], a an instance of the class at C with its own __getitem__ -/
def tIxOwn (C : Addr) (sp : Sp) (E : L2.St → XK) (ta tb : TE) : TE := fun σ H Q => ta σ H fun x H1 => tb σ H1 fun y H2 => ∃ p dx fs, x = .ref p ∧ H2 p = some (.ins C dx fs) ∧ sp [.ref p, y] H2 Q (E σ)
theorem pe_ixOwn {a b : Expr} {ta tb : TE} {pos : Pos} {E : L2.St → XK} (G0 : FnOk X.prog X.w X.K X.mg X.base CX n f fd ps sp) (hb : Binds X.K fd ps []) (hx : ∀ σ, PassesAt CX X σ (E σ)) (hr : Room (n + 1) X.A)
    (hs : PySem.W.findIn X.K (.ref C) "__getitem__" = some (some (.ref f))) (hf : PySem.W.fnIn X.K f = true) (hfn : PySem.W.isFn X.K (.ref f) = true) (ha : PE X a ta) (hbb : PE X b tb)
    (hsl : ∀ x i, subscripted b true (.ref x) i = runValue (.builtin "lifetime.subscript" ⟨[.ref x, i], []⟩)) : PE X (.Subscript a b pos) (tIxOwn C sp E ta tb) := by
  refine ⟨fun pins s σ H Q I h => ?_⟩
  refine Subscript_ (binT ha hbb I h fun v u s2 x y H2 I2 rx ry q => ?_)
  obtain ⟨p, dx, fs, rfl, hp, q⟩ := q
  cases rx
  obtain ⟨mA, J, _⟩ := ins_get I2.hok hp
  obtain ⟨od, J, _⟩ := J.look
  obtain ⟨m, hF⟩ := I2.fr
  exact PySem.W.sub_K hF I2.ok.mod.kin J hs hf hfn (call_atS G0 hb (hx σ) (A := X.A.in1) hr.in1 rfl I2 (vs := [.ref p, y]) (.cons rfl (.cons ry .nil)) q) (hsl _ _)
end
end My
set_option maxRecDepth 100000
set_option maxHeartbeats 4000000
namespace My
open PySem L2 PySem.Spec PyProof.Rows
/-- the truth of a value, inside a comprehension -/
def tTruK (K : PySem.W.Frag) (ta : TE) : TT := fun σ H Q => ta σ H fun x H' => ∃ k, TruV K x H' k ∧ Q k H'
section
variable {X : Cx} {CX : CXT} {E : XK} {n : Nat} {f C : Addr} {fd : FuncData} {ps : List Str} {sp : Sp}
/-- len(x), x an instance of the class at C with its own __len__ -/
def rLenOwn (C : Addr) (sp : Sp) (E : XK) : List V → Hp → VK → Prop := fun xs H Q => ∃ a dx fs, xs = [V.ref a] ∧ H a = some (.ins C dx fs) ∧ sp [.ref a] H (fun v H' => ∃ k : Nat, v = .int (k : Int) ∧ k ≤ 1000000 ∧ Q (.int (k : Int)) H') E
theorem call_lenOwn (G0 : FnOk X.prog X.w X.K X.mg X.base CX n f fd ps sp) (hb : Binds X.K fd ps []) (hx : Passes CX X E) (hr : Room (n + 1) X.A)
    (hs : PySem.W.findIn X.K (.ref C) "__len__" = some (some (.ref f))) (hf : PySem.W.isFn X.K (.ref f) = true) :
    CallR X (.builtin "len") (rLenOwn C sp E) := by
  intro pins s σ H xs us Q I r h
  obtain ⟨a, dx, fs, rfl, ha, q⟩ := h
  obtain ⟨u, rfl, r1⟩ := vals1 r
  cases r1
  obtain ⟨mA, J, _⟩ := ins_get I.hok ha
  obtain ⟨od, J, _⟩ := J.look
  obtain ⟨m, hF⟩ := I.fr
  refine PySem.W.len_K hF I.ok.mod.kin J hs hf (wpAny_mono (call_at G0 hb hx (A := X.A.in1) hr.in1 rfl I (vs := [.ref a]) (.cons rfl .nil) q) (fun v s' z => ?_) fun _ _ z => z)
  obtain ⟨x, H1, I1, r1, k, rfl, hk, z⟩ := z
  obtain ⟨tk, rfl⟩ := r1
  exact ⟨⟨Int.natCast_nonneg _, by omega⟩, .int (k : Int), H1, by first | exact I1.tok _ | exact I1, ⟨_, rfl⟩, z⟩
/-- isinstance(e, (c1, c2)) of a caught error with fields -/
def rIsET (K : PySem.W.Frag) (a : Addr) (cls : Value) (d : Option Addr) : List V → Hp → VK → Prop := fun xs H Q => ∃ D dd fs, cls = .ref D ∧ d = some dd ∧ H dd = some (.xd fs) ∧ ExcC K D ∧
  ∃ (tp : Addr) (cs : List V) (us : List Value) (b : Bool), xs = [.ref a, .ref tp] ∧ H tp = some (.tup cs) ∧ Paired ClsV cs us ∧ PySem.W.kitAny K (.ref D) us = some b ∧ Q (.bl b) H
theorem call_isExT {a : Addr} {oe : Obj} {cls : Value} {d : Option Addr} {pn : List (Addr × Obj)} (hz : Zc cls d oe) (hf : ∃ vs, oe.data = .fields vs) :
    CallR (X.suite a ((a, oe) :: pn)) (.builtin "isinstance") (rIsET X.K a cls d) := by
  intro pins s σ H xs us Q I r h
  obtain ⟨D, dd, fs, rfl, rfl, hd, C, tp, cs, ws, b, rfl, hT, k, e, q⟩ := h
  obtain ⟨u1, u2, rfl, r1, r2⟩ := vals2 r
  cases (show u2 = Value.ref tp from r2)
  cases (show u1 = Value.ref a from r1)
  obtain ⟨hget, _⟩ := I.pin (a, oe) (List.mem_append.mpr (.inl List.mem_cons_self))
  obtain ⟨vs, hv⟩ := hf
  have hx : ObjOk X.prog X.w H s.heap dd (.xd fs) := I.hok dd _ hd
  obtain ⟨mA, ⟨od, es, ep, ho, _⟩, _⟩ := hx
  have J : PySem.W.InstAt s.heap a oe D (some od) := ⟨hget, hz.1, by unfold PySem.W.notCls; rw [hv] <;> rfl, by rw [hz.2]; exact ho⟩
  obtain ⟨cdD, hcD, _⟩ := PySem.W.any_some C.hd
  obtain ⟨_, its, rv, o, h1, h2, n, h3⟩ := (show ObjOk X.prog X.w H s.heap tp (.tup cs) from I.hok tp _ hT)
  have e3 := ClsV.all k rv
  subst e3
  obtain ⟨oc, od2, dt, sl⟩ := o
  simp only at h2 h3
  subst h2 h3
  exact PySem.W.kia_tup (PySem.W.kitx_exc (od := some od) (by rw [hcD]; rfl) C.hg C.hk C.hs C.ha C.hn C.ht C.hm) I.kIn J h1 e (fun z => nomatch z) fun tk => ⟨.bl b, H, I.tok tk, rfl, q⟩
theorem band (a b : Nat) : Builtin.bitAnd (a : Int) (b : Int) = ((a &&& b : Nat) : Int) := by
  unfold Builtin.bitAnd
  simp
theorem bor (a b : Nat) : Builtin.bitOr (a : Int) (b : Int) = ((a ||| b : Nat) : Int) := by
  rw [bitOr_nn (Int.natCast_nonneg _) (Int.natCast_nonneg _), Int.toNat_natCast, Int.toNat_natCast]
theorem op_andN {X : Cx} : OpR X (binaryOp .BitAnd) (fun x y H Q => ∃ a b : Nat, x = .int (a : Int) ∧ y = .int (b : Int) ∧ Q (.int ((a &&& b : Nat) : Int)) H) := by
  intro pins s σ H x y v u Q I rx ry h
  obtain ⟨a, b, rfl, rfl, q⟩ := h
  rw [← band] at q
  exact op_and pins s σ H _ _ v u Q I rx ry ⟨_, _, rfl, rfl, q⟩
theorem op_orN {X : Cx} : OpR X (binaryOp .BitOr) (fun x y H Q => ∃ a b : Nat, x = .int (a : Int) ∧ y = .int (b : Int) ∧ Q (.int ((a ||| b : Nat) : Int)) H) := by
  intro pins s σ H x y v u Q I rx ry h
  obtain ⟨a, b, rfl, rfl, q⟩ := h
  rw [← bor] at q
  exact op_or pins s σ H _ _ v u Q I rx ry ⟨_, _, rfl, rfl, q⟩
end
end My
set_option maxRecDepth 100000
set_option maxHeartbeats 4000000
namespace My
open PySem L2 PySem.Spec PyProof.Rows
section
variable {X : Cx} {CX : CXT} {E : XK} {n : Nat} {f C : Addr} {fd : FuncData} {ps : List Str} {sp : Sp}
/-- x in o, o's class with its own __contains__ that gives a truth value -/
def rInOwn (C : Addr) (sp : Sp) (E : XK) (neg : Bool) : R2 := fun x y H Q => ∃ a dx fs, y = .ref a ∧ H a = some (.ins C dx fs) ∧ sp [.ref a, x] H (fun v H' => ∃ k, v = .bl k ∧ Q (.bl (if neg = true then !k else k)) H') E
theorem op_inOwn (G0 : FnOk X.prog X.w X.K X.mg X.base CX n f fd ps sp) (hb : Binds X.K fd ps []) (hx : Passes CX X E) (hr : Room n X.A)
    (hs : PySem.W.findIn X.K (.ref C) "__contains__" = some (some (.ref f))) (hf : PySem.W.isFn X.K (.ref f) = true) : OpR X (compareOp .In) (rInOwn C sp E false) := by
  intro pins s σ H x y v u Q I rx ry h
  obtain ⟨a, dx, fs, rfl, ha, q⟩ := h
  cases ry
  obtain ⟨mA, J, _⟩ := ins_get I.hok ha
  obtain ⟨od, J, _⟩ := J.look
  obtain ⟨m, hF⟩ := I.fr
  refine PySem.W.in_K hF I.ok.mod.kin J hs hf ?_
  refine wpAny_mono (call_at G0 hb hx hr rfl I (vs := [.ref a, x]) (.cons rfl (.cons rx .nil)) q) (fun r s' z => ?_) fun _ _ z => z
  obtain ⟨z, H1, I1, r1, k, rfl, q1⟩ := z
  cases r1
  exact wpAny_truthy_bool ⟨.bl k, H1, I1, rfl, q1⟩
theorem op_notInOwn (G0 : FnOk X.prog X.w X.K X.mg X.base CX n f fd ps sp) (hb : Binds X.K fd ps []) (hx : Passes CX X E) (hr : Room n X.A)
    (hs : PySem.W.findIn X.K (.ref C) "__contains__" = some (some (.ref f))) (hf : PySem.W.isFn X.K (.ref f) = true) : OpR X (compareOp .NotIn) (rInOwn C sp E true) := by
  intro pins s σ H x y v u Q I rx ry h
  obtain ⟨a, dx, fs, rfl, ha, q⟩ := h
  cases ry
  obtain ⟨mA, J, _⟩ := ins_get I.hok ha
  obtain ⟨od, J, _⟩ := J.look
  obtain ⟨m, hF⟩ := I.fr
  refine PySem.W.notIn_K hF I.ok.mod.kin J hs hf ?_
  refine wpAny_mono (call_at G0 hb hx hr rfl I (vs := [.ref a, x]) (.cons rfl (.cons rx .nil)) q) (fun r s' z => ?_) fun _ _ z => z
  obtain ⟨z, H1, I1, r1, k, rfl, q1⟩ := z
  cases r1
  exact wpAny_truthy_bool ⟨.bl (!k), H1, I1, rfl, q1⟩
/-- ~o -/
theorem un_inv (G0 : FnOk X.prog X.w X.K X.mg X.base CX n f fd ps sp) (hb : Binds X.K fd ps []) (hx : Passes CX X E) (hr : Room n X.A)
    (hs : PySem.W.findIn X.K (.ref C) "__invert__" = some (some (.ref f))) (hf : PySem.W.isFn X.K (.ref f) = true) : UnR X (unaryOp .Invert) (rOwn1 C sp E) := by
  intro pins s σ H x v Q I rx h
  obtain ⟨a, dx, fs, rfl, ha, q⟩ := h
  cases rx
  obtain ⟨mA, J, _⟩ := ins_get I.hok ha
  obtain ⟨od, J, _⟩ := J.look
  obtain ⟨m, hF⟩ := I.fr
  exact PySem.W.ksp_inv hF I.ok.mod.kin J hs hf (call_at G0 hb hx hr rfl I (vs := [.ref a]) (.cons rfl .nil) q)
/-! ### a thing is forgotten -/
theorem hok_forget {P : Program} {w : World} {H : Hp} {h : Heap} {x : Addr} {φ : Heap → Prop} (hx : H x = none) (ok : HOk P w (upd H x (.ext φ)) h) : HOk P w H h := fun b u e => by
  have hb : b ≠ x := ne_of_none e hx
  refine (ok b u (by rw [upd_ne hb]; exact e)).stay (fun _ _ _ q => q) (fun c q => ?_) fun c xs q => ?_
  · by_cases hc : c = x
    · rw [hc, upd_same] at q; cases q
    · rw [upd_ne hc] at q; exact q
  · by_cases hc : c = x
    · rw [hc, upd_same] at q; cases q
    · rw [upd_ne hc] at q; exact q
theorem inv_forget {pins : List (Addr × Obj)} {σ : L2.St} {H : Hp} {s : Shared} {x : Addr} {φ : Heap → Prop} (hx : H x = none) (I : Inv X pins σ (upd H x (.ext φ)) s) : Inv X pins σ H s := by
  have no : ∀ {b : Addr} {o : HO}, upd H x (.ext φ) b = some o → (∀ ψ, o ≠ .ext ψ) → H b = some o := fun {b o} q hn => by
    by_cases hc : b = x
    · rw [hc, upd_same] at q; cases q; exact absurd rfl (hn φ)
    · rw [upd_ne hc] at q; exact q
  have nn : ∀ {b : Addr}, upd H x (.ext φ) b = none → H b = none := fun {b} q => by
    by_cases hc : b = x
    · rw [hc, upd_same] at q; cases q
    · rw [upd_ne hc] at q; exact q
  refine ⟨I.ok, I.os, I.bare, ⟨I.base.keep, I.base.slot, fun b o e n hx => nn (I.base.free b o e n hx), I.base.there, fun b xs q => no (I.base.tups b xs q) (fun _ => nofun), fun b o u q => no (I.base.frzs b o u q) (fun _ => nofun), fun b ps q => ?_⟩, I.loc, I.cell, nn I.free, fun y c e => nn (I.freeC y c e), fun p hp => ?_, hok_forget hx I.hok, I.len⟩
  · obtain ⟨m, e⟩ := I.base.tbls b ps q
    exact ⟨m, no e (fun _ => nofun)⟩
  · obtain ⟨e, n, ne, nf, d⟩ := I.pin p hp
    exact ⟨e, nn n, ne, nf, d⟩
end
/-! ### a promise that knows the state at the call -/
structure FnAt (P : Program) (w : World) (K : PySem.W.Frag) (mg : Str → Option Value) (base : Heap) (CX : CXT) (k : Nat) (f : Addr) (fd : FuncData) (ps : List Str) (sp : Shared → Sp) : Prop where
  len : ∀ s vs H Q E, sp s vs H Q E → vs.length = ps.length
  run : ∀ (A : Around) (outer : List Env) (s : Shared) (H : Hp) (args : Args) (us : List Value) (vs : List V) (Q : VK) (E : XK), Room k A → Env0 P w K mg base A outer s H → BindsTo s fd args (ps.zip us) → Vals vs us → sp s vs H Q E →
    codeAny (model P w) A (.call (.ref f) args) (CR CX outer P w H s Q E) s
theorem fun_okAt {P : Program} {w : World} {K : PySem.W.Frag} {mg : Str → Option Value} {base : Heap} {CX : CXT} {x qual : Str} {st : Stmt} {f : Addr} {fd : FuncData} {N ps : List Str} {k : Nat} {sp : Shared → Sp} (F : Fun K x qual st f fd) (S : FnScope N ps (defScope st)) (len : ∀ s vs H Q E, sp s vs H Q E → vs.length = ps.length)
    (hbody : ∀ (cdv : Value) (A : Around) (outer : List Env) (s : Shared) (H : Hp) (vs : List V) (Q : VK) (E : XK), Room k (A.deeper (PyProof.Rows.envOfC qual (defScope st) s.heap.objs.size f cdv)) → sp s vs H Q E →
      ∃ t, PSs (cxOf CX P w K mg base N qual (defScope st) f cdv A outer s H E) (defBody st) t ∧ t { nx := fun _ H' => Q .non H', rt := Q } (L2.start N vs) H) : FnAt P w K mg base CX (k + 1) f fd ps sp := by
  obtain ⟨oc, od, kV, doc, pm, an, cdv, ct, osl, rfl, lk, hcd⟩ := F.ex
  refine ⟨len, fun A outer s H args us vs Q E hr e0 hb r hsp => ?_⟩
  have hl := len _ _ _ _ _ hsp
  have KX : K.In s.heap := e0.mod.kin.keeps fun b o e => (e0.bs b o e).1
  have lim : s.heap.NoLimit := e0.mod.nolimit.keeps fun b o e => (e0.bs b o e).1
  have hkind : ∀ y ∈ ps.zip us, (defScope st).names.lookup y.1 = some .local ∨ ((defScope st).names.lookup y.1 = some .cell ∧ ((cellsFrom (s.heap.objs.size + 1) (defScope st).names []).lookup y.1).isSome = true) := fun ⟨n, v⟩ hy => by
    rcases S.par n (List.of_mem_zip hy).1 with q | q
    · exact .inl q
    · exact .inr ⟨q, PySem.W.cellsFrom_some _ _ _ (.inl q)⟩
  refine codeAny_call_function hr.depth (KX _ _ lk) rfl S.co S.gen rfl (PySem.W.codeRec_of KX hcd) (hb _ _ _ _ ?_)
  refine wpAny_newFunctionEnv_cells S.kind hkind fun env he s1 x => ?_
  subst he
  refine ⟨lim.keeps x.toInCall.keep, codeAny_func ?_⟩
  obtain ⟨t, ht, hq⟩ := hbody cdv A outer s H vs Q E (hr.deeper _) hsp
  have I : Inv (cxOf CX P w K mg base N qual (defScope st) f cdv A outer s H E) [] (L2.start N vs) H s1 := inv_start S hr.hd e0 hl r x
  refine wpAny_mono (ht.run [] s1 (L2.start N vs) H _ I hq) (fun fl s' hs => ?_) fun e s' hs => hs
  have fin : ∀ {σ' : L2.St} {H' : Hp} {v : V} {u : Value}, Inv (cxOf CX P w K mg base N qual (defScope st) f cdv A outer s H E) [] σ' H' s' → RelV v u → Q v H' → CE outer P w H s Q u s' :=
    fun {σ' H' v u} J rv q => ⟨v, H', J.os, J.bare, J.base, J.hok, rv, q⟩
  cases fl with
  | ret u =>
    obtain ⟨v, σ', H', J, rv, q⟩ := hs
    exact fin J rv q
  | next =>
    obtain ⟨σ', H', J, q⟩ := hs
    exact fin (v := V.non) (u := Value.none) J rfl q
  | brk =>
    obtain ⟨_, _, _, q⟩ := hs
    exact False.elim q
  | cont =>
    obtain ⟨_, _, _, q⟩ := hs
    exact False.elim q
section
variable {X : Cx}
/-- iter(t) of a tuple; the iterator is younger than the call -/
theorem call_iterTS : CallR X (.builtin "iter") (fun xs H Q => ∃ (l : Addr) (zs : List V), xs = [.ref l] ∧ SqT X.K H l zs ∧ ∀ it, H it = none → X.s_0.heap.objs.size ≤ it → Q (.ref it) (upd H it (TitO l it 0))) := by
  intro pins s σ H xs us Q I r h
  obtain ⟨l, zs, rfl, hq, q⟩ := h
  obtain rfl := Vals.ref1 r
  obtain ⟨its, rv, pl, hz⟩ := I.tuple hq
  refine Calls.call_function_entry (by decide +kernel) (by decide +kernel) PySem.W.kdk_entry_iter (PySem.W.kdk_args_iter _) ?_
  unfold Builtin.«iter»
  refine wpAny_bind (m := someArgs "iter" 1 2 _) (wpAny_of_eq (a := [Value.ref l]) (by first | rfl | kernel_rfl!) ?_)
  show wpAny _ _ (pyIter (.ref l) >>= _) _ _ _
  refine wpAny_bind (wpAny_pyIter_tuple (show s.heap.IsTuple l its.toArray from pl) (wpAny_pure ⟨_, rfl, ?_⟩))
  exact ⟨.ref s.heap.objs.size, _, I.laid (t' := s.toks) (fun b u e => Heap.get?_push_of_some _ e) (Nat.le_refl _) (titO_ok ⟨_, Heap.get?_push_size _ rfl, rfl, rfl⟩), rfl, q _ (I.hok.fresh (Nat.le_refl _)) I.sz⟩
/-- what such an __iter__ promises: an iterator over the tuple at l, at its beginning -/
def spItS (C : Addr) (L : Hp → Addr → List (Str × V) → Addr → Prop) : Shared → Sp := fun s vs H Q _ => ∃ p dx fs l, vs = [.ref p] ∧ H p = some (.ins C dx fs) ∧ L H p fs l ∧ ∀ it, H it = none → s.heap.objs.size ≤ it → Q (.ref it) (upd H it (TitO l it 0))
def iOwn (K : PySem.W.Frag) (C : Addr) (L : Hp → Addr → List (Str × V) → Addr → Prop) (tl : TE) : TI := fun σ H R => tl σ H fun x H1 => ∃ a dx fs l xs, x = .ref a ∧ H1 a = some (.ins C dx fs) ∧ L H1 a fs l ∧ SqT K H1 l xs ∧ R (Itt K l) H1
theorem pi_own {tg e : Expr} {tl : TE} {n : Nat} {f C : Addr} {fd : FuncData} {ps : List Str} {L : Hp → Addr → List (Str × V) → Addr → Prop} (he : PE X e tl) (G0 : FnAt X.prog X.w X.K X.mg X.base CX0 n f fd ps (spItS C L)) (hb : Binds X.K fd ps []) (hr : Room n X.A)
    (hs : PySem.W.findIn X.K (.ref C) "__iter__" = some (some (.ref f))) (hf : PySem.W.isFn X.K (.ref f) = true) : PI X tg e (iOwn X.K C L tl) := by
  refine ⟨fun pins s σ H R I h => ?_⟩
  refine thn (he.run pins s σ H _ I h) fun v s1 ⟨x, H1, I1, r1, q1⟩ => ?_
  obtain ⟨a, dx, fs, l, xs, rfl, ha, hL, hq, q⟩ := q1
  cases r1
  obtain ⟨mA, J, _⟩ := ins_get I1.hok ha
  obtain ⟨od, J, _⟩ := J.look
  obtain ⟨m, hF⟩ := I1.fr
  refine PySem.W.owit_iter hF I1.ok.mod.kin J hs hf ?_
  have hsp : spItS C L s1 [.ref a] H1 (fun v H2 => ∃ it, v = .ref it ∧ H1 it = none ∧ s1.heap.objs.size ≤ it ∧ H2 = upd H1 it (TitO l it 0)) (fun _ _ _ => False) := ⟨a, dx, fs, l, rfl, ha, hL, fun it h1 h2 => ⟨it, rfl, h1, h2, rfl⟩⟩
  have r : Vals [V.ref a] [Value.ref a] := .cons rfl .nil
  have e0 : Env0 X.prog X.w X.K X.mg X.base X.A X.stack s1 H1 := I1.env0
  have hl := G0.len _ _ _ _ _ hsp
  refine wpAny_call (codeAny_mono (G0.run X.A X.stack s1 H1 ⟨[.ref a], []⟩ [.ref a] [.ref a] _ _ hr e0 (by
    have := hb s1 [.ref a] I1.kIn (by rw [List.append_nil]; exact hl)
    simpa using this) r hsp) fun r s' hq' => ?_)
  cases r with
  | error e => exact False.elim hq'
  | ok fl =>
    cases fl with
    | ret u =>
      obtain ⟨v, H2, I2, rv, it, rfl, hn, hsz, rfl⟩ := I1.after hq'
      obtain rfl : u = Value.ref it := rv
      have hit := titO_get I2 upd_same
      unfold PySem.W.OwitIt
      refine wpAny_specialOf (show s'.TypeIs (.ref it) "tuple_iterator" from hit.typeIs) PySem.F.slot_tuple_iterator_next.lookup ?_
      have I3 := inv_forget hn I2
      refine ⟨it, [it], _, _, H1, rfl, I3, turn_tuple l it, hit, fun b hb => ?_, q⟩
      have e : b = it := by simpa using hb
      subst e
      exact I1.fpOk hsz hn
    | next => exact False.elim hq'
    | brk => exact False.elim hq'
    | cont => exact False.elim hq'
end
/-! ### several except clauses with a name -/
def wManyAs (K : PySem.W.Frag) (i : Nat) (Wout : WX) (D : Ends) : List (Value × (Addr → Value → Option Addr → TS)) → WX
  | [] => Wout
  | (c, ts) :: r => fun cls d σ H => ∃ b, PySem.W.exmOne K cls c = some b ∧ (b = true → ∀ a, H a = none → ts a cls d { nx := fun σ' H' => D.nx (σ'.set i none) H', rt := D.rt, bk := fun σ' H' => D.bk (σ'.set i none) H', ct := fun σ' H' => D.ct (σ'.set i none) H' } (σ.set i (some (.ref a))) H) ∧ (b = false → wManyAs K i Wout D r cls d σ H)
inductive HdsAs (X : Cx) (n : Str) : List ExceptHandler → List (Value × (Addr → Value → Option Addr → TS)) → Prop
  | nil : HdsAs X n [] []
  | cons {x : Str} {c : Value} {ts : Addr → Value → Option Addr → TS} {b₀ : Stmt} {suite : List Stmt} {np pos' : Pos} {hds : List ExceptHandler} {l : List (Value × (Addr → Value → Option Addr → TS))} (hc : Names X x c)
      (hsu : ∀ (a : Addr) (oe : Obj) (cls : Value) (d : Option Addr) (pn : List (Addr × Obj)), Zc cls d oe → (∃ vs, oe.data = .fields vs) → PSs (X.suite a ((a, oe) :: pn)) (b₀ :: suite) (ts a cls d)) (r : HdsAs X n hds l) :
      HdsAs X n (.ExceptHandler (some (.Name x np)) (some n) (b₀ :: suite) pos' :: hds) ((c, ts) :: l)
section
variable {X : Cx} {n : Str} {i : Nat} {body : List Stmt} {h₀ : ExceptHandler} {hds : List ExceptHandler} {l : List (Value × (Addr → Value → Option Addr → TS))} {pos : Pos} {tb : WX → TS} {Wout : WX}
theorem ps_try_as_many (hs : X.stack = X.env :: X.outer) (hf : X.env.frame = some X.env.locals) (hN : X.N.Nodup) (hi : X.N[i]? = some n) (hln : X.env.kindOf n = some .local) (tk : Takes X Wout)
    (hb : ∀ (W : WX) (pn : List (Addr × Obj)) (xe : Value → Shared → Prop), Takes (X.tr pn xe) W → PassesOwn (model X.prog X.w) X.A X.env xe → PSs (X.tr pn xe) body (tb W))
    (hh : HdsAs X n (h₀ :: hds) l) : PS X (.Try body (h₀ :: hds) [] [] pos) (fun D σ H => tb (wManyAs X.K i Wout D l) D σ H) := by
  refine ⟨fun pins s σ H D I h => ?_⟩
  have ok := I.ok
  have hloc : Loc X.env.scope n := .inl hln
  have hfr : X.A.frames = some (X.env :: X.outer) := by rw [ok.frames, hs]
  refine wpAny_Try_except ?_
  refine wpAny_mono ((hb (wManyAs X.K i Wout D l) (X.pn ++ pins) (fun e s₁ => wpAny (model X.prog X.w) X.A (noteFrame e X.env) (fun _ s₂ => wpAny (model X.prog X.w) X.A (setFlight e none) (fun _ s₃ =>
    wpAny (model X.prog X.w) X.A (handleBy e X.env (h₀ :: hds)) (SP X pins D) X.xe s₃) X.xe s₂) X.xe s₁) (fun u s' xx => ?_) PassesOwn.looking).run [] s σ H D (I.toTry _) h) (fun f s1 hsp => ?_) (fun e s1 he => he)
  · obtain ⟨a, B, sI, pins', σ', H', cls, d, rfl, J', nb, up, sky, na, os, ag, w⟩ := xx
    have J : Inv X pins σ' H' sI := J'.ofTry ok
    have sky' : Sky B (X.env :: X.outer) a (Zc cls d) X.env.locals s'.heap := by rw [← hs]; exact sky
    show wpAny (model X.prog X.w) X.A (noteFrame (.ref a) X.env) _ _ _
    refine Sky.land Zc.steady hfr hf sky' fun h3 fl3 up3 => ?_
    have J3 : Inv X pins σ' H' { s' with heap := h3 } := J.landed nb fl3.1 (up.trans up3) os ag
    obtain ⟨oe3, vs3, he3, hz3, hd3⟩ := fl3.there
    have notFr : ∀ {h : Heap} {o : Obj} {vs : Array Value}, h.FunFrames B (X.env :: X.outer) → h.get? a = some o → o.data = .fields vs → a ∉ frs (X.env :: X.outer) := fun {h o vs} ff e dd hm => by
      obtain ⟨_, o', e', hnf⟩ := ff.mem hm
      rw [e] at e'; cases e'
      exact hnf _ dd
    have nfr := notFr fl3.2.2.1 he3 hd3
    have nL : a ≠ X.env.locals := fun z => nfr (List.mem_filterMap.mpr ⟨X.env, List.mem_cons_self, by rw [hf, z]⟩)
    have nF : a ∉ X.fs := fun hm => by
      obtain ⟨e, he, q⟩ := List.mem_filterMap.mp hm
      exact nfr (List.mem_filterMap.mpr ⟨e, List.mem_cons_of_mem _ he, q⟩)
    have S3 := J3.suite he3 hd3 na nL nF
    have go : ∀ {hds' : List ExceptHandler} {l' : List (Value × (Addr → Value → Option Addr → TS))}, HdsAs X n hds' l' → wManyAs X.K i Wout D l' cls d σ' H' →
        wpAny (model X.prog X.w) X.A (handleBy (.ref a) X.env hds') (SP X pins D) X.xe { s' with heap := h3 } := by
      intro hds' l' hk
      induction hk with
      | nil =>
        intro w
        refine wpAny_handleBy_nil ?_
        obtain ⟨k1, k2, k3, oe, vs, T, oT, ts', he, hz, hd, h1, hr⟩ := id fl3
        unfold PySem.passOn
        refine wpAny_bind (wpAny_field he hd h1 ?_)
        rw [if_neg (show ¬ ((Value.ref T == Value.none) = true) from by simp)]
        have fin : wpAny (model X.prog X.w) X.A (setFlight (.ref a) X.env.frame) (fun _ s4 => wpAny (model X.prog X.w) X.A (throw (.ref a) : Sem Flow) (SP X pins D) X.xe s4) X.xe { s' with heap := h3 } := by
          rw [hf]
          refine HandSPX.setFlight_upZ fl3 fun h4 hh4 up4 => wpAny_throw (tk _ _ ?_)
          exact ⟨a, B, sI, pins, σ', H', cls, d, rfl, J, nb, (up.trans up3).trans up4, .inr (.inr (by rw [hs]; exact hh4)), na, os, ag, w⟩
        first
          | exact wpAny_bind (wpAny_pure (wpAny_bind fin))
          | exact wpAny_bind fin
      | @cons x c ts b₀ suite np pos' hds2 l2 hc hsu r ih =>
        intro w
        obtain ⟨b, hb1, hyes, hno⟩ := w
        refine wpAny_handleBy_cons (codeAny_handlers_test ?_) (by intro q; cases q)
        have LT : PySem.W.Looks (model X.prog X.w) h3 (typeOf (.ref a)) cls := fun A Q E s k q => wpAny_typeOf_ref (k _ _ he3) (by rw [hz3.1]; exact q)
        have LM := PySem.W.exm_one (M := model X.prog X.w) (J3.kIn) LT hb1
        have test : ∀ {Q : Value → Shared → Prop} {E : Value → Shared → Prop}, Q c { s' with heap := h3 } → wpAny (model X.prog X.w) (X.A.mark (some (.ref a))) (eval (.Name x np) X.env) Q E { s' with heap := h3 } := fun {Q E} q => by
          obtain ⟨hg, hdbg, hm | ⟨hm, hv, hnn⟩⟩ := hc
          · exact ld_glob (X := X.suite a ((a, oe3) :: (X.pn ++ pins))) S3 hg hm q hdbg
          · exact ld_blt (X := X.suite a ((a, oe3) :: (X.pn ++ pins))) S3 hg hm hv q hnn hdbg
        refine test (LM.here ?_)
        cases b with
        | true =>
          refine codeAny_handlers_suite_as ?_
          refine HandSPX.lands_againZ fl3 fun h4 fl4 up4 => ?_
          have J4 : Inv X pins σ' H' { s' with heap := h4 } := J.landed nb fl4.1 ((up.trans up3).trans up4) os ag
          obtain ⟨oe4, vs4, he4, hz4, hd4⟩ := fl4.there
          have S4 := J4.suite he4 hd4 na nL nF
          refine store_ok (X := X.suite a ((a, oe4) :: (X.pn ++ pins))) (v := .ref a) S4 hN hi hloc rfl (fun s5 S5 => ?_) (.inr hln)
          refine wpAny_mono ((hsu a oe4 cls d (X.pn ++ pins) hz4 ⟨_, hd4⟩).run [] s5 _ H' _ S5 (hyes rfl a na)) (fun f s6 hsp => ?_) (fun _ _ z => False.elim z)
          have end_ : ∀ {σ6 : L2.St} {H6 : Hp} {Q : Shared → Prop}, Inv (X.suite a ((a, oe4) :: (X.pn ++ pins))) [] σ6 H6 s6 → (∀ s7, Inv X pins (σ6.set i none) H6 s7 → Q s7) →
              wpAny (model X.prog X.w) X.A (do bindName X.env n .none; unbindBehindTheSuite X.env n pos') (fun _ s7 => Q s7) X.xe s6 := fun {σ6 H6 Q} S6 hq => gone_ok (S6.unsuite ok) hN hi hln hq
          cases f with
          | next =>
            obtain ⟨σ6, H6, S6, q6⟩ := hsp
            exact end_ S6 fun s7 J7 => ⟨_, _, J7, q6⟩
          | brk =>
            obtain ⟨σ6, H6, S6, q6⟩ := hsp
            exact end_ S6 fun s7 J7 => ⟨_, _, J7, q6⟩
          | cont =>
            obtain ⟨σ6, H6, S6, q6⟩ := hsp
            exact end_ S6 fun s7 J7 => ⟨_, _, J7, q6⟩
          | ret u =>
            obtain ⟨v6, σ6, H6, S6, r6, q6⟩ := hsp
            exact end_ S6 fun s7 J7 => ⟨_, _, _, J7, r6, q6⟩
        | false =>
          show wpAny _ X.A (handleBy (.ref a) X.env hds2) _ _ _
          exact ih (hno rfl)
    exact go hh w
  · cases f with
    | next =>
      obtain ⟨σ', H', J', q⟩ := hsp
      exact wpAny_execs_nil ⟨σ', H', J'.ofTry ok, q⟩
    | brk =>
      obtain ⟨σ', H', J', q⟩ := hsp
      exact ⟨σ', H', J'.ofTry ok, q⟩
    | cont =>
      obtain ⟨σ', H', J', q⟩ := hsp
      exact ⟨σ', H', J'.ofTry ok, q⟩
    | ret u =>
      obtain ⟨v, σ', H', J', r, q⟩ := hsp
      exact ⟨v, σ', H', J'.ofTry ok, r, q⟩
end
end My
set_option maxRecDepth 100000
set_option maxHeartbeats 4000000
namespace My
open PySem L2 PySem.Spec PyProof.Rows
/-! ### t[:0:-1], t a tuple -/
theorem fm_congr {α β : Type} {f g : α → Option β} : ∀ {l : List α}, (∀ x ∈ l, f x = g x) → l.filterMap f = l.filterMap g
  | [], _ => rfl
  | a :: l, h => by
    rw [List.filterMap_cons, List.filterMap_cons, h a List.mem_cons_self, fm_congr fun x hx => h x (List.mem_cons_of_mem _ hx)]
theorem back_pick (xs : Array Value) : ((List.range (xs.size - 1)).filterMap fun (m : Nat) => xs[(((xs.size : Nat) : Int) - 1 + (m : Int) * (-1)).toNat]?) = (xs.toList.drop 1).reverse := by
  obtain ⟨l⟩ := xs
  cases l with
  | nil => rfl
  | cons a t =>
    simp only [List.size_toArray, List.getElem?_toArray, List.length_cons, List.drop_succ_cons, List.drop_zero]
    rw [Nat.add_sub_cancel]
    have e : ∀ m ∈ List.range t.length, (a :: t)[((((t.length + 1 : Nat)) : Int) - 1 + (m : Int) * (-1)).toNat]? = t.reverse[m]? := fun m hm => by
      have hm := List.mem_range.mp hm
      have e1 : ((((t.length + 1 : Nat)) : Int) - 1 + (m : Int) * (-1)).toNat = (t.length - 1 - m) + 1 := by omega
      rw [e1, List.getElem?_cons_succ, List.getElem?_reverse hm]
    have e2 : (List.range t.length).filterMap (fun (m : Nat) => (a :: t)[((((t.length + 1 : Nat)) : Int) - 1 + (m : Int) * (-1)).toNat]?) = (List.range t.length).filterMap (fun m => t.reverse[m]?) :=
      fm_congr e
    rw [e2]
    have h := PySem.W.krv_all t.reverse.toArray
    simpa using h
theorem back_adjust (n : Nat) : Builtin.Slice.sliceAdjust none (some 0) (-1) (n : Int) = ((n : Int) - 1, if n = 0 then -1 else 0) := by
  by_cases h : n = 0
  · subst h; rfl
  · rw [if_neg h]
    have e : min (0 : Int) ((n : Int) - 1) = 0 := by omega
    show ((n : Int) - 1, min (0 : Int) ((n : Int) - 1)) = _
    rw [e]
theorem back_places (n : Nat) : Builtin.Slice.slicePlaces ((n : Int) - 1) (if n = 0 then -1 else 0) (-1) = n - 1 := by
  unfold Builtin.Slice.slicePlaces
  rw [if_neg (show ¬ ((-1 : Int) > 0) by decide)]
  by_cases h : n = 0
  · subst h; rfl
  · rw [if_neg h]
    by_cases h1 : n = 1
    · subst h1; rfl
    · rw [if_pos (by omega), show (- -1 : Int) = 1 by decide, Int.ediv_one]
      omega
section
variable {prog : Program} {w : World} {A : Around} {E : Value → Shared → Prop} {s : Shared}
theorem back_applied {sl : Addr} {vl vu vs : Value} {n : Nat} {Q : Int × Int × Nat → Shared → Prop} (hs : s.heap.IsSliceOf sl vl vu vs) (pl : IsPart vl none) (pu : IsPart vu (some 0)) (ps : IsPart vs (some (-1)))
    (h : Q ((n : Int) - 1, -1, n - 1) s) : wpAny (model prog w) A (Builtin.Slice.sliceApplied (.ref sl) (pure (n : Int))) Q E s := by
  obtain ⟨os, hos, hcs, hds⟩ := id hs
  unfold Builtin.Slice.sliceApplied Builtin.Slice.sliceFields
  refine wpAny_bind (wpAny_bind (wpAny_field hos hds (x := vl) rfl (wpAny_bind (wpAny_field hos hds (x := vu) rfl (wpAny_bind (wpAny_field hos hds (x := vs) rfl (wpAny_pure ?_)))))))
  refine wpAny_bind (HT.slicePart_ ps ?_)
  show wpAny _ _ (if ((-1 : Int) == 0) = true then _ else _) _ _ s
  rw [if_neg (by decide)]
  refine wpAny_bind (HT.slicePart_ pl (wpAny_bind (HT.slicePart_ pu (wpAny_bind (wpAny_pure ?_)))))
  show wpAny _ _ (match Builtin.Slice.sliceAdjust none (some 0) (-1) (n : Int) with | (lo, hi) => pure (lo, (-1 : Int), Builtin.Slice.slicePlaces lo hi (-1))) _ _ s
  rw [back_adjust n]
  show wpAny _ _ (pure ((n : Int) - 1, (-1 : Int), Builtin.Slice.slicePlaces ((n : Int) - 1) (if n = 0 then -1 else 0) (-1))) _ _ s
  rw [back_places]
  exact wpAny_pure h
theorem getItem_tuple_back {t sl : Addr} {items : Array Value} {vl vu vs : Value} {Q : Value → Shared → Prop} (ht : IsTup s.heap t items) (hs : s.heap.IsSliceOf sl vl vu vs) (pl : IsPart vl none) (pu : IsPart vu (some 0)) (ps : IsPart vs (some (-1)))
    (h : Q (.ref s.heap.objs.size) { s with heap := s.heap.push { cls := .type "tuple", data := .seq (items.toList.drop 1).reverse.toArray } })
    (hsz : items.size ≤ sizeLine) : wpAny (model prog w) A (getItem (.ref t) (.ref sl)) Q E s := by
  have htake : sizeOk (.seq (items.toList.drop 1).reverse.toArray) := by
    show (items.toList.drop 1).reverse.toArray.size ≤ sizeLine
    rw [List.size_toArray, List.length_reverse, List.length_drop, Array.length_toList]
    omega
  obtain ⟨os, hos, hcs, hds⟩ := id hs
  have hTs : s.TypeIs (.ref sl) "slice" := ⟨os, hos, hcs⟩
  unfold getItem
  try with_reducible refine wpAny_holding ?_
  first | refine wpAny_bind (wpAny_pure ?_) | skip
  refine wpAny_bind (wpAny_sequenceKey ht.typeIs (by decide) ?_)
  refine wpAny_bind (wpAny_callSpecial?_slot (name := Str.ofString "__getitem__") ht.typeIs PyProof.Rows.slot_tuple_getitem
    (wpAny_call_entry PyProof.Rows.slot_tuple_getitem ht.typeIs entry_tuple_getitem ?_ (args_tuple_getitem _ _)))
  show wpAny _ _ (Builtin.Tuple.tupleItemsOf (.ref t) >>= _) _ _ s
  refine wpAny_bind (tupleItemsOf_ ht ?_)
  refine wpAny_bind (wpAny_typeOf hTs ?_)
  rw [if_pos (by decide)]
  refine wpAny_bind (back_applied hs pl pu ps ?_)
  have hno : ¬ (((((items.size : Nat) : Int) - 1) == 0 && (-1 : Int) == 1 && (items.size - 1) == items.size) = true) := by
    intro q
    rw [Bool.and_eq_true, Bool.and_eq_true] at q
    exact absurd q.1.2 (by decide)
  show wpAny _ _ (if ((((items.size : Nat) : Int) - 1) == 0 && (-1 : Int) == 1 && (items.size - 1) == items.size) = true then _ else _) _ _ s
  rw [if_neg hno, back_pick]
  first
    | exact wpAny_bind (m := Builtin.Tuple.tupleExact _) (wpAny_newObj_type (wpAny_pure ⟨_, rfl, wpAny_pure h⟩) htake)
    | exact wpAny_bind (m := Builtin.Tuple.tupleExact _) (wpAny_newObj_type (wpAny_bind (wpAny_pure (wpAny_pure ⟨_, rfl, wpAny_pure h⟩))) htake)
    | exact wpAny_bind (wpAny_bind (m := Builtin.Tuple.tupleExact _) (wpAny_newObj_type (wpAny_pure (wpAny_pure ⟨_, rfl, wpAny_pure h⟩)) htake))
    | exact wpAny_bind (wpAny_bind (m := Builtin.Tuple.tupleExact _) (wpAny_newObj_type (wpAny_pure ⟨_, rfl, wpAny_pure h⟩) htake))
end
section
variable {X : Cx}
def tBackT (K : PySem.W.Frag) (te : TE) : TE := fun σ H Q => te σ H fun x H1 => ∃ a xs, x = .ref a ∧ SqT K H1 a xs ∧ ∀ p, H1 p = none → Q (.ref p) (upd H1 p (.tup (xs.drop 1).reverse))
theorem pe_backT {e : Expr} {te : TE} {k k0 : Nat} {p0 p1 p2 p3 pos : Pos} (he : PE X e te) : PE X (.Subscript e (.Slice none (some (.Constant (.int 0) k0 p0)) (some (.UnaryOp .USub (.Constant (.int 1) k p1) p2)) p3) pos) (tBackT X.K te) := by
  refine ⟨fun pins s σ H Q I h => ?_⟩
  refine Subscript_ (thn (he.run pins s σ H _ I h) fun v s1 ⟨x, H1, I1, r1, q1⟩ => ?_)
  obtain ⟨a, xs, ex, hx, q⟩ := q1
  subst ex
  cases r1
  have hst : PO X (some (.UnaryOp .USub (.Constant (.int 1) k p1) p2)) (tPart (tUn (rU fun i => .int (-i)) (tC (.int 1)))) := po_some (pe_un un_neg pe_int)
  have hup : PO X (some (.Constant (.int 0) k0 p0)) (tPart (tC (.int 0))) := po_some pe_int
  refine wpAny_Slice (thn (po_none.run pins s1 σ H1 (fun o H2 => o = none ∧ H2 = H1) I1 ⟨rfl, rfl⟩) fun vl s2 ⟨l, H2, I2, pl, el, e2⟩ => ?_)
  subst el e2
  refine thn (hup.run pins s2 σ H2 (fun o H3 => o = some 0 ∧ H3 = H2) I2 ⟨0, rfl, rfl, rfl⟩) fun vu s3 ⟨u, H3, I3, pu, eu, e3⟩ => ?_
  subst eu e3
  refine thn (hst.run pins s3 σ H3 (fun o H4 => o = some (-1) ∧ H4 = H3) I3 ⟨1, rfl, -1, rfl, rfl, rfl⟩) fun vs s4 ⟨o, H4, I4, ps, eo, e4⟩ => ?_
  subst eo e4
  have I5 : Inv X pins σ H4 { s4 with heap := s4.heap.push { cls := .type "slice", data := .fields #[vl, vu, vs] } } := I4.kept (t' := s4.toks) fun b ob q => Heap.get?_push_of_some _ q
  obtain ⟨its, r, ht, hz⟩ := I5.tuple hx
  have hlen := r.length
  show wpAny (model X.prog X.w) X.A (subscriptTail e (.Slice none (some (.Constant (.int 0) k0 p0)) (some (.UnaryOp .USub (.Constant (.int 1) k p1) p2)) p3) (.ref a) (.ref s4.heap.objs.size)) (EP X pins σ Q) X.xe { s4 with heap := s4.heap.push { cls := .type "slice", data := .fields #[vl, vu, vs] } }
  refine tail_any (ops := [.ref a, .ref s4.heap.objs.size]) ht.typeIs (PyProof.Rows.slot_tuple_getitem.lookup) ?_ (by with_unfolding_all rfl)
  refine getItem_tuple_back ht (Heap.IsSliceOf.new _ vl vu vs) pl pu ps ?_ (by rw [List.size_toArray]; omega)
  refine ⟨.ref _, _, I5.laid (t' := s4.toks) (o := .tup (xs.drop 1).reverse) (fun b ob q => Heap.get?_push_of_some _ q) (Nat.le_refl _) ?_, rfl, q _ (I5.hok.fresh (Nat.le_refl _))⟩
  exact ⟨by rw [List.length_reverse, List.length_drop]; omega, _, (r.drop 1).reverse, IsTup.new _ _⟩
end
end My
set_option maxRecDepth 100000
set_option maxHeartbeats 4000000
namespace My
open PySem L2 PySem.Spec PyProof.Rows
/-! ### tuples that are known to have no dict: their methods can be called -/
def DT (H : Hp) (a : Addr) (xs : List V) : Prop := ∃ o : Obj, o.dict = none ∧ H a = some (.frz o (.tup xs))
theorem DT.sq {K : PySem.W.Frag} {H : Hp} {a : Addr} {xs : List V} (h : DT H a xs) : SqT K H a xs := let ⟨o, _, e⟩ := h; .inl (.inr ⟨o, e⟩)
theorem DT.same {H H' : Hp} {a : Addr} {xs : List V} (h : DT H a xs) (s : Same H H') : DT H' a xs := let ⟨o, d, e⟩ := h; ⟨o, d, s _ _ e⟩
theorem DT.upd {H : Hp} {a b : Addr} {xs : List V} {u o : HO} (h : DT H a xs) (hb : H b = some u) (hu : ∀ o v, u ≠ .frz o v) : DT (L2.upd H b o) a xs := let ⟨w, d, e⟩ := h; ⟨w, d, by rw [upd_ne (ne_of e hb (fun z => hu _ _ z.symm))]; exact e⟩
section
variable {X : Cx}
/-- tuple(xs), a new one -/
def rTupD (K : PySem.W.Frag) : List V → Hp → VK → Prop := fun xs H Q => ∃ p ys, xs = [.ref p] ∧ ((SqL K H p ys ∧ ∀ (l : Addr) (o : Obj), H l = none → o.dict = none → Q (.ref l) (upd H l (.frz o (.tup ys)))) ∨ (SqT K H p ys ∧ Q (.ref p) H))
theorem call_tuple_ofD : CallR X (.type "tuple") (rTupD X.K) := by
  intro pins s σ H xs us Q I r h
  obtain ⟨p, ys, rfl, h⟩ := h
  obtain ⟨u, rfl, rx⟩ := vals1 r
  cases rx
  rcases h with ⟨hq, q⟩ | ⟨hq, q⟩
  · obtain ⟨its, r', pl, hz⟩ := I.list hq
    have hlen := r'.length
    refine call_tuple_list pl.isList (fun h' kp => ?_) (by simp only [List.size_toArray] <;> omega)
    have I1 : Inv X pins σ H { s with heap := h' } := I.kept (t' := s.toks) kp
    have I2 : Inv X pins σ (upd H h'.objs.size (.frz { cls := .type "tuple", data := .seq its.toArray } (.tup ys))) { s with heap := h'.push { cls := .type "tuple", data := .seq its.toArray } } :=
      I1.laid (t' := s.toks) (fun b o e => Heap.get?_push_of_some _ e) (Nat.le_refl _) (show ObjOk X.prog X.w _ _ _ (.frz _ (.tup ys)) from ⟨Heap.get?_push_size _ rfl, hz, its, r', IsTup.new _ _⟩)
    exact ⟨.ref h'.objs.size, _, I2, rfl, q _ _ (I1.hok.fresh (Nat.le_refl _)) rfl⟩
  · obtain ⟨its, r', pl, hz⟩ := I.tuple hq
    exact call_tuple_same pl ⟨.ref p, H, I, rfl, q⟩
def tTupD (t : TA) : TE := fun σ H Q => t σ H fun xs H1 => xs.length ≤ sizeLine ∧ ∀ (p : Addr) (o : Obj), H1 p = none → o.dict = none → Q (.ref p) (upd H1 p (.frz o (.tup xs)))
theorem pe_tupD {es : List Expr} {t : TA} {x1} {pos : Pos} (h : PA X es t) : PE X (.Tuple es x1 pos) (tTupD t) := by
  refine ⟨fun pins s σ H Q I hq => ?_⟩
  refine wpAny_Tuple_spliced (thn (h.run pos pins s σ H _ I hq) fun us s1 ⟨xs, H1, I1, r, z, q⟩ => ⟨by rw [← r.length]; exact z, ?_⟩)
  have hf : H1 s1.heap.objs.size = none := I1.hok.fresh (Nat.le_refl _)
  refine ⟨.ref s1.heap.objs.size, upd H1 s1.heap.objs.size (.frz { cls := .type "tuple", data := .seq us.toArray } (.tup xs)), I1.laid (t' := s1.toks) (fun b u e => Heap.get?_push_of_some _ e) (Nat.le_refl _) ?_, rfl, q _ _ hf rfl⟩
  exact ⟨Heap.get?_push_size _ rfl, z, us, r, ⟨_, Heap.get?_push_size _ rfl, rfl, _, rfl⟩⟩
/-- t.m(e, ..) -/
def tBMT (r : V → List V → Hp → VK → Prop) (to : TE) (t : TA) : TE := fun σ H Q => to σ H fun x H1 => (∃ p xs, x = .ref p ∧ DT H1 p xs) ∧ t σ H1 fun xs H2 => r x xs H2 Q
theorem pe_bmT {o e : Expr} {es : List Expr} {to : TE} {t : TA} {name : Str} {apos cpos : Pos} {id : String} {r : V → List V → Hp → VK → Prop} (pa : PlainAttrs "tuple") (slot : Slot "tuple" name id) (hty : typeOf (.builtin id) = pure (.type "method_descriptor")) (hm : MtR X id r) (ho : PE X o to) (ha : PA X (e :: es) t)
    (hbase : attributeBase o name X.env (eval o X.env) = eval o X.env := by rfl)
    (hfew : ((backTo cpos (starEach (e :: es) X.env)).all (fun x => !x.1) && (backToKw cpos (keywordEach [] X.env)).all (fun x => x.1.isSome)
      && decide ((e :: es).length + ([] : List Keyword).length + (if ([] : List Keyword).isEmpty then 0 else 1) < 30)) = true := by rfl)
    (hline : (apos.endLine == cpos.line) = true := by rfl) (hs : starEach (e :: es) X.env = (false, eval e X.env) :: starEach es X.env := by rfl) (hplain : (backTo cpos (starEach es X.env)).any (·.1) = false := by rfl) :
    PE X (.Call (.Attribute o name apos) (e :: es) [] cpos) (tBMT r to t) := by
  refine ⟨fun pins s σ H Q I h => ?_⟩
  refine wpAny_Call_method_late hbase hfew hline rfl (thn (ho.run pins s σ H _ I h) fun v s1 ⟨x, H1, I1, r1, ty, q1⟩ => ?_)
  obtain ⟨p, xs, rfl, ob, hd, hfz⟩ := ty
  obtain rfl : v = Value.ref p := r1
  obtain ⟨eo, _, its, _, ob', e', hc, _⟩ := (show ObjOk X.prog X.w H1 s1.heap p (.frz ob (.tup xs)) from I1.hok p _ hfz)
  rw [eo] at e'
  cases e'
  have h1 : s1.TypeIs (.ref p) "tuple" := ⟨ob, eo, hc⟩
  have h2 : ∀ a, Value.ref p = .ref a → ∃ ob, s1.heap.get? a = some ob ∧ ob.dict = none := fun a e => by cases e; exact ⟨ob, eo, hd⟩
  refine ⟨"tuple", id, pa, slot, hty, h1, h2, ?_⟩
  have hA := ha.run cpos pins s1 σ H1 _ I1 q1
  rw [hs] at hA ⊢
  refine Calls.callWith_builtin (by show (false || (backTo cpos (starEach es X.env)).any (·.1)) = false; rw [hplain] <;> rfl) (Calls.evalArgs_plain ?_)
  exact thn hA fun us s2 ⟨vs, H2, I2, r2, q2⟩ => hm pins s2 σ H2 (.ref p) vs (.ref p) us Q I2 rfl r2 q2
end
end My
set_option maxRecDepth 100000
set_option maxHeartbeats 4000000
namespace My
open PySem PySem.Spec PyProof.Rows L2
theorem rd_ne {H : Hp} {a b : Addr} {u v : HO} (h : L2.Rd H a u) (hb : H b = some v) (h1 : u ≠ v) (h2 : ∀ o, HO.frz o u ≠ v) : a ≠ b := by
  rcases h with h | ⟨o, h⟩
  · exact ne_of h hb h1
  · exact ne_of h hb (h2 o)
theorem rd_upd {H : Hp} {a b : Addr} {u o : HO} (h : L2.Rd H a u) (hne : a ≠ b) : L2.Rd (upd H b o) a u := by
  rcases h with h | ⟨w, h⟩
  · exact .inl (by rw [upd_ne hne]; exact h)
  · exact .inr ⟨w, by rw [upd_ne hne]; exact h⟩
theorem DT.rd {H : Hp} {a : Addr} {xs : List V} (h : DT H a xs) : L2.Rd H a (.tup xs) := let ⟨o, _, e⟩ := h; .inr ⟨o, e⟩
section
variable {X : Cx} {pins : List (Addr × Obj)} {σ : L2.St} {H : Hp} {s : Shared} {l it S : Addr} {i : Nat}
/-- list.extend over it -/
theorem tit_loopR {A1 : Around} {ys : List V} {Rs : Result → Shared → Prop} (hh : A1.handled = none) :
    ∀ (k i : Nat) (H : Hp) (s : Shared), ys.length - i = k → i ≤ ys.length → Inv X pins σ H s → H it = some (TitO l it i) → L2.Rd H l (.tup ys) → H S = some (.lst (ys.take i)) → ys.length < sizeLine →
      (∀ H2 s2, Inv X pins σ H2 s2 → (∀ b, b ≠ it → b ≠ S → H2 b = H b) → H2 S = some (.lst ys) → Rs (.ok (.ret .none)) s2) → codeAny (model X.prog X.w) A1 (.builtin "list.extend.loop" ⟨[.ref S, .ref it, .none], []⟩) Rs s := by
  intro k
  induction k with
  | zero =>
    intro i H s hk hi I h1 h2 h3 hz hR
    have hne : S ≠ it := ne_of h3 h1 (fun z => nomatch z)
    obtain ⟨its, rv, pl, _⟩ := I.tuple (.inl h2)
    refine codeAny_builtin PySem.F.entry_extend_loop ?_
    rw [Around.under_plainId PySem.F.plain_extend_loop _]
    show wpAny _ A1.in1 (pyNext (.ref it) >>= _) _ _ s
    have hno : (its.toArray)[i]? = none := by
      have := rv.length
      rw [List.getElem?_toArray, List.getElem?_eq_none_iff]
      omega
    refine wpAny_bind (tup_end hh (titO_get I h1) (show s.heap.IsTuple l its.toArray from pl) hno fun h' k' e' => wpAny_pure ?_)
    have J := I.write (t' := s.toks) (x := it) (e := it) (o := AnyO it) (by rw [h1]; exact True.intro) (.inl rfl) k' e' (anyO_ok e')
    refine hR _ _ J (fun b hb _ => upd_ne hb) ?_
    rw [upd_ne hne, h3, List.take_of_length_le (by omega)]
  | succ k ih =>
    intro i H s hk hi I h1 h2 h3 hz hR
    have hne : S ≠ it := ne_of h3 h1 (fun z => nomatch z)
    have hln : l ≠ it := rd_ne h2 h1 (fun z => nomatch z) (fun _ z => nomatch z)
    have hlS : l ≠ S := rd_ne h2 h3 (fun z => nomatch z) (fun _ z => nomatch z)
    obtain ⟨its, rv, pl, _⟩ := I.tuple (.inl h2)
    have hlen := rv.length
    have hlt : i < ys.length := by omega
    obtain ⟨u, hu, ru⟩ := rv.get (i := i) (x := ys[i]) (by simp [hlt])
    refine codeAny_builtin PySem.F.entry_extend_loop ?_
    rw [Around.under_plainId PySem.F.plain_extend_loop _]
    show wpAny _ A1.in1 (pyNext (.ref it) >>= _) _ _ s
    refine wpAny_bind (wpAny_pyNext_tuple_item (titO_get I h1) (show s.heap.IsTuple l its.toArray from pl) (x := u) (by rw [List.getElem?_toArray]; exact hu) fun h' hit hs => ?_)
    have J := I.write (t' := s.toks) (x := it) (e := it) (o := TitO l it (i + 1)) (by rw [h1]; exact True.intro) (.inl rfl) (fun b o hb e => hs.extBut b o hb e) ⟨_, hit.choose_spec.1⟩ (titO_ok hit)
    have h3' : upd H it (TitO l it (i + 1)) S = some (.lst (ys.take i)) := by rw [upd_ne hne]; exact h3
    show wpAny _ A1.in1 (updateSeq S (·.push u) >>= _) _ _ _
    obtain ⟨z, its3, n3, r3, hl3, e3⟩ := J.lstM h3'
    have hl4 : its3.length = i := by rw [← hl3, List.length_take]; omega
    refine wpAny_bind (wpAny_updateSeq e3 rfl (wpAny_pure ⟨plainId_quiet PySem.F.plain_extend_loop _, ?_⟩) (by rw [List.size_toArray]; omega) (by show (its3.toArray.push u).size ≤ sizeLine + 1; rw [Array.size_push, List.size_toArray]; omega))
    have et : ys.take (i + 1) = ys.take i ++ [ys[i]] := by rw [List.take_succ]; simp [hlt]
    have J2 := J.lset (f := (·.push u)) (its' := its3 ++ [u]) (t' := s.toks) (ys := ys.take (i + 1)) h3' e3 (by simp) (by rw [et]; exact r3.append (.cons ru .nil)) (by rw [List.length_take]; omega)
    refine ih (i + 1) _ _ (by omega) hlt J2 ?_ ?_ upd_same hz fun H2 s2 I2 k2 e2 => hR H2 s2 I2 (fun b hb hc => ?_) e2
    · rw [upd_ne (Ne.symm hne), upd_same]
    · exact rd_upd (rd_upd h2 hln) hlS
    · rw [k2 b hb hc, upd_ne hc, upd_ne hb]
end
/-- list(o): its __iter__ gives a tuple's iterator, its __len__ a number -/
def rLstItR (C : Addr) (spI spL : Sp) (EI EL : XK) : List V → Hp → VK → Prop := fun xs H Q => ∃ a dx fs, xs = [.ref a] ∧ H a = some (.ins C dx fs) ∧ ∀ q, H q = none → q ≠ a →
  spI [.ref a] (upd H q (.lst [])) (fun v H1 => ∃ it l ys, v = .ref it ∧ H1 it = some (TitO l it 0) ∧ L2.Rd H1 l (.tup ys) ∧ H1 q = some (.lst []) ∧ H1 a = some (.ins C dx fs) ∧ ys.length < sizeLine ∧
    spL [.ref a] H1 (fun n H2 => H2 = H1 ∧ ∃ k : Int, n = .int k ∧ 0 ≤ k ∧ k < 1000) EL ∧ ∀ H2, (∀ b, b ≠ it → b ≠ q → H2 b = H1 b) → H2 q = some (.lst ys) → Q (.ref q) H2) EI
section
variable {X : Cx} {CI : CXT} {n : Nat} {C fi fl : Addr} {fdI fdL : FuncData} {psI psL : List Str} {spI spL : Sp} {EI EL : XK}
theorem call_listItR (hc : ItL X.K C fi fl) (FI : FnOk X.prog X.w X.K X.mg X.base CI n fi fdI psI spI) (bI : Binds X.K fdI psI []) (xI : Passes CI X EI)
    (FL : FnOk X.prog X.w X.K X.mg X.base CX0 n fl fdL psL spL) (bL : Binds X.K fdL psL []) (hr : Room (n + 4) X.A) : CallR X (.type "list") (rLstItR C spI spL EI EL) := by
  intro pins s σ H xs us Q I rv h
  obtain ⟨a, dx, fs, rfl, ha, hq⟩ := h
  obtain ⟨u, rfl, ru⟩ := rv.one
  cases ru
  have sb : Sub X (n + 2) X.A.in1.in1 := (Sub.in1 (Sub.in1 (⟨hr, rfl⟩ : Sub X (n + 4) X.A)))
  refine callType_codes (Q₁ := fun obj s₁ => obj = .ref s.heap.objs.size ∧ s₁ = { s with heap := s.heap.push { cls := .type "list", data := .seq #[] } }) PySem.F.called_list (PySem.F.typeCall_list_1 _) PySem.F.entry_list_init (code_list_new _ ⟨rfl, rfl⟩) fun obj s₁ h₁ => ?_
  obtain ⟨rfl, rfl⟩ := h₁
  have hS : (s.heap.push { cls := .type "list", data := .seq #[] }).get? s.heap.objs.size = some { cls := .type "list", data := .seq #[] } := Heap.get?_push_size _ rfl
  refine ⟨⟨_, hS, rfl⟩, PySem.F.args_list_init_2 _ _, ?_⟩
  have fr : H s.heap.objs.size = none := I.hok.fresh (Nat.le_refl _)
  have sp0 := hq _ fr (fun z => by rw [z, ha] at fr; cases fr)
  have I1 : Inv X pins σ (upd H s.heap.objs.size (.lst [])) { s with heap := s.heap.push { cls := .type "list", data := .seq #[] } } := I.lnew (its := []) (t' := s.toks) .nil (Nat.zero_le _)
  show wpAny _ _ (do let old ← Builtin.List.listItems (.ref s.heap.objs.size); Builtin.List.listUpdate (.ref s.heap.objs.size) (fun _ => #[]); letGo old.toList.reverse; Builtin.List.listExtendWith (.ref s.heap.objs.size) (.ref a) .none) _ _ _
  refine wpAny_bind ?_
  unfold Builtin.List.listItems
  refine wpAny_bind (wpAny_seqItems hS rfl (wpAny_pure ?_))
  show wpAny _ _ (updateSeq s.heap.objs.size (fun _ => #[]) >>= fun _ => letGo (#[] : Array Value).toList.reverse >>= fun _ => Builtin.List.listExtendWith (.ref s.heap.objs.size) (.ref a) .none) _ _ _
  refine wpAny_bind (wpAny_updateSeq hS rfl ?_)
  have I2 := I1.lset (f := fun _ => #[]) (its := []) (its' := []) (ys := []) (t' := s.toks) upd_same hS rfl .nil (Nat.zero_le _)
  rw [upd_upd] at I2
  refine wpAny_bind (wpAny_letGo ?_)
  have ha2 : upd H s.heap.objs.size (.lst []) a = some (.ins C dx fs) := by rw [upd_ne (ne_of_none ha fr)]; exact ha
  have hne : s.heap.objs.size ≠ a := fun z => by rw [z, ha] at fr; cases fr
  generalize hq0 : s.heap.objs.size = q at *
  generalize hH0 : upd H q (.lst []) = H0 at *
  obtain ⟨mA, J, _⟩ := ins_get I2.hok ha2
  obtain ⟨od, J, _⟩ := J.look
  obtain ⟨m0, hF⟩ := I2.fr
  unfold Builtin.List.listExtendWith
  refine wpAny_bind (J.type.here ?_)
  have h1 : Builtin.List.listSameRef (.ref q) (.ref a) = false := by simp [Builtin.List.listSameRef, hne]
  simp only [h1, (rfl : (Value.ref C == Value.type "list") = false), (rfl : (Value.ref C == Value.type "tuple") = false), Bool.or_false, Bool.false_eq_true, if_false]
  refine wpAny_bind (PySem.W.owit_iter hF I2.ok.mod.kin J hc.it hc.itF ?_)
  refine wpAny_mono (call_at FI bI xI (A := X.A.in1.in1) (sb.mono (by omega)).room sb.fr I2 (vs := [.ref a]) (.cons rfl .nil) sp0) (fun v s3 z => ?_) fun _ _ z => z
  obtain ⟨x, H1, I3, r3, it, l, ys, ex, e1, e2, e3, e4, hz, q1, q2⟩ := z
  subst ex
  obtain rfl : v = Value.ref it := r3
  have hit := titO_get I3 e1
  unfold PySem.W.OwitIt
  refine wpAny_specialOf (show s3.TypeIs (.ref it) "tuple_iterator" from hit.typeIs) PySem.F.slot_tuple_iterator_next.lookup ?_
  show wpAny _ _ _ _ _ s3
  refine wpAny_bind (wpAny_holding ?_)
  obtain ⟨mB, J3, _⟩ := ins_get I3.hok e4
  obtain ⟨od3, J3, _⟩ := J3.look
  obtain ⟨m3, hF3⟩ := I3.fr
  unfold Builtin.List.listLengthHint
  refine wpAny_bind (wpAny_bind (J3.type.here ((PySem.W.looks_findIn I3.kIn hc.ln).here ?_)))
  refine PySem.W.KFB.if_not rfl ?_
  refine PySem.W.KFB.if_so rfl ?_
  refine wpAny_bind (wpAny_rule (wpAny_bind (wpAny_attempt ?_)))
  refine PySem.W.len_K hF3 I3.ok.mod.kin J3 hc.ln hc.lnF (wpAny_mono (call_at0 FL bL (A := X.A.in1.in1.in1) (Sub.in1 (sb.mono (show n + 1 ≤ n + 2 by omega))).room sb.fr I3 (vs := [.ref a]) (.cons rfl .nil) q1) (fun v s4 z => ?_) fun _ _ z => z)
  obtain ⟨x, H2, I4, r4, eH, k0, ek, hk0, hk1⟩ := z
  subst ek
  subst eH
  obtain ⟨tk4, rfl⟩ := r4
  refine ⟨⟨hk0, by omega⟩, ?_⟩
  refine wpAny_bind (wpAny_of_eq (a := some k0) rfl ?_)
  show wpAny _ _ (if Builtin.List.listTooLong k0.toNat = true then _ else _) _ _ _
  refine PySem.W.KFB.if_not (notLongL (by rw [sizeLine_eq]; omega)) (wpAny_pure ?_)
  have I5 := I4.tok (s4.toks + 1)
  have hne1 : q ≠ it := ne_of e3 e1 (fun z => nomatch z)
  have go : ∀ s5, Inv X pins σ H2 s5 → codeAny (model X.prog X.w) X.A.in1 (.builtin "list.extend.loop" ⟨[.ref q, .ref it, .none], []⟩) (wants (fun r s₂ => r = .none ∧ EP X pins σ Q (.ref q) s₂) X.xe) s5 := fun s5 I6 =>
    tit_loopR (A1 := X.A.in1) (Rs := wants (fun r s₂ => r = .none ∧ EP X pins σ Q (.ref q) s₂) X.xe) (show X.A.in1.handled = none from hr.hd) ys.length 0 H2 s5 (by omega) (Nat.zero_le _) I6 e1 e2 (by rw [List.take_zero]; exact e3) hz fun H7 s7 I7 k7 e7 => ⟨rfl, .ref q, H7, I7, rfl, q2 H7 k7 e7⟩
  refine wpAny_ite_split (fun _ => ?_) (fun _ => wpAny_pure ⟨plainId_quiet PySem.F.plain_extend_loop _, go _ I5⟩)
  refine wpAny_bind (wpAny_rule (wpAny_bind ?_))
  show wpAny _ _ (updateSeq q (·.push .none) >>= fun _ => updateSeq q (·.pop)) _ _ _
  obtain ⟨z, its, n5, r5, hl5, e5⟩ := I5.lstM e3
  cases r5
  refine wpAny_bind (wpAny_updateSeq e5 rfl ?_)
  have I6 := I5.lset (f := (·.push Value.none)) (its' := [Value.none]) (ys := [.non]) (t' := s4.toks + 1) e3 e5 (by simp) (.cons rfl .nil) (by rw [List.length_singleton, sizeLine_eq]; decide)
  obtain ⟨z6, its6, n6, r6, hl6, e6⟩ := I6.lstM upd_same
  obtain ⟨u6, rfl, ru6⟩ := r6.one
  refine wpAny_updateSeq e6 rfl (wpAny_pure ⟨plainId_quiet PySem.F.plain_extend_loop _, go _ ?_⟩) (by show 1 ≤ sizeLine; rw [sizeLine_eq]; decide) (by show 0 ≤ sizeLine + 1; exact Nat.zero_le _)
  have I7 := I6.lset (f := (·.pop)) (its := [u6]) (its' := []) (ys := []) (t' := s4.toks + 1) upd_same e6 (by rfl) .nil (Nat.zero_le _)
  rw [upd_upd] at I7
  have hH : upd H2 q (.lst []) = H2 := by
    funext b
    by_cases hb : b = q
    · rw [hb, upd_same, e3]
    · rw [upd_ne hb]
  rw [hH] at I7
  exact I7
end
end My
set_option maxRecDepth 100000
set_option maxHeartbeats 4000000
namespace My
open PySem L2 PySem.Spec PyProof.Rows
section
variable {X : Cx} {CX : CXT} {k : Nat} {f C : Addr} {fd : FuncData} {ps : List Str} {sp : Sp} {m : Str} {o e : Expr} {es : List Expr} {ta : TE} {t : TA} {apos pos : Pos}
/-- o.m(e, ..) that may raise, what is wished of the exception may speak of the slots -/
def tMethE (C : Addr) (m : Str) (sp : Sp) (E : L2.St → XK) (ta : TE) (t : TA) : TE := fun σ H Q => ta σ H fun x H1 => ∃ a dx fs, x = .ref a ∧ H1 a = some (.ins C dx fs) ∧ fs.lookup m = none ∧ t σ H1 fun vs H2 => sp (x :: vs) H2 Q (E σ)
theorem pe_methE {E : L2.St → XK} {pl : Sem Bool} (he : PE X o ta) (c : Cls X.K C) (hm : Meth X.K C m f) (F : FnOk X.prog X.w X.K X.mg X.base CX k f fd ps sp) (hr : Room k X.A) (hb : Binds X.K fd ps []) (hx : ∀ σ, PassesAt CX X σ (E σ)) (ha : PA X (e :: es) t)
    (hst : starEach (e :: es) X.env = (false, eval e X.env) :: starEach es X.env := by rfl) (hpl : (backTo pos (starEach es X.env)).any (·.1) = false := by rfl)
    (ht : eval (.Call (.Attribute o m apos) (e :: es) [] pos) X.env = (do
      let ov ← eval o X.env
      standAt apos.atName
      let (f, first) ← holding [ov] (getMethod ov m pl)
      callWith pos f first (backTo pos (starEach (e :: es) X.env)) (backToKw pos (keywordEach [] X.env))) := by rfl) :
    PE X (.Call (.Attribute o m apos) (e :: es) [] pos) (tMethE C m sp E ta t) := by
  refine ⟨fun pins s σ H Q I h => ?_⟩
  refine PySem.W.methodCall_KW (pl := pl) (thn (he.run pins s σ H _ I h) fun u s1 ⟨x, H1, I1, rx, a, dx, fs, ex, ea, l, q⟩ => ?_) ht
  subst ex
  obtain rfl : u = Value.ref a := rx
  refine getmeth_ok I1 ea c hm l ?_
  refine PySem.W.callWith_K (first := [.ref a]) (h₀ := X.base) I.ok.mod.kin hm.kp (thn (ha.run pos pins s1 σ H1 _ I1 q) fun us s2 ⟨vs, H2, I2, r, q2⟩ => ⟨I2.kIn, ?_⟩) hst hpl
  exact run_fnS (us := .ref a :: us) (vs := .ref a :: vs) F hr hb (hx σ) I2 (.cons rfl r) q2
theorem pe_methE0 {E : L2.St → XK} {pl : Sem Bool} (he : PE X o ta) (c : Cls X.K C) (hm : Meth X.K C m f) (F : FnOk X.prog X.w X.K X.mg X.base CX k f fd ps sp) (hr : Room k X.A) (hb : Binds X.K fd ps []) (hx : ∀ σ, PassesAt CX X σ (E σ))
    (ht : eval (.Call (.Attribute o m apos) [] [] pos) X.env = (do
      let ov ← eval o X.env
      standAt apos.atName
      let (f, first) ← holding [ov] (getMethod ov m pl)
      callWith pos f first (backTo pos (starEach [] X.env)) (backToKw pos (keywordEach [] X.env))) := by rfl) :
    PE X (.Call (.Attribute o m apos) [] [] pos) (tMethE C m sp E ta tNil) := by
  refine ⟨fun pins s σ H Q I h => ?_⟩
  refine PySem.W.methodCall_KW (pl := pl) (thn (he.run pins s σ H _ I h) fun u s1 ⟨x, H1, I1, rx, a, dx, fs, ex, ea, l, q⟩ => ?_) ht
  subst ex
  obtain rfl : u = Value.ref a := rx
  refine getmeth_ok I1 ea c hm l ?_
  exact PySem.W.callWith_K0 (first := [.ref a]) I1.kIn hm.kp (run_fnS (us := [.ref a]) (vs := [.ref a]) F hr hb (hx σ) I1 (.cons rfl .nil) q)
end
end My
set_option maxRecDepth 100000
set_option maxHeartbeats 4000000
set_option exponentiation.threshold 10000
namespace My
open PySem L2
theorem hu10 {A : Around} {k : Nat} (hr : Room k A) : A.units + 10 < cLine := by have := hr.un; omega
/-- text * int -/
theorem op_mulS {X : Cx} : OpR X (binaryOp .Mult) (fun x y H Q => ∃ (z : Str) (n : Int), x = .str z ∧ y = .int n ∧ MulOk z n ∧ Q (.str (Txt.mul z n)) H) := by
  intro pins s σ H x y v u Q I rx ry h
  obtain ⟨z, n, rfl, rfl, ok, q⟩ := h
  obtain ⟨t, rfl⟩ := rx
  obtain ⟨t', rfl⟩ := ry
  exact PySem.SB.mul ok fun t' k => ⟨.str (Txt.mul z n), H, I.tok _, ⟨_, rfl⟩, q⟩
def rLen2 (K : PySem.W.Frag) : List V → Hp → VK → Prop := fun xs H Q => ∃ p ys, xs = [.ref p] ∧ (SqL K H p ys ∨ SqT K H p ys) ∧ Q (.int ys.length) H
def rListOf (K : PySem.W.Frag) : List V → Hp → VK → Prop := fun xs H Q => ∃ p ys, xs = [.ref p] ∧ (SqL K H p ys ∨ SqT K H p ys) ∧ ∀ l, H l = none → Q (.ref l) (upd H l (.lst ys))
def rTupOf (K : PySem.W.Frag) : List V → Hp → VK → Prop := fun xs H Q => ∃ p ys, xs = [.ref p] ∧ ((SqL K H p ys ∧ ∀ l, H l = none → Q (.ref l) (upd H l (.tup ys))) ∨ (SqT K H p ys ∧ Q (.ref p) H))
/-! ### texts in lists -/
abbrev sv (ss : List Str) : List V := ss.map V.str
theorem len_sv (ss : List Str) : (sv ss).length = ss.length := List.length_map ..
theorem flat_sv (ss : List Str) : (sv ss).all flatV = true := by
  rw [List.all_eq_true]; intro x hx; obtain ⟨s, _, rfl⟩ := List.mem_map.mp hx; rfl
theorem eqV_str (a b : Str) : eqV (.str a) (.str b) = decide (a = b) := by
  first | rfl | (simp only [eqV]; by_cases h : a = b <;> simp [h])
theorem inV_str (x : Str) (ss : List Str) : inV (.str x) (sv ss) = decide (x ∈ ss) := by
  unfold inV
  rw [Bool.eq_iff_iff, List.any_eq_true, decide_eq_true_iff]
  constructor
  · rintro ⟨y, hy, e⟩
    obtain ⟨s, hs, rfl⟩ := List.mem_map.mp hy
    rw [eqV_str, decide_eq_true_iff] at e
    rw [← e]; exact hs
  · intro h
    exact ⟨.str x, List.mem_map.mpr ⟨x, h, rfl⟩, by rw [eqV_str]; simp⟩
theorem sv_get {ss : List Str} {i : Nat} {v : V} (h : (sv ss)[i]? = some v) : ∃ s, ss[i]? = some s ∧ v = .str s := by
  rw [List.getElem?_map] at h
  cases e : ss[i]? with
  | none => rw [e] at h; cases h
  | some t => rw [e] at h; exact ⟨t, rfl, (Option.some.inj h).symm⟩
theorem cut_take {xs : List V} {k : Nat} (h : k ≤ xs.length) : cutV xs none (some (k : Int)) = xs.take k := by
  unfold cutV
  rw [HT.sIx_none, HT.sIx_nat, Nat.min_eq_left h]
  simp
theorem cut_drop {xs : List V} {k : Nat} (h : k ≤ xs.length) : cutV xs (some (k : Int)) none = xs.drop k := by
  unfold cutV
  rw [HT.sIx_none, HT.sIx_nat, Nat.min_eq_left h]
  rw [List.take_of_length_le (by rw [List.length_drop]; exact Nat.le_refl _)]
theorem sv_take (ss : List Str) (k : Nat) : (sv ss).take k = sv (ss.take k) := List.map_take.symm
theorem sv_drop (ss : List Str) (k : Nat) : (sv ss).drop k = sv (ss.drop k) := List.map_drop.symm
/-! ### names -/
def Letters (l : List Nat) : Prop := ∀ c ∈ l, 97 ≤ c ∧ c ≤ 122
structure Good (z : Str) : Prop where
  pos : 1 ≤ z.length
  le : z.length ≤ 8
  let_ : Letters z.cps.toList
/-! ### the first stray of a list -/
def badAt (cs ns : List Str) (i : Nat) : Bool := match ns[i]? with | some x => !decide (x ∈ cs) || decide (x ∈ ns.take i) | none => false
def stray (cs ns : List Str) : Option Nat := (List.range ns.length).find? (badAt cs ns)
def fault (cs ns : List Str) : Option Nat := match stray cs ns with | some i => some i | none => if ns.length < cs.length then some ns.length else none
def optV : Option Nat → V
  | none => .non
  | some i => .int (i : Nat)
theorem stray_some {cs ns : List Str} {i : Nat} (hi : i < ns.length) (h1 : badAt cs ns i = true) (h2 : ∀ j, j < i → badAt cs ns j = false) : stray cs ns = some i := by
  unfold stray
  rw [List.find?_range_eq_some]
  exact ⟨h1, List.mem_range.mpr hi, fun j hj => by rw [h2 j hj]; rfl⟩
theorem stray_none {cs ns : List Str} (h2 : ∀ j, j < ns.length → badAt cs ns j = false) : stray cs ns = none := by
  unfold stray
  rw [List.find?_eq_none]
  intro j hj
  rw [h2 j (List.mem_range.mp hj)]
  exact Bool.false_ne_true
theorem stray_none_iff {cs ns : List Str} : stray cs ns = none ↔ (∀ x ∈ ns, x ∈ cs) ∧ ns.Nodup := by
  unfold stray
  rw [List.find?_eq_none]
  constructor
  · intro h
    have hb : ∀ i (hi : i < ns.length), ns[i] ∈ cs ∧ ns[i] ∉ ns.take i := fun i hi => by
      have := h i (List.mem_range.mpr hi)
      unfold badAt at this
      rw [List.getElem?_eq_getElem hi] at this
      simpa using this
    refine ⟨fun x hx => ?_, ?_⟩
    · obtain ⟨i, hi, rfl⟩ := List.getElem_of_mem hx
      exact (hb i hi).1
    · rw [List.nodup_iff_pairwise_ne, List.pairwise_iff_getElem]
      intro i j hi hj hij e
      refine (hb j hj).2 ?_
      rw [← e]
      exact List.mem_take_iff_getElem.mpr ⟨i, by omega, rfl⟩
  · rintro ⟨h1, h2⟩ i hi
    have hi := List.mem_range.mp hi
    unfold badAt
    rw [List.getElem?_eq_getElem hi]
    have a := h1 _ (List.getElem_mem hi)
    have b : ns[i] ∉ ns.take i := fun hm => by
      obtain ⟨j, hj, e⟩ := List.mem_take_iff_getElem.mp hm
      rw [List.nodup_iff_pairwise_ne, List.pairwise_iff_getElem] at h2
      exact h2 j i (by omega) hi (by omega) e
    simp [a, b]
theorem fault_none {cs ns : List Str} (h1 : ∀ x ∈ ns, x ∈ cs) (h2 : ns.Nodup) (h3 : cs.length ≤ ns.length) : fault cs ns = none := by
  unfold fault
  rw [stray_none_iff.mpr ⟨h1, h2⟩]
  show (if ns.length < cs.length then _ else _) = _
  rw [if_neg (by omega)]
/-- the law's list of what is wrong -/
def wrongs (cs ns : List Str) : List Nat := (List.range ns.length).filter (badAt cs ns) ++ if ns.length < cs.length then [ns.length] else []
theorem wrongs_head (cs ns : List Str) : (wrongs cs ns).head? = fault cs ns := by
  unfold wrongs fault stray
  rw [List.head?_append, List.head?_filter]
  cases (List.range ns.length).find? (badAt cs ns) with
  | some i => rfl
  | none =>
    show Option.or none _ = (if _ then _ else _)
    split <;> rfl
/-! ### runs -/
def runAt (fl : List Bool) (i : Nat) : Bool := fl.getD i false && !(decide (0 < i) && fl.getD (i - 1) false)
def runs (fl : List Bool) : Nat := ((List.range fl.length).filter (runAt fl)).length
theorem runs_le (fl : List Bool) : runs fl ≤ fl.length := by
  unfold runs
  have := List.length_filter_le (runAt fl) (List.range fl.length)
  rw [List.length_range] at this
  exact this
/-! ### the picture -/
theorem mul_len (n : Int) : (Txt.mul (" " : Str) n).length = n.toNat := by
  unfold Txt.mul
  have h1 : ((" " : Str).length == 0) = false := by decide
  split
  · rename_i h
    show 0 = n.toNat
    omega
  · rename_i h
    split
    · rename_i h'
      rw [h1, Bool.or_false, beq_iff_eq] at h'
      subst h'
      rfl
    · have e : ∀ (m : Nat) (acc : Array Nat), ((List.replicate m (" " : Str).cps).foldl (· ++ ·) acc).size = acc.size + m := by
        intro m
        induction m with
        | zero => intro acc; rfl
        | succ m ih =>
          intro acc
          rw [List.replicate_succ, List.foldl_cons, ih, Array.size_append]
          have : (" " : Str).cps.size = 1 := by decide
          rw [this]; omega
      show ((List.replicate n.toNat (" " : Str).cps).foldl (· ++ ·) #[]).size = n.toNat
      rw [e]
      show 0 + n.toNat = _
      omega
theorem mul_cps (n : Int) : (Txt.mul (" " : Str) n).cps = Array.replicate n.toNat 32 := by
  unfold Txt.mul
  have h1 : ((" " : Str).length == 0) = false := by decide
  split
  · rename_i h
    have : n.toNat = 0 := by omega
    rw [this]
    rfl
  · rename_i h
    split
    · rename_i h'
      rw [h1, Bool.or_false, beq_iff_eq] at h'
      subst h'
      decide
    · have e : ∀ (m : Nat) (acc : Array Nat), ((List.replicate m (" " : Str).cps).foldl (· ++ ·) acc) = acc ++ Array.replicate m 32 := by
        intro m
        induction m with
        | zero => intro acc; simp
        | succ m ih =>
          intro acc
          rw [List.replicate_succ, List.foldl_cons, ih]
          have : (" " : Str).cps = #[32] := by decide
          rw [this, Array.append_assoc]
          congr 1
          apply Array.toList_inj.mp
          simp [List.replicate_succ]
      show ((List.replicate n.toNat (" " : Str).cps).foldl (· ++ ·) #[]) = _
      rw [e]
      simp
theorem str_ext {a b : Str} (h : a.cps = b.cps) : a = b := by cases a; cases b; exact congrArg Str.mk h
theorem append_cps (a b : Str) : (a ++ b).cps = a.cps ++ b.cps := rfl
theorem ljust_eq (x : Str) (W : Int) : Txt.ljust x W = x ++ Txt.mul " " (W - x.length) := by
  apply str_ext
  rw [append_cps, mul_cps]
  unfold Txt.ljust
  split
  · rename_i h
    have : (W - (x.length : Int)).toNat = 0 := by omega
    rw [this]; simp
  · rename_i h
    have : W.toNat - x.length = (W - (x.length : Int)).toNat := by omega
    rw [this]
    show Array.replicate 0 32 ++ x.cps ++ Array.replicate _ 32 = _
    simp
theorem ljust_len (x : Str) (W : Int) : (Txt.ljust x W).length = x.length + (W - x.length).toNat := by
  rw [ljust_eq, Str.length_append, mul_len]
def fill (ws : List Str) (W : Int) : Str := Txt.join " " (ws.map fun x => Txt.ljust x W)
def marks (order row : List Str) : List Str := order.map fun x => if x ∈ row then ("x" : Str) else "."
def flags (order row : List Str) : List Bool := order.map fun x => decide (x ∈ row)
def num4 (n : Nat) : Str := Txt.rjust (Str.ofString (toString (n : Int))) 4
def line (order : List Str) (W : Int) (row : List Str) : Str := fill (marks order row) W ++ num4 (runs (flags order row))
def pic (order : List Str) (rows : List (List Str)) (W : Int) : Str := Txt.join "\n" (fill order W :: rows.map (line order W))
theorem num_small : ∀ n : Fin 13, (Str.ofString (toString ((n.val : Nat) : Int))).length ≤ 4 := by decide +kernel
theorem num4_len {n : Nat} (h : n ≤ 12) : (num4 n).length = 4 := by
  have hl : (Str.ofString (toString (n : Int))).length ≤ 4 := num_small ⟨n, by omega⟩
  unfold num4 Txt.rjust
  generalize Str.ofString (toString (n : Int)) = x at hl ⊢
  split
  · rename_i h4; omega
  · show (Array.replicate _ 32 ++ x.cps ++ Array.replicate 0 32).size = 4
    simp
    show (4 : Int).toNat - x.length + x.length = 4
    omega
theorem cut4 {s : Str} (h : s.length ≤ 4) : cutS (("    " : Str) ++ s) (some (-4)) none = Txt.rjust s 4 := by
  apply str_ext
  unfold cutS Txt.rjust
  have hl : (("    " : Str) ++ s).length = 4 + s.length := by rw [Str.length_append]; rfl
  have h1 : HT.sIx (("    " : Str) ++ s).length 0 (some (-4)) = s.length := by
    rw [hl]
    show (if (-4 : Int) < 0 then ((-4 : Int) + ((4 + s.length : Nat) : Int)).toNat else min (-4 : Int).toNat (4 + s.length)) = s.length
    rw [if_pos (by decide)]; omega
  rw [h1, HT.sIx_none, hl]
  have e4 : (("    " : Str)).cps.toList = List.replicate 4 32 := by decide
  apply Array.toList_inj.mp
  rw [append_cps, Array.toList_append, e4]
  have h5 : 4 + s.length - s.length = 4 := by omega
  rw [h5]
  have hs : s.cps.toList.length = s.length := by simp [Str.length]
  have e6 : (List.replicate 4 32 ++ s.cps.toList).drop s.length = List.replicate (4 - s.length) 32 ++ s.cps.toList := by
    rw [List.drop_append_of_le_length (by simp; exact h), List.drop_replicate]
  rw [e6, List.take_of_length_le (by rw [List.length_append, List.length_replicate, hs]; omega)]
  split
  · rename_i h4
    have : 4 - s.length = 0 := by omega
    rw [this]; rfl
  · show _ = (Array.replicate ((4 : Int).toNat - s.length) 32 ++ s.cps ++ Array.replicate 0 32).toList
    simp
/-! ### lengths -/
theorem sum_le {ys : List Nat} {B : Nat} (h : ∀ y ∈ ys, y ≤ B) : ys.sum ≤ ys.length * B := by
  induction ys with
  | nil => simp
  | cons y r ih =>
    have h1 := h y List.mem_cons_self
    have h2 := ih fun x hx => h x (List.mem_cons_of_mem _ hx)
    rw [List.sum_cons, List.length_cons, Nat.succ_mul]
    omega
theorem join_len (a : Str) : ∀ ys : List Str, (Txt.join a ys).length ≤ (ys.map (·.length)).sum + ys.length * a.length
  | [] => by
    show (Txt.join a []).length ≤ 0 + 0 * a.length
    have : (Txt.join a []).length = 0 := rfl
    omega
  | [x] => by
    have : Txt.join a [x] = x := by rw [TL.join_eq]; rfl
    rw [this]
    simp
  | x :: y :: r => by
    have e : Txt.join a (x :: y :: r) = x ++ a ++ Txt.join a (y :: r) := by rw [TL.join_eq, TL.join_eq]; rfl
    have ih := join_len a (y :: r)
    rw [e, Str.length_append, Str.length_append, List.map_cons, List.sum_cons, List.length_cons, Nat.succ_mul]
    omega
theorem fits_join {a : Str} {ys : List Str} {B n : Nat} (h : ∀ y ∈ ys, y.length ≤ B) (hn : ys.length ≤ n) (hs : n * (B + a.length) ≤ 16777216) : (ys.map (·.length)).sum + ys.length * a.length ≤ 16777216 ∧ (Txt.join a ys).length ≤ n * (B + a.length) := by
  have h1 : (ys.map (·.length)).sum ≤ (ys.map (·.length)).length * B := sum_le fun y hy => by
    obtain ⟨z, hz, rfl⟩ := List.mem_map.mp hy
    exact h z hz
  rw [List.length_map] at h1
  have h2 := join_len a ys
  have h3 : ys.length * (B + a.length) ≤ n * (B + a.length) := Nat.mul_le_mul_right _ hn
  rw [Nat.mul_add] at h3
  omega
/-! ### names, in general -/
def okName (z : Str) : Bool := decide (1 ≤ z.length) && (decide (z.length ≤ 8) && z.cps.toList.all fun c => decide (97 ≤ c ∧ c ≤ 122))
theorem okName_iff {z : Str} : okName z = true ↔ Good z := by
  unfold okName
  rw [Bool.and_eq_true, Bool.and_eq_true, decide_eq_true_iff, decide_eq_true_iff, List.all_eq_true]
  exact ⟨fun ⟨a, b, c⟩ => ⟨a, b, fun x hx => of_decide_eq_true (c x hx)⟩, fun h => ⟨h.pos, h.le, fun x hx => decide_eq_true (h.let_ x hx)⟩⟩
def badName (ns : List Str) (i : Nat) : Bool := match ns[i]? with | some x => !okName x || decide (x ∈ ns.take i) | none => false
def firstBad (ns : List Str) : Option Nat := (List.range ns.length).find? (badName ns)
theorem firstBad_some {ns : List Str} {i : Nat} (hi : i < ns.length) (h1 : badName ns i = true) (h2 : ∀ j, j < i → badName ns j = false) : firstBad ns = some i := by
  unfold firstBad
  rw [List.find?_range_eq_some]
  exact ⟨h1, List.mem_range.mpr hi, fun j hj => by rw [h2 j hj]; rfl⟩
theorem firstBad_none {ns : List Str} (h2 : ∀ j, j < ns.length → badName ns j = false) : firstBad ns = none := by
  unfold firstBad
  rw [List.find?_eq_none]
  intro j hj
  rw [h2 j (List.mem_range.mp hj)]
  exact Bool.false_ne_true
theorem firstBad_none_iff {ns : List Str} : firstBad ns = none ↔ (∀ x ∈ ns, Good x) ∧ ns.Nodup := by
  unfold firstBad
  rw [List.find?_eq_none]
  constructor
  · intro h
    have hb : ∀ i (hi : i < ns.length), Good ns[i] ∧ ns[i] ∉ ns.take i := fun i hi => by
      have := h i (List.mem_range.mpr hi)
      unfold badName at this
      rw [List.getElem?_eq_getElem hi] at this
      simp at this
      exact ⟨okName_iff.mp this.1, this.2⟩
    refine ⟨fun x hx => ?_, ?_⟩
    · obtain ⟨i, hi, rfl⟩ := List.getElem_of_mem hx
      exact (hb i hi).1
    · rw [List.nodup_iff_pairwise_ne, List.pairwise_iff_getElem]
      intro i j hi hj hij e
      refine (hb j hj).2 ?_
      rw [← e]
      exact List.mem_take_iff_getElem.mpr ⟨i, by omega, rfl⟩
  · rintro ⟨h1, h2⟩ i hi
    have hi := List.mem_range.mp hi
    unfold badName
    rw [List.getElem?_eq_getElem hi]
    have a := okName_iff.mpr (h1 _ (List.getElem_mem hi))
    have b : ns[i] ∉ ns.take i := fun hm => by
      obtain ⟨j, hj, e⟩ := List.mem_take_iff_getElem.mp hm
      rw [List.nodup_iff_pairwise_ne, List.pairwise_iff_getElem] at h2
      exact h2 j i (by omega) hi (by omega) e
    simp [a, b]
/-! ### strip -/
theorem strip_all {x y : Str} : Txt.stripChars x y = Str.empty ↔ ∀ c ∈ x.cps.toList, y.cps.contains c = true := by
  obtain ⟨a0, a1, a2⟩ := PyProof.Rows.lo_facts y.cps.contains x
  obtain ⟨b0, b1, b2, b3⟩ := PyProof.Rows.hi_facts y.cps.contains x (PySem.stripLo y.cps.contains true x) a0
  unfold Txt.stripChars
  rw [PyProof.Rows.stripBy_eq]
  generalize PySem.stripLo y.cps.contains true x = lo at *
  generalize PySem.stripHi y.cps.contains true x lo = hi at *
  have hl : (Builtin.Str.strSub x lo hi).length = hi - lo := by
    show (x.cps.extract lo hi).size = hi - lo
    rw [Array.size_extract]
    have : x.cps.size = x.length := rfl
    rw [this]
    have := b1
    omega
  have gd : ∀ k (hk : k < x.length), x.cps.getD k 0 = x.cps[k]'hk := fun k hk => by
    show x.cps.getD k 0 = _
    unfold Array.getD
    exact dif_pos hk
  constructor
  · intro e c hc
    rw [e] at hl
    have hl : 0 = hi - lo := hl
    rw [Array.mem_toList_iff] at hc
    obtain ⟨k, hk, rfl⟩ := Array.getElem_of_mem hc
    by_cases h : k < lo
    · have := a1 k h; rw [gd k hk] at this; exact this
    · have := b2 k (by omega) hk; rw [gd k hk] at this; exact this
  · intro h
    have lo_eq : lo = x.length := by
      rcases a2 with e | e
      · exact e
      · by_cases hlt : lo < x.length
        · rw [gd lo hlt, h _ (by rw [Array.mem_toList_iff]; exact Array.getElem_mem hlt)] at e; cases e
        · omega
    have : hi - lo = 0 := by omega
    rw [this] at hl
    apply str_ext
    exact Array.eq_empty_of_size_eq_zero hl
theorem alpha_has : ∀ c : Nat, (("abcdefghijklmnopqrstuvwxyz" : Str)).cps.contains c = true ↔ 97 ≤ c ∧ c ≤ 122 := by
  intro c
  rw [Array.contains_iff_mem]
  have e : (("abcdefghijklmnopqrstuvwxyz" : Str)).cps.toList = (List.range 26).map (97 + ·) := by decide +kernel
  rw [← Array.mem_toList_iff, e, List.mem_map]
  constructor
  · rintro ⟨a, ha, rfl⟩
    have := List.mem_range.mp ha
    omega
  · rintro ⟨h1, h2⟩
    exact ⟨c - 97, List.mem_range.mpr (by omega), by omega⟩
theorem strip_ok {z : Str} : Txt.stripChars z "abcdefghijklmnopqrstuvwxyz" = Str.empty ↔ Letters z.cps.toList := by
  rw [strip_all]
  exact ⟨fun h c hc => (alpha_has c).mp (h c hc), fun h c hc => (alpha_has c).mpr (h c hc)⟩
theorem empty_eq : ("" : Str) = Str.empty := by decide
theorem okName_and {z : Str} : okName z = true ↔ Txt.stripChars z "abcdefghijklmnopqrstuvwxyz" = ("" : Str) ∧ (0 < z.length ∧ z.length < 9) := by
  rw [okName_iff, empty_eq, strip_ok]
  exact ⟨fun g => ⟨g.let_, by have := g.pos; omega, by have := g.le; omega⟩, fun ⟨a, b, c⟩ => ⟨by omega, by omega, a⟩⟩
/-- // by any divisor but 0 below 2 ^ 9000 -/
def CDivX (_ j : Int) : Prop := j ≠ 0 ∧ j.natAbs < 2 ^ 9000
theorem op_fdivX {X : Cx} : OpR X (binaryOp .FloorDiv) (rI CDivX fun i j => .int (i.fdiv j)) := opI fun i j _ _ _ _ _ hc q =>
  PyProof.Rows.floordiv_int hc.1 q (.inl (PyProof.noPylong_of_log2 (PySem.Flt.log2_lt_of (by decide) hc.2)))
theorem itN {c A B : Prop} [Decidable c] (hc : ¬ c) (h : B) : if decide c = true then A else B := by
  rw [decide_eq_false hc]; exact iteF h
theorem itY {c A B : Prop} [Decidable c] (hc : c) (h : A) : if decide c = true then A else B := by
  rw [decide_eq_true hc]; exact iteT h
theorem ifT {b : Bool} {A B : Prop} (hb : b = true) (h : A) : if b = true then A else B := by rw [if_pos hb]; exact h
theorem ifF {b : Bool} {A B : Prop} (hb : b = false) (h : B) : if b = true then A else B := by rw [if_neg (by rw [hb]; decide)]; exact h
theorem same_new {H : Hp} {l : Addr} {o : HO} (h : H l = none) : Same H (upd H l o) := fun b u e => by rw [upd_ne (ne_of_none e h)]; exact e
theorem _root_.L2.Same.tup {K : PySem.W.Frag} {H H' : Hp} {a : Addr} {xs : List V} (e : Same H H') (h : SqT K H a xs) : SqT K H' a xs := by
  rcases h with (r | ⟨o, r⟩) | z
  · exact .inl (.inl (e _ _ r))
  · exact .inl (.inr ⟨o, e _ _ r⟩)
  · exact .inr z
/-! ### a comprehension's list -/
/-- the heap H1 has grown, at D stands fm i -/
def PvS (H1 : Hp) (D : Addr) (fm : Nat → List V) (i : Nat) (H : Hp) : Prop := Same H1 H ∧ H D = some (.lst (fm i))
theorem pv0 {H1 : Hp} {D : Addr} {fm : Nat → List V} (hD : H1 D = none) (h : fm 0 = []) : PvS H1 D fm 0 (upd H1 D (.lst [])) := ⟨same_new hD, by rw [h]; exact upd_same⟩
theorem PvS.more {H1 H H' : Hp} {D : Addr} {fm : Nat → List V} {i : Nat} (p : PvS H1 D fm i H) (s : Same H H') : PvS H1 D fm i H' := ⟨p.1.trans s, s _ _ p.2⟩
theorem PvS.push {H1 H : Hp} {D : Addr} {fm : Nat → List V} {i : Nat} {y : V} (p : PvS H1 D fm i H) (hD : H1 D = none) (h : fm (i + 1) = fm i ++ [y]) (hl : (fm i).length ≤ 1000000) :
    ∃ acc, H D = some (.lst acc) ∧ acc.length < sizeLine ∧ PvS H1 D fm (i + 1) (upd H D (.lst (acc ++ [y]))) := by
  refine ⟨fm i, p.2, Nat.lt_of_le_of_lt hl (by decide), fun b o e => ?_, ?_⟩
  · rw [upd_ne (ne_of_none e hD)]; exact p.1 _ _ e
  · rw [h]; exact upd_same
theorem PvS.skip {H1 H : Hp} {D : Addr} {fm : Nat → List V} {i : Nat} (p : PvS H1 D fm i H) (h : fm (i + 1) = fm i) : PvS H1 D fm (i + 1) H := ⟨p.1, by rw [h]; exact p.2⟩
theorem small_int {n : Nat} (h : n ≤ 1000000) : n < sizeLine := Nat.lt_of_le_of_lt h (by decide)
theorem take_succ {α : Type} {xs : List α} {i : Nat} {x : α} (h : xs[i]? = some x) : xs.take (i + 1) = xs.take i ++ [x] := by
  rw [List.take_succ, h]; rfl
theorem not_take {ns : List Str} {i : Nat} {z : Str} (nd : ns.Nodup) (hz : ns[i]? = some z) : z ∉ ns.take i := by
  intro hm
  obtain ⟨j, hj, e⟩ := List.mem_take_iff_getElem.mp hm
  obtain ⟨hi, e2⟩ := List.getElem?_eq_some_iff.mp hz
  rw [List.nodup_iff_pairwise_ne, List.pairwise_iff_getElem] at nd
  exact nd j i (by omega) hi (by omega) (e.trans e2.symm)
theorem itNe {A B : Prop} {x y : V} (h : x = y) (h2 : B) : if (!decide (x = y)) = true then A else B := by
  rw [decide_eq_true h]; exact iteF h2
theorem itNeN {A B : Prop} {x y : V} (h : x ≠ y) (h2 : A) : if (!decide (x = y)) = true then A else B := by
  rw [decide_eq_false h]; exact iteT h2
/-- a def that may raise -/
theorem funX {P : Program} {w : World} {K : PySem.W.Frag} {mg : Str → Option Value} {base : Heap} {CX : CXT} {x qual : Str} {st : Stmt} {f : Addr} {fd : FuncData} {N ps : List Str} {k : Nat} {sp : Sp} (F : Fun K x qual st f fd) (S : FnScope N ps (defScope st)) (len : ∀ vs H Q E, sp vs H Q E → vs.length = ps.length)
    (hbody : ∀ (cdv : Value) (A : Around) (outer : List Env) (s : Shared) (H : Hp) (vs : List V) (Q : VK) (E : XK), Room k (A.deeper (PyProof.Rows.envOfC qual (defScope st) s.heap.objs.size f cdv)) → sp vs H Q E →
      ∃ t, PSs (cxOf CX P w K mg base N qual (defScope st) f cdv A outer s H E) (defBody st) t ∧ t { nx := fun _ H' => Q .non H', rt := Q } (L2.start N vs) H) : FnOk P w K mg base CX (k + 1) f fd ps sp := by
  obtain ⟨oc, od, kV, doc, pm, an, cdv, ct, osl, rfl, lk, hcd⟩ := F.ex
  exact fn_of lk hcd S len fun A outer s H vs Q E hr hsp => hbody cdv A outer s H vs Q E hr hsp
theorem seq_upd {K : PySem.W.Frag} {H : Hp} {a b : Addr} {xs : List V} {u o : HO} (h : SqL K H a xs) (hb : H b = some u) (h1 : ∀ ys, u ≠ .lst ys) (h2 : ∀ c d, u ≠ .frz c d) : SqL K (upd H b o) a xs := by
  rcases h with (r | ⟨c, r⟩) | z
  · exact .inl (.inl (by rw [upd_ne (ne_of r hb (fun z => h1 _ z.symm))]; exact r))
  · exact .inl (.inr ⟨c, by rw [upd_ne (ne_of r hb (fun z => h2 _ _ z.symm))]; exact r⟩)
  · exact .inr z
/-! ### tables -/
theorem krc : ¬ (("columns" : Str) = "rows") := by decide +kernel
def fldsT (ct rt : Addr) : List (Str × V) := putF "rows" (.ref rt) (putF "columns" (.ref ct) [])
theorem fldsT_columns (ct rt : Addr) : (fldsT ct rt).lookup ("columns" : Str) = some (.ref ct) := by
  unfold fldsT; rw [lookup_putF, if_neg krc, lookup_putF, if_pos rfl]
theorem fldsT_rows (ct rt : Addr) : (fldsT ct rt).lookup ("rows" : Str) = some (.ref rt) := by
  unfold fldsT; rw [lookup_putF, if_pos rfl]
/-- at ts stand the lists (or tuples) of texts rs -/
structure Lss (f : List V → HO) (H : Hp) (ts : List Addr) (rs : List (List Str)) : Prop where
  len : ts.length = rs.length
  at_ : ∀ (i : Nat) (t : Addr) (r : List Str), ts[i]? = some t → rs[i]? = some r → H t = some (f (sv r))
theorem Lss.same {f : List V → HO} {H H' : Hp} {ts : List Addr} {rs : List (List Str)} (h : Lss f H ts rs) (e : Same H H') : Lss f H' ts rs := ⟨h.len, fun i t x a b => e _ _ (h.at_ i t x a b)⟩
theorem Lss.nil {f : List V → HO} {H : Hp} : Lss f H [] [] := ⟨rfl, fun i t x h => by simp at h⟩
theorem Lss.app {f : List V → HO} {H : Hp} {ts : List Addr} {rs : List (List Str)} {t : Addr} {r : List Str} (h : Lss f H ts rs) (ht : H t = some (f (sv r))) : Lss f H (ts ++ [t]) (rs ++ [r]) := by
  refine ⟨by rw [List.length_append, List.length_append, h.len]; rfl, fun i u y a b => ?_⟩
  rcases Nat.lt_trichotomy i ts.length with c | c | c
  · rw [List.getElem?_append_left c] at a
    rw [List.getElem?_append_left (by rw [← h.len]; exact c)] at b
    exact h.at_ i u y a b
  · rw [c, List.getElem?_append_right (Nat.le_refl _), Nat.sub_self] at a
    rw [c, h.len, List.getElem?_append_right (Nat.le_refl _), Nat.sub_self] at b
    cases a; cases b; exact ht
  · rw [List.getElem?_append_right (by omega), List.getElem?_eq_none (by simp; omega)] at a
    cases a
theorem Lss.get {f : List V → HO} {H : Hp} {ts : List Addr} {rs : List (List Str)} (h : Lss f H ts rs) {i : Nat} {t : Addr} (hi : ts[i]? = some t) : ∃ r, rs[i]? = some r ∧ H t = some (f (sv r)) := by
  have hx : i < rs.length := by rw [← h.len]; exact (List.getElem?_eq_some_iff.mp hi).1
  exact ⟨rs[i], List.getElem?_eq_getElem hx, h.at_ i _ _ hi (List.getElem?_eq_getElem hx)⟩
theorem refs_get {ts : List Addr} {i : Nat} {v : V} (h : (ts.map V.ref)[i]? = some v) : ∃ t, ts[i]? = some t ∧ v = .ref t := by
  rw [List.getElem?_map] at h
  cases e : ts[i]? with
  | none => rw [e] at h; cases h
  | some t => rw [e] at h; exact ⟨t, rfl, (Option.some.inj h).symm⟩
/-- the row in the columns' sequence -/
def canon (cs r : List Str) : List Str := cs.filter fun x => decide (x ∈ r)
theorem canon_T {l r : List Str} {z : Str} (hm : z ∈ r) : canon (l ++ [z]) r = canon l r ++ [z] := by
  unfold canon; rw [List.filter_append]; simp [hm]
theorem canon_F {l r : List Str} {z : Str} (hm : z ∉ r) : canon (l ++ [z]) r = canon l r := by
  unfold canon; rw [List.filter_append]; simp [hm]
theorem Lss.updT {H : Hp} {ts : List Addr} {rs : List (List Str)} {l : Addr} {u o : HO} (h : Lss .tup H ts rs) (hl : H l = some u) (hu : ∀ xs, u ≠ .tup xs) : Lss .tup (upd H l o) ts rs := ⟨h.len, fun i t x a b => by
  have := h.at_ i t x a b
  rw [upd_ne (ne_of this hl (fun z => hu _ z.symm))]
  exact this⟩
/-- the table with the columns cs and the rows rs stands at p -/
def Tb (C : Addr) (H : Hp) (p : Addr) (cs : List Str) (rs : List (List Str)) : Prop :=
  ∃ dx ct rt ts, H p = some (.ins C dx (fldsT ct rt)) ∧ H ct = some (.tup (sv cs)) ∧ H rt = some (.tup (ts.map V.ref)) ∧ Lss .tup H ts (rs.map (canon cs))
theorem Tb.same {C : Addr} {H H' : Hp} {p : Addr} {cs : List Str} {rs : List (List Str)} (h : Tb C H p cs rs) (e : Same H H') : Tb C H' p cs rs :=
  let ⟨dx, ct, rt, ts, h1, h2, h3, h4⟩ := h; ⟨dx, ct, rt, ts, e _ _ h1, e _ _ h2, e _ _ h3, h4.same e⟩
theorem exc_same {H : Hp} {a d : Addr} {o1 o2 o3 o4 : HO} (ha : H a = none) (hd : H d = none) : Same H (upd (L2.del (upd (upd (upd H a o1) d o2) a o3) a) d o4) := fun b o e => by
  rw [upd_ne (ne_of_none e hd), L2.del_ne (ne_of_none e ha), upd_ne (ne_of_none e ha), upd_ne (ne_of_none e hd), upd_ne (ne_of_none e ha)]
  exact e
theorem fault_lt {cs ns : List Str} {i : Nat} (h : fault cs ns = some i) : i ≤ ns.length := by
  unfold fault at h
  cases hs : stray cs ns with
  | some j =>
    rw [hs] at h
    cases h
    unfold stray at hs
    rw [List.find?_range_eq_some] at hs
    exact Nat.le_of_lt (List.mem_range.mp hs.2.1)
  | none =>
    rw [hs] at h
    have h : (if ns.length < cs.length then some ns.length else none) = some i := h
    split at h
    · cases h; exact Nat.le_refl _
    · cases h
section
variable {K : PySem.W.Frag}
theorem passS0 {X : Cx} : ∀ σ, PassesAt CX0 X σ ((fun _ => E0) σ) := fun _ _ _ _ _ _ _ h => h.elim
theorem fnIn_of {x qual : Str} {st : Stmt} {f : Addr} {fd : FuncData} (F : Fun K x qual st f fd) : PySem.W.fnIn K f = true := by
  obtain ⟨oc, od, kV, doc, pm, an, cdv, ct, osl, rfl, lk, hcd⟩ := F.ex
  unfold PySem.W.fnIn
  rw [lk]
end
section
variable {P : Program} {w : World} {K : PySem.W.Frag} {mg : Str → Option Value} {base : Heap}
/-- a promise under which nothing is raised -/
theorem quiet {k : Nat} {f : Addr} {fd : FuncData} {ps : List Str} {sp sp' : Sp} (F : FnOk P w K mg base (L2.CX P w) k f fd ps sp) (h : ∀ vs H Q E, sp' vs H Q E → sp vs H Q E0) : FnOk P w K mg base CX0 k f fd ps sp' :=
  ⟨fun vs H Q E q => F.len _ _ _ _ (h _ _ _ _ q), fun A outer s H args us vs Q E hr he hb hv hs => codeAny_mono (F.run A outer s H args us vs Q E0 hr he hb hv (h _ _ _ _ hs)) fun r s' g => by
    cases r with
    | ok fl => cases fl <;> exact g
    | error e => obtain ⟨_, _, _, _, _, _, _, _, _, _, _, _, z⟩ := g; exact z.elim⟩
/-- two promises of one def -/
theorem fnok_or {CX : CXT} {k : Nat} {f : Addr} {fd : FuncData} {ps : List Str} {sp sp' : Sp} (F : FnOk P w K mg base CX k f fd ps sp) (G : FnOk P w K mg base CX k f fd ps sp') : FnOk P w K mg base CX k f fd ps (fun vs H Q E => sp vs H Q E ∨ sp' vs H Q E) :=
  ⟨fun vs H Q E h => h.elim (F.len vs H Q E) (G.len vs H Q E), fun A outer s H args us vs Q E hr he hb hv hs => hs.elim (F.run A outer s H args us vs Q E hr he hb hv) (G.run A outer s H args us vs Q E hr he hb hv)⟩
end
theorem hu65 {A : Around} {k : Nat} (hr : Room k A) : A.units + 65 < cLine := by have := hr.un; omega
theorem cut_sv (os : List Str) (lo hi : Option Int) : ∃ ys : List Str, cutV (sv os) lo hi = sv ys ∧ ys.Sublist os := by
  unfold cutV
  rw [sv_drop, sv_take]
  exact ⟨_, rfl, (List.take_sublist _ _).trans (List.drop_sublist _ _)⟩
theorem sv_app (a b : List Str) : sv a ++ sv b = sv (a ++ b) := List.map_append.symm
/-- texts that can be laid -/
abbrev Okz (z : Str) : Prop := PyData.canLay0 (.str z) = true
theorem okz_good {z : Str} (h : Good z) : Okz z := by
  show PyData.canLay0 (.str z) = true
  unfold PyData.canLay0 PyData.strOk
  rw [Array.all_eq_true]
  intro i hi
  have := h.let_ z.cps[i] (by rw [Array.mem_toList_iff]; exact Array.getElem_mem hi)
  exact decide_eq_true (by omega)
abbrev pd (ss : List Str) : List PyData := ss.map PyData.str
theorem lay_all {ss : List Str} (h : ∀ z ∈ ss, Okz z) : PyData.canLayAll0 (pd ss) = true := by
  induction ss with
  | nil => rfl
  | cons a t ih =>
    show (PyData.canLay0 (.str a) && PyData.canLayAll0 (pd t)) = true
    rw [h a List.mem_cons_self, ih fun z hz => h z (List.mem_cons_of_mem _ hz)]; rfl
theorem depth_pd : ∀ ss : List Str, PyData.depthAll (pd ss) ≤ 1
  | [] => by simp [PyData.depthAll]
  | n :: r => by
    have e : PyData.depthAll (r.map PyData.str) ≤ 1 := depth_pd r
    simp only [List.map_cons, PyData.depthAll, PyData.depth]
    omega
theorem shaped_pd {ss : List Str} (h : ∀ z ∈ ss, Okz z) : SeqAt.shaped (.list (pd ss)) = true := by
  have h1 := depth_pd ss
  show (PyData.canLay0 (.list (pd ss)) && decide (PyData.depth (.list (pd ss)) ≤ 64)) = true
  rw [Bool.and_eq_true]
  exact ⟨by simp only [PyData.canLay0]; exact lay_all h, decide_eq_true (by simp only [PyData.depth]; omega)⟩
theorem dp_pd {K : PySem.W.Frag} {H : Hp} : ∀ ss : List Str, DpAll K H (sv ss) (pd ss)
  | [] => .nil
  | s :: r => .cons (.str s) (dp_pd r)
theorem eqv_pd {ss : List Str} (h : ∀ z ∈ ss, Okz z) : PyData.eqv (.list (pd ss)) (.list (pd ss)) = true := SeqAt.eqv_refl _ (by simp only [PyData.canLay0]; exact lay_all h)
theorem dpAll_bl {K : PySem.W.Frag} {H : Hp} : ∀ bs : List Bool, DpAll K H (bs.map V.bl) (bs.map PyData.bool)
  | [] => .nil
  | b :: bs => .cons (.bl b) (dpAll_bl bs)
theorem exm_self {K : PySem.W.Frag} {C : Addr} (hb : PySem.W.subIn K (.ref C) (.type "BaseException") = some true) (hi : PySem.W.isClsIn K C = true) (ht : PySem.W.typeIn K (.ref C) = some (.type "type")) (hs : PySem.W.subIn K (.ref C) (.ref C) = some true) :
    PySem.W.exmOne K (.ref C) (.ref C) = some true := by
  unfold PySem.W.exmOne
  rw [hb, if_pos (by rfl)]
  show (if ((PySem.W.clsIn K C).isSome && PySem.W.typeIn K (.ref C) == some (.type "type")) = true then _ else _) = _
  rw [if_pos (by
    rw [ht]
    have : (PySem.W.clsIn K C).isSome = true := hi
    rw [this]; simp)]
  exact hs
theorem nd_len : ∀ (x cs : List Str), x.Nodup → (∀ y ∈ x, y ∈ cs) → x.length ≤ cs.length
  | [], _, _, _ => Nat.zero_le _
  | a :: t, cs, nd, h => by
    have nd := List.nodup_cons.mp nd
    have hp := List.perm_cons_erase (h a List.mem_cons_self)
    have := nd_len t (cs.erase a) nd.2 fun y hy => by
      have hy' := h y (List.mem_cons_of_mem _ hy)
      exact (List.mem_erase_of_ne (fun e => nd.1 (by rw [← e]; exact hy))).mpr hy'
    have e := hp.length_eq
    rw [List.length_cons] at e ⊢
    omega
theorem at_sv {ss : List Str} {j : Int} (h0 : 0 ≤ j) (h1 : j < ss.length) : ∃ z, z ∈ ss ∧ atI (sv ss) j = some (V.str z) := by
  obtain ⟨n, rfl⟩ := Int.eq_ofNat_of_zero_le h0
  have hn : n < ss.length := by omega
  exact ⟨ss[n], List.getElem_mem hn, atI_nat (by rw [List.getElem?_map, List.getElem?_eq_getElem hn]; rfl)⟩
theorem sv3 (a b : List Str) (x : Str) : sv a ++ [V.str x] ++ sv b = sv (a ++ [x] ++ b) := by simp [sv]
theorem mulW {i j : Int} (hi : i.natAbs < 2 ^ 9000) (hj : j.natAbs < 2 ^ 9000) : CMulW i j := wide_mul hi hj (by decide) (by decide) (by decide)
theorem atI_ok {xs : List Int} {j : Int} (h0 : 0 ≤ j) (h1 : j < xs.length) : ∃ v, v ∈ xs ∧ atI (xs.map V.int) j = some (V.int v) := by
  have hj : j.toNat < xs.length := by omega
  refine ⟨xs[j.toNat], List.getElem_mem hj, ?_⟩
  have e : (xs.map V.int)[j.toNat]? = some (V.int xs[j.toNat]) := by rw [List.getElem?_map, List.getElem?_eq_getElem hj]; rfl
  have := atI_nat e
  rw [show ((j.toNat : Nat) : Int) = j by omega] at this
  exact this
theorem len_map_int (xs : List Int) : (xs.map V.int).length = xs.length := List.length_map ..
/-- a pool of draws -/
def Pool (ns : List Int) : Prop := ∀ x ∈ ns, 0 ≤ x ∧ x < 27720
theorem Pool.nil : Pool [] := fun x h => nomatch h
theorem Pool.app {ns : List Int} {x : Int} (h : Pool ns) (h0 : 0 ≤ x) (h1 : x < 27720) : Pool (ns ++ [x]) := fun y hy => by
  rcases List.mem_append.mp hy with hy | hy
  · exact h y hy
  · cases List.mem_singleton.mp hy; exact ⟨h0, h1⟩
theorem upd_app {H : Hp} {l : Addr} {ps : List Int} {x : Int} : upd (upd H l (.lst (ps.map V.int))) l (.lst (ps.map V.int ++ [V.int x])) = upd H l (.lst ((ps ++ [x]).map V.int)) := by
  rw [upd_upd, List.map_append]
  rfl
theorem mod_sz {x m : Int} {k : Nat} (h : 0 < m) (hk : m.natAbs < 2 ^ k) : (x % m).natAbs < 2 ^ k := by
  have h1 := Int.emod_nonneg x (Int.ne_of_gt h)
  have h2 := Int.emod_lt_of_pos x h
  omega
/-! ### drawn names -/
theorem alpha_at : ∀ k : Fin 26, atI (("abcdefghijklmnopqrstuvwxyz" : Str)).cps.toList ((k.val : Nat) : Int) = some (97 + k.val) := by decide +kernel
theorem alpha_ix : ∀ k : Fin 26, Builtin.Str.occurrences ("abcdefghijklmnopqrstuvwxyz" : Str) ⟨#[97 + k.val]⟩ 0 (("abcdefghijklmnopqrstuvwxyz" : Str)).length 1 = [k.val] := by decide +kernel
theorem alpha_len : (("abcdefghijklmnopqrstuvwxyz" : Str)).length ≤ sizeLine := by decide
theorem Letters.app {l m : List Nat} (h : Letters l) (k : Letters m) : Letters (l ++ m) := fun c hc => (List.mem_append.mp hc).elim (h c) (k c)
theorem Letters.one {c : Nat} (h0 : 97 ≤ c) (h1 : c ≤ 122) : Letters [c] := fun d hd => by rw [List.mem_singleton.mp hd]; exact ⟨h0, h1⟩
/-- the word whose last sign has gone t signs on -/
def wat (pre : List Nat) (c t : Nat) : Str := ⟨(pre ++ [97 + (c - 97 + t) % 26]).toArray⟩
theorem wat_len {pre : List Nat} {c t : Nat} : (wat pre c t).length = pre.length + 1 := by
  show ((pre ++ [97 + (c - 97 + t) % 26]).toArray).size = _
  rw [List.size_toArray, List.length_append]; rfl
theorem wat_last {pre : List Nat} {c t : Nat} : atI (wat pre c t).cps.toList (-1) = some (97 + (c - 97 + t) % 26) := by
  show atI (pre ++ [97 + (c - 97 + t) % 26]) (-1) = _
  unfold atI ixN
  rw [if_neg (by decide)]
  have h1 : ((pre ++ [97 + (c - 97 + t) % 26]).length : Int) = (pre.length : Int) + 1 := by rw [List.length_append]; rfl
  have e : (-1 + ((pre ++ [97 + (c - 97 + t) % 26]).length : Int)).toNat = pre.length := by omega
  rw [if_pos (by omega), e]
  simp
theorem wat_next {pre : List Nat} {c t : Nat} : wat pre c (t + 1) = cutS (wat pre c t) none (some (-1)) ++ (⟨#[97 + ((c - 97 + t) % 26 + 1) % 26]⟩ : Str) := by
  apply str_ext
  apply Array.toList_inj.mp
  rw [append_cps, Array.toList_append]
  show pre ++ [97 + (c - 97 + (t + 1)) % 26] = (((pre ++ [97 + (c - 97 + t) % 26]).drop 0).take _) ++ [97 + ((c - 97 + t) % 26 + 1) % 26]
  have h2 : HT.sIx (wat pre c t).length (wat pre c t).length (some (-1)) - HT.sIx (wat pre c t).length 0 none = pre.length := by
    rw [wat_len]
    unfold HT.sIx
    simp
    omega
  rw [h2, List.drop_zero, List.take_left]
  have : (c - 97 + (t + 1)) % 26 = ((c - 97 + t) % 26 + 1) % 26 := by omega
  rw [this]
theorem nodup_le {l : List Str} : ∀ {m : List Str}, l.Nodup → (∀ x ∈ l, x ∈ m) → l.length ≤ m.length := by
  induction l with
  | nil => intro m _ _; exact Nat.zero_le _
  | cons a t ih =>
    intro m nd h
    rw [List.nodup_cons] at nd
    have ha := h a List.mem_cons_self
    have := ih (m := m.erase a) nd.2 fun x hx => (List.mem_erase_of_ne (fun e => nd.1 (by rw [← e]; exact hx))).mpr (h x (List.mem_cons_of_mem _ hx))
    rw [List.length_erase_of_mem ha] at this
    have : 0 < m.length := List.length_pos_of_mem ha
    rw [List.length_cons]
    omega
theorem wat_many {pre : List Nat} {c : Nat} {ns : List Str} (h : ∀ t, t < 26 → wat pre c t ∈ ns) : 26 ≤ ns.length := by
  have nd : ((List.range 26).map (wat pre c)).Nodup := by
    rw [List.nodup_iff_pairwise_ne, List.pairwise_map]
    refine List.Pairwise.imp_of_mem (fun {a b} ha hb hab e => hab ?_) (List.nodup_iff_pairwise_ne.mp List.nodup_range)
    have e1 : pre ++ [97 + (c - 97 + a) % 26] = pre ++ [97 + (c - 97 + b) % 26] := congrArg (fun z : Str => z.cps.toList) e
    have e2 := List.append_cancel_left e1
    have e3 : 97 + (c - 97 + a) % 26 = 97 + (c - 97 + b) % 26 := List.head_eq_of_cons_eq e2
    have := List.mem_range.mp ha
    have := List.mem_range.mp hb
    omega
  have := nodup_le nd fun x hx => by
    obtain ⟨t, ht, rfl⟩ := List.mem_map.mp hx
    exact h t (List.mem_range.mp ht)
  rw [List.length_map, List.length_range] at this
  exact this
theorem sv_inj {a b : List Str} (h : sv a = sv b) : a = b := by
  have : ∀ {a b : List Str}, sv a = sv b → a = b := fun {a b} => by
    intro h
    induction a generalizing b with
    | nil => cases b with | nil => rfl | cons _ _ => cases h
    | cons x t ih =>
      cases b with
      | nil => cases h
      | cons y u =>
        have h1 := List.cons.inj h
        rw [V.str.inj h1.1, ih h1.2]
  exact this h
theorem sv_snoc (l : List Str) (x : Str) : sv (l ++ [x]) = sv l ++ [V.str x] := List.map_append
theorem sEq {a b : Str} (h : a = b) : decide (V.str a = V.str b) = true := by rw [h]; exact decide_eq_true rfl
theorem sNe {a b : Str} (h : a ≠ b) : decide (V.str a = V.str b) = false := decide_eq_false fun e => h (V.str.inj e)
theorem iEq {a b : Int} (h : a = b) : decide (V.int a = V.int b) = true := by rw [h]; exact decide_eq_true rfl
theorem iNe {a b : Int} (h : a ≠ b) : decide (V.int a = V.int b) = false := decide_eq_false fun e => h (V.int.inj e)
theorem atR_of {us : List Addr} {i : Nat} {u : Addr} (h : us[i]? = some u) : atI (us.map V.ref) (i : Int) = some (V.ref u) := atI_nat (by rw [List.getElem?_map, h]; rfl)
theorem Lss.ex {f : List V → HO} {H : Hp} {us : List Addr} {ls : List (List Str)} (h : Lss f H us ls) {i : Nat} (hi : i < ls.length) : ∃ u w, us[i]? = some u ∧ ls[i]? = some w ∧ H u = some (f (sv w)) := by
  have hi' : i < us.length := by rw [h.len]; exact hi
  exact ⟨us[i], ls[i], List.getElem?_eq_getElem hi', List.getElem?_eq_getElem hi, h.at_ i _ _ (List.getElem?_eq_getElem hi') (List.getElem?_eq_getElem hi)⟩
theorem kit_F {K : PySem.W.Frag} {C D : Addr} (hi : PySem.W.isClsIn K D = true) (ht : PySem.W.typeIn K (.ref D) = some (.type "type")) (hs : PySem.W.subIn K (.ref C) (.ref D) = some false) (hss : PySem.W.subIn K (.ref C) (.ref C) = some true) : PySem.W.kitOne K (.ref C) (.ref D) = some false :=
  kit_own hi ht hs (.inl fun e => by rw [← e, hss] at hs; cases hs)
theorem exm_F {K : PySem.W.Frag} {C D : Addr} (hb : PySem.W.subIn K (.ref D) (.type "BaseException") = some true) (hi : PySem.W.isClsIn K D = true) (ht : PySem.W.typeIn K (.ref D) = some (.type "type")) (hs : PySem.W.subIn K (.ref C) (.ref D) = some false) : PySem.W.exmOne K (.ref C) (.ref D) = some false := by
  unfold PySem.W.exmOne
  rw [hb, if_pos (by rfl)]
  show (if ((PySem.W.clsIn K D).isSome && PySem.W.typeIn K (.ref D) == some (.type "type")) = true then _ else _) = _
  rw [if_pos (by
    rw [ht]
    have : (PySem.W.clsIn K D).isSome = true := hi
    rw [this]; simp)]
  exact hs
theorem pEq {a b : Bool} (h : a = b) : decide (V.bl a = V.bl b) = true := by rw [h]; exact decide_eq_true rfl
theorem pNe {a b : Bool} (h : a ≠ b) : decide (V.bl a = V.bl b) = false := decide_eq_false fun e => h (V.bl.inj e)
theorem sIx_lo {n k : Nat} (h : k ≤ n) : HT.sIx n 0 (some (k : Int)) = k := by rw [HT.sIx_nat, Nat.min_eq_left h]
theorem sIx_hi {n k : Nat} (h : k ≤ n) : HT.sIx n n (some (k : Int)) = k := by rw [HT.sIx_nat, Nat.min_eq_left h]
theorem layc {a : PyData} {r : List PyData} (h : PyData.canLay0 a = true) (k : PyData.canLayAll0 r = true) : PyData.canLayAll0 (a :: r) = true := by
  show (PyData.canLay0 a && PyData.canLayAll0 r) = true
  rw [h, k]; rfl
theorem lay_int (i : Int) : PyData.canLay0 (.int i) = true := by simp [PyData.canLay0]
theorem shapedL {xs : List PyData} (h1 : PyData.canLayAll0 xs = true) (h2 : PyData.depthAll xs ≤ 20) : SeqAt.shaped (.list xs) = true := by
  show (PyData.canLay0 (.list xs) && decide (PyData.depth (.list xs) ≤ 64)) = true
  rw [Bool.and_eq_true]
  exact ⟨by simp only [PyData.canLay0]; exact h1, decide_eq_true (by simp only [PyData.depth]; omega)⟩
theorem shapedT {xs : List PyData} (h1 : PyData.canLayAll0 xs = true) (h2 : PyData.depthAll xs ≤ 20) : SeqAt.shaped (.tuple xs) = true := by
  show (PyData.canLay0 (.tuple xs) && decide (PyData.depth (.tuple xs) ≤ 64)) = true
  rw [Bool.and_eq_true]
  exact ⟨by simp only [PyData.canLay0]; exact h1, decide_eq_true (by simp only [PyData.depth]; omega)⟩
theorem eqvL {xs : List PyData} (h1 : PyData.canLayAll0 xs = true) : PyData.eqv (.list xs) (.list xs) = true := SeqAt.eqv_refl _ (by simp only [PyData.canLay0]; exact h1)
theorem eqvT {xs : List PyData} (h1 : PyData.canLayAll0 xs = true) : PyData.eqv (.tuple xs) (.tuple xs) = true := SeqAt.eqv_refl _ (by simp only [PyData.canLay0]; exact h1)
theorem layL {xs : List PyData} (h1 : PyData.canLayAll0 xs = true) : PyData.canLay0 (.list xs) = true := by simp only [PyData.canLay0]; exact h1
theorem layT {xs : List PyData} (h1 : PyData.canLayAll0 xs = true) : PyData.canLay0 (.tuple xs) = true := by simp only [PyData.canLay0]; exact h1
theorem none_of {H H' : Hp} (s : Same H H') {a : Addr} (h : H' a = none) : H a = none := by
  cases e : H a with
  | none => rfl
  | some o => rw [s _ _ e] at h; cases h
theorem Lss.updNe {f : List V → HO} {H : Hp} {ts : List Addr} {rs : List (List Str)} {l : Addr} {o : HO} (h : Lss f H ts rs) (hne : ∀ (i : Nat) (t : Addr), ts[i]? = some t → t ≠ l) : Lss f (upd H l o) ts rs :=
  ⟨h.len, fun i t x a b => by rw [upd_ne (hne i t a)]; exact h.at_ i t x a b⟩
theorem ne_app {ts : List Addr} {a l : Addr} (h : ∀ (i : Nat) (t : Addr), ts[i]? = some t → t ≠ l) (ha : a ≠ l) : ∀ (i : Nat) (t : Addr), (ts ++ [a])[i]? = some t → t ≠ l := fun i t e => by
  rcases List.mem_append.mp (List.mem_of_getElem? e) with hm | hm
  · obtain ⟨j, hj, rfl⟩ := List.getElem_of_mem hm
    exact h j _ (List.getElem?_eq_getElem hj)
  · rw [List.mem_singleton.mp hm]; exact ha
theorem noT {r : Addr} : ∀ (i : Nat) (t : Addr), ([] : List Addr)[i]? = some t → t ≠ r := fun i t h => by simp at h
/-- a comprehension's list of new lists -/
def LcL (H1 : Hp) (D : Addr) (lls : List (List Str)) (H : Hp) : Prop := Same H1 H ∧ ∃ us : List Addr, H D = some (.lst (us.map V.ref)) ∧ Lss .lst H us lls ∧ ∀ (i : Nat) (t : Addr), us[i]? = some t → t ≠ D
theorem lcl0 {H1 : Hp} {D : Addr} (hD : H1 D = none) : LcL H1 D [] (upd H1 D (.lst [])) := ⟨same_new hD, [], upd_same, Lss.nil, noT⟩
theorem LcL.push {H1 H H' : Hp} {D a : Addr} {lls : List (List Str)} {y : List Str} (q : LcL H1 D lls H) (hD : H1 D = none) (s : Same H H') (ha : H' a = some (.lst (sv y))) (hne : a ≠ D) (hl : lls.length ≤ 1000001) :
    ∃ acc, H' D = some (.lst acc) ∧ acc.length < sizeLine ∧ LcL H1 D (lls ++ [y]) (upd H' D (.lst (acc ++ [.ref a]))) := by
  obtain ⟨sm, us, hd, hls, hn⟩ := q
  refine ⟨us.map V.ref, s _ _ hd, Nat.lt_of_le_of_lt (by rw [List.length_map, hls.len]; exact hl) (by decide), fun b o e => ?_, us ++ [a], ?_, ?_, ne_app hn hne⟩
  · rw [upd_ne (ne_of_none e hD)]; exact s _ _ (sm _ _ e)
  · rw [List.map_append]; exact upd_same
  · exact ((hls.same s).app ha).updNe (ne_app hn hne)
theorem LcL.new {H1 H : Hp} {D a : Addr} {lls : List (List Str)} {y : List Str} (q : LcL H1 D lls H) (hD : H1 D = none) (ha : H a = none) (hl : lls.length ≤ 1000001) :
    ∃ acc, (upd H a (.lst (sv y))) D = some (.lst acc) ∧ acc.length < sizeLine ∧ LcL H1 D (lls ++ [y]) (upd (upd H a (.lst (sv y))) D (.lst (acc ++ [.ref a]))) :=
  q.push hD (same_new ha) upd_same (by obtain ⟨_, us, hd, _⟩ := q; exact (ne_of_none hd ha).symm) hl

theorem okz_low {z : Str} (h : ∀ c ∈ z.cps.toList, c ≤ 122) : Okz z := by
  show PyData.canLay0 (.str z) = true
  unfold PyData.canLay0 PyData.strOk
  rw [Array.all_eq_true]
  intro i hi
  have := h z.cps[i] (by rw [Array.mem_toList_iff]; exact Array.getElem_mem hi)
  exact decide_eq_true (by omega)
theorem okz_sp {z : Str} (g : Good z) : Okz (z ++ " ") := okz_low fun c hc => by
  rw [append_cps, Array.toList_append] at hc
  rcases List.mem_append.mp hc with hc | hc
  · exact (g.let_ c hc).2
  · rw [show (" " : Str).cps.toList = [32] by decide] at hc; rw [List.mem_singleton.mp hc]; decide
theorem okz_A {z : Str} (g : Good z) : Okz ("A" ++ z) := okz_low fun c hc => by
  rw [append_cps, Array.toList_append] at hc
  rcases List.mem_append.mp hc with hc | hc
  · rw [show ("A" : Str).cps.toList = [65] by decide] at hc; rw [List.mem_singleton.mp hc]; decide
  · exact (g.let_ c hc).2
/-- a list of tuples of names -/
abbrev pdd (rs : List (List Str)) : List PyData := rs.map fun r => PyData.tuple (pd r)
theorem lay_pdd {rs : List (List Str)} (h : ∀ r ∈ rs, ∀ z ∈ r, Okz z) : PyData.canLayAll0 (pdd rs) = true := by
  induction rs with
  | nil => rfl
  | cons a t ih =>
    show (PyData.canLay0 (.tuple (pd a)) && PyData.canLayAll0 (pdd t)) = true
    rw [ih fun z hz => h z (List.mem_cons_of_mem _ hz), show PyData.canLay0 (.tuple (pd a)) = true by simp only [PyData.canLay0]; exact lay_all (h a List.mem_cons_self)]; rfl
theorem depth_pdd : ∀ rs : List (List Str), PyData.depthAll (pdd rs) ≤ 3
  | [] => by simp [PyData.depthAll]
  | r :: t => by
    have h1 : PyData.depthAll (t.map fun r => PyData.tuple (pd r)) ≤ 3 := depth_pdd t
    have h2 := depth_pd r
    simp only [List.map_cons, PyData.depthAll, PyData.depth]
    omega
theorem shaped_pdd {rs : List (List Str)} (h : ∀ r ∈ rs, ∀ z ∈ r, Okz z) : SeqAt.shaped (.list (pdd rs)) = true := by
  have h1 := depth_pdd rs
  show (PyData.canLay0 (.list (pdd rs)) && decide (PyData.depth (.list (pdd rs)) ≤ 64)) = true
  rw [Bool.and_eq_true]
  exact ⟨by simp only [PyData.canLay0]; exact lay_pdd h, decide_eq_true (by simp only [PyData.depth]; omega)⟩
theorem eqv_pdd {rs : List (List Str)} (h : ∀ r ∈ rs, ∀ z ∈ r, Okz z) : PyData.eqv (.list (pdd rs)) (.list (pdd rs)) = true := SeqAt.eqv_refl _ (by simp only [PyData.canLay0]; exact lay_pdd h)
theorem dp_pdd {K : PySem.W.Frag} {H : Hp} : ∀ {ts : List Addr} {rs : List (List Str)}, Lss .tup H ts rs → DpAll K H (ts.map V.ref) (pdd rs)
  | [], [], _ => .nil
  | [], _ :: _, h => nomatch h.len
  | _ :: _, [], h => nomatch h.len
  | t :: ts, r :: rs, h => .cons (.tup (xs := sv r) (SqT.of (h.at_ 0 t r rfl rfl)) (dp_pd r)) (dp_pdd ⟨Nat.succ.inj h.len, fun i u x a b => h.at_ (i + 1) u x a b⟩)
/-! ### == of data -/
mutual
/-- no truth values, no dicts -/
def nb : PyData → Bool
  | .none => true
  | .int _ => true
  | .str _ => true
  | .bool _ => false
  | .dict _ => false
  | .list xs => nbAll xs
  | .tuple xs => nbAll xs
def nbAll : List PyData → Bool
  | [] => true
  | x :: xs => nb x && nbAll xs
end
mutual
theorem eqv_iff : ∀ (d e : PyData), nb d = true → nb e = true → (PyData.eqv d e = true ↔ d = e)
  | .none, e, _, h => by cases e <;> simp [PyData.eqv]
  | .int i, e, _, h => by
    cases e <;> first | (simp only [nb] at h; cases h; done) | simp [PyData.eqv]
  | .str i, e, _, h => by cases e <;> simp [PyData.eqv]
  | .bool _, _, h, _ => by simp [nb] at h
  | .dict _, _, h, _ => by simp [nb] at h
  | .list xs, e, h, h' => by
    cases e <;> first | (simp [PyData.eqv]; done) | skip
    rename_i ys
    simp only [PyData.eqv, PyData.list.injEq]
    exact eqvAll_iff xs ys (by simpa [nb] using h) (by simpa [nb] using h')
  | .tuple xs, e, h, h' => by
    cases e <;> first | (simp [PyData.eqv]; done) | skip
    rename_i ys
    simp only [PyData.eqv, PyData.tuple.injEq]
    exact eqvAll_iff xs ys (by simpa [nb] using h) (by simpa [nb] using h')
theorem eqvAll_iff : ∀ (xs ys : List PyData), nbAll xs = true → nbAll ys = true → (PyData.eqvAll xs ys = true ↔ xs = ys)
  | [], [], _, _ => by simp [PyData.eqvAll]
  | [], _ :: _, _, _ => by simp [PyData.eqvAll]
  | _ :: _, [], _, _ => by simp [PyData.eqvAll]
  | x :: xs, y :: ys, h, h' => by
    simp only [nbAll, Bool.and_eq_true] at h h'
    simp only [PyData.eqvAll, Bool.and_eq_true, eqv_iff x y h.1 h'.1, eqvAll_iff xs ys h.2 h'.2, List.cons.injEq]
end
theorem nb_pd (ss : List Str) : nbAll (pd ss) = true := by
  induction ss with
  | nil => rfl
  | cons a t ih => show (true && nbAll (pd t)) = true; rw [ih]; rfl
theorem pd_inj {a b : List Str} : pd a = pd b ↔ a = b := by
  constructor
  · intro h
    have := congrArg (List.map fun d : PyData => match d with | .str x => x | _ => ("" : Str)) h
    rw [List.map_map, List.map_map] at this
    simpa [Function.comp_def] using this
  · intro h; rw [h]
theorem eqv_L (a b : List Str) : PyData.eqv (.list (pd a)) (.list (pd b)) = decide (a = b) := by
  rw [Bool.eq_iff_iff, decide_eq_true_iff, eqv_iff (.list (pd a)) (.list (pd b)) (by simp only [nb]; exact nb_pd a) (by simp only [nb]; exact nb_pd b), PyData.list.injEq, pd_inj]
theorem eqv_T (a b : List Str) : PyData.eqv (.tuple (pd a)) (.tuple (pd b)) = decide (a = b) := by
  rw [Bool.eq_iff_iff, decide_eq_true_iff, eqv_iff (.tuple (pd a)) (.tuple (pd b)) (by simp only [nb]; exact nb_pd a) (by simp only [nb]; exact nb_pd b), PyData.tuple.injEq, pd_inj]
theorem shaped_pdT {ss : List Str} (h : ∀ z ∈ ss, Okz z) : SeqAt.shaped (.tuple (pd ss)) = true := shapedT (lay_all h) (Nat.le_trans (depth_pd ss) (by decide))
theorem any_pdd (rs : List (List Str)) (a : List Str) : ((pdd rs).any fun z => PyData.eqv z (.tuple (pd a))) = decide (a ∈ rs) := by
  rw [Bool.eq_iff_iff, List.any_eq_true, decide_eq_true_iff]
  constructor
  · rintro ⟨d, hd, e⟩
    obtain ⟨r, hr, rfl⟩ := List.mem_map.mp hd
    rw [eqv_T, decide_eq_true_iff] at e
    rw [← e]; exact hr
  · intro h
    exact ⟨_, List.mem_map.mpr ⟨a, h, rfl⟩, by rw [eqv_T]; exact decide_eq_true rfl⟩
theorem okz_low' {z : Str} (h : z.cps.toList.all (· < 256) = true) : Okz z := by
  show PyData.canLay0 (.str z) = true
  unfold PyData.canLay0 PyData.strOk
  rw [Array.all_eq_true]
  intro i hi
  have := List.all_eq_true.mp h z.cps[i] (by rw [Array.mem_toList_iff]; exact Array.getElem_mem hi)
  have := of_decide_eq_true this
  exact decide_eq_true (by omega)
end My
set_option maxRecDepth 100000
set_option maxHeartbeats 4000000
set_option exponentiation.threshold 10000
namespace My
open PySem L2
abbrev rn (ns cs r : List Str) : Nat := runs (flags ns (canon cs r))
def nums (f : List Str → Bool) (rs : List (List Str)) : List Nat := (List.range rs.length).filter fun i => f (rs.getD i [])
theorem nums_le (f : List Str → Bool) (rs : List (List Str)) : (nums f rs).length ≤ rs.length := by
  have := List.length_filter_le (fun i => f (rs.getD i [])) (List.range rs.length)
  rw [List.length_range] at this
  exact this
theorem numsT {f : List Str → Bool} {rs : List (List Str)} {i : Nat} {r : List Str} (h : rs[i]? = some r) (hf : f r = true) : (((List.range (i + 1)).filter fun i => f (rs.getD i [])).map fun n => V.int (n : Nat)) = (((List.range i).filter fun i => f (rs.getD i [])).map fun n => V.int (n : Nat)) ++ [V.int (i : Nat)] := by
  have hd : rs.getD i [] = r := by rw [List.getD_eq_getElem?_getD, h]; rfl
  rw [List.range_succ, List.filter_append, List.map_append, List.filter_cons_of_pos (by rw [hd]; exact hf)]; rfl
theorem numsF {f : List Str → Bool} {rs : List (List Str)} {i : Nat} {r : List Str} (h : rs[i]? = some r) (hf : f r = false) : (((List.range (i + 1)).filter fun i => f (rs.getD i [])).map fun n => V.int (n : Nat)) = (((List.range i).filter fun i => f (rs.getD i [])).map fun n => V.int (n : Nat)) := by
  have hd : rs.getD i [] = r := by rw [List.getD_eq_getElem?_getD, h]; rfl
  rw [List.range_succ, List.filter_append, List.map_append, List.filter_cons_of_neg (by rw [hd, hf]; decide)]; simp
theorem nums_len (f : List Str → Bool) (rs : List (List Str)) (i : Nat) (hi : i ≤ 1000) : (((List.range i).filter fun i => f (rs.getD i [])).map fun n => V.int (n : Nat)).length ≤ 1000000 := by
  have := List.length_filter_le (fun i => f (rs.getD i [])) (List.range i)
  rw [List.length_range] at this
  rw [List.length_map]; omega
theorem perm_of_fault {cs ns : List Str} (nc : cs.Nodup) (h : fault cs ns = none) : (∀ x ∈ ns, x ∈ cs) ∧ ns.Nodup ∧ ns.Perm cs := by
  unfold fault at h
  cases hs : stray cs ns with
  | some i => rw [hs] at h; cases h
  | none =>
    rw [hs] at h
    have h : (if ns.length < cs.length then some ns.length else none) = none := h
    have hl : cs.length ≤ ns.length := by
      by_cases z : ns.length < cs.length
      · rw [if_pos z] at h; cases h
      · omega
    obtain ⟨hsub, nd⟩ := stray_none_iff.mp hs
    refine ⟨hsub, nd, ?_⟩
    have hin : ∀ x ∈ cs, x ∈ ns := fun x hx => Classical.byContradiction fun hn => by
      have := nodup_le (l := x :: ns) (m := cs) (List.nodup_cons.mpr ⟨hn, nd⟩) fun y hy => by
        rcases List.mem_cons.mp hy with rfl | hy
        · exact hx
        · exact hsub y hy
      rw [List.length_cons] at this
      omega
    exact (List.perm_ext_iff_of_nodup nd nc).mpr fun x => ⟨hsub x, hin x⟩
theorem perm_pick {α : Type} {l : List α} {i : Nat} {x : α} (h : l[i]? = some x) : (x :: (l.take i ++ l.drop (i + 1))).Perm l := by
  have hi := (List.getElem?_eq_some_iff.mp h).1
  have e : l = l.take i ++ x :: l.drop (i + 1) := by
    conv => lhs; rw [← List.take_append_drop i l]
    rw [List.drop_eq_getElem_cons hi]
    rw [List.getElem?_eq_getElem hi] at h
    cases h; rfl
  conv => rhs; rw [e]
  exact List.perm_middle.symm
def szs : List Int := [3, 4, 5, 2, 4, 6, 3, 5, 1, 7, 0, 12, 4, 5, 3, 6, 8, 4, 5, 9, 10, 4, 7, 11]
theorem cut_takeG {xs : List V} {k : Nat} : cutV xs none (some (k : Int)) = xs.take k := by
  unfold cutV
  rw [HT.sIx_none, HT.sIx_nat]
  simp
theorem cut_dropG {xs : List V} {k : Nat} : cutV xs (some (k : Int)) none = xs.drop k := by
  unfold cutV
  rw [HT.sIx_none, HT.sIx_nat]
  rw [List.take_of_length_le (by rw [List.length_drop]; omega)]
  rcases Nat.le_total k xs.length with h | h
  · rw [Nat.min_eq_left h]
  · rw [Nat.min_eq_right h, List.drop_eq_nil_of_le (Nat.le_refl _), List.drop_eq_nil_of_le h]
theorem rot_perm {α : Type} (l : List α) (c : Nat) : (l.drop c ++ l.take c).Perm l := by
  have := List.perm_append_comm (l₁ := l.drop c) (l₂ := l.take c)
  rw [List.take_append_drop] at this
  exact this
def RowOk (cs x : List Str) : Prop := x.Nodup ∧ ∀ y ∈ x, y ∈ cs
theorem RowOk.len {cs x : List Str} (h : RowOk cs x) : x.length ≤ cs.length := nodup_le h.1 h.2
theorem RowOk.stray {cs x : List Str} (h : RowOk cs x) : stray cs x = none := stray_none_iff.mpr ⟨h.2, h.1⟩
def Rows (H : Hp) (D : Addr) (ts : List Addr) (cs : List Str) (rs : List (List Str)) : Prop := Lss .lst H ts rs ∧ (∀ t ∈ ts, t ≠ D) ∧ ∀ x ∈ rs, RowOk cs x
theorem Rows.push {H H' : Hp} {D t : Addr} {ts : List Addr} {cs ms : List Str} {rs : List (List Str)} {o : HO} (h : Rows H D ts cs rs) (s : Same H H') (ht : H' t = some (.lst (sv ms))) (hD : t ≠ D) (ok : RowOk cs ms) : Rows (upd H' D o) D (ts ++ [t]) cs (rs ++ [ms]) := by
  have h1 := (h.1.same s).app ht
  have hn : ∀ u ∈ ts ++ [t], u ≠ D := fun u hu => (List.mem_append.mp hu).elim (h.2.1 u) fun hu => by rw [List.mem_singleton.mp hu]; exact hD
  refine ⟨⟨h1.len, fun i u x a b => ?_⟩, hn, fun x hx => (List.mem_append.mp hx).elim (h.2.2 x) fun hx => by rw [List.mem_singleton.mp hx]; exact ok⟩
  rw [upd_ne (hn u (List.mem_of_getElem? a))]
  exact h1.at_ i u x a b
/-- names of the law: different, good, at most 7 signs -/
def Nms (ns : List Str) : Prop := ns.Nodup ∧ ∀ z ∈ ns, Good z ∧ z.length ≤ 7
theorem Nms.sub {a b c : List Str} (h : Nms a) (p : b.Perm a) (s : c.Sublist b) : Nms c := ⟨s.nodup (p.nodup_iff.mpr h.1), fun z hz => h.2 z (p.mem_iff.mp (s.subset hz))⟩
def W1 : List Str := ["ab", "a", "abc", "aa", "b", "ba", "aab", "bb", "abcdefg", "abcdefh", "aba", "bab"]
def W2 : List Str := ["first", "row", "end", "near", "span", "last", "before", "window", "over", "column", "not", "ask"]
theorem nms_of {ns : List Str} (h : (decide ns.Nodup && ns.all fun z => okName z && decide (z.length ≤ 7)) = true) : Nms ns := by
  rw [Bool.and_eq_true, decide_eq_true_iff, List.all_eq_true] at h
  refine ⟨h.1, fun z hz => ?_⟩
  have := h.2 z hz
  rw [Bool.and_eq_true, decide_eq_true_iff] at this
  exact ⟨okName_iff.mp this.1, this.2⟩
theorem w1_ok : Nms W1 := nms_of (by decide +kernel)
theorem w2_ok : Nms W2 := nms_of (by decide +kernel)
/-! ### words about one letter -/
def l1 (c : Nat) : Str := ⟨#[c]⟩
theorem mul1 (c : Nat) (n : Int) : (Txt.mul (l1 c) n).cps = Array.replicate n.toNat c := by
  unfold Txt.mul
  have h1 : ((l1 c).length == 0) = false := rfl
  split
  · rename_i h
    have : n.toNat = 0 := by omega
    rw [this]
    rfl
  · rename_i h
    split
    · rename_i h'
      rw [h1, Bool.or_false, beq_iff_eq] at h'
      subst h'
      rfl
    · have e : ∀ (m : Nat) (acc : Array Nat), ((List.replicate m (l1 c).cps).foldl (· ++ ·) acc) = acc ++ Array.replicate m c := by
        intro m
        induction m with
        | zero => intro acc; simp
        | succ m ih =>
          intro acc
          rw [List.replicate_succ, List.foldl_cons, ih]
          have : (l1 c).cps = #[c] := rfl
          rw [this, Array.append_assoc]
          congr 1
          apply Array.toList_inj.mp
          simp [List.replicate_succ]
      show ((List.replicate n.toNat (l1 c).cps).foldl (· ++ ·) #[]) = _
      rw [e]
      simp
theorem mulOk1 (c : Nat) {n : Int} (h0 : 0 ≤ n) (h3 : n ≤ 3) : MulOk (l1 c) n := by
  unfold MulOk
  have e : (l1 c).length = 1 := rfl
  rw [e]
  rcases (show n = 0 ∨ n = 1 ∨ n = 2 ∨ n = 3 by omega) with rfl | rfl | rfl | rfl <;> decide
/-- a side of a name: letters behind l -/
def Side (x : Str) : Prop := (∀ c ∈ x.cps.toList, 109 ≤ c ∧ c ≤ 122) ∧ x.length ≤ 3
theorem side1 {c : Nat} {n : Int} (h1 : 109 ≤ c) (h2 : c ≤ 122) (h0 : 0 ≤ n) (h3 : n ≤ 3) : Side (Txt.mul (l1 c) n) := by
  have e := mul1 c n
  refine ⟨fun d hd => ?_, ?_⟩
  · rw [e, Array.toList_replicate, List.mem_replicate] at hd
    rw [hd.2]; exact ⟨h1, h2⟩
  · show (Txt.mul (l1 c) n).cps.size ≤ 3
    rw [e, Array.size_replicate]; omega
theorem em : ("m" : Str) = l1 109 := str_ext (by decide)
theorem ez : ("z" : Str) = l1 122 := str_ext (by decide)
theorem coreT : ∀ k : Fin 12, atI (("abcdefghijkl" : Str)).cps.toList ((k.val : Nat) : Int) = some (97 + k.val) := by decide +kernel
theorem leftT : ∀ k : Fin 14, atI (("mnopqrstuvwxyz" : Str)).cps.toList ((k.val : Nat) : Int) = some (109 + k.val) := by decide +kernel
theorem rightT : ∀ k : Fin 14, atI (("zyxwvutsrqponm" : Str)).cps.toList ((k.val : Nat) : Int) = some (122 - k.val) := by decide +kernel
theorem core_at {j : Int} (h0 : 0 ≤ j) (h1 : j < 12) : atI (("abcdefghijkl" : Str)).cps.toList j = some (97 + j.toNat) := by
  have := coreT ⟨j.toNat, by omega⟩
  rw [show (((⟨j.toNat, by omega⟩ : Fin 12).val : Nat) : Int) = j from by show ((j.toNat : Nat) : Int) = j; omega] at this
  exact this
theorem left_at {j : Int} (h0 : 0 ≤ j) (h1 : j < 14) : atI (("mnopqrstuvwxyz" : Str)).cps.toList j = some (109 + j.toNat) := by
  have := leftT ⟨j.toNat, by omega⟩
  rw [show (((⟨j.toNat, by omega⟩ : Fin 14).val : Nat) : Int) = j from by show ((j.toNat : Nat) : Int) = j; omega] at this
  exact this
theorem right_at {j : Int} (h0 : 0 ≤ j) (h1 : j < 14) : atI (("zyxwvutsrqponm" : Str)).cps.toList j = some (122 - j.toNat) := by
  have := rightT ⟨j.toNat, by omega⟩
  rw [show (((⟨j.toNat, by omega⟩ : Fin 14).val : Nat) : Int) = j from by show ((j.toNat : Nat) : Int) = j; omega] at this
  exact this
theorem core_len : (("abcdefghijkl" : Str)).length ≤ sizeLine := by decide
theorem left_len : (("mnopqrstuvwxyz" : Str)).length ≤ sizeLine := by decide
theorem right_len : (("zyxwvutsrqponm" : Str)).length ≤ sizeLine := by decide
/-- a made name with the letter c -/
def Made (c : Nat) (z : Str) : Prop := Good z ∧ z.length ≤ 7 ∧ z.cps.toList.filter (fun d => decide (d < 109)) = [c]
theorem made_of {l r : Str} {c : Nat} (hl : Side l) (hr : Side r) (h1 : 97 ≤ c) (h2 : c < 109) : Made c (l ++ l1 c ++ r) := by
  have el : (l ++ l1 c ++ r).length = l.length + 1 + r.length := by rw [Str.length_append, Str.length_append]; rfl
  have ec : (l ++ l1 c ++ r).cps.toList = l.cps.toList ++ [c] ++ r.cps.toList := by
    rw [append_cps, append_cps, Array.toList_append, Array.toList_append]; rfl
  have hl2 := hl.2
  have hr2 := hr.2
  refine ⟨⟨by omega, by omega, fun d hd => ?_⟩, by omega, ?_⟩
  · rw [ec] at hd
    rcases List.mem_append.mp hd with hd | hd
    · rcases List.mem_append.mp hd with hd | hd
      · have := hl.1 d hd; omega
      · rw [List.mem_singleton] at hd; omega
    · have := hr.1 d hd; omega
  · have no : ∀ x : Str, Side x → x.cps.toList.filter (fun d => decide (d < 109)) = [] := fun x hx => by
      rw [List.filter_eq_nil_iff]
      intro d hd h
      have := hx.1 d hd
      rw [decide_eq_true_iff] at h
      omega
    have ec2 : [c].filter (fun d => decide (d < 109)) = [c] := by simp [h2]
    rw [ec, List.filter_append, List.filter_append, no l hl, no r hr, ec2]; rfl
/-- the first i made names -/
def Mades (s : Int) (ns : List Str) : Prop := ∀ (t : Nat) z, ns[t]? = some z → Made (97 + (((t : Int) * 5 + s) % 12).toNat) z
theorem Mades.app {s : Int} {ns : List Str} {z : Str} (h : Mades s ns) (hz : Made (97 + (((ns.length : Int) * 5 + s) % 12).toNat) z) : Mades s (ns ++ [z]) := fun t y e => by
  rcases Nat.lt_trichotomy t ns.length with c | c | c
  · rw [List.getElem?_append_left c] at e; exact h t y e
  · rw [c, List.getElem?_append_right (Nat.le_refl _), Nat.sub_self] at e
    cases e; rw [c]; exact hz
  · rw [List.getElem?_append_right (by omega), List.getElem?_eq_none (by simp; omega)] at e
    cases e
theorem Mades.nms {s : Int} {ns : List Str} (h : Mades s ns) (hl : ns.length ≤ 12) : Nms ns := by
  refine ⟨?_, fun z hz => ?_⟩
  · rw [List.nodup_iff_pairwise_ne, List.pairwise_iff_getElem]
    intro i j hi hj hij e
    have h1 := h i _ (List.getElem?_eq_getElem hi)
    have h2 := h j _ (List.getElem?_eq_getElem hj)
    have e1 := h1.2.2
    rw [e, h2.2.2] at e1
    have e2 := (List.cons.inj e1).1
    omega
  · obtain ⟨i, hi, e⟩ := List.getElem_of_mem hz
    have h1 := h i _ (List.getElem?_eq_getElem hi)
    rw [e] at h1
    exact ⟨h1.1, h1.2.1⟩
def unk (cs ns : List Str) : Option Str := ns.find? fun x => !decide (x ∈ cs)
theorem unk_some {cs ns : List Str} {i : Nat} {z : Str} (hz : ns[i]? = some z) (h1 : z ∉ cs) (h2 : ∀ (j : Nat) y, j < i → ns[j]? = some y → y ∈ cs) : unk cs ns = some z := by
  unfold unk
  rw [List.find?_eq_some_iff_getElem]
  obtain ⟨hi, e⟩ := List.getElem?_eq_some_iff.mp hz
  refine ⟨by simp [h1], i, hi, e, fun j hj => ?_⟩
  have := h2 j ns[j] hj (List.getElem?_eq_getElem _)
  simp [this]
theorem unk_none {cs ns : List Str} : unk cs ns = none ↔ ∀ x ∈ ns, x ∈ cs := by
  unfold unk
  rw [List.find?_eq_none]
  exact ⟨fun h x hx => by have := h x hx; simpa using this, fun h x hx => by simp [h x hx]⟩
theorem unk_mem {cs ns : List Str} {z : Str} (h : unk cs ns = some z) : z ∈ ns ∧ z ∉ cs := by
  unfold unk at h
  exact ⟨List.mem_of_find?_eq_some h, by have := List.find?_some h; simpa using this⟩
def fldsR (nt : Addr) : List (Str × V) := putF "names" (.ref nt) []
theorem fldsR_names (nt : Addr) : (fldsR nt).lookup ("names" : Str) = some (.ref nt) := by unfold fldsR; rw [lookup_putF, if_pos rfl]
def Rd (C : Addr) (H : Hp) (p : Addr) (ns : List Str) : Prop := ∃ dx nt, H p = some (.ins C dx (fldsR nt)) ∧ DT H nt (sv ns)
theorem Rd.same {C : Addr} {H H' : Hp} {p : Addr} {ns : List Str} (h : Rd C H p ns) (e : Same H H') : Rd C H' p ns := let ⟨dx, nt, h1, h2⟩ := h; ⟨dx, nt, e _ _ h1, h2.same e⟩
def ringFault (ns : List Str) : Option Nat := match firstBad ns with | some i => some i | none => if 12 < ns.length then some 12 else none
structure RingOk (ns : List Str) : Prop where
  g : ∀ z ∈ ns, Good z
  nd : ns.Nodup
  n : ns.length ≤ 12
theorem ringFault_none {ns : List Str} : ringFault ns = none ↔ RingOk ns := by
  unfold ringFault
  cases hf : firstBad ns with
  | some i =>
    constructor
    · intro h; cases h
    · intro h
      rw [firstBad_none_iff.mpr ⟨h.g, h.nd⟩] at hf; cases hf
  | none =>
    obtain ⟨a, b⟩ := firstBad_none_iff.mp hf
    constructor
    · intro h
      have h : (if 12 < ns.length then some 12 else none) = none := h
      refine ⟨a, b, ?_⟩
      by_cases q : 12 < ns.length
      · rw [if_pos q] at h; cases h
      · omega
    · intro h
      show (if 12 < ns.length then some 12 else none) = none
      rw [if_neg (by have := h.n; omega)]
theorem RingOk.perm {ns ms : List Str} (h : RingOk ns) (p : ms.Perm ns) : RingOk ms := ⟨fun z hz => h.g z (p.mem_iff.mp hz), p.nodup_iff.mpr h.nd, by rw [p.length_eq]; exact h.n⟩
def aft (ns : List Str) (i : Nat) : List Str := ns.drop (i + 1) ++ ns.take i
theorem first_ix {ns : List Str} {z : Str} (h : z ∈ ns) : ∃ i : Nat, ns[i]? = some z ∧ ∀ m, m < i → ns[m]? ≠ some z := by
  induction ns with
  | nil => cases h
  | cons a t ih =>
    by_cases e : a = z
    · exact ⟨0, by rw [e]; rfl, fun m hm => absurd hm (Nat.not_lt_zero _)⟩
    · rcases List.mem_cons.mp h with q | q
      · exact absurd q.symm e
      · obtain ⟨i, h1, h2⟩ := ih q
        refine ⟨i + 1, h1, fun m hm => ?_⟩
        cases m with
        | zero => intro z; exact e (Option.some.inj z)
        | succ m => exact h2 m (by omega)
abbrev SqA (K : PySem.W.Frag) : Hp → Addr → List V → Prop := fun H a xs => SqL K H a xs ∨ SqT K H a xs
theorem _root_.L2.Same.sqa {K : PySem.W.Frag} {H H' : Hp} {a : Addr} {xs : List V} (e : Same H H') (h : SqA K H a xs) : SqA K H' a xs := h.imp (fun z => e.seq z) fun z => e.tup z
/-! ### slices and tuple(..), whichever way the object comes -/
theorem slOT {K : PySem.W.Frag} {H : Hp} {c : Addr} {xs : List V} {lo hi : Option Int} {Q : VK} (hc : SqT K H c xs) (h : ∀ a H', Same H H' → SqT K H' a (cutV xs lo hi) → Q (.ref a) H') : rSlA K (.ref c) lo hi H Q := by
  refine ⟨c, xs, rfl, hc, fun hw => ?_, fun _ p hp => h p _ (same_new hp) (SqT.of upd_same)⟩
  have e : cutV xs lo hi = xs := by
    unfold cutV
    rw [hw.1, hw.2, Nat.sub_zero, List.drop_zero, List.take_length]
  have := h c H (Same.refl _)
  rw [e] at this
  exact this hc
theorem slO {K : PySem.W.Frag} {H : Hp} {c : Addr} {xs : List V} {lo hi : Option Int} {Q : VK} (hc : SqL K H c xs) (h : ∀ a H', Same H H' → H a = none → H' a = some (.lst (cutV xs lo hi)) → Q (.ref a) H') : rSlL K (.ref c) lo hi H Q :=
  ⟨c, xs, rfl, hc, fun p hp => h p _ (same_new hp) hp upd_same⟩
theorem tupO {K : PySem.W.Frag} {H : Hp} {p : Addr} {ys : List V} {Q : VK} (h : SqA K H p ys) (k : ∀ a H', Same H H' → SqT K H' a ys → Q (.ref a) H') : rTupOf K [.ref p] H Q := by
  refine ⟨p, ys, rfl, ?_⟩
  rcases h with h | h
  · exact .inl ⟨h, fun l hl => k l _ (same_new hl) (SqT.of upd_same)⟩
  · exact .inr ⟨h, k p H (Same.refl _) h⟩
end My
set_option maxRecDepth 100000
set_option maxHeartbeats 4000000
/-! zip of a tuple with a list: one reading for either kind of sequence -/
namespace My
open PySem L2 PySem.Spec PyProof.Rows RZ
/-- b: a tuple (else a list) -/
def IA (b : Bool) (h : Heap) (it l : Addr) (k : Nat) : Prop := if b then h.IsTupleIter it l k else h.IsListIter it l k
def SA (b : Bool) (h : Heap) (l : Addr) (xs : Array Value) : Prop := if b then h.IsTuple l xs else h.IsList l xs
theorem IA.via {b : Bool} {h h' : Heap} {it l : Addr} {k : Nat} (x : IA b h it l k) (e : ∀ o, h.get? it = some o → h'.get? it = some o) : IA b h' it l k := by
  cases b
  · exact Heap.IsListIter.at x e
  · exact Heap.IsTupleIter.at x e
theorem SA.via {b : Bool} {h h' : Heap} {l : Addr} {xs : Array Value} (x : SA b h l xs) (e : ∀ o, h.get? l = some o → h'.get? l = some o) : SA b h' l xs := by
  cases b
  · exact Heap.IsList.at x e
  · exact Heap.IsTuple.at x e
theorem IA.obj {b : Bool} {h : Heap} {it l : Addr} {k : Nat} (x : IA b h it l k) : ∃ o, h.get? it = some o ∧ o.data = .fields #[.ref l, .int k 0] := by
  cases b
  · obtain ⟨o, e, _, d⟩ := x; exact ⟨o, e, d⟩
  · obtain ⟨o, e, _, d⟩ := x; exact ⟨o, e, d⟩
section
variable {prog : Program} {w : World} {A : Around} {E : Value → Shared → Prop} {s : Shared}
theorem nxItem (b : Bool) {it l : Addr} {k : Nat} {xs : Array Value} {x : Value} {Q : Value → Shared → Prop} (h1 : IA b s.heap it l k) (h2 : SA b s.heap l xs) (hx : xs[k]? = some x)
    (q : ∀ h', IA b h' it l (k + 1) → Heap.SameBut it s.heap h' → Q x { s with heap := h' }) : wpAny (model prog w) A (Builtin.SmallTypes.nextOf (.ref it)) Q E s := by
  cases b
  · exact wpAny_nextOf_list_item h1 h2 hx q
  · exact nextOf_tuple_item h1 h2 hx q
/-- the ended iterator's error -/
def StopAt (h : Heap) (e : Addr) : Prop := ∃ o, h.get? e = some o ∧ o.cls = .type "StopIteration"
theorem nxEnd (b : Bool) {it l : Addr} {k : Nat} {xs : Array Value} {Q : Value → Shared → Prop} (hh : A.handled = none) (h1 : IA b s.heap it l k) (h2 : SA b s.heap l xs) (hx : xs[k]? = none)
    (q : ∀ h' e, Heap.ExtBut it s.heap h' → StopAt h' e → E (.ref e) { s with heap := h' }) : wpAny (model prog w) A (Builtin.SmallTypes.nextOf (.ref it)) Q E s := by
  cases b
  · exact wpAny_nextOf_list_end hh h1 h2 hx q
  · exact nextOf_tuple_end hh h1 h2 hx q
/-- everything but the four cells of the walk stands as it stood -/
def Kept4 (z TO i1 i2 : Addr) (h h' : Heap) : Prop := ∀ c o, c ≠ z → c ≠ TO → c ≠ i1 → c ≠ i2 → h.get? c = some o → h'.get? c = some o
variable {z TI TO i1 i2 l1 l2 : Addr} {k1 k2 : Nat} {xs ys : Array Value} {x y a b : Value}
/-- one turn of a zip: both come -/
theorem zipTurn (b1 b2 : Bool) {Q : Option Value → Shared → Prop} (D : ZipApart z TI TO i1 i2 l1 l2) (hz : IsZip s.heap z TI TO .none) (hTI : IsPair s.heap TI (.ref i1) (.ref i2)) (hTO : IsPair s.heap TO a b)
    (h1 : IA b1 s.heap i1 l1 k1) (h2 : IA b2 s.heap i2 l2 k2) (hl1 : SA b1 s.heap l1 xs) (hl2 : SA b2 s.heap l2 ys) (hx : xs[k1]? = some x) (hy : ys[k2]? = some y)
    (q : ∀ h', IsZip h' z TI TO (rawInt s.heap.objs.size) → IsPair h' TO x y → IA b1 h' i1 l1 (k1 + 1) → IA b2 h' i2 l2 (k2 + 1) → IsPair h' s.heap.objs.size x y → Kept4 z TO i1 i2 s.heap h' → Q (some (.ref s.heap.objs.size)) { s with heap := h' }) :
    wpAny (model prog w) A (pyNext (.ref z)) Q E s := by
  have tz : s.TypeIs (.ref z) "zip" := ⟨_, hz, rfl⟩
  unfold pyNext
  refine wpAny_bind (wpAny_attempt (wpAny_callSpecial?_slot (name := Str.ofString "__next__") tz F.slot_zip_next (wpAny_call_entry F.slot_zip_next tz F.entry_zip_next ?_ (F.args_zip_next_1 _))))
  show wpAny _ _ (field (.ref z) 2 >>= _) _ _ _; refine wpAny_bind (wpAny_field hz rfl (x := .bool false) rfl ?_)
  show wpAny _ _ (field (.ref z) 3 >>= _) _ _ _; refine wpAny_bind (wpAny_field hz rfl (x := .ref TI) rfl (wpAny_bind (wpAny_seqItems hTI rfl ?_)))
  show wpAny _ _ (Builtin.SmallTypes.ownedTupleIsFree (.ref z) >>= _) _ _ _; refine wpAny_bind ?_; unfold Builtin.SmallTypes.ownedTupleIsFree
  refine wpAny_bind (wpAny_field hz rfl (x := .none) rfl (wpAny_pure ?_)); simp only [if_true]
  refine wpAny_bind (wpAny_rule (wpAny_bind (wpAny_field hz rfl (x := .ref TO) rfl (wpAny_bind (wpAny_setField_rec hz (by simp) fun H1 z1 e1 => ?_)))))
  replace z1 : IsZip H1 z TI TO .ellipsis := z1
  refine wpAny_bind ?_; simp only [List.zipIdx_cons, List.zipIdx_nil, List.forIn_cons, List.forIn_nil]; refine wpAny_bind (wpAny_bind (wpAny_onRaise ?_))
  have E1 := e1.extBut
  have pTO1 : IsPair H1 TO a b := E1 _ _ D.TOz hTO
  show wpAny _ _ (Builtin.SmallTypes.nextOf (.ref i1) >>= _) _ _ _; refine wpAny_bind (nxItem b1 (h1.via fun o e => E1 _ o D.i1z e) (hl1.via fun o e => E1 _ o D.l1z e) hx fun H2 j2 e2 => wpAny_pure ?_)
  have E2 := e2.extBut
  have pTO2 : IsPair H2 TO a b := E2 _ _ D.TOi1 pTO1
  refine wpAny_bind (wpAny_seqItems pTO2 rfl (wpAny_bind (wpAny_updateSeq_pair pTO2 fun H3 pTO3 e3 => wpAny_bind (wpAny_letGo (wpAny_pure ?_)))))
  replace pTO3 : IsPair H3 TO x b := pTO3
  have E3 := e3.extBut
  refine wpAny_bind (wpAny_bind (wpAny_onRaise ?_)); show wpAny _ _ (Builtin.SmallTypes.nextOf (.ref i2) >>= _) _ _ _
  refine wpAny_bind (nxItem b2 (h2.via fun o e => E3 _ o D.TOi2.symm (E2 _ o D.i12.symm (E1 _ o D.i2z e))) (hl2.via fun o e => E3 _ o D.l2TO (E2 _ o D.l2i1 (E1 _ o D.l2z e))) hy fun H4 j4 e4 => wpAny_pure ?_)
  have E4 := e4.extBut
  have pTO4 : IsPair H4 TO x b := E4 _ _ D.TOi2 pTO3
  refine wpAny_bind (wpAny_seqItems pTO4 rfl (wpAny_bind (wpAny_updateSeq_pair pTO4 fun H5 pTO5 e5 => wpAny_bind (wpAny_letGo (wpAny_pure (wpAny_pure ?_))))))
  replace pTO5 : IsPair H5 TO x y := pTO5
  have E5 := e5.extBut
  refine wpAny_bind (wpAny_seqItems pTO5 rfl (wpAny_bind (wpAny_newTuple ?_)))
  have sz : H5.objs.size = s.heap.objs.size := by rw [e5.1, e4.1, e3.1, e2.1, e1.1]
  have z5 : IsZip H5 z TI TO .ellipsis := E5 _ _ D.TOz.symm (E4 _ _ D.i2z.symm (E3 _ _ D.TOz.symm (E2 _ _ D.i1z.symm z1)))
  have K5 : Kept4 z TO i1 i2 s.heap H5 := fun c o n1 n2 n3 n4 e => E5 _ _ n2 (E4 _ _ n4 (E3 _ _ n2 (E2 _ _ n3 (E1 _ _ n1 e))))
  have j15 : IA b1 H5 i1 l1 (k1 + 1) := j2.via fun o e => E5 _ o D.TOi1.symm (E4 _ o D.i12 (E3 _ o D.TOi1.symm e))
  have j25 : IA b2 H5 i2 l2 (k2 + 1) := j4.via fun o e => E5 _ o D.TOi2.symm e
  have zlt : z < H5.objs.size := Heap.lt_size z5
  show wpAny _ _ (Builtin.SmallTypes.ownedTupleHandOut (.ref z) (.ref H5.objs.size) >>= _) _ _ _; refine wpAny_bind ?_; unfold Builtin.SmallTypes.ownedTupleHandOut
  have z6 : IsZip (H5.push { cls := .type "tuple", data := .seq #[x, y] }) z TI TO .ellipsis := Heap.get?_push_of_some _ z5
  refine wpAny_bind (wpAny_setField_rec z6 (by simp) fun H7 z7 e7 => wpAny_setField_rec (show IsZip H7 z TI TO (rawInt H5.objs.size) from z7) (by simp) fun H8 z8 e8 => ?_)
  replace z8 : IsZip H8 z TI TO (rawInt H5.objs.size) := z8
  have up : ∀ c o, c ≠ z → H5.get? c = some o → H8.get? c = some o := fun c o n e => e8.extBut _ _ n (e7.extBut _ _ n (Heap.get?_push_of_some _ e))
  have T8 : IsPair H8 H5.objs.size x y := e8.extBut _ _ (Nat.ne_of_gt zlt) (e7.extBut _ _ (Nat.ne_of_gt zlt) (Heap.get?_push_size _ rfl))
  rw [sz] at z8 T8
  refine wpAny_pure ⟨_, rfl, ?_⟩
  show wpAny _ _ _ _ _ _
  refine wpAny_pure ?_
  rw [sz]
  exact q H8 z8 (up _ _ D.TOz pTO5) (j15.via fun o e => up _ o D.i1z e) (j25.via fun o e => up _ o D.i2z e) T8 fun c o n1 n2 n3 n4 e => up c o n1 (K5 c o n1 n2 n3 n4 e)
/-- one turn of a zip: one of the two is at its end -/
theorem zipStop (b1 b2 : Bool) {Q : Option Value → Shared → Prop} (hh : A.handled = none) (D : ZipApart z TI TO i1 i2 l1 l2) (hz : IsZip s.heap z TI TO .none) (hTI : IsPair s.heap TI (.ref i1) (.ref i2)) (hTO : IsPair s.heap TO a b)
    (h1 : IA b1 s.heap i1 l1 k1) (h2 : IA b2 s.heap i2 l2 k2) (hl1 : SA b1 s.heap l1 xs) (hl2 : SA b2 s.heap l2 ys) (hn : xs[k1]? = none ∨ ys[k2]? = none)
    (q : ∀ h', Kept4 z TO i1 i2 s.heap h' → Q none { s with heap := h' }) : wpAny (model prog w) A (pyNext (.ref z)) Q E s := by
  have tz : s.TypeIs (.ref z) "zip" := ⟨_, hz, rfl⟩
  unfold pyNext
  have fin : ∀ (h' : Heap) (e : Addr), Kept4 z TO i1 i2 s.heap h' → StopAt h' e → wpAny (model prog w) A (do let b ← isInstance (.ref e) (.type "StopIteration"); if b then pure none else throw (.ref e)) Q E { s with heap := h' } := fun h' e kp ⟨o, ho, hc⟩ =>
    wpAny_bind (wpAny_isInstance (T := "StopIteration") (b := true) ⟨o, ho, hc⟩ isSubtype_stop (wpAny_pure (q _ kp)))
  refine wpAny_bind (wpAny_attempt (wpAny_callSpecial?_slot (name := Str.ofString "__next__") tz F.slot_zip_next (wpAny_call_entry F.slot_zip_next tz F.entry_zip_next ?_ (F.args_zip_next_1 _))))
  show wpAny _ _ (field (.ref z) 2 >>= _) _ _ _; refine wpAny_bind (wpAny_field hz rfl (x := .bool false) rfl ?_)
  show wpAny _ _ (field (.ref z) 3 >>= _) _ _ _; refine wpAny_bind (wpAny_field hz rfl (x := .ref TI) rfl (wpAny_bind (wpAny_seqItems hTI rfl ?_)))
  show wpAny _ _ (Builtin.SmallTypes.ownedTupleIsFree (.ref z) >>= _) _ _ _; refine wpAny_bind ?_; unfold Builtin.SmallTypes.ownedTupleIsFree
  refine wpAny_bind (wpAny_field hz rfl (x := .none) rfl (wpAny_pure ?_)); simp only [if_true]
  refine wpAny_bind (wpAny_rule (wpAny_bind (wpAny_field hz rfl (x := .ref TO) rfl (wpAny_bind (wpAny_setField_rec hz (by simp) fun H1 z1 e1 => ?_)))))
  replace z1 : IsZip H1 z TI TO .ellipsis := z1
  refine wpAny_bind ?_; simp only [List.zipIdx_cons, List.zipIdx_nil, List.forIn_cons, List.forIn_nil]; refine wpAny_bind (wpAny_bind (wpAny_onRaise ?_))
  have E1 := e1.extBut
  have pTO1 : IsPair H1 TO a b := E1 _ _ D.TOz hTO
  have apart : ∀ {h : Heap} {e : Addr} {f : Value}, IsZip h z TI TO f → StopAt h e → e ≠ z := fun hz2 ⟨o, ho, hc⟩ n => by
    subst n; rw [hz2] at ho; cases ho; simp at hc
  show wpAny _ _ (Builtin.SmallTypes.nextOf (.ref i1) >>= _) _ _ _
  cases hx : xs[k1]? with
  | none =>
    refine wpAny_bind (nxEnd b1 hh (h1.via fun o e => E1 _ o D.i1z e) (hl1.via fun o e => E1 _ o D.l1z e) hx fun H2 e e2 st => ?_)
    have z2 : IsZip H2 z TI TO .ellipsis := e2 _ _ D.i1z.symm z1
    have ne := apart z2 st
    obtain ⟨oe, ho, hc⟩ := st
    exact wpAny_setField_rec z2 (by simp) fun H3 _ e3 => fin H3 e (fun c o n1 _ n3 _ u => e3.extBut _ _ n1 (e2 _ _ n3 (E1 _ _ n1 u))) ⟨oe, e3.extBut _ _ ne ho, hc⟩
  | some x =>
    have hy : ys[k2]? = none := hn.resolve_left fun h => by rw [hx] at h; cases h
    refine wpAny_bind (nxItem b1 (h1.via fun o e => E1 _ o D.i1z e) (hl1.via fun o e => E1 _ o D.l1z e) hx fun H2 j2 e2 => wpAny_pure ?_)
    have E2 := e2.extBut
    have pTO2 : IsPair H2 TO a b := E2 _ _ D.TOi1 pTO1
    refine wpAny_bind (wpAny_seqItems pTO2 rfl (wpAny_bind (wpAny_updateSeq_pair pTO2 fun H3 pTO3 e3 => wpAny_bind (wpAny_letGo (wpAny_pure ?_)))))
    have E3 := e3.extBut
    refine wpAny_bind (wpAny_bind (wpAny_onRaise ?_)); show wpAny _ _ (Builtin.SmallTypes.nextOf (.ref i2) >>= _) _ _ _
    refine wpAny_bind (nxEnd b2 hh (h2.via fun o e => E3 _ o D.TOi2.symm (E2 _ o D.i12.symm (E1 _ o D.i2z e))) (hl2.via fun o e => E3 _ o D.l2TO (E2 _ o D.l2i1 (E1 _ o D.l2z e))) hy fun H4 e e4 st => ?_)
    have z4 : IsZip H4 z TI TO .ellipsis := e4 _ _ D.i2z.symm (E3 _ _ D.TOz.symm (E2 _ _ D.i1z.symm z1))
    have ne := apart z4 st
    obtain ⟨oe, ho, hc⟩ := st
    exact wpAny_setField_rec z4 (by simp) fun H5 _ e5 => fin H5 e (fun c o n1 n2 n3 n4 u => e5.extBut _ _ n1 (e4 _ _ n4 (E3 _ _ n2 (E2 _ _ n3 (E1 _ _ n1 u))))) ⟨oe, e5.extBut _ _ ne ho, hc⟩
end
/-- the tuple at a and the list at b, item by item in new pairs -/
def ItM (K : PySem.W.Frag) (a b : Addr) : It :=
  { go := fun i H => ∃ (xs ys : List V) (x y : V), (SqT K H a xs ∧ xs[i]? = some x) ∧ SqL K H b ys ∧ ys[i]? = some y
    yld := fun i H v H' => ∃ T x y, v = .ref T ∧ H T = none ∧ H' = upd H T (.tup [x, y]) ∧ (∀ l, SqT K H a l → l[i]? = some x) ∧ ∀ l, SqL K H b l → l[i]? = some y
    stop := fun i H => ∃ xs ys : List V, SqT K H a xs ∧ SqL K H b ys ∧ (xs.length ≤ i ∨ ys.length ≤ i) }
/-- where the walk of such a zip stands -/
def StM (a b z TI TO i1 i2 : Addr) (i : Nat) (h : Heap) : Prop := IsZip h z TI TO .none ∧ IsPair h TI (.ref i1) (.ref i2) ∧ (∃ x y, IsPair h TO x y) ∧ IA true h i1 a i ∧ IA false h i2 b i
theorem turnM {P : Program} {w : World} {K : PySem.W.Frag} {elts : List Expr} {kk : Nat} {tpos : Pos} {a b z TI TO i1 i2 : Addr} (D : ZipApart z TI TO i1 i2 a b) :
    Turn P w K (.Tuple elts kk tpos) (ItM K a b) [z, TI, TO, i1, i2] z (StM a b z TI TO i1 i2) where
  mem := by simp
  obj := fun i h st c hc => by
    obtain ⟨s1, s2, ⟨x, y, s3⟩, s4, s5⟩ := st
    obtain ⟨o4, u4, d4⟩ := s4.obj
    obtain ⟨o5, u5, d5⟩ := s5.obj
    have one : c = z ∨ c = TI ∨ c = TO ∨ c = i1 ∨ c = i2 := by simpa using hc
    rcases one with rfl | rfl | rfl | rfl | rfl
    · exact ⟨_, s1, fun v n => nomatch n⟩
    · exact ⟨_, s2, fun v n => nomatch n⟩
    · exact ⟨_, s3, fun v n => nomatch n⟩
    · exact ⟨_, u4, fun v n => by rw [d4] at n; cases n⟩
    · exact ⟨_, u5, fun v n => by rw [d5] at n; cases n⟩
  keep := fun i h h' ⟨s1, s2, ⟨x, y, s3⟩, s4, s5⟩ k => ⟨k z (by simp) _ s1, k TI (by simp) _ s2, ⟨x, y, k TO (by simp) _ s3⟩, s4.via fun o e => k i1 (by simp) o e, s5.via fun o e => k i2 (by simp) o e⟩
  item := by
    intro X eP ew eK hc i pins s σ H E I hf st hg
    subst eP ew eK
    obtain ⟨s1, s2, ⟨x0, y0, s3⟩, s4, s5⟩ := st
    obtain ⟨xs, ys, x, y, ⟨qx, hx⟩, qy, hy⟩ := hg
    obtain ⟨us, rv, pa, _⟩ := I.tuple qx
    obtain ⟨vs, rv2, pb, _⟩ := I.list qy
    obtain ⟨u, hu, ru⟩ := rv.get hx
    obtain ⟨v, hv, rw2⟩ := rv2.get hy
    have zl : z < s.heap.objs.size := Heap.lt_size s1
    refine zipTurn true false D s1 s2 s3 s4 s5 (show SA true s.heap a us.toArray from pa) (show SA false s.heap b vs.toArray from pb.isList) (x := u) (y := v) (by simpa using hu) (by simpa using hv) fun h' z' TO' j1 j2 hT kp => ?_
    refine ⟨_, rfl, wpAny_letOwnedTupleGo_zip (s := { s with heap := h' }) z' fun g zg sb => ?_⟩
    have gk : ∀ c o, c ≠ z → h'.get? c = some o → g.get? c = some o := fun c o n e => (sb.2 c n).trans e
    have gT : g.get? s.heap.objs.size = some { cls := .type "tuple", data := .seq #[u, v] } := gk _ _ (Nat.ne_of_gt zl) hT
    have laid : ObjOk X.prog X.w (upd H s.heap.objs.size (.tup [x, y])) g s.heap.objs.size (.tup [x, y]) := ⟨by show 2 ≤ sizeLine; decide, [u, v], .cons ru (.cons rw2 .nil), ⟨_, gT, rfl, _, rfl⟩⟩
    have I1 : Inv X pins σ (upd H s.heap.objs.size (.tup [x, y])) { s with heap := g } :=
      I.turnedNew (t' := s.toks) (ch := [z, TI, TO, i1, i2]) (fun c o nb e => gk c o (fun n => nb (by simp [n])) (kp c o (fun n => nb (by simp [n])) (fun n => nb (by simp [n])) (fun n => nb (by simp [n])) (fun n => nb (by simp [n])) e)) hf (Nat.le_refl _) laid
    refine ⟨.ref s.heap.objs.size, _, I1, rfl, ⟨_, x, y, rfl, I.hok.fresh (Nat.le_refl _), rfl, fun l hl => by rw [I.tuple_inj hl qx]; exact hx, fun l hl => by rw [I.list_inj hl qy]; exact hy⟩, ⟨zg, ?_, ⟨u, v, gk _ _ D.TOz TO'⟩, j1.via fun o e => gk _ o D.i1z e, j2.via fun o e => gk _ o D.i2z e⟩, fun c hcm => ?_⟩
    · exact gk _ _ D.TIz (kp _ _ D.TIz D.TITO D.TIi1 D.TIi2 s2)
    · have lt : c < s.heap.objs.size := by
        have one : c = z ∨ c = TI ∨ c = TO ∨ c = i1 ∨ c = i2 := by simpa using hcm
        obtain ⟨o4, u4, _⟩ := s4.obj
        obtain ⟨o5, u5, _⟩ := s5.obj
        rcases one with rfl | rfl | rfl | rfl | rfl
        · exact zl
        · exact Heap.lt_size s2
        · exact Heap.lt_size s3
        · exact Heap.lt_size u4
        · exact Heap.lt_size u5
      rw [upd_ne (Nat.ne_of_lt lt)]; exact (hf c hcm).1
  done := by
    intro X eP ew eK hc i pins s σ H E I hf st hg
    subst eP ew eK
    obtain ⟨s1, s2, ⟨x0, y0, s3⟩, s4, s5⟩ := st
    obtain ⟨xs, ys, qx, qy, hend⟩ := hg
    obtain ⟨us, rv, pa, _⟩ := I.tuple qx
    obtain ⟨vs, rv2, pb, _⟩ := I.list qy
    have m1 := rv.length; have m2 := rv2.length
    have last : us.toArray[i]? = none ∨ vs.toArray[i]? = none := hend.imp (fun n => by simp; omega) (fun n => by simp; omega)
    exact zipStop true false (I.ok.hd hc) D s1 s2 s3 s4 s5 (show SA true s.heap a us.toArray from pa) (show SA false s.heap b vs.toArray from pb.isList) last fun h' kp => ⟨rfl, I.turnedL (t' := s.toks) (ch := [z, TI, TO, i1, i2]) (fun c o nb e =>
      kp c o (fun n => nb (by simp [n])) (fun n => nb (by simp [n])) (fun n => nb (by simp [n])) (fun n => nb (by simp [n])) e) hf⟩
  self := fun A i s Q E st h => wpAny_pyIter_zip st.1 h
theorem walk_zipM {K : PySem.W.Frag} {a b : Addr} {xs ys : List V} {n : Nat} (hn : n = min xs.length ys.length) : Walk (ItM K a b) n (fun H => SqT K H a xs ∧ SqL K H b ys) (YPair (fun i => xs[i]?) (fun i => ys[i]?)) := by
  subst hn
  refine ⟨fun i H lt q => ?_, fun H q => ⟨xs, ys, q.1, q.2, by omega⟩, fun i H v H' lt q y => ?_⟩
  · have m1 : i < xs.length := by omega
    have m2 : i < ys.length := by omega
    exact ⟨xs, ys, xs[i], ys[i], ⟨q.1, List.getElem?_eq_getElem m1⟩, q.2, List.getElem?_eq_getElem m2⟩
  · obtain ⟨T, x, u, e1, e2, e3, e4, e5⟩ := y
    exact ⟨T, x, u, e1, e2, e3, e4 xs q.1, e5 ys q.2⟩
/-- the heap step by step while zip(tuple, list) is made -/
abbrev mA (h : Heap) (a : Addr) : Heap := h.push { cls := .type "tuple_iterator", data := .fields #[.ref a, .int 0 0] }
abbrev mB (h : Heap) (a b : Addr) : Heap := (mA h a).push { cls := .type "list_iterator", data := .fields #[.ref b, .int 0 0] }
abbrev mC (h : Heap) (a b : Addr) : Heap := (mB h a b).push { cls := .type "tuple", data := .seq #[.ref h.objs.size, .ref (mA h a).objs.size] }
abbrev mD (h : Heap) (a b : Addr) : Heap := (mC h a b).push { cls := .type "tuple", data := .seq #[.none, .none] }
abbrev mE (h : Heap) (a b : Addr) : Heap := (mD h a b).push { cls := .type "zip", data := .fields #[.none, .bool false, .bool false, .ref (mB h a b).objs.size, .ref (mC h a b).objs.size] }
theorem meetsM (a b : Addr) (xs ys : Array Value) :
    Meets (Builtin.«zip.__new__» ⟨[.type "zip", .ref a, .ref b], []⟩) (fun _ R s => s.heap.IsTuple a xs ∧ s.heap.IsList b ys ∧ R (.ok (.ret (.ref (mD s.heap a b).objs.size))) { s with heap := mE s.heap a b }) :=
  .of_wp fun prog w A R s h => by
    obtain ⟨hp, g, d, tk, os⟩ := s; obtain ⟨q1, q2, h⟩ := h
    have hsub := sub_zip
    have u1 : Heap.IsTuple (Shared.heap ⟨hp, g, d, tk, os⟩) a xs := q1
    have u2 : Heap.IsList (Shared.heap ⟨hp.push { cls := .type "tuple_iterator", data := .fields #[.ref a, .int 0 0] }, g, d, tk, os⟩) b ys := Heap.IsList.push q2 _
    wp_walk using wpAny_pyIter_tuple u1, wpAny_pyIter_list u2
    exact ⟨_, rfl, h⟩
theorem callM {prog : Program} {w : World} {A : Around} {E : Value → Shared → Prop} {s : Shared} {a b : Addr} {xs ys : Array Value} {Q : Value → Shared → Prop} (q1 : s.heap.IsTuple a xs) (q2 : s.heap.IsList b ys)
    (h : ∀ h', StM a b (s.heap.objs.size + 4) (s.heap.objs.size + 2) (s.heap.objs.size + 3) s.heap.objs.size (s.heap.objs.size + 1) 0 h' → (∀ c o, s.heap.get? c = some o → h'.get? c = some o) → Q (.ref (s.heap.objs.size + 4)) { s with heap := h' }) :
    wpAny (model prog w) A (call (.type "zip") [.ref a, .ref b]) Q E s := by
  refine callType_new F.called_zip (by decide) (F.typeCall_zip_2 _ _) (F.newCall_zip_2 _ _) (fun obj => F.args_object_init_3 obj _ _) F.entry_zip_new (meetsM a b xs ys) ⟨q1, q2, ?_⟩
  have nA : (mA s.heap a).objs.size = s.heap.objs.size + 1 := Heap.size_push ..
  have nB : (mB s.heap a b).objs.size = s.heap.objs.size + 2 := by rw [Heap.size_push, nA]
  have nC : (mC s.heap a b).objs.size = s.heap.objs.size + 3 := by rw [Heap.size_push, nB]
  have nD : (mD s.heap a b).objs.size = s.heap.objs.size + 4 := by rw [Heap.size_push, nC]
  have keepE : ∀ {c o}, (mD s.heap a b).get? c = some o → (mE s.heap a b).get? c = some o := fun e => Heap.get?_push_of_some _ e
  have keepD : ∀ {c o}, (mC s.heap a b).get? c = some o → (mE s.heap a b).get? c = some o := fun e => keepE (Heap.get?_push_of_some _ e)
  have keepC : ∀ {c o}, (mB s.heap a b).get? c = some o → (mE s.heap a b).get? c = some o := fun e => keepD (Heap.get?_push_of_some _ e)
  have keepB : ∀ {c o}, (mA s.heap a).get? c = some o → (mE s.heap a b).get? c = some o := fun e => keepC (Heap.get?_push_of_some _ e)
  have w5 : (mE s.heap a b).get? (mD s.heap a b).objs.size = some _ := Heap.get?_push_size _ rfl
  have w4 : (mE s.heap a b).get? (mC s.heap a b).objs.size = some _ := keepE (Heap.get?_push_size _ rfl)
  have w3 : (mE s.heap a b).get? (mB s.heap a b).objs.size = some _ := keepD (Heap.get?_push_size _ rfl)
  have w2 : (mE s.heap a b).get? (mA s.heap a).objs.size = some _ := keepC (Heap.get?_push_size _ rfl)
  have w1 : (mE s.heap a b).get? s.heap.objs.size = some _ := keepB (Heap.get?_push_size _ rfl)
  show _ ∧ _
  rw [nB, nC, nD] at w5
  rw [nC] at w4
  rw [nA, nB] at w3
  rw [nA] at w2
  rw [nD]
  exact ⟨⟨_, w5, rfl⟩, h _ ⟨w5, w3, ⟨_, _, w4⟩, ⟨_, w1, rfl, rfl⟩, ⟨_, w2, rfl, rfl⟩⟩ fun c o e => keepB (Heap.get?_push_of_some _ e)⟩
/-- for .. in zip(tuple, list) -/
def iZipM (K : PySem.W.Frag) (ta : TA) : TI := fun σ H R => ta σ H fun vs H1 => ∃ a b xs ys, vs = [.ref a, .ref b] ∧ SqT K H1 a xs ∧ SqL K H1 b ys ∧ R (ItM K a b) H1
theorem pi_zipM {X : Cx} {e e2 : Expr} {ta : TA} {p pos tpos : Pos} {elts : List Expr} {kk : Nat} (hg : Gl X "zip") (hm : X.mg "zip" = none) (ha : PA X [e, e2] ta)
    (hs : starEach [e, e2] X.env = (false, eval e X.env) :: starEach [e2] X.env := by rfl) (hpl : (backTo pos (starEach [e2] X.env)).any (·.1) = false := by rfl) :
    PI X (.Tuple elts kk tpos) (.Call (.Name "zip" p) [e, e2] [] pos) (iZipM X.K ta) := by
  refine ⟨fun pins s σ H R I h => Call_ (ld_blt I hg hm PyProof.Rows.boot_zip (PyProof.Rows.callWith_type1 (thn (ha.run pos pins s σ H _ I h) fun us s1 ⟨vs, H1, I1, r1, a, b, xs, ys, ex, qx, qy, q⟩ => ?_) hs hpl))⟩
  subst ex
  obtain ⟨u, us, rfl, r, rr⟩ := (show ∃ u us', us = u :: us' ∧ RelV (.ref a) u ∧ Vals [.ref b] us' from by cases r1 with | cons r rr => exact ⟨_, _, rfl, r, rr⟩)
  obtain ⟨u2, us, rfl, r2, rr⟩ := (show ∃ u2 us', us = u2 :: us' ∧ RelV (.ref b) u2 ∧ Vals [] us' from by cases rr with | cons r rr => exact ⟨_, _, rfl, r, rr⟩)
  cases rr
  cases r
  cases r2
  obtain ⟨its, rv, pa, _⟩ := I1.tuple qx
  obtain ⟨its2, rv2, pb, _⟩ := I1.list qy
  obtain ⟨oa, ha1, _⟩ := id pa
  refine callM (show s1.heap.IsTuple a its.toArray from pa) pb.isList fun h' st kp => wpAny_pyIter_zip st.1 ?_
  have I2 : Inv X pins σ H1 { s1 with heap := h' } := I1.kept (t' := s1.toks) kp
  refine ⟨s1.heap.objs.size + 4, [s1.heap.objs.size + 4, s1.heap.objs.size + 2, s1.heap.objs.size + 3, s1.heap.objs.size, s1.heap.objs.size + 1], _, _, H1, rfl, I2, turnM (PySem.W.ktu_apart s1.heap.objs.size a b (Heap.lt_size ha1) pb.lt), st, fun c hc => ?_, q⟩
  have le : s1.heap.objs.size ≤ c := by
    have one : c = s1.heap.objs.size + 4 ∨ c = s1.heap.objs.size + 2 ∨ c = s1.heap.objs.size + 3 ∨ c = s1.heap.objs.size ∨ c = s1.heap.objs.size + 1 := by simpa using hc
    rcases one with n | n | n | n | n <;> rw [n] <;> first | exact Nat.le_add_right _ _ | exact Nat.le_refl _
  exact I1.fpOk le (I1.hok.fresh le)
end My
set_option maxRecDepth 100000
set_option maxHeartbeats 4000000
/-! a dict that the module has written, its keys whole numbers; tuples that the module has written -/
namespace My
open PySem L2 PySem.Spec PyProof.Rows
/-- the written entries are these -/
def KeysI : List DictEntry → List (Int × V) → Prop
  | [], [] => True
  | e :: r, p :: q => ((∃ t, e.key = .int p.1 t) ∧ e.hash = hashInt p.1 ∧ RelV p.2 e.val) ∧ KeysI r q
  | _, _ => False
structure IDict (K : PySem.W.Frag) (d : Addr) (kvs : List (Int × V)) : Prop where
  low : (d == sysModules) = false
  at_ : ∃ es n, K.lookup d = some ⟨.type "dict", none, .dict es n, #[]⟩ ∧ KeysI es.toList kvs
theorem KeysI.keys : ∀ {es : List DictEntry} {kvs : List (Int × V)}, KeysI es kvs → ∀ e ∈ es, ∃ k t, e.key = .int k t ∧ e.hash = hashInt k
  | [], [], _, e, h => nomatch h
  | _ :: _, [], h, _, _ => h.elim
  | [], _ :: _, h, _, _ => h.elim
  | e0 :: r, p :: q, h, e, hm => by
    obtain ⟨⟨⟨t, a⟩, b, _⟩, h2⟩ := h
    rcases List.mem_cons.mp hm with rfl | hm
    · exact ⟨_, _, a, b⟩
    · exact h2.keys e hm
theorem KeysI.find : ∀ {es : List DictEntry} {kvs : List (Int × V)}, KeysI es kvs → ∀ k, match kvs.lookup k with | none => es.find? (fun e => Value.isInt k e.key) = none | some v => ∃ e, es.find? (fun e => Value.isInt k e.key) = some e ∧ RelV v e.val
  | [], [], _, k => rfl
  | _ :: _, [], h, _ => h.elim
  | [], _ :: _, h, _ => h.elim
  | e0 :: r, p :: q, h, k => by
    obtain ⟨⟨⟨t, a⟩, b, c⟩, h2⟩ := h
    obtain ⟨pk, pv⟩ := p
    have ih := h2.find k
    by_cases e : k = pk
    · subst e
      have l : List.lookup k ((k, pv) :: q) = some pv := by simp [List.lookup]
      rw [l]
      refine ⟨e0, ?_, c⟩
      rw [List.find?_cons, a]
      simp [Value.isInt]
    · have l : List.lookup k ((pk, pv) :: q) = q.lookup k := by
        rw [List.lookup_cons]
        have : (k == pk) = false := beq_eq_false_iff_ne.mpr e
        rw [this]
      have f : (e0 :: r).find? (fun e => Value.isInt k e.key) = r.find? (fun e => Value.isInt k e.key) := by
        rw [List.find?_cons, a]
        have : Value.isInt k (Value.int pk t) = false := by simp [Value.isInt]; exact fun h => e h.symm
        rw [this]
      rw [l, f]
      exact ih
section
variable {X : Cx}
theorem IDict.map {K : PySem.W.Frag} {prog : Program} {w : World} {h : Heap} {d : Addr} {kvs : List (Int × V)} (D : IDict K d kvs) (I : K.In h) : ∃ es : Array DictEntry, h.MapOf (intKind prog w) d (findBy Value.isInt es) ∧ KeysI es.toList kvs := by
  obtain ⟨es, n, hl, hk⟩ := D.at_
  refine ⟨es, ⟨_, es, n, I _ _ hl, ⟨rfl, rfl, rfl⟩, rfl, fun e he => ?_, fun _ => rfl⟩, hk⟩
  obtain ⟨k, t, e1, e2⟩ := hk.keys e (Array.mem_toList_iff.mpr he)
  exact ⟨k, by rw [e1]; exact intKind_is prog w k t, e2⟩
theorem find_is {es : Array DictEntry} {kvs : List (Int × V)} (h : KeysI es.toList kvs) (k : Int) : (findBy Value.isInt es k).isSome = (kvs.lookup k).isSome := by
  obtain ⟨l⟩ := es
  have := h.find k
  unfold findBy
  rw [List.find?_toArray]
  cases e : kvs.lookup k with
  | none => rw [e] at this; rw [show l.find? (fun e => Value.isInt k e.key) = none from this]; rfl
  | some v => rw [e] at this; obtain ⟨x, e2, _⟩ := this; rw [show l.find? (fun e => Value.isInt k e.key) = some x from e2]; rfl
theorem find_some {es : Array DictEntry} {kvs : List (Int × V)} (h : KeysI es.toList kvs) {k : Int} {v : V} (e : kvs.lookup k = some v) : ∃ u, findBy Value.isInt es k = some u ∧ RelV v u := by
  obtain ⟨l⟩ := es
  have := h.find k
  rw [e] at this
  obtain ⟨x, e2, r⟩ := this
  refine ⟨x.val, ?_, r⟩
  unfold findBy
  rw [List.find?_toArray, show l.find? (fun e => Value.isInt k e.key) = some x from e2]
  rfl
/-- k in d, of a written dict -/
def rInI (K : PySem.W.Frag) : R2 := fun x y H Q => ∃ k d kvs, x = .int k ∧ y = .ref d ∧ IDict K d kvs ∧ Q (.bl (kvs.lookup k).isSome) H
theorem op_inI : OpR X (compareOp .In) (rInI X.K) := by
  intro pins s σ H x y v u Q I rx ry h
  obtain ⟨k, d, kvs, rfl, rfl, D, q⟩ := h
  obtain ⟨t, rfl⟩ := rx
  cases ry
  obtain ⟨es, hm, hk⟩ := D.map (prog := X.prog) (w := X.w) I.kIn
  refine wpAny_in_of (intKind_is X.prog X.w k t) D.low hm ?_
  rw [find_is hk]
  exact ⟨.bl (kvs.lookup k).isSome, H, I.tok _, rfl, q⟩
/-- d[k], of a written dict -/
def rIxI (K : PySem.W.Frag) : R2 := fun x y H Q => ∃ d k kvs v, x = .ref d ∧ y = .int k ∧ IDict K d kvs ∧ kvs.lookup k = some v ∧ Q v H
theorem ix_idict : IxR X (rIxI X.K) := by
  intro value slice pins s σ H x y v u Q I rx ry h hs
  obtain ⟨d, k, kvs, r, rfl, rfl, D, e, q⟩ := h
  obtain rfl : v = Value.ref d := rx
  obtain ⟨t, rfl⟩ := ry
  obtain ⟨es, hm, hk⟩ := D.map (prog := X.prog) (w := X.w) I.kIn
  obtain ⟨u0, e0, r0⟩ := find_some hk e
  exact tail_any hm.typeIs slot_dict_getitem.lookup (wpAny_getItem_of (intKind_is X.prog X.w k t) hm e0 ⟨r, H, I.tok _, r0, q⟩) hs
end
/-- a tuple that the module has written -/
def WTup (K : PySem.W.Frag) (t : Addr) (xs : List V) : Prop := ∃ (od : Option Addr) (its : Array Value) (n : Nat) (sl : Array (Option Value)), K.lookup t = some ⟨.type "tuple", od, .seq its n, sl⟩ ∧ its.size ≤ sizeLine ∧ Vals xs its.toList
theorem WTup.sq {K : PySem.W.Frag} {H : Hp} {t : Addr} {xs : List V} (h : WTup K t xs) : SqT K H t xs :=
  let ⟨_, its, n, _, e, l, v⟩ := h; .inr ⟨_, its, n, e, rfl, rfl, l, v⟩
end My
set_option maxRecDepth 100000
set_option maxHeartbeats 4000000
set_option exponentiation.threshold 10000
namespace My
open PySem L2
def top (i : Nat) : Stmt := PySem.Challenge.pw_unbrokenrows_k31_patterns_that_lie_there.main.body.getD i (.Pass ⟨0, 0, 0, 0⟩)
abbrev s_BadKind_init : Stmt := inClass (top 7) 0
abbrev s_is_name : Stmt := top 10
abbrev s_first_bad_name : Stmt := top 11
abbrev s_first_stray : Stmt := top 12
abbrev s_check_columns : Stmt := top 14
abbrev s_check_rows : Stmt := top 16
abbrev s_Table_in_order : Stmt := inClass (top 17) 3
abbrev s_Table_init : Stmt := inClass (top 17) 2
abbrev s_Table_getitem : Stmt := inClass (top 17) 18
abbrev s_Table_len : Stmt := inClass (top 17) 19
abbrev s_standard_width : Stmt := top 23
abbrev s_standard_rows : Stmt := top 22
abbrev s_Pattern_init : Stmt := inClass (top 24) 0
abbrev s_Pattern_eq : Stmt := inClass (top 24) 1
abbrev s_is_alike : Stmt := top 26
abbrev s_lies_in : Stmt := top 25
abbrev s_law_cell : Stmt := top 28
abbrev s_law_pool : Stmt := top 29
abbrev s_law_names : Stmt := top 30
abbrev s_law_order : Stmt := top 31
abbrev s_law_row : Stmt := top 32
abbrev s_law_is_number : Stmt := top 33
abbrev s_law_standard : Stmt := top 34
abbrev s_law_width : Stmt := top 35
abbrev s_law_is_pattern : Stmt := top 36
abbrev s_law_table_rows : Stmt := top 37
abbrev s_law_at : Stmt := top 38
abbrev s_law_other_way : Stmt := top 39
abbrev s_law_free : Stmt := top 40
abbrev s_law_spoiled : Stmt := top 41
abbrev s_law_lies : Stmt := top 42
abbrev s_law_attributes : Stmt := top 43
abbrev s_law_alike : Stmt := top 44
abbrev s_law : Stmt := top 45
theorem ss_BadKind_init : SupScope ["self", "kind", "size"] ["self", "kind", "size"] (defScope s_BadKind_init) := ⟨rfl, rfl, rfl, by decide +kernel, rfl, by decide +kernel, by decide +kernel, by decide +kernel, rfl, rfl⟩
theorem sc_is_name : FnScope ["text", "sign"] ["text"] (defScope s_is_name) := ⟨rfl, rfl, rfl, by decide +kernel, rfl, by decide +kernel, by decide +kernel⟩
theorem sc_first_bad_name : FnScope ["names", "index", "name"] ["names"] (defScope s_first_bad_name) := ⟨rfl, rfl, rfl, by decide +kernel, rfl, by decide +kernel, by decide +kernel⟩
theorem sc_first_stray : FnScope ["columns", "names", "index", "name"] ["columns", "names"] (defScope s_first_stray) := ⟨rfl, rfl, rfl, by decide +kernel, rfl, by decide +kernel, by decide +kernel⟩
theorem sc_check_columns : FnScope ["columns", "index"] ["columns"] (defScope s_check_columns) := ⟨rfl, rfl, rfl, by decide +kernel, rfl, by decide +kernel, by decide +kernel⟩
theorem sc_check_rows : FnScope ["columns", "rows", "index", "row"] ["columns", "rows"] (defScope s_check_rows) := ⟨rfl, rfl, rfl, by decide +kernel, rfl, by decide +kernel, by decide +kernel⟩
theorem sc_Table_in_order : FnScope ["self", "names", "name"] ["self", "names"] (defScope s_Table_in_order) := ⟨rfl, rfl, rfl, by decide +kernel, rfl, by decide +kernel, by decide +kernel⟩
theorem sc_Table_init : FnScope ["self", "columns", "rows", "row"] ["self", "columns", "rows"] (defScope s_Table_init) := ⟨rfl, rfl, rfl, by decide +kernel, rfl, by decide +kernel, by decide +kernel⟩
theorem sc_Table_getitem : FnScope ["self", "at"] ["self", "at"] (defScope s_Table_getitem) := ⟨rfl, rfl, rfl, by decide +kernel, rfl, by decide +kernel, by decide +kernel⟩
theorem sc_Table_len : FnScope ["self"] ["self"] (defScope s_Table_len) := ⟨rfl, rfl, rfl, by decide +kernel, rfl, by decide +kernel, by decide +kernel⟩
theorem sc_standard_width : FnScope ["kind", "size", "width"] ["kind", "size"] (defScope s_standard_width) := ⟨rfl, rfl, rfl, by decide +kernel, rfl, by decide +kernel, by decide +kernel⟩
theorem sc_standard_rows : FnScope ["kind", "size", "last", "rows", "inner", "at"] ["kind", "size"] (defScope s_standard_rows) := ⟨rfl, rfl, rfl, by decide +kernel, rfl, by decide +kernel, by decide +kernel⟩
theorem sc_Pattern_init : FnScope ["self", "kind", "size", "rows", "columns"] ["self", "kind", "size", "rows", "columns"] (defScope s_Pattern_init) := ⟨rfl, rfl, rfl, by decide +kernel, rfl, by decide +kernel, by decide +kernel⟩
theorem sc_Pattern_eq : FnScope ["self", "other"] ["self", "other"] (defScope s_Pattern_eq) := ⟨rfl, rfl, rfl, by decide +kernel, rfl, by decide +kernel, by decide +kernel⟩
theorem sc_is_alike : FnScope ["names", "columns", "row", "name", "place"] ["names", "columns", "row"] (defScope s_is_alike) := ⟨rfl, rfl, rfl, by decide +kernel, rfl, by decide +kernel, by decide +kernel⟩
theorem sc_lies_in : FnScope ["table", "pattern", "rows", "width", "number", "row"] ["table", "pattern"] (defScope s_lies_in) := ⟨rfl, rfl, rfl, by decide +kernel, rfl, by decide +kernel, by decide +kernel⟩
theorem sc_law_cell : FnScope ["script", "k"] ["script", "k"] (defScope s_law_cell) := ⟨rfl, rfl, rfl, by decide +kernel, rfl, by decide +kernel, by decide +kernel⟩
theorem sc_law_pool : FnScope ["script", "k", "count", "value", "pool", "i", "first", "second", "third"] ["script", "k", "count"] (defScope s_law_pool) := ⟨rfl, rfl, rfl, by decide +kernel, rfl, by decide +kernel, by decide +kernel⟩
theorem sc_law_names : FnScope ["count", "seed", "words", "cut", "names", "k", "core", "left", "right"] ["count", "seed"] (defScope s_law_names) := ⟨rfl, rfl, rfl, by decide +kernel, rfl, by decide +kernel, by decide +kernel⟩
theorem sc_law_order : FnScope ["names", "pool", "start", "left", "order", "k", "pick"] ["names", "pool", "start"] (defScope s_law_order) := ⟨rfl, rfl, rfl, by decide +kernel, rfl, by decide +kernel, by decide +kernel⟩
theorem sc_law_row : FnScope ["names", "hidden", "draw", "free", "row", "name", "size", "first", "width", "cut"] ["names", "hidden", "draw", "free"] (defScope s_law_row) := ⟨rfl, rfl, rfl, by decide +kernel, rfl, by decide +kernel, by decide +kernel⟩
theorem sc_law_is_number : FnScope ["value", "least", "most"] ["value", "least", "most"] (defScope s_law_is_number) := ⟨rfl, rfl, rfl, by decide +kernel, rfl, by decide +kernel, by decide +kernel⟩
theorem sc_law_standard : FnScope ["kind", "size", "rows", "i"] ["kind", "size"] (defScope s_law_standard) := ⟨rfl, rfl, rfl, by decide +kernel, rfl, by decide +kernel, by decide +kernel⟩
theorem sc_law_width : FnScope ["kind", "size"] ["kind", "size"] (defScope s_law_width) := ⟨rfl, rfl, rfl, by decide +kernel, rfl, by decide +kernel, by decide +kernel⟩
theorem sc_law_is_pattern : FnScope ["found", "names", "rows", "due", "width", "i", "j"] ["found", "names", "rows"] (defScope s_law_is_pattern) := ⟨rfl, rfl, rfl, by decide +kernel, rfl, by decide +kernel, by decide +kernel⟩
theorem sc_law_table_rows : FnScope ["order", "kind", "size", "pool", "width", "made", "row", "draw", "laid", "name", "j"] ["order", "kind", "size", "pool"] (defScope s_law_table_rows) := ⟨rfl, rfl, rfl, by decide +kernel, rfl, by decide +kernel, by decide +kernel⟩
theorem sc_law_at : FnScope ["things", "i", "thing"] ["things", "i", "thing"] (defScope s_law_at) := ⟨rfl, rfl, rfl, by decide +kernel, rfl, by decide +kernel, by decide +kernel⟩
theorem sc_law_other_way : FnScope ["told", "kind", "numbers", "columns", "path", "back", "last", "k"] ["told"] (defScope s_law_other_way) := ⟨rfl, rfl, rfl, by decide +kernel, rfl, by decide +kernel, by decide +kernel⟩
theorem sc_law_free : FnScope ["names", "rows", "pool", "known", "numbers", "columns", "i"] ["names", "rows", "pool"] (defScope s_law_free) := ⟨rfl, rfl, rfl, by decide +kernel, rfl, by decide +kernel, by decide +kernel⟩
theorem sc_law_spoiled : FnScope ["told", "names", "rows", "pool", "kind", "size", "numbers", "columns", "word", "i", "j", "k", "m"] ["told", "names", "rows", "pool"] (defScope s_law_spoiled) := ⟨rfl, rfl, rfl, by decide +kernel, rfl, by decide +kernel, by decide +kernel⟩
theorem sc_law_lies : FnScope ["names", "rows", "told", "pattern", "handed", "answer", "due", "row"] ["names", "rows", "told", "pattern"] (defScope s_law_lies) := ⟨rfl, rfl, rfl, by decide +kernel, rfl, by decide +kernel, by decide +kernel⟩
theorem sc_law_attributes : FnScope ["pattern", "told"] ["pattern", "told"] (defScope s_law_attributes) := ⟨rfl, rfl, rfl, by decide +kernel, rfl, by decide +kernel, by decide +kernel⟩
theorem sc_law_alike : FnScope ["told", "other", "one", "answer"] ["told", "other"] (defScope s_law_alike) := ⟨rfl, rfl, rfl, by decide +kernel, rfl, by decide +kernel, by decide +kernel⟩
theorem sc_law : FnScope ["script", "p0", "p1", "p2", "kind", "size", "width", "names", "order", "mixed", "many", "k", "places", "rows", "planted", "told", "handed", "pattern", "good", "turned", "name", "row", "lot", "other", "i"] ["script"] (defScope s_law) := ⟨rfl, rfl, rfl, by decide +kernel, rfl, by decide +kernel, by decide +kernel⟩
/-- where the defs and classes stand -/
structure Ad where
  C_Table : Addr
  C_Pattern : Addr
  C_BadKind : Addr
  a_BadKind_init : Addr
  d_BadKind_init : FuncData
  a_is_name : Addr
  d_is_name : FuncData
  a_first_bad_name : Addr
  d_first_bad_name : FuncData
  a_first_stray : Addr
  d_first_stray : FuncData
  a_check_columns : Addr
  d_check_columns : FuncData
  a_check_rows : Addr
  d_check_rows : FuncData
  a_Table_in_order : Addr
  d_Table_in_order : FuncData
  a_Table_init : Addr
  d_Table_init : FuncData
  a_Table_getitem : Addr
  d_Table_getitem : FuncData
  a_Table_len : Addr
  d_Table_len : FuncData
  a_standard_width : Addr
  d_standard_width : FuncData
  a_standard_rows : Addr
  d_standard_rows : FuncData
  a_Pattern_init : Addr
  d_Pattern_init : FuncData
  a_Pattern_eq : Addr
  d_Pattern_eq : FuncData
  a_is_alike : Addr
  d_is_alike : FuncData
  a_lies_in : Addr
  d_lies_in : FuncData
  a_law_cell : Addr
  d_law_cell : FuncData
  a_law_pool : Addr
  d_law_pool : FuncData
  a_law_names : Addr
  d_law_names : FuncData
  a_law_order : Addr
  d_law_order : FuncData
  a_law_row : Addr
  d_law_row : FuncData
  a_law_is_number : Addr
  d_law_is_number : FuncData
  a_law_standard : Addr
  d_law_standard : FuncData
  a_law_width : Addr
  d_law_width : FuncData
  a_law_is_pattern : Addr
  d_law_is_pattern : FuncData
  a_law_table_rows : Addr
  d_law_table_rows : FuncData
  a_law_at : Addr
  d_law_at : FuncData
  a_law_other_way : Addr
  d_law_other_way : FuncData
  a_law_free : Addr
  d_law_free : FuncData
  a_law_spoiled : Addr
  d_law_spoiled : FuncData
  a_law_lies : Addr
  d_law_lies : FuncData
  a_law_attributes : Addr
  d_law_attributes : FuncData
  a_law_alike : Addr
  d_law_alike : FuncData
  a_law : Addr
  d_law : FuncData
  e_Table_init : Addr
  e_MORE_COLUMNS : Addr
  e_FIXED_COLUMNS : Addr
  e_FIXED_ROWS : Addr
  e_w4 : Addr
  e_w5 : Addr
  e_w40 : Addr
  e_w41 : Addr
  e_w42 : Addr
  e_w43 : Addr
  e_w50 : Addr
  e_w51 : Addr
  e_w52 : Addr
  e_w53 : Addr
/-- what the top has written -/
structure Txt (P : Program) (K : PySem.W.Frag) (mg : Str → Option Value) (A : Ad) : Prop where
  mg_Table : mg "Table" = some (.ref A.C_Table)
  cl_Table : Cls K A.C_Table
  sf_Table : PySem.W.selfFirst K A.C_Table = true
  mk_Table : Mk K A.C_Table A.a_Table_init
  c1_Table : PySem.W.findIn K (.ref A.C_Table) "__class__" = some (some (.builtin "object.__class__"))
  c3_Table : PySem.W.mroIn K A.C_Table (.type "object") = some true
  n_Table_columns : NoAttr K A.C_Table "columns"
  n_Table_rows : NoAttr K A.C_Table "rows"
  mg_Pattern : mg "Pattern" = some (.ref A.C_Pattern)
  cl_Pattern : Cls K A.C_Pattern
  sf_Pattern : PySem.W.selfFirst K A.C_Pattern = true
  mk_Pattern : Mk K A.C_Pattern A.a_Pattern_init
  c1_Pattern : PySem.W.findIn K (.ref A.C_Pattern) "__class__" = some (some (.builtin "object.__class__"))
  c3_Pattern : PySem.W.mroIn K A.C_Pattern (.type "object") = some true
  n_Pattern_kind : NoAttr K A.C_Pattern "kind"
  n_Pattern_size : NoAttr K A.C_Pattern "size"
  n_Pattern_rows : NoAttr K A.C_Pattern "rows"
  n_Pattern_columns : NoAttr K A.C_Pattern "columns"
  c2 : PySem.W.specialIn K (.builtin "object.__class__") "__get__" = some (some (.builtin "getset_descriptor.__get__"))
  c4 : PySem.W.takesIn K (.builtin "object.__class__") = some true
  mg_BadKind : mg "BadKind" = some (.ref A.C_BadKind)
  tp_BadKind : PySem.W.typeIn K (.ref A.C_BadKind) = some (.type "type")
  ic_BadKind : PySem.W.isClsIn K A.C_BadKind = true
  SC_BadKind : SupCls P K mg A.C_BadKind
  SF_BadKind : SupFn P K s_BadKind_init "BadKind.__init__" A.C_BadKind A.a_BadKind_init A.d_BadKind_init
  ii_BadKind : PySem.W.findIn K (.ref A.C_BadKind) "__init__" = some (some (.ref A.a_BadKind_init))
  ti_BadKind : PySem.W.typeIn K (.ref A.a_BadKind_init) = some (.type "function")
  b_BadKind_init : Binds K A.d_BadKind_init ["self", "kind", "size"] []
  xn_BadKind_kind : PySem.W.findIn K (.ref A.C_BadKind) "kind" = some none
  xn_BadKind_size : PySem.W.findIn K (.ref A.C_BadKind) "size" = some none
  xf_BadKind : XfC K A.C_BadKind
  ec_BadKind : ExcC K A.C_BadKind
  k_BadKind : PySem.W.keepIn K (.ref A.C_BadKind) = true
  bp_BadKind : PySem.W.subIn K (.ref A.C_BadKind) (.type "BaseException") = some true
  sv_BadKind : PySem.W.subIn K (.ref A.C_BadKind) (.type "ValueError") = some true
  ss_BadKind : PySem.W.subIn K (.ref A.C_BadKind) (.ref A.C_BadKind) = some true
  e1_BadKind : PySem.W.findIn K (.ref A.C_BadKind) "__getattribute__" = some (some (.builtin "BaseException.__getattribute__"))
  e2_BadKind : PySem.W.findIn K (.ref A.C_BadKind) "__getattr__" = some none
  e3_BadKind : PySem.W.hasDictIn K A.C_BadKind = true
  e4_BadKind : PySem.W.findIn K (.ref A.C_BadKind) "__class__" = some (some (.builtin "object.__class__"))
  e5_BadKind : PySem.W.mroIn K A.C_BadKind (.type "object") = some true
  mg_LONGEST_NAME : ∃ t : Tok, mg "LONGEST_NAME" = some (.int 8 t)
  cr_Table : ClX.CRead K A.C_Table (.type "type")
  cv_Table_MOST_COLUMNS : ∃ u, ClX.CVal K A.C_Table (.type "type") "MOST_COLUMNS" (.int 12) u
  cv_Table_MOST_ROWS : ∃ u, ClX.CVal K A.C_Table (.type "type") "MOST_ROWS" (.int 48) u
  n_abs : mg "abs" = none
  n_int : mg "int" = none
  n_isinstance : mg "isinstance" = none
  n_range : mg "range" = none
  n_len : mg "len" = none
  n_str : mg "str" = none
  n_tuple : mg "tuple" = none
  n_list : mg "list" = none
  n_ValueError : mg "ValueError" = none
  n_all : mg "all" = none
  n_min : mg "min" = none
  n_max : mg "max" = none
  n_enumerate : mg "enumerate" = none
  n_bool : mg "bool" = none
  n_zip : mg "zip" = none
  mg_MORE_COLUMNS : mg "MORE_COLUMNS" = some (.ref A.e_MORE_COLUMNS)
  id_MORE_COLUMNS : IDict K A.e_MORE_COLUMNS [(1, .int 2), (2, .int 3), (3, .int 3)]
  mg_FIXED_COLUMNS : mg "FIXED_COLUMNS" = some (.ref A.e_FIXED_COLUMNS)
  id_FIXED_COLUMNS : IDict K A.e_FIXED_COLUMNS [(4, .int 6), (5, .int 5)]
  mg_FIXED_ROWS : mg "FIXED_ROWS" = some (.ref A.e_FIXED_ROWS)
  id_FIXED_ROWS : IDict K A.e_FIXED_ROWS [(4, .ref A.e_w4), (5, .ref A.e_w5)]
  wt_w4 : WTup K A.e_w4 [.ref A.e_w40, .ref A.e_w41, .ref A.e_w42, .ref A.e_w43]
  wt_w5 : WTup K A.e_w5 [.ref A.e_w50, .ref A.e_w51, .ref A.e_w52, .ref A.e_w53]
  wt_w40 : WTup K A.e_w40 [.int 0, .int 1]
  wt_w41 : WTup K A.e_w41 [.int 2, .int 3]
  wt_w42 : WTup K A.e_w42 [.int 4, .int 5]
  wt_w43 : WTup K A.e_w43 [.int 1, .int 3, .int 5]
  wt_w50 : WTup K A.e_w50 [.int 0, .int 1]
  wt_w51 : WTup K A.e_w51 [.int 2, .int 3]
  wt_w52 : WTup K A.e_w52 [.int 0, .int 1, .int 2, .int 3]
  wt_w53 : WTup K A.e_w53 [.int 1, .int 2, .int 4]
  F_is_name : Fun K "is_name" "is_name" s_is_name A.a_is_name A.d_is_name
  b_is_name : Binds K A.d_is_name ["text"] []
  mg_is_name : mg "is_name" = some (.ref A.a_is_name)
  F_first_bad_name : Fun K "first_bad_name" "first_bad_name" s_first_bad_name A.a_first_bad_name A.d_first_bad_name
  b_first_bad_name : Binds K A.d_first_bad_name ["names"] []
  mg_first_bad_name : mg "first_bad_name" = some (.ref A.a_first_bad_name)
  F_first_stray : Fun K "first_stray" "first_stray" s_first_stray A.a_first_stray A.d_first_stray
  b_first_stray : Binds K A.d_first_stray ["columns", "names"] []
  mg_first_stray : mg "first_stray" = some (.ref A.a_first_stray)
  F_check_columns : Fun K "check_columns" "check_columns" s_check_columns A.a_check_columns A.d_check_columns
  b_check_columns : Binds K A.d_check_columns ["columns"] []
  mg_check_columns : mg "check_columns" = some (.ref A.a_check_columns)
  F_check_rows : Fun K "_check_rows" "_check_rows" s_check_rows A.a_check_rows A.d_check_rows
  b_check_rows : Binds K A.d_check_rows ["columns", "rows"] []
  mg_check_rows : mg "_check_rows" = some (.ref A.a_check_rows)
  F_Table_in_order : Fun K "_in_order" "Table._in_order" s_Table_in_order A.a_Table_in_order A.d_Table_in_order
  b_Table_in_order : Binds K A.d_Table_in_order ["self", "names"] []
  m_Table_in_order : Meth K A.C_Table "_in_order" A.a_Table_in_order
  F_Table_init : FunD K "__init__" "Table.__init__" (defArgs s_Table_init) (defBody s_Table_init) (defScope s_Table_init) [.ref A.e_Table_init] [] A.a_Table_init A.d_Table_init
  m_Table_init : Meth K A.C_Table "__init__" A.a_Table_init
  F_Table_getitem : Fun K "__getitem__" "Table.__getitem__" s_Table_getitem A.a_Table_getitem A.d_Table_getitem
  b_Table_getitem : Binds K A.d_Table_getitem ["self", "at"] []
  m_Table_getitem : Meth K A.C_Table "__getitem__" A.a_Table_getitem
  F_Table_len : Fun K "__len__" "Table.__len__" s_Table_len A.a_Table_len A.d_Table_len
  b_Table_len : Binds K A.d_Table_len ["self"] []
  m_Table_len : Meth K A.C_Table "__len__" A.a_Table_len
  F_standard_width : Fun K "standard_width" "standard_width" s_standard_width A.a_standard_width A.d_standard_width
  b_standard_width : Binds K A.d_standard_width ["kind", "size"] []
  mg_standard_width : mg "standard_width" = some (.ref A.a_standard_width)
  F_standard_rows : Fun K "standard_rows" "standard_rows" s_standard_rows A.a_standard_rows A.d_standard_rows
  b_standard_rows : Binds K A.d_standard_rows ["kind", "size"] []
  mg_standard_rows : mg "standard_rows" = some (.ref A.a_standard_rows)
  F_Pattern_init : Fun K "__init__" "Pattern.__init__" s_Pattern_init A.a_Pattern_init A.d_Pattern_init
  b_Pattern_init : Binds K A.d_Pattern_init ["self", "kind", "size", "rows", "columns"] []
  m_Pattern_init : Meth K A.C_Pattern "__init__" A.a_Pattern_init
  F_Pattern_eq : Fun K "__eq__" "Pattern.__eq__" s_Pattern_eq A.a_Pattern_eq A.d_Pattern_eq
  b_Pattern_eq : Binds K A.d_Pattern_eq ["self", "other"] []
  m_Pattern_eq : Meth K A.C_Pattern "__eq__" A.a_Pattern_eq
  F_is_alike : Fun K "_is_alike" "_is_alike" s_is_alike A.a_is_alike A.d_is_alike
  b_is_alike : Binds K A.d_is_alike ["names", "columns", "row"] []
  mg_is_alike : mg "_is_alike" = some (.ref A.a_is_alike)
  F_lies_in : Fun K "lies_in" "lies_in" s_lies_in A.a_lies_in A.d_lies_in
  b_lies_in : Binds K A.d_lies_in ["table", "pattern"] []
  mg_lies_in : mg "lies_in" = some (.ref A.a_lies_in)
  F_law_cell : Fun K "_law_cell" "_law_cell" s_law_cell A.a_law_cell A.d_law_cell
  b_law_cell : Binds K A.d_law_cell ["script", "k"] []
  mg_law_cell : mg "_law_cell" = some (.ref A.a_law_cell)
  F_law_pool : Fun K "_law_pool" "_law_pool" s_law_pool A.a_law_pool A.d_law_pool
  b_law_pool : Binds K A.d_law_pool ["script", "k", "count"] []
  mg_law_pool : mg "_law_pool" = some (.ref A.a_law_pool)
  F_law_names : Fun K "_law_names" "_law_names" s_law_names A.a_law_names A.d_law_names
  b_law_names : Binds K A.d_law_names ["count", "seed"] []
  mg_law_names : mg "_law_names" = some (.ref A.a_law_names)
  F_law_order : Fun K "_law_order" "_law_order" s_law_order A.a_law_order A.d_law_order
  b_law_order : Binds K A.d_law_order ["names", "pool", "start"] []
  mg_law_order : mg "_law_order" = some (.ref A.a_law_order)
  F_law_row : Fun K "_law_row" "_law_row" s_law_row A.a_law_row A.d_law_row
  b_law_row : Binds K A.d_law_row ["names", "hidden", "draw", "free"] []
  mg_law_row : mg "_law_row" = some (.ref A.a_law_row)
  F_law_is_number : Fun K "_law_is_number" "_law_is_number" s_law_is_number A.a_law_is_number A.d_law_is_number
  b_law_is_number : Binds K A.d_law_is_number ["value", "least", "most"] []
  mg_law_is_number : mg "_law_is_number" = some (.ref A.a_law_is_number)
  F_law_standard : Fun K "_law_standard" "_law_standard" s_law_standard A.a_law_standard A.d_law_standard
  b_law_standard : Binds K A.d_law_standard ["kind", "size"] []
  mg_law_standard : mg "_law_standard" = some (.ref A.a_law_standard)
  F_law_width : Fun K "_law_width" "_law_width" s_law_width A.a_law_width A.d_law_width
  b_law_width : Binds K A.d_law_width ["kind", "size"] []
  mg_law_width : mg "_law_width" = some (.ref A.a_law_width)
  F_law_is_pattern : Fun K "_law_is_pattern" "_law_is_pattern" s_law_is_pattern A.a_law_is_pattern A.d_law_is_pattern
  b_law_is_pattern : Binds K A.d_law_is_pattern ["found", "names", "rows"] []
  mg_law_is_pattern : mg "_law_is_pattern" = some (.ref A.a_law_is_pattern)
  F_law_table_rows : Fun K "_law_table_rows" "_law_table_rows" s_law_table_rows A.a_law_table_rows A.d_law_table_rows
  b_law_table_rows : Binds K A.d_law_table_rows ["order", "kind", "size", "pool"] []
  mg_law_table_rows : mg "_law_table_rows" = some (.ref A.a_law_table_rows)
  F_law_at : Fun K "_law_at" "_law_at" s_law_at A.a_law_at A.d_law_at
  b_law_at : Binds K A.d_law_at ["things", "i", "thing"] []
  mg_law_at : mg "_law_at" = some (.ref A.a_law_at)
  F_law_other_way : Fun K "_law_other_way" "_law_other_way" s_law_other_way A.a_law_other_way A.d_law_other_way
  b_law_other_way : Binds K A.d_law_other_way ["told"] []
  mg_law_other_way : mg "_law_other_way" = some (.ref A.a_law_other_way)
  F_law_free : Fun K "_law_free" "_law_free" s_law_free A.a_law_free A.d_law_free
  b_law_free : Binds K A.d_law_free ["names", "rows", "pool"] []
  mg_law_free : mg "_law_free" = some (.ref A.a_law_free)
  F_law_spoiled : Fun K "_law_spoiled" "_law_spoiled" s_law_spoiled A.a_law_spoiled A.d_law_spoiled
  b_law_spoiled : Binds K A.d_law_spoiled ["told", "names", "rows", "pool"] []
  mg_law_spoiled : mg "_law_spoiled" = some (.ref A.a_law_spoiled)
  F_law_lies : Fun K "_law_lies" "_law_lies" s_law_lies A.a_law_lies A.d_law_lies
  b_law_lies : Binds K A.d_law_lies ["names", "rows", "told", "pattern"] []
  mg_law_lies : mg "_law_lies" = some (.ref A.a_law_lies)
  F_law_attributes : Fun K "_law_attributes" "_law_attributes" s_law_attributes A.a_law_attributes A.d_law_attributes
  b_law_attributes : Binds K A.d_law_attributes ["pattern", "told"] []
  mg_law_attributes : mg "_law_attributes" = some (.ref A.a_law_attributes)
  F_law_alike : Fun K "_law_alike" "_law_alike" s_law_alike A.a_law_alike A.d_law_alike
  b_law_alike : Binds K A.d_law_alike ["told", "other"] []
  mg_law_alike : mg "_law_alike" = some (.ref A.a_law_alike)
  F_law : Fun K "law" "law" s_law A.a_law A.d_law
  b_law : Binds K A.d_law ["script"] []
  mg_law : mg "law" = some (.ref A.a_law)
end My
set_option maxRecDepth 100000
set_option maxHeartbeats 4000000
set_option exponentiation.threshold 10000
namespace My
open PySem L2
section
variable {P : Program} {w : World} {K : PySem.W.Frag} {mg : Str → Option Value} {base : Heap} {A : Ad}
def midI (i : Int) : Prop := i.natAbs < 4611686018427387904
theorem mid_log {i : Int} (h : midI i) : i.natAbs.log2 < 1920 := by
  rcases Nat.eq_zero_or_pos i.natAbs with e | e
  · rw [e]; decide
  · have : i.natAbs.log2 < 62 := (Nat.log2_lt (Nat.pos_iff_ne_zero.mp e)).mpr h
    omega
/-- an error with two numbers -/
def spX2I (C : Addr) (f g : Str) : Sp := fun vs H Q _ => ∃ (a : Addr) (y z : Int), vs = [.ref a, .int y, .int z] ∧ midI y ∧ midI z ∧ H a = some (exo a C none) ∧ ∀ d, H d = none → d ≠ a → Q .non (upd (upd (upd H d (exd d [(f, .int y)])) a (exo a C (some d))) d (exd d [(g, .int z), (f, .int y)]))
theorem lk1 : Str.length ("no standard table has kind " : Str) = 27 := by decide
theorem lk2 : Str.length (" and size " : Str) = 10 := by decide
theorem ok_BadKind (T : Txt P K mg A) : FnOk P w K mg base CX0 1 A.a_BadKind_init A.d_BadKind_init ["self", "kind", "size"] (spX2I A.C_BadKind "kind" "size") := by
  refine sup_ok T.SF_BadKind ss_BadKind_init T.SC_BadKind rfl rfl rfl (fun _ => rfl) (fun _ => rfl) (fun _ => rfl) (fun vs H Q E h => ?_) (fun cda cc A' outer s H vs Q E hr h => ?_)
  · obtain ⟨a, y, z, rfl, _⟩ := h
    rfl
  · obtain ⟨a, y, z, rfl, hy, hz, ha, k⟩ := h
    have l1 := PyProof.Rows.int_text_len_1921 (mid_log hy)
    have l2 := PyProof.Rows.int_text_len_1921 (mid_log hz)
    refine ⟨a, _, _, rfl, ha, (pe_joined (PJ.cons pe_str (PJ.cons (pe_fmt (pv 1)) (PJ.cons pe_str (PJ.cons (pe_fmt (pv 2)) PJ.nil))))), (pss_cons (ps_ost (pv 0) (pv 1)) (pss_one (ps_ost (pv 0) (pv 2)))), ?_⟩
    have big : (8000 : Nat) ≤ sizeLine := by decide
    refine ⟨_, rfl, by rw [Str.empty_append, lk1]; decide, _, rfl, .inr ⟨y, rfl, mid_log hy, _, rfl, ?_, _, rfl, ?_, _, rfl, .inr ⟨z, rfl, mid_log hz, _, rfl, ?_, (by decide : 1 ≤ 1000), ha, _, rfl, _, rfl, a, _, rfl, T.SC_BadKind.ox, T.xn_BadKind_kind, .inl ⟨ha, fun d hd hne => ⟨_, rfl, _, rfl, a, _, rfl, T.SC_BadKind.ox, T.xn_BadKind_size, .inr ⟨d, _, upd_same, by rw [upd_ne hne]; exact upd_same, by show 1 ≤ 900; decide, k d hd hne⟩⟩⟩⟩⟩⟩
    · rw [Str.empty_append, Str.length_append, lk1]; omega
    · rw [Str.empty_append, Str.length_append, Str.length_append, lk1, lk2]; omega
    · rw [Str.empty_append, Str.length_append, Str.length_append, Str.length_append, lk1, lk2]; omega
/-! ### names -/
def spName : Sp := fun vs H Q _ => ∃ z, vs = [.str z] ∧ z.length ≤ 16000000 ∧ ∀ H', Same H H' → Q (.bl (okName z)) H'
theorem ok_name (T : Txt P K mg A) : FnOk P w K mg base CX0 1 A.a_is_name A.d_is_name ["text"] spName := by
  refine T.F_is_name.ok sc_is_name (fun vs H Q E h => ?_) (fun cdv A' outer s H vs Q E hr h => ?_)
  · obtain ⟨z, rfl, _⟩ := h
    rfl
  · obtain ⟨z, rfl, g, k⟩ := h
    refine ⟨_, (pss_one (ps_ret (pe_and (pe_chain op_le op_le pe_int (pe_callB call_len_str (by rfl) T.n_len (by decide +kernel) (pa_cons (pv 0) pa_nil)) (pe_glob (v := .int 8) rfl T.mg_LONGEST_NAME.choose_spec ⟨_, rfl⟩)) (pe_one (pe_callB (cr_all rfl) (by rfl) T.n_all (by decide +kernel) (pa_cons (pe_lc (own := [("sign", 1)]) (g := gName 1) (tt := tYes) rfl sc_is_name.nd (pi_str (pv 0)) (blkOk_by (N := ["text", "sign"]) (sc := defScope s_is_name) (by decide +kernel)) (fun _ _ _ _ _ => (pg_name (i := 1) sc_is_name.nd rfl (Or.inl rfl))) (fun _ _ _ _ _ => pts_nil) (fun _ _ _ _ _ => (pe_chain op_le_str op_le_str pe_str (pv 1) pe_str))) pa_nil)))))), ?_⟩
    have hz : z.length ≤ sizeLine := Nat.le_trans g (by decide)
    refine ⟨_, rfl, z, rfl, hz, _, _, rfl, rfl, _, rfl, ?_⟩
    by_cases h1 : 1 ≤ z.length
    · refine itY (by omega) ⟨_, _, rfl, rfl, _, rfl, ?_⟩
      by_cases h8 : z.length ≤ 8
      · refine itY (by omega) ?_
        refine ⟨_, rfl, z, rfl, fun D hD => lc_it walk_str (PvS H D fun i => (z.cps.toList.take i).map fun c => V.bl (decide (97 ≤ c ∧ c ≤ 122))) (pv0 hD rfl) (fun _ _ _ _ => trivial) ?_ ?_⟩
        · rintro i x H30 H3 hi p ⟨rfl, c, hc, rfl⟩
          have hc' : z.cps.toList[i]? = some c := by rw [Array.getElem?_toList]; exact hc
          have push : ∀ b : Bool, b = decide (97 ≤ c ∧ c ≤ 122) → ∃ acc, H3 D = some (.lst acc) ∧ acc.length < sizeLine ∧ PvS H D (fun i => (z.cps.toList.take i).map fun c => V.bl (decide (97 ≤ c ∧ c ≤ 122))) (i + 1) (upd H3 D (.lst (acc ++ [V.bl b]))) := fun b hb => by
            refine p.push hD ?_ ?_
            · show (z.cps.toList.take (i + 1)).map _ = _
              rw [take_succ hc', List.map_append, hb]; rfl
            · show ((z.cps.toList.take i).map _).length ≤ 1000000
              rw [List.length_map, List.length_take]
              have h2 : z.cps.size = z.length := rfl
              rw [Array.length_toList]; omega
          refine ⟨rfl, ?_⟩
          refine ⟨_, rfl, _, _, rfl, rfl, _, rfl, ?_⟩
          by_cases ha : 97 ≤ c
          · refine ifT (by
              show (!decide ([c] < [97])) = true
              have : ¬ c < 97 := by omega
              simp [List.cons_lt_cons_iff] <;> omega) ⟨_, _, rfl, rfl, push _ ?_⟩
            show (!decide ([122] < [c])) = decide (97 ≤ c ∧ c ≤ 122)
            by_cases hb : c ≤ 122
            · rw [decide_eq_true (⟨ha, hb⟩ : 97 ≤ c ∧ c ≤ 122)]
              simp [List.cons_lt_cons_iff] <;> omega
            · rw [decide_eq_false (fun h : 97 ≤ c ∧ c ≤ 122 => hb h.2)]
              simp [List.cons_lt_cons_iff] <;> omega
          · refine ifF (by
              show (!decide ([c] < [97])) = false
              simp [List.cons_lt_cons_iff] <;> omega) (push _ ?_)
            rw [decide_eq_false (fun h : 97 ≤ c ∧ c ≤ 122 => ha h.1)]
            first | done | (show (!decide ([c] < [97])) = false; simp [List.cons_lt_cons_iff] <;> omega)
        · rintro H3 ⟨sm, h3⟩
          have h3 : H3 D = some (.lst ((z.cps.toList.take z.cps.size).map fun c => V.bl (decide (97 ≤ c ∧ c ≤ 122)))) := h3
          rw [List.take_of_length_le (by rw [Array.length_toList]; exact Nat.le_refl _)] at h3
          refine ⟨D, z.cps.toList.map fun c => decide (97 ≤ c ∧ c ≤ 122), rfl, SqL.of (by rw [List.map_map]; exact h3), ?_⟩
          have e : (z.cps.toList.map fun c => decide (97 ≤ c ∧ c ≤ 122)).all id = okName z := by
            unfold okName
            rw [decide_eq_true h1, decide_eq_true h8, List.all_map]; rfl
          rw [e]
          exact k H3 sm
      · refine itN (by omega) ?_
        have e : okName z = false := by unfold okName; rw [decide_eq_false h8]; simp
        rw [e] at k
        exact k H (Same.refl _)
    · refine itN (by omega) ?_
      have e : okName z = false := by unfold okName; rw [decide_eq_false h1]; rfl
      rw [e] at k
      exact ⟨_, rfl, iteF (k H (Same.refl _))⟩
def spFirstBad (sq : Hp → Addr → List V → Prop) : Sp := fun vs H Q _ => ∃ l ns, vs = [.ref l] ∧ sq H l (sv ns) ∧ (∀ z ∈ ns, z.length ≤ 16000000) ∧ ∀ H', Same H H' → Q (optV (firstBad ns)) H'
theorem ok_firstBad (T : Txt P K mg A) : FnOk P w K mg base CX0 2 A.a_first_bad_name A.d_first_bad_name ["names"] (spFirstBad (SqL K)) := by
  have G_is_name := ok_name (P := P) (w := w) (base := base) T
  refine T.F_first_bad_name.ok sc_first_bad_name (fun vs H Q E h => ?_) (fun cdv A' outer s H vs Q E hr h => ?_)
  · obtain ⟨l, ns, rfl, _⟩ := h
    rfl
  · obtain ⟨l, ns, rfl, hS, g, k⟩ := h
    refine ⟨_, (pss_cons (ps_for PassesOwn.never rfl (pi_enum (by rfl) T.n_enumerate (pa_cons (pv 0) pa_nil)) (pg_tup (by rfl) (pgs_cons (pg_name (i := 1) sc_first_bad_name.nd rfl (Or.inl rfl)) (pgs_cons (pg_name (i := 2) sc_first_bad_name.nd rfl (Or.inl rfl)) pgs_nil)))
        (pss_one (ps_if (PW.pt (pw_or (pt_not (pt_val (pe_call G_is_name (hr.mono (by decide)) rfl T.mg_is_name T.F_is_name.kp T.b_is_name .nil pass0 (pa_cons (pv 2) pa_nil)))) (pw_or1 (pt_cmpR op_in_seq (pv 2) (pe_slice sl_list (pv 0) po_none (po_some (pv 1))) (by with_unfolding_all rfl))))) (pss_one (ps_ret (pv 1))) pss_nil)))
      (pss_one (ps_ret pe_non))), ?_⟩
    refine ⟨_, rfl, l, _, rfl, hS, for_it walk_enum (fun i σ H2 => Same H H2 ∧ (∀ j, j < i → badName ns j = false) ∧ ∃ u1 u2 : Option V, σ = [some (.ref l), u1, u2]) ⟨Same.refl _, fun j hj => absurd hj (Nat.not_lt_zero _), none, none, rfl⟩ (fun i σ H2 _ p => p.1.seq hS) ?_ ?_⟩
    · rintro i x σ H2 H3 hi ⟨sm, hb, u1, u2, rfl⟩ ⟨t, _, _, rfl, ht, rfl, ⟨⟩, hx⟩
      obtain ⟨z, hz, rfl⟩ := sv_get hx
      have hil : i < ns.length := by rw [len_sv] at hi; exact hi
      have bad : badName ns i = (!okName z || decide (z ∈ ns.take i)) := by unfold badName; rw [hz]
      refine ⟨t, _, rfl, SqT.of upd_same, rfl, _, _, rfl, _, _, rfl, rfl, ?_⟩
      refine ⟨_, rfl, z, rfl, g z (List.mem_of_getElem? hz), fun H4 sm4 => ⟨_, rfl, ?_⟩⟩
      have s4 : Same H H4 := sm.trans ((same_new ht).trans sm4)
      cases ok : okName z with
      | false =>
        refine ifT rfl (ifT rfl ⟨_, rfl, ?_⟩)
        have e := firstBad_some hil (by rw [bad, ok]; rfl) hb
        rw [e] at k
        exact k _ s4
      | true =>
        refine ifF rfl ⟨_, rfl, _, rfl, _, rfl, _, rfl, l, _, rfl, s4.seq hS, fun p hp => ⟨p, _, rfl, .inl (SqL.of upd_same), rfl, by rw [cut_take (by omega), sv_take]; exact flat_sv _, _, rfl, ?_⟩⟩
        rw [if_neg Bool.false_ne_true, cut_take (by omega), sv_take, inV_str]
        have s5 := s4.trans (same_new (o := .lst (cutV (sv ns) none (some ((i : Nat) : Int)))) hp)
        rw [cut_take (by omega), sv_take] at s5
        by_cases hp2 : z ∈ ns.take i
        · refine ifT (decide_eq_true hp2) ⟨_, rfl, ?_⟩
          have e := firstBad_some hil (by rw [bad, decide_eq_true hp2, Bool.or_true]) hb
          rw [e] at k
          exact k _ s5
        · refine ifF (decide_eq_false hp2) ⟨s5, fun j hj => ?_, _, _, rfl⟩
          rcases Nat.lt_succ_iff_lt_or_eq.mp hj with q | q
          · exact hb j q
          · rw [q, bad, ok, decide_eq_false hp2]; rfl
    · rintro σ H2 ⟨sm, hb, u1, u2, rfl⟩
      have e := firstBad_none (ns := ns) fun j hj => hb j (by rw [len_sv]; exact hj)
      rw [e] at k
      exact k H2 sm
theorem ok_firstBadT (T : Txt P K mg A) : FnOk P w K mg base CX0 2 A.a_first_bad_name A.d_first_bad_name ["names"] (spFirstBad (SqT K)) := by
  have G_is_name := ok_name (P := P) (w := w) (base := base) T
  refine T.F_first_bad_name.ok sc_first_bad_name (fun vs H Q E h => ?_) (fun cdv A' outer s H vs Q E hr h => ?_)
  · obtain ⟨l, ns, rfl, _⟩ := h
    rfl
  · obtain ⟨l, ns, rfl, hS, g, k⟩ := h
    refine ⟨_, (pss_cons (ps_for PassesOwn.never rfl (pi_enumT (by rfl) T.n_enumerate (pa_cons (pv 0) pa_nil)) (pg_tup (by rfl) (pgs_cons (pg_name (i := 1) sc_first_bad_name.nd rfl (Or.inl rfl)) (pgs_cons (pg_name (i := 2) sc_first_bad_name.nd rfl (Or.inl rfl)) pgs_nil)))
        (pss_one (ps_if (PW.pt (pw_or (pt_not (pt_val (pe_call G_is_name (hr.mono (by decide)) rfl T.mg_is_name T.F_is_name.kp T.b_is_name .nil pass0 (pa_cons (pv 2) pa_nil)))) (pw_or1 (pt_cmpR op_in_seq (pv 2) (pe_slice sl_tupA (pv 0) po_none (po_some (pv 1))) (by with_unfolding_all rfl))))) (pss_one (ps_ret (pv 1))) pss_nil)))
      (pss_one (ps_ret pe_non))), ?_⟩
    refine ⟨_, rfl, l, _, rfl, hS, for_it walk_enumT (fun i σ H2 => Same H H2 ∧ (∀ j, j < i → badName ns j = false) ∧ ∃ u1 u2 : Option V, σ = [some (.ref l), u1, u2]) ⟨Same.refl _, fun j hj => absurd hj (Nat.not_lt_zero _), none, none, rfl⟩ (fun i σ H2 _ p => p.1.tup hS) ?_ ?_⟩
    · rintro i x σ H2 H3 hi ⟨sm, hb, u1, u2, rfl⟩ ⟨t, _, _, rfl, ht, rfl, ⟨⟩, hx⟩
      obtain ⟨z, hz, rfl⟩ := sv_get hx
      have hil : i < ns.length := by rw [len_sv] at hi; exact hi
      have bad : badName ns i = (!okName z || decide (z ∈ ns.take i)) := by unfold badName; rw [hz]
      refine ⟨t, _, rfl, SqT.of upd_same, rfl, _, _, rfl, _, _, rfl, rfl, ?_⟩
      refine ⟨_, rfl, z, rfl, g z (List.mem_of_getElem? hz), fun H4 sm4 => ⟨_, rfl, ?_⟩⟩
      have s4 : Same H H4 := sm.trans ((same_new ht).trans sm4)
      cases ok : okName z with
      | false =>
        refine ifT rfl (ifT rfl ⟨_, rfl, ?_⟩)
        have e := firstBad_some hil (by rw [bad, ok]; rfl) hb
        rw [e] at k
        exact k _ s4
      | true =>
        refine ifF rfl ⟨_, rfl, _, rfl, _, rfl, _, rfl, l, _, rfl, s4.tup hS, fun z => absurd z.2 (by rw [HT.sIx_nat, len_sv]; omega), fun _ p hp => ⟨p, _, rfl, .inr (SqT.of upd_same), rfl, by rw [cut_take (by omega), sv_take]; exact flat_sv _, _, rfl, ?_⟩⟩
        rw [if_neg Bool.false_ne_true, cut_take (by omega), sv_take, inV_str]
        have s5 := s4.trans (same_new (o := .tup (cutV (sv ns) none (some ((i : Nat) : Int)))) hp)
        rw [cut_take (by omega), sv_take] at s5
        by_cases hp2 : z ∈ ns.take i
        · refine ifT (decide_eq_true hp2) ⟨_, rfl, ?_⟩
          have e := firstBad_some hil (by rw [bad, decide_eq_true hp2, Bool.or_true]) hb
          rw [e] at k
          exact k _ s5
        · refine ifF (decide_eq_false hp2) ⟨s5, fun j hj => ?_, _, _, rfl⟩
          rcases Nat.lt_succ_iff_lt_or_eq.mp hj with q | q
          · exact hb j q
          · rw [q, bad, ok, decide_eq_false hp2]; rfl
    · rintro σ H2 ⟨sm, hb, u1, u2, rfl⟩
      have e := firstBad_none (ns := ns) fun j hj => hb j (by rw [len_sv]; exact hj)
      rw [e] at k
      exact k H2 sm
theorem ok_firstBadO (T : Txt P K mg A) : FnOk P w K mg base CX0 2 A.a_first_bad_name A.d_first_bad_name ["names"] (spFirstBad (SqA K)) :=
  (fnok_or (ok_firstBad T) (ok_firstBadT T)).imp fun vs H Q E ⟨l, ns, e, hs, r⟩ => hs.elim (fun h => .inl ⟨l, ns, e, h, r⟩) (fun h => .inr ⟨l, ns, e, h, r⟩)
def spStray (sq1 sq2 : Hp → Addr → List V → Prop) : Sp := fun vs H Q _ => ∃ c l cs ns, vs = [.ref c, .ref l] ∧ sq1 H c (sv cs) ∧ sq2 H l (sv ns) ∧ ns.length ≤ 1000 ∧ ∀ H', Same H H' → Q (optV (stray cs ns)) H'
theorem ok_stray (T : Txt P K mg A) : FnOk P w K mg base CX0 1 A.a_first_stray A.d_first_stray ["columns", "names"] (spStray (SqA K) (SqL K)) := by
  refine T.F_first_stray.ok sc_first_stray (fun vs H Q E h => ?_) (fun cdv A' outer s H vs Q E hr h => ?_)
  · obtain ⟨c, l, cs, ns, rfl, _⟩ := h
    rfl
  · obtain ⟨c, l, cs, ns, rfl, h1, h2, hl, k⟩ := h
    refine ⟨_, (pss_cons (ps_for PassesOwn.never rfl (pi_enum (by rfl) T.n_enumerate (pa_cons (pv 1) pa_nil)) (pg_tup (by rfl) (pgs_cons (pg_name (i := 2) sc_first_stray.nd rfl (Or.inl rfl)) (pgs_cons (pg_name (i := 3) sc_first_stray.nd rfl (Or.inl rfl)) pgs_nil)))
        (pss_one (ps_if (PW.pt (pw_or (pt_cmpR op_notIn_seq (pv 3) (pv 0) (by with_unfolding_all rfl)) (pw_or1 (pt_cmpR op_in_seq (pv 3) (pe_slice sl_list (pv 1) po_none (po_some (pv 2))) (by with_unfolding_all rfl))))) (pss_one (ps_ret (pv 2))) pss_nil)))
      (pss_one (ps_ret pe_non))), ?_⟩
    refine ⟨_, rfl, l, _, rfl, h2, for_it walk_enum (fun i σ H2 => Same H H2 ∧ (∀ j, j < i → badAt cs ns j = false) ∧ ∃ u1 u2 : Option V, σ = [some (.ref c), some (.ref l), u1, u2]) ⟨Same.refl _, fun j hj => absurd hj (Nat.not_lt_zero _), none, none, rfl⟩ (fun i σ H2 _ p => p.1.seq h2) ?_ ?_⟩
    · rintro i x σ H2 H3 hi ⟨sm, hb, u1, u2, rfl⟩ ⟨t, _, _, rfl, ht, rfl, ⟨⟩, hx⟩
      obtain ⟨z, hz, rfl⟩ := sv_get hx
      have hil : i < ns.length := by rw [len_sv] at hi; exact hi
      have bad : badAt cs ns i = (!decide (z ∈ cs) || decide (z ∈ ns.take i)) := by unfold badAt; rw [hz]
      refine ⟨t, _, rfl, SqT.of upd_same, rfl, _, _, rfl, _, _, rfl, rfl, ?_⟩
      have s3 : Same H (upd H2 t (.tup [.int (i : Nat), .str z])) := sm.trans (same_new ht)
      refine ⟨_, rfl, _, rfl, c, _, rfl, s3.sqa h1, rfl, flat_sv _, _, rfl, ?_⟩
      rw [if_pos (rfl : true = true), inV_str]
      by_cases hc : z ∈ cs
      · refine ifF (by rw [decide_eq_true hc]; rfl) ?_
        refine ⟨_, rfl, _, rfl, _, rfl, _, rfl, l, _, rfl, s3.seq h2, fun p hp => ⟨p, _, rfl, .inl (SqL.of upd_same), rfl, by rw [cut_take (by omega), sv_take]; exact flat_sv _, _, rfl, ?_⟩⟩
        rw [if_neg Bool.false_ne_true, cut_take (by omega), sv_take, inV_str]
        have s4 := s3.trans (same_new (o := .lst (cutV (sv ns) none (some ((i : Nat) : Int)))) hp)
        rw [cut_take (by omega), sv_take] at s4
        by_cases hp2 : z ∈ ns.take i
        · refine ifT (decide_eq_true hp2) ⟨_, rfl, ?_⟩
          have e := stray_some (cs := cs) hil (by rw [bad, decide_eq_true hp2, Bool.or_true]) hb
          rw [e] at k
          exact k _ s4
        · refine ifF (decide_eq_false hp2) ⟨s4, fun j hj => ?_, _, _, rfl⟩
          rcases Nat.lt_succ_iff_lt_or_eq.mp hj with q | q
          · exact hb j q
          · rw [q, bad, decide_eq_true hc, decide_eq_false hp2]; rfl
      · refine ifT (by rw [decide_eq_false hc]; rfl) (ifT rfl ⟨_, rfl, ?_⟩)
        have e := stray_some (cs := cs) hil (by rw [bad, decide_eq_false hc]; rfl) hb
        rw [e] at k
        exact k _ s3
    · rintro σ H2 ⟨sm, hb, u1, u2, rfl⟩
      have e := stray_none (cs := cs) (ns := ns) fun j hj => hb j (by rw [len_sv]; exact hj)
      rw [e] at k
      exact k H2 sm
theorem ok_strayT (T : Txt P K mg A) : FnOk P w K mg base CX0 1 A.a_first_stray A.d_first_stray ["columns", "names"] (spStray (SqA K) (SqT K)) := by
  refine T.F_first_stray.ok sc_first_stray (fun vs H Q E h => ?_) (fun cdv A' outer s H vs Q E hr h => ?_)
  · obtain ⟨c, l, cs, ns, rfl, _⟩ := h
    rfl
  · obtain ⟨c, l, cs, ns, rfl, h1, h2, hl, k⟩ := h
    refine ⟨_, (pss_cons (ps_for PassesOwn.never rfl (pi_enumT (by rfl) T.n_enumerate (pa_cons (pv 1) pa_nil)) (pg_tup (by rfl) (pgs_cons (pg_name (i := 2) sc_first_stray.nd rfl (Or.inl rfl)) (pgs_cons (pg_name (i := 3) sc_first_stray.nd rfl (Or.inl rfl)) pgs_nil)))
        (pss_one (ps_if (PW.pt (pw_or (pt_cmpR op_notIn_seq (pv 3) (pv 0) (by with_unfolding_all rfl)) (pw_or1 (pt_cmpR op_in_seq (pv 3) (pe_slice sl_tupA (pv 1) po_none (po_some (pv 2))) (by with_unfolding_all rfl))))) (pss_one (ps_ret (pv 2))) pss_nil)))
      (pss_one (ps_ret pe_non))), ?_⟩
    refine ⟨_, rfl, l, _, rfl, h2, for_it walk_enumT (fun i σ H2 => Same H H2 ∧ (∀ j, j < i → badAt cs ns j = false) ∧ ∃ u1 u2 : Option V, σ = [some (.ref c), some (.ref l), u1, u2]) ⟨Same.refl _, fun j hj => absurd hj (Nat.not_lt_zero _), none, none, rfl⟩ (fun i σ H2 _ p => p.1.tup h2) ?_ ?_⟩
    · rintro i x σ H2 H3 hi ⟨sm, hb, u1, u2, rfl⟩ ⟨t, _, _, rfl, ht, rfl, ⟨⟩, hx⟩
      obtain ⟨z, hz, rfl⟩ := sv_get hx
      have hil : i < ns.length := by rw [len_sv] at hi; exact hi
      have bad : badAt cs ns i = (!decide (z ∈ cs) || decide (z ∈ ns.take i)) := by unfold badAt; rw [hz]
      refine ⟨t, _, rfl, SqT.of upd_same, rfl, _, _, rfl, _, _, rfl, rfl, ?_⟩
      have s3 : Same H (upd H2 t (.tup [.int (i : Nat), .str z])) := sm.trans (same_new ht)
      refine ⟨_, rfl, _, rfl, c, _, rfl, s3.sqa h1, rfl, flat_sv _, _, rfl, ?_⟩
      rw [if_pos (rfl : true = true), inV_str]
      by_cases hc : z ∈ cs
      · refine ifF (by rw [decide_eq_true hc]; rfl) ?_
        refine ⟨_, rfl, _, rfl, _, rfl, _, rfl, l, _, rfl, s3.tup h2, fun z => absurd z.2 (by rw [HT.sIx_nat, len_sv]; omega), fun _ p hp => ⟨p, _, rfl, .inr (SqT.of upd_same), rfl, by rw [cut_take (by omega), sv_take]; exact flat_sv _, _, rfl, ?_⟩⟩
        rw [if_neg Bool.false_ne_true, cut_take (by omega), sv_take, inV_str]
        have s4 := s3.trans (same_new (o := .tup (cutV (sv ns) none (some ((i : Nat) : Int)))) hp)
        rw [cut_take (by omega), sv_take] at s4
        by_cases hp2 : z ∈ ns.take i
        · refine ifT (decide_eq_true hp2) ⟨_, rfl, ?_⟩
          have e := stray_some (cs := cs) hil (by rw [bad, decide_eq_true hp2, Bool.or_true]) hb
          rw [e] at k
          exact k _ s4
        · refine ifF (decide_eq_false hp2) ⟨s4, fun j hj => ?_, _, _, rfl⟩
          rcases Nat.lt_succ_iff_lt_or_eq.mp hj with q | q
          · exact hb j q
          · rw [q, bad, decide_eq_true hc, decide_eq_false hp2]; rfl
      · refine ifT (by rw [decide_eq_false hc]; rfl) (ifT rfl ⟨_, rfl, ?_⟩)
        have e := stray_some (cs := cs) hil (by rw [bad, decide_eq_false hc]; rfl) hb
        rw [e] at k
        exact k _ s3
    · rintro σ H2 ⟨sm, hb, u1, u2, rfl⟩
      have e := stray_none (cs := cs) (ns := ns) fun j hj => hb j (by rw [len_sv]; exact hj)
      rw [e] at k
      exact k H2 sm
theorem ok_strayA (T : Txt P K mg A) : FnOk P w K mg base CX0 1 A.a_first_stray A.d_first_stray ["columns", "names"] (spStray (SqA K) (SqA K)) :=
  (fnok_or (ok_stray T) (ok_strayT T)).imp fun vs H Q E ⟨c, l, cs, ns, e, h1, h2, r⟩ => h2.elim (fun h => .inl ⟨c, l, cs, ns, e, h1, h, r⟩) (fun h => .inr ⟨c, l, cs, ns, e, h1, h, r⟩)
/-! ### the same with whole numbers -/
abbrev ivs (b : List Int) : List V := b.map V.int
theorem ivs_len (b : List Int) : (ivs b).length = b.length := List.length_map ..
theorem ivs_get {b : List Int} {i : Nat} {x : V} (h : (ivs b)[i]? = some x) : ∃ z, b[i]? = some z ∧ x = .int z := by
  rw [List.getElem?_map] at h
  cases e : b[i]? with
  | none => rw [e] at h; cases h
  | some z => rw [e] at h; exact ⟨z, rfl, (Option.some.inj h).symm⟩
theorem flat_iv (ss : List Int) : (ivs ss).all flatV = true := by
  rw [List.all_eq_true]; intro x hx; obtain ⟨s, _, rfl⟩ := List.mem_map.mp hx; rfl
theorem eqV_int (a b : Int) : eqV (.int a) (.int b) = decide (a = b) := by
  first | rfl | (simp only [eqV]; by_cases h : a = b <;> simp [h])
theorem inV_int (x : Int) (ss : List Int) : inV (.int x) (ivs ss) = decide (x ∈ ss) := by
  unfold inV
  rw [Bool.eq_iff_iff, List.any_eq_true, decide_eq_true_iff]
  constructor
  · rintro ⟨y, hy, e⟩
    obtain ⟨s, hs, rfl⟩ := List.mem_map.mp hy
    rw [eqV_int, decide_eq_true_iff] at e
    rw [← e]; exact hs
  · intro h
    exact ⟨.int x, List.mem_map.mpr ⟨x, h, rfl⟩, by rw [eqV_int]; simp⟩
theorem ivs_take (b : List Int) (k : Nat) : (ivs b).take k = ivs (b.take k) := List.map_take.symm
theorem ivs_drop (b : List Int) (k : Nat) : (ivs b).drop k = ivs (b.drop k) := List.map_drop.symm
theorem ivs_app (a b : List Int) : ivs a ++ ivs b = ivs (a ++ b) := List.map_append.symm
/-- the numbers are places of cs, each once -/
def okNums (cs ns : List Int) : Bool := decide (∀ x ∈ ns, x ∈ cs) && decide ns.Nodup
def okNumAt (cs ns : List Int) (i : Nat) : Prop := ∀ z, ns[i]? = some z → z ∈ cs ∧ z ∉ ns.take i
theorem okNums_of {cs ns : List Int} (h : ∀ i, i < ns.length → okNumAt cs ns i) : okNums cs ns = true := by
  have a : ∀ x ∈ ns, x ∈ cs := fun x hx => by
    obtain ⟨i, hi, e⟩ := List.getElem_of_mem hx
    exact (h i hi x (by rw [List.getElem?_eq_getElem hi, e])).1
  have b : ns.Nodup := by
    rw [List.nodup_iff_pairwise_ne, List.pairwise_iff_getElem]
    intro i j hi hj hij e
    refine (h j hj ns[j] (List.getElem?_eq_getElem hj)).2 ?_
    rw [List.mem_iff_getElem]
    exact ⟨i, by rw [List.length_take]; omega, by rw [List.getElem_take]; exact e⟩
  unfold okNums
  rw [decide_eq_true a, decide_eq_true b]; rfl
theorem okNums_no {cs ns : List Int} {i : Nat} {z : Int} (h : ns[i]? = some z) (hz : z ∉ cs ∨ z ∈ ns.take i) : okNums cs ns = false := by
  rw [Bool.eq_false_iff]
  intro t
  unfold okNums at t
  rw [Bool.and_eq_true, decide_eq_true_iff, decide_eq_true_iff] at t
  obtain ⟨a, b⟩ := t
  rcases hz with hz | hz
  · exact hz (a z (List.mem_of_getElem? h))
  · obtain ⟨k, hk, e⟩ := List.getElem_of_mem hz
    rw [List.length_take] at hk
    obtain ⟨h9, e4⟩ := List.getElem?_eq_some_iff.mp h
    rw [List.nodup_iff_pairwise_ne, List.pairwise_iff_getElem] at b
    refine b k i (by omega) h9 (by omega) ?_
    rw [List.getElem_take] at e
    rw [e, e4]
def spStrayI (K : PySem.W.Frag) : Sp := fun vs H Q _ => ∃ c l, ∃ cs ns : List Int, vs = [.ref c, .ref l] ∧ SqL K H c (ivs cs) ∧ SqT K H l (ivs ns) ∧ ns.length ≤ 1000 ∧ (okNums cs ns = true → ∀ H', Same H H' → Q .non H') ∧ (okNums cs ns = false → ∀ (i : Nat) H', Same H H' → Q (.int (i : Nat)) H')
theorem ok_strayI (T : Txt P K mg A) : FnOk P w K mg base CX0 1 A.a_first_stray A.d_first_stray ["columns", "names"] (spStrayI K) := by
  refine T.F_first_stray.ok sc_first_stray (fun vs H Q E h => ?_) (fun cdv A' outer s H vs Q E hr h => ?_)
  · obtain ⟨c, l, cs, ns, rfl, _⟩ := h
    rfl
  · obtain ⟨c, l, cs, ns, rfl, h1, h2, hl, k1, k2⟩ := h
    refine ⟨_, (pss_cons (ps_for PassesOwn.never rfl (pi_enumT (by rfl) T.n_enumerate (pa_cons (pv 1) pa_nil)) (pg_tup (by rfl) (pgs_cons (pg_name (i := 2) sc_first_stray.nd rfl (Or.inl rfl)) (pgs_cons (pg_name (i := 3) sc_first_stray.nd rfl (Or.inl rfl)) pgs_nil)))
        (pss_one (ps_if (PW.pt (pw_or (pt_cmpR op_notIn_seq (pv 3) (pv 0) (by with_unfolding_all rfl)) (pw_or1 (pt_cmpR op_in_seq (pv 3) (pe_slice sl_tupA (pv 1) po_none (po_some (pv 2))) (by with_unfolding_all rfl))))) (pss_one (ps_ret (pv 2))) pss_nil)))
      (pss_one (ps_ret pe_non))), ?_⟩
    refine ⟨_, rfl, l, _, rfl, h2, for_it walk_enumT (fun i σ H2 => Same H H2 ∧ (∀ j, j < i → okNumAt cs ns j) ∧ ∃ u1 u2 : Option V, σ = [some (.ref c), some (.ref l), u1, u2]) ⟨Same.refl _, fun j hj => absurd hj (Nat.not_lt_zero _), none, none, rfl⟩ (fun i σ H2 _ p => p.1.tup h2) ?_ ?_⟩
    · rintro i x σ H2 H3 hi ⟨sm, hb, u1, u2, rfl⟩ ⟨t, _, _, rfl, ht, rfl, ⟨⟩, hx⟩
      obtain ⟨z, hz, rfl⟩ := ivs_get hx
      have hil : i < ns.length := by rw [ivs_len] at hi; exact hi
      refine ⟨t, _, rfl, SqT.of upd_same, rfl, _, _, rfl, _, _, rfl, rfl, ?_⟩
      have s3 : Same H (upd H2 t (.tup [.int (i : Nat), .int z])) := sm.trans (same_new ht)
      refine ⟨_, rfl, _, rfl, c, _, rfl, .inl (s3.seq h1), rfl, flat_iv _, _, rfl, ?_⟩
      rw [if_pos (rfl : true = true), inV_int]
      by_cases hc : z ∈ cs
      · refine ifF (by rw [decide_eq_true hc]; rfl) ?_
        refine ⟨_, rfl, _, rfl, _, rfl, _, rfl, ?_⟩
        dsimp only [tNoPart]
        refine slOT (s3.tup h2) fun p H4 q4 hp => ⟨p, _, rfl, .inr hp, rfl, by rw [cut_takeG, ivs_take]; exact flat_iv _, _, rfl, ?_⟩
        rw [if_neg Bool.false_ne_true, cut_takeG, ivs_take, inV_int]
        have s4 := s3.trans q4
        by_cases hp2 : z ∈ ns.take i
        · exact ifT (decide_eq_true hp2) ⟨_, rfl, k2 (okNums_no hz (.inr hp2)) _ _ s4⟩
        · refine ifF (decide_eq_false hp2) ⟨s4, fun j hj => ?_, _, _, rfl⟩
          rcases Nat.lt_succ_iff_lt_or_eq.mp hj with q | q
          · exact hb j q
          · rw [q]; intro y hy; rw [hz] at hy; cases hy; exact ⟨hc, hp2⟩
      · exact ifT (by rw [decide_eq_false hc]; rfl) (ifT rfl ⟨_, rfl, k2 (okNums_no hz (.inl hc)) _ _ s3⟩)
    · rintro σ H2 ⟨sm, hb, u1, u2, rfl⟩
      exact k1 (okNums_of fun j hj => hb j (by rw [ivs_len]; exact hj)) H2 sm
end
end My
set_option maxRecDepth 100000
set_option maxHeartbeats 4000000
set_option exponentiation.threshold 10000
namespace My
open PySem L2
/-- at ts stand the lists or tuples of texts rs -/
structure LsA (K : PySem.W.Frag) (H : Hp) (ts : List Addr) (rs : List (List Str)) : Prop where
  len : ts.length = rs.length
  at_ : ∀ (i : Nat) (t : Addr) (r : List Str), ts[i]? = some t → rs[i]? = some r → SqA K H t (sv r)
theorem LsA.same {K : PySem.W.Frag} {H H' : Hp} {ts : List Addr} {rs : List (List Str)} (h : LsA K H ts rs) (e : Same H H') : LsA K H' ts rs := ⟨h.len, fun i t x a b => e.sqa (h.at_ i t x a b)⟩
theorem LsA.get {K : PySem.W.Frag} {H : Hp} {ts : List Addr} {rs : List (List Str)} (h : LsA K H ts rs) {i : Nat} {t : Addr} (hi : ts[i]? = some t) : ∃ r, rs[i]? = some r ∧ SqA K H t (sv r) := by
  have hx : i < rs.length := by rw [← h.len]; exact (List.getElem?_eq_some_iff.mp hi).1
  exact ⟨rs[i], List.getElem?_eq_getElem hx, h.at_ i _ _ hi (List.getElem?_eq_getElem hx)⟩
theorem Lss.lsa {K : PySem.W.Frag} {H : Hp} {ts : List Addr} {rs : List (List Str)} (h : Lss .lst H ts rs) : LsA K H ts rs := ⟨h.len, fun i t r a b => .inl (SqL.of (h.at_ i t r a b))⟩
theorem Lss.lsaT {K : PySem.W.Frag} {H : Hp} {ts : List Addr} {rs : List (List Str)} (h : Lss .tup H ts rs) : LsA K H ts rs := ⟨h.len, fun i t r a b => .inr (SqT.of (h.at_ i t r a b))⟩
theorem sqa_upd {K : PySem.W.Frag} {H : Hp} {a b C dx : Addr} {xs : List V} {f g : List (Str × V)} (h : SqA K H a xs) (hb : H b = some (.ins C dx f)) : SqA K (upd H b (.ins C dx g)) a xs := by
  rcases h with h | h
  · exact .inl (seq_upd h hb (fun ys z => nomatch z) (fun c d z => nomatch z))
  · refine .inr ?_
    rcases h with (r | ⟨c, r⟩) | z
    · exact .inl (.inl (by rw [upd_ne (ne_of r hb (fun z => nomatch z))]; exact r))
    · exact .inl (.inr ⟨c, by rw [upd_ne (ne_of r hb (fun z => nomatch z))]; exact r⟩)
    · exact .inr z
section
variable {P : Program} {w : World} {K : PySem.W.Frag} {mg : Str → Option Value} {base : Heap} {A : Ad}
theorem Txt.bi (T : Txt P K mg A) : Binds K A.d_Table_init ["self", "columns", "rows"] [] := by
  obtain ⟨ds, hv, hb⟩ := T.F_Table_init.binds1 (ps := ["self", "columns", "rows"]) 3 1 (by simp) rfl (fun T kV dc pm an cd ct us its hl hi => by
    match us, hl, its, hi with
    | [_, _, _], _, [_], _ => exact ⟨_, rfl, rfl⟩)
  cases hv
  exact hb
def spCols (K : PySem.W.Frag) : Sp := fun vs H Q _ => ∃ l cs, vs = [.ref l] ∧ SqA K H l (sv cs) ∧ (∀ z ∈ cs, Good z) ∧ cs.Nodup ∧ cs.length ≤ 12 ∧ ∀ H', Same H H' → Q .non H'
theorem ok_cols (T : Txt P K mg A) : FnOk P w K mg base CX0 3 A.a_check_columns A.d_check_columns ["columns"] (spCols K) := by
  have G_first_bad_name := ok_firstBadO (P := P) (w := w) (base := base) T
  refine T.F_check_columns.ok sc_check_columns (fun vs H Q E h => ?_) (fun cdv A' outer s H vs Q E hr h => ?_)
  · obtain ⟨l, cs, rfl, _⟩ := h
    rfl
  · obtain ⟨l, cs, rfl, h1, g, nd, hl, k⟩ := h
    refine ⟨_, (pss_cons (ps_if (pt_cmpR op_gt (pe_callB call_len_seq (by rfl) T.n_len (by decide +kernel) (pa_cons (pv 0) pa_nil)) (ClX.pe_cval (pe_glob (v := .ref A.C_Table) rfl T.mg_Table rfl)) (nomark _)) (pss_one ps_never) pss_nil)
      (pss_cons (ps_set (i := 1) sc_check_columns.nd rfl (Or.inl rfl) (pe_call G_first_bad_name (hr.mono (by decide)) rfl T.mg_first_bad_name T.F_first_bad_name.kp T.b_first_bad_name .nil pass0 (pa_cons (pv 0) pa_nil)))
      (pss_one (ps_if (pt_cmpR op_notN (pv 1) pe_non (nomark _)) (pss_one ps_never) pss_nil)))), ?_⟩
    obtain ⟨u, hu⟩ := T.cv_Table_MOST_COLUMNS
    refine ⟨_, rfl, l, _, rfl, h1, _, _, _, _, rfl, T.cr_Table, hu, _, _, rfl, rfl, _, rfl, itN (by rw [len_sv]; omega) ?_⟩
    exact ⟨_, rfl, l, cs, rfl, h1, (fun z hz => Nat.le_trans (g z hz).le (by decide)), fun H2 sm => by
      rw [firstBad_none_iff.mpr ⟨g, nd⟩]
      exact ⟨_, rfl, rfl, _, rfl, itNe rfl (k _ sm)⟩⟩
def spChRows (K : PySem.W.Frag) : Sp := fun vs H Q _ => ∃ l r cs ts rs, vs = [.ref l, .ref r] ∧ SqA K H l (sv cs) ∧ SqL K H r (ts.map V.ref) ∧ LsA K H ts rs ∧ rs.length ≤ 48 ∧ (∀ x ∈ rs, stray cs x = none ∧ x.length ≤ 1000) ∧ ∀ H', Same H H' → Q .non H'
theorem ok_chRows (T : Txt P K mg A) : FnOk P w K mg base CX0 2 A.a_check_rows A.d_check_rows ["columns", "rows"] (spChRows K) := by
  have G_first_stray := ok_strayA (P := P) (w := w) (base := base) T
  refine T.F_check_rows.ok sc_check_rows (fun vs H Q E h => ?_) (fun cdv A' outer s H vs Q E hr h => ?_)
  · obtain ⟨l, r, cs, ts, rs, rfl, _⟩ := h
    rfl
  · obtain ⟨l, r, cs, ts, rs, rfl, h1, h2, hs, hl, hg, k⟩ := h
    refine ⟨_, (pss_cons (ps_if (pt_cmpR op_gt (pe_callB call_len_seq (by rfl) T.n_len (by decide +kernel) (pa_cons (pv 1) pa_nil)) (ClX.pe_cval (pe_glob (v := .ref A.C_Table) rfl T.mg_Table rfl)) (nomark _)) (pss_one ps_never) pss_nil)
      (pss_one (ps_for PassesOwn.never rfl (pi_enum (by rfl) T.n_enumerate (pa_cons (pv 1) pa_nil)) (pg_tup (by rfl) (pgs_cons (pg_name (i := 2) sc_check_rows.nd rfl (Or.inl rfl)) (pgs_cons (pg_name (i := 3) sc_check_rows.nd rfl (Or.inl rfl)) pgs_nil)))
        (pss_one (ps_if (pt_cmpR op_notN (pe_call G_first_stray (hr.mono (by decide)) rfl T.mg_first_stray T.F_first_stray.kp T.b_first_stray .nil pass0 (pa_cons (pv 0) (pa_cons (pv 3) pa_nil))) pe_non (nomark _)) (pss_one ps_never) pss_nil))))), ?_⟩
    obtain ⟨u, hu⟩ := T.cv_Table_MOST_ROWS
    refine ⟨_, rfl, r, _, rfl, .inl h2, _, _, _, _, rfl, T.cr_Table, hu, _, _, rfl, rfl, _, rfl, itN (by rw [List.length_map, hs.len]; omega) ?_⟩
    refine ⟨_, rfl, r, _, rfl, h2, for_it walk_enum (fun i σ H2 => Same H H2 ∧ ∃ u1 u2 : Option V, σ = [some (.ref l), some (.ref r), u1, u2]) ⟨Same.refl _, none, none, rfl⟩ (fun i σ H2 _ p => p.1.seq h2) ?_ ?_⟩
    · rintro i x σ H2 H3 hi ⟨sm, u1, u2, rfl⟩ ⟨t, _, _, rfl, ht, rfl, ⟨⟩, hx⟩
      obtain ⟨b, hb, rfl⟩ := refs_get hx
      obtain ⟨y, hy, ho⟩ := hs.get hb
      have g := hg y (List.mem_of_getElem? hy)
      have s3 : Same H (upd H2 t (.tup [.int (i : Nat), .ref b])) := sm.trans (same_new ht)
      refine ⟨t, _, rfl, SqT.of upd_same, rfl, _, _, rfl, _, _, rfl, rfl, ?_⟩
      refine ⟨_, rfl, _, rfl, l, b, cs, y, rfl, s3.sqa h1, s3.sqa ho, g.2, fun H4 sm4 => ?_⟩
      rw [g.1]
      exact ⟨rfl, _, rfl, itNe rfl ⟨s3.trans sm4, _, _, rfl⟩⟩
    · rintro σ H2 ⟨sm, u1, u2, rfl⟩
      exact k H2 sm
def spInOrder (C : Addr) (K : PySem.W.Frag) : Sp := fun vs H Q _ => ∃ p l dx ct cs r fs, vs = [.ref p, .ref l] ∧ H p = some (.ins C dx fs) ∧ fs.lookup ("columns" : Str) = some (.ref ct) ∧ H ct = some (.tup (sv cs)) ∧ SqA K H l (sv r) ∧ cs.length ≤ 1000 ∧
  ∀ t H', Same H H' → H' t = some (.tup (sv (canon cs r))) → Q (.ref t) H'
theorem ok_inOrder (T : Txt P K mg A) : FnOk P w K mg base CX0 1 A.a_Table_in_order A.d_Table_in_order ["self", "names"] (spInOrder A.C_Table K) := by
  refine T.F_Table_in_order.ok sc_Table_in_order (fun vs H Q E h => ?_) (fun cdv A' outer s H vs Q E hr h => ?_)
  · obtain ⟨p, l, dx, ct, cs, r, fs, rfl, _⟩ := h
    rfl
  · obtain ⟨p, l, dx, ct, cs, r, fs, rfl, h1, hct, hc, h2, hl, k⟩ := h
    refine ⟨_, (pss_one (ps_ret (pe_callTy (show CallR _ _ (rTupOf K) from call_tuple_of) (by rfl) T.n_tuple (by decide +kernel) (pa_cons (pe_lc (own := [("name", 2)]) (g := gName 2) (tt := _) rfl sc_Table_in_order.nd (pi_tup (pe_fld (pv 0) rfl)) (blkOk_by (N := ["self", "names", "name"]) (sc := defScope s_Table_in_order) (by decide +kernel)) (fun _ _ _ _ _ => (pg_name (i := 2) sc_Table_in_order.nd rfl (Or.inl rfl))) (fun _ _ _ _ _ => (pts_one (pt_cmpR (show OpR _ _ (rIn K false) from op_in_seq) (pv 2) (pv 1) (by with_unfolding_all rfl)))) (fun _ _ _ _ _ => (pv 2))) pa_nil)))), ?_⟩
    have stepT : ∀ i z, cs[i]? = some z → z ∈ r → sv (canon (cs.take (i + 1)) r) = sv (canon (cs.take i) r) ++ [V.str z] := fun i z hz hm => by
      rw [take_succ hz, canon_T hm]; exact List.map_append
    have stepF : ∀ i z, cs[i]? = some z → z ∉ r → sv (canon (cs.take (i + 1)) r) = sv (canon (cs.take i) r) := fun i z hz hm => by
      rw [take_succ hz, canon_F hm]
    refine ⟨_, rfl, p, _, dx, fs, _, rfl, h1, T.cl_Table, T.n_Table_columns, hct, ct, rfl, ⟨_, SqT.of hc⟩, fun D hD => lc_it walk_tup (PvS H D fun i => sv (canon (cs.take i) r)) (pv0 hD rfl) (fun i H2 _ q => q.1.tup (SqT.of hc)) ?_ ?_⟩
    · rintro i x H3 H4 hi q ⟨rfl, hx⟩
      obtain ⟨z, hz, rfl⟩ := sv_get hx
      refine ⟨rfl, _, rfl, _, rfl, l, _, rfl, q.1.sqa h2, rfl, flat_sv _, _, rfl, ?_⟩
      rw [if_neg Bool.false_ne_true, inV_str]
      have hlen : (sv (canon (cs.take i) r)).length ≤ 1000000 := by
        have := List.length_filter_le (fun x => decide (x ∈ r)) (cs.take i)
        rw [List.length_take] at this
        rw [len_sv]; unfold canon; omega
      by_cases hm : z ∈ r
      · exact ifT (decide_eq_true hm) ⟨_, rfl, q.push hD (stepT i z hz hm) hlen⟩
      · exact ifF (decide_eq_false hm) (q.skip (stepF i z hz hm))
    · rintro H3 ⟨sm, h3⟩
      have h3 : H3 D = some (.lst (sv (canon (cs.take (sv cs).length) r))) := h3
      rw [len_sv, List.take_length] at h3
      exact ⟨D, _, rfl, .inl ⟨SqL.of h3, fun t ht => k t _ (sm.trans (same_new ht)) upd_same⟩⟩
def spTable (C : Addr) (K : PySem.W.Frag) : Sp := fun vs H Q _ => ∃ p l r dx cs ts rs, vs = [.ref p, .ref l, .ref r] ∧ H p = some (.ins C dx []) ∧ (SqL K H l (sv cs) ∨ H l = some (.tup (sv cs))) ∧ SqL K H r (ts.map V.ref) ∧ LsA K H ts rs ∧
  (∀ z ∈ cs, Good z) ∧ cs.Nodup ∧ cs.length ≤ 12 ∧ rs.length ≤ 48 ∧ (∀ x ∈ rs, stray cs x = none ∧ x.length ≤ 1000) ∧ ∀ H', (∀ b o, b ≠ p → H b = some o → H' b = some o) → Tb C H' p cs rs → Q .non H'
theorem ok_table (T : Txt P K mg A) : FnOk P w K mg base CX0 4 A.a_Table_init A.d_Table_init ["self", "columns", "rows"] (spTable A.C_Table K) := by
  have G_check_columns := ok_cols (P := P) (w := w) (base := base) T
  have G_check_rows := ok_chRows (P := P) (w := w) (base := base) T
  have G_Table_in_order := ok_inOrder (P := P) (w := w) (base := base) T
  refine T.F_Table_init.ok sc_Table_init (fun vs H Q E h => ?_) (fun cdv A' outer s H vs Q E hr h => ?_)
  · obtain ⟨p, l, r, dx, cs, ts, rs, rfl, _⟩ := h
    rfl
  · obtain ⟨p, l, r, dx, cs, ts, rs, rfl, hp, h1, h2, hs, g, nd, hc, hrs, hst, k⟩ := h
    refine ⟨_, (pss_cons (ps_expr (pe_call G_check_columns (hr.mono (by decide)) rfl T.mg_check_columns T.F_check_columns.kp T.b_check_columns .nil pass0 (pa_cons (pv 1) pa_nil)))
      (pss_cons (ps_expr (pe_call G_check_rows (hr.mono (by decide)) rfl T.mg_check_rows T.F_check_rows.kp T.b_check_rows .nil pass0 (pa_cons (pv 1) (pa_cons (pv 2) pa_nil))))
      (pss_cons (ps_fld (pv 0) (pe_callTy (show CallR _ _ (rTupOf K) from call_tuple_of) (by rfl) T.n_tuple (by decide +kernel) (pa_cons (pv 1) pa_nil)) rfl)
      (pss_one (ps_fld (pv 0) (pe_callTy (show CallR _ _ (rTupOf K) from call_tuple_of) (by rfl) T.n_tuple (by decide +kernel) (pa_cons (pe_lc (own := [("row", 3)]) (g := gName 3) (tt := tYes) rfl sc_Table_init.nd (pi_list (pv 2)) (blkOk_by (N := ["self", "columns", "rows", "row"]) (sc := defScope s_Table_init) (by decide +kernel)) (fun _ _ _ _ _ => (pg_name (i := 3) sc_Table_init.nd rfl (Or.inl rfl))) (fun _ _ _ _ _ => pts_nil) (fun _ _ _ _ _ => (pe_meth (pv 0) T.cl_Table T.m_Table_in_order G_Table_in_order (hr.mono (by decide)) T.b_Table_in_order .nil pass0 (pa_cons (pv 3) pa_nil)))) pa_nil)) rfl))))), ?_⟩
    have h1a : SqA K H l (sv cs) := h1.imp id SqT.of
    refine ⟨_, rfl, l, cs, rfl, h1a, g, nd, hc, fun H1 s1 => ?_⟩
    refine ⟨_, rfl, _, rfl, l, r, cs, ts, rs, rfl, s1.sqa h1a, s1.seq h2, hs.same s1, hrs, hst, fun H2 s2 => ?_⟩
    have s2 := s1.trans s2
    refine ⟨_, rfl, l, sv cs, rfl, ?_⟩
    have hpS := s2 _ _ hp
    have fin : ∀ (ct : Addr) (H2' : Hp), Same H H2' → H2' ct = some (.tup (sv cs)) → ct ≠ p → H2' p = some (.ins A.C_Table dx []) ∧ H2' ct = some (.tup (sv cs)) ∧ ct ≠ p ∧ Same H H2' := fun ct H2' s h n => ⟨s _ _ hp, h, n, s⟩
    rcases h1 with h1 | h1
    · refine .inl ⟨s2.seq h1, fun ct hct => ?_⟩
      have npc : ct ≠ p := fun z => by rw [z] at hct; rw [hpS] at hct; cases hct
      have F := fin ct (upd H2 ct (.tup (sv cs))) (s2.trans (same_new hct)) upd_same npc
      generalize upd H2 ct (.tup (sv cs)) = H2' at F ⊢
      clear hct npc
      obtain ⟨hp2, hc2, npc, s2'⟩ := F
      refine ⟨_, rfl, p, _, dx, [], rfl, hp2, T.cl_Table, T.n_Table_columns, (by show 0 < 1000; decide), ?_⟩
      generalize hX : upd H2' p _ = H3
      have hp3 : H3 p = some (.ins A.C_Table dx (putF "columns" (.ref ct) [])) := by rw [← hX]; exact upd_same
      have hc3 : H3 ct = some (.tup (sv cs)) := by rw [← hX, upd_ne npc]; exact hc2
      have sm3 : ∀ b o, b ≠ p → H b = some o → H3 b = some o := fun b o hb e => by
        rw [← hX, upd_ne hb]; exact s2' _ _ e
      have h23 : SqL K H3 r (ts.map V.ref) := by
        rw [← hX]; exact seq_upd (s2'.seq h2) hp2 (fun xs z => nomatch z) (fun o u z => nomatch z)
      have hs3 : LsA K H3 ts rs := ⟨hs.len, fun i t x a b => by rw [← hX]; exact sqa_upd (s2'.sqa (hs.at_ i t x a b)) hp2⟩
      clear hX
      have hlk : (putF "columns" (.ref ct) ([] : List (Str × V))).lookup ("columns" : Str) = some (.ref ct) := by rw [lookup_putF, if_pos rfl]
      have hlm : (putF "columns" (.ref ct) ([] : List (Str × V))).lookup ("_in_order" : Str) = none := by rw [lookup_putF, if_neg (by decide +kernel)]; rfl
      refine ⟨_, rfl, r, rfl, ⟨_, h23⟩, fun D hD => lc_it walk_list (fun i H4 => Same H3 H4 ∧ ∃ us : List Addr, H4 D = some (.lst (us.map V.ref)) ∧ Lss .tup H4 us ((rs.take i).map (canon cs))) ⟨same_new hD, [], upd_same, Lss.nil⟩ (fun i H4 _ q => q.1.seq h23) ?_ ?_⟩
      · rintro i x H4 H5 hi ⟨s4, us, hd4, hl4⟩ ⟨rfl, hx⟩
        obtain ⟨b, hb, rfl⟩ := refs_get hx
        obtain ⟨y, hy, ho⟩ := (hs3.same s4).get hb
        refine ⟨rfl, _, rfl, p, dx, _, rfl, s4 _ _ hp3, hlm, _, rfl, p, b, dx, ct, cs, y, _, rfl, s4 _ _ hp3, hlk, s4 _ _ hc3, ho, by omega, fun t H6 s6 ht => ?_⟩
        have hd6 := s6 _ _ hd4
        refine ⟨_, hd6, small_int (by rw [List.length_map, hl4.len, List.length_map, List.length_take]; omega), ?_, us ++ [t], ?_, ?_⟩
        · intro c o e
          rw [upd_ne (ne_of_none e hD)]
          exact s6 _ _ (s4 _ _ e)
        · rw [List.map_append]; exact upd_same
        · rw [take_succ hy, List.map_append]
          exact ((hl4.same s6).app ht).updT hd6 (fun xs z => nomatch z)
      · rintro H4 ⟨s4, us, hd4, hl4⟩
        rw [List.length_map, hs.len, List.take_length] at hl4
        refine ⟨D, _, rfl, .inl ⟨SqL.of hd4, fun rt hrt => ?_⟩⟩
        have hp5 : upd H4 rt (.tup (us.map V.ref)) p = some (.ins A.C_Table dx (putF "columns" (.ref ct) [])) := by rw [upd_ne (ne_of_none (s4 _ _ hp3) hrt)]; exact s4 _ _ hp3
        refine ⟨_, rfl, p, _, dx, _, rfl, hp5, T.cl_Table, T.n_Table_rows, (by show 1 < 1000; decide), ?_⟩
        have nrp : rt ≠ p := fun z => by rw [z] at hrt; rw [s4 _ _ hp3] at hrt; cases hrt
        have nrc : ct ≠ rt := ne_of_none (s4 _ _ hc3) hrt
        refine k _ (fun b o hb e => ?_) ⟨dx, ct, rt, us, upd_same, ?_, ?_, ?_⟩
        · have z := s4 _ _ (sm3 b o hb e)
          rw [upd_ne hb, upd_ne (ne_of_none z hrt)]
          exact z
        · rw [upd_ne npc, upd_ne nrc]; exact s4 _ _ hc3
        · rw [upd_ne nrp]; exact upd_same
        · exact (hl4.same (same_new (o := .tup (us.map V.ref)) hrt)).updT hp5 (fun xs z => nomatch z)
    · have F := fin l H2 s2 (s2 _ _ h1) (ne_of h1 hp (fun z => nomatch z))
      refine .inr ⟨SqT.of (s2 _ _ h1), ?_⟩
      generalize hlc : l = ct at F ⊢
      generalize hHH : H2 = H2' at F ⊢
      obtain ⟨hp2, hc2, npc, s2'⟩ := F
      refine ⟨_, rfl, p, _, dx, [], rfl, hp2, T.cl_Table, T.n_Table_columns, (by show 0 < 1000; decide), ?_⟩
      generalize hX : upd H2' p _ = H3
      have hp3 : H3 p = some (.ins A.C_Table dx (putF "columns" (.ref ct) [])) := by rw [← hX]; exact upd_same
      have hc3 : H3 ct = some (.tup (sv cs)) := by rw [← hX, upd_ne npc]; exact hc2
      have sm3 : ∀ b o, b ≠ p → H b = some o → H3 b = some o := fun b o hb e => by
        rw [← hX, upd_ne hb]; exact s2' _ _ e
      have h23 : SqL K H3 r (ts.map V.ref) := by
        rw [← hX]; exact seq_upd (s2'.seq h2) hp2 (fun xs z => nomatch z) (fun o u z => nomatch z)
      have hs3 : LsA K H3 ts rs := ⟨hs.len, fun i t x a b => by rw [← hX]; exact sqa_upd (s2'.sqa (hs.at_ i t x a b)) hp2⟩
      clear hX
      have hlk : (putF "columns" (.ref ct) ([] : List (Str × V))).lookup ("columns" : Str) = some (.ref ct) := by rw [lookup_putF, if_pos rfl]
      have hlm : (putF "columns" (.ref ct) ([] : List (Str × V))).lookup ("_in_order" : Str) = none := by rw [lookup_putF, if_neg (by decide +kernel)]; rfl
      refine ⟨_, rfl, r, rfl, ⟨_, h23⟩, fun D hD => lc_it walk_list (fun i H4 => Same H3 H4 ∧ ∃ us : List Addr, H4 D = some (.lst (us.map V.ref)) ∧ Lss .tup H4 us ((rs.take i).map (canon cs))) ⟨same_new hD, [], upd_same, Lss.nil⟩ (fun i H4 _ q => q.1.seq h23) ?_ ?_⟩
      · rintro i x H4 H5 hi ⟨s4, us, hd4, hl4⟩ ⟨rfl, hx⟩
        obtain ⟨b, hb, rfl⟩ := refs_get hx
        obtain ⟨y, hy, ho⟩ := (hs3.same s4).get hb
        refine ⟨rfl, _, rfl, p, dx, _, rfl, s4 _ _ hp3, hlm, _, rfl, p, b, dx, ct, cs, y, _, rfl, s4 _ _ hp3, hlk, s4 _ _ hc3, ho, by omega, fun t H6 s6 ht => ?_⟩
        have hd6 := s6 _ _ hd4
        refine ⟨_, hd6, small_int (by rw [List.length_map, hl4.len, List.length_map, List.length_take]; omega), ?_, us ++ [t], ?_, ?_⟩
        · intro c o e
          rw [upd_ne (ne_of_none e hD)]
          exact s6 _ _ (s4 _ _ e)
        · rw [List.map_append]; exact upd_same
        · rw [take_succ hy, List.map_append]
          exact ((hl4.same s6).app ht).updT hd6 (fun xs z => nomatch z)
      · rintro H4 ⟨s4, us, hd4, hl4⟩
        rw [List.length_map, hs.len, List.take_length] at hl4
        refine ⟨D, _, rfl, .inl ⟨SqL.of hd4, fun rt hrt => ?_⟩⟩
        have hp5 : upd H4 rt (.tup (us.map V.ref)) p = some (.ins A.C_Table dx (putF "columns" (.ref ct) [])) := by rw [upd_ne (ne_of_none (s4 _ _ hp3) hrt)]; exact s4 _ _ hp3
        refine ⟨_, rfl, p, _, dx, _, rfl, hp5, T.cl_Table, T.n_Table_rows, (by show 1 < 1000; decide), ?_⟩
        have nrp : rt ≠ p := fun z => by rw [z] at hrt; rw [s4 _ _ hp3] at hrt; cases hrt
        have nrc : ct ≠ rt := ne_of_none (s4 _ _ hc3) hrt
        refine k _ (fun b o hb e => ?_) ⟨dx, ct, rt, us, upd_same, ?_, ?_, ?_⟩
        · have z := s4 _ _ (sm3 b o hb e)
          rw [upd_ne hb, upd_ne (ne_of_none z hrt)]
          exact z
        · rw [upd_ne npc, upd_ne nrc]; exact s4 _ _ hc3
        · rw [upd_ne nrp]; exact upd_same
        · exact (hl4.same (same_new (o := .tup (us.map V.ref)) hrt)).updT hp5 (fun xs z => nomatch z)
end
end My
set_option maxRecDepth 100000
set_option maxHeartbeats 4000000
set_option exponentiation.threshold 10000
namespace My
open PySem L2
/-- the columns outside a row -/
def outs (cs r : List Str) : List Str := cs.filter fun x => decide (x ∉ r)
theorem outs_T {l r : List Str} {z : Str} (hm : z ∉ r) : outs (l ++ [z]) r = outs l r ++ [z] := by
  unfold outs; rw [List.filter_append]; simp [hm]
theorem outs_F {l r : List Str} {z : Str} (hm : z ∈ r) : outs (l ++ [z]) r = outs l r := by
  unfold outs; rw [List.filter_append]; simp [hm]
def turnRow (cs : List Str) (z : Str) (r : List Str) : List Str := if z ∈ canon cs r then outs cs (canon cs r) else canon cs r
theorem fldsT_in_order (ct rt : Addr) : (fldsT ct rt).lookup ("_in_order" : Str) = none := by
  unfold fldsT; rw [lookup_putF, if_neg (by decide +kernel), lookup_putF, if_neg (by decide +kernel)]; rfl
theorem fldsT_inside (ct rt : Addr) : (fldsT ct rt).lookup ("_inside_out" : Str) = none := by
  unfold fldsT; rw [lookup_putF, if_neg (by decide +kernel), lookup_putF, if_neg (by decide +kernel)]; rfl
structure ColsOk (cs : List Str) : Prop where
  g : ∀ z ∈ cs, Good z
  nd : cs.Nodup
  n : cs.length ≤ 12
theorem ColsOk.sub {cs ds : List Str} (h : ColsOk cs) (s : ds.Sublist cs) : ColsOk ds := ⟨fun z hz => h.g z (s.subset hz), s.nodup h.nd, Nat.le_trans s.length_le h.n⟩
theorem canon_sub (cs r : List Str) : (canon cs r).Sublist cs := List.filter_sublist
theorem outs_sub (cs r : List Str) : (outs cs r).Sublist cs := List.filter_sublist
theorem turn_sub (cs : List Str) (z : Str) (r : List Str) : (turnRow cs z r).Sublist cs := by
  unfold turnRow; split
  · exact outs_sub _ _
  · exact canon_sub _ _
theorem sub_row {cs r : List Str} (h : ColsOk cs) (s : r.Sublist cs) : stray cs r = none ∧ r.length ≤ 1000 := ⟨stray_none_iff.mpr ⟨fun x hx => s.subset hx, s.nodup h.nd⟩, by have := s.length_le; have := h.n; omega⟩
theorem mem_canon {cs r : List Str} {x : Str} : x ∈ canon cs r ↔ x ∈ cs ∧ x ∈ r := by unfold canon; rw [List.mem_filter, decide_eq_true_iff]
theorem mem_outs {cs r : List Str} {x : Str} : x ∈ outs cs r ↔ x ∈ cs ∧ x ∉ r := by unfold outs; rw [List.mem_filter, decide_eq_true_iff]
theorem canon_row {cs r ns : List Str} (h : ColsOk cs) (hn : ∀ x ∈ ns, x ∈ cs) : stray (canon cs ns) (canon (canon cs r) ns) = none ∧ (canon (canon cs r) ns).length ≤ 1000 :=
  ⟨stray_none_iff.mpr ⟨fun x hx => mem_canon.mpr ⟨(mem_canon.mp (mem_canon.mp hx).1).1, (mem_canon.mp hx).2⟩, ((canon_sub _ _).trans (canon_sub _ _)).nodup h.nd⟩, by have := ((canon_sub (canon cs r) ns).trans (canon_sub _ _)).length_le; have := h.n; omega⟩
theorem mk_table {C : Addr} {K : PySem.W.Frag} {H : Hp} {l r : Addr} {cs : List Str} {ts : List Addr} {rs : List (List Str)} {Q : VK} (hL : SqL K H l (sv cs) ∨ H l = some (.tup (sv cs))) (hR : SqL K H r (ts.map V.ref)) (hs : LsA K H ts rs) (ok : ColsOk cs) (hr : rs.length ≤ 48)
    (st : ∀ x ∈ rs, stray cs x = none ∧ x.length ≤ 1000) (k : ∀ q H', Same H H' → H q = none → Tb C H' q cs rs → Q (.ref q) H') :
    ∀ x dx, H x = none → H dx = none → dx ≠ x → spTable C K (.ref x :: ([.ref l, .ref r] ++ [])) (upd (upd H dx (.own x)) x (.ins C dx [])) (fun v H2 => v = .non ∧ Q (.ref x) H2) E0 := fun x dx hx hdx hne => by
  have s1 := same_new (o := .own x) hdx
  have hx1 : upd H dx (.own x) x = none := by rw [upd_ne hne.symm]; exact hx
  have s2 : Same H (upd (upd H dx (.own x)) x (.ins C dx [])) := s1.trans (same_new hx1)
  exact ⟨x, l, r, dx, cs, ts, rs, rfl, upd_same, hL.imp (fun q => s2.seq q) (fun q => s2 _ _ q), s2.seq hR, hs.same s2, ok.g, ok.nd, ok.n, hr, st, fun H' hk hT => ⟨rfl, k x H' (fun b o e => hk b o (ne_of_none e hx) (s2 _ _ e)) hx hT⟩⟩
section
variable {P : Program} {w : World} {K : PySem.W.Frag} {mg : Str → Option Value} {base : Heap} {A : Ad}
def spGet (C : Addr) : Sp := fun vs H Q _ => ∃ p n cs rs, vs = [.ref p, .int (n : Nat)] ∧ Tb C H p cs rs ∧ n < rs.length ∧ ∀ t r, rs[n]? = some r → H t = some (.tup (sv (canon cs r))) → Q (.ref t) H
theorem ok_get (T : Txt P K mg A) : FnOk P w K mg base CX0 1 A.a_Table_getitem A.d_Table_getitem ["self", "at"] (spGet A.C_Table) := by
  refine T.F_Table_getitem.ok sc_Table_getitem (fun vs H Q E h => ?_) (fun cdv A' outer s H vs Q E hr h => ?_)
  · obtain ⟨p, n, cs, rs, rfl, _⟩ := h
    rfl
  · obtain ⟨p, n, cs, rs, rfl, hT, hn, k⟩ := h
    refine ⟨_, (pss_cons (ps_if (pt_not (pt_chain op_le op_lt pe_int (pv 1) (pe_callB call_len_seq (by rfl) T.n_len (by decide +kernel) (pa_cons (pe_fld (pv 0) rfl) pa_nil)))) (pss_one ps_never) pss_nil)
      (pss_one (ps_ret (pe_ix ix_tup (pe_fld (pv 0) rfl) (pv 1) (fun _ _ => rfl))))), ?_⟩
    obtain ⟨dx, ct, rt, ts, h1, hc, hr2, hts⟩ := hT
    have hn' : n < (rs.map (canon cs)).length := by rw [List.length_map]; exact hn
    obtain ⟨t, r2, et, er, ht⟩ := hts.ex hn'
    have hl : (ts.map V.ref).length = rs.length := by rw [List.length_map, hts.len, List.length_map]
    obtain ⟨r, hr3, rfl⟩ : ∃ r, rs[n]? = some r ∧ r2 = canon cs r := by
      rw [List.getElem?_map] at er
      cases e : rs[n]? with
      | none => rw [e] at er; cases er
      | some r => rw [e] at er; exact ⟨r, rfl, (Option.some.inj er).symm⟩
    refine ⟨_, rfl, _, _, rfl, rfl, _, rfl, itY (by omega) ⟨_, rfl, _, _, _, _, _, rfl, h1, T.cl_Table, T.n_Table_rows, fldsT_rows _ _, rt, _, rfl, .inr (SqT.of hr2), _, _, rfl, rfl, _, rfl, ifF (by rw [decide_eq_true (by rw [hl]; omega)]; rfl) ?_⟩⟩
    exact ⟨_, rfl, _, _, _, _, _, rfl, h1, T.cl_Table, T.n_Table_rows, fldsT_rows _ _, _, rfl, rt, _, _, _, rfl, rfl, SqT.of hr2, atR_of et, k t r hr3 ht⟩
def spLen (C : Addr) : Sp := fun vs H Q _ => ∃ p cs rs, vs = [.ref p] ∧ Tb C H p cs rs ∧ Q (.int (rs.length : Nat)) H
theorem ok_len (T : Txt P K mg A) : FnOk P w K mg base CX0 1 A.a_Table_len A.d_Table_len ["self"] (spLen A.C_Table) := by
  refine T.F_Table_len.ok sc_Table_len (fun vs H Q E h => ?_) (fun cdv A' outer s H vs Q E hr h => ?_)
  · obtain ⟨p, cs, rs, rfl, _⟩ := h
    rfl
  · obtain ⟨p, cs, rs, rfl, ⟨dx, ct, rt, ts, h1, hc, h3, hs⟩, k⟩ := h
    refine ⟨_, (pss_one (ps_ret (pe_callB call_len_seq (by rfl) T.n_len (by decide +kernel) (pa_cons (pe_fld (pv 0) rfl) pa_nil)))), ?_⟩
    refine ⟨_, rfl, _, _, _, _, _, rfl, h1, T.cl_Table, T.n_Table_rows, fldsT_rows _ _, rt, _, rfl, .inr (SqT.of h3), ?_⟩
    rw [List.length_map, hs.len, List.length_map]
    exact k
end
end My
set_option maxRecDepth 100000
set_option maxHeartbeats 4000000
set_option exponentiation.threshold 10000
namespace My
open PySem L2
open C8 (pss_cut)
theorem sqt_updL {K : PySem.W.Frag} {H : Hp} {a b : Addr} {xs ys : List V} {o : HO} (h : SqT K H a xs) (hb : H b = some (.lst ys)) : SqT K (upd H b o) a xs := by
  rcases h with (r | ⟨c, r⟩) | z
  · exact .inl (.inl (by rw [upd_ne (ne_of r hb (fun z => nomatch z))]; exact r))
  · exact .inl (.inr ⟨c, by rw [upd_ne (ne_of r hb (fun z => nomatch z))]; exact r⟩)
  · exact .inr z
/-- at ts stand sequences of the numbers rs -/
structure Lz (sq : Hp → Addr → List V → Prop) (H : Hp) (ts : List Addr) (rs : List (List Int)) : Prop where
  len : ts.length = rs.length
  at_ : ∀ (i : Nat) (t : Addr) (x : List Int), ts[i]? = some t → rs[i]? = some x → sq H t (ivs x)
section
variable {sq sq' : Hp → Addr → List V → Prop} {H H' : Hp} {ts us : List Addr} {rs qs : List (List Int)}
theorem Lz.imp (h : Lz sq H ts rs) (f : ∀ t x, sq H t (ivs x) → sq' H' t (ivs x)) : Lz sq' H' ts rs := ⟨h.len, fun i t x a b => f t x (h.at_ i t x a b)⟩
theorem Lz.nil : Lz sq H [] [] := ⟨rfl, fun i t s a => by simp at a⟩
theorem Lz.get (h : Lz sq H ts rs) {i : Nat} {t : Addr} (hi : ts[i]? = some t) : ∃ s, rs[i]? = some s ∧ sq H t (ivs s) := by
  have hx : i < rs.length := by rw [← h.len]; exact (List.getElem?_eq_some_iff.mp hi).1
  exact ⟨rs[i], List.getElem?_eq_getElem hx, h.at_ i _ _ hi (List.getElem?_eq_getElem hx)⟩
theorem Lz.ex (h : Lz sq H ts rs) {i : Nat} {x : List Int} (hi : rs[i]? = some x) : ∃ t, ts[i]? = some t ∧ sq H t (ivs x) := by
  have hx : i < ts.length := by rw [h.len]; exact (List.getElem?_eq_some_iff.mp hi).1
  exact ⟨ts[i], List.getElem?_eq_getElem hx, h.at_ i _ _ (List.getElem?_eq_getElem hx) hi⟩
theorem Lz.app (h : Lz sq H ts rs) (g : Lz sq H us qs) : Lz sq H (ts ++ us) (rs ++ qs) := by
  refine ⟨by rw [List.length_append, List.length_append, h.len, g.len], fun i t x a b => ?_⟩
  by_cases hi : i < ts.length
  · rw [List.getElem?_append_left hi] at a
    rw [List.getElem?_append_left (by rw [← h.len]; exact hi)] at b
    exact h.at_ i t x a b
  · rw [List.getElem?_append_right (by omega)] at a
    rw [List.getElem?_append_right (by rw [← h.len]; omega), ← h.len] at b
    exact g.at_ _ t x a b
theorem Lz.one {t : Addr} {x : List Int} (h : sq H t (ivs x)) : Lz sq H [t] [x] := ⟨rfl, fun i u y a b => by
  cases i with
  | zero => cases a; cases b; exact h
  | succ i => simp at a⟩
theorem Lz.cons {t : Addr} {x : List Int} (h : sq H t (ivs x)) (g : Lz sq H us qs) : Lz sq H (t :: us) (x :: qs) := (Lz.one h).app g
end
/-! ### the standard tables -/
def rg (n : Nat) : List Int := (List.range n).map fun i => 1 + ((i : Nat) : Int)
def path (n : Nat) : List (List Int) := (List.range n).map fun i => [((i : Nat) : Int), ((i : Nat) : Int) + 1]
/-- the rows of the standard table of a kind and a size -/
def stdR (k s : Int) : List (List Int) :=
  if k = 4 then [[0, 1], [2, 3], [4, 5], [1, 3, 5]] else if k = 5 then [[0, 1], [2, 3], [0, 1, 2, 3], [1, 2, 4]]
  else if k = 1 then path (s + 1).toNat ++ [[0, s + 1]]
  else if k = 2 then path (s + 1).toNat ++ [0 :: rg s.toNat ++ [s + 2], rg s.toNat ++ [s + 1, s + 2]]
  else path (s + 1).toNat ++ [rg s.toNat ++ [s + 2]]
def moreI (k : Int) : Option Int := if k = 1 then some 2 else if k = 2 then some 3 else if k = 3 then some 3 else none
def fixI (k : Int) : Option Int := if k = 4 then some 6 else if k = 5 then some 5 else none
theorem more_at (k : Int) : ([(1, V.int 2), (2, V.int 3), (3, V.int 3)] : List (Int × V)).lookup k = (moreI k).map V.int := by
  unfold moreI
  by_cases h1 : k = 1
  · subst h1; rfl
  by_cases h2 : k = 2
  · subst h2; rfl
  by_cases h3 : k = 3
  · subst h3; rfl
  rw [if_neg h1, if_neg h2, if_neg h3]
  simp [List.lookup_cons, beq_eq_false_iff_ne.mpr h1, beq_eq_false_iff_ne.mpr h2, beq_eq_false_iff_ne.mpr h3]
theorem fix_at (k : Int) : ([(4, V.int 6), (5, V.int 5)] : List (Int × V)).lookup k = (fixI k).map V.int := by
  unfold fixI
  by_cases h1 : k = 4
  · subst h1; rfl
  by_cases h2 : k = 5
  · subst h2; rfl
  rw [if_neg h1, if_neg h2]
  simp [List.lookup_cons, beq_eq_false_iff_ne.mpr h1, beq_eq_false_iff_ne.mpr h2]
theorem fixR_at (k : Int) (a b : Addr) : ([(4, V.ref a), (5, V.ref b)] : List (Int × V)).lookup k = if k = 4 then some (V.ref a) else if k = 5 then some (V.ref b) else none := by
  by_cases h1 : k = 4
  · subst h1; rfl
  by_cases h2 : k = 5
  · subst h2; rfl
  rw [if_neg h1, if_neg h2]
  simp [List.lookup_cons, beq_eq_false_iff_ne.mpr h1, beq_eq_false_iff_ne.mpr h2]
def w1 (k s : Int) : Int := if (k = 1 ∨ k = 2 ∨ k = 3) ∧ 1 ≤ s then s + (if k = 1 then 2 else 3) else 0
def w2 (k s : Int) : Int := if (k = 4 ∨ k = 5) ∧ s = 1 then (if k = 4 then 6 else 5) else w1 k s
def okKS (k s : Int) : Bool := decide (0 < w2 k s ∧ w2 k s ≤ 12)
theorem okKS_iff {k s : Int} : okKS k s = true ↔ ((k = 1 ∧ 1 ≤ s ∧ s ≤ 10) ∨ ((k = 2 ∨ k = 3) ∧ 1 ≤ s ∧ s ≤ 9) ∨ ((k = 4 ∨ k = 5) ∧ s = 1)) := by
  unfold okKS
  rw [decide_eq_true_iff]
  unfold w2 w1
  by_cases h1 : k = 1
  · subst h1; simp; omega
  by_cases h2 : k = 2
  · subst h2; simp; omega
  by_cases h3 : k = 3
  · subst h3; simp; omega
  by_cases h4 : k = 4
  · subst h4; simp; split <;> omega
  by_cases h5 : k = 5
  · subst h5; simp; split <;> omega
  simp [h1, h2, h3, h4, h5]
theorem w2_is {k s : Int} (h : okKS k s = true) : w2 k s = if k = 1 then s + 2 else if k = 2 ∨ k = 3 then s + 3 else if k = 4 then 6 else 5 := by
  rcases okKS_iff.mp h with ⟨rfl, a, b⟩ | ⟨rfl | rfl, a, b⟩ | ⟨rfl | rfl, rfl⟩
  · unfold w2 w1; simp [a]
  · unfold w2 w1; simp [a]
  · unfold w2 w1; simp [a]
  · rfl
  · rfl
theorem path_len (n : Nat) : (path n).length = n := by unfold path; rw [List.length_map, List.length_range]
theorem rg_len (n : Nat) : (rg n).length = n := by unfold rg; rw [List.length_map, List.length_range]
theorem path_take {n i : Nat} (h : i < n) : (path n).take (i + 1) = (path n).take i ++ [[((i : Nat) : Int), ((i : Nat) : Int) + 1]] := by
  refine take_succ ?_
  unfold path
  rw [List.getElem?_map, List.getElem?_range h]; rfl
theorem stdR_len {k s : Int} (h : okKS k s = true) : 1 ≤ (stdR k s).length ∧ (stdR k s).length ≤ 12 := by
  rcases okKS_iff.mp h with ⟨rfl, a, b⟩ | ⟨rfl | rfl, a, b⟩ | ⟨rfl | rfl, rfl⟩
  · unfold stdR; simp [path_len]; omega
  · unfold stdR; simp [path_len]; omega
  · unfold stdR; simp [path_len]; omega
  · unfold stdR; simp
  · unfold stdR; simp
end My
set_option maxRecDepth 100000
set_option maxHeartbeats 4000000
set_option exponentiation.threshold 10000
namespace My
open PySem L2
open C8 (pss_cut)
theorem exc_same5 {H : Hp} {a d : Addr} {o1 o2 o3 o4 o5 : HO} (ha : H a = none) (hd : H d = none) : Same H (upd (L2.del (upd (upd (upd (upd H a o1) d o2) a o3) d o4) a) d o5) := fun b o e => by
  have na := ne_of_none e ha
  have ndd := ne_of_none e hd
  rw [upd_ne ndd, L2.del_ne na, upd_ne ndd, upd_ne na, upd_ne ndd, upd_ne na]
  exact e
section
variable {P : Program} {w : World} {K : PySem.W.Frag} {mg : Str → Option Value} {base : Heap} {A : Ad}
def spWidth (B : Addr) : Sp := fun vs H Q E => ∃ k s, vs = [.int k, .int s] ∧ midI k ∧ midI s ∧ (okKS k s = true → ∀ H', Same H H' → Q (.int (w2 k s)) H') ∧ (okKS k s = false → ∀ d H', Same H H' → E (.ref B) (some d) H')
theorem ok_width (T : Txt P K mg A) : FnOk P w K mg base (L2.CX P w) 3 A.a_standard_width A.d_standard_width ["kind", "size"] (spWidth A.C_BadKind) := by
  have G_BadKind_init := ok_BadKind (P := P) (w := w) (base := base) T
  refine funX T.F_standard_width sc_standard_width (fun vs H Q E h => ?_) (fun cdv A' outer s0 H vs Q E hr h => ?_)
  · obtain ⟨k, s, rfl, _⟩ := h
    rfl
  · obtain ⟨k, s, rfl, mk, ms, kq, ke⟩ := h
    refine ⟨_, (pss_cons (ps_set (i := 2) sc_standard_width.nd rfl (Or.inl rfl) pe_int)
      (pss_cut (ps_if (PW.pt (pw_and (pt_cmpR op_inI (pv 0) (pe_glob (v := .ref A.e_MORE_COLUMNS) rfl T.mg_MORE_COLUMNS rfl) (by with_unfolding_all rfl)) (pw_and1 (pt_cmpR op_ge (pv 1) pe_int (nomark _))))) (pss_one (ps_set (i := 2) sc_standard_width.nd rfl (Or.inl rfl) (pe_op op_add (pv 1) (pe_ix ix_idict (pe_glob (v := .ref A.e_MORE_COLUMNS) rfl T.mg_MORE_COLUMNS rfl) (pv 0) (fun _ _ => rfl))))) pss_nil)
      (pss_cut (ps_if (PW.pt (pw_and (pt_cmpR op_inI (pv 0) (pe_glob (v := .ref A.e_FIXED_COLUMNS) rfl T.mg_FIXED_COLUMNS rfl) (by with_unfolding_all rfl)) (pw_and1 (pt_cmpR op_eq (pv 1) pe_int (nomark _))))) (pss_one (ps_set (i := 2) sc_standard_width.nd rfl (Or.inl rfl) (pe_ix ix_idict (pe_glob (v := .ref A.e_FIXED_COLUMNS) rfl T.mg_FIXED_COLUMNS rfl) (pv 0) (fun _ _ => rfl)))) pss_nil)
      (pss_cons (ps_if (pt_not (pt_chain op_lt op_le pe_int (pv 2) (ClX.pe_cval (pe_glob (v := .ref A.C_Table) rfl T.mg_Table rfl)))) (pss_one (ps_raise rfl (takes_of rfl rfl rfl rfl) (pmk_oex T.SC_BadKind.ox T.ii_BadKind T.ti_BadKind G_BadKind_init (hr.mono (by decide)) T.b_BadKind_init .nil pass0 rfl T.mg_BadKind (pa_cons (pv 0) (pa_cons (pv 1) pa_nil))))) pss_nil)
      (pss_one (ps_ret (pv 2))))))), ?_⟩
    refine ⟨fun σ G => H = G ∧ σ = [some (.int k), some (.int s), some (.int (w1 k s))], ?_, ?_⟩
    · refine ⟨_, rfl, k, _, _, rfl, rfl, T.id_MORE_COLUMNS, ?_⟩
      rw [more_at]
      have e1 : w1 k s = match moreI k with | some m => if 1 ≤ s then s + m else 0 | none => 0 := by
        unfold w1 moreI
        by_cases h1 : k = 1
        · subst h1; simp
        by_cases h2 : k = 2
        · subst h2; simp
        by_cases h3 : k = 3
        · subst h3; simp
        simp [h1, h2, h3]
      cases hm : moreI k with
      | none =>
        rw [hm] at e1
        refine ⟨_, rfl, ifF rfl (ifF rfl ⟨rfl, ?_⟩)⟩
        rw [e1]; rfl
      | some m =>
        rw [hm] at e1
        refine ⟨_, rfl, ifT rfl ⟨_, rfl, _, _, rfl, rfl, _, rfl, ?_⟩⟩
        by_cases hs : 1 ≤ s
        · refine ifT (decide_eq_true hs) ⟨_, rfl, _, rfl, _, k, _, _, rfl, rfl, T.id_MORE_COLUMNS, by rw [more_at, hm]; rfl, _, _, rfl, rfl, rfl, ?_⟩
          rw [e1]; show _ = [_, _, some (V.int (if 1 ≤ s then s + m else 0))]; rw [if_pos hs]; rfl
        · refine ifF (decide_eq_false hs) ⟨rfl, ?_⟩
          rw [e1]; show _ = [_, _, some (V.int (if 1 ≤ s then s + m else 0))]; rw [if_neg hs]; rfl
    rintro σ G ⟨rfl, rfl⟩
    refine ⟨fun σ G => H = G ∧ σ = [some (.int k), some (.int s), some (.int (w2 k s))], ?_, ?_⟩
    · refine ⟨_, rfl, k, _, _, rfl, rfl, T.id_FIXED_COLUMNS, ?_⟩
      rw [fix_at]
      have e1 : w2 k s = match fixI k with | some m => if s = 1 then m else w1 k s | none => w1 k s := by
        unfold w2 fixI
        by_cases h1 : k = 4
        · subst h1; simp
        by_cases h2 : k = 5
        · subst h2; simp
        simp [h1, h2]
      cases hm : fixI k with
      | none =>
        rw [hm] at e1
        refine ⟨_, rfl, ifF rfl (ifF rfl ⟨rfl, ?_⟩)⟩
        rw [e1]
      | some m =>
        rw [hm] at e1
        refine ⟨_, rfl, ifT rfl ⟨_, rfl, rfl, _, rfl, ?_⟩⟩
        by_cases hs : s = 1
        · refine ifT (decide_eq_true (by rw [hs])) ⟨_, rfl, _, k, _, _, rfl, rfl, T.id_FIXED_COLUMNS, by rw [fix_at, hm]; rfl, rfl, ?_⟩
          rw [e1]; show _ = [_, _, some (V.int (if s = 1 then m else w1 k s))]; rw [if_pos hs]; rfl
        · refine ifF (decide_eq_false fun z => hs (V.int.inj z)) ⟨rfl, ?_⟩
          rw [e1]; show _ = [_, _, some (V.int (if s = 1 then m else w1 k s))]; rw [if_neg hs]
    rintro σ G ⟨rfl, rfl⟩
    obtain ⟨u, hu⟩ := T.cv_Table_MOST_COLUMNS
    refine ⟨_, rfl, _, _, rfl, rfl, _, rfl, ?_⟩
    by_cases h0 : 0 < w2 k s
    · refine itY h0 ⟨_, _, _, _, rfl, T.cr_Table, hu, _, _, rfl, rfl, _, rfl, ?_⟩
      by_cases h1 : w2 k s ≤ 12
      · exact ifF (by rw [decide_eq_true h1]; rfl) (⟨_, rfl, kq (decide_eq_true ⟨h0, h1⟩) _ (Same.refl _)⟩)
      · refine ifT (by rw [decide_eq_false h1]; rfl) (⟨_, rfl, _, rfl, by show 2 ≤ 1000; decide, fun aa ha => ⟨aa, k, s, rfl, mk, ms, upd_same, fun d hd hne => ⟨rfl, d, _, by rw [upd_ne hne.symm]; exact upd_same, upd_same, by rw [upd_ne hne] at hd; exact hd, by rw [upd_ne hne] at hd; exact ke (decide_eq_false fun z => h1 z.2) d _ (exc_same5 ha hd)⟩⟩⟩)
    · refine itN h0 ⟨_, rfl, ifT rfl ⟨_, rfl, _, rfl, by show 2 ≤ 1000; decide, fun aa ha => ⟨aa, k, s, rfl, mk, ms, upd_same, fun d hd hne => ⟨rfl, d, _, by rw [upd_ne hne.symm]; exact upd_same, upd_same, by rw [upd_ne hne] at hd; exact hd, by rw [upd_ne hne] at hd; exact ke (decide_eq_false fun z => h0 z.1) d _ (exc_same5 ha hd)⟩⟩⟩⟩
end
end My
set_option maxRecDepth 100000
set_option maxHeartbeats 4000000
set_option exponentiation.threshold 10000
namespace My
open PySem L2
open C8 (pss_cut)
theorem rgV_is {s : Int} (h : 0 ≤ s) : rgV 1 (s + 1) = ivs (rg s.toNat) := by
  unfold rgV rg ivs
  rw [show (s + 1 - 1).toNat = s.toNat by omega, List.map_map]
  rfl
section
variable {P : Program} {w : World} {K : PySem.W.Frag} {mg : Str → Option Value} {base : Heap} {A : Ad}
def spStdR (B : Addr) (K : PySem.W.Frag) : Sp := fun vs H Q E => ∃ k s, vs = [.int k, .int s] ∧ midI k ∧ midI s ∧ (okKS k s = true → ∀ D ts H', Same H H' → H' D = some (.lst (ts.map V.ref)) → Lz (SqT K) H' ts (stdR k s) → Q (.ref D) H') ∧ (okKS k s = false → ∀ d H', Same H H' → E (.ref B) (some d) H')
theorem ok_stdR (T : Txt P K mg A) : FnOk P w K mg base (L2.CX P w) 5 A.a_standard_rows A.d_standard_rows ["kind", "size"] (spStdR A.C_BadKind K) := by
  have GX_standard_width := ok_width (P := P) (w := w) (base := base) T
  refine funX T.F_standard_rows sc_standard_rows (fun vs H Q E h => ?_) (fun cdv A' outer s0 H vs Q E hr h => ?_)
  · obtain ⟨k, s, rfl, _⟩ := h
    rfl
  · obtain ⟨k, s, rfl, mk, ms, kq, ke⟩ := h
    refine ⟨_, (pss_cons (ps_set (i := 2) sc_standard_rows.nd rfl (Or.inl rfl) (pe_op op_sub (pe_callS GX_standard_width (hr.mono (by decide)) rfl T.mg_standard_width T.F_standard_width.kp T.b_standard_width (fun σ => passAt (takes_of rfl rfl rfl rfl) σ) (pa_cons (pv 0) (pa_cons (pv 1) pa_nil))) pe_int))
      (pss_cons (ps_if (pt_cmpR op_inI (pv 0) (pe_glob (v := .ref A.e_FIXED_ROWS) rfl T.mg_FIXED_ROWS rfl) (by with_unfolding_all rfl)) (pss_one (ps_ret (pe_callTy (show CallR _ _ (rListOf K) from call_list_of) (by rfl) T.n_list (by decide +kernel) (pa_cons (pe_ix ix_idict (pe_glob (v := .ref A.e_FIXED_ROWS) rfl T.mg_FIXED_ROWS rfl) (pv 0) (fun _ _ => rfl)) pa_nil)))) pss_nil)
      (pss_cons (ps_setLc (i := 3) (own := [("at", 5)]) (g := gName 5) (tt := tYes) rfl sc_standard_rows.nd rfl rfl (sw_true rfl rfl rfl (by decide +kernel)) (pi_range1 (by rfl) T.n_range (pa_cons (pe_op op_add (pv 1) pe_int) pa_nil)) (blkOk_by (N := ["kind", "size", "last", "rows", "inner", "at"]) (sc := defScope s_standard_rows) (by decide +kernel)) (fun _ _ _ _ _ => (pg_name (i := 5) sc_standard_rows.nd rfl (Or.inl rfl))) (fun _ _ _ _ _ => pts_nil) (fun _ _ _ _ _ => (pe_tup (pa_cons (pv 5) (pa_cons (pe_op op_add (pv 5) pe_int) pa_nil)))))
      (pss_cons (ps_if (pt_cmpR op_eq (pv 0) pe_int (nomark _)) (pss_one (ps_ret (pe_lst (StX.pa_star (pv 3) (pa_cons (pe_tup (pa_cons pe_int (pa_cons (pv 2) pa_nil))) pa_nil))))) pss_nil)
      (pss_cons (ps_set (i := 4) sc_standard_rows.nd rfl (Or.inl rfl) (pe_tupRg rfl (by rfl) T.n_tuple (prg_2 (by rfl) T.n_range pe_int (pe_op op_add (pv 1) pe_int))))
      (pss_cons (ps_if (pt_cmpR op_eq (pv 0) pe_int (nomark _)) (pss_one (ps_ret (pe_lst (StX.pa_star (pv 3) (pa_cons (pe_tup (pa_cons pe_int (StX.pa_star (pv 4) (pa_cons (pv 2) pa_nil)))) (pa_cons (pe_tup (StX.pa_star (pv 4) (pa_cons (pe_op op_add (pv 1) pe_int) (pa_cons (pv 2) pa_nil)))) pa_nil)))))) pss_nil)
      (pss_one (ps_ret (pe_lst (StX.pa_star (pv 3) (pa_cons (pe_tup (StX.pa_star (pv 4) (pa_cons (pv 2) pa_nil))) pa_nil))))))))))), ?_⟩
    refine ⟨_, rfl, _, rfl, k, s, rfl, mk, ms, fun hok H1 s1 => ?_, ke⟩
    have kq := kq hok
    refine ⟨_, _, rfl, rfl, _, rfl, k, _, _, rfl, rfl, T.id_FIXED_ROWS, ?_⟩
    rw [fixR_at]
    have hk := okKS_iff.mp hok
    by_cases h4 : k = 4
    · subst h4
      refine ⟨_, rfl, ifT rfl ⟨_, rfl, _, 4, _, _, rfl, rfl, T.id_FIXED_ROWS, by rw [fixR_at]; rfl, _, _, rfl, .inr T.wt_w4.sq, fun l hl => ?_⟩⟩
      refine kq l [A.e_w40, A.e_w41, A.e_w42, A.e_w43] _ (s1.trans (same_new hl)) upd_same ?_
      exact .cons T.wt_w40.sq (.cons T.wt_w41.sq (.cons T.wt_w42.sq (.cons T.wt_w43.sq .nil)))
    by_cases h5 : k = 5
    · subst h5
      refine ⟨_, rfl, ifT rfl ⟨_, rfl, _, 5, _, _, rfl, rfl, T.id_FIXED_ROWS, by rw [fixR_at]; rfl, _, _, rfl, .inr T.wt_w5.sq, fun l hl => ?_⟩⟩
      refine kq l [A.e_w50, A.e_w51, A.e_w52, A.e_w53] _ (s1.trans (same_new hl)) upd_same ?_
      exact .cons T.wt_w50.sq (.cons T.wt_w51.sq (.cons T.wt_w52.sq (.cons T.wt_w53.sq .nil)))
    rw [if_neg h4, if_neg h5]
    have sz : 1 ≤ s ∧ s ≤ 10 := by omega
    refine ⟨_, rfl, ifF rfl ?_⟩
    refine ⟨_, rfl, _, _, rfl, rfl, _, rfl, by omega, by omega, fun D nD => lc_it walk_range (fun i G => Same H1 G ∧ ∃ us : List Addr, G D = some (.lst (us.map V.ref)) ∧ Lz (SqT K) G us ((path (s + 1).toNat).take i)) ⟨same_new nD, [], upd_same, Lz.nil⟩ (fun i G _ q => trivial) ?_ ?_⟩
    · rintro i x G0 G hi ⟨sG, us, hD, hus⟩ ⟨rfl, rfl⟩
      refine ⟨rfl, _, rfl, _, rfl, _, _, rfl, rfl, by show 2 ≤ sizeLine; decide, fun t n3 => ?_⟩
      generalize hG : upd G t _ = G2
      have q3 : Same G G2 := hG ▸ same_new n3
      have x3 := (congrFun hG t).symm.trans upd_same
      clear hG
      have x3 : G2 t = some (.tup [V.int (0 + ((i : Nat) : Int)), V.int (0 + ((i : Nat) : Int) + 1)]) := x3
      rw [Int.zero_add] at x3
      have hD2 := q3 _ _ hD
      have hil : i < (s + 1).toNat := hi
      refine ⟨_, hD2, small_int (by rw [List.length_map, hus.len, List.length_take, path_len]; omega), fun b o e => by rw [upd_ne (ne_of_none e nD)]; exact q3 _ _ (sG _ _ e), us ++ [t], by rw [List.map_append]; exact upd_same, ?_⟩
      rw [path_take hil]
      exact (hus.imp fun u x q => sqt_updL (q3.tup q) hD2).app (Lz.one (sqt_updL (SqT.of x3) hD2))
    rintro G ⟨sG, ts, hD, hts⟩
    have hts : Lz (SqT K) G ts (path (s + 1).toNat) := by
      have e : (path (s + 1).toNat).take (s + 1).toNat = path (s + 1).toNat := List.take_of_length_le (by rw [path_len]; exact Nat.le_refl _)
      rw [← e]; exact hts
    have tl : ts.length ≤ 11 := by rw [hts.len, path_len]; omega
    have s1G := s1.trans sG
    by_cases k1 : k = 1
    · subst k1
      have hw : w2 1 s - 1 = s + 1 := by rw [w2_is hok]; simp; omega
      refine ⟨_, rfl, rfl, _, rfl, ifT (decide_eq_true rfl) ⟨_, rfl, D, _, rfl, .inr (SqL.of hD), _, rfl, by show 2 ≤ sizeLine; decide, fun t n3 => ?_⟩⟩
      generalize hG : upd G t _ = G2
      have q3 : Same G G2 := hG ▸ same_new n3
      have x3 := (congrFun hG t).symm.trans upd_same
      clear hG
      have x3 : G2 t = some (.tup [V.int 0, V.int (w2 1 s - 1)]) := x3
      rw [hw] at x3
      refine ⟨by rw [List.length_append, List.length_map]; show ts.length + 1 ≤ sizeLine; exact Nat.le_trans (show ts.length + 1 ≤ 12 by omega) (by decide), fun l nl => ?_⟩
      refine kq l (ts ++ [t]) _ (s1G.trans (q3.trans (same_new nl))) (by rw [List.map_append]; exact upd_same) ?_
      have sn := q3.trans (same_new (o := .lst (ts.map V.ref ++ [V.ref t])) nl)
      exact (hts.imp fun u x q => sn.tup q).app (Lz.one (SqT.of (same_new nl _ _ x3)))
    refine ⟨_, rfl, rfl, _, rfl, ifF (decide_eq_false fun z => k1 (V.int.inj z)) ?_⟩
    have hw : w2 k s - 1 = s + 2 := by rw [w2_is hok, if_neg k1, if_pos (by omega)]; omega
    refine ⟨_, rfl, _, _, rfl, rfl, _, _, rfl, rfl, RgOk.of_le (by omega) (by omega) (by omega) (by omega), fun IN nIN => ?_⟩
    generalize hG : upd G IN _ = G2
    have q2 : Same G G2 := hG ▸ same_new nIN
    have x2 := (congrFun hG IN).symm.trans upd_same
    clear hG
    have x2 : G2 IN = some (.tup (ivs (rg s.toNat))) := by rw [← rgV_is (by omega)]; exact x2
    have hD := q2 _ _ hD
    have hts := hts.imp fun u x q => q2.tup q
    have s2 := s1G.trans q2
    have rl : (rg s.toNat).length ≤ 10 := by rw [rg_len]; omega
    have big : (100 : Nat) ≤ sizeLine := by decide
    by_cases k2 : k = 2
    · subst k2
      refine ⟨_, rfl, rfl, _, rfl, ifT (decide_eq_true rfl) ⟨_, rfl, D, _, rfl, .inr (SqL.of hD), _, rfl, IN, _, rfl, .inl (SqT.of x2), _, rfl, by rw [List.length_cons, List.length_append, ivs_len]; show (rg s.toNat).length + 1 + 1 ≤ sizeLine; omega, fun t n3 => ?_⟩⟩
      generalize hG : upd G2 t _ = G3
      have q3 : Same G2 G3 := hG ▸ same_new n3
      have x3 := (congrFun hG t).symm.trans upd_same
      clear hG
      have x3 : G3 t = some (.tup (V.int 0 :: (ivs (rg s.toNat) ++ [V.int (w2 2 s - 1)]))) := x3
      rw [hw] at x3
      have x3 : G3 t = some (.tup (ivs (0 :: rg s.toNat ++ [s + 2]))) := by rw [x3]; simp [ivs]
      refine ⟨_, rfl, IN, _, rfl, .inl (SqT.of (q3 _ _ x2)), _, rfl, _, _, rfl, rfl, _, rfl, by rw [List.length_append, ivs_len]; show (rg s.toNat).length + 2 ≤ sizeLine; omega, fun t2 n4 => ?_⟩
      generalize hG : upd G3 t2 _ = G4
      have q4 : Same G3 G4 := hG ▸ same_new n4
      have x4 := (congrFun hG t2).symm.trans upd_same
      clear hG
      have x4 : G4 t2 = some (.tup (ivs (rg s.toNat) ++ [V.int (s + 1), V.int (w2 2 s - 1)])) := x4
      rw [hw] at x4
      have x4 : G4 t2 = some (.tup (ivs (rg s.toNat ++ [s + 1, s + 2]))) := by rw [x4]; simp [ivs]
      refine ⟨by rw [List.length_append, List.length_map]; show ts.length + 2 ≤ sizeLine; omega, fun l nl => ?_⟩
      have sn := (same_new (o := .lst (ts.map V.ref ++ [V.ref t, V.ref t2])) nl)
      have s4 := q3.trans (q4.trans sn)
      refine kq l (ts ++ [t, t2]) _ (s2.trans s4) (by rw [List.map_append]; exact upd_same) ?_
      exact (hts.imp fun u x q => s4.tup q).app (.cons (SqT.of ((q4.trans sn) _ _ x3)) (.one (SqT.of (sn _ _ x4))))
    have k3 : k = 3 := by omega
    subst k3
    refine ⟨_, rfl, rfl, _, rfl, ifF (decide_eq_false fun z => k2 (V.int.inj z)) ⟨_, rfl, D, _, rfl, .inr (SqL.of hD), _, rfl, IN, _, rfl, .inl (SqT.of x2), _, rfl, by rw [List.length_append, ivs_len]; show (rg s.toNat).length + 1 ≤ sizeLine; omega, fun t n3 => ?_⟩⟩
    generalize hG : upd G2 t _ = G3
    have q3 : Same G2 G3 := hG ▸ same_new n3
    have x3 := (congrFun hG t).symm.trans upd_same
    clear hG
    have x3 : G3 t = some (.tup (ivs (rg s.toNat) ++ [V.int (w2 3 s - 1)])) := x3
    rw [hw] at x3
    have x3 : G3 t = some (.tup (ivs (rg s.toNat ++ [s + 2]))) := by rw [x3]; simp [ivs]
    refine ⟨by rw [List.length_append, List.length_map]; show ts.length + 1 ≤ sizeLine; omega, fun l nl => ?_⟩
    have sn := (same_new (o := .lst (ts.map V.ref ++ [V.ref t])) nl)
    have s4 := q3.trans sn
    refine kq l (ts ++ [t]) _ (s2.trans s4) (by rw [List.map_append]; exact upd_same) ?_
    exact (hts.imp fun u x q => s4.tup q).app (.one (SqT.of (sn _ _ x3)))
end
end My
set_option maxRecDepth 100000
set_option maxHeartbeats 4000000
set_option exponentiation.threshold 10000
namespace My
open PySem L2
open C8 (pss_cut)
abbrev pdi (l : List Int) : List PyData := l.map PyData.int
theorem dp_ivs {K : PySem.W.Frag} {H : Hp} : ∀ l : List Int, DpAll K H (ivs l) (pdi l)
  | [] => .nil
  | a :: l => .cons (.int a) (dp_ivs l)
theorem lay_pdi : ∀ l : List Int, PyData.canLayAll0 (pdi l) = true
  | [] => by simp [PyData.canLayAll0]
  | a :: l => layc (lay_int a) (lay_pdi l)
theorem depth_pdi : ∀ l : List Int, PyData.depthAll (pdi l) ≤ 1
  | [] => by simp [PyData.depthAll]
  | a :: l => by
    have h : PyData.depthAll (l.map PyData.int) ≤ 1 := depth_pdi l
    simp only [List.map_cons, PyData.depthAll, PyData.depth]
    omega
theorem sh_pdi (l : List Int) : SeqAt.shaped (.list (pdi l)) = true := shapedL (lay_pdi l) (Nat.le_trans (depth_pdi l) (by decide))
theorem shT_pdi (l : List Int) : SeqAt.shaped (.tuple (pdi l)) = true := shapedT (lay_pdi l) (Nat.le_trans (depth_pdi l) (by decide))
theorem nb_pdi (ss : List Int) : nbAll (pdi ss) = true := by
  induction ss with
  | nil => rfl
  | cons a t ih => show (true && nbAll (pdi t)) = true; rw [ih]; rfl
theorem pdi_inj {a b : List Int} : pdi a = pdi b ↔ a = b := by
  constructor
  · intro h
    have := congrArg (List.map fun d : PyData => match d with | .int x => x | _ => (0 : Int)) h
    rw [List.map_map, List.map_map] at this
    simpa [Function.comp_def] using this
  · intro h; rw [h]
theorem eqv_LI (a b : List Int) : PyData.eqv (.list (pdi a)) (.list (pdi b)) = decide (a = b) := by
  rw [Bool.eq_iff_iff, decide_eq_true_iff, eqv_iff (.list (pdi a)) (.list (pdi b)) (by simp only [nb]; exact nb_pdi a) (by simp only [nb]; exact nb_pdi b), PyData.list.injEq, pdi_inj]
theorem eqv_TI (a b : List Int) : PyData.eqv (.tuple (pdi a)) (.tuple (pdi b)) = decide (a = b) := by
  rw [Bool.eq_iff_iff, decide_eq_true_iff, eqv_iff (.tuple (pdi a)) (.tuple (pdi b)) (by simp only [nb]; exact nb_pdi a) (by simp only [nb]; exact nb_pdi b), PyData.tuple.injEq, pdi_inj]
/-! ### patterns -/
def fldsP (k s : Int) (rt ct : Addr) : List (Str × V) := [("kind", .int k), ("size", .int s), ("rows", .ref rt), ("columns", .ref ct)]
theorem fldsP_kind (k s : Int) (rt ct : Addr) : (fldsP k s rt ct).lookup ("kind" : Str) = some (.int k) := by unfold fldsP; simp [List.lookup]
theorem fldsP_size (k s : Int) (rt ct : Addr) : (fldsP k s rt ct).lookup ("size" : Str) = some (.int s) := by
  unfold fldsP
  rw [List.lookup_cons, show (("size" : Str) == "kind") = false by decide +kernel]
  simp [List.lookup]
theorem fldsP_rows (k s : Int) (rt ct : Addr) : (fldsP k s rt ct).lookup ("rows" : Str) = some (.ref rt) := by
  unfold fldsP
  rw [List.lookup_cons, show (("rows" : Str) == "kind") = false by decide +kernel, List.lookup_cons, show (("rows" : Str) == "size") = false by decide +kernel]
  simp [List.lookup]
theorem fldsP_columns (k s : Int) (rt ct : Addr) : (fldsP k s rt ct).lookup ("columns" : Str) = some (.ref ct) := by
  unfold fldsP
  rw [List.lookup_cons, show (("columns" : Str) == "kind") = false by decide +kernel, List.lookup_cons, show (("columns" : Str) == "size") = false by decide +kernel, List.lookup_cons, show (("columns" : Str) == "rows") = false by decide +kernel]
  simp [List.lookup]
theorem fldsP_put (k s : Int) (rt ct : Addr) : putF "columns" (.ref ct) (putF "rows" (.ref rt) (putF "size" (.int s) (putF "kind" (.int k) []))) = fldsP k s rt ct := by
  unfold fldsP
  simp [putF, show ¬ (("kind" : Str) = "size") by decide +kernel, show ¬ (("kind" : Str) = "rows") by decide +kernel, show ¬ (("size" : Str) = "rows") by decide +kernel, show ¬ (("kind" : Str) = "columns") by decide +kernel, show ¬ (("size" : Str) = "columns") by decide +kernel, show ¬ (("rows" : Str) = "columns") by decide +kernel]
/-- a pattern: its kind, size, rows and columns -/
def Pat (C : Addr) (H : Hp) (p : Addr) (k s : Int) (xs : List Int) (ys : List Str) : Prop :=
  ∃ dx rt ct, H p = some (.ins C dx (fldsP k s rt ct)) ∧ H rt = some (.tup (ivs xs)) ∧ H ct = some (.tup (sv ys))
theorem Pat.same {C : Addr} {H H' : Hp} {p : Addr} {k s : Int} {xs : List Int} {ys : List Str} (h : Pat C H p k s xs ys) (e : Same H H') : Pat C H' p k s xs ys :=
  let ⟨dx, rt, ct, a, b, c⟩ := h; ⟨dx, rt, ct, e _ _ a, e _ _ b, e _ _ c⟩
theorem Pat.updL {C : Addr} {H : Hp} {p b : Addr} {k s : Int} {xs : List Int} {ys : List Str} {zs : List V} {o : HO} (h : Pat C H p k s xs ys) (hb : H b = some (.lst zs)) : Pat C (upd H b o) p k s xs ys := by
  obtain ⟨dx, rt, ct, h1, h2, h3⟩ := h
  have nb : ∀ a u, H a = some u → (∀ zs, u ≠ .lst zs) → upd H b o a = some u := fun a u e hne => by
    rw [upd_ne (fun z => hne zs (by rw [z, hb] at e; exact (Option.some.inj e).symm))]; exact e
  exact ⟨dx, rt, ct, nb _ _ h1 (fun _ z => nomatch z), nb _ _ h2 (fun _ z => nomatch z), nb _ _ h3 (fun _ z => nomatch z)⟩
/-- a list, or a tuple laid here -/
def LT (H : Hp) (a : Addr) (xs : List V) : Prop := H a = some (.lst xs) ∨ H a = some (.tup xs)
theorem LT.same {H H' : Hp} {a : Addr} {xs : List V} (h : LT H a xs) (e : Same H H') : LT H' a xs := h.imp (e _ _) (e _ _)
theorem LT.updI {H : Hp} {a p C dx : Addr} {xs : List V} {f : List (Str × V)} {o : HO} (h : LT H a xs) (hp : H p = some (.ins C dx f)) : LT (upd H p o) a xs :=
  h.imp (fun e => by rw [upd_ne (fun z => by rw [z, hp] at e; cases e)]; exact e) (fun e => by rw [upd_ne (fun z => by rw [z, hp] at e; cases e)]; exact e)
theorem tupP {K : PySem.W.Frag} {H : Hp} {p : Addr} {ys : List V} {Q : VK} (h : LT H p ys) (k : ∀ a H', Same H H' → H' a = some (.tup ys) → Q (.ref a) H') : rTupOf K [.ref p] H Q := by
  refine ⟨p, ys, rfl, ?_⟩
  rcases h with h | h
  · exact .inl ⟨SqL.of h, fun l hl => k l _ (same_new hl) upd_same⟩
  · exact .inr ⟨SqT.of h, k p H (Same.refl _) h⟩
section
variable {P : Program} {w : World} {K : PySem.W.Frag} {mg : Str → Option Value} {base : Heap} {A : Ad}
def spPatI (C : Addr) : Sp := fun vs H Q _ => ∃ (p : Addr) (k s : Int) (r c dx : Addr) (xs : List Int) (ys : List Str), vs = [.ref p, .int k, .int s, .ref r, .ref c] ∧ H p = some (.ins C dx []) ∧ LT H r (ivs xs) ∧ LT H c (sv ys) ∧ ∀ H', (∀ b o, b ≠ p → H b = some o → H' b = some o) → Pat C H' p k s xs ys → Q .non H'
theorem ok_patI (T : Txt P K mg A) : FnOk P w K mg base CX0 1 A.a_Pattern_init A.d_Pattern_init ["self", "kind", "size", "rows", "columns"] (spPatI A.C_Pattern) := by
  refine T.F_Pattern_init.ok sc_Pattern_init (fun vs H Q E h => ?_) (fun cdv A' outer s0 H vs Q E hr h => ?_)
  · obtain ⟨p, k, s, r, c, dx, xs, ys, rfl, _⟩ := h
    rfl
  · obtain ⟨p, k, s, r, c, dx, xs, ys, rfl, hp, hR, hC, kk⟩ := h
    refine ⟨_, (pss_cons (ps_fld (pv 0) (pv 1) rfl)
      (pss_cons (ps_fld (pv 0) (pv 2) rfl)
      (pss_cons (ps_fld (pv 0) (pe_callTy (show CallR _ _ (rTupOf K) from call_tuple_of) (by rfl) T.n_tuple (by decide +kernel) (pa_cons (pv 3) pa_nil)) rfl)
      (pss_one (ps_fld (pv 0) (pe_callTy (show CallR _ _ (rTupOf K) from call_tuple_of) (by rfl) T.n_tuple (by decide +kernel) (pa_cons (pv 4) pa_nil)) rfl))))), ?_⟩
    have put : ∀ {G : Hp} {f g : List (Str × V)}, G p = some (.ins A.C_Pattern dx f) → (∀ b o, b ≠ p → H b = some o → G b = some o) → ∀ b o, b ≠ p → H b = some o → upd G p (.ins A.C_Pattern dx g) b = some o := fun hg h b o hb e => by rw [upd_ne hb]; exact h b o hb e
    refine ⟨_, rfl, _, rfl, p, _, dx, [], rfl, hp, T.cl_Pattern, T.n_Pattern_kind, (by show 0 < 1000; decide), ?_⟩
    have hR := hR.updI (o := .ins A.C_Pattern dx (putF "kind" (.int k) [])) hp
    have hC := hC.updI (o := .ins A.C_Pattern dx (putF "kind" (.int k) [])) hp
    have k1 := put (g := putF "kind" (.int k) []) hp (fun b o _ e => e)
    have hp1 := upd_same (H := H) (a := p) (o := .ins A.C_Pattern dx (putF "kind" (.int k) []))
    generalize upd H p _ = H1 at hR hC k1 hp1 ⊢
    refine ⟨_, rfl, _, rfl, p, _, dx, _, rfl, hp1, T.cl_Pattern, T.n_Pattern_size, (by show 1 < 1000; decide), ?_⟩
    have hR := hR.updI (o := .ins A.C_Pattern dx (putF "size" (.int s) (putF "kind" (.int k) []))) hp1
    have hC := hC.updI (o := .ins A.C_Pattern dx (putF "size" (.int s) (putF "kind" (.int k) []))) hp1
    have k2 := put (g := putF "size" (.int s) (putF "kind" (.int k) [])) hp1 k1
    have hp2 := upd_same (H := H1) (a := p) (o := .ins A.C_Pattern dx (putF "size" (.int s) (putF "kind" (.int k) [])))
    generalize upd H1 p _ = H2 at hR hC k2 hp2 ⊢
    refine ⟨_, rfl, ?_⟩
    dsimp only [tNil]
    refine tupP (K := K) hR fun rt H3 s3 hrt => ?_
    have hp3 := s3 _ _ hp2
    have hC := hC.same s3
    refine ⟨_, rfl, p, _, dx, _, rfl, hp3, T.cl_Pattern, T.n_Pattern_rows, (by show 2 < 1000; decide), ?_⟩
    have hC := hC.updI (o := .ins A.C_Pattern dx (putF "rows" (.ref rt) (putF "size" (.int s) (putF "kind" (.int k) [])))) hp3
    have k3 := put (g := putF "rows" (.ref rt) (putF "size" (.int s) (putF "kind" (.int k) []))) hp3 (fun b o hb e => s3 _ _ (k2 b o hb e))
    have hp4 := upd_same (H := H3) (a := p) (o := .ins A.C_Pattern dx (putF "rows" (.ref rt) (putF "size" (.int s) (putF "kind" (.int k) []))))
    have hrt : upd H3 p (.ins A.C_Pattern dx (putF "rows" (.ref rt) (putF "size" (.int s) (putF "kind" (.int k) [])))) rt = some (.tup (ivs xs)) := by rw [upd_ne (fun z => by rw [z, hp3] at hrt; cases hrt)]; exact hrt
    generalize upd H3 p _ = H4 at hC k3 hp4 hrt ⊢
    refine ⟨_, rfl, ?_⟩
    dsimp only [tNil]
    refine tupP (K := K) hC fun ct H5 s5 hct => ?_
    have hp5 := s5 _ _ hp4
    have hrt := s5 _ _ hrt
    refine ⟨_, rfl, p, _, dx, _, rfl, hp5, T.cl_Pattern, T.n_Pattern_columns, (by show 3 < 1000; decide), ?_⟩
    have k5 := put (g := putF "columns" (.ref ct) (putF "rows" (.ref rt) (putF "size" (.int s) (putF "kind" (.int k) [])))) hp5 (fun b o hb e => s5 _ _ (k3 b o hb e))
    refine kk _ k5 ⟨dx, rt, ct, by rw [← fldsP_put]; exact upd_same, ?_, ?_⟩
    · rw [upd_ne (fun z => by rw [z, hp5] at hrt; cases hrt)]; exact hrt
    · rw [upd_ne (fun z => by rw [z, hp5] at hct; cases hct)]; exact hct
end
end My
set_option maxRecDepth 100000
set_option maxHeartbeats 4000000
set_option exponentiation.threshold 10000
namespace My
open PySem L2
open C8 (pss_cut)
abbrev pdb (l : List Bool) : List PyData := l.map PyData.bool
abbrev bvs (l : List Bool) : List V := l.map V.bl
theorem lay_pdb : ∀ l : List Bool, PyData.canLayAll0 (pdb l) = true
  | [] => by simp [PyData.canLayAll0]
  | a :: l => layc (by simp [PyData.canLay0]) (lay_pdb l)
theorem depth_pdb : ∀ l : List Bool, PyData.depthAll (pdb l) ≤ 1
  | [] => by simp [PyData.depthAll]
  | a :: l => by
    have h : PyData.depthAll (l.map PyData.bool) ≤ 1 := depth_pdb l
    simp only [List.map_cons, PyData.depthAll, PyData.depth]
    omega
theorem sh_pdb (l : List Bool) : SeqAt.shaped (.list (pdb l)) = true := shapedL (lay_pdb l) (Nat.le_trans (depth_pdb l) (by decide))
theorem eqvAll_b : ∀ a b : List Bool, PyData.eqvAll (pdb a) (pdb b) = decide (a = b)
  | [], [] => by simp [PyData.eqvAll]
  | [], _ :: _ => by simp [PyData.eqvAll]
  | _ :: _, [] => by simp [PyData.eqvAll]
  | x :: a, y :: b => by
    have ih : PyData.eqvAll (a.map PyData.bool) (b.map PyData.bool) = decide (a = b) := eqvAll_b a b
    simp only [List.map_cons, PyData.eqvAll, ih]
    cases x <;> cases y <;> simp [PyData.eqv]
theorem eqv_LB (a b : List Bool) : PyData.eqv (.list (pdb a)) (.list (pdb b)) = decide (a = b) := by
  simp only [PyData.eqv]; exact eqvAll_b a b
/-- what the columns say of a row, and what the standard row says of its places -/
def hasC (ns cs : List Str) : List Bool := cs.map fun z => decide (z ∈ ns)
def hasP (n : Nat) (xs : List Int) : List Bool := (List.range n).map fun i => decide (((i : Nat) : Int) ∈ xs)
def alike (ns cs : List Str) (xs : List Int) : Bool := decide (hasC ns cs = hasP cs.length xs)
section
variable {P : Program} {w : World} {K : PySem.W.Frag} {mg : Str → Option Value} {base : Heap} {A : Ad}
theorem Txt.ko_selfP (T : Txt P K mg A) : PySem.W.kitOne K (.ref A.C_Pattern) (.ref A.C_Pattern) = some true := by
  unfold PySem.W.kitOne
  rw [if_pos (by simp)]
theorem Txt.tyP (T : Txt P K mg A) {H : Hp} {p dx : Addr} {fs : List (Str × V)} (h : H p = some (.ins A.C_Pattern dx fs)) : TyX K H (.ref p) (.ref A.C_Pattern) :=
  .base (.ins h T.cl_Pattern T.c1_Pattern T.c2 T.c4 T.c3_Pattern)
def spPEq (C : Addr) : Sp := fun vs H Q _ => ∃ (p1 p2 : Addr) (k1 s1 k2 s2 : Int) (x1 x2 : List Int) (y1 y2 : List Str), vs = [.ref p1, .ref p2] ∧ Pat C H p1 k1 s1 x1 y1 ∧ Pat C H p2 k2 s2 x2 y2 ∧ (∀ z ∈ y1, Okz z) ∧ (∀ z ∈ y2, Okz z) ∧ Q (.bl (decide (k1 = k2 ∧ s1 = s2 ∧ x1 = x2 ∧ y1 = y2))) H
theorem ok_peq (T : Txt P K mg A) : FnOk P w K mg base CX0 1 A.a_Pattern_eq A.d_Pattern_eq ["self", "other"] (spPEq A.C_Pattern) := by
  refine T.F_Pattern_eq.ok sc_Pattern_eq (fun vs H Q E h => ?_) (fun cdv A' outer s0 H vs Q E hr h => ?_)
  · obtain ⟨p1, p2, k1, s1, k2, s2, x1, x2, y1, y2, rfl, _⟩ := h
    rfl
  · obtain ⟨p1, p2, k1, s1, k2, s2, x1, x2, y1, y2, rfl, ⟨d1, r1, c1, h1, hr1, hc1⟩, ⟨d2, r2, c2, h2, hr2, hc2⟩, g1, g2, k⟩ := h
    refine ⟨_, (pss_one (ps_ret (pe_and (pe_callB call_isi (by rfl) T.n_isinstance (by decide +kernel) (pa_cons (pv 1) (pa_cons (pe_glob (v := .ref A.C_Pattern) rfl T.mg_Pattern rfl) pa_nil))) (pe_and (pe_cmpR op_eq (pe_fld (pv 0) rfl) (pe_fld (pv 1) rfl) (nomark _)) (pe_and (pe_cmpR op_eq (pe_fld (pv 0) rfl) (pe_fld (pv 1) rfl) (nomark _)) (pe_and (pe_cmpR (op_eqD hr.units) (pe_fld (pv 0) rfl) (pe_fld (pv 1) rfl) (nomark _)) (pe_one (pe_cmpR (op_eqD hr.units) (pe_fld (pv 0) rfl) (pe_fld (pv 1) rfl) (nomark _))))))))), ?_⟩
    refine ⟨_, rfl, _, _, _, _, true, rfl, .own _, T.tyP h2, T.ko_selfP, true, rfl, iteT ?_⟩
    refine ⟨_, rfl, _, _, _, _, _, rfl, h1, T.cl_Pattern, T.n_Pattern_kind, fldsP_kind _ _ _ _, _, rfl, _, _, _, _, _, rfl, h2, T.cl_Pattern, T.n_Pattern_kind, fldsP_kind _ _ _ _, rfl, _, rfl, ?_⟩
    by_cases ek : k1 = k2
    · refine ifT (decide_eq_true (by rw [ek])) ⟨_, rfl, _, _, _, _, _, rfl, h1, T.cl_Pattern, T.n_Pattern_size, fldsP_size _ _ _ _, _, rfl, _, _, _, _, _, rfl, h2, T.cl_Pattern, T.n_Pattern_size, fldsP_size _ _ _ _, rfl, _, rfl, ?_⟩
      by_cases es : s1 = s2
      · refine ifT (decide_eq_true (by rw [es])) ⟨_, rfl, _, _, _, _, _, rfl, h1, T.cl_Pattern, T.n_Pattern_rows, fldsP_rows _ _ _ _, _, rfl, _, _, _, _, _, rfl, h2, T.cl_Pattern, T.n_Pattern_rows, fldsP_rows _ _ _ _, .tuple (pdi x1), .tuple (pdi x2), .tup (SqT.of hr1) (dp_ivs _), .tup (SqT.of hr2) (dp_ivs _), shT_pdi _, shT_pdi _, _, rfl, ?_⟩
        rw [eqv_TI]
        by_cases ex : x1 = x2
        · refine ifT (decide_eq_true ex) ⟨_, rfl, _, _, _, _, _, rfl, h1, T.cl_Pattern, T.n_Pattern_columns, fldsP_columns _ _ _ _, _, rfl, _, _, _, _, _, rfl, h2, T.cl_Pattern, T.n_Pattern_columns, fldsP_columns _ _ _ _, .tuple (pd y1), .tuple (pd y2), .tup (SqT.of hc1) (dp_pd _), .tup (SqT.of hc2) (dp_pd _), shaped_pdT g1, shaped_pdT g2, ?_⟩
          rw [eqv_T, show decide (y1 = y2) = decide (k1 = k2 ∧ s1 = s2 ∧ x1 = x2 ∧ y1 = y2) from decide_eq_decide.mpr ⟨fun z => ⟨ek, es, ex, z⟩, fun z => z.2.2.2⟩]
          exact k
        · rw [decide_eq_false (fun z => ex z.2.2.1)] at k
          rw [decide_eq_false ex]
          exact ifF rfl k
      · rw [decide_eq_false (fun z => es z.2.1)] at k
        rw [decide_eq_false (fun z => es (V.int.inj z))]
        exact ifF rfl k
    · rw [decide_eq_false (fun z => ek z.1)] at k
      rw [decide_eq_false (fun z => ek (V.int.inj z))]
      exact ifF rfl k
def spAlike (K : PySem.W.Frag) : Sp := fun vs H Q _ => ∃ (n c r : Addr) (ns cs : List Str) (xs : List Int), vs = [.ref n, .ref c, .ref r] ∧ SqT K H n (sv ns) ∧ SqT K H c (sv cs) ∧ SqT K H r (ivs xs) ∧ cs.length ≤ 1000 ∧ ∀ H', Same H H' → Q (.bl (alike ns cs xs)) H'
theorem ok_alike (T : Txt P K mg A) : FnOk P w K mg base CX0 1 A.a_is_alike A.d_is_alike ["names", "columns", "row"] (spAlike K) := by
  refine T.F_is_alike.ok sc_is_alike (fun vs H Q E h => ?_) (fun cdv A' outer s0 H vs Q E hr h => ?_)
  · obtain ⟨n, c, r, ns, cs, xs, rfl, _⟩ := h
    rfl
  · obtain ⟨n, c, r, ns, cs, xs, rfl, hN, hC, hR, hl, k⟩ := h
    refine ⟨_, (pss_one (ps_ret (pe_cmpR (op_eqD hr.units) (pe_lc (own := [("name", 3)]) (g := gName 3) (tt := tYes) rfl sc_is_alike.nd (pi_tup (pv 1)) (blkOk_by (N := ["names", "columns", "row", "name", "place"]) (sc := defScope s_is_alike) (by decide +kernel)) (fun _ _ _ _ _ => (pg_name (i := 3) sc_is_alike.nd rfl (Or.inl rfl))) (fun _ _ _ _ _ => pts_nil) (fun _ _ _ _ _ => (pe_cmpR (show OpR _ _ (rIn K false) from op_in_seq) (pv 3) (pv 0) (by with_unfolding_all rfl)))) (pe_lc (own := [("place", 4)]) (g := gName 4) (tt := tYes) rfl sc_is_alike.nd (pi_range1 (by rfl) T.n_range (pa_cons (pe_callB call_len_seq (by rfl) T.n_len (by decide +kernel) (pa_cons (pv 1) pa_nil)) pa_nil)) (blkOk_by (N := ["names", "columns", "row", "name", "place"]) (sc := defScope s_is_alike) (by decide +kernel)) (fun _ _ _ _ _ => (pg_name (i := 4) sc_is_alike.nd rfl (Or.inl rfl))) (fun _ _ _ _ _ => pts_nil) (fun _ _ _ _ _ => (pe_cmpR (show OpR _ _ (rIn K false) from op_in_seq) (pv 4) (pv 2) (by with_unfolding_all rfl)))) (nomark _)))), ?_⟩
    refine ⟨_, rfl, c, rfl, ⟨_, hC⟩, fun D hD => lc_it walk_tup (PvS H D fun i => bvs (hasC ns (cs.take i))) (pv0 hD rfl) (fun i H2 _ q => q.1.tup hC) ?_ ?_⟩
    · rintro i x H3 H4 hi q ⟨rfl, hx⟩
      obtain ⟨z, hz, rfl⟩ := sv_get hx
      refine ⟨rfl, _, rfl, _, rfl, n, _, rfl, .inr (q.1.tup hN), rfl, flat_sv _, ?_⟩
      rw [if_neg Bool.false_ne_true, inV_str]
      refine q.push hD ?_ ?_
      · show (hasC ns (cs.take (i + 1))).map V.bl = _
        rw [take_succ hz]; unfold hasC; rw [List.map_append, List.map_append]; rfl
      · show ((hasC ns (cs.take i)).map V.bl).length ≤ 1000000
        rw [List.length_map]; unfold hasC; rw [List.length_map, List.length_take]; omega
    rintro H1 ⟨s1, h1⟩
    have h1 : H1 D = some (.lst (bvs (hasC ns (cs.take (sv cs).length)))) := h1
    rw [len_sv, List.take_length] at h1
    refine ⟨_, rfl, c, _, rfl, .inr (s1.tup hC), _, rfl, by rw [len_sv]; omega, by rw [len_sv]; omega, fun D2 hD2 => lc_it walk_range (PvS H1 D2 fun i => bvs (hasP i xs)) (pv0 hD2 rfl) (fun i H2 _ q => trivial) ?_ ?_⟩
    · rintro i x H3 H4 hi q ⟨rfl, rfl⟩
      refine ⟨rfl, _, rfl, _, rfl, r, _, rfl, .inr ((s1.trans q.1).tup hR), rfl, flat_iv _, ?_⟩
      rw [if_neg Bool.false_ne_true, inV_int, Int.zero_add]
      refine q.push hD2 ?_ ?_
      · show (hasP (i + 1) xs).map V.bl = _
        unfold hasP; rw [List.range_succ, List.map_append, List.map_append]; rfl
      · show ((hasP i xs).map V.bl).length ≤ 1000000
        rw [List.length_map]; unfold hasP; rw [List.length_map, List.length_range]
        rw [len_sv] at hi; omega
    rintro H2 ⟨s2, h2⟩
    have h2 : H2 D2 = some (.lst (bvs (hasP (((sv cs).length : Nat) : Int).toNat xs))) := h2
    rw [len_sv, Int.toNat_natCast] at h2
    refine ⟨.list (pdb (hasC ns cs)), .list (pdb (hasP cs.length xs)), .lst (SqL.of (s2 _ _ h1)) (dpAll_bl _), .lst (SqL.of h2) (dpAll_bl _), sh_pdb _, sh_pdb _, ?_⟩
    rw [eqv_LB]
    exact k H2 (s1.trans s2)
end
end My
set_option maxRecDepth 100000
set_option maxHeartbeats 4000000
set_option exponentiation.threshold 10000
namespace My
open PySem L2
open C8 (pss_cut)
def places (n : Nat) : List Int := (List.range n).map fun i => ((i : Nat) : Int)
theorem rgV_places (n : Nat) : rgV 0 ((n : Nat) : Int) = ivs (places n) := by
  unfold rgV places ivs
  rw [List.map_map, show (((n : Nat) : Int) - 0).toNat = n by omega]
  refine List.map_congr_left fun i _ => ?_
  show V.int (0 + ((i : Nat) : Int)) = V.int ((i : Nat) : Int)
  rw [Int.zero_add]
theorem mem_places {n : Nat} {x : Int} : x ∈ places n ↔ 0 ≤ x ∧ x < n := by
  unfold places
  rw [List.mem_map]
  constructor
  · rintro ⟨i, hi, rfl⟩
    have := List.mem_range.mp hi
    omega
  · intro h
    exact ⟨x.toNat, List.mem_range.mpr (by omega), by omega⟩
def rowAlike (cs : List Str) (rs : List (List Str)) (k s : Int) (xs : List Int) (ys : List Str) (i : Nat) : Bool := alike (canon cs (rs.getD (xs.getD i 0).toNat [])) ys ((stdR k s).getD i [])
/-- the program's answer -/
def liesB (cs : List Str) (rs : List (List Str)) (k s : Int) (xs : List Int) (ys : List Str) : Bool :=
  okKS k s && (decide (xs.length = (stdR k s).length ∧ (ys.length : Int) = w2 k s) && (okNums (places rs.length) xs && ((stray cs ys).isNone && (List.range xs.length).all (rowAlike cs rs k s xs ys))))
section
variable {P : Program} {w : World} {K : PySem.W.Frag} {mg : Str → Option Value} {base : Heap} {A : Ad}
def spLies (A : Ad) (K : PySem.W.Frag) : Sp := fun vs H Q _ => ∃ (t p : Addr) (cs : List Str) (rs : List (List Str)) (k s : Int) (xs : List Int) (ys : List Str), vs = [.ref t, .ref p] ∧ Tb A.C_Table H t cs rs ∧ Pat A.C_Pattern H p k s xs ys ∧ midI k ∧ midI s ∧ rs.length ≤ 48 ∧ xs.length ≤ 1000 ∧ ys.length ≤ 1000 ∧ ∀ H', Same H H' → Q (.bl (liesB cs rs k s xs ys)) H'
theorem ok_lies (T : Txt P K mg A) : FnOk P w K mg base CX0 8 A.a_lies_in A.d_lies_in ["table", "pattern"] (spLies A K) := by
  have GX_standard_rows := ok_stdR (P := P) (w := w) (base := base) T
  have GX_standard_width := ok_width (P := P) (w := w) (base := base) T
  have G_Table_len := ok_len (P := P) (w := w) (base := base) T
  have G_Table_getitem := ok_get (P := P) (w := w) (base := base) T
  have G_first_strayI := ok_strayI (P := P) (w := w) (base := base) T
  have G_first_strayT := ok_strayA (P := P) (w := w) (base := base) T
  have G_is_alike := ok_alike (P := P) (w := w) (base := base) T
  refine T.F_lies_in.ok sc_lies_in (fun vs H Q E h => ?_) (fun cdv A' outer s0 H vs Q E hr h => ?_)
  · obtain ⟨t, p, cs, rs, k, s, xs, ys, rfl, _⟩ := h
    rfl
  · obtain ⟨t, p, cs, rs, k, s, xs, ys, rfl, hT, hP, mk, ms, hrl, hxl, hyl, kk⟩ := h
    refine ⟨_, (pss_cons (ps_try_only (Wout := fun _ _ _ _ => False) rfl rfl ⟨rfl, by decide, .inl T.mg_BadKind⟩ takes0 (fun W pn xe tk _ => (pss_cons (ps_set (i := 2) sc_lies_in.nd rfl (Or.inl rfl) (pe_callS GX_standard_rows (hr.mono (by decide)) rfl T.mg_standard_rows T.F_standard_rows.kp T.b_standard_rows (fun σ => passAt tk σ) (pa_cons (show PE _ _ (tFld K _ "kind") from pe_fld (pv 1) rfl) (pa_cons (show PE _ _ (tFld K _ "size") from pe_fld (pv 1) rfl) pa_nil))))
      (pss_one (ps_set (i := 3) sc_lies_in.nd rfl (Or.inl rfl) (pe_callS GX_standard_width (hr.mono (by decide)) rfl T.mg_standard_width T.F_standard_width.kp T.b_standard_width (fun σ => passAt tk σ) (pa_cons (show PE _ _ (tFld K _ "kind") from pe_fld (pv 1) rfl) (pa_cons (show PE _ _ (tFld K _ "size") from pe_fld (pv 1) rfl) pa_nil))))))) (fun a oe cls d pn hz hf => (pss_one (ps_ret pe_bl))))
      (pss_cons (ps_if (PW.pt (pw_or (pt_cmpR op_ne (pe_callB call_len_seq (by rfl) T.n_len (by decide +kernel) (pa_cons (pe_fld (pv 1) rfl) pa_nil)) (pe_callB call_len_seq (by rfl) T.n_len (by decide +kernel) (pa_cons (pv 2) pa_nil)) (nomark _)) (pw_or1 (pt_cmpR op_ne (pe_callB call_len_seq (by rfl) T.n_len (by decide +kernel) (pa_cons (pe_fld (pv 1) rfl) pa_nil)) (pv 3) (nomark _))))) (pss_one (ps_ret pe_bl)) pss_nil)
      (pss_cons (ps_if (pt_cmpR op_notN (pe_call G_first_strayI (hr.mono (by decide)) rfl T.mg_first_stray T.F_first_stray.kp T.b_first_stray .nil pass0 (pa_cons (pe_listRg rfl (by rfl) T.n_list (prg_1 (by rfl) T.n_range (pe_callB (show CallR _ _ (rLenOwn A.C_Table _ _) from call_lenOwn G_Table_len T.b_Table_len pass0 (hr.mono (by decide)) T.m_Table_len.at_ T.m_Table_len.fn) (by rfl) T.n_len (by decide +kernel) (pa_cons (pv 0) pa_nil)))) (pa_cons (pe_fld (pv 1) rfl) pa_nil))) pe_non (nomark _)) (pss_one (ps_ret pe_bl)) pss_nil)
      (pss_cons (ps_if (pt_cmpR op_notN (pe_call G_first_strayT (hr.mono (by decide)) rfl T.mg_first_stray T.F_first_stray.kp T.b_first_stray .nil pass0 (pa_cons (pe_fld (pv 0) rfl) (pa_cons (pe_fld (pv 1) rfl) pa_nil))) pe_non (nomark _)) (pss_one (ps_ret pe_bl)) pss_nil)
      (pss_one (ps_ret (pe_callB (cr_all rfl) (by rfl) T.n_all (by decide +kernel) (pa_cons (pe_lc (own := [("number", 4), ("row", 5)]) (g := gTup K 2 (gCons (gName 4) (gCons (gName 5) gNil))) (tt := tYes) rfl sc_lies_in.nd (pi_zipM (by rfl) T.n_zip (pa_cons (pe_fld (pv 1) rfl) (pa_cons (pv 2) pa_nil))) (blkOk_by (N := ["table", "pattern", "rows", "width", "number", "row"]) (sc := defScope s_lies_in) (by decide +kernel)) (fun _ _ _ _ _ => (pg_tup (by rfl) (pgs_cons (pg_name (i := 4) sc_lies_in.nd rfl (Or.inl rfl)) (pgs_cons (pg_name (i := 5) sc_lies_in.nd rfl (Or.inl rfl)) pgs_nil)))) (fun _ _ _ _ _ => pts_nil) (fun _ _ _ _ _ => (pe_call G_is_alike (hr.mono (by decide)) rfl T.mg_is_alike T.F_is_alike.kp T.b_is_alike .nil pass0 (pa_cons (pe_ixOwn G_Table_getitem T.b_Table_getitem passS0 (hr.mono (by decide)) T.m_Table_getitem.at_ (fnIn_of T.F_Table_getitem) T.m_Table_getitem.fn (pv 0) (pv 4) (fun _ _ => by with_unfolding_all rfl)) (pa_cons (show PE _ _ (tFld K _ "columns") from pe_fld (pv 1) rfl) (pa_cons (pv 5) pa_nil)))))) pa_nil)))))))), ?_⟩
    obtain ⟨dp, rt, ct, h1, hrt, hct⟩ := id hP
    have no : okKS k s = false → ∀ H', Same H H' → Q (.bl false) H' := fun h H' s' => by
      have := kk H' s'
      unfold liesB at this
      rw [h] at this; exact this
    refine ⟨_, rfl, _, _, _, _, _, rfl, h1, T.cl_Pattern, T.n_Pattern_kind, fldsP_kind _ _ _ _, _, rfl, _, _, _, _, _, rfl, h1, T.cl_Pattern, T.n_Pattern_size, fldsP_size _ _ _ _, k, s, rfl, mk, ms, fun hok D ts H1 s1 hD hts => ?_, fun hf d H' s' => ?_⟩
    · have h1 := s1 _ _ h1
      refine ⟨_, rfl, _, _, _, _, _, rfl, h1, T.cl_Pattern, T.n_Pattern_kind, fldsP_kind _ _ _ _, _, rfl, _, _, _, _, _, rfl, h1, T.cl_Pattern, T.n_Pattern_size, fldsP_size _ _ _ _, k, s, rfl, mk, ms, fun _ H2 s2 => ?_, fun hf => by rw [hok] at hf; cases hf⟩
      have h1 := s2 _ _ h1
      have s12 := s1.trans s2
      have hrt := s12 _ _ hrt
      have hct := s12 _ _ hct
      have hD := s2 _ _ hD
      have hts := hts.imp (sq' := SqT K) (H' := H2) fun u x q => s2.tup q
      have hT := hT.same s12
      have lt : (ts.map V.ref).length = (stdR k s).length := by rw [List.length_map, hts.len]
      have no2 : (decide (xs.length = (stdR k s).length ∧ (ys.length : Int) = w2 k s) && (okNums (places rs.length) xs && ((stray cs ys).isNone && (List.range xs.length).all (rowAlike cs rs k s xs ys)))) = false → ∀ H', Same H H' → Q (.bl false) H' := fun h H' s' => by
        have := kk H' s'
        unfold liesB at this
        rw [h, Bool.and_false] at this; exact this
      refine ⟨_, rfl, _, _, _, _, _, rfl, h1, T.cl_Pattern, T.n_Pattern_rows, fldsP_rows _ _ _ _, rt, _, rfl, .inr (SqT.of hrt), _, rfl, D, _, rfl, .inl (SqL.of hD), rfl, _, rfl, ?_⟩
      by_cases hl1 : xs.length = (stdR k s).length
      · refine ifF (by rw [decide_eq_true (by rw [ivs_len, lt, hl1])]; rfl) ⟨_, rfl, _, _, _, _, _, rfl, h1, T.cl_Pattern, T.n_Pattern_columns, fldsP_columns _ _ _ _, ct, _, rfl, .inr (SqT.of hct), _, rfl, rfl, _, rfl, ?_⟩
        by_cases hl2 : (ys.length : Int) = w2 k s
        · refine ifF (by rw [decide_eq_true (by rw [len_sv, hl2])]; rfl) ?_
          obtain ⟨dt, ct2, rt2, tts, ht1, htc, htr, hrows⟩ := id hT
          refine ⟨_, rfl, t, dt, _, rfl, ht1, t, cs, rs, rfl, hT, rs.length, rfl, by omega, ?_⟩
          refine ⟨_, rfl, RgOk.of_le (by omega) (by omega) (by omega) (by omega), fun PL nPL => ?_⟩
          generalize hG : upd H2 PL _ = H3
          have q3 : Same H2 H3 := hG ▸ same_new nPL
          have x3 := (congrFun hG PL).symm.trans upd_same
          clear hG
          have x3 : H3 PL = some (.lst (ivs (places rs.length))) := by rw [← rgV_places]; exact x3
          have s13 := s12.trans q3
          have h1 := q3 _ _ h1
          have hrt := q3 _ _ hrt
          have hct := q3 _ _ hct
          refine ⟨_, rfl, _, _, _, _, _, rfl, h1, T.cl_Pattern, T.n_Pattern_rows, fldsP_rows _ _ _ _, PL, rt, places rs.length, xs, rfl, SqL.of x3, SqT.of hrt, hxl, fun hon H4 s4 => ⟨rfl, _, rfl, itNe rfl ?_⟩, fun hoff i H4 s4 => ⟨rfl, _, rfl, ifT rfl (no2 (by rw [hoff, Bool.false_and, Bool.and_false]) _ (s13.trans s4))⟩⟩
          have h1 := s4 _ _ h1
          have hrt := s4 _ _ hrt
          have hct := s4 _ _ hct
          have q24 := q3.trans s4
          have ht1 := q24 _ _ ht1
          have htc := q24 _ _ htc
          have hD := q24 _ _ hD
          have hts := hts.imp (sq' := SqT K) (H' := H4) fun u x q => q24.tup q
          have hT := hT.same q24
          have s14 := s13.trans s4
          refine ⟨_, rfl, _, _, _, _, _, rfl, ht1, T.cl_Table, T.n_Table_columns, fldsT_columns _ _, _, rfl, _, _, _, _, _, rfl, h1, T.cl_Pattern, T.n_Pattern_columns, fldsP_columns _ _ _ _, ct2, ct, cs, ys, rfl, .inr (SqT.of htc), .inr (SqT.of hct), hyl, fun H5 s5 => ?_⟩
          have s15 := s14.trans s5
          cases hst : stray cs ys with
          | some i => exact ⟨rfl, _, rfl, ifT rfl (no2 (by rw [hst]; show (_ && (_ && false)) = false; rw [Bool.and_false, Bool.and_false]) _ s15)⟩
          | none =>
          refine ⟨rfl, _, rfl, itNe rfl ?_⟩
          have fin : liesB cs rs k s xs ys = (List.range xs.length).all (rowAlike cs rs k s xs ys) := by
            unfold liesB
            rw [hok, hon, hst, decide_eq_true ⟨hl1, hl2⟩]; rfl
          rw [fin] at kk
          have h1 := s5 _ _ h1
          have hrt := s5 _ _ hrt
          have hct := s5 _ _ hct
          have hD := s5 _ _ hD
          have hts := hts.imp (sq' := SqT K) (H' := H5) fun u x q => s5.tup q
          have hT := hT.same s5
          obtain ⟨dt, ct2, rt2, tts, ht1, htc, htr, hrows⟩ := id hT
          have hon2 : ∀ x ∈ xs, x ∈ places rs.length := by
            unfold okNums at hon
            rw [Bool.and_eq_true, decide_eq_true_iff] at hon
            exact hon.1
          refine ⟨_, rfl, _, _, _, _, _, rfl, h1, T.cl_Pattern, T.n_Pattern_rows, fldsP_rows _ _ _ _, _, rfl, rt, D, ivs xs, ts.map V.ref, rfl, SqT.of hrt, SqL.of hD, fun D2 nD2 => lc_it (walk_zipM (n := xs.length) (by rw [ivs_len, lt, hl1, Nat.min_self])) (fun i G => Same H5 G ∧ G D2 = some (.lst (bvs ((List.range i).map (rowAlike cs rs k s xs ys))))) ⟨same_new nD2, upd_same⟩ (fun i G _ q => ⟨q.1.tup (SqT.of hrt), q.1.seq (SqL.of hD)⟩) ?_ ?_⟩
          · rintro i x G G9 hi ⟨sG, hD2⟩ ⟨tp, x1, y1, rfl, ntp, rfl, hx1, hy1⟩
            have hx1 : (ivs xs)[i]? = some x1 := hx1
            have hy1 : (ts.map V.ref)[i]? = some y1 := hy1
            obtain ⟨z, hz, rfl⟩ := ivs_get hx1
            obtain ⟨u, hu, rfl⟩ := refs_get hy1
            obtain ⟨row, hrow, hur⟩ := hts.get hu
            obtain ⟨z0, z1⟩ := mem_places.mp (hon2 z (List.mem_of_getElem? hz))
            generalize hG : upd G tp _ = G2
            have q2 : Same G G2 := hG ▸ same_new ntp
            have x2 := (congrFun hG tp).symm.trans upd_same
            clear hG
            have sG2 := sG.trans q2
            have ei : z = ((z.toNat : Nat) : Int) := by omega
            refine ⟨tp, _, rfl, SqT.of x2, rfl, _, _, rfl, _, _, rfl, rfl, rfl, ?_⟩
            refine ⟨_, rfl, _, rfl, t, dt, _, rfl, sG2 _ _ ht1, t, z.toNat, cs, rs, by rw [← ei], hT.same sG2, by omega, fun a r hr3 ha => ?_⟩
            have h1 := sG2 _ _ h1
            refine ⟨_, rfl, _, _, _, _, _, rfl, h1, T.cl_Pattern, T.n_Pattern_columns, fldsP_columns _ _ _ _, _, rfl, a, ct, u, canon cs r, ys, row, rfl, SqT.of ha, SqT.of (sG2 _ _ hct), sG2.tup hur, hyl, fun H6 s6 => ?_⟩
            have hD6 := s6 _ _ (q2 _ _ hD2)
            refine ⟨_, hD6, small_int (by rw [List.length_map, List.length_map, List.length_range]; omega), fun b o e => by rw [upd_ne (ne_of_none e nD2)]; exact s6 _ _ (sG2 _ _ e), ?_⟩
            rw [upd_same]
            have ea : alike (canon cs r) ys row = rowAlike cs rs k s xs ys i := by
              unfold rowAlike
              rw [show xs.getD i 0 = z by rw [List.getD_eq_getElem?_getD, hz]; rfl, show rs.getD z.toNat [] = r by rw [List.getD_eq_getElem?_getD, hr3]; rfl, show (stdR k s).getD i [] = row by rw [List.getD_eq_getElem?_getD, hrow]; rfl]
            rw [ea, List.range_succ, List.map_append]
            unfold bvs
            rw [List.map_append]; rfl
          rintro H6 ⟨s6, hD6⟩
          refine ⟨D2, (List.range xs.length).map (rowAlike cs rs k s xs ys), rfl, SqL.of hD6, ?_⟩
          rw [List.all_map]
          exact kk H6 (s15.trans s6)
        · refine ifT (by rw [decide_eq_false (by rw [len_sv]; exact fun z => hl2 (V.int.inj z))]; rfl) (no2 (by rw [decide_eq_false (fun z => hl2 z.2)]; rfl) _ s12)
      · refine ifT (by rw [decide_eq_false (by rw [ivs_len, lt]; exact fun z => hl1 (by have := V.int.inj z; omega))]; rfl) (ifT rfl (no2 (by rw [decide_eq_false (fun z => hl1 z.1)]; rfl) _ s12))
    · refine ⟨true, exm_self T.bp_BadKind T.ic_BadKind T.tp_BadKind T.ss_BadKind, fun _ e he => ?_, fun q => nomatch q⟩
      exact no hf _ s'
end
end My
set_option maxRecDepth 100000
set_option maxHeartbeats 4000000
set_option exponentiation.threshold 10000
namespace My
open PySem L2
abbrev fv {α : Type} (f : α → V) (l : List α) : List V := l.map f
section
variable {α : Type} {f : α → V}
theorem fv_len (l : List α) : (fv f l).length = l.length := List.length_map ..
theorem fv_take (l : List α) (k : Nat) : (fv f l).take k = fv f (l.take k) := List.map_take.symm
theorem fv_drop (l : List α) (k : Nat) : (fv f l).drop k = fv f (l.drop k) := List.map_drop.symm
theorem fv_app (a b : List α) : fv f a ++ fv f b = fv f (a ++ b) := List.map_append.symm
theorem fv_snoc (l : List α) (x : α) : fv f (l ++ [x]) = fv f l ++ [f x] := List.map_append
end
theorem sv_snoc' (l : List Str) (x : Str) : sv (l ++ [x]) = sv l ++ [V.str x] := List.map_append
def spCell (K : PySem.W.Frag) : Sp := fun vs H Q _ => ∃ (a : Addr) (ns : List Int) (k : Int), vs = [.ref a, .int k] ∧ SqL K H a (ns.map V.int) ∧ 0 ≤ k ∧ ∀ z, Q (.int z) H
def spPool (K : PySem.W.Frag) : Sp := fun vs H Q _ => ∃ (a : Addr) (ns : List Int) (k c : Int), vs = [.ref a, .int k, .int c] ∧ SqL K H a (ns.map V.int) ∧ 0 ≤ k ∧ 0 ≤ c ∧ c ≤ 1000 ∧
  ∀ p ps H', Same H H' → H' p = some (.lst (ps.map V.int)) → (ps.length : Int) = c → Pool ps → Q (.ref p) H'
section
variable {P : Program} {w : World} {K : PySem.W.Frag} {mg : Str → Option Value} {base : Heap} {A : Ad}
theorem ok_cell (T : Txt P K mg A) : FnOk P w K mg base CX0 1 A.a_law_cell A.d_law_cell ["script", "k"] (spCell K) := by
  refine T.F_law_cell.ok sc_law_cell (fun vs H Q E h => ?_) (fun cdv A' outer s H vs Q E hr h => ?_)
  · obtain ⟨a, ns, k, rfl, _⟩ := h
    rfl
  · obtain ⟨a, ns, i, rfl, hS, h0, k⟩ := h
    refine ⟨_, (pss_cons (ps_if (pt_cmpR op_lt (pv 1) (pe_callB call_len_seq (by rfl) T.n_len (by decide +kernel) (pa_cons (pv 0) pa_nil)) (nomark _)) (pss_one (ps_ret (pe_ix ix_list (pv 0) (pv 1) (fun _ _ => rfl)))) pss_nil)
      (pss_one (ps_ret pe_int))), ?_⟩
    refine ⟨_, rfl, _, rfl, _, _, rfl, .inl hS, _, _, rfl, rfl, _, rfl, ?_⟩
    by_cases hi : i < ((ns.map V.int).length : Int)
    · refine itY hi ?_
      obtain ⟨v, hv, e⟩ := atI_ok (xs := ns) h0 (by rw [len_map_int] at hi; exact hi)
      exact ⟨_, rfl, _, rfl, _, _, _, _, rfl, rfl, hS, e, k v⟩
    · refine itN hi ?_
      exact k 0
theorem ok_pool (T : Txt P K mg A) : FnOk P w K mg base CX0 2 A.a_law_pool A.d_law_pool ["script", "k", "count"] (spPool K) := by
  have G_law_cell : FnOk P w K mg base CX0 1 A.a_law_cell A.d_law_cell ["script", "k"] (spCell K) := ok_cell T
  refine T.F_law_pool.ok sc_law_pool (fun vs H Q E h => ?_) (fun cdv A' outer s H vs Q E hr h => ?_)
  · obtain ⟨a, ns, k, c, rfl, _⟩ := h
    rfl
  · obtain ⟨a, ns, i, c, rfl, hS, h0, hc0, hc, k⟩ := h
    refine ⟨_, (pss_cons (ps_set (i := 3) sc_law_pool.nd rfl (Or.inl rfl) (pe_callB call_abs (by rfl) T.n_abs (by decide +kernel) (pa_cons (pe_call G_law_cell (hr.mono (by decide)) rfl T.mg_law_cell T.F_law_cell.kp T.b_law_cell .nil pass0 (pa_cons (pv 0) (pa_cons (pv 1) pa_nil))) pa_nil)))
      (pss_cons (ps_set (i := 4) sc_law_pool.nd rfl (Or.inl rfl) (pe_lst pa_nil))
      (pss_cons (ps_if (pt_cmpR op_ge (pv 3) (pe_op op_pow pe_int pe_int) (nomark _)) (pss_cons (ps_set (i := 3) sc_law_pool.nd rfl (Or.inl rfl) (pe_op op_sub (pv 3) (pe_op op_pow pe_int pe_int)))
      (pss_cons (ps_for PassesOwn.never rfl (pi_range1 (by rfl) T.n_range (pa_cons (pv 2) pa_nil)) (pg_name (i := 5) sc_law_pool.nd rfl (Or.inl rfl))
        (pss_cons (ps_expr (pe_bm PySem.F.plainAttrs_list PySem.F.slot_list_append PySem.F.type_list_append mt_append (pv 4) (pa_cons (pe_op op_mod (pe_callTy call_int1 (by rfl) T.n_int (by decide +kernel) (pa_cons (pv 3) pa_nil)) pe_int) pa_nil)))
      (pss_one (ps_set (i := 3) sc_law_pool.nd rfl (Or.inl rfl) (pe_op op_fdiv (pv 3) pe_int)))))
      (pss_one (ps_ret (pv 4))))) pss_nil)
      (pss_cons (ps_for PassesOwn.never rfl (pi_range1 (by rfl) T.n_range (pa_cons (pv 2) pa_nil)) (pg_name (i := 5) sc_law_pool.nd rfl (Or.inl rfl))
        (pss_cons (ps_set (i := 6) sc_law_pool.nd rfl (Or.inl rfl) (pe_op op_mod (pe_callTy call_int1 (by rfl) T.n_int (by decide +kernel) (pa_cons (pe_op op_add (pe_op op_add (pe_op op_add (pe_op op_mul (pv 3) pe_int) (pe_op op_mul (pe_op op_add (pv 5) pe_int) pe_int)) (pe_op op_mul (pv 1) pe_int)) pe_int) pa_nil)) pe_int))
      (pss_cons (ps_set (i := 7) sc_law_pool.nd rfl (Or.inl rfl) (pe_op op_mod (pe_callTy call_int1 (by rfl) T.n_int (by decide +kernel) (pa_cons (pe_op op_add (pe_op op_add (pe_op op_mulW (pv 6) (pv 6)) (pe_op op_mul (pv 3) pe_int)) (pv 5)) pa_nil)) pe_int))
      (pss_cons (ps_set (i := 8) sc_law_pool.nd rfl (Or.inl rfl) (pe_op op_mod (pe_callTy call_int1 (by rfl) T.n_int (by decide +kernel) (pa_cons (pe_op op_add (pe_op op_mulW (pv 7) (pv 7)) (pv 6)) pa_nil)) pe_int))
      (pss_one (ps_expr (pe_bm PySem.F.plainAttrs_list PySem.F.slot_list_append PySem.F.type_list_append mt_append (pv 4) (pa_cons (pe_op op_mod (pe_callTy call_int1 (by rfl) T.n_int (by decide +kernel) (pa_cons (pe_op op_fdiv (pv 8) pe_int) pa_nil)) pe_int) pa_nil))))))))
      (pss_one (ps_ret (pv 4))))))), ?_⟩
    refine ⟨_, rfl, _, rfl, a, ns, i, rfl, hS, h0, fun z => ⟨_, rfl, ?_⟩⟩
    refine ⟨by show 0 ≤ sizeLine; decide, fun l hl => ?_⟩
    refine ⟨_, rfl, _, _, rfl, rfl, ⟨by decide, by decide, by decide⟩, _, _, rfl, rfl, _, rfl, ?_⟩
    have fin : ∀ ps : List Int, ps.length = c.toNat → Pool ps → Q (.ref l) (upd H l (.lst (ps.map V.int))) := fun ps h1 h2 => k l ps _ (same_new hl) upd_same (by omega) h2
    refine ite2 (fun hb => ?_) (fun hb => ?_)
    · refine ⟨_, rfl, _, _, rfl, rfl, ⟨by decide, by decide, by decide⟩, _, _, rfl, rfl, ?_⟩
      refine ⟨_, rfl, c, rfl, by omega, by omega, for_range (n := c.toNat) (fun j σ H2 => ∃ (v : Int) (ps : List Int) (u : Option V), σ = [some (.ref a), some (.int i), some (.int c), some (.int v), some (.ref l), u, none, none, none] ∧
        H2 = upd H l (.lst (ps.map V.int)) ∧ ps.length = j ∧ Pool ps) ⟨_, [], none, rfl, rfl, rfl, Pool.nil⟩ ?_ ?_⟩
      · rintro j σ H2 hj ⟨v, ps, u, rfl, rfl, hl2, hp⟩
        refine ⟨_, rfl, .inl ⟨rfl, _, SqL.of upd_same⟩, _, rfl, .inl ⟨_, rfl, ?_⟩⟩
        refine ⟨_, _, rfl, rfl, by show (0 : Int) < 27720; decide, l, _, _, rfl, rfl, upd_same, small_int (by rw [len_map_int]; omega), ?_⟩
        refine ⟨_, rfl, _, _, rfl, rfl, ⟨by decide, by decide⟩, ?_⟩
        refine ⟨_, ps ++ [v % 27720], _, rfl, ?_, by simp [hl2], hp.app (Int.emod_nonneg _ (by decide)) (Int.emod_lt_of_pos _ (by decide))⟩
        rw [upd_upd, List.map_append]
        rfl
      · rintro σ H2 ⟨v, ps, u, rfl, rfl, hl2, hp⟩
        exact ⟨_, rfl, fin ps hl2 hp⟩
    · refine ⟨_, rfl, c, rfl, by omega, by omega, for_range (n := c.toNat) (fun j σ H2 => ∃ (v : Int) (ps : List Int) (u u1 u2 u3 : Option V), σ = [some (.ref a), some (.int i), some (.int c), some (.int v), some (.ref l), u, u1, u2, u3] ∧
        H2 = upd H l (.lst (ps.map V.int)) ∧ ps.length = j ∧ Pool ps) ⟨_, [], none, none, none, none, rfl, rfl, rfl, Pool.nil⟩ ?_ ?_⟩
      · rintro j σ H2 hj ⟨v, ps, u, u1, u2, u3, rfl, rfl, hl2, hp⟩
        refine ⟨_, rfl, _, _, rfl, rfl, .inr (by decide), _, rfl, _, _, rfl, rfl, _, _, rfl, rfl, .inr (by decide), _, _, rfl, rfl, _, rfl, _, _, rfl, rfl, .inr (by decide), _, _, rfl, rfl, _, _, rfl, rfl, .inl ⟨_, rfl, _, _, rfl, rfl, by show (0 : Int) < 2147483647; decide, ?_⟩⟩
        refine ⟨_, rfl, _, rfl, _, _, rfl, rfl, mulW (mod_sz (by decide) (by decide)) (mod_sz (by decide) (by decide)), _, rfl, _, _, rfl, rfl, .inr (by decide), _, _, rfl, rfl, _, rfl, _, _, rfl, rfl, .inl ⟨_, rfl, _, _, rfl, rfl, by show (0 : Int) < 2147483629; decide, ?_⟩⟩
        refine ⟨_, rfl, _, rfl, _, _, rfl, rfl, mulW (mod_sz (by decide) (by decide)) (mod_sz (by decide) (by decide)), _, rfl, _, _, rfl, rfl, .inl ⟨_, rfl, _, _, rfl, rfl, by show (0 : Int) < 2147483587; decide, ?_⟩⟩
        refine ⟨_, rfl, .inl ⟨rfl, _, SqL.of upd_same⟩, _, rfl, _, _, rfl, rfl, ⟨by decide, by decide⟩, .inl ⟨_, rfl, ?_⟩⟩
        refine ⟨_, _, rfl, rfl, by show (0 : Int) < 27720; decide, l, _, _, rfl, rfl, upd_same, small_int (by rw [len_map_int]; omega), ?_⟩
        exact ⟨_, ps ++ [_], _, _, _, _, rfl, upd_app, by simp [hl2], hp.app (Int.emod_nonneg _ (by decide)) (Int.emod_lt_of_pos _ (by decide))⟩
      · rintro σ H2 ⟨v, ps, u, u1, u2, u3, rfl, rfl, hl2, hp⟩
        exact ⟨_, rfl, fin ps hl2 hp⟩
def spOrderF {α : Type} (f : α → V) (K : PySem.W.Frag) : Sp := fun vs H Q _ => ∃ (n p : Addr) (ns : List α) (ps : List Int) (st : Int), vs = [.ref n, .ref p, .int st] ∧ SqL K H n (fv f ns) ∧ SqL K H p (ps.map V.int) ∧ ns.length ≤ 30 ∧ 0 ≤ st ∧ st + ns.length ≤ ps.length ∧ ∀ a os H', Same H H' → H a = none → H' a = some (.lst (fv f os)) → os.Perm ns → Q (.ref a) H'
theorem ok_orderF {α : Type} (f : α → V) (T : Txt P K mg A) : FnOk P w K mg base CX0 1 A.a_law_order A.d_law_order ["names", "pool", "start"] (spOrderF f K) := by
  refine T.F_law_order.ok sc_law_order (fun vs H Q E h => ?_) (fun cdv A' outer s H vs Q E hr h => ?_)
  · obtain ⟨n, p, ns, ps, st, rfl, _⟩ := h
    rfl
  · obtain ⟨n, p, ns, ps, st, rfl, hN, hP, hnl, hst, hpl, k⟩ := h
    refine ⟨_, (pss_cons (ps_set (i := 3) sc_law_order.nd rfl (Or.inl rfl) (pe_callTy (show CallR _ _ (rListOf K) from call_list_of) (by rfl) T.n_list (by decide +kernel) (pa_cons (pv 0) pa_nil)))
      (pss_cons (ps_set (i := 4) sc_law_order.nd rfl (Or.inl rfl) (pe_lst pa_nil))
      (pss_cons (ps_for PassesOwn.never rfl (pi_range1 (by rfl) T.n_range (pa_cons (pe_callB call_len_seq (by rfl) T.n_len (by decide +kernel) (pa_cons (pv 0) pa_nil)) pa_nil)) (pg_name (i := 5) sc_law_order.nd rfl (Or.inl rfl))
        (pss_cons (ps_set (i := 6) sc_law_order.nd rfl (Or.inl rfl) (pe_op op_mod (pe_callTy call_int1 (by rfl) T.n_int (by decide +kernel) (pa_cons (pe_ix ix_list (pv 1) (pe_op op_add (pv 2) (pv 5)) (fun _ _ => rfl)) pa_nil)) (pe_callB call_len_seq (by rfl) T.n_len (by decide +kernel) (pa_cons (pv 3) pa_nil))))
      (pss_cons (ps_expr (pe_bm PySem.F.plainAttrs_list PySem.F.slot_list_append PySem.F.type_list_append mt_append (pv 4) (pa_cons (pe_ix ix_list (pv 3) (pv 6) (fun _ _ => rfl)) pa_nil)))
      (pss_one (ps_set (i := 3) sc_law_order.nd rfl (Or.inl rfl) (pe_op op_cat (pe_slice sl_list (pv 3) po_none (po_some (pv 6))) (pe_slice sl_list (pv 3) (po_some (pe_op op_add (pv 6) pe_int)) po_none)))))))
      (pss_one (ps_ret (pv 4)))))), ?_⟩
    refine ⟨_, rfl, n, _, rfl, .inl hN, fun l0 hl0 => ?_⟩
    have s1 := same_new (o := .lst (fv f ns)) hl0
    refine ⟨by show 0 ≤ sizeLine; decide, fun o ho => ?_⟩
    have s2 := s1.trans (same_new (o := .lst []) ho)
    have ho' : H o = none := none_of s1 ho
    have hl1 : upd (upd H l0 (.lst (fv f ns))) o (.lst []) l0 = some (.lst (fv f ns)) := by rw [upd_ne (ne_of_none upd_same ho)]; exact upd_same
    refine ⟨_, rfl, n, _, rfl, .inl (s2.seq hN), _, rfl, by rw [fv_len]; omega, by rw [fv_len]; omega, ?_⟩
    have e1 : (((fv f ns).length : Nat) : Int).toNat = ns.length := by rw [fv_len, Int.toNat_natCast]
    refine for_range (n := (((fv f ns).length : Nat) : Int).toNat) (fun i σ H2 => Same H H2 ∧ ∃ (l : Addr) (ls os : List α) (u1 u2 : Option V), σ = [some (.ref n), some (.ref p), some (.int st), some (.ref l), some (.ref o), u1, u2] ∧ H l = none ∧ l ≠ o ∧ H2 l = some (.lst (fv f ls)) ∧ H2 o = some (.lst (fv f os)) ∧ (os ++ ls).Perm ns ∧ os.length = i)
      ⟨s2, l0, ns, [], none, none, rfl, hl0, ne_of_none upd_same ho, hl1, upd_same, .refl _, rfl⟩ ?_ ?_
    · rintro i σ H2 hi ⟨sm, l, ls, os, u1, u2, rfl, hl, hlo, h2, h3, hp, hi2⟩
      rw [e1] at hi
      have hlen := hp.length_eq
      rw [List.length_append] at hlen
      have hls : 0 < ls.length := by omega
      obtain ⟨v, hv, e⟩ := atI_ok (xs := ps) (j := st + (0 + (i : Int))) (by omega) (by omega)
      have hd : (0 : Int) < ((fv f ls).length : Nat) := by rw [fv_len]; omega
      have m0 := Int.emod_nonneg v (Int.ne_of_gt hd)
      have m1 := Int.emod_lt_of_pos v hd
      refine ⟨_, rfl, _, rfl, _, rfl, _, _, rfl, rfl, p, _, _, _, rfl, rfl, sm.seq hP, e, .inl ⟨_, rfl, _, rfl, l, _, rfl, .inl (SqL.of h2), _, _, rfl, rfl, hd, ?_⟩⟩
      obtain ⟨j, hj⟩ := Int.eq_ofNat_of_zero_le m0
      rw [hj] at m1
      rw [fv_len] at m1
      have hj2 : j < ls.length := by omega
      have hz : ls[j]? = some ls[j] := List.getElem?_eq_getElem hj2
      have ej : atI (fv f ls) (j : Int) = some (f ls[j]) := atI_nat (by rw [List.getElem?_map, hz]; rfl)
      refine ⟨_, rfl, .inl ⟨rfl, _, SqL.of h3⟩, _, rfl, _, rfl, l, _, _, _, rfl, rfl, SqL.of h2, by rw [hj]; exact ej, o, _, _, rfl, rfl, h3, small_int (by rw [fv_len]; omega), ?_⟩
      have hlo2 : upd H2 o (.lst (fv f os ++ [f ls[j]])) l = some (.lst (fv f ls)) := by rw [upd_ne hlo]; exact h2
      refine ⟨_, rfl, _, rfl, _, rfl, l, _, rfl, SqL.of hlo2, fun a ha => ?_⟩
      have hla : l ≠ a := ne_of_none hlo2 ha
      refine ⟨_, rfl, _, rfl, _, _, rfl, rfl, _, rfl, l, _, rfl, SqL.of (by rw [upd_ne hla]; exact hlo2), fun b hb => ?_⟩
      have ha2 : a ≠ b := ne_of_none upd_same hb
      refine ⟨a, b, _, _, rfl, rfl, by rw [upd_ne ha2]; exact upd_same, upd_same, ?_, fun c hc => ?_⟩
      · rw [hj, show ((j : Int) + 1) = ((j + 1 : Nat) : Int) by omega, cut_take (by rw [fv_len]; omega), cut_drop (by rw [fv_len]; omega)]
        have := fv_len (f := f) ls
        refine Nat.le_trans (m := 80) ?_ (by decide)
        rw [List.length_take, List.length_drop]; omega
      · rw [hj, cut_take (by rw [fv_len]; omega), fv_take] at hb
        rw [hj, show ((j : Int) + 1) = ((j + 1 : Nat) : Int) by omega] at hc ⊢
        rw [cut_take (by rw [fv_len]; omega), cut_drop (by rw [fv_len]; omega), fv_take, fv_drop] at hc ⊢
        rw [fv_app]
        have ob : o ≠ b := ne_of_none (show upd (upd H2 o _) a _ o = some _ by rw [upd_ne (ne_of_none upd_same ha)]; exact upd_same) hb
        have oa : o ≠ a := ne_of_none upd_same ha
        have oc : o ≠ c := ne_of_none (show upd (upd (upd H2 o _) a _) b _ o = some _ by rw [upd_ne ob, upd_ne oa]; exact upd_same) hc
        have sX : ∀ (x : Addr) (u : HO), H x = some u → upd (upd (upd H2 o (.lst (fv f os ++ [f ls[j]]))) a (.lst (fv f (ls.take j)))) b (.lst (fv f (ls.drop (j + 1)))) x = some u := fun x u hx => by
          have e2 := sm x u hx
          have e3 : upd H2 o (.lst (fv f os ++ [f ls[j]])) x = some u := by
            rw [upd_ne (fun z => by rw [z, ho'] at hx; cases hx)]; exact e2
          have e4 : upd (upd H2 o (.lst (fv f os ++ [f ls[j]]))) a (.lst (fv f (ls.take j))) x = some u := by rw [upd_ne (ne_of_none e3 ha)]; exact e3
          rw [upd_ne (ne_of_none e4 hb)]; exact e4
        refine ⟨fun x u hx => ?_, c, ls.take j ++ ls.drop (j + 1), os ++ [ls[j]], _, _, rfl, ?_, oc.symm, upd_same, ?_, ?_, ?_⟩
        · rw [upd_ne (ne_of_none (sX x u hx) hc)]; exact sX x u hx
        · cases e : H c with
          | none => rfl
          | some u => rw [sX _ _ e] at hc; cases hc
        · rw [upd_ne oc, upd_ne ob, upd_ne oa, upd_same, fv_snoc]
        · have := perm_pick hz
          rw [List.append_assoc, List.singleton_append]
          exact ((this.append_left os)).trans hp
        · rw [List.length_append, hi2]; rfl
    · rintro σ H2 ⟨sm, l, ls, os, u1, u2, rfl, hl, hlo, h2, h3, hp, hi2⟩
      rw [e1] at hi2
      have hlen := hp.length_eq
      rw [List.length_append] at hlen
      have : ls = [] := List.length_eq_zero_iff.mp (by omega)
      rw [this, List.append_nil] at hp
      exact ⟨_, rfl, k o os H2 sm ho' h3 hp⟩
def spRow (K : PySem.W.Frag) : Sp := fun vs H Q _ => ∃ (n h : Addr) (cs hs : List Str) (d : Int) (free : Bool), vs = [.ref n, .ref h, .int d, .bl free] ∧ SqL K H n (sv cs) ∧ SqL K H h (sv hs) ∧ cs.Nodup ∧ cs.length ≤ 12 ∧ hs.Perm cs ∧
  ∀ r ms H', Same H H' → H r = none → H' r = some (.lst (sv ms)) → RowOk cs ms → Q (.ref r) H'
theorem ok_row (T : Txt P K mg A) : FnOk P w K mg base CX0 1 A.a_law_row A.d_law_row ["names", "hidden", "draw", "free"] (spRow K) := by
  refine T.F_law_row.ok sc_law_row (fun vs H Q E h => ?_) (fun cdv A' outer s H vs Q E hr h => ?_)
  · obtain ⟨n, h, cs, hs, d, free, rfl, _⟩ := h
    rfl
  · obtain ⟨n, h, cs, hs, d, free, rfl, hN, hH, nd, hcl, hp, k⟩ := h
    refine ⟨_, (pss_cons (ps_set (i := 4) sc_law_row.nd rfl (Or.inl rfl) (pe_lst pa_nil))
      (pss_cons (ps_if (pt_val (pv 3)) (pss_cons (ps_for PassesOwn.never rfl (pi_list (pv 0)) (pg_name (i := 5) sc_law_row.nd rfl (Or.inl rfl))
        (pss_cons (ps_if (pt_cmpR op_eq (pe_op op_mod (pe_callTy call_int1 (by rfl) T.n_int (by decide +kernel) (pa_cons (pv 2) pa_nil)) pe_int) pe_int (nomark _)) (pss_one (ps_expr (pe_bm PySem.F.plainAttrs_list PySem.F.slot_list_append PySem.F.type_list_append mt_append (pv 4) (pa_cons (pv 5) pa_nil)))) pss_nil)
      (pss_one (ps_set (i := 2) sc_law_row.nd rfl (Or.inl rfl) (pe_op op_fdiv (pv 2) pe_int)))))
      (pss_one (ps_ret (pv 4)))) pss_nil)
      (pss_cons (ps_set (i := 6) sc_law_row.nd rfl (Or.inl rfl) (pe_op op_add (pe_callB call_len_seq (by rfl) T.n_len (by decide +kernel) (pa_cons (pv 1) pa_nil)) pe_int))
      (pss_cons (ps_set (i := 7) sc_law_row.nd rfl (Or.inl rfl) (pe_op op_mod (pe_callTy call_int1 (by rfl) T.n_int (by decide +kernel) (pa_cons (pv 2) pa_nil)) (pv 6)))
      (pss_cons (ps_set (i := 8) sc_law_row.nd rfl (Or.inl rfl) (pe_op op_mod (pe_callTy call_int1 (by rfl) T.n_int (by decide +kernel) (pa_cons (pe_op op_fdiv (pv 2) pe_int) pa_nil)) (pv 6)))
      (pss_cons (ps_set (i := 4) sc_law_row.nd rfl (Or.inl rfl) (pe_slice sl_list (pv 1) (po_some (pv 7)) (po_some (pe_op op_add (pv 7) (pv 8)))))
      (pss_cons (ps_set (i := 9) sc_law_row.nd rfl (Or.inl rfl) (pe_op op_mod (pe_callTy call_int1 (by rfl) T.n_int (by decide +kernel) (pa_cons (pe_op op_fdiv (pv 2) pe_int) pa_nil)) (pv 6)))
      (pss_one (ps_ret (pe_op op_cat (pe_slice sl_list (pv 4) (po_some (pv 9)) po_none) (pe_slice sl_list (pv 4) po_none (po_some (pv 9))))))))))))), ?_⟩
    have hhl : hs.length ≤ 12 := by rw [hp.length_eq]; exact hcl
    refine ⟨by show 0 ≤ sizeLine; decide, fun a ha => ?_⟩
    have sa := same_new (o := .lst []) ha
    refine ⟨_, rfl, _, rfl, ?_⟩
    cases free with
    | true =>
      refine ifT rfl ?_
      refine ⟨_, rfl, n, rfl, ⟨_, sa.seq hN⟩, for_it walk_list (fun j σ H4 => Same H H4 ∧ ∃ (ys : List Str) (lf : Int) (u u1 u2 u3 u4 : Option V), σ = [some (.ref n), some (.ref h), some (.int lf), some (.bl true), some (.ref a), u, u1, u2, u3, u4] ∧ H4 a = some (.lst (sv ys)) ∧ ys.Sublist (cs.take j))
        ⟨sa, [], d, none, none, none, none, none, rfl, upd_same, List.nil_sublist _⟩ (fun j σ H4 _ q => q.1.seq hN) ?_ ?_⟩
      · rintro j x σ H40 H4 hi ⟨s4, ys, lf, u, u1, u2, u3, u4, rfl, h4, hys⟩ ⟨rfl, hx⟩
        obtain ⟨z, hz, rfl⟩ := sv_get hx
        have hyl := hys.length_le
        rw [List.length_take] at hyl
        refine ⟨_, rfl, .inl ⟨_, rfl, _, _, rfl, rfl, by show (0 : Int) < 2; decide, rfl, _, rfl, ite2 (fun hb => ?_) (fun hb => ?_)⟩⟩
        · refine ⟨_, rfl, .inl ⟨rfl, _, SqL.of h4⟩, _, rfl, a, _, _, rfl, rfl, h4, small_int (by rw [len_sv]; omega), ?_⟩
          refine ⟨_, rfl, _, _, rfl, rfl, ⟨by decide, by decide⟩, fun c' o' e => ?_, ys ++ [z], _, _, _, _, _, _, rfl, ?_, ?_⟩
          · rw [upd_ne (ne_of_none e ha)]; exact s4 _ _ e
          · rw [sv_snoc']; exact upd_same
          · rw [take_succ hz]; exact hys.append (List.Sublist.refl _)
        · refine ⟨_, rfl, _, _, rfl, rfl, ⟨by decide, by decide⟩, s4, ys, _, _, _, _, _, _, rfl, h4, ?_⟩
          rw [take_succ hz]; exact hys.trans (List.sublist_append_left _ _)
      rintro σ H4 ⟨s4, ys, lf, u, u1, u2, u3, u4, rfl, h4, hys⟩
      rw [len_sv, List.take_length] at hys
      exact ⟨_, rfl, k a ys H4 s4 ha h4 ⟨hys.nodup nd, fun y hy => hys.subset hy⟩⟩
    | false =>
      refine ifF rfl ?_
      have lp : (0 : Int) < ((sv hs).length : Int) + 1 := by omega
      refine ⟨_, rfl, h, _, rfl, .inl (sa.seq hH), _, _, rfl, rfl, ?_⟩
      refine ⟨_, rfl, .inl ⟨_, rfl, _, rfl, _, _, rfl, rfl, lp, ?_⟩⟩
      refine ⟨_, rfl, _, _, rfl, rfl, ⟨by decide, by decide⟩, .inl ⟨_, rfl, _, rfl, _, _, rfl, rfl, lp, ?_⟩⟩
      obtain ⟨zs, e, hzs⟩ := cut_sv hs (some (d % (((sv hs).length : Int) + 1))) (some (d % (((sv hs).length : Int) + 1) + d / 13 % (((sv hs).length : Int) + 1)))
      refine ⟨_, rfl, _, rfl, _, rfl, _, rfl, _, rfl, _, _, rfl, rfl, _, rfl, h, _, rfl, sa.seq hH, fun b hb => ?_⟩
      have s2 := sa.trans (same_new (o := .lst (cutV (sv hs) (some (d % (((sv hs).length : Int) + 1))) (some (d % (((sv hs).length : Int) + 1) + d / 13 % (((sv hs).length : Int) + 1))))) hb)
      rw [e] at s2
      refine ⟨_, rfl, _, _, rfl, rfl, ⟨by decide, by decide⟩, .inl ⟨_, rfl, _, rfl, _, _, rfl, rfl, lp, ?_⟩⟩
      obtain ⟨c, hc⟩ := Int.eq_ofNat_of_zero_le (Int.emod_nonneg (d / 169) (Int.ne_of_gt lp))
      have hb2 : upd (upd H a (.lst [])) b (.lst (sv zs)) b = some (.lst (sv zs)) := upd_same
      refine ⟨_, rfl, _, rfl, _, rfl, b, _, rfl, SqL.of (by rw [e]; exact hb2), fun p hp2 => ?_⟩
      have hbp : b ≠ p := ne_of_none upd_same hp2
      rw [e] at hp2
      have s3 := s2.trans (same_new (o := .lst (sv (zs.drop c))) hp2)
      refine ⟨_, rfl, _, rfl, _, rfl, b, _, rfl, SqL.of (by rw [upd_ne hbp, e]; exact hb2), fun q hq => ?_⟩
      have hpq : p ≠ q := ne_of_none upd_same hq
      rw [e, hc, cut_dropG, sv_drop] at hq
      have s4 := s3.trans (same_new (o := .lst (sv (zs.take c))) hq)
      refine ⟨p, q, _, _, rfl, rfl, by rw [upd_ne hpq]; exact upd_same, upd_same, ?_, fun t ht => ?_⟩
      · rw [hc, cut_dropG, cut_takeG]
        have := hzs.length_le
        refine Nat.le_trans (m := 24) ?_ (by decide)
        rw [List.length_drop, List.length_take, len_sv]; omega
      · rw [e, hc, cut_dropG, cut_takeG, sv_drop, sv_take] at ht ⊢
        have s5 := s4.trans (same_new (o := .lst (sv (zs.drop c ++ zs.take c))) ht)
        rw [sv_app]
        have pr := rot_perm zs c
        refine k t _ _ s5 (none_of s4 ht) upd_same ⟨pr.nodup_iff.mpr (hzs.nodup (hp.nodup_iff.mpr nd)), fun y hy => hp.mem_iff.mp (hzs.subset (pr.mem_iff.mp hy))⟩
def spNames : Sp := fun vs H Q _ => ∃ (n : Nat) (sd : Int), vs = [.int (n : Nat), .int sd] ∧ n ≤ 12 ∧ ∀ D ns H', Same H H' → H' D = some (.lst (sv ns)) → ns.length = n → Nms ns → Q (.ref D) H'
theorem ok_names (T : Txt P K mg A) : FnOk P w K mg base CX0 1 A.a_law_names A.d_law_names ["count", "seed"] spNames := by
  refine T.F_law_names.ok sc_law_names (fun vs H Q E h => ?_) (fun cdv A' outer s H vs Q E hr h => ?_)
  · obtain ⟨n, sd, rfl, _⟩ := h
    rfl
  · obtain ⟨n, sd, rfl, hn, k⟩ := h
    refine ⟨_, (pss_cons (ps_if (pt_cmpR op_gt (pe_op op_mod (pe_callTy call_int1 (by rfl) T.n_int (by decide +kernel) (pa_cons (pv 1) pa_nil)) pe_int) pe_int (nomark _)) (pss_cons (ps_set (i := 2) sc_law_names.nd rfl (Or.inl rfl) (pe_lst (pa_cons pe_str (pa_cons pe_str (pa_cons pe_str (pa_cons pe_str (pa_cons pe_str (pa_cons pe_str (pa_cons pe_str (pa_cons pe_str (pa_cons pe_str (pa_cons pe_str (pa_cons pe_str (pa_cons pe_str pa_nil))))))))))))))
      (pss_cons (ps_if (pt_cmpR op_eq (pe_op op_mod (pe_callTy call_int1 (by rfl) T.n_int (by decide +kernel) (pa_cons (pv 1) pa_nil)) pe_int) pe_int (nomark _)) (pss_one (ps_set (i := 2) sc_law_names.nd rfl (Or.inl rfl) (pe_lst (pa_cons pe_str (pa_cons pe_str (pa_cons pe_str (pa_cons pe_str (pa_cons pe_str (pa_cons pe_str (pa_cons pe_str (pa_cons pe_str (pa_cons pe_str (pa_cons pe_str (pa_cons pe_str (pa_cons pe_str pa_nil))))))))))))))) pss_nil)
      (pss_cons (ps_set (i := 3) sc_law_names.nd rfl (Or.inl rfl) (pe_op op_mod (pe_callTy call_int1 (by rfl) T.n_int (by decide +kernel) (pa_cons (pe_op op_fdiv (pv 1) pe_int) pa_nil)) pe_int))
      (pss_one (ps_ret (pe_slice sl_list (pe_op op_cat (pe_slice sl_list (pv 2) (po_some (pv 3)) po_none) (pe_slice sl_list (pv 2) po_none (po_some (pv 3)))) po_none (po_some (pv 0)))))))) pss_nil)
      (pss_cons (ps_set (i := 4) sc_law_names.nd rfl (Or.inl rfl) (pe_lst pa_nil))
      (pss_cons (ps_for PassesOwn.never rfl (pi_range1 (by rfl) T.n_range (pa_cons (pv 0) pa_nil)) (pg_name (i := 5) sc_law_names.nd rfl (Or.inl rfl))
        (pss_cons (ps_set (i := 6) sc_law_names.nd rfl (Or.inl rfl) (pe_ix ix_str pe_str (pe_op op_mod (pe_callTy call_int1 (by rfl) T.n_int (by decide +kernel) (pa_cons (pe_op op_add (pe_op op_mul (pv 5) pe_int) (pv 1)) pa_nil)) pe_int) (fun _ _ => rfl)))
      (pss_cons (ps_set (i := 7) sc_law_names.nd rfl (Or.inl rfl) (pe_op op_mulS (pe_ix ix_str pe_str (pe_op op_mod (pe_callTy call_int1 (by rfl) T.n_int (by decide +kernel) (pa_cons (pe_op op_add (pe_op op_fdiv (pv 1) pe_int) (pv 5)) pa_nil)) pe_int) (fun _ _ => rfl)) (pe_op op_mod (pe_callTy call_int1 (by rfl) T.n_int (by decide +kernel) (pa_cons (pe_op op_add (pe_op op_fdiv (pv 1) pe_int) (pe_op op_mul (pv 5) pe_int)) pa_nil)) pe_int)))
      (pss_cons (ps_set (i := 8) sc_law_names.nd rfl (Or.inl rfl) (pe_op op_mulS (pe_ix ix_str pe_str (pe_op op_mod (pe_callTy call_int1 (by rfl) T.n_int (by decide +kernel) (pa_cons (pe_op op_add (pe_op op_fdiv (pv 1) pe_int) (pe_op op_mul (pv 5) pe_int)) pa_nil)) pe_int) (fun _ _ => rfl)) (pe_op op_mod (pe_callTy call_int1 (by rfl) T.n_int (by decide +kernel) (pa_cons (pe_op op_add (pe_op op_fdiv (pv 1) pe_int) (pv 5)) pa_nil)) pe_int)))
      (pss_cons (ps_if (pt_cmpR op_eq (pe_op op_mod (pe_callTy call_int1 (by rfl) T.n_int (by decide +kernel) (pa_cons (pv 1) pa_nil)) pe_int) pe_int (nomark _)) (pss_cons (ps_set (i := 7) sc_law_names.nd rfl (Or.inl rfl) (pe_op op_mulS pe_str (pe_op op_mod (pe_callTy call_int1 (by rfl) T.n_int (by decide +kernel) (pa_cons (pe_op op_fdiv (pv 1) pe_int) pa_nil)) pe_int)))
      (pss_one (ps_set (i := 8) sc_law_names.nd rfl (Or.inl rfl) (pe_op op_mulS pe_str (pe_op op_mod (pe_callTy call_int1 (by rfl) T.n_int (by decide +kernel) (pa_cons (pe_op op_fdiv (pv 1) pe_int) pa_nil)) pe_int))))) pss_nil)
      (pss_one (ps_expr (pe_bm PySem.F.plainAttrs_list PySem.F.slot_list_append PySem.F.type_list_append mt_append (pv 4) (pa_cons (pe_op op_add_str (pe_op op_add_str (pv 7) (pv 6)) (pv 8)) pa_nil)))))))))
      (pss_one (ps_ret (pv 4)))))), ?_⟩
    refine ⟨_, rfl, .inl ⟨_, rfl, _, _, rfl, rfl, by show (0 : Int) < 6; decide, _, _, rfl, rfl, _, rfl, ite2 (fun hb => ?_) (fun hb => ?_)⟩⟩
    · refine ⟨by show 12 ≤ sizeLine; decide, fun a0 ha0 => ?_⟩
      have s1 := same_new (o := .lst (sv W1)) ha0
      refine ⟨_, rfl, .inl ⟨_, rfl, _, _, rfl, rfl, by show (0 : Int) < 6; decide, rfl, _, rfl, ite2 (fun hb2 => ?_) (fun hb2 => ?_)⟩⟩
      · refine ⟨by show 12 ≤ sizeLine; decide, fun a ha => ?_⟩
        have s2 := s1.trans (same_new (o := .lst (sv W2)) ha)
        refine ⟨_, rfl, _, _, rfl, rfl, ⟨by decide, by decide⟩, .inl ⟨_, rfl, _, _, rfl, rfl, by show (0 : Int) < 12; decide, ?_⟩⟩
        obtain ⟨c, hc⟩ := Int.eq_ofNat_of_zero_le (Int.emod_nonneg (sd / 6) (show (12 : Int) ≠ 0 by decide))
        refine ⟨_, rfl, _, rfl, _, rfl, a, _, rfl, SqL.of upd_same, fun p hp2 => ?_⟩
        have hbp : a ≠ p := ne_of_none upd_same hp2
        have hp3 := hp2
        have s3 := s2.trans (same_new (o := .lst (cutV (sv W2) (some (sd / 6 % 12)) none)) hp2)
        refine ⟨_, rfl, _, rfl, _, rfl, a, _, rfl, SqL.of (by rw [upd_ne hbp]; exact upd_same), fun q hq => ?_⟩
        have hpq : p ≠ q := ne_of_none upd_same hq
        have s4 := s3.trans (same_new (o := .lst (cutV (sv W2) none (some (sd / 6 % 12)))) hq)
        refine ⟨p, q, _, _, rfl, rfl, by rw [upd_ne hpq]; exact upd_same, upd_same, ?_, fun t ht => ?_⟩
        · rw [hc, cut_dropG, cut_takeG]
          refine Nat.le_trans (m := 24) ?_ (by decide)
          rw [List.length_drop, List.length_take]
          show 12 - c + min c 12 ≤ 24
          omega
        · have s5 := s4.trans (same_new (o := .lst (cutV (sv W2) (some (sd / 6 % 12)) none ++ cutV (sv W2) none (some (sd / 6 % 12)))) ht)
          refine ⟨_, rfl, _, rfl, t, _, rfl, SqL.of upd_same, fun r hr2 => ?_⟩
          have s6 := s5.trans (same_new (o := .lst (cutV (cutV (sv W2) (some (sd / 6 % 12)) none ++ cutV (sv W2) none (some (sd / 6 % 12))) none (some (n : Int)))) hr2)
          have eL : cutV (cutV (sv W2) (some (sd / 6 % 12)) none ++ cutV (sv W2) none (some (sd / 6 % 12))) none (some (n : Int)) = sv ((((W2).drop c) ++ (W2).take c).take n) := by
            rw [hc, cut_dropG, cut_takeG, cut_takeG, sv_drop, sv_take, sv_app, sv_take]
          have pr := rot_perm W2 c
          refine k r _ _ s6 (by rw [← eL]; exact upd_same) ?_ ?_
          · rw [List.length_take, pr.length_eq, show (W2).length = 12 from rfl]; omega
          · exact w2_ok.sub pr (List.take_sublist _ _)
      · have a := a0
        have s2 := s1
        refine ⟨_, rfl, _, _, rfl, rfl, ⟨by decide, by decide⟩, .inl ⟨_, rfl, _, _, rfl, rfl, by show (0 : Int) < 12; decide, ?_⟩⟩
        obtain ⟨c, hc⟩ := Int.eq_ofNat_of_zero_le (Int.emod_nonneg (sd / 6) (show (12 : Int) ≠ 0 by decide))
        refine ⟨_, rfl, _, rfl, _, rfl, a0, _, rfl, SqL.of upd_same, fun p hp2 => ?_⟩
        have hbp : a0 ≠ p := ne_of_none upd_same hp2
        have hp3 := hp2
        have s3 := s2.trans (same_new (o := .lst (cutV (sv W1) (some (sd / 6 % 12)) none)) hp2)
        refine ⟨_, rfl, _, rfl, _, rfl, a0, _, rfl, SqL.of (by rw [upd_ne hbp]; exact upd_same), fun q hq => ?_⟩
        have hpq : p ≠ q := ne_of_none upd_same hq
        have s4 := s3.trans (same_new (o := .lst (cutV (sv W1) none (some (sd / 6 % 12)))) hq)
        refine ⟨p, q, _, _, rfl, rfl, by rw [upd_ne hpq]; exact upd_same, upd_same, ?_, fun t ht => ?_⟩
        · rw [hc, cut_dropG, cut_takeG]
          refine Nat.le_trans (m := 24) ?_ (by decide)
          rw [List.length_drop, List.length_take]
          show 12 - c + min c 12 ≤ 24
          omega
        · have s5 := s4.trans (same_new (o := .lst (cutV (sv W1) (some (sd / 6 % 12)) none ++ cutV (sv W1) none (some (sd / 6 % 12)))) ht)
          refine ⟨_, rfl, _, rfl, t, _, rfl, SqL.of upd_same, fun r hr2 => ?_⟩
          have s6 := s5.trans (same_new (o := .lst (cutV (cutV (sv W1) (some (sd / 6 % 12)) none ++ cutV (sv W1) none (some (sd / 6 % 12))) none (some (n : Int)))) hr2)
          have eL : cutV (cutV (sv W1) (some (sd / 6 % 12)) none ++ cutV (sv W1) none (some (sd / 6 % 12))) none (some (n : Int)) = sv ((((W1).drop c) ++ (W1).take c).take n) := by
            rw [hc, cut_dropG, cut_takeG, cut_takeG, sv_drop, sv_take, sv_app, sv_take]
          have pr := rot_perm W1 c
          refine k r _ _ s6 (by rw [← eL]; exact upd_same) ?_ ?_
          · rw [List.length_take, pr.length_eq, show (W1).length = 12 from rfl]; omega
          · exact w1_ok.sub pr (List.take_sublist _ _)
    · refine ⟨by show 0 ≤ sizeLine; decide, fun D hD => ?_⟩
      have s0 := same_new (o := .lst []) hD
      refine ⟨_, rfl, _, rfl, by omega, by omega, for_range (n := ((n : Nat) : Int).toNat) (fun i σ H2 => Same H H2 ∧ ∃ (ns : List Str) (u1 u2 u3 u4 : Option V), σ = [some (.int (n : Nat)), some (.int sd), none, none, some (.ref D), u1, u2, u3, u4] ∧ H2 D = some (.lst (sv ns)) ∧ Mades sd ns ∧ ns.length = i)
        ⟨s0, [], none, none, none, none, rfl, upd_same, (fun t z e => by simp at e), rfl⟩ ?_ ?_⟩
      · rintro i σ H2 hi ⟨sm, ns, u1, u2, u3, u4, rfl, hd2, hM, hl⟩
        have c0 := Int.emod_nonneg ((0 + (i : Int)) * 5 + sd) (show (12 : Int) ≠ 0 by decide)
        have c1 := Int.emod_lt_of_pos ((0 + (i : Int)) * 5 + sd) (show (0 : Int) < 12 by decide)
        have a0 := Int.emod_nonneg (sd / 12 + (0 + (i : Int))) (show (14 : Int) ≠ 0 by decide)
        have a1 := Int.emod_lt_of_pos (sd / 12 + (0 + (i : Int))) (show (0 : Int) < 14 by decide)
        have b0 := Int.emod_nonneg (sd / 7 + (0 + (i : Int)) * 3) (show (14 : Int) ≠ 0 by decide)
        have b1 := Int.emod_lt_of_pos (sd / 7 + (0 + (i : Int)) * 3) (show (0 : Int) < 14 by decide)
        have m0 := Int.emod_nonneg (sd / 5 + (0 + (i : Int)) * 2) (show (3 : Int) ≠ 0 by decide)
        have m1 := Int.emod_lt_of_pos (sd / 5 + (0 + (i : Int)) * 2) (show (0 : Int) < 3 by decide)
        have n0 := Int.emod_nonneg (sd / 11 + (0 + (i : Int))) (show (4 : Int) ≠ 0 by decide)
        have n1 := Int.emod_lt_of_pos (sd / 11 + (0 + (i : Int))) (show (0 : Int) < 4 by decide)
        have p0 := Int.emod_nonneg (sd / 2) (show (3 : Int) ≠ 0 by decide)
        have p1 := Int.emod_lt_of_pos (sd / 2) (show (0 : Int) < 3 by decide)
        have q0 := Int.emod_nonneg (sd / 6) (show (3 : Int) ≠ 0 by decide)
        have q1 := Int.emod_lt_of_pos (sd / 6) (show (0 : Int) < 3 by decide)
        refine ⟨_, rfl, _, _, rfl, rfl, .inr (by decide), _, rfl, _, _, rfl, rfl, .inl ⟨_, rfl, _, _, rfl, rfl, by show (0 : Int) < 12; decide, _, _, _, rfl, rfl, core_len, core_at c0 c1, ?_⟩⟩
        refine ⟨_, rfl, _, _, rfl, rfl, ⟨by decide, by decide⟩, _, rfl, _, _, rfl, rfl, .inl ⟨_, rfl, _, _, rfl, rfl, by show (0 : Int) < 14; decide, _, _, _, rfl, rfl, left_len, left_at a0 a1, ?_⟩⟩
        refine ⟨_, rfl, _, _, rfl, rfl, ⟨by decide, by decide⟩, _, rfl, _, _, rfl, rfl, .inr (by decide), _, _, rfl, rfl, .inl ⟨_, rfl, _, _, rfl, rfl, by show (0 : Int) < 3; decide, _, _, rfl, rfl, mulOk1 _ m0 (by omega), ?_⟩⟩
        refine ⟨_, rfl, _, _, rfl, rfl, ⟨by decide, by decide⟩, _, rfl, _, _, rfl, rfl, .inr (by decide), _, _, rfl, rfl, .inl ⟨_, rfl, _, _, rfl, rfl, by show (0 : Int) < 14; decide, _, _, _, rfl, rfl, right_len, right_at b0 b1, ?_⟩⟩
        refine ⟨_, rfl, _, _, rfl, rfl, ⟨by decide, by decide⟩, _, rfl, _, _, rfl, rfl, .inl ⟨_, rfl, _, _, rfl, rfl, by show (0 : Int) < 4; decide, _, _, rfl, rfl, mulOk1 _ n0 (by omega), ?_⟩⟩
        have sl := side1 (c := 109 + ((sd / 12 + (0 + (i : Int))) % 14).toNat) (n := (sd / 5 + (0 + (i : Int)) * 2) % 3) (by omega) (by omega) m0 (by omega)
        have sr := side1 (c := 122 - ((sd / 7 + (0 + (i : Int)) * 3) % 14).toNat) (n := (sd / 11 + (0 + (i : Int))) % 4) (by omega) (by omega) n0 (by omega)
        have ecore : ((0 + (i : Int)) * 5 + sd) % 12 = ((ns.length : Int) * 5 + sd) % 12 := by rw [hl, Int.zero_add]
        have fin : ∀ (l r : Str), Side l → Side r → l.length + 1 ≤ sizeLine ∧ (l ++ l1 (97 + (((0 + (i : Int)) * 5 + sd) % 12).toNat)).length + r.length ≤ sizeLine ∧ Mades sd (ns ++ [l ++ l1 (97 + (((0 + (i : Int)) * 5 + sd) % 12).toNat) ++ r]) := fun l r hl2 hr2 => by
          have x1 := hl2.2
          have x2 := hr2.2
          refine ⟨Nat.le_trans (m := 24) (by omega) (by decide), Nat.le_trans (m := 24) ?_ (by decide), hM.app ?_⟩
          · rw [Str.length_append, show (l1 (97 + (((0 + (i : Int)) * 5 + sd) % 12).toNat)).length = 1 from rfl]; omega
          · rw [← ecore]; exact made_of hl2 hr2 (by omega) (by omega)
        refine ⟨_, rfl, .inl ⟨_, rfl, _, _, rfl, rfl, by show (0 : Int) < 2; decide, rfl, _, rfl, ite2 (fun hb2 => ?_) (fun hb2 => ?_)⟩⟩
        · refine ⟨_, rfl, _, _, rfl, rfl, ⟨by decide, by decide⟩, .inl ⟨_, rfl, _, _, rfl, rfl, by show (0 : Int) < 3; decide, _, _, rfl, rfl, by rw [em]; exact mulOk1 _ p0 (by omega), ?_⟩⟩
          refine ⟨_, rfl, _, _, rfl, rfl, ⟨by decide, by decide⟩, .inl ⟨_, rfl, _, _, rfl, rfl, by show (0 : Int) < 3; decide, _, _, rfl, rfl, by rw [ez]; exact mulOk1 _ q0 (by omega), ?_⟩⟩
          have sl2 := side1 (c := 109) (n := sd / 2 % 3) (by omega) (by omega) p0 (by omega)
          have sr2 := side1 (c := 122) (n := sd / 6 % 3) (by omega) (by omega) q0 (by omega)
          rw [← em] at sl2
          rw [← ez] at sr2
          obtain ⟨f1, f2, f3⟩ := fin _ _ sl2 sr2
          refine ⟨_, rfl, .inl ⟨rfl, _, SqL.of hd2⟩, _, rfl, _, rfl, _, _, rfl, rfl, f1, _, rfl, _, _, rfl, rfl, f2, D, _, _, rfl, rfl, hd2, small_int (by rw [len_sv]; omega), ?_⟩
          refine ⟨fun x u e => ?_, _, _, _, _, _, rfl, ?_, f3, by rw [List.length_append, hl]; rfl⟩
          · rw [upd_ne (ne_of_none e hD)]; exact sm _ _ e
          · rw [sv_snoc']; exact upd_same
        · obtain ⟨f1, f2, f3⟩ := fin _ _ sl sr
          refine ⟨_, rfl, .inl ⟨rfl, _, SqL.of hd2⟩, _, rfl, _, rfl, _, _, rfl, rfl, f1, _, rfl, _, _, rfl, rfl, f2, D, _, _, rfl, rfl, hd2, small_int (by rw [len_sv]; omega), ?_⟩
          refine ⟨fun x u e => ?_, _, _, _, _, _, rfl, ?_, f3, by rw [List.length_append, hl]; rfl⟩
          · rw [upd_ne (ne_of_none e hD)]; exact sm _ _ e
          · rw [sv_snoc']; exact upd_same
      · rintro σ H2 ⟨sm, ns, u1, u2, u3, u4, rfl, hd2, hM, hl⟩
        rw [Int.toNat_natCast] at hl
        exact ⟨_, rfl, k D ns H2 sm hd2 hl (hM.nms (by omega))⟩
def spIsNum : Sp := fun vs H Q _ => ∃ (v a b : Int), vs = [.int v, .int a, .int b] ∧ Q (.bl (decide (a ≤ v ∧ v ≤ b))) H
theorem ok_isNum (T : Txt P K mg A) : FnOk P w K mg base CX0 1 A.a_law_is_number A.d_law_is_number ["value", "least", "most"] spIsNum := by
  refine T.F_law_is_number.ok sc_law_is_number (fun vs H Q E h => ?_) (fun cdv A' outer s H vs Q E hr h => ?_)
  · obtain ⟨v, a, b, rfl, _⟩ := h
    rfl
  · obtain ⟨v, a, b, rfl, k⟩ := h
    refine ⟨_, (pss_one (ps_ret (pe_and (pe_callB call_isi (by rfl) T.n_isinstance (by decide +kernel) (pa_cons (pv 0) (pa_cons (pe_bltn (v := .ty "int") (by rfl) T.n_int (by decide +kernel) rfl) pa_nil))) (pe_and (pe_not (pe_callB call_isi (by rfl) T.n_isinstance (by decide +kernel) (pa_cons (pv 0) (pa_cons (pe_bltn (v := .ty "bool") (by rfl) T.n_bool (by decide +kernel) rfl) pa_nil)))) (pe_and (pe_cmpR op_le (pv 1) (pv 0) (nomark _)) (pe_one (pe_cmpR op_le (pv 0) (pv 2) (nomark _)))))))), ?_⟩
    refine ⟨_, rfl, _, _, _, _, true, rfl, .ty _, .base (.int _), kit_ty (by decide +kernel), true, rfl, iteT ?_⟩
    refine ⟨_, rfl, _, _, _, _, false, rfl, .ty _, .base (.int _), kit_ty (by decide +kernel), false, rfl, true, rfl, iteT ?_⟩
    refine ⟨_, rfl, _, rfl, _, _, rfl, rfl, _, rfl, ?_⟩
    by_cases h1 : a ≤ v
    · refine itY h1 ⟨_, rfl, _, rfl, _, _, rfl, rfl, ?_⟩
      rw [show decide (a ≤ v ∧ v ≤ b) = decide (v ≤ b) from decide_eq_decide.mpr ⟨fun h => h.2, fun h => ⟨h1, h⟩⟩] at k
      exact k
    · refine itN h1 ?_
      rw [decide_eq_false (fun h => h1 h.1)] at k
      exact k
end
end My
set_option maxRecDepth 100000
set_option maxHeartbeats 4000000
set_option exponentiation.threshold 10000
namespace My
open PySem L2
open C8 (pss_cut)
/-- a list laid here -/
abbrev Ll (H : Hp) (t : Addr) (xs : List V) : Prop := H t = some (.lst xs)
theorem Lz.same {H H' : Hp} {ts : List Addr} {rs : List (List Int)} (h : Lz Ll H ts rs) (s : Same H H') : Lz Ll H' ts rs := h.imp fun t x q => s _ _ q
theorem catO {H : Hp} {a b : Addr} {xs ys : List V} {Q : VK} (ha : H a = some (.lst xs)) (hb : H b = some (.lst ys)) (hl : xs.length + ys.length ≤ 1000000) (h : ∀ c H', Same H H' → H c = none → H' c = some (.lst (xs ++ ys)) → Q (.ref c) H') : rCat (.ref a) (.ref b) H Q :=
  ⟨a, b, xs, ys, rfl, rfl, ha, hb, Nat.le_trans hl (by decide), fun t ht => h t _ (same_new ht) ht upd_same⟩
def lw (k s : Int) : Int := if k = 1 then s + 2 else if k = 2 ∨ k = 3 then s + 3 else if k = 4 then 6 else 5
theorem lw_ok {k s : Int} (h : okKS k s = true) : w2 k s = lw k s := w2_is h
theorem rgV_0 {s : Int} (h : 0 ≤ s) : rgV 0 (s + 1) = ivs (0 :: rg s.toNat) := by
  unfold rgV rg ivs
  rw [show (s + 1 - 0).toNat = s.toNat + 1 by omega, List.range_succ_eq_map, List.map_cons, List.map_map, List.map_cons, List.map_map]
  congr 1
  refine List.map_congr_left fun i _ => ?_
  show V.int (0 + ((i + 1 : Nat) : Int)) = V.int (1 + ((i : Nat) : Int))
  congr 1; omega
theorem rgV_13 {s : Int} (h : 0 ≤ s) : rgV 1 (s + 3) = ivs (rg s.toNat ++ [s + 1, s + 2]) := by
  unfold rgV rg ivs
  rw [show (s + 3 - 1).toNat = s.toNat + 1 + 1 by omega, List.range_succ, List.range_succ, List.map_append, List.map_append, List.map_append, List.map_map]
  have e : ((s.toNat : Nat) : Int) = s := by omega
  simp [e]
  rw [show 1 + s = s + 1 by omega, show 1 + (s + 1) = s + 2 by omega]
  rfl
section
variable {P : Program} {w : World} {K : PySem.W.Frag} {mg : Str → Option Value} {base : Heap} {A : Ad}
def spLWidth : Sp := fun vs H Q _ => ∃ k s, vs = [.int k, .int s] ∧ 1 ≤ k ∧ k ≤ 5 ∧ ∀ H', Same H H' → Q (.int (lw k s)) H'
theorem ok_lwidth (T : Txt P K mg A) : FnOk P w K mg base CX0 1 A.a_law_width A.d_law_width ["kind", "size"] spLWidth := by
  refine T.F_law_width.ok sc_law_width (fun vs H Q E h => ?_) (fun cdv A' outer s0 H vs Q E hr h => ?_)
  · obtain ⟨k, s, rfl, _⟩ := h
    rfl
  · obtain ⟨k, s, rfl, h1, h5, kk⟩ := h
    refine ⟨_, (pss_one (ps_ret (pe_ix ix_list (pe_lst (pa_cons pe_int (pa_cons (pe_op op_add (pv 1) pe_int) (pa_cons (pe_op op_add (pv 1) pe_int) (pa_cons (pe_op op_add (pv 1) pe_int) (pa_cons pe_int (pa_cons pe_int pa_nil))))))) (pv 0) (fun _ _ => rfl)))), ?_⟩
    refine ⟨_, rfl, _, _, rfl, rfl, _, rfl, _, _, rfl, rfl, _, rfl, _, _, rfl, rfl, by show 6 ≤ sizeLine; decide, fun l hl => ?_⟩
    generalize hG : upd H l _ = H1
    have q1 : Same H H1 := hG ▸ same_new hl
    have x1 := (congrFun hG l).symm.trans upd_same
    clear hG
    obtain ⟨n, rfl⟩ := Int.eq_ofNat_of_zero_le (show (0 : Int) ≤ k by omega)
    have kk := kk H1 q1
    have hn : n = 1 ∨ n = 2 ∨ n = 3 ∨ n = 4 ∨ n = 5 := by omega
    refine ⟨_, rfl, l, _, _, _, rfl, rfl, SqL.of x1, atI_nat (j := n) (v := .int (lw (n : Nat) s)) ?_, kk⟩
    rcases hn with rfl | rfl | rfl | rfl | rfl <;> rfl
def spLStd : Sp := fun vs H Q _ => ∃ k s, vs = [.int k, .int s] ∧ 1 ≤ k ∧ k ≤ 5 ∧ 0 ≤ s ∧ s ≤ 10 ∧ ∀ D ts H', Same H H' → H D = none → H' D = some (.lst (ts.map V.ref)) → Lz Ll H' ts (stdR k s) → Q (.ref D) H'
theorem ok_lstd (T : Txt P K mg A) : FnOk P w K mg base CX0 1 A.a_law_standard A.d_law_standard ["kind", "size"] spLStd := by
  refine T.F_law_standard.ok sc_law_standard (fun vs H Q E h => ?_) (fun cdv A' outer s0 H vs Q E hr h => ?_)
  · obtain ⟨k, s, rfl, _⟩ := h
    rfl
  · obtain ⟨k, s, rfl, h1, h5, hs0, hs1, kq⟩ := h
    refine ⟨_, (pss_cons (ps_setLc (i := 2) (own := [("i", 3)]) (g := gName 3) (tt := tYes) rfl sc_law_standard.nd rfl rfl (sw_true rfl rfl rfl (by decide +kernel)) (pi_range1 (by rfl) T.n_range (pa_cons (pe_op op_add (pv 1) pe_int) pa_nil)) (blkOk_by (N := ["kind", "size", "rows", "i"]) (sc := defScope s_law_standard) (by decide +kernel)) (fun _ _ _ _ _ => (pg_name (i := 3) sc_law_standard.nd rfl (Or.inl rfl))) (fun _ _ _ _ _ => pts_nil) (fun _ _ _ _ _ => (pe_lst (pa_cons (pv 3) (pa_cons (pe_op op_add (pv 3) pe_int) pa_nil)))))
      (pss_cons (ps_if (pt_cmpR op_eq (pv 0) pe_int (nomark _)) (pss_one (ps_ret (pe_op op_cat (pv 2) (pe_lst (pa_cons (pe_lst (pa_cons pe_int (pa_cons (pe_op op_add (pv 1) pe_int) pa_nil))) pa_nil))))) pss_nil)
      (pss_cons (ps_if (pt_cmpR op_eq (pv 0) pe_int (nomark _)) (pss_one (ps_ret (pe_op op_cat (pv 2) (pe_lst (pa_cons (pe_op op_cat (pe_listRg rfl (by rfl) T.n_list (prg_1 (by rfl) T.n_range (pe_op op_add (pv 1) pe_int))) (pe_lst (pa_cons (pe_op op_add (pv 1) pe_int) pa_nil))) (pa_cons (pe_listRg rfl (by rfl) T.n_list (prg_2 (by rfl) T.n_range pe_int (pe_op op_add (pv 1) pe_int))) pa_nil)))))) pss_nil)
      (pss_cons (ps_if (pt_cmpR op_eq (pv 0) pe_int (nomark _)) (pss_one (ps_ret (pe_op op_cat (pv 2) (pe_lst (pa_cons (pe_op op_cat (pe_listRg rfl (by rfl) T.n_list (prg_2 (by rfl) T.n_range pe_int (pe_op op_add (pv 1) pe_int))) (pe_lst (pa_cons (pe_op op_add (pv 1) pe_int) pa_nil))) pa_nil))))) pss_nil)
      (pss_cons (ps_if (pt_cmpR op_eq (pv 0) pe_int (nomark _)) (pss_one (ps_ret (pe_lst (pa_cons (pe_lst (pa_cons pe_int (pa_cons pe_int pa_nil))) (pa_cons (pe_lst (pa_cons pe_int (pa_cons pe_int pa_nil))) (pa_cons (pe_lst (pa_cons pe_int (pa_cons pe_int pa_nil))) (pa_cons (pe_lst (pa_cons pe_int (pa_cons pe_int (pa_cons pe_int pa_nil)))) pa_nil))))))) pss_nil)
      (pss_one (ps_ret (pe_lst (pa_cons (pe_lst (pa_cons pe_int (pa_cons pe_int pa_nil))) (pa_cons (pe_lst (pa_cons pe_int (pa_cons pe_int pa_nil))) (pa_cons (pe_lst (pa_cons pe_int (pa_cons pe_int (pa_cons pe_int (pa_cons pe_int pa_nil))))) (pa_cons (pe_lst (pa_cons pe_int (pa_cons pe_int (pa_cons pe_int pa_nil)))) pa_nil)))))))))))), ?_⟩
    refine ⟨_, rfl, _, _, rfl, rfl, _, rfl, by omega, by omega, fun D nD => lc_it walk_range (fun i G => Same H G ∧ ∃ us : List Addr, G D = some (.lst (us.map V.ref)) ∧ (∀ u ∈ us, u ≠ D) ∧ Lz Ll G us ((path (s + 1).toNat).take i)) ⟨same_new nD, [], upd_same, fun u hu => (nomatch hu), Lz.nil⟩ (fun i G _ q => trivial) ?_ ?_⟩
    · rintro i x G0 G hi ⟨sG, us, hD, hne, hus⟩ ⟨rfl, rfl⟩
      refine ⟨rfl, _, rfl, _, rfl, _, _, rfl, rfl, by show 2 ≤ sizeLine; decide, fun t n3 => ?_⟩
      generalize hG : upd G t _ = G2
      have q3 : Same G G2 := hG ▸ same_new n3
      have x3 := (congrFun hG t).symm.trans upd_same
      clear hG
      have x3 : G2 t = some (.lst [V.int (0 + ((i : Nat) : Int)), V.int (0 + ((i : Nat) : Int) + 1)]) := x3
      rw [Int.zero_add] at x3
      have hD2 := q3 _ _ hD
      have tne : t ≠ D := fun z => by rw [z, hD] at n3; cases n3
      have hil : i < (s + 1).toNat := hi
      have hl : us.length ≤ 100 := by rw [hus.len, List.length_take, path_len]; omega
      refine ⟨_, hD2, small_int (by rw [List.length_map]; omega), fun b o e => by rw [upd_ne (ne_of_none e nD)]; exact q3 _ _ (sG _ _ e), us ++ [t], by rw [List.map_append]; exact upd_same, fun u hu => ?_, ?_⟩
      · rcases List.mem_append.mp hu with h | h
        · exact hne u h
        · rw [List.mem_singleton.mp h]; exact tne
      · rw [path_take hil]
        have up : ∀ u x, u ≠ D → Ll G2 u x → Ll (upd G2 D (.lst (us.map V.ref ++ [V.ref t]))) u x := fun u x hn h => by show upd G2 D _ u = _; rw [upd_ne hn]; exact h
        have a : Lz Ll (upd G2 D (.lst (us.map V.ref ++ [V.ref t]))) us ((path (s + 1).toNat).take i) := ⟨hus.len, fun j u x a b => up u _ (hne u (List.mem_of_getElem? a)) (q3 _ _ (hus.at_ j u x a b))⟩
        exact a.app (Lz.one (up t _ tne x3))
    rintro G ⟨sG, ts, hD, hne, hts⟩
    have hts : Lz Ll G ts (path (s + 1).toNat) := by
      have e : (path (s + 1).toNat).take (s + 1).toNat = path (s + 1).toNat := List.take_of_length_le (by rw [path_len]; exact Nat.le_refl _)
      rw [← e]; exact hts
    have tl : ts.length ≤ 11 := by rw [hts.len, path_len]; omega
    have big : (100 : Nat) ≤ sizeLine := by decide
    refine ⟨_, rfl, rfl, _, rfl, ?_⟩
    by_cases k1 : k = 1
    · subst k1
      refine ifT (decide_eq_true rfl) ?_
      refine ⟨_, rfl, _, rfl, _, _, rfl, rfl, by show 2 ≤ sizeLine; decide, fun t n1 => ?_⟩
      generalize hG : upd G t _ = G1
      have q1 : Same G G1 := hG ▸ same_new n1
      have x1 := (congrFun hG t).symm.trans upd_same
      clear hG
      refine ⟨by show 1 ≤ sizeLine; decide, fun l n2 => ?_⟩
      generalize hG : upd G1 l _ = G2
      have q2 : Same G1 G2 := hG ▸ same_new n2
      have x2 := (congrFun hG l).symm.trans upd_same
      clear hG
      have s2 := q1.trans q2
      refine catO (s2 _ _ hD) x2 (by rw [List.length_map]; show ts.length + 1 ≤ 1000000; omega) fun c G3 s3 n3 x3 => ?_
      have s23 := s2.trans s3
      refine kq c (ts ++ [t]) G3 (sG.trans s23) (none_of (sG.trans s2) n3) (by rw [x3, List.map_append]; rfl) ((hts.same s23).app (.one ?_))
      exact (q2.trans s3) _ _ x1
    refine ifF (decide_eq_false fun z => k1 (V.int.inj z)) ?_
    refine ⟨_, rfl, rfl, _, rfl, ?_⟩
    by_cases k2 : k = 2
    · subst k2
      refine ifT (decide_eq_true rfl) ?_
      refine ⟨_, rfl, _, rfl, _, _, rfl, rfl, _, rfl, RgOk.of_le (by omega) (by omega) (by omega) (by omega), fun a n1 => ?_⟩
      generalize hG : upd G a _ = G1
      have q1 : Same G G1 := hG ▸ same_new n1
      have x1 := (congrFun hG a).symm.trans upd_same
      clear hG
      have x1 : G1 a = some (.lst (ivs (0 :: rg s.toNat))) := by rw [← rgV_0 hs0]; exact x1
      refine ⟨_, rfl, _, _, rfl, rfl, by show 1 ≤ sizeLine; decide, fun b n2 => ?_⟩
      generalize hG : upd G1 b _ = G2
      have q2 : Same G1 G2 := hG ▸ same_new n2
      have x2 := (congrFun hG b).symm.trans upd_same
      clear hG
      refine catO (q2 _ _ x1) x2 (by rw [ivs_len, List.length_cons, rg_len]; show s.toNat + 1 + 1 ≤ 1000000; omega) fun c G3 s3 n3 x3 => ?_
      have x3 : G3 c = some (.lst (ivs (0 :: rg s.toNat ++ [s + 2]))) := by rw [x3]; simp [ivs]
      refine ⟨_, rfl, _, _, rfl, rfl, _, _, rfl, rfl, RgOk.of_le (by omega) (by omega) (by omega) (by omega), fun d n4 => ?_⟩
      generalize hG : upd G3 d _ = G4
      have q4 : Same G3 G4 := hG ▸ same_new n4
      have x4 := (congrFun hG d).symm.trans upd_same
      clear hG
      have x4 : G4 d = some (.lst (ivs (rg s.toNat ++ [s + 1, s + 2]))) := by rw [← rgV_13 hs0]; exact x4
      refine ⟨by show 2 ≤ sizeLine; decide, fun l n5 => ?_⟩
      generalize hG : upd G4 l _ = G5
      have q5 : Same G4 G5 := hG ▸ same_new n5
      have x5 := (congrFun hG l).symm.trans upd_same
      clear hG
      have s5 := q1.trans (q2.trans (s3.trans (q4.trans q5)))
      refine catO (s5 _ _ hD) x5 (by rw [List.length_map]; show ts.length + 2 ≤ 1000000; omega) fun e G6 s6 n6 x6 => ?_
      have s56 := s5.trans s6
      refine kq e (ts ++ [c, d]) G6 (sG.trans s56) (none_of (sG.trans s5) n6) (by rw [x6, List.map_append]; rfl) ((hts.same s56).app (.cons ?_ (.one ?_)))
      · exact (q4.trans (q5.trans s6)) _ _ x3
      · exact (q5.trans s6) _ _ x4
    refine ifF (decide_eq_false fun z => k2 (V.int.inj z)) ?_
    refine ⟨_, rfl, rfl, _, rfl, ?_⟩
    by_cases k3 : k = 3
    · subst k3
      refine ifT (decide_eq_true rfl) ?_
      refine ⟨_, rfl, _, rfl, _, _, rfl, rfl, _, _, rfl, rfl, RgOk.of_le (by omega) (by omega) (by omega) (by omega), fun a n1 => ?_⟩
      generalize hG : upd G a _ = G1
      have q1 : Same G G1 := hG ▸ same_new n1
      have x1 := (congrFun hG a).symm.trans upd_same
      clear hG
      have x1 : G1 a = some (.lst (ivs (rg s.toNat))) := by rw [← rgV_is hs0]; exact x1
      refine ⟨_, rfl, _, _, rfl, rfl, by show 1 ≤ sizeLine; decide, fun b n2 => ?_⟩
      generalize hG : upd G1 b _ = G2
      have q2 : Same G1 G2 := hG ▸ same_new n2
      have x2 := (congrFun hG b).symm.trans upd_same
      clear hG
      refine catO (q2 _ _ x1) x2 (by rw [ivs_len, rg_len]; show s.toNat + 1 ≤ 1000000; omega) fun c G3 s3 n3 x3 => ?_
      have x3 : G3 c = some (.lst (ivs (rg s.toNat ++ [s + 2]))) := by rw [x3]; simp [ivs]
      refine ⟨by show 1 ≤ sizeLine; decide, fun l n5 => ?_⟩
      generalize hG : upd G3 l _ = G5
      have q5 : Same G3 G5 := hG ▸ same_new n5
      have x5 := (congrFun hG l).symm.trans upd_same
      clear hG
      have s5 := q1.trans (q2.trans (s3.trans q5))
      refine catO (s5 _ _ hD) x5 (by rw [List.length_map]; show ts.length + 1 ≤ 1000000; omega) fun e G6 s6 n6 x6 => ?_
      have s56 := s5.trans s6
      refine kq e (ts ++ [c]) G6 (sG.trans s56) (none_of (sG.trans s5) n6) (by rw [x6, List.map_append]; rfl) ((hts.same s56).app (.one ?_))
      exact (q5.trans s6) _ _ x3
    refine ifF (decide_eq_false fun z => k3 (V.int.inj z)) ?_
    refine ⟨_, rfl, rfl, _, rfl, ?_⟩
    have four : ∀ (a b c d : List Int), stdR k s = [a, b, c, d] → ∀ (ta tb tc td l : Addr) (G9 : Hp), Same G G9 → G9 ta = some (.lst (ivs a)) → G9 tb = some (.lst (ivs b)) → G9 tc = some (.lst (ivs c)) → G9 td = some (.lst (ivs d)) → G9 l = none → Q (.ref l) (upd G9 l (.lst [.ref ta, .ref tb, .ref tc, .ref td])) := fun a b c d e ta tb tc td l G9 s9 ea eb ec ed nl => by
      have sl := same_new (o := .lst [V.ref ta, .ref tb, .ref tc, .ref td]) nl
      refine kq l [ta, tb, tc, td] _ (sG.trans (s9.trans sl)) (none_of (sG.trans s9) nl) upd_same ?_
      rw [e]
      exact .cons (sl _ _ ea) (.cons (sl _ _ eb) (.cons (sl _ _ ec) (.one (sl _ _ ed))))
    by_cases k4 : k = 4
    · refine ifT (decide_eq_true (by rw [k4])) ?_
      refine ⟨by show 2 ≤ sizeLine; decide, fun ta na => ?_⟩
      generalize hG : upd G ta _ = G1
      have q1 : Same G G1 := hG ▸ same_new na
      have x1 := (congrFun hG ta).symm.trans upd_same
      clear hG
      refine ⟨by show 2 ≤ sizeLine; decide, fun tb nb => ?_⟩
      generalize hG : upd G1 tb _ = G2
      have q2 : Same G1 G2 := hG ▸ same_new nb
      have x2 := (congrFun hG tb).symm.trans upd_same
      clear hG
      refine ⟨by show 2 ≤ sizeLine; decide, fun tc nc => ?_⟩
      generalize hG : upd G2 tc _ = G3
      have q3 : Same G2 G3 := hG ▸ same_new nc
      have x3 := (congrFun hG tc).symm.trans upd_same
      clear hG
      refine ⟨by show 3 ≤ sizeLine; decide, fun td nd => ?_⟩
      generalize hG : upd G3 td _ = G4
      have q4 : Same G3 G4 := hG ▸ same_new nd
      have x4 := (congrFun hG td).symm.trans upd_same
      clear hG
      refine ⟨by show 4 ≤ sizeLine; decide, fun l nl => ?_⟩
      exact four [0, 1] [2, 3] [4, 5] [1, 3, 5] (by rw [k4]; rfl) ta tb tc td l G4 (q1.trans (q2.trans (q3.trans q4))) ((q2.trans (q3.trans q4)) _ _ x1) ((q3.trans q4) _ _ x2) (q4 _ _ x3) x4 nl
    · have k5 : k = 5 := by omega
      refine ifF (decide_eq_false fun z => k4 (V.int.inj z)) ?_
      refine ⟨by show 2 ≤ sizeLine; decide, fun ta na => ?_⟩
      generalize hG : upd G ta _ = G1
      have q1 : Same G G1 := hG ▸ same_new na
      have x1 := (congrFun hG ta).symm.trans upd_same
      clear hG
      refine ⟨by show 2 ≤ sizeLine; decide, fun tb nb => ?_⟩
      generalize hG : upd G1 tb _ = G2
      have q2 : Same G1 G2 := hG ▸ same_new nb
      have x2 := (congrFun hG tb).symm.trans upd_same
      clear hG
      refine ⟨by show 4 ≤ sizeLine; decide, fun tc nc => ?_⟩
      generalize hG : upd G2 tc _ = G3
      have q3 : Same G2 G3 := hG ▸ same_new nc
      have x3 := (congrFun hG tc).symm.trans upd_same
      clear hG
      refine ⟨by show 3 ≤ sizeLine; decide, fun td nd => ?_⟩
      generalize hG : upd G3 td _ = G4
      have q4 : Same G3 G4 := hG ▸ same_new nd
      have x4 := (congrFun hG td).symm.trans upd_same
      clear hG
      refine ⟨by show 4 ≤ sizeLine; decide, fun l nl => ?_⟩
      exact four [0, 1] [2, 3] [0, 1, 2, 3] [1, 2, 4] (by rw [k5]; rfl) ta tb tc td l G4 (q1.trans (q2.trans (q3.trans q4))) ((q2.trans (q3.trans q4)) _ _ x1) ((q3.trans q4) _ _ x2) (q4 _ _ x3) x4 nl
end
end My
set_option maxRecDepth 100000
set_option maxHeartbeats 4000000
set_option exponentiation.threshold 10000
namespace My
open PySem L2
open C8 (pss_cut)
theorem alike_iff {ns ys : List Str} {row : List Int} : alike ns ys row = true ↔ ∀ (j : Nat) z, ys[j]? = some z → decide (z ∈ ns) = decide (((j : Nat) : Int) ∈ row) := by
  unfold alike hasC hasP
  rw [decide_eq_true_iff]
  constructor
  · intro h j z hz
    have e := congrArg (fun l : List Bool => l[j]?) h
    have hj := (List.getElem?_eq_some_iff.mp hz).1
    simp only [List.getElem?_map, hz, List.getElem?_range hj, Option.map_some] at e
    exact Option.some.inj e
  · intro h
    refine List.ext_getElem? fun j => ?_
    rw [List.getElem?_map, List.getElem?_map]
    by_cases hj : j < ys.length
    · rw [List.getElem?_eq_getElem hj, List.getElem?_range hj, Option.map_some, Option.map_some, h j _ (List.getElem?_eq_getElem hj)]
    · rw [List.getElem?_eq_none (by omega), List.getElem?_eq_none (by rw [List.length_range]; omega)]; rfl
section
variable {cs : List Str} {rs : List (List Str)} {k s : Int} {xs : List Int} {ys : List Str}
theorem lies_ks (h : okKS k s = false) : liesB cs rs k s xs ys = false := by unfold liesB; rw [h]; rfl
theorem lies_len (h : ¬ (xs.length = (stdR k s).length ∧ (ys.length : Int) = w2 k s)) : liesB cs rs k s xs ys = false := by unfold liesB; rw [decide_eq_false h]; simp
theorem lies_num {i : Nat} {z : Int} (h : xs[i]? = some z) (hz : z ∉ places rs.length ∨ z ∈ xs.take i) : liesB cs rs k s xs ys = false := by unfold liesB; rw [okNums_no h hz]; simp
theorem stray_ne {j : Nat} {z : Str} (h : ys[j]? = some z) (hz : z ∉ cs ∨ z ∈ ys.take j) : (stray cs ys).isNone = false := by
  cases e : stray cs ys with
  | some i => rfl
  | none =>
    obtain ⟨a, b⟩ := stray_none_iff.mp e
    exfalso
    rcases hz with hz | hz
    · exact hz (a z (List.mem_of_getElem? h))
    · obtain ⟨m, hm, e2⟩ := List.getElem_of_mem hz
      rw [List.length_take] at hm
      obtain ⟨h9, e4⟩ := List.getElem?_eq_some_iff.mp h
      rw [List.nodup_iff_pairwise_ne, List.pairwise_iff_getElem] at b
      refine b m j (by omega) h9 (by omega) ?_
      rw [List.getElem_take] at e2
      rw [e2, e4]
theorem lies_col {j : Nat} {z : Str} (h : ys[j]? = some z) (hz : z ∉ cs ∨ z ∈ ys.take j) : liesB cs rs k s xs ys = false := by unfold liesB; rw [stray_ne h hz]; simp
theorem mem_canon_in {r : List Str} {z : Str} (hr : ∀ z ∈ r, z ∈ cs) : decide (z ∈ canon cs r) = decide (z ∈ r) := decide_eq_decide.mpr ⟨fun h => (mem_canon.mp h).2, fun h => mem_canon.mpr ⟨hr z h, h⟩⟩
theorem lies_pair {i j : Nat} {u : Int} {z : Str} {r : List Str} {row : List Int} (hi : xs[i]? = some u) (hj : ys[j]? = some z) (hr : rs[u.toNat]? = some r) (hin : ∀ z ∈ r, z ∈ cs) (hrow : (stdR k s)[i]? = some row) (h : decide (z ∈ r) ≠ decide (((j : Nat) : Int) ∈ row)) : liesB cs rs k s xs ys = false := by
  have hil := (List.getElem?_eq_some_iff.mp hi).1
  have e : (List.range xs.length).all (rowAlike cs rs k s xs ys) = false := by
    rw [List.all_eq_false]
    refine ⟨i, List.mem_range.mpr hil, ?_⟩
    intro t
    unfold rowAlike at t
    rw [show xs.getD i 0 = u by rw [List.getD_eq_getElem?_getD, hi]; rfl, show rs.getD u.toNat [] = r by rw [List.getD_eq_getElem?_getD, hr]; rfl, show (stdR k s).getD i [] = row by rw [List.getD_eq_getElem?_getD, hrow]; rfl] at t
    have := alike_iff.mp t j z hj
    rw [mem_canon_in hin] at this
    exact h this
  unfold liesB
  rw [e]; simp
theorem lies_yes (h1 : okKS k s = true) (h2 : xs.length = (stdR k s).length ∧ (ys.length : Int) = w2 k s) (h3 : okNums (places rs.length) xs = true) (h4 : stray cs ys = none) (hin : ∀ r ∈ rs, ∀ z ∈ r, z ∈ cs)
    (h5 : ∀ (i j : Nat) u z r row, xs[i]? = some u → ys[j]? = some z → rs[u.toNat]? = some r → (stdR k s)[i]? = some row → decide (z ∈ r) = decide (((j : Nat) : Int) ∈ row)) : liesB cs rs k s xs ys = true := by
  unfold liesB
  rw [h1, decide_eq_true h2, h3, h4]
  show (List.range xs.length).all (rowAlike cs rs k s xs ys) = true
  rw [List.all_eq_true]
  intro i hi
  have hi := List.mem_range.mp hi
  have hu : xs[i]? = some xs[i] := List.getElem?_eq_getElem hi
  have hp : xs[i] ∈ places rs.length := by
    unfold okNums at h3
    rw [Bool.and_eq_true, decide_eq_true_iff] at h3
    exact h3.1 _ (List.getElem_mem hi)
  obtain ⟨p0, p1⟩ := mem_places.mp hp
  have hr : rs[xs[i].toNat]? = some rs[xs[i].toNat] := List.getElem?_eq_getElem (by omega)
  have hrow : (stdR k s)[i]? = some (stdR k s)[i] := List.getElem?_eq_getElem (by omega)
  unfold rowAlike
  rw [show xs.getD i 0 = xs[i] by rw [List.getD_eq_getElem?_getD, hu]; rfl, show rs.getD xs[i].toNat [] = rs[xs[i].toNat] by rw [List.getD_eq_getElem?_getD, hr]; rfl, show (stdR k s).getD i [] = (stdR k s)[i] by rw [List.getD_eq_getElem?_getD, hrow]; rfl]
  rw [alike_iff]
  intro j z hz
  rw [mem_canon_in (hin _ (List.getElem_mem _))]
  exact h5 i j _ z _ _ hu hz hr hrow
end
section
variable {P : Program} {w : World} {K : PySem.W.Frag} {mg : Str → Option Value} {base : Heap} {A : Ad}
def spIsPat (A : Ad) (K : PySem.W.Frag) : Sp := fun vs H Q _ => ∃ (p n r : Addr) (k s : Int) (xs : List Int) (ys cs : List Str) (rts : List Addr) (rs : List (List Str)), vs = [.ref p, .ref n, .ref r] ∧ Pat A.C_Pattern H p k s xs ys ∧ SqL K H n (sv cs) ∧ SqL K H r (rts.map V.ref) ∧ Lss .lst H rts rs ∧ (∀ r ∈ rs, ∀ z ∈ r, z ∈ cs) ∧ rs.length ≤ 48 ∧ xs.length ≤ 1000 ∧ ys.length ≤ 1000 ∧ ∀ H', Same H H' → Q (.bl (liesB cs rs k s xs ys)) H'
theorem ok_isPat (T : Txt P K mg A) : FnOk P w K mg base CX0 2 A.a_law_is_pattern A.d_law_is_pattern ["found", "names", "rows"] (spIsPat A K) := by
  have G_law_is_number := ok_isNum (P := P) (w := w) (base := base) T
  have G_law_width := ok_lwidth (P := P) (w := w) (base := base) T
  have G_law_standard := ok_lstd (P := P) (w := w) (base := base) T
  refine T.F_law_is_pattern.ok sc_law_is_pattern (fun vs H Q E h => ?_) (fun cdv A' outer s0 H vs Q E hr h => ?_)
  · obtain ⟨p, n, r, k, s, xs, ys, cs, rts, rs, rfl, _⟩ := h
    rfl
  · obtain ⟨p, n, r, k, s, xs, ys, cs, rts, rs, rfl, hP, hN, hR, hL, hin, hrl, hxl, hyl, kk⟩ := h
    refine ⟨_, (pss_cons (ps_if (PW.pt (pw_or (pt_not (pt_val (pe_call G_law_is_number (hr.mono (by decide)) rfl T.mg_law_is_number T.F_law_is_number.kp T.b_law_is_number .nil pass0 (pa_cons (pe_fld (pv 0) rfl) (pa_cons pe_int (pa_cons pe_int pa_nil)))))) (pw_or1 (pt_not (pt_val (pe_call G_law_is_number (hr.mono (by decide)) rfl T.mg_law_is_number T.F_law_is_number.kp T.b_law_is_number .nil pass0 (pa_cons (pe_fld (pv 0) rfl) (pa_cons pe_int (pa_cons pe_int pa_nil))))))))) (pss_one (ps_ret pe_bl)) pss_nil)
      (pss_cut (ps_if (PW.pt (pw_or (PW.pt (pw_and (pt_cmpR op_gt (pe_fld (pv 0) rfl) pe_int (nomark _)) (pw_and1 (pt_cmpR op_gt (pe_fld (pv 0) rfl) pe_int (nomark _))))) (pw_or1 (pt_cmpR op_gt (pe_call G_law_width (hr.mono (by decide)) rfl T.mg_law_width T.F_law_width.kp T.b_law_width .nil pass0 (pa_cons (pe_fld (pv 0) rfl) (pa_cons (pe_fld (pv 0) rfl) pa_nil))) pe_int (nomark _))))) (pss_one (ps_ret pe_bl)) pss_nil)
      (pss_cons (ps_set (i := 3) sc_law_is_pattern.nd rfl (Or.inl rfl) (pe_call G_law_standard (hr.mono (by decide)) rfl T.mg_law_standard T.F_law_standard.kp T.b_law_standard .nil pass0 (pa_cons (pe_fld (pv 0) rfl) (pa_cons (pe_fld (pv 0) rfl) pa_nil))))
      (pss_cons (ps_set (i := 4) sc_law_is_pattern.nd rfl (Or.inl rfl) (pe_call G_law_width (hr.mono (by decide)) rfl T.mg_law_width T.F_law_width.kp T.b_law_width .nil pass0 (pa_cons (pe_fld (pv 0) rfl) (pa_cons (pe_fld (pv 0) rfl) pa_nil))))
      (pss_cons (ps_if (PW.pt (pw_or (pt_not (pt_val (pe_callB call_isi (by rfl) T.n_isinstance (by decide +kernel) (pa_cons (pe_fld (pv 0) rfl) (pa_cons (pe_bltn (v := .ty "tuple") (by rfl) T.n_tuple (by decide +kernel) rfl) pa_nil))))) (pw_or1 (pt_not (pt_val (pe_callB call_isi (by rfl) T.n_isinstance (by decide +kernel) (pa_cons (pe_fld (pv 0) rfl) (pa_cons (pe_bltn (v := .ty "tuple") (by rfl) T.n_tuple (by decide +kernel) rfl) pa_nil)))))))) (pss_one (ps_ret pe_bl)) pss_nil)
      (pss_cons (ps_if (PW.pt (pw_or (pt_cmpR op_ne (pe_callB call_len_seq (by rfl) T.n_len (by decide +kernel) (pa_cons (pe_fld (pv 0) rfl) pa_nil)) (pe_callB call_len_seq (by rfl) T.n_len (by decide +kernel) (pa_cons (pv 3) pa_nil)) (nomark _)) (pw_or1 (pt_cmpR op_ne (pe_callB call_len_seq (by rfl) T.n_len (by decide +kernel) (pa_cons (pe_fld (pv 0) rfl) pa_nil)) (pv 4) (nomark _))))) (pss_one (ps_ret pe_bl)) pss_nil)
      (pss_cons (ps_for PassesOwn.never rfl (pi_range1 (by rfl) T.n_range (pa_cons (pe_callB call_len_seq (by rfl) T.n_len (by decide +kernel) (pa_cons (pv 3) pa_nil)) pa_nil)) (pg_name (i := 5) sc_law_is_pattern.nd rfl (Or.inl rfl))
        (pss_one (ps_if (PW.pt (pw_or (pt_not (pt_val (pe_call G_law_is_number (hr.mono (by decide)) rfl T.mg_law_is_number T.F_law_is_number.kp T.b_law_is_number .nil pass0 (pa_cons (pe_ix ix_tup (pe_fld (pv 0) rfl) (pv 5) (fun _ _ => rfl)) (pa_cons pe_int (pa_cons (pe_op op_sub (pe_callB call_len_seq (by rfl) T.n_len (by decide +kernel) (pa_cons (pv 2) pa_nil)) pe_int) pa_nil)))))) (pw_or1 (pt_cmpR op_in_seq (pe_ix ix_tup (pe_fld (pv 0) rfl) (pv 5) (fun _ _ => rfl)) (pe_slice sl_tupA (pe_fld (pv 0) rfl) po_none (po_some (pv 5))) (by with_unfolding_all rfl))))) (pss_one (ps_ret pe_bl)) pss_nil)))
      (pss_cons (ps_for PassesOwn.never rfl (pi_range1 (by rfl) T.n_range (pa_cons (pv 4) pa_nil)) (pg_name (i := 6) sc_law_is_pattern.nd rfl (Or.inl rfl))
        (pss_one (ps_if (PW.pt (pw_or (pt_cmpR op_notIn_seq (pe_ix ix_tup (pe_fld (pv 0) rfl) (pv 6) (fun _ _ => rfl)) (pv 1) (by with_unfolding_all rfl)) (pw_or1 (pt_cmpR op_in_seq (pe_ix ix_tup (pe_fld (pv 0) rfl) (pv 6) (fun _ _ => rfl)) (pe_slice sl_tupA (pe_fld (pv 0) rfl) po_none (po_some (pv 6))) (by with_unfolding_all rfl))))) (pss_one (ps_ret pe_bl)) pss_nil)))
      (pss_cons (ps_for PassesOwn.never rfl (pi_range1 (by rfl) T.n_range (pa_cons (pe_callB call_len_seq (by rfl) T.n_len (by decide +kernel) (pa_cons (pv 3) pa_nil)) pa_nil)) (pg_name (i := 5) sc_law_is_pattern.nd rfl (Or.inl rfl))
        (pss_one (ps_for PassesOwn.never rfl (pi_range1 (by rfl) T.n_range (pa_cons (pv 4) pa_nil)) (pg_name (i := 6) sc_law_is_pattern.nd rfl (Or.inl rfl))
        (pss_one (ps_if (pt_cmpR op_ne (pe_cmpR op_in_seq (pe_ix ix_tup (pe_fld (pv 0) rfl) (pv 6) (fun _ _ => rfl)) (pe_ix ix_list (pv 2) (pe_ix ix_tup (pe_fld (pv 0) rfl) (pv 5) (fun _ _ => rfl)) (fun _ _ => rfl)) (by with_unfolding_all rfl)) (pe_cmpR op_in_seq (pv 6) (pe_ix ix_list (pv 3) (pv 5) (fun _ _ => rfl)) (by with_unfolding_all rfl)) (nomark _)) (pss_one (ps_ret pe_bl)) pss_nil)))))
      (pss_one (ps_ret pe_bl))))))))))), ?_⟩
    obtain ⟨dp, rt, ct, h1, hrt, hct⟩ := id hP
    have no : liesB cs rs k s xs ys = false → ∀ H', Same H H' → Q (.bl false) H' := fun h H' s' => by rw [← h]; exact kk H' s'
    refine ⟨_, rfl, _, _, _, _, _, rfl, h1, T.cl_Pattern, T.n_Pattern_kind, fldsP_kind _ _ _ _, k, 1, 5, rfl, _, rfl, ?_⟩
    by_cases a1 : 1 ≤ k ∧ k ≤ 5
    · refine ifF (by rw [decide_eq_true a1]; rfl) ⟨_, rfl, _, _, _, _, _, rfl, h1, T.cl_Pattern, T.n_Pattern_size, fldsP_size _ _ _ _, s, 1, 10, rfl, _, rfl, ?_⟩
      by_cases a2 : 1 ≤ s ∧ s ≤ 10
      · refine ifF (by rw [decide_eq_true a2]; rfl) ?_
        refine ⟨fun σ G => Same H G ∧ okKS k s = true ∧ σ = [some (.ref p), some (.ref n), some (.ref r), none, none, none, none], ?_, ?_⟩
        · have third : ∀ {G : Hp}, Same H G → lw k s ≤ 12 → ¬ (3 < k ∧ 1 < s) → okKS k s = true := fun _ hw hn => by
            refine okKS_iff.mpr ?_
            unfold lw at hw
            split at hw
            · omega
            · split at hw
              · omega
              · omega
          have noB : 3 < k ∧ 1 < s → okKS k s = false := fun hb => by
            rw [Bool.eq_false_iff]; intro t; have := okKS_iff.mp t; omega
          have noW : 12 < lw k s → okKS k s = false := fun hw => by
            rw [Bool.eq_false_iff]; intro t
            have e := w2_is t
            have := okKS_iff.mp t
            unfold lw at hw
            unfold okKS at t
            rw [decide_eq_true_iff, e] at t
            omega
          refine ⟨_, rfl, _, _, _, _, _, rfl, h1, T.cl_Pattern, T.n_Pattern_kind, fldsP_kind _ _ _ _, _, _, rfl, rfl, _, rfl, ?_⟩
          by_cases b1 : 3 < k
          · refine ifT (decide_eq_true b1) ⟨_, rfl, _, _, _, _, _, rfl, h1, T.cl_Pattern, T.n_Pattern_size, fldsP_size _ _ _ _, _, _, rfl, rfl, _, rfl, ?_⟩
            by_cases b2 : 1 < s
            · exact ifT (decide_eq_true b2) (ifT rfl (no (lies_ks (noB ⟨b1, b2⟩)) _ (Same.refl _)))
            · refine ifF (decide_eq_false b2) ⟨_, rfl, _, _, _, _, _, rfl, h1, T.cl_Pattern, T.n_Pattern_kind, fldsP_kind _ _ _ _, _, rfl, _, _, _, _, _, rfl, h1, T.cl_Pattern, T.n_Pattern_size, fldsP_size _ _ _ _, k, s, rfl, a1.1, a1.2, fun G sG => ⟨_, _, rfl, rfl, _, rfl, ?_⟩⟩
              by_cases b3 : 12 < lw k s
              · exact ifT (decide_eq_true b3) (no (lies_ks (noW b3)) _ sG)
              · exact ifF (decide_eq_false b3) ⟨sG, third sG (by omega) (fun z => b2 z.2), rfl⟩
          · refine ifF (decide_eq_false b1) (ifF rfl ⟨_, rfl, _, _, _, _, _, rfl, h1, T.cl_Pattern, T.n_Pattern_kind, fldsP_kind _ _ _ _, _, rfl, _, _, _, _, _, rfl, h1, T.cl_Pattern, T.n_Pattern_size, fldsP_size _ _ _ _, k, s, rfl, a1.1, a1.2, fun G sG => ⟨_, _, rfl, rfl, _, rfl, ?_⟩⟩)
            by_cases b3 : 12 < lw k s
            · exact ifT (decide_eq_true b3) (no (lies_ks (noW b3)) _ sG)
            · exact ifF (decide_eq_false b3) ⟨sG, third sG (by omega) (fun z => b1 z.1), rfl⟩
        rintro σ G ⟨sG, hok, rfl⟩
        have h1 := sG _ _ h1
        refine ⟨_, rfl, _, _, _, _, _, rfl, h1, T.cl_Pattern, T.n_Pattern_kind, fldsP_kind _ _ _ _, _, rfl, _, _, _, _, _, rfl, h1, T.cl_Pattern, T.n_Pattern_size, fldsP_size _ _ _ _, k, s, rfl, a1.1, a1.2, by omega, a2.2, fun D ts G1 s1 nD hD hts => ?_⟩
        have h1 := s1 _ _ h1
        refine ⟨_, rfl, _, _, _, _, _, rfl, h1, T.cl_Pattern, T.n_Pattern_kind, fldsP_kind _ _ _ _, _, rfl, _, _, _, _, _, rfl, h1, T.cl_Pattern, T.n_Pattern_size, fldsP_size _ _ _ _, k, s, rfl, a1.1, a1.2, fun G2 s2 => ?_⟩
        have s02 := sG.trans (s1.trans s2)
        have h1 := s2 _ _ h1
        have hrt := s02 _ _ hrt
        have hct := s02 _ _ hct
        have hD := s2 _ _ hD
        have hts := hts.same s2
        have hL := hL.same s02
        have hN := s02.seq hN
        have hR := s02.seq hR
        have lt : (ts.map V.ref).length = (stdR k s).length := by rw [List.length_map, hts.len]
        have lr : (rts.map V.ref).length = rs.length := by rw [List.length_map, hL.len]
        have ew := lw_ok hok
        have okb := okKS_iff.mp hok
        have wb : 0 ≤ lw k s ∧ lw k s ≤ 12 := by
          have := hok
          unfold okKS at this
          rw [decide_eq_true_iff, ew] at this
          omega
        clear hP nD s1 s2 sG
        refine ⟨_, rfl, _, _, _, _, _, rfl, h1, T.cl_Pattern, T.n_Pattern_rows, fldsP_rows _ _ _ _, _, _, _, _, true, rfl, .ty _, .base (.tup hrt), kit_ty (by decide +kernel), true, rfl, ifF rfl ?_⟩
        refine ⟨_, rfl, _, _, _, _, _, rfl, h1, T.cl_Pattern, T.n_Pattern_columns, fldsP_columns _ _ _ _, _, _, _, _, true, rfl, .ty _, .base (.tup hct), kit_ty (by decide +kernel), true, rfl, ifF rfl ?_⟩
        refine ⟨_, rfl, _, _, _, _, _, rfl, h1, T.cl_Pattern, T.n_Pattern_rows, fldsP_rows _ _ _ _, rt, _, rfl, .inr (SqT.of hrt), _, rfl, D, _, rfl, .inl (SqL.of hD), rfl, _, rfl, ?_⟩
        by_cases hl1 : xs.length = (stdR k s).length
        · refine ifF (by rw [decide_eq_true (by rw [ivs_len, lt, hl1])]; rfl) ⟨_, rfl, _, _, _, _, _, rfl, h1, T.cl_Pattern, T.n_Pattern_columns, fldsP_columns _ _ _ _, ct, _, rfl, .inr (SqT.of hct), _, rfl, rfl, _, rfl, ?_⟩
          by_cases hl2 : (ys.length : Int) = lw k s
          · refine ifF (by rw [decide_eq_true (by rw [len_sv, hl2])]; rfl) ?_
            have dl := stdR_len hok
            have nl : (((ts.map V.ref).length : Nat) : Int).toNat = xs.length := by rw [lt, Int.toNat_natCast, hl1]
            have wl : (lw k s).toNat = ys.length := by omega
            refine ⟨_, rfl, D, _, rfl, .inl (SqL.of hD), _, rfl, by rw [lt]; omega, by rw [lt]; omega, ?_⟩
            refine for_range (n := (((ts.map V.ref).length : Nat) : Int).toNat) (fun i σ G => Same G2 G ∧ (∀ j, j < i → okNumAt (places rs.length) xs j) ∧ ∃ u5 : Option V, σ = [some (.ref p), some (.ref n), some (.ref r), some (.ref D), some (.int (lw k s)), u5, none]) ⟨Same.refl _, fun j hj => absurd hj (Nat.not_lt_zero _), none, rfl⟩ ?_ ?_
            · rintro i σ G hi ⟨sG, hb, u5, rfl⟩
              rw [nl] at hi
              have hz : xs[i]? = some xs[i] := List.getElem?_eq_getElem hi
              have at1 : atI (ivs xs) (0 + ((i : Nat) : Int)) = some (.int xs[i]) := by rw [Int.zero_add]; exact atI_nat (by rw [List.getElem?_map, hz]; rfl)
              have h1 := sG _ _ h1
              have hrt := sG _ _ hrt
              refine ⟨_, rfl, _, _, _, _, _, rfl, h1, T.cl_Pattern, T.n_Pattern_rows, fldsP_rows _ _ _ _, _, rfl, rt, _, _, _, rfl, rfl, SqT.of hrt, at1, _, rfl, r, _, rfl, .inl (sG.seq hR), _, _, rfl, rfl, xs[i], 0, _, rfl, _, rfl, ?_⟩
              by_cases c1 : 0 ≤ xs[i] ∧ xs[i] ≤ (((rts.map V.ref).length : Nat) : Int) - 1
              · have c1' : xs[i] ∈ places rs.length := mem_places.mpr (by rw [lr] at c1; omega)
                refine ifF (by rw [decide_eq_true c1]; rfl) ⟨_, rfl, _, _, _, _, _, rfl, h1, T.cl_Pattern, T.n_Pattern_rows, fldsP_rows _ _ _ _, _, rfl, rt, _, _, _, rfl, rfl, SqT.of hrt, at1, _, rfl, _, _, _, _, _, rfl, h1, T.cl_Pattern, T.n_Pattern_rows, fldsP_rows _ _ _ _, ?_⟩
                dsimp only [tNoPart]
                refine ⟨_, rfl, _, rfl, slOT (SqT.of hrt) fun q G3 s3 hq => ⟨q, _, rfl, .inr hq, rfl, ?_, _, rfl, ?_⟩⟩
                · rw [Int.zero_add, cut_takeG, ivs_take]; exact flat_iv _
                · rw [if_neg Bool.false_ne_true, Int.zero_add, cut_takeG, ivs_take, inV_int]
                  by_cases c2 : xs[i] ∈ xs.take i
                  · exact ifT (decide_eq_true c2) (no (lies_num hz (.inr c2)) _ (s02.trans (sG.trans s3)))
                  · refine ifF (decide_eq_false c2) ⟨sG.trans s3, fun j hj => ?_, _, rfl⟩
                    rcases Nat.lt_succ_iff_lt_or_eq.mp hj with q2 | q2
                    · exact hb j q2
                    · rw [q2]; intro y hy; rw [hz] at hy; cases hy; exact ⟨c1', c2⟩
              · refine ifT (by rw [decide_eq_false c1]; rfl) (ifT rfl (no (lies_num hz (.inl fun q => c1 ?_)) _ (s02.trans sG)))
                have := mem_places.mp q
                rw [lr]; omega
            rintro σ G ⟨sG, hb, u5, rfl⟩
            have honum : okNums (places rs.length) xs = true := okNums_of fun j hj => hb j (by rw [nl]; exact hj)
            have s03 := s02.trans sG
            have h1 := sG _ _ h1
            have hrt := sG _ _ hrt
            have hct := sG _ _ hct
            have hD := sG _ _ hD
            have hts := hts.same sG
            have hL := hL.same sG
            have hN := sG.seq hN
            have hR := sG.seq hR
            clear hb
            refine ⟨_, rfl, _, rfl, by omega, by omega, ?_⟩
            refine for_range (n := (lw k s).toNat) (fun j σ G9 => Same G G9 ∧ (∀ m, m < j → badAt cs ys m = false) ∧ ∃ u6 : Option V, σ = [some (.ref p), some (.ref n), some (.ref r), some (.ref D), some (.int (lw k s)), u5, u6]) ⟨Same.refl _, fun j hj => absurd hj (Nat.not_lt_zero _), none, rfl⟩ ?_ ?_
            · rintro j σ G9 hj ⟨s9, hb, u6, rfl⟩
              rw [wl] at hj
              have hz : ys[j]? = some ys[j] := List.getElem?_eq_getElem hj
              have at1 : atI (sv ys) (0 + ((j : Nat) : Int)) = some (.str ys[j]) := by rw [Int.zero_add]; exact atI_nat (by rw [List.getElem?_map, hz]; rfl)
              have h1 := s9 _ _ h1
              have hct := s9 _ _ hct
              have bad : badAt cs ys j = (!decide (ys[j] ∈ cs) || decide (ys[j] ∈ ys.take j)) := by unfold badAt; rw [hz]
              refine ⟨_, rfl, _, _, _, _, _, rfl, h1, T.cl_Pattern, T.n_Pattern_columns, fldsP_columns _ _ _ _, _, rfl, ct, _, _, _, rfl, rfl, SqT.of hct, at1, _, rfl, n, _, rfl, .inl (s9.seq hN), rfl, flat_sv _, _, rfl, ?_⟩
              rw [if_pos (rfl : true = true), inV_str]
              by_cases c1 : ys[j] ∈ cs
              · refine ifF (by rw [decide_eq_true c1]; rfl) ⟨_, rfl, _, _, _, _, _, rfl, h1, T.cl_Pattern, T.n_Pattern_columns, fldsP_columns _ _ _ _, _, rfl, ct, _, _, _, rfl, rfl, SqT.of hct, at1, _, rfl, _, _, _, _, _, rfl, h1, T.cl_Pattern, T.n_Pattern_columns, fldsP_columns _ _ _ _, ?_⟩
                dsimp only [tNoPart]
                refine ⟨_, rfl, _, rfl, slOT (SqT.of hct) fun q G3 s3 hq => ⟨q, _, rfl, .inr hq, rfl, ?_, _, rfl, ?_⟩⟩
                · rw [Int.zero_add, cut_takeG, sv_take]; exact flat_sv _
                · rw [if_neg Bool.false_ne_true, Int.zero_add, cut_takeG, sv_take, inV_str]
                  by_cases c2 : ys[j] ∈ ys.take j
                  · exact ifT (decide_eq_true c2) (no (lies_col hz (.inr c2)) _ (s03.trans (s9.trans s3)))
                  · refine ifF (decide_eq_false c2) ⟨s9.trans s3, fun m hm => ?_, _, rfl⟩
                    rcases Nat.lt_succ_iff_lt_or_eq.mp hm with q2 | q2
                    · exact hb m q2
                    · rw [q2, bad, decide_eq_true c1, decide_eq_false c2]; rfl
              · exact ifT (by rw [decide_eq_false c1]; rfl) (ifT rfl (no (lies_col hz (.inl c1)) _ (s03.trans s9)))
            rintro σ G9 ⟨s9, hb, u6, rfl⟩
            have hst : stray cs ys = none := stray_none fun j hj => hb j (by rw [wl]; exact hj)
            have s04 := s03.trans s9
            have h1 := s9 _ _ h1
            have hrt := s9 _ _ hrt
            have hct := s9 _ _ hct
            have hD := s9 _ _ hD
            have hts := hts.same s9
            have hL := hL.same s9
            have hR := s9.seq hR
            clear hb
            refine ⟨_, rfl, D, _, rfl, .inl (SqL.of hD), _, rfl, by rw [lt]; omega, by rw [lt]; omega, ?_⟩
            refine for_range (n := (((ts.map V.ref).length : Nat) : Int).toNat) (fun i σ G8 => G8 = G9 ∧ (∀ (i' j : Nat) u z r row, i' < i → xs[i']? = some u → ys[j]? = some z → rs[u.toNat]? = some r → (stdR k s)[i']? = some row → decide (z ∈ r) = decide (((j : Nat) : Int) ∈ row)) ∧ ∃ u5 u6 : Option V, σ = [some (.ref p), some (.ref n), some (.ref r), some (.ref D), some (.int (lw k s)), u5, u6]) ⟨rfl, fun i' j u z r row hi => absurd hi (Nat.not_lt_zero _), _, _, rfl⟩ ?_ ?_
            · rintro i σ G8 hi ⟨rfl, hall, u5, u6, rfl⟩
              rw [nl] at hi
              have hu : xs[i]? = some xs[i] := List.getElem?_eq_getElem hi
              have hp : xs[i] ∈ places rs.length := by
                unfold okNums at honum
                rw [Bool.and_eq_true, decide_eq_true_iff] at honum
                exact honum.1 _ (List.getElem_mem hi)
              obtain ⟨p0, p1⟩ := mem_places.mp hp
              have hrow : (stdR k s)[i]? = some (stdR k s)[i] := List.getElem?_eq_getElem (by omega)
              obtain ⟨td, htd, htx⟩ := hts.ex hrow
              have hrr : rs[xs[i].toNat]? = some rs[xs[i].toNat] := List.getElem?_eq_getElem (by omega)
              obtain ⟨tr, rr, etr, err, htr⟩ := hL.ex (show xs[i].toNat < rs.length by omega)
              have atx : atI (ivs xs) (0 + ((i : Nat) : Int)) = some (.int xs[i]) := by rw [Int.zero_add]; exact atI_nat (by rw [List.getElem?_map, hu]; rfl)
              have atr : atI (rts.map V.ref) xs[i] = some (.ref tr) := by
                rw [show xs[i] = ((xs[i].toNat : Nat) : Int) by omega]; exact atI_nat (by rw [List.getElem?_map, etr]; rfl)
              have atd : atI (ts.map V.ref) (0 + ((i : Nat) : Int)) = some (.ref td) := by rw [Int.zero_add]; exact atI_nat (by rw [List.getElem?_map, htd]; rfl)
              refine ⟨_, rfl, _, rfl, by omega, by omega, ?_⟩
              refine for_range (n := (lw k s).toNat) (fun j σ G7 => G7 = G8 ∧ (∀ (m : Nat) z, m < j → ys[m]? = some z → decide (z ∈ rr) = decide (((m : Nat) : Int) ∈ (stdR k s)[i])) ∧ ∃ u6 : Option V, σ = [some (.ref p), some (.ref n), some (.ref r), some (.ref D), some (.int (lw k s)), some (.int (0 + ((i : Nat) : Int))), u6]) ⟨rfl, fun m z hm => absurd hm (Nat.not_lt_zero _), _, rfl⟩ ?_ ?_
              · rintro j σ G7 hj ⟨rfl, hb, u6, rfl⟩
                rw [wl] at hj
                have hz : ys[j]? = some ys[j] := List.getElem?_eq_getElem hj
                have aty : atI (sv ys) (0 + ((j : Nat) : Int)) = some (.str ys[j]) := by rw [Int.zero_add]; exact atI_nat (by rw [List.getElem?_map, hz]; rfl)
                refine ⟨_, rfl, _, _, _, _, _, rfl, h1, T.cl_Pattern, T.n_Pattern_columns, fldsP_columns _ _ _ _, _, rfl, ct, _, _, _, rfl, rfl, SqT.of hct, aty, _, rfl, _, rfl, _, _, _, _, _, rfl, h1, T.cl_Pattern, T.n_Pattern_rows, fldsP_rows _ _ _ _, _, rfl, rt, _, _, _, rfl, rfl, SqT.of hrt, atx, r, _, _, _, rfl, rfl, hR, atr, tr, _, rfl, .inl (SqL.of htr), rfl, flat_sv _, ?_⟩
                rw [if_neg Bool.false_ne_true, inV_str]
                refine ⟨_, rfl, _, rfl, _, rfl, D, _, _, _, rfl, rfl, SqL.of hD, atd, td, _, rfl, .inl (SqL.of htx), rfl, flat_iv _, ?_⟩
                rw [if_neg Bool.false_ne_true, Int.zero_add, inV_int, Int.zero_add]
                refine ⟨rfl, _, rfl, ?_⟩
                by_cases e : decide (ys[j] ∈ rr) = decide (((j : Nat) : Int) ∈ (stdR k s)[i])
                · refine ifF (by rw [decide_eq_true (by rw [e])]; rfl) ⟨rfl, fun m z hm hz2 => ?_, _, rfl⟩
                  rcases Nat.lt_succ_iff_lt_or_eq.mp hm with q2 | q2
                  · exact hb m z q2 hz2
                  · subst q2
                    rw [hz] at hz2; cases hz2
                    exact e
                · exact ifT (by rw [decide_eq_false (fun z => e (by injection z))]; rfl) (no (lies_pair hu hz err (hin _ (List.mem_of_getElem? err)) hrow e) _ s04)
              · rintro σ G7 ⟨rfl, hb, u6, rfl⟩
                refine ⟨rfl, fun i' j u z r row hlt e1 e2 e3 e4 => ?_, _, _, rfl⟩
                rcases Nat.lt_succ_iff_lt_or_eq.mp hlt with q2 | q2
                · exact hall i' j u z r row q2 e1 e2 e3 e4
                · subst q2
                  rw [hu] at e1; cases e1
                  rw [err] at e3; cases e3
                  rw [hrow] at e4; cases e4
                  exact hb j z (by rw [wl]; exact (List.getElem?_eq_some_iff.mp e2).1) e2
            rintro σ G8 ⟨rfl, hall, u5, u6, rfl⟩
            have yes := lies_yes (cs := cs) hok ⟨hl1, by rw [ew]; exact hl2⟩ honum hst hin fun i j u z r row e1 e2 e3 e4 => hall i j u z r row (by rw [nl]; exact (List.getElem?_eq_some_iff.mp e1).1) e1 e2 e3 e4
            have := kk _ s04
            rw [yes] at this
            exact this
          · exact ifT (by rw [decide_eq_false (by rw [len_sv]; exact fun z => hl2 (V.int.inj z))]; rfl) (no (lies_len (by rw [ew]; exact fun z => hl2 z.2)) _ s02)
        · exact ifT (by rw [decide_eq_false (by rw [ivs_len, lt]; exact fun z => hl1 (by have := V.int.inj z; omega))]; rfl) (ifT rfl (no (lies_len fun z => hl1 z.1) _ s02))
      · refine ifT (by rw [decide_eq_false a2]; rfl) (no (lies_ks ?_) _ (Same.refl _))
        rw [Bool.eq_false_iff]; intro t; have := okKS_iff.mp t; omega
    · refine ifT (by rw [decide_eq_false a1]; rfl) (ifT rfl (no (lies_ks ?_) _ (Same.refl _)))
      rw [Bool.eq_false_iff]; intro t; have := okKS_iff.mp t; omega
end
end My
set_option maxRecDepth 100000
set_option maxHeartbeats 4000000
set_option exponentiation.threshold 10000
namespace My
open PySem L2
open C8 (pss_cut)
/-- each row of a standard table: places of the table, each once -/
def goodR (k s : Int) : Bool := (stdR k s).all fun row => decide (row ≠ [] ∧ row.Nodup) && row.all fun j => decide (0 ≤ j ∧ j < lw k s)
theorem goodR_all : ∀ k ∈ ([1, 2, 3, 4, 5] : List Int), ∀ s ∈ ([1, 2, 3, 4, 5, 6, 7, 8, 9, 10] : List Int), goodR k s = true := by decide +kernel
theorem stdR_row {k s : Int} (h : okKS k s = true) {row : List Int} (hr : row ∈ stdR k s) : (row ≠ [] ∧ row.Nodup) ∧ ∀ j ∈ row, 0 ≤ j ∧ j < lw k s := by
  have hk := okKS_iff.mp h
  have a : k ∈ ([1, 2, 3, 4, 5] : List Int) := by
    have : k = 1 ∨ k = 2 ∨ k = 3 ∨ k = 4 ∨ k = 5 := by omega
    rcases this with rfl | rfl | rfl | rfl | rfl <;> simp
  have b : s ∈ ([1, 2, 3, 4, 5, 6, 7, 8, 9, 10] : List Int) := by
    have : s = 1 ∨ s = 2 ∨ s = 3 ∨ s = 4 ∨ s = 5 ∨ s = 6 ∨ s = 7 ∨ s = 8 ∨ s = 9 ∨ s = 10 := by omega
    rcases this with rfl | rfl | rfl | rfl | rfl | rfl | rfl | rfl | rfl | rfl <;> simp
  have g := goodR_all k a s b
  unfold goodR at g
  rw [List.all_eq_true] at g
  have := g row hr
  rw [Bool.and_eq_true, decide_eq_true_iff, List.all_eq_true] at this
  exact ⟨this.1, fun j hj => decide_eq_true_iff.mp (this.2 j hj)⟩
/-- the names at these places -/
def pickN (os : List Str) (x : List Int) : List Str := x.map fun j => os.getD j.toNat ""
theorem pickN_nodup {os : List Str} {x : List Int} {n : Int} (h : os.Nodup) (hx : x.Nodup) (hb : ∀ j ∈ x, 0 ≤ j ∧ j < n) (hn : n ≤ os.length) : (pickN os x).Nodup ∧ ∀ z ∈ pickN os x, z ∈ os.take n.toNat := by
  have at_ : ∀ j ∈ x, os[j.toNat]? = some (os.getD j.toNat "") := fun j hj => by
    have := hb j hj
    rw [List.getD_eq_getElem?_getD, List.getElem?_eq_getElem (show j.toNat < os.length by omega)]; rfl
  constructor
  · unfold pickN
    rw [List.nodup_iff_pairwise_ne] at hx ⊢
    rw [List.pairwise_map]
    refine hx.imp_of_mem fun {a b} ha hb2 hne e => ?_
    have ea := at_ a ha
    have eb := at_ b hb2
    rw [e] at ea
    obtain ⟨h1, e1⟩ := List.getElem?_eq_some_iff.mp ea
    obtain ⟨h2, e2⟩ := List.getElem?_eq_some_iff.mp eb
    have ba := hb a ha
    have bb := hb b hb2
    by_cases c : a.toNat = b.toNat
    · exact hne (by omega)
    · rw [List.nodup_iff_pairwise_ne, List.pairwise_iff_getElem] at h
      rcases Nat.lt_or_gt_of_ne c with l | l
      · exact h _ _ h1 h2 l (by rw [e1, e2])
      · exact h _ _ h2 h1 l (by rw [e1, e2])
  · intro z hz
    obtain ⟨j, hj, rfl⟩ := List.mem_map.mp hz
    have b := hb j hj
    obtain ⟨h1, e1⟩ := List.getElem?_eq_some_iff.mp (at_ j hj)
    rw [← e1]
    rw [List.mem_iff_getElem]
    exact ⟨j.toNat, by rw [List.length_take]; omega, by rw [List.getElem_take]⟩
/-- of the first names, a laid row holds just those that the row tells -/
def LaidOk (os : List Str) (wd : Int) (row : List Int) (ms : List Str) : Prop := ∀ (j : Nat) (z : Str), ((j : Nat) : Int) < wd → os[j]? = some z → (z ∈ ms ↔ ((j : Nat) : Int) ∈ row)
theorem nodup_at {os : List Str} (h : os.Nodup) {i j : Nat} {z : Str} (e1 : os[i]? = some z) (e2 : os[j]? = some z) : i = j := by
  obtain ⟨h1, a1⟩ := List.getElem?_eq_some_iff.mp e1
  obtain ⟨h2, a2⟩ := List.getElem?_eq_some_iff.mp e2
  rw [List.nodup_iff_pairwise_ne, List.pairwise_iff_getElem] at h
  rcases Nat.lt_trichotomy i j with l | l | l
  · exact absurd (a1.trans a2.symm) (h _ _ h1 h2 l)
  · exact l
  · exact absurd (a2.trans a1.symm) (h _ _ h2 h1 l)
theorem laid_of {os ms : List Str} {wd : Int} {row : List Int} (nd : os.Nodup) (hb : ∀ j ∈ row, 0 ≤ j ∧ j < wd) (hn : wd ≤ os.length) (h1 : ∀ z ∈ ms, z ∈ pickN os row ∨ z ∈ os.drop wd.toNat) (h2 : ∀ z ∈ pickN os row, z ∈ ms) : LaidOk os wd row ms := by
  have at_ : ∀ j ∈ row, os[j.toNat]? = some (os.getD j.toNat "") := fun j hj => by
    have := hb j hj
    rw [List.getD_eq_getElem?_getD, List.getElem?_eq_getElem (show j.toNat < os.length by omega)]; rfl
  intro j z hj hz
  constructor
  · intro hm
    rcases h1 z hm with h | h
    · obtain ⟨j', hj', e⟩ := List.mem_map.mp h
      have a := at_ j' hj'
      rw [e] at a
      have b := hb j' hj'
      have := nodup_at nd hz a
      rw [show ((j : Nat) : Int) = j' by omega]; exact hj'
    · obtain ⟨m, hm2, e⟩ := List.getElem_of_mem h
      rw [List.length_drop] at hm2
      have a : os[wd.toNat + m]? = some z := by rw [← List.getElem?_drop, List.getElem?_eq_getElem (by rw [List.length_drop]; exact hm2), e]
      have := nodup_at nd hz a
      omega
  · intro hr
    refine h2 z ?_
    have a := at_ _ hr
    rw [Int.toNat_natCast, hz] at a
    exact List.mem_map.mpr ⟨_, hr, by rw [Int.toNat_natCast]; exact (Option.some.inj a).symm⟩
section
variable {P : Program} {w : World} {K : PySem.W.Frag} {mg : Str → Option Value} {base : Heap} {A : Ad}
def spAt (K : PySem.W.Frag) : Sp := fun vs H Q _ => ∃ (a : Addr) (i : Nat) (v : V) (xs : List V), vs = [.ref a, .int (i : Nat), v] ∧ SqL K H a xs ∧ xs.length ≤ 1000 ∧ ∀ c H', Same H H' → H c = none → H' c = some (.lst (xs.take i ++ [v] ++ xs.drop (i + 1))) → Q (.ref c) H'
theorem ok_at (T : Txt P K mg A) : FnOk P w K mg base CX0 1 A.a_law_at A.d_law_at ["things", "i", "thing"] (spAt K) := by
  refine T.F_law_at.ok sc_law_at (fun vs H Q E h => ?_) (fun cdv A' outer s0 H vs Q E hr h => ?_)
  · obtain ⟨a, i, v, xs, rfl, _⟩ := h
    rfl
  · obtain ⟨a, i, v, xs, rfl, hX, hl, kk⟩ := h
    refine ⟨_, (pss_one (ps_ret (pe_op op_cat (pe_op op_cat (pe_slice sl_list (pv 0) po_none (po_some (pv 1))) (pe_lst (pa_cons (pv 2) pa_nil))) (pe_slice sl_list (pv 0) (po_some (pe_op op_add (pv 1) pe_int)) po_none)))), ?_⟩
    refine ⟨_, rfl, ?_⟩
    dsimp only [tNoPart]
    refine ⟨_, rfl, _, rfl, slO hX fun b H1 s1 n1 x1 => ?_⟩
    rw [cut_takeG] at x1
    refine ⟨_, rfl, by show 1 ≤ sizeLine; decide, fun l n2 => ?_⟩
    generalize hG : upd H1 l _ = H2
    have q2 : Same H1 H2 := hG ▸ same_new n2
    have x2 := (congrFun hG l).symm.trans upd_same
    clear hG
    refine catO (q2 _ _ x1) x2 (by rw [List.length_take]; show min i xs.length + 1 ≤ 1000000; omega) fun c H3 s3 n3 x3 => ?_
    have s13 := s1.trans (q2.trans s3)
    refine ⟨_, rfl, _, rfl, _, _, rfl, rfl, _, rfl, ?_⟩
    dsimp only [tNoPart]
    refine slO (s13.seq hX) fun d H4 s4 n4 x4 => ?_
    rw [show ((i : Nat) : Int) + 1 = ((i + 1 : Nat) : Int) by omega, cut_dropG] at x4
    refine catO (s4 _ _ x3) x4 (by rw [List.length_append, List.length_take, List.length_drop]; show min i xs.length + 1 + (xs.length - (i + 1)) ≤ 1000000; omega) fun e H5 s5 n5 x5 => ?_
    exact kk e H5 (s13.trans (s4.trans s5)) (none_of (s13.trans s4) n5) x5
def spTabR (K : PySem.W.Frag) : Sp := fun vs H Q _ => ∃ (o p : Addr) (k s : Int) (os cs : List Str) (ps : List Int), vs = [.ref o, .int k, .int s, .ref p] ∧ SqL K H o (sv os) ∧ SqL K H p (ps.map V.int) ∧ ps.length = 60 ∧ okKS k s = true ∧ os.Perm cs ∧ cs.Nodup ∧ cs.length ≤ 12 ∧ lw k s ≤ cs.length ∧
  ∀ D ts rs H', Same H H' → H D = none → H' D = some (.lst (ts.map V.ref)) → Rows H' D ts cs rs → rs.length = (stdR k s).length → (∀ (i : Nat) row ms, (stdR k s)[i]? = some row → rs[i]? = some ms → LaidOk os (lw k s) row ms) → Q (.ref D) H'
theorem ok_tabR (T : Txt P K mg A) : FnOk P w K mg base CX0 2 A.a_law_table_rows A.d_law_table_rows ["order", "kind", "size", "pool"] (spTabR K) := by
  have G_law_width := ok_lwidth (P := P) (w := w) (base := base) T
  have G_law_standard := ok_lstd (P := P) (w := w) (base := base) T
  refine T.F_law_table_rows.ok sc_law_table_rows (fun vs H Q E h => ?_) (fun cdv A' outer s0 H vs Q E hr h => ?_)
  · obtain ⟨o, p, k, s, os, cs, ps, rfl, _⟩ := h
    rfl
  · obtain ⟨o, p, k, s, os, cs, ps, rfl, hO, hP, hpl, hok, hop, nd, hcl, hwl, kk⟩ := h
    refine ⟨_, (pss_cons (ps_set (i := 4) sc_law_table_rows.nd rfl (Or.inl rfl) (pe_call G_law_width (hr.mono (by decide)) rfl T.mg_law_width T.F_law_width.kp T.b_law_width .nil pass0 (pa_cons (pv 1) (pa_cons (pv 2) pa_nil))))
      (pss_cons (ps_set (i := 5) sc_law_table_rows.nd rfl (Or.inl rfl) (pe_lst pa_nil))
      (pss_cons (ps_for PassesOwn.never rfl (pi_list (pe_call G_law_standard (hr.mono (by decide)) rfl T.mg_law_standard T.F_law_standard.kp T.b_law_standard .nil pass0 (pa_cons (pv 1) (pa_cons (pv 2) pa_nil)))) (pg_name (i := 6) sc_law_table_rows.nd rfl (Or.inl rfl))
        (pss_cons (ps_set (i := 7) sc_law_table_rows.nd rfl (Or.inl rfl) (pe_callTy call_int1 (by rfl) T.n_int (by decide +kernel) (pa_cons (pe_ix ix_list (pv 3) (pe_callB call_len_seq (by rfl) T.n_len (by decide +kernel) (pa_cons (pv 5) pa_nil)) (fun _ _ => rfl)) pa_nil)))
      (pss_cons (ps_setLc (i := 8) (own := [("j", 10)]) (g := gName 10) (tt := tYes) rfl sc_law_table_rows.nd rfl rfl (sw_true rfl rfl rfl (by decide +kernel)) (pi_list (pv 6)) (blkOk_by (N := ["order", "kind", "size", "pool", "width", "made", "row", "draw", "laid", "name", "j"]) (sc := defScope s_law_table_rows) (by decide +kernel)) (fun _ _ _ _ _ => (pg_name (i := 10) sc_law_table_rows.nd rfl (Or.inl rfl))) (fun _ _ _ _ _ => pts_nil) (fun _ _ _ _ _ => (pe_ix (show IxR _ (rIxL K) from ix_list) (pv 0) (pv 10) (fun _ _ => rfl))))
      (pss_cons (ps_for PassesOwn.never rfl (pi_list (pe_slice sl_list (pv 0) (po_some (pv 4)) po_none)) (pg_name (i := 9) sc_law_table_rows.nd rfl (Or.inl rfl))
        (pss_cons (ps_if (pt_cmpR op_eq (pe_op op_mod (pe_callTy call_int1 (by rfl) T.n_int (by decide +kernel) (pa_cons (pv 7) pa_nil)) pe_int) pe_int (nomark _)) (pss_one (ps_set (i := 8) sc_law_table_rows.nd rfl (Or.inl rfl) (pe_op op_cat (pe_lst (pa_cons (pv 9) pa_nil)) (pv 8)))) pss_nil)
      (pss_one (ps_set (i := 7) sc_law_table_rows.nd rfl (Or.inl rfl) (pe_op op_fdiv (pv 7) pe_int)))))
      (pss_one (ps_expr (pe_bm PySem.F.plainAttrs_list PySem.F.slot_list_append PySem.F.type_list_append mt_append (pv 5) (pa_cons (pv 8) pa_nil))))))))
      (pss_one (ps_ret (pv 5)))))), ?_⟩
    have okb := okKS_iff.mp hok
    have dl := stdR_len hok
    refine ⟨_, rfl, _, rfl, k, s, rfl, by omega, by omega, fun H1 s1 => ?_⟩
    refine ⟨by show 0 ≤ sizeLine; decide, fun D nD => ?_⟩
    have q2 := same_new (o := .lst []) nD
    refine ⟨_, rfl, _, rfl, k, s, rfl, by omega, by omega, by omega, by omega, fun SD ts H3 s3 nSD hSD hts => ?_⟩
    have hD3 := s3 _ _ (upd_same (H := H1) (a := D) (o := .lst []))
    have nSD2 : SD ≠ D := fun z => by rw [z, upd_same] at nSD; cases nSD
    have ndo : os.Nodup := hop.nodup_iff.mpr nd
    have ol : os.length = cs.length := hop.length_eq
    have wk : lw k s ≤ os.length := by omega
    have w0 : 0 ≤ lw k s := by
      unfold lw; split
      · omega
      · split
        · omega
        · split <;> omega
    have htn : ∀ t ∈ ts, t ≠ D := fun t ht z => by
      obtain ⟨i, hi, e⟩ := List.getElem_of_mem ht
      obtain ⟨row, hrow, hx⟩ := hts.get (show ts[i]? = some t by rw [List.getElem?_eq_getElem hi, e])
      have hx : H3 t = some (.lst (ivs row)) := hx
      rw [z, hD3] at hx
      have : ivs row = [] := by injection hx with hx; injection hx with hx; exact hx.symm
      exact (stdR_row hok (List.mem_of_getElem? hrow)).1.1 (List.map_eq_nil_iff.mp this)
    have s13 : Same H1 H3 := q2.trans s3
    refine ⟨SD, rfl, ⟨_, SqL.of hSD⟩, for_it walk_list (fun i σ G => Same H1 G ∧ G SD = some (.lst (ts.map V.ref)) ∧ Lz Ll G ts (stdR k s) ∧ ∃ (us : List Addr) (rs : List (List Str)) (u6 u7 u8 u9 u10 : Option V), σ = [some (.ref o), some (.int k), some (.int s), some (.ref p), some (.int (lw k s)), some (.ref D), u6, u7, u8, u9, u10] ∧ G D = some (.lst (us.map V.ref)) ∧ Rows G D us cs rs ∧ rs.length = i ∧ ∀ (i' : Nat) row ms, i' < i → (stdR k s)[i']? = some row → rs[i']? = some ms → LaidOk os (lw k s) row ms) ⟨s13, hSD, hts, [], [], none, none, none, none, none, rfl, hD3, ⟨Lss.nil, (fun t h => nomatch h), (fun t h => nomatch h)⟩, rfl, fun i' row ms h => absurd h (Nat.not_lt_zero _)⟩ (fun i σ G _ q => SqL.of q.2.1) ?_ ?_⟩
    · rintro i x σ G0 G hi ⟨sG, hSG, htG, us, rs, u6, u7, u8, u9, u10, rfl, hDG, hRw, hrl, hld⟩ ⟨rfl, hx⟩
      obtain ⟨t, ht, rfl⟩ := refs_get hx
      obtain ⟨row, hrow, htx⟩ := htG.get ht
      have htx : G t = some (.lst (ivs row)) := htx
      obtain ⟨⟨_, rnd⟩, rb⟩ := stdR_row hok (List.mem_of_getElem? hrow)
      have hil : i < (stdR k s).length := (List.getElem?_eq_some_iff.mp hrow).1
      have ul : us.length = i := by rw [hRw.1.len, hrl]
      obtain ⟨dv, hdv, edv⟩ := atI_ok (xs := ps) (j := ((us.map V.ref).length : Nat)) (by omega) (by rw [List.length_map]; omega)
      have sg := s1.trans sG
      obtain ⟨pnd, psub⟩ := pickN_nodup ndo rnd rb wk
      have rle : row.length ≤ 12 := by
        have := rnd
        have e1 : (pickN os row).length = row.length := by unfold pickN; rw [List.length_map]
        have e2 := nodup_le pnd psub
        rw [List.length_take] at e2
        omega
      refine ⟨_, rfl, _, rfl, D, _, rfl, .inl (SqL.of hDG), p, _, _, _, rfl, rfl, sg.seq hP, edv, .inl ⟨_, rfl, ?_⟩⟩
      refine ⟨_, rfl, t, rfl, ⟨_, SqL.of htx⟩, fun L nL => lc_it walk_list (PvS G L fun m => sv (pickN os (row.take m))) (pv0 nL rfl) (fun m G2 _ q => q.1.seq (SqL.of htx)) ?_ ?_⟩
      · rintro m x G3 G4 hm q ⟨rfl, hx2⟩
        obtain ⟨z, hz, rfl⟩ := ivs_get hx2
        have zb := rb z (List.mem_of_getElem? hz)
        have az : atI (sv os) z = some (.str (os.getD z.toNat "")) := by
          rw [show z = ((z.toNat : Nat) : Int) by omega]
          refine atI_nat ?_
          rw [List.getElem?_map, Int.toNat_natCast, List.getD_eq_getElem?_getD, List.getElem?_eq_getElem (show z.toNat < os.length by omega)]; rfl
        refine ⟨rfl, _, rfl, _, rfl, o, _, _, _, rfl, rfl, (sg.trans q.1).seq hO, az, ?_⟩
        refine q.push nL ?_ ?_
        · show sv (pickN os (row.take (m + 1))) = _
          rw [take_succ hz]; unfold pickN; rw [List.map_append]; exact sv_snoc' _ _
        · show (sv (pickN os (row.take m))).length ≤ 1000000
          rw [len_sv]; unfold pickN; rw [List.length_map, List.length_take]; omega
      rintro G2 ⟨s2, hL2⟩
      have hL2 : G2 L = some (.lst (sv (pickN os (row.take (ivs row).length)))) := hL2
      rw [ivs_len, List.take_length] at hL2
      have hw : lw k s = (((lw k s).toNat : Nat) : Int) := by omega
      refine ⟨_, rfl, _, rfl, _, rfl, ?_⟩
      delta tNoPart
      refine slO ((sg.trans s2).seq hO) fun RL G3 s3 n3 x3 => ?_
      rw [hw, cut_dropG, sv_drop] at x3
      have s23 := s2.trans s3
      have disj : ∀ z ∈ os.drop (lw k s).toNat, z ∉ os.take (lw k s).toNat := fun z hz hz2 => by
        have e : os.take (lw k s).toNat ++ os.drop (lw k s).toNat = os := List.take_append_drop _ _
        rw [← e, List.nodup_append] at ndo
        exact ndo.2.2 z hz2 z hz rfl
      refine ⟨RL, rfl, ⟨_, SqL.of x3⟩, for_it walk_list (fun m σ Gx => Same G3 Gx ∧ ∃ (l : Addr) (ms : List Str) (dd : Int) (u9 u10 : Option V), σ = [some (.ref o), some (.int k), some (.int s), some (.ref p), some (.int (lw k s)), some (.ref D), some (.ref t), some (.int dd), some (.ref l), u9, u10] ∧ Gx l = some (.lst (sv ms)) ∧ G l = none ∧ ms.Nodup ∧ (∀ z ∈ ms, z ∈ pickN os row ∨ z ∈ (os.drop (lw k s).toNat).take m) ∧ ∀ z ∈ pickN os row, z ∈ ms) ⟨Same.refl _, L, pickN os row, dv, u9, u10, rfl, s3 _ _ hL2, nL, pnd, fun z hz => .inl hz, fun z hz => hz⟩ (fun m σ Gx _ q => q.1.seq (SqL.of x3)) ?_ ?_⟩
      · rintro m x σ Gy Gx hm ⟨sx, l, ms, dd, u9, u10, rfl, hl, nl, mnd, msub0, mall⟩ ⟨rfl, hx2⟩
        have msub : ∀ z ∈ ms, z ∈ os.take (lw k s).toNat ∨ z ∈ (os.drop (lw k s).toNat).take m := fun z hz => (msub0 z hz).imp (psub z) id
        obtain ⟨z, hz, rfl⟩ := sv_get hx2
        have zr := List.mem_of_getElem? hz
        have znew : z ∉ ms := fun hzm => by
          rcases msub z hzm with h | h
          · exact disj z zr h
          · have ndr : (os.drop (lw k s).toNat).Nodup := (List.drop_sublist _ _).nodup ndo
            obtain ⟨a, ha, e2⟩ := List.getElem_of_mem h
            rw [List.length_take] at ha
            obtain ⟨h9, e4⟩ := List.getElem?_eq_some_iff.mp hz
            rw [List.nodup_iff_pairwise_ne, List.pairwise_iff_getElem] at ndr
            refine ndr a m (by omega) h9 (by omega) ?_
            rw [List.getElem_take] at e2
            rw [e2, e4]
        have mle : ms.length ≤ 12 := by
          have := nodup_le mnd (m := os) fun y hy => (msub y hy).elim (fun h => List.mem_of_mem_take h) (fun h => List.mem_of_mem_drop (List.mem_of_mem_take h))
          omega
        refine ⟨_, rfl, .inl ⟨_, rfl, _, _, rfl, rfl, by show (0 : Int) < 2; decide, rfl, _, rfl, ite2 (fun hb => ?_) (fun hb => ?_)⟩⟩
        · refine ⟨_, rfl, by show 1 ≤ sizeLine; decide, fun l1 n1 => ?_⟩
          generalize hG : upd Gx l1 _ = Ga
          have qa : Same Gx Ga := hG ▸ same_new n1
          have xa := (congrFun hG l1).symm.trans upd_same
          clear hG
          refine ⟨_, rfl, catO xa (qa _ _ hl) (by rw [len_sv]; show 1 + ms.length ≤ 1000000; omega) fun l2 Gb sb nb xb => ?_⟩
          have sxb := sx.trans (qa.trans sb)
          refine ⟨_, rfl, _, _, rfl, rfl, ⟨by decide, by decide⟩, sxb, l2, z :: ms, _, _, _, rfl, xb, none_of (s23.trans (sx.trans qa)) nb, List.nodup_cons.mpr ⟨znew, mnd⟩, fun y hy => ?_, fun y hy => List.mem_cons_of_mem _ (mall y hy)⟩
          rw [take_succ hz]
          rcases List.mem_cons.mp hy with rfl | hy
          · exact .inr (List.mem_append_right _ (List.mem_singleton.mpr rfl))
          · exact (msub0 y hy).imp id fun h => List.mem_append_left _ h
        · refine ⟨_, rfl, _, _, rfl, rfl, ⟨by decide, by decide⟩, sx, l, ms, _, _, _, rfl, hl, nl, mnd, fun y hy => ?_, mall⟩
          rw [take_succ hz]
          exact (msub0 y hy).imp id fun h => List.mem_append_left _ h
      rintro σ G4 ⟨s4, l, ms, dd, u9', u10', rfl, hl, nl, mnd, msub0, mall⟩
      have msub : ∀ z ∈ ms, z ∈ os.take (lw k s).toNat ∨ z ∈ (os.drop (lw k s).toNat).take (sv (os.drop (lw k s).toNat)).length := fun z hz => (msub0 z hz).imp (psub z) id
      have mlaid : LaidOk os (lw k s) row ms := laid_of ndo rb wk (fun z hz => (msub0 z hz).imp id fun h => List.mem_of_mem_take h) mall
      have sG4 := s23.trans s4
      have hDG := sG4 _ _ hDG
      have mok : RowOk cs ms := ⟨mnd, fun y hy => hop.mem_iff.mp ((msub y hy).elim (fun h => List.mem_of_mem_take h) (fun h => List.mem_of_mem_drop (List.mem_of_mem_take h)))⟩
      have lD : l ≠ D := fun z => by rw [z, ‹G D = some _›] at nl; cases nl
      refine ⟨_, rfl, .inl ⟨rfl, _, SqL.of hDG⟩, _, rfl, D, _, _, rfl, rfl, hDG, small_int (by rw [List.length_map]; omega), ?_⟩
      refine ⟨fun b o e => by rw [upd_ne (ne_of_none e nD)]; exact sG4 _ _ (sG _ _ e), ?_, ?_, us ++ [l], rs ++ [ms], _, _, _, _, _, rfl, by rw [List.map_append]; exact upd_same, hRw.push sG4 hl lD mok, by rw [List.length_append, hrl]; rfl, fun i' row' ms' hlt e1 e2 => ?_⟩
      rotate_right
      · rcases Nat.lt_succ_iff_lt_or_eq.mp hlt with q2 | q2
        · rw [List.getElem?_append_left (by omega)] at e2; exact hld i' row' ms' q2 e1 e2
        · subst q2
          rw [List.getElem?_append_right (by omega), hrl, Nat.sub_self] at e2
          rw [hrow] at e1; cases e1; cases e2; exact mlaid
      · rw [upd_ne nSD2]; exact sG4 _ _ hSG
      · exact ⟨htG.len, fun a u x ea eb => by
          show upd G4 D _ u = _
          rw [upd_ne (htn u (List.mem_of_getElem? ea))]; exact sG4 _ _ (htG.at_ a u x ea eb)⟩
    · rintro σ G ⟨sG, hSG, htG, us, rs, u6, u7, u8, u9, u10, rfl, hDG, hRw, hrl, hld⟩
      exact ⟨_, rfl, kk D us rs G (s1.trans sG) (none_of s1 nD) hDG hRw (by rw [hrl, List.length_map, hts.len]) fun i row ms e1 e2 => hld i row ms (by rw [List.length_map, hts.len]; exact (List.getElem?_eq_some_iff.mp e1).1) e1 e2⟩
end
end My
set_option maxRecDepth 100000
set_option maxHeartbeats 4000000
set_option exponentiation.threshold 10000
namespace My
open PySem L2
open C8 (pss_cut)
/-- a list of at most n things, each as p says -/
def GF {α : Type} (f : α → V) (p : α → Prop) (H : Hp) (a : Addr) (n : Nat) : Prop := ∃ xs : List α, H a = some (.lst (fv f xs)) ∧ xs.length ≤ n ∧ ∀ x ∈ xs, p x
section
variable {α : Type} {f : α → V} {p : α → Prop}
theorem GF.same {H H' : Hp} {a : Addr} {n : Nat} (h : GF f p H a n) (s : Same H H') : GF f p H' a n := let ⟨xs, e, l, q⟩ := h; ⟨xs, s _ _ e, l, q⟩
theorem GF.mono {H : Hp} {a : Addr} {n m : Nat} (h : GF f p H a n) (l : n ≤ m) : GF f p H a m := let ⟨xs, e, k, q⟩ := h; ⟨xs, e, Nat.le_trans k l, q⟩
theorem catF {H : Hp} {a b : Addr} {n m : Nat} {Q : VK} (ha : GF f p H a n) (hb : GF f p H b m) (hl : n + m ≤ 1000) (h : ∀ c H', Same H H' → H c = none → GF f p H' c (n + m) → Q (.ref c) H') : rCat (.ref a) (.ref b) H Q := by
  obtain ⟨xs, e1, l1, q1⟩ := ha
  obtain ⟨ys, e2, l2, q2⟩ := hb
  refine catO e1 e2 (by rw [fv_len, fv_len]; omega) fun c H' s nc hc => h c H' s nc ⟨xs ++ ys, by rw [hc, fv_app], by rw [List.length_append]; omega, fun x hx => (List.mem_append.mp hx).elim (q1 x) (q2 x)⟩
theorem cutF {xs : List α} {lo hi : Option Int} : ∃ ys : List α, cutV (fv f xs) lo hi = fv f ys ∧ ys.length ≤ xs.length ∧ ∀ y ∈ ys, y ∈ xs := by
  unfold cutV
  rw [← List.map_drop, ← List.map_take]
  refine ⟨_, rfl, ?_, fun y hy => List.mem_of_mem_drop (List.mem_of_mem_take hy)⟩
  rw [List.length_take, List.length_drop]; omega
theorem slF {K : PySem.W.Frag} {H : Hp} {a : Addr} {n : Nat} {lo hi : Option Int} {Q : VK} (ha : GF f p H a n) (h : ∀ c H', Same H H' → GF f p H' c n → Q (.ref c) H') : rSlL K (.ref a) lo hi H Q := by
  obtain ⟨xs, e1, l1, q1⟩ := ha
  obtain ⟨ys, e, yl, ym⟩ := cutF (f := f) (xs := xs) (lo := lo) (hi := hi)
  refine slO (SqL.of e1) fun c H' s nc hc => h c H' s ⟨ys, by rw [hc, e], Nat.le_trans yl l1, fun y hy => q1 y (ym y hy)⟩
/-- a comprehension that has come so far -/
def GC (f : α → V) (p : α → Prop) (H1 : Hp) (D : Addr) (i : Nat) (G : Hp) : Prop := Same H1 G ∧ GF f p G D i
theorem gc0 {H1 : Hp} {D : Addr} (hD : H1 D = none) : GC f p H1 D 0 (upd H1 D (.lst [])) := ⟨same_new hD, [], upd_same, Nat.le_refl _, fun x h => nomatch h⟩
theorem GC.push {H1 G : Hp} {D : Addr} {i : Nat} {x : α} (q : GC f p H1 D i G) (hD : H1 D = none) (px : p x) (hi : i ≤ 1000) : ∃ acc, G D = some (.lst acc) ∧ acc.length < sizeLine ∧ GC f p H1 D (i + 1) (upd G D (.lst (acc ++ [f x]))) := by
  obtain ⟨s, xs, e, l, m⟩ := q
  refine ⟨_, e, small_int (by rw [fv_len]; omega), fun b o eb => by rw [upd_ne (ne_of_none eb hD)]; exact s _ _ eb, xs ++ [x], by rw [upd_same, fv_snoc], by rw [List.length_append]; show xs.length + 1 ≤ i + 1; omega, fun y hy => ?_⟩
  rcases List.mem_append.mp hy with h | h
  · exact m y h
  · rw [List.mem_singleton.mp h]; exact px
theorem atF {xs : List α} {j : Int} (h0 : 0 ≤ j) (h1 : j < xs.length) : ∃ z, z ∈ xs ∧ atI (fv f xs) j = some (f z) := by
  have hj : j.toNat < xs.length := by omega
  refine ⟨xs[j.toNat], List.getElem_mem hj, ?_⟩
  have e : (fv f xs)[j.toNat]? = some (f xs[j.toNat]) := by rw [List.getElem?_map, List.getElem?_eq_getElem hj]; rfl
  have := atI_nat e
  rw [show ((j.toNat : Nat) : Int) = j by omega] at this
  exact this
end
abbrev GN (H : Hp) (a : Addr) (n : Nat) : Prop := GF V.int (fun _ => True) H a n
abbrev GS (H : Hp) (a : Addr) (n : Nat) : Prop := GF V.str (fun z => Okz z) H a n
/-- what is told of a pattern: a list of its kind, size, rows, columns -/
def Told (H : Hp) (a : Addr) (k s : Int) (xs : List Int) (ys : List Str) : Prop := ∃ nl cl, H a = some (.lst [.int k, .int s, .ref nl, .ref cl]) ∧ H nl = some (.lst (ivs xs)) ∧ H cl = some (.lst (sv ys))
theorem Told.same {H H' : Hp} {a : Addr} {k s : Int} {xs : List Int} {ys : List Str} (h : Told H a k s xs ys) (e : Same H H') : Told H' a k s xs ys :=
  let ⟨nl, cl, a1, a2, a3⟩ := h; ⟨nl, cl, e _ _ a1, e _ _ a2, e _ _ a3⟩
structure TOk (k s : Int) (xs : List Int) (ys : List Str) : Prop where
  hk : midI k
  hs : midI s
  xl : xs.length ≤ 200
  yl : ys.length ≤ 200
  ok : ∀ y ∈ ys, Okz y
/-- such a list comes -/
abbrev DrawnT (H : Hp) (Q : VK) : Prop := ∀ b k s xs ys H', Same H H' → H b = none → Told H' b k s xs ys → TOk k s xs ys → Q (.ref b) H'
theorem told_of {H G : Hp} {Q : VK} (kk : DrawnT H Q) (sG : Same H G) {k s : Int} (mk : midI k) (ms : midI s) {nl cl l : Addr} (gn : GN G nl 200) (gs : GS G cl 200) (hl : G l = none) : Q (.ref l) (upd G l (.lst [.int k, .int s, .ref nl, .ref cl])) := by
  obtain ⟨xs, e1, l1, _⟩ := gn
  obtain ⟨ys, e2, l2, p2⟩ := gs
  have sl := same_new (o := .lst [V.int k, .int s, .ref nl, .ref cl]) hl
  exact kk l k s xs ys _ (sG.trans sl) (none_of sG hl) ⟨nl, cl, upd_same, sl _ _ e1, sl _ _ e2⟩ ⟨mk, ms, l1, l2, p2⟩
section
variable {P : Program} {w : World} {K : PySem.W.Frag} {mg : Str → Option Value} {base : Heap} {A : Ad}
def spOther (K : PySem.W.Frag) : Sp := fun vs H Q _ => ∃ (a : Addr) (k s : Int) (xs : List Int) (ys : List Str), vs = [.ref a] ∧ Told H a k s xs ys ∧ okKS k s = true ∧ xs.length = (stdR k s).length ∧ (ys.length : Int) = lw k s ∧ (∀ y ∈ ys, Okz y) ∧ DrawnT H Q
theorem ok_other (T : Txt P K mg A) : FnOk P w K mg base CX0 1 A.a_law_other_way A.d_law_other_way ["told"] (spOther K) := by
  refine T.F_law_other_way.ok sc_law_other_way (fun vs H Q E h => ?_) (fun cdv A' outer s0 H vs Q E hr h => ?_)
  · obtain ⟨a, k, s, xs, ys, rfl, _⟩ := h
    rfl
  · obtain ⟨a, k, s, xs, ys, rfl, ⟨nl, cl, ha, hnl, hcl⟩, hok, hxl, hyl, hyo, kk⟩ := h
    refine ⟨_, (pss_cons (ps_set (i := 1) sc_law_other_way.nd rfl (Or.inl rfl) (pe_ix ix_list (pv 0) pe_int (fun _ _ => rfl)))
      (pss_cons (ps_set (i := 2) sc_law_other_way.nd rfl (Or.inr rfl) (pe_ix ix_list (pv 0) pe_int (fun _ _ => rfl)))
      (pss_cons (ps_set (i := 3) sc_law_other_way.nd rfl (Or.inr rfl) (pe_ix ix_list (pv 0) pe_int (fun _ _ => rfl)))
      (pss_cons (ps_set (i := 4) sc_law_other_way.nd rfl (Or.inr rfl) (pe_op op_add (pe_ix ix_list (pv 0) pe_int (fun _ _ => rfl)) pe_int))
      (pss_cons (ps_if (pt_cmpR op_eq (pv 1) pe_int (nomark _)) (pss_one (ps_ret (pe_lst (pa_cons (pv 1) (pa_cons (pe_ix ix_list (pv 0) pe_int (fun _ _ => rfl)) (pa_cons (pe_op op_cat (pe_slice sl_list (pv 2) (po_some pe_int) po_none) (pe_slice sl_list (pv 2) po_none (po_some pe_int))) (pa_cons (pe_op op_cat (pe_slice sl_list (pv 3) (po_some pe_int) po_none) (pe_slice sl_list (pv 3) po_none (po_some pe_int))) pa_nil))))))) pss_nil)
      (pss_cons (ps_if (pt_cmpR op_eq (pv 1) pe_int (nomark _)) (pss_one (ps_ret (pe_lst (pa_cons (pv 1) (pa_cons (pe_ix ix_list (pv 0) pe_int (fun _ _ => rfl)) (pa_cons (pe_op op_cat (pe_op op_cat (pe_slice sl_list (pv 2) (po_some pe_int) (po_some pe_int)) (pe_slice sl_list (pv 2) po_none (po_some pe_int))) (pe_slice sl_list (pv 2) (po_some pe_int) po_none)) (pa_cons (pe_op op_cat (pe_slice sl_list (pv 3) (po_some pe_int) po_none) (pe_slice sl_list (pv 3) po_none (po_some pe_int))) pa_nil))))))) pss_nil)
      (pss_cons (ps_if (pt_cmpR op_eq (pv 1) pe_int (nomark _)) (pss_one (ps_ret (pe_lst (pa_cons (pv 1) (pa_cons (pe_ix ix_list (pv 0) pe_int (fun _ _ => rfl)) (pa_cons (pe_op op_cat (pe_lst (pa_cons (pe_ix ix_list (pv 2) pe_int (fun _ _ => rfl)) (pa_cons (pe_ix ix_list (pv 2) pe_int (fun _ _ => rfl)) pa_nil))) (pe_slice sl_list (pv 2) (po_some pe_int) po_none)) (pa_cons (pe_op op_cat (pe_lc (own := [("k", 7)]) (g := gName 7) (tt := tYes) rfl sc_law_other_way.nd (pi_range1 (by rfl) T.n_range (pa_cons pe_int pa_nil)) (blkOk_by (N := ["told", "kind", "numbers", "columns", "path", "back", "last", "k"]) (sc := defScope s_law_other_way) (by decide +kernel)) (fun _ _ _ _ _ => (pg_name (i := 7) sc_law_other_way.nd rfl (Or.inl rfl))) (fun _ _ _ _ _ => pts_nil) (fun _ _ _ _ _ => (pe_ix (show IxR _ (rIxL K) from ix_list) (pv 3) (pe_op op_sub pe_int (pv 7)) (fun _ _ => rfl)))) (pe_slice sl_list (pv 3) (po_some pe_int) po_none)) pa_nil))))))) pss_nil)
      (pss_cons (ps_setLc (i := 5) (own := [("k", 7)]) (g := gName 7) (tt := tYes) rfl sc_law_other_way.nd rfl rfl (sw_true rfl rfl rfl (by decide +kernel)) (pi_range1 (by rfl) T.n_range (pa_cons (pv 4) pa_nil)) (blkOk_by (N := ["told", "kind", "numbers", "columns", "path", "back", "last", "k"]) (sc := defScope s_law_other_way) (by decide +kernel)) (fun _ _ _ _ _ => (pg_name (i := 7) sc_law_other_way.nd rfl (Or.inl rfl))) (fun _ _ _ _ _ => pts_nil) (fun _ _ _ _ _ => (pe_ix (show IxR _ (rIxL K) from ix_list) (pv 2) (pe_op op_sub (pe_op op_sub (pv 4) pe_int) (pv 7)) (fun _ _ => rfl))))
      (pss_cons (ps_setLc (i := 6) (own := [("k", 7)]) (g := gName 7) (tt := tYes) rfl sc_law_other_way.nd rfl rfl (sw_true rfl rfl rfl (by decide +kernel)) (pi_range1 (by rfl) T.n_range (pa_cons (pe_op op_sub (pe_callB call_len_seq (by rfl) T.n_len (by decide +kernel) (pa_cons (pv 2) pa_nil)) (pv 4)) pa_nil)) (blkOk_by (N := ["told", "kind", "numbers", "columns", "path", "back", "last", "k"]) (sc := defScope s_law_other_way) (by decide +kernel)) (fun _ _ _ _ _ => (pg_name (i := 7) sc_law_other_way.nd rfl (Or.inl rfl))) (fun _ _ _ _ _ => pts_nil) (fun _ _ _ _ _ => (pe_ix (show IxR _ (rIxL K) from ix_list) (pv 2) (pe_op op_sub (pe_op op_sub (pe_callB (show CallR _ _ (rLen2 K) from call_len_seq) (by rfl) T.n_len (by decide +kernel) (pa_cons (pv 2) pa_nil)) pe_int) (pv 7)) (fun _ _ => rfl))))
      (pss_one (ps_ret (pe_lst (pa_cons (pv 1) (pa_cons (pe_ix ix_list (pv 0) pe_int (fun _ _ => rfl)) (pa_cons (pe_op op_cat (pv 5) (pv 6)) (pa_cons (pe_op op_cat (pe_lc (own := [("k", 7)]) (g := gName 7) (tt := tYes) rfl sc_law_other_way.nd (pi_range1 (by rfl) T.n_range (pa_cons (pe_op op_add (pv 4) pe_int) pa_nil)) (blkOk_by (N := ["told", "kind", "numbers", "columns", "path", "back", "last", "k"]) (sc := defScope s_law_other_way) (by decide +kernel)) (fun _ _ _ _ _ => (pg_name (i := 7) sc_law_other_way.nd rfl (Or.inl rfl))) (fun _ _ _ _ _ => pts_nil) (fun _ _ _ _ _ => (pe_ix (show IxR _ (rIxL K) from ix_list) (pv 3) (pe_op op_sub (pv 4) (pv 7)) (fun _ _ => rfl)))) (pe_slice sl_list (pv 3) (po_some (pe_op op_add (pv 4) pe_int)) po_none)) pa_nil)))))))))))))))), ?_⟩
    have okb := okKS_iff.mp hok
    have dl := stdR_len hok
    have mk : midI k := by unfold midI; omega
    have ms : midI s := by unfold midI; omega
    have t0 : atI ([V.int k, .int s, .ref nl, .ref cl] : List V) 0 = some (V.int k) := atI_nat (j := 0) rfl
    have t1 : atI ([V.int k, .int s, .ref nl, .ref cl] : List V) 1 = some (V.int s) := atI_nat (j := 1) rfl
    have t2 : atI ([V.int k, .int s, .ref nl, .ref cl] : List V) 2 = some (V.ref nl) := atI_nat (j := 2) rfl
    have t3 : atI ([V.int k, .int s, .ref nl, .ref cl] : List V) 3 = some (V.ref cl) := atI_nat (j := 3) rfl
    refine ⟨_, rfl, a, _, _, _, rfl, rfl, SqL.of ha, t0, _, rfl, a, _, _, _, rfl, rfl, SqL.of ha, t2, _, rfl, a, _, _, _, rfl, rfl, SqL.of ha, t3, _, rfl, a, _, _, _, rfl, rfl, SqL.of ha, t1, _, _, rfl, rfl, ?_⟩
    have gn : GN H nl 12 := ⟨xs, hnl, by omega, fun _ _ => trivial⟩
    have wl : lw k s ≤ 12 := by
      unfold lw; split
      · omega
      · split
        · omega
        · split <;> omega
    have gs : GS H cl 12 := ⟨ys, hcl, by omega, hyo⟩
    refine ⟨_, rfl, rfl, _, rfl, ?_⟩
    by_cases k1 : k = 1
    · refine ifT (decide_eq_true (by rw [k1])) ?_
      refine ⟨_, rfl, _, rfl, a, _, _, _, rfl, rfl, SqL.of ha, t1, _, rfl, _, rfl, ?_⟩
      dsimp only [tNoPart]
      refine slF gn fun b1 H1 s1 g1 => ⟨_, rfl, ?_⟩
      dsimp only [tNoPart]
      refine ⟨_, rfl, slF (gn.same s1) fun b2 H2 s2 g2 => catF (g1.same s2) g2 (by decide) fun b3 H3 s3 n3 g3 => ⟨_, rfl, _, rfl, ?_⟩⟩
      have s13 := s1.trans (s2.trans s3)
      dsimp only [tNoPart]
      refine slF (gs.same s13) fun b4 H4 s4 g4 => ⟨_, rfl, ?_⟩
      dsimp only [tNoPart]
      refine ⟨_, rfl, slF (gs.same (s13.trans s4)) fun b5 H5 s5 g5 => catF (g4.same s5) g5 (by decide) fun b6 H6 s6 n6 g6 => ⟨by show 4 ≤ sizeLine; decide, fun l hl => ?_⟩⟩
      exact told_of kk (s13.trans (s4.trans (s5.trans s6))) mk ms ((g3.same (s4.trans (s5.trans s6))).mono (by decide)) (g6.mono (by decide)) hl
    refine ifF (decide_eq_false fun z => k1 (V.int.inj z)) ?_
    refine ⟨_, rfl, rfl, _, rfl, ?_⟩
    by_cases k4 : k = 4
    · refine ifT (decide_eq_true (by rw [k4])) ?_
      refine ⟨_, rfl, _, rfl, a, _, _, _, rfl, rfl, SqL.of ha, t1, _, rfl, _, rfl, _, rfl, ?_⟩
      refine slF gn fun b1 H1 s1 g1 => ⟨_, rfl, ?_⟩
      dsimp only [tNoPart]
      refine ⟨_, rfl, slF (gn.same s1) fun b2 H2 s2 g2 => catF (g1.same s2) g2 (by decide) fun b3 H3 s3 n3 g3 => ⟨_, rfl, _, rfl, ?_⟩⟩
      have s13 := s1.trans (s2.trans s3)
      dsimp only [tNoPart]
      refine slF (gn.same s13) fun c4 G4 r4 h4 => catF (g3.same r4) h4 (by decide) fun c5 G5 r5 m5 h5 => ⟨_, rfl, _, rfl, ?_⟩
      have s15 := s13.trans (r4.trans r5)
      dsimp only [tNoPart]
      refine slF (gs.same s15) fun b4 H4 s4 g4 => ⟨_, rfl, ?_⟩
      dsimp only [tNoPart]
      refine ⟨_, rfl, slF (gs.same (s15.trans s4)) fun b5 H5 s5 g5 => catF (g4.same s5) g5 (by decide) fun b6 H6 s6 n6 g6 => ⟨by show 4 ≤ sizeLine; decide, fun l hl => ?_⟩⟩
      exact told_of kk (s15.trans (s4.trans (s5.trans s6))) mk ms ((h5.same (s4.trans (s5.trans s6))).mono (by decide)) (g6.mono (by decide)) hl
    refine ifF (decide_eq_false fun z => k4 (V.int.inj z)) ?_
    refine ⟨_, rfl, rfl, _, rfl, ?_⟩
    by_cases k5 : k = 5
    · refine ifT (decide_eq_true (by rw [k5])) ?_
      have x4 : xs.length = 4 := by rw [hxl, k5]; rfl
      have y5 : ys.length = 5 := by have : lw k s = 5 := by rw [k5]; rfl
                                    omega
      obtain ⟨z1, _, e1⟩ := atF (f := V.int) (xs := xs) (j := 1) (by decide) (by omega)
      obtain ⟨z0, _, e0⟩ := atF (f := V.int) (xs := xs) (j := 0) (by decide) (by omega)
      refine ⟨_, rfl, _, rfl, a, _, _, _, rfl, rfl, SqL.of ha, t1, _, rfl, nl, _, _, _, rfl, rfl, SqL.of hnl, e1, _, rfl, nl, _, _, _, rfl, rfl, SqL.of hnl, e0, by show 2 ≤ sizeLine; decide, fun l1 n1 => ?_⟩
      generalize hG : upd H l1 _ = H1
      have s1 : Same H H1 := hG ▸ same_new n1
      have x1 := (congrFun hG l1).symm.trans upd_same
      clear hG
      have g1 : GN H1 l1 2 := ⟨[z1, z0], x1, Nat.le_refl _, fun _ _ => trivial⟩
      refine ⟨_, rfl, _, rfl, ?_⟩
      dsimp only [tNoPart]
      refine slF (gn.same s1) fun b2 H2 s2 g2 => catF (g1.same s2) g2 (by decide) fun b3 H3 s3 n3 g3 => ?_
      have s13 := s1.trans (s2.trans s3)
      refine ⟨_, rfl, by decide, by decide, fun D nD => lc_it walk_range (GC V.str (fun z => Okz z) H3 D) (gc0 nD) (fun _ _ _ _ => trivial) ?_ ?_⟩
      · rintro i x G0 G hi q ⟨rfl, rfl⟩
        have hi : i < 4 := hi
        obtain ⟨z, hz, e⟩ := atF (f := V.str) (xs := ys) (j := 3 - (0 + ((i : Nat) : Int))) (by omega) (by omega)
        refine ⟨rfl, _, rfl, _, rfl, _, _, rfl, rfl, cl, _, _, _, rfl, rfl, SqL.of ((s13.trans q.1) _ _ hcl), e, q.push nD (hyo z hz) (by omega)⟩
      rintro H4 ⟨s4, g4⟩
      have g4 : GS H4 D 4 := g4
      refine ⟨_, rfl, _, rfl, ?_⟩
      dsimp only [tNoPart]
      refine slF (gs.same (s13.trans s4)) fun b5 H5 s5 g5 => catF (g4.same s5) g5 (by decide) fun b6 H6 s6 n6 g6 => ⟨by show 4 ≤ sizeLine; decide, fun l hl => ?_⟩
      exact told_of kk (s13.trans (s4.trans (s5.trans s6))) mk ms ((g3.same (s4.trans (s5.trans s6))).mono (by decide)) (g6.mono (by decide)) hl
    refine ifF (decide_eq_false fun z => k5 (V.int.inj z)) ?_
    have ks : (k = 2 ∨ k = 3) ∧ 1 ≤ s ∧ s ≤ 9 := by omega
    have xle : s + 1 < xs.length := by
      rw [hxl]
      rcases ks.1 with rfl | rfl
      · unfold stdR; simp [path_len]; omega
      · unfold stdR; simp [path_len]; omega
    have yle : (ys.length : Int) = s + 3 := by
      rw [hyl]; unfold lw; rw [if_neg k1, if_pos ks.1]
    refine ⟨_, rfl, _, rfl, by omega, by omega, fun D nD => lc_it walk_range (GC V.int (fun _ => True) H D) (gc0 nD) (fun _ _ _ _ => trivial) ?_ ?_⟩
    · rintro i x G0 G hi q ⟨rfl, rfl⟩
      have hi : i < (s + 1).toNat := hi
      obtain ⟨z, hz, e⟩ := atF (f := V.int) (xs := xs) (j := s + 1 - 1 - (0 + ((i : Nat) : Int))) (by omega) (by omega)
      exact ⟨rfl, _, rfl, _, rfl, _, _, rfl, rfl, _, rfl, _, _, rfl, rfl, nl, _, _, _, rfl, rfl, SqL.of (q.1 _ _ hnl), e, q.push nD trivial (by omega)⟩
    rintro H1 ⟨s1, g1⟩
    have g1 : GN H1 D (s + 1).toNat := g1
    refine ⟨_, rfl, nl, _, rfl, .inl (SqL.of (s1 _ _ hnl)), _, rfl, _, _, rfl, rfl, _, rfl, by rw [ivs_len]; omega, by rw [ivs_len]; omega, fun D2 nD2 => lc_it walk_range (GC V.int (fun _ => True) H1 D2) (gc0 nD2) (fun _ _ _ _ => trivial) ?_ ?_⟩
    · rintro i x G0 G hi q ⟨rfl, rfl⟩
      rw [ivs_len] at hi
      obtain ⟨z, hz, e⟩ := atF (f := V.int) (xs := xs) (j := ((ivs xs).length : Int) - 1 - (0 + ((i : Nat) : Int))) (by rw [ivs_len]; omega) (by rw [ivs_len]; omega)
      have hn2 := (s1.trans q.1) _ _ hnl
      exact ⟨rfl, _, rfl, _, rfl, nl, _, rfl, .inl (SqL.of hn2), _, _, rfl, rfl, _, rfl, _, _, rfl, rfl, nl, _, _, _, rfl, rfl, SqL.of hn2, e, q.push nD2 trivial (by omega)⟩
    rintro H2 ⟨s2, g2⟩
    rw [ivs_len] at g2
    have s12 := s1.trans s2
    refine ⟨_, rfl, _, rfl, a, _, _, _, rfl, rfl, SqL.of (s12 _ _ ha), t1, _, rfl, _, rfl, catF (g1.same s2) (g2.mono (m := 13) (by omega)) (by omega) fun b3 H3 s3 n3 g3 => ?_⟩
    have s13 := s12.trans s3
    refine ⟨_, rfl, _, _, rfl, rfl, _, rfl, by omega, by omega, fun D3 nD3 => lc_it walk_range (GC V.str (fun z => Okz z) H3 D3) (gc0 nD3) (fun _ _ _ _ => trivial) ?_ ?_⟩
    · rintro i x G0 G hi q ⟨rfl, rfl⟩
      have hi : i < (s + 1 + 1).toNat := hi
      obtain ⟨z, hz, e⟩ := atF (f := V.str) (xs := ys) (j := s + 1 - (0 + ((i : Nat) : Int))) (by omega) (by omega)
      exact ⟨rfl, _, rfl, _, rfl, _, rfl, _, _, rfl, rfl, cl, _, _, _, rfl, rfl, SqL.of ((s13.trans q.1) _ _ hcl), e, q.push nD3 (hyo z hz) (by omega)⟩
    rintro H4 ⟨s4, g4⟩
    have g4 : GS H4 D3 (s + 1 + 1).toNat := g4
    refine ⟨_, rfl, _, rfl, _, _, rfl, rfl, _, rfl, ?_⟩
    dsimp only [tNoPart]
    refine slF (gs.same (s13.trans s4)) fun b5 H5 s5 g5 => catF (g4.same s5) g5 (by omega) fun b6 H6 s6 n6 g6 => ⟨by show 4 ≤ sizeLine; decide, fun l hl => ?_⟩
    exact told_of kk (s13.trans (s4.trans (s5.trans s6))) mk ms ((g3.same (s4.trans (s5.trans s6))).mono (by omega)) (g6.mono (by omega)) hl
end
end My
set_option maxRecDepth 100000
set_option maxHeartbeats 4000000
set_option exponentiation.threshold 10000
namespace My
open PySem L2
open C8 (pss_cut)
theorem okz_stranger : Okz ("stranger" : Str) := by decide +kernel
section
variable {P : Program} {w : World} {K : PySem.W.Frag} {mg : Str → Option Value} {base : Heap} {A : Ad}
def spFreeP (K : PySem.W.Frag) : Sp := fun vs H Q _ => ∃ (n r p : Addr) (cs : List Str) (rts : List V) (ps : List Int), vs = [.ref n, .ref r, .ref p] ∧ H n = some (.lst (sv cs)) ∧ (∀ z ∈ cs, Okz z) ∧ cs.length ≤ 12 ∧ SqL K H r rts ∧ rts.length ≤ 48 ∧ SqL K H p (ps.map V.int) ∧ ps.length = 60 ∧ DrawnT H Q
theorem ok_freeP (T : Txt P K mg A) : FnOk P w K mg base CX0 1 A.a_law_free A.d_law_free ["names", "rows", "pool"] (spFreeP K) := by
  refine T.F_law_free.ok sc_law_free (fun vs H Q E h => ?_) (fun cdv A' outer s0 H vs Q E hr h => ?_)
  · obtain ⟨n, r, p, cs, rts, ps, rfl, _⟩ := h
    rfl
  · obtain ⟨n, r, p, cs, rts, ps, rfl, hN, hok, hcl, hR, hrl, hP, hpl, kk⟩ := h
    refine ⟨_, (pss_cons (ps_set (i := 3) sc_law_free.nd rfl (Or.inr rfl) (pe_op op_cat (pv 0) (pe_lst (pa_cons pe_str pa_nil))))
      (pss_cons (ps_setLc (i := 4) (own := [("i", 6)]) (g := gName 6) (tt := tYes) rfl sc_law_free.nd rfl rfl (sw_true rfl rfl rfl (by decide +kernel)) (pi_range1 (by rfl) T.n_range (pa_cons (pe_op op_mod (pe_callTy call_int1 (by rfl) T.n_int (by decide +kernel) (pa_cons (pe_ix ix_list (pv 2) pe_int (fun _ _ => rfl)) pa_nil)) pe_int) pa_nil)) (blkOk_by (N := ["names", "rows", "pool", "known", "numbers", "columns", "i"]) (sc := defScope s_law_free) (by decide +kernel)) (fun _ _ _ _ _ => (pg_name (i := 6) sc_law_free.nd rfl (Or.inl rfl))) (fun _ _ _ _ _ => pts_nil) (fun _ _ _ _ _ => (pe_op op_sub (pe_op op_mod (pe_callTy call_int1 (by rfl) T.n_int (by decide +kernel) (pa_cons (pe_ix (show IxR _ (rIxL K) from ix_list) (pv 2) (pe_op op_add pe_int (pv 6)) (fun _ _ => rfl)) pa_nil)) (pe_op op_add (pe_callB (show CallR _ _ (rLen2 K) from call_len_seq) (by rfl) T.n_len (by decide +kernel) (pa_cons (pv 1) pa_nil)) pe_int)) pe_int)))
      (pss_cons (ps_setLc (i := 5) (own := [("i", 6)]) (g := gName 6) (tt := tYes) rfl sc_law_free.nd rfl rfl (sw_true rfl rfl rfl (by decide +kernel)) (pi_range1 (by rfl) T.n_range (pa_cons (pe_op op_mod (pe_callTy call_int1 (by rfl) T.n_int (by decide +kernel) (pa_cons (pe_op op_fdiv (pe_ix ix_list (pv 2) pe_int (fun _ _ => rfl)) pe_int) pa_nil)) pe_int) pa_nil)) (blkOk_by (N := ["names", "rows", "pool", "known", "numbers", "columns", "i"]) (sc := defScope s_law_free) (by decide +kernel)) (fun _ _ _ _ _ => (pg_name (i := 6) sc_law_free.nd rfl (Or.inl rfl))) (fun _ _ _ _ _ => pts_nil) (fun _ _ _ _ _ => (pe_ix (show IxR _ (rIxL K) from ix_list) (pv 3) (pe_op op_mod (pe_callTy call_int1 (by rfl) T.n_int (by decide +kernel) (pa_cons (pe_op op_fdiv (pe_ix (show IxR _ (rIxL K) from ix_list) (pv 2) (pe_op op_add pe_int (pv 6)) (fun _ _ => rfl)) pe_int) pa_nil)) (pe_callB (show CallR _ _ (rLen2 K) from call_len_seq) (by rfl) T.n_len (by decide +kernel) (pa_cons (pv 3) pa_nil))) (fun _ _ => rfl))))
      (pss_one (ps_ret (pe_lst (pa_cons (pe_op op_sub (pe_op op_mod (pe_callTy call_int1 (by rfl) T.n_int (by decide +kernel) (pa_cons (pe_ix ix_list (pv 2) pe_int (fun _ _ => rfl)) pa_nil)) pe_int) pe_int) (pa_cons (pe_op op_mod (pe_callTy call_int1 (by rfl) T.n_int (by decide +kernel) (pa_cons (pe_ix ix_list (pv 2) pe_int (fun _ _ => rfl)) pa_nil)) pe_int) (pa_cons (pv 4) (pa_cons (pv 5) pa_nil)))))))))), ?_⟩
    obtain ⟨v5, _, e5⟩ := atI_ok (xs := ps) (j := 5) (by omega) (by omega)
    obtain ⟨v6, _, e6⟩ := atI_ok (xs := ps) (j := 6) (by omega) (by omega)
    obtain ⟨v7, _, e7⟩ := atI_ok (xs := ps) (j := 7) (by omega) (by omega)
    have mm : ∀ a q : Int, (0 : Int) < q → 0 ≤ a % q ∧ a % q < q := fun a q hq => ⟨Int.emod_nonneg _ (by omega), Int.emod_lt_of_pos _ hq⟩
    have m7 := mm v7 13 (by decide)
    have m7' := mm (v7 / 13) 13 (by decide)
    have m5 := mm v5 9 (by decide)
    have m6 := mm v6 12 (by decide)
    refine ⟨_, rfl, by show 1 ≤ sizeLine; decide, fun l1 n1 => ?_⟩
    generalize hG : upd H l1 _ = H1
    have s1 : Same H H1 := hG ▸ same_new n1
    have x1 := (congrFun hG l1).symm.trans upd_same
    clear hG
    refine catO (s1 _ _ hN) x1 (by rw [len_sv]; show cs.length + 1 ≤ 1000000; omega) fun kn H2 s2 n2 x2 => ?_
    have x2 : H2 kn = some (.lst (sv (cs ++ [("stranger" : Str)]))) := by rw [x2, ← sv_app]; rfl
    have s12 := s1.trans s2
    have okn : ∀ z ∈ cs ++ [("stranger" : Str)], Okz z := fun z hz => by
      rcases List.mem_append.mp hz with h | h
      · exact hok z h
      · rw [List.mem_singleton.mp h]; exact okz_stranger
    have kl : (cs ++ [("stranger" : Str)]).length = cs.length + 1 := by rw [List.length_append]; rfl
    refine ⟨_, rfl, p, _, _, _, rfl, rfl, s12.seq hP, e7, .inl ⟨_, rfl, _, _, rfl, rfl, by show (0 : Int) < 13; decide, _, rfl, by omega, by omega, fun D nD => lc_it walk_range (GC V.int (fun _ => True) H2 D) (gc0 nD) (fun _ _ _ _ => trivial) ?_ ?_⟩⟩
    · rintro i x G0 G hi q ⟨rfl, rfl⟩
      have hi : i < (v7 % 13).toNat := hi
      obtain ⟨z, _, e⟩ := atI_ok (xs := ps) (j := 8 + (0 + ((i : Nat) : Int))) (by omega) (by omega)
      have sg := s12.trans q.1
      refine ⟨rfl, _, rfl, _, rfl, _, _, rfl, rfl, p, _, _, _, rfl, rfl, sg.seq hP, e, .inl ⟨_, rfl, _, rfl, r, _, rfl, .inl (sg.seq hR), _, _, rfl, rfl, _, _, rfl, rfl, by show (0 : Int) < (rts.length : Int) + 2; omega, _, _, rfl, rfl, q.push nD trivial (by omega)⟩⟩
    rintro H3 ⟨s3, g3⟩
    have g3 : GN H3 D (v7 % 13).toNat := g3
    have s13 := s12.trans s3
    refine ⟨_, rfl, p, _, _, _, rfl, rfl, s13.seq hP, e7, _, _, rfl, rfl, ⟨by decide, by decide⟩, .inl ⟨_, rfl, _, _, rfl, rfl, by show (0 : Int) < 13; decide, _, rfl, by omega, by omega, fun D2 nD2 => lc_it walk_range (GC V.str (fun z => Okz z) H3 D2) (gc0 nD2) (fun _ _ _ _ => trivial) ?_ ?_⟩⟩
    · rintro i x G0 G hi q ⟨rfl, rfl⟩
      have hi : i < (v7 / 13 % 13).toNat := hi
      obtain ⟨z, _, e⟩ := atI_ok (xs := ps) (j := 8 + (0 + ((i : Nat) : Int))) (by omega) (by omega)
      have sg := s13.trans q.1
      have x2g := (s3.trans q.1) _ _ x2
      have kp : (0 : Int) < (((sv (cs ++ [("stranger" : Str)])).length : Nat) : Int) := by rw [len_sv, kl]; omega
      have mk := mm (z / 50) _ kp
      obtain ⟨y, hy, ey⟩ := atF (f := V.str) (xs := cs ++ [("stranger" : Str)]) (j := z / 50 % (((sv (cs ++ [("stranger" : Str)])).length : Nat) : Int)) mk.1 (by have := mk.2; rw [len_sv] at this ⊢; exact this)
      exact ⟨rfl, _, rfl, _, rfl, _, rfl, _, _, rfl, rfl, p, _, _, _, rfl, rfl, sg.seq hP, e, _, _, rfl, rfl, ⟨by decide, by decide⟩, .inl ⟨_, rfl, _, rfl, kn, _, rfl, .inl (SqL.of x2g), _, _, rfl, rfl, kp, kn, _, _, _, rfl, rfl, SqL.of x2g, ey, q.push nD2 (okn y hy) (by omega)⟩⟩
    rintro H4 ⟨s4, g4⟩
    have g4 : GS H4 D2 (v7 / 13 % 13).toNat := g4
    have s14 := s13.trans s4
    refine ⟨_, rfl, p, _, _, _, rfl, rfl, s14.seq hP, e5, .inl ⟨_, rfl, _, _, rfl, rfl, by show (0 : Int) < 9; decide, _, _, rfl, rfl, _, rfl, p, _, _, _, rfl, rfl, s14.seq hP, e6, .inl ⟨_, rfl, _, _, rfl, rfl, by show (0 : Int) < 12; decide, _, rfl, _, rfl, by show 4 ≤ sizeLine; decide, fun l hl => ?_⟩⟩⟩
    exact told_of kk s14 (by unfold midI; omega) (by unfold midI; omega) ((g3.same s4).mono (by omega)) (g4.mono (by omega)) hl
end
end My
set_option maxRecDepth 100000
set_option maxHeartbeats 16000000
set_option exponentiation.threshold 10000
namespace My
open PySem L2
open C8 (pss_cut)
/-- a list of just n things -/
def GX {α : Type} (f : α → V) (p : α → Prop) (H : Hp) (a : Addr) (n : Nat) : Prop := ∃ xs : List α, H a = some (.lst (fv f xs)) ∧ xs.length = n ∧ ∀ x ∈ xs, p x
theorem GX.same {α : Type} {f : α → V} {p : α → Prop} {H H' : Hp} {a : Addr} {n : Nat} (h : GX f p H a n) (s : Same H H') : GX f p H' a n := let ⟨xs, e, l, q⟩ := h; ⟨xs, s _ _ e, l, q⟩
theorem GX.gf {α : Type} {f : α → V} {p : α → Prop} {H : Hp} {a : Addr} {n : Nat} (h : GX f p H a n) : GF f p H a n := let ⟨xs, e, l, q⟩ := h; ⟨xs, e, Nat.le_of_eq l, q⟩
abbrev NX (H : Hp) (a : Addr) (n : Nat) : Prop := GX V.int (fun _ => True) H a n
abbrev SX (H : Hp) (a : Addr) (n : Nat) : Prop := GX V.str (fun z => Okz z) H a n
theorem set_len {α : Type} {l : List α} {i : Nat} {z : α} (h : i < l.length) : (l.take i ++ [z] ++ l.drop (i + 1)).length = l.length := by
  rw [List.length_append, List.length_append, List.length_take, List.length_drop]
  show min i l.length + 1 + (l.length - (i + 1)) = l.length
  omega
theorem set_ok {α : Type} {p : α → Prop} {l : List α} {i : Nat} {z : α} (h : ∀ x ∈ l, p x) (hz : p z) : ∀ x ∈ l.take i ++ [z] ++ l.drop (i + 1), p x := fun x hx => by
  rcases List.mem_append.mp hx with h1 | h1
  · rcases List.mem_append.mp h1 with h2 | h2
    · exact h x (List.mem_of_mem_take h2)
    · rw [List.mem_singleton.mp h2]; exact hz
  · exact h x (List.mem_of_mem_drop h1)
/-- one thing of a list put anew -/
theorem at_in {α : Type} {f : α → V} {p : α → Prop} {H : Hp} {a : Addr} {i n : Nat} {z : α} (h : GX f p H a n) (hi : i < n) (hn : n ≤ 100) (hz : p z) : ∃ xs : List V, H a = some (.lst xs) ∧ xs.length ≤ 1000 ∧ ∀ c H', H' c = some (.lst (xs.take i ++ [f z] ++ xs.drop (i + 1))) → GX f p H' c n := by
  obtain ⟨xs, e, l, q⟩ := h
  refine ⟨fv f xs, e, by rw [fv_len]; omega, fun c H' hc => ⟨xs.take i ++ [z] ++ xs.drop (i + 1), ?_, by rw [set_len (by omega)]; exact l, set_ok q hz⟩⟩
  rw [hc, fv_take, fv_drop, ← fv_app, ← fv_app]; rfl
/-- and read -/
theorem GX.at_ {α : Type} {f : α → V} {p : α → Prop} {H : Hp} {a : Addr} {i n : Nat} (h : GX f p H a n) (hi : i < n) : ∃ xs z, H a = some (.lst (fv f xs)) ∧ p z ∧ atI (fv f xs) ((i : Nat) : Int) = some (f z) := by
  obtain ⟨xs, e, l, q⟩ := h
  obtain ⟨z, hz, ez⟩ := atF (f := f) (xs := xs) (j := ((i : Nat) : Int)) (by omega) (by omega)
  exact ⟨xs, z, e, q z hz, ez⟩
section
variable {P : Program} {w : World} {K : PySem.W.Frag} {mg : Str → Option Value} {base : Heap} {A : Ad}
def spSpoil (K : PySem.W.Frag) : Sp := fun vs H Q _ => ∃ (a n r p : Addr) (k s : Int) (xs : List Int) (ys cs : List Str) (rts : List V) (ps : List Int), vs = [.ref a, .ref n, .ref r, .ref p] ∧ Told H a k s xs ys ∧ okKS k s = true ∧ xs.length = (stdR k s).length ∧ (ys.length : Int) = lw k s ∧ (∀ y ∈ ys, Okz y) ∧ H n = some (.lst (sv cs)) ∧ (∀ z ∈ cs, Okz z) ∧ 1 ≤ cs.length ∧ cs.length ≤ 12 ∧ SqL K H r rts ∧ 1 ≤ rts.length ∧ rts.length ≤ 48 ∧ SqL K H p (ps.map V.int) ∧ ps.length = 60 ∧ DrawnT H Q
theorem ok_spoil (T : Txt P K mg A) : FnOk P w K mg base CX0 2 A.a_law_spoiled A.d_law_spoiled ["told", "names", "rows", "pool"] (spSpoil K) := by
  have G_law_free := ok_freeP (P := P) (w := w) (base := base) T
  have G_law_other_way := ok_other (P := P) (w := w) (base := base) T
  have G_law_at := ok_at (P := P) (w := w) (base := base) T
  have G_law_order := fnok_or (ok_orderF V.int (P := P) (w := w) (base := base) T) (ok_orderF V.str (P := P) (w := w) (base := base) T)
  refine T.F_law_spoiled.ok sc_law_spoiled (fun vs H Q E h => ?_) (fun cdv A' outer s0 H vs Q E hr h => ?_)
  · obtain ⟨a, n, r, p, k, s, xs, ys, cs, rts, ps, rfl, _⟩ := h
    rfl
  · obtain ⟨a, n, r, p, k, s, xs, ys, cs, rts, ps, rfl, hTd, hok, hxl, hyl, hyo, hN, hco, hc1, hcl, hR, hr1, hrl, hP, hpl, kk⟩ := h
    refine ⟨_, (pss_cons (ps_set (i := 4) sc_law_spoiled.nd rfl (Or.inl rfl) (pe_ix ix_list (pv 0) pe_int (fun _ _ => rfl)))
      (pss_cons (ps_set (i := 5) sc_law_spoiled.nd rfl (Or.inl rfl) (pe_ix ix_list (pv 0) pe_int (fun _ _ => rfl)))
      (pss_cons (ps_set (i := 6) sc_law_spoiled.nd rfl (Or.inl rfl) (pe_ix ix_list (pv 0) pe_int (fun _ _ => rfl)))
      (pss_cons (ps_set (i := 7) sc_law_spoiled.nd rfl (Or.inl rfl) (pe_ix ix_list (pv 0) pe_int (fun _ _ => rfl)))
      (pss_cons (ps_set (i := 8) sc_law_spoiled.nd rfl (Or.inl rfl) (pe_op op_mod (pe_callTy call_int1 (by rfl) T.n_int (by decide +kernel) (pa_cons (pe_ix ix_list (pv 3) pe_int (fun _ _ => rfl)) pa_nil)) pe_int))
      (pss_cons (ps_if (pt_cmpR op_eq (pv 8) pe_int (nomark _)) (pss_one (ps_ret (pe_call G_law_free (hr.mono (by decide)) rfl T.mg_law_free T.F_law_free.kp T.b_law_free .nil pass0 (pa_cons (pv 1) (pa_cons (pv 2) (pa_cons (pv 3) pa_nil)))))) pss_nil)
      (pss_cons (ps_if (pt_cmpR op_gt (pv 8) pe_int (nomark _)) (pss_one (ps_ret (pe_call G_law_other_way (hr.mono (by decide)) rfl T.mg_law_other_way T.F_law_other_way.kp T.b_law_other_way .nil pass0 (pa_cons (pv 0) pa_nil)))) pss_nil)
      (pss_cons (ps_set (i := 9) sc_law_spoiled.nd rfl (Or.inl rfl) (pe_op op_mod (pe_callTy call_int1 (by rfl) T.n_int (by decide +kernel) (pa_cons (pe_ix ix_list (pv 3) pe_int (fun _ _ => rfl)) pa_nil)) (pe_callB call_len_seq (by rfl) T.n_len (by decide +kernel) (pa_cons (pv 6) pa_nil))))
      (pss_cons (ps_set (i := 10) sc_law_spoiled.nd rfl (Or.inl rfl) (pe_op op_mod (pe_callTy call_int1 (by rfl) T.n_int (by decide +kernel) (pa_cons (pe_ix ix_list (pv 3) pe_int (fun _ _ => rfl)) pa_nil)) (pe_callB call_len_seq (by rfl) T.n_len (by decide +kernel) (pa_cons (pv 6) pa_nil))))
      (pss_cons (ps_set (i := 11) sc_law_spoiled.nd rfl (Or.inl rfl) (pe_op op_mod (pe_callTy call_int1 (by rfl) T.n_int (by decide +kernel) (pa_cons (pe_ix ix_list (pv 3) pe_int (fun _ _ => rfl)) pa_nil)) (pe_callB call_len_seq (by rfl) T.n_len (by decide +kernel) (pa_cons (pv 7) pa_nil))))
      (pss_cons (ps_set (i := 12) sc_law_spoiled.nd rfl (Or.inl rfl) (pe_op op_mod (pe_callTy call_int1 (by rfl) T.n_int (by decide +kernel) (pa_cons (pe_ix ix_list (pv 3) pe_int (fun _ _ => rfl)) pa_nil)) (pe_callB call_len_seq (by rfl) T.n_len (by decide +kernel) (pa_cons (pv 7) pa_nil))))
      (pss_cut (ps_if (pt_cmpR op_eq (pv 8) pe_int (nomark _)) (pss_one (ps_set (i := 6) sc_law_spoiled.nd rfl (Or.inl rfl) (pe_call G_law_at (hr.mono (by decide)) rfl T.mg_law_at T.F_law_at.kp T.b_law_at .nil pass0 (pa_cons (pe_call G_law_at (hr.mono (by decide)) rfl T.mg_law_at T.F_law_at.kp T.b_law_at .nil pass0 (pa_cons (pv 6) (pa_cons (pv 9) (pa_cons (pe_ix ix_list (pv 6) (pv 10) (fun _ _ => rfl)) pa_nil)))) (pa_cons (pv 10) (pa_cons (pe_ix ix_list (pv 6) (pv 9) (fun _ _ => rfl)) pa_nil)))))) pss_nil)
      (pss_cut (ps_if (pt_cmpR op_eq (pv 8) pe_int (nomark _)) (pss_one (ps_set (i := 7) sc_law_spoiled.nd rfl (Or.inl rfl) (pe_call G_law_at (hr.mono (by decide)) rfl T.mg_law_at T.F_law_at.kp T.b_law_at .nil pass0 (pa_cons (pe_call G_law_at (hr.mono (by decide)) rfl T.mg_law_at T.F_law_at.kp T.b_law_at .nil pass0 (pa_cons (pv 7) (pa_cons (pv 11) (pa_cons (pe_ix ix_list (pv 7) (pv 12) (fun _ _ => rfl)) pa_nil)))) (pa_cons (pv 12) (pa_cons (pe_ix ix_list (pv 7) (pv 11) (fun _ _ => rfl)) pa_nil)))))) pss_nil)
      (pss_cut (ps_if (pt_cmpR op_eq (pv 8) pe_int (nomark _)) (pss_one (ps_set (i := 6) sc_law_spoiled.nd rfl (Or.inl rfl) (pe_call G_law_at (hr.mono (by decide)) rfl T.mg_law_at T.F_law_at.kp T.b_law_at .nil pass0 (pa_cons (pv 6) (pa_cons (pv 9) (pa_cons (pe_ix ix_list (pv 6) (pv 10) (fun _ _ => rfl)) pa_nil)))))) pss_nil)
      (pss_cut (ps_if (pt_cmpR op_eq (pv 8) pe_int (nomark _)) (pss_one (ps_set (i := 6) sc_law_spoiled.nd rfl (Or.inl rfl) (pe_call G_law_at (hr.mono (by decide)) rfl T.mg_law_at T.F_law_at.kp T.b_law_at .nil pass0 (pa_cons (pv 6) (pa_cons (pv 9) (pa_cons (pe_op op_sub (pe_ix ix_list (pv 6) (pv 9) (fun _ _ => rfl)) (pe_callB call_len_seq (by rfl) T.n_len (by decide +kernel) (pa_cons (pv 2) pa_nil))) pa_nil)))))) pss_nil)
      (pss_cut (ps_if (pt_cmpR op_eq (pv 8) pe_int (nomark _)) (pss_one (ps_set (i := 6) sc_law_spoiled.nd rfl (Or.inl rfl) (pe_call G_law_at (hr.mono (by decide)) rfl T.mg_law_at T.F_law_at.kp T.b_law_at .nil pass0 (pa_cons (pv 6) (pa_cons (pv 9) (pa_cons (pe_op op_add (pe_callB call_len_seq (by rfl) T.n_len (by decide +kernel) (pa_cons (pv 2) pa_nil)) (pe_op op_mod (pe_callTy call_int1 (by rfl) T.n_int (by decide +kernel) (pa_cons (pe_ix ix_list (pv 3) pe_int (fun _ _ => rfl)) pa_nil)) pe_int)) pa_nil)))))) pss_nil)
      (pss_cut (ps_if (pt_cmpR op_eq (pv 8) pe_int (nomark _)) (pss_one (ps_set (i := 7) sc_law_spoiled.nd rfl (Or.inl rfl) (pe_call G_law_at (hr.mono (by decide)) rfl T.mg_law_at T.F_law_at.kp T.b_law_at .nil pass0 (pa_cons (pv 7) (pa_cons (pv 11) (pa_cons (pe_ix ix_list (pv 7) (pv 12) (fun _ _ => rfl)) pa_nil)))))) pss_nil)
      (pss_cut (ps_if (pt_cmpR op_eq (pv 8) pe_int (nomark _)) (pss_one (ps_set (i := 7) sc_law_spoiled.nd rfl (Or.inl rfl) (pe_call G_law_at (hr.mono (by decide)) rfl T.mg_law_at T.F_law_at.kp T.b_law_at .nil pass0 (pa_cons (pv 7) (pa_cons (pv 11) (pa_cons pe_str pa_nil)))))) pss_nil)
      (pss_cut (ps_if (pt_cmpR op_eq (pv 8) pe_int (nomark _)) (pss_one (ps_set (i := 6) sc_law_spoiled.nd rfl (Or.inl rfl) (pe_op op_cat (pe_slice sl_list (pv 6) po_none (po_some (pv 9))) (pe_slice sl_list (pv 6) (po_some (pe_op op_add (pv 9) pe_int)) po_none)))) pss_nil)
      (pss_cut (ps_if (pt_cmpR op_eq (pv 8) pe_int (nomark _)) (pss_one (ps_set (i := 6) sc_law_spoiled.nd rfl (Or.inl rfl) (pe_op op_cat (pv 6) (pe_lst (pa_cons (pe_op op_mod (pe_callTy call_int1 (by rfl) T.n_int (by decide +kernel) (pa_cons (pe_ix ix_list (pv 3) pe_int (fun _ _ => rfl)) pa_nil)) (pe_callB call_len_seq (by rfl) T.n_len (by decide +kernel) (pa_cons (pv 2) pa_nil))) pa_nil))))) pss_nil)
      (pss_cut (ps_if (pt_cmpR op_eq (pv 8) pe_int (nomark _)) (pss_one (ps_set (i := 7) sc_law_spoiled.nd rfl (Or.inl rfl) (pe_op op_cat (pe_slice sl_list (pv 7) po_none (po_some (pv 11))) (pe_slice sl_list (pv 7) (po_some (pe_op op_add (pv 11) pe_int)) po_none)))) pss_nil)
      (pss_cut (ps_if (pt_cmpR op_eq (pv 8) pe_int (nomark _)) (pss_one (ps_set (i := 7) sc_law_spoiled.nd rfl (Or.inl rfl) (pe_op op_cat (pv 7) (pe_lst (pa_cons (pe_ix ix_list (pv 1) (pe_op op_mod (pe_callTy call_int1 (by rfl) T.n_int (by decide +kernel) (pa_cons (pe_ix ix_list (pv 3) pe_int (fun _ _ => rfl)) pa_nil)) (pe_callB call_len_seq (by rfl) T.n_len (by decide +kernel) (pa_cons (pv 1) pa_nil))) (fun _ _ => rfl)) pa_nil))))) pss_nil)
      (pss_cut (ps_if (pt_cmpR op_eq (pv 8) pe_int (nomark _)) (pss_one (ps_set (i := 4) sc_law_spoiled.nd rfl (Or.inl rfl) (pe_ix ix_list (pe_lst (pa_cons pe_int (pa_cons pe_int (pa_cons pe_int (pa_cons pe_int (pa_cons pe_int (pa_cons pe_int (pa_cons pe_int (pa_cons (pe_un un_neg pe_int) (pa_cons (pe_op op_pow pe_int pe_int) pa_nil)))))))))) (pe_op op_mod (pe_callTy call_int1 (by rfl) T.n_int (by decide +kernel) (pa_cons (pe_ix ix_list (pv 3) pe_int (fun _ _ => rfl)) pa_nil)) pe_int) (fun _ _ => rfl)))) pss_nil)
      (pss_cut (ps_if (pt_cmpR op_eq (pv 8) pe_int (nomark _)) (pss_one (ps_set (i := 5) sc_law_spoiled.nd rfl (Or.inl rfl) (pe_ix ix_list (pe_lst (pa_cons pe_int (pa_cons (pe_op op_sub (pv 5) pe_int) (pa_cons (pe_op op_add (pv 5) pe_int) (pa_cons pe_int (pa_cons pe_int (pa_cons (pe_un un_neg pe_int) (pa_cons pe_int (pa_cons (pe_op op_pow pe_int pe_int) pa_nil))))))))) (pe_op op_mod (pe_callTy call_int1 (by rfl) T.n_int (by decide +kernel) (pa_cons (pe_ix ix_list (pv 3) pe_int (fun _ _ => rfl)) pa_nil)) pe_int) (fun _ _ => rfl)))) pss_nil)
      (pss_cut (ps_if (pt_cmpR op_eq (pv 8) pe_int (nomark _)) (pss_one (ps_set (i := 6) sc_law_spoiled.nd rfl (Or.inl rfl) (pe_call G_law_order (hr.mono (by decide)) rfl T.mg_law_order T.F_law_order.kp T.b_law_order .nil pass0 (pa_cons (pv 6) (pa_cons (pv 3) (pa_cons pe_int pa_nil)))))) pss_nil)
      (pss_cut (ps_if (pt_cmpR op_eq (pv 8) pe_int (nomark _)) (pss_one (ps_set (i := 7) sc_law_spoiled.nd rfl (Or.inl rfl) (pe_call G_law_order (hr.mono (by decide)) rfl T.mg_law_order T.F_law_order.kp T.b_law_order .nil pass0 (pa_cons (pv 7) (pa_cons (pv 3) (pa_cons pe_int pa_nil)))))) pss_nil)
      (pss_one (ps_ret (pe_lst (pa_cons (pv 4) (pa_cons (pv 5) (pa_cons (pv 6) (pa_cons (pv 7) pa_nil))))))))))))))))))))))))))))))))), ?_⟩
    have okb := okKS_iff.mp hok
    have dl := stdR_len hok
    have mk : midI k := by unfold midI; omega
    have ms : midI s := by unfold midI; omega
    obtain ⟨nl, cl, ha, hnl, hcl2⟩ := id hTd
    have t0 : atI ([V.int k, .int s, .ref nl, .ref cl] : List V) 0 = some (V.int k) := atI_nat (j := 0) rfl
    have t1 : atI ([V.int k, .int s, .ref nl, .ref cl] : List V) 1 = some (V.int s) := atI_nat (j := 1) rfl
    have t2 : atI ([V.int k, .int s, .ref nl, .ref cl] : List V) 2 = some (V.ref nl) := atI_nat (j := 2) rfl
    have t3 : atI ([V.int k, .int s, .ref nl, .ref cl] : List V) 3 = some (V.ref cl) := atI_nat (j := 3) rfl
    have wl : 3 ≤ lw k s ∧ lw k s ≤ 12 := by
      unfold lw; split
      · omega
      · split
        · omega
        · split <;> omega
    have mm : ∀ a q : Int, (0 : Int) < q → 0 ≤ a % q ∧ a % q < q := fun a q hq => ⟨Int.emod_nonneg _ (by omega), Int.emod_lt_of_pos _ hq⟩
    obtain ⟨v0, _, e0⟩ := atI_ok (xs := ps) (j := 0) (by omega) (by omega)
    obtain ⟨v1, _, e1⟩ := atI_ok (xs := ps) (j := 1) (by omega) (by omega)
    obtain ⟨v2, _, e2⟩ := atI_ok (xs := ps) (j := 2) (by omega) (by omega)
    obtain ⟨v3, _, e3⟩ := atI_ok (xs := ps) (j := 3) (by omega) (by omega)
    obtain ⟨v4, _, e4⟩ := atI_ok (xs := ps) (j := 4) (by omega) (by omega)
    obtain ⟨v5, _, e5⟩ := atI_ok (xs := ps) (j := 5) (by omega) (by omega)
    refine ⟨_, rfl, a, _, _, _, rfl, rfl, SqL.of ha, t0, _, rfl, a, _, _, _, rfl, rfl, SqL.of ha, t1, _, rfl, a, _, _, _, rfl, rfl, SqL.of ha, t2, _, rfl, a, _, _, _, rfl, rfl, SqL.of ha, t3, ?_⟩
    refine ⟨_, rfl, p, _, _, _, rfl, rfl, hP, e0, .inl ⟨_, rfl, _, _, rfl, rfl, by show (0 : Int) < 19; decide, ?_⟩⟩
    have mw := mm v0 19 (by decide)
    refine ⟨_, rfl, rfl, _, rfl, ?_⟩
    by_cases w18 : (v0 % 19) = 18
    · refine ifT (decide_eq_true (show V.int (v0 % 19) = V.int 18 by rw [w18])) ⟨_, rfl, _, rfl, _, rfl, n, r, p, cs, rts, ps, rfl, hN, hco, hcl, hR, hrl, hP, hpl, kk⟩
    refine ifF (decide_eq_false fun z => w18 (V.int.inj z)) ⟨_, rfl, _, _, rfl, rfl, _, rfl, ?_⟩
    by_cases w16 : 15 < (v0 % 19)
    · exact ifT (decide_eq_true w16) ⟨_, rfl, a, k, s, xs, ys, rfl, hTd, hok, hxl, hyl, hyo, kk⟩
    refine ifF (decide_eq_false w16) ?_
    have L0 : (0 : Int) < (((ivs xs).length : Nat) : Int) := by rw [ivs_len]; omega
    have M0 : (0 : Int) < (((sv ys).length : Nat) : Int) := by rw [len_sv]; omega
    obtain ⟨i_, hi⟩ := Int.eq_ofNat_of_zero_le (mm v1 _ L0).1
    obtain ⟨j_, hj⟩ := Int.eq_ofNat_of_zero_le (mm v2 _ L0).1
    obtain ⟨k_, hk⟩ := Int.eq_ofNat_of_zero_le (mm v3 _ M0).1
    obtain ⟨m_, hm⟩ := Int.eq_ofNat_of_zero_le (mm v4 _ M0).1
    have iL : i_ < xs.length := by have := (mm v1 _ L0).2; rw [hi, ivs_len] at this; omega
    have jL : j_ < xs.length := by have := (mm v2 _ L0).2; rw [hj, ivs_len] at this; omega
    have kM : k_ < ys.length := by have := (mm v3 _ M0).2; rw [hk, len_sv] at this; omega
    have mM : m_ < ys.length := by have := (mm v4 _ M0).2; rw [hm, len_sv] at this; omega
    refine ⟨_, rfl, p, _, _, _, rfl, rfl, hP, e1, .inl ⟨_, rfl, _, rfl, nl, _, rfl, .inl (SqL.of hnl), _, _, rfl, rfl, L0, ?_⟩⟩
    refine ⟨_, rfl, p, _, _, _, rfl, rfl, hP, e2, .inl ⟨_, rfl, _, rfl, nl, _, rfl, .inl (SqL.of hnl), _, _, rfl, rfl, L0, ?_⟩⟩
    refine ⟨_, rfl, p, _, _, _, rfl, rfl, hP, e3, .inl ⟨_, rfl, _, rfl, cl, _, rfl, .inl (SqL.of hcl2), _, _, rfl, rfl, M0, ?_⟩⟩
    refine ⟨_, rfl, p, _, _, _, rfl, rfl, hP, e4, .inl ⟨_, rfl, _, rfl, cl, _, rfl, .inl (SqL.of hcl2), _, _, rfl, rfl, M0, ?_⟩⟩
    have hnx : NX H nl xs.length := ⟨xs, hnl, rfl, fun _ _ => trivial⟩
    have hsx : SX H cl ys.length := ⟨ys, hcl2, rfl, hyo⟩
    have xle : xs.length ≤ 12 := by omega
    have yle : ys.length ≤ 12 := by omega
    have hi2 : V.int (v1 % (((ivs xs).length : Nat) : Int)) = V.int ((i_ : Nat) : Int) := by rw [hi]
    have hj2 : V.int (v2 % (((ivs xs).length : Nat) : Int)) = V.int ((j_ : Nat) : Int) := by rw [hj]
    have hk2 : V.int (v3 % (((sv ys).length : Nat) : Int)) = V.int ((k_ : Nat) : Int) := by rw [hk]
    have hm2 : V.int (v4 % (((sv ys).length : Nat) : Int)) = V.int ((m_ : Nat) : Int) := by rw [hm]
    dsimp only
    rw [hi2, hj2, hk2, hm2]
    refine ⟨fun σ G => Same H G ∧ ∃ (kd sz : Int) (nl cl : Addr), σ = [some (.ref a), some (.ref n), some (.ref r), some (.ref p), some (.int kd), some (.int sz), some (.ref nl), some (.ref cl), some (.int (v0 % 19)), some (.int (i_ : Nat)), some (.int (j_ : Nat)), some (.int (k_ : Nat)), some (.int (m_ : Nat))] ∧ midI kd ∧ (0 ≤ sz ∧ sz ≤ 10) ∧ NX G nl xs.length ∧ SX G cl ys.length, ?_, ?_⟩
    · refine ⟨_, rfl, rfl, _, rfl, ?_⟩
      have sG : Same H H := Same.refl H
      have mkd := mk
      have msz : 0 ≤ s ∧ s ≤ 10 := by omega
      by_cases w1_ : (v0 % 19) = 1
      · refine ifT (decide_eq_true (show V.int (v0 % 19) = V.int 1 by rw [w1_])) ?_
        obtain ⟨q1, z1, a1, _, b1⟩ := hnx.at_ jL
        obtain ⟨q2, z2, a2, _, b2⟩ := hnx.at_ iL
        obtain ⟨r1, u1, l1, g1⟩ := at_in (z := z1) hnx iL (by omega) trivial
        refine ⟨_, rfl, _, rfl, _, rfl, _, rfl, nl, _, _, _, rfl, rfl, SqL.of a1, b1, nl, i_, _, r1, rfl, SqL.of u1, l1, fun c G1 s1 nc hc => ?_⟩
        obtain ⟨r2, u2, l2, g2⟩ := at_in (z := z2) (g1 c G1 hc) jL (by omega) trivial
        refine ⟨_, rfl, _, rfl, _, rfl, nl, _, _, _, rfl, rfl, SqL.of (s1 _ _ a2), b2, c, j_, _, r2, rfl, SqL.of u2, l2, fun c2 G2 s2 nc2 hc2 => ?_⟩
        exact ⟨sG.trans (s1.trans s2), k, s, c2, cl, rfl, mkd, msz, g2 c2 G2 hc2, hsx.same (s1.trans s2)⟩
      · exact ifF (decide_eq_false fun z => w1_ (V.int.inj z)) ⟨sG, k, s, nl, cl, rfl, mkd, msz, hnx, hsx⟩
    clear hnx hsx
    rintro σ G ⟨sG, kd, sz, nl, cl, rfl, mkd, msz, hnx, hsx⟩
    refine ⟨fun σ G => Same H G ∧ ∃ (kd sz : Int) (nl cl : Addr), σ = [some (.ref a), some (.ref n), some (.ref r), some (.ref p), some (.int kd), some (.int sz), some (.ref nl), some (.ref cl), some (.int (v0 % 19)), some (.int (i_ : Nat)), some (.int (j_ : Nat)), some (.int (k_ : Nat)), some (.int (m_ : Nat))] ∧ midI kd ∧ (0 ≤ sz ∧ sz ≤ 10) ∧ NX G nl xs.length ∧ SX G cl ys.length, ?_, ?_⟩
    · refine ⟨_, rfl, rfl, _, rfl, ?_⟩
      by_cases w2_ : (v0 % 19) = 2
      · refine ifT (decide_eq_true (show V.int (v0 % 19) = V.int 2 by rw [w2_])) ?_
        obtain ⟨q1, z1, a1, o1, b1⟩ := hsx.at_ mM
        obtain ⟨q2, z2, a2, o2, b2⟩ := hsx.at_ kM
        obtain ⟨r1, u1, l1, g1⟩ := at_in (z := z1) hsx kM (by omega) o1
        refine ⟨_, rfl, _, rfl, _, rfl, _, rfl, cl, _, _, _, rfl, rfl, SqL.of a1, b1, cl, k_, _, r1, rfl, SqL.of u1, l1, fun c G1 s1 nc hc => ?_⟩
        obtain ⟨r2, u2, l2, g2⟩ := at_in (z := z2) (g1 c G1 hc) mM (by omega) o2
        refine ⟨_, rfl, _, rfl, _, rfl, cl, _, _, _, rfl, rfl, SqL.of (s1 _ _ a2), b2, c, m_, _, r2, rfl, SqL.of u2, l2, fun c2 G2 s2 nc2 hc2 => ?_⟩
        exact ⟨sG.trans (s1.trans s2), kd, sz, nl, c2, rfl, mkd, msz, hnx.same (s1.trans s2), g2 c2 G2 hc2⟩
      · exact ifF (decide_eq_false fun z => w2_ (V.int.inj z)) ⟨sG, kd, sz, nl, cl, rfl, mkd, msz, hnx, hsx⟩
    clear hnx hsx sG mkd msz
    rintro σ G ⟨sG, kd, sz, nl, cl, rfl, mkd, msz, hnx, hsx⟩
    refine ⟨fun σ G => Same H G ∧ ∃ (kd sz : Int) (nl cl : Addr), σ = [some (.ref a), some (.ref n), some (.ref r), some (.ref p), some (.int kd), some (.int sz), some (.ref nl), some (.ref cl), some (.int (v0 % 19)), some (.int (i_ : Nat)), some (.int (j_ : Nat)), some (.int (k_ : Nat)), some (.int (m_ : Nat))] ∧ midI kd ∧ (0 ≤ sz ∧ sz ≤ 10) ∧ NX G nl xs.length ∧ SX G cl ys.length, ?_, ?_⟩
    · refine ⟨_, rfl, rfl, _, rfl, ?_⟩
      by_cases w3_ : (v0 % 19) = 3
      · refine ifT (decide_eq_true (show V.int (v0 % 19) = V.int 3 by rw [w3_])) ?_
        obtain ⟨q1, z1, a1, _, b1⟩ := hnx.at_ jL
        obtain ⟨r1, u1, l1, g1⟩ := at_in (z := z1) hnx iL (by omega) trivial
        exact ⟨_, rfl, _, rfl, _, rfl, _, rfl, nl, _, _, _, rfl, rfl, SqL.of a1, b1, nl, i_, _, r1, rfl, SqL.of u1, l1, fun c G1 s1 nc hc => ⟨sG.trans s1, kd, sz, c, cl, rfl, mkd, msz, g1 c G1 hc, hsx.same s1⟩⟩
      · exact ifF (decide_eq_false fun z => w3_ (V.int.inj z)) ⟨sG, kd, sz, nl, cl, rfl, mkd, msz, hnx, hsx⟩
    clear hnx hsx sG mkd msz
    rintro σ G ⟨sG, kd, sz, nl, cl, rfl, mkd, msz, hnx, hsx⟩
    refine ⟨fun σ G => Same H G ∧ ∃ (kd sz : Int) (nl cl : Addr), σ = [some (.ref a), some (.ref n), some (.ref r), some (.ref p), some (.int kd), some (.int sz), some (.ref nl), some (.ref cl), some (.int (v0 % 19)), some (.int (i_ : Nat)), some (.int (j_ : Nat)), some (.int (k_ : Nat)), some (.int (m_ : Nat))] ∧ midI kd ∧ (0 ≤ sz ∧ sz ≤ 10) ∧ NX G nl xs.length ∧ SX G cl ys.length, ?_, ?_⟩
    · refine ⟨_, rfl, rfl, _, rfl, ?_⟩
      by_cases w4_ : (v0 % 19) = 4
      · refine ifT (decide_eq_true (show V.int (v0 % 19) = V.int 4 by rw [w4_])) ?_
        obtain ⟨q1, z1, a1, _, b1⟩ := hnx.at_ iL
        obtain ⟨r1, u1, l1, g1⟩ := at_in (z := z1 - ((rts.length : Nat) : Int)) hnx iL (by omega) trivial
        exact ⟨_, rfl, _, rfl, _, rfl, _, rfl, nl, _, _, _, rfl, rfl, SqL.of a1, b1, _, rfl, r, _, rfl, .inl (sG.seq hR), _, _, rfl, rfl, nl, i_, _, r1, rfl, SqL.of u1, l1, fun c G1 s1 nc hc => ⟨sG.trans s1, kd, sz, c, cl, rfl, mkd, msz, g1 c G1 hc, hsx.same s1⟩⟩
      · exact ifF (decide_eq_false fun z => w4_ (V.int.inj z)) ⟨sG, kd, sz, nl, cl, rfl, mkd, msz, hnx, hsx⟩
    clear hnx hsx sG mkd msz
    rintro σ G ⟨sG, kd, sz, nl, cl, rfl, mkd, msz, hnx, hsx⟩
    refine ⟨fun σ G => Same H G ∧ ∃ (kd sz : Int) (nl cl : Addr), σ = [some (.ref a), some (.ref n), some (.ref r), some (.ref p), some (.int kd), some (.int sz), some (.ref nl), some (.ref cl), some (.int (v0 % 19)), some (.int (i_ : Nat)), some (.int (j_ : Nat)), some (.int (k_ : Nat)), some (.int (m_ : Nat))] ∧ midI kd ∧ (0 ≤ sz ∧ sz ≤ 10) ∧ NX G nl xs.length ∧ SX G cl ys.length, ?_, ?_⟩
    · refine ⟨_, rfl, rfl, _, rfl, ?_⟩
      by_cases w5_ : (v0 % 19) = 5
      · refine ifT (decide_eq_true (show V.int (v0 % 19) = V.int 5 by rw [w5_])) ?_
        obtain ⟨r1, u1, l1, g1⟩ := at_in (z := ((rts.length : Nat) : Int) + v5 % 3) hnx iL (by omega) trivial
        exact ⟨_, rfl, _, rfl, _, rfl, r, _, rfl, .inl (sG.seq hR), _, rfl, p, _, _, _, rfl, rfl, sG.seq hP, e5, .inl ⟨_, rfl, _, _, rfl, rfl, by show (0 : Int) < 3; decide, _, _, rfl, rfl, nl, i_, _, r1, rfl, SqL.of u1, l1, fun c G1 s1 nc hc => ⟨sG.trans s1, kd, sz, c, cl, rfl, mkd, msz, g1 c G1 hc, hsx.same s1⟩⟩⟩
      · exact ifF (decide_eq_false fun z => w5_ (V.int.inj z)) ⟨sG, kd, sz, nl, cl, rfl, mkd, msz, hnx, hsx⟩
    clear hnx hsx sG mkd msz
    rintro σ G ⟨sG, kd, sz, nl, cl, rfl, mkd, msz, hnx, hsx⟩
    refine ⟨fun σ G => Same H G ∧ ∃ (kd sz : Int) (nl cl : Addr), σ = [some (.ref a), some (.ref n), some (.ref r), some (.ref p), some (.int kd), some (.int sz), some (.ref nl), some (.ref cl), some (.int (v0 % 19)), some (.int (i_ : Nat)), some (.int (j_ : Nat)), some (.int (k_ : Nat)), some (.int (m_ : Nat))] ∧ midI kd ∧ (0 ≤ sz ∧ sz ≤ 10) ∧ NX G nl xs.length ∧ SX G cl ys.length, ?_, ?_⟩
    · refine ⟨_, rfl, rfl, _, rfl, ?_⟩
      by_cases w6_ : (v0 % 19) = 6
      · refine ifT (decide_eq_true (show V.int (v0 % 19) = V.int 6 by rw [w6_])) ?_
        obtain ⟨q1, z1, a1, o1, b1⟩ := hsx.at_ mM
        obtain ⟨r1, u1, l1, g1⟩ := at_in (z := z1) hsx kM (by omega) o1
        exact ⟨_, rfl, _, rfl, _, rfl, _, rfl, cl, _, _, _, rfl, rfl, SqL.of a1, b1, cl, k_, _, r1, rfl, SqL.of u1, l1, fun c G1 s1 nc hc => ⟨sG.trans s1, kd, sz, nl, c, rfl, mkd, msz, hnx.same s1, g1 c G1 hc⟩⟩
      · exact ifF (decide_eq_false fun z => w6_ (V.int.inj z)) ⟨sG, kd, sz, nl, cl, rfl, mkd, msz, hnx, hsx⟩
    clear hnx hsx sG mkd msz
    rintro σ G ⟨sG, kd, sz, nl, cl, rfl, mkd, msz, hnx, hsx⟩
    refine ⟨fun σ G => Same H G ∧ ∃ (kd sz : Int) (nl cl : Addr), σ = [some (.ref a), some (.ref n), some (.ref r), some (.ref p), some (.int kd), some (.int sz), some (.ref nl), some (.ref cl), some (.int (v0 % 19)), some (.int (i_ : Nat)), some (.int (j_ : Nat)), some (.int (k_ : Nat)), some (.int (m_ : Nat))] ∧ midI kd ∧ (0 ≤ sz ∧ sz ≤ 10) ∧ NX G nl xs.length ∧ SX G cl ys.length, ?_, ?_⟩
    · refine ⟨_, rfl, rfl, _, rfl, ?_⟩
      by_cases w7_ : (v0 % 19) = 7
      · refine ifT (decide_eq_true (show V.int (v0 % 19) = V.int 7 by rw [w7_])) ?_
        obtain ⟨r1, u1, l1, g1⟩ := at_in (z := ("stranger" : Str)) hsx kM (by omega) okz_stranger
        exact ⟨_, rfl, _, rfl, cl, k_, _, r1, rfl, SqL.of u1, l1, fun c G1 s1 nc hc => ⟨sG.trans s1, kd, sz, nl, c, rfl, mkd, msz, hnx.same s1, g1 c G1 hc⟩⟩
      · exact ifF (decide_eq_false fun z => w7_ (V.int.inj z)) ⟨sG, kd, sz, nl, cl, rfl, mkd, msz, hnx, hsx⟩
    clear hnx hsx sG mkd msz
    rintro σ G ⟨sG, kd, sz, nl, cl, rfl, mkd, msz, hnx, hsx⟩
    refine ⟨fun σ G => Same H G ∧ ∃ (kd sz : Int) (nl cl : Addr), σ = [some (.ref a), some (.ref n), some (.ref r), some (.ref p), some (.int kd), some (.int sz), some (.ref nl), some (.ref cl), some (.int (v0 % 19)), some (.int (i_ : Nat)), some (.int (j_ : Nat)), some (.int (k_ : Nat)), some (.int (m_ : Nat))] ∧ midI kd ∧ (0 ≤ sz ∧ sz ≤ 10) ∧ GN G nl 24 ∧ SX G cl ys.length, ?_, ?_⟩
    · refine ⟨_, rfl, rfl, _, rfl, ?_⟩
      by_cases w8_ : (v0 % 19) = 8
      · refine ifT (decide_eq_true (show V.int (v0 % 19) = V.int 8 by rw [w8_])) ?_
        refine ⟨_, rfl, ?_⟩
        dsimp only [tNoPart]
        refine ⟨_, rfl, _, rfl, slF (hnx.gf.mono xle) fun b1 G1 s1 g1 => ⟨_, rfl, _, rfl, _, _, rfl, rfl, _, rfl, ?_⟩⟩
        dsimp only [tNoPart]
        refine slF ((hnx.gf.mono xle).same s1) fun b2 G2 s2 g2 => catF (g1.same s2) g2 (by decide) fun c G3 s3 n3 g3 => ?_
        have s13 := s1.trans (s2.trans s3)
        exact ⟨sG.trans s13, kd, sz, c, cl, rfl, mkd, msz, g3, hsx.same s13⟩
      · exact ifF (decide_eq_false fun z => w8_ (V.int.inj z)) ⟨sG, kd, sz, nl, cl, rfl, mkd, msz, (hnx).gf.mono (by omega), hsx⟩
    clear hnx hsx sG mkd msz
    rintro σ G ⟨sG, kd, sz, nl, cl, rfl, mkd, msz, hnx, hsx⟩
    refine ⟨fun σ G => Same H G ∧ ∃ (kd sz : Int) (nl cl : Addr), σ = [some (.ref a), some (.ref n), some (.ref r), some (.ref p), some (.int kd), some (.int sz), some (.ref nl), some (.ref cl), some (.int (v0 % 19)), some (.int (i_ : Nat)), some (.int (j_ : Nat)), some (.int (k_ : Nat)), some (.int (m_ : Nat))] ∧ midI kd ∧ (0 ≤ sz ∧ sz ≤ 10) ∧ GN G nl 25 ∧ SX G cl ys.length, ?_, ?_⟩
    · refine ⟨_, rfl, rfl, _, rfl, ?_⟩
      by_cases w9_ : (v0 % 19) = 9
      · refine ifT (decide_eq_true (show V.int (v0 % 19) = V.int 9 by rw [w9_])) ?_
        have R0 : (0 : Int) < ((rts.length : Nat) : Int) := by omega
        refine ⟨_, rfl, _, rfl, p, _, _, _, rfl, rfl, sG.seq hP, e5, .inl ⟨_, rfl, _, rfl, r, _, rfl, .inl (sG.seq hR), _, _, rfl, rfl, R0, by show 1 ≤ sizeLine; decide, fun l1 n1 => ?_⟩⟩
        generalize hG : upd G l1 _ = G1
        have s1 : Same G G1 := hG ▸ same_new n1
        have x1 := (congrFun hG l1).symm.trans upd_same
        clear hG
        refine catF (hnx.same s1) (show GN G1 l1 1 from ⟨[v5 % ((rts.length : Nat) : Int)], x1, Nat.le_refl _, fun _ _ => trivial⟩) (by decide) fun c G2 s2 n2 g2 => ⟨sG.trans (s1.trans s2), kd, sz, c, cl, rfl, mkd, msz, g2, hsx.same (s1.trans s2)⟩
      · exact ifF (decide_eq_false fun z => w9_ (V.int.inj z)) ⟨sG, kd, sz, nl, cl, rfl, mkd, msz, (hnx).mono (by decide), hsx⟩
    clear hnx hsx sG mkd msz
    rintro σ G ⟨sG, kd, sz, nl, cl, rfl, mkd, msz, hnx, hsx⟩
    refine ⟨fun σ G => Same H G ∧ ∃ (kd sz : Int) (nl cl : Addr), σ = [some (.ref a), some (.ref n), some (.ref r), some (.ref p), some (.int kd), some (.int sz), some (.ref nl), some (.ref cl), some (.int (v0 % 19)), some (.int (i_ : Nat)), some (.int (j_ : Nat)), some (.int (k_ : Nat)), some (.int (m_ : Nat))] ∧ midI kd ∧ (0 ≤ sz ∧ sz ≤ 10) ∧ GN G nl 25 ∧ GS G cl 24, ?_, ?_⟩
    · refine ⟨_, rfl, rfl, _, rfl, ?_⟩
      by_cases w10_ : (v0 % 19) = 10
      · refine ifT (decide_eq_true (show V.int (v0 % 19) = V.int 10 by rw [w10_])) ?_
        refine ⟨_, rfl, ?_⟩
        dsimp only [tNoPart]
        refine ⟨_, rfl, _, rfl, slF (hsx.gf.mono yle) fun b1 G1 s1 g1 => ⟨_, rfl, _, rfl, _, _, rfl, rfl, _, rfl, ?_⟩⟩
        dsimp only [tNoPart]
        refine slF ((hsx.gf.mono yle).same s1) fun b2 G2 s2 g2 => catF (g1.same s2) g2 (by decide) fun c G3 s3 n3 g3 => ?_
        have s13 := s1.trans (s2.trans s3)
        exact ⟨sG.trans s13, kd, sz, nl, c, rfl, mkd, msz, hnx.same s13, g3⟩
      · exact ifF (decide_eq_false fun z => w10_ (V.int.inj z)) ⟨sG, kd, sz, nl, cl, rfl, mkd, msz, hnx, (hsx).gf.mono (by omega)⟩
    clear hnx hsx sG mkd msz
    rintro σ G ⟨sG, kd, sz, nl, cl, rfl, mkd, msz, hnx, hsx⟩
    refine ⟨fun σ G => Same H G ∧ ∃ (kd sz : Int) (nl cl : Addr), σ = [some (.ref a), some (.ref n), some (.ref r), some (.ref p), some (.int kd), some (.int sz), some (.ref nl), some (.ref cl), some (.int (v0 % 19)), some (.int (i_ : Nat)), some (.int (j_ : Nat)), some (.int (k_ : Nat)), some (.int (m_ : Nat))] ∧ midI kd ∧ (0 ≤ sz ∧ sz ≤ 10) ∧ GN G nl 25 ∧ GS G cl 25, ?_, ?_⟩
    · refine ⟨_, rfl, rfl, _, rfl, ?_⟩
      by_cases w11_ : (v0 % 19) = 11
      · refine ifT (decide_eq_true (show V.int (v0 % 19) = V.int 11 by rw [w11_])) ?_
        obtain ⟨y, hy, ey⟩ := atF (f := V.str) (xs := cs) (j := v5 % (((sv cs).length : Nat) : Int)) (mm v5 _ (by rw [len_sv]; omega)).1 (by have := (mm v5 (((sv cs).length : Nat) : Int) (by rw [len_sv]; omega)).2; rw [len_sv] at this ⊢; exact this)
        refine ⟨_, rfl, _, rfl, _, rfl, p, _, _, _, rfl, rfl, sG.seq hP, e5, .inl ⟨_, rfl, _, rfl, n, _, rfl, .inl (SqL.of (sG _ _ hN)), _, _, rfl, rfl, by rw [len_sv]; omega, n, _, _, _, rfl, rfl, SqL.of (sG _ _ hN), ey, by show 1 ≤ sizeLine; decide, fun l1 n1 => ?_⟩⟩
        generalize hG : upd G l1 _ = G1
        have s1 : Same G G1 := hG ▸ same_new n1
        have x1 := (congrFun hG l1).symm.trans upd_same
        clear hG
        refine catF (hsx.same s1) (show GS G1 l1 1 from ⟨[y], x1, Nat.le_refl _, fun z hz => by rw [List.mem_singleton.mp hz]; exact hco y hy⟩) (by decide) fun c G2 s2 n2 g2 => ⟨sG.trans (s1.trans s2), kd, sz, nl, c, rfl, mkd, msz, hnx.same (s1.trans s2), g2⟩
      · exact ifF (decide_eq_false fun z => w11_ (V.int.inj z)) ⟨sG, kd, sz, nl, cl, rfl, mkd, msz, hnx, (hsx).mono (by decide)⟩
    clear hnx hsx sG mkd msz
    rintro σ G ⟨sG, kd, sz, nl, cl, rfl, mkd, msz, hnx, hsx⟩
    refine ⟨fun σ G => Same H G ∧ ∃ (kd sz : Int) (nl cl : Addr), σ = [some (.ref a), some (.ref n), some (.ref r), some (.ref p), some (.int kd), some (.int sz), some (.ref nl), some (.ref cl), some (.int (v0 % 19)), some (.int (i_ : Nat)), some (.int (j_ : Nat)), some (.int (k_ : Nat)), some (.int (m_ : Nat))] ∧ midI kd ∧ (0 ≤ sz ∧ sz ≤ 10) ∧ GN G nl 25 ∧ GS G cl 25, ?_, ?_⟩
    · refine ⟨_, rfl, rfl, _, rfl, ?_⟩
      by_cases w12_ : (v0 % 19) = 12
      · refine ifT (decide_eq_true (show V.int (v0 % 19) = V.int 12 by rw [w12_])) ?_
        refine ⟨_, rfl, _, _, rfl, rfl, ⟨by decide, by decide, by decide⟩, by show 9 ≤ sizeLine; decide, fun l1 n1 => ?_⟩
        generalize hG : upd G l1 _ = G1
        have s1 : Same G G1 := hG ▸ same_new n1
        have x1 := (congrFun hG l1).symm.trans upd_same
        clear hG
        have e9 : (10 : Int) ^ (9 : Int).toNat = 1000000000 := by decide
        have x1 : G1 l1 = some (.lst [V.int 0, .int 1, .int 2, .int 3, .int 4, .int 5, .int 6, .int (-1), .int ((10 : Int) ^ (9 : Int).toNat)]) := x1
        rw [e9] at x1
        have x1 : G1 l1 = some (.lst (fv V.int ([0, 1, 2, 3, 4, 5, 6, -1, 1000000000] : List Int))) := x1
        have m5 := mm v5 9 (by decide)
        obtain ⟨z, hz, ez⟩ := atF (f := V.int) (xs := ([0, 1, 2, 3, 4, 5, 6, -1, 1000000000] : List Int)) (j := v5 % 9) m5.1 m5.2
        have mz : midI z := by
          have : ∀ z ∈ ([0, 1, 2, 3, 4, 5, 6, -1, 1000000000] : List Int), z.natAbs < 4611686018427387904 := by decide
          exact this z hz
        exact ⟨_, rfl, p, _, _, _, rfl, rfl, (sG.trans s1).seq hP, e5, .inl ⟨_, rfl, _, _, rfl, rfl, by show (0 : Int) < 9; decide, l1, _, _, _, rfl, rfl, SqL.of x1, ez, sG.trans s1, z, sz, nl, cl, rfl, mz, msz, hnx.same s1, hsx.same s1⟩⟩
      · exact ifF (decide_eq_false fun z => w12_ (V.int.inj z)) ⟨sG, kd, sz, nl, cl, rfl, mkd, msz, hnx, hsx⟩
    clear hnx hsx sG mkd msz
    rintro σ G ⟨sG, kd, sz, nl, cl, rfl, mkd, msz, hnx, hsx⟩
    refine ⟨fun σ G => Same H G ∧ ∃ (kd sz : Int) (nl cl : Addr), σ = [some (.ref a), some (.ref n), some (.ref r), some (.ref p), some (.int kd), some (.int sz), some (.ref nl), some (.ref cl), some (.int (v0 % 19)), some (.int (i_ : Nat)), some (.int (j_ : Nat)), some (.int (k_ : Nat)), some (.int (m_ : Nat))] ∧ midI kd ∧ midI sz ∧ GN G nl 25 ∧ GS G cl 25, ?_, ?_⟩
    · refine ⟨_, rfl, rfl, _, rfl, ?_⟩
      by_cases w13_ : (v0 % 19) = 13
      · refine ifT (decide_eq_true (show V.int (v0 % 19) = V.int 13 by rw [w13_])) ?_
        refine ⟨_, rfl, _, _, rfl, rfl, _, rfl, _, _, rfl, rfl, _, rfl, _, _, rfl, rfl, ⟨by decide, by decide, by decide⟩, by show 8 ≤ sizeLine; decide, fun l1 n1 => ?_⟩
        generalize hG : upd G l1 _ = G1
        have s1 : Same G G1 := hG ▸ same_new n1
        have x1 := (congrFun hG l1).symm.trans upd_same
        clear hG
        have e9 : (10 : Int) ^ (9 : Int).toNat = 1000000000 := by decide
        have x1 : G1 l1 = some (.lst [V.int 0, .int (sz - 1), .int (sz + 1), .int 1, .int 2, .int (-1), .int 11, .int ((10 : Int) ^ (9 : Int).toNat)]) := x1
        rw [e9] at x1
        have x1 : G1 l1 = some (.lst (fv V.int ([0, sz - 1, sz + 1, 1, 2, -1, 11, 1000000000] : List Int))) := x1
        have m5 := mm v5 8 (by decide)
        obtain ⟨z, hz, ez⟩ := atF (f := V.int) (xs := ([0, sz - 1, sz + 1, 1, 2, -1, 11, 1000000000] : List Int)) (j := v5 % 8) m5.1 m5.2
        have mz : midI z := by
          have q : z = 0 ∨ z = sz - 1 ∨ z = sz + 1 ∨ z = 1 ∨ z = 2 ∨ z = -1 ∨ z = 11 ∨ z = 1000000000 := by simpa using hz
          unfold midI
          omega
        exact ⟨_, rfl, p, _, _, _, rfl, rfl, (sG.trans s1).seq hP, e5, .inl ⟨_, rfl, _, _, rfl, rfl, by show (0 : Int) < 8; decide, l1, _, _, _, rfl, rfl, SqL.of x1, ez, sG.trans s1, kd, z, nl, cl, rfl, mkd, mz, hnx.same s1, hsx.same s1⟩⟩
      · exact ifF (decide_eq_false fun z => w13_ (V.int.inj z)) ⟨sG, kd, sz, nl, cl, rfl, mkd, (by unfold midI; omega), hnx, hsx⟩
    clear hnx hsx sG mkd msz
    rintro σ G ⟨sG, kd, sz, nl, cl, rfl, mkd, msz, hnx, hsx⟩
    refine ⟨fun σ G => Same H G ∧ ∃ (kd sz : Int) (nl cl : Addr), σ = [some (.ref a), some (.ref n), some (.ref r), some (.ref p), some (.int kd), some (.int sz), some (.ref nl), some (.ref cl), some (.int (v0 % 19)), some (.int (i_ : Nat)), some (.int (j_ : Nat)), some (.int (k_ : Nat)), some (.int (m_ : Nat))] ∧ midI kd ∧ midI sz ∧ GN G nl 25 ∧ GS G cl 25, ?_, ?_⟩
    · refine ⟨_, rfl, rfl, _, rfl, ?_⟩
      by_cases w14_ : (v0 % 19) = 14
      · refine ifT (decide_eq_true (show V.int (v0 % 19) = V.int 14 by rw [w14_])) ?_
        obtain ⟨zs, ez, zl, _⟩ := hnx
        exact ⟨_, rfl, _, rfl, .inl ⟨nl, p, zs, ps, 6, rfl, SqL.of ez, sG.seq hP, by omega, by decide, by omega, fun c os G1 s1 n1 e1 hp => ⟨sG.trans s1, kd, sz, c, cl, rfl, mkd, msz, ⟨os, e1, by rw [hp.length_eq]; exact zl, fun _ _ => trivial⟩, hsx.same s1⟩⟩⟩
      · exact ifF (decide_eq_false fun z => w14_ (V.int.inj z)) ⟨sG, kd, sz, nl, cl, rfl, mkd, msz, hnx, hsx⟩
    clear hnx hsx sG mkd msz
    rintro σ G ⟨sG, kd, sz, nl, cl, rfl, mkd, msz, hnx, hsx⟩
    refine ⟨fun σ G => Same H G ∧ ∃ (kd sz : Int) (nl cl : Addr), σ = [some (.ref a), some (.ref n), some (.ref r), some (.ref p), some (.int kd), some (.int sz), some (.ref nl), some (.ref cl), some (.int (v0 % 19)), some (.int (i_ : Nat)), some (.int (j_ : Nat)), some (.int (k_ : Nat)), some (.int (m_ : Nat))] ∧ midI kd ∧ midI sz ∧ GN G nl 25 ∧ GS G cl 25, ?_, ?_⟩
    · refine ⟨_, rfl, rfl, _, rfl, ?_⟩
      by_cases w15_ : (v0 % 19) = 15
      · refine ifT (decide_eq_true (show V.int (v0 % 19) = V.int 15 by rw [w15_])) ?_
        obtain ⟨zs, ez, zl, zo⟩ := hsx
        exact ⟨_, rfl, _, rfl, .inr ⟨cl, p, zs, ps, 6, rfl, SqL.of ez, sG.seq hP, by omega, by decide, by omega, fun c os G1 s1 n1 e1 hp => ⟨sG.trans s1, kd, sz, nl, c, rfl, mkd, msz, hnx.same s1, ⟨os, e1, by rw [hp.length_eq]; exact zl, fun y hy => zo y (hp.mem_iff.mp hy)⟩⟩⟩⟩
      · exact ifF (decide_eq_false fun z => w15_ (V.int.inj z)) ⟨sG, kd, sz, nl, cl, rfl, mkd, msz, hnx, hsx⟩
    clear hnx hsx sG mkd msz
    rintro σ G ⟨sG, kd, sz, nl, cl, rfl, mkd, msz, hnx, hsx⟩
    refine ⟨_, rfl, _, rfl, _, rfl, _, rfl, by show 4 ≤ sizeLine; decide, fun l hl => ?_⟩
    exact told_of kk sG mkd msz (hnx.mono (by decide)) (hsx.mono (by decide)) hl
end
end My
set_option maxRecDepth 100000
set_option maxHeartbeats 16000000
set_option exponentiation.threshold 10000
namespace My
open PySem L2
open C8 (pss_cut)
/-- rows as data -/
abbrev pdr (rs : List (List Str)) : List PyData := rs.map fun r => PyData.list (pd r)
theorem lay_pdr {rs : List (List Str)} (h : ∀ r ∈ rs, ∀ z ∈ r, Good z) : PyData.canLayAll0 (pdr rs) = true := by
  induction rs with
  | nil => rfl
  | cons a t ih => exact layc (layL (lay_all fun z hz => okz_good (h a List.mem_cons_self z hz))) (ih fun s hs => h s (List.mem_cons_of_mem _ hs))
theorem depth_pdr : ∀ rs : List (List Str), PyData.depthAll (pdr rs) ≤ 3
  | [] => by simp [PyData.depthAll]
  | r :: t => by
    have h1 : PyData.depthAll (t.map fun r => PyData.list (pd r)) ≤ 3 := depth_pdr t
    have h2 := depth_pd r
    simp only [List.map_cons, PyData.depthAll, PyData.depth]
    omega
theorem dp_pdr {K : PySem.W.Frag} {H : Hp} : ∀ {ts : List Addr} {rs : List (List Str)}, Lss .lst H ts rs → DpAll K H (ts.map V.ref) (pdr rs)
  | [], [], _ => .nil
  | [], _ :: _, h => nomatch h.len
  | _ :: _, [], h => nomatch h.len
  | t :: ts, r :: rs, h => .cons (.lst (xs := sv r) (SqL.of (h.at_ 0 t r rfl rfl)) (dp_pd r)) (dp_pdr ⟨Nat.succ.inj h.len, fun i u x a b => h.at_ (i + 1) u x a b⟩)
theorem mk_pat {C : Addr} {H : Hp} {r c x dx : Addr} {k s : Int} {xs : List Int} {ys : List Str} {Q2 : VK} (hR : LT H r (ivs xs)) (hC : LT H c (sv ys)) (hx : H x = none) (hdx : H dx = none) (hne : dx ≠ x) (kk : ∀ H', Same H H' → Pat C H' x k s xs ys → Q2 .non H') :
    spPatI C (.ref x :: ([.int k, .int s, .ref r, .ref c] ++ [])) (upd (upd H dx (.own x)) x (.ins C dx [])) Q2 E0 := by
  have s1 := same_new (o := .own x) hdx
  have hx1 : upd H dx (.own x) x = none := by rw [upd_ne hne.symm]; exact hx
  have s2 : Same H (upd (upd H dx (.own x)) x (.ins C dx [])) := s1.trans (same_new hx1)
  exact ⟨x, k, s, r, c, dx, xs, ys, rfl, upd_same, hR.same s2, hC.same s2, fun H' hk hT => kk H' (fun b o e => hk b o (ne_of_none e hx) (s2 _ _ e)) hT⟩
/-- a told pattern as data -/
abbrev pdt (k s : Int) (xs : List Int) (ys : List Str) : List PyData := [.int k, .int s, .list (pdi xs), .list (pd ys)]
theorem Told.dp {K : PySem.W.Frag} {H : Hp} {a : Addr} {k s : Int} {xs : List Int} {ys : List Str} (h : Told H a k s xs ys) : Dp K H (.ref a) (.list (pdt k s xs ys)) := by
  obtain ⟨nl, cl, a1, a2, a3⟩ := h
  exact .lst (SqL.of a1) (.cons (.int k) (.cons (.int s) (.cons (.lst (SqL.of a2) (dp_ivs xs)) (.cons (.lst (SqL.of a3) (dp_pd ys)) .nil))))
theorem sh_pdt {k s : Int} {xs : List Int} {ys : List Str} (h : ∀ y ∈ ys, Okz y) : SeqAt.shaped (.list (pdt k s xs ys)) = true := by
  refine shapedL (layc (lay_int k) (layc (lay_int s) (layc (layL (lay_pdi xs)) (layc (layL (lay_all h)) (by simp [PyData.canLayAll0]))))) ?_
  have e1 := depth_pdi xs
  have e2 := depth_pd ys
  simp only [PyData.depthAll, PyData.depth] at e1 e2 ⊢
  omega
theorem nb_pdt (k s : Int) (xs : List Int) (ys : List Str) : nb (.list (pdt k s xs ys)) = true := by
  simp only [nb, nbAll, nb_pdi, nb_pd, Bool.and_true]
theorem eqv_pdt {k s k2 s2 : Int} {xs x2 : List Int} {ys y2 : List Str} : PyData.eqv (.list (pdt k s xs ys)) (.list (pdt k2 s2 x2 y2)) = decide (k = k2 ∧ s = s2 ∧ xs = x2 ∧ ys = y2) := by
  rw [Bool.eq_iff_iff, decide_eq_true_iff, eqv_iff _ _ (nb_pdt ..) (nb_pdt ..)]
  constructor
  · intro h
    injection h with h
    injection h with h1 h
    injection h with h2 h
    injection h with h3 h
    injection h with h4 h
    injection h1 with h1
    injection h2 with h2
    injection h3 with h3
    injection h4 with h4
    exact ⟨h1, h2, pdi_inj.mp h3, pd_inj.mp h4⟩
  · rintro ⟨rfl, rfl, rfl, rfl⟩; rfl
section
variable {P : Program} {w : World} {K : PySem.W.Frag} {mg : Str → Option Value} {base : Heap} {A : Ad}
def spAttr (A : Ad) (K : PySem.W.Frag) : Sp := fun vs H Q _ => ∃ (p a : Addr) (k s : Int) (xs : List Int) (ys : List Str), vs = [.ref p, .ref a] ∧ Pat A.C_Pattern H p k s xs ys ∧ Told H a k s xs ys ∧ (∀ y ∈ ys, Okz y) ∧ ∀ H', Same H H' → Q (.bl true) H'
theorem ok_attr (T : Txt P K mg A) : FnOk P w K mg base CX0 2 A.a_law_attributes A.d_law_attributes ["pattern", "told"] (spAttr A K) := by
  have G_law_is_number := ok_isNum (P := P) (w := w) (base := base) T
  refine T.F_law_attributes.ok sc_law_attributes (fun vs H Q E h => ?_) (fun cdv A' outer s0 H vs Q E hr h => ?_)
  · obtain ⟨p, a, k, s, xs, ys, rfl, _⟩ := h
    rfl
  · obtain ⟨p, a, k, s, xs, ys, rfl, ⟨dp, rt, ct, h1, hrt, hct⟩, ⟨nl, cl, ha, hnl, hcl⟩, hyo, kk⟩ := h
    refine ⟨_, (pss_cons (ps_if (PW.pt (pw_or (pt_not (pt_val (pe_call G_law_is_number (hr.mono (by decide)) rfl T.mg_law_is_number T.F_law_is_number.kp T.b_law_is_number .nil pass0 (pa_cons (pe_fld (pv 0) rfl) (pa_cons (pe_ix ix_list (pv 1) pe_int (fun _ _ => rfl)) (pa_cons (pe_ix ix_list (pv 1) pe_int (fun _ _ => rfl)) pa_nil)))))) (pw_or1 (pt_not (pt_val (pe_call G_law_is_number (hr.mono (by decide)) rfl T.mg_law_is_number T.F_law_is_number.kp T.b_law_is_number .nil pass0 (pa_cons (pe_fld (pv 0) rfl) (pa_cons (pe_ix ix_list (pv 1) pe_int (fun _ _ => rfl)) (pa_cons (pe_ix ix_list (pv 1) pe_int (fun _ _ => rfl)) pa_nil))))))))) (pss_one (ps_ret pe_bl)) pss_nil)
      (pss_cons (ps_if (PW.pt (pw_or (pt_not (pt_val (pe_callB call_isi (by rfl) T.n_isinstance (by decide +kernel) (pa_cons (pe_fld (pv 0) rfl) (pa_cons (pe_bltn (v := .ty "tuple") (by rfl) T.n_tuple (by decide +kernel) rfl) pa_nil))))) (pw_or1 (pt_not (pt_val (pe_callB call_isi (by rfl) T.n_isinstance (by decide +kernel) (pa_cons (pe_fld (pv 0) rfl) (pa_cons (pe_bltn (v := .ty "tuple") (by rfl) T.n_tuple (by decide +kernel) rfl) pa_nil)))))))) (pss_one (ps_ret pe_bl)) pss_nil)
      (pss_one (ps_ret (pe_and (pe_cmpR (op_eqD hr.units) (pe_callTy (show CallR _ _ (rListOf K) from call_list_of) (by rfl) T.n_list (by decide +kernel) (pa_cons (pe_fld (pv 0) rfl) pa_nil)) (pe_ix ix_list (pv 1) pe_int (fun _ _ => rfl)) (nomark _)) (pe_one (pe_cmpR (op_eqD hr.units) (pe_callTy (show CallR _ _ (rListOf K) from call_list_of) (by rfl) T.n_list (by decide +kernel) (pa_cons (pe_fld (pv 0) rfl) pa_nil)) (pe_ix ix_list (pv 1) pe_int (fun _ _ => rfl)) (nomark _)))))))), ?_⟩
    have t0 : atI ([V.int k, .int s, .ref nl, .ref cl] : List V) 0 = some (V.int k) := atI_nat (j := 0) rfl
    have t1 : atI ([V.int k, .int s, .ref nl, .ref cl] : List V) 1 = some (V.int s) := atI_nat (j := 1) rfl
    have t2 : atI ([V.int k, .int s, .ref nl, .ref cl] : List V) 2 = some (V.ref nl) := atI_nat (j := 2) rfl
    have t3 : atI ([V.int k, .int s, .ref nl, .ref cl] : List V) 3 = some (V.ref cl) := atI_nat (j := 3) rfl
    refine ⟨_, rfl, _, _, _, _, _, rfl, h1, T.cl_Pattern, T.n_Pattern_kind, fldsP_kind _ _ _ _, _, rfl, a, _, _, _, rfl, rfl, SqL.of ha, t0, _, rfl, a, _, _, _, rfl, rfl, SqL.of ha, t0, k, k, k, rfl, _, rfl, ifF (by rw [decide_eq_true (show k ≤ k ∧ k ≤ k from ⟨Int.le_refl _, Int.le_refl _⟩)]; rfl) ?_⟩
    refine ⟨_, rfl, _, _, _, _, _, rfl, h1, T.cl_Pattern, T.n_Pattern_size, fldsP_size _ _ _ _, _, rfl, a, _, _, _, rfl, rfl, SqL.of ha, t1, _, rfl, a, _, _, _, rfl, rfl, SqL.of ha, t1, s, s, s, rfl, _, rfl, ifF (by rw [decide_eq_true (show s ≤ s ∧ s ≤ s from ⟨Int.le_refl _, Int.le_refl _⟩)]; rfl) ?_⟩
    refine ⟨_, rfl, _, _, _, _, _, rfl, h1, T.cl_Pattern, T.n_Pattern_rows, fldsP_rows _ _ _ _, _, _, _, _, true, rfl, .ty _, .base (.tup hrt), kit_ty (by decide +kernel), true, rfl, ifF rfl ?_⟩
    refine ⟨_, rfl, _, _, _, _, _, rfl, h1, T.cl_Pattern, T.n_Pattern_columns, fldsP_columns _ _ _ _, _, _, _, _, true, rfl, .ty _, .base (.tup hct), kit_ty (by decide +kernel), true, rfl, ifF rfl ?_⟩
    refine ⟨_, rfl, _, _, _, _, _, rfl, h1, T.cl_Pattern, T.n_Pattern_rows, fldsP_rows _ _ _ _, rt, _, rfl, .inr (SqT.of hrt), fun l1 n1 => ?_⟩
    generalize hG : upd H l1 _ = H1
    have q1 : Same H H1 := hG ▸ same_new n1
    have x1 := (congrFun hG l1).symm.trans upd_same
    clear hG
    refine ⟨_, rfl, a, _, _, _, rfl, rfl, SqL.of (q1 _ _ ha), t2, .list (pdi xs), .list (pdi xs), .lst (SqL.of x1) (dp_ivs _), .lst (SqL.of (q1 _ _ hnl)) (dp_ivs _), sh_pdi _, sh_pdi _, _, rfl, ifT (eqvL (lay_pdi _)) ?_⟩
    have h1 := q1 _ _ h1
    refine ⟨_, rfl, _, _, _, _, _, rfl, h1, T.cl_Pattern, T.n_Pattern_columns, fldsP_columns _ _ _ _, ct, _, rfl, .inr (SqT.of (q1 _ _ hct)), fun l2 n2 => ?_⟩
    generalize hG : upd H1 l2 _ = H2
    have q2 : Same H1 H2 := hG ▸ same_new n2
    have x2 := (congrFun hG l2).symm.trans upd_same
    clear hG
    have q12 := q1.trans q2
    refine ⟨_, rfl, a, _, _, _, rfl, rfl, SqL.of (q12 _ _ ha), t3, .list (pd ys), .list (pd ys), .lst (SqL.of x2) (dp_pd _), .lst (SqL.of (q12 _ _ hcl)) (dp_pd _), shaped_pd hyo, shaped_pd hyo, ?_⟩
    rw [eqv_pd hyo]
    exact kk _ q12
def spLAlike (K : PySem.W.Frag) : Sp := fun vs H Q _ => ∃ (a b : Addr) (k s k2 s2 : Int) (xs x2 : List Int) (ys y2 : List Str), vs = [.ref a, .ref b] ∧ Told H a k s xs ys ∧ Told H b k2 s2 x2 y2 ∧ (∀ y ∈ ys, Okz y) ∧ (∀ y ∈ y2, Okz y) ∧ ∀ H', Same H H' → Q (.bl true) H'
theorem ok_lalike (T : Txt P K mg A) : FnOk P w K mg base CX0 3 A.a_law_alike A.d_law_alike ["told", "other"] (spLAlike K) := by
  have G_Pattern_init := ok_patI (P := P) (w := w) (K := K) (base := base) T
  have G_Pattern_eq := ok_peq (P := P) (w := w) (base := base) T
  refine T.F_law_alike.ok sc_law_alike (fun vs H Q E h => ?_) (fun cdv A' outer s0 H vs Q E hr h => ?_)
  · obtain ⟨a, b, k, s, k2, s2, xs, x2, ys, y2, rfl, _⟩ := h
    rfl
  · obtain ⟨a, b, k, s, k2, s2, xs, x2, ys, y2, rfl, hA, hB, hyo, hyo2, kk⟩ := h
    refine ⟨_, (pss_cons (ps_set (i := 2) sc_law_alike.nd rfl (Or.inl rfl) (pe_make T.mk_Pattern G_Pattern_init (hr.mono (by decide)) rfl T.mg_Pattern T.b_Pattern_init .nil pass0 (pa_cons (pe_ix ix_list (pv 0) pe_int (fun _ _ => rfl)) (pa_cons (pe_ix ix_list (pv 0) pe_int (fun _ _ => rfl)) (pa_cons (pe_callTy (show CallR _ _ (rListOf K) from call_list_of) (by rfl) T.n_list (by decide +kernel) (pa_cons (pe_ix ix_list (pv 0) pe_int (fun _ _ => rfl)) pa_nil)) (pa_cons (pe_callTy (show CallR _ _ (rListOf K) from call_list_of) (by rfl) T.n_list (by decide +kernel) (pa_cons (pe_ix ix_list (pv 0) pe_int (fun _ _ => rfl)) pa_nil)) pa_nil))))))
      (pss_cons (ps_set (i := 3) sc_law_alike.nd rfl (Or.inl rfl) (pe_cmpR (op_eqOwn G_Pattern_eq T.b_Pattern_eq pass0 (hr.mono (by decide)) T.m_Pattern_eq.at_ T.m_Pattern_eq.fn) (pv 2) (pe_make T.mk_Pattern G_Pattern_init (hr.mono (by decide)) rfl T.mg_Pattern T.b_Pattern_init .nil pass0 (pa_cons (pe_ix ix_list (pv 1) pe_int (fun _ _ => rfl)) (pa_cons (pe_ix ix_list (pv 1) pe_int (fun _ _ => rfl)) (pa_cons (pe_callTy (show CallR _ _ (rTupOf K) from call_tuple_of) (by rfl) T.n_tuple (by decide +kernel) (pa_cons (pe_ix ix_list (pv 1) pe_int (fun _ _ => rfl)) pa_nil)) (pa_cons (pe_callTy (show CallR _ _ (rTupOf K) from call_tuple_of) (by rfl) T.n_tuple (by decide +kernel) (pa_cons (pe_ix ix_list (pv 1) pe_int (fun _ _ => rfl)) pa_nil)) pa_nil))))) (nomark _)))
      (pss_one (ps_ret (pe_and (pe_callB call_isi (by rfl) T.n_isinstance (by decide +kernel) (pa_cons (pv 3) (pa_cons (pe_bltn (v := .ty "bool") (by rfl) T.n_bool (by decide +kernel) rfl) pa_nil))) (pe_one (pe_cmpR op_eq (pv 3) (pe_cmpR (op_eqD hr.units) (pv 0) (pv 1) (nomark _)) (nomark _)))))))), ?_⟩
    obtain ⟨nl, cl, ha, hnl, hcl⟩ := id hA
    obtain ⟨nl2, cl2, hb, hnl2, hcl2⟩ := id hB
    have t0 : atI ([V.int k, .int s, .ref nl, .ref cl] : List V) 0 = some (V.int k) := atI_nat (j := 0) rfl
    have t1 : atI ([V.int k, .int s, .ref nl, .ref cl] : List V) 1 = some (V.int s) := atI_nat (j := 1) rfl
    have t2 : atI ([V.int k, .int s, .ref nl, .ref cl] : List V) 2 = some (V.ref nl) := atI_nat (j := 2) rfl
    have t3 : atI ([V.int k, .int s, .ref nl, .ref cl] : List V) 3 = some (V.ref cl) := atI_nat (j := 3) rfl
    have u0 : atI ([V.int k2, .int s2, .ref nl2, .ref cl2] : List V) 0 = some (V.int k2) := atI_nat (j := 0) rfl
    have u1 : atI ([V.int k2, .int s2, .ref nl2, .ref cl2] : List V) 1 = some (V.int s2) := atI_nat (j := 1) rfl
    have u2 : atI ([V.int k2, .int s2, .ref nl2, .ref cl2] : List V) 2 = some (V.ref nl2) := atI_nat (j := 2) rfl
    have u3 : atI ([V.int k2, .int s2, .ref nl2, .ref cl2] : List V) 3 = some (V.ref cl2) := atI_nat (j := 3) rfl
    refine ⟨_, rfl, a, _, _, _, rfl, rfl, SqL.of ha, t0, _, rfl, a, _, _, _, rfl, rfl, SqL.of ha, t1, _, rfl, a, _, _, _, rfl, rfl, SqL.of ha, t2, nl, _, rfl, .inl (SqL.of hnl), fun l1 n1 => ?_⟩
    generalize hG : upd H l1 _ = H1
    have q1 : Same H H1 := hG ▸ same_new n1
    have z1 := (congrFun hG l1).symm.trans upd_same
    clear hG
    refine ⟨_, rfl, a, _, _, _, rfl, rfl, SqL.of (q1 _ _ ha), t3, cl, _, rfl, .inl (SqL.of (q1 _ _ hcl)), fun l2 n2 => ?_⟩
    generalize hG : upd H1 l2 _ = H2
    have q2 : Same H1 H2 := hG ▸ same_new n2
    have z2 := (congrFun hG l2).symm.trans upd_same
    clear hG
    have z1 := q2 _ _ z1
    have q12 := q1.trans q2
    refine fun x dx hx hdx hne => mk_pat (.inl z1) (.inl z2) hx hdx hne fun H3 s3 hP1 => ⟨rfl, ?_⟩
    have s13 := q12.trans s3
    have hb3 := s13 _ _ hb
    have hnl23 := s13 _ _ hnl2
    refine ⟨_, rfl, _, rfl, b, _, _, _, rfl, rfl, SqL.of hb3, u0, _, rfl, b, _, _, _, rfl, rfl, SqL.of hb3, u1, _, rfl, b, _, _, _, rfl, rfl, SqL.of hb3, u2, ?_⟩
    dsimp only [tNil]
    refine tupP (K := K) (.inl hnl23) fun r3 H4 s4 hr3 => ?_
    have s14 := s13.trans s4
    refine ⟨_, rfl, b, _, _, _, rfl, rfl, SqL.of (s14 _ _ hb), u3, ?_⟩
    dsimp only [tNil]
    refine tupP (K := K) (.inl (s14 _ _ hcl2)) fun c3 H5 s5 hc3 => ?_
    have s15 := s14.trans s5
    refine fun x5 dx5 hx5 hdx5 hne5 => mk_pat (.inr (s5 _ _ hr3)) (.inr hc3) hx5 hdx5 hne5 fun H6 s6 hP2 => ⟨rfl, ?_⟩
    have s16 := s15.trans s6
    have hP1 := hP1.same (s4.trans (s5.trans s6))
    obtain ⟨d1, r1, c1, h1, _⟩ := id hP1
    obtain ⟨d2, r2, c2, h2, _⟩ := id hP2
    refine ⟨x, x5, d1, d2, _, _, rfl, rfl, h1, h2, x, x5, k, s, k2, s2, xs, x2, ys, y2, rfl, hP1, hP2, hyo, hyo2, ?_⟩
    have fin := kk _ s16
    have hA6 := (hA.same s16).dp (K := K)
    have hB6 := (hB.same s16).dp (K := K)
    refine ⟨_, rfl, _, _, _, _, true, rfl, .ty _, .base (.bl _), kit_ty (by decide +kernel), true, rfl, iteT ?_⟩
    refine ⟨_, rfl, _, rfl, _, rfl, _, _, hA6, hB6, sh_pdt hyo, sh_pdt hyo2, rfl, ?_⟩
    rw [eqv_pdt, decide_eq_true rfl]
    exact fin
end
end My
set_option maxRecDepth 100000
set_option maxHeartbeats 16000000
set_option exponentiation.threshold 10000
namespace My
open PySem L2
open C8 (pss_cut)
theorem mk_table2 {C : Addr} {K : PySem.W.Frag} {H : Hp} {l r x dx : Addr} {cs : List Str} {ts : List Addr} {rs : List (List Str)} {Q2 : VK} (hL : SqL K H l (sv cs) ∨ H l = some (.tup (sv cs))) (hR : SqL K H r (ts.map V.ref)) (hs : LsA K H ts rs) (ok : ColsOk cs) (hr : rs.length ≤ 48)
    (st : ∀ x ∈ rs, stray cs x = none ∧ x.length ≤ 1000) (hx : H x = none) (hdx : H dx = none) (hne : dx ≠ x) (k : ∀ H', Same H H' → Tb C H' x cs rs → Q2 .non H') :
    spTable C K (.ref x :: ([.ref l, .ref r] ++ [])) (upd (upd H dx (.own x)) x (.ins C dx [])) Q2 E0 := by
  have s1 := same_new (o := .own x) hdx
  have hx1 : upd H dx (.own x) x = none := by rw [upd_ne hne.symm]; exact hx
  have s2 : Same H (upd (upd H dx (.own x)) x (.ins C dx [])) := s1.trans (same_new hx1)
  exact ⟨x, l, r, dx, cs, ts, rs, rfl, upd_same, hL.imp (fun q => s2.seq q) (fun q => s2 _ _ q), s2.seq hR, hs.same s2, ok.g, ok.nd, ok.n, hr, st, fun H' hk hT => k H' (fun b o e => hk b o (ne_of_none e hx) (s2 _ _ e)) hT⟩
section
variable {P : Program} {w : World} {K : PySem.W.Frag} {mg : Str → Option Value} {base : Heap} {A : Ad}
def spLL (A : Ad) (K : PySem.W.Frag) : Sp := fun vs H Q _ => ∃ (n r td p : Addr) (k s : Int) (xs : List Int) (ys cs : List Str) (rts : List Addr) (rs : List (List Str)) (k2 s2 : Int) (x2 : List Int) (y2 : List Str), vs = [.ref n, .ref r, .ref td, .ref p] ∧ H n = some (.lst (sv cs)) ∧ ColsOk cs ∧ H r = some (.lst (rts.map V.ref)) ∧ Lss .lst H rts rs ∧ (∀ x ∈ rs, RowOk cs x) ∧ rs.length ≤ 40 ∧ Told H td k s x2 y2 ∧ Pat A.C_Pattern H p k s xs ys ∧ midI k ∧ midI s ∧ xs.length ≤ 1000 ∧ ys.length ≤ 1000 ∧ ∀ H', Same H H' → Q (.bl true) H'
theorem ok_ll (T : Txt P K mg A) : FnOk P w K mg base CX0 9 A.a_law_lies A.d_law_lies ["names", "rows", "told", "pattern"] (spLL A K) := by
  have G_Table_init := ok_table (P := P) (w := w) (base := base) T
  have G_lies_in := ok_lies (P := P) (w := w) (base := base) T
  have G_law_is_pattern := ok_isPat (P := P) (w := w) (base := base) T
  refine T.F_law_lies.ok sc_law_lies (fun vs H Q E h => ?_) (fun cdv A' outer s0 H vs Q E hr h => ?_)
  · obtain ⟨n, r, td, p, k, s, xs, ys, cs, rts, rs, k2, s2, x2, y2, rfl, _⟩ := h
    rfl
  · obtain ⟨n, r, td, p, k, s, xs, ys, cs, rts, rs, k2, s2, x2, y2, rfl, hn, ok, hr8, hR, hRow, hrl, ⟨nl, cl, ha, hnl, hcl⟩, hP, mk, ms, hxl, hyl, kk⟩ := h
    refine ⟨_, (pss_cons (ps_set (i := 4) sc_law_lies.nd rfl (Or.inl rfl) (pe_lst (pa_cons (pe_callTy (show CallR _ _ (rListOf K) from call_list_of) (by rfl) T.n_list (by decide +kernel) (pa_cons (pv 0) pa_nil)) (pa_cons (pe_lc (own := [("row", 7)]) (g := gName 7) (tt := tYes) rfl sc_law_lies.nd (pi_list (pv 1)) (blkOk_by (N := ["names", "rows", "told", "pattern", "handed", "answer", "due", "row"]) (sc := defScope s_law_lies) (by decide +kernel)) (fun _ _ _ _ _ => (pg_name (i := 7) sc_law_lies.nd rfl (Or.inl rfl))) (fun _ _ _ _ _ => pts_nil) (fun _ _ _ _ _ => (pe_callTy (show CallR _ _ (rListOf K) from call_list_of) (by rfl) T.n_list (by decide +kernel) (pa_cons (pv 7) pa_nil)))) pa_nil))))
      (pss_cons (ps_set (i := 5) sc_law_lies.nd rfl (Or.inl rfl) (pe_call G_lies_in (hr.mono (by decide)) rfl T.mg_lies_in T.F_lies_in.kp T.b_lies_in .nil pass0 (pa_cons (pe_make T.mk_Table G_Table_init (hr.mono (by decide)) rfl T.mg_Table T.bi .nil pass0 (pa_cons (pe_ix ix_list (pv 4) pe_int (fun _ _ => rfl)) (pa_cons (pe_ix ix_list (pv 4) pe_int (fun _ _ => rfl)) pa_nil))) (pa_cons (pv 3) pa_nil))))
      (pss_cons (ps_set (i := 6) sc_law_lies.nd rfl (Or.inl rfl) (pe_call G_law_is_pattern (hr.mono (by decide)) rfl T.mg_law_is_pattern T.F_law_is_pattern.kp T.b_law_is_pattern .nil pass0 (pa_cons (pv 3) (pa_cons (pv 0) (pa_cons (pv 1) pa_nil)))))
      (pss_cons (ps_if (PW.pt (pw_or (pt_cmpR op_ne (pe_fld (pv 3) rfl) (pe_ix ix_list (pv 2) pe_int (fun _ _ => rfl)) (nomark _)) (pw_or (pt_cmpR op_ne (pe_fld (pv 3) rfl) (pe_ix ix_list (pv 2) pe_int (fun _ _ => rfl)) (nomark _)) (pw_or1 (pt_cmpR (op_neD hr.units) (pv 4) (pe_lst (pa_cons (pv 0) (pa_cons (pv 1) pa_nil))) (nomark _)))))) (pss_one (ps_ret pe_bl)) pss_nil)
      (pss_one (ps_ret (pe_and (pe_callB call_isi (by rfl) T.n_isinstance (by decide +kernel) (pa_cons (pv 5) (pa_cons (pe_bltn (v := .ty "bool") (by rfl) T.n_bool (by decide +kernel) rfl) pa_nil))) (pe_one (pe_cmpR op_eq (pv 5) (pv 6) (nomark _)))))))))), ?_⟩
    have t0 : atI ([V.int k, .int s, .ref nl, .ref cl] : List V) 0 = some (V.int k) := atI_nat (j := 0) rfl
    have t1 : atI ([V.int k, .int s, .ref nl, .ref cl] : List V) 1 = some (V.int s) := atI_nat (j := 1) rfl
    have hg := ok.g
    refine ⟨_, rfl, n, _, rfl, .inl (SqL.of hn), fun d1 n1 => ?_⟩
    generalize hG : upd H d1 _ = F1
    have a1 : Same H F1 := hG ▸ same_new n1
    have b1 := (congrFun hG d1).symm.trans upd_same
    clear hG
    refine ⟨_, rfl, r, rfl, ⟨_, SqL.of (a1 _ _ hr8)⟩, fun D hD => lc_it walk_list (fun i H8 => LcL F1 D (rs.take i) H8) (lcl0 hD) (fun i H8 _ q => (a1.trans q.1).seq (SqL.of hr8)) ?_ ?_⟩
    · rintro i x H80 H8 hi q8 ⟨rfl, hx⟩
      obtain ⟨c, hc, rfl⟩ := refs_get hx
      obtain ⟨y, hy, ho8⟩ := ((hR.same a1).same q8.1).get hc
      refine ⟨rfl, _, rfl, c, _, rfl, .inl (SqL.of ho8), fun a' ha' => ?_⟩
      rw [take_succ hy]
      exact q8.new hD ha' (by rw [List.length_take]; omega)
    rintro F2 ⟨a2, dts, b2, hDl, _⟩
    rw [List.length_map, hR.len, List.take_length] at hDl
    refine ⟨by show 2 ≤ sizeLine; decide, fun hd n7 => ?_⟩
    generalize hG : upd F2 hd _ = F7
    have a7 : Same F2 F7 := hG ▸ same_new n7
    have b7 := (congrFun hG hd).symm.trans upd_same
    clear hG
    have a27 := a2.trans a7
    have b1 := a27 _ _ b1
    have b2 := a7 _ _ b2
    have hDl := hDl.same a7
    have a17 := a1.trans a27
    have c0' : atI ([V.ref d1, .ref D] : List V) 0 = some (V.ref d1) := atI_nat (j := 0) rfl
    have c1' : atI ([V.ref d1, .ref D] : List V) 1 = some (V.ref D) := atI_nat (j := 1) rfl
    refine ⟨_, rfl, hd, _, _, _, rfl, rfl, SqL.of b7, c0', _, rfl, hd, _, _, _, rfl, rfl, SqL.of b7, c1', ?_⟩
    dsimp only [tNil]
    refine fun tb dx hx hdx hne => mk_table2 (.inl (SqL.of b1)) (SqL.of b2) hDl.lsa ok (by omega) (fun x hx => ⟨(hRow x hx).stray, by have := (hRow x hx).len; have := ok.n; omega⟩) hx hdx hne fun F8 s8 hT => ⟨rfl, ?_⟩
    have a18 := a17.trans s8
    refine ⟨_, rfl, tb, p, cs, rs, k, s, xs, ys, rfl, hT, hP.same a18, mk, ms, by omega, hxl, hyl, fun F9 s9 => ?_⟩
    have a19 := a18.trans s9
    refine ⟨_, rfl, _, rfl, _, rfl, p, n, r, k, s, xs, ys, cs, rts, rs, rfl, hP.same a19, SqL.of (a19 _ _ hn), SqL.of (a19 _ _ hr8), hR.same a19, fun x hx => (hRow x hx).2, by omega, hxl, hyl, fun F10 s10 => ?_⟩
    have a110 := a19.trans s10
    have a710 := s8.trans (s9.trans s10)
    obtain ⟨dp, rt, ct, h1, hrt, hct⟩ := hP.same a110
    refine ⟨_, rfl, _, _, _, _, _, rfl, h1, T.cl_Pattern, T.n_Pattern_kind, fldsP_kind _ _ _ _, _, rfl, td, _, _, _, rfl, rfl, SqL.of (a110 _ _ ha), t0, rfl, _, rfl, ifF (by rw [decide_eq_true rfl]; rfl) ?_⟩
    refine ⟨_, rfl, _, _, _, _, _, rfl, h1, T.cl_Pattern, T.n_Pattern_size, fldsP_size _ _ _ _, _, rfl, td, _, _, _, rfl, rfl, SqL.of (a110 _ _ ha), t1, rfl, _, rfl, ifF (by rw [decide_eq_true rfl]; rfl) ?_⟩
    refine ⟨_, rfl, _, rfl, _, rfl, by show 2 ≤ sizeLine; decide, fun l9 m9 => ?_⟩
    generalize hG : upd F10 l9 _ = V4
    have v4 : Same F10 V4 := hG ▸ same_new m9
    have u4 := (congrFun hG l9).symm.trans upd_same
    clear hG
    have v14 := a110.trans v4
    have v74 := a710.trans v4
    have gcs : PyData.canLayAll0 (pd cs) = true := lay_all fun z hz => okz_good (hg z hz)
    have grs : PyData.canLayAll0 (pdr rs) = true := lay_pdr fun x hx z hz => hg z ((hRow x hx).2 z hz)
    have lay : PyData.canLayAll0 [.list (pd cs), .list (pdr rs)] = true := layc (layL gcs) (layc (layL grs) (by simp [PyData.canLayAll0]))
    have dep : PyData.depthAll [.list (pd cs), .list (pdr rs)] ≤ 20 := by
      have e1 := depth_pd cs
      have e2 := depth_pdr rs
      simp only [PyData.depthAll, PyData.depth] at e1 e2 ⊢
      omega
    refine ⟨.list [.list (pd cs), .list (pdr rs)], .list [.list (pd cs), .list (pdr rs)],
      .lst (SqL.of (v74 _ _ b7)) (.cons (.lst (SqL.of (v74 _ _ b1)) (dp_pd cs)) (.cons (.lst (SqL.of (v74 _ _ b2)) (dp_pdr (hDl.same v74))) .nil)),
      .lst (SqL.of u4) (.cons (.lst (SqL.of (v14 _ _ hn)) (dp_pd cs)) (.cons (.lst (SqL.of (v14 _ _ hr8)) (dp_pdr (hR.same v14))) .nil)), shapedL lay dep, shapedL lay dep, _, rfl, ifF (by rw [eqvL lay]; rfl) ?_⟩
    refine ⟨_, rfl, _, _, _, _, true, rfl, .ty _, .base (.bl _), kit_ty (by decide +kernel), true, rfl, iteT ?_⟩
    refine ⟨_, rfl, _, rfl, rfl, ?_⟩
    rw [decide_eq_true rfl]
    exact kk _ v14
end
end My
set_option maxRecDepth 100000
set_option maxHeartbeats 16000000
set_option exponentiation.threshold 10000
namespace My
open PySem L2
open C8 (pss_cut)
/-- where a number stands -/
def posI (os : List Int) (i : Int) : Nat := os.findIdx fun y => decide (y = i)
theorem posI_at {os : List Int} {i : Int} (h : i ∈ os) : os[posI os i]? = some i := by
  unfold posI
  have hl : os.findIdx (fun y => decide (y = i)) < os.length := List.findIdx_lt_length_of_exists ⟨i, h, decide_eq_true rfl⟩
  rw [List.getElem?_eq_getElem hl]
  have := List.findIdx_getElem (xs := os) (p := fun y => decide (y = i)) (w := hl)
  rw [of_decide_eq_true this]
theorem nodup_atI {os : List Int} (h : os.Nodup) {i j : Nat} {z : Int} (e1 : os[i]? = some z) (e2 : os[j]? = some z) : i = j := by
  obtain ⟨h1, a1⟩ := List.getElem?_eq_some_iff.mp e1
  obtain ⟨h2, a2⟩ := List.getElem?_eq_some_iff.mp e2
  rw [List.nodup_iff_pairwise_ne, List.pairwise_iff_getElem] at h
  rcases Nat.lt_trichotomy i j with l | l | l
  · exact absurd (a1.trans a2.symm) (h _ _ h1 h2 l)
  · exact l
  · exact absurd (a2.trans a1.symm) (h _ _ h2 h1 l)
theorem places_nodup (n : Nat) : (places n).Nodup := by
  unfold places
  rw [List.nodup_iff_pairwise_ne, List.pairwise_map]
  have := List.nodup_range (n := n)
  rw [List.nodup_iff_pairwise_ne] at this
  exact this.imp fun {a b} h e => h (by omega)
theorem places_len (n : Nat) : (places n).length = n := by unfold places; rw [List.length_map, List.length_range]
/-- the rows laid in another order -/
def laidR (mrs : List (List Str)) (os : List Int) : List (List Str) := os.map fun i => mrs.getD i.toNat []
/-- the numbers of the first rows in that order -/
def numR (os : List Int) (n : Nat) : List Int := (List.range n).map fun i => ((posI os ((i : Nat) : Int) : Nat) : Int)
theorem planted_lies {cs os : List Str} {mrs : List (List Str)} {ps : List Int} {k s : Int} (hok : okKS k s = true) (nd : cs.Nodup) (hop : os.Perm cs) (hwl : lw k s ≤ cs.length) (hps : ps.Perm (places mrs.length)) (hN : (stdR k s).length ≤ mrs.length)
    (hrow : ∀ x ∈ mrs, RowOk cs x) (hlaid : ∀ (i : Nat) row ms, (stdR k s)[i]? = some row → mrs[i]? = some ms → LaidOk os (lw k s) row ms) :
    liesB cs (laidR mrs ps) k s (numR ps (stdR k s).length) (os.take (lw k s).toNat) = true := by
  have w0 : 0 ≤ lw k s := by
    have := okKS_iff.mp hok
    unfold lw; split
    · omega
    · split
      · omega
      · split <;> omega
  have ol : os.length = cs.length := hop.length_eq
  have pl : ps.length = mrs.length := by rw [hps.length_eq, places_len]
  have ndp : ps.Nodup := hps.nodup_iff.mpr (places_nodup _)
  have ndo : os.Nodup := hop.nodup_iff.mpr nd
  have at_ : ∀ i, i < (stdR k s).length → ps[posI ps ((i : Nat) : Int)]? = some ((i : Nat) : Int) := fun i hi => posI_at (hps.mem_iff.mpr (mem_places.mpr (by omega)))
  have get : ∀ (i : Nat) u, (numR ps (stdR k s).length)[i]? = some u → i < (stdR k s).length ∧ u = ((posI ps ((i : Nat) : Int) : Nat) : Int) := fun i u h => by
    unfold numR at h
    rw [List.getElem?_map] at h
    by_cases hi : i < (stdR k s).length
    · rw [List.getElem?_range hi] at h; cases h; exact ⟨hi, rfl⟩
    · rw [List.getElem?_eq_none (by rw [List.length_range]; omega)] at h; cases h
  have rl : (laidR mrs ps).length = mrs.length := by unfold laidR; rw [List.length_map, pl]
  refine lies_yes hok ⟨by unfold numR; rw [List.length_map, List.length_range], by rw [List.length_take, lw_ok hok]; omega⟩ ?_ ?_ ?_ ?_
  · rw [rl]
    refine okNums_of fun i hi z hz => ?_
    obtain ⟨hi2, rfl⟩ := get i z hz
    have a := at_ i hi2
    refine ⟨mem_places.mpr (by have := (List.getElem?_eq_some_iff.mp a).1; omega), fun hm => ?_⟩
    obtain ⟨m, hm2, e⟩ := List.getElem_of_mem hm
    rw [List.length_take] at hm2
    rw [List.getElem_take] at e
    obtain ⟨hm3, e3⟩ := get m _ (List.getElem?_eq_getElem (by omega))
    rw [e3] at e
    have am := at_ m hm3
    have : posI ps ((m : Nat) : Int) = posI ps ((i : Nat) : Int) := by omega
    rw [this, a] at am
    have := Option.some.inj am
    omega
  · exact stray_none_iff.mpr ⟨fun x hx => hop.mem_iff.mp (List.mem_of_mem_take hx), (List.take_sublist _ _).nodup ndo⟩
  · intro r hr z hz
    obtain ⟨i, hi, rfl⟩ := List.mem_map.mp hr
    have b := mem_places.mp (hps.mem_iff.mp hi)
    have : mrs.getD i.toNat [] ∈ mrs := by
      rw [List.getD_eq_getElem?_getD, List.getElem?_eq_getElem (show i.toNat < mrs.length by omega)]
      exact List.getElem_mem _
    exact (hrow _ this).2 z hz
  · intro i j u z r row hu hz hr hrw
    obtain ⟨hi, rfl⟩ := get i u hu
    have a := at_ i hi
    rw [Int.toNat_natCast] at hr
    unfold laidR at hr
    rw [List.getElem?_map, a] at hr
    have hr : mrs.getD i [] = r := by
      have : mrs.getD ((i : Nat) : Int).toNat [] = r := Option.some.inj hr
      rw [Int.toNat_natCast] at this; exact this
    have hm : mrs[i]? = some r := by
      rw [← hr, List.getD_eq_getElem?_getD, List.getElem?_eq_getElem (show i < mrs.length by omega)]; rfl
    have zj : os[j]? = some z ∧ ((j : Nat) : Int) < lw k s := by
      rw [List.getElem?_take] at hz
      by_cases hj : j < (lw k s).toNat
      · rw [if_pos hj] at hz; exact ⟨hz, by omega⟩
      · rw [if_neg hj] at hz; cases hz
    exact decide_eq_decide.mpr (hlaid i row r hrw hm j z zj.2 zj.1)
end My
set_option maxRecDepth 100000
set_option maxHeartbeats 16000000
set_option exponentiation.threshold 10000
namespace My
open PySem L2
open C8 (pss_cut)
theorem Lss.cat {k : List V → HO} {H : Hp} {ts us : List Addr} {rs qs : List (List Str)} (h : Lss k H ts rs) (g : Lss k H us qs) : Lss k H (ts ++ us) (rs ++ qs) := by
  refine ⟨by rw [List.length_append, List.length_append, h.len, g.len], fun i t x a b => ?_⟩
  by_cases hi : i < ts.length
  · rw [List.getElem?_append_left hi] at a
    rw [List.getElem?_append_left (by rw [← h.len]; exact hi)] at b
    exact h.at_ i t x a b
  · rw [List.getElem?_append_right (by omega)] at a
    rw [List.getElem?_append_right (by rw [← h.len]; omega), ← h.len] at b
    exact g.at_ _ t x a b
theorem Lss.tk {k : List V → HO} {H : Hp} {ts : List Addr} {rs : List (List Str)} (h : Lss k H ts rs) (n : Nat) : Lss k H (ts.take n) (rs.take n) := ⟨by rw [List.length_take, List.length_take, h.len], fun i t x a b => by
  rw [List.getElem?_take] at a b
  split at a
  · rename_i hi; rw [if_pos hi] at b; exact h.at_ i t x a b
  · cases a⟩
theorem Lss.dp {k : List V → HO} {H : Hp} {ts : List Addr} {rs : List (List Str)} (h : Lss k H ts rs) (n : Nat) : Lss k H (ts.drop n) (rs.drop n) := ⟨by rw [List.length_drop, List.length_drop, h.len], fun i t x a b => by
  rw [List.getElem?_drop] at a b
  exact h.at_ _ t x a b⟩
def spLaw (K : PySem.W.Frag) : Sp := fun vs H Q _ => ∃ (a : Addr) (ns : List Int), vs = [.ref a] ∧ SqL K H a (ns.map V.int) ∧ ns.length ≤ 63 ∧ ∀ H', Q (.bl true) H'
section
variable {P : Program} {w : World} {K : PySem.W.Frag} {mg : Str → Option Value} {base : Heap} {A : Ad}
theorem ok_law (T : Txt P K mg A) : FnOk P w K mg base CX0 20 A.a_law A.d_law ["script"] (spLaw K) := by
  have G_law_pool := ok_pool (P := P) (w := w) (base := base) T
  have G_law_width := ok_lwidth (P := P) (w := w) (base := base) T
  have G_law_names := ok_names (P := P) (w := w) (base := base) T
  have G_law_order := fnok_or (ok_orderF V.int (P := P) (w := w) (base := base) T) (ok_orderF V.str (P := P) (w := w) (base := base) T)
  have G_law_table_rows := ok_tabR (P := P) (w := w) (base := base) T
  have G_law_row := ok_row (P := P) (w := w) (base := base) T
  have G_law_spoiled := ok_spoil (P := P) (w := w) (base := base) T
  have G_Pattern_init := ok_patI (P := P) (w := w) (K := K) (base := base) T
  have G_law_attributes := ok_attr (P := P) (w := w) (base := base) T
  have G_law_at := ok_at (P := P) (w := w) (base := base) T
  have G_law_lies := ok_ll (P := P) (w := w) (base := base) T
  have G_law_is_pattern := ok_isPat (P := P) (w := w) (base := base) T
  have G_law_alike := ok_lalike (P := P) (w := w) (base := base) T
  refine T.F_law.ok sc_law (fun vs H Q E h => ?_) (fun cdv A' outer s0 H vs Q E hr h => ?_)
  · obtain ⟨a, ns, rfl, _⟩ := h
    rfl
  · obtain ⟨a, ns, rfl, hS, hnl, kk⟩ := h
    refine ⟨_, (pss_cons (ps_set (i := 1) sc_law.nd rfl (Or.inl rfl) (pe_call G_law_pool (hr.mono (by decide)) rfl T.mg_law_pool T.F_law_pool.kp T.b_law_pool .nil pass0 (pa_cons (pv 0) (pa_cons pe_int (pa_cons pe_int pa_nil)))))
      (pss_cons (ps_set (i := 2) sc_law.nd rfl (Or.inl rfl) (pe_call G_law_pool (hr.mono (by decide)) rfl T.mg_law_pool T.F_law_pool.kp T.b_law_pool .nil pass0 (pa_cons (pv 0) (pa_cons pe_int (pa_cons pe_int pa_nil)))))
      (pss_cons (ps_set (i := 3) sc_law.nd rfl (Or.inl rfl) (pe_call G_law_pool (hr.mono (by decide)) rfl T.mg_law_pool T.F_law_pool.kp T.b_law_pool .nil pass0 (pa_cons (pv 0) (pa_cons pe_int (pa_cons pe_int pa_nil)))))
      (pss_cons (ps_set (i := 4) sc_law.nd rfl (Or.inl rfl) (pe_op op_add pe_int (pe_op op_mod (pe_callTy call_int1 (by rfl) T.n_int (by decide +kernel) (pa_cons (pe_ix ix_list (pv 1) pe_int (fun _ _ => rfl)) pa_nil)) pe_int)))
      (pss_cons (ps_set (i := 5) sc_law.nd rfl (Or.inl rfl) (pe_op op_add pe_int (pe_op op_mod (pe_callTy call_int1 (by rfl) T.n_int (by decide +kernel) (pa_cons (pe_ix ix_list (pv 1) pe_int (fun _ _ => rfl)) pa_nil)) pe_int)))
      (pss_cut (ps_if (pt_cmpR op_eq (pv 4) pe_int (nomark _)) (pss_one (ps_set (i := 5) sc_law.nd rfl (Or.inl rfl) (pe_op op_add pe_int (pe_op op_mod (pe_callTy call_int1 (by rfl) T.n_int (by decide +kernel) (pa_cons (pe_ix ix_list (pv 1) pe_int (fun _ _ => rfl)) pa_nil)) pe_int)))) pss_nil)
      (pss_cut (ps_if (pt_cmpR op_gt (pv 4) pe_int (nomark _)) (pss_one (ps_set (i := 5) sc_law.nd rfl (Or.inl rfl) pe_int)) pss_nil)
      (pss_cons (ps_set (i := 6) sc_law.nd rfl (Or.inl rfl) (pe_call G_law_width (hr.mono (by decide)) rfl T.mg_law_width T.F_law_width.kp T.b_law_width .nil pass0 (pa_cons (pv 4) (pa_cons (pv 5) pa_nil))))
      (pss_cons (ps_set (i := 7) sc_law.nd rfl (Or.inl rfl) (pe_call G_law_names (hr.mono (by decide)) rfl T.mg_law_names T.F_law_names.kp T.b_law_names .nil pass0 (pa_cons (pe_callB (call_min2 rfl) (by rfl) T.n_min (by decide +kernel) (pa_cons pe_int (pa_cons (pe_op op_add (pv 6) (pe_op op_mod (pe_callTy call_int1 (by rfl) T.n_int (by decide +kernel) (pa_cons (pe_ix ix_list (pv 1) pe_int (fun _ _ => rfl)) pa_nil)) pe_int)) pa_nil))) (pa_cons (pe_ix ix_list (pv 1) pe_int (fun _ _ => rfl)) pa_nil))))
      (pss_cons (ps_set (i := 8) sc_law.nd rfl (Or.inl rfl) (pe_call G_law_order (hr.mono (by decide)) rfl T.mg_law_order T.F_law_order.kp T.b_law_order .nil pass0 (pa_cons (pv 7) (pa_cons (pv 1) (pa_cons pe_int pa_nil)))))
      (pss_cons (ps_set (i := 9) sc_law.nd rfl (Or.inr rfl) (pe_call G_law_table_rows (hr.mono (by decide)) rfl T.mg_law_table_rows T.F_law_table_rows.kp T.b_law_table_rows .nil pass0 (pa_cons (pv 8) (pa_cons (pv 4) (pa_cons (pv 5) (pa_cons (pv 2) pa_nil))))))
      (pss_cons (ps_set (i := 10) sc_law.nd rfl (Or.inl rfl) (pe_callB call_len_seq (by rfl) T.n_len (by decide +kernel) (pa_cons (pv 9) pa_nil)))
      (pss_cons (ps_for PassesOwn.never rfl (pi_range1 (by rfl) T.n_range (pa_cons (pe_op op_mod (pe_callTy call_int1 (by rfl) T.n_int (by decide +kernel) (pa_cons (pe_ix ix_list (pv 2) pe_int (fun _ _ => rfl)) pa_nil)) pe_int) pa_nil)) (pg_name (i := 11) sc_law.nd rfl (Or.inl rfl))
        (pss_one (ps_expr (pe_bm PySem.F.plainAttrs_list PySem.F.slot_list_append PySem.F.type_list_append mt_append (pv 9) (pa_cons (pe_call G_law_row (hr.mono (by decide)) rfl T.mg_law_row T.F_law_row.kp T.b_law_row .nil pass0 (pa_cons (pv 7) (pa_cons (pv 8) (pa_cons (pe_ix ix_list (pv 2) (pe_op op_add pe_int (pv 11)) (fun _ _ => rfl)) (pa_cons pe_bl pa_nil))))) pa_nil)))))
      (pss_cons (ps_set (i := 12) sc_law.nd rfl (Or.inr rfl) (pe_call G_law_order (hr.mono (by decide)) rfl T.mg_law_order T.F_law_order.kp T.b_law_order .nil pass0 (pa_cons (pe_listRg rfl (by rfl) T.n_list (prg_1 (by rfl) T.n_range (pe_callB call_len_seq (by rfl) T.n_len (by decide +kernel) (pa_cons (pv 9) pa_nil)))) (pa_cons (pv 2) (pa_cons pe_int pa_nil)))))
      (pss_cons (ps_setLc (i := 13) (own := [("i", 24)]) (g := gName 24) (tt := tYes) rfl sc_law.nd rfl rfl (sw_true rfl rfl rfl (by decide +kernel)) (pi_list (pv 12)) (blkOk_by (N := ["script", "p0", "p1", "p2", "kind", "size", "width", "names", "order", "mixed", "many", "k", "places", "rows", "planted", "told", "handed", "pattern", "good", "turned", "name", "row", "lot", "other", "i"]) (sc := defScope s_law) (by decide +kernel)) (fun _ _ _ _ _ => (pg_name (i := 24) sc_law.nd rfl (Or.inl rfl))) (fun _ _ _ _ _ => pts_nil) (fun _ _ _ _ _ => (pe_ix (show IxR _ (rIxL K) from ix_list) (pv 9) (pv 24) (fun _ _ => rfl))))
      (pss_cons (ps_set (i := 14) sc_law.nd rfl (Or.inl rfl) (pe_lst (pa_cons (pv 4) (pa_cons (pv 5) (pa_cons (pe_lc (own := [("i", 24)]) (g := gName 24) (tt := tYes) rfl sc_law.nd (pi_range1 (by rfl) T.n_range (pa_cons (pv 10) pa_nil)) (blkOk_by (N := ["script", "p0", "p1", "p2", "kind", "size", "width", "names", "order", "mixed", "many", "k", "places", "rows", "planted", "told", "handed", "pattern", "good", "turned", "name", "row", "lot", "other", "i"]) (sc := defScope s_law) (by decide +kernel)) (fun _ _ _ _ _ => (pg_name (i := 24) sc_law.nd rfl (Or.inl rfl))) (fun _ _ _ _ _ => pts_nil) (fun _ _ _ _ _ => (show PE _ _ (tBM K "list" (rIndex K) _ _) from (pe_bm PySem.F.plainAttrs_list PySem.F.slot_list_index PySem.F.type_list_index mt_index (pv 12) (pa_cons (pv 24) pa_nil))))) (pa_cons (pe_slice sl_list (pv 8) po_none (po_some (pv 6))) pa_nil))))))
      (pss_cons (ps_set (i := 15) sc_law.nd rfl (Or.inl rfl) (pe_call G_law_spoiled (hr.mono (by decide)) rfl T.mg_law_spoiled T.F_law_spoiled.kp T.b_law_spoiled .nil pass0 (pa_cons (pv 14) (pa_cons (pv 7) (pa_cons (pv 13) (pa_cons (pv 3) pa_nil))))))
      (pss_cons (ps_set (i := 16) sc_law.nd rfl (Or.inl rfl) (pe_lst (pa_cons (pe_callTy (show CallR _ _ (rListOf K) from call_list_of) (by rfl) T.n_list (by decide +kernel) (pa_cons (pe_ix ix_list (pv 15) pe_int (fun _ _ => rfl)) pa_nil)) (pa_cons (pe_callTy (show CallR _ _ (rListOf K) from call_list_of) (by rfl) T.n_list (by decide +kernel) (pa_cons (pe_ix ix_list (pv 15) pe_int (fun _ _ => rfl)) pa_nil)) pa_nil))))
      (pss_cons (ps_set (i := 17) sc_law.nd rfl (Or.inl rfl) (pe_make T.mk_Pattern G_Pattern_init (hr.mono (by decide)) rfl T.mg_Pattern T.b_Pattern_init .nil pass0 (pa_cons (pe_ix ix_list (pv 15) pe_int (fun _ _ => rfl)) (pa_cons (pe_ix ix_list (pv 15) pe_int (fun _ _ => rfl)) (pa_cons (pe_ix ix_list (pv 16) pe_int (fun _ _ => rfl)) (pa_cons (pe_ix ix_list (pv 16) pe_int (fun _ _ => rfl)) pa_nil))))))
      (pss_cons (ps_if (pt_cmpR (op_neD hr.units) (pv 16) (pe_lst (pa_cons (pe_ix ix_list (pv 15) pe_int (fun _ _ => rfl)) (pa_cons (pe_ix ix_list (pv 15) pe_int (fun _ _ => rfl)) pa_nil))) (nomark _)) (pss_one (ps_ret pe_bl)) pss_nil)
      (pss_cons (ps_expr (pe_bm PySem.F.plainAttrs_list PySem.F.slot_list_append PySem.F.type_list_append mt_append (pe_ix ix_list (pv 16) pe_int (fun _ _ => rfl)) (pa_cons pe_int pa_nil)))
      (pss_cons (ps_expr (pe_bm PySem.F.plainAttrs_list PySem.F.slot_list_append PySem.F.type_list_append mt_append (pe_ix ix_list (pv 16) pe_int (fun _ _ => rfl)) (pa_cons pe_str pa_nil)))
      (pss_cons (ps_set (i := 18) sc_law.nd rfl (Or.inl rfl) (pe_make T.mk_Pattern G_Pattern_init (hr.mono (by decide)) rfl T.mg_Pattern T.b_Pattern_init .nil pass0 (pa_cons (pv 4) (pa_cons (pv 5) (pa_cons (pe_callTy (show CallR _ _ (rTupOf K) from call_tuple_of) (by rfl) T.n_tuple (by decide +kernel) (pa_cons (pe_ix ix_list (pv 14) pe_int (fun _ _ => rfl)) pa_nil)) (pa_cons (pe_callTy (show CallR _ _ (rTupOf K) from call_tuple_of) (by rfl) T.n_tuple (by decide +kernel) (pa_cons (pe_ix ix_list (pv 14) pe_int (fun _ _ => rfl)) pa_nil)) pa_nil))))))
      (pss_cons (ps_if (PW.pt (pw_or (pt_not (pt_val (pe_call G_law_attributes (hr.mono (by decide)) rfl T.mg_law_attributes T.F_law_attributes.kp T.b_law_attributes .nil pass0 (pa_cons (pv 17) (pa_cons (pv 15) pa_nil))))) (pw_or1 (pt_not (pt_val (pe_call G_law_attributes (hr.mono (by decide)) rfl T.mg_law_attributes T.F_law_attributes.kp T.b_law_attributes .nil pass0 (pa_cons (pv 18) (pa_cons (pv 14) pa_nil)))))))) (pss_one (ps_ret pe_bl)) pss_nil)
      (pss_cons (ps_set (i := 19) sc_law.nd rfl (Or.inl rfl) (pe_op op_mod (pe_callTy call_int1 (by rfl) T.n_int (by decide +kernel) (pa_cons (pe_ix ix_list (pv 3) pe_int (fun _ _ => rfl)) pa_nil)) (pe_callB call_len_seq (by rfl) T.n_len (by decide +kernel) (pa_cons (pv 13) pa_nil))))
      (pss_cons (ps_set (i := 20) sc_law.nd rfl (Or.inr rfl) (pe_ix ix_list (pv 7) (pe_op op_mod (pe_callTy call_int1 (by rfl) T.n_int (by decide +kernel) (pa_cons (pe_ix ix_list (pv 3) pe_int (fun _ _ => rfl)) pa_nil)) (pe_callB call_len_seq (by rfl) T.n_len (by decide +kernel) (pa_cons (pv 7) pa_nil))) (fun _ _ => rfl)))
      (pss_cons (ps_setLc (i := 21) (own := [("other", 23)]) (g := gName 23) (tt := _) rfl sc_law.nd rfl rfl (sw_true rfl rfl rfl (by decide +kernel)) (pi_list (pe_ix ix_list (pv 13) (pv 19) (fun _ _ => rfl))) (blkOk_by (N := ["script", "p0", "p1", "p2", "kind", "size", "width", "names", "order", "mixed", "many", "k", "places", "rows", "planted", "told", "handed", "pattern", "good", "turned", "name", "row", "lot", "other", "i"]) (sc := defScope s_law) (by decide +kernel)) (fun _ _ _ _ _ => (pg_name (i := 23) sc_law.nd rfl (Or.inl rfl))) (fun _ _ _ _ _ => (pts_one (pt_cmpR op_ne (pv 23) (pv 20) (nomark _)))) (fun _ _ _ _ _ => (pv 23)))
      (pss_cut (ps_if (pt_cmpR op_notIn_seq (pv 20) (pe_ix ix_list (pv 13) (pv 19) (fun _ _ => rfl)) (by with_unfolding_all rfl)) (pss_one (ps_set (i := 21) sc_law.nd rfl (Or.inl rfl) (pe_op op_cat (pe_lst (pa_cons (pv 20) pa_nil)) (pv 21)))) pss_nil)
      (pss_cons (ps_for PassesOwn.never rfl (pi_list (pe_lst (pa_cons (pv 13) (pa_cons (pe_call G_law_at (hr.mono (by decide)) rfl T.mg_law_at T.F_law_at.kp T.b_law_at .nil pass0 (pa_cons (pv 13) (pa_cons (pv 19) (pa_cons (pv 21) pa_nil)))) (pa_cons (pe_op op_cat (pe_slice sl_list (pv 13) po_none (po_some (pv 19))) (pe_slice sl_list (pv 13) (po_some (pe_op op_add (pv 19) pe_int)) po_none)) pa_nil))))) (pg_name (i := 22) sc_law.nd rfl (Or.inl rfl))
        (pss_one (ps_if (PW.pt (pw_or (pt_not (pt_val (pe_call G_law_lies (hr.mono (by decide)) rfl T.mg_law_lies T.F_law_lies.kp T.b_law_lies .nil pass0 (pa_cons (pv 7) (pa_cons (pv 22) (pa_cons (pv 15) (pa_cons (pv 17) pa_nil))))))) (pw_or1 (pt_not (pt_val (pe_call G_law_lies (hr.mono (by decide)) rfl T.mg_law_lies T.F_law_lies.kp T.b_law_lies .nil pass0 (pa_cons (pv 7) (pa_cons (pv 22) (pa_cons (pv 14) (pa_cons (pv 18) pa_nil)))))))))) (pss_one (ps_ret pe_bl)) pss_nil)))
      (pss_cons (ps_if (pt_not (pt_val (pe_call G_law_is_pattern (hr.mono (by decide)) rfl T.mg_law_is_pattern T.F_law_is_pattern.kp T.b_law_is_pattern .nil pass0 (pa_cons (pv 18) (pa_cons (pv 7) (pa_cons (pv 13) pa_nil)))))) (pss_one (ps_ret pe_bl)) pss_nil)
      (pss_cons (ps_for PassesOwn.never rfl (pi_list (pe_lst (pa_cons (pv 14) (pa_cons (pv 15) (pa_cons (pe_lst (pa_cons (pe_op op_add pe_int (pv 4)) (pa_cons (pv 5) (pa_cons (pe_ix ix_list (pv 15) pe_int (fun _ _ => rfl)) (pa_cons (pe_ix ix_list (pv 15) pe_int (fun _ _ => rfl)) pa_nil))))) (pa_cons (pe_lst (pa_cons (pe_ix ix_list (pv 15) pe_int (fun _ _ => rfl)) (pa_cons (pe_op op_add (pv 5) pe_int) (pa_cons (pe_ix ix_list (pv 15) pe_int (fun _ _ => rfl)) (pa_cons (pe_ix ix_list (pv 15) pe_int (fun _ _ => rfl)) pa_nil))))) pa_nil)))))) (pg_name (i := 23) sc_law.nd rfl (Or.inl rfl))
        (pss_one (ps_if (PW.pt (pw_or (pt_not (pt_val (pe_call G_law_alike (hr.mono (by decide)) rfl T.mg_law_alike T.F_law_alike.kp T.b_law_alike .nil pass0 (pa_cons (pv 15) (pa_cons (pv 23) pa_nil))))) (pw_or1 (pt_not (pt_val (pe_call G_law_alike (hr.mono (by decide)) rfl T.mg_law_alike T.F_law_alike.kp T.b_law_alike .nil pass0 (pa_cons (pv 14) (pa_cons (pv 23) pa_nil)))))))) (pss_one (ps_ret pe_bl)) pss_nil)))
      (pss_one (ps_ret (pe_call G_law_attributes (hr.mono (by decide)) rfl T.mg_law_attributes T.F_law_attributes.kp T.b_law_attributes .nil pass0 (pa_cons (pv 17) (pa_cons (pv 15) pa_nil)))))))))))))))))))))))))))))))))))), ?_⟩
    refine ⟨_, rfl, a, ns, 0, 60, rfl, hS, by decide, by decide, by decide, fun p0 q0 H1 s1 hp0 l0 P0 => ?_⟩
    refine ⟨_, rfl, a, ns, 1, 60, rfl, s1.seq hS, by decide, by decide, by decide, fun p1 q1 H2 s2 hp1 l1 P1 => ?_⟩
    refine ⟨_, rfl, a, ns, 2, 60, rfl, (s1.trans s2).seq hS, by decide, by decide, by decide, fun p2 q2 H3 s3 hp2 l2 P2 => ?_⟩
    have hp0 := s3 _ _ (s2 _ _ hp0)
    have hp1 := s3 _ _ hp1
    obtain ⟨x0, hx0, e0⟩ := atI_ok (xs := q0) (j := 0) (by omega) (by omega)
    obtain ⟨x1, hx1, e1⟩ := atI_ok (xs := q0) (j := 1) (by omega) (by omega)
    obtain ⟨x2, hx2, e2⟩ := atI_ok (xs := q0) (j := 2) (by omega) (by omega)
    obtain ⟨x3, hx3, e3⟩ := atI_ok (xs := q0) (j := 3) (by omega) (by omega)
    obtain ⟨y12, hy12, f12⟩ := atI_ok (xs := q1) (j := 12) (by omega) (by omega)
    obtain ⟨z30, hz30, g30⟩ := atI_ok (xs := q2) (j := 30) (by omega) (by omega)
    obtain ⟨z31, hz31, g31⟩ := atI_ok (xs := q2) (j := 31) (by omega) (by omega)
    clear s1 s2 s3 hS
    have mm : ∀ a q : Int, (0 : Int) < q → 0 ≤ a % q ∧ a % q < q := fun a q hq => ⟨Int.emod_nonneg _ (by omega), Int.emod_lt_of_pos _ hq⟩
    have mK := mm x0 5 (by decide)
    have mS := mm x1 9 (by decide)
    have mS1 := mm x1 10 (by decide)
    have mN := mm x2 4 (by decide)
    have mX := mm y12 4 (by decide)
    refine ⟨_, rfl, p0, _, _, _, rfl, rfl, SqL.of hp0, e0, .inl ⟨_, rfl, _, _, rfl, rfl, by show (0 : Int) < 5; decide, _, _, rfl, rfl, ?_⟩⟩
    refine ⟨_, rfl, p0, _, _, _, rfl, rfl, SqL.of hp0, e1, .inl ⟨_, rfl, _, _, rfl, rfl, by show (0 : Int) < 9; decide, _, _, rfl, rfl, ?_⟩⟩
    have hk : 1 ≤ 1 + x0 % 5 ∧ 1 + x0 % 5 ≤ 5 := by omega
    refine ⟨fun σ G => H3 = G ∧ ∃ s : Int, σ = [some (.ref a), some (.ref p0), some (.ref p1), some (.ref p2), some (.int (1 + x0 % 5)), some (.int s), none, none, none, none, none, none, none, none, none, none, none, none, none, none, none, none, none, none, none] ∧ 1 ≤ s ∧ (1 + x0 % 5 = 1 → s ≤ 10) ∧ (1 + x0 % 5 ≠ 1 → s ≤ 9), ?_, ?_⟩
    · refine ⟨_, rfl, rfl, _, rfl, ?_⟩
      by_cases c1 : 1 + x0 % 5 = 1
      · exact ifT (decide_eq_true (show V.int (1 + x0 % 5) = V.int 1 by rw [c1])) ⟨_, rfl, p0, _, _, _, rfl, rfl, SqL.of hp0, e1, .inl ⟨_, rfl, _, _, rfl, rfl, by show (0 : Int) < 10; decide, _, _, rfl, rfl, rfl, _, rfl, by omega, fun _ => by omega, fun h => absurd c1 h⟩⟩
      · exact ifF (decide_eq_false fun z => c1 (V.int.inj z)) ⟨rfl, _, rfl, by omega, fun h => absurd h c1, fun _ => by omega⟩
    rintro σ G ⟨rfl, s, rfl, sa, sb, sc⟩
    refine ⟨fun σ G => H3 = G ∧ ∃ s : Int, σ = [some (.ref a), some (.ref p0), some (.ref p1), some (.ref p2), some (.int (1 + x0 % 5)), some (.int s), none, none, none, none, none, none, none, none, none, none, none, none, none, none, none, none, none, none, none] ∧ okKS (1 + x0 % 5) s = true, ?_, ?_⟩
    · refine ⟨_, rfl, _, _, rfl, rfl, _, rfl, ?_⟩
      by_cases c3 : 3 < 1 + x0 % 5
      · exact ifT (decide_eq_true c3) ⟨rfl, 1, rfl, okKS_iff.mpr (by omega)⟩
      · exact ifF (decide_eq_false c3) ⟨rfl, s, rfl, okKS_iff.mpr (by
          by_cases h : 1 + x0 % 5 = 1
          · have := sb h; omega
          · have := sc h; omega)⟩
    clear sa sb sc s
    rintro σ G ⟨rfl, s, rfl, hok⟩
    have okb := okKS_iff.mp hok
    have dl := stdR_len hok
    have mk : midI (1 + x0 % 5) := by unfold midI; omega
    have msI : midI s := by unfold midI; omega
    obtain ⟨k, hkk⟩ : ∃ k, 1 + x0 % 5 = k := ⟨_, rfl⟩
    rw [hkk] at hok okb dl mk hk ⊢
    have wl : 3 ≤ lw k s ∧ lw k s ≤ 12 := by
      unfold lw; split
      · omega
      · split
        · omega
        · split <;> omega
    refine ⟨_, rfl, _, rfl, k, s, rfl, hk.1, hk.2, fun H4 s4 => ?_⟩
    have hp0 := s4 _ _ hp0
    obtain ⟨cn, hcn⟩ := Int.eq_ofNat_of_zero_le (show 0 ≤ (if lw k s + x2 % 4 < 12 then lw k s + x2 % 4 else 12) by split <;> omega)
    have cnl : lw k s ≤ (cn : Int) ∧ cn ≤ 12 := by
      have h2 := hcn
      split at h2 <;> omega
    refine ⟨_, rfl, _, rfl, p0, _, _, _, rfl, rfl, SqL.of hp0, e2, .inl ⟨_, rfl, _, _, rfl, rfl, by show (0 : Int) < 4; decide, _, _, rfl, rfl, _, _, rfl, ?_⟩⟩
    refine ⟨_, rfl, p0, _, _, _, rfl, rfl, SqL.of hp0, e3, cn, x3, by rw [hcn]; rfl, cnl.2, fun n cs H5 s5 hn hcl hN => ?_⟩
    have s45 := s4.trans s5
    have hp0 := s5 _ _ hp0
    have hp1 := s45 _ _ hp1
    have hp2 := s45 _ _ hp2
    have cl : cs.length ≤ 12 := by omega
    have nd := hN.1
    have hg : ∀ z ∈ cs, Good z := fun z hz => (hN.2 z hz).1
    have cok : ColsOk cs := ⟨hg, nd, cl⟩
    refine ⟨_, rfl, _, rfl, .inr ⟨n, p0, cs, q0, 4, rfl, SqL.of hn, SqL.of hp0, by omega, by decide, by omega, fun o os H6 s6 no ho hop => ?_⟩⟩
    have hn := s6 _ _ hn
    have hp1 := s6 _ _ hp1
    have hp2 := s6 _ _ hp2
    have ho : H6 o = some (.lst (sv os)) := ho
    have hwl : lw k s ≤ cs.length := by omega
    refine ⟨_, rfl, _, rfl, _, rfl, _, rfl, o, p1, k, s, os, cs, q1, rfl, SqL.of ho, SqL.of hp1, by omega, hok, hop, nd, cl, hwl, fun D ts0 rs0 H7 s7 nD hD hRw hrl hld => ?_⟩
    have hp17 := s7 _ _ hp1
    clear s4 s5 s45 s6 hp0
    have l1' : q1.length = 60 := by omega
    have l2' : q2.length = 60 := by omega
    refine ⟨_, rfl, D, _, rfl, .inl (SqL.of hD), ?_⟩
    refine ⟨_, rfl, p1, _, _, _, rfl, rfl, SqL.of hp17, f12, .inl ⟨_, rfl, _, _, rfl, rfl, by show (0 : Int) < 4; decide, _, rfl, by omega, by omega, ?_⟩⟩
    have manyE : (((ts0.map V.ref).length : Nat) : Int) = ((stdR k s).length : Nat) := by rw [List.length_map, hRw.1.len, hrl]
    refine for_range (n := (y12 % 4).toNat) (fun j σ G => Same H6 G ∧ ∃ (ts : List Addr) (rs : List (List Str)) (u11 : Option V), σ = [some (.ref a), some (.ref p0), some (.ref p1), some (.ref p2), some (.int k), some (.int s), some (.int (lw k s)), some (.ref n), some (.ref o), some (.ref D), some (.int (((ts0.map V.ref).length : Nat) : Int)), u11, none, none, none, none, none, none, none, none, none, none, none, none, none] ∧ G D = some (.lst (ts.map V.ref)) ∧ Rows G D ts cs rs ∧ (stdR k s).length ≤ rs.length ∧ rs.length ≤ (stdR k s).length + j ∧ ∀ (i : Nat) row ms, (stdR k s)[i]? = some row → rs[i]? = some ms → LaidOk os (lw k s) row ms) ⟨s7, ts0, rs0, none, rfl, hD, hRw, by omega, by omega, hld⟩ ?_ ?_
    · rintro j σ G hj ⟨sG, ts, rs, u11, rfl, hDG, hRw, hl1, hl2, hld⟩
      obtain ⟨dv, _, edv⟩ := atI_ok (xs := q1) (j := 13 + (0 + ((j : Nat) : Int))) (by omega) (by omega)
      refine ⟨_, rfl, .inl ⟨rfl, _, SqL.of hDG⟩, _, rfl, _, rfl, _, rfl, _, rfl, _, _, rfl, rfl, p1, _, _, _, rfl, rfl, SqL.of (sG _ _ hp1), edv, n, o, cs, os, dv, true, rfl, SqL.of (sG _ _ hn), SqL.of (sG _ _ ho), nd, cl, hop, fun t ms G2 s2 nt ht ok => ?_⟩
      have hD2 := s2 _ _ hDG
      refine ⟨D, _, _, rfl, rfl, hD2, small_int (by rw [List.length_map, hRw.1.len]; omega), fun b o e => by rw [upd_ne (ne_of_none e nD)]; exact s2 _ _ (sG _ _ e), ts ++ [t], rs ++ [ms], _, rfl, by rw [List.map_append]; exact upd_same, hRw.push s2 ht (ne_of_none hDG nt).symm ok, by rw [List.length_append]; omega, by rw [List.length_append]; show rs.length + 1 ≤ _; omega, fun i row ms2 e1 e2 => ?_⟩
      have hil := (List.getElem?_eq_some_iff.mp e1).1
      rw [List.getElem?_append_left (by omega)] at e2
      exact hld i row ms2 e1 e2
    rintro σ H8 ⟨s8, mts, mrs, u11, rfl, hDm, hRm, hl1, hl2, hldm⟩
    have hn := s8 _ _ hn
    have ho := s8 _ _ ho
    have hp1 := s8 _ _ hp1
    have hp2 := s8 _ _ hp2
    clear s8 s7 hD hRw hld hrl hp17 nD
    have ml : mrs.length ≤ 15 := by omega
    have mtl : (mts.map V.ref).length = mrs.length := by rw [List.length_map, hRm.1.len]
    refine ⟨_, rfl, D, _, rfl, .inl (SqL.of hDm), _, rfl, RgOk.of_le (by omega) (by rw [mtl]; omega) (by omega) (by omega), fun RL nRL => ?_⟩
    generalize hG : upd H8 RL _ = H9
    have q9 : Same H8 H9 := hG ▸ same_new nRL
    have x9 := (congrFun hG RL).symm.trans upd_same
    clear hG
    have x9 : H9 RL = some (.lst (ivs (places mrs.length))) := by rw [← rgV_places, ← mtl]; exact x9
    refine ⟨_, rfl, .inl ⟨RL, p1, places mrs.length, q1, 20, rfl, SqL.of x9, SqL.of (q9 _ _ hp1), by rw [places_len]; omega, by decide, by rw [places_len]; omega, fun PL pls H10 s10 nPL hPL hpp => ?_⟩⟩
    have hPL : H10 PL = some (.lst (ivs pls)) := hPL
    have q10 := q9.trans s10
    have hn := q10 _ _ hn
    have ho := q10 _ _ ho
    have hp2 := q10 _ _ hp2
    have hDm := q10 _ _ hDm
    have hRs := hRm.1.same q10
    have hRow := hRm.2.2
    clear q9 x9 nRL s10 nPL q10 hp1 hRm
    have pl : pls.length = mrs.length := by rw [hpp.length_eq, places_len]
    have ndp : pls.Nodup := hpp.nodup_iff.mpr (places_nodup _)
    refine ⟨_, rfl, PL, rfl, ⟨_, SqL.of hPL⟩, fun RD nRD => lc_it walk_list (fun i G => LcL H10 RD ((laidR mrs pls).take i) G) (lcl0 nRD) (fun i G _ q => q.1.seq (SqL.of hPL)) ?_ ?_⟩
    · rintro i x G0 G hi q ⟨rfl, hx⟩
      obtain ⟨z, hz, rfl⟩ := ivs_get hx
      have zb := mem_places.mp (hpp.mem_iff.mp (List.mem_of_getElem? hz))
      obtain ⟨t, ms, et, em, ht⟩ := (hRs.same q.1).ex (show z.toNat < mrs.length by omega)
      have az : atI (mts.map V.ref) z = some (.ref t) := by rw [show z = ((z.toNat : Nat) : Int) by omega]; exact atI_nat (by rw [List.getElem?_map, et]; rfl)
      have tne : t ≠ RD := fun e => by
        have := hRs.at_ _ _ _ et em
        rw [e, nRD] at this; cases this
      have hy : (laidR mrs pls)[i]? = some ms := by
        unfold laidR
        rw [List.getElem?_map, hz]
        show some (mrs.getD z.toNat []) = some ms
        rw [List.getD_eq_getElem?_getD, em]; rfl
      refine ⟨rfl, _, rfl, _, rfl, D, _, _, _, rfl, rfl, SqL.of (q.1 _ _ hDm), az, ?_⟩
      rw [take_succ hy]
      exact q.push nRD (Same.refl _) ht tne (by rw [List.length_take]; unfold laidR; rw [List.length_map]; omega)
    rintro H11 ⟨s11, rts, hRD, hRt, _⟩
    have rl : (laidR mrs pls).length = mrs.length := by unfold laidR; rw [List.length_map, pl]
    have hRt : Lss .lst H11 rts (laidR mrs pls) := by
      have e : (laidR mrs pls).take (ivs pls).length = laidR mrs pls := List.take_of_length_le (by rw [rl, ivs_len, pl]; exact Nat.le_refl _)
      rw [← e]; exact hRt
    have hRows : ∀ x ∈ laidR mrs pls, RowOk cs x := fun x hx => by
      obtain ⟨i, hi, rfl⟩ := List.mem_map.mp hx
      have b := mem_places.mp (hpp.mem_iff.mp hi)
      refine hRow _ ?_
      rw [List.getD_eq_getElem?_getD, List.getElem?_eq_getElem (show i.toNat < mrs.length by omega)]
      exact List.getElem_mem _
    have hlies := planted_lies hok nd hop hwl hpp hl1 hRow hldm
    have hPL := s11 _ _ hPL
    have hn := s11 _ _ hn
    have ho := s11 _ _ ho
    have hp2 := s11 _ _ hp2
    clear s11 hDm hRs hRow hldm nRD
    generalize laidR mrs pls = rs at hRt hRows hlies rl
    have rtl : rts.length = mrs.length := by rw [hRt.len, rl]
    -- planted
    refine ⟨_, rfl, _, rfl, _, rfl, _, rfl, by rw [manyE]; omega, by rw [manyE]; omega, fun XN nXN => lc_it walk_range (fun i G => Same H11 G ∧ G XN = some (.lst (ivs (numR pls i)))) ⟨same_new nXN, upd_same⟩ (fun i G _ q => trivial) ?_ ?_⟩
    · rintro i x G0 G hi ⟨sG, hX⟩ ⟨rfl, rfl⟩
      have hi : i < (stdR k s).length := by rw [manyE, Int.toNat_natCast] at hi; exact hi
      have hm : ((i : Nat) : Int) ∈ pls := hpp.mem_iff.mpr (mem_places.mpr (by omega))
      have ha := posI_at hm
      refine ⟨rfl, _, rfl, .inl ⟨rfl, _, SqL.of (sG _ _ hPL)⟩, _, rfl, PL, ivs pls, .int (0 + ((i : Nat) : Int)), posI pls ((i : Nat) : Int), .int ((i : Nat) : Int), rfl, rfl, SqL.of (sG _ _ hPL), rfl, flat_iv _, by rw [List.getElem?_map, ha]; rfl, by rw [Int.zero_add, eqV_int]; exact decide_eq_true rfl, fun m z' hm2 hz' => ?_, ?_⟩
      · obtain ⟨y, hy, rfl⟩ := ivs_get hz'
        rw [Int.zero_add, eqV_int]
        refine decide_eq_false fun e => ?_
        rw [e] at hy
        have := nodup_atI ndp hy ha
        omega
      · refine ⟨_, hX, small_int (by rw [ivs_len]; unfold numR; rw [List.length_map, List.length_range]; omega), fun b o e => by rw [upd_ne (ne_of_none e nXN)]; exact sG _ _ e, ?_⟩
        rw [upd_same]
        show some (HO.lst ((numR pls i).map V.int ++ [V.int ((posI pls ((i : Nat) : Int) : Nat) : Int)])) = some (HO.lst ((numR pls (i + 1)).map V.int))
        unfold numR
        rw [List.range_succ, List.map_append, List.map_append]; rfl
    rintro H12 ⟨s12, hX⟩
    have hX : H12 XN = some (.lst (ivs (numR pls (((ts0.map V.ref).length : Nat) : Int).toNat))) := hX
    rw [manyE, Int.toNat_natCast] at hX
    refine ⟨_, rfl, ?_⟩
    dsimp only [tNoPart]
    refine ⟨_, rfl, _, rfl, slO (SqL.of (s12 _ _ ho)) fun YN H13 s13 nYN hYN => ?_⟩
    have hYN : H13 YN = some (.lst (sv (os.take (lw k s).toNat))) := by
      rw [show lw k s = (((lw k s).toNat : Nat) : Int) by omega, cut_takeG, sv_take] at hYN
      exact hYN
    refine ⟨by show 4 ≤ sizeLine; decide, fun pa npa => ?_⟩
    generalize hG : upd H13 pa _ = H14
    have s14 : Same H13 H14 := hG ▸ same_new npa
    have hpa := (congrFun hG pa).symm.trans upd_same
    clear hG
    have hplT : Told H14 pa k s (numR pls (stdR k s).length) (os.take (lw k s).toNat) := ⟨XN, YN, hpa, (s13.trans s14) _ _ hX, s14 _ _ hYN⟩
    have s124 := s12.trans (s13.trans s14)
    have hn := s124 _ _ hn
    have hp2 := s124 _ _ hp2
    have hRD := s124 _ _ hRD
    have hRt := hRt.same s124
    clear s12 hX s13 hYN nYN hpa npa s124 nXN hPL ho s14
    have xpl : (numR pls (stdR k s).length).length = (stdR k s).length := by unfold numR; rw [List.length_map, List.length_range]
    have ypl : ((os.take (lw k s).toNat).length : Int) = lw k s := by rw [List.length_take, hop.length_eq]; omega
    have yok : ∀ y ∈ os.take (lw k s).toNat, Okz y := fun y hy => okz_good (hg y (hop.mem_iff.mp (List.mem_of_mem_take hy)))
    generalize numR pls (stdR k s).length = pxs at hplT hlies xpl
    generalize os.take (lw k s).toNat = pys at hplT hlies ypl yok
    -- told
    refine ⟨_, rfl, _, rfl, _, rfl, _, rfl, pa, n, RD, p2, k, s, pxs, pys, cs, rts.map V.ref, q2, rfl, hplT, hok, xpl, ypl, yok, hn, fun z hz => okz_good (hg z hz), by omega, cl, SqL.of hRD, by rw [List.length_map]; omega, by rw [List.length_map]; omega, SqL.of hp2, l2', fun td k2 s2 xs ys H15 s15 ntd htd tok => ?_⟩
    have hn := s15 _ _ hn
    have hp2 := s15 _ _ hp2
    have hRD := s15 _ _ hRD
    have hRt := hRt.same s15
    have hplT := hplT.same s15
    obtain ⟨nl, cl', ha, hnl, hcl2⟩ := id htd
    obtain ⟨pn, pc, hpa, hpn, hpc⟩ := id hplT
    have t0 : atI ([V.int k2, .int s2, .ref nl, .ref cl'] : List V) 0 = some (V.int k2) := atI_nat (j := 0) rfl
    have t1 : atI ([V.int k2, .int s2, .ref nl, .ref cl'] : List V) 1 = some (V.int s2) := atI_nat (j := 1) rfl
    have t2 : atI ([V.int k2, .int s2, .ref nl, .ref cl'] : List V) 2 = some (V.ref nl) := atI_nat (j := 2) rfl
    have t3 : atI ([V.int k2, .int s2, .ref nl, .ref cl'] : List V) 3 = some (V.ref cl') := atI_nat (j := 3) rfl
    have u2 : atI ([V.int k, .int s, .ref pn, .ref pc] : List V) 2 = some (V.ref pn) := atI_nat (j := 2) rfl
    have u3 : atI ([V.int k, .int s, .ref pn, .ref pc] : List V) 3 = some (V.ref pc) := atI_nat (j := 3) rfl
    clear s15 ntd
    refine ⟨_, rfl, td, _, _, _, rfl, rfl, SqL.of ha, t2, nl, _, rfl, .inl (SqL.of hnl), fun d1 nd1 => ?_⟩
    have nd1' := nd1
    generalize hG : upd H15 d1 _ = H16
    have s16 : Same H15 H16 := hG ▸ same_new nd1
    have x16 := (congrFun hG d1).symm.trans upd_same
    clear hG
    refine ⟨_, rfl, td, _, _, _, rfl, rfl, SqL.of (s16 _ _ ha), t3, cl', _, rfl, .inl (SqL.of (s16 _ _ hcl2)), fun d2 nd2 => ?_⟩
    have nd2' := none_of s16 nd2
    have d12 : d1 ≠ d2 := fun e => by rw [e] at x16; rw [x16] at nd2; cases nd2
    generalize hG : upd H16 d2 _ = H17
    have s17 : Same H16 H17 := hG ▸ same_new nd2
    have x17 := (congrFun hG d2).symm.trans upd_same
    clear hG
    have x16 := s17 _ _ x16
    refine ⟨by show 2 ≤ sizeLine; decide, fun hd nhd => ?_⟩
    have hd1 : hd ≠ d1 := fun e => by rw [← e, nhd] at x16; cases x16
    have hd2 : hd ≠ d2 := fun e => by rw [← e, nhd] at x17; cases x17
    generalize hG : upd H17 hd _ = H18
    have s18 : Same H17 H18 := hG ▸ same_new nhd
    have x18 := (congrFun hG hd).symm.trans upd_same
    clear hG
    have x16 := s18 _ _ x16
    have x17 := s18 _ _ x17
    have b18 := s16.trans (s17.trans s18)
    have c0' : atI ([V.ref d1, .ref d2] : List V) 0 = some (V.ref d1) := atI_nat (j := 0) rfl
    have c1' : atI ([V.ref d1, .ref d2] : List V) 1 = some (V.ref d2) := atI_nat (j := 1) rfl
    refine ⟨_, rfl, td, _, _, _, rfl, rfl, SqL.of (b18 _ _ ha), t0, _, rfl, td, _, _, _, rfl, rfl, SqL.of (b18 _ _ ha), t1, _, rfl, hd, _, _, _, rfl, rfl, SqL.of x18, c0', _, rfl, hd, _, _, _, rfl, rfl, SqL.of x18, c1', ?_⟩
    dsimp only [tNil]
    refine fun pt dx hx hdx hne => mk_pat (.inl x16) (.inl x17) hx hdx hne fun H19 s19 hPt => ⟨rfl, ?_⟩
    have b19 := b18.trans s19
    have x16 := s19 _ _ x16
    have x17 := s19 _ _ x17
    have x18 := s19 _ _ x18
    refine ⟨_, rfl, _, rfl, td, _, _, _, rfl, rfl, SqL.of (b19 _ _ ha), t2, _, rfl, td, _, _, _, rfl, rfl, SqL.of (b19 _ _ ha), t3, by show 2 ≤ sizeLine; decide, fun l9 m9 => ?_⟩
    generalize hG : upd H19 l9 _ = H20
    have s20 : Same H19 H20 := hG ▸ same_new m9
    have x20 := (congrFun hG l9).symm.trans upd_same
    clear hG
    have b20 := b19.trans s20
    have lay : PyData.canLayAll0 [.list (pdi xs), .list (pd ys)] = true := layc (layL (lay_pdi _)) (layc (layL (lay_all tok.ok)) (by simp [PyData.canLayAll0]))
    have dep : PyData.depthAll [.list (pdi xs), .list (pd ys)] ≤ 20 := by
      have e1 := depth_pdi xs
      have e2 := depth_pd ys
      simp only [PyData.depthAll, PyData.depth] at e1 e2 ⊢
      omega
    refine ⟨.list [.list (pdi xs), .list (pd ys)], .list [.list (pdi xs), .list (pd ys)], .lst (SqL.of (s20 _ _ x18)) (.cons (.lst (SqL.of (s20 _ _ x16)) (dp_ivs _)) (.cons (.lst (SqL.of (s20 _ _ x17)) (dp_pd _)) .nil)), .lst (SqL.of x20) (.cons (.lst (SqL.of (b20 _ _ hnl)) (dp_ivs _)) (.cons (.lst (SqL.of (b20 _ _ hcl2)) (dp_pd _)) .nil)), shapedL lay dep, shapedL lay dep, _, rfl, ifF (by rw [eqvL lay]; rfl) ?_⟩
    have x16 := s20 _ _ x16
    have x17 := s20 _ _ x17
    have x18 := s20 _ _ x18
    have hPt := hPt.same s20
    clear x20 lay dep m9 s20 b19 s19 b18 s18 s17 s16 hx hdx hne nhd nd1 nd2
    -- the handed lists are changed
    refine ⟨_, rfl, hd, _, _, _, rfl, rfl, SqL.of x18, c0', .inl ⟨rfl, _, SqL.of x16⟩, d1, _, _, rfl, rfl, x16, small_int (by rw [ivs_len]; have := tok.xl; omega), ?_⟩
    have hPt := hPt.updL (o := .lst (ivs xs ++ [V.int 0])) x16
    have b21 : Same H15 (upd H20 d1 (.lst (ivs xs ++ [V.int 0]))) := fun b o e => by rw [upd_ne (ne_of_none e nd1')]; exact b20 _ _ e
    have x17 : upd H20 d1 (.lst (ivs xs ++ [V.int 0])) d2 = some (.lst (sv ys)) := by rw [upd_ne d12.symm]; exact x17
    have x18 : upd H20 d1 (.lst (ivs xs ++ [V.int 0])) hd = some (.lst [.ref d1, .ref d2]) := by rw [upd_ne hd1]; exact x18
    generalize upd H20 d1 _ = H21 at hPt b21 x17 x18 ⊢
    refine ⟨_, rfl, hd, _, _, _, rfl, rfl, SqL.of x18, c1', .inl ⟨rfl, _, SqL.of x17⟩, d2, _, _, rfl, rfl, x17, small_int (by rw [len_sv]; have := tok.yl; omega), ?_⟩
    have hPt := hPt.updL (o := .lst (sv ys ++ [V.str "stranger"])) x17
    have b22 : Same H15 (upd H21 d2 (.lst (sv ys ++ [V.str "stranger"]))) := fun b o e => by rw [upd_ne (ne_of_none e nd2')]; exact b21 _ _ e
    generalize upd H21 d2 _ = H22 at hPt b22 ⊢
    clear x16 x17 x18 b20 b21 nd1' nd2' c0' c1'
    have hn := b22 _ _ hn
    have hp2 := b22 _ _ hp2
    have hRD := b22 _ _ hRD
    have hRt := hRt.same b22
    have hplT := hplT.same b22
    have htd := htd.same b22
    have hpa := b22 _ _ hpa
    have hpn := b22 _ _ hpn
    have hpc := b22 _ _ hpc
    have ha := b22 _ _ ha
    have hnl := b22 _ _ hnl
    have hcl2 := b22 _ _ hcl2
    clear b22
    refine ⟨_, rfl, _, rfl, _, rfl, pa, _, _, _, rfl, rfl, SqL.of hpa, u2, ?_⟩
    dsimp only [tNil]
    refine tupP (K := K) (.inl hpn) fun r3 H23 s23 hr3 => ?_
    refine ⟨_, rfl, pa, _, _, _, rfl, rfl, SqL.of (s23 _ _ hpa), u3, ?_⟩
    dsimp only [tNil]
    refine tupP (K := K) (.inl (s23 _ _ hpc)) fun c3 H24 s24 hc3 => ?_
    refine fun gd dx hx hdx hne => mk_pat (.inr (s24 _ _ hr3)) (.inr hc3) hx hdx hne fun H25 s25 hGd => ⟨rfl, ?_⟩
    have q25 := s23.trans (s24.trans s25)
    have hPt := hPt.same q25
    refine ⟨_, rfl, _, rfl, pt, td, k2, s2, xs, ys, rfl, hPt, htd.same q25, tok.ok, fun H26 s26 => ⟨_, rfl, ifF rfl ?_⟩⟩
    refine ⟨_, rfl, _, rfl, gd, pa, k, s, pxs, pys, rfl, hGd.same s26, (hplT.same q25).same s26, yok, fun H27 s27 => ⟨_, rfl, ifF rfl ?_⟩⟩
    have s267 := s26.trans s27
    have q27 := q25.trans s267
    have hPt := hPt.same s267
    have hGd := hGd.same s267
    have hn := q27 _ _ hn
    have hp2 := q27 _ _ hp2
    have hRD := q27 _ _ hRD
    have hRt := hRt.same q27
    have hplT := hplT.same q27
    have htd := htd.same q27
    have ha := q27 _ _ ha
    have hnl := q27 _ _ hnl
    have hcl2 := q27 _ _ hcl2
    clear q25 q27 s23 s24 s25 s26 s27 s267 hx hdx hne hr3 hc3 hpa hpn hpc
    have rle : rs.length ≤ 15 ∧ 1 ≤ rs.length := by omega
    have R0 : (0 : Int) < (((rts.map V.ref).length : Nat) : Int) := by rw [List.length_map]; omega
    have N0 : (0 : Int) < (((sv cs).length : Nat) : Int) := by rw [len_sv]; omega
    refine ⟨_, rfl, p2, _, _, _, rfl, rfl, SqL.of hp2, g30, .inl ⟨_, rfl, _, rfl, RD, _, rfl, .inl (SqL.of hRD), _, _, rfl, rfl, R0, ?_⟩⟩
    obtain ⟨zn, hzn, ezn⟩ := atF (f := V.str) (xs := cs) (j := z31 % (((sv cs).length : Nat) : Int)) (mm z31 _ N0).1 (by have := (mm z31 _ N0).2; rw [len_sv] at this ⊢; exact this)
    refine ⟨_, rfl, _, rfl, p2, _, _, _, rfl, rfl, SqL.of hp2, g31, .inl ⟨_, rfl, _, rfl, n, _, rfl, .inl (SqL.of hn), _, _, rfl, rfl, N0, n, _, _, _, rfl, rfl, SqL.of hn, ezn, ?_⟩⟩
    obtain ⟨tu, htu⟩ := Int.eq_ofNat_of_zero_le (mm z30 _ R0).1
    have tul : tu < rts.length := by have := (mm z30 _ R0).2; rw [htu, List.length_map] at this; omega
    obtain ⟨tr, ms, etr, ems, htr⟩ := hRt.ex (show tu < rs.length by rw [← hRt.len]; exact tul)
    have aT : atI (rts.map V.ref) (z30 % (((rts.map V.ref).length : Nat) : Int)) = some (.ref tr) := by rw [htu]; exact atI_nat (by rw [List.getElem?_map, etr]; rfl)
    have mok := hRows ms (List.mem_of_getElem? ems)
    have mle : ms.length ≤ 12 := by have := mok.len; omega
    have stepT : ∀ i z, ms[i]? = some z → z ≠ zn → sv ((ms.take (i + 1)).filter fun z => decide (z ≠ zn)) = sv ((ms.take i).filter fun z => decide (z ≠ zn)) ++ [V.str z] := fun i z hz hm => by
      rw [take_succ hz, List.filter_append]
      have : [z].filter (fun z => decide (z ≠ zn)) = [z] := by simp [hm]
      rw [this]; exact sv_snoc' _ _
    have stepF : ∀ i z, ms[i]? = some z → ¬ z ≠ zn → sv ((ms.take (i + 1)).filter fun z => decide (z ≠ zn)) = sv ((ms.take i).filter fun z => decide (z ≠ zn)) := fun i z hz hm => by
      rw [take_succ hz, List.filter_append]
      have : [z].filter (fun z => decide (z ≠ zn)) = [] := by simp at hm; simp [hm]
      rw [this, List.append_nil]
    refine ⟨_, rfl, _, rfl, RD, _, _, _, rfl, rfl, SqL.of hRD, aT, tr, rfl, ⟨_, SqL.of htr⟩, fun RW nRW => lc_it walk_list (PvS H27 RW fun i => sv ((ms.take i).filter fun z => decide (z ≠ zn))) (pv0 nRW rfl) (fun i G _ q => q.1.seq (SqL.of htr)) ?_ ?_⟩
    · rintro i x G0 G hi q ⟨rfl, hx⟩
      obtain ⟨z, hz, rfl⟩ := sv_get hx
      refine ⟨rfl, _, rfl, _, rfl, rfl, _, rfl, ?_⟩
      have hlen : (sv ((ms.take i).filter fun z => decide (z ≠ zn))).length ≤ 1000000 := by
        have := List.length_filter_le (fun z => decide (z ≠ zn)) (ms.take i)
        rw [List.length_take] at this
        rw [len_sv]; omega
      by_cases hm : z = zn
      · exact ifF (by rw [decide_eq_true (show V.str z = V.str zn by rw [hm])]; rfl) (q.skip (stepF i z hz (fun h => h hm)))
      · exact ifT (by rw [decide_eq_false (fun e => hm (V.str.inj e))]; rfl) ⟨_, rfl, q.push nRW (stepT i z hz hm) hlen⟩
    rintro H28 ⟨s28, hRW⟩
    have hRW : H28 RW = some (.lst (sv ((ms.take (sv ms).length).filter fun z => decide (z ≠ zn)))) := hRW
    rw [len_sv, List.take_length] at hRW
    have fok : RowOk cs (ms.filter fun z => decide (z ≠ zn)) := ⟨List.filter_sublist.nodup mok.1, fun y hy => mok.2 y (List.mem_filter.mp hy).1⟩
    have hn := s28 _ _ hn
    have hRD := s28 _ _ hRD
    have hRt := hRt.same s28
    have hplT := hplT.same s28
    have htd := htd.same s28
    have hPt := hPt.same s28
    have hGd := hGd.same s28
    have ha := s28 _ _ ha
    have hnl := s28 _ _ hnl
    have hcl2 := s28 _ _ hcl2
    have htr := s28 _ _ htr
    clear s28 nRW hp2
    refine ⟨fun σ G => Same H28 G ∧ ∃ (rw_ : Addr) (ms2 : List Str), σ = [some (.ref a), some (.ref p0), some (.ref p1), some (.ref p2), some (.int k), some (.int s), some (.int (lw k s)), some (.ref n), some (.ref o), some (.ref D), some (.int (((ts0.map V.ref).length : Nat) : Int)), u11, some (.ref PL), some (.ref RD), some (.ref pa), some (.ref td), some (.ref hd), some (.ref pt), some (.ref gd), some (.int (z30 % (((rts.map V.ref).length : Nat) : Int))), some (.str zn), some (.ref rw_), none, none, none] ∧ G rw_ = some (.lst (sv ms2)) ∧ RowOk cs ms2, ?_, ?_⟩
    · refine ⟨_, rfl, _, rfl, _, rfl, RD, _, _, _, rfl, rfl, SqL.of hRD, aT, tr, _, rfl, .inl (SqL.of htr), rfl, flat_sv _, _, rfl, ?_⟩
      rw [if_pos (rfl : true = true), inV_str]
      by_cases hm : zn ∈ ms
      · exact ifF (by rw [decide_eq_true hm]; rfl) ⟨Same.refl _, RW, _, rfl, hRW, fok⟩
      · refine ifT (by rw [decide_eq_false hm]; rfl) ⟨_, rfl, by show 1 ≤ sizeLine; decide, fun l1 n1 => ?_⟩
        generalize hG : upd H28 l1 _ = G1
        have q1' : Same H28 G1 := hG ▸ same_new n1
        have y1 := (congrFun hG l1).symm.trans upd_same
        clear hG
        refine ⟨_, rfl, catO y1 (q1' _ _ hRW) (by rw [len_sv]; have := List.length_filter_le (fun z => decide (z ≠ zn)) ms; show 1 + (ms.filter fun z => decide (z ≠ zn)).length ≤ 1000000; omega) fun c G2 q2' nc hc => ⟨q1'.trans q2', c, zn :: ms.filter (fun z => decide (z ≠ zn)), rfl, hc, List.nodup_cons.mpr ⟨fun h => hm (List.mem_filter.mp h).1, fok.1⟩, fun y hy => ?_⟩⟩
        rcases List.mem_cons.mp hy with rfl | hy
        · exact hzn
        · exact fok.2 y hy
    clear hRW fok stepT stepF
    rintro σ H29 ⟨s29, rw_, ms2, rfl, hrw, rok⟩
    have hn := s29 _ _ hn
    have hRD := s29 _ _ hRD
    have hRt := hRt.same s29
    have hplT := hplT.same s29
    have htd := htd.same s29
    have hPt := hPt.same s29
    have hGd := hGd.same s29
    have ha := s29 _ _ ha
    have hnl := s29 _ _ hnl
    have hcl2 := s29 _ _ hcl2
    clear s29 htr
    have rtl2 : rts.length = rs.length := hRt.len
    refine ⟨_, rfl, _, rfl, _, rfl, _, rfl, RD, tu, .ref rw_, rts.map V.ref, by rw [htu]; rfl, SqL.of hRD, by rw [List.length_map]; omega, fun c1 G1 s1 nc1 hc1 => ?_⟩
    refine ⟨_, rfl, ?_⟩
    delta tNoPart
    refine ⟨_, rfl, _, rfl, slO (SqL.of (s1 _ _ hRD)) fun b1 G2 s2 nb1 hb1 => ?_⟩
    rw [htu, cut_takeG, ← List.map_take] at hb1
    have s12 := s1.trans s2
    refine ⟨_, rfl, _, rfl, _, _, rfl, rfl, _, rfl, ?_⟩
    refine slO (SqL.of (s12 _ _ hRD)) fun b2 G3 s3 nb2 hb2 => ?_
    rw [htu, show ((tu : Nat) : Int) + 1 = ((tu + 1 : Nat) : Int) by omega, cut_dropG, ← List.map_drop] at hb2
    refine catO (s3 _ _ hb1) hb2 (by rw [List.length_map, List.length_map, List.length_take, List.length_drop]; omega) fun c2 G4 s4 nc2 hc2 => ?_
    refine ⟨by show 3 ≤ sizeLine; decide, fun LT_ nLT => ?_⟩
    generalize hG : upd G4 LT_ _ = G5
    have s5 : Same G4 G5 := hG ▸ same_new nLT
    have x5 := (congrFun hG LT_).symm.trans upd_same
    clear hG
    have x5 : G5 LT_ = some (.lst ([RD, c1, c2].map V.ref)) := x5
    have w25 := s2.trans (s3.trans (s4.trans s5))
    have w15 := s1.trans w25
    have hlots : ∀ q ∈ [RD, c1, c2], ∃ (ts2 : List Addr) (rs2 : List (List Str)), G5 q = some (.lst (ts2.map V.ref)) ∧ Lss .lst G5 ts2 rs2 ∧ (∀ x ∈ rs2, RowOk cs x) ∧ rs2.length ≤ 40 := by
      intro q hq
      have hR5 := hRt.same w15
      rcases List.mem_cons.mp hq with rfl | hq
      · exact ⟨rts, rs, w15 _ _ hRD, hR5, hRows, by omega⟩
      rcases List.mem_cons.mp hq with rfl | hq
      · refine ⟨rts.take tu ++ [rw_] ++ rts.drop (tu + 1), rs.take tu ++ [ms2] ++ rs.drop (tu + 1), ?_, ((hR5.tk tu).cat (Lss.nil.app (w15 _ _ hrw))).cat (hR5.dp (tu + 1)), fun x hx => ?_, ?_⟩
        · rw [w25 _ _ hc1, List.map_append, List.map_append, List.map_take, List.map_drop]; rfl
        · rcases List.mem_append.mp hx with hx | hx
          · rcases List.mem_append.mp hx with hx | hx
            · exact hRows x (List.mem_of_mem_take hx)
            · rw [List.mem_singleton.mp hx]; exact rok
          · exact hRows x (List.mem_of_mem_drop hx)
        · rw [List.length_append, List.length_append, List.length_take, List.length_drop]; show min tu rs.length + 1 + (rs.length - (tu + 1)) ≤ 40; omega
      rw [List.mem_singleton.mp hq]
      refine ⟨rts.take tu ++ rts.drop (tu + 1), rs.take tu ++ rs.drop (tu + 1), ?_, (hR5.tk tu).cat (hR5.dp (tu + 1)), fun x hx => ?_, ?_⟩
      · rw [s5 _ _ hc2, List.map_append]
      · rcases List.mem_append.mp hx with hx | hx
        · exact hRows x (List.mem_of_mem_take hx)
        · exact hRows x (List.mem_of_mem_drop hx)
      · rw [List.length_append, List.length_take, List.length_drop]; omega
    have hn := w15 _ _ hn
    have hRD := w15 _ _ hRD
    have hRt := hRt.same w15
    have hplT := hplT.same w15
    have htd := htd.same w15
    have hPt := hPt.same w15
    have hGd := hGd.same w15
    have ha := w15 _ _ ha
    have hnl := w15 _ _ hnl
    have hcl2 := w15 _ _ hcl2
    clear w15 w25 s1 s2 s3 s4 s5 s12 hc1 hb1 hb2 hc2 nLT nc1 nc2 nb1 nb2 hrw rok
    have pxl : pxs.length ≤ 1000 := by omega
    have pyl : pys.length ≤ 1000 := by omega
    have txl : xs.length ≤ 1000 := by have := tok.xl; omega
    have tyl : ys.length ≤ 1000 := by have := tok.yl; omega
    refine ⟨LT_, rfl, ⟨_, SqL.of x5⟩, for_it walk_list (fun i σ G => Same G5 G ∧ ∃ u22 : Option V, σ = [some (.ref a), some (.ref p0), some (.ref p1), some (.ref p2), some (.int k), some (.int s), some (.int (lw k s)), some (.ref n), some (.ref o), some (.ref D), some (.int (((ts0.map V.ref).length : Nat) : Int)), u11, some (.ref PL), some (.ref RD), some (.ref pa), some (.ref td), some (.ref hd), some (.ref pt), some (.ref gd), some (.int (z30 % (((rts.map V.ref).length : Nat) : Int))), some (.str zn), some (.ref rw_), u22, none, none]) ⟨Same.refl _, none, rfl⟩ (fun i σ G _ q => q.1.seq (SqL.of x5)) ?_ ?_⟩
    · rintro i x σ G0 G hi ⟨sG, u22, rfl⟩ ⟨rfl, hx⟩
      obtain ⟨q, hq, rfl⟩ := refs_get (ts := [RD, c1, c2]) hx
      obtain ⟨ts2, rs2, hq2, hL2, hr2, hl2⟩ := hlots q (List.mem_of_getElem? hq)
      refine ⟨_, rfl, _, rfl, _, rfl, _, rfl, n, q, td, pt, k2, s2, xs, ys, cs, ts2, rs2, k, s, xs, ys, rfl, sG _ _ hn, cok, sG _ _ hq2, hL2.same sG, hr2, hl2, htd.same sG, hPt.same sG, tok.hk, tok.hs, txl, tyl, fun Ga sa => ⟨_, rfl, ifF rfl ?_⟩⟩
      have sGa := sG.trans sa
      exact ⟨_, rfl, _, rfl, _, rfl, _, rfl, n, q, pa, gd, k, s, pxs, pys, cs, ts2, rs2, k, s, pxs, pys, rfl, sGa _ _ hn, cok, sGa _ _ hq2, hL2.same sGa, hr2, hl2, hplT.same sGa, hGd.same sGa, mk, msI, pxl, pyl, fun Gb sb => ⟨_, rfl, ifF rfl ⟨sGa.trans sb, _, rfl⟩⟩⟩
    rintro σ G6 ⟨s6, u22, rfl⟩
    have hn := s6 _ _ hn
    have hRD := s6 _ _ hRD
    have hRt := hRt.same s6
    have hplT := hplT.same s6
    have htd := htd.same s6
    have hPt := hPt.same s6
    have hGd := hGd.same s6
    have ha := s6 _ _ ha
    have hnl := s6 _ _ hnl
    have hcl2 := s6 _ _ hcl2
    clear s6 hlots x5
    refine ⟨_, rfl, _, rfl, _, rfl, gd, n, RD, k, s, pxs, pys, cs, rts, rs, rfl, hGd, SqL.of hn, SqL.of hRD, hRt, fun x hx => (hRows x hx).2, by omega, pxl, pyl, fun G7 s7 => ?_⟩
    rw [hlies]
    refine ⟨_, rfl, ifF rfl ?_⟩
    have hplT := hplT.same s7
    have htd := htd.same s7
    have hPt := hPt.same s7
    have ha := s7 _ _ ha
    have hnl := s7 _ _ hnl
    have hcl2 := s7 _ _ hcl2
    clear hn hRD hRt hGd s7
    refine ⟨_, rfl, _, rfl, _, rfl, _, _, rfl, rfl, _, rfl, _, rfl, td, _, _, _, rfl, rfl, SqL.of ha, t2, _, rfl, td, _, _, _, rfl, rfl, SqL.of ha, t3, by show 4 ≤ sizeLine; decide, fun o3 n3 => ?_⟩
    generalize hG : upd G7 o3 _ = G8
    have s8 : Same G7 G8 := hG ▸ same_new n3
    have x8 := (congrFun hG o3).symm.trans upd_same
    clear hG
    have ha8 := s8 _ _ ha
    refine ⟨_, rfl, td, _, _, _, rfl, rfl, SqL.of ha8, t0, _, rfl, _, _, rfl, rfl, _, rfl, td, _, _, _, rfl, rfl, SqL.of ha8, t2, _, rfl, td, _, _, _, rfl, rfl, SqL.of ha8, t3, by show 4 ≤ sizeLine; decide, fun o4 n4 => ?_⟩
    generalize hG : upd G8 o4 _ = G9
    have s9 : Same G8 G9 := hG ▸ same_new n4
    have x9 := (congrFun hG o4).symm.trans upd_same
    clear hG
    refine ⟨by show 4 ≤ sizeLine; decide, fun OL nOL => ?_⟩
    generalize hG : upd G9 OL _ = Ga
    have sa : Same G9 Ga := hG ▸ same_new nOL
    have xa := (congrFun hG OL).symm.trans upd_same
    clear hG
    have xa : Ga OL = some (.lst ([pa, td, o3, o4].map V.ref)) := xa
    have w8a := s9.trans sa
    have w7a := s8.trans w8a
    have hoth : ∀ q ∈ [pa, td, o3, o4], ∃ (k3 s3 : Int) (x3 : List Int) (y3 : List Str), Told Ga q k3 s3 x3 y3 ∧ ∀ y ∈ y3, Okz y := by
      intro q hq
      rcases List.mem_cons.mp hq with rfl | hq
      · exact ⟨k, s, pxs, pys, hplT.same w7a, yok⟩
      rcases List.mem_cons.mp hq with rfl | hq
      · exact ⟨k2, s2, xs, ys, htd.same w7a, tok.ok⟩
      rcases List.mem_cons.mp hq with rfl | hq
      · exact ⟨1 + k, s, xs, ys, ⟨nl, cl', w8a _ _ x8, w7a _ _ hnl, w7a _ _ hcl2⟩, tok.ok⟩
      rw [List.mem_singleton.mp hq]
      exact ⟨k2, s + 1, xs, ys, ⟨nl, cl', sa _ _ x9, w7a _ _ hnl, w7a _ _ hcl2⟩, tok.ok⟩
    have hplT := hplT.same w7a
    have htd := htd.same w7a
    have hPt := hPt.same w7a
    refine ⟨OL, rfl, ⟨_, SqL.of xa⟩, for_it walk_list (fun i σ G => Same Ga G ∧ ∃ u23 : Option V, σ = [some (.ref a), some (.ref p0), some (.ref p1), some (.ref p2), some (.int k), some (.int s), some (.int (lw k s)), some (.ref n), some (.ref o), some (.ref D), some (.int (((ts0.map V.ref).length : Nat) : Int)), u11, some (.ref PL), some (.ref RD), some (.ref pa), some (.ref td), some (.ref hd), some (.ref pt), some (.ref gd), some (.int (z30 % (((rts.map V.ref).length : Nat) : Int))), some (.str zn), some (.ref rw_), u22, u23, none]) ⟨Same.refl _, none, rfl⟩ (fun i σ G _ q => q.1.seq (SqL.of xa)) ?_ ?_⟩
    · rintro i x σ G0 G hi ⟨sG, u23, rfl⟩ ⟨rfl, hx⟩
      obtain ⟨q, hq, rfl⟩ := refs_get (ts := [pa, td, o3, o4]) hx
      obtain ⟨k3, s3, x3, y3, hT3, hy3⟩ := hoth q (List.mem_of_getElem? hq)
      refine ⟨_, rfl, _, rfl, td, q, k2, s2, k3, s3, xs, x3, ys, y3, rfl, htd.same sG, hT3.same sG, tok.ok, hy3, fun Gb sb => ⟨_, rfl, ifF rfl ?_⟩⟩
      have sGb := sG.trans sb
      exact ⟨_, rfl, _, rfl, pa, q, k, s, k3, s3, pxs, x3, pys, y3, rfl, hplT.same sGb, hT3.same sGb, yok, hy3, fun Gc sc => ⟨_, rfl, ifF rfl ⟨sGb.trans sc, _, rfl⟩⟩⟩
    rintro σ Gz ⟨sz, u23, rfl⟩
    exact ⟨_, rfl, _, rfl, pt, td, k2, s2, xs, ys, rfl, hPt.same sz, htd.same sz, tok.ok, fun Ge se => kk _⟩
end
end My
set_option maxRecDepth 100000
set_option maxHeartbeats 4000000
set_option exponentiation.threshold 10000
namespace My
open PySem L2
theorem all_mk {l : PySem.W.OpenLaw} {w : World} {K : PySem.W.Frag} {h : Heap} {mg : Str → Option Value} {fa C_Table C_Pattern C_BadKind a_BadKind_init a_is_name a_first_bad_name a_first_stray a_check_columns a_check_rows a_Table_in_order a_Table_init a_Table_getitem a_Table_len a_standard_width a_standard_rows a_Pattern_init a_Pattern_eq a_is_alike a_lies_in a_law_cell a_law_pool a_law_names a_law_order a_law_row a_law_is_number a_law_standard a_law_width a_law_is_pattern a_law_table_rows a_law_at a_law_other_way a_law_free a_law_spoiled a_law_lies a_law_attributes a_law_alike a_law e_Table_init e_MORE_COLUMNS e_FIXED_COLUMNS e_FIXED_ROWS e_w4 e_w5 e_w40 e_w41 e_w42 e_w43 e_w50 e_w51 e_w52 e_w53 : Addr} (X : K.In h) (G : h.Ns mainGlobals mg) (hfa : mg "law" = some (.ref fa))
    {cd_BadKind : ClassData}
    {oc_BadKind_init kV_BadKind_init dc_BadKind_init pm_BadKind_init ct_BadKind_init oa_BadKind_init ob_BadKind_init : Value} {od_BadKind_init an_BadKind_init da_BadKind_init db_BadKind_init : Option Addr} {sl_BadKind_init la_BadKind_init lb_BadKind_init : Array (Option Value)} {cda_BadKind_init cc_BadKind_init : Addr} {vs_BadKind_init : Array Value} {fl_BadKind_init : Str} {tf_BadKind_init : Tok}
    {tk_LONGEST_NAME : Tok}
    {tk_Table_MOST_COLUMNS : Tok}
    {tk_Table_MOST_ROWS : Tok}
    {es_MORE_COLUMNS : Array DictEntry} {dn_MORE_COLUMNS : Nat}
    {es_FIXED_COLUMNS : Array DictEntry} {dn_FIXED_COLUMNS : Nat}
    {es_FIXED_ROWS : Array DictEntry} {dn_FIXED_ROWS : Nat}
    {wo_w4 : Option Addr} {wi_w4 : Array Value} {wn_w4 : Nat} {ws_w4 : Array (Option Value)}
    {wo_w5 : Option Addr} {wi_w5 : Array Value} {wn_w5 : Nat} {ws_w5 : Array (Option Value)}
    {wo_w40 : Option Addr} {wi_w40 : Array Value} {wn_w40 : Nat} {ws_w40 : Array (Option Value)}
    {wo_w41 : Option Addr} {wi_w41 : Array Value} {wn_w41 : Nat} {ws_w41 : Array (Option Value)}
    {wo_w42 : Option Addr} {wi_w42 : Array Value} {wn_w42 : Nat} {ws_w42 : Array (Option Value)}
    {wo_w43 : Option Addr} {wi_w43 : Array Value} {wn_w43 : Nat} {ws_w43 : Array (Option Value)}
    {wo_w50 : Option Addr} {wi_w50 : Array Value} {wn_w50 : Nat} {ws_w50 : Array (Option Value)}
    {wo_w51 : Option Addr} {wi_w51 : Array Value} {wn_w51 : Nat} {ws_w51 : Array (Option Value)}
    {wo_w52 : Option Addr} {wi_w52 : Array Value} {wn_w52 : Nat} {ws_w52 : Array (Option Value)}
    {wo_w53 : Option Addr} {wi_w53 : Array Value} {wn_w53 : Nat} {ws_w53 : Array (Option Value)}
    {oc_is_name kV_is_name dc_is_name pm_is_name cd_is_name ct_is_name : Value} {od_is_name an_is_name : Option Addr} {sl_is_name : Array (Option Value)}
    {oc_first_bad_name kV_first_bad_name dc_first_bad_name pm_first_bad_name cd_first_bad_name ct_first_bad_name : Value} {od_first_bad_name an_first_bad_name : Option Addr} {sl_first_bad_name : Array (Option Value)}
    {oc_first_stray kV_first_stray dc_first_stray pm_first_stray cd_first_stray ct_first_stray : Value} {od_first_stray an_first_stray : Option Addr} {sl_first_stray : Array (Option Value)}
    {oc_check_columns kV_check_columns dc_check_columns pm_check_columns cd_check_columns ct_check_columns : Value} {od_check_columns an_check_columns : Option Addr} {sl_check_columns : Array (Option Value)}
    {oc_check_rows kV_check_rows dc_check_rows pm_check_rows cd_check_rows ct_check_rows : Value} {od_check_rows an_check_rows : Option Addr} {sl_check_rows : Array (Option Value)}
    {oc_Table_in_order kV_Table_in_order dc_Table_in_order pm_Table_in_order cd_Table_in_order ct_Table_in_order : Value} {od_Table_in_order an_Table_in_order : Option Addr} {sl_Table_in_order : Array (Option Value)}
    {oc_Table_init kV_Table_init dc_Table_init pm_Table_init cd_Table_init ct_Table_init : Value} {od_Table_init an_Table_init : Option Addr} {sl_Table_init : Array (Option Value)}
    {TD_Table_init : Addr} {to_Table_init : Option Addr} {tn_Table_init : Nat} {ts_Table_init : Array (Option Value)}
    {oc_Table_getitem kV_Table_getitem dc_Table_getitem pm_Table_getitem cd_Table_getitem ct_Table_getitem : Value} {od_Table_getitem an_Table_getitem : Option Addr} {sl_Table_getitem : Array (Option Value)}
    {oc_Table_len kV_Table_len dc_Table_len pm_Table_len cd_Table_len ct_Table_len : Value} {od_Table_len an_Table_len : Option Addr} {sl_Table_len : Array (Option Value)}
    {oc_standard_width kV_standard_width dc_standard_width pm_standard_width cd_standard_width ct_standard_width : Value} {od_standard_width an_standard_width : Option Addr} {sl_standard_width : Array (Option Value)}
    {oc_standard_rows kV_standard_rows dc_standard_rows pm_standard_rows cd_standard_rows ct_standard_rows : Value} {od_standard_rows an_standard_rows : Option Addr} {sl_standard_rows : Array (Option Value)}
    {oc_Pattern_init kV_Pattern_init dc_Pattern_init pm_Pattern_init cd_Pattern_init ct_Pattern_init : Value} {od_Pattern_init an_Pattern_init : Option Addr} {sl_Pattern_init : Array (Option Value)}
    {oc_Pattern_eq kV_Pattern_eq dc_Pattern_eq pm_Pattern_eq cd_Pattern_eq ct_Pattern_eq : Value} {od_Pattern_eq an_Pattern_eq : Option Addr} {sl_Pattern_eq : Array (Option Value)}
    {oc_is_alike kV_is_alike dc_is_alike pm_is_alike cd_is_alike ct_is_alike : Value} {od_is_alike an_is_alike : Option Addr} {sl_is_alike : Array (Option Value)}
    {oc_lies_in kV_lies_in dc_lies_in pm_lies_in cd_lies_in ct_lies_in : Value} {od_lies_in an_lies_in : Option Addr} {sl_lies_in : Array (Option Value)}
    {oc_law_cell kV_law_cell dc_law_cell pm_law_cell cd_law_cell ct_law_cell : Value} {od_law_cell an_law_cell : Option Addr} {sl_law_cell : Array (Option Value)}
    {oc_law_pool kV_law_pool dc_law_pool pm_law_pool cd_law_pool ct_law_pool : Value} {od_law_pool an_law_pool : Option Addr} {sl_law_pool : Array (Option Value)}
    {oc_law_names kV_law_names dc_law_names pm_law_names cd_law_names ct_law_names : Value} {od_law_names an_law_names : Option Addr} {sl_law_names : Array (Option Value)}
    {oc_law_order kV_law_order dc_law_order pm_law_order cd_law_order ct_law_order : Value} {od_law_order an_law_order : Option Addr} {sl_law_order : Array (Option Value)}
    {oc_law_row kV_law_row dc_law_row pm_law_row cd_law_row ct_law_row : Value} {od_law_row an_law_row : Option Addr} {sl_law_row : Array (Option Value)}
    {oc_law_is_number kV_law_is_number dc_law_is_number pm_law_is_number cd_law_is_number ct_law_is_number : Value} {od_law_is_number an_law_is_number : Option Addr} {sl_law_is_number : Array (Option Value)}
    {oc_law_standard kV_law_standard dc_law_standard pm_law_standard cd_law_standard ct_law_standard : Value} {od_law_standard an_law_standard : Option Addr} {sl_law_standard : Array (Option Value)}
    {oc_law_width kV_law_width dc_law_width pm_law_width cd_law_width ct_law_width : Value} {od_law_width an_law_width : Option Addr} {sl_law_width : Array (Option Value)}
    {oc_law_is_pattern kV_law_is_pattern dc_law_is_pattern pm_law_is_pattern cd_law_is_pattern ct_law_is_pattern : Value} {od_law_is_pattern an_law_is_pattern : Option Addr} {sl_law_is_pattern : Array (Option Value)}
    {oc_law_table_rows kV_law_table_rows dc_law_table_rows pm_law_table_rows cd_law_table_rows ct_law_table_rows : Value} {od_law_table_rows an_law_table_rows : Option Addr} {sl_law_table_rows : Array (Option Value)}
    {oc_law_at kV_law_at dc_law_at pm_law_at cd_law_at ct_law_at : Value} {od_law_at an_law_at : Option Addr} {sl_law_at : Array (Option Value)}
    {oc_law_other_way kV_law_other_way dc_law_other_way pm_law_other_way cd_law_other_way ct_law_other_way : Value} {od_law_other_way an_law_other_way : Option Addr} {sl_law_other_way : Array (Option Value)}
    {oc_law_free kV_law_free dc_law_free pm_law_free cd_law_free ct_law_free : Value} {od_law_free an_law_free : Option Addr} {sl_law_free : Array (Option Value)}
    {oc_law_spoiled kV_law_spoiled dc_law_spoiled pm_law_spoiled cd_law_spoiled ct_law_spoiled : Value} {od_law_spoiled an_law_spoiled : Option Addr} {sl_law_spoiled : Array (Option Value)}
    {oc_law_lies kV_law_lies dc_law_lies pm_law_lies cd_law_lies ct_law_lies : Value} {od_law_lies an_law_lies : Option Addr} {sl_law_lies : Array (Option Value)}
    {oc_law_attributes kV_law_attributes dc_law_attributes pm_law_attributes cd_law_attributes ct_law_attributes : Value} {od_law_attributes an_law_attributes : Option Addr} {sl_law_attributes : Array (Option Value)}
    {oc_law_alike kV_law_alike dc_law_alike pm_law_alike cd_law_alike ct_law_alike : Value} {od_law_alike an_law_alike : Option Addr} {sl_law_alike : Array (Option Value)}
    {oc_law kV_law dc_law pm_law cd_law ct_law : Value} {od_law an_law : Option Addr} {sl_law : Array (Option Value)}
    (xmg_Table : PySem.W.nsIn K mainGlobals "Table" = some (some (.ref C_Table)))
    (xmg_Pattern : PySem.W.nsIn K mainGlobals "Pattern" = some (some (.ref C_Pattern)))
    (xmg_BadKind : PySem.W.nsIn K mainGlobals "BadKind" = some (some (.ref C_BadKind)))
    (am_BadKind_init : PySem.W.findIn K (.ref C_BadKind) "__init__" = some (some (.ref a_BadKind_init)))
    (xmg_LONGEST_NAME : PySem.W.nsIn K mainGlobals "LONGEST_NAME" = some (some (.int 8 tk_LONGEST_NAME)))
    (xmg_MORE_COLUMNS : PySem.W.nsIn K mainGlobals "MORE_COLUMNS" = some (some (.ref e_MORE_COLUMNS)))
    (xmg_FIXED_COLUMNS : PySem.W.nsIn K mainGlobals "FIXED_COLUMNS" = some (some (.ref e_FIXED_COLUMNS)))
    (xmg_FIXED_ROWS : PySem.W.nsIn K mainGlobals "FIXED_ROWS" = some (some (.ref e_FIXED_ROWS)))
    (xmg_is_name : PySem.W.nsIn K mainGlobals "is_name" = some (some (.ref a_is_name)))
    (xmg_first_bad_name : PySem.W.nsIn K mainGlobals "first_bad_name" = some (some (.ref a_first_bad_name)))
    (xmg_first_stray : PySem.W.nsIn K mainGlobals "first_stray" = some (some (.ref a_first_stray)))
    (xmg_check_columns : PySem.W.nsIn K mainGlobals "check_columns" = some (some (.ref a_check_columns)))
    (xmg_check_rows : PySem.W.nsIn K mainGlobals "_check_rows" = some (some (.ref a_check_rows)))
    (am_Table_in_order : PySem.W.findIn K (.ref C_Table) "_in_order" = some (some (.ref a_Table_in_order)))
    (am_Table_init : PySem.W.findIn K (.ref C_Table) "__init__" = some (some (.ref a_Table_init)))
    (am_Table_getitem : PySem.W.findIn K (.ref C_Table) "__getitem__" = some (some (.ref a_Table_getitem)))
    (am_Table_len : PySem.W.findIn K (.ref C_Table) "__len__" = some (some (.ref a_Table_len)))
    (xmg_standard_width : PySem.W.nsIn K mainGlobals "standard_width" = some (some (.ref a_standard_width)))
    (xmg_standard_rows : PySem.W.nsIn K mainGlobals "standard_rows" = some (some (.ref a_standard_rows)))
    (am_Pattern_init : PySem.W.findIn K (.ref C_Pattern) "__init__" = some (some (.ref a_Pattern_init)))
    (am_Pattern_eq : PySem.W.findIn K (.ref C_Pattern) "__eq__" = some (some (.ref a_Pattern_eq)))
    (xmg_is_alike : PySem.W.nsIn K mainGlobals "_is_alike" = some (some (.ref a_is_alike)))
    (xmg_lies_in : PySem.W.nsIn K mainGlobals "lies_in" = some (some (.ref a_lies_in)))
    (xmg_law_cell : PySem.W.nsIn K mainGlobals "_law_cell" = some (some (.ref a_law_cell)))
    (xmg_law_pool : PySem.W.nsIn K mainGlobals "_law_pool" = some (some (.ref a_law_pool)))
    (xmg_law_names : PySem.W.nsIn K mainGlobals "_law_names" = some (some (.ref a_law_names)))
    (xmg_law_order : PySem.W.nsIn K mainGlobals "_law_order" = some (some (.ref a_law_order)))
    (xmg_law_row : PySem.W.nsIn K mainGlobals "_law_row" = some (some (.ref a_law_row)))
    (xmg_law_is_number : PySem.W.nsIn K mainGlobals "_law_is_number" = some (some (.ref a_law_is_number)))
    (xmg_law_standard : PySem.W.nsIn K mainGlobals "_law_standard" = some (some (.ref a_law_standard)))
    (xmg_law_width : PySem.W.nsIn K mainGlobals "_law_width" = some (some (.ref a_law_width)))
    (xmg_law_is_pattern : PySem.W.nsIn K mainGlobals "_law_is_pattern" = some (some (.ref a_law_is_pattern)))
    (xmg_law_table_rows : PySem.W.nsIn K mainGlobals "_law_table_rows" = some (some (.ref a_law_table_rows)))
    (xmg_law_at : PySem.W.nsIn K mainGlobals "_law_at" = some (some (.ref a_law_at)))
    (xmg_law_other_way : PySem.W.nsIn K mainGlobals "_law_other_way" = some (some (.ref a_law_other_way)))
    (xmg_law_free : PySem.W.nsIn K mainGlobals "_law_free" = some (some (.ref a_law_free)))
    (xmg_law_spoiled : PySem.W.nsIn K mainGlobals "_law_spoiled" = some (some (.ref a_law_spoiled)))
    (xmg_law_lies : PySem.W.nsIn K mainGlobals "_law_lies" = some (some (.ref a_law_lies)))
    (xmg_law_attributes : PySem.W.nsIn K mainGlobals "_law_attributes" = some (some (.ref a_law_attributes)))
    (xmg_law_alike : PySem.W.nsIn K mainGlobals "_law_alike" = some (some (.ref a_law_alike)))
    (xmg_law : PySem.W.nsIn K mainGlobals "law" = some (some (.ref a_law)))
    (if_Table_in_order : PySem.W.isFn K (.ref a_Table_in_order) = true)
    (if_Table_init : PySem.W.isFn K (.ref a_Table_init) = true)
    (if_Table_getitem : PySem.W.isFn K (.ref a_Table_getitem) = true)
    (if_Table_len : PySem.W.isFn K (.ref a_Table_len) = true)
    (if_Pattern_init : PySem.W.isFn K (.ref a_Pattern_init) = true)
    (if_Pattern_eq : PySem.W.isFn K (.ref a_Pattern_eq) = true)
    (l_BadKind_init : K.lookup a_BadKind_init = some ⟨oc_BadKind_init, od_BadKind_init, .func (PySem.W.ksFn "__init__" "BadKind.__init__" (defArgs s_BadKind_init) (defBody s_BadKind_init) (defScope s_BadKind_init) .none kV_BadKind_init dc_BadKind_init pm_BadKind_init an_BadKind_init (.ref cda_BadKind_init) ct_BadKind_init cc_BadKind_init), sl_BadKind_init⟩)
    (l_MORE_COLUMNS : K.lookup e_MORE_COLUMNS = some ⟨.type "dict", none, .dict es_MORE_COLUMNS dn_MORE_COLUMNS, #[]⟩)
    (l_FIXED_COLUMNS : K.lookup e_FIXED_COLUMNS = some ⟨.type "dict", none, .dict es_FIXED_COLUMNS dn_FIXED_COLUMNS, #[]⟩)
    (l_FIXED_ROWS : K.lookup e_FIXED_ROWS = some ⟨.type "dict", none, .dict es_FIXED_ROWS dn_FIXED_ROWS, #[]⟩)
    (l_is_name : K.lookup a_is_name = some ⟨oc_is_name, od_is_name, .func (PySem.W.fnOf "is_name" "is_name" (defArgs s_is_name) (defBody s_is_name) (defScope s_is_name) .none kV_is_name dc_is_name pm_is_name an_is_name cd_is_name ct_is_name), sl_is_name⟩)
    (l_first_bad_name : K.lookup a_first_bad_name = some ⟨oc_first_bad_name, od_first_bad_name, .func (PySem.W.fnOf "first_bad_name" "first_bad_name" (defArgs s_first_bad_name) (defBody s_first_bad_name) (defScope s_first_bad_name) .none kV_first_bad_name dc_first_bad_name pm_first_bad_name an_first_bad_name cd_first_bad_name ct_first_bad_name), sl_first_bad_name⟩)
    (l_first_stray : K.lookup a_first_stray = some ⟨oc_first_stray, od_first_stray, .func (PySem.W.fnOf "first_stray" "first_stray" (defArgs s_first_stray) (defBody s_first_stray) (defScope s_first_stray) .none kV_first_stray dc_first_stray pm_first_stray an_first_stray cd_first_stray ct_first_stray), sl_first_stray⟩)
    (l_check_columns : K.lookup a_check_columns = some ⟨oc_check_columns, od_check_columns, .func (PySem.W.fnOf "check_columns" "check_columns" (defArgs s_check_columns) (defBody s_check_columns) (defScope s_check_columns) .none kV_check_columns dc_check_columns pm_check_columns an_check_columns cd_check_columns ct_check_columns), sl_check_columns⟩)
    (l_check_rows : K.lookup a_check_rows = some ⟨oc_check_rows, od_check_rows, .func (PySem.W.fnOf "_check_rows" "_check_rows" (defArgs s_check_rows) (defBody s_check_rows) (defScope s_check_rows) .none kV_check_rows dc_check_rows pm_check_rows an_check_rows cd_check_rows ct_check_rows), sl_check_rows⟩)
    (l_Table_in_order : K.lookup a_Table_in_order = some ⟨oc_Table_in_order, od_Table_in_order, .func (PySem.W.fnOf "_in_order" "Table._in_order" (defArgs s_Table_in_order) (defBody s_Table_in_order) (defScope s_Table_in_order) .none kV_Table_in_order dc_Table_in_order pm_Table_in_order an_Table_in_order cd_Table_in_order ct_Table_in_order), sl_Table_in_order⟩)
    (l_Table_init : K.lookup a_Table_init = some ⟨oc_Table_init, od_Table_init, .func (PySem.W.fnOf "__init__" "Table.__init__" (defArgs s_Table_init) (defBody s_Table_init) (defScope s_Table_init) (.ref TD_Table_init) kV_Table_init dc_Table_init pm_Table_init an_Table_init cd_Table_init ct_Table_init), sl_Table_init⟩)
    (l_Table_getitem : K.lookup a_Table_getitem = some ⟨oc_Table_getitem, od_Table_getitem, .func (PySem.W.fnOf "__getitem__" "Table.__getitem__" (defArgs s_Table_getitem) (defBody s_Table_getitem) (defScope s_Table_getitem) .none kV_Table_getitem dc_Table_getitem pm_Table_getitem an_Table_getitem cd_Table_getitem ct_Table_getitem), sl_Table_getitem⟩)
    (l_Table_len : K.lookup a_Table_len = some ⟨oc_Table_len, od_Table_len, .func (PySem.W.fnOf "__len__" "Table.__len__" (defArgs s_Table_len) (defBody s_Table_len) (defScope s_Table_len) .none kV_Table_len dc_Table_len pm_Table_len an_Table_len cd_Table_len ct_Table_len), sl_Table_len⟩)
    (l_standard_width : K.lookup a_standard_width = some ⟨oc_standard_width, od_standard_width, .func (PySem.W.fnOf "standard_width" "standard_width" (defArgs s_standard_width) (defBody s_standard_width) (defScope s_standard_width) .none kV_standard_width dc_standard_width pm_standard_width an_standard_width cd_standard_width ct_standard_width), sl_standard_width⟩)
    (l_standard_rows : K.lookup a_standard_rows = some ⟨oc_standard_rows, od_standard_rows, .func (PySem.W.fnOf "standard_rows" "standard_rows" (defArgs s_standard_rows) (defBody s_standard_rows) (defScope s_standard_rows) .none kV_standard_rows dc_standard_rows pm_standard_rows an_standard_rows cd_standard_rows ct_standard_rows), sl_standard_rows⟩)
    (l_Pattern_init : K.lookup a_Pattern_init = some ⟨oc_Pattern_init, od_Pattern_init, .func (PySem.W.fnOf "__init__" "Pattern.__init__" (defArgs s_Pattern_init) (defBody s_Pattern_init) (defScope s_Pattern_init) .none kV_Pattern_init dc_Pattern_init pm_Pattern_init an_Pattern_init cd_Pattern_init ct_Pattern_init), sl_Pattern_init⟩)
    (l_Pattern_eq : K.lookup a_Pattern_eq = some ⟨oc_Pattern_eq, od_Pattern_eq, .func (PySem.W.fnOf "__eq__" "Pattern.__eq__" (defArgs s_Pattern_eq) (defBody s_Pattern_eq) (defScope s_Pattern_eq) .none kV_Pattern_eq dc_Pattern_eq pm_Pattern_eq an_Pattern_eq cd_Pattern_eq ct_Pattern_eq), sl_Pattern_eq⟩)
    (l_is_alike : K.lookup a_is_alike = some ⟨oc_is_alike, od_is_alike, .func (PySem.W.fnOf "_is_alike" "_is_alike" (defArgs s_is_alike) (defBody s_is_alike) (defScope s_is_alike) .none kV_is_alike dc_is_alike pm_is_alike an_is_alike cd_is_alike ct_is_alike), sl_is_alike⟩)
    (l_lies_in : K.lookup a_lies_in = some ⟨oc_lies_in, od_lies_in, .func (PySem.W.fnOf "lies_in" "lies_in" (defArgs s_lies_in) (defBody s_lies_in) (defScope s_lies_in) .none kV_lies_in dc_lies_in pm_lies_in an_lies_in cd_lies_in ct_lies_in), sl_lies_in⟩)
    (l_law_cell : K.lookup a_law_cell = some ⟨oc_law_cell, od_law_cell, .func (PySem.W.fnOf "_law_cell" "_law_cell" (defArgs s_law_cell) (defBody s_law_cell) (defScope s_law_cell) .none kV_law_cell dc_law_cell pm_law_cell an_law_cell cd_law_cell ct_law_cell), sl_law_cell⟩)
    (l_law_pool : K.lookup a_law_pool = some ⟨oc_law_pool, od_law_pool, .func (PySem.W.fnOf "_law_pool" "_law_pool" (defArgs s_law_pool) (defBody s_law_pool) (defScope s_law_pool) .none kV_law_pool dc_law_pool pm_law_pool an_law_pool cd_law_pool ct_law_pool), sl_law_pool⟩)
    (l_law_names : K.lookup a_law_names = some ⟨oc_law_names, od_law_names, .func (PySem.W.fnOf "_law_names" "_law_names" (defArgs s_law_names) (defBody s_law_names) (defScope s_law_names) .none kV_law_names dc_law_names pm_law_names an_law_names cd_law_names ct_law_names), sl_law_names⟩)
    (l_law_order : K.lookup a_law_order = some ⟨oc_law_order, od_law_order, .func (PySem.W.fnOf "_law_order" "_law_order" (defArgs s_law_order) (defBody s_law_order) (defScope s_law_order) .none kV_law_order dc_law_order pm_law_order an_law_order cd_law_order ct_law_order), sl_law_order⟩)
    (l_law_row : K.lookup a_law_row = some ⟨oc_law_row, od_law_row, .func (PySem.W.fnOf "_law_row" "_law_row" (defArgs s_law_row) (defBody s_law_row) (defScope s_law_row) .none kV_law_row dc_law_row pm_law_row an_law_row cd_law_row ct_law_row), sl_law_row⟩)
    (l_law_is_number : K.lookup a_law_is_number = some ⟨oc_law_is_number, od_law_is_number, .func (PySem.W.fnOf "_law_is_number" "_law_is_number" (defArgs s_law_is_number) (defBody s_law_is_number) (defScope s_law_is_number) .none kV_law_is_number dc_law_is_number pm_law_is_number an_law_is_number cd_law_is_number ct_law_is_number), sl_law_is_number⟩)
    (l_law_standard : K.lookup a_law_standard = some ⟨oc_law_standard, od_law_standard, .func (PySem.W.fnOf "_law_standard" "_law_standard" (defArgs s_law_standard) (defBody s_law_standard) (defScope s_law_standard) .none kV_law_standard dc_law_standard pm_law_standard an_law_standard cd_law_standard ct_law_standard), sl_law_standard⟩)
    (l_law_width : K.lookup a_law_width = some ⟨oc_law_width, od_law_width, .func (PySem.W.fnOf "_law_width" "_law_width" (defArgs s_law_width) (defBody s_law_width) (defScope s_law_width) .none kV_law_width dc_law_width pm_law_width an_law_width cd_law_width ct_law_width), sl_law_width⟩)
    (l_law_is_pattern : K.lookup a_law_is_pattern = some ⟨oc_law_is_pattern, od_law_is_pattern, .func (PySem.W.fnOf "_law_is_pattern" "_law_is_pattern" (defArgs s_law_is_pattern) (defBody s_law_is_pattern) (defScope s_law_is_pattern) .none kV_law_is_pattern dc_law_is_pattern pm_law_is_pattern an_law_is_pattern cd_law_is_pattern ct_law_is_pattern), sl_law_is_pattern⟩)
    (l_law_table_rows : K.lookup a_law_table_rows = some ⟨oc_law_table_rows, od_law_table_rows, .func (PySem.W.fnOf "_law_table_rows" "_law_table_rows" (defArgs s_law_table_rows) (defBody s_law_table_rows) (defScope s_law_table_rows) .none kV_law_table_rows dc_law_table_rows pm_law_table_rows an_law_table_rows cd_law_table_rows ct_law_table_rows), sl_law_table_rows⟩)
    (l_law_at : K.lookup a_law_at = some ⟨oc_law_at, od_law_at, .func (PySem.W.fnOf "_law_at" "_law_at" (defArgs s_law_at) (defBody s_law_at) (defScope s_law_at) .none kV_law_at dc_law_at pm_law_at an_law_at cd_law_at ct_law_at), sl_law_at⟩)
    (l_law_other_way : K.lookup a_law_other_way = some ⟨oc_law_other_way, od_law_other_way, .func (PySem.W.fnOf "_law_other_way" "_law_other_way" (defArgs s_law_other_way) (defBody s_law_other_way) (defScope s_law_other_way) .none kV_law_other_way dc_law_other_way pm_law_other_way an_law_other_way cd_law_other_way ct_law_other_way), sl_law_other_way⟩)
    (l_law_free : K.lookup a_law_free = some ⟨oc_law_free, od_law_free, .func (PySem.W.fnOf "_law_free" "_law_free" (defArgs s_law_free) (defBody s_law_free) (defScope s_law_free) .none kV_law_free dc_law_free pm_law_free an_law_free cd_law_free ct_law_free), sl_law_free⟩)
    (l_law_spoiled : K.lookup a_law_spoiled = some ⟨oc_law_spoiled, od_law_spoiled, .func (PySem.W.fnOf "_law_spoiled" "_law_spoiled" (defArgs s_law_spoiled) (defBody s_law_spoiled) (defScope s_law_spoiled) .none kV_law_spoiled dc_law_spoiled pm_law_spoiled an_law_spoiled cd_law_spoiled ct_law_spoiled), sl_law_spoiled⟩)
    (l_law_lies : K.lookup a_law_lies = some ⟨oc_law_lies, od_law_lies, .func (PySem.W.fnOf "_law_lies" "_law_lies" (defArgs s_law_lies) (defBody s_law_lies) (defScope s_law_lies) .none kV_law_lies dc_law_lies pm_law_lies an_law_lies cd_law_lies ct_law_lies), sl_law_lies⟩)
    (l_law_attributes : K.lookup a_law_attributes = some ⟨oc_law_attributes, od_law_attributes, .func (PySem.W.fnOf "_law_attributes" "_law_attributes" (defArgs s_law_attributes) (defBody s_law_attributes) (defScope s_law_attributes) .none kV_law_attributes dc_law_attributes pm_law_attributes an_law_attributes cd_law_attributes ct_law_attributes), sl_law_attributes⟩)
    (l_law_alike : K.lookup a_law_alike = some ⟨oc_law_alike, od_law_alike, .func (PySem.W.fnOf "_law_alike" "_law_alike" (defArgs s_law_alike) (defBody s_law_alike) (defScope s_law_alike) .none kV_law_alike dc_law_alike pm_law_alike an_law_alike cd_law_alike ct_law_alike), sl_law_alike⟩)
    (l_law : K.lookup a_law = some ⟨oc_law, od_law, .func (PySem.W.fnOf "law" "law" (defArgs s_law) (defBody s_law) (defScope s_law) .none kV_law dc_law pm_law an_law cd_law ct_law), sl_law⟩)
    (lx_BadKind_init : K.lookup cda_BadKind_init = some ⟨oa_BadKind_init, da_BadKind_init, .fields vs_BadKind_init, la_BadKind_init⟩)
    (lq_BadKind_init : K.lookup cc_BadKind_init = some ⟨ob_BadKind_init, db_BadKind_init, .cell (some (.ref C_BadKind)), lb_BadKind_init⟩)
    (ki_MORE_COLUMNS : KeysI es_MORE_COLUMNS.toList [(1, .int 2), (2, .int 3), (3, .int 3)])
    (ki_FIXED_COLUMNS : KeysI es_FIXED_COLUMNS.toList [(4, .int 6), (5, .int 5)])
    (ki_FIXED_ROWS : KeysI es_FIXED_ROWS.toList [(4, .ref e_w4), (5, .ref e_w5)])
    (wl_w4 : K.lookup e_w4 = some ⟨.type "tuple", wo_w4, .seq wi_w4 wn_w4, ws_w4⟩)
    (wv_w4 : Vals ([.ref e_w40, .ref e_w41, .ref e_w42, .ref e_w43] : List V) wi_w4.toList)
    (wl_w5 : K.lookup e_w5 = some ⟨.type "tuple", wo_w5, .seq wi_w5 wn_w5, ws_w5⟩)
    (wv_w5 : Vals ([.ref e_w50, .ref e_w51, .ref e_w52, .ref e_w53] : List V) wi_w5.toList)
    (wl_w40 : K.lookup e_w40 = some ⟨.type "tuple", wo_w40, .seq wi_w40 wn_w40, ws_w40⟩)
    (wv_w40 : Vals ([.int 0, .int 1] : List V) wi_w40.toList)
    (wl_w41 : K.lookup e_w41 = some ⟨.type "tuple", wo_w41, .seq wi_w41 wn_w41, ws_w41⟩)
    (wv_w41 : Vals ([.int 2, .int 3] : List V) wi_w41.toList)
    (wl_w42 : K.lookup e_w42 = some ⟨.type "tuple", wo_w42, .seq wi_w42 wn_w42, ws_w42⟩)
    (wv_w42 : Vals ([.int 4, .int 5] : List V) wi_w42.toList)
    (wl_w43 : K.lookup e_w43 = some ⟨.type "tuple", wo_w43, .seq wi_w43 wn_w43, ws_w43⟩)
    (wv_w43 : Vals ([.int 1, .int 3, .int 5] : List V) wi_w43.toList)
    (wl_w50 : K.lookup e_w50 = some ⟨.type "tuple", wo_w50, .seq wi_w50 wn_w50, ws_w50⟩)
    (wv_w50 : Vals ([.int 0, .int 1] : List V) wi_w50.toList)
    (wl_w51 : K.lookup e_w51 = some ⟨.type "tuple", wo_w51, .seq wi_w51 wn_w51, ws_w51⟩)
    (wv_w51 : Vals ([.int 2, .int 3] : List V) wi_w51.toList)
    (wl_w52 : K.lookup e_w52 = some ⟨.type "tuple", wo_w52, .seq wi_w52 wn_w52, ws_w52⟩)
    (wv_w52 : Vals ([.int 0, .int 1, .int 2, .int 3] : List V) wi_w52.toList)
    (wl_w53 : K.lookup e_w53 = some ⟨.type "tuple", wo_w53, .seq wi_w53 wn_w53, ws_w53⟩)
    (wv_w53 : Vals ([.int 1, .int 2, .int 4] : List V) wi_w53.toList)
    (c_BadKind_init : PySem.W.codeIn K (.ref cda_BadKind_init) "BadKind.__init__" = true)
    (c_is_name : PySem.W.codeIn K cd_is_name "is_name" = true)
    (k_is_name : PySem.W.keepIn K (.ref a_is_name) = true)
    (c_first_bad_name : PySem.W.codeIn K cd_first_bad_name "first_bad_name" = true)
    (k_first_bad_name : PySem.W.keepIn K (.ref a_first_bad_name) = true)
    (c_first_stray : PySem.W.codeIn K cd_first_stray "first_stray" = true)
    (k_first_stray : PySem.W.keepIn K (.ref a_first_stray) = true)
    (c_check_columns : PySem.W.codeIn K cd_check_columns "check_columns" = true)
    (k_check_columns : PySem.W.keepIn K (.ref a_check_columns) = true)
    (c_check_rows : PySem.W.codeIn K cd_check_rows "_check_rows" = true)
    (k_check_rows : PySem.W.keepIn K (.ref a_check_rows) = true)
    (c_Table_in_order : PySem.W.codeIn K cd_Table_in_order "Table._in_order" = true)
    (k_Table_in_order : PySem.W.keepIn K (.ref a_Table_in_order) = true)
    (c_Table_init : PySem.W.codeIn K cd_Table_init "Table.__init__" = true)
    (k_Table_init : PySem.W.keepIn K (.ref a_Table_init) = true)
    (lt_Table_init : K.lookup TD_Table_init = some ⟨.type "tuple", to_Table_init, .seq #[.ref e_Table_init] tn_Table_init, ts_Table_init⟩)
    (c_Table_getitem : PySem.W.codeIn K cd_Table_getitem "Table.__getitem__" = true)
    (k_Table_getitem : PySem.W.keepIn K (.ref a_Table_getitem) = true)
    (c_Table_len : PySem.W.codeIn K cd_Table_len "Table.__len__" = true)
    (k_Table_len : PySem.W.keepIn K (.ref a_Table_len) = true)
    (c_standard_width : PySem.W.codeIn K cd_standard_width "standard_width" = true)
    (k_standard_width : PySem.W.keepIn K (.ref a_standard_width) = true)
    (c_standard_rows : PySem.W.codeIn K cd_standard_rows "standard_rows" = true)
    (k_standard_rows : PySem.W.keepIn K (.ref a_standard_rows) = true)
    (c_Pattern_init : PySem.W.codeIn K cd_Pattern_init "Pattern.__init__" = true)
    (k_Pattern_init : PySem.W.keepIn K (.ref a_Pattern_init) = true)
    (c_Pattern_eq : PySem.W.codeIn K cd_Pattern_eq "Pattern.__eq__" = true)
    (k_Pattern_eq : PySem.W.keepIn K (.ref a_Pattern_eq) = true)
    (c_is_alike : PySem.W.codeIn K cd_is_alike "_is_alike" = true)
    (k_is_alike : PySem.W.keepIn K (.ref a_is_alike) = true)
    (c_lies_in : PySem.W.codeIn K cd_lies_in "lies_in" = true)
    (k_lies_in : PySem.W.keepIn K (.ref a_lies_in) = true)
    (c_law_cell : PySem.W.codeIn K cd_law_cell "_law_cell" = true)
    (k_law_cell : PySem.W.keepIn K (.ref a_law_cell) = true)
    (c_law_pool : PySem.W.codeIn K cd_law_pool "_law_pool" = true)
    (k_law_pool : PySem.W.keepIn K (.ref a_law_pool) = true)
    (c_law_names : PySem.W.codeIn K cd_law_names "_law_names" = true)
    (k_law_names : PySem.W.keepIn K (.ref a_law_names) = true)
    (c_law_order : PySem.W.codeIn K cd_law_order "_law_order" = true)
    (k_law_order : PySem.W.keepIn K (.ref a_law_order) = true)
    (c_law_row : PySem.W.codeIn K cd_law_row "_law_row" = true)
    (k_law_row : PySem.W.keepIn K (.ref a_law_row) = true)
    (c_law_is_number : PySem.W.codeIn K cd_law_is_number "_law_is_number" = true)
    (k_law_is_number : PySem.W.keepIn K (.ref a_law_is_number) = true)
    (c_law_standard : PySem.W.codeIn K cd_law_standard "_law_standard" = true)
    (k_law_standard : PySem.W.keepIn K (.ref a_law_standard) = true)
    (c_law_width : PySem.W.codeIn K cd_law_width "_law_width" = true)
    (k_law_width : PySem.W.keepIn K (.ref a_law_width) = true)
    (c_law_is_pattern : PySem.W.codeIn K cd_law_is_pattern "_law_is_pattern" = true)
    (k_law_is_pattern : PySem.W.keepIn K (.ref a_law_is_pattern) = true)
    (c_law_table_rows : PySem.W.codeIn K cd_law_table_rows "_law_table_rows" = true)
    (k_law_table_rows : PySem.W.keepIn K (.ref a_law_table_rows) = true)
    (c_law_at : PySem.W.codeIn K cd_law_at "_law_at" = true)
    (k_law_at : PySem.W.keepIn K (.ref a_law_at) = true)
    (c_law_other_way : PySem.W.codeIn K cd_law_other_way "_law_other_way" = true)
    (k_law_other_way : PySem.W.keepIn K (.ref a_law_other_way) = true)
    (c_law_free : PySem.W.codeIn K cd_law_free "_law_free" = true)
    (k_law_free : PySem.W.keepIn K (.ref a_law_free) = true)
    (c_law_spoiled : PySem.W.codeIn K cd_law_spoiled "_law_spoiled" = true)
    (k_law_spoiled : PySem.W.keepIn K (.ref a_law_spoiled) = true)
    (c_law_lies : PySem.W.codeIn K cd_law_lies "_law_lies" = true)
    (k_law_lies : PySem.W.keepIn K (.ref a_law_lies) = true)
    (c_law_attributes : PySem.W.codeIn K cd_law_attributes "_law_attributes" = true)
    (k_law_attributes : PySem.W.keepIn K (.ref a_law_attributes) = true)
    (c_law_alike : PySem.W.codeIn K cd_law_alike "_law_alike" = true)
    (k_law_alike : PySem.W.keepIn K (.ref a_law_alike) = true)
    (c_law : PySem.W.codeIn K cd_law "law" = true)
    (k_law : PySem.W.keepIn K (.ref a_law) = true)
    (pgcl_Table : PySem.W.plainGet K C_Table Str.empty = true)
    (hdcl_Table : PySem.W.hasDictIn K C_Table = true)
    (pocl_Table : PySem.W.plainOver K C_Table = true)
    (sacl_Table : PySem.W.findIn K (.ref C_Table) "__setattr__" = some (some (.builtin "object.__setattr__")))
    (xsf_Table : PySem.W.selfFirst K C_Table = true)
    (kmk_Table : PySem.W.makesIn K C_Table = true)
    (kkmk_Table : PySem.W.keepIn K (.ref C_Table) = true)
    (xc1_Table : PySem.W.findIn K (.ref C_Table) "__class__" = some (some (.builtin "object.__class__")))
    (xc3_Table : PySem.W.mroIn K C_Table (.type "object") = some true)
    (xn_Table_columns : PySem.W.findIn K (.ref C_Table) "columns" = some none)
    (xn_Table_rows : PySem.W.findIn K (.ref C_Table) "rows" = some none)
    (pgcl_Pattern : PySem.W.plainGet K C_Pattern Str.empty = true)
    (hdcl_Pattern : PySem.W.hasDictIn K C_Pattern = true)
    (pocl_Pattern : PySem.W.plainOver K C_Pattern = true)
    (sacl_Pattern : PySem.W.findIn K (.ref C_Pattern) "__setattr__" = some (some (.builtin "object.__setattr__")))
    (xsf_Pattern : PySem.W.selfFirst K C_Pattern = true)
    (kmk_Pattern : PySem.W.makesIn K C_Pattern = true)
    (kkmk_Pattern : PySem.W.keepIn K (.ref C_Pattern) = true)
    (xc1_Pattern : PySem.W.findIn K (.ref C_Pattern) "__class__" = some (some (.builtin "object.__class__")))
    (xc3_Pattern : PySem.W.mroIn K C_Pattern (.type "object") = some true)
    (xn_Pattern_kind : PySem.W.findIn K (.ref C_Pattern) "kind" = some none)
    (xn_Pattern_size : PySem.W.findIn K (.ref C_Pattern) "size" = some none)
    (xn_Pattern_rows : PySem.W.findIn K (.ref C_Pattern) "rows" = some none)
    (xn_Pattern_columns : PySem.W.findIn K (.ref C_Pattern) "columns" = some none)
    (xc2 : PySem.W.specialIn K (.builtin "object.__class__") "__get__" = some (some (.builtin "getset_descriptor.__get__")))
    (xc4 : PySem.W.takesIn K (.builtin "object.__class__") = some true)
    (xtp_BadKind : PySem.W.typeIn K (.ref C_BadKind) = some (.type "type"))
    (xic_BadKind : PySem.W.isClsIn K C_BadKind = true)
    (g1SC_BadKind : PySem.W.clsIn K C_BadKind = some cd_BadKind)
    (g2SC_BadKind : PySem.W.mroIn K C_BadKind (.ref C_BadKind) = some true)
    (ksSC_BadKind : PySem.W.ks_superIn K C_BadKind C_BadKind "__init__" = some (some (.builtin "ValueError.__init__")))
    (g4SC_BadKind : PySem.W.nsIn K PySem.cStatics "thirdparty.any" = some none)
    (g5SC_BadKind : PySem.W.nsIn K mainGlobals "super" = some none)
    (rfSC_BadKind : (l.prog.main.scope.names.lookup ("super" : Str)).isSome = false)
    (kxSC_BadKind : PySem.W.excInitIn K C_BadKind [.type "ValueError", .type "Exception", .type "BaseException", .type "object"] "ValueError.__new__" = true)
    (g6SC_BadKind : PySem.W.findIn K (.ref C_BadKind) "__setattr__" = some (some (.builtin "object.__setattr__")))
    (rv_BadKind_init : vs_BadKind_init[2]? = some (.str fl_BadKind_init tf_BadKind_init))
    (rg_BadKind_init : ((l.prog.main.file : Str) == fl_BadKind_init) = true)
    (xti_BadKind : PySem.W.typeIn K (.ref a_BadKind_init) = some (.type "function"))
    (xxn_BadKind_kind : PySem.W.findIn K (.ref C_BadKind) "kind" = some none)
    (xxn_BadKind_size : PySem.W.findIn K (.ref C_BadKind) "size" = some none)
    (xk_BadKind : PySem.W.keepIn K (.ref C_BadKind) = true)
    (xbp_BadKind : PySem.W.subIn K (.ref C_BadKind) (.type "BaseException") = some true)
    (xsv_BadKind : PySem.W.subIn K (.ref C_BadKind) (.type "ValueError") = some true)
    (xss_BadKind : PySem.W.subIn K (.ref C_BadKind) (.ref C_BadKind) = some true)
    (xe1_BadKind : PySem.W.findIn K (.ref C_BadKind) "__getattribute__" = some (some (.builtin "BaseException.__getattribute__")))
    (xe2_BadKind : PySem.W.findIn K (.ref C_BadKind) "__getattr__" = some none)
    (xe3_BadKind : PySem.W.hasDictIn K C_BadKind = true)
    (xe4_BadKind : PySem.W.findIn K (.ref C_BadKind) "__class__" = some (some (.builtin "object.__class__")))
    (xe5_BadKind : PySem.W.mroIn K C_BadKind (.type "object") = some true)
    (r1cr_Table : PySem.W.readsIn K C_Table (.type "type") = true)
    (r2cr_Table : PySem.W.specialIn K (.ref C_Table) "__getattribute__" = some (some (.builtin "type.__getattribute__")))
    (xcv_Table_MOST_COLUMNS : PySem.W.findCls K (.ref C_Table) (.type "type") "MOST_COLUMNS" = some (.val (.int 12 tk_Table_MOST_COLUMNS)))
    (xcv_Table_MOST_ROWS : PySem.W.findCls K (.ref C_Table) (.type "type") "MOST_ROWS" = some (.val (.int 48 tk_Table_MOST_ROWS)))
    (xn_abs : PySem.W.nsIn K mainGlobals "abs" = some none)
    (xn_int : PySem.W.nsIn K mainGlobals "int" = some none)
    (xn_isinstance : PySem.W.nsIn K mainGlobals "isinstance" = some none)
    (xn_range : PySem.W.nsIn K mainGlobals "range" = some none)
    (xn_len : PySem.W.nsIn K mainGlobals "len" = some none)
    (xn_str : PySem.W.nsIn K mainGlobals "str" = some none)
    (xn_tuple : PySem.W.nsIn K mainGlobals "tuple" = some none)
    (xn_list : PySem.W.nsIn K mainGlobals "list" = some none)
    (xn_ValueError : PySem.W.nsIn K mainGlobals "ValueError" = some none)
    (xn_all : PySem.W.nsIn K mainGlobals "all" = some none)
    (xn_min : PySem.W.nsIn K mainGlobals "min" = some none)
    (xn_max : PySem.W.nsIn K mainGlobals "max" = some none)
    (xn_enumerate : PySem.W.nsIn K mainGlobals "enumerate" = some none)
    (xn_bool : PySem.W.nsIn K mainGlobals "bool" = some none)
    (xn_zip : PySem.W.nsIn K mainGlobals "zip" = some none)
    (lw_MORE_COLUMNS : (e_MORE_COLUMNS == sysModules) = false)
    (lw_FIXED_COLUMNS : (e_FIXED_COLUMNS == sysModules) = false)
    (lw_FIXED_ROWS : (e_FIXED_ROWS == sysModules) = false)
    (wz_w4 : wi_w4.size ≤ sizeLine)
    (wz_w5 : wi_w5.size ≤ sizeLine)
    (wz_w40 : wi_w40.size ≤ sizeLine)
    (wz_w41 : wi_w41.size ≤ sizeLine)
    (wz_w42 : wi_w42.size ≤ sizeLine)
    (wz_w43 : wi_w43.size ≤ sizeLine)
    (wz_w50 : wi_w50.size ≤ sizeLine)
    (wz_w51 : wi_w51.size ≤ sizeLine)
    (wz_w52 : wi_w52.size ≤ sizeLine)
    (wz_w53 : wi_w53.size ≤ sizeLine)
    : ∃ fd : FuncData, (∀ (s : Shared) (v : Value), BindsTo s fd ⟨[v], []⟩ [("script", v)]) ∧ ∀ base : Heap, K.In base → base.Ns mainGlobals mg → FnOk l.prog w K mg base CX0 20 fa fd ["script"] (spLaw K) := by
  have e := hfa.symm.trans (PySem.W.mg_of X G xmg_law)
  cases e
  have T : Txt l.prog K mg ⟨C_Table, C_Pattern, C_BadKind, a_BadKind_init, _, a_is_name, _, a_first_bad_name, _, a_first_stray, _, a_check_columns, _, a_check_rows, _, a_Table_in_order, _, a_Table_init, _, a_Table_getitem, _, a_Table_len, _, a_standard_width, _, a_standard_rows, _, a_Pattern_init, _, a_Pattern_eq, _, a_is_alike, _, a_lies_in, _, a_law_cell, _, a_law_pool, _, a_law_names, _, a_law_order, _, a_law_row, _, a_law_is_number, _, a_law_standard, _, a_law_width, _, a_law_is_pattern, _, a_law_table_rows, _, a_law_at, _, a_law_other_way, _, a_law_free, _, a_law_spoiled, _, a_law_lies, _, a_law_attributes, _, a_law_alike, _, fa, _, e_Table_init, e_MORE_COLUMNS, e_FIXED_COLUMNS, e_FIXED_ROWS, e_w4, e_w5, e_w40, e_w41, e_w42, e_w43, e_w50, e_w51, e_w52, e_w53⟩ := {
    mg_Table := PySem.W.mg_of X G xmg_Table
    cl_Table := ⟨pgcl_Table, hdcl_Table, pocl_Table, sacl_Table⟩
    sf_Table := xsf_Table
    mk_Table := ⟨kmk_Table, am_Table_init, if_Table_init, kkmk_Table⟩
    c1_Table := xc1_Table
    c3_Table := xc3_Table
    n_Table_columns := xn_Table_columns
    n_Table_rows := xn_Table_rows
    mg_Pattern := PySem.W.mg_of X G xmg_Pattern
    cl_Pattern := ⟨pgcl_Pattern, hdcl_Pattern, pocl_Pattern, sacl_Pattern⟩
    sf_Pattern := xsf_Pattern
    mk_Pattern := ⟨kmk_Pattern, am_Pattern_init, if_Pattern_init, kkmk_Pattern⟩
    c1_Pattern := xc1_Pattern
    c3_Pattern := xc3_Pattern
    n_Pattern_kind := xn_Pattern_kind
    n_Pattern_size := xn_Pattern_size
    n_Pattern_rows := xn_Pattern_rows
    n_Pattern_columns := xn_Pattern_columns
    c2 := xc2
    c4 := xc4
    mg_BadKind := PySem.W.mg_of X G xmg_BadKind
    tp_BadKind := xtp_BadKind
    ic_BadKind := xic_BadKind
    SC_BadKind := ⟨⟨_, g1SC_BadKind⟩, g2SC_BadKind, ksSC_BadKind, g4SC_BadKind, xsv_BadKind, PySem.W.mg_none_of X G g5SC_BadKind, rfSC_BadKind, oex_of kxSC_BadKind xe3_BadKind g6SC_BadKind xbp_BadKind xtp_BadKind xk_BadKind⟩
    SF_BadKind := ⟨⟨_, _, _, _, _, _, _, _, _, _, rfl, l_BadKind_init, c_BadKind_init, ⟨_, _, _, _, _, _, lx_BadKind_init, rv_BadKind_init, rg_BadKind_init⟩, _, _, _, lq_BadKind_init⟩⟩
    ii_BadKind := am_BadKind_init
    ti_BadKind := xti_BadKind
    b_BadKind_init := fun s us _ hl => by rw [List.append_nil] at hl ⊢; exact .of_eq (match us, hl with | [_, _, _], _ => rfl)
    xn_BadKind_kind := xxn_BadKind_kind
    xn_BadKind_size := xxn_BadKind_size
    xf_BadKind := ⟨xe1_BadKind, xe2_BadKind, xbp_BadKind, xe3_BadKind⟩
    ec_BadKind := ⟨xe1_BadKind, xe2_BadKind, xbp_BadKind, xe3_BadKind, xe4_BadKind, xc2, xc4, xe5_BadKind⟩
    k_BadKind := xk_BadKind
    bp_BadKind := xbp_BadKind
    sv_BadKind := xsv_BadKind
    ss_BadKind := xss_BadKind
    e1_BadKind := xe1_BadKind
    e2_BadKind := xe2_BadKind
    e3_BadKind := xe3_BadKind
    e4_BadKind := xe4_BadKind
    e5_BadKind := xe5_BadKind
    mg_LONGEST_NAME := ⟨_, PySem.W.mg_of X G xmg_LONGEST_NAME⟩
    cr_Table := ⟨r1cr_Table, r2cr_Table⟩
    cv_Table_MOST_COLUMNS := ⟨_, ⟨xcv_Table_MOST_COLUMNS, ⟨_, rfl⟩⟩⟩
    cv_Table_MOST_ROWS := ⟨_, ⟨xcv_Table_MOST_ROWS, ⟨_, rfl⟩⟩⟩
    n_abs := PySem.W.mg_none_of X G xn_abs
    n_int := PySem.W.mg_none_of X G xn_int
    n_isinstance := PySem.W.mg_none_of X G xn_isinstance
    n_range := PySem.W.mg_none_of X G xn_range
    n_len := PySem.W.mg_none_of X G xn_len
    n_str := PySem.W.mg_none_of X G xn_str
    n_tuple := PySem.W.mg_none_of X G xn_tuple
    n_list := PySem.W.mg_none_of X G xn_list
    n_ValueError := PySem.W.mg_none_of X G xn_ValueError
    n_all := PySem.W.mg_none_of X G xn_all
    n_min := PySem.W.mg_none_of X G xn_min
    n_max := PySem.W.mg_none_of X G xn_max
    n_enumerate := PySem.W.mg_none_of X G xn_enumerate
    n_bool := PySem.W.mg_none_of X G xn_bool
    n_zip := PySem.W.mg_none_of X G xn_zip
    mg_MORE_COLUMNS := PySem.W.mg_of X G xmg_MORE_COLUMNS
    id_MORE_COLUMNS := ⟨lw_MORE_COLUMNS, _, _, l_MORE_COLUMNS, ki_MORE_COLUMNS⟩
    mg_FIXED_COLUMNS := PySem.W.mg_of X G xmg_FIXED_COLUMNS
    id_FIXED_COLUMNS := ⟨lw_FIXED_COLUMNS, _, _, l_FIXED_COLUMNS, ki_FIXED_COLUMNS⟩
    mg_FIXED_ROWS := PySem.W.mg_of X G xmg_FIXED_ROWS
    id_FIXED_ROWS := ⟨lw_FIXED_ROWS, _, _, l_FIXED_ROWS, ki_FIXED_ROWS⟩
    wt_w4 := ⟨_, _, _, _, wl_w4, wz_w4, wv_w4⟩
    wt_w5 := ⟨_, _, _, _, wl_w5, wz_w5, wv_w5⟩
    wt_w40 := ⟨_, _, _, _, wl_w40, wz_w40, wv_w40⟩
    wt_w41 := ⟨_, _, _, _, wl_w41, wz_w41, wv_w41⟩
    wt_w42 := ⟨_, _, _, _, wl_w42, wz_w42, wv_w42⟩
    wt_w43 := ⟨_, _, _, _, wl_w43, wz_w43, wv_w43⟩
    wt_w50 := ⟨_, _, _, _, wl_w50, wz_w50, wv_w50⟩
    wt_w51 := ⟨_, _, _, _, wl_w51, wz_w51, wv_w51⟩
    wt_w52 := ⟨_, _, _, _, wl_w52, wz_w52, wv_w52⟩
    wt_w53 := ⟨_, _, _, _, wl_w53, wz_w53, wv_w53⟩
    F_is_name := fun_mk (st := s_is_name) l_is_name c_is_name k_is_name
    b_is_name := (fun_mk (st := s_is_name) l_is_name c_is_name k_is_name).binds fun _ _ _ _ _ _ us hl => match us, hl with | [_], _ => rfl
    mg_is_name := PySem.W.mg_of X G xmg_is_name
    F_first_bad_name := fun_mk (st := s_first_bad_name) l_first_bad_name c_first_bad_name k_first_bad_name
    b_first_bad_name := (fun_mk (st := s_first_bad_name) l_first_bad_name c_first_bad_name k_first_bad_name).binds fun _ _ _ _ _ _ us hl => match us, hl with | [_], _ => rfl
    mg_first_bad_name := PySem.W.mg_of X G xmg_first_bad_name
    F_first_stray := fun_mk (st := s_first_stray) l_first_stray c_first_stray k_first_stray
    b_first_stray := (fun_mk (st := s_first_stray) l_first_stray c_first_stray k_first_stray).binds fun _ _ _ _ _ _ us hl => match us, hl with | [_, _], _ => rfl
    mg_first_stray := PySem.W.mg_of X G xmg_first_stray
    F_check_columns := fun_mk (st := s_check_columns) l_check_columns c_check_columns k_check_columns
    b_check_columns := (fun_mk (st := s_check_columns) l_check_columns c_check_columns k_check_columns).binds fun _ _ _ _ _ _ us hl => match us, hl with | [_], _ => rfl
    mg_check_columns := PySem.W.mg_of X G xmg_check_columns
    F_check_rows := fun_mk (st := s_check_rows) l_check_rows c_check_rows k_check_rows
    b_check_rows := (fun_mk (st := s_check_rows) l_check_rows c_check_rows k_check_rows).binds fun _ _ _ _ _ _ us hl => match us, hl with | [_, _], _ => rfl
    mg_check_rows := PySem.W.mg_of X G xmg_check_rows
    F_Table_in_order := fun_mk (st := s_Table_in_order) l_Table_in_order c_Table_in_order k_Table_in_order
    b_Table_in_order := (fun_mk (st := s_Table_in_order) l_Table_in_order c_Table_in_order k_Table_in_order).binds fun _ _ _ _ _ _ us hl => match us, hl with | [_, _], _ => rfl
    m_Table_in_order := ⟨am_Table_in_order, if_Table_in_order, k_Table_in_order⟩
    F_Table_init := ⟨⟨_, _, _, _, _, _, _, _, _, _, rfl, l_Table_init, c_Table_init, .inr ⟨by simp, TD_Table_init, _, [.ref e_Table_init], _, rfl, lt_Table_init, rfl, .cons rfl .nil⟩, .inl rfl⟩, k_Table_init⟩
    m_Table_init := ⟨am_Table_init, if_Table_init, k_Table_init⟩
    F_Table_getitem := fun_mk (st := s_Table_getitem) l_Table_getitem c_Table_getitem k_Table_getitem
    b_Table_getitem := (fun_mk (st := s_Table_getitem) l_Table_getitem c_Table_getitem k_Table_getitem).binds fun _ _ _ _ _ _ us hl => match us, hl with | [_, _], _ => rfl
    m_Table_getitem := ⟨am_Table_getitem, if_Table_getitem, k_Table_getitem⟩
    F_Table_len := fun_mk (st := s_Table_len) l_Table_len c_Table_len k_Table_len
    b_Table_len := (fun_mk (st := s_Table_len) l_Table_len c_Table_len k_Table_len).binds fun _ _ _ _ _ _ us hl => match us, hl with | [_], _ => rfl
    m_Table_len := ⟨am_Table_len, if_Table_len, k_Table_len⟩
    F_standard_width := fun_mk (st := s_standard_width) l_standard_width c_standard_width k_standard_width
    b_standard_width := (fun_mk (st := s_standard_width) l_standard_width c_standard_width k_standard_width).binds fun _ _ _ _ _ _ us hl => match us, hl with | [_, _], _ => rfl
    mg_standard_width := PySem.W.mg_of X G xmg_standard_width
    F_standard_rows := fun_mk (st := s_standard_rows) l_standard_rows c_standard_rows k_standard_rows
    b_standard_rows := (fun_mk (st := s_standard_rows) l_standard_rows c_standard_rows k_standard_rows).binds fun _ _ _ _ _ _ us hl => match us, hl with | [_, _], _ => rfl
    mg_standard_rows := PySem.W.mg_of X G xmg_standard_rows
    F_Pattern_init := fun_mk (st := s_Pattern_init) l_Pattern_init c_Pattern_init k_Pattern_init
    b_Pattern_init := (fun_mk (st := s_Pattern_init) l_Pattern_init c_Pattern_init k_Pattern_init).binds fun _ _ _ _ _ _ us hl => match us, hl with | [_, _, _, _, _], _ => rfl
    m_Pattern_init := ⟨am_Pattern_init, if_Pattern_init, k_Pattern_init⟩
    F_Pattern_eq := fun_mk (st := s_Pattern_eq) l_Pattern_eq c_Pattern_eq k_Pattern_eq
    b_Pattern_eq := (fun_mk (st := s_Pattern_eq) l_Pattern_eq c_Pattern_eq k_Pattern_eq).binds fun _ _ _ _ _ _ us hl => match us, hl with | [_, _], _ => rfl
    m_Pattern_eq := ⟨am_Pattern_eq, if_Pattern_eq, k_Pattern_eq⟩
    F_is_alike := fun_mk (st := s_is_alike) l_is_alike c_is_alike k_is_alike
    b_is_alike := (fun_mk (st := s_is_alike) l_is_alike c_is_alike k_is_alike).binds fun _ _ _ _ _ _ us hl => match us, hl with | [_, _, _], _ => rfl
    mg_is_alike := PySem.W.mg_of X G xmg_is_alike
    F_lies_in := fun_mk (st := s_lies_in) l_lies_in c_lies_in k_lies_in
    b_lies_in := (fun_mk (st := s_lies_in) l_lies_in c_lies_in k_lies_in).binds fun _ _ _ _ _ _ us hl => match us, hl with | [_, _], _ => rfl
    mg_lies_in := PySem.W.mg_of X G xmg_lies_in
    F_law_cell := fun_mk (st := s_law_cell) l_law_cell c_law_cell k_law_cell
    b_law_cell := (fun_mk (st := s_law_cell) l_law_cell c_law_cell k_law_cell).binds fun _ _ _ _ _ _ us hl => match us, hl with | [_, _], _ => rfl
    mg_law_cell := PySem.W.mg_of X G xmg_law_cell
    F_law_pool := fun_mk (st := s_law_pool) l_law_pool c_law_pool k_law_pool
    b_law_pool := (fun_mk (st := s_law_pool) l_law_pool c_law_pool k_law_pool).binds fun _ _ _ _ _ _ us hl => match us, hl with | [_, _, _], _ => rfl
    mg_law_pool := PySem.W.mg_of X G xmg_law_pool
    F_law_names := fun_mk (st := s_law_names) l_law_names c_law_names k_law_names
    b_law_names := (fun_mk (st := s_law_names) l_law_names c_law_names k_law_names).binds fun _ _ _ _ _ _ us hl => match us, hl with | [_, _], _ => rfl
    mg_law_names := PySem.W.mg_of X G xmg_law_names
    F_law_order := fun_mk (st := s_law_order) l_law_order c_law_order k_law_order
    b_law_order := (fun_mk (st := s_law_order) l_law_order c_law_order k_law_order).binds fun _ _ _ _ _ _ us hl => match us, hl with | [_, _, _], _ => rfl
    mg_law_order := PySem.W.mg_of X G xmg_law_order
    F_law_row := fun_mk (st := s_law_row) l_law_row c_law_row k_law_row
    b_law_row := (fun_mk (st := s_law_row) l_law_row c_law_row k_law_row).binds fun _ _ _ _ _ _ us hl => match us, hl with | [_, _, _, _], _ => rfl
    mg_law_row := PySem.W.mg_of X G xmg_law_row
    F_law_is_number := fun_mk (st := s_law_is_number) l_law_is_number c_law_is_number k_law_is_number
    b_law_is_number := (fun_mk (st := s_law_is_number) l_law_is_number c_law_is_number k_law_is_number).binds fun _ _ _ _ _ _ us hl => match us, hl with | [_, _, _], _ => rfl
    mg_law_is_number := PySem.W.mg_of X G xmg_law_is_number
    F_law_standard := fun_mk (st := s_law_standard) l_law_standard c_law_standard k_law_standard
    b_law_standard := (fun_mk (st := s_law_standard) l_law_standard c_law_standard k_law_standard).binds fun _ _ _ _ _ _ us hl => match us, hl with | [_, _], _ => rfl
    mg_law_standard := PySem.W.mg_of X G xmg_law_standard
    F_law_width := fun_mk (st := s_law_width) l_law_width c_law_width k_law_width
    b_law_width := (fun_mk (st := s_law_width) l_law_width c_law_width k_law_width).binds fun _ _ _ _ _ _ us hl => match us, hl with | [_, _], _ => rfl
    mg_law_width := PySem.W.mg_of X G xmg_law_width
    F_law_is_pattern := fun_mk (st := s_law_is_pattern) l_law_is_pattern c_law_is_pattern k_law_is_pattern
    b_law_is_pattern := (fun_mk (st := s_law_is_pattern) l_law_is_pattern c_law_is_pattern k_law_is_pattern).binds fun _ _ _ _ _ _ us hl => match us, hl with | [_, _, _], _ => rfl
    mg_law_is_pattern := PySem.W.mg_of X G xmg_law_is_pattern
    F_law_table_rows := fun_mk (st := s_law_table_rows) l_law_table_rows c_law_table_rows k_law_table_rows
    b_law_table_rows := (fun_mk (st := s_law_table_rows) l_law_table_rows c_law_table_rows k_law_table_rows).binds fun _ _ _ _ _ _ us hl => match us, hl with | [_, _, _, _], _ => rfl
    mg_law_table_rows := PySem.W.mg_of X G xmg_law_table_rows
    F_law_at := fun_mk (st := s_law_at) l_law_at c_law_at k_law_at
    b_law_at := (fun_mk (st := s_law_at) l_law_at c_law_at k_law_at).binds fun _ _ _ _ _ _ us hl => match us, hl with | [_, _, _], _ => rfl
    mg_law_at := PySem.W.mg_of X G xmg_law_at
    F_law_other_way := fun_mk (st := s_law_other_way) l_law_other_way c_law_other_way k_law_other_way
    b_law_other_way := (fun_mk (st := s_law_other_way) l_law_other_way c_law_other_way k_law_other_way).binds fun _ _ _ _ _ _ us hl => match us, hl with | [_], _ => rfl
    mg_law_other_way := PySem.W.mg_of X G xmg_law_other_way
    F_law_free := fun_mk (st := s_law_free) l_law_free c_law_free k_law_free
    b_law_free := (fun_mk (st := s_law_free) l_law_free c_law_free k_law_free).binds fun _ _ _ _ _ _ us hl => match us, hl with | [_, _, _], _ => rfl
    mg_law_free := PySem.W.mg_of X G xmg_law_free
    F_law_spoiled := fun_mk (st := s_law_spoiled) l_law_spoiled c_law_spoiled k_law_spoiled
    b_law_spoiled := (fun_mk (st := s_law_spoiled) l_law_spoiled c_law_spoiled k_law_spoiled).binds fun _ _ _ _ _ _ us hl => match us, hl with | [_, _, _, _], _ => rfl
    mg_law_spoiled := PySem.W.mg_of X G xmg_law_spoiled
    F_law_lies := fun_mk (st := s_law_lies) l_law_lies c_law_lies k_law_lies
    b_law_lies := (fun_mk (st := s_law_lies) l_law_lies c_law_lies k_law_lies).binds fun _ _ _ _ _ _ us hl => match us, hl with | [_, _, _, _], _ => rfl
    mg_law_lies := PySem.W.mg_of X G xmg_law_lies
    F_law_attributes := fun_mk (st := s_law_attributes) l_law_attributes c_law_attributes k_law_attributes
    b_law_attributes := (fun_mk (st := s_law_attributes) l_law_attributes c_law_attributes k_law_attributes).binds fun _ _ _ _ _ _ us hl => match us, hl with | [_, _], _ => rfl
    mg_law_attributes := PySem.W.mg_of X G xmg_law_attributes
    F_law_alike := fun_mk (st := s_law_alike) l_law_alike c_law_alike k_law_alike
    b_law_alike := (fun_mk (st := s_law_alike) l_law_alike c_law_alike k_law_alike).binds fun _ _ _ _ _ _ us hl => match us, hl with | [_, _], _ => rfl
    mg_law_alike := PySem.W.mg_of X G xmg_law_alike
    F_law := fun_mk (st := s_law) l_law c_law k_law
    b_law := (fun_mk (st := s_law) l_law c_law k_law).binds fun _ _ _ _ _ _ us hl => match us, hl with | [_], _ => rfl
    mg_law := PySem.W.mg_of X G xmg_law
  }
  exact ⟨_, fun s v => .of_eq rfl, fun base _ _ => ok_law T⟩
theorem walk {l : PySem.W.OpenLaw} {q : Program} {loose : List Str} {XP : (Str → Option Value) → Heap → Prop} {YP : World → Heap → Prop} {d : DefRec} {K : Params → PySem.W.Frag} (hn : l.most = some 63) (hdf : d.params.defaults = [])
    (hY : ∀ (w : World) (h : Heap), YP w h → (K w.params).In h)
    (F : ∀ (w : World) (mg : Str → Option Value) (fa : Addr) (h : Heap), (K w.params).In h → h.Ns mainGlobals mg → mg d.name = some (.ref fa) →
      ∃ fd : FuncData, (∀ (s : Shared) (u : Value), BindsTo s fd ⟨[u], []⟩ [("script", u)]) ∧ ∀ base : Heap, (K w.params).In base → base.Ns mainGlobals mg → FnOk l.prog w (K w.params) mg base CX0 20 fa fd ["script"] (spLaw (K w.params))) :
    PySem.W.WalkO q loose XP YP l.row.toRowW d [] (fun f vs => PySem.call f vs) :=
  L2.walk_of (n := 63) (k := 20) (x := "script") (CX := fun _ => CX0) (sp := fun w => spLaw (K w.params)) hn (by decide) hdf ⟨rfl, by decide, by decide⟩ hY F (fun _ _ a ns hl _ hS => ⟨a, ns, rfl, hS, hl, fun _ => rfl⟩) fun _ _ _ _ _ z => z
end My
open PySem PySem.W PyProof.Rows
set_option maxRecDepth 100000 in
set_option maxHeartbeats 0 in
theorem PySem.Challenge.cw_unbrokenrows_k31_patterns_that_lie_there_holds : PySem.Challenge.rw_unbrokenrows_k31_patterns_that_lie_there.Holds := by
  w_on; o_law; k_head; (case hw => w_witness2)
  k_fill
  refine My.walk (l := PySem.Challenge.rw_unbrokenrows_k31_patterns_that_lie_there) rfl rfl (fun w h Y => PySem.W.kIn_of Y) ?F
  case F =>
    intro w mg fa h KX G hmg
    refine' My.all_mk KX G hmg ?xmg_Table ?xmg_Pattern ?xmg_BadKind ?am_BadKind_init ?xmg_LONGEST_NAME ?xmg_MORE_COLUMNS ?xmg_FIXED_COLUMNS ?xmg_FIXED_ROWS ?xmg_is_name ?xmg_first_bad_name ?xmg_first_stray ?xmg_check_columns ?xmg_check_rows ?am_Table_in_order ?am_Table_init ?am_Table_getitem ?am_Table_len ?xmg_standard_width ?xmg_standard_rows ?am_Pattern_init ?am_Pattern_eq ?xmg_is_alike ?xmg_lies_in ?xmg_law_cell ?xmg_law_pool ?xmg_law_names ?xmg_law_order ?xmg_law_row ?xmg_law_is_number ?xmg_law_standard ?xmg_law_width ?xmg_law_is_pattern ?xmg_law_table_rows ?xmg_law_at ?xmg_law_other_way ?xmg_law_free ?xmg_law_spoiled ?xmg_law_lies ?xmg_law_attributes ?xmg_law_alike ?xmg_law ?if_Table_in_order ?if_Table_init ?if_Table_getitem ?if_Table_len ?if_Pattern_init ?if_Pattern_eq ?l_BadKind_init ?l_MORE_COLUMNS ?l_FIXED_COLUMNS ?l_FIXED_ROWS ?l_is_name ?l_first_bad_name ?l_first_stray ?l_check_columns ?l_check_rows ?l_Table_in_order ?l_Table_init ?l_Table_getitem ?l_Table_len ?l_standard_width ?l_standard_rows ?l_Pattern_init ?l_Pattern_eq ?l_is_alike ?l_lies_in ?l_law_cell ?l_law_pool ?l_law_names ?l_law_order ?l_law_row ?l_law_is_number ?l_law_standard ?l_law_width ?l_law_is_pattern ?l_law_table_rows ?l_law_at ?l_law_other_way ?l_law_free ?l_law_spoiled ?l_law_lies ?l_law_attributes ?l_law_alike ?l_law ?lx_BadKind_init ?lq_BadKind_init ?ki_MORE_COLUMNS ?ki_FIXED_COLUMNS ?ki_FIXED_ROWS ?wl_w4 ?wv_w4 ?wl_w5 ?wv_w5 ?wl_w40 ?wv_w40 ?wl_w41 ?wv_w41 ?wl_w42 ?wv_w42 ?wl_w43 ?wv_w43 ?wl_w50 ?wv_w50 ?wl_w51 ?wv_w51 ?wl_w52 ?wv_w52 ?wl_w53 ?wv_w53 ?c_BadKind_init ?c_is_name ?k_is_name ?c_first_bad_name ?k_first_bad_name ?c_first_stray ?k_first_stray ?c_check_columns ?k_check_columns ?c_check_rows ?k_check_rows ?c_Table_in_order ?k_Table_in_order ?c_Table_init ?k_Table_init ?lt_Table_init ?c_Table_getitem ?k_Table_getitem ?c_Table_len ?k_Table_len ?c_standard_width ?k_standard_width ?c_standard_rows ?k_standard_rows ?c_Pattern_init ?k_Pattern_init ?c_Pattern_eq ?k_Pattern_eq ?c_is_alike ?k_is_alike ?c_lies_in ?k_lies_in ?c_law_cell ?k_law_cell ?c_law_pool ?k_law_pool ?c_law_names ?k_law_names ?c_law_order ?k_law_order ?c_law_row ?k_law_row ?c_law_is_number ?k_law_is_number ?c_law_standard ?k_law_standard ?c_law_width ?k_law_width ?c_law_is_pattern ?k_law_is_pattern ?c_law_table_rows ?k_law_table_rows ?c_law_at ?k_law_at ?c_law_other_way ?k_law_other_way ?c_law_free ?k_law_free ?c_law_spoiled ?k_law_spoiled ?c_law_lies ?k_law_lies ?c_law_attributes ?k_law_attributes ?c_law_alike ?k_law_alike ?c_law ?k_law ?pgcl_Table ?hdcl_Table ?pocl_Table ?sacl_Table ?xsf_Table ?kmk_Table ?kkmk_Table ?xc1_Table ?xc3_Table ?xn_Table_columns ?xn_Table_rows ?pgcl_Pattern ?hdcl_Pattern ?pocl_Pattern ?sacl_Pattern ?xsf_Pattern ?kmk_Pattern ?kkmk_Pattern ?xc1_Pattern ?xc3_Pattern ?xn_Pattern_kind ?xn_Pattern_size ?xn_Pattern_rows ?xn_Pattern_columns ?xc2 ?xc4 ?xtp_BadKind ?xic_BadKind ?g1SC_BadKind ?g2SC_BadKind ?ksSC_BadKind ?g4SC_BadKind ?g5SC_BadKind ?rfSC_BadKind ?kxSC_BadKind ?g6SC_BadKind ?rv_BadKind_init ?rg_BadKind_init ?xti_BadKind ?xxn_BadKind_kind ?xxn_BadKind_size ?xk_BadKind ?xbp_BadKind ?xsv_BadKind ?xss_BadKind ?xe1_BadKind ?xe2_BadKind ?xe3_BadKind ?xe4_BadKind ?xe5_BadKind ?r1cr_Table ?r2cr_Table ?xcv_Table_MOST_COLUMNS ?xcv_Table_MOST_ROWS ?xn_abs ?xn_int ?xn_isinstance ?xn_range ?xn_len ?xn_str ?xn_tuple ?xn_list ?xn_ValueError ?xn_all ?xn_min ?xn_max ?xn_enumerate ?xn_bool ?xn_zip ?lw_MORE_COLUMNS ?lw_FIXED_COLUMNS ?lw_FIXED_ROWS ?wz_w4 ?wz_w5 ?wz_w40 ?wz_w41 ?wz_w42 ?wz_w43 ?wz_w50 ?wz_w51 ?wz_w52 ?wz_w53
    (case xmg_Table => k_is)
    (case xmg_Pattern => k_is)
    (case xmg_BadKind => k_is)
    (case am_BadKind_init => k_is)
    (case xmg_LONGEST_NAME => k_is)
    (case xmg_MORE_COLUMNS => k_is)
    (case xmg_FIXED_COLUMNS => k_is)
    (case xmg_FIXED_ROWS => k_is)
    (case xmg_is_name => k_is)
    (case xmg_first_bad_name => k_is)
    (case xmg_first_stray => k_is)
    (case xmg_check_columns => k_is)
    (case xmg_check_rows => k_is)
    (case am_Table_in_order => k_is)
    (case am_Table_init => k_is)
    (case am_Table_getitem => k_is)
    (case am_Table_len => k_is)
    (case xmg_standard_width => k_is)
    (case xmg_standard_rows => k_is)
    (case am_Pattern_init => k_is)
    (case am_Pattern_eq => k_is)
    (case xmg_is_alike => k_is)
    (case xmg_lies_in => k_is)
    (case xmg_law_cell => k_is)
    (case xmg_law_pool => k_is)
    (case xmg_law_names => k_is)
    (case xmg_law_order => k_is)
    (case xmg_law_row => k_is)
    (case xmg_law_is_number => k_is)
    (case xmg_law_standard => k_is)
    (case xmg_law_width => k_is)
    (case xmg_law_is_pattern => k_is)
    (case xmg_law_table_rows => k_is)
    (case xmg_law_at => k_is)
    (case xmg_law_other_way => k_is)
    (case xmg_law_free => k_is)
    (case xmg_law_spoiled => k_is)
    (case xmg_law_lies => k_is)
    (case xmg_law_attributes => k_is)
    (case xmg_law_alike => k_is)
    (case xmg_law => k_is)
    (case if_Table_in_order => k_is)
    (case if_Table_init => k_is)
    (case if_Table_getitem => k_is)
    (case if_Table_len => k_is)
    (case if_Pattern_init => k_is)
    (case if_Pattern_eq => k_is)
    (case l_BadKind_init => k_is)
    (case l_MORE_COLUMNS => k_is)
    (case l_FIXED_COLUMNS => k_is)
    (case l_FIXED_ROWS => k_is)
    (case l_is_name => k_is)
    (case l_first_bad_name => k_is)
    (case l_first_stray => k_is)
    (case l_check_columns => k_is)
    (case l_check_rows => k_is)
    (case l_Table_in_order => k_is)
    (case l_Table_init => k_is)
    (case l_Table_getitem => k_is)
    (case l_Table_len => k_is)
    (case l_standard_width => k_is)
    (case l_standard_rows => k_is)
    (case l_Pattern_init => k_is)
    (case l_Pattern_eq => k_is)
    (case l_is_alike => k_is)
    (case l_lies_in => k_is)
    (case l_law_cell => k_is)
    (case l_law_pool => k_is)
    (case l_law_names => k_is)
    (case l_law_order => k_is)
    (case l_law_row => k_is)
    (case l_law_is_number => k_is)
    (case l_law_standard => k_is)
    (case l_law_width => k_is)
    (case l_law_is_pattern => k_is)
    (case l_law_table_rows => k_is)
    (case l_law_at => k_is)
    (case l_law_other_way => k_is)
    (case l_law_free => k_is)
    (case l_law_spoiled => k_is)
    (case l_law_lies => k_is)
    (case l_law_attributes => k_is)
    (case l_law_alike => k_is)
    (case l_law => k_is)
    (case lx_BadKind_init => k_is)
    (case lq_BadKind_init => k_is)
    (case ki_MORE_COLUMNS => exact ⟨⟨⟨_, rfl⟩, by first | rfl | decide +kernel, ⟨_, rfl⟩⟩, ⟨⟨⟨_, rfl⟩, by first | rfl | decide +kernel, ⟨_, rfl⟩⟩, ⟨⟨⟨_, rfl⟩, by first | rfl | decide +kernel, ⟨_, rfl⟩⟩, trivial⟩⟩⟩)
    (case ki_FIXED_COLUMNS => exact ⟨⟨⟨_, rfl⟩, by first | rfl | decide +kernel, ⟨_, rfl⟩⟩, ⟨⟨⟨_, rfl⟩, by first | rfl | decide +kernel, ⟨_, rfl⟩⟩, trivial⟩⟩)
    (case ki_FIXED_ROWS => exact ⟨⟨⟨_, rfl⟩, by first | rfl | decide +kernel, rfl⟩, ⟨⟨⟨_, rfl⟩, by first | rfl | decide +kernel, rfl⟩, trivial⟩⟩)
    (case wl_w4 => k_is)
    (case wv_w4 => exact .cons rfl (.cons rfl (.cons rfl (.cons rfl (.nil)))))
    (case wl_w5 => k_is)
    (case wv_w5 => exact .cons rfl (.cons rfl (.cons rfl (.cons rfl (.nil)))))
    (case wl_w40 => k_is)
    (case wv_w40 => exact .cons ⟨_, rfl⟩ (.cons ⟨_, rfl⟩ (.nil)))
    (case wl_w41 => k_is)
    (case wv_w41 => exact .cons ⟨_, rfl⟩ (.cons ⟨_, rfl⟩ (.nil)))
    (case wl_w42 => k_is)
    (case wv_w42 => exact .cons ⟨_, rfl⟩ (.cons ⟨_, rfl⟩ (.nil)))
    (case wl_w43 => k_is)
    (case wv_w43 => exact .cons ⟨_, rfl⟩ (.cons ⟨_, rfl⟩ (.cons ⟨_, rfl⟩ (.nil))))
    (case wl_w50 => k_is)
    (case wv_w50 => exact .cons ⟨_, rfl⟩ (.cons ⟨_, rfl⟩ (.nil)))
    (case wl_w51 => k_is)
    (case wv_w51 => exact .cons ⟨_, rfl⟩ (.cons ⟨_, rfl⟩ (.nil)))
    (case wl_w52 => k_is)
    (case wv_w52 => exact .cons ⟨_, rfl⟩ (.cons ⟨_, rfl⟩ (.cons ⟨_, rfl⟩ (.cons ⟨_, rfl⟩ (.nil)))))
    (case wl_w53 => k_is)
    (case wv_w53 => exact .cons ⟨_, rfl⟩ (.cons ⟨_, rfl⟩ (.cons ⟨_, rfl⟩ (.nil))))
    (case c_BadKind_init => k_is)
    (case c_is_name => k_is)
    (case k_is_name => k_is)
    (case c_first_bad_name => k_is)
    (case k_first_bad_name => k_is)
    (case c_first_stray => k_is)
    (case k_first_stray => k_is)
    (case c_check_columns => k_is)
    (case k_check_columns => k_is)
    (case c_check_rows => k_is)
    (case k_check_rows => k_is)
    (case c_Table_in_order => k_is)
    (case k_Table_in_order => k_is)
    (case c_Table_init => k_is)
    (case k_Table_init => k_is)
    (case lt_Table_init => k_is)
    (case c_Table_getitem => k_is)
    (case k_Table_getitem => k_is)
    (case c_Table_len => k_is)
    (case k_Table_len => k_is)
    (case c_standard_width => k_is)
    (case k_standard_width => k_is)
    (case c_standard_rows => k_is)
    (case k_standard_rows => k_is)
    (case c_Pattern_init => k_is)
    (case k_Pattern_init => k_is)
    (case c_Pattern_eq => k_is)
    (case k_Pattern_eq => k_is)
    (case c_is_alike => k_is)
    (case k_is_alike => k_is)
    (case c_lies_in => k_is)
    (case k_lies_in => k_is)
    (case c_law_cell => k_is)
    (case k_law_cell => k_is)
    (case c_law_pool => k_is)
    (case k_law_pool => k_is)
    (case c_law_names => k_is)
    (case k_law_names => k_is)
    (case c_law_order => k_is)
    (case k_law_order => k_is)
    (case c_law_row => k_is)
    (case k_law_row => k_is)
    (case c_law_is_number => k_is)
    (case k_law_is_number => k_is)
    (case c_law_standard => k_is)
    (case k_law_standard => k_is)
    (case c_law_width => k_is)
    (case k_law_width => k_is)
    (case c_law_is_pattern => k_is)
    (case k_law_is_pattern => k_is)
    (case c_law_table_rows => k_is)
    (case k_law_table_rows => k_is)
    (case c_law_at => k_is)
    (case k_law_at => k_is)
    (case c_law_other_way => k_is)
    (case k_law_other_way => k_is)
    (case c_law_free => k_is)
    (case k_law_free => k_is)
    (case c_law_spoiled => k_is)
    (case k_law_spoiled => k_is)
    (case c_law_lies => k_is)
    (case k_law_lies => k_is)
    (case c_law_attributes => k_is)
    (case k_law_attributes => k_is)
    (case c_law_alike => k_is)
    (case k_law_alike => k_is)
    (case c_law => k_is)
    (case k_law => k_is)
    (case pgcl_Table => k_is)
    (case hdcl_Table => k_is)
    (case pocl_Table => k_is)
    (case sacl_Table => k_is)
    (case xsf_Table => k_is)
    (case kmk_Table => k_is)
    (case kkmk_Table => k_is)
    (case xc1_Table => k_is)
    (case xc3_Table => k_is)
    (case xn_Table_columns => k_is)
    (case xn_Table_rows => k_is)
    (case pgcl_Pattern => k_is)
    (case hdcl_Pattern => k_is)
    (case pocl_Pattern => k_is)
    (case sacl_Pattern => k_is)
    (case xsf_Pattern => k_is)
    (case kmk_Pattern => k_is)
    (case kkmk_Pattern => k_is)
    (case xc1_Pattern => k_is)
    (case xc3_Pattern => k_is)
    (case xn_Pattern_kind => k_is)
    (case xn_Pattern_size => k_is)
    (case xn_Pattern_rows => k_is)
    (case xn_Pattern_columns => k_is)
    (case xc2 => k_is)
    (case xc4 => k_is)
    (case xtp_BadKind => k_is)
    (case xic_BadKind => k_is)
    (case g1SC_BadKind => k_is)
    (case g2SC_BadKind => k_is)
    (case ksSC_BadKind => ks_is)
    (case g4SC_BadKind => k_is)
    (case g5SC_BadKind => k_is)
    (case rfSC_BadKind => first | rfl | decide +kernel)
    (case kxSC_BadKind => kx_is)
    (case g6SC_BadKind => k_is)
    (case rv_BadKind_init => first | rfl | decide +kernel)
    (case rg_BadKind_init => first | rfl | decide +kernel)
    (case xti_BadKind => k_is)
    (case xxn_BadKind_kind => k_is)
    (case xxn_BadKind_size => k_is)
    (case xk_BadKind => k_is)
    (case xbp_BadKind => k_is)
    (case xsv_BadKind => k_is)
    (case xss_BadKind => k_is)
    (case xe1_BadKind => k_is)
    (case xe2_BadKind => k_is)
    (case xe3_BadKind => k_is)
    (case xe4_BadKind => k_is)
    (case xe5_BadKind => k_is)
    (case r1cr_Table => k_is)
    (case r2cr_Table => k_is)
    (case xcv_Table_MOST_COLUMNS => k_is)
    (case xcv_Table_MOST_ROWS => k_is)
    (case xn_abs => k_is)
    (case xn_int => k_is)
    (case xn_isinstance => k_is)
    (case xn_range => k_is)
    (case xn_len => k_is)
    (case xn_str => k_is)
    (case xn_tuple => k_is)
    (case xn_list => k_is)
    (case xn_ValueError => k_is)
    (case xn_all => k_is)
    (case xn_min => k_is)
    (case xn_max => k_is)
    (case xn_enumerate => k_is)
    (case xn_bool => k_is)
    (case xn_zip => k_is)
    (case lw_MORE_COLUMNS => first | rfl | decide +kernel)
    (case lw_FIXED_COLUMNS => first | rfl | decide +kernel)
    (case lw_FIXED_ROWS => first | rfl | decide +kernel)
    (case wz_w4 => first | rfl | decide +kernel)
    (case wz_w5 => first | rfl | decide +kernel)
    (case wz_w40 => first | rfl | decide +kernel)
    (case wz_w41 => first | rfl | decide +kernel)
    (case wz_w42 => first | rfl | decide +kernel)
    (case wz_w43 => first | rfl | decide +kernel)
    (case wz_w50 => first | rfl | decide +kernel)
    (case wz_w51 => first | rfl | decide +kernel)
    (case wz_w52 => first | rfl | decide +kernel)
    (case wz_w53 => first | rfl | decide +kernel)
#print axioms PySem.Challenge.cw_unbrokenrows_k31_patterns_that_lie_there_holds
