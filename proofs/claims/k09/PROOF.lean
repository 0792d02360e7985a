import PyProof.Rows.All
import Wide.All
import OpenK.AllK
import Wide.FinOn
import HandS.Base
import HandS.Call
import HandS.List
import HandS.OwnEq
import HandS.Ends
import HandS.ClsMeth
import HandS.ExcOwn
import HandS.ExcIs
import HandS.TryOnly
import KE.KExcSuper
import HandS.ExcInit
import HandS.ExcField
import HandS.Words
import HandS.SortKw
import HandS.IterNext
import KE.DataMinMax
import KE.KExcIs
import KE.KExcLine
import HandS.OwnIter
import HandS.Walk
import KE.GoesMore
import HandS.SetFor
import KE.SortData
import HandS.SortRule
import HandS.IsInst
import HandS.WideBits
import HandS.Exc
import HandS.TryMany
import HandS.Style
import HandS.Strs
import HandS.Deep
import PyProof.StrLawsChain
import HandS.Text
import PyProof.Rows.StrCut
import HandS.Wide
import HandS.TupAny
import HandS.Star
import HandS.More
import HandS.Defaults
import HandS.Codes
import HandS.ForMost
import HandS.FStr
import HandS.StrMore
import HandS.Replace
import HandS.WordsExc
import PyProof.StrBlock2
import PySem.Challenge.RW_unbrokenrows_k09_rounds
set_option Elab.async false
set_option linter.all false
set_option maxRecDepth 100000
namespace My
open PySem PySem.Spec PyProof.Rows L2
section
variable {X : Cx} {CX : CXT} {n : Nat} {f C : Addr} {fd : FuncData} {ps : List Str} {sp : Sp} {E : XK}
/-- a promise, called anywhere in the running body -/
theorem call_at (G0 : FnOk X.prog X.w X.K X.mg X.base CX n f fd ps sp) (hb : Binds X.K fd ps []) (hx : Passes CX X E) {A : Around} (hr : Room n A) (hA : A.frames = X.A.frames)
    {pins : List (Addr × Obj)} {s : Shared} {σ : L2.St} {H : Hp} (I : Inv X pins σ H s) {vs : List V} {us : List Value} (r : Vals vs us) {Q : VK} (h : sp vs H Q E) :
    wpAny (model X.prog X.w) A (call (.ref f) us) (EP X pins σ Q) X.xe s := by
  have e0 : Env0 X.prog X.w X.K X.mg X.base A X.stack s H := by
    have e := I.env0
    exact ⟨by rw [hA]; exact e.frames, e.mod, e.bs, e.bsz, e.funs, e.frf, e.hok, e.bare⟩
  have hl := G0.len _ _ _ _ h
  refine wpAny_call (codeAny_mono (G0.run A X.stack s H ⟨us, []⟩ us vs Q E hr e0 (by
    have := hb s us I.kIn (by rw [List.append_nil, ← r.length]; exact hl)
    simpa using this) r h) fun r s' hq => ?_)
  cases r with
  | error e => exact hx pins σ H s e s' I hq
  | ok fl =>
    cases fl with
    | ret w => exact I.after hq
    | next => exact False.elim hq
    | brk => exact False.elim hq
    | cont => exact False.elim hq
theorem relV_noNI {v : V} {u : Value} (r : RelV v u) : u ≠ .notImplemented := by
  intro e
  subst e
  cases v <;> first | (cases r; done) | (obtain ⟨_, z⟩ := r; cases z)
theorem cmpBack_of {pins : List (Addr × Obj)} {σ : L2.St} {Q : VK} {v : Value} {s : Shared} (h : EP X pins σ Q v s) : PySem.W.CmpBack (EP X pins σ Q) v s := by
  obtain ⟨x, H', I', r, q⟩ := id h
  cases v <;> first | exact h | exact absurd rfl (relV_noNI r)
/-- x op y, both instances of the class at C, by its own method -/
def rOwn2 (C : Addr) (sp : Sp) (E : XK) : R2 := fun x y H Q => ∃ a b dx dy fs gs, x = .ref a ∧ y = .ref b ∧ H a = some (.ins C dx fs) ∧ H b = some (.ins C dy gs) ∧ sp [.ref a, .ref b] H Q E
theorem op_own2 {op : Operator} (G0 : FnOk X.prog X.w X.K X.mg X.base CX n f fd ps sp) (hb : Binds X.K fd ps []) (hx : Passes CX X E) (hr : Room n X.A)
    (hs : PySem.W.findIn X.K (.ref C) (PySem.dunder op.info.2) = some (some (.ref f))) (hf : PySem.W.isFn X.K (.ref f) = true) (hc : PySem.W.selfFirst X.K C = true) : OpR X (binaryOp op) (rOwn2 C sp E) := by
  intro pins s σ H x y v u Q I rx ry h
  obtain ⟨a, b, dx, dy, fs, gs, rfl, rfl, ha, hb', q⟩ := h
  cases rx
  cases ry
  obtain ⟨mA, J, _⟩ := ins_get I.hok ha
  obtain ⟨mB, J', _⟩ := ins_get I.hok hb'
  obtain ⟨od, J, _⟩ := J.look
  obtain ⟨od', J', _⟩ := J'.look
  obtain ⟨m, hF⟩ := I.fr
  refine PySem.W.binop_K hF I.ok.mod.kin J J'.type hc hs hf ?_
  exact wpAny_mono (call_at G0 hb hx hr rfl I (vs := [.ref a, .ref b]) (.cons rfl (.cons rfl .nil)) q) (fun v s' z => cmpBack_of z) fun _ _ z => z
/-- x op k, x such an instance, k a whole number -/
def rOwnI (C : Addr) (sp : Sp) (E : XK) : R2 := fun x y H Q => ∃ a dx fs k, x = .ref a ∧ y = .int k ∧ H a = some (.ins C dx fs) ∧ sp [.ref a, .int k] H Q E
theorem op_ownI {op : Operator} {fo ro rc : Option Value} (G0 : FnOk X.prog X.w X.K X.mg X.base CX n f fd ps sp) (hb : Binds X.K fd ps []) (hx : Passes CX X E) (hr : Room n X.A)
    (hs : PySem.W.findIn X.K (.ref C) (PySem.dunder op.info.2) = some (some (.ref f))) (hf : PySem.W.isFn X.K (.ref f) = true) (hc : PySem.W.selfFirst X.K C = true)
    (hrr : PySem.W.findIn X.K (.ref C) (dunderR op.info.2) = some rc) (hp : rc = none ∨ ∃ g : Addr, rc = some (.ref g))
    (h1 : PySem.W.findIn X.K (.type "int") (PySem.dunder op.info.2) = some fo) (h2 : PySem.W.findIn X.K (.type "int") (dunderR op.info.2) = some ro) (hsub : PySem.W.subIn X.K (.type "int") (.ref C) = some false) :
    OpR X (binaryOp op) (rOwnI C sp E) := by
  intro pins s σ H x y v u Q I rx ry h
  obtain ⟨a, dx, fs, k, rfl, rfl, ha, q⟩ := h
  cases rx
  obtain ⟨t, rfl⟩ := ry
  obtain ⟨mA, J, _⟩ := ins_get I.hok ha
  obtain ⟨od, J, _⟩ := J.look
  obtain ⟨m, hF⟩ := I.fr
  refine PySem.W.ksp_binT (T := "int") hF I.ok.mod.kin J rfl hc hs hf hrr hp h1 h2 hsub ?_
  exact wpAny_mono (call_at G0 hb hx hr rfl I (vs := [.ref a, .int k]) (.cons rfl (.cons ⟨_, rfl⟩ .nil)) q) (fun v s' z => cmpBack_of z) fun _ _ z => z
/-- one-place operators of such an instance -/
def rOwn1 (C : Addr) (sp : Sp) (E : XK) : V → Hp → VK → Prop := fun x H Q => ∃ a dx fs, x = .ref a ∧ H a = some (.ins C dx fs) ∧ sp [.ref a] H Q E
theorem un_own (G0 : FnOk X.prog X.w X.K X.mg X.base CX n f fd ps sp) (hb : Binds X.K fd ps []) (hx : Passes CX X E) (hr : Room n X.A)
    (hs : PySem.W.findIn X.K (.ref C) "__neg__" = some (some (.ref f))) (hf : PySem.W.isFn X.K (.ref f) = true) : UnR X (unaryOp .USub) (rOwn1 C sp E) := by
  intro pins s σ H x v Q I rx h
  obtain ⟨a, dx, fs, rfl, ha, q⟩ := h
  cases rx
  obtain ⟨mA, J, _⟩ := ins_get I.hok ha
  obtain ⟨od, J, _⟩ := J.look
  obtain ⟨m, hF⟩ := I.fr
  exact PySem.W.ksp_neg hF I.ok.mod.kin J hs hf (call_at G0 hb hx hr rfl I (vs := [.ref a]) (.cons rfl .nil) q)
/-- abs(x), bool(x) of such an instance -/
theorem call_absOwn (G0 : FnOk X.prog X.w X.K X.mg X.base CX n f fd ps sp) (hb : Binds X.K fd ps []) (hx : Passes CX X E) (hr : Room (n + 1) X.A)
    (hs : PySem.W.findIn X.K (.ref C) "__abs__" = some (some (.ref f))) (hf : PySem.W.isFn X.K (.ref f) = true) :
    CallR X (.builtin "abs") (fun xs H Q => ∃ a dx fs, xs = [V.ref a] ∧ H a = some (.ins C dx fs) ∧ sp [.ref a] H Q E) := by
  intro pins s σ H xs us Q I r h
  obtain ⟨a, dx, fs, rfl, ha, q⟩ := h
  obtain ⟨u, rfl, r1⟩ := vals1 r
  cases r1
  obtain ⟨mA, J, _⟩ := ins_get I.hok ha
  obtain ⟨od, J, _⟩ := J.look
  refine PySem.Calls.call_function_entry kind_abs plain_abs entry_abs (args_abs _) ?_
  unfold Builtin.«abs»
  refine wpAny_bind (m := oneArg "abs" _) (wpAny_pure ?_)
  refine wpAny_bind (m := callSpecial? (.ref a) (Str.ofString "__abs__")) (PySem.W.special_fn I.kIn J hs (beq_iff_eq.mp hf) ?_)
  refine wpAny_mono (call_at G0 hb hx (A := X.A.in1) hr.in1 rfl I (vs := [.ref a]) (.cons rfl .nil) q) (fun v s' z => ?_) fun _ _ z => z
  exact wpAny_pure ⟨_, rfl, z⟩
theorem meets_bool_own (prog : Program) (w : World) (l : Addr) : MeetsIn prog w (Builtin.«bool.__new__» ⟨[.type "bool", .ref l], []⟩)
    (fun A R s => wpAny (model prog w) A.in1 (truthy (.ref l)) (fun b s' => R (.ok (.ret (.bool b))) s') (fun e s' => R (.error e) s') s) := by
  intro A R s hs
  have f1 := F.conv_sub_bool
  unfold Builtin.«bool.__new__»
  dsimp only
  repeat (any_goals (first | assumption | (with_reducible refine wpAny_mono hs (fun b s' z => ?_) (fun _ _ z => z)) | wp_step))
  all_goals first | exact z | skip
theorem call_boolOwn (G0 : FnOk X.prog X.w X.K X.mg X.base CX n f fd ps sp) (hb : Binds X.K fd ps []) (hx : Passes CX X E) (hr : Room (n + 2) X.A)
    (hs : PySem.W.findIn X.K (.ref C) "__bool__" = some (some (.ref f))) (hf : PySem.W.isFn X.K (.ref f) = true) :
    CallR X (.type "bool") (fun xs H Q => ∃ a dx fs, xs = [V.ref a] ∧ H a = some (.ins C dx fs) ∧ sp [.ref a] H (fun v H' => ∃ k, v = .bl k ∧ Q v H') E) := by
  intro pins s σ H xs us Q I r h
  obtain ⟨a, dx, fs, rfl, ha, q⟩ := h
  obtain ⟨u, rfl, r1⟩ := vals1 r
  cases r1
  obtain ⟨mA, J, _⟩ := ins_get I.hok ha
  obtain ⟨od, J, _⟩ := J.look
  obtain ⟨m, hF⟩ := I.fr
  refine callType_newIn F.called_bool F.newNe_bool (F.typeCall_bool_1 _) (F.newCall_bool_1 _) (fun obj => F.args_object_init_2 obj _) F.entry_bool_new (meets_bool_own X.prog X.w a) ?_
  refine PySem.W.truthy_K hF I.ok.mod.kin J hs hf ?_
  refine wpAny_mono (call_at G0 hb hx (A := X.A.in1.in1) hr.in1.in1 rfl I (vs := [.ref a]) (.cons rfl .nil) q) (fun v s' z => ?_) fun _ _ z => z
  obtain ⟨x, H', I', r, k, rfl, q'⟩ := z
  cases r
  exact ⟨PySem.typeIs_bool _ _, .bl k, H', I', rfl, q'⟩
/-- == of two such instances -/
def rOwnEq (C : Addr) (sp : Sp) (E : XK) : R2 := fun x y H Q => ∃ a b dx dy fs gs, x = .ref a ∧ y = .ref b ∧ H a = some (.ins C dx fs) ∧ H b = some (.ins C dy gs) ∧ sp [.ref a, .ref b] H Q E
theorem op_eqOwn (G0 : FnOk X.prog X.w X.K X.mg X.base CX n f fd ps sp) (hb : Binds X.K fd ps []) (hx : Passes CX X E) (hr : Room n X.A)
    (hs : PySem.W.findIn X.K (.ref C) "__eq__" = some (some (.ref f))) (hf : PySem.W.isFn X.K (.ref f) = true) : OpR X (compareOp .Eq) (rOwnEq C sp E) := by
  intro pins s σ H x y v u Q I rx ry h
  obtain ⟨a, b, dx, dy, fs, gs, rfl, rfl, ha, hb', q⟩ := h
  cases rx
  cases ry
  obtain ⟨mA, J, _⟩ := ins_get I.hok ha
  obtain ⟨mB, J', _⟩ := ins_get I.hok hb'
  obtain ⟨od, J, _⟩ := J.look
  obtain ⟨od', J', _⟩ := J'.look
  obtain ⟨m, hF⟩ := I.fr
  show wpAny (model X.prog X.w) X.A (richCompare .Eq (.ref a) (.ref b)) (EP X pins σ Q) X.xe s
  refine PySem.W.cmp_K (op := .Eq) (tb := .ref C) hr.units0 hF I.ok.mod.kin J J'.type (by simp [PySem.W.notFirst]) hs hf ?_
  exact wpAny_mono (call_at G0 hb hx hr rfl I (vs := [.ref a, .ref b]) (.cons rfl (.cons rfl .nil)) q) (fun v s' z => cmpBack_of z) fun _ _ z => z
end
end My
set_option maxRecDepth 100000
namespace My
open PySem PySem.Spec PyProof.Rows L2
open ClX (CRead)
section
variable {X : Cx} {CX : CXT} {n k : Nat} {f C : Addr} {fd : FuncData} {ps : List Str} {sp : Sp} {E : XK}
/-- str(x) of an instance with its own __str__ -/
theorem call_strOwn (G0 : FnOk X.prog X.w X.K X.mg X.base CX n f fd ps sp) (hb : Binds X.K fd ps []) (hx : Passes CX X E) (hr : Room (n + 2) X.A)
    (hs : PySem.W.findIn X.K (.ref C) "__str__" = some (some (.ref f))) (hf : PySem.W.isFn X.K (.ref f) = true) :
    CallR X (.type "str") (fun xs H Q => ∃ a dx fs, xs = [V.ref a] ∧ H a = some (.ins C dx fs) ∧ sp [.ref a] H (fun v H' => ∃ z, v = .str z ∧ Q v H') E) := by
  intro pins s σ H xs us Q I r h
  obtain ⟨a, dx, fs, rfl, ha, q⟩ := h
  obtain ⟨u, rfl, r1⟩ := vals1 r
  cases r1
  obtain ⟨mA, J, _⟩ := ins_get I.hok ha
  obtain ⟨od, J, _⟩ := J.look
  refine PySem.W.kso_call (hr.in1.in1.units0) I.kIn J hs hf ?_
  refine wpAny_mono (call_at G0 hb hx (A := X.A.in1.in1) hr.in1.in1 rfl I (vs := [.ref a]) (.cons rfl .nil) q) (fun v s' z => ?_) fun _ _ z => z
  obtain ⟨x, H', I', r, y, rfl, q'⟩ := z
  obtain ⟨t, rfl⟩ := r
  exact ⟨.str y, H', I', ⟨_, rfl⟩, q'⟩
/-- C.m is a staticmethod: its record at p, its def at g -/
structure SMet (K : PySem.W.Frag) (C : Addr) (mc : Value) (m : Str) (p g : Addr) : Prop where
  at_ : PySem.W.findCls K (.ref C) mc m = some (.get (.builtin "staticmethod.__get__") (.ref p) .none (.ref C))
  rc : ∃ rest, PySem.W.recIn K p "staticmethod" = some (.ref g :: rest)
  kp : PySem.W.keepIn K (.ref g) = true
theorem getmethsm_ok {pins : List (Addr × Obj)} {σ : L2.St} {H : Hp} {s : Shared} {p g : Addr} {mc : Value} {m : Str} {A : Around} {E : Value → Shared → Prop} {pl : Sem Bool} {Q : Value × List Value → Shared → Prop} (I : Inv X pins σ H s) (r : CRead X.K C mc) (k : SMet X.K C mc m p g)
    (h : ∀ s', Inv X pins σ H s' → Q (.ref g, []) s') : wpAny (model X.prog X.w) A (getMethod (.ref C) m pl) Q E s := by
  refine PySem.W.method_cls I.kIn r.ga ?_
  obtain ⟨rest, hp⟩ := k.rc
  refine PySem.W.cls_bind I.kIn r.rd k.at_ ?_
  refine wpAny_call (PySem.W.sm_get (s := { s with toks := s.toks + 1 }) I.kIn hp (PySem.W.handed_on rfl ?_))
  exact h _ (I.tok _)
/-- C.m(e, ..), m a staticmethod of the class at C -/
def tSMeth (C : Addr) (sp : Sp) (dvs : List V) (E : XK) (ta : TE) (t : TA) : TE := fun σ H Q => ta σ H fun x H1 => x = .ref C ∧ t σ H1 fun vs H2 => sp (vs ++ dvs) H2 Q E
theorem pe_smeth {o e : Expr} {es : List Expr} {p g : Addr} {mc : Value} {m : Str} {pos apos : Pos} {ta : TE} {t : TA} {pl : Sem Bool} {ds : List Value} {dvs : List V} (he : PE X o ta) (r : CRead X.K C mc) (c : SMet X.K C mc m p g)
    (G0 : FnOk X.prog X.w X.K X.mg X.base CX k g fd ps sp) (hr : Room k X.A) (hb : Binds X.K fd ps ds) (hd : Vals dvs ds) (hx : Passes CX X E) (ha : PA X (e :: es) t)
    (hst : starEach (e :: es) X.env = (false, eval e X.env) :: starEach es X.env := by rfl) (hpl : (backTo pos (starEach es X.env)).any (·.1) = false := by rfl)
    (ht : eval (.Call (.Attribute o m apos) (e :: es) [] pos) X.env = (do
      let ov ← eval o X.env
      standAt apos.atName
      let (f, first) ← holding [ov] (getMethod ov m pl)
      callWith pos f first (backTo pos (starEach (e :: es) X.env)) (backToKw pos (keywordEach [] X.env))) := by rfl) :
    PE X (.Call (.Attribute o m apos) (e :: es) [] pos) (tSMeth C sp dvs E ta t) := by
  refine ⟨fun pins s σ H Q I h => ?_⟩
  refine PySem.W.methodCall_KW (pl := pl) (thn (he.run pins s σ H _ I h) fun u s1 ⟨x, H1, I1, rx, ex, q⟩ => ?_) ht
  subst ex
  obtain rfl : u = Value.ref C := rx
  refine getmethsm_ok I1 r c fun s2 I2 => ?_
  refine PySem.W.callWith_K (h₀ := X.base) I2.ok.mod.kin c.kp (thn (ha.run pos pins s2 σ H1 _ I2 q) fun us s3 ⟨vs, H2, I3, r3, q3⟩ => ⟨I3.kIn, ?_⟩) hst hpl
  exact run_fn G0 hr hb hd hx I3 r3 q3
/-- C(e, ..) where what its __init__ raises is wished for -/
def tMakeS (C : Addr) (sp : Sp) (E : L2.St → XK) (t : TA) : TE := fun σ H Q => t σ H fun vs H1 => ∀ x dx, H1 x = none → H1 dx = none → dx ≠ x →
  sp (.ref x :: vs) (upd (upd H1 dx (.own x)) x (.ins C dx [])) (fun v H2 => v = .non ∧ Q (.ref x) H2) (E σ)
theorem run_makeS {E : L2.St → XK} {pins : List (Addr × Obj)} {σ : L2.St} {H : Hp} {s : Shared} {Q : VK} {us : List Value} {vs : List V} (M : Mk X.K C f) (G0 : FnOk X.prog X.w X.K X.mg X.base CX k f fd ps sp) (hr : Room (k + 1) X.A) (hb : Binds X.K fd ps [])
    (hx : PassesAt CX X σ (E σ)) (I : Inv X pins σ H s) (r : Vals vs us)
    (h : ∀ x dx, H x = none → H dx = none → dx ≠ x → sp (.ref x :: vs) (upd (upd H dx (.own x)) x (.ins C dx [])) (fun v H2 => v = .non ∧ Q (.ref x) H2) (E σ)) :
    wpAny (model X.prog X.w) X.A (call (.ref C) us) (EP X pins σ Q) X.xe s := by
  have hq := h (s.heap.objs.size + 1) s.heap.objs.size (I.hok.fresh (Nat.le_succ _)) (I.hok.fresh (Nat.le_refl _)) (Nat.ne_of_lt (Nat.lt_succ_self _))
  have I2 := Inv.made (C := C) I
  have r2 : Vals (V.ref (s.heap.objs.size + 1) :: vs) (Value.ref (s.heap.objs.size + 1) :: us) := .cons rfl r
  have hl : (Value.ref (s.heap.objs.size + 1) :: us).length = ps.length := by
    have e := r2.length
    rw [G0.len _ _ _ _ hq] at e
    exact e.symm
  have b := hb _ (Value.ref (s.heap.objs.size + 1) :: us) I2.kIn (by rw [List.append_nil]; exact hl)
  rw [List.append_nil] at b
  refine wpAny_call (make_map (f := f) I.kIn M.makes M.init (beq_iff_eq.mp M.fn) (codeAny_mono (G0.run _ X.stack _ _ ⟨Value.ref (s.heap.objs.size + 1) :: us, []⟩ (Value.ref (s.heap.objs.size + 1) :: us) _ _ (E σ) (hr.make C us [])
    (I2.env0.make C us []) b r2 hq) fun r s' hq' => ?_))
  cases r with
  | error e => exact hx pins _ _ e s' I2 hq'
  | ok fl =>
    cases fl with
    | ret u =>
      obtain ⟨v, H', I3, rv, ev, q3⟩ := I2.after hq'
      subst ev
      exact ⟨rv, ⟨V.ref (s.heap.objs.size + 1), H', I3, rfl, q3⟩⟩
    | next => exact False.elim hq'
    | brk => exact False.elim hq'
    | cont => exact False.elim hq'
theorem pe_makeS {E : L2.St → XK} {x : Str} {p pos : Pos} {e : Expr} {es : List Expr} {t : TA} (M : Mk X.K C f) (G0 : FnOk X.prog X.w X.K X.mg X.base CX k f fd ps sp) (hr : Room (k + 1) X.A) (hg : Gl X x) (hm : X.mg x = some (.ref C)) (hb : Binds X.K fd ps []) (hx : ∀ σ, PassesAt CX X σ (E σ))
    (ha : PA X (e :: es) t) (hdb : (x == ("__debug__" : Str)) = false := by decide) (he : starEach (e :: es) X.env = (false, eval e X.env) :: starEach es X.env := by rfl) (hpl : (backTo pos (starEach es X.env)).any (·.1) = false := by rfl) :
    PE X (.Call (.Name x p) (e :: es) [] pos) (tMakeS C sp E t) := by
  refine ⟨fun pins s σ H Q I h => ?_⟩
  refine wpAny_Call_Name_kw (ld_glob I hg hm ?_ hdb)
  refine PySem.W.callWith_K (h₀ := X.base) I.ok.mod.kin M.kp (thn (ha.run pos pins s σ H _ I h) fun us s1 ⟨vs, H1, I1, r, q⟩ => ⟨I1.kIn, ?_⟩) he hpl
  exact run_makeS M G0 hr hb (hx σ) I1 r q
end
/-- isinstance(e, c) in an except suite of any error -/
theorem call_isEx {X : Cx} {a : Addr} {oe : Obj} {cls : Value} {d : Option Addr} {pn : List (Addr × Obj)} (hz : Zc cls d oe) (hf : ∃ vs, oe.data = .fields vs) :
    CallR (X.suite a ((a, oe) :: pn)) (.builtin "isinstance") (fun xs H Q => ∃ D, cls = .ref D ∧ d = none ∧ ExcC X.K D ∧ rIsE X.K D a xs H Q) := by
  intro pins s σ H xs us Q I r h
  obtain ⟨D, rfl, rfl, c, q⟩ := h
  exact call_isE c hz hf pins s σ H xs us Q I r q
/-- an own class against an own class, against a built-in one -/
theorem kit_own {K : PySem.W.Frag} {C D : Addr} {b : Bool} (hi : PySem.W.isClsIn K D = true) (ht : PySem.W.typeIn K (.ref D) = some (.type "type")) (hs : PySem.W.subIn K (.ref C) (.ref D) = some b) (hne : C ≠ D ∨ b = true) : PySem.W.kitOne K (.ref C) (.ref D) = some b := by
  unfold PySem.W.kitOne
  by_cases e : C = D
  · rcases hne with h | h
    · exact absurd e h
    · rw [if_pos (by rw [e]; simp), h]
  · rw [if_neg (by simp [e])]
    show (if ((PySem.W.clsIn K D).isSome && PySem.W.typeIn K (.ref D) == some (.type "type")) = true then _ else _) = _
    rw [if_pos (by
      rw [ht]
      have : (PySem.W.clsIn K D).isSome = true := hi
      rw [this]; simp)]
    exact hs
theorem kit_ownT {K : PySem.W.Frag} {C : Addr} {T : String} {b : Bool} (hm : PySem.W.kitMeta T = true) (hs : PySem.W.subIn K (.ref C) (.type T) = some b) : PySem.W.kitOne K (.ref C) (.type T) = some b := by
  unfold PySem.W.kitOne PySem.W.kitCls
  rw [if_neg (by simp)]
  show (if PySem.W.kitMeta T = true then _ else _) = _
  rw [if_pos hm]
  exact hs
end My
set_option maxRecDepth 100000
set_option maxHeartbeats 1000000
/-! own exceptions whose __init__ says super().__init__(text) and then stores its fields -/
namespace My
open PySem PySem.Spec PyProof.Rows L2
/-- the names of such a def: its parameters are local, nothing is a cell, __class__ alone is free -/
structure SupScope (N ps : List Str) (sc : Scope) : Prop where
  kind : sc.kind = .function
  co : sc.isCoroutine = false
  gen : sc.isGenerator = false
  nd : ps.Nodup
  eqN : N = ps
  par : ∀ x ∈ ps, sc.names.lookup x = some .local
  nocell : ∀ y ∈ sc.names, y.2 ≠ .cell
  free : ∀ y ∈ sc.names, y.2 = .free → y.1 = "__class__"
  ks : sc.names.lookup ("super" : Str) = some .globalImplicit
  kc : sc.names.lookup ("__class__" : Str) = some .free
/-- the context of its body -/
def cxSup (CX : CXT) (P : Program) (w : World) (K : PySem.W.Frag) (mg : Str → Option Value) (base : Heap) (N : List Str) (qual : Str) (scope : Scope) (f : Addr) (cd : Value) (cc : Addr) (A : Around) (outer : List Env) (s : Shared) (H : Hp) (E : XK) : Cx where
  prog := P
  w := w
  K := K
  mg := mg
  base := base
  A := A.deeper (PySem.W.ksEnv qual scope s.heap.objs.size f cd cc)
  N := N
  s_0 := s
  H_0 := H
  env := PySem.W.ksEnv qual scope s.heap.objs.size f cd cc
  outer := outer
  stack := PySem.W.ksEnv qual scope s.heap.objs.size f cd cc :: outer
  ex := []
  calm := true
  fn := fun _ => false
  pn := []
  xe := fun e s' => wpAny (model P w) (A.deeper (PySem.W.ksEnv qual scope s.heap.objs.size f cd cc)) (leaving (PySem.W.ksEnv qual scope s.heap.objs.size f cd cc) e) (fun _ s'' => CX outer H s E e s'') (fun e' s'' => CX outer H s E e' s'') s'
theorem lookup_of_mem {l : List (Str × Value)} {y : Str} {u : Value} (nd : (l.map (·.1)).Nodup) (h : (y, u) ∈ l) : l.lookup y = some u := by
  induction l with
  | nil => cases h
  | cons p r ih =>
    obtain ⟨z, v⟩ := p
    rw [List.map_cons, List.nodup_cons] at nd
    rcases List.mem_cons.mp h with e | e
    · cases e; simp [List.lookup]
    · have hne : y ≠ z := fun q => nd.1 (by rw [← q]; exact List.mem_map.mpr ⟨_, e, rfl⟩)
      have : (y == z) = false := by simpa using hne
      simp only [List.lookup, this]
      exact ih nd.2 e
theorem map_fst_zip_sub : ∀ (ps : List Str) (us : List Value), ((ps.zip us).map (·.1)).Sublist ps
  | [], _ => by simp
  | _ :: _, [] => by simp
  | p :: ps, u :: us => by simpa using map_fst_zip_sub ps us
theorem nd_rev {l : List Str} (h : l.Nodup) : l.reverse.Nodup := by
  induction l with
  | nil => simp
  | cons a t ih =>
    rw [List.nodup_cons] at h
    rw [List.reverse_cons, List.nodup_append]
    exact ⟨ih h.2, by simp, fun x hx y hy e => h.1 (by simp at hy; rw [← hy, ← e]; simpa using hx)⟩
theorem zip_lookup {ps : List Str} {us : List Value} {i : Nat} {y : Str} {u : Value} (nd : ps.Nodup) (h1 : ps[i]? = some y) (h2 : us[i]? = some u) : (ps.zip us).reverse.lookup y = some u := by
  refine lookup_of_mem ?_ ?_
  · rw [List.map_reverse]
    have : ((ps.zip us).map (·.1)).Nodup := by
      exact nd.sublist (map_fst_zip_sub ps us)
    exact nd_rev this
  · rw [List.mem_reverse]
    have : (ps.zip us)[i]? = some (y, u) := by rw [List.getElem?_zip_eq_some]; exact ⟨h1, h2⟩
    exact List.mem_of_getElem? this
section
variable {CX : CXT} {P : Program} {w : World} {K : PySem.W.Frag} {mg : Str → Option Value} {base : Heap} {N ps : List Str} {qual : Str} {scope : Scope} {f cc : Addr} {cd : Value} {A : Around} {outer : List Env} {s : Shared} {H : Hp} {E : XK}
theorem env_cells {x : Str} {c : Addr} {L : Addr} (h : (PySem.W.ksEnv qual scope L f cd cc).cells.lookup x = some c) : x = "__class__" ∧ c = cc := by
  have h' : ([(("__class__" : Str), cc)] : List (Str × Addr)).lookup x = some c := h
  by_cases e : x = "__class__"
  · subst e
    simp [List.lookup] at h'
    exact ⟨rfl, h'.symm⟩
  · have : (x == ("__class__" : Str)) = false := by simpa using e
    simp [List.lookup, this] at h'
theorem inv_sup {us : List Value} {vs : List V} {h1 : Heap} {t : Nat} {cl : Value} {cld : Option Addr} {cv : Option Value} {csl : Array (Option Value)} (S : SupScope N ps scope) (hd : A.handled = none) (e0 : Env0 P w K mg base A outer s H) (hl : vs.length = ps.length) (r : Vals vs us)
    (hcell : K.lookup cc = some ⟨cl, cld, .cell cv, csl⟩)
    (hns : h1.Ns s.heap.objs.size (fun x => (ps.zip us).reverse.lookup x)) (hk : ∀ b o, s.heap.get? b = some o → h1.get? b = some o) :
    Inv (cxSup CX P w K mg base N qual scope f cd cc A outer s H E) [] (L2.start N vs) H { s with heap := h1, toks := t } := by
  have noA : ∀ b : Addr, b ∉ (cxSup CX P w K mg base N qual scope f cd cc A outer s H E).ex := fun b z => absurd (show b ∈ ([] : List Addr) from z) (by simp)
  have hcb := e0.mod.kin _ _ hcell
  refine ⟨⟨e0.mod, S.kind, rfl, rfl, Nat.le_refl _, fun y z c h1 h2 => (env_cells h1).1.trans (env_cells h2).1.symm, fun y hy => ?_, fun y c h _ => absurd h Bool.false_ne_true, fun _ => hd, Around.frames_deeper e0.frames, .inr ⟨rfl, rfl⟩, fun b z => absurd z (noA b), e0.bs, e0.bsz, fun b _ _ => noA b, fun b z => absurd z (noA b), e0.funs, e0.frf⟩,
    rfl, e0.bare, Un.kept hk, ⟨_, hns, fun i y v h1 h2 h3 => ?_⟩, fun y c h => ?_, e0.hok.fresh (Nat.le_refl _), fun y c h => ?_, fun p hp => absurd (show p ∈ ([] : List (Addr × Obj)) from hp) (by simp), e0.hok.kept hk, ?_⟩
  · have hy : scope.names.lookup y = some .cell ∨ scope.names.lookup y = some .free := hy
    rcases hy with hy | hy
    · exact absurd rfl (S.nocell _ (PySem.mem_of_lookup hy))
    · have e := S.free _ (PySem.mem_of_lookup hy) rfl
      refine ⟨cc, ?_⟩
      show ([(("__class__" : Str), cc)] : List (Str × Addr)).lookup y = some cc
      have e' : y = "__class__" := e
      rw [e']
      simp [List.lookup]
  · have hlen : N.length = vs.length := by rw [S.eqN, hl]
    have e2 : L2.start N vs = vs.map some := by unfold L2.start; rw [hlen, Nat.sub_self]; simp
    rw [e2, List.getElem?_map] at h2
    cases ea : vs[i]? with
    | none => rw [ea] at h2; cases h2
    | some a =>
      rw [ea] at h2
      cases h2
      obtain ⟨u, hu, rv⟩ := r.get ea
      have hp : ps[i]? = some y := by rw [← S.eqN]; exact h1
      exact ⟨u, rv, .inl ⟨S.par y (List.mem_of_getElem? hp), zip_lookup S.nd hp hu⟩⟩
  · obtain ⟨rfl, rfl⟩ := env_cells h
    exact ⟨cv, _, hk _ _ (e0.bs _ _ hcb).1, rfl⟩
  · obtain ⟨rfl, rfl⟩ := env_cells h
    exact (e0.bs _ _ hcb).2
  · unfold L2.start
    show _ = N.length
    rw [List.length_append, List.length_map, List.length_replicate, S.eqN]
    omega
end
open PySem.W (ksFn ksEnv)
/-- what the written part says of such a class -/
structure SupCls (P : Program) (K : PySem.W.Frag) (mg : Str → Option Value) (C : Addr) : Prop where
  cd : ∃ cd, PySem.W.clsIn K C = some cd
  mro : PySem.W.mroIn K C (.ref C) = some true
  sup : PySem.W.ks_superIn K C C "__init__" = some (some (.builtin "ValueError.__init__"))
  opq : PySem.W.nsIn K PySem.cStatics "thirdparty.any" = some none
  ve : PySem.W.subIn K (.ref C) (.type "ValueError") = some true
  mgs : mg "super" = none
  top : (P.main.scope.names.lookup ("super" : Str)).isSome = false
  ox : OexC K C
/-- and of its __init__ -/
structure SupFn (P : Program) (K : PySem.W.Frag) (st : Stmt) (qual : Str) (C f : Addr) (fd : FuncData) : Prop where
  ex : ∃ (oc : Value) (od : Option Addr) (kV doc pm : Value) (an : Option Addr) (cda : Addr) (ct : Value) (cc : Addr) (sl : Array (Option Value)),
    fd = ksFn "__init__" qual (defArgs st) (defBody st) (defScope st) .none kV doc pm an (.ref cda) ct cc ∧ K.lookup f = some ⟨oc, od, .func fd, sl⟩ ∧ PySem.W.codeIn K (.ref cda) qual = true ∧
    (∃ (a : Value) (b : Option Addr) (vs : Array Value) (d : Array (Option Value)) (file : Str) (tf : Tok), K.lookup cda = some ⟨a, b, .fields vs, d⟩ ∧ vs[2]? = some (.str file tf) ∧ ((P.main.file : Str) == file) = true) ∧
    ∃ (a : Value) (b : Option Addr) (d : Array (Option Value)), K.lookup cc = some ⟨a, b, .cell (some (.ref C)), d⟩
section
variable {CX : CXT} {P : Program} {w : World} {K : PySem.W.Frag} {mg : Str → Option Value} {base : Heap} {N ps : List Str} {qual : Str} {scope : Scope} {f cc cda C a : Addr} {A : Around} {outer : List Env} {s0 : Shared} {H0 : Hp} {E : XK}
variable {oc : Value} {od : Option Addr} {fd : FuncData} {sl : Array (Option Value)} {vs : Array Value} {file : Str} {tf : Tok}
theorem mw_call {X : Cx} {pins : List (Addr × Obj)} {σ : L2.St} {H : Hp} {s : Shared} {u : Addr} {us : List Value} {Q : Value → Shared → Prop} {B : Around} {EE : Value → Shared → Prop} (T : OexC X.K C) (I : Inv X ((u, PySem.W.kxs_mw "ValueError.__init__" a) :: pins) σ H s)
    (ea : H a = some (exo a C none)) (hz : us.length ≤ sizeLine) (q : ∀ s', Inv X ((u, PySem.W.kxs_mw "ValueError.__init__" a) :: pins) σ H s' → Q .none s') :
    wpAny (model X.prog X.w) B (call (.ref u) us) Q EE s := by
  obtain ⟨nm, q0, N0, bs, bm, sn, sub, ab, col, dd, k0, k1, k2, k3, k5, hC, hbm⟩ := T.cls
  obtain ⟨t1, ho⟩ := exo_at I.hok ea
  have hu := ClX.pin_at I
  have KX := I.kIn
  have eu : upd H a (exo a C none) = H := by
    funext b
    by_cases hb : b = a
    · rw [hb, upd_same, ea]
    · rw [upd_ne hb]
  have T1 : (Value.type "method-wrapper" == Value.type "method" || Value.type "method-wrapper" == Value.type "builtin_function_or_method" || Value.type "method-wrapper" == Value.type "method-wrapper") = true := by decide
  obtain ⟨hp, g, d, t, os⟩ := s
  refine wpAny_call (codeAny_of_tree ?_)
  show wpAny _ _ (callAny (.ref u) ⟨us, []⟩) _ _ _
  unfold callAny
  refine wpAny_bind (wpAny_load hu ?_)
  simp only [PySem.W.kxs_mw, T1, if_true]
  refine PySem.W.KFB.if_so (by decide) ?_
  refine wpAny_bind (PySem.W.check_bound_init F.excBase_ValueError.toExcCallFacts (KX _ _ hC) ho rfl ?_)
  refine wpAny_bind (wpAny_pure (wpAny_pure ⟨PySem.plainId_quiet F.excBase_ValueError.init.plain _, codeAny_builtin F.excBase_ValueError.initEntry ?_⟩))
  refine PySem.W.exc_init_tree (cls := .ref C) (t0 := t1) (dv := none) (c2 := .none) (c3 := .none) (b4 := .bool false) ho hz fun h' k e1 _ => ?_
  have J := I.write (t' := t) (x := a) (e := a) (o := exo a C none) (by rw [ea]; exact True.intro) (.inl rfl) k ⟨_, e1⟩ (exo_ok e1)
  rw [eu] at J
  exact q _ J

/-- super().__init__(e, ..) at the head of the body -/
theorem sup_run {an : Option Addr} {kV doc pm ct : Value} {body : List Stmt} {args : Arguments} {σ : L2.St} {H : Hp} {s : Shared} {ta : TA} {e : Expr} {es : List Expr} {p0 p1 p2 p3 p4 : Pos} {ar : Arg} {Q : Flow → Shared → Prop}
    (S : SupScope N ps scope) (D : SupCls P K mg C)
    (lk : K.lookup f = some ⟨oc, od, .func (ksFn "__init__" qual args body scope .none kV doc pm an (.ref cda) ct cc), sl⟩) (har : (args.posonlyargs ++ args.args).head? = some ar)
    (lc : ∃ (a : Value) (b : Option Addr) (vs : Array Value) (d : Array (Option Value)) (file : Str) (tf : Tok), K.lookup cda = some ⟨a, b, .fields vs, d⟩ ∧ vs[2]? = some (.str file tf) ∧ ((P.main.file : Str) == file) = true)
    (lq : ∃ (a : Value) (b : Option Addr) (d : Array (Option Value)), K.lookup cc = some ⟨a, b, .cell (some (.ref C)), d⟩)
    (I : Inv (cxSup CX P w K mg base N qual scope f (.ref cda) cc A outer s0 H0 E) [] σ H s) (h0 : σ[0]? = some (some (.ref a))) (hN : N[0]? = some ar.arg) (hloc : scope.names.lookup ar.arg = some .local)
    (ea : H a = some (exo a C none)) (hes : PA (cxSup CX P w K mg base N qual scope f (.ref cda) cc A outer s0 H0 E) (e :: es) ta)
    {R : Hp → Prop} (q : ta σ H fun us H1 => us.length ≤ 1000 ∧ H1 a = some (exo a C none) ∧ R H1)
    (cont : ∀ H1 s', R H1 → Inv (cxSup CX P w K mg base N qual scope f (.ref cda) cc A outer s0 H0 E) [] σ H1 s' → Q .next s')
    (he : starEach (e :: es) (ksEnv qual scope s0.heap.objs.size f (.ref cda) cc) = (false, eval e (ksEnv qual scope s0.heap.objs.size f (.ref cda) cc)) :: starEach es (ksEnv qual scope s0.heap.objs.size f (.ref cda) cc))
    (hpl : (backTo p3 (starEach es (ksEnv qual scope s0.heap.objs.size f (.ref cda) cc))).any (·.1) = false) 
    (hsw : swapsWith (.Call (.Attribute (.Call (.Name "super" p0) [] [] p1) "__init__" p2) (e :: es) [] p3) none p4.line (ksEnv qual scope s0.heap.objs.size f (.ref cda) cc) = pure false)
    {pl : Sem Bool} (hcall : eval (.Call (.Attribute (.Call (.Name "super" p0) [] [] p1) "__init__" p2) (e :: es) [] p3) (ksEnv qual scope s0.heap.objs.size f (.ref cda) cc) = (do
      let ov ← attributeBase (.Call (.Name "super" p0) [] [] p1) "__init__" (ksEnv qual scope s0.heap.objs.size f (.ref cda) cc) (eval (.Call (.Name "super" p0) [] [] p1) (ksEnv qual scope s0.heap.objs.size f (.ref cda) cc))
      standAt p2.atName
      let (fx, first) ← holding [ov] (getMethod ov "__init__" pl)
      callWith p3 fx first (backTo p3 (starEach (e :: es) (ksEnv qual scope s0.heap.objs.size f (.ref cda) cc))) []))
    (B : List Stmt) :
    PySem.wpAt (model P w) (A.deeper (ksEnv qual scope s0.heap.objs.size f (.ref cda) cc)) (.func B (ksEnv qual scope s0.heap.objs.size f (.ref cda) cc))
      (exec (.Expr (.Call (.Attribute (.Call (.Name "super" p0) [] [] p1) "__init__" p2) (e :: es) [] p3) p4) (ksEnv qual scope s0.heap.objs.size f (.ref cda) cc)) Q (cxSup CX P w K mg base N qual scope f (.ref cda) cc A outer s0 H0 E).xe s := by
  have KX : K.In s.heap := I.kIn
  obtain ⟨t1, hoe⟩ := exo_at I.hok ea
  obtain ⟨m, hn, hl⟩ := I.loc
  obtain ⟨u, ru, look⟩ := hl 0 ar.arg (.ref a) hN h0 (Or.inl hloc)
  obtain rfl : u = Value.ref a := ru
  have hm : m ar.arg = some (.ref a) := by
    rcases look with z | ⟨z, _⟩
    · exact z.2
    · have z : scope.names.lookup ar.arg = some .cell ∨ scope.names.lookup ar.arg = some .free := z
      rw [hloc] at z
      rcases z with z | z <;> cases z
  obtain ⟨c1, c2, vs, c3, file, tf, hcode, hvs, hfile⟩ := lc
  obtain ⟨c4, c5, c6, hcell⟩ := lq
  obtain ⟨cd, hcd⟩ := D.cd
  obtain ⟨mb, hb1, hb2⟩ := I.mod.blt
  obtain ⟨oD, hD1, hD2⟩ : ∃ oD, s.heap.get? C = some oD ∧ oD.data = .cls cd := by
    unfold PySem.W.clsIn at hcd
    split at hcd
    · rename_i ho
      cases hcd
      exact ⟨_, KX _ _ ho, rfl⟩
    · cases hcd
  obtain ⟨hh, g, d, t, os⟩ := s
  refine ks_wpAt_Expr_any ?_ I.quiet hsw
  refine ks_wpAt_MethodCall (he := hcall) ?_
  refine ks_wpAt_super_base (ar := ar) S.ks S.kc rfl rfl (KX _ _ lk) rfl har rfl (KX _ _ hcode) rfl hvs hfile D.top ?_
  refine PySem.W.ks_loadName_global S.kind S.ks (Calls.loadGlobal_builtin (I.mod.glob.keeps I.bk) D.mgs (hb1.keeps I.bk) ((hb2 _ (by decide)).trans PyProof.Rows.Boot.«super») ⟨rfl, ?_⟩)
  refine wpAny_loadName_free S.kind S.kc rfl ⟨_, KX _ _ hcell, rfl⟩ ?_
  refine wpAny_loadName_local S.kind hloc hn hm ?_
  refine ks_wpAny_isType_cls hD1 hD2 ⟨rfl, ?_⟩
  refine ks_wpAny_call_super hD1 hD2 hoe rfl (fun c z => by cases z) (PySem.W.looks_mroIn KX D.mro) (fun h' e1 k => ?_)
  have I1 := ClX.pin_new (t' := t) I k (Nat.le_refl _) e1 (fun v z => by cases z)
  have KX1 : K.In h' := I1.kIn
  have hca : a ≠ C := fun z => by
    subst z
    rw [hoe] at hD1
    cases hD1
    cases hD2
  have hsI : PySem.W.Looks (model P w) h' (isInstance (.ref a) (.type "ValueError")) true := by
    have II : PySem.W.InstAt h' a _ C none := ⟨k _ _ hoe, rfl, rfl, trivial⟩
    exact II.type.andThen (PySem.W.looks_subIn KX1 D.ve)
  have hsup := D.sup
  unfold PySem.W.ks_superIn at hsup
  rw [hcd] at hsup
  refine PySem.W.kxs_getMethod PySem.W.kxs_ValueError e1 (PySem.W.looks_opaque KX1 D.opq) (l₀ := cd.mro) (fun A Q E s k q => wpAny_bind ((PySem.W.looks_clsIn KX1 hcd) A _ E s k (wpAny_pure q))) rfl KX1 hsup hsI hca rfl ?_
  have I2 := ClX.pin_new (t' := t + 1) I1 (h' := h'.push (PySem.W.kxs_mw "ValueError.__init__" a)) (o := PySem.W.kxs_mw "ValueError.__init__" a) (fun b o z => Heap.get?_push_of_some _ z) (Nat.le_refl _) (Heap.get?_push_at rfl rfl) (fun v z => by cases z)
  dsimp only
  rw [he]
  refine PySem.W.kxs_callWith (i := "ValueError.__init__") (x := a) (by show (false || (backTo p3 (starEach es _)).any (·.1)) = false; rw [hpl]; rfl) (Calls.evalArgs_plain ?_)
  have run := hes.run p3 _ _ σ H _ I2 q
  rw [show starEach (e :: es) (cxSup CX P w K mg base N qual scope f (.ref cda) cc A outer s0 H0 E).env = _ from he] at run
  refine thn run fun us s1 ⟨xs, H1, I3, r1, hz, ea1, q1⟩ => ⟨ClX.pin_at I3, ?_⟩
  have hlen : us.length ≤ sizeLine := by
    rw [← Paired.length r1, sizeLine_eq]
    omega
  exact mw_call D.ox I3 ea1 hlen fun s' J => cont _ s' q1 (ClX.unpin (ClX.unpin J))

/-- such an __init__, by what it says behind super() -/
theorem sup_ok {st : Stmt} {fd : FuncData} {k : Nat} {sp : Sp} {body : List Stmt} {e : Expr} {p0 p1 p2 p3 p4 : Pos} {ar : Arg} {pl : Sem Bool} (F : SupFn P K st qual C f fd) (S : SupScope N ps (defScope st)) (D : SupCls P K mg C)
    (hb : defBody st = .Expr (.Call (.Attribute (.Call (.Name "super" p0) [] [] p1) "__init__" p2) [e] [] p3) p4 :: body) (har : ((defArgs st).posonlyargs ++ (defArgs st).args).head? = some ar) (hN : N[0]? = some ar.arg)
    (he : ∀ env : Env, starEach [e] env = [(false, eval e env)])
    (hsw : ∀ env : Env, swapsWith (.Call (.Attribute (.Call (.Name "super" p0) [] [] p1) "__init__" p2) [e] [] p3) none p4.line env = pure false)
    (hcall : ∀ env : Env, eval (.Call (.Attribute (.Call (.Name "super" p0) [] [] p1) "__init__" p2) [e] [] p3) env = (do
      let ov ← attributeBase (.Call (.Name "super" p0) [] [] p1) "__init__" env (eval (.Call (.Name "super" p0) [] [] p1) env)
      standAt p2.atName
      let (fx, first) ← holding [ov] (getMethod ov "__init__" pl)
      callWith p3 fx first (backTo p3 (starEach [e] env)) []))
    (len : ∀ vs H Q E, sp vs H Q E → vs.length = ps.length)
    (hbody : ∀ (cda : Value) (cc : Addr) (A : Around) (outer : List Env) (s : Shared) (H : Hp) (vs : List V) (Q : VK) (E : XK), Room k (A.deeper (ksEnv qual (defScope st) s.heap.objs.size f cda cc)) → sp vs H Q E →
      ∃ (a : Addr) (te : TE) (t : TS), vs[0]? = some (.ref a) ∧ H a = some (exo a C none) ∧ PE (cxSup CX P w K mg base N qual (defScope st) f cda cc A outer s H E) e te ∧ PSs (cxSup CX P w K mg base N qual (defScope st) f cda cc A outer s H E) body t ∧
        te (L2.start N vs) H fun x H1 => [x].length ≤ 1000 ∧ H1 a = some (exo a C none) ∧ t { nx := fun _ H' => Q .non H', rt := Q } (L2.start N vs) H1) : FnOk P w K mg base CX (k + 1) f fd ps sp := by
  obtain ⟨oc, od, kV, doc, pm, an, cda, ct, cc, sl, rfl, lk, hcd, lc, lq⟩ := F.ex
  refine ⟨len, fun A outer s H args us vs Q E hr e0 hbi r hsp => ?_⟩
  have hl := len _ _ _ _ hsp
  have KX : K.In s.heap := e0.mod.kin.keeps fun b o e => (e0.bs b o e).1
  have lim : s.heap.NoLimit := e0.mod.nolimit.keeps fun b o e => (e0.bs b o e).1
  obtain ⟨c4, c5, c6, hcell⟩ := lq
  refine ks_codeAny_call_defAt (body := defBody st) hr.depth (KX _ _ lk) rfl lim (PySem.W.codeRec_of KX hcd) rfl hbi S.nocell (fun ⟨n, v⟩ hy => S.par n (List.of_mem_zip hy).1) (fun h1 hns hk => ?_) S.co S.gen S.kind
  obtain ⟨a, te, t, hv, ea, pe, pss, q⟩ := hbody (.ref cda) cc A outer s H vs Q E (hr.deeper _) hsp
  have I : Inv (cxSup CX P w K mg base N qual (defScope st) f (.ref cda) cc A outer s H E) [] (L2.start N vs) H _ := inv_sup (t := s.toks + (ps.zip us).length) S hr.hd e0 hl r hcell hns hk
  have fin : ∀ {σ' : L2.St} {H' : Hp} {v : V} {u : Value} {s' : Shared}, Inv (cxSup CX P w K mg base N qual (defScope st) f (.ref cda) cc A outer s H E) [] σ' H' s' → RelV v u → Q v H' → CE outer P w H s Q u s' :=
    fun {σ' H' v u s'} J rv q => ⟨v, H', J.os, J.bare, J.base, J.hok, rv, q⟩
  have h0 : (L2.start N vs)[0]? = some (some (V.ref a)) := by
    unfold L2.start
    rw [List.getElem?_append_left (by rw [List.length_map]; exact (List.getElem?_eq_some_iff.mp hv).1), List.getElem?_map, hv]
    rfl
  have hloc : (defScope st).names.lookup ar.arg = some .local := S.par _ (by rw [← S.eqN]; exact List.mem_of_getElem? hN)
  show PySem.wpAt _ _ _ (execs (defBody st) _) _ _ _
  rw [hb]
  refine ks_wpAt_execs_cons ?_
  refine sup_run S D lk har lc ⟨c4, c5, c6, hcell⟩ I h0 hN hloc ea (pa_cons pe pa_nil (he _)) q (fun H1 s1 q1 J => ?_) (he _) rfl (hsw _) (hcall _) _
  refine wpAt_of_wpAny (wpAny_mono (pss.run [] s1 (L2.start N vs) H1 _ J q1) (fun fl s' hs => ?_) fun e s' hs => hs)
  cases fl with
  | ret u =>
    obtain ⟨v, σ', H', J, rv, q⟩ := hs
    exact fin J rv q
  | next =>
    obtain ⟨σ', H', J, q⟩ := hs
    exact fin (v := V.non) (u := Value.none) J rfl q
  | brk =>
    obtain ⟨_, _, _, q⟩ := hs
    exact False.elim q
  | cont =>
    obtain ⟨_, _, _, q⟩ := hs
    exact False.elim q
end
end My
set_option maxRecDepth 100000
set_option maxHeartbeats 1000000
namespace My
open PySem PySem.Spec PyProof.Rows L2
/-! ### max(x, default=d) of a list of whole numbers -/
theorem ints_reads {h : Heap} : ∀ {ns : List Int} {us : List Value}, Vals (ns.map V.int) us → ReadsAll h us (ns.map PyData.int) []
  | [], _, .nil => .nil
  | n :: ns, _, .cons r t => by
    obtain ⟨tk, rfl⟩ := r
    exact ReadsAll.cons (as := []) (bs := []) (.int n tk) (ints_reads t)
theorem alike_ints (ns : List Int) : PySem.W.AlikeAll (ns.map PyData.int) := by
  refine ⟨fun x hx y hy => ?_, fun x hx => ?_⟩
  · obtain ⟨i, _, rfl⟩ := List.mem_map.mp hx
    obtain ⟨j, _, rfl⟩ := List.mem_map.mp hy
    rfl
  · obtain ⟨i, _, rfl⟩ := List.mem_map.mp hx
    exact fun z => nomatch z
theorem depth_ints : ∀ ns : List Int, PyData.depthAll (ns.map PyData.int) ≤ 1
  | [] => by simp [PyData.depthAll]
  | n :: ns => by
    have := depth_ints ns
    simp only [List.map_cons, PyData.depthAll, PyData.depth]
    omega
theorem foldl_max (ns : List Int) : ∀ n : Int, (ns.foldl max n ∈ n :: ns) ∧ ∀ y ∈ n :: ns, y ≤ ns.foldl max n := by
  induction ns with
  | nil => intro n; simp
  | cons k r ih =>
    intro n
    obtain ⟨h1, h2⟩ := ih (max n k)
    rw [List.foldl_cons]
    refine ⟨?_, fun y hy => ?_⟩
    · rcases List.mem_cons.mp h1 with e | e
      · rw [e]
        rcases Int.le_total n k with z | z
        · rw [Int.max_eq_right z]; simp
        · rw [Int.max_eq_left z]; simp
      · exact List.mem_cons_of_mem _ (List.mem_cons_of_mem _ e)
    · have hm := h2 (max n k) List.mem_cons_self
      rcases List.mem_cons.mp hy with e | e
      · rw [e]; omega
      · rcases List.mem_cons.mp e with e | e
        · rw [e]; omega
        · exact h2 y (List.mem_cons_of_mem _ e)
section
variable {X : Cx}
def rMaxDf (K : PySem.W.Frag) : List V → List V → Hp → VK → Prop := fun xs zs H Q => ∃ (a : Addr) (ns : List Int) (d : Int), xs = [.ref a] ∧ zs = [.int d] ∧ SqL K H a (ns.map V.int) ∧
  (ns = [] → Q (.int d) H) ∧ ∀ m, m ∈ ns → (∀ y ∈ ns, y ≤ m) → Q (.int m) H
theorem call_maxDf (hc : X.calm = true) (hu : X.A.units + 10 < cLine) : CallRK X (.builtin "max") ["default"] (rMaxDf X.K) := by
  intro pins s σ H xs zs us ws Q I r rz h
  obtain ⟨a, ns, d, rfl, rfl, hq, h0, h1⟩ := h
  obtain rfl := Vals.ref1 r
  obtain ⟨w, rfl, rw'⟩ := rz.one
  obtain ⟨its, rv, pl, hz⟩ := I.list hq
  have hd := depth_ints ns
  refine PySem.W.max_list_default (I.ok.hd hc) pl.isList (xs := ns.map PyData.int) (as := []) (by rw [List.toList_toArray]; exact ints_reads rv) (alike_ints ns) (by show X.A.units + 1 + _ < _; omega) (fun e h' tk k => ?_) fun y ys i v h' tk bs e hv rd k => ?_
  · exact ⟨.int d, H, I.kept (t' := tk) k, rw', h0 (List.map_eq_nil_iff.mp e)⟩
  · cases ns with
    | nil => cases e
    | cons n ns =>
      rw [List.map_cons] at e
      obtain ⟨rfl, rfl⟩ := List.cons.inj e
      rw [PySem.W.maxD_ints] at rd
      obtain ⟨t0, rfl, _⟩ := reads_int_inv rd
      obtain ⟨m1, m2⟩ := foldl_max ns n
      exact ⟨.int (ns.foldl max n), H, I.kept (t' := tk) k, ⟨_, rfl⟩, h1 _ m1 m2⟩
/-! ### isinstance(e, c) of a caught error with fields -/
theorem call_isExD {a : Addr} {oe : Obj} {cls : Value} {d : Option Addr} {pn : List (Addr × Obj)} (hz : Zc cls d oe) (hf : ∃ vs, oe.data = .fields vs) :
    CallR (X.suite a ((a, oe) :: pn)) (.builtin "isinstance") (fun xs H Q => ∃ D dd fs, cls = .ref D ∧ d = some dd ∧ H dd = some (.xd fs) ∧ ExcC X.K D ∧ rIsE X.K D a xs H Q) := by
  intro pins s σ H xs us Q I r h
  obtain ⟨D, dd, fs, rfl, rfl, hd, C, c, cv, b, rfl, hcv, e, q⟩ := h
  cases r with
  | cons rx rr =>
    cases rr with
    | cons rt rr =>
      cases rr
      cases rx
      have ec := hcv _ rt
      subst ec
      obtain ⟨hget, _⟩ := I.pin (a, oe) (List.mem_append.mpr (.inl List.mem_cons_self))
      obtain ⟨vs, hv⟩ := hf
      have hx : ObjOk X.prog X.w H s.heap dd (.xd fs) := I.hok dd _ hd
      obtain ⟨mA, ⟨od, es, ep, ho, _⟩, _⟩ := hx
      have J : PySem.W.InstAt s.heap a oe D (some od) := ⟨hget, hz.1, by unfold PySem.W.notCls; rw [hv] <;> rfl, by rw [hz.2]; exact ho⟩
      obtain ⟨cdD, hcD, _⟩ := PySem.W.any_some C.hd
      refine PySem.W.kia_one (PySem.W.kitx_exc (od := some od) (by rw [hcD]; rfl) C.hg C.hk C.hs C.ha C.hn C.ht C.hm) I.kIn J e (fun z => nomatch z) fun tk => ⟨.bl b, H, I.kept (t' := tk) fun _ _ z => z, rfl, q⟩
end
/-! ### what such a class has, by a check -/
theorem tail_refs : ∀ {l : List Value}, PySem.W.excTail [.type "ValueError", .type "Exception", .type "BaseException", .type "object"] l = true → PySem.HandSPX.refsVE l = true := by
  intro l
  induction l with
  | nil => intro h; revert h; decide
  | cons a t ih =>
    intro h
    cases a <;> first | exact ih h | exact h
theorem oex_of {K : PySem.W.Frag} {C : Addr} (q : PySem.W.excInitIn K C [.type "ValueError", .type "Exception", .type "BaseException", .type "object"] "ValueError.__new__" = true) (hd : PySem.W.hasDictIn K C = true)
    (sa : PySem.W.findIn K (.ref C) "__setattr__" = some (some (.builtin "object.__setattr__"))) (bp : PySem.W.subIn K (.ref C) (.type "BaseException") = some true) (tp : PySem.W.typeIn K (.ref C) = some (.type "type")) (kp : PySem.W.keepIn K (.ref C) = true) : OexC K C := by
  refine ⟨?_, sa, bp, tp, kp⟩
  unfold PySem.W.excInitIn at q
  split at q
  · rename_i dd cd sl ho
    split at q
    · rename_i C' bm k0 k1 k2 k3 n k5 hm hs
      simp only [Bool.and_eq_true, beq_iff_eq, Bool.not_eq_true'] at q
      obtain ⟨⟨⟨e1, e2⟩, hdel⟩, ht⟩ := q
      subst e1
      subst e2
      obtain ⟨cd1, hc1, hd1⟩ := PySem.W.any_some hd
      have ec : PySem.W.clsIn K C' = some cd := by unfold PySem.W.clsIn; rw [ho]
      rw [ec] at hc1
      cases hc1
      obtain ⟨nm, bs, mro, ns, qn, hdc, sn, sub, ab, col, del⟩ := cd
      dsimp only at hm hdel hd1
      subst hm
      subst hdel
      subst hd1
      have hsl : sl = #[k0, k1, k2, k3, some (.builtin "ValueError.__new__"), k5] := by
        obtain ⟨l⟩ := sl
        simp only at hs
        rw [hs]
      subst hsl
      exact ⟨nm, qn, ns, bs, bm, sn, sub, ab, col, dd, k0, k1, k2, k3, k5, ho, tail_refs ht⟩
    · cases q
  · cases q
/-! ### the promises of such an __init__ -/
/-- one field -/
def spX1 (C : Addr) (f : Str) (P : V → Prop) : Sp := fun vs H Q _ => ∃ (a : Addr) (y : V), vs = [.ref a, y] ∧ P y ∧ H a = some (exo a C none) ∧ ∀ d, H d = none → d ≠ a → Q .non (upd (upd H d (exd d [(f, y)])) a (exo a C (some d)))
def smallI (y : V) : Prop := ∃ i : Int, y = .int i ∧ i.natAbs < 1000000
theorem small_log {i : Int} (h : i.natAbs < 1000000) : i.natAbs.log2 < 1920 := by
  rcases Nat.eq_zero_or_pos i.natAbs with e | e
  · rw [e]; decide
  · exact Nat.lt_of_lt_of_le ((Nat.log2_lt (by omega)).mpr (Nat.lt_of_lt_of_le h (by decide : 1000000 ≤ 2 ^ 20))) (by decide)
end My
set_option maxRecDepth 100000
set_option maxHeartbeats 1000000
namespace My
open PySem PySem.Spec PyProof.Rows L2
/-! ### iter(t) of a tuple; list(o), o's class with its own __iter__ (a tuple's iterator) and its own __len__ -/
/-- a tuple's iterator at it, over the tuple at l, the next place i -/
def TitO (l it : Addr) (i : Nat) : HO := .ext fun h => h.IsTupleIter it l i
/-- at it stands something -/
def AnyO (it : Addr) : HO := .ext fun h => ∃ o, h.get? it = some o
theorem titO_ok {P : Program} {w : World} {H : Hp} {h : Heap} {l it : Addr} {i : Nat} (e : h.IsTupleIter it l i) : ObjOk P w H h it (TitO l it i) :=
  ⟨e, ⟨_, e.choose_spec.1⟩, fun h1 h2 q k => let ⟨o, ho, r⟩ := q; ⟨o, k _ ho, r⟩⟩
theorem anyO_ok {P : Program} {w : World} {H : Hp} {h : Heap} {it : Addr} (e : ∃ o, h.get? it = some o) : ObjOk P w H h it (AnyO it) := ⟨e, e, fun h1 h2 q k => let ⟨o, ho⟩ := q; ⟨o, k _ ho⟩⟩
section
variable {X : Cx} {pins : List (Addr × Obj)} {σ : L2.St} {H : Hp} {s : Shared} {l it S : Addr} {i : Nat}
theorem titO_get (I : Inv X pins σ H s) (e : H it = some (TitO l it i)) : s.heap.IsTupleIter it l i := (I.hok it _ e).1
theorem call_iterT : CallR X (.builtin "iter") (fun xs H Q => ∃ (l : Addr) (zs : List V), xs = [.ref l] ∧ SqT X.K H l zs ∧ ∀ it, H it = none → Q (.ref it) (upd H it (TitO l it 0))) := by
  intro pins s σ H xs us Q I r h
  obtain ⟨l, zs, rfl, hq, q⟩ := h
  obtain rfl := Vals.ref1 r
  obtain ⟨its, rv, pl, hz⟩ := I.tuple hq
  refine Calls.call_function_entry (by decide +kernel) (by decide +kernel) PySem.W.kdk_entry_iter (PySem.W.kdk_args_iter _) ?_
  unfold Builtin.«iter»
  refine wpAny_bind (m := someArgs "iter" 1 2 _) (wpAny_of_eq (a := [Value.ref l]) (by first | rfl | kernel_rfl!) ?_)
  show wpAny _ _ (pyIter (.ref l) >>= _) _ _ _
  refine wpAny_bind (wpAny_pyIter_tuple (show s.heap.IsTuple l its.toArray from pl) (wpAny_pure ⟨_, rfl, ?_⟩))
  exact ⟨.ref s.heap.objs.size, _, I.laid (t' := s.toks) (fun b u e => Heap.get?_push_of_some _ e) (Nat.le_refl _) (titO_ok ⟨_, Heap.get?_push_size _ rfl, rfl, rfl⟩), rfl, q _ (I.hok.fresh (Nat.le_refl _))⟩
/-- the end of a tuple's iterator; its record stays -/
theorem tup_end {prog : Program} {w : World} {A : Around} {E : Value → Shared → Prop} {items : Array Value} {Q : Option Value → Shared → Prop} (hh : A.handled = none) (hit : s.heap.IsTupleIter it l i) (ht : s.heap.IsTuple l items) (hx : items[i]? = none)
    (hQ : ∀ h', (∀ b o, b ≠ it → s.heap.get? b = some o → h'.get? b = some o) → (∃ o, h'.get? it = some o) → Q none { s with heap := h' }) : wpAny (model prog w) A (pyNext (.ref it)) Q E s := by
  obtain ⟨o, ho, hc, hd⟩ := id hit
  obtain ⟨ol, hol, _, nl, hdl⟩ := ht
  have hup := Heap.get?_update_self (Obj.mapFields (·.setIfInBounds 0 Value.none)) ho (Obj.isFreed_of_fields (Obj.data_mapFields hd _))
  unfold pyNext
  refine wpAny_bind (wpAny_attempt (wpAny_callSpecial?_slot (name := Str.ofString "__next__") hit.typeIs PySem.F.slot_tuple_iterator_next (wpAny_call_entry PySem.F.slot_tuple_iterator_next hit.typeIs PySem.F.entry_tuple_iterator_next ?_ (PySem.F.args_tuple_iterator_next_1 _))))
  show wpAny _ _ (field (.ref it) 0 >>= _) _ _ s; refine wpAny_bind (wpAny_field ho hd (x := .ref l) rfl ?_); show wpAny _ _ (if (Value.ref l == Value.none) = true then _ else _) _ _ s
  rw [if_neg (fun z => by revert z; exact Bool.false_ne_true : ¬ ((Value.ref l == Value.none) = true))]; show wpAny _ _ (field (.ref it) 1 >>= _) _ _ s
  refine wpAny_bind (wpAny_field ho hd (x := .int i 0) rfl ?_); show wpAny _ _ (seqItems? (.ref l) >>= _) _ _ s
  refine wpAny_bind (wpAny_seqItems hol hdl ?_)
  simp only [Int.toNat_natCast, hx]
  refine wpAny_bind (wpAny_rule (wpAny_bind (wpAny_setField ho hd (by simp) ?_))); show wpAny _ _ (newExc (.type "StopIteration") [] >>= _) _ _ _
  refine wpAny_bind ?_
  simp only [newExc, newTuple]
  refine wpAny_bind (wpAny_newObj_type ?_ (by size_fits)); refine wpAny_bind (m := firstArgMember _ _) (wpAny_of_eq (a := Value.none) (by first | rfl | (simp only [firstArgMember]; rfl)) ?_)
  refine wpAny_newObj_type ?_ (by size_fits)
  simp only [raiseNew]
  refine wpAny_bind (wpAny_handled ?_)
  first | rw [show A.in1.handled = none from hh] | rw [hh]
  refine wpAny_bind (wpAny_pure (wpAny_throw ?_))
  refine wpAny_bind (wpAny_isInstance (T := "StopIteration") (b := true) ⟨_, Heap.get?_push_size _ rfl, rfl⟩ isSubtype_stop (wpAny_pure (hQ _ (fun b ob hb e => ?_) ⟨_, Heap.get?_push_of_some _ (Heap.get?_push_of_some _ hup)⟩)))
  exact Heap.get?_push_of_some _ (Heap.get?_push_of_some _ ((Heap.get?_update_other _ _ (Ne.symm hb)).trans e))
/-- list.extend over it -/
theorem tit_loop {A1 : Around} {ys : List V} {Rs : Result → Shared → Prop} (hh : A1.handled = none) :
    ∀ (k i : Nat) (H : Hp) (s : Shared), ys.length - i = k → i ≤ ys.length → Inv X pins σ H s → H it = some (TitO l it i) → H l = some (.tup ys) → H S = some (.lst (ys.take i)) → ys.length < sizeLine →
      (∀ H2 s2, Inv X pins σ H2 s2 → (∀ b, b ≠ it → b ≠ S → H2 b = H b) → H2 S = some (.lst ys) → Rs (.ok (.ret .none)) s2) → codeAny (model X.prog X.w) A1 (.builtin "list.extend.loop" ⟨[.ref S, .ref it, .none], []⟩) Rs s := by
  intro k
  induction k with
  | zero =>
    intro i H s hk hi I h1 h2 h3 hz hR
    have hne : S ≠ it := ne_of h3 h1 (fun z => nomatch z)
    obtain ⟨its, rv, pl, _⟩ := I.tuple (SqT.of h2)
    refine codeAny_builtin PySem.F.entry_extend_loop ?_
    rw [Around.under_plainId PySem.F.plain_extend_loop _]
    show wpAny _ A1.in1 (pyNext (.ref it) >>= _) _ _ s
    have hno : (its.toArray)[i]? = none := by
      have := rv.length
      rw [List.getElem?_toArray, List.getElem?_eq_none_iff]
      omega
    refine wpAny_bind (tup_end hh (titO_get I h1) (show s.heap.IsTuple l its.toArray from pl) hno fun h' k' e' => wpAny_pure ?_)
    have J := I.write (t' := s.toks) (x := it) (e := it) (o := AnyO it) (by rw [h1]; exact True.intro) (.inl rfl) k' e' (anyO_ok e')
    refine hR _ _ J (fun b hb _ => upd_ne hb) ?_
    rw [upd_ne hne, h3, List.take_of_length_le (by omega)]
  | succ k ih =>
    intro i H s hk hi I h1 h2 h3 hz hR
    have hne : S ≠ it := ne_of h3 h1 (fun z => nomatch z)
    have hln : l ≠ it := ne_of h2 h1 (fun z => nomatch z)
    have hlS : l ≠ S := ne_of h2 h3 (fun z => nomatch z)
    obtain ⟨its, rv, pl, _⟩ := I.tuple (SqT.of h2)
    have hlen := rv.length
    have hlt : i < ys.length := by omega
    obtain ⟨u, hu, ru⟩ := rv.get (i := i) (x := ys[i]) (by simp [hlt])
    refine codeAny_builtin PySem.F.entry_extend_loop ?_
    rw [Around.under_plainId PySem.F.plain_extend_loop _]
    show wpAny _ A1.in1 (pyNext (.ref it) >>= _) _ _ s
    refine wpAny_bind (wpAny_pyNext_tuple_item (titO_get I h1) (show s.heap.IsTuple l its.toArray from pl) (x := u) (by rw [List.getElem?_toArray]; exact hu) fun h' hit hs => ?_)
    have J := I.write (t' := s.toks) (x := it) (e := it) (o := TitO l it (i + 1)) (by rw [h1]; exact True.intro) (.inl rfl) (fun b o hb e => hs.extBut b o hb e) ⟨_, hit.choose_spec.1⟩ (titO_ok hit)
    have h3' : upd H it (TitO l it (i + 1)) S = some (.lst (ys.take i)) := by rw [upd_ne hne]; exact h3
    show wpAny _ A1.in1 (updateSeq S (·.push u) >>= _) _ _ _
    obtain ⟨z, its3, n3, r3, hl3, e3⟩ := J.lstM h3'
    have hl4 : its3.length = i := by rw [← hl3, List.length_take]; omega
    refine wpAny_bind (wpAny_updateSeq e3 rfl (wpAny_pure ⟨plainId_quiet PySem.F.plain_extend_loop _, ?_⟩) (by rw [List.size_toArray]; omega) (by show (its3.toArray.push u).size ≤ sizeLine + 1; rw [Array.size_push, List.size_toArray]; omega))
    have et : ys.take (i + 1) = ys.take i ++ [ys[i]] := by rw [List.take_succ]; simp [hlt]
    have J2 := J.lset (f := (·.push u)) (its' := its3 ++ [u]) (t' := s.toks) (ys := ys.take (i + 1)) h3' e3 (by simp) (by rw [et]; exact r3.append (.cons ru .nil)) (by rw [List.length_take]; omega)
    refine ih (i + 1) _ _ (by omega) hlt J2 ?_ ?_ upd_same hz fun H2 s2 I2 k2 e2 => hR H2 s2 I2 (fun b hb hc => ?_) e2
    · rw [upd_ne (Ne.symm hne), upd_same]
    · rw [upd_ne hlS, upd_ne hln]; exact h2
    · rw [k2 b hb hc, upd_ne hc, upd_ne hb]
/-- what such a class must have -/
structure ItL (K : PySem.W.Frag) (C fi fl : Addr) : Prop where
  it : PySem.W.findIn K (.ref C) "__iter__" = some (some (.ref fi))
  itF : PySem.W.isFn K (.ref fi) = true
  ln : PySem.W.findIn K (.ref C) "__len__" = some (some (.ref fl))
  lnF : PySem.W.isFn K (.ref fl) = true

/-- list(o): its __iter__ gives a tuple's iterator, its __len__ a number -/
def rLstIt (C : Addr) (spI spL : Sp) (EI EL : XK) : List V → Hp → VK → Prop := fun xs H Q => ∃ a dx fs, xs = [.ref a] ∧ H a = some (.ins C dx fs) ∧ ∀ q, H q = none → q ≠ a →
  spI [.ref a] (upd H q (.lst [])) (fun v H1 => ∃ it l ys, v = .ref it ∧ H1 it = some (TitO l it 0) ∧ H1 l = some (.tup ys) ∧ H1 q = some (.lst []) ∧ H1 a = some (.ins C dx fs) ∧ ys.length < sizeLine ∧
    spL [.ref a] H1 (fun n H2 => H2 = H1 ∧ ∃ k : Int, n = .int k ∧ 0 ≤ k ∧ k < 1000) EL ∧ ∀ H2, (∀ b, b ≠ it → b ≠ q → H2 b = H1 b) → H2 q = some (.lst ys) → Q (.ref q) H2) EI
section
variable {X : Cx} {CI : CXT} {n : Nat} {C fi fl : Addr} {fdI fdL : FuncData} {psI psL : List Str} {spI spL : Sp} {EI EL : XK}
theorem call_at0 {f : Addr} {fd : FuncData} {ps : List Str} {sp : Sp} {E : XK} (G0 : FnOk X.prog X.w X.K X.mg X.base CX0 n f fd ps sp) (hb : Binds X.K fd ps []) {A : Around} (hr : Room n A) (hA : A.frames = X.A.frames)
    {pins : List (Addr × Obj)} {s : Shared} {σ : L2.St} {H : Hp} (I : Inv X pins σ H s) {vs : List V} {us : List Value} (r : Vals vs us) {Q : VK} {EE : Value → Shared → Prop} (h : sp vs H Q E) :
    wpAny (model X.prog X.w) A (call (.ref f) us) (EP X pins σ Q) EE s := by
  have e0 : Env0 X.prog X.w X.K X.mg X.base A X.stack s H := by
    have e := I.env0
    exact ⟨by rw [hA]; exact e.frames, e.mod, e.bs, e.bsz, e.funs, e.frf, e.hok, e.bare⟩
  have hl := G0.len _ _ _ _ h
  refine wpAny_call (codeAny_mono (G0.run A X.stack s H ⟨us, []⟩ us vs Q E hr e0 (by
    have := hb s us I.kIn (by rw [List.append_nil, ← r.length]; exact hl)
    simpa using this) r h) fun r s' hq => ?_)
  cases r with
  | error e => exact False.elim hq
  | ok fl =>
    cases fl with
    | ret w => exact I.after hq
    | next => exact False.elim hq
    | brk => exact False.elim hq
    | cont => exact False.elim hq
theorem call_listIt (hc : ItL X.K C fi fl) (FI : FnOk X.prog X.w X.K X.mg X.base CI n fi fdI psI spI) (bI : Binds X.K fdI psI []) (xI : Passes CI X EI)
    (FL : FnOk X.prog X.w X.K X.mg X.base CX0 n fl fdL psL spL) (bL : Binds X.K fdL psL []) (hr : Room (n + 4) X.A) : CallR X (.type "list") (rLstIt C spI spL EI EL) := by
  intro pins s σ H xs us Q I rv h
  obtain ⟨a, dx, fs, rfl, ha, hq⟩ := h
  obtain ⟨u, rfl, ru⟩ := rv.one
  cases ru
  have sb : Sub X (n + 2) X.A.in1.in1 := (Sub.in1 (Sub.in1 (⟨hr, rfl⟩ : Sub X (n + 4) X.A)))
  refine callType_codes (Q₁ := fun obj s₁ => obj = .ref s.heap.objs.size ∧ s₁ = { s with heap := s.heap.push { cls := .type "list", data := .seq #[] } }) PySem.F.called_list (PySem.F.typeCall_list_1 _) PySem.F.entry_list_init (code_list_new _ ⟨rfl, rfl⟩) fun obj s₁ h₁ => ?_
  obtain ⟨rfl, rfl⟩ := h₁
  have hS : (s.heap.push { cls := .type "list", data := .seq #[] }).get? s.heap.objs.size = some { cls := .type "list", data := .seq #[] } := Heap.get?_push_size _ rfl
  refine ⟨⟨_, hS, rfl⟩, PySem.F.args_list_init_2 _ _, ?_⟩
  have fr : H s.heap.objs.size = none := I.hok.fresh (Nat.le_refl _)
  have sp0 := hq _ fr (fun z => by rw [z, ha] at fr; cases fr)
  have I1 : Inv X pins σ (upd H s.heap.objs.size (.lst [])) { s with heap := s.heap.push { cls := .type "list", data := .seq #[] } } := I.lnew (its := []) (t' := s.toks) .nil (Nat.zero_le _)
  show wpAny _ _ (do let old ← Builtin.List.listItems (.ref s.heap.objs.size); Builtin.List.listUpdate (.ref s.heap.objs.size) (fun _ => #[]); letGo old.toList.reverse; Builtin.List.listExtendWith (.ref s.heap.objs.size) (.ref a) .none) _ _ _
  refine wpAny_bind ?_
  unfold Builtin.List.listItems
  refine wpAny_bind (wpAny_seqItems hS rfl (wpAny_pure ?_))
  show wpAny _ _ (updateSeq s.heap.objs.size (fun _ => #[]) >>= fun _ => letGo (#[] : Array Value).toList.reverse >>= fun _ => Builtin.List.listExtendWith (.ref s.heap.objs.size) (.ref a) .none) _ _ _
  refine wpAny_bind (wpAny_updateSeq hS rfl ?_)
  have I2 := I1.lset (f := fun _ => #[]) (its := []) (its' := []) (ys := []) (t' := s.toks) upd_same hS rfl .nil (Nat.zero_le _)
  rw [upd_upd] at I2
  refine wpAny_bind (wpAny_letGo ?_)
  have ha2 : upd H s.heap.objs.size (.lst []) a = some (.ins C dx fs) := by rw [upd_ne (ne_of_none ha fr)]; exact ha
  have hne : s.heap.objs.size ≠ a := fun z => by rw [z, ha] at fr; cases fr
  generalize hq0 : s.heap.objs.size = q at *
  generalize hH0 : upd H q (.lst []) = H0 at *
  obtain ⟨mA, J, _⟩ := ins_get I2.hok ha2
  obtain ⟨od, J, _⟩ := J.look
  obtain ⟨m0, hF⟩ := I2.fr
  unfold Builtin.List.listExtendWith
  refine wpAny_bind (J.type.here ?_)
  have h1 : Builtin.List.listSameRef (.ref q) (.ref a) = false := by simp [Builtin.List.listSameRef, hne]
  simp only [h1, (rfl : (Value.ref C == Value.type "list") = false), (rfl : (Value.ref C == Value.type "tuple") = false), Bool.or_false, Bool.false_eq_true, if_false]
  refine wpAny_bind (PySem.W.owit_iter hF I2.ok.mod.kin J hc.it hc.itF ?_)
  refine wpAny_mono (call_at FI bI xI (A := X.A.in1.in1) (sb.mono (by omega)).room sb.fr I2 (vs := [.ref a]) (.cons rfl .nil) sp0) (fun v s3 z => ?_) fun _ _ z => z
  obtain ⟨x, H1, I3, r3, it, l, ys, ex, e1, e2, e3, e4, hz, q1, q2⟩ := z
  subst ex
  obtain rfl : v = Value.ref it := r3
  have hit := titO_get I3 e1
  unfold PySem.W.OwitIt
  refine wpAny_specialOf (show s3.TypeIs (.ref it) "tuple_iterator" from hit.typeIs) PySem.F.slot_tuple_iterator_next.lookup ?_
  show wpAny _ _ _ _ _ s3
  refine wpAny_bind (wpAny_holding ?_)
  obtain ⟨mB, J3, _⟩ := ins_get I3.hok e4
  obtain ⟨od3, J3, _⟩ := J3.look
  obtain ⟨m3, hF3⟩ := I3.fr
  unfold Builtin.List.listLengthHint
  refine wpAny_bind (wpAny_bind (J3.type.here ((PySem.W.looks_findIn I3.kIn hc.ln).here ?_)))
  refine PySem.W.KFB.if_not rfl ?_
  refine PySem.W.KFB.if_so rfl ?_
  refine wpAny_bind (wpAny_rule (wpAny_bind (wpAny_attempt ?_)))
  refine PySem.W.len_K hF3 I3.ok.mod.kin J3 hc.ln hc.lnF (wpAny_mono (call_at0 FL bL (A := X.A.in1.in1.in1) (Sub.in1 (sb.mono (show n + 1 ≤ n + 2 by omega))).room sb.fr I3 (vs := [.ref a]) (.cons rfl .nil) q1) (fun v s4 z => ?_) fun _ _ z => z)
  obtain ⟨x, H2, I4, r4, eH, k0, ek, hk0, hk1⟩ := z
  subst ek
  subst eH
  obtain ⟨tk4, rfl⟩ := r4
  refine ⟨⟨hk0, by omega⟩, ?_⟩
  refine wpAny_bind (wpAny_of_eq (a := some k0) rfl ?_)
  show wpAny _ _ (if Builtin.List.listTooLong k0.toNat = true then _ else _) _ _ _
  refine PySem.W.KFB.if_not (notLongL (by rw [sizeLine_eq]; omega)) (wpAny_pure ?_)
  have I5 := I4.tok (s4.toks + 1)
  have hne1 : q ≠ it := ne_of e3 e1 (fun z => nomatch z)
  have go : ∀ s5, Inv X pins σ H2 s5 → codeAny (model X.prog X.w) X.A.in1 (.builtin "list.extend.loop" ⟨[.ref q, .ref it, .none], []⟩) (wants (fun r s₂ => r = .none ∧ EP X pins σ Q (.ref q) s₂) X.xe) s5 := fun s5 I6 =>
    tit_loop (A1 := X.A.in1) (Rs := wants (fun r s₂ => r = .none ∧ EP X pins σ Q (.ref q) s₂) X.xe) (show X.A.in1.handled = none from hr.hd) ys.length 0 H2 s5 (by omega) (Nat.zero_le _) I6 e1 e2 (by rw [List.take_zero]; exact e3) hz fun H7 s7 I7 k7 e7 => ⟨rfl, .ref q, H7, I7, rfl, q2 H7 k7 e7⟩
  refine wpAny_ite_split (fun _ => ?_) (fun _ => wpAny_pure ⟨plainId_quiet PySem.F.plain_extend_loop _, go _ I5⟩)
  refine wpAny_bind (wpAny_rule (wpAny_bind ?_))
  show wpAny _ _ (updateSeq q (·.push .none) >>= fun _ => updateSeq q (·.pop)) _ _ _
  obtain ⟨z, its, n5, r5, hl5, e5⟩ := I5.lstM e3
  cases r5
  refine wpAny_bind (wpAny_updateSeq e5 rfl ?_)
  have I6 := I5.lset (f := (·.push Value.none)) (its' := [Value.none]) (ys := [.non]) (t' := s4.toks + 1) e3 e5 (by simp) (.cons rfl .nil) (by rw [List.length_singleton, sizeLine_eq]; decide)
  obtain ⟨z6, its6, n6, r6, hl6, e6⟩ := I6.lstM upd_same
  obtain ⟨u6, rfl, ru6⟩ := r6.one
  refine wpAny_updateSeq e6 rfl (wpAny_pure ⟨plainId_quiet PySem.F.plain_extend_loop _, go _ ?_⟩) (by show 1 ≤ sizeLine; rw [sizeLine_eq]; decide) (by show 0 ≤ sizeLine + 1; exact Nat.zero_le _)
  have I7 := I6.lset (f := (·.pop)) (its := [u6]) (its' := []) (ys := []) (t' := s4.toks + 1) upd_same e6 (by rfl) .nil (Nat.zero_le _)
  rw [upd_upd] at I7
  have hH : upd H2 q (.lst []) = H2 := by
    funext b
    by_cases hb : b = q
    · rw [hb, upd_same, e3]
    · rw [upd_ne hb]
  rw [hH] at I7
  exact I7
end
end
end My
set_option maxRecDepth 100000
set_option maxHeartbeats 2000000
namespace My
open PySem PySem.Spec PyProof.Rows L2
/-! ### enumerate(t), t a tuple -/
theorem enum_new1 {v : Value} {o : Obj} {G : Heap → Prop} (B : Begins v o G) :
    Meets (Builtin.«enumerate.__new__» ⟨[.type "enumerate", v], []⟩) (fun _ R s => G s.heap ∧
      R (.ok (.ret (.ref (s.heap.push o).objs.size))) { s with heap := (s.heap.push o).push { cls := .type "enumerate", data := .fields #[.none, .bool false, .ref s.heap.objs.size, rawInt 0, .none, .none] } }) := by
  refine .of_wp fun prog w A R s h => ?_
  obtain ⟨hp, g, d, tk, os⟩ := s
  obtain ⟨h1, h⟩ := h
  have hsub := sub_enumerate
  have goB : ∀ {A' : Around} {E Q : Value → Shared → Prop}, Q (.ref hp.objs.size) ⟨hp.push o, g, d, tk, os⟩ → wpAny (model prog w) A' (pyIter v) Q E ⟨hp, g, d, tk, os⟩ := fun q => B.iter prog w _ _ ⟨hp, g, d, tk, os⟩ _ h1 q
  wp_walk using goB
  refine wpAny_stack_any fun st => wpAny_pure ?_
  split
  · rename_i c _ _ _ _ _
    cases (c == Value.type "enumerate") <;> (wp_walk using goB; exact ⟨_, rfl, h⟩)
  · wp_walk using goB
    exact ⟨_, rfl, h⟩
theorem call_enum1 {prog : Program} {w : World} {A : Around} {E : Value → Shared → Prop} {s : Shared} {v : Value} {o : Obj} {G : Heap → Prop} {Q : Value → Shared → Prop} (B : Begins v o G) (h1 : G s.heap)
    (h : ∀ h', IsEnum h' (s.heap.objs.size + 1) s.heap.objs.size 0 .none → h'.get? s.heap.objs.size = some o → (∀ b o, s.heap.get? b = some o → h'.get? b = some o) → Q (.ref (s.heap.objs.size + 1)) { s with heap := h' }) :
    wpAny (model prog w) A (call (.type "enumerate") [v]) Q E s := by
  refine callType_new PySem.F.called_enumerate (by decide) (PySem.F.typeCall_enumerate_1 _) (PySem.F.newCall_enumerate_1 _) (fun obj => PySem.F.args_object_init_2 obj _) PySem.F.entry_enumerate_new (enum_new1 B) ⟨h1, ?_⟩
  have hz : (s.heap.push o).objs.size = s.heap.objs.size + 1 := Heap.size_push ..
  show _ ∧ _
  rw [hz]
  have he : IsEnum ((s.heap.push o).push { cls := .type "enumerate", data := .fields #[.none, .bool false, .ref s.heap.objs.size, rawInt 0, .none, .none] }) (s.heap.objs.size + 1) s.heap.objs.size 0 .none := by
    have q := Heap.get?_push_size (s.heap.push o) (o := { cls := .type "enumerate", data := .fields #[.none, .bool false, .ref s.heap.objs.size, rawInt 0, .none, .none] }) rfl
    rwa [hz] at q
  exact ⟨⟨_, he, rfl⟩, h _ he (Heap.get?_push_of_some _ (Heap.get?_push_size _ B.free)) fun b o x => Heap.get?_push_of_some _ (Heap.get?_push_of_some _ x)⟩
def IteT (K : PySem.W.Frag) (a : Addr) : It :=
  ⟨fun i H => ∃ (xs : List V) (x : V), SqT K H a xs ∧ xs[i]? = some x, fun i H v H' => ∃ T x, v = .ref T ∧ H T = none ∧ H' = upd H T (.tup [.int (i : Nat), x]) ∧ ∀ xs, SqT K H a xs → xs[i]? = some x, fun i H => ∃ xs : List V, SqT K H a xs ∧ xs.length ≤ i⟩
theorem turn_enumT {P : Program} {w : World} {K : PySem.W.Frag} {elts : List Expr} {kk : Nat} {tpos : Pos} (a e it : Addr) (hae : a ≠ e) (hai : a ≠ it) :
    Turn P w K (.Tuple elts kk tpos) (IteT K a) [e, it] e (fun i h => (∃ old, IsEnum h e it ((i : Nat) : Int) old) ∧ h.IsTupleIter it a i ∧ e ≠ it) where
  mem := by simp
  obj := fun i h st b hb => by
    obtain ⟨⟨old, he⟩, ⟨o, ho, hc, hd⟩, _⟩ := st
    have e' : b = e ∨ b = it := by simpa using hb
    rcases e' with z | z
    · rw [z]; exact ⟨_, he, fun v q => nomatch q⟩
    · rw [z]; exact ⟨o, ho, fun v q => by rw [hd] at q; cases q⟩
  keep := fun i h h' st k => let ⟨⟨old, he⟩, hi, hne⟩ := st; ⟨⟨old, k e (by simp) _ he⟩, hi.at fun o q => k it (by simp) o q, hne⟩
  item := by
    intro X hP hw hK hc i pins s σ H E I hf st hg
    subst hP hw hK
    obtain ⟨⟨old, he⟩, hit, hne⟩ := st
    obtain ⟨xs, x, hq, hx⟩ := hg
    obtain ⟨its, rv, p, hz⟩ := I.tuple hq
    obtain ⟨u, hu, ru⟩ := rv.get hx
    have hel : e < s.heap.objs.size := Heap.lt_size he
    have hil : it < s.heap.objs.size := by obtain ⟨_, q, _⟩ := hit; exact Heap.lt_size q
    have hlt : i < its.toArray.size := by rw [List.size_toArray]; exact (List.getElem?_eq_some_iff.mp hu).1
    refine wpAny_pyNext_enum_itemD (Draws.tuple (A := X.A.in1) (show X.A.in1.handled = none from I.ok.hd hc) it a hai its.toArray) he ⟨hit, p⟩ hlt hne (by simp [hne, Ne.symm hae]) fun x1 h' tk px ho st' hT hsz hk => ?_
    obtain ⟨hit', _⟩ := st'
    have ex1 : x1 = u := by
      rw [List.getElem?_toArray, hu] at px
      exact (Option.some.inj px).symm
    subst ex1
    refine ⟨_, rfl, wpAny_letOwnedTupleGo_enum (s := { s with heap := h', toks := tk + 1 }) ho fun h'' he' sb => ?_⟩
    have hT2 : h''.get? s.heap.objs.size = some { cls := .type "tuple", data := .seq #[.int i tk, x1] } := (sb.2 _ (Nat.ne_of_gt hel)).trans hT
    have new : ObjOk X.prog X.w (upd H s.heap.objs.size (.tup [.int (i : Nat), x])) h'' s.heap.objs.size (.tup [.int (i : Nat), x]) :=
      ⟨by show 2 ≤ sizeLine; decide, [.int i tk, x1], .cons ⟨_, rfl⟩ (.cons ru .nil), ⟨_, hT2, rfl, _, rfl⟩⟩
    have I1 : Inv X pins σ (upd H s.heap.objs.size (.tup [.int (i : Nat), x])) { s with heap := h'', toks := tk + 1 } :=
      I.turnedNew (ch := [e, it]) (fun b ob hb q => (sb.2 b (fun z => hb (by simp [z]))).trans (hk b ob (fun z => hb (by simp [z])) (fun z => hb (by simp [z])) q)) hf (Nat.le_refl _) new
    refine ⟨.ref s.heap.objs.size, _, I1, rfl, ⟨_, x, rfl, I.hok.fresh (Nat.le_refl _), rfl, fun ys hy => by rw [I.tuple_inj hy hq]; exact hx⟩, ⟨⟨x1, ?_⟩, hit'.at fun o q => (sb.2 it (Ne.symm hne)).trans q, hne⟩, fun b hb => ?_⟩
    · rw [show ((i + 1 : Nat) : Int) = (i : Int) + 1 by omega]; exact he'
    · have hb' : b < s.heap.objs.size := by
        rcases (by simpa using hb : b = e ∨ b = it) with z | z
        · rw [z]; exact hel
        · rw [z]; exact hil
      rw [upd_ne (Nat.ne_of_lt hb')]; exact (hf b hb).1
  done := by
    intro X hP hw hK hc i pins s σ H E I hf st hg
    subst hP hw hK
    obtain ⟨⟨old, he⟩, hit, hne⟩ := st
    obtain ⟨xs, hq, hx⟩ := hg
    obtain ⟨its, rv, p, hz⟩ := I.tuple hq
    obtain ⟨f0, f1, f2, f3, f4, f5⟩ := hf it (by simp)
    have hl := rv.length
    have hno : (its.toArray)[i]? = none := by rw [List.getElem?_toArray, List.getElem?_eq_none_iff]; omega
    have D : Draws X.prog X.w X.A.in1 it [it, a] i (fun _ _ => True) (fun j h => j = i ∧ h.IsTupleIter it a i ∧ h.IsTuple a its.toArray) :=
      ⟨fun _ _ st => ⟨_, st.2.1.choose_spec.1⟩, fun _ _ _ st hk => ⟨st.1, st.2.1.at fun o q => hk it (by simp) o q, st.2.2.at fun o q => hk a (by simp) o q⟩,
        fun j s Q E hj st _ => absurd st.1 (Nat.ne_of_lt hj), fun s Q E st hE => wpAny_nextOf_tuple_end (show X.A.in1.handled = none from I.ok.hd hc) st.2.1 st.2.2 hno hE⟩
    exact wpAny_pyNext_enum_endD D he ⟨rfl, hit, p⟩ fun h' eb => ⟨rfl, I.turned (t' := s.toks) (fun b o hb q => eb b o hb q) f0 f1 f3 f4 f5⟩
  self := fun A i s Q E st h => let ⟨⟨_, he⟩, _⟩ := st; wpAny_pyIter_enum he h
def iEnumT (K : PySem.W.Frag) (ta : TA) : TI := fun σ H R => ta σ H fun vs H1 => ∃ a xs, vs = [.ref a] ∧ SqT K H1 a xs ∧ R (IteT K a) H1
theorem pi_enumT {X : Cx} {e : Expr} {ta : TA} {p pos tpos : Pos} {elts : List Expr} {kk : Nat} (hg : Gl X "enumerate") (hm : X.mg "enumerate" = none) (ha : PA X [e] ta) (hs : starEach [e] X.env = [(false, eval e X.env)] := by rfl) :
    PI X (.Tuple elts kk tpos) (.Call (.Name "enumerate" p) [e] [] pos) (iEnumT X.K ta) := by
  refine ⟨fun pins s σ H R I h => ?_⟩
  refine Call_ (ld_blt I hg hm boot_enumerate (PyProof.Rows.callWith_type1 (thn (ha.run pos pins s σ H _ I h) fun us s1 ⟨vs, H1, I1, r1, a, xs, ex, hq, q⟩ => ?_) hs rfl))
  subst ex
  obtain rfl := Vals.ref1 r1
  obtain ⟨its, rv, p', hz⟩ := I1.tuple hq
  have hal : a < s1.heap.objs.size := by obtain ⟨_, z, _⟩ := p'; exact Heap.lt_size z
  refine call_enum1 (begins_tuple a its.toArray) (show s1.heap.IsTuple a its.toArray from p') fun h' he hit hk => wpAny_pyIter_enum he ?_
  have I2 : Inv X pins σ H1 { s1 with heap := h' } := I1.kept (t' := s1.toks) hk
  refine ⟨s1.heap.objs.size + 1, [s1.heap.objs.size + 1, s1.heap.objs.size], _, _, H1, rfl, I2, turn_enumT a (s1.heap.objs.size + 1) s1.heap.objs.size (Nat.ne_of_lt (Nat.lt_succ_of_lt hal)) (Nat.ne_of_lt hal), ⟨⟨.none, he⟩, ⟨_, hit, rfl, rfl⟩, Nat.succ_ne_self _⟩, fun b hb => ?_, q⟩
  have hle : s1.heap.objs.size ≤ b := by
    rcases (by simpa using hb : b = s1.heap.objs.size + 1 ∨ b = s1.heap.objs.size) with z | z
    · rw [z]; exact Nat.le_add_right _ _
    · rw [z]; exact Nat.le_refl _
  exact I1.fpOk hle (I1.hok.fresh hle)
theorem walk_enumT {K : PySem.W.Frag} {a : Addr} {xs : List V} : Walk (IteT K a) xs.length (fun H => SqT K H a xs) (YPair (fun i => some (.int (i : Nat))) (fun i => xs[i]?)) := by
  refine ⟨fun i _ hi q => ⟨xs, xs[i], q, by simp [hi]⟩, fun _ q => ⟨xs, q, Nat.le_refl _⟩, fun i H v H' _ q y => ?_⟩
  obtain ⟨T, x, h1, h2, h3, h4⟩ := y
  exact ⟨T, .int (i : Nat), x, h1, h2, h3, rfl, h4 xs q⟩
end My
set_option maxRecDepth 100000
namespace My
open PySem L2
section
variable {X : Cx}
/-- xs.count(y), flat items -/
def rCntF (K : PySem.W.Frag) : V → List V → Hp → VK → Prop := fun x xs H Q => ∃ (a : Addr) (ys : List V) (y : V), x = .ref a ∧ xs = [y] ∧ SqL K H a ys ∧ flatV y = true ∧ ys.all flatV = true ∧ Q (.int (ys.countP (fun z => eqV z y) : Nat)) H
theorem count_eqU {y : V} : ∀ {ys : List V} {us : List Value}, Vals ys us → ys.all flatV = true → us.countP (eqU y) = ys.countP (fun z => eqV z y)
  | _, _, .nil, _ => rfl
  | z :: ys, u :: us, .cons r t, f => by
    rw [List.all_cons, Bool.and_eq_true] at f
    rw [List.countP_cons, List.countP_cons, count_eqU t f.2, eqU_of r f.1]
theorem mt_fcount : MtR X "list.count" (rCntF X.K) := by
  intro pins s σ H x xs v us Q I rx rxs h
  obtain ⟨a, ys, y, rfl, rfl, hs, fy, fys, q⟩ := h
  cases rx
  cases rxs with
  | cons ry rt =>
    rename_i uy ut
    cases rt
    obtain ⟨its, rv, ⟨⟨cls, dd, data, sl⟩, n, ho, hc, hdn, hd⟩, hlen⟩ := I.list hs
    simp only at hc hd
    subst hc hd
    refine call_meets PySem.F.slot_list_count ⟨_, ho, rfl⟩ PySem.F.entry_list_count (PySem.F.args_list_count_2 _ _)
      (SeqAt.list_countAt a its.toArray n dd sl uy (eqU y)) ⟨ho, fun u' hu' => mem_eqAt ry fy rv fys u' (by simpa using hu'), ?_⟩
    have ec : its.toArray.toList.countP (eqU y) = ys.countP (fun z => eqV z y) := count_eqU rv fys
    refine ⟨.int (ys.countP (fun z => eqV z y) : Nat), H, I.tok _, ⟨s.toks, ?_⟩, q⟩
    rw [← ec]
end
end My
set_option maxRecDepth 100000
set_option maxHeartbeats 4000000
namespace PySem.SeqAt
open PySem PySem.Spec PyProof.Rows
/-- tuple's own __lt__, called as sorting calls it -/
theorem call_tuple_lt {prog : Program} {w : World} {A : Around} {s : Shared} {E : Value → Shared → Prop} {Q : Value → Shared → Prop} {l b : Addr} {items items2 : Array Value} {e r : Nat → Bool} (hl : s.heap.IsTuple l items) (hb : s.heap.IsTuple b items2)
    (he : ∀ j (h1 : j < items.size) (h2 : j < items2.size), EqAt A.in1 s items[j] items2[j] (e j)) (hr : ∀ j (h1 : j < items.size) (h2 : j < items2.size), e j = false → RcLt A.in1 s items[j] items2[j] (r j))
    (h : Q (.bool (firstLt e r (decide (items.size < items2.size)) (List.range (min items.size items2.size)))) s) : wpAny (model prog w) A (call (.builtin "tuple.__lt__") [.ref l, .ref b]) Q E s := by
  obtain ⟨⟨cls, dd, data, sl⟩, ho, hc, n, hd⟩ := id hl
  obtain ⟨⟨cls2, dd2, data2, sl2⟩, ho2, hc2, n2, hd2⟩ := id hb
  simp only at hc hd hc2 hd2
  subst hc hd hc2 hd2
  exact call_meets F.slot_tuple_lt ⟨_, ho, rfl⟩ F.entry_tuple_lt (F.args_tuple_lt_2 _ _) (tuple_ltAt l b items items2 n n2 dd dd2 sl sl2 e r) ⟨ho, ho2, he, hr, h⟩
end PySem.SeqAt
namespace PySem.W
open PySem PySem.Calls PyProof.Rows PySem.SeqAt
abbrev encT (b : List Int) : PyData := .tuple (b.map .int)
abbrev encL (b : List Int) : PyData := .list (b.map .int)
section
variable {prog : Program} {w : World} {A : Around} {E : Value → Shared → Prop} {s : Shared}
theorem oneLt_tup {xs ys : List PyData} {a b : Value} {as bs : List Addr} {Q : Bool → Shared → Prop} (ra : Reads s.heap a (.tuple xs) as) (rb : Reads s.heap b (.tuple ys) bs) (hal : alikeAll xs ys = true)
    (hu : A.units + min (PyData.depth (.tuple xs)) (PyData.depth (.tuple ys)) < cLine) (hq : Q (dataLt (.tuple xs) (.tuple ys)) s) : wpAny (model prog w) A (oneLt' true a b) Q E s := by
  cases ra with
  | @tuple l o vs n _ as₁ h1 h2 h3 h4 =>
    cases rb with
    | @tuple l' o' vs' n' _ bs₁ k1 k2 k3 k4 =>
      have n1 : vs.size = xs.length := by simpa using ReadsAll.length _ _ _ h4
      have n2 : vs'.size = ys.length := by simpa using ReadsAll.length _ _ _ k4
      rw [dataLt_tuple, ← firstLt_toks xs ys hal, ← n1, ← n2] at hq
      rw [oneLt'_eq]
      simp only [if_true]
      refine wpAny_bind (wpAny_cRoomFor (room_here hu) ?_)
      refine wpAny_bind (wpAny_callSpecialIfBound?_slot (T := "tuple") ⟨_, h1, h2⟩ F.slot_tuple_lt (call_tuple_lt (e := pairEq xs ys) (r := fun j => dataLt (xs.getD j .none) (ys.getD j .none)) ⟨_, h1, h2, _, h3⟩ ⟨_, k1, k2, _, k3⟩ (fun j j1 j2 => ?_) (fun j j1 j2 hj => ?_) ?_))
      · have := eqAt_alikeAll xs ys A.in1 s vs.toList vs'.toList _ _ h4 k4 hal (room_in hu) j (by simpa using j1) (by simpa using j2)
        simpa using this
      · have := rcLt_alikeAll xs ys A.in1 s vs.toList vs'.toList _ _ h4 k4 hal (room_in hu) j (by simpa using j1) (by simpa using j2) hj
        simpa using this
      · exact wpAny_truthy_bool hq
end
/-! ### which kind of keys tuples of ints are -/
section
variable {M : Model} {A : Around} {E : Value → Shared → Prop} {s : Shared}
theorem tup_firsts : ∀ (vs : List Value) (bs : List (List Int)) {Q : List (Option Value) → Shared → Prop}, EachIs (fun v b => ∃ as, Reads s.heap v (encT b) as) vs bs → (∀ fs : List (Option Value), EachIs (fun f b => f.isSome = !b.isEmpty) fs bs → Q fs s) → wpAny M A (vs.mapM firstOfTuple') Q E s
  | [], [], _, _, h => by rw [List.mapM_nil]; exact wpAny_pure (h [] .nil)
  | [], _ :: _, _, e, _ => nomatch e
  | _ :: _, [], _, e, _ => nomatch e
  | v :: vs, b :: bs, Q, .cons ⟨as, r⟩ e, h => by
    rw [List.mapM_cons]
    refine wpAny_bind ?_
    rw [kas_first_eq]
    cases r with
    | @tuple a o xs n _ _ ho hc hd hr =>
      refine wpAny_bind (Looks.here (show Looks M s.heap (typeOf (.ref a)) o.cls from (Looks.ld ho).andThen .now) ?_)
      rw [hc, if_neg (by first | decide | simp)]
      refine wpAny_bind (listItems_at ho hd (wpAny_pure ?_))
      refine wpAny_bind (tup_firsts vs bs (Q := fun fs s' => wpAny M A (pure (xs[0]? :: fs)) Q E s') e fun fs hf => wpAny_pure (h _ (.cons ?_ hf)))
      have hl := SeqAt.ReadsAll.length _ _ _ hr
      rw [List.length_map] at hl
      have hl : xs.size = b.length := by simpa using hl
      cases b with
      | nil => rw [Array.getElem?_eq_none (by rw [hl]; exact Nat.zero_le _)]; rfl
      | cons x t => rw [Array.getElem?_eq_getElem (by rw [hl]; exact Nat.succ_pos _)]; rfl
theorem tup_kind {vs : List Value} {bs : List (List Int)} {Q : SortKind → Shared → Prop} (e : EachIs (fun v b => ∃ as, Reads s.heap v (encT b) as) vs bs) {b0 : List Int} {bt : List (List Int)} (hb : bs = b0 :: bt) (hne : [] ∈ bs)
    (h : Q (if b0.isEmpty then oneType' else general') s) : wpAny M A (keyKind' vs.toArray) Q E s := by
  rw [keyKind'_eq, List.mapM_toArray, map_eq_pure_bind]
  refine wpAny_bind (wpAny_bind (tup_firsts vs bs e fun fs hf => wpAny_pure ?_))
  have hall : ¬ (fs.toArray.all fun x => x.isSome) = true := fun z => by
    simp only [List.all_toArray, List.all_eq_true] at z
    have : ∀ {fs : List (Option Value)} {bs : List (List Int)}, EachIs (fun f b => f.isSome = !b.isEmpty) fs bs → (∀ f ∈ fs, f.isSome = true) → [] ∉ bs := by
      intro fs bs hf
      induction hf with
      | nil => intro _ h; cases h
      | cons h t ih =>
        intro z hm
        rcases List.mem_cons.mp hm with hm | hm
        · subst hm
          have := z _ List.mem_cons_self
          rw [h] at this
          cases this
        · exact ih (fun f hf => z f (List.mem_cons_of_mem _ hf)) hm
    exact this hf z hne
  rw [if_neg hall]
  subst hb
  cases hf with
  | @cons f _ ft _ h0 ht =>
  have e0 : ((f :: ft).toArray[0]?.bind id) = f := by simp
  rw [e0]
  cases b0 with
  | cons x t =>
    have h0 : f.isSome = true := h0
    rw [if_pos h0]
    exact wpAny_pure h
  | nil =>
    have h0 : f.isSome = false := h0
    rw [if_neg (by rw [h0]; decide)]
    rw [oneTypeOnly'_eq, List.mapM_toArray, map_eq_pure_bind]
    have tk : ∀ {vs : List Value} {bs : List (List Int)}, EachIs (fun v b => ∃ as, Reads s.heap v (encT b) as) vs bs → ∀ v ∈ vs, Looks M s.heap (typeOf v) (.type "tuple") := by
      intro vs bs e
      induction e with
      | nil => intro v hv; cases hv
      | cons h t ih =>
        intro v hv
        rcases List.mem_cons.mp hv with rfl | hv
        · obtain ⟨as, r⟩ := h
          exact looks_reads r
        · exact ih v hv
    refine wpAny_bind (wpAny_bind (wpAny_bind (kas_mapM (r := Value.type "tuple") _ (fun v hv Q' hq => (tk e v hv).here hq) (wpAny_pure ?_))))
    have hlen : 0 < vs.length := by rw [e.length]; exact Nat.succ_pos _
    have hall2 : ((List.map (fun _ => Value.type "tuple") vs).toArray.all fun x => x == Value.type "tuple") = true := by
      simp only [List.all_toArray, List.all_map, List.all_eq_true]
      intro _ _
      exact beq_self_eq_true _
    have h00 : (List.map (fun _ => Value.type "tuple") vs).toArray[0]? = some (Value.type "tuple") := by
      cases vs with
      | nil => cases hlen
      | cons a t => simp
    rw [h00]
    simp only [hall2, if_true]
    exact wpAny_pure (wpAny_pure h)
end
section
variable {prog : Program} {w : World} {A : Around} {E : Value → Shared → Prop} {s : Shared}
theorem alike_encT (b b' : List Int) : alike (encT b) (encT b') = true := by
  show alikeAll _ _ = true
  exact alike_ints b b'
theorem depth_encT (b : List Int) : (encT b).depth = 1 := by
  show PyData.depth (.tuple _) = 1
  simp only [PyData.depth]
  rw [depth_ints]
theorem SortsAt.tupI {vs : List Value} {bs : List (List Int)} (e : EachIs (fun v b => ∃ as, Reads s.heap v (encT b) as) vs bs) (hu : A.units + 2 < cLine) : SortsAt prog w A s (dataKind s.heap (bs.map encT)) vs := by
  have e' := each_map (R := fun v d => ∃ as, Reads s.heap v d as) encT e
  have hal : AllAlike (bs.map encT) := AllAlike.of fun b b' => alike_encT b b'
  have hd : ∀ d ∈ bs.map encT, A.units + d.depth < cLine := fun d hd => by
    obtain ⟨b, _, rfl⟩ := List.mem_map.mp hd
    rw [depth_encT]; omega
  by_cases hne : [] ∈ bs
  · cases bs with
    | nil => cases hne
    | cons b0 bt =>
    refine ⟨fun v hv => ?_, ⟨_, ?_, fun h2 E Q hq => tup_kind e rfl hne hq⟩⟩
    · obtain ⟨d, hd, as, r⟩ := e'.left v hv
      exact ⟨_, dataKind_some hal hd r⟩
    · intro E x y a b Q ha hb hq
      obtain ⟨d, as, hd1, ra, rfl⟩ := dataKind_inv ha
      obtain ⟨d', as', hd', rb, rfl⟩ := dataKind_inv hb
      have hq : Q (dataLt d d') s := hq
      obtain ⟨c, _, rfl⟩ := List.mem_map.mp hd1
      obtain ⟨c', _, rfl⟩ := List.mem_map.mp hd'
      have hroom : A.units + min (encT c).depth (encT c').depth < cLine := by rw [depth_encT, depth_encT]; omega
      split
      · rw [keyLt'_oneType]
        exact oneLt_tup ra rb (alike_ints c c') hroom hq
      · show wpAny _ _ (oneLt' false x y) _ _ _
        exact oneLt_alike (fun z => nomatch z) ra rb (alike_encT c c') (fun z => nomatch z) hroom hq
  · exact SortsAt.data e' hal (.inl fun d hd => by
      obtain ⟨b, hb, rfl⟩ := List.mem_map.mp hd
      cases b with
      | nil => exact absurd hb hne
      | cons x t => exact ⟨_, _, rfl⟩) hd
theorem dataLe_encT : dataLe false encT = fun p q : List Int => decide (p ≤ q) := by
  rw [← dataLe_rows (fun b : List Int => b)]
  funext p q
  show (!dataLt (encT q) (encT p)) = !dataLt (encL q) (encL p)
  rw [show dataLt (encT q) (encT p) = dataLt (encL q) (encL p) from (dataLt_tuple _ _).trans (dataLt_list _ _).symm]
/-- sorted of tuples of ints, empty ones among them -/
theorem sorted_tupsI {l : Addr} {vs : List Value} {bs : List (List Int)} {R : Value → List Int → Prop} {Q : Value → Shared → Prop} (hl : s.heap.IsList l vs.toArray) (e : EachIs R vs bs) (er : EachIs (fun v b => ∃ as, Reads s.heap v (encT b) as) vs bs) (hL : bs.length ≤ sizeLine)
    (hu : A.units + 4 < cLine) (h : ∀ out, out.length = bs.length → EachIs R out (bs.mergeSort fun p q => decide (p ≤ q)) → Q (.ref (s.heap.objs.size + 1)) { s with heap := sortedAll s.heap vs (List.toArray out) }) :
    wpAny (model prog w) A (call (.builtin "sorted") [.ref l]) Q E s := by
  have er' : EachIs (fun v b => ∃ as, Reads (sortingHeap (copyHeap s.heap vs) (s.heap.objs.size + 1) vs) v (encT b) as) vs bs := er.mono fun _ _ ⟨as, r⟩ => ⟨as, PyProof.Rows.Reads.keeps (fun _ _ => sorting_copy_old) r⟩
  refine sorted_vals hl (SortsAt.tupI (s := { s with heap := sortingHeap (copyHeap s.heap vs) (s.heap.objs.size + 1) vs }) er' (by show A.units + 1 + 1 + 2 < cLine; omega)) (by rw [e.length]; exact hL) ?_
  refine h _ (by rw [sortVals_length false rfl]; exact e.length) ?_
  have := sortVals_data false e er' (AllAlike.of fun b b' => alike_encT b b')
  rw [dataLe_encT] at this
  exact this
end
end PySem.W
namespace L2
open PySem PySem.Spec PyProof.Rows PySem.W
theorem vals_each {Rv : V → List Int → Prop} : ∀ {xs : List V} {us : List Value} {bs : List (List Int)}, Vals xs us → EachIs Rv xs bs → EachIs (fun v b => ∃ x, RelV x v ∧ Rv x b) us bs
  | _, _, _, .nil, .nil => .nil
  | _, _, _, .cons r t, .cons h e => .cons ⟨_, r, h⟩ (vals_each t e)
theorem each_vals {Rv : V → List Int → Prop} : ∀ {us : List Value} {bs : List (List Int)}, EachIs (fun v b => ∃ x, RelV x v ∧ Rv x b) us bs → ∃ ys, Vals ys us ∧ EachIs Rv ys bs
  | _, _, .nil => ⟨[], .nil, .nil⟩
  | _, _, .cons ⟨x, r, h⟩ e => let ⟨ys, a, b⟩ := each_vals e; ⟨x :: ys, .cons r a, .cons h b⟩
def rSortD (K : PySem.W.Frag) (enc : List Int → PyData) : List V → Hp → VK → Prop := fun vs H Q => ∃ (a : Addr) (xs : List V) (bs : List (List Int)) (Rv : V → List Int → Prop), vs = [.ref a] ∧ SqL K H a xs ∧ EachIs Rv xs bs ∧ (∀ x b, Rv x b → Dp K H x (enc b)) ∧
  ∀ ys p, EachIs Rv ys (bs.mergeSort fun p q => decide (p ≤ q)) → H p = none → Q (.ref p) (upd H p (.lst ys))
section
variable {X : Cx}
theorem cr_sortTI (hu : X.A.units + 10 < cLine) : CallR X (.builtin "sorted") (rSortD X.K encT) := by
  intro pins s σ H vs us Q I r h
  obtain ⟨a, xs, bs, Rv, rfl, hs, hx, hd, q⟩ := h
  obtain ⟨its, rv, hl, hz⟩ := I.list hs
  obtain ⟨u, rfl, ru⟩ := vals1 r
  obtain rfl : u = Value.ref a := ru
  have e := vals_each rv hx
  have er : EachIs (fun v b => ∃ as, Reads s.heap v (encT b) as) its bs := e.mono fun v b ⟨x, rx, hr⟩ => Dp.reads I _ _ _ (hd x b hr) rx
  have hbl : bs.length = its.length := e.length.symm
  refine sorted_tupsI hl.isList e er (by rw [hbl, ← rv.length]; exact hz) (by omega) fun out ho eo => ?_
  obtain ⟨ys, vy, ey⟩ := each_vals eo
  obtain ⟨ep, he'⟩ := PyProof.Rows.sortedAll_at s.heap its (List.toArray out)
  have hlen : ys.length ≤ sizeLine := by rw [vy.length, ho, hbl, ← rv.length]; exact hz
  exact ⟨.ref _, upd H (s.heap.objs.size + 1) (.lst ys), I.laid (t' := s.toks) (fun _ _ => PyProof.Rows.sortedAll_old) (Nat.le_succ _) ⟨hlen, out, ep, vy, he'⟩, rfl, q _ _ ey (I.hok.fresh (Nat.le_succ _))⟩
theorem cr_sortLI (hu : X.A.units + 10 < cLine) : CallR X (.builtin "sorted") (rSortD X.K encL) := by
  intro pins s σ H vs us Q I r h
  obtain ⟨a, xs, bs, Rv, rfl, hs, hx, hd, q⟩ := h
  obtain ⟨its, rv, hl, hz⟩ := I.list hs
  obtain ⟨u, rfl, ru⟩ := vals1 r
  obtain rfl : u = Value.ref a := ru
  have e := vals_each rv hx
  have er : EachIs (fun v b => ∃ as, Reads s.heap v (encL b) as) its bs := e.mono fun v b ⟨x, rx, hr⟩ => Dp.reads I _ _ _ (hd x b hr) rx
  have hbl : bs.length = its.length := e.length.symm
  refine sorted_data hl.isList e er (AllAlike.of fun b b' => by show alikeAll _ _ = true; exact alike_ints b b') (Sortable.others fun b => ⟨fun z => (nomatch z), fun _ z => (nomatch z)⟩) (by rw [hbl, ← rv.length]; exact hz) (fun b _ => ?_) fun out ho eo => ?_
  · have : (encL b).depth = 1 := by show PyData.depth (.list _) = 1; simp only [PyData.depth]; rw [depth_ints]
    omega
  rw [show dataLe false encL = fun p q : List Int => decide (p ≤ q) from dataLe_rows (fun b : List Int => b)] at eo
  obtain ⟨ys, vy, ey⟩ := each_vals eo
  obtain ⟨ep, he'⟩ := PyProof.Rows.sortedAll_at s.heap its (List.toArray out)
  have hlen : ys.length ≤ sizeLine := by rw [vy.length, ho, hbl, ← rv.length]; exact hz
  exact ⟨.ref _, upd H (s.heap.objs.size + 1) (.lst ys), I.laid (t' := s.toks) (fun _ _ => PyProof.Rows.sortedAll_old) (Nat.le_succ _) ⟨hlen, out, ep, vy, he'⟩, rfl, q _ _ ey (I.hok.fresh (Nat.le_succ _))⟩
end
end L2
set_option maxRecDepth 100000
set_option maxHeartbeats 4000000
namespace My
open PySem L2 PySem.Spec PyProof.Rows
section
variable {X : Cx} {CX : CXT} {n : Nat} {f C : Addr} {fd : FuncData} {ps : List Str} {sp : Sp}
/-- a promise that may raise, called anywhere in the running body -/
theorem call_atS {σ : L2.St} {E : XK} (G0 : FnOk X.prog X.w X.K X.mg X.base CX n f fd ps sp) (hb : Binds X.K fd ps []) (hx : PassesAt CX X σ E) {A : Around} (hr : Room n A) (hA : A.frames = X.A.frames)
    {pins : List (Addr × Obj)} {s : Shared} {H : Hp} (I : Inv X pins σ H s) {vs : List V} {us : List Value} (r : Vals vs us) {Q : VK} (h : sp vs H Q E) :
    wpAny (model X.prog X.w) A (call (.ref f) us) (EP X pins σ Q) X.xe s := by
  have e0 : Env0 X.prog X.w X.K X.mg X.base A X.stack s H := by
    have e := I.env0
    exact ⟨by rw [hA]; exact e.frames, e.mod, e.bs, e.bsz, e.funs, e.frf, e.hok, e.bare⟩
  have hl := G0.len _ _ _ _ h
  refine wpAny_call (codeAny_mono (G0.run A X.stack s H ⟨us, []⟩ us vs Q E hr e0 (by
    have := hb s us I.kIn (by rw [List.append_nil, ← r.length]; exact hl)
    simpa using this) r h) fun r s' hq => ?_)
  cases r with
  | error e => exact hx pins H s e s' I hq
  | ok fl =>
    cases fl with
    | ret w => exact I.after hq
    | next => exact False.elim hq
    | brk => exact False.elim hq
    | cont => exact False.elim hq
/-- a[b], a an instance of the class at C with its own __getitem__ -/
def tIxOwn (C : Addr) (sp : Sp) (E : L2.St → XK) (ta tb : TE) : TE := fun σ H Q => ta σ H fun x H1 => tb σ H1 fun y H2 => ∃ p dx fs, x = .ref p ∧ H2 p = some (.ins C dx fs) ∧ sp [.ref p, y] H2 Q (E σ)
theorem pe_ixOwn {a b : Expr} {ta tb : TE} {pos : Pos} {E : L2.St → XK} (G0 : FnOk X.prog X.w X.K X.mg X.base CX n f fd ps sp) (hb : Binds X.K fd ps []) (hx : ∀ σ, PassesAt CX X σ (E σ)) (hr : Room (n + 1) X.A)
    (hs : PySem.W.findIn X.K (.ref C) "__getitem__" = some (some (.ref f))) (hf : PySem.W.fnIn X.K f = true) (hfn : PySem.W.isFn X.K (.ref f) = true) (ha : PE X a ta) (hbb : PE X b tb)
    (hsl : ∀ x i, subscripted b true (.ref x) i = runValue (.builtin "lifetime.subscript" ⟨[.ref x, i], []⟩)) : PE X (.Subscript a b pos) (tIxOwn C sp E ta tb) := by
  refine ⟨fun pins s σ H Q I h => ?_⟩
  refine Subscript_ (binT ha hbb I h fun v u s2 x y H2 I2 rx ry q => ?_)
  obtain ⟨p, dx, fs, rfl, hp, q⟩ := q
  cases rx
  obtain ⟨mA, J, _⟩ := ins_get I2.hok hp
  obtain ⟨od, J, _⟩ := J.look
  obtain ⟨m, hF⟩ := I2.fr
  exact PySem.W.sub_K hF I2.ok.mod.kin J hs hf hfn (call_atS G0 hb (hx σ) (A := X.A.in1) hr.in1 rfl I2 (vs := [.ref p, y]) (.cons rfl (.cons ry .nil)) q) (hsl _ _)
end
end My
set_option maxRecDepth 100000
set_option maxHeartbeats 4000000
namespace My
open PySem L2 PySem.Spec PyProof.Rows
/-- the truth of a value, inside a comprehension -/
def tTruK (K : PySem.W.Frag) (ta : TE) : TT := fun σ H Q => ta σ H fun x H' => ∃ k, TruV K x H' k ∧ Q k H'
section
variable {X : Cx} {CX : CXT} {E : XK} {n : Nat} {f C : Addr} {fd : FuncData} {ps : List Str} {sp : Sp}
/-- len(x), x an instance of the class at C with its own __len__ -/
def rLenOwn (C : Addr) (sp : Sp) (E : XK) : List V → Hp → VK → Prop := fun xs H Q => ∃ a dx fs, xs = [V.ref a] ∧ H a = some (.ins C dx fs) ∧ sp [.ref a] H (fun v H' => ∃ k : Nat, v = .int (k : Int) ∧ k ≤ 1000000 ∧ Q (.int (k : Int)) H') E
theorem call_lenOwn (G0 : FnOk X.prog X.w X.K X.mg X.base CX n f fd ps sp) (hb : Binds X.K fd ps []) (hx : Passes CX X E) (hr : Room (n + 1) X.A)
    (hs : PySem.W.findIn X.K (.ref C) "__len__" = some (some (.ref f))) (hf : PySem.W.isFn X.K (.ref f) = true) :
    CallR X (.builtin "len") (rLenOwn C sp E) := by
  intro pins s σ H xs us Q I r h
  obtain ⟨a, dx, fs, rfl, ha, q⟩ := h
  obtain ⟨u, rfl, r1⟩ := vals1 r
  cases r1
  obtain ⟨mA, J, _⟩ := ins_get I.hok ha
  obtain ⟨od, J, _⟩ := J.look
  obtain ⟨m, hF⟩ := I.fr
  refine PySem.W.len_K hF I.ok.mod.kin J hs hf (wpAny_mono (call_at G0 hb hx (A := X.A.in1) hr.in1 rfl I (vs := [.ref a]) (.cons rfl .nil) q) (fun v s' z => ?_) fun _ _ z => z)
  obtain ⟨x, H1, I1, r1, k, rfl, hk, z⟩ := z
  obtain ⟨tk, rfl⟩ := r1
  exact ⟨⟨Int.natCast_nonneg _, by omega⟩, .int (k : Int), H1, by first | exact I1.tok _ | exact I1, ⟨_, rfl⟩, z⟩
/-- isinstance(e, (c1, c2)) of a caught error with fields -/
def rIsET (K : PySem.W.Frag) (a : Addr) (cls : Value) (d : Option Addr) : List V → Hp → VK → Prop := fun xs H Q => ∃ D dd fs, cls = .ref D ∧ d = some dd ∧ H dd = some (.xd fs) ∧ ExcC K D ∧
  ∃ (tp : Addr) (cs : List V) (us : List Value) (b : Bool), xs = [.ref a, .ref tp] ∧ H tp = some (.tup cs) ∧ Paired ClsV cs us ∧ PySem.W.kitAny K (.ref D) us = some b ∧ Q (.bl b) H
theorem call_isExT {a : Addr} {oe : Obj} {cls : Value} {d : Option Addr} {pn : List (Addr × Obj)} (hz : Zc cls d oe) (hf : ∃ vs, oe.data = .fields vs) :
    CallR (X.suite a ((a, oe) :: pn)) (.builtin "isinstance") (rIsET X.K a cls d) := by
  intro pins s σ H xs us Q I r h
  obtain ⟨D, dd, fs, rfl, rfl, hd, C, tp, cs, ws, b, rfl, hT, k, e, q⟩ := h
  obtain ⟨u1, u2, rfl, r1, r2⟩ := vals2 r
  cases (show u2 = Value.ref tp from r2)
  cases (show u1 = Value.ref a from r1)
  obtain ⟨hget, _⟩ := I.pin (a, oe) (List.mem_append.mpr (.inl List.mem_cons_self))
  obtain ⟨vs, hv⟩ := hf
  have hx : ObjOk X.prog X.w H s.heap dd (.xd fs) := I.hok dd _ hd
  obtain ⟨mA, ⟨od, es, ep, ho, _⟩, _⟩ := hx
  have J : PySem.W.InstAt s.heap a oe D (some od) := ⟨hget, hz.1, by unfold PySem.W.notCls; rw [hv] <;> rfl, by rw [hz.2]; exact ho⟩
  obtain ⟨cdD, hcD, _⟩ := PySem.W.any_some C.hd
  obtain ⟨_, its, rv, o, h1, h2, n, h3⟩ := (show ObjOk X.prog X.w H s.heap tp (.tup cs) from I.hok tp _ hT)
  have e3 := ClsV.all k rv
  subst e3
  obtain ⟨oc, od2, dt, sl⟩ := o
  simp only at h2 h3
  subst h2 h3
  exact PySem.W.kia_tup (PySem.W.kitx_exc (od := some od) (by rw [hcD]; rfl) C.hg C.hk C.hs C.ha C.hn C.ht C.hm) I.kIn J h1 e (fun z => nomatch z) fun tk => ⟨.bl b, H, I.tok tk, rfl, q⟩
theorem band (a b : Nat) : Builtin.bitAnd (a : Int) (b : Int) = ((a &&& b : Nat) : Int) := by
  unfold Builtin.bitAnd
  simp
theorem bor (a b : Nat) : Builtin.bitOr (a : Int) (b : Int) = ((a ||| b : Nat) : Int) := by
  rw [bitOr_nn (Int.natCast_nonneg _) (Int.natCast_nonneg _), Int.toNat_natCast, Int.toNat_natCast]
theorem op_andN {X : Cx} : OpR X (binaryOp .BitAnd) (fun x y H Q => ∃ a b : Nat, x = .int (a : Int) ∧ y = .int (b : Int) ∧ Q (.int ((a &&& b : Nat) : Int)) H) := by
  intro pins s σ H x y v u Q I rx ry h
  obtain ⟨a, b, rfl, rfl, q⟩ := h
  rw [← band] at q
  exact op_and pins s σ H _ _ v u Q I rx ry ⟨_, _, rfl, rfl, q⟩
theorem op_orN {X : Cx} : OpR X (binaryOp .BitOr) (fun x y H Q => ∃ a b : Nat, x = .int (a : Int) ∧ y = .int (b : Int) ∧ Q (.int ((a ||| b : Nat) : Int)) H) := by
  intro pins s σ H x y v u Q I rx ry h
  obtain ⟨a, b, rfl, rfl, q⟩ := h
  rw [← bor] at q
  exact op_or pins s σ H _ _ v u Q I rx ry ⟨_, _, rfl, rfl, q⟩
end
end My
set_option maxRecDepth 100000
set_option maxHeartbeats 4000000
namespace My
open PySem L2 PySem.Spec PyProof.Rows
section
variable {X : Cx} {CX : CXT} {E : XK} {n : Nat} {f C : Addr} {fd : FuncData} {ps : List Str} {sp : Sp}
/-- x in o, o's class with its own __contains__ that gives a truth value -/
def rInOwn (C : Addr) (sp : Sp) (E : XK) (neg : Bool) : R2 := fun x y H Q => ∃ a dx fs, y = .ref a ∧ H a = some (.ins C dx fs) ∧ sp [.ref a, x] H (fun v H' => ∃ k, v = .bl k ∧ Q (.bl (if neg = true then !k else k)) H') E
theorem op_inOwn (G0 : FnOk X.prog X.w X.K X.mg X.base CX n f fd ps sp) (hb : Binds X.K fd ps []) (hx : Passes CX X E) (hr : Room n X.A)
    (hs : PySem.W.findIn X.K (.ref C) "__contains__" = some (some (.ref f))) (hf : PySem.W.isFn X.K (.ref f) = true) : OpR X (compareOp .In) (rInOwn C sp E false) := by
  intro pins s σ H x y v u Q I rx ry h
  obtain ⟨a, dx, fs, rfl, ha, q⟩ := h
  cases ry
  obtain ⟨mA, J, _⟩ := ins_get I.hok ha
  obtain ⟨od, J, _⟩ := J.look
  obtain ⟨m, hF⟩ := I.fr
  refine PySem.W.in_K hF I.ok.mod.kin J hs hf ?_
  refine wpAny_mono (call_at G0 hb hx hr rfl I (vs := [.ref a, x]) (.cons rfl (.cons rx .nil)) q) (fun r s' z => ?_) fun _ _ z => z
  obtain ⟨z, H1, I1, r1, k, rfl, q1⟩ := z
  cases r1
  exact wpAny_truthy_bool ⟨.bl k, H1, I1, rfl, q1⟩
theorem op_notInOwn (G0 : FnOk X.prog X.w X.K X.mg X.base CX n f fd ps sp) (hb : Binds X.K fd ps []) (hx : Passes CX X E) (hr : Room n X.A)
    (hs : PySem.W.findIn X.K (.ref C) "__contains__" = some (some (.ref f))) (hf : PySem.W.isFn X.K (.ref f) = true) : OpR X (compareOp .NotIn) (rInOwn C sp E true) := by
  intro pins s σ H x y v u Q I rx ry h
  obtain ⟨a, dx, fs, rfl, ha, q⟩ := h
  cases ry
  obtain ⟨mA, J, _⟩ := ins_get I.hok ha
  obtain ⟨od, J, _⟩ := J.look
  obtain ⟨m, hF⟩ := I.fr
  refine PySem.W.notIn_K hF I.ok.mod.kin J hs hf ?_
  refine wpAny_mono (call_at G0 hb hx hr rfl I (vs := [.ref a, x]) (.cons rfl (.cons rx .nil)) q) (fun r s' z => ?_) fun _ _ z => z
  obtain ⟨z, H1, I1, r1, k, rfl, q1⟩ := z
  cases r1
  exact wpAny_truthy_bool ⟨.bl (!k), H1, I1, rfl, q1⟩
/-- ~o -/
theorem un_inv (G0 : FnOk X.prog X.w X.K X.mg X.base CX n f fd ps sp) (hb : Binds X.K fd ps []) (hx : Passes CX X E) (hr : Room n X.A)
    (hs : PySem.W.findIn X.K (.ref C) "__invert__" = some (some (.ref f))) (hf : PySem.W.isFn X.K (.ref f) = true) : UnR X (unaryOp .Invert) (rOwn1 C sp E) := by
  intro pins s σ H x v Q I rx h
  obtain ⟨a, dx, fs, rfl, ha, q⟩ := h
  cases rx
  obtain ⟨mA, J, _⟩ := ins_get I.hok ha
  obtain ⟨od, J, _⟩ := J.look
  obtain ⟨m, hF⟩ := I.fr
  exact PySem.W.ksp_inv hF I.ok.mod.kin J hs hf (call_at G0 hb hx hr rfl I (vs := [.ref a]) (.cons rfl .nil) q)
/-! ### a thing is forgotten -/
theorem hok_forget {P : Program} {w : World} {H : Hp} {h : Heap} {x : Addr} {φ : Heap → Prop} (hx : H x = none) (ok : HOk P w (upd H x (.ext φ)) h) : HOk P w H h := fun b u e => by
  have hb : b ≠ x := ne_of_none e hx
  refine (ok b u (by rw [upd_ne hb]; exact e)).stay (fun _ _ _ q => q) (fun c q => ?_) fun c xs q => ?_
  · by_cases hc : c = x
    · rw [hc, upd_same] at q; cases q
    · rw [upd_ne hc] at q; exact q
  · by_cases hc : c = x
    · rw [hc, upd_same] at q; cases q
    · rw [upd_ne hc] at q; exact q
theorem inv_forget {pins : List (Addr × Obj)} {σ : L2.St} {H : Hp} {s : Shared} {x : Addr} {φ : Heap → Prop} (hx : H x = none) (I : Inv X pins σ (upd H x (.ext φ)) s) : Inv X pins σ H s := by
  have no : ∀ {b : Addr} {o : HO}, upd H x (.ext φ) b = some o → (∀ ψ, o ≠ .ext ψ) → H b = some o := fun {b o} q hn => by
    by_cases hc : b = x
    · rw [hc, upd_same] at q; cases q; exact absurd rfl (hn φ)
    · rw [upd_ne hc] at q; exact q
  have nn : ∀ {b : Addr}, upd H x (.ext φ) b = none → H b = none := fun {b} q => by
    by_cases hc : b = x
    · rw [hc, upd_same] at q; cases q
    · rw [upd_ne hc] at q; exact q
  refine ⟨I.ok, I.os, I.bare, ⟨I.base.keep, I.base.slot, fun b o e n hx => nn (I.base.free b o e n hx), I.base.there, fun b xs q => no (I.base.tups b xs q) (fun _ => nofun), fun b o u q => no (I.base.frzs b o u q) (fun _ => nofun), fun b ps q => ?_⟩, I.loc, I.cell, nn I.free, fun y c e => nn (I.freeC y c e), fun p hp => ?_, hok_forget hx I.hok, I.len⟩
  · obtain ⟨m, e⟩ := I.base.tbls b ps q
    exact ⟨m, no e (fun _ => nofun)⟩
  · obtain ⟨e, n, ne, nf, d⟩ := I.pin p hp
    exact ⟨e, nn n, ne, nf, d⟩
end
/-! ### a promise that knows the state at the call -/
structure FnAt (P : Program) (w : World) (K : PySem.W.Frag) (mg : Str → Option Value) (base : Heap) (CX : CXT) (k : Nat) (f : Addr) (fd : FuncData) (ps : List Str) (sp : Shared → Sp) : Prop where
  len : ∀ s vs H Q E, sp s vs H Q E → vs.length = ps.length
  run : ∀ (A : Around) (outer : List Env) (s : Shared) (H : Hp) (args : Args) (us : List Value) (vs : List V) (Q : VK) (E : XK), Room k A → Env0 P w K mg base A outer s H → BindsTo s fd args (ps.zip us) → Vals vs us → sp s vs H Q E →
    codeAny (model P w) A (.call (.ref f) args) (CR CX outer P w H s Q E) s
theorem fun_okAt {P : Program} {w : World} {K : PySem.W.Frag} {mg : Str → Option Value} {base : Heap} {CX : CXT} {x qual : Str} {st : Stmt} {f : Addr} {fd : FuncData} {N ps : List Str} {k : Nat} {sp : Shared → Sp} (F : Fun K x qual st f fd) (S : FnScope N ps (defScope st)) (len : ∀ s vs H Q E, sp s vs H Q E → vs.length = ps.length)
    (hbody : ∀ (cdv : Value) (A : Around) (outer : List Env) (s : Shared) (H : Hp) (vs : List V) (Q : VK) (E : XK), Room k (A.deeper (PyProof.Rows.envOfC qual (defScope st) s.heap.objs.size f cdv)) → sp s vs H Q E →
      ∃ t, PSs (cxOf CX P w K mg base N qual (defScope st) f cdv A outer s H E) (defBody st) t ∧ t { nx := fun _ H' => Q .non H', rt := Q } (L2.start N vs) H) : FnAt P w K mg base CX (k + 1) f fd ps sp := by
  obtain ⟨oc, od, kV, doc, pm, an, cdv, ct, osl, rfl, lk, hcd⟩ := F.ex
  refine ⟨len, fun A outer s H args us vs Q E hr e0 hb r hsp => ?_⟩
  have hl := len _ _ _ _ _ hsp
  have KX : K.In s.heap := e0.mod.kin.keeps fun b o e => (e0.bs b o e).1
  have lim : s.heap.NoLimit := e0.mod.nolimit.keeps fun b o e => (e0.bs b o e).1
  have hkind : ∀ y ∈ ps.zip us, (defScope st).names.lookup y.1 = some .local ∨ ((defScope st).names.lookup y.1 = some .cell ∧ ((cellsFrom (s.heap.objs.size + 1) (defScope st).names []).lookup y.1).isSome = true) := fun ⟨n, v⟩ hy => by
    rcases S.par n (List.of_mem_zip hy).1 with q | q
    · exact .inl q
    · exact .inr ⟨q, PySem.W.cellsFrom_some _ _ _ (.inl q)⟩
  refine codeAny_call_function hr.depth (KX _ _ lk) rfl S.co S.gen rfl (PySem.W.codeRec_of KX hcd) (hb _ _ _ _ ?_)
  refine wpAny_newFunctionEnv_cells S.kind hkind fun env he s1 x => ?_
  subst he
  refine ⟨lim.keeps x.toInCall.keep, codeAny_func ?_⟩
  obtain ⟨t, ht, hq⟩ := hbody cdv A outer s H vs Q E (hr.deeper _) hsp
  have I : Inv (cxOf CX P w K mg base N qual (defScope st) f cdv A outer s H E) [] (L2.start N vs) H s1 := inv_start S hr.hd e0 hl r x
  refine wpAny_mono (ht.run [] s1 (L2.start N vs) H _ I hq) (fun fl s' hs => ?_) fun e s' hs => hs
  have fin : ∀ {σ' : L2.St} {H' : Hp} {v : V} {u : Value}, Inv (cxOf CX P w K mg base N qual (defScope st) f cdv A outer s H E) [] σ' H' s' → RelV v u → Q v H' → CE outer P w H s Q u s' :=
    fun {σ' H' v u} J rv q => ⟨v, H', J.os, J.bare, J.base, J.hok, rv, q⟩
  cases fl with
  | ret u =>
    obtain ⟨v, σ', H', J, rv, q⟩ := hs
    exact fin J rv q
  | next =>
    obtain ⟨σ', H', J, q⟩ := hs
    exact fin (v := V.non) (u := Value.none) J rfl q
  | brk =>
    obtain ⟨_, _, _, q⟩ := hs
    exact False.elim q
  | cont =>
    obtain ⟨_, _, _, q⟩ := hs
    exact False.elim q
section
variable {X : Cx}
/-- iter(t) of a tuple; the iterator is younger than the call -/
theorem call_iterTS : CallR X (.builtin "iter") (fun xs H Q => ∃ (l : Addr) (zs : List V), xs = [.ref l] ∧ SqT X.K H l zs ∧ ∀ it, H it = none → X.s_0.heap.objs.size ≤ it → Q (.ref it) (upd H it (TitO l it 0))) := by
  intro pins s σ H xs us Q I r h
  obtain ⟨l, zs, rfl, hq, q⟩ := h
  obtain rfl := Vals.ref1 r
  obtain ⟨its, rv, pl, hz⟩ := I.tuple hq
  refine Calls.call_function_entry (by decide +kernel) (by decide +kernel) PySem.W.kdk_entry_iter (PySem.W.kdk_args_iter _) ?_
  unfold Builtin.«iter»
  refine wpAny_bind (m := someArgs "iter" 1 2 _) (wpAny_of_eq (a := [Value.ref l]) (by first | rfl | kernel_rfl!) ?_)
  show wpAny _ _ (pyIter (.ref l) >>= _) _ _ _
  refine wpAny_bind (wpAny_pyIter_tuple (show s.heap.IsTuple l its.toArray from pl) (wpAny_pure ⟨_, rfl, ?_⟩))
  exact ⟨.ref s.heap.objs.size, _, I.laid (t' := s.toks) (fun b u e => Heap.get?_push_of_some _ e) (Nat.le_refl _) (titO_ok ⟨_, Heap.get?_push_size _ rfl, rfl, rfl⟩), rfl, q _ (I.hok.fresh (Nat.le_refl _)) I.sz⟩
/-- what such an __iter__ promises: an iterator over the tuple at l, at its beginning -/
def spItS (C : Addr) (L : Hp → Addr → List (Str × V) → Addr → Prop) : Shared → Sp := fun s vs H Q _ => ∃ p dx fs l, vs = [.ref p] ∧ H p = some (.ins C dx fs) ∧ L H p fs l ∧ ∀ it, H it = none → s.heap.objs.size ≤ it → Q (.ref it) (upd H it (TitO l it 0))
def iOwn (K : PySem.W.Frag) (C : Addr) (L : Hp → Addr → List (Str × V) → Addr → Prop) (tl : TE) : TI := fun σ H R => tl σ H fun x H1 => ∃ a dx fs l xs, x = .ref a ∧ H1 a = some (.ins C dx fs) ∧ L H1 a fs l ∧ SqT K H1 l xs ∧ R (Itt K l) H1
theorem pi_own {tg e : Expr} {tl : TE} {n : Nat} {f C : Addr} {fd : FuncData} {ps : List Str} {L : Hp → Addr → List (Str × V) → Addr → Prop} (he : PE X e tl) (G0 : FnAt X.prog X.w X.K X.mg X.base CX0 n f fd ps (spItS C L)) (hb : Binds X.K fd ps []) (hr : Room n X.A)
    (hs : PySem.W.findIn X.K (.ref C) "__iter__" = some (some (.ref f))) (hf : PySem.W.isFn X.K (.ref f) = true) : PI X tg e (iOwn X.K C L tl) := by
  refine ⟨fun pins s σ H R I h => ?_⟩
  refine thn (he.run pins s σ H _ I h) fun v s1 ⟨x, H1, I1, r1, q1⟩ => ?_
  obtain ⟨a, dx, fs, l, xs, rfl, ha, hL, hq, q⟩ := q1
  cases r1
  obtain ⟨mA, J, _⟩ := ins_get I1.hok ha
  obtain ⟨od, J, _⟩ := J.look
  obtain ⟨m, hF⟩ := I1.fr
  refine PySem.W.owit_iter hF I1.ok.mod.kin J hs hf ?_
  have hsp : spItS C L s1 [.ref a] H1 (fun v H2 => ∃ it, v = .ref it ∧ H1 it = none ∧ s1.heap.objs.size ≤ it ∧ H2 = upd H1 it (TitO l it 0)) (fun _ _ _ => False) := ⟨a, dx, fs, l, rfl, ha, hL, fun it h1 h2 => ⟨it, rfl, h1, h2, rfl⟩⟩
  have r : Vals [V.ref a] [Value.ref a] := .cons rfl .nil
  have e0 : Env0 X.prog X.w X.K X.mg X.base X.A X.stack s1 H1 := I1.env0
  have hl := G0.len _ _ _ _ _ hsp
  refine wpAny_call (codeAny_mono (G0.run X.A X.stack s1 H1 ⟨[.ref a], []⟩ [.ref a] [.ref a] _ _ hr e0 (by
    have := hb s1 [.ref a] I1.kIn (by rw [List.append_nil]; exact hl)
    simpa using this) r hsp) fun r s' hq' => ?_)
  cases r with
  | error e => exact False.elim hq'
  | ok fl =>
    cases fl with
    | ret u =>
      obtain ⟨v, H2, I2, rv, it, rfl, hn, hsz, rfl⟩ := I1.after hq'
      obtain rfl : u = Value.ref it := rv
      have hit := titO_get I2 upd_same
      unfold PySem.W.OwitIt
      refine wpAny_specialOf (show s'.TypeIs (.ref it) "tuple_iterator" from hit.typeIs) PySem.F.slot_tuple_iterator_next.lookup ?_
      have I3 := inv_forget hn I2
      refine ⟨it, [it], _, _, H1, rfl, I3, turn_tuple l it, hit, fun b hb => ?_, q⟩
      have e : b = it := by simpa using hb
      subst e
      exact I1.fpOk hsz hn
    | next => exact False.elim hq'
    | brk => exact False.elim hq'
    | cont => exact False.elim hq'
end
/-! ### several except clauses with a name -/
def wManyAs (K : PySem.W.Frag) (i : Nat) (Wout : WX) (D : Ends) : List (Value × (Addr → Value → Option Addr → TS)) → WX
  | [] => Wout
  | (c, ts) :: r => fun cls d σ H => ∃ b, PySem.W.exmOne K cls c = some b ∧ (b = true → ∀ a, H a = none → ts a cls d { nx := fun σ' H' => D.nx (σ'.set i none) H', rt := D.rt, bk := fun σ' H' => D.bk (σ'.set i none) H', ct := fun σ' H' => D.ct (σ'.set i none) H' } (σ.set i (some (.ref a))) H) ∧ (b = false → wManyAs K i Wout D r cls d σ H)
inductive HdsAs (X : Cx) (n : Str) : List ExceptHandler → List (Value × (Addr → Value → Option Addr → TS)) → Prop
  | nil : HdsAs X n [] []
  | cons {x : Str} {c : Value} {ts : Addr → Value → Option Addr → TS} {b₀ : Stmt} {suite : List Stmt} {np pos' : Pos} {hds : List ExceptHandler} {l : List (Value × (Addr → Value → Option Addr → TS))} (hc : Names X x c)
      (hsu : ∀ (a : Addr) (oe : Obj) (cls : Value) (d : Option Addr) (pn : List (Addr × Obj)), Zc cls d oe → (∃ vs, oe.data = .fields vs) → PSs (X.suite a ((a, oe) :: pn)) (b₀ :: suite) (ts a cls d)) (r : HdsAs X n hds l) :
      HdsAs X n (.ExceptHandler (some (.Name x np)) (some n) (b₀ :: suite) pos' :: hds) ((c, ts) :: l)
section
variable {X : Cx} {n : Str} {i : Nat} {body : List Stmt} {h₀ : ExceptHandler} {hds : List ExceptHandler} {l : List (Value × (Addr → Value → Option Addr → TS))} {pos : Pos} {tb : WX → TS} {Wout : WX}
theorem ps_try_as_many (hs : X.stack = X.env :: X.outer) (hf : X.env.frame = some X.env.locals) (hN : X.N.Nodup) (hi : X.N[i]? = some n) (hln : X.env.kindOf n = some .local) (tk : Takes X Wout)
    (hb : ∀ (W : WX) (pn : List (Addr × Obj)) (xe : Value → Shared → Prop), Takes (X.tr pn xe) W → PassesOwn (model X.prog X.w) X.A X.env xe → PSs (X.tr pn xe) body (tb W))
    (hh : HdsAs X n (h₀ :: hds) l) : PS X (.Try body (h₀ :: hds) [] [] pos) (fun D σ H => tb (wManyAs X.K i Wout D l) D σ H) := by
  refine ⟨fun pins s σ H D I h => ?_⟩
  have ok := I.ok
  have hloc : Loc X.env.scope n := .inl hln
  have hfr : X.A.frames = some (X.env :: X.outer) := by rw [ok.frames, hs]
  refine wpAny_Try_except ?_
  refine wpAny_mono ((hb (wManyAs X.K i Wout D l) (X.pn ++ pins) (fun e s₁ => wpAny (model X.prog X.w) X.A (noteFrame e X.env) (fun _ s₂ => wpAny (model X.prog X.w) X.A (setFlight e none) (fun _ s₃ =>
    wpAny (model X.prog X.w) X.A (handleBy e X.env (h₀ :: hds)) (SP X pins D) X.xe s₃) X.xe s₂) X.xe s₁) (fun u s' xx => ?_) PassesOwn.looking).run [] s σ H D (I.toTry _) h) (fun f s1 hsp => ?_) (fun e s1 he => he)
  · obtain ⟨a, B, sI, pins', σ', H', cls, d, rfl, J', nb, up, sky, na, os, ag, w⟩ := xx
    have J : Inv X pins σ' H' sI := J'.ofTry ok
    have sky' : Sky B (X.env :: X.outer) a (Zc cls d) X.env.locals s'.heap := by rw [← hs]; exact sky
    show wpAny (model X.prog X.w) X.A (noteFrame (.ref a) X.env) _ _ _
    refine Sky.land Zc.steady hfr hf sky' fun h3 fl3 up3 => ?_
    have J3 : Inv X pins σ' H' { s' with heap := h3 } := J.landed nb fl3.1 (up.trans up3) os ag
    obtain ⟨oe3, vs3, he3, hz3, hd3⟩ := fl3.there
    have notFr : ∀ {h : Heap} {o : Obj} {vs : Array Value}, h.FunFrames B (X.env :: X.outer) → h.get? a = some o → o.data = .fields vs → a ∉ frs (X.env :: X.outer) := fun {h o vs} ff e dd hm => by
      obtain ⟨_, o', e', hnf⟩ := ff.mem hm
      rw [e] at e'; cases e'
      exact hnf _ dd
    have nfr := notFr fl3.2.2.1 he3 hd3
    have nL : a ≠ X.env.locals := fun z => nfr (List.mem_filterMap.mpr ⟨X.env, List.mem_cons_self, by rw [hf, z]⟩)
    have nF : a ∉ X.fs := fun hm => by
      obtain ⟨e, he, q⟩ := List.mem_filterMap.mp hm
      exact nfr (List.mem_filterMap.mpr ⟨e, List.mem_cons_of_mem _ he, q⟩)
    have S3 := J3.suite he3 hd3 na nL nF
    have go : ∀ {hds' : List ExceptHandler} {l' : List (Value × (Addr → Value → Option Addr → TS))}, HdsAs X n hds' l' → wManyAs X.K i Wout D l' cls d σ' H' →
        wpAny (model X.prog X.w) X.A (handleBy (.ref a) X.env hds') (SP X pins D) X.xe { s' with heap := h3 } := by
      intro hds' l' hk
      induction hk with
      | nil =>
        intro w
        refine wpAny_handleBy_nil ?_
        obtain ⟨k1, k2, k3, oe, vs, T, oT, ts', he, hz, hd, h1, hr⟩ := id fl3
        unfold PySem.passOn
        refine wpAny_bind (wpAny_field he hd h1 ?_)
        rw [if_neg (show ¬ ((Value.ref T == Value.none) = true) from by simp)]
        have fin : wpAny (model X.prog X.w) X.A (setFlight (.ref a) X.env.frame) (fun _ s4 => wpAny (model X.prog X.w) X.A (throw (.ref a) : Sem Flow) (SP X pins D) X.xe s4) X.xe { s' with heap := h3 } := by
          rw [hf]
          refine HandSPX.setFlight_upZ fl3 fun h4 hh4 up4 => wpAny_throw (tk _ _ ?_)
          exact ⟨a, B, sI, pins, σ', H', cls, d, rfl, J, nb, (up.trans up3).trans up4, .inr (.inr (by rw [hs]; exact hh4)), na, os, ag, w⟩
        first
          | exact wpAny_bind (wpAny_pure (wpAny_bind fin))
          | exact wpAny_bind fin
      | @cons x c ts b₀ suite np pos' hds2 l2 hc hsu r ih =>
        intro w
        obtain ⟨b, hb1, hyes, hno⟩ := w
        refine wpAny_handleBy_cons (codeAny_handlers_test ?_) (by intro q; cases q)
        have LT : PySem.W.Looks (model X.prog X.w) h3 (typeOf (.ref a)) cls := fun A Q E s k q => wpAny_typeOf_ref (k _ _ he3) (by rw [hz3.1]; exact q)
        have LM := PySem.W.exm_one (M := model X.prog X.w) (J3.kIn) LT hb1
        have test : ∀ {Q : Value → Shared → Prop} {E : Value → Shared → Prop}, Q c { s' with heap := h3 } → wpAny (model X.prog X.w) (X.A.mark (some (.ref a))) (eval (.Name x np) X.env) Q E { s' with heap := h3 } := fun {Q E} q => by
          obtain ⟨hg, hdbg, hm | ⟨hm, hv, hnn⟩⟩ := hc
          · exact ld_glob (X := X.suite a ((a, oe3) :: (X.pn ++ pins))) S3 hg hm q hdbg
          · exact ld_blt (X := X.suite a ((a, oe3) :: (X.pn ++ pins))) S3 hg hm hv q hnn hdbg
        refine test (LM.here ?_)
        cases b with
        | true =>
          refine codeAny_handlers_suite_as ?_
          refine HandSPX.lands_againZ fl3 fun h4 fl4 up4 => ?_
          have J4 : Inv X pins σ' H' { s' with heap := h4 } := J.landed nb fl4.1 ((up.trans up3).trans up4) os ag
          obtain ⟨oe4, vs4, he4, hz4, hd4⟩ := fl4.there
          have S4 := J4.suite he4 hd4 na nL nF
          refine store_ok (X := X.suite a ((a, oe4) :: (X.pn ++ pins))) (v := .ref a) S4 hN hi hloc rfl (fun s5 S5 => ?_) (.inr hln)
          refine wpAny_mono ((hsu a oe4 cls d (X.pn ++ pins) hz4 ⟨_, hd4⟩).run [] s5 _ H' _ S5 (hyes rfl a na)) (fun f s6 hsp => ?_) (fun _ _ z => False.elim z)
          have end_ : ∀ {σ6 : L2.St} {H6 : Hp} {Q : Shared → Prop}, Inv (X.suite a ((a, oe4) :: (X.pn ++ pins))) [] σ6 H6 s6 → (∀ s7, Inv X pins (σ6.set i none) H6 s7 → Q s7) →
              wpAny (model X.prog X.w) X.A (do bindName X.env n .none; unbindBehindTheSuite X.env n pos') (fun _ s7 => Q s7) X.xe s6 := fun {σ6 H6 Q} S6 hq => gone_ok (S6.unsuite ok) hN hi hln hq
          cases f with
          | next =>
            obtain ⟨σ6, H6, S6, q6⟩ := hsp
            exact end_ S6 fun s7 J7 => ⟨_, _, J7, q6⟩
          | brk =>
            obtain ⟨σ6, H6, S6, q6⟩ := hsp
            exact end_ S6 fun s7 J7 => ⟨_, _, J7, q6⟩
          | cont =>
            obtain ⟨σ6, H6, S6, q6⟩ := hsp
            exact end_ S6 fun s7 J7 => ⟨_, _, J7, q6⟩
          | ret u =>
            obtain ⟨v6, σ6, H6, S6, r6, q6⟩ := hsp
            exact end_ S6 fun s7 J7 => ⟨_, _, _, J7, r6, q6⟩
        | false =>
          show wpAny _ X.A (handleBy (.ref a) X.env hds2) _ _ _
          exact ih (hno rfl)
    exact go hh w
  · cases f with
    | next =>
      obtain ⟨σ', H', J', q⟩ := hsp
      exact wpAny_execs_nil ⟨σ', H', J'.ofTry ok, q⟩
    | brk =>
      obtain ⟨σ', H', J', q⟩ := hsp
      exact ⟨σ', H', J'.ofTry ok, q⟩
    | cont =>
      obtain ⟨σ', H', J', q⟩ := hsp
      exact ⟨σ', H', J'.ofTry ok, q⟩
    | ret u =>
      obtain ⟨v, σ', H', J', r, q⟩ := hsp
      exact ⟨v, σ', H', J'.ofTry ok, r, q⟩
end
end My
set_option maxRecDepth 100000
set_option maxHeartbeats 4000000
namespace My
open PySem L2 PySem.Spec PyProof.Rows
/-! ### t[:0:-1], t a tuple -/
theorem fm_congr {α β : Type} {f g : α → Option β} : ∀ {l : List α}, (∀ x ∈ l, f x = g x) → l.filterMap f = l.filterMap g
  | [], _ => rfl
  | a :: l, h => by
    rw [List.filterMap_cons, List.filterMap_cons, h a List.mem_cons_self, fm_congr fun x hx => h x (List.mem_cons_of_mem _ hx)]
theorem back_pick (xs : Array Value) : ((List.range (xs.size - 1)).filterMap fun (m : Nat) => xs[(((xs.size : Nat) : Int) - 1 + (m : Int) * (-1)).toNat]?) = (xs.toList.drop 1).reverse := by
  obtain ⟨l⟩ := xs
  cases l with
  | nil => rfl
  | cons a t =>
    simp only [List.size_toArray, List.getElem?_toArray, List.length_cons, List.drop_succ_cons, List.drop_zero]
    rw [Nat.add_sub_cancel]
    have e : ∀ m ∈ List.range t.length, (a :: t)[((((t.length + 1 : Nat)) : Int) - 1 + (m : Int) * (-1)).toNat]? = t.reverse[m]? := fun m hm => by
      have hm := List.mem_range.mp hm
      have e1 : ((((t.length + 1 : Nat)) : Int) - 1 + (m : Int) * (-1)).toNat = (t.length - 1 - m) + 1 := by omega
      rw [e1, List.getElem?_cons_succ, List.getElem?_reverse hm]
    have e2 : (List.range t.length).filterMap (fun (m : Nat) => (a :: t)[((((t.length + 1 : Nat)) : Int) - 1 + (m : Int) * (-1)).toNat]?) = (List.range t.length).filterMap (fun m => t.reverse[m]?) :=
      fm_congr e
    rw [e2]
    have h := PySem.W.krv_all t.reverse.toArray
    simpa using h
theorem back_adjust (n : Nat) : Builtin.Slice.sliceAdjust none (some 0) (-1) (n : Int) = ((n : Int) - 1, if n = 0 then -1 else 0) := by
  by_cases h : n = 0
  · subst h; rfl
  · rw [if_neg h]
    have e : min (0 : Int) ((n : Int) - 1) = 0 := by omega
    show ((n : Int) - 1, min (0 : Int) ((n : Int) - 1)) = _
    rw [e]
theorem back_places (n : Nat) : Builtin.Slice.slicePlaces ((n : Int) - 1) (if n = 0 then -1 else 0) (-1) = n - 1 := by
  unfold Builtin.Slice.slicePlaces
  rw [if_neg (show ¬ ((-1 : Int) > 0) by decide)]
  by_cases h : n = 0
  · subst h; rfl
  · rw [if_neg h]
    by_cases h1 : n = 1
    · subst h1; rfl
    · rw [if_pos (by omega), show (- -1 : Int) = 1 by decide, Int.ediv_one]
      omega
section
variable {prog : Program} {w : World} {A : Around} {E : Value → Shared → Prop} {s : Shared}
theorem back_applied {sl : Addr} {vl vu vs : Value} {n : Nat} {Q : Int × Int × Nat → Shared → Prop} (hs : s.heap.IsSliceOf sl vl vu vs) (pl : IsPart vl none) (pu : IsPart vu (some 0)) (ps : IsPart vs (some (-1)))
    (h : Q ((n : Int) - 1, -1, n - 1) s) : wpAny (model prog w) A (Builtin.Slice.sliceApplied (.ref sl) (pure (n : Int))) Q E s := by
  obtain ⟨os, hos, hcs, hds⟩ := id hs
  unfold Builtin.Slice.sliceApplied Builtin.Slice.sliceFields
  refine wpAny_bind (wpAny_bind (wpAny_field hos hds (x := vl) rfl (wpAny_bind (wpAny_field hos hds (x := vu) rfl (wpAny_bind (wpAny_field hos hds (x := vs) rfl (wpAny_pure ?_)))))))
  refine wpAny_bind (HT.slicePart_ ps ?_)
  show wpAny _ _ (if ((-1 : Int) == 0) = true then _ else _) _ _ s
  rw [if_neg (by decide)]
  refine wpAny_bind (HT.slicePart_ pl (wpAny_bind (HT.slicePart_ pu (wpAny_bind (wpAny_pure ?_)))))
  show wpAny _ _ (match Builtin.Slice.sliceAdjust none (some 0) (-1) (n : Int) with | (lo, hi) => pure (lo, (-1 : Int), Builtin.Slice.slicePlaces lo hi (-1))) _ _ s
  rw [back_adjust n]
  show wpAny _ _ (pure ((n : Int) - 1, (-1 : Int), Builtin.Slice.slicePlaces ((n : Int) - 1) (if n = 0 then -1 else 0) (-1))) _ _ s
  rw [back_places]
  exact wpAny_pure h
theorem getItem_tuple_back {t sl : Addr} {items : Array Value} {vl vu vs : Value} {Q : Value → Shared → Prop} (ht : IsTup s.heap t items) (hs : s.heap.IsSliceOf sl vl vu vs) (pl : IsPart vl none) (pu : IsPart vu (some 0)) (ps : IsPart vs (some (-1)))
    (h : Q (.ref s.heap.objs.size) { s with heap := s.heap.push { cls := .type "tuple", data := .seq (items.toList.drop 1).reverse.toArray } })
    (hsz : items.size ≤ sizeLine) : wpAny (model prog w) A (getItem (.ref t) (.ref sl)) Q E s := by
  have htake : sizeOk (.seq (items.toList.drop 1).reverse.toArray) := by
    show (items.toList.drop 1).reverse.toArray.size ≤ sizeLine
    rw [List.size_toArray, List.length_reverse, List.length_drop, Array.length_toList]
    omega
  obtain ⟨os, hos, hcs, hds⟩ := id hs
  have hTs : s.TypeIs (.ref sl) "slice" := ⟨os, hos, hcs⟩
  unfold getItem
  try with_reducible refine wpAny_holding ?_
  first | refine wpAny_bind (wpAny_pure ?_) | skip
  refine wpAny_bind (wpAny_sequenceKey ht.typeIs (by decide) ?_)
  refine wpAny_bind (wpAny_callSpecial?_slot (name := Str.ofString "__getitem__") ht.typeIs PyProof.Rows.slot_tuple_getitem
    (wpAny_call_entry PyProof.Rows.slot_tuple_getitem ht.typeIs entry_tuple_getitem ?_ (args_tuple_getitem _ _)))
  show wpAny _ _ (Builtin.Tuple.tupleItemsOf (.ref t) >>= _) _ _ s
  refine wpAny_bind (tupleItemsOf_ ht ?_)
  refine wpAny_bind (wpAny_typeOf hTs ?_)
  rw [if_pos (by decide)]
  refine wpAny_bind (back_applied hs pl pu ps ?_)
  have hno : ¬ (((((items.size : Nat) : Int) - 1) == 0 && (-1 : Int) == 1 && (items.size - 1) == items.size) = true) := by
    intro q
    rw [Bool.and_eq_true, Bool.and_eq_true] at q
    exact absurd q.1.2 (by decide)
  show wpAny _ _ (if ((((items.size : Nat) : Int) - 1) == 0 && (-1 : Int) == 1 && (items.size - 1) == items.size) = true then _ else _) _ _ s
  rw [if_neg hno, back_pick]
  first
    | exact wpAny_bind (m := Builtin.Tuple.tupleExact _) (wpAny_newObj_type (wpAny_pure ⟨_, rfl, wpAny_pure h⟩) htake)
    | exact wpAny_bind (m := Builtin.Tuple.tupleExact _) (wpAny_newObj_type (wpAny_bind (wpAny_pure (wpAny_pure ⟨_, rfl, wpAny_pure h⟩))) htake)
    | exact wpAny_bind (wpAny_bind (m := Builtin.Tuple.tupleExact _) (wpAny_newObj_type (wpAny_pure (wpAny_pure ⟨_, rfl, wpAny_pure h⟩)) htake))
    | exact wpAny_bind (wpAny_bind (m := Builtin.Tuple.tupleExact _) (wpAny_newObj_type (wpAny_pure ⟨_, rfl, wpAny_pure h⟩) htake))
end
section
variable {X : Cx}
def tBackT (K : PySem.W.Frag) (te : TE) : TE := fun σ H Q => te σ H fun x H1 => ∃ a xs, x = .ref a ∧ SqT K H1 a xs ∧ ∀ p, H1 p = none → Q (.ref p) (upd H1 p (.tup (xs.drop 1).reverse))
theorem pe_backT {e : Expr} {te : TE} {k k0 : Nat} {p0 p1 p2 p3 pos : Pos} (he : PE X e te) : PE X (.Subscript e (.Slice none (some (.Constant (.int 0) k0 p0)) (some (.UnaryOp .USub (.Constant (.int 1) k p1) p2)) p3) pos) (tBackT X.K te) := by
  refine ⟨fun pins s σ H Q I h => ?_⟩
  refine Subscript_ (thn (he.run pins s σ H _ I h) fun v s1 ⟨x, H1, I1, r1, q1⟩ => ?_)
  obtain ⟨a, xs, ex, hx, q⟩ := q1
  subst ex
  cases r1
  have hst : PO X (some (.UnaryOp .USub (.Constant (.int 1) k p1) p2)) (tPart (tUn (rU fun i => .int (-i)) (tC (.int 1)))) := po_some (pe_un un_neg pe_int)
  have hup : PO X (some (.Constant (.int 0) k0 p0)) (tPart (tC (.int 0))) := po_some pe_int
  refine wpAny_Slice (thn (po_none.run pins s1 σ H1 (fun o H2 => o = none ∧ H2 = H1) I1 ⟨rfl, rfl⟩) fun vl s2 ⟨l, H2, I2, pl, el, e2⟩ => ?_)
  subst el e2
  refine thn (hup.run pins s2 σ H2 (fun o H3 => o = some 0 ∧ H3 = H2) I2 ⟨0, rfl, rfl, rfl⟩) fun vu s3 ⟨u, H3, I3, pu, eu, e3⟩ => ?_
  subst eu e3
  refine thn (hst.run pins s3 σ H3 (fun o H4 => o = some (-1) ∧ H4 = H3) I3 ⟨1, rfl, -1, rfl, rfl, rfl⟩) fun vs s4 ⟨o, H4, I4, ps, eo, e4⟩ => ?_
  subst eo e4
  have I5 : Inv X pins σ H4 { s4 with heap := s4.heap.push { cls := .type "slice", data := .fields #[vl, vu, vs] } } := I4.kept (t' := s4.toks) fun b ob q => Heap.get?_push_of_some _ q
  obtain ⟨its, r, ht, hz⟩ := I5.tuple hx
  have hlen := r.length
  show wpAny (model X.prog X.w) X.A (subscriptTail e (.Slice none (some (.Constant (.int 0) k0 p0)) (some (.UnaryOp .USub (.Constant (.int 1) k p1) p2)) p3) (.ref a) (.ref s4.heap.objs.size)) (EP X pins σ Q) X.xe { s4 with heap := s4.heap.push { cls := .type "slice", data := .fields #[vl, vu, vs] } }
  refine tail_any (ops := [.ref a, .ref s4.heap.objs.size]) ht.typeIs (PyProof.Rows.slot_tuple_getitem.lookup) ?_ (by with_unfolding_all rfl)
  refine getItem_tuple_back ht (Heap.IsSliceOf.new _ vl vu vs) pl pu ps ?_ (by rw [List.size_toArray]; omega)
  refine ⟨.ref _, _, I5.laid (t' := s4.toks) (o := .tup (xs.drop 1).reverse) (fun b ob q => Heap.get?_push_of_some _ q) (Nat.le_refl _) ?_, rfl, q _ (I5.hok.fresh (Nat.le_refl _))⟩
  exact ⟨by rw [List.length_reverse, List.length_drop]; omega, _, (r.drop 1).reverse, IsTup.new _ _⟩
end
end My
set_option maxRecDepth 100000
set_option maxHeartbeats 4000000
namespace My
open PySem L2 PySem.Spec PyProof.Rows
/-! ### tuples that are known to have no dict: their methods can be called -/
def DT (H : Hp) (a : Addr) (xs : List V) : Prop := ∃ o : Obj, o.dict = none ∧ H a = some (.frz o (.tup xs))
theorem DT.sq {K : PySem.W.Frag} {H : Hp} {a : Addr} {xs : List V} (h : DT H a xs) : SqT K H a xs := let ⟨o, _, e⟩ := h; .inl (.inr ⟨o, e⟩)
theorem DT.same {H H' : Hp} {a : Addr} {xs : List V} (h : DT H a xs) (s : Same H H') : DT H' a xs := let ⟨o, d, e⟩ := h; ⟨o, d, s _ _ e⟩
theorem DT.upd {H : Hp} {a b : Addr} {xs : List V} {u o : HO} (h : DT H a xs) (hb : H b = some u) (hu : ∀ o v, u ≠ .frz o v) : DT (L2.upd H b o) a xs := let ⟨w, d, e⟩ := h; ⟨w, d, by rw [upd_ne (ne_of e hb (fun z => hu _ _ z.symm))]; exact e⟩
section
variable {X : Cx}
/-- tuple(xs), a new one -/
def rTupD (K : PySem.W.Frag) : List V → Hp → VK → Prop := fun xs H Q => ∃ p ys, xs = [.ref p] ∧ ((SqL K H p ys ∧ ∀ (l : Addr) (o : Obj), H l = none → o.dict = none → Q (.ref l) (upd H l (.frz o (.tup ys)))) ∨ (SqT K H p ys ∧ Q (.ref p) H))
theorem call_tuple_ofD : CallR X (.type "tuple") (rTupD X.K) := by
  intro pins s σ H xs us Q I r h
  obtain ⟨p, ys, rfl, h⟩ := h
  obtain ⟨u, rfl, rx⟩ := vals1 r
  cases rx
  rcases h with ⟨hq, q⟩ | ⟨hq, q⟩
  · obtain ⟨its, r', pl, hz⟩ := I.list hq
    have hlen := r'.length
    refine call_tuple_list pl.isList (fun h' kp => ?_) (by simp only [List.size_toArray] <;> omega)
    have I1 : Inv X pins σ H { s with heap := h' } := I.kept (t' := s.toks) kp
    have I2 : Inv X pins σ (upd H h'.objs.size (.frz { cls := .type "tuple", data := .seq its.toArray } (.tup ys))) { s with heap := h'.push { cls := .type "tuple", data := .seq its.toArray } } :=
      I1.laid (t' := s.toks) (fun b o e => Heap.get?_push_of_some _ e) (Nat.le_refl _) (show ObjOk X.prog X.w _ _ _ (.frz _ (.tup ys)) from ⟨Heap.get?_push_size _ rfl, hz, its, r', IsTup.new _ _⟩)
    exact ⟨.ref h'.objs.size, _, I2, rfl, q _ _ (I1.hok.fresh (Nat.le_refl _)) rfl⟩
  · obtain ⟨its, r', pl, hz⟩ := I.tuple hq
    exact call_tuple_same pl ⟨.ref p, H, I, rfl, q⟩
def tTupD (t : TA) : TE := fun σ H Q => t σ H fun xs H1 => xs.length ≤ sizeLine ∧ ∀ (p : Addr) (o : Obj), H1 p = none → o.dict = none → Q (.ref p) (upd H1 p (.frz o (.tup xs)))
theorem pe_tupD {es : List Expr} {t : TA} {x1} {pos : Pos} (h : PA X es t) : PE X (.Tuple es x1 pos) (tTupD t) := by
  refine ⟨fun pins s σ H Q I hq => ?_⟩
  refine wpAny_Tuple_spliced (thn (h.run pos pins s σ H _ I hq) fun us s1 ⟨xs, H1, I1, r, z, q⟩ => ⟨by rw [← r.length]; exact z, ?_⟩)
  have hf : H1 s1.heap.objs.size = none := I1.hok.fresh (Nat.le_refl _)
  refine ⟨.ref s1.heap.objs.size, upd H1 s1.heap.objs.size (.frz { cls := .type "tuple", data := .seq us.toArray } (.tup xs)), I1.laid (t' := s1.toks) (fun b u e => Heap.get?_push_of_some _ e) (Nat.le_refl _) ?_, rfl, q _ _ hf rfl⟩
  exact ⟨Heap.get?_push_size _ rfl, z, us, r, ⟨_, Heap.get?_push_size _ rfl, rfl, _, rfl⟩⟩
/-- t.m(e, ..) -/
def tBMT (r : V → List V → Hp → VK → Prop) (to : TE) (t : TA) : TE := fun σ H Q => to σ H fun x H1 => (∃ p xs, x = .ref p ∧ DT H1 p xs) ∧ t σ H1 fun xs H2 => r x xs H2 Q
theorem pe_bmT {o e : Expr} {es : List Expr} {to : TE} {t : TA} {name : Str} {apos cpos : Pos} {id : String} {r : V → List V → Hp → VK → Prop} (pa : PlainAttrs "tuple") (slot : Slot "tuple" name id) (hty : typeOf (.builtin id) = pure (.type "method_descriptor")) (hm : MtR X id r) (ho : PE X o to) (ha : PA X (e :: es) t)
    (hbase : attributeBase o name X.env (eval o X.env) = eval o X.env := by rfl)
    (hfew : ((backTo cpos (starEach (e :: es) X.env)).all (fun x => !x.1) && (backToKw cpos (keywordEach [] X.env)).all (fun x => x.1.isSome)
      && decide ((e :: es).length + ([] : List Keyword).length + (if ([] : List Keyword).isEmpty then 0 else 1) < 30)) = true := by rfl)
    (hline : (apos.endLine == cpos.line) = true := by rfl) (hs : starEach (e :: es) X.env = (false, eval e X.env) :: starEach es X.env := by rfl) (hplain : (backTo cpos (starEach es X.env)).any (·.1) = false := by rfl) :
    PE X (.Call (.Attribute o name apos) (e :: es) [] cpos) (tBMT r to t) := by
  refine ⟨fun pins s σ H Q I h => ?_⟩
  refine wpAny_Call_method_late hbase hfew hline rfl (thn (ho.run pins s σ H _ I h) fun v s1 ⟨x, H1, I1, r1, ty, q1⟩ => ?_)
  obtain ⟨p, xs, rfl, ob, hd, hfz⟩ := ty
  obtain rfl : v = Value.ref p := r1
  obtain ⟨eo, _, its, _, ob', e', hc, _⟩ := (show ObjOk X.prog X.w H1 s1.heap p (.frz ob (.tup xs)) from I1.hok p _ hfz)
  rw [eo] at e'
  cases e'
  have h1 : s1.TypeIs (.ref p) "tuple" := ⟨ob, eo, hc⟩
  have h2 : ∀ a, Value.ref p = .ref a → ∃ ob, s1.heap.get? a = some ob ∧ ob.dict = none := fun a e => by cases e; exact ⟨ob, eo, hd⟩
  refine ⟨"tuple", id, pa, slot, hty, h1, h2, ?_⟩
  have hA := ha.run cpos pins s1 σ H1 _ I1 q1
  rw [hs] at hA ⊢
  refine Calls.callWith_builtin (by show (false || (backTo cpos (starEach es X.env)).any (·.1)) = false; rw [hplain] <;> rfl) (Calls.evalArgs_plain ?_)
  exact thn hA fun us s2 ⟨vs, H2, I2, r2, q2⟩ => hm pins s2 σ H2 (.ref p) vs (.ref p) us Q I2 rfl r2 q2
end
end My
set_option maxRecDepth 100000
set_option maxHeartbeats 4000000
namespace My
open PySem PySem.Spec PyProof.Rows L2
theorem rd_ne {H : Hp} {a b : Addr} {u v : HO} (h : L2.Rd H a u) (hb : H b = some v) (h1 : u ≠ v) (h2 : ∀ o, HO.frz o u ≠ v) : a ≠ b := by
  rcases h with h | ⟨o, h⟩
  · exact ne_of h hb h1
  · exact ne_of h hb (h2 o)
theorem rd_upd {H : Hp} {a b : Addr} {u o : HO} (h : L2.Rd H a u) (hne : a ≠ b) : L2.Rd (upd H b o) a u := by
  rcases h with h | ⟨w, h⟩
  · exact .inl (by rw [upd_ne hne]; exact h)
  · exact .inr ⟨w, by rw [upd_ne hne]; exact h⟩
theorem DT.rd {H : Hp} {a : Addr} {xs : List V} (h : DT H a xs) : L2.Rd H a (.tup xs) := let ⟨o, _, e⟩ := h; .inr ⟨o, e⟩
section
variable {X : Cx} {pins : List (Addr × Obj)} {σ : L2.St} {H : Hp} {s : Shared} {l it S : Addr} {i : Nat}
/-- list.extend over it -/
theorem tit_loopR {A1 : Around} {ys : List V} {Rs : Result → Shared → Prop} (hh : A1.handled = none) :
    ∀ (k i : Nat) (H : Hp) (s : Shared), ys.length - i = k → i ≤ ys.length → Inv X pins σ H s → H it = some (TitO l it i) → L2.Rd H l (.tup ys) → H S = some (.lst (ys.take i)) → ys.length < sizeLine →
      (∀ H2 s2, Inv X pins σ H2 s2 → (∀ b, b ≠ it → b ≠ S → H2 b = H b) → H2 S = some (.lst ys) → Rs (.ok (.ret .none)) s2) → codeAny (model X.prog X.w) A1 (.builtin "list.extend.loop" ⟨[.ref S, .ref it, .none], []⟩) Rs s := by
  intro k
  induction k with
  | zero =>
    intro i H s hk hi I h1 h2 h3 hz hR
    have hne : S ≠ it := ne_of h3 h1 (fun z => nomatch z)
    obtain ⟨its, rv, pl, _⟩ := I.tuple (.inl h2)
    refine codeAny_builtin PySem.F.entry_extend_loop ?_
    rw [Around.under_plainId PySem.F.plain_extend_loop _]
    show wpAny _ A1.in1 (pyNext (.ref it) >>= _) _ _ s
    have hno : (its.toArray)[i]? = none := by
      have := rv.length
      rw [List.getElem?_toArray, List.getElem?_eq_none_iff]
      omega
    refine wpAny_bind (tup_end hh (titO_get I h1) (show s.heap.IsTuple l its.toArray from pl) hno fun h' k' e' => wpAny_pure ?_)
    have J := I.write (t' := s.toks) (x := it) (e := it) (o := AnyO it) (by rw [h1]; exact True.intro) (.inl rfl) k' e' (anyO_ok e')
    refine hR _ _ J (fun b hb _ => upd_ne hb) ?_
    rw [upd_ne hne, h3, List.take_of_length_le (by omega)]
  | succ k ih =>
    intro i H s hk hi I h1 h2 h3 hz hR
    have hne : S ≠ it := ne_of h3 h1 (fun z => nomatch z)
    have hln : l ≠ it := rd_ne h2 h1 (fun z => nomatch z) (fun _ z => nomatch z)
    have hlS : l ≠ S := rd_ne h2 h3 (fun z => nomatch z) (fun _ z => nomatch z)
    obtain ⟨its, rv, pl, _⟩ := I.tuple (.inl h2)
    have hlen := rv.length
    have hlt : i < ys.length := by omega
    obtain ⟨u, hu, ru⟩ := rv.get (i := i) (x := ys[i]) (by simp [hlt])
    refine codeAny_builtin PySem.F.entry_extend_loop ?_
    rw [Around.under_plainId PySem.F.plain_extend_loop _]
    show wpAny _ A1.in1 (pyNext (.ref it) >>= _) _ _ s
    refine wpAny_bind (wpAny_pyNext_tuple_item (titO_get I h1) (show s.heap.IsTuple l its.toArray from pl) (x := u) (by rw [List.getElem?_toArray]; exact hu) fun h' hit hs => ?_)
    have J := I.write (t' := s.toks) (x := it) (e := it) (o := TitO l it (i + 1)) (by rw [h1]; exact True.intro) (.inl rfl) (fun b o hb e => hs.extBut b o hb e) ⟨_, hit.choose_spec.1⟩ (titO_ok hit)
    have h3' : upd H it (TitO l it (i + 1)) S = some (.lst (ys.take i)) := by rw [upd_ne hne]; exact h3
    show wpAny _ A1.in1 (updateSeq S (·.push u) >>= _) _ _ _
    obtain ⟨z, its3, n3, r3, hl3, e3⟩ := J.lstM h3'
    have hl4 : its3.length = i := by rw [← hl3, List.length_take]; omega
    refine wpAny_bind (wpAny_updateSeq e3 rfl (wpAny_pure ⟨plainId_quiet PySem.F.plain_extend_loop _, ?_⟩) (by rw [List.size_toArray]; omega) (by show (its3.toArray.push u).size ≤ sizeLine + 1; rw [Array.size_push, List.size_toArray]; omega))
    have et : ys.take (i + 1) = ys.take i ++ [ys[i]] := by rw [List.take_succ]; simp [hlt]
    have J2 := J.lset (f := (·.push u)) (its' := its3 ++ [u]) (t' := s.toks) (ys := ys.take (i + 1)) h3' e3 (by simp) (by rw [et]; exact r3.append (.cons ru .nil)) (by rw [List.length_take]; omega)
    refine ih (i + 1) _ _ (by omega) hlt J2 ?_ ?_ upd_same hz fun H2 s2 I2 k2 e2 => hR H2 s2 I2 (fun b hb hc => ?_) e2
    · rw [upd_ne (Ne.symm hne), upd_same]
    · exact rd_upd (rd_upd h2 hln) hlS
    · rw [k2 b hb hc, upd_ne hc, upd_ne hb]
end
/-- list(o): its __iter__ gives a tuple's iterator, its __len__ a number -/
def rLstItR (C : Addr) (spI spL : Sp) (EI EL : XK) : List V → Hp → VK → Prop := fun xs H Q => ∃ a dx fs, xs = [.ref a] ∧ H a = some (.ins C dx fs) ∧ ∀ q, H q = none → q ≠ a →
  spI [.ref a] (upd H q (.lst [])) (fun v H1 => ∃ it l ys, v = .ref it ∧ H1 it = some (TitO l it 0) ∧ L2.Rd H1 l (.tup ys) ∧ H1 q = some (.lst []) ∧ H1 a = some (.ins C dx fs) ∧ ys.length < sizeLine ∧
    spL [.ref a] H1 (fun n H2 => H2 = H1 ∧ ∃ k : Int, n = .int k ∧ 0 ≤ k ∧ k < 1000) EL ∧ ∀ H2, (∀ b, b ≠ it → b ≠ q → H2 b = H1 b) → H2 q = some (.lst ys) → Q (.ref q) H2) EI
section
variable {X : Cx} {CI : CXT} {n : Nat} {C fi fl : Addr} {fdI fdL : FuncData} {psI psL : List Str} {spI spL : Sp} {EI EL : XK}
theorem call_listItR (hc : ItL X.K C fi fl) (FI : FnOk X.prog X.w X.K X.mg X.base CI n fi fdI psI spI) (bI : Binds X.K fdI psI []) (xI : Passes CI X EI)
    (FL : FnOk X.prog X.w X.K X.mg X.base CX0 n fl fdL psL spL) (bL : Binds X.K fdL psL []) (hr : Room (n + 4) X.A) : CallR X (.type "list") (rLstItR C spI spL EI EL) := by
  intro pins s σ H xs us Q I rv h
  obtain ⟨a, dx, fs, rfl, ha, hq⟩ := h
  obtain ⟨u, rfl, ru⟩ := rv.one
  cases ru
  have sb : Sub X (n + 2) X.A.in1.in1 := (Sub.in1 (Sub.in1 (⟨hr, rfl⟩ : Sub X (n + 4) X.A)))
  refine callType_codes (Q₁ := fun obj s₁ => obj = .ref s.heap.objs.size ∧ s₁ = { s with heap := s.heap.push { cls := .type "list", data := .seq #[] } }) PySem.F.called_list (PySem.F.typeCall_list_1 _) PySem.F.entry_list_init (code_list_new _ ⟨rfl, rfl⟩) fun obj s₁ h₁ => ?_
  obtain ⟨rfl, rfl⟩ := h₁
  have hS : (s.heap.push { cls := .type "list", data := .seq #[] }).get? s.heap.objs.size = some { cls := .type "list", data := .seq #[] } := Heap.get?_push_size _ rfl
  refine ⟨⟨_, hS, rfl⟩, PySem.F.args_list_init_2 _ _, ?_⟩
  have fr : H s.heap.objs.size = none := I.hok.fresh (Nat.le_refl _)
  have sp0 := hq _ fr (fun z => by rw [z, ha] at fr; cases fr)
  have I1 : Inv X pins σ (upd H s.heap.objs.size (.lst [])) { s with heap := s.heap.push { cls := .type "list", data := .seq #[] } } := I.lnew (its := []) (t' := s.toks) .nil (Nat.zero_le _)
  show wpAny _ _ (do let old ← Builtin.List.listItems (.ref s.heap.objs.size); Builtin.List.listUpdate (.ref s.heap.objs.size) (fun _ => #[]); letGo old.toList.reverse; Builtin.List.listExtendWith (.ref s.heap.objs.size) (.ref a) .none) _ _ _
  refine wpAny_bind ?_
  unfold Builtin.List.listItems
  refine wpAny_bind (wpAny_seqItems hS rfl (wpAny_pure ?_))
  show wpAny _ _ (updateSeq s.heap.objs.size (fun _ => #[]) >>= fun _ => letGo (#[] : Array Value).toList.reverse >>= fun _ => Builtin.List.listExtendWith (.ref s.heap.objs.size) (.ref a) .none) _ _ _
  refine wpAny_bind (wpAny_updateSeq hS rfl ?_)
  have I2 := I1.lset (f := fun _ => #[]) (its := []) (its' := []) (ys := []) (t' := s.toks) upd_same hS rfl .nil (Nat.zero_le _)
  rw [upd_upd] at I2
  refine wpAny_bind (wpAny_letGo ?_)
  have ha2 : upd H s.heap.objs.size (.lst []) a = some (.ins C dx fs) := by rw [upd_ne (ne_of_none ha fr)]; exact ha
  have hne : s.heap.objs.size ≠ a := fun z => by rw [z, ha] at fr; cases fr
  generalize hq0 : s.heap.objs.size = q at *
  generalize hH0 : upd H q (.lst []) = H0 at *
  obtain ⟨mA, J, _⟩ := ins_get I2.hok ha2
  obtain ⟨od, J, _⟩ := J.look
  obtain ⟨m0, hF⟩ := I2.fr
  unfold Builtin.List.listExtendWith
  refine wpAny_bind (J.type.here ?_)
  have h1 : Builtin.List.listSameRef (.ref q) (.ref a) = false := by simp [Builtin.List.listSameRef, hne]
  simp only [h1, (rfl : (Value.ref C == Value.type "list") = false), (rfl : (Value.ref C == Value.type "tuple") = false), Bool.or_false, Bool.false_eq_true, if_false]
  refine wpAny_bind (PySem.W.owit_iter hF I2.ok.mod.kin J hc.it hc.itF ?_)
  refine wpAny_mono (call_at FI bI xI (A := X.A.in1.in1) (sb.mono (by omega)).room sb.fr I2 (vs := [.ref a]) (.cons rfl .nil) sp0) (fun v s3 z => ?_) fun _ _ z => z
  obtain ⟨x, H1, I3, r3, it, l, ys, ex, e1, e2, e3, e4, hz, q1, q2⟩ := z
  subst ex
  obtain rfl : v = Value.ref it := r3
  have hit := titO_get I3 e1
  unfold PySem.W.OwitIt
  refine wpAny_specialOf (show s3.TypeIs (.ref it) "tuple_iterator" from hit.typeIs) PySem.F.slot_tuple_iterator_next.lookup ?_
  show wpAny _ _ _ _ _ s3
  refine wpAny_bind (wpAny_holding ?_)
  obtain ⟨mB, J3, _⟩ := ins_get I3.hok e4
  obtain ⟨od3, J3, _⟩ := J3.look
  obtain ⟨m3, hF3⟩ := I3.fr
  unfold Builtin.List.listLengthHint
  refine wpAny_bind (wpAny_bind (J3.type.here ((PySem.W.looks_findIn I3.kIn hc.ln).here ?_)))
  refine PySem.W.KFB.if_not rfl ?_
  refine PySem.W.KFB.if_so rfl ?_
  refine wpAny_bind (wpAny_rule (wpAny_bind (wpAny_attempt ?_)))
  refine PySem.W.len_K hF3 I3.ok.mod.kin J3 hc.ln hc.lnF (wpAny_mono (call_at0 FL bL (A := X.A.in1.in1.in1) (Sub.in1 (sb.mono (show n + 1 ≤ n + 2 by omega))).room sb.fr I3 (vs := [.ref a]) (.cons rfl .nil) q1) (fun v s4 z => ?_) fun _ _ z => z)
  obtain ⟨x, H2, I4, r4, eH, k0, ek, hk0, hk1⟩ := z
  subst ek
  subst eH
  obtain ⟨tk4, rfl⟩ := r4
  refine ⟨⟨hk0, by omega⟩, ?_⟩
  refine wpAny_bind (wpAny_of_eq (a := some k0) rfl ?_)
  show wpAny _ _ (if Builtin.List.listTooLong k0.toNat = true then _ else _) _ _ _
  refine PySem.W.KFB.if_not (notLongL (by rw [sizeLine_eq]; omega)) (wpAny_pure ?_)
  have I5 := I4.tok (s4.toks + 1)
  have hne1 : q ≠ it := ne_of e3 e1 (fun z => nomatch z)
  have go : ∀ s5, Inv X pins σ H2 s5 → codeAny (model X.prog X.w) X.A.in1 (.builtin "list.extend.loop" ⟨[.ref q, .ref it, .none], []⟩) (wants (fun r s₂ => r = .none ∧ EP X pins σ Q (.ref q) s₂) X.xe) s5 := fun s5 I6 =>
    tit_loopR (A1 := X.A.in1) (Rs := wants (fun r s₂ => r = .none ∧ EP X pins σ Q (.ref q) s₂) X.xe) (show X.A.in1.handled = none from hr.hd) ys.length 0 H2 s5 (by omega) (Nat.zero_le _) I6 e1 e2 (by rw [List.take_zero]; exact e3) hz fun H7 s7 I7 k7 e7 => ⟨rfl, .ref q, H7, I7, rfl, q2 H7 k7 e7⟩
  refine wpAny_ite_split (fun _ => ?_) (fun _ => wpAny_pure ⟨plainId_quiet PySem.F.plain_extend_loop _, go _ I5⟩)
  refine wpAny_bind (wpAny_rule (wpAny_bind ?_))
  show wpAny _ _ (updateSeq q (·.push .none) >>= fun _ => updateSeq q (·.pop)) _ _ _
  obtain ⟨z, its, n5, r5, hl5, e5⟩ := I5.lstM e3
  cases r5
  refine wpAny_bind (wpAny_updateSeq e5 rfl ?_)
  have I6 := I5.lset (f := (·.push Value.none)) (its' := [Value.none]) (ys := [.non]) (t' := s4.toks + 1) e3 e5 (by simp) (.cons rfl .nil) (by rw [List.length_singleton, sizeLine_eq]; decide)
  obtain ⟨z6, its6, n6, r6, hl6, e6⟩ := I6.lstM upd_same
  obtain ⟨u6, rfl, ru6⟩ := r6.one
  refine wpAny_updateSeq e6 rfl (wpAny_pure ⟨plainId_quiet PySem.F.plain_extend_loop _, go _ ?_⟩) (by show 1 ≤ sizeLine; rw [sizeLine_eq]; decide) (by show 0 ≤ sizeLine + 1; exact Nat.zero_le _)
  have I7 := I6.lset (f := (·.pop)) (its := [u6]) (its' := []) (ys := []) (t' := s4.toks + 1) upd_same e6 (by rfl) .nil (Nat.zero_le _)
  rw [upd_upd] at I7
  have hH : upd H2 q (.lst []) = H2 := by
    funext b
    by_cases hb : b = q
    · rw [hb, upd_same, e3]
    · rw [upd_ne hb]
  rw [hH] at I7
  exact I7
end
end My
set_option maxRecDepth 100000
set_option maxHeartbeats 4000000
namespace My
open PySem L2 PySem.Spec PyProof.Rows
section
variable {X : Cx} {CX : CXT} {k : Nat} {f C : Addr} {fd : FuncData} {ps : List Str} {sp : Sp} {m : Str} {o e : Expr} {es : List Expr} {ta : TE} {t : TA} {apos pos : Pos}
/-- o.m(e, ..) that may raise, what is wished of the exception may speak of the slots -/
def tMethE (C : Addr) (m : Str) (sp : Sp) (E : L2.St → XK) (ta : TE) (t : TA) : TE := fun σ H Q => ta σ H fun x H1 => ∃ a dx fs, x = .ref a ∧ H1 a = some (.ins C dx fs) ∧ fs.lookup m = none ∧ t σ H1 fun vs H2 => sp (x :: vs) H2 Q (E σ)
theorem pe_methE {E : L2.St → XK} {pl : Sem Bool} (he : PE X o ta) (c : Cls X.K C) (hm : Meth X.K C m f) (F : FnOk X.prog X.w X.K X.mg X.base CX k f fd ps sp) (hr : Room k X.A) (hb : Binds X.K fd ps []) (hx : ∀ σ, PassesAt CX X σ (E σ)) (ha : PA X (e :: es) t)
    (hst : starEach (e :: es) X.env = (false, eval e X.env) :: starEach es X.env := by rfl) (hpl : (backTo pos (starEach es X.env)).any (·.1) = false := by rfl)
    (ht : eval (.Call (.Attribute o m apos) (e :: es) [] pos) X.env = (do
      let ov ← eval o X.env
      standAt apos.atName
      let (f, first) ← holding [ov] (getMethod ov m pl)
      callWith pos f first (backTo pos (starEach (e :: es) X.env)) (backToKw pos (keywordEach [] X.env))) := by rfl) :
    PE X (.Call (.Attribute o m apos) (e :: es) [] pos) (tMethE C m sp E ta t) := by
  refine ⟨fun pins s σ H Q I h => ?_⟩
  refine PySem.W.methodCall_KW (pl := pl) (thn (he.run pins s σ H _ I h) fun u s1 ⟨x, H1, I1, rx, a, dx, fs, ex, ea, l, q⟩ => ?_) ht
  subst ex
  obtain rfl : u = Value.ref a := rx
  refine getmeth_ok I1 ea c hm l ?_
  refine PySem.W.callWith_K (first := [.ref a]) (h₀ := X.base) I.ok.mod.kin hm.kp (thn (ha.run pos pins s1 σ H1 _ I1 q) fun us s2 ⟨vs, H2, I2, r, q2⟩ => ⟨I2.kIn, ?_⟩) hst hpl
  exact run_fnS (us := .ref a :: us) (vs := .ref a :: vs) F hr hb (hx σ) I2 (.cons rfl r) q2
theorem pe_methE0 {E : L2.St → XK} {pl : Sem Bool} (he : PE X o ta) (c : Cls X.K C) (hm : Meth X.K C m f) (F : FnOk X.prog X.w X.K X.mg X.base CX k f fd ps sp) (hr : Room k X.A) (hb : Binds X.K fd ps []) (hx : ∀ σ, PassesAt CX X σ (E σ))
    (ht : eval (.Call (.Attribute o m apos) [] [] pos) X.env = (do
      let ov ← eval o X.env
      standAt apos.atName
      let (f, first) ← holding [ov] (getMethod ov m pl)
      callWith pos f first (backTo pos (starEach [] X.env)) (backToKw pos (keywordEach [] X.env))) := by rfl) :
    PE X (.Call (.Attribute o m apos) [] [] pos) (tMethE C m sp E ta tNil) := by
  refine ⟨fun pins s σ H Q I h => ?_⟩
  refine PySem.W.methodCall_KW (pl := pl) (thn (he.run pins s σ H _ I h) fun u s1 ⟨x, H1, I1, rx, a, dx, fs, ex, ea, l, q⟩ => ?_) ht
  subst ex
  obtain rfl : u = Value.ref a := rx
  refine getmeth_ok I1 ea c hm l ?_
  exact PySem.W.callWith_K0 (first := [.ref a]) I1.kIn hm.kp (run_fnS (us := [.ref a]) (vs := [.ref a]) F hr hb (hx σ) I1 (.cons rfl .nil) q)
end
end My
set_option maxRecDepth 100000
set_option maxHeartbeats 4000000
set_option exponentiation.threshold 10000
namespace My
open PySem L2
theorem hu10 {A : Around} {k : Nat} (hr : Room k A) : A.units + 10 < cLine := by have := hr.un; omega
/-- text * int -/
theorem op_mulS {X : Cx} : OpR X (binaryOp .Mult) (fun x y H Q => ∃ (z : Str) (n : Int), x = .str z ∧ y = .int n ∧ MulOk z n ∧ Q (.str (Txt.mul z n)) H) := by
  intro pins s σ H x y v u Q I rx ry h
  obtain ⟨z, n, rfl, rfl, ok, q⟩ := h
  obtain ⟨t, rfl⟩ := rx
  obtain ⟨t', rfl⟩ := ry
  exact PySem.SB.mul ok fun t' k => ⟨.str (Txt.mul z n), H, I.tok _, ⟨_, rfl⟩, q⟩
def rLen2 (K : PySem.W.Frag) : List V → Hp → VK → Prop := fun xs H Q => ∃ p ys, xs = [.ref p] ∧ (SqL K H p ys ∨ SqT K H p ys) ∧ Q (.int ys.length) H
def rListOf (K : PySem.W.Frag) : List V → Hp → VK → Prop := fun xs H Q => ∃ p ys, xs = [.ref p] ∧ (SqL K H p ys ∨ SqT K H p ys) ∧ ∀ l, H l = none → Q (.ref l) (upd H l (.lst ys))
def rTupOf (K : PySem.W.Frag) : List V → Hp → VK → Prop := fun xs H Q => ∃ p ys, xs = [.ref p] ∧ ((SqL K H p ys ∧ ∀ l, H l = none → Q (.ref l) (upd H l (.tup ys))) ∨ (SqT K H p ys ∧ Q (.ref p) H))
/-! ### texts in lists -/
abbrev sv (ss : List Str) : List V := ss.map V.str
theorem len_sv (ss : List Str) : (sv ss).length = ss.length := List.length_map ..
theorem flat_sv (ss : List Str) : (sv ss).all flatV = true := by
  rw [List.all_eq_true]; intro x hx; obtain ⟨s, _, rfl⟩ := List.mem_map.mp hx; rfl
theorem eqV_str (a b : Str) : eqV (.str a) (.str b) = decide (a = b) := by
  first | rfl | (simp only [eqV]; by_cases h : a = b <;> simp [h])
theorem inV_str (x : Str) (ss : List Str) : inV (.str x) (sv ss) = decide (x ∈ ss) := by
  unfold inV
  rw [Bool.eq_iff_iff, List.any_eq_true, decide_eq_true_iff]
  constructor
  · rintro ⟨y, hy, e⟩
    obtain ⟨s, hs, rfl⟩ := List.mem_map.mp hy
    rw [eqV_str, decide_eq_true_iff] at e
    rw [← e]; exact hs
  · intro h
    exact ⟨.str x, List.mem_map.mpr ⟨x, h, rfl⟩, by rw [eqV_str]; simp⟩
theorem sv_get {ss : List Str} {i : Nat} {v : V} (h : (sv ss)[i]? = some v) : ∃ s, ss[i]? = some s ∧ v = .str s := by
  rw [List.getElem?_map] at h
  cases e : ss[i]? with
  | none => rw [e] at h; cases h
  | some t => rw [e] at h; exact ⟨t, rfl, (Option.some.inj h).symm⟩
theorem cut_take {xs : List V} {k : Nat} (h : k ≤ xs.length) : cutV xs none (some (k : Int)) = xs.take k := by
  unfold cutV
  rw [HT.sIx_none, HT.sIx_nat, Nat.min_eq_left h]
  simp
theorem cut_drop {xs : List V} {k : Nat} (h : k ≤ xs.length) : cutV xs (some (k : Int)) none = xs.drop k := by
  unfold cutV
  rw [HT.sIx_none, HT.sIx_nat, Nat.min_eq_left h]
  rw [List.take_of_length_le (by rw [List.length_drop]; exact Nat.le_refl _)]
theorem sv_take (ss : List Str) (k : Nat) : (sv ss).take k = sv (ss.take k) := List.map_take.symm
theorem sv_drop (ss : List Str) (k : Nat) : (sv ss).drop k = sv (ss.drop k) := List.map_drop.symm
/-! ### names -/
def Letters (l : List Nat) : Prop := ∀ c ∈ l, 97 ≤ c ∧ c ≤ 122
structure Good (z : Str) : Prop where
  pos : 1 ≤ z.length
  le : z.length ≤ 8
  let_ : Letters z.cps.toList
/-! ### the first stray of a list -/
def badAt (cs ns : List Str) (i : Nat) : Bool := match ns[i]? with | some x => !decide (x ∈ cs) || decide (x ∈ ns.take i) | none => false
def stray (cs ns : List Str) : Option Nat := (List.range ns.length).find? (badAt cs ns)
def fault (cs ns : List Str) : Option Nat := match stray cs ns with | some i => some i | none => if ns.length < cs.length then some ns.length else none
def optV : Option Nat → V
  | none => .non
  | some i => .int (i : Nat)
theorem stray_some {cs ns : List Str} {i : Nat} (hi : i < ns.length) (h1 : badAt cs ns i = true) (h2 : ∀ j, j < i → badAt cs ns j = false) : stray cs ns = some i := by
  unfold stray
  rw [List.find?_range_eq_some]
  exact ⟨h1, List.mem_range.mpr hi, fun j hj => by rw [h2 j hj]; rfl⟩
theorem stray_none {cs ns : List Str} (h2 : ∀ j, j < ns.length → badAt cs ns j = false) : stray cs ns = none := by
  unfold stray
  rw [List.find?_eq_none]
  intro j hj
  rw [h2 j (List.mem_range.mp hj)]
  exact Bool.false_ne_true
theorem stray_none_iff {cs ns : List Str} : stray cs ns = none ↔ (∀ x ∈ ns, x ∈ cs) ∧ ns.Nodup := by
  unfold stray
  rw [List.find?_eq_none]
  constructor
  · intro h
    have hb : ∀ i (hi : i < ns.length), ns[i] ∈ cs ∧ ns[i] ∉ ns.take i := fun i hi => by
      have := h i (List.mem_range.mpr hi)
      unfold badAt at this
      rw [List.getElem?_eq_getElem hi] at this
      simpa using this
    refine ⟨fun x hx => ?_, ?_⟩
    · obtain ⟨i, hi, rfl⟩ := List.getElem_of_mem hx
      exact (hb i hi).1
    · rw [List.nodup_iff_pairwise_ne, List.pairwise_iff_getElem]
      intro i j hi hj hij e
      refine (hb j hj).2 ?_
      rw [← e]
      exact List.mem_take_iff_getElem.mpr ⟨i, by omega, rfl⟩
  · rintro ⟨h1, h2⟩ i hi
    have hi := List.mem_range.mp hi
    unfold badAt
    rw [List.getElem?_eq_getElem hi]
    have a := h1 _ (List.getElem_mem hi)
    have b : ns[i] ∉ ns.take i := fun hm => by
      obtain ⟨j, hj, e⟩ := List.mem_take_iff_getElem.mp hm
      rw [List.nodup_iff_pairwise_ne, List.pairwise_iff_getElem] at h2
      exact h2 j i (by omega) hi (by omega) e
    simp [a, b]
theorem fault_none {cs ns : List Str} (h1 : ∀ x ∈ ns, x ∈ cs) (h2 : ns.Nodup) (h3 : cs.length ≤ ns.length) : fault cs ns = none := by
  unfold fault
  rw [stray_none_iff.mpr ⟨h1, h2⟩]
  show (if ns.length < cs.length then _ else _) = _
  rw [if_neg (by omega)]
/-- the law's list of what is wrong -/
def wrongs (cs ns : List Str) : List Nat := (List.range ns.length).filter (badAt cs ns) ++ if ns.length < cs.length then [ns.length] else []
theorem wrongs_head (cs ns : List Str) : (wrongs cs ns).head? = fault cs ns := by
  unfold wrongs fault stray
  rw [List.head?_append, List.head?_filter]
  cases (List.range ns.length).find? (badAt cs ns) with
  | some i => rfl
  | none =>
    show Option.or none _ = (if _ then _ else _)
    split <;> rfl
/-! ### runs -/
def runAt (fl : List Bool) (i : Nat) : Bool := fl.getD i false && !(decide (0 < i) && fl.getD (i - 1) false)
def runs (fl : List Bool) : Nat := ((List.range fl.length).filter (runAt fl)).length
theorem runs_le (fl : List Bool) : runs fl ≤ fl.length := by
  unfold runs
  have := List.length_filter_le (runAt fl) (List.range fl.length)
  rw [List.length_range] at this
  exact this
/-! ### the picture -/
theorem mul_len (n : Int) : (Txt.mul (" " : Str) n).length = n.toNat := by
  unfold Txt.mul
  have h1 : ((" " : Str).length == 0) = false := by decide
  split
  · rename_i h
    show 0 = n.toNat
    omega
  · rename_i h
    split
    · rename_i h'
      rw [h1, Bool.or_false, beq_iff_eq] at h'
      subst h'
      rfl
    · have e : ∀ (m : Nat) (acc : Array Nat), ((List.replicate m (" " : Str).cps).foldl (· ++ ·) acc).size = acc.size + m := by
        intro m
        induction m with
        | zero => intro acc; rfl
        | succ m ih =>
          intro acc
          rw [List.replicate_succ, List.foldl_cons, ih, Array.size_append]
          have : (" " : Str).cps.size = 1 := by decide
          rw [this]; omega
      show ((List.replicate n.toNat (" " : Str).cps).foldl (· ++ ·) #[]).size = n.toNat
      rw [e]
      show 0 + n.toNat = _
      omega
theorem mul_cps (n : Int) : (Txt.mul (" " : Str) n).cps = Array.replicate n.toNat 32 := by
  unfold Txt.mul
  have h1 : ((" " : Str).length == 0) = false := by decide
  split
  · rename_i h
    have : n.toNat = 0 := by omega
    rw [this]
    rfl
  · rename_i h
    split
    · rename_i h'
      rw [h1, Bool.or_false, beq_iff_eq] at h'
      subst h'
      decide
    · have e : ∀ (m : Nat) (acc : Array Nat), ((List.replicate m (" " : Str).cps).foldl (· ++ ·) acc) = acc ++ Array.replicate m 32 := by
        intro m
        induction m with
        | zero => intro acc; simp
        | succ m ih =>
          intro acc
          rw [List.replicate_succ, List.foldl_cons, ih]
          have : (" " : Str).cps = #[32] := by decide
          rw [this, Array.append_assoc]
          congr 1
          apply Array.toList_inj.mp
          simp [List.replicate_succ]
      show ((List.replicate n.toNat (" " : Str).cps).foldl (· ++ ·) #[]) = _
      rw [e]
      simp
theorem str_ext {a b : Str} (h : a.cps = b.cps) : a = b := by cases a; cases b; exact congrArg Str.mk h
theorem append_cps (a b : Str) : (a ++ b).cps = a.cps ++ b.cps := rfl
theorem ljust_eq (x : Str) (W : Int) : Txt.ljust x W = x ++ Txt.mul " " (W - x.length) := by
  apply str_ext
  rw [append_cps, mul_cps]
  unfold Txt.ljust
  split
  · rename_i h
    have : (W - (x.length : Int)).toNat = 0 := by omega
    rw [this]; simp
  · rename_i h
    have : W.toNat - x.length = (W - (x.length : Int)).toNat := by omega
    rw [this]
    show Array.replicate 0 32 ++ x.cps ++ Array.replicate _ 32 = _
    simp
theorem ljust_len (x : Str) (W : Int) : (Txt.ljust x W).length = x.length + (W - x.length).toNat := by
  rw [ljust_eq, Str.length_append, mul_len]
def fill (ws : List Str) (W : Int) : Str := Txt.join " " (ws.map fun x => Txt.ljust x W)
def marks (order row : List Str) : List Str := order.map fun x => if x ∈ row then ("x" : Str) else "."
def flags (order row : List Str) : List Bool := order.map fun x => decide (x ∈ row)
def num4 (n : Nat) : Str := Txt.rjust (Str.ofString (toString (n : Int))) 4
def line (order : List Str) (W : Int) (row : List Str) : Str := fill (marks order row) W ++ num4 (runs (flags order row))
def pic (order : List Str) (rows : List (List Str)) (W : Int) : Str := Txt.join "\n" (fill order W :: rows.map (line order W))
theorem num_small : ∀ n : Fin 13, (Str.ofString (toString ((n.val : Nat) : Int))).length ≤ 4 := by decide +kernel
theorem num4_len {n : Nat} (h : n ≤ 12) : (num4 n).length = 4 := by
  have hl : (Str.ofString (toString (n : Int))).length ≤ 4 := num_small ⟨n, by omega⟩
  unfold num4 Txt.rjust
  generalize Str.ofString (toString (n : Int)) = x at hl ⊢
  split
  · rename_i h4; omega
  · show (Array.replicate _ 32 ++ x.cps ++ Array.replicate 0 32).size = 4
    simp
    show (4 : Int).toNat - x.length + x.length = 4
    omega
theorem cut4 {s : Str} (h : s.length ≤ 4) : cutS (("    " : Str) ++ s) (some (-4)) none = Txt.rjust s 4 := by
  apply str_ext
  unfold cutS Txt.rjust
  have hl : (("    " : Str) ++ s).length = 4 + s.length := by rw [Str.length_append]; rfl
  have h1 : HT.sIx (("    " : Str) ++ s).length 0 (some (-4)) = s.length := by
    rw [hl]
    show (if (-4 : Int) < 0 then ((-4 : Int) + ((4 + s.length : Nat) : Int)).toNat else min (-4 : Int).toNat (4 + s.length)) = s.length
    rw [if_pos (by decide)]; omega
  rw [h1, HT.sIx_none, hl]
  have e4 : (("    " : Str)).cps.toList = List.replicate 4 32 := by decide
  apply Array.toList_inj.mp
  rw [append_cps, Array.toList_append, e4]
  have h5 : 4 + s.length - s.length = 4 := by omega
  rw [h5]
  have hs : s.cps.toList.length = s.length := by simp [Str.length]
  have e6 : (List.replicate 4 32 ++ s.cps.toList).drop s.length = List.replicate (4 - s.length) 32 ++ s.cps.toList := by
    rw [List.drop_append_of_le_length (by simp; exact h), List.drop_replicate]
  rw [e6, List.take_of_length_le (by rw [List.length_append, List.length_replicate, hs]; omega)]
  split
  · rename_i h4
    have : 4 - s.length = 0 := by omega
    rw [this]; rfl
  · show _ = (Array.replicate ((4 : Int).toNat - s.length) 32 ++ s.cps ++ Array.replicate 0 32).toList
    simp
/-! ### lengths -/
theorem sum_le {ys : List Nat} {B : Nat} (h : ∀ y ∈ ys, y ≤ B) : ys.sum ≤ ys.length * B := by
  induction ys with
  | nil => simp
  | cons y r ih =>
    have h1 := h y List.mem_cons_self
    have h2 := ih fun x hx => h x (List.mem_cons_of_mem _ hx)
    rw [List.sum_cons, List.length_cons, Nat.succ_mul]
    omega
theorem join_len (a : Str) : ∀ ys : List Str, (Txt.join a ys).length ≤ (ys.map (·.length)).sum + ys.length * a.length
  | [] => by
    show (Txt.join a []).length ≤ 0 + 0 * a.length
    have : (Txt.join a []).length = 0 := rfl
    omega
  | [x] => by
    have : Txt.join a [x] = x := by rw [TL.join_eq]; rfl
    rw [this]
    simp
  | x :: y :: r => by
    have e : Txt.join a (x :: y :: r) = x ++ a ++ Txt.join a (y :: r) := by rw [TL.join_eq, TL.join_eq]; rfl
    have ih := join_len a (y :: r)
    rw [e, Str.length_append, Str.length_append, List.map_cons, List.sum_cons, List.length_cons, Nat.succ_mul]
    omega
theorem fits_join {a : Str} {ys : List Str} {B n : Nat} (h : ∀ y ∈ ys, y.length ≤ B) (hn : ys.length ≤ n) (hs : n * (B + a.length) ≤ 16777216) : (ys.map (·.length)).sum + ys.length * a.length ≤ 16777216 ∧ (Txt.join a ys).length ≤ n * (B + a.length) := by
  have h1 : (ys.map (·.length)).sum ≤ (ys.map (·.length)).length * B := sum_le fun y hy => by
    obtain ⟨z, hz, rfl⟩ := List.mem_map.mp hy
    exact h z hz
  rw [List.length_map] at h1
  have h2 := join_len a ys
  have h3 : ys.length * (B + a.length) ≤ n * (B + a.length) := Nat.mul_le_mul_right _ hn
  rw [Nat.mul_add] at h3
  omega
/-! ### names, in general -/
def okName (z : Str) : Bool := decide (1 ≤ z.length) && (decide (z.length ≤ 8) && z.cps.toList.all fun c => decide (97 ≤ c ∧ c ≤ 122))
theorem okName_iff {z : Str} : okName z = true ↔ Good z := by
  unfold okName
  rw [Bool.and_eq_true, Bool.and_eq_true, decide_eq_true_iff, decide_eq_true_iff, List.all_eq_true]
  exact ⟨fun ⟨a, b, c⟩ => ⟨a, b, fun x hx => of_decide_eq_true (c x hx)⟩, fun h => ⟨h.pos, h.le, fun x hx => decide_eq_true (h.let_ x hx)⟩⟩
def badName (ns : List Str) (i : Nat) : Bool := match ns[i]? with | some x => !okName x || decide (x ∈ ns.take i) | none => false
def firstBad (ns : List Str) : Option Nat := (List.range ns.length).find? (badName ns)
theorem firstBad_some {ns : List Str} {i : Nat} (hi : i < ns.length) (h1 : badName ns i = true) (h2 : ∀ j, j < i → badName ns j = false) : firstBad ns = some i := by
  unfold firstBad
  rw [List.find?_range_eq_some]
  exact ⟨h1, List.mem_range.mpr hi, fun j hj => by rw [h2 j hj]; rfl⟩
theorem firstBad_none {ns : List Str} (h2 : ∀ j, j < ns.length → badName ns j = false) : firstBad ns = none := by
  unfold firstBad
  rw [List.find?_eq_none]
  intro j hj
  rw [h2 j (List.mem_range.mp hj)]
  exact Bool.false_ne_true
theorem firstBad_none_iff {ns : List Str} : firstBad ns = none ↔ (∀ x ∈ ns, Good x) ∧ ns.Nodup := by
  unfold firstBad
  rw [List.find?_eq_none]
  constructor
  · intro h
    have hb : ∀ i (hi : i < ns.length), Good ns[i] ∧ ns[i] ∉ ns.take i := fun i hi => by
      have := h i (List.mem_range.mpr hi)
      unfold badName at this
      rw [List.getElem?_eq_getElem hi] at this
      simp at this
      exact ⟨okName_iff.mp this.1, this.2⟩
    refine ⟨fun x hx => ?_, ?_⟩
    · obtain ⟨i, hi, rfl⟩ := List.getElem_of_mem hx
      exact (hb i hi).1
    · rw [List.nodup_iff_pairwise_ne, List.pairwise_iff_getElem]
      intro i j hi hj hij e
      refine (hb j hj).2 ?_
      rw [← e]
      exact List.mem_take_iff_getElem.mpr ⟨i, by omega, rfl⟩
  · rintro ⟨h1, h2⟩ i hi
    have hi := List.mem_range.mp hi
    unfold badName
    rw [List.getElem?_eq_getElem hi]
    have a := okName_iff.mpr (h1 _ (List.getElem_mem hi))
    have b : ns[i] ∉ ns.take i := fun hm => by
      obtain ⟨j, hj, e⟩ := List.mem_take_iff_getElem.mp hm
      rw [List.nodup_iff_pairwise_ne, List.pairwise_iff_getElem] at h2
      exact h2 j i (by omega) hi (by omega) e
    simp [a, b]
/-! ### strip -/
theorem strip_all {x y : Str} : Txt.stripChars x y = Str.empty ↔ ∀ c ∈ x.cps.toList, y.cps.contains c = true := by
  obtain ⟨a0, a1, a2⟩ := PyProof.Rows.lo_facts y.cps.contains x
  obtain ⟨b0, b1, b2, b3⟩ := PyProof.Rows.hi_facts y.cps.contains x (PySem.stripLo y.cps.contains true x) a0
  unfold Txt.stripChars
  rw [PyProof.Rows.stripBy_eq]
  generalize PySem.stripLo y.cps.contains true x = lo at *
  generalize PySem.stripHi y.cps.contains true x lo = hi at *
  have hl : (Builtin.Str.strSub x lo hi).length = hi - lo := by
    show (x.cps.extract lo hi).size = hi - lo
    rw [Array.size_extract]
    have : x.cps.size = x.length := rfl
    rw [this]
    have := b1
    omega
  have gd : ∀ k (hk : k < x.length), x.cps.getD k 0 = x.cps[k]'hk := fun k hk => by
    show x.cps.getD k 0 = _
    unfold Array.getD
    exact dif_pos hk
  constructor
  · intro e c hc
    rw [e] at hl
    have hl : 0 = hi - lo := hl
    rw [Array.mem_toList_iff] at hc
    obtain ⟨k, hk, rfl⟩ := Array.getElem_of_mem hc
    by_cases h : k < lo
    · have := a1 k h; rw [gd k hk] at this; exact this
    · have := b2 k (by omega) hk; rw [gd k hk] at this; exact this
  · intro h
    have lo_eq : lo = x.length := by
      rcases a2 with e | e
      · exact e
      · by_cases hlt : lo < x.length
        · rw [gd lo hlt, h _ (by rw [Array.mem_toList_iff]; exact Array.getElem_mem hlt)] at e; cases e
        · omega
    have : hi - lo = 0 := by omega
    rw [this] at hl
    apply str_ext
    exact Array.eq_empty_of_size_eq_zero hl
theorem alpha_has : ∀ c : Nat, (("abcdefghijklmnopqrstuvwxyz" : Str)).cps.contains c = true ↔ 97 ≤ c ∧ c ≤ 122 := by
  intro c
  rw [Array.contains_iff_mem]
  have e : (("abcdefghijklmnopqrstuvwxyz" : Str)).cps.toList = (List.range 26).map (97 + ·) := by decide +kernel
  rw [← Array.mem_toList_iff, e, List.mem_map]
  constructor
  · rintro ⟨a, ha, rfl⟩
    have := List.mem_range.mp ha
    omega
  · rintro ⟨h1, h2⟩
    exact ⟨c - 97, List.mem_range.mpr (by omega), by omega⟩
theorem strip_ok {z : Str} : Txt.stripChars z "abcdefghijklmnopqrstuvwxyz" = Str.empty ↔ Letters z.cps.toList := by
  rw [strip_all]
  exact ⟨fun h c hc => (alpha_has c).mp (h c hc), fun h c hc => (alpha_has c).mpr (h c hc)⟩
theorem empty_eq : ("" : Str) = Str.empty := by decide
theorem okName_and {z : Str} : okName z = true ↔ Txt.stripChars z "abcdefghijklmnopqrstuvwxyz" = ("" : Str) ∧ (0 < z.length ∧ z.length < 9) := by
  rw [okName_iff, empty_eq, strip_ok]
  exact ⟨fun g => ⟨g.let_, by have := g.pos; omega, by have := g.le; omega⟩, fun ⟨a, b, c⟩ => ⟨by omega, by omega, a⟩⟩
/-- // by any divisor but 0 below 2 ^ 9000 -/
def CDivX (_ j : Int) : Prop := j ≠ 0 ∧ j.natAbs < 2 ^ 9000
theorem op_fdivX {X : Cx} : OpR X (binaryOp .FloorDiv) (rI CDivX fun i j => .int (i.fdiv j)) := opI fun i j _ _ _ _ _ hc q =>
  PyProof.Rows.floordiv_int hc.1 q (.inl (PyProof.noPylong_of_log2 (PySem.Flt.log2_lt_of (by decide) hc.2)))
theorem itN {c A B : Prop} [Decidable c] (hc : ¬ c) (h : B) : if decide c = true then A else B := by
  rw [decide_eq_false hc]; exact iteF h
theorem itY {c A B : Prop} [Decidable c] (hc : c) (h : A) : if decide c = true then A else B := by
  rw [decide_eq_true hc]; exact iteT h
theorem ifT {b : Bool} {A B : Prop} (hb : b = true) (h : A) : if b = true then A else B := by rw [if_pos hb]; exact h
theorem ifF {b : Bool} {A B : Prop} (hb : b = false) (h : B) : if b = true then A else B := by rw [if_neg (by rw [hb]; decide)]; exact h
theorem same_new {H : Hp} {l : Addr} {o : HO} (h : H l = none) : Same H (upd H l o) := fun b u e => by rw [upd_ne (ne_of_none e h)]; exact e
theorem _root_.L2.Same.tup {K : PySem.W.Frag} {H H' : Hp} {a : Addr} {xs : List V} (e : Same H H') (h : SqT K H a xs) : SqT K H' a xs := by
  rcases h with (r | ⟨o, r⟩) | z
  · exact .inl (.inl (e _ _ r))
  · exact .inl (.inr ⟨o, e _ _ r⟩)
  · exact .inr z
/-! ### a comprehension's list -/
/-- the heap H1 has grown, at D stands fm i -/
def PvS (H1 : Hp) (D : Addr) (fm : Nat → List V) (i : Nat) (H : Hp) : Prop := Same H1 H ∧ H D = some (.lst (fm i))
theorem pv0 {H1 : Hp} {D : Addr} {fm : Nat → List V} (hD : H1 D = none) (h : fm 0 = []) : PvS H1 D fm 0 (upd H1 D (.lst [])) := ⟨same_new hD, by rw [h]; exact upd_same⟩
theorem PvS.more {H1 H H' : Hp} {D : Addr} {fm : Nat → List V} {i : Nat} (p : PvS H1 D fm i H) (s : Same H H') : PvS H1 D fm i H' := ⟨p.1.trans s, s _ _ p.2⟩
theorem PvS.push {H1 H : Hp} {D : Addr} {fm : Nat → List V} {i : Nat} {y : V} (p : PvS H1 D fm i H) (hD : H1 D = none) (h : fm (i + 1) = fm i ++ [y]) (hl : (fm i).length ≤ 1000000) :
    ∃ acc, H D = some (.lst acc) ∧ acc.length < sizeLine ∧ PvS H1 D fm (i + 1) (upd H D (.lst (acc ++ [y]))) := by
  refine ⟨fm i, p.2, Nat.lt_of_le_of_lt hl (by decide), fun b o e => ?_, ?_⟩
  · rw [upd_ne (ne_of_none e hD)]; exact p.1 _ _ e
  · rw [h]; exact upd_same
theorem PvS.skip {H1 H : Hp} {D : Addr} {fm : Nat → List V} {i : Nat} (p : PvS H1 D fm i H) (h : fm (i + 1) = fm i) : PvS H1 D fm (i + 1) H := ⟨p.1, by rw [h]; exact p.2⟩
theorem small_int {n : Nat} (h : n ≤ 1000000) : n < sizeLine := Nat.lt_of_le_of_lt h (by decide)
theorem take_succ {α : Type} {xs : List α} {i : Nat} {x : α} (h : xs[i]? = some x) : xs.take (i + 1) = xs.take i ++ [x] := by
  rw [List.take_succ, h]; rfl
theorem not_take {ns : List Str} {i : Nat} {z : Str} (nd : ns.Nodup) (hz : ns[i]? = some z) : z ∉ ns.take i := by
  intro hm
  obtain ⟨j, hj, e⟩ := List.mem_take_iff_getElem.mp hm
  obtain ⟨hi, e2⟩ := List.getElem?_eq_some_iff.mp hz
  rw [List.nodup_iff_pairwise_ne, List.pairwise_iff_getElem] at nd
  exact nd j i (by omega) hi (by omega) (e.trans e2.symm)
theorem itNe {A B : Prop} {x y : V} (h : x = y) (h2 : B) : if (!decide (x = y)) = true then A else B := by
  rw [decide_eq_true h]; exact iteF h2
theorem itNeN {A B : Prop} {x y : V} (h : x ≠ y) (h2 : A) : if (!decide (x = y)) = true then A else B := by
  rw [decide_eq_false h]; exact iteT h2
/-- a def that may raise -/
theorem funX {P : Program} {w : World} {K : PySem.W.Frag} {mg : Str → Option Value} {base : Heap} {CX : CXT} {x qual : Str} {st : Stmt} {f : Addr} {fd : FuncData} {N ps : List Str} {k : Nat} {sp : Sp} (F : Fun K x qual st f fd) (S : FnScope N ps (defScope st)) (len : ∀ vs H Q E, sp vs H Q E → vs.length = ps.length)
    (hbody : ∀ (cdv : Value) (A : Around) (outer : List Env) (s : Shared) (H : Hp) (vs : List V) (Q : VK) (E : XK), Room k (A.deeper (PyProof.Rows.envOfC qual (defScope st) s.heap.objs.size f cdv)) → sp vs H Q E →
      ∃ t, PSs (cxOf CX P w K mg base N qual (defScope st) f cdv A outer s H E) (defBody st) t ∧ t { nx := fun _ H' => Q .non H', rt := Q } (L2.start N vs) H) : FnOk P w K mg base CX (k + 1) f fd ps sp := by
  obtain ⟨oc, od, kV, doc, pm, an, cdv, ct, osl, rfl, lk, hcd⟩ := F.ex
  exact fn_of lk hcd S len fun A outer s H vs Q E hr hsp => hbody cdv A outer s H vs Q E hr hsp
theorem seq_upd {K : PySem.W.Frag} {H : Hp} {a b : Addr} {xs : List V} {u o : HO} (h : SqL K H a xs) (hb : H b = some u) (h1 : ∀ ys, u ≠ .lst ys) (h2 : ∀ c d, u ≠ .frz c d) : SqL K (upd H b o) a xs := by
  rcases h with (r | ⟨c, r⟩) | z
  · exact .inl (.inl (by rw [upd_ne (ne_of r hb (fun z => h1 _ z.symm))]; exact r))
  · exact .inl (.inr ⟨c, by rw [upd_ne (ne_of r hb (fun z => h2 _ _ z.symm))]; exact r⟩)
  · exact .inr z
/-! ### tables -/
theorem krc : ¬ (("columns" : Str) = "rows") := by decide +kernel
def fldsT (ct rt : Addr) : List (Str × V) := putF "rows" (.ref rt) (putF "columns" (.ref ct) [])
theorem fldsT_columns (ct rt : Addr) : (fldsT ct rt).lookup ("columns" : Str) = some (.ref ct) := by
  unfold fldsT; rw [lookup_putF, if_neg krc, lookup_putF, if_pos rfl]
theorem fldsT_rows (ct rt : Addr) : (fldsT ct rt).lookup ("rows" : Str) = some (.ref rt) := by
  unfold fldsT; rw [lookup_putF, if_pos rfl]
/-- at ts stand the lists (or tuples) of texts rs -/
structure Lss (f : List V → HO) (H : Hp) (ts : List Addr) (rs : List (List Str)) : Prop where
  len : ts.length = rs.length
  at_ : ∀ (i : Nat) (t : Addr) (r : List Str), ts[i]? = some t → rs[i]? = some r → H t = some (f (sv r))
theorem Lss.same {f : List V → HO} {H H' : Hp} {ts : List Addr} {rs : List (List Str)} (h : Lss f H ts rs) (e : Same H H') : Lss f H' ts rs := ⟨h.len, fun i t x a b => e _ _ (h.at_ i t x a b)⟩
theorem Lss.nil {f : List V → HO} {H : Hp} : Lss f H [] [] := ⟨rfl, fun i t x h => by simp at h⟩
theorem Lss.app {f : List V → HO} {H : Hp} {ts : List Addr} {rs : List (List Str)} {t : Addr} {r : List Str} (h : Lss f H ts rs) (ht : H t = some (f (sv r))) : Lss f H (ts ++ [t]) (rs ++ [r]) := by
  refine ⟨by rw [List.length_append, List.length_append, h.len]; rfl, fun i u y a b => ?_⟩
  rcases Nat.lt_trichotomy i ts.length with c | c | c
  · rw [List.getElem?_append_left c] at a
    rw [List.getElem?_append_left (by rw [← h.len]; exact c)] at b
    exact h.at_ i u y a b
  · rw [c, List.getElem?_append_right (Nat.le_refl _), Nat.sub_self] at a
    rw [c, h.len, List.getElem?_append_right (Nat.le_refl _), Nat.sub_self] at b
    cases a; cases b; exact ht
  · rw [List.getElem?_append_right (by omega), List.getElem?_eq_none (by simp; omega)] at a
    cases a
theorem Lss.get {f : List V → HO} {H : Hp} {ts : List Addr} {rs : List (List Str)} (h : Lss f H ts rs) {i : Nat} {t : Addr} (hi : ts[i]? = some t) : ∃ r, rs[i]? = some r ∧ H t = some (f (sv r)) := by
  have hx : i < rs.length := by rw [← h.len]; exact (List.getElem?_eq_some_iff.mp hi).1
  exact ⟨rs[i], List.getElem?_eq_getElem hx, h.at_ i _ _ hi (List.getElem?_eq_getElem hx)⟩
theorem refs_get {ts : List Addr} {i : Nat} {v : V} (h : (ts.map V.ref)[i]? = some v) : ∃ t, ts[i]? = some t ∧ v = .ref t := by
  rw [List.getElem?_map] at h
  cases e : ts[i]? with
  | none => rw [e] at h; cases h
  | some t => rw [e] at h; exact ⟨t, rfl, (Option.some.inj h).symm⟩
/-- the row in the columns' sequence -/
def canon (cs r : List Str) : List Str := cs.filter fun x => decide (x ∈ r)
theorem canon_T {l r : List Str} {z : Str} (hm : z ∈ r) : canon (l ++ [z]) r = canon l r ++ [z] := by
  unfold canon; rw [List.filter_append]; simp [hm]
theorem canon_F {l r : List Str} {z : Str} (hm : z ∉ r) : canon (l ++ [z]) r = canon l r := by
  unfold canon; rw [List.filter_append]; simp [hm]
theorem Lss.updT {H : Hp} {ts : List Addr} {rs : List (List Str)} {l : Addr} {u o : HO} (h : Lss .tup H ts rs) (hl : H l = some u) (hu : ∀ xs, u ≠ .tup xs) : Lss .tup (upd H l o) ts rs := ⟨h.len, fun i t x a b => by
  have := h.at_ i t x a b
  rw [upd_ne (ne_of this hl (fun z => hu _ z.symm))]
  exact this⟩
/-- the table with the columns cs and the rows rs stands at p -/
def Tb (C : Addr) (H : Hp) (p : Addr) (cs : List Str) (rs : List (List Str)) : Prop :=
  ∃ dx ct rt ts, H p = some (.ins C dx (fldsT ct rt)) ∧ H ct = some (.tup (sv cs)) ∧ H rt = some (.tup (ts.map V.ref)) ∧ Lss .tup H ts (rs.map (canon cs))
theorem Tb.same {C : Addr} {H H' : Hp} {p : Addr} {cs : List Str} {rs : List (List Str)} (h : Tb C H p cs rs) (e : Same H H') : Tb C H' p cs rs :=
  let ⟨dx, ct, rt, ts, h1, h2, h3, h4⟩ := h; ⟨dx, ct, rt, ts, e _ _ h1, e _ _ h2, e _ _ h3, h4.same e⟩
theorem exc_same {H : Hp} {a d : Addr} {o1 o2 o3 o4 : HO} (ha : H a = none) (hd : H d = none) : Same H (upd (L2.del (upd (upd (upd H a o1) d o2) a o3) a) d o4) := fun b o e => by
  rw [upd_ne (ne_of_none e hd), L2.del_ne (ne_of_none e ha), upd_ne (ne_of_none e ha), upd_ne (ne_of_none e hd), upd_ne (ne_of_none e ha)]
  exact e
theorem fault_lt {cs ns : List Str} {i : Nat} (h : fault cs ns = some i) : i ≤ ns.length := by
  unfold fault at h
  cases hs : stray cs ns with
  | some j =>
    rw [hs] at h
    cases h
    unfold stray at hs
    rw [List.find?_range_eq_some] at hs
    exact Nat.le_of_lt (List.mem_range.mp hs.2.1)
  | none =>
    rw [hs] at h
    have h : (if ns.length < cs.length then some ns.length else none) = some i := h
    split at h
    · cases h; exact Nat.le_refl _
    · cases h
section
variable {K : PySem.W.Frag}
theorem passS0 {X : Cx} : ∀ σ, PassesAt CX0 X σ ((fun _ => E0) σ) := fun _ _ _ _ _ _ _ h => h.elim
theorem fnIn_of {x qual : Str} {st : Stmt} {f : Addr} {fd : FuncData} (F : Fun K x qual st f fd) : PySem.W.fnIn K f = true := by
  obtain ⟨oc, od, kV, doc, pm, an, cdv, ct, osl, rfl, lk, hcd⟩ := F.ex
  unfold PySem.W.fnIn
  rw [lk]
end
section
variable {P : Program} {w : World} {K : PySem.W.Frag} {mg : Str → Option Value} {base : Heap}
/-- a promise under which nothing is raised -/
theorem quiet {k : Nat} {f : Addr} {fd : FuncData} {ps : List Str} {sp sp' : Sp} (F : FnOk P w K mg base (L2.CX P w) k f fd ps sp) (h : ∀ vs H Q E, sp' vs H Q E → sp vs H Q E0) : FnOk P w K mg base CX0 k f fd ps sp' :=
  ⟨fun vs H Q E q => F.len _ _ _ _ (h _ _ _ _ q), fun A outer s H args us vs Q E hr he hb hv hs => codeAny_mono (F.run A outer s H args us vs Q E0 hr he hb hv (h _ _ _ _ hs)) fun r s' g => by
    cases r with
    | ok fl => cases fl <;> exact g
    | error e => obtain ⟨_, _, _, _, _, _, _, _, _, _, _, _, z⟩ := g; exact z.elim⟩
/-- two promises of one def -/
theorem fnok_or {CX : CXT} {k : Nat} {f : Addr} {fd : FuncData} {ps : List Str} {sp sp' : Sp} (F : FnOk P w K mg base CX k f fd ps sp) (G : FnOk P w K mg base CX k f fd ps sp') : FnOk P w K mg base CX k f fd ps (fun vs H Q E => sp vs H Q E ∨ sp' vs H Q E) :=
  ⟨fun vs H Q E h => h.elim (F.len vs H Q E) (G.len vs H Q E), fun A outer s H args us vs Q E hr he hb hv hs => hs.elim (F.run A outer s H args us vs Q E hr he hb hv) (G.run A outer s H args us vs Q E hr he hb hv)⟩
end
theorem hu65 {A : Around} {k : Nat} (hr : Room k A) : A.units + 65 < cLine := by have := hr.un; omega
theorem cut_sv (os : List Str) (lo hi : Option Int) : ∃ ys : List Str, cutV (sv os) lo hi = sv ys ∧ ys.Sublist os := by
  unfold cutV
  rw [sv_drop, sv_take]
  exact ⟨_, rfl, (List.take_sublist _ _).trans (List.drop_sublist _ _)⟩
theorem sv_app (a b : List Str) : sv a ++ sv b = sv (a ++ b) := List.map_append.symm
/-- texts that can be laid -/
abbrev Okz (z : Str) : Prop := PyData.canLay0 (.str z) = true
theorem okz_good {z : Str} (h : Good z) : Okz z := by
  show PyData.canLay0 (.str z) = true
  unfold PyData.canLay0 PyData.strOk
  rw [Array.all_eq_true]
  intro i hi
  have := h.let_ z.cps[i] (by rw [Array.mem_toList_iff]; exact Array.getElem_mem hi)
  exact decide_eq_true (by omega)
abbrev pd (ss : List Str) : List PyData := ss.map PyData.str
theorem lay_all {ss : List Str} (h : ∀ z ∈ ss, Okz z) : PyData.canLayAll0 (pd ss) = true := by
  induction ss with
  | nil => rfl
  | cons a t ih =>
    show (PyData.canLay0 (.str a) && PyData.canLayAll0 (pd t)) = true
    rw [h a List.mem_cons_self, ih fun z hz => h z (List.mem_cons_of_mem _ hz)]; rfl
theorem depth_pd : ∀ ss : List Str, PyData.depthAll (pd ss) ≤ 1
  | [] => by simp [PyData.depthAll]
  | n :: r => by
    have e : PyData.depthAll (r.map PyData.str) ≤ 1 := depth_pd r
    simp only [List.map_cons, PyData.depthAll, PyData.depth]
    omega
theorem shaped_pd {ss : List Str} (h : ∀ z ∈ ss, Okz z) : SeqAt.shaped (.list (pd ss)) = true := by
  have h1 := depth_pd ss
  show (PyData.canLay0 (.list (pd ss)) && decide (PyData.depth (.list (pd ss)) ≤ 64)) = true
  rw [Bool.and_eq_true]
  exact ⟨by simp only [PyData.canLay0]; exact lay_all h, decide_eq_true (by simp only [PyData.depth]; omega)⟩
theorem dp_pd {K : PySem.W.Frag} {H : Hp} : ∀ ss : List Str, DpAll K H (sv ss) (pd ss)
  | [] => .nil
  | s :: r => .cons (.str s) (dp_pd r)
theorem eqv_pd {ss : List Str} (h : ∀ z ∈ ss, Okz z) : PyData.eqv (.list (pd ss)) (.list (pd ss)) = true := SeqAt.eqv_refl _ (by simp only [PyData.canLay0]; exact lay_all h)
theorem dpAll_bl {K : PySem.W.Frag} {H : Hp} : ∀ bs : List Bool, DpAll K H (bs.map V.bl) (bs.map PyData.bool)
  | [] => .nil
  | b :: bs => .cons (.bl b) (dpAll_bl bs)
theorem exm_self {K : PySem.W.Frag} {C : Addr} (hb : PySem.W.subIn K (.ref C) (.type "BaseException") = some true) (hi : PySem.W.isClsIn K C = true) (ht : PySem.W.typeIn K (.ref C) = some (.type "type")) (hs : PySem.W.subIn K (.ref C) (.ref C) = some true) :
    PySem.W.exmOne K (.ref C) (.ref C) = some true := by
  unfold PySem.W.exmOne
  rw [hb, if_pos (by rfl)]
  show (if ((PySem.W.clsIn K C).isSome && PySem.W.typeIn K (.ref C) == some (.type "type")) = true then _ else _) = _
  rw [if_pos (by
    rw [ht]
    have : (PySem.W.clsIn K C).isSome = true := hi
    rw [this]; simp)]
  exact hs
theorem nd_len : ∀ (x cs : List Str), x.Nodup → (∀ y ∈ x, y ∈ cs) → x.length ≤ cs.length
  | [], _, _, _ => Nat.zero_le _
  | a :: t, cs, nd, h => by
    have nd := List.nodup_cons.mp nd
    have hp := List.perm_cons_erase (h a List.mem_cons_self)
    have := nd_len t (cs.erase a) nd.2 fun y hy => by
      have hy' := h y (List.mem_cons_of_mem _ hy)
      exact (List.mem_erase_of_ne (fun e => nd.1 (by rw [← e]; exact hy))).mpr hy'
    have e := hp.length_eq
    rw [List.length_cons] at e ⊢
    omega
theorem at_sv {ss : List Str} {j : Int} (h0 : 0 ≤ j) (h1 : j < ss.length) : ∃ z, z ∈ ss ∧ atI (sv ss) j = some (V.str z) := by
  obtain ⟨n, rfl⟩ := Int.eq_ofNat_of_zero_le h0
  have hn : n < ss.length := by omega
  exact ⟨ss[n], List.getElem_mem hn, atI_nat (by rw [List.getElem?_map, List.getElem?_eq_getElem hn]; rfl)⟩
theorem sv3 (a b : List Str) (x : Str) : sv a ++ [V.str x] ++ sv b = sv (a ++ [x] ++ b) := by simp [sv]
theorem mulW {i j : Int} (hi : i.natAbs < 2 ^ 9000) (hj : j.natAbs < 2 ^ 9000) : CMulW i j := wide_mul hi hj (by decide) (by decide) (by decide)
theorem atI_ok {xs : List Int} {j : Int} (h0 : 0 ≤ j) (h1 : j < xs.length) : ∃ v, v ∈ xs ∧ atI (xs.map V.int) j = some (V.int v) := by
  have hj : j.toNat < xs.length := by omega
  refine ⟨xs[j.toNat], List.getElem_mem hj, ?_⟩
  have e : (xs.map V.int)[j.toNat]? = some (V.int xs[j.toNat]) := by rw [List.getElem?_map, List.getElem?_eq_getElem hj]; rfl
  have := atI_nat e
  rw [show ((j.toNat : Nat) : Int) = j by omega] at this
  exact this
theorem len_map_int (xs : List Int) : (xs.map V.int).length = xs.length := List.length_map ..
/-- a pool of draws -/
def Pool (ns : List Int) : Prop := ∀ x ∈ ns, 0 ≤ x ∧ x < 27720
theorem Pool.nil : Pool [] := fun x h => nomatch h
theorem Pool.app {ns : List Int} {x : Int} (h : Pool ns) (h0 : 0 ≤ x) (h1 : x < 27720) : Pool (ns ++ [x]) := fun y hy => by
  rcases List.mem_append.mp hy with hy | hy
  · exact h y hy
  · cases List.mem_singleton.mp hy; exact ⟨h0, h1⟩
theorem upd_app {H : Hp} {l : Addr} {ps : List Int} {x : Int} : upd (upd H l (.lst (ps.map V.int))) l (.lst (ps.map V.int ++ [V.int x])) = upd H l (.lst ((ps ++ [x]).map V.int)) := by
  rw [upd_upd, List.map_append]
  rfl
theorem mod_sz {x m : Int} {k : Nat} (h : 0 < m) (hk : m.natAbs < 2 ^ k) : (x % m).natAbs < 2 ^ k := by
  have h1 := Int.emod_nonneg x (Int.ne_of_gt h)
  have h2 := Int.emod_lt_of_pos x h
  omega
/-! ### drawn names -/
theorem alpha_at : ∀ k : Fin 26, atI (("abcdefghijklmnopqrstuvwxyz" : Str)).cps.toList ((k.val : Nat) : Int) = some (97 + k.val) := by decide +kernel
theorem alpha_ix : ∀ k : Fin 26, Builtin.Str.occurrences ("abcdefghijklmnopqrstuvwxyz" : Str) ⟨#[97 + k.val]⟩ 0 (("abcdefghijklmnopqrstuvwxyz" : Str)).length 1 = [k.val] := by decide +kernel
theorem alpha_len : (("abcdefghijklmnopqrstuvwxyz" : Str)).length ≤ sizeLine := by decide
theorem Letters.app {l m : List Nat} (h : Letters l) (k : Letters m) : Letters (l ++ m) := fun c hc => (List.mem_append.mp hc).elim (h c) (k c)
theorem Letters.one {c : Nat} (h0 : 97 ≤ c) (h1 : c ≤ 122) : Letters [c] := fun d hd => by rw [List.mem_singleton.mp hd]; exact ⟨h0, h1⟩
/-- the word whose last sign has gone t signs on -/
def wat (pre : List Nat) (c t : Nat) : Str := ⟨(pre ++ [97 + (c - 97 + t) % 26]).toArray⟩
theorem wat_len {pre : List Nat} {c t : Nat} : (wat pre c t).length = pre.length + 1 := by
  show ((pre ++ [97 + (c - 97 + t) % 26]).toArray).size = _
  rw [List.size_toArray, List.length_append]; rfl
theorem wat_last {pre : List Nat} {c t : Nat} : atI (wat pre c t).cps.toList (-1) = some (97 + (c - 97 + t) % 26) := by
  show atI (pre ++ [97 + (c - 97 + t) % 26]) (-1) = _
  unfold atI ixN
  rw [if_neg (by decide)]
  have h1 : ((pre ++ [97 + (c - 97 + t) % 26]).length : Int) = (pre.length : Int) + 1 := by rw [List.length_append]; rfl
  have e : (-1 + ((pre ++ [97 + (c - 97 + t) % 26]).length : Int)).toNat = pre.length := by omega
  rw [if_pos (by omega), e]
  simp
theorem wat_next {pre : List Nat} {c t : Nat} : wat pre c (t + 1) = cutS (wat pre c t) none (some (-1)) ++ (⟨#[97 + ((c - 97 + t) % 26 + 1) % 26]⟩ : Str) := by
  apply str_ext
  apply Array.toList_inj.mp
  rw [append_cps, Array.toList_append]
  show pre ++ [97 + (c - 97 + (t + 1)) % 26] = (((pre ++ [97 + (c - 97 + t) % 26]).drop 0).take _) ++ [97 + ((c - 97 + t) % 26 + 1) % 26]
  have h2 : HT.sIx (wat pre c t).length (wat pre c t).length (some (-1)) - HT.sIx (wat pre c t).length 0 none = pre.length := by
    rw [wat_len]
    unfold HT.sIx
    simp
    omega
  rw [h2, List.drop_zero, List.take_left]
  have : (c - 97 + (t + 1)) % 26 = ((c - 97 + t) % 26 + 1) % 26 := by omega
  rw [this]
theorem nodup_le {l : List Str} : ∀ {m : List Str}, l.Nodup → (∀ x ∈ l, x ∈ m) → l.length ≤ m.length := by
  induction l with
  | nil => intro m _ _; exact Nat.zero_le _
  | cons a t ih =>
    intro m nd h
    rw [List.nodup_cons] at nd
    have ha := h a List.mem_cons_self
    have := ih (m := m.erase a) nd.2 fun x hx => (List.mem_erase_of_ne (fun e => nd.1 (by rw [← e]; exact hx))).mpr (h x (List.mem_cons_of_mem _ hx))
    rw [List.length_erase_of_mem ha] at this
    have : 0 < m.length := List.length_pos_of_mem ha
    rw [List.length_cons]
    omega
theorem wat_many {pre : List Nat} {c : Nat} {ns : List Str} (h : ∀ t, t < 26 → wat pre c t ∈ ns) : 26 ≤ ns.length := by
  have nd : ((List.range 26).map (wat pre c)).Nodup := by
    rw [List.nodup_iff_pairwise_ne, List.pairwise_map]
    refine List.Pairwise.imp_of_mem (fun {a b} ha hb hab e => hab ?_) (List.nodup_iff_pairwise_ne.mp List.nodup_range)
    have e1 : pre ++ [97 + (c - 97 + a) % 26] = pre ++ [97 + (c - 97 + b) % 26] := congrArg (fun z : Str => z.cps.toList) e
    have e2 := List.append_cancel_left e1
    have e3 : 97 + (c - 97 + a) % 26 = 97 + (c - 97 + b) % 26 := List.head_eq_of_cons_eq e2
    have := List.mem_range.mp ha
    have := List.mem_range.mp hb
    omega
  have := nodup_le nd fun x hx => by
    obtain ⟨t, ht, rfl⟩ := List.mem_map.mp hx
    exact h t (List.mem_range.mp ht)
  rw [List.length_map, List.length_range] at this
  exact this
theorem sv_inj {a b : List Str} (h : sv a = sv b) : a = b := by
  have : ∀ {a b : List Str}, sv a = sv b → a = b := fun {a b} => by
    intro h
    induction a generalizing b with
    | nil => cases b with | nil => rfl | cons _ _ => cases h
    | cons x t ih =>
      cases b with
      | nil => cases h
      | cons y u =>
        have h1 := List.cons.inj h
        rw [V.str.inj h1.1, ih h1.2]
  exact this h
theorem sv_snoc (l : List Str) (x : Str) : sv (l ++ [x]) = sv l ++ [V.str x] := List.map_append
theorem sEq {a b : Str} (h : a = b) : decide (V.str a = V.str b) = true := by rw [h]; exact decide_eq_true rfl
theorem sNe {a b : Str} (h : a ≠ b) : decide (V.str a = V.str b) = false := decide_eq_false fun e => h (V.str.inj e)
theorem iEq {a b : Int} (h : a = b) : decide (V.int a = V.int b) = true := by rw [h]; exact decide_eq_true rfl
theorem iNe {a b : Int} (h : a ≠ b) : decide (V.int a = V.int b) = false := decide_eq_false fun e => h (V.int.inj e)
theorem atR_of {us : List Addr} {i : Nat} {u : Addr} (h : us[i]? = some u) : atI (us.map V.ref) (i : Int) = some (V.ref u) := atI_nat (by rw [List.getElem?_map, h]; rfl)
theorem Lss.ex {f : List V → HO} {H : Hp} {us : List Addr} {ls : List (List Str)} (h : Lss f H us ls) {i : Nat} (hi : i < ls.length) : ∃ u w, us[i]? = some u ∧ ls[i]? = some w ∧ H u = some (f (sv w)) := by
  have hi' : i < us.length := by rw [h.len]; exact hi
  exact ⟨us[i], ls[i], List.getElem?_eq_getElem hi', List.getElem?_eq_getElem hi, h.at_ i _ _ (List.getElem?_eq_getElem hi') (List.getElem?_eq_getElem hi)⟩
theorem kit_F {K : PySem.W.Frag} {C D : Addr} (hi : PySem.W.isClsIn K D = true) (ht : PySem.W.typeIn K (.ref D) = some (.type "type")) (hs : PySem.W.subIn K (.ref C) (.ref D) = some false) (hss : PySem.W.subIn K (.ref C) (.ref C) = some true) : PySem.W.kitOne K (.ref C) (.ref D) = some false :=
  kit_own hi ht hs (.inl fun e => by rw [← e, hss] at hs; cases hs)
theorem exm_F {K : PySem.W.Frag} {C D : Addr} (hb : PySem.W.subIn K (.ref D) (.type "BaseException") = some true) (hi : PySem.W.isClsIn K D = true) (ht : PySem.W.typeIn K (.ref D) = some (.type "type")) (hs : PySem.W.subIn K (.ref C) (.ref D) = some false) : PySem.W.exmOne K (.ref C) (.ref D) = some false := by
  unfold PySem.W.exmOne
  rw [hb, if_pos (by rfl)]
  show (if ((PySem.W.clsIn K D).isSome && PySem.W.typeIn K (.ref D) == some (.type "type")) = true then _ else _) = _
  rw [if_pos (by
    rw [ht]
    have : (PySem.W.clsIn K D).isSome = true := hi
    rw [this]; simp)]
  exact hs
theorem pEq {a b : Bool} (h : a = b) : decide (V.bl a = V.bl b) = true := by rw [h]; exact decide_eq_true rfl
theorem pNe {a b : Bool} (h : a ≠ b) : decide (V.bl a = V.bl b) = false := decide_eq_false fun e => h (V.bl.inj e)
theorem sIx_lo {n k : Nat} (h : k ≤ n) : HT.sIx n 0 (some (k : Int)) = k := by rw [HT.sIx_nat, Nat.min_eq_left h]
theorem sIx_hi {n k : Nat} (h : k ≤ n) : HT.sIx n n (some (k : Int)) = k := by rw [HT.sIx_nat, Nat.min_eq_left h]
theorem layc {a : PyData} {r : List PyData} (h : PyData.canLay0 a = true) (k : PyData.canLayAll0 r = true) : PyData.canLayAll0 (a :: r) = true := by
  show (PyData.canLay0 a && PyData.canLayAll0 r) = true
  rw [h, k]; rfl
theorem lay_int (i : Int) : PyData.canLay0 (.int i) = true := by simp [PyData.canLay0]
theorem shapedL {xs : List PyData} (h1 : PyData.canLayAll0 xs = true) (h2 : PyData.depthAll xs ≤ 20) : SeqAt.shaped (.list xs) = true := by
  show (PyData.canLay0 (.list xs) && decide (PyData.depth (.list xs) ≤ 64)) = true
  rw [Bool.and_eq_true]
  exact ⟨by simp only [PyData.canLay0]; exact h1, decide_eq_true (by simp only [PyData.depth]; omega)⟩
theorem shapedT {xs : List PyData} (h1 : PyData.canLayAll0 xs = true) (h2 : PyData.depthAll xs ≤ 20) : SeqAt.shaped (.tuple xs) = true := by
  show (PyData.canLay0 (.tuple xs) && decide (PyData.depth (.tuple xs) ≤ 64)) = true
  rw [Bool.and_eq_true]
  exact ⟨by simp only [PyData.canLay0]; exact h1, decide_eq_true (by simp only [PyData.depth]; omega)⟩
theorem eqvL {xs : List PyData} (h1 : PyData.canLayAll0 xs = true) : PyData.eqv (.list xs) (.list xs) = true := SeqAt.eqv_refl _ (by simp only [PyData.canLay0]; exact h1)
theorem eqvT {xs : List PyData} (h1 : PyData.canLayAll0 xs = true) : PyData.eqv (.tuple xs) (.tuple xs) = true := SeqAt.eqv_refl _ (by simp only [PyData.canLay0]; exact h1)
theorem layL {xs : List PyData} (h1 : PyData.canLayAll0 xs = true) : PyData.canLay0 (.list xs) = true := by simp only [PyData.canLay0]; exact h1
theorem layT {xs : List PyData} (h1 : PyData.canLayAll0 xs = true) : PyData.canLay0 (.tuple xs) = true := by simp only [PyData.canLay0]; exact h1
theorem none_of {H H' : Hp} (s : Same H H') {a : Addr} (h : H' a = none) : H a = none := by
  cases e : H a with
  | none => rfl
  | some o => rw [s _ _ e] at h; cases h
theorem Lss.updNe {f : List V → HO} {H : Hp} {ts : List Addr} {rs : List (List Str)} {l : Addr} {o : HO} (h : Lss f H ts rs) (hne : ∀ (i : Nat) (t : Addr), ts[i]? = some t → t ≠ l) : Lss f (upd H l o) ts rs :=
  ⟨h.len, fun i t x a b => by rw [upd_ne (hne i t a)]; exact h.at_ i t x a b⟩
theorem ne_app {ts : List Addr} {a l : Addr} (h : ∀ (i : Nat) (t : Addr), ts[i]? = some t → t ≠ l) (ha : a ≠ l) : ∀ (i : Nat) (t : Addr), (ts ++ [a])[i]? = some t → t ≠ l := fun i t e => by
  rcases List.mem_append.mp (List.mem_of_getElem? e) with hm | hm
  · obtain ⟨j, hj, rfl⟩ := List.getElem_of_mem hm
    exact h j _ (List.getElem?_eq_getElem hj)
  · rw [List.mem_singleton.mp hm]; exact ha
theorem noT {r : Addr} : ∀ (i : Nat) (t : Addr), ([] : List Addr)[i]? = some t → t ≠ r := fun i t h => by simp at h
/-- a comprehension's list of new lists -/
def LcL (H1 : Hp) (D : Addr) (lls : List (List Str)) (H : Hp) : Prop := Same H1 H ∧ ∃ us : List Addr, H D = some (.lst (us.map V.ref)) ∧ Lss .lst H us lls ∧ ∀ (i : Nat) (t : Addr), us[i]? = some t → t ≠ D
theorem lcl0 {H1 : Hp} {D : Addr} (hD : H1 D = none) : LcL H1 D [] (upd H1 D (.lst [])) := ⟨same_new hD, [], upd_same, Lss.nil, noT⟩
theorem LcL.push {H1 H H' : Hp} {D a : Addr} {lls : List (List Str)} {y : List Str} (q : LcL H1 D lls H) (hD : H1 D = none) (s : Same H H') (ha : H' a = some (.lst (sv y))) (hne : a ≠ D) (hl : lls.length ≤ 1000001) :
    ∃ acc, H' D = some (.lst acc) ∧ acc.length < sizeLine ∧ LcL H1 D (lls ++ [y]) (upd H' D (.lst (acc ++ [.ref a]))) := by
  obtain ⟨sm, us, hd, hls, hn⟩ := q
  refine ⟨us.map V.ref, s _ _ hd, Nat.lt_of_le_of_lt (by rw [List.length_map, hls.len]; exact hl) (by decide), fun b o e => ?_, us ++ [a], ?_, ?_, ne_app hn hne⟩
  · rw [upd_ne (ne_of_none e hD)]; exact s _ _ (sm _ _ e)
  · rw [List.map_append]; exact upd_same
  · exact ((hls.same s).app ha).updNe (ne_app hn hne)
theorem LcL.new {H1 H : Hp} {D a : Addr} {lls : List (List Str)} {y : List Str} (q : LcL H1 D lls H) (hD : H1 D = none) (ha : H a = none) (hl : lls.length ≤ 1000001) :
    ∃ acc, (upd H a (.lst (sv y))) D = some (.lst acc) ∧ acc.length < sizeLine ∧ LcL H1 D (lls ++ [y]) (upd (upd H a (.lst (sv y))) D (.lst (acc ++ [.ref a]))) :=
  q.push hD (same_new ha) upd_same (by obtain ⟨_, us, hd, _⟩ := q; exact (ne_of_none hd ha).symm) hl

theorem okz_low {z : Str} (h : ∀ c ∈ z.cps.toList, c ≤ 122) : Okz z := by
  show PyData.canLay0 (.str z) = true
  unfold PyData.canLay0 PyData.strOk
  rw [Array.all_eq_true]
  intro i hi
  have := h z.cps[i] (by rw [Array.mem_toList_iff]; exact Array.getElem_mem hi)
  exact decide_eq_true (by omega)
theorem okz_sp {z : Str} (g : Good z) : Okz (z ++ " ") := okz_low fun c hc => by
  rw [append_cps, Array.toList_append] at hc
  rcases List.mem_append.mp hc with hc | hc
  · exact (g.let_ c hc).2
  · rw [show (" " : Str).cps.toList = [32] by decide] at hc; rw [List.mem_singleton.mp hc]; decide
theorem okz_A {z : Str} (g : Good z) : Okz ("A" ++ z) := okz_low fun c hc => by
  rw [append_cps, Array.toList_append] at hc
  rcases List.mem_append.mp hc with hc | hc
  · rw [show ("A" : Str).cps.toList = [65] by decide] at hc; rw [List.mem_singleton.mp hc]; decide
  · exact (g.let_ c hc).2
/-- a list of tuples of names -/
abbrev pdd (rs : List (List Str)) : List PyData := rs.map fun r => PyData.tuple (pd r)
theorem lay_pdd {rs : List (List Str)} (h : ∀ r ∈ rs, ∀ z ∈ r, Okz z) : PyData.canLayAll0 (pdd rs) = true := by
  induction rs with
  | nil => rfl
  | cons a t ih =>
    show (PyData.canLay0 (.tuple (pd a)) && PyData.canLayAll0 (pdd t)) = true
    rw [ih fun z hz => h z (List.mem_cons_of_mem _ hz), show PyData.canLay0 (.tuple (pd a)) = true by simp only [PyData.canLay0]; exact lay_all (h a List.mem_cons_self)]; rfl
theorem depth_pdd : ∀ rs : List (List Str), PyData.depthAll (pdd rs) ≤ 3
  | [] => by simp [PyData.depthAll]
  | r :: t => by
    have h1 : PyData.depthAll (t.map fun r => PyData.tuple (pd r)) ≤ 3 := depth_pdd t
    have h2 := depth_pd r
    simp only [List.map_cons, PyData.depthAll, PyData.depth]
    omega
theorem shaped_pdd {rs : List (List Str)} (h : ∀ r ∈ rs, ∀ z ∈ r, Okz z) : SeqAt.shaped (.list (pdd rs)) = true := by
  have h1 := depth_pdd rs
  show (PyData.canLay0 (.list (pdd rs)) && decide (PyData.depth (.list (pdd rs)) ≤ 64)) = true
  rw [Bool.and_eq_true]
  exact ⟨by simp only [PyData.canLay0]; exact lay_pdd h, decide_eq_true (by simp only [PyData.depth]; omega)⟩
theorem eqv_pdd {rs : List (List Str)} (h : ∀ r ∈ rs, ∀ z ∈ r, Okz z) : PyData.eqv (.list (pdd rs)) (.list (pdd rs)) = true := SeqAt.eqv_refl _ (by simp only [PyData.canLay0]; exact lay_pdd h)
theorem dp_pdd {K : PySem.W.Frag} {H : Hp} : ∀ {ts : List Addr} {rs : List (List Str)}, Lss .tup H ts rs → DpAll K H (ts.map V.ref) (pdd rs)
  | [], [], _ => .nil
  | [], _ :: _, h => nomatch h.len
  | _ :: _, [], h => nomatch h.len
  | t :: ts, r :: rs, h => .cons (.tup (xs := sv r) (SqT.of (h.at_ 0 t r rfl rfl)) (dp_pd r)) (dp_pdd ⟨Nat.succ.inj h.len, fun i u x a b => h.at_ (i + 1) u x a b⟩)
/-! ### == of data -/
mutual
/-- no truth values, no dicts -/
def nb : PyData → Bool
  | .none => true
  | .int _ => true
  | .str _ => true
  | .bool _ => false
  | .dict _ => false
  | .list xs => nbAll xs
  | .tuple xs => nbAll xs
def nbAll : List PyData → Bool
  | [] => true
  | x :: xs => nb x && nbAll xs
end
mutual
theorem eqv_iff : ∀ (d e : PyData), nb d = true → nb e = true → (PyData.eqv d e = true ↔ d = e)
  | .none, e, _, h => by cases e <;> simp [PyData.eqv]
  | .int i, e, _, h => by
    cases e <;> first | (simp only [nb] at h; cases h; done) | simp [PyData.eqv]
  | .str i, e, _, h => by cases e <;> simp [PyData.eqv]
  | .bool _, _, h, _ => by simp [nb] at h
  | .dict _, _, h, _ => by simp [nb] at h
  | .list xs, e, h, h' => by
    cases e <;> first | (simp [PyData.eqv]; done) | skip
    rename_i ys
    simp only [PyData.eqv, PyData.list.injEq]
    exact eqvAll_iff xs ys (by simpa [nb] using h) (by simpa [nb] using h')
  | .tuple xs, e, h, h' => by
    cases e <;> first | (simp [PyData.eqv]; done) | skip
    rename_i ys
    simp only [PyData.eqv, PyData.tuple.injEq]
    exact eqvAll_iff xs ys (by simpa [nb] using h) (by simpa [nb] using h')
theorem eqvAll_iff : ∀ (xs ys : List PyData), nbAll xs = true → nbAll ys = true → (PyData.eqvAll xs ys = true ↔ xs = ys)
  | [], [], _, _ => by simp [PyData.eqvAll]
  | [], _ :: _, _, _ => by simp [PyData.eqvAll]
  | _ :: _, [], _, _ => by simp [PyData.eqvAll]
  | x :: xs, y :: ys, h, h' => by
    simp only [nbAll, Bool.and_eq_true] at h h'
    simp only [PyData.eqvAll, Bool.and_eq_true, eqv_iff x y h.1 h'.1, eqvAll_iff xs ys h.2 h'.2, List.cons.injEq]
end
theorem nb_pd (ss : List Str) : nbAll (pd ss) = true := by
  induction ss with
  | nil => rfl
  | cons a t ih => show (true && nbAll (pd t)) = true; rw [ih]; rfl
theorem pd_inj {a b : List Str} : pd a = pd b ↔ a = b := by
  constructor
  · intro h
    have := congrArg (List.map fun d : PyData => match d with | .str x => x | _ => ("" : Str)) h
    rw [List.map_map, List.map_map] at this
    simpa [Function.comp_def] using this
  · intro h; rw [h]
theorem eqv_L (a b : List Str) : PyData.eqv (.list (pd a)) (.list (pd b)) = decide (a = b) := by
  rw [Bool.eq_iff_iff, decide_eq_true_iff, eqv_iff (.list (pd a)) (.list (pd b)) (by simp only [nb]; exact nb_pd a) (by simp only [nb]; exact nb_pd b), PyData.list.injEq, pd_inj]
theorem eqv_T (a b : List Str) : PyData.eqv (.tuple (pd a)) (.tuple (pd b)) = decide (a = b) := by
  rw [Bool.eq_iff_iff, decide_eq_true_iff, eqv_iff (.tuple (pd a)) (.tuple (pd b)) (by simp only [nb]; exact nb_pd a) (by simp only [nb]; exact nb_pd b), PyData.tuple.injEq, pd_inj]
theorem shaped_pdT {ss : List Str} (h : ∀ z ∈ ss, Okz z) : SeqAt.shaped (.tuple (pd ss)) = true := shapedT (lay_all h) (Nat.le_trans (depth_pd ss) (by decide))
theorem any_pdd (rs : List (List Str)) (a : List Str) : ((pdd rs).any fun z => PyData.eqv z (.tuple (pd a))) = decide (a ∈ rs) := by
  rw [Bool.eq_iff_iff, List.any_eq_true, decide_eq_true_iff]
  constructor
  · rintro ⟨d, hd, e⟩
    obtain ⟨r, hr, rfl⟩ := List.mem_map.mp hd
    rw [eqv_T, decide_eq_true_iff] at e
    rw [← e]; exact hr
  · intro h
    exact ⟨_, List.mem_map.mpr ⟨a, h, rfl⟩, by rw [eqv_T]; exact decide_eq_true rfl⟩
theorem okz_low' {z : Str} (h : z.cps.toList.all (· < 256) = true) : Okz z := by
  show PyData.canLay0 (.str z) = true
  unfold PyData.canLay0 PyData.strOk
  rw [Array.all_eq_true]
  intro i hi
  have := List.all_eq_true.mp h z.cps[i] (by rw [Array.mem_toList_iff]; exact Array.getElem_mem hi)
  have := of_decide_eq_true this
  exact decide_eq_true (by omega)
end My
set_option maxRecDepth 100000
set_option maxHeartbeats 4000000
set_option exponentiation.threshold 10000
namespace My
open PySem L2
def top (i : Nat) : Stmt := PySem.Challenge.pw_unbrokenrows_k09_rounds.main.body.getD i (.Pass ⟨0, 0, 0, 0⟩)
abbrev s_UnknownColumn_init : Stmt := inClass (top 5) 0
abbrev s_BadRound_init : Stmt := inClass (top 8) 0
abbrev s_BadNumber_init : Stmt := inClass (top 9) 0
abbrev s_SameColumn_init : Stmt := inClass (top 10) 0
abbrev s_is_name : Stmt := top 13
abbrev s_first_bad_name : Stmt := top 14
abbrev s_first_stray : Stmt := top 15
abbrev s_check_known : Stmt := top 18
abbrev s_check_different : Stmt := top 19
abbrev s_Round_init : Stmt := inClass (top 23) 0
abbrev s_Round_cut : Stmt := inClass (top 23) 1
abbrev s_Round_splits : Stmt := inClass (top 23) 2
abbrev s_Round_getitem : Stmt := inClass (top 23) 3
abbrev s_Round_lshift : Stmt := inClass (top 23) 4
abbrev s_Round_rshift : Stmt := inClass (top 23) 5
abbrev s_Round_invert : Stmt := inClass (top 23) 6
abbrev s_Round_contains : Stmt := inClass (top 23) 7
abbrev s_Round_len : Stmt := inClass (top 23) 8
abbrev s_Round_iter : Stmt := inClass (top 23) 9
abbrev s_Round_eq : Stmt := inClass (top 23) 10
abbrev s_moved : Stmt := top 24
abbrev s_all_moved : Stmt := top 25
abbrev s_law_cell : Stmt := top 27
abbrev s_law_pool : Stmt := top 28
abbrev s_law_whole : Stmt := top 29
abbrev s_law_word : Stmt := top 30
abbrev s_law_new : Stmt := top 31
abbrev s_law_sequence : Stmt := top 32
abbrev s_law_from : Stmt := top 33
abbrev s_law_back : Stmt := top 34
abbrev s_law_is_round : Stmt := top 35
abbrev s_law_turned_right : Stmt := top 36
abbrev s_law_turns : Stmt := top 37
abbrev s_law_equals : Stmt := top 38
abbrev s_law_cut_is : Stmt := top 39
abbrev s_law_ahead : Stmt := top 40
abbrev s_law_splits_are : Stmt := top 41
abbrev s_law_refused : Stmt := top 42
abbrev s_law_lists_refused : Stmt := top 43
abbrev s_law : Stmt := top 44
theorem ss_UnknownColumn_init : SupScope ["self", "name"] ["self", "name"] (defScope s_UnknownColumn_init) := ⟨rfl, rfl, rfl, by decide +kernel, rfl, by decide +kernel, by decide +kernel, by decide +kernel, rfl, rfl⟩
theorem ss_BadRound_init : SupScope ["self", "index"] ["self", "index"] (defScope s_BadRound_init) := ⟨rfl, rfl, rfl, by decide +kernel, rfl, by decide +kernel, by decide +kernel, by decide +kernel, rfl, rfl⟩
theorem ss_BadNumber_init : SupScope ["self", "number"] ["self", "number"] (defScope s_BadNumber_init) := ⟨rfl, rfl, rfl, by decide +kernel, rfl, by decide +kernel, by decide +kernel, by decide +kernel, rfl, rfl⟩
theorem ss_SameColumn_init : SupScope ["self", "name"] ["self", "name"] (defScope s_SameColumn_init) := ⟨rfl, rfl, rfl, by decide +kernel, rfl, by decide +kernel, by decide +kernel, by decide +kernel, rfl, rfl⟩
theorem sc_is_name : FnScope ["text", "sign"] ["text"] (defScope s_is_name) := ⟨rfl, rfl, rfl, by decide +kernel, rfl, by decide +kernel, by decide +kernel⟩
theorem sc_first_bad_name : FnScope ["names", "index", "name"] ["names"] (defScope s_first_bad_name) := ⟨rfl, rfl, rfl, by decide +kernel, rfl, by decide +kernel, by decide +kernel⟩
theorem sc_first_stray : FnScope ["columns", "names", "index", "name"] ["columns", "names"] (defScope s_first_stray) := ⟨rfl, rfl, rfl, by decide +kernel, rfl, by decide +kernel, by decide +kernel⟩
theorem sc_check_known : FnScope ["columns", "names", "name"] ["columns", "names"] (defScope s_check_known) := ⟨rfl, rfl, rfl, by decide +kernel, rfl, by decide +kernel, by decide +kernel⟩
theorem sc_check_different : FnScope ["columns", "names", "index"] ["columns", "names"] (defScope s_check_different) := ⟨rfl, rfl, rfl, by decide +kernel, rfl, by decide +kernel, by decide +kernel⟩
theorem sc_Round_init : FnScope ["self", "names", "index"] ["self", "names"] (defScope s_Round_init) := ⟨rfl, rfl, rfl, by decide +kernel, rfl, by decide +kernel, by decide +kernel⟩
theorem sc_Round_cut : FnScope ["self", "name", "at"] ["self", "name"] (defScope s_Round_cut) := ⟨rfl, rfl, rfl, by decide +kernel, rfl, by decide +kernel, by decide +kernel⟩
theorem sc_Round_splits : FnScope ["self", "p", "q", "r", "s", "behind", "ahead"] ["self", "p", "q", "r", "s"] (defScope s_Round_splits) := ⟨rfl, rfl, rfl, by decide +kernel, rfl, by decide +kernel, by decide +kernel⟩
theorem sc_Round_getitem : FnScope ["self", "at"] ["self", "at"] (defScope s_Round_getitem) := ⟨rfl, rfl, rfl, by decide +kernel, rfl, by decide +kernel, by decide +kernel⟩
theorem sc_Round_lshift : FnScope ["self", "other"] ["self", "other"] (defScope s_Round_lshift) := ⟨rfl, rfl, rfl, by decide +kernel, rfl, by decide +kernel, by decide +kernel⟩
theorem sc_Round_rshift : FnScope ["self", "other"] ["self", "other"] (defScope s_Round_rshift) := ⟨rfl, rfl, rfl, by decide +kernel, rfl, by decide +kernel, by decide +kernel⟩
theorem sc_Round_invert : FnScope ["self"] ["self"] (defScope s_Round_invert) := ⟨rfl, rfl, rfl, by decide +kernel, rfl, by decide +kernel, by decide +kernel⟩
theorem sc_Round_contains : FnScope ["self", "name"] ["self", "name"] (defScope s_Round_contains) := ⟨rfl, rfl, rfl, by decide +kernel, rfl, by decide +kernel, by decide +kernel⟩
theorem sc_Round_len : FnScope ["self"] ["self"] (defScope s_Round_len) := ⟨rfl, rfl, rfl, by decide +kernel, rfl, by decide +kernel, by decide +kernel⟩
theorem sc_Round_iter : FnScope ["self"] ["self"] (defScope s_Round_iter) := ⟨rfl, rfl, rfl, by decide +kernel, rfl, by decide +kernel, by decide +kernel⟩
theorem sc_Round_eq : FnScope ["self", "other"] ["self", "other"] (defScope s_Round_eq) := ⟨rfl, rfl, rfl, by decide +kernel, rfl, by decide +kernel, by decide +kernel⟩
theorem sc_moved : FnScope ["names", "steps", "at"] ["names", "steps"] (defScope s_moved) := ⟨rfl, rfl, rfl, by decide +kernel, rfl, by decide +kernel, by decide +kernel⟩
theorem sc_all_moved : FnScope ["names", "steps"] ["names"] (defScope s_all_moved) := ⟨rfl, rfl, rfl, by decide +kernel, rfl, by decide +kernel, by decide +kernel⟩
theorem sc_law_cell : FnScope ["script", "k"] ["script", "k"] (defScope s_law_cell) := ⟨rfl, rfl, rfl, by decide +kernel, rfl, by decide +kernel, by decide +kernel⟩
theorem sc_law_pool : FnScope ["script", "k", "count", "value", "pool", "i", "first", "second", "third"] ["script", "k", "count"] (defScope s_law_pool) := ⟨rfl, rfl, rfl, by decide +kernel, rfl, by decide +kernel, by decide +kernel⟩
theorem sc_law_whole : FnScope ["pool", "i", "menu", "many", "draw"] ["pool", "i"] (defScope s_law_whole) := ⟨rfl, rfl, rfl, by decide +kernel, rfl, by decide +kernel, by decide +kernel⟩
theorem sc_law_word : FnScope ["pool", "at", "code", "size", "word", "i"] ["pool", "at"] (defScope s_law_word) := ⟨rfl, rfl, rfl, by decide +kernel, rfl, by decide +kernel, by decide +kernel⟩
theorem sc_law_new : FnScope ["names", "word", "letters", "turn"] ["names", "word"] (defScope s_law_new) := ⟨rfl, rfl, rfl, by decide +kernel, rfl, by decide +kernel, by decide +kernel⟩
theorem sc_law_sequence : FnScope ["names", "draw", "left", "row", "k", "pick"] ["names", "draw"] (defScope s_law_sequence) := ⟨rfl, rfl, rfl, by decide +kernel, rfl, by decide +kernel, by decide +kernel⟩
theorem sc_law_from : FnScope ["names", "places", "many", "start", "i"] ["names", "places"] (defScope s_law_from) := ⟨rfl, rfl, rfl, by decide +kernel, rfl, by decide +kernel, by decide +kernel⟩
theorem sc_law_back : FnScope ["names", "k"] ["names"] (defScope s_law_back) := ⟨rfl, rfl, rfl, by decide +kernel, rfl, by decide +kernel, by decide +kernel⟩
theorem sc_law_is_round : FnScope ["found", "due", "name"] ["found", "due"] (defScope s_law_is_round) := ⟨rfl, rfl, rfl, by decide +kernel, rfl, by decide +kernel, by decide +kernel⟩
theorem sc_law_turned_right : FnScope ["turned", "due", "many"] ["turned", "due"] (defScope s_law_turned_right) := ⟨rfl, rfl, rfl, by decide +kernel, rfl, by decide +kernel, by decide +kernel⟩
theorem sc_law_turns : FnScope ["ring", "names", "places", "later", "earlier", "kinds", "told", "word", "e"] ["ring", "names", "places"] (defScope s_law_turns) := ⟨rfl, rfl, rfl, by decide +kernel, rfl, by decide +kernel, by decide +kernel⟩
theorem sc_law_equals : FnScope ["ring", "names", "others", "due", "k", "other", "told"] ["ring", "names", "others"] (defScope s_law_equals) := ⟨rfl, rfl, rfl, by decide +kernel, rfl, by decide +kernel, by decide +kernel⟩
theorem sc_law_cut_is : FnScope ["ring", "names", "name", "found", "told", "kinds", "e", "inside", "due"] ["ring", "names", "name"] (defScope s_law_cut_is) := ⟨rfl, rfl, rfl, by decide +kernel, rfl, by decide +kernel, by decide +kernel⟩
theorem sc_law_ahead : FnScope ["names", "start", "one", "other", "line"] ["names", "start", "one", "other"] (defScope s_law_ahead) := ⟨rfl, rfl, rfl, by decide +kernel, rfl, by decide +kernel, by decide +kernel⟩
theorem sc_law_splits_are : FnScope ["ring", "names", "four", "wrong", "found", "told", "kinds", "e", "one", "other", "name", "k"] ["ring", "names", "four"] (defScope s_law_splits_are) := ⟨rfl, rfl, rfl, by decide +kernel, rfl, by decide +kernel, by decide +kernel⟩
theorem sc_law_refused : FnScope ["names", "fault", "k", "word", "good", "given", "found", "told", "kinds", "e"] ["names"] (defScope s_law_refused) := ⟨rfl, rfl, rfl, by decide +kernel, rfl, by decide +kernel, by decide +kernel⟩
theorem sc_law_lists_refused : FnScope ["names", "pool", "signs", "odd", "many", "turn", "line", "k", "twice"] ["names", "pool"] (defScope s_law_lists_refused) := ⟨rfl, rfl, rfl, by decide +kernel, rfl, by decide +kernel, by decide +kernel⟩
theorem sc_law : FnScope ["script", "pool", "other", "names", "k", "given", "ring", "stranger", "places", "mixed", "name", "known", "four"] ["script"] (defScope s_law) := ⟨rfl, rfl, rfl, by decide +kernel, rfl, by decide +kernel, by decide +kernel⟩
/-- where the defs and classes stand -/
structure Ad where
  C_Round : Addr
  C_Table : Addr
  C_RowsError : Addr
  C_Unknown : Addr
  C_Impossible : Addr
  C_UnknownColumn : Addr
  C_BadRound : Addr
  C_BadNumber : Addr
  C_SameColumn : Addr
  a_UnknownColumn_init : Addr
  d_UnknownColumn_init : FuncData
  a_BadRound_init : Addr
  d_BadRound_init : FuncData
  a_BadNumber_init : Addr
  d_BadNumber_init : FuncData
  a_SameColumn_init : Addr
  d_SameColumn_init : FuncData
  a_is_name : Addr
  d_is_name : FuncData
  a_first_bad_name : Addr
  d_first_bad_name : FuncData
  a_first_stray : Addr
  d_first_stray : FuncData
  a_check_known : Addr
  d_check_known : FuncData
  a_check_different : Addr
  d_check_different : FuncData
  a_Round_init : Addr
  d_Round_init : FuncData
  a_Round_cut : Addr
  d_Round_cut : FuncData
  a_Round_splits : Addr
  d_Round_splits : FuncData
  a_Round_getitem : Addr
  d_Round_getitem : FuncData
  a_Round_lshift : Addr
  d_Round_lshift : FuncData
  a_Round_rshift : Addr
  d_Round_rshift : FuncData
  a_Round_invert : Addr
  d_Round_invert : FuncData
  a_Round_contains : Addr
  d_Round_contains : FuncData
  a_Round_len : Addr
  d_Round_len : FuncData
  a_Round_iter : Addr
  d_Round_iter : FuncData
  a_Round_eq : Addr
  d_Round_eq : FuncData
  a_moved : Addr
  d_moved : FuncData
  a_all_moved : Addr
  d_all_moved : FuncData
  a_law_cell : Addr
  d_law_cell : FuncData
  a_law_pool : Addr
  d_law_pool : FuncData
  a_law_whole : Addr
  d_law_whole : FuncData
  a_law_word : Addr
  d_law_word : FuncData
  a_law_new : Addr
  d_law_new : FuncData
  a_law_sequence : Addr
  d_law_sequence : FuncData
  a_law_from : Addr
  d_law_from : FuncData
  a_law_back : Addr
  d_law_back : FuncData
  a_law_is_round : Addr
  d_law_is_round : FuncData
  a_law_turned_right : Addr
  d_law_turned_right : FuncData
  a_law_turns : Addr
  d_law_turns : FuncData
  a_law_equals : Addr
  d_law_equals : FuncData
  a_law_cut_is : Addr
  d_law_cut_is : FuncData
  a_law_ahead : Addr
  d_law_ahead : FuncData
  a_law_splits_are : Addr
  d_law_splits_are : FuncData
  a_law_refused : Addr
  d_law_refused : FuncData
  a_law_lists_refused : Addr
  d_law_lists_refused : FuncData
  a_law : Addr
  d_law : FuncData
/-- what the top has written -/
structure Txt (P : Program) (K : PySem.W.Frag) (mg : Str → Option Value) (A : Ad) : Prop where
  mg_Round : mg "Round" = some (.ref A.C_Round)
  cl_Round : Cls K A.C_Round
  sf_Round : PySem.W.selfFirst K A.C_Round = true
  mk_Round : Mk K A.C_Round A.a_Round_init
  c1_Round : PySem.W.findIn K (.ref A.C_Round) "__class__" = some (some (.builtin "object.__class__"))
  c3_Round : PySem.W.mroIn K A.C_Round (.type "object") = some true
  n_Round_names : NoAttr K A.C_Round "names"
  mg_Table : mg "Table" = some (.ref A.C_Table)
  cl_Table : Cls K A.C_Table
  sf_Table : PySem.W.selfFirst K A.C_Table = true
  c1_Table : PySem.W.findIn K (.ref A.C_Table) "__class__" = some (some (.builtin "object.__class__"))
  c3_Table : PySem.W.mroIn K A.C_Table (.type "object") = some true
  c2 : PySem.W.specialIn K (.builtin "object.__class__") "__get__" = some (some (.builtin "getset_descriptor.__get__"))
  c4 : PySem.W.takesIn K (.builtin "object.__class__") = some true
  mg_RowsError : mg "RowsError" = some (.ref A.C_RowsError)
  tp_RowsError : PySem.W.typeIn K (.ref A.C_RowsError) = some (.type "type")
  ic_RowsError : PySem.W.isClsIn K A.C_RowsError = true
  mg_Unknown : mg "Unknown" = some (.ref A.C_Unknown)
  tp_Unknown : PySem.W.typeIn K (.ref A.C_Unknown) = some (.type "type")
  ic_Unknown : PySem.W.isClsIn K A.C_Unknown = true
  mg_Impossible : mg "Impossible" = some (.ref A.C_Impossible)
  tp_Impossible : PySem.W.typeIn K (.ref A.C_Impossible) = some (.type "type")
  ic_Impossible : PySem.W.isClsIn K A.C_Impossible = true
  mg_UnknownColumn : mg "UnknownColumn" = some (.ref A.C_UnknownColumn)
  tp_UnknownColumn : PySem.W.typeIn K (.ref A.C_UnknownColumn) = some (.type "type")
  ic_UnknownColumn : PySem.W.isClsIn K A.C_UnknownColumn = true
  mg_BadRound : mg "BadRound" = some (.ref A.C_BadRound)
  tp_BadRound : PySem.W.typeIn K (.ref A.C_BadRound) = some (.type "type")
  ic_BadRound : PySem.W.isClsIn K A.C_BadRound = true
  mg_BadNumber : mg "BadNumber" = some (.ref A.C_BadNumber)
  tp_BadNumber : PySem.W.typeIn K (.ref A.C_BadNumber) = some (.type "type")
  ic_BadNumber : PySem.W.isClsIn K A.C_BadNumber = true
  mg_SameColumn : mg "SameColumn" = some (.ref A.C_SameColumn)
  tp_SameColumn : PySem.W.typeIn K (.ref A.C_SameColumn) = some (.type "type")
  ic_SameColumn : PySem.W.isClsIn K A.C_SameColumn = true
  SC_UnknownColumn : SupCls P K mg A.C_UnknownColumn
  SF_UnknownColumn : SupFn P K s_UnknownColumn_init "UnknownColumn.__init__" A.C_UnknownColumn A.a_UnknownColumn_init A.d_UnknownColumn_init
  ii_UnknownColumn : PySem.W.findIn K (.ref A.C_UnknownColumn) "__init__" = some (some (.ref A.a_UnknownColumn_init))
  ti_UnknownColumn : PySem.W.typeIn K (.ref A.a_UnknownColumn_init) = some (.type "function")
  b_UnknownColumn_init : Binds K A.d_UnknownColumn_init ["self", "name"] []
  xn_UnknownColumn_name : PySem.W.findIn K (.ref A.C_UnknownColumn) "name" = some none
  xf_UnknownColumn : XfC K A.C_UnknownColumn
  ec_UnknownColumn : ExcC K A.C_UnknownColumn
  k_UnknownColumn : PySem.W.keepIn K (.ref A.C_UnknownColumn) = true
  bp_UnknownColumn : PySem.W.subIn K (.ref A.C_UnknownColumn) (.type "BaseException") = some true
  sv_UnknownColumn : PySem.W.subIn K (.ref A.C_UnknownColumn) (.type "ValueError") = some true
  ss_UnknownColumn : PySem.W.subIn K (.ref A.C_UnknownColumn) (.ref A.C_UnknownColumn) = some true
  su_UnknownColumn_RowsError : PySem.W.subIn K (.ref A.C_UnknownColumn) (.ref A.C_RowsError) = some true
  su_UnknownColumn_Unknown : PySem.W.subIn K (.ref A.C_UnknownColumn) (.ref A.C_Unknown) = some true
  su_UnknownColumn_Impossible : PySem.W.subIn K (.ref A.C_UnknownColumn) (.ref A.C_Impossible) = some false
  su_UnknownColumn_SameColumn : PySem.W.subIn K (.ref A.C_UnknownColumn) (.ref A.C_SameColumn) = some false
  e1_UnknownColumn : PySem.W.findIn K (.ref A.C_UnknownColumn) "__getattribute__" = some (some (.builtin "BaseException.__getattribute__"))
  e2_UnknownColumn : PySem.W.findIn K (.ref A.C_UnknownColumn) "__getattr__" = some none
  e3_UnknownColumn : PySem.W.hasDictIn K A.C_UnknownColumn = true
  e4_UnknownColumn : PySem.W.findIn K (.ref A.C_UnknownColumn) "__class__" = some (some (.builtin "object.__class__"))
  e5_UnknownColumn : PySem.W.mroIn K A.C_UnknownColumn (.type "object") = some true
  SC_BadRound : SupCls P K mg A.C_BadRound
  SF_BadRound : SupFn P K s_BadRound_init "BadRound.__init__" A.C_BadRound A.a_BadRound_init A.d_BadRound_init
  ii_BadRound : PySem.W.findIn K (.ref A.C_BadRound) "__init__" = some (some (.ref A.a_BadRound_init))
  ti_BadRound : PySem.W.typeIn K (.ref A.a_BadRound_init) = some (.type "function")
  b_BadRound_init : Binds K A.d_BadRound_init ["self", "index"] []
  xn_BadRound_index : PySem.W.findIn K (.ref A.C_BadRound) "index" = some none
  xf_BadRound : XfC K A.C_BadRound
  ec_BadRound : ExcC K A.C_BadRound
  k_BadRound : PySem.W.keepIn K (.ref A.C_BadRound) = true
  bp_BadRound : PySem.W.subIn K (.ref A.C_BadRound) (.type "BaseException") = some true
  sv_BadRound : PySem.W.subIn K (.ref A.C_BadRound) (.type "ValueError") = some true
  ss_BadRound : PySem.W.subIn K (.ref A.C_BadRound) (.ref A.C_BadRound) = some true
  su_BadRound_RowsError : PySem.W.subIn K (.ref A.C_BadRound) (.ref A.C_RowsError) = some true
  su_BadRound_Unknown : PySem.W.subIn K (.ref A.C_BadRound) (.ref A.C_Unknown) = some false
  su_BadRound_Impossible : PySem.W.subIn K (.ref A.C_BadRound) (.ref A.C_Impossible) = some false
  e1_BadRound : PySem.W.findIn K (.ref A.C_BadRound) "__getattribute__" = some (some (.builtin "BaseException.__getattribute__"))
  e2_BadRound : PySem.W.findIn K (.ref A.C_BadRound) "__getattr__" = some none
  e3_BadRound : PySem.W.hasDictIn K A.C_BadRound = true
  e4_BadRound : PySem.W.findIn K (.ref A.C_BadRound) "__class__" = some (some (.builtin "object.__class__"))
  e5_BadRound : PySem.W.mroIn K A.C_BadRound (.type "object") = some true
  SC_BadNumber : SupCls P K mg A.C_BadNumber
  SF_BadNumber : SupFn P K s_BadNumber_init "BadNumber.__init__" A.C_BadNumber A.a_BadNumber_init A.d_BadNumber_init
  ii_BadNumber : PySem.W.findIn K (.ref A.C_BadNumber) "__init__" = some (some (.ref A.a_BadNumber_init))
  ti_BadNumber : PySem.W.typeIn K (.ref A.a_BadNumber_init) = some (.type "function")
  b_BadNumber_init : Binds K A.d_BadNumber_init ["self", "number"] []
  xn_BadNumber_number : PySem.W.findIn K (.ref A.C_BadNumber) "number" = some none
  xf_BadNumber : XfC K A.C_BadNumber
  ec_BadNumber : ExcC K A.C_BadNumber
  k_BadNumber : PySem.W.keepIn K (.ref A.C_BadNumber) = true
  bp_BadNumber : PySem.W.subIn K (.ref A.C_BadNumber) (.type "BaseException") = some true
  sv_BadNumber : PySem.W.subIn K (.ref A.C_BadNumber) (.type "ValueError") = some true
  ss_BadNumber : PySem.W.subIn K (.ref A.C_BadNumber) (.ref A.C_BadNumber) = some true
  su_BadNumber_RowsError : PySem.W.subIn K (.ref A.C_BadNumber) (.ref A.C_RowsError) = some true
  su_BadNumber_Unknown : PySem.W.subIn K (.ref A.C_BadNumber) (.ref A.C_Unknown) = some false
  su_BadNumber_Impossible : PySem.W.subIn K (.ref A.C_BadNumber) (.ref A.C_Impossible) = some false
  e1_BadNumber : PySem.W.findIn K (.ref A.C_BadNumber) "__getattribute__" = some (some (.builtin "BaseException.__getattribute__"))
  e2_BadNumber : PySem.W.findIn K (.ref A.C_BadNumber) "__getattr__" = some none
  e3_BadNumber : PySem.W.hasDictIn K A.C_BadNumber = true
  e4_BadNumber : PySem.W.findIn K (.ref A.C_BadNumber) "__class__" = some (some (.builtin "object.__class__"))
  e5_BadNumber : PySem.W.mroIn K A.C_BadNumber (.type "object") = some true
  SC_SameColumn : SupCls P K mg A.C_SameColumn
  SF_SameColumn : SupFn P K s_SameColumn_init "SameColumn.__init__" A.C_SameColumn A.a_SameColumn_init A.d_SameColumn_init
  ii_SameColumn : PySem.W.findIn K (.ref A.C_SameColumn) "__init__" = some (some (.ref A.a_SameColumn_init))
  ti_SameColumn : PySem.W.typeIn K (.ref A.a_SameColumn_init) = some (.type "function")
  b_SameColumn_init : Binds K A.d_SameColumn_init ["self", "name"] []
  xn_SameColumn_name : PySem.W.findIn K (.ref A.C_SameColumn) "name" = some none
  xf_SameColumn : XfC K A.C_SameColumn
  ec_SameColumn : ExcC K A.C_SameColumn
  k_SameColumn : PySem.W.keepIn K (.ref A.C_SameColumn) = true
  bp_SameColumn : PySem.W.subIn K (.ref A.C_SameColumn) (.type "BaseException") = some true
  sv_SameColumn : PySem.W.subIn K (.ref A.C_SameColumn) (.type "ValueError") = some true
  ss_SameColumn : PySem.W.subIn K (.ref A.C_SameColumn) (.ref A.C_SameColumn) = some true
  su_SameColumn_RowsError : PySem.W.subIn K (.ref A.C_SameColumn) (.ref A.C_RowsError) = some true
  su_SameColumn_Unknown : PySem.W.subIn K (.ref A.C_SameColumn) (.ref A.C_Unknown) = some false
  su_SameColumn_Impossible : PySem.W.subIn K (.ref A.C_SameColumn) (.ref A.C_Impossible) = some false
  su_SameColumn_UnknownColumn : PySem.W.subIn K (.ref A.C_SameColumn) (.ref A.C_UnknownColumn) = some false
  e1_SameColumn : PySem.W.findIn K (.ref A.C_SameColumn) "__getattribute__" = some (some (.builtin "BaseException.__getattribute__"))
  e2_SameColumn : PySem.W.findIn K (.ref A.C_SameColumn) "__getattr__" = some none
  e3_SameColumn : PySem.W.hasDictIn K A.C_SameColumn = true
  e4_SameColumn : PySem.W.findIn K (.ref A.C_SameColumn) "__class__" = some (some (.builtin "object.__class__"))
  e5_SameColumn : PySem.W.mroIn K A.C_SameColumn (.type "object") = some true
  mg_LONGEST_NAME : ∃ t : Tok, mg "LONGEST_NAME" = some (.int 8 t)
  cr_Table : ClX.CRead K A.C_Table (.type "type")
  cv_Table_MOST_COLUMNS : ∃ u, ClX.CVal K A.C_Table (.type "type") "MOST_COLUMNS" (.int 12) u
  n_abs : mg "abs" = none
  n_int : mg "int" = none
  n_isinstance : mg "isinstance" = none
  n_range : mg "range" = none
  n_len : mg "len" = none
  n_str : mg "str" = none
  n_tuple : mg "tuple" = none
  n_list : mg "list" = none
  n_ValueError : mg "ValueError" = none
  n_all : mg "all" = none
  n_enumerate : mg "enumerate" = none
  n_iter : mg "iter" = none
  n_bool : mg "bool" = none
  dr_Round_lshift : PySem.W.findIn K (.ref A.C_Round) (dunderR "lshift") = some none
  dr_Round_rshift : PySem.W.findIn K (.ref A.C_Round) (dunderR "rshift") = some none
  ti_lshift : PySem.W.findIn K (.type "int") (PySem.dunder "lshift") = some (some (.builtin "int.__lshift__"))
  tr_lshift : PySem.W.findIn K (.type "int") (dunderR "lshift") = some (some (.builtin "int.__rlshift__"))
  ti_rshift : PySem.W.findIn K (.type "int") (PySem.dunder "rshift") = some (some (.builtin "int.__rshift__"))
  tr_rshift : PySem.W.findIn K (.type "int") (dunderR "rshift") = some (some (.builtin "int.__rrshift__"))
  su_Round : PySem.W.subIn K (.type "int") (.ref A.C_Round) = some false
  F_is_name : Fun K "is_name" "is_name" s_is_name A.a_is_name A.d_is_name
  b_is_name : Binds K A.d_is_name ["text"] []
  mg_is_name : mg "is_name" = some (.ref A.a_is_name)
  F_first_bad_name : Fun K "first_bad_name" "first_bad_name" s_first_bad_name A.a_first_bad_name A.d_first_bad_name
  b_first_bad_name : Binds K A.d_first_bad_name ["names"] []
  mg_first_bad_name : mg "first_bad_name" = some (.ref A.a_first_bad_name)
  F_first_stray : Fun K "first_stray" "first_stray" s_first_stray A.a_first_stray A.d_first_stray
  b_first_stray : Binds K A.d_first_stray ["columns", "names"] []
  mg_first_stray : mg "first_stray" = some (.ref A.a_first_stray)
  F_check_known : Fun K "check_known" "check_known" s_check_known A.a_check_known A.d_check_known
  b_check_known : Binds K A.d_check_known ["columns", "names"] []
  mg_check_known : mg "check_known" = some (.ref A.a_check_known)
  F_check_different : Fun K "check_different" "check_different" s_check_different A.a_check_different A.d_check_different
  b_check_different : Binds K A.d_check_different ["columns", "names"] []
  mg_check_different : mg "check_different" = some (.ref A.a_check_different)
  F_Round_init : Fun K "__init__" "Round.__init__" s_Round_init A.a_Round_init A.d_Round_init
  b_Round_init : Binds K A.d_Round_init ["self", "names"] []
  m_Round_init : Meth K A.C_Round "__init__" A.a_Round_init
  F_Round_cut : Fun K "cut" "Round.cut" s_Round_cut A.a_Round_cut A.d_Round_cut
  b_Round_cut : Binds K A.d_Round_cut ["self", "name"] []
  m_Round_cut : Meth K A.C_Round "cut" A.a_Round_cut
  F_Round_splits : Fun K "splits" "Round.splits" s_Round_splits A.a_Round_splits A.d_Round_splits
  b_Round_splits : Binds K A.d_Round_splits ["self", "p", "q", "r", "s"] []
  m_Round_splits : Meth K A.C_Round "splits" A.a_Round_splits
  F_Round_getitem : Fun K "__getitem__" "Round.__getitem__" s_Round_getitem A.a_Round_getitem A.d_Round_getitem
  b_Round_getitem : Binds K A.d_Round_getitem ["self", "at"] []
  m_Round_getitem : Meth K A.C_Round "__getitem__" A.a_Round_getitem
  F_Round_lshift : Fun K "__lshift__" "Round.__lshift__" s_Round_lshift A.a_Round_lshift A.d_Round_lshift
  b_Round_lshift : Binds K A.d_Round_lshift ["self", "other"] []
  m_Round_lshift : Meth K A.C_Round "__lshift__" A.a_Round_lshift
  ds_Round_lshift : PySem.W.findIn K (.ref A.C_Round) (PySem.dunder "lshift") = some (some (.ref A.a_Round_lshift))
  F_Round_rshift : Fun K "__rshift__" "Round.__rshift__" s_Round_rshift A.a_Round_rshift A.d_Round_rshift
  b_Round_rshift : Binds K A.d_Round_rshift ["self", "other"] []
  m_Round_rshift : Meth K A.C_Round "__rshift__" A.a_Round_rshift
  ds_Round_rshift : PySem.W.findIn K (.ref A.C_Round) (PySem.dunder "rshift") = some (some (.ref A.a_Round_rshift))
  F_Round_invert : Fun K "__invert__" "Round.__invert__" s_Round_invert A.a_Round_invert A.d_Round_invert
  b_Round_invert : Binds K A.d_Round_invert ["self"] []
  m_Round_invert : Meth K A.C_Round "__invert__" A.a_Round_invert
  F_Round_contains : Fun K "__contains__" "Round.__contains__" s_Round_contains A.a_Round_contains A.d_Round_contains
  b_Round_contains : Binds K A.d_Round_contains ["self", "name"] []
  m_Round_contains : Meth K A.C_Round "__contains__" A.a_Round_contains
  F_Round_len : Fun K "__len__" "Round.__len__" s_Round_len A.a_Round_len A.d_Round_len
  b_Round_len : Binds K A.d_Round_len ["self"] []
  m_Round_len : Meth K A.C_Round "__len__" A.a_Round_len
  F_Round_iter : Fun K "__iter__" "Round.__iter__" s_Round_iter A.a_Round_iter A.d_Round_iter
  b_Round_iter : Binds K A.d_Round_iter ["self"] []
  m_Round_iter : Meth K A.C_Round "__iter__" A.a_Round_iter
  F_Round_eq : Fun K "__eq__" "Round.__eq__" s_Round_eq A.a_Round_eq A.d_Round_eq
  b_Round_eq : Binds K A.d_Round_eq ["self", "other"] []
  m_Round_eq : Meth K A.C_Round "__eq__" A.a_Round_eq
  F_moved : Fun K "_moved" "_moved" s_moved A.a_moved A.d_moved
  b_moved : Binds K A.d_moved ["names", "steps"] []
  mg_moved : mg "_moved" = some (.ref A.a_moved)
  F_all_moved : Fun K "_all_moved" "_all_moved" s_all_moved A.a_all_moved A.d_all_moved
  b_all_moved : Binds K A.d_all_moved ["names"] []
  mg_all_moved : mg "_all_moved" = some (.ref A.a_all_moved)
  F_law_cell : Fun K "_law_cell" "_law_cell" s_law_cell A.a_law_cell A.d_law_cell
  b_law_cell : Binds K A.d_law_cell ["script", "k"] []
  mg_law_cell : mg "_law_cell" = some (.ref A.a_law_cell)
  F_law_pool : Fun K "_law_pool" "_law_pool" s_law_pool A.a_law_pool A.d_law_pool
  b_law_pool : Binds K A.d_law_pool ["script", "k", "count"] []
  mg_law_pool : mg "_law_pool" = some (.ref A.a_law_pool)
  F_law_whole : Fun K "_law_whole" "_law_whole" s_law_whole A.a_law_whole A.d_law_whole
  b_law_whole : Binds K A.d_law_whole ["pool", "i"] []
  mg_law_whole : mg "_law_whole" = some (.ref A.a_law_whole)
  F_law_word : Fun K "_law_word" "_law_word" s_law_word A.a_law_word A.d_law_word
  b_law_word : Binds K A.d_law_word ["pool", "at"] []
  mg_law_word : mg "_law_word" = some (.ref A.a_law_word)
  F_law_new : Fun K "_law_new" "_law_new" s_law_new A.a_law_new A.d_law_new
  b_law_new : Binds K A.d_law_new ["names", "word"] []
  mg_law_new : mg "_law_new" = some (.ref A.a_law_new)
  F_law_sequence : Fun K "_law_sequence" "_law_sequence" s_law_sequence A.a_law_sequence A.d_law_sequence
  b_law_sequence : Binds K A.d_law_sequence ["names", "draw"] []
  mg_law_sequence : mg "_law_sequence" = some (.ref A.a_law_sequence)
  F_law_from : Fun K "_law_from" "_law_from" s_law_from A.a_law_from A.d_law_from
  b_law_from : Binds K A.d_law_from ["names", "places"] []
  mg_law_from : mg "_law_from" = some (.ref A.a_law_from)
  F_law_back : Fun K "_law_back" "_law_back" s_law_back A.a_law_back A.d_law_back
  b_law_back : Binds K A.d_law_back ["names"] []
  mg_law_back : mg "_law_back" = some (.ref A.a_law_back)
  F_law_is_round : Fun K "_law_is_round" "_law_is_round" s_law_is_round A.a_law_is_round A.d_law_is_round
  b_law_is_round : Binds K A.d_law_is_round ["found", "due"] []
  mg_law_is_round : mg "_law_is_round" = some (.ref A.a_law_is_round)
  F_law_turned_right : Fun K "_law_turned_right" "_law_turned_right" s_law_turned_right A.a_law_turned_right A.d_law_turned_right
  b_law_turned_right : Binds K A.d_law_turned_right ["turned", "due"] []
  mg_law_turned_right : mg "_law_turned_right" = some (.ref A.a_law_turned_right)
  F_law_turns : Fun K "_law_turns" "_law_turns" s_law_turns A.a_law_turns A.d_law_turns
  b_law_turns : Binds K A.d_law_turns ["ring", "names", "places"] []
  mg_law_turns : mg "_law_turns" = some (.ref A.a_law_turns)
  F_law_equals : Fun K "_law_equals" "_law_equals" s_law_equals A.a_law_equals A.d_law_equals
  b_law_equals : Binds K A.d_law_equals ["ring", "names", "others"] []
  mg_law_equals : mg "_law_equals" = some (.ref A.a_law_equals)
  F_law_cut_is : Fun K "_law_cut_is" "_law_cut_is" s_law_cut_is A.a_law_cut_is A.d_law_cut_is
  b_law_cut_is : Binds K A.d_law_cut_is ["ring", "names", "name"] []
  mg_law_cut_is : mg "_law_cut_is" = some (.ref A.a_law_cut_is)
  F_law_ahead : Fun K "_law_ahead" "_law_ahead" s_law_ahead A.a_law_ahead A.d_law_ahead
  b_law_ahead : Binds K A.d_law_ahead ["names", "start", "one", "other"] []
  mg_law_ahead : mg "_law_ahead" = some (.ref A.a_law_ahead)
  F_law_splits_are : Fun K "_law_splits_are" "_law_splits_are" s_law_splits_are A.a_law_splits_are A.d_law_splits_are
  b_law_splits_are : Binds K A.d_law_splits_are ["ring", "names", "four"] []
  mg_law_splits_are : mg "_law_splits_are" = some (.ref A.a_law_splits_are)
  F_law_refused : Fun K "_law_refused" "_law_refused" s_law_refused A.a_law_refused A.d_law_refused
  b_law_refused : Binds K A.d_law_refused ["names"] []
  mg_law_refused : mg "_law_refused" = some (.ref A.a_law_refused)
  F_law_lists_refused : Fun K "_law_lists_refused" "_law_lists_refused" s_law_lists_refused A.a_law_lists_refused A.d_law_lists_refused
  b_law_lists_refused : Binds K A.d_law_lists_refused ["names", "pool"] []
  mg_law_lists_refused : mg "_law_lists_refused" = some (.ref A.a_law_lists_refused)
  F_law : Fun K "law" "law" s_law A.a_law A.d_law
  b_law : Binds K A.d_law ["script"] []
  mg_law : mg "law" = some (.ref A.a_law)
end My
set_option maxRecDepth 100000
set_option maxHeartbeats 4000000
set_option exponentiation.threshold 10000
namespace My
open PySem L2
theorem lu1 : Str.length ("there is no column " : Str) = 19 := by decide
theorem lr1 : Str.length ("wrong on a ring: name " : Str) = 22 := by decide
theorem ln1 : Str.length ("number out of range: " : Str) = 21 := by decide
theorem lc1 : Str.length ("the column " : Str) = 11 := by decide
theorem lc2 : Str.length (" stands twice" : Str) = 13 := by decide
def midI (y : V) : Prop := ∃ i : Int, y = .int i ∧ i.natAbs < 10 ^ 15
theorem mid_log {i : Int} (h : i.natAbs < 10 ^ 15) : i.natAbs.log2 < 1920 := by
  rcases Nat.eq_zero_or_pos i.natAbs with e | e
  · rw [e]; decide
  · exact Nat.lt_of_lt_of_le ((Nat.log2_lt (by omega)).mpr (Nat.lt_of_lt_of_le h (by decide : 10 ^ 15 ≤ 2 ^ 60))) (by decide)
def shortS (y : V) : Prop := ∃ z : Str, y = .str z ∧ z.length ≤ 1000
section
variable {P : Program} {w : World} {K : PySem.W.Frag} {mg : Str → Option Value} {base : Heap} {A : Ad}
theorem ok_UnknownColumn (T : Txt P K mg A) : FnOk P w K mg base CX0 1 A.a_UnknownColumn_init A.d_UnknownColumn_init ["self", "name"] (spX1 A.C_UnknownColumn "name" shortS) := by
  refine sup_ok T.SF_UnknownColumn ss_UnknownColumn_init T.SC_UnknownColumn rfl rfl rfl (fun _ => rfl) (fun _ => rfl) (fun _ => rfl) (fun vs H Q E h => ?_) (fun cda cc A' outer s H vs Q E hr h => ?_)
  · obtain ⟨a, y, rfl, _⟩ := h
    rfl
  · obtain ⟨a, y, rfl, ⟨z, rfl, hz⟩, ha, k⟩ := h
    refine ⟨a, _, _, rfl, ha, (pe_joined (PJ.cons pe_str (PJ.cons (pe_fmt (pv 1)) PJ.nil))), (pss_one (ps_ost (pv 0) (pv 1))), ?_⟩
    refine ⟨_, rfl, by rw [Str.empty_append, lu1]; decide, _, rfl, .inl ⟨z, rfl, Nat.le_trans hz (by decide), _, rfl, ?_, (by decide : 1 ≤ 1000), ha, _, rfl, _, rfl, a, _, rfl, T.SC_UnknownColumn.ox, T.xn_UnknownColumn_name, .inl ⟨ha, fun d hd hne => k d hd hne⟩⟩⟩
    rw [Str.empty_append, Str.length_append, lu1]
    exact Nat.le_trans (Nat.add_le_add_left hz 19) (by decide)
theorem ok_SameColumn (T : Txt P K mg A) : FnOk P w K mg base CX0 1 A.a_SameColumn_init A.d_SameColumn_init ["self", "name"] (spX1 A.C_SameColumn "name" shortS) := by
  refine sup_ok T.SF_SameColumn ss_SameColumn_init T.SC_SameColumn rfl rfl rfl (fun _ => rfl) (fun _ => rfl) (fun _ => rfl) (fun vs H Q E h => ?_) (fun cda cc A' outer s H vs Q E hr h => ?_)
  · obtain ⟨a, y, rfl, _⟩ := h
    rfl
  · obtain ⟨a, y, rfl, ⟨z, rfl, hz⟩, ha, k⟩ := h
    refine ⟨a, _, _, rfl, ha, (pe_joined (PJ.cons pe_str (PJ.cons (pe_fmt (pv 1)) (PJ.cons pe_str PJ.nil)))), (pss_one (ps_ost (pv 0) (pv 1))), ?_⟩
    refine ⟨_, rfl, by rw [Str.empty_append, lc1]; decide, _, rfl, .inl ⟨z, rfl, Nat.le_trans hz (by decide), _, rfl, ?_, _, rfl, ?_, (by decide : 1 ≤ 1000), ha, _, rfl, _, rfl, a, _, rfl, T.SC_SameColumn.ox, T.xn_SameColumn_name, .inl ⟨ha, fun d hd hne => k d hd hne⟩⟩⟩
    · rw [Str.empty_append, Str.length_append, lc1]
      exact Nat.le_trans (Nat.add_le_add_left hz 11) (by decide)
    · rw [Str.empty_append, Str.length_append, Str.length_append, lc1, lc2]
      exact Nat.le_trans (Nat.add_le_add_right (Nat.add_le_add_left hz 11) 13) (by decide)
theorem ok_BadRound (T : Txt P K mg A) : FnOk P w K mg base CX0 1 A.a_BadRound_init A.d_BadRound_init ["self", "index"] (spX1 A.C_BadRound "index" midI) := by
  refine sup_ok T.SF_BadRound ss_BadRound_init T.SC_BadRound rfl rfl rfl (fun _ => rfl) (fun _ => rfl) (fun _ => rfl) (fun vs H Q E h => ?_) (fun cda cc A' outer s H vs Q E hr h => ?_)
  · obtain ⟨a, y, rfl, _⟩ := h
    rfl
  · obtain ⟨a, y, rfl, ⟨i, rfl, hi⟩, ha, k⟩ := h
    have l1 := PyProof.Rows.int_text_len_1921 (mid_log hi)
    refine ⟨a, _, _, rfl, ha, (pe_joined (PJ.cons pe_str (PJ.cons (pe_fmt (pv 1)) PJ.nil))), (pss_one (ps_ost (pv 0) (pv 1))), ?_⟩
    refine ⟨_, rfl, by rw [Str.empty_append, lr1]; decide, _, rfl, .inr ⟨i, rfl, mid_log hi, _, rfl, ?_, (by decide : 1 ≤ 1000), ha, _, rfl, _, rfl, a, _, rfl, T.SC_BadRound.ox, T.xn_BadRound_index, .inl ⟨ha, fun d hd hne => k d hd hne⟩⟩⟩
    rw [Str.empty_append, Str.length_append, lr1]
    exact Nat.le_trans (Nat.add_le_add_left l1 22) (by decide)
theorem ok_BadNumber (T : Txt P K mg A) : FnOk P w K mg base CX0 1 A.a_BadNumber_init A.d_BadNumber_init ["self", "number"] (spX1 A.C_BadNumber "number" midI) := by
  refine sup_ok T.SF_BadNumber ss_BadNumber_init T.SC_BadNumber rfl rfl rfl (fun _ => rfl) (fun _ => rfl) (fun _ => rfl) (fun vs H Q E h => ?_) (fun cda cc A' outer s H vs Q E hr h => ?_)
  · obtain ⟨a, y, rfl, _⟩ := h
    rfl
  · obtain ⟨a, y, rfl, ⟨i, rfl, hi⟩, ha, k⟩ := h
    have l1 := PyProof.Rows.int_text_len_1921 (mid_log hi)
    refine ⟨a, _, _, rfl, ha, (pe_joined (PJ.cons pe_str (PJ.cons (pe_fmt (pv 1)) PJ.nil))), (pss_one (ps_ost (pv 0) (pv 1))), ?_⟩
    refine ⟨_, rfl, by rw [Str.empty_append, ln1]; decide, _, rfl, .inr ⟨i, rfl, mid_log hi, _, rfl, ?_, (by decide : 1 ≤ 1000), ha, _, rfl, _, rfl, a, _, rfl, T.SC_BadNumber.ox, T.xn_BadNumber_number, .inl ⟨ha, fun d hd hne => k d hd hne⟩⟩⟩
    rw [Str.empty_append, Str.length_append, ln1]
    exact Nat.le_trans (Nat.add_le_add_left l1 21) (by decide)
/-! ### names -/
def spName : Sp := fun vs H Q _ => ∃ z, vs = [.str z] ∧ z.length ≤ 16000000 ∧ ∀ H', Same H H' → Q (.bl (okName z)) H'
theorem ok_name (T : Txt P K mg A) : FnOk P w K mg base CX0 1 A.a_is_name A.d_is_name ["text"] spName := by
  refine T.F_is_name.ok sc_is_name (fun vs H Q E h => ?_) (fun cdv A' outer s H vs Q E hr h => ?_)
  · obtain ⟨z, rfl, _⟩ := h
    rfl
  · obtain ⟨z, rfl, g, k⟩ := h
    refine ⟨_, (pss_one (ps_ret (pe_and (pe_chain op_le op_le pe_int (pe_callB call_len_str (by rfl) T.n_len (by decide +kernel) (pa_cons (pv 0) pa_nil)) (pe_glob (v := .int 8) rfl T.mg_LONGEST_NAME.choose_spec ⟨_, rfl⟩)) (pe_one (pe_callB (cr_all rfl) (by rfl) T.n_all (by decide +kernel) (pa_cons (pe_lc (own := [("sign", 1)]) (g := gName 1) (tt := tYes) rfl sc_is_name.nd (pi_str (pv 0)) (blkOk_by (N := ["text", "sign"]) (sc := defScope s_is_name) (by decide +kernel)) (fun _ _ _ _ _ => (pg_name (i := 1) sc_is_name.nd rfl (Or.inl rfl))) (fun _ _ _ _ _ => pts_nil) (fun _ _ _ _ _ => (pe_chain op_le_str op_le_str pe_str (pv 1) pe_str))) pa_nil)))))), ?_⟩
    have hz : z.length ≤ sizeLine := Nat.le_trans g (by decide)
    refine ⟨_, rfl, z, rfl, hz, _, _, rfl, rfl, _, rfl, ?_⟩
    by_cases h1 : 1 ≤ z.length
    · refine itY (by omega) ⟨_, _, rfl, rfl, _, rfl, ?_⟩
      by_cases h8 : z.length ≤ 8
      · refine itY (by omega) ?_
        refine ⟨_, rfl, z, rfl, fun D hD => lc_it walk_str (PvS H D fun i => (z.cps.toList.take i).map fun c => V.bl (decide (97 ≤ c ∧ c ≤ 122))) (pv0 hD rfl) (fun _ _ _ _ => trivial) ?_ ?_⟩
        · rintro i x H30 H3 hi p ⟨rfl, c, hc, rfl⟩
          have hc' : z.cps.toList[i]? = some c := by rw [Array.getElem?_toList]; exact hc
          have push : ∀ b : Bool, b = decide (97 ≤ c ∧ c ≤ 122) → ∃ acc, H3 D = some (.lst acc) ∧ acc.length < sizeLine ∧ PvS H D (fun i => (z.cps.toList.take i).map fun c => V.bl (decide (97 ≤ c ∧ c ≤ 122))) (i + 1) (upd H3 D (.lst (acc ++ [V.bl b]))) := fun b hb => by
            refine p.push hD ?_ ?_
            · show (z.cps.toList.take (i + 1)).map _ = _
              rw [take_succ hc', List.map_append, hb]; rfl
            · show ((z.cps.toList.take i).map _).length ≤ 1000000
              rw [List.length_map, List.length_take]
              have h2 : z.cps.size = z.length := rfl
              rw [Array.length_toList]; omega
          refine ⟨rfl, ?_⟩
          refine ⟨_, rfl, _, _, rfl, rfl, _, rfl, ?_⟩
          by_cases ha : 97 ≤ c
          · refine ifT (by
              show (!decide ([c] < [97])) = true
              have : ¬ c < 97 := by omega
              simp [List.cons_lt_cons_iff] <;> omega) ⟨_, _, rfl, rfl, push _ ?_⟩
            show (!decide ([122] < [c])) = decide (97 ≤ c ∧ c ≤ 122)
            by_cases hb : c ≤ 122
            · rw [decide_eq_true (⟨ha, hb⟩ : 97 ≤ c ∧ c ≤ 122)]
              simp [List.cons_lt_cons_iff] <;> omega
            · rw [decide_eq_false (fun h : 97 ≤ c ∧ c ≤ 122 => hb h.2)]
              simp [List.cons_lt_cons_iff] <;> omega
          · refine ifF (by
              show (!decide ([c] < [97])) = false
              simp [List.cons_lt_cons_iff] <;> omega) (push _ ?_)
            rw [decide_eq_false (fun h : 97 ≤ c ∧ c ≤ 122 => ha h.1)]
            first | done | (show (!decide ([c] < [97])) = false; simp [List.cons_lt_cons_iff] <;> omega)
        · rintro H3 ⟨sm, h3⟩
          have h3 : H3 D = some (.lst ((z.cps.toList.take z.cps.size).map fun c => V.bl (decide (97 ≤ c ∧ c ≤ 122)))) := h3
          rw [List.take_of_length_le (by rw [Array.length_toList]; exact Nat.le_refl _)] at h3
          refine ⟨D, z.cps.toList.map fun c => decide (97 ≤ c ∧ c ≤ 122), rfl, SqL.of (by rw [List.map_map]; exact h3), ?_⟩
          have e : (z.cps.toList.map fun c => decide (97 ≤ c ∧ c ≤ 122)).all id = okName z := by
            unfold okName
            rw [decide_eq_true h1, decide_eq_true h8, List.all_map]; rfl
          rw [e]
          exact k H3 sm
      · refine itN (by omega) ?_
        have e : okName z = false := by unfold okName; rw [decide_eq_false h8]; simp
        rw [e] at k
        exact k H (Same.refl _)
    · refine itN (by omega) ?_
      have e : okName z = false := by unfold okName; rw [decide_eq_false h1]; rfl
      rw [e] at k
      exact ⟨_, rfl, iteF (k H (Same.refl _))⟩
def spFirstBad (sq : Hp → Addr → List V → Prop) : Sp := fun vs H Q _ => ∃ l ns, vs = [.ref l] ∧ sq H l (sv ns) ∧ (∀ z ∈ ns, z.length ≤ 16000000) ∧ ∀ H', Same H H' → Q (optV (firstBad ns)) H'
theorem ok_firstBad (T : Txt P K mg A) : FnOk P w K mg base CX0 2 A.a_first_bad_name A.d_first_bad_name ["names"] (spFirstBad (SqL K)) := by
  have G_is_name := ok_name (P := P) (w := w) (base := base) T
  refine T.F_first_bad_name.ok sc_first_bad_name (fun vs H Q E h => ?_) (fun cdv A' outer s H vs Q E hr h => ?_)
  · obtain ⟨l, ns, rfl, _⟩ := h
    rfl
  · obtain ⟨l, ns, rfl, hS, g, k⟩ := h
    refine ⟨_, (pss_cons (ps_for PassesOwn.never rfl (pi_enum (by rfl) T.n_enumerate (pa_cons (pv 0) pa_nil)) (pg_tup (by rfl) (pgs_cons (pg_name (i := 1) sc_first_bad_name.nd rfl (Or.inl rfl)) (pgs_cons (pg_name (i := 2) sc_first_bad_name.nd rfl (Or.inl rfl)) pgs_nil)))
        (pss_one (ps_if (PW.pt (pw_or (pt_not (pt_val (pe_call G_is_name (hr.mono (by decide)) rfl T.mg_is_name T.F_is_name.kp T.b_is_name .nil pass0 (pa_cons (pv 2) pa_nil)))) (pw_or1 (pt_cmpR op_in_seq (pv 2) (pe_slice sl_list (pv 0) po_none (po_some (pv 1))) (by with_unfolding_all rfl))))) (pss_one (ps_ret (pv 1))) pss_nil)))
      (pss_one (ps_ret pe_non))), ?_⟩
    refine ⟨_, rfl, l, _, rfl, hS, for_it walk_enum (fun i σ H2 => Same H H2 ∧ (∀ j, j < i → badName ns j = false) ∧ ∃ u1 u2 : Option V, σ = [some (.ref l), u1, u2]) ⟨Same.refl _, fun j hj => absurd hj (Nat.not_lt_zero _), none, none, rfl⟩ (fun i σ H2 _ p => p.1.seq hS) ?_ ?_⟩
    · rintro i x σ H2 H3 hi ⟨sm, hb, u1, u2, rfl⟩ ⟨t, _, _, rfl, ht, rfl, ⟨⟩, hx⟩
      obtain ⟨z, hz, rfl⟩ := sv_get hx
      have hil : i < ns.length := by rw [len_sv] at hi; exact hi
      have bad : badName ns i = (!okName z || decide (z ∈ ns.take i)) := by unfold badName; rw [hz]
      refine ⟨t, _, rfl, SqT.of upd_same, rfl, _, _, rfl, _, _, rfl, rfl, ?_⟩
      refine ⟨_, rfl, z, rfl, g z (List.mem_of_getElem? hz), fun H4 sm4 => ⟨_, rfl, ?_⟩⟩
      have s4 : Same H H4 := sm.trans ((same_new ht).trans sm4)
      cases ok : okName z with
      | false =>
        refine ifT rfl (ifT rfl ⟨_, rfl, ?_⟩)
        have e := firstBad_some hil (by rw [bad, ok]; rfl) hb
        rw [e] at k
        exact k _ s4
      | true =>
        refine ifF rfl ⟨_, rfl, _, rfl, _, rfl, _, rfl, l, _, rfl, s4.seq hS, fun p hp => ⟨p, _, rfl, .inl (SqL.of upd_same), rfl, by rw [cut_take (by omega), sv_take]; exact flat_sv _, _, rfl, ?_⟩⟩
        rw [if_neg Bool.false_ne_true, cut_take (by omega), sv_take, inV_str]
        have s5 := s4.trans (same_new (o := .lst (cutV (sv ns) none (some ((i : Nat) : Int)))) hp)
        rw [cut_take (by omega), sv_take] at s5
        by_cases hp2 : z ∈ ns.take i
        · refine ifT (decide_eq_true hp2) ⟨_, rfl, ?_⟩
          have e := firstBad_some hil (by rw [bad, decide_eq_true hp2, Bool.or_true]) hb
          rw [e] at k
          exact k _ s5
        · refine ifF (decide_eq_false hp2) ⟨s5, fun j hj => ?_, _, _, rfl⟩
          rcases Nat.lt_succ_iff_lt_or_eq.mp hj with q | q
          · exact hb j q
          · rw [q, bad, ok, decide_eq_false hp2]; rfl
    · rintro σ H2 ⟨sm, hb, u1, u2, rfl⟩
      have e := firstBad_none (ns := ns) fun j hj => hb j (by rw [len_sv]; exact hj)
      rw [e] at k
      exact k H2 sm
theorem ok_firstBadT (T : Txt P K mg A) : FnOk P w K mg base CX0 2 A.a_first_bad_name A.d_first_bad_name ["names"] (spFirstBad (SqT K)) := by
  have G_is_name := ok_name (P := P) (w := w) (base := base) T
  refine T.F_first_bad_name.ok sc_first_bad_name (fun vs H Q E h => ?_) (fun cdv A' outer s H vs Q E hr h => ?_)
  · obtain ⟨l, ns, rfl, _⟩ := h
    rfl
  · obtain ⟨l, ns, rfl, hS, g, k⟩ := h
    refine ⟨_, (pss_cons (ps_for PassesOwn.never rfl (pi_enumT (by rfl) T.n_enumerate (pa_cons (pv 0) pa_nil)) (pg_tup (by rfl) (pgs_cons (pg_name (i := 1) sc_first_bad_name.nd rfl (Or.inl rfl)) (pgs_cons (pg_name (i := 2) sc_first_bad_name.nd rfl (Or.inl rfl)) pgs_nil)))
        (pss_one (ps_if (PW.pt (pw_or (pt_not (pt_val (pe_call G_is_name (hr.mono (by decide)) rfl T.mg_is_name T.F_is_name.kp T.b_is_name .nil pass0 (pa_cons (pv 2) pa_nil)))) (pw_or1 (pt_cmpR op_in_seq (pv 2) (pe_slice sl_tupA (pv 0) po_none (po_some (pv 1))) (by with_unfolding_all rfl))))) (pss_one (ps_ret (pv 1))) pss_nil)))
      (pss_one (ps_ret pe_non))), ?_⟩
    refine ⟨_, rfl, l, _, rfl, hS, for_it walk_enumT (fun i σ H2 => Same H H2 ∧ (∀ j, j < i → badName ns j = false) ∧ ∃ u1 u2 : Option V, σ = [some (.ref l), u1, u2]) ⟨Same.refl _, fun j hj => absurd hj (Nat.not_lt_zero _), none, none, rfl⟩ (fun i σ H2 _ p => p.1.tup hS) ?_ ?_⟩
    · rintro i x σ H2 H3 hi ⟨sm, hb, u1, u2, rfl⟩ ⟨t, _, _, rfl, ht, rfl, ⟨⟩, hx⟩
      obtain ⟨z, hz, rfl⟩ := sv_get hx
      have hil : i < ns.length := by rw [len_sv] at hi; exact hi
      have bad : badName ns i = (!okName z || decide (z ∈ ns.take i)) := by unfold badName; rw [hz]
      refine ⟨t, _, rfl, SqT.of upd_same, rfl, _, _, rfl, _, _, rfl, rfl, ?_⟩
      refine ⟨_, rfl, z, rfl, g z (List.mem_of_getElem? hz), fun H4 sm4 => ⟨_, rfl, ?_⟩⟩
      have s4 : Same H H4 := sm.trans ((same_new ht).trans sm4)
      cases ok : okName z with
      | false =>
        refine ifT rfl (ifT rfl ⟨_, rfl, ?_⟩)
        have e := firstBad_some hil (by rw [bad, ok]; rfl) hb
        rw [e] at k
        exact k _ s4
      | true =>
        refine ifF rfl ⟨_, rfl, _, rfl, _, rfl, _, rfl, l, _, rfl, s4.tup hS, fun z => absurd z.2 (by rw [HT.sIx_nat, len_sv]; omega), fun _ p hp => ⟨p, _, rfl, .inr (SqT.of upd_same), rfl, by rw [cut_take (by omega), sv_take]; exact flat_sv _, _, rfl, ?_⟩⟩
        rw [if_neg Bool.false_ne_true, cut_take (by omega), sv_take, inV_str]
        have s5 := s4.trans (same_new (o := .tup (cutV (sv ns) none (some ((i : Nat) : Int)))) hp)
        rw [cut_take (by omega), sv_take] at s5
        by_cases hp2 : z ∈ ns.take i
        · refine ifT (decide_eq_true hp2) ⟨_, rfl, ?_⟩
          have e := firstBad_some hil (by rw [bad, decide_eq_true hp2, Bool.or_true]) hb
          rw [e] at k
          exact k _ s5
        · refine ifF (decide_eq_false hp2) ⟨s5, fun j hj => ?_, _, _, rfl⟩
          rcases Nat.lt_succ_iff_lt_or_eq.mp hj with q | q
          · exact hb j q
          · rw [q, bad, ok, decide_eq_false hp2]; rfl
    · rintro σ H2 ⟨sm, hb, u1, u2, rfl⟩
      have e := firstBad_none (ns := ns) fun j hj => hb j (by rw [len_sv]; exact hj)
      rw [e] at k
      exact k H2 sm
def spStray (sq1 sq2 : Hp → Addr → List V → Prop) : Sp := fun vs H Q _ => ∃ c l cs ns, vs = [.ref c, .ref l] ∧ sq1 H c (sv cs) ∧ sq2 H l (sv ns) ∧ ns.length ≤ 1000 ∧ ∀ H', Same H H' → Q (optV (stray cs ns)) H'
theorem ok_stray (T : Txt P K mg A) : FnOk P w K mg base CX0 1 A.a_first_stray A.d_first_stray ["columns", "names"] (spStray (SqT K) (SqL K)) := by
  refine T.F_first_stray.ok sc_first_stray (fun vs H Q E h => ?_) (fun cdv A' outer s H vs Q E hr h => ?_)
  · obtain ⟨c, l, cs, ns, rfl, _⟩ := h
    rfl
  · obtain ⟨c, l, cs, ns, rfl, h1, h2, hl, k⟩ := h
    refine ⟨_, (pss_cons (ps_for PassesOwn.never rfl (pi_enum (by rfl) T.n_enumerate (pa_cons (pv 1) pa_nil)) (pg_tup (by rfl) (pgs_cons (pg_name (i := 2) sc_first_stray.nd rfl (Or.inl rfl)) (pgs_cons (pg_name (i := 3) sc_first_stray.nd rfl (Or.inl rfl)) pgs_nil)))
        (pss_one (ps_if (PW.pt (pw_or (pt_cmpR op_notIn_seq (pv 3) (pv 0) (by with_unfolding_all rfl)) (pw_or1 (pt_cmpR op_in_seq (pv 3) (pe_slice sl_list (pv 1) po_none (po_some (pv 2))) (by with_unfolding_all rfl))))) (pss_one (ps_ret (pv 2))) pss_nil)))
      (pss_one (ps_ret pe_non))), ?_⟩
    refine ⟨_, rfl, l, _, rfl, h2, for_it walk_enum (fun i σ H2 => Same H H2 ∧ (∀ j, j < i → badAt cs ns j = false) ∧ ∃ u1 u2 : Option V, σ = [some (.ref c), some (.ref l), u1, u2]) ⟨Same.refl _, fun j hj => absurd hj (Nat.not_lt_zero _), none, none, rfl⟩ (fun i σ H2 _ p => p.1.seq h2) ?_ ?_⟩
    · rintro i x σ H2 H3 hi ⟨sm, hb, u1, u2, rfl⟩ ⟨t, _, _, rfl, ht, rfl, ⟨⟩, hx⟩
      obtain ⟨z, hz, rfl⟩ := sv_get hx
      have hil : i < ns.length := by rw [len_sv] at hi; exact hi
      have bad : badAt cs ns i = (!decide (z ∈ cs) || decide (z ∈ ns.take i)) := by unfold badAt; rw [hz]
      refine ⟨t, _, rfl, SqT.of upd_same, rfl, _, _, rfl, _, _, rfl, rfl, ?_⟩
      have s3 : Same H (upd H2 t (.tup [.int (i : Nat), .str z])) := sm.trans (same_new ht)
      refine ⟨_, rfl, _, rfl, c, _, rfl, .inr (s3.tup h1), rfl, flat_sv _, _, rfl, ?_⟩
      rw [if_pos (rfl : true = true), inV_str]
      by_cases hc : z ∈ cs
      · refine ifF (by rw [decide_eq_true hc]; rfl) ?_
        refine ⟨_, rfl, _, rfl, _, rfl, _, rfl, l, _, rfl, s3.seq h2, fun p hp => ⟨p, _, rfl, .inl (SqL.of upd_same), rfl, by rw [cut_take (by omega), sv_take]; exact flat_sv _, _, rfl, ?_⟩⟩
        rw [if_neg Bool.false_ne_true, cut_take (by omega), sv_take, inV_str]
        have s4 := s3.trans (same_new (o := .lst (cutV (sv ns) none (some ((i : Nat) : Int)))) hp)
        rw [cut_take (by omega), sv_take] at s4
        by_cases hp2 : z ∈ ns.take i
        · refine ifT (decide_eq_true hp2) ⟨_, rfl, ?_⟩
          have e := stray_some (cs := cs) hil (by rw [bad, decide_eq_true hp2, Bool.or_true]) hb
          rw [e] at k
          exact k _ s4
        · refine ifF (decide_eq_false hp2) ⟨s4, fun j hj => ?_, _, _, rfl⟩
          rcases Nat.lt_succ_iff_lt_or_eq.mp hj with q | q
          · exact hb j q
          · rw [q, bad, decide_eq_true hc, decide_eq_false hp2]; rfl
      · refine ifT (by rw [decide_eq_false hc]; rfl) (ifT rfl ⟨_, rfl, ?_⟩)
        have e := stray_some (cs := cs) hil (by rw [bad, decide_eq_false hc]; rfl) hb
        rw [e] at k
        exact k _ s3
    · rintro σ H2 ⟨sm, hb, u1, u2, rfl⟩
      have e := stray_none (cs := cs) (ns := ns) fun j hj => hb j (by rw [len_sv]; exact hj)
      rw [e] at k
      exact k H2 sm
end
end My
set_option maxRecDepth 100000
set_option maxHeartbeats 4000000
set_option exponentiation.threshold 10000
namespace My
open PySem L2
/-- the first name that is no column -/
def unk (cs ns : List Str) : Option Str := ns.find? fun x => !decide (x ∈ cs)
theorem unk_some {cs ns : List Str} {i : Nat} {z : Str} (hz : ns[i]? = some z) (h1 : z ∉ cs) (h2 : ∀ (j : Nat) y, j < i → ns[j]? = some y → y ∈ cs) : unk cs ns = some z := by
  unfold unk
  rw [List.find?_eq_some_iff_getElem]
  obtain ⟨hi, e⟩ := List.getElem?_eq_some_iff.mp hz
  refine ⟨by simp [h1], i, hi, e, fun j hj => ?_⟩
  have := h2 j ns[j] hj (List.getElem?_eq_getElem _)
  simp [this]
theorem unk_none {cs ns : List Str} : unk cs ns = none ↔ ∀ x ∈ ns, x ∈ cs := by
  unfold unk
  rw [List.find?_eq_none]
  exact ⟨fun h x hx => by have := h x hx; simpa using this, fun h x hx => by simp [h x hx]⟩
theorem unk_mem {cs ns : List Str} {z : Str} (h : unk cs ns = some z) : z ∈ ns ∧ z ∉ cs := by
  unfold unk at h
  exact ⟨List.mem_of_find?_eq_some h, by have := List.find?_some h; simpa using this⟩
section
variable {P : Program} {w : World} {K : PySem.W.Frag} {mg : Str → Option Value} {base : Heap} {A : Ad}
def spKnown (K : PySem.W.Frag) (U : Addr) : Sp := fun vs H Q E => ∃ c l cs ns, vs = [.ref c, .ref l] ∧ SqT K H c (sv cs) ∧ SqL K H l (sv ns) ∧ (∀ z ∈ ns, z.length ≤ 1000) ∧
  (unk cs ns = none → ∀ H', Same H H' → Q .non H') ∧ ∀ z, unk cs ns = some z → ∀ d H', Same H H' → H' d = some (.xd [("name", .str z)]) → E (.ref U) (some d) H'
theorem ok_known (T : Txt P K mg A) : FnOk P w K mg base (L2.CX P w) 3 A.a_check_known A.d_check_known ["columns", "names"] (spKnown K A.C_UnknownColumn) := by
  have G_UnknownColumn_init := ok_UnknownColumn (P := P) (w := w) (base := base) T
  refine funX T.F_check_known sc_check_known (fun vs H Q E h => ?_) (fun cdv A' outer s H vs Q E hr h => ?_)
  · obtain ⟨c, l, cs, ns, rfl, _⟩ := h
    rfl
  · obtain ⟨c, l, cs, ns, rfl, h1, h2, hl, kq, ke⟩ := h
    refine ⟨_, (pss_one (ps_for (passes_of rfl) rfl (pi_list (pv 1)) (pg_name (i := 2) sc_check_known.nd rfl (Or.inl rfl))
        (pss_one (ps_if (pt_cmpR op_notIn_seq (pv 2) (pv 0) (by with_unfolding_all rfl)) (pss_one (ps_raise rfl (takes_of rfl rfl rfl rfl) (pmk_oex T.SC_UnknownColumn.ox T.ii_UnknownColumn T.ti_UnknownColumn G_UnknownColumn_init (hr.mono (by decide)) T.b_UnknownColumn_init .nil pass0 rfl T.mg_UnknownColumn (pa_cons (pv 2) pa_nil)))) pss_nil)))), ?_⟩
    refine ⟨_, rfl, l, rfl, ⟨_, h2⟩, for_it walk_list (fun i σ H2 => Same H H2 ∧ (∀ (j : Nat) z, j < i → ns[j]? = some z → z ∈ cs) ∧ ∃ u, σ = [some (.ref c), some (.ref l), u]) ⟨Same.refl _, fun j z hj => absurd hj (Nat.not_lt_zero _), none, rfl⟩ (fun i σ H2 _ q => q.1.seq h2) ?_ ?_⟩
    · rintro i x σ H20 H2 hi ⟨sm, hb, u, rfl⟩ ⟨rfl, hx⟩
      obtain ⟨z, hz, rfl⟩ := sv_get hx
      refine ⟨_, rfl, _, rfl, c, _, rfl, .inr (sm.tup h1), rfl, flat_sv _, _, rfl, ?_⟩
      rw [if_pos (rfl : true = true), inV_str]
      by_cases hc : z ∈ cs
      · refine ifF (by rw [decide_eq_true hc]; rfl) ⟨sm, fun j y hj hy => ?_, _, rfl⟩
        rcases Nat.lt_succ_iff_lt_or_eq.mp hj with q | q
        · exact hb j y q hy
        · rw [q, hz] at hy; cases hy; exact hc
      · refine ifT (by rw [decide_eq_false hc]; rfl) ⟨_, rfl, (by decide : 1 ≤ 1000), fun a ha => ⟨a, _, rfl, ⟨_, rfl, hl z (List.mem_of_getElem? hz)⟩, upd_same, fun d hd hne => ⟨rfl, d, _, upd_same, by rw [upd_ne hne, upd_same], by rw [upd_ne hne] at hd; exact hd, ?_⟩⟩⟩
        rw [upd_ne hne] at hd
        exact ke z (unk_some hz hc hb) d _ (sm.trans (exc_same ha hd)) upd_same
    · rintro σ H2 ⟨sm, hb, u, rfl⟩
      refine kq (unk_none.mpr fun x hx => ?_) H2 sm
      obtain ⟨i, hi, rfl⟩ := List.getElem_of_mem hx
      exact hb i _ (by rw [len_sv]; exact hi) (List.getElem?_eq_getElem hi)
def spDiff (K : PySem.W.Frag) (U S : Addr) : Sp := fun vs H Q E => ∃ c l cs ns, vs = [.ref c, .ref l] ∧ SqT K H c (sv cs) ∧ SqL K H l (sv ns) ∧ (∀ z ∈ ns, z.length ≤ 1000) ∧ ns.length ≤ 1000 ∧
  (unk cs ns = none → stray cs ns = none → ∀ H', Same H H' → Q .non H') ∧ (∀ z, unk cs ns = some z → ∀ d H', Same H H' → H' d = some (.xd [("name", .str z)]) → E (.ref U) (some d) H') ∧
  ∀ i z, unk cs ns = none → stray cs ns = some i → ns[i]? = some z → ∀ d H', Same H H' → H' d = some (.xd [("name", .str z)]) → E (.ref S) (some d) H'
theorem ok_different (T : Txt P K mg A) : FnOk P w K mg base (L2.CX P w) 4 A.a_check_different A.d_check_different ["columns", "names"] (spDiff K A.C_UnknownColumn A.C_SameColumn) := by
  have GX_check_known := ok_known (P := P) (w := w) (base := base) T
  have G_first_stray := ok_stray (P := P) (w := w) (base := base) T
  have G_SameColumn_init := ok_SameColumn (P := P) (w := w) (base := base) T
  refine funX T.F_check_different sc_check_different (fun vs H Q E h => ?_) (fun cdv A' outer s H vs Q E hr h => ?_)
  · obtain ⟨c, l, cs, ns, rfl, _⟩ := h
    rfl
  · obtain ⟨c, l, cs, ns, rfl, h1, h2, hz, hl, kq, ke, ks⟩ := h
    refine ⟨_, (pss_cons (ps_expr (pe_callS GX_check_known (hr.mono (by decide)) rfl T.mg_check_known T.F_check_known.kp T.b_check_known (fun σ => passAt (takes_of rfl rfl rfl rfl) σ) (pa_cons (pv 0) (pa_cons (pv 1) pa_nil))))
      (pss_cons (ps_set (i := 2) sc_check_different.nd rfl (Or.inl rfl) (pe_call G_first_stray (hr.mono (by decide)) rfl T.mg_first_stray T.F_first_stray.kp T.b_first_stray .nil pass0 (pa_cons (pv 0) (pa_cons (pv 1) pa_nil))))
      (pss_one (ps_if (pt_cmpR op_notN (pv 2) pe_non (nomark _)) (pss_one (ps_raise rfl (takes_of rfl rfl rfl rfl) (pmk_oex T.SC_SameColumn.ox T.ii_SameColumn T.ti_SameColumn G_SameColumn_init (hr.mono (by decide)) T.b_SameColumn_init .nil pass0 rfl T.mg_SameColumn (pa_cons (pe_ix ix_list (pv 1) (pv 2) (fun _ _ => rfl)) pa_nil)))) pss_nil)))), ?_⟩
    refine ⟨_, rfl, _, rfl, c, l, cs, ns, rfl, h1, h2, hz, fun hu H1 s1 => ?_, fun z e d H1 s1 hd => ke z e d H1 s1 hd⟩
    refine ⟨_, rfl, _, rfl, c, l, cs, ns, rfl, s1.tup h1, s1.seq h2, hl, fun H2 s2 => ?_⟩
    cases hs : stray cs ns with
    | none => exact ⟨_, rfl, rfl, _, rfl, itNe rfl (kq hu hs H2 (s1.trans s2))⟩
    | some i =>
      have hi : i < ns.length := by
        unfold stray at hs
        rw [List.find?_range_eq_some] at hs
        exact List.mem_range.mp hs.2.1
      have hzi : ns[i]? = some ns[i] := List.getElem?_eq_getElem hi
      refine ⟨_, rfl, rfl, _, rfl, itNeN (fun z => nomatch z) ⟨_, rfl, _, rfl, l, _, _, _, rfl, rfl, (s1.trans s2).seq h2, atI_nat (v := .str ns[i]) (by rw [List.getElem?_map, hzi]; rfl), (by decide : 1 ≤ 1000), fun a ha => ⟨a, _, rfl, ⟨_, rfl, hz _ (List.getElem_mem hi)⟩, upd_same, fun d hd hne => ⟨rfl, d, _, upd_same, by rw [upd_ne hne, upd_same], by rw [upd_ne hne] at hd; exact hd, ?_⟩⟩⟩⟩
      rw [upd_ne hne] at hd
      exact ks i _ hu hs hzi d _ ((s1.trans s2).trans (exc_same ha hd)) upd_same
end
/-! ### rings -/
def fldsR (nt : Addr) : List (Str × V) := putF "names" (.ref nt) []
theorem fldsR_names (nt : Addr) : (fldsR nt).lookup ("names" : Str) = some (.ref nt) := by unfold fldsR; rw [lookup_putF, if_pos rfl]
/-- the ring of ns stands at p -/
def Rd (C : Addr) (H : Hp) (p : Addr) (ns : List Str) : Prop := ∃ dx nt, H p = some (.ins C dx (fldsR nt)) ∧ DT H nt (sv ns)
theorem Rd.same {C : Addr} {H H' : Hp} {p : Addr} {ns : List Str} (h : Rd C H p ns) (e : Same H H') : Rd C H' p ns := let ⟨dx, nt, h1, h2⟩ := h; ⟨dx, nt, e _ _ h1, h2.same e⟩
/-- what is wrong on a ring -/
def ringFault (ns : List Str) : Option Nat := match firstBad ns with | some i => some i | none => if 12 < ns.length then some 12 else none
structure RingOk (ns : List Str) : Prop where
  g : ∀ z ∈ ns, Good z
  nd : ns.Nodup
  n : ns.length ≤ 12
theorem ringFault_none {ns : List Str} : ringFault ns = none ↔ RingOk ns := by
  unfold ringFault
  cases hf : firstBad ns with
  | some i =>
    constructor
    · intro h; cases h
    · intro h
      rw [firstBad_none_iff.mpr ⟨h.g, h.nd⟩] at hf; cases hf
  | none =>
    obtain ⟨a, b⟩ := firstBad_none_iff.mp hf
    constructor
    · intro h
      have h : (if 12 < ns.length then some 12 else none) = none := h
      refine ⟨a, b, ?_⟩
      by_cases q : 12 < ns.length
      · rw [if_pos q] at h; cases h
      · omega
    · intro h
      show (if 12 < ns.length then some 12 else none) = none
      rw [if_neg (by have := h.n; omega)]
section
variable {P : Program} {w : World} {K : PySem.W.Frag} {mg : Str → Option Value} {base : Heap} {A : Ad}
theorem ok_firstBadO (T : Txt P K mg A) : FnOk P w K mg base CX0 2 A.a_first_bad_name A.d_first_bad_name ["names"] (spFirstBad fun H a xs => SqL K H a xs ∨ SqT K H a xs) :=
  (fnok_or (ok_firstBad T) (ok_firstBadT T)).imp fun vs H Q E ⟨l, ns, e, hs, r⟩ => hs.elim (fun h => .inl ⟨l, ns, e, h, r⟩) (fun h => .inr ⟨l, ns, e, h, r⟩)
def spInit (C B : Addr) (K : PySem.W.Frag) : Sp := fun vs H Q E => ∃ p l dx ns, vs = [.ref p, .ref l] ∧ H p = some (.ins C dx []) ∧ (SqL K H l (sv ns) ∨ DT H l (sv ns)) ∧ (∀ z ∈ ns, z.length ≤ 16000000) ∧ ns.length ≤ 1000 ∧
  (ringFault ns = none → ∀ H', (∀ b o, b ≠ p → H b = some o → H' b = some o) → Rd C H' p ns → Q .non H') ∧
  ∀ i, ringFault ns = some i → ∀ d H', Same H H' → H' d = some (.xd [("index", .int (i : Nat))]) → E (.ref B) (some d) H'
theorem ok_initX (T : Txt P K mg A) : FnOk P w K mg base (L2.CX P w) 4 A.a_Round_init A.d_Round_init ["self", "names"] (spInit A.C_Round A.C_BadRound K) := by
  have G_first_bad_name := ok_firstBadO (P := P) (w := w) (base := base) T
  have G_BadRound_init := ok_BadRound (P := P) (w := w) (base := base) T
  refine funX T.F_Round_init sc_Round_init (fun vs H Q E h => ?_) (fun cdv A' outer s H vs Q E hr h => ?_)
  · obtain ⟨p, l, dx, ns, rfl, _⟩ := h
    rfl
  · obtain ⟨p, l, dx, ns, rfl, hp, hL, hz, hn, kq, ke⟩ := h
    refine ⟨_, (pss_cons (ps_set (i := 2) sc_Round_init.nd rfl (Or.inl rfl) (pe_call G_first_bad_name (hr.mono (by decide)) rfl T.mg_first_bad_name T.F_first_bad_name.kp T.b_first_bad_name .nil pass0 (pa_cons (pv 1) pa_nil)))
      (pss_cons (ps_if (pt_cmpR op_notN (pv 2) pe_non (nomark _)) (pss_one (ps_raise rfl (takes_of rfl rfl rfl rfl) (pmk_oex T.SC_BadRound.ox T.ii_BadRound T.ti_BadRound G_BadRound_init (hr.mono (by decide)) T.b_BadRound_init .nil pass0 rfl T.mg_BadRound (pa_cons (pv 2) pa_nil)))) pss_nil)
      (pss_cons (ps_if (pt_cmpR op_gt (pe_callB call_len_seq (by rfl) T.n_len (by decide +kernel) (pa_cons (pv 1) pa_nil)) (ClX.pe_cval (pe_glob (v := .ref A.C_Table) rfl T.mg_Table rfl)) (nomark _)) (pss_one (ps_raise rfl (takes_of rfl rfl rfl rfl) (pmk_oex T.SC_BadRound.ox T.ii_BadRound T.ti_BadRound G_BadRound_init (hr.mono (by decide)) T.b_BadRound_init .nil pass0 rfl T.mg_BadRound (pa_cons (ClX.pe_cval (pe_glob (v := .ref A.C_Table) rfl T.mg_Table rfl)) pa_nil)))) pss_nil)
      (pss_one (ps_fld (pv 0) (pe_callTy (show CallR _ _ (rTupD K) from call_tuple_ofD) (by rfl) T.n_tuple (by decide +kernel) (pa_cons (pv 1) pa_nil)) rfl))))), ?_⟩
    refine ⟨_, rfl, l, ns, rfl, hL.imp id DT.sq, hz, fun H1 s1 => ?_⟩
    have hL1 : SqL K H1 l (sv ns) ∨ SqT K H1 l (sv ns) := hL.imp (fun h => s1.seq h) (fun h => (h.same s1).sq)
    cases hf : firstBad ns with
    | some i =>
      have e : ringFault ns = some i := by unfold ringFault; rw [hf]
      have hi : i < ns.length := by
        unfold firstBad at hf
        rw [List.find?_range_eq_some] at hf
        exact List.mem_range.mp hf.2.1
      refine ⟨_, rfl, rfl, _, rfl, itNeN (fun z => nomatch z) ⟨_, rfl, (by decide : 1 ≤ 1000), fun a ha => ⟨a, _, rfl, ⟨_, rfl, by rw [Int.natAbs_natCast]; omega⟩, upd_same, fun d hd hne => ⟨rfl, d, _, upd_same, by rw [upd_ne hne, upd_same], by rw [upd_ne hne] at hd; exact hd, ?_⟩⟩⟩⟩
      rw [upd_ne hne] at hd
      exact ke i e d _ (s1.trans (exc_same ha hd)) upd_same
    | none =>
      obtain ⟨u, hu⟩ := T.cv_Table_MOST_COLUMNS
      refine ⟨_, rfl, rfl, _, rfl, itNe rfl ⟨_, rfl, l, _, rfl, hL1, _, _, _, _, rfl, T.cr_Table, hu, _, _, rfl, rfl, _, rfl, ?_⟩⟩
      by_cases h12 : 12 < ns.length
      · have e : ringFault ns = some 12 := by unfold ringFault; rw [hf]; show (if 12 < ns.length then some 12 else none) = _; rw [if_pos h12]
        refine itY (by rw [len_sv]; omega) ⟨_, _, _, _, rfl, T.cr_Table, hu, (by decide : 1 ≤ 1000), fun a ha => ⟨a, _, rfl, ⟨_, rfl, by decide⟩, upd_same, fun d hd hne => ⟨rfl, d, _, upd_same, by rw [upd_ne hne, upd_same], by rw [upd_ne hne] at hd; exact hd, ?_⟩⟩⟩
        rw [upd_ne hne] at hd
        exact ke 12 e d _ (s1.trans (exc_same ha hd)) upd_same
      · have e : ringFault ns = none := by unfold ringFault; rw [hf]; show (if 12 < ns.length then some 12 else none) = _; rw [if_neg h12]
        have fin : ∀ nt H3, Same H H3 → H3 p = some (.ins A.C_Round dx []) → DT H3 nt (sv ns) → Q .non (upd H3 p (.ins A.C_Round dx (putF "names" (.ref nt) []))) := fun nt H3 s3 hp3 hn3 => by
          exact kq e _ (fun b o hb eb => by rw [upd_ne hb]; exact s3 _ _ eb) ⟨dx, nt, upd_same, hn3.upd hp3 (fun _ _ => nofun)⟩
        refine itN (by rw [len_sv]; omega) ⟨_, rfl, l, sv ns, rfl, ?_⟩
        rcases hL with hq | hq
        · refine .inl ⟨s1.seq hq, fun ct o hct hod => ?_⟩
          have hp2 : upd H1 ct (.frz o (.tup (sv ns))) p = some (.ins A.C_Round dx []) := by rw [upd_ne (ne_of_none (s1 _ _ hp) hct)]; exact s1 _ _ hp
          exact ⟨_, rfl, p, _, dx, [], rfl, hp2, T.cl_Round, T.n_Round_names, (by show 0 < 1000; decide), fin ct _ (s1.trans (same_new hct)) hp2 ⟨o, hod, upd_same⟩⟩
        · exact .inr ⟨(hq.same s1).sq, _, rfl, p, _, dx, [], rfl, s1 _ _ hp, T.cl_Round, T.n_Round_names, (by show 0 < 1000; decide), fin l _ s1 (s1 _ _ hp) (hq.same s1)⟩
theorem ok_init (T : Txt P K mg A) : FnOk P w K mg base CX0 4 A.a_Round_init A.d_Round_init ["self", "names"] (fun vs H Q _ => spInit A.C_Round A.C_BadRound K vs H Q E0) := quiet (ok_initX T) fun _ _ _ _ h => h
end
end My
set_option maxRecDepth 100000
set_option maxHeartbeats 4000000
set_option exponentiation.threshold 10000
namespace My
open PySem L2
/-! ### names moved on -/
def rotN (ns : List Str) (k : Nat) : List Str := ns.drop k ++ ns.take k
def rotI (ns : List Str) (i : Int) : List Str := if ns = [] then [] else rotN ns (i % (ns.length : Int)).toNat
theorem rotN_len (ns : List Str) (k : Nat) : (rotN ns k).length = ns.length := by unfold rotN; rw [List.length_append, List.length_drop, List.length_take]; omega
theorem rotI_len (ns : List Str) (i : Int) : (rotI ns i).length = ns.length := by
  unfold rotI
  split
  · rename_i h; rw [h]
  · exact rotN_len _ _
theorem rotN_perm (ns : List Str) (k : Nat) : (rotN ns k).Perm ns := by
  unfold rotN
  refine List.perm_append_comm.trans ?_
  rw [List.take_append_drop]
theorem rotI_perm (ns : List Str) (i : Int) : (rotI ns i).Perm ns := by
  unfold rotI
  split
  · rename_i h; rw [h]
  · exact rotN_perm _ _
theorem rotI_nil (i : Int) : rotI [] i = [] := rfl
theorem RingOk.perm {ns ms : List Str} (h : RingOk ns) (p : ms.Perm ns) : RingOk ms := ⟨fun z hz => h.g z (p.mem_iff.mp hz), p.nodup_iff.mpr h.nd, by rw [p.length_eq]; exact h.n⟩
section
variable {P : Program} {w : World} {K : PySem.W.Frag} {mg : Str → Option Value} {base : Heap} {A : Ad}
def spMoved : Sp := fun vs H Q _ => ∃ t k ns, vs = [.ref t, .int k] ∧ DT H t (sv ns) ∧ ns.length ≤ 1000 ∧ ∀ t' H', Same H H' → DT H' t' (sv (rotI ns k)) → Q (.ref t') H'
theorem ok_moved (T : Txt P K mg A) : FnOk P w K mg base CX0 1 A.a_moved A.d_moved ["names", "steps"] spMoved := by
  refine T.F_moved.ok sc_moved (fun vs H Q E h => ?_) (fun cdv A' outer s H vs Q E hr h => ?_)
  · obtain ⟨t, k, ns, rfl, _⟩ := h
    rfl
  · obtain ⟨t, i, ns, rfl, ht, hl, k⟩ := h
    refine ⟨_, (pss_cons (ps_if (pt_cmpR op_eq (pe_callB call_len_seq (by rfl) T.n_len (by decide +kernel) (pa_cons (pv 0) pa_nil)) pe_int (nomark _)) (pss_one (ps_ret (pv 0))) pss_nil)
      (pss_cons (ps_set (i := 2) sc_moved.nd rfl (Or.inl rfl) (pe_op op_mod (pv 1) (pe_callB call_len_seq (by rfl) T.n_len (by decide +kernel) (pa_cons (pv 0) pa_nil))))
      (pss_one (ps_ret (pe_tupD (StX.pa_star (pe_slice sl_tupA (pv 0) (po_some (pv 2)) po_none) (StX.pa_star (pe_slice sl_tupA (pv 0) po_none (po_some (pv 2))) pa_nil))))))), ?_⟩
    refine ⟨_, rfl, t, _, rfl, .inr (ht.sq), rfl, _, rfl, ?_⟩
    by_cases h0 : ns = []
    · subst h0
      exact ifT rfl ⟨_, rfl, k t H (Same.refl _) ht⟩
    · have hpos : 0 < ns.length := List.length_pos_iff.mpr h0
      have e0 := Int.emod_nonneg i (show ((ns.length : Nat) : Int) ≠ 0 by omega)
      have e1 := Int.emod_lt_of_pos i (show (0 : Int) < ((ns.length : Nat) : Int) by omega)
      have er : rotI ns i = rotN ns (i % (ns.length : Int)).toNat := by unfold rotI; rw [if_neg h0]
      obtain ⟨n, hn⟩ := Int.eq_ofNat_of_zero_le e0
      have hn2 : n < ns.length := by omega
      rw [er, hn, Int.toNat_natCast] at k
      refine ifF (iNe (by rw [len_sv]; omega)) ⟨_, rfl, _, rfl, t, _, rfl, .inr (ht.sq), _, _, rfl, rfl, by rw [len_sv]; omega, ?_⟩
      dsimp only
      rw [len_sv, hn]
      refine ⟨_, rfl, _, rfl, _, rfl, t, sv ns, rfl, ht.sq, fun hw => ?_, fun hw p hp => ?_⟩
      · have hn0 : n = 0 := by have := hw.1; rw [sIx_lo (by rw [len_sv]; omega)] at this; exact this
        subst hn0
        refine ⟨t, sv ns, rfl, .inl (ht.sq), _, rfl, _, rfl, _, rfl, t, sv ns, rfl, ht.sq, fun hw => ?_, fun hw p hp => ?_⟩
        · have := hw.2
          rw [sIx_hi (Nat.zero_le _), len_sv] at this
          omega
        · refine ⟨p, _, rfl, .inl (SqT.of upd_same), ?_, fun t' o ht' hod => ?_⟩
          · have := cutV_length (sv ns) none (some ((0 : Nat) : Int))
            rw [len_sv] at this
            rw [List.append_nil, List.length_append, len_sv]
            refine Nat.le_trans (Nat.add_le_add hl (Nat.le_trans this hl)) (by decide)
          · refine k t' _ ((same_new hp).trans (same_new ht')) ?_
            refine ⟨o, hod, ?_⟩
            rw [upd_same, cut_take (Nat.zero_le _)]
            show some (HO.frz o (HO.tup (sv ns ++ ((sv ns).take 0 ++ [])))) = some (HO.frz o (HO.tup (sv (ns.drop 0 ++ ns.take 0))))
            simp
      · refine ⟨p, _, rfl, .inl (SqT.of upd_same), _, rfl, _, rfl, _, rfl, t, sv ns, rfl, (ht.same (same_new hp)).sq, fun hw => ?_, fun hw q hq => ?_⟩
        · have := hw.2
          rw [sIx_hi (by rw [len_sv]; omega), len_sv] at this
          omega
        · rw [cut_drop (by rw [len_sv]; omega), sv_drop] at hq ⊢
          rw [cut_take (by rw [len_sv]; omega), sv_take]
          refine ⟨q, _, rfl, .inl (SqT.of upd_same), ?_, fun t' o ht' hod => ?_⟩
          · rw [List.append_nil, List.length_append, len_sv, len_sv, List.length_drop, List.length_take]
            exact Nat.le_trans (show (ns.length - n) + min n ns.length ≤ 1000 by omega) (by decide)
          · refine k t' _ ((same_new hp).trans ((same_new hq).trans (same_new ht'))) ?_
            refine ⟨o, hod, ?_⟩
            rw [upd_same, List.append_nil]
            show some (HO.frz o (HO.tup (sv (ns.drop n) ++ sv (ns.take n)))) = some (HO.frz o (HO.tup (sv (rotN ns n))))
            unfold rotN
            exact congrArg (fun z => some (HO.frz o (HO.tup z))) List.map_append.symm
/-- at ts stand tuples (without a dict) of the texts rs -/
structure Lsd (H : Hp) (ts : List Addr) (rs : List (List Str)) : Prop where
  len : ts.length = rs.length
  at_ : ∀ (i : Nat) (t : Addr) (r : List Str), ts[i]? = some t → rs[i]? = some r → DT H t (sv r)
theorem Lsd.same {H H' : Hp} {ts : List Addr} {rs : List (List Str)} (h : Lsd H ts rs) (e : Same H H') : Lsd H' ts rs := ⟨h.len, fun i t x a b => (h.at_ i t x a b).same e⟩
theorem Lsd.nil {H : Hp} : Lsd H [] [] := ⟨rfl, fun i t x h => by simp at h⟩
theorem Lsd.app {H : Hp} {ts : List Addr} {rs : List (List Str)} {t : Addr} {r : List Str} (h : Lsd H ts rs) (ht : DT H t (sv r)) : Lsd H (ts ++ [t]) (rs ++ [r]) := by
  refine ⟨by rw [List.length_append, List.length_append, h.len]; rfl, fun i u y a b => ?_⟩
  rcases Nat.lt_trichotomy i ts.length with c | c | c
  · rw [List.getElem?_append_left c] at a
    rw [List.getElem?_append_left (by rw [← h.len]; exact c)] at b
    exact h.at_ i u y a b
  · rw [c, List.getElem?_append_right (Nat.le_refl _), Nat.sub_self] at a
    rw [c, h.len, List.getElem?_append_right (Nat.le_refl _), Nat.sub_self] at b
    cases a; cases b; exact ht
  · rw [List.getElem?_append_right (by omega), List.getElem?_eq_none (by simp; omega)] at a
    cases a
theorem Lsd.upd {H : Hp} {ts : List Addr} {rs : List (List Str)} {l : Addr} {u o : HO} (h : Lsd H ts rs) (hl : H l = some u) (hu : ∀ o v, u ≠ .frz o v) : Lsd (upd H l o) ts rs := ⟨h.len, fun i t x a b => (h.at_ i t x a b).upd hl hu⟩
theorem dp_lsd {K : PySem.W.Frag} {H : Hp} : ∀ {ts : List Addr} {rs : List (List Str)}, Lsd H ts rs → DpAll K H (ts.map V.ref) (pdd rs)
  | [], [], _ => .nil
  | [], _ :: _, h => nomatch h.len
  | _ :: _, [], h => nomatch h.len
  | t :: ts, r :: rs, h => .cons (.tup (xs := sv r) (h.at_ 0 t r rfl rfl).sq (dp_pd r)) (dp_lsd ⟨Nat.succ.inj h.len, fun i u x a b => h.at_ (i + 1) u x a b⟩)
/-- all the names moved on -/
def allRot (ns : List Str) : List (List Str) := (List.range (ns.length + 1)).map fun k : Nat => rotI ns (k : Int)
def spAll : Sp := fun vs H Q _ => ∃ t ns, vs = [.ref t] ∧ DT H t (sv ns) ∧ ns.length ≤ 12 ∧ ∀ l ts H', Same H H' → H' l = some (.lst (ts.map V.ref)) → Lsd H' ts (allRot ns) → Q (.ref l) H'
theorem ok_all (T : Txt P K mg A) : FnOk P w K mg base CX0 2 A.a_all_moved A.d_all_moved ["names"] spAll := by
  have G_moved := ok_moved (P := P) (w := w) (base := base) T
  refine T.F_all_moved.ok sc_all_moved (fun vs H Q E h => ?_) (fun cdv A' outer s H vs Q E hr h => ?_)
  · obtain ⟨t, ns, rfl, _⟩ := h
    rfl
  · obtain ⟨t, ns, rfl, ht, hl, k⟩ := h
    refine ⟨_, (pss_one (ps_ret (pe_lc (own := [("steps", 1)]) (g := gName 1) (tt := tYes) rfl sc_all_moved.nd (pi_range1 (by rfl) T.n_range (pa_cons (pe_op op_add (pe_callB call_len_seq (by rfl) T.n_len (by decide +kernel) (pa_cons (pv 0) pa_nil)) pe_int) pa_nil)) (blkOk_by (N := ["names", "steps"]) (sc := defScope s_all_moved) (by decide +kernel)) (fun _ _ _ _ _ => (pg_name (i := 1) sc_all_moved.nd rfl (Or.inl rfl))) (fun _ _ _ _ _ => pts_nil) (fun _ _ _ _ _ => (pe_call G_moved (hr.mono (by decide)) rfl T.mg_moved T.F_moved.kp T.b_moved .nil pass0 (pa_cons (pv 0) (pa_cons (pv 1) pa_nil))))))), ?_⟩
    refine ⟨_, rfl, t, _, rfl, .inr ht.sq, _, _, rfl, rfl, _, rfl, by omega, by rw [len_sv]; omega, fun D hD => ?_⟩
    have e1 : ((((sv ns).length : Nat) : Int) + 1).toNat = ns.length + 1 := by rw [len_sv]; omega
    refine lc_range (n := ((((sv ns).length : Nat) : Int) + 1).toNat) (fun i H4 => Same H H4 ∧ ∃ us : List Addr, H4 D = some (.lst (us.map V.ref)) ∧ Lsd H4 us ((List.range i).map fun k : Nat => rotI ns (k : Int))) ⟨same_new hD, [], upd_same, Lsd.nil⟩ ?_ ?_
    · rintro i H5 hi ⟨s5, us, hd, hu⟩
      rw [e1] at hi
      have hi0 : (0 : Int) + (i : Int) = (i : Int) := by omega
      refine ⟨rfl, _, rfl, _, rfl, t, _, ns, rfl, ht.same s5, by omega, fun t' H6 s6 ht' => ?_⟩
      have hd6 := s6 _ _ hd
      refine ⟨_, hd6, small_int (by rw [List.length_map, hu.len, List.length_map, List.length_range]; omega), ?_, us ++ [t'], ?_, ?_⟩
      · intro c o e
        rw [upd_ne (ne_of_none e hD)]
        exact s6 _ _ (s5 _ _ e)
      · rw [List.map_append]; exact upd_same
      · rw [List.range_succ, List.map_append]
        rw [hi0] at ht'
        exact ((hu.same s6).app ht').upd hd6 (fun _ _ => nofun)
    · rintro H5 ⟨s5, us, hd, hu⟩
      rw [e1] at hu
      exact k D us H5 s5 hd hu
end
end My
set_option maxRecDepth 100000
set_option maxHeartbeats 4000000
set_option exponentiation.threshold 10000
namespace My
open PySem L2
/-- the other names, from the i-th on -/
def aft (ns : List Str) (i : Nat) : List Str := ns.drop (i + 1) ++ ns.take i
def backN (ns : List Str) : List Str := ns.take 1 ++ (ns.drop 1).reverse
theorem backN_perm (ns : List Str) : (backN ns).Perm ns := by
  unfold backN
  refine (List.Perm.append_left _ (List.reverse_perm _)).trans ?_
  rw [List.take_append_drop]
section
variable {P : Program} {w : World} {K : PySem.W.Frag} {mg : Str → Option Value} {base : Heap} {A : Ad}
theorem Txt.ko_self (T : Txt P K mg A) : PySem.W.kitOne K (.ref A.C_Round) (.ref A.C_Round) = some true := by
  unfold PySem.W.kitOne
  rw [if_pos (by simp)]
theorem Txt.ty (T : Txt P K mg A) {H : Hp} {p dx : Addr} {fs : List (Str × V)} (h : H p = some (.ins A.C_Round dx fs)) : TyX K H (.ref p) (.ref A.C_Round) :=
  .base (.ins h T.cl_Round T.c1_Round T.c2 T.c4 T.c3_Round)
def spCut (C U : Addr) : Sp := fun vs H Q E => ∃ p z ns, vs = [.ref p, .str z] ∧ Rd C H p ns ∧ z.length ≤ 1000 ∧ ns.length ≤ 12 ∧
  (∀ i : Nat, ns[i]? = some z → (∀ m, m < i → ns[m]? ≠ some z) → ∀ l H', Same H H' → H l = none → H' l = some (.lst (sv (aft ns i))) → Q (.ref l) H') ∧
  (z ∉ ns → ∀ d H', Same H H' → H' d = some (.xd [("name", .str z)]) → E (.ref U) (some d) H')
theorem first_ix {ns : List Str} {z : Str} (h : z ∈ ns) : ∃ i : Nat, ns[i]? = some z ∧ ∀ m, m < i → ns[m]? ≠ some z := by
  induction ns with
  | nil => cases h
  | cons a t ih =>
    by_cases e : a = z
    · exact ⟨0, by rw [e]; rfl, fun m hm => absurd hm (Nat.not_lt_zero _)⟩
    · rcases List.mem_cons.mp h with q | q
      · exact absurd q.symm e
      · obtain ⟨i, h1, h2⟩ := ih q
        refine ⟨i + 1, h1, fun m hm => ?_⟩
        cases m with
        | zero => intro z; exact e (Option.some.inj z)
        | succ m => exact h2 m (by omega)
theorem ok_cut (T : Txt P K mg A) : FnOk P w K mg base (L2.CX P w) 4 A.a_Round_cut A.d_Round_cut ["self", "name"] (spCut A.C_Round A.C_UnknownColumn) := by
  have GX_check_known := ok_known (P := P) (w := w) (base := base) T
  refine funX T.F_Round_cut sc_Round_cut (fun vs H Q E h => ?_) (fun cdv A' outer s H vs Q E hr h => ?_)
  · obtain ⟨p, z, ns, rfl, _⟩ := h
    rfl
  · obtain ⟨p, z, ns, rfl, ⟨dx, nt, hp, hn⟩, hz, hl, kq, ke⟩ := h
    refine ⟨_, (pss_cons (ps_expr (pe_callS GX_check_known (hr.mono (by decide)) rfl T.mg_check_known T.F_check_known.kp T.b_check_known (fun σ => passAt (takes_of rfl rfl rfl rfl) σ) (pa_cons (pe_fld (pv 0) rfl) (pa_cons (pe_lst (pa_cons (pv 1) pa_nil)) pa_nil))))
      (pss_cons (ps_set (i := 2) sc_Round_cut.nd rfl (Or.inl rfl) (pe_bmT PySem.F.plainAttrs_tuple PySem.F.slot_tuple_index PySem.F.type_tuple_index mt_tup_index (pe_fld (pv 0) rfl) (pa_cons (pv 1) pa_nil)))
      (pss_one (ps_ret (pe_lst (StX.pa_star (pe_slice sl_tupA (pe_fld (pv 0) rfl) (po_some (pe_op op_add (pv 2) pe_int)) po_none) (StX.pa_star (pe_slice sl_tupA (pe_fld (pv 0) rfl) po_none (po_some (pv 2))) pa_nil))))))), ?_⟩
    refine ⟨_, rfl, _, _, _, _, _, rfl, hp, T.cl_Round, T.n_Round_names, fldsR_names _, _, rfl, by show 1 ≤ sizeLine; decide, fun l hL => ?_⟩
    have s0 := same_new (o := .lst [V.str z]) hL
    refine ⟨nt, l, ns, [z], rfl, (hn.same s0).sq, SqL.of upd_same, fun y hy => by rw [List.mem_singleton.mp hy]; exact hz, fun hu H1 s1 => ?_, fun y e d H1 s1 hd => ?_⟩
    · have s1 := s0.trans s1
      have hm : z ∈ ns := unk_none.mp hu z List.mem_cons_self
      obtain ⟨i, hi, hno⟩ := first_ix hm
      have hil := (List.getElem?_eq_some_iff.mp hi).1
      have hp1 := s1 _ _ hp
      have hn1 := hn.same s1
      refine ⟨_, rfl, _, _, _, _, _, rfl, hp1, T.cl_Round, T.n_Round_names, fldsR_names _, ⟨nt, _, rfl, hn1⟩, _, rfl, nt, ns, z, i, rfl, rfl, hn1.sq, hi, hno, ?_⟩
      refine ⟨_, rfl, _, _, _, _, _, rfl, hp1, T.cl_Round, T.n_Round_names, fldsR_names _, _, rfl, _, _, rfl, rfl, _, rfl, nt, sv ns, rfl, hn1.sq, fun hw => ?_, fun hw a ha => ?_⟩
      · have := hw.1
        rw [show ((i : Int) + 1) = ((i + 1 : Nat) : Int) by omega, sIx_lo (by rw [len_sv]; omega)] at this
        omega
      · rw [show ((i : Int) + 1) = ((i + 1 : Nat) : Int) by omega, cut_drop (by rw [len_sv]; omega), sv_drop]
        have s2 := s1.trans (same_new (o := .tup (sv (ns.drop (i + 1)))) ha)
        have hp2 := s2 _ _ hp
        refine ⟨a, _, rfl, .inl (SqT.of upd_same), _, rfl, _, _, _, _, _, rfl, hp2, T.cl_Round, T.n_Round_names, fldsR_names _, _, rfl, _, rfl, nt, sv ns, rfl, (hn.same s2).sq, fun hw => ?_, fun hw b hb => ?_⟩
        · have := hw.2
          rw [sIx_hi (by rw [len_sv]; omega), len_sv] at this
          omega
        · rw [cut_take (by rw [len_sv]; omega), sv_take]
          refine ⟨b, _, rfl, .inl (SqT.of upd_same), ?_, fun c hc => ?_⟩
          · rw [List.append_nil, List.length_append, len_sv, len_sv, List.length_drop, List.length_take]
            exact Nat.le_trans (show (ns.length - (i + 1)) + min i ns.length ≤ 1000 by omega) (by decide)
          · refine kq i hi hno c _ (s2.trans ((same_new hb).trans (same_new hc))) (none_of (s2.trans (same_new hb)) hc) ?_
            rw [upd_same, List.append_nil]
            exact congrArg (fun z => some (HO.lst z)) List.map_append.symm
    · obtain ⟨m1, m2⟩ := unk_mem e
      rw [List.mem_singleton.mp m1] at hd m2
      exact ke m2 d H1 (s0.trans s1) hd
end
end My
set_option maxRecDepth 100000
set_option maxHeartbeats 4000000
set_option exponentiation.threshold 10000
namespace My
open PySem L2
/-- the first place -/
def ixS (ns : List Str) (z : Str) : Nat := ns.findIdx fun y => decide (y = z)
theorem ixS_of {ns : List Str} {z : Str} {i : Nat} (h : ns[i]? = some z) (hno : ∀ m, m < i → ns[m]? ≠ some z) : ixS ns z = i := by
  unfold ixS
  obtain ⟨hi, e⟩ := List.getElem?_eq_some_iff.mp h
  rw [List.findIdx_eq hi]
  refine ⟨decide_eq_true e, fun j hj => ?_⟩
  have := hno j hj
  rw [List.getElem?_eq_getElem (Nat.lt_trans hj hi)] at this
  exact decide_eq_false fun z => this (by rw [z])
def aheadS (ns : List Str) (p q : Str) : List Str := (aft ns (ixS ns p)).take (ixS (aft ns (ixS ns p)) q)
def splitB (ns : List Str) (p q r s : Str) : Bool := decide (r ∈ aheadS ns p q) != decide (s ∈ aheadS ns p q)
theorem aft_mem {ns : List Str} {i : Nat} {p q : Str} (hp : ns[i]? = some p) (hq : q ∈ ns) (hne : q ≠ p) : q ∈ aft ns i := by
  unfold aft
  obtain ⟨hi, e⟩ := List.getElem?_eq_some_iff.mp hp
  rw [← List.take_append_drop i ns, List.drop_eq_getElem_cons hi, e] at hq
  rcases List.mem_append.mp hq with h | h
  · exact List.mem_append.mpr (.inr h)
  · rcases List.mem_cons.mp h with h | h
    · exact absurd h hne
    · exact List.mem_append.mpr (.inl h)
theorem ne_bne (a b : Bool) : (!decide (V.bl a = V.bl b)) = (a != b) := by cases a <;> cases b <;> decide
theorem fldsR_cut (nt : Addr) : (fldsR nt).lookup ("cut" : Str) = none := by unfold fldsR; rw [lookup_putF, if_neg (by decide +kernel)]; rfl
section
variable {P : Program} {w : World} {K : PySem.W.Frag} {mg : Str → Option Value} {base : Heap} {A : Ad}
def spSplits (C U S : Addr) : Sp := fun vs H Q E => ∃ o p q r s ns, vs = [.ref o, .str p, .str q, .str r, .str s] ∧ Rd C H o ns ∧ ns.length ≤ 12 ∧ (∀ z ∈ [p, q, r, s], z.length ≤ 1000) ∧
  (unk ns [p, q, r, s] = none → stray ns [p, q, r, s] = none → ∀ H', Same H H' → Q (.bl (splitB ns p q r s)) H') ∧ (∀ z, unk ns [p, q, r, s] = some z → ∀ d H', Same H H' → H' d = some (.xd [("name", .str z)]) → E (.ref U) (some d) H') ∧
  ∀ i z, unk ns [p, q, r, s] = none → stray ns [p, q, r, s] = some i → [p, q, r, s][i]? = some z → ∀ d H', Same H H' → H' d = some (.xd [("name", .str z)]) → E (.ref S) (some d) H'
theorem ok_splits (T : Txt P K mg A) : FnOk P w K mg base (L2.CX P w) 5 A.a_Round_splits A.d_Round_splits ["self", "p", "q", "r", "s"] (spSplits A.C_Round A.C_UnknownColumn A.C_SameColumn) := by
  have GX_check_different := ok_different (P := P) (w := w) (base := base) T
  have GX_Round_cut := ok_cut (P := P) (w := w) (base := base) T
  refine funX T.F_Round_splits sc_Round_splits (fun vs H Q E h => ?_) (fun cdv A' outer s H vs Q E hr h => ?_)
  · obtain ⟨o, p, q, r, s, ns, rfl, _⟩ := h
    rfl
  · obtain ⟨o, p, q, r, s, ns, rfl, hR, hl, hz, kq, ku, ks⟩ := h
    obtain ⟨dx, nt, hp, hn⟩ := id hR
    refine ⟨_, (pss_cons (ps_expr (pe_callS GX_check_different (hr.mono (by decide)) rfl T.mg_check_different T.F_check_different.kp T.b_check_different (fun σ => passAt (takes_of rfl rfl rfl rfl) σ) (pa_cons (pe_fld (pv 0) rfl) (pa_cons (pe_lst (pa_cons (pv 1) (pa_cons (pv 2) (pa_cons (pv 3) (pa_cons (pv 4) pa_nil))))) pa_nil))))
      (pss_cons (ps_set (i := 5) sc_Round_splits.nd rfl (Or.inl rfl) (pe_meth (pv 0) T.cl_Round T.m_Round_cut GX_Round_cut (hr.mono (by decide)) T.b_Round_cut .nil (passes_call (takes_of rfl rfl rfl rfl) (fun _ _ _ _ h => h)) (pa_cons (pv 1) pa_nil)))
      (pss_cons (ps_set (i := 6) sc_Round_splits.nd rfl (Or.inl rfl) (pe_slice sl_list (pv 5) po_none (po_some (pe_bm PySem.F.plainAttrs_list PySem.F.slot_list_index PySem.F.type_list_index mt_index (pv 5) (pa_cons (pv 2) pa_nil)))))
      (pss_one (ps_ret (pe_cmpR op_ne (pe_cmpR op_in_seq (pv 3) (pv 6) (by with_unfolding_all rfl)) (pe_cmpR op_in_seq (pv 4) (pv 6) (by with_unfolding_all rfl)) (nomark _))))))), ?_⟩
    refine ⟨_, rfl, _, _, _, _, _, rfl, hp, T.cl_Round, T.n_Round_names, fldsR_names _, _, rfl, _, rfl, _, rfl, _, rfl, by show 4 ≤ sizeLine; decide, fun l hL => ?_⟩
    have s0 := same_new (o := .lst [V.str p, V.str q, V.str r, V.str s]) hL
    refine ⟨nt, l, ns, [p, q, r, s], rfl, (hn.same s0).sq, SqL.of upd_same, hz, by show 4 ≤ 1000; decide, fun hu hs H1 s1 => ?_, fun z e d H1 s1 hd => ku z e d H1 (s0.trans s1) hd, fun i z e1 e2 e3 d H1 s1 hd => ks i z e1 e2 e3 d H1 (s0.trans s1) hd⟩
    have s1 := s0.trans s1
    obtain ⟨hin, hnd⟩ := stray_none_iff.mp hs
    obtain ⟨dx1, nt1, hp1, hn1⟩ := id (hR.same s1)
    obtain ⟨i, hi, hno⟩ := first_ix (hin p (by simp))
    refine ⟨_, rfl, o, _, _, rfl, hp1, fldsR_cut _, _, rfl, o, p, ns, rfl, hR.same s1, hz p (by simp), hl, fun i hi hno b H2 s2 _ hb => ?_, fun hnot => absurd (hin p (by simp)) hnot⟩
    have qne : q ≠ p := fun e => by
      rw [e] at hnd
      simp at hnd
    have hqa : q ∈ aft ns i := aft_mem hi (hin q (by simp)) qne
    obtain ⟨j, hj, hjn⟩ := first_ix hqa
    have ea : aheadS ns p q = (aft ns i).take j := by unfold aheadS; rw [ixS_of hi hno, ixS_of hj hjn]
    have hjl := (List.getElem?_eq_some_iff.mp hj).1
    refine ⟨_, rfl, _, rfl, .inl ⟨rfl, _, SqL.of hb⟩, _, rfl, b, sv (aft ns i), .str q, j, .str q, rfl, rfl, SqL.of hb, rfl, flat_sv _, by rw [List.getElem?_map, hj]; rfl, by rw [eqV_str]; exact decide_eq_true rfl, fun m z' hm hz' => ?_, ?_⟩
    · obtain ⟨y, hy, rfl⟩ := sv_get hz'
      rw [eqV_str]
      exact decide_eq_false fun e => hjn m hm (by rw [hy, e])
    refine ⟨_, rfl, b, _, rfl, SqL.of hb, fun a ha => ?_⟩
    rw [cut_take (by rw [len_sv]; omega), sv_take]
    have s3 := s2.trans (same_new (o := .lst (sv ((aft ns i).take j))) ha)
    refine ⟨_, rfl, _, rfl, a, _, rfl, .inl (SqL.of upd_same), rfl, flat_sv _, ?_⟩
    rw [if_neg Bool.false_ne_true, inV_str]
    refine ⟨_, rfl, _, rfl, a, _, rfl, .inl (SqL.of upd_same), rfl, flat_sv _, ?_⟩
    rw [if_neg Bool.false_ne_true, inV_str]
    refine ⟨rfl, ?_⟩
    rw [ne_bne]
    have e := kq hu hs _ (s1.trans s3)
    unfold splitB at e
    rw [ea] at e
    exact e
def spGet (C B : Addr) : Sp := fun vs H Q E => ∃ p i ns, vs = [.ref p, .int i] ∧ Rd C H p ns ∧ i.natAbs < 10 ^ 15 ∧ ns.length ≤ 12 ∧ (∀ z, ns ≠ [] → ns[(i % (ns.length : Int)).toNat]? = some z → Q (.str z) H) ∧
  (ns = [] → ∀ d H', Same H H' → H' d = some (.xd [("number", .int i)]) → E (.ref B) (some d) H')
theorem ok_get (T : Txt P K mg A) : FnOk P w K mg base (L2.CX P w) 3 A.a_Round_getitem A.d_Round_getitem ["self", "at"] (spGet A.C_Round A.C_BadNumber) := by
  have G_BadNumber_init := ok_BadNumber (P := P) (w := w) (base := base) T
  refine funX T.F_Round_getitem sc_Round_getitem (fun vs H Q E h => ?_) (fun cdv A' outer s H vs Q E hr h => ?_)
  · obtain ⟨p, i, ns, rfl, _⟩ := h
    rfl
  · obtain ⟨p, i, ns, rfl, ⟨dx, nt, hp, hn⟩, hi, hl, kq, ke⟩ := h
    refine ⟨_, (pss_cons (ps_if (pt_cmpR op_eq (pe_callB call_len_seq (by rfl) T.n_len (by decide +kernel) (pa_cons (pe_fld (pv 0) rfl) pa_nil)) pe_int (nomark _)) (pss_one (ps_raise rfl (takes_of rfl rfl rfl rfl) (pmk_oex T.SC_BadNumber.ox T.ii_BadNumber T.ti_BadNumber G_BadNumber_init (hr.mono (by decide)) T.b_BadNumber_init .nil pass0 rfl T.mg_BadNumber (pa_cons (pv 1) pa_nil)))) pss_nil)
      (pss_one (ps_ret (pe_ix ix_tup (pe_fld (pv 0) rfl) (pe_op op_mod (pv 1) (pe_callB call_len_seq (by rfl) T.n_len (by decide +kernel) (pa_cons (pe_fld (pv 0) rfl) pa_nil))) (fun _ _ => rfl))))), ?_⟩
    refine ⟨_, rfl, _, _, _, _, _, rfl, hp, T.cl_Round, T.n_Round_names, fldsR_names _, nt, _, rfl, .inr hn.sq, rfl, _, rfl, ?_⟩
    by_cases h0 : ns = []
    · refine ifT (iEq (by rw [h0]; rfl)) ⟨_, rfl, (by decide : 1 ≤ 1000), fun a ha => ⟨a, _, rfl, ⟨_, rfl, hi⟩, upd_same, fun d hd hne => ⟨rfl, d, _, upd_same, by rw [upd_ne hne, upd_same], by rw [upd_ne hne] at hd; exact hd, ?_⟩⟩⟩
      rw [upd_ne hne] at hd
      exact ke h0 d _ (exc_same ha hd) upd_same
    · have hpos : 0 < ns.length := List.length_pos_iff.mpr h0
      have e0 := Int.emod_nonneg i (show ((ns.length : Nat) : Int) ≠ 0 by omega)
      have e1 := Int.emod_lt_of_pos i (show (0 : Int) < ((ns.length : Nat) : Int) by omega)
      obtain ⟨n, hn'⟩ := Int.eq_ofNat_of_zero_le e0
      rw [hn', Int.toNat_natCast] at kq
      have hlt : n < ns.length := by omega
      have hz : ns[n]? = some ns[n] := List.getElem?_eq_getElem hlt
      refine ifF (iNe (by rw [len_sv]; omega)) ⟨_, rfl, _, _, _, _, _, rfl, hp, T.cl_Round, T.n_Round_names, fldsR_names _, _, rfl, _, rfl, _, _, _, _, _, rfl, hp, T.cl_Round, T.n_Round_names, fldsR_names _, nt, _, rfl, .inr hn.sq, _, _, rfl, rfl, by rw [len_sv]; omega, ?_⟩
      dsimp only
      rw [len_sv, hn']
      exact ⟨nt, _, _, _, rfl, rfl, hn.sq, atI_nat (v := .str ns[n]) (by rw [List.getElem?_map, hz]; rfl), kq _ h0 hz⟩
def spShift (C : Addr) (f : List Str → Int → List Str) : Sp := fun vs H Q _ => ∃ p k ns, vs = [.ref p, .int k] ∧ Rd C H p ns ∧ RingOk ns ∧ ∀ q H', Same H H' → Rd C H' q (f ns k) → Q (.ref q) H'
theorem good_len {ns : List Str} (h : RingOk ns) : ∀ z ∈ ns, z.length ≤ 16000000 := fun z hz => Nat.le_trans (h.g z hz).le (by decide)
/-- Round(..) of a good list -/
theorem mk_ring {C B : Addr} {K : PySem.W.Frag} {H : Hp} {l : Addr} {ns : List Str} {Q : VK} (hL : SqL K H l (sv ns) ∨ DT H l (sv ns)) (h : RingOk ns) (k : ∀ q H', Same H H' → H q = none → Rd C H' q ns → Q (.ref q) H') :
    ∀ x dx, H x = none → H dx = none → dx ≠ x → spInit C B K (.ref x :: ([.ref l] ++ [])) (upd (upd H dx (.own x)) x (.ins C dx [])) (fun v H2 => v = .non ∧ Q (.ref x) H2) E0 := fun x dx hx hdx hne => by
  have s1 := same_new (o := .own x) hdx
  have hx1 : upd H dx (.own x) x = none := by rw [upd_ne hne.symm]; exact hx
  have s2 : Same H (upd (upd H dx (.own x)) x (.ins C dx [])) := s1.trans (same_new hx1)
  refine ⟨x, l, dx, ns, rfl, upd_same, hL.imp (fun q => s2.seq q) (fun q => q.same s2), good_len h, by have := h.n; omega, fun _ H' hk hR => ⟨rfl, k x H' (fun b o e => hk b o (ne_of_none e hx) (s2 _ _ e)) hx hR⟩, fun i e => ?_⟩
  rw [ringFault_none.mpr h] at e; cases e
theorem mk_ring2 {C B : Addr} {K : PySem.W.Frag} {H : Hp} {l x dx : Addr} {ns : List Str} {Q2 : VK} (hL : SqL K H l (sv ns) ∨ DT H l (sv ns)) (h : RingOk ns) (hx : H x = none) (hdx : H dx = none) (hne : dx ≠ x) (k : ∀ H', Same H H' → Rd C H' x ns → Q2 .non H') :
    spInit C B K (.ref x :: ([.ref l] ++ [])) (upd (upd H dx (.own x)) x (.ins C dx [])) Q2 E0 := by
  have s1 := same_new (o := .own x) hdx
  have hx1 : upd H dx (.own x) x = none := by rw [upd_ne hne.symm]; exact hx
  have s2 : Same H (upd (upd H dx (.own x)) x (.ins C dx [])) := s1.trans (same_new hx1)
  refine ⟨x, l, dx, ns, rfl, upd_same, hL.imp (fun q => s2.seq q) (fun q => q.same s2), good_len h, by have := h.n; omega, fun _ H' hk hR => k H' (fun b o e => hk b o (ne_of_none e hx) (s2 _ _ e)) hR, fun i e => ?_⟩
  rw [ringFault_none.mpr h] at e; cases e
theorem ok_lshift (T : Txt P K mg A) : FnOk P w K mg base CX0 6 A.a_Round_lshift A.d_Round_lshift ["self", "other"] (spShift A.C_Round rotI) := by
  have G_moved := ok_moved (P := P) (w := w) (base := base) T
  have G_Round_init := ok_init (P := P) (w := w) (base := base) T
  refine T.F_Round_lshift.ok sc_Round_lshift (fun vs H Q E h => ?_) (fun cdv A' outer s H vs Q E hr h => ?_)
  · obtain ⟨p, k, ns, rfl, _⟩ := h
    rfl
  · obtain ⟨p, i, ns, rfl, ⟨dx, nt, hp, hn⟩, hok, k⟩ := h
    refine ⟨_, (pss_one (ps_ret (pe_make T.mk_Round G_Round_init (hr.mono (by decide)) rfl T.mg_Round T.b_Round_init .nil pass0 (pa_cons (pe_call G_moved (hr.mono (by decide)) rfl T.mg_moved T.F_moved.kp T.b_moved .nil pass0 (pa_cons (pe_fld (pv 0) rfl) (pa_cons (pv 1) pa_nil))) pa_nil)))), ?_⟩
    refine ⟨_, rfl, _, _, _, _, _, rfl, hp, T.cl_Round, T.n_Round_names, fldsR_names _, _, rfl, nt, i, ns, rfl, hn, by have := hok.n; omega, fun t' H1 s1 ht => ?_⟩
    exact mk_ring (.inr ht) (hok.perm (rotI_perm ns i)) fun q H2 s2 _ hq => k q H2 (s1.trans s2) hq
theorem ok_rshift (T : Txt P K mg A) : FnOk P w K mg base CX0 6 A.a_Round_rshift A.d_Round_rshift ["self", "other"] (spShift A.C_Round fun ns k => rotI ns (-k)) := by
  have G_moved := ok_moved (P := P) (w := w) (base := base) T
  have G_Round_init := ok_init (P := P) (w := w) (base := base) T
  refine T.F_Round_rshift.ok sc_Round_rshift (fun vs H Q E h => ?_) (fun cdv A' outer s H vs Q E hr h => ?_)
  · obtain ⟨p, k, ns, rfl, _⟩ := h
    rfl
  · obtain ⟨p, i, ns, rfl, ⟨dx, nt, hp, hn⟩, hok, k⟩ := h
    refine ⟨_, (pss_one (ps_ret (pe_make T.mk_Round G_Round_init (hr.mono (by decide)) rfl T.mg_Round T.b_Round_init .nil pass0 (pa_cons (pe_call G_moved (hr.mono (by decide)) rfl T.mg_moved T.F_moved.kp T.b_moved .nil pass0 (pa_cons (pe_fld (pv 0) rfl) (pa_cons (pe_un un_neg (pv 1)) pa_nil))) pa_nil)))), ?_⟩
    refine ⟨_, rfl, _, _, _, _, _, rfl, hp, T.cl_Round, T.n_Round_names, fldsR_names _, _, rfl, _, rfl, nt, -i, ns, rfl, hn, by have := hok.n; omega, fun t' H1 s1 ht => ?_⟩
    exact mk_ring (.inr ht) (hok.perm (rotI_perm ns (-i))) fun q H2 s2 _ hq => k q H2 (s1.trans s2) hq
def spInv (C : Addr) : Sp := fun vs H Q _ => ∃ p ns, vs = [.ref p] ∧ Rd C H p ns ∧ RingOk ns ∧ ∀ q H', Same H H' → Rd C H' q (backN ns) → Q (.ref q) H'
theorem ok_invert (T : Txt P K mg A) : FnOk P w K mg base CX0 6 A.a_Round_invert A.d_Round_invert ["self"] (spInv A.C_Round) := by
  have G_Round_init := ok_init (P := P) (w := w) (base := base) T
  refine T.F_Round_invert.ok sc_Round_invert (fun vs H Q E h => ?_) (fun cdv A' outer s H vs Q E hr h => ?_)
  · obtain ⟨p, ns, rfl, _⟩ := h
    rfl
  · obtain ⟨p, ns, rfl, ⟨dx, nt, hp, hn⟩, hok, k⟩ := h
    refine ⟨_, (pss_one (ps_ret (pe_make T.mk_Round G_Round_init (hr.mono (by decide)) rfl T.mg_Round T.b_Round_init .nil pass0 (pa_cons (pe_lst (StX.pa_star (pe_slice sl_tupA (pe_fld (pv 0) rfl) po_none (po_some pe_int)) (StX.pa_star (pe_backT (pe_fld (pv 0) rfl)) pa_nil))) pa_nil)))), ?_⟩
    have hl := hok.n
    have fin : ∀ (H1 : Hp) (xs ys : List V) (l : Addr), Same H H1 → H1 l = none → xs = sv (ns.take 1) → ys = sv (ns.drop 1).reverse → ∀ x dx, upd H1 l (.lst (xs ++ (ys ++ []))) x = none → upd H1 l (.lst (xs ++ (ys ++ []))) dx = none → dx ≠ x →
        spInit A.C_Round A.C_BadRound K (.ref x :: ([.ref l] ++ [])) (upd (upd (upd H1 l (.lst (xs ++ (ys ++ [])))) dx (.own x)) x (.ins A.C_Round dx [])) (fun v H2 => v = .non ∧ Q (.ref x) H2) E0 := fun H1 xs ys l s1 hl0 ex ey => by
      refine mk_ring (ns := backN ns) (.inl (SqL.of ?_)) (hok.perm (backN_perm ns)) fun q H2 s2 _ hq => k q H2 (s1.trans ((same_new hl0).trans s2)) hq
      rw [upd_same, ex, ey, List.append_nil]
      exact congrArg (fun z => some (HO.lst z)) List.map_append.symm
    have len : ∀ xs ys : List V, xs = sv (ns.take 1) → ys = sv (ns.drop 1).reverse → (xs ++ (ys ++ [])).length ≤ sizeLine := fun xs ys ex ey => by
      rw [ex, ey, List.append_nil, List.length_append, len_sv, len_sv, List.length_reverse, List.length_drop, List.length_take]
      exact Nat.le_trans (show min 1 ns.length + (ns.length - 1) ≤ 1000 by omega) (by decide)
    have er : ((sv ns).drop 1).reverse = sv (ns.drop 1).reverse := by rw [sv_drop]; exact List.map_reverse.symm
    refine ⟨_, rfl, _, _, _, _, _, rfl, hp, T.cl_Round, T.n_Round_names, fldsR_names _, _, rfl, nt, sv ns, rfl, hn.sq, fun hw => ?_, fun hw p1 hp1 => ?_⟩
    · have hl1 : ns.length ≤ 1 := by
        have := hw.2
        rw [show (1 : Int) = ((1 : Nat) : Int) from rfl, HT.sIx_nat, len_sv] at this
        omega
      have e1 : sv ns = sv (ns.take 1) := by rw [List.take_of_length_le hl1]
      exact ⟨nt, _, rfl, .inl hn.sq, _, rfl, _, _, _, _, _, rfl, hp, T.cl_Round, T.n_Round_names, fldsR_names _, nt, _, rfl, hn.sq, fun p2 hp2 => ⟨p2, _, rfl, .inl (SqT.of upd_same), len _ _ e1 er, fun l hl0 => fin _ _ _ l (same_new hp2) hl0 e1 er⟩⟩
    · have e1 : cutV (sv ns) none (some 1) = sv (ns.take 1) := by
        by_cases h1 : 1 ≤ ns.length
        · rw [show (1 : Int) = ((1 : Nat) : Int) from rfl, cut_take (by rw [len_sv]; exact h1), sv_take]
        · exfalso
          refine hw ⟨rfl, ?_⟩
          rw [show (1 : Int) = ((1 : Nat) : Int) from rfl, HT.sIx_nat, len_sv]
          omega
      have hp' := same_new (o := .tup (cutV (sv ns) none (some 1))) hp1 _ _ hp
      exact ⟨p1, _, rfl, .inl (SqT.of upd_same), _, rfl, _, _, _, _, _, rfl, hp', T.cl_Round, T.n_Round_names, fldsR_names _, nt, _, rfl, (hn.same (same_new hp1)).sq, fun p2 hp2 => ⟨p2, _, rfl, .inl (SqT.of upd_same), len _ _ e1 er, fun l hl0 => fin _ _ _ l ((same_new hp1).trans (same_new hp2)) hl0 e1 er⟩⟩
def spHas (C : Addr) : Sp := fun vs H Q _ => ∃ p z ns, vs = [.ref p, .str z] ∧ Rd C H p ns ∧ Q (.bl (decide (z ∈ ns))) H
theorem ok_has (T : Txt P K mg A) : FnOk P w K mg base CX0 1 A.a_Round_contains A.d_Round_contains ["self", "name"] (spHas A.C_Round) := by
  refine T.F_Round_contains.ok sc_Round_contains (fun vs H Q E h => ?_) (fun cdv A' outer s H vs Q E hr h => ?_)
  · obtain ⟨p, z, ns, rfl, _⟩ := h
    rfl
  · obtain ⟨p, z, ns, rfl, ⟨dx, nt, hp, hn⟩, k⟩ := h
    refine ⟨_, (pss_one (ps_ret (pe_cmpR op_in_seq (pv 1) (pe_fld (pv 0) rfl) (by with_unfolding_all rfl)))), ?_⟩
    refine ⟨_, rfl, _, rfl, _, _, _, _, _, rfl, hp, T.cl_Round, T.n_Round_names, fldsR_names _, nt, _, rfl, .inr hn.sq, rfl, flat_sv _, ?_⟩
    rw [if_neg Bool.false_ne_true, inV_str]
    exact k
def spLen (C : Addr) : Sp := fun vs H Q _ => ∃ p ns, vs = [.ref p] ∧ Rd C H p ns ∧ Q (.int (ns.length : Nat)) H
theorem ok_len (T : Txt P K mg A) : FnOk P w K mg base CX0 1 A.a_Round_len A.d_Round_len ["self"] (spLen A.C_Round) := by
  refine T.F_Round_len.ok sc_Round_len (fun vs H Q E h => ?_) (fun cdv A' outer s H vs Q E hr h => ?_)
  · obtain ⟨p, ns, rfl, _⟩ := h
    rfl
  · obtain ⟨p, ns, rfl, ⟨dx, nt, hp, hn⟩, k⟩ := h
    refine ⟨_, (pss_one (ps_ret (pe_callB call_len_seq (by rfl) T.n_len (by decide +kernel) (pa_cons (pe_fld (pv 0) rfl) pa_nil)))), ?_⟩
    refine ⟨_, rfl, _, _, _, _, _, rfl, hp, T.cl_Round, T.n_Round_names, fldsR_names _, nt, _, rfl, .inr hn.sq, ?_⟩
    rw [len_sv]
    exact k
def spIter (C : Addr) : Sp := fun vs H Q _ => ∃ p dx nt, vs = [.ref p] ∧ H p = some (.ins C dx (fldsR nt)) ∧ (∃ xs, DT H nt xs) ∧ ∀ it, H it = none → Q (.ref it) (upd H it (TitO nt it 0))
theorem ok_iter (T : Txt P K mg A) : FnOk P w K mg base CX0 1 A.a_Round_iter A.d_Round_iter ["self"] (spIter A.C_Round) := by
  refine T.F_Round_iter.ok sc_Round_iter (fun vs H Q E h => ?_) (fun cdv A' outer s H vs Q E hr h => ?_)
  · obtain ⟨p, dx, nt, rfl, _⟩ := h
    rfl
  · obtain ⟨p, dx, nt, rfl, h1, ⟨xs, h3⟩, k⟩ := h
    refine ⟨_, (pss_one (ps_ret (pe_callB call_iterT (by rfl) T.n_iter (by decide +kernel) (pa_cons (pe_fld (pv 0) rfl) pa_nil)))), ?_⟩
    exact ⟨_, rfl, _, _, _, _, _, rfl, h1, T.cl_Round, T.n_Round_names, fldsR_names _, nt, _, rfl, h3.sq, k⟩
def LR (H : Hp) (_ : Addr) (fs : List (Str × V)) (l : Addr) : Prop := fs = fldsR l ∧ ∃ xs, DT H l xs
theorem at_iter (T : Txt P K mg A) : FnAt P w K mg base CX0 1 A.a_Round_iter A.d_Round_iter ["self"] (spItS A.C_Round LR) := by
  refine fun_okAt T.F_Round_iter sc_Round_iter (fun s vs H Q E h => ?_) (fun cdv A' outer s H vs Q E hr h => ?_)
  · obtain ⟨p, dx, nt, l, rfl, _⟩ := h
    rfl
  · obtain ⟨p, dx, fs, l, rfl, h1, ⟨rfl, xs, h3⟩, k⟩ := h
    refine ⟨_, (pss_one (ps_ret (pe_callB call_iterTS (by rfl) T.n_iter (by decide +kernel) (pa_cons (pe_fld (pv 0) rfl) pa_nil)))), ?_⟩
    exact ⟨_, rfl, _, _, _, _, _, rfl, h1, T.cl_Round, T.n_Round_names, fldsR_names _, l, _, rfl, h3.sq, k⟩
def spEq (C : Addr) : Sp := fun vs H Q _ => ∃ p q ns ms, vs = [.ref p, .ref q] ∧ Rd C H p ns ∧ Rd C H q ms ∧ RingOk ns ∧ RingOk ms ∧ ∀ H', Same H H' → Q (.bl (decide (ns ∈ allRot ms))) H'
theorem ok_eq (T : Txt P K mg A) : FnOk P w K mg base CX0 3 A.a_Round_eq A.d_Round_eq ["self", "other"] (spEq A.C_Round) := by
  have G_all_moved := ok_all (P := P) (w := w) (base := base) T
  refine T.F_Round_eq.ok sc_Round_eq (fun vs H Q E h => ?_) (fun cdv A' outer s H vs Q E hr h => ?_)
  · obtain ⟨p, q, ns, ms, rfl, _⟩ := h
    rfl
  · obtain ⟨p, q, ns, ms, rfl, ⟨dx, nt, hp, hn⟩, ⟨dy, mt, hq, hm⟩, o1, o2, k⟩ := h
    refine ⟨_, (pss_one (ps_ret (pe_and (pe_callB call_isi (by rfl) T.n_isinstance (by decide +kernel) (pa_cons (pv 1) (pa_cons (pe_glob (v := .ref A.C_Round) rfl T.mg_Round rfl) pa_nil))) (pe_one (pe_cmpR (op_inD (hu65 hr)) (pe_fld (pv 0) rfl) (pe_call G_all_moved (hr.mono (by decide)) rfl T.mg_all_moved T.F_all_moved.kp T.b_all_moved .nil pass0 (pa_cons (pe_fld (pv 1) rfl) pa_nil)) (by with_unfolding_all rfl)))))), ?_⟩
    refine ⟨_, rfl, _, _, _, _, true, rfl, .own _, T.ty hq, T.ko_self, true, rfl, iteT ?_⟩
    refine ⟨_, rfl, _, _, _, _, _, rfl, hp, T.cl_Round, T.n_Round_names, fldsR_names _, _, rfl, _, _, _, _, _, rfl, hq, T.cl_Round, T.n_Round_names, fldsR_names _, mt, ms, rfl, hm, o2.n, fun l ts H1 s1 hl hts => ?_⟩
    have gm : ∀ r ∈ allRot ms, ∀ z ∈ r, Okz z := fun r hr z hz => by
      obtain ⟨i, _, rfl⟩ := List.mem_map.mp hr
      exact okz_good (o2.g z ((rotI_perm ms i).mem_iff.mp hz))
    refine ⟨.tuple (pd ns), pdd (allRot ms), .tup (hn.same s1).sq (dp_pd ns), .lst (SqL.of hl) (dp_lsd hts), shaped_pdT fun z hz => okz_good (o1.g z hz), shaped_pdd gm, ?_⟩
    rw [any_pdd]
    exact k H1 s1
end
end My
set_option maxRecDepth 100000
set_option maxHeartbeats 4000000
set_option exponentiation.threshold 10000
namespace My
open PySem L2
def spCell (K : PySem.W.Frag) : Sp := fun vs H Q _ => ∃ (a : Addr) (ns : List Int) (k : Int), vs = [.ref a, .int k] ∧ SqL K H a (ns.map V.int) ∧ 0 ≤ k ∧ ∀ z, Q (.int z) H
def spPool (K : PySem.W.Frag) : Sp := fun vs H Q _ => ∃ (a : Addr) (ns : List Int) (k c : Int), vs = [.ref a, .int k, .int c] ∧ SqL K H a (ns.map V.int) ∧ 0 ≤ k ∧ 0 ≤ c ∧ c ≤ 1000 ∧
  ∀ p ps H', Same H H' → H' p = some (.lst (ps.map V.int)) → (ps.length : Int) = c → Pool ps → Q (.ref p) H'
section
variable {P : Program} {w : World} {K : PySem.W.Frag} {mg : Str → Option Value} {base : Heap} {A : Ad}
theorem ok_cell (T : Txt P K mg A) : FnOk P w K mg base CX0 1 A.a_law_cell A.d_law_cell ["script", "k"] (spCell K) := by
  refine T.F_law_cell.ok sc_law_cell (fun vs H Q E h => ?_) (fun cdv A' outer s H vs Q E hr h => ?_)
  · obtain ⟨a, ns, k, rfl, _⟩ := h
    rfl
  · obtain ⟨a, ns, i, rfl, hS, h0, k⟩ := h
    refine ⟨_, (pss_cons (ps_if (pt_cmpR op_lt (pv 1) (pe_callB call_len_seq (by rfl) T.n_len (by decide +kernel) (pa_cons (pv 0) pa_nil)) (nomark _)) (pss_one (ps_ret (pe_ix ix_list (pv 0) (pv 1) (fun _ _ => rfl)))) pss_nil)
      (pss_one (ps_ret pe_int))), ?_⟩
    refine ⟨_, rfl, _, rfl, _, _, rfl, .inl hS, _, _, rfl, rfl, _, rfl, ?_⟩
    by_cases hi : i < ((ns.map V.int).length : Int)
    · refine itY hi ?_
      obtain ⟨v, hv, e⟩ := atI_ok (xs := ns) h0 (by rw [len_map_int] at hi; exact hi)
      exact ⟨_, rfl, _, rfl, _, _, _, _, rfl, rfl, hS, e, k v⟩
    · refine itN hi ?_
      exact k 0
theorem ok_pool (T : Txt P K mg A) : FnOk P w K mg base CX0 2 A.a_law_pool A.d_law_pool ["script", "k", "count"] (spPool K) := by
  have G_law_cell : FnOk P w K mg base CX0 1 A.a_law_cell A.d_law_cell ["script", "k"] (spCell K) := ok_cell T
  refine T.F_law_pool.ok sc_law_pool (fun vs H Q E h => ?_) (fun cdv A' outer s H vs Q E hr h => ?_)
  · obtain ⟨a, ns, k, c, rfl, _⟩ := h
    rfl
  · obtain ⟨a, ns, i, c, rfl, hS, h0, hc0, hc, k⟩ := h
    refine ⟨_, (pss_cons (ps_set (i := 3) sc_law_pool.nd rfl (Or.inl rfl) (pe_callB call_abs (by rfl) T.n_abs (by decide +kernel) (pa_cons (pe_call G_law_cell (hr.mono (by decide)) rfl T.mg_law_cell T.F_law_cell.kp T.b_law_cell .nil pass0 (pa_cons (pv 0) (pa_cons (pv 1) pa_nil))) pa_nil)))
      (pss_cons (ps_set (i := 4) sc_law_pool.nd rfl (Or.inl rfl) (pe_lst pa_nil))
      (pss_cons (ps_if (pt_cmpR op_ge (pv 3) (pe_op op_pow pe_int pe_int) (nomark _)) (pss_cons (ps_set (i := 3) sc_law_pool.nd rfl (Or.inl rfl) (pe_op op_sub (pv 3) (pe_op op_pow pe_int pe_int)))
      (pss_cons (ps_for PassesOwn.never rfl (pi_range1 (by rfl) T.n_range (pa_cons (pv 2) pa_nil)) (pg_name (i := 5) sc_law_pool.nd rfl (Or.inl rfl))
        (pss_cons (ps_expr (pe_bm PySem.F.plainAttrs_list PySem.F.slot_list_append PySem.F.type_list_append mt_append (pv 4) (pa_cons (pe_op op_mod (pe_callTy call_int1 (by rfl) T.n_int (by decide +kernel) (pa_cons (pv 3) pa_nil)) pe_int) pa_nil)))
      (pss_one (ps_set (i := 3) sc_law_pool.nd rfl (Or.inl rfl) (pe_op op_fdiv (pv 3) pe_int)))))
      (pss_one (ps_ret (pv 4))))) pss_nil)
      (pss_cons (ps_for PassesOwn.never rfl (pi_range1 (by rfl) T.n_range (pa_cons (pv 2) pa_nil)) (pg_name (i := 5) sc_law_pool.nd rfl (Or.inl rfl))
        (pss_cons (ps_set (i := 6) sc_law_pool.nd rfl (Or.inl rfl) (pe_op op_mod (pe_callTy call_int1 (by rfl) T.n_int (by decide +kernel) (pa_cons (pe_op op_add (pe_op op_add (pe_op op_add (pe_op op_mul (pv 3) pe_int) (pe_op op_mul (pe_op op_add (pv 5) pe_int) pe_int)) (pe_op op_mul (pv 1) pe_int)) pe_int) pa_nil)) pe_int))
      (pss_cons (ps_set (i := 7) sc_law_pool.nd rfl (Or.inl rfl) (pe_op op_mod (pe_callTy call_int1 (by rfl) T.n_int (by decide +kernel) (pa_cons (pe_op op_add (pe_op op_add (pe_op op_mulW (pv 6) (pv 6)) (pe_op op_mul (pv 3) pe_int)) (pv 5)) pa_nil)) pe_int))
      (pss_cons (ps_set (i := 8) sc_law_pool.nd rfl (Or.inl rfl) (pe_op op_mod (pe_callTy call_int1 (by rfl) T.n_int (by decide +kernel) (pa_cons (pe_op op_add (pe_op op_mulW (pv 7) (pv 7)) (pv 6)) pa_nil)) pe_int))
      (pss_one (ps_expr (pe_bm PySem.F.plainAttrs_list PySem.F.slot_list_append PySem.F.type_list_append mt_append (pv 4) (pa_cons (pe_op op_mod (pe_callTy call_int1 (by rfl) T.n_int (by decide +kernel) (pa_cons (pe_op op_fdiv (pv 8) pe_int) pa_nil)) pe_int) pa_nil))))))))
      (pss_one (ps_ret (pv 4))))))), ?_⟩
    refine ⟨_, rfl, _, rfl, a, ns, i, rfl, hS, h0, fun z => ⟨_, rfl, ?_⟩⟩
    refine ⟨by show 0 ≤ sizeLine; decide, fun l hl => ?_⟩
    refine ⟨_, rfl, _, _, rfl, rfl, ⟨by decide, by decide, by decide⟩, _, _, rfl, rfl, _, rfl, ?_⟩
    have fin : ∀ ps : List Int, ps.length = c.toNat → Pool ps → Q (.ref l) (upd H l (.lst (ps.map V.int))) := fun ps h1 h2 => k l ps _ (same_new hl) upd_same (by omega) h2
    refine ite2 (fun hb => ?_) (fun hb => ?_)
    · refine ⟨_, rfl, _, _, rfl, rfl, ⟨by decide, by decide, by decide⟩, _, _, rfl, rfl, ?_⟩
      refine ⟨_, rfl, c, rfl, by omega, by omega, for_range (n := c.toNat) (fun j σ H2 => ∃ (v : Int) (ps : List Int) (u : Option V), σ = [some (.ref a), some (.int i), some (.int c), some (.int v), some (.ref l), u, none, none, none] ∧
        H2 = upd H l (.lst (ps.map V.int)) ∧ ps.length = j ∧ Pool ps) ⟨_, [], none, rfl, rfl, rfl, Pool.nil⟩ ?_ ?_⟩
      · rintro j σ H2 hj ⟨v, ps, u, rfl, rfl, hl2, hp⟩
        refine ⟨_, rfl, .inl ⟨rfl, _, SqL.of upd_same⟩, _, rfl, .inl ⟨_, rfl, ?_⟩⟩
        refine ⟨_, _, rfl, rfl, by show (0 : Int) < 27720; decide, l, _, _, rfl, rfl, upd_same, small_int (by rw [len_map_int]; omega), ?_⟩
        refine ⟨_, rfl, _, _, rfl, rfl, ⟨by decide, by decide⟩, ?_⟩
        refine ⟨_, ps ++ [v % 27720], _, rfl, ?_, by simp [hl2], hp.app (Int.emod_nonneg _ (by decide)) (Int.emod_lt_of_pos _ (by decide))⟩
        rw [upd_upd, List.map_append]
        rfl
      · rintro σ H2 ⟨v, ps, u, rfl, rfl, hl2, hp⟩
        exact ⟨_, rfl, fin ps hl2 hp⟩
    · refine ⟨_, rfl, c, rfl, by omega, by omega, for_range (n := c.toNat) (fun j σ H2 => ∃ (v : Int) (ps : List Int) (u u1 u2 u3 : Option V), σ = [some (.ref a), some (.int i), some (.int c), some (.int v), some (.ref l), u, u1, u2, u3] ∧
        H2 = upd H l (.lst (ps.map V.int)) ∧ ps.length = j ∧ Pool ps) ⟨_, [], none, none, none, none, rfl, rfl, rfl, Pool.nil⟩ ?_ ?_⟩
      · rintro j σ H2 hj ⟨v, ps, u, u1, u2, u3, rfl, rfl, hl2, hp⟩
        refine ⟨_, rfl, _, _, rfl, rfl, .inr (by decide), _, rfl, _, _, rfl, rfl, _, _, rfl, rfl, .inr (by decide), _, _, rfl, rfl, _, rfl, _, _, rfl, rfl, .inr (by decide), _, _, rfl, rfl, _, _, rfl, rfl, .inl ⟨_, rfl, _, _, rfl, rfl, by show (0 : Int) < 2147483647; decide, ?_⟩⟩
        refine ⟨_, rfl, _, rfl, _, _, rfl, rfl, mulW (mod_sz (by decide) (by decide)) (mod_sz (by decide) (by decide)), _, rfl, _, _, rfl, rfl, .inr (by decide), _, _, rfl, rfl, _, rfl, _, _, rfl, rfl, .inl ⟨_, rfl, _, _, rfl, rfl, by show (0 : Int) < 2147483629; decide, ?_⟩⟩
        refine ⟨_, rfl, _, rfl, _, _, rfl, rfl, mulW (mod_sz (by decide) (by decide)) (mod_sz (by decide) (by decide)), _, rfl, _, _, rfl, rfl, .inl ⟨_, rfl, _, _, rfl, rfl, by show (0 : Int) < 2147483587; decide, ?_⟩⟩
        refine ⟨_, rfl, .inl ⟨rfl, _, SqL.of upd_same⟩, _, rfl, _, _, rfl, rfl, ⟨by decide, by decide⟩, .inl ⟨_, rfl, ?_⟩⟩
        refine ⟨_, _, rfl, rfl, by show (0 : Int) < 27720; decide, l, _, _, rfl, rfl, upd_same, small_int (by rw [len_map_int]; omega), ?_⟩
        exact ⟨_, ps ++ [_], _, _, _, _, rfl, upd_app, by simp [hl2], hp.app (Int.emod_nonneg _ (by decide)) (Int.emod_lt_of_pos _ (by decide))⟩
      · rintro σ H2 ⟨v, ps, u, u1, u2, u3, rfl, rfl, hl2, hp⟩
        exact ⟨_, rfl, fin ps hl2 hp⟩
end
section
variable {P : Program} {w : World} {K : PySem.W.Frag} {mg : Str → Option Value} {base : Heap} {A : Ad}
def spWord (K : PySem.W.Frag) : Sp := fun vs H Q _ => ∃ (p : Addr) (ns : List Int) (i : Int), vs = [.ref p, .int i] ∧ SqL K H p (ns.map V.int) ∧ Pool ns ∧ 0 ≤ i ∧ i + 2 < ns.length ∧ ∀ z, Good z → Q (.str z) H
theorem ok_word (T : Txt P K mg A) : FnOk P w K mg base CX0 1 A.a_law_word A.d_law_word ["pool", "at"] (spWord K) := by
  refine T.F_law_word.ok sc_law_word (fun vs H Q E h => ?_) (fun cdv A' outer s H vs Q E hr h => ?_)
  · obtain ⟨p, ns, i, rfl, _⟩ := h
    rfl
  · obtain ⟨p, ns, i, rfl, hS, hp, h0, h1, k⟩ := h
    refine ⟨_, (pss_cons (ps_set (i := 2) sc_law_word.nd rfl (Or.inl rfl) (pe_op op_add (pe_op op_mul (pe_op op_add (pe_op op_mul (pe_ix ix_list (pv 0) (pv 1) (fun _ _ => rfl)) pe_int) (pe_ix ix_list (pv 0) (pe_op op_add (pv 1) pe_int) (fun _ _ => rfl))) pe_int) (pe_ix ix_list (pv 0) (pe_op op_add (pv 1) pe_int) (fun _ _ => rfl))))
      (pss_cons (ps_set (i := 3) sc_law_word.nd rfl (Or.inl rfl) (pe_op op_add pe_int (pe_op op_mod (pe_callTy call_int1 (by rfl) T.n_int (by decide +kernel) (pa_cons (pv 2) pa_nil)) pe_int)))
      (pss_cons (ps_set (i := 2) sc_law_word.nd rfl (Or.inl rfl) (pe_op op_fdiv (pv 2) pe_int))
      (pss_cons (ps_set (i := 4) sc_law_word.nd rfl (Or.inl rfl) pe_str)
      (pss_cons (ps_for PassesOwn.never rfl (pi_range1 (by rfl) T.n_range (pa_cons (pv 3) pa_nil)) (pg_name (i := 5) sc_law_word.nd rfl (Or.inl rfl))
        (pss_cons (ps_set (i := 4) sc_law_word.nd rfl (Or.inl rfl) (pe_op op_add_str (pv 4) (pe_ix ix_str pe_str (pe_op op_mod (pe_callTy call_int1 (by rfl) T.n_int (by decide +kernel) (pa_cons (pv 2) pa_nil)) pe_int) (fun _ _ => rfl))))
      (pss_one (ps_set (i := 2) sc_law_word.nd rfl (Or.inl rfl) (pe_op op_fdiv (pv 2) pe_int)))))
      (pss_one (ps_ret (pv 4)))))))), ?_⟩
    obtain ⟨x0, hx0, e0⟩ := atI_ok (xs := ns) (j := i) h0 (by omega)
    obtain ⟨x1, hx1, e1⟩ := atI_ok (xs := ns) (j := i + 1) (by omega) (by omega)
    obtain ⟨x2, hx2, e2⟩ := atI_ok (xs := ns) (j := i + 2) (by omega) (by omega)
    have y0 := hp x0 hx0
    have y1 := hp x1 hx1
    have y2 := hp x2 hx2
    refine ⟨_, rfl, _, rfl, _, _, _, _, rfl, rfl, hS, e0, _, _, rfl, rfl, .inr (by decide), _, rfl, _, rfl, _, _, rfl, rfl, _, _, _, _, rfl, rfl, hS, e1, _, _, rfl, rfl, _, _, rfl, rfl, .inr (by decide), _, rfl, _, rfl, _, _, rfl, rfl, _, _, _, _, rfl, rfl, hS, e2, _, _, rfl, rfl, ?_⟩
    dsimp only
    generalize hc : ((x0 * 27720 + x1) * 27720 + x2) = code
    have hc0 : 0 ≤ code := by omega
    have m0 := Int.emod_nonneg code (show (8 : Int) ≠ 0 by decide)
    have m1 := Int.emod_lt_of_pos code (show (0 : Int) < 8 by decide)
    refine ⟨_, rfl, .inl ⟨_, rfl, _, _, rfl, rfl, by show (0 : Int) < 8; decide, _, _, rfl, rfl, ?_⟩⟩
    refine ⟨_, rfl, _, _, rfl, rfl, ⟨by decide, by decide⟩, ?_⟩
    dsimp only
    generalize hsz : (1 : Int) + code % 8 = size
    refine ⟨_, rfl, size, rfl, by omega, by omega, for_range (n := size.toNat) (fun j σ H2 => H2 = H ∧ ∃ (c : Int) (z : Str) (u : Option V), σ = [some (.ref p), some (.int i), some (.int c), some (.int size), some (.str z), u] ∧ 0 ≤ c ∧ z.length = j ∧ Letters z.cps.toList)
      ⟨rfl, code / 8, ("" : Str), none, rfl, Int.ediv_nonneg hc0 (by decide), by decide, by rw [show (("" : Str)).cps.toList = [] by decide]; exact fun c hc => nomatch hc⟩ ?_ ?_⟩
    · rintro j σ H2 hj ⟨rfl, c, z, u, rfl, hc1, hl, hlet⟩
      have n0 := Int.emod_nonneg c (show (26 : Int) ≠ 0 by decide)
      have n1 := Int.emod_lt_of_pos c (show (0 : Int) < 26 by decide)
      have ea := alpha_at ⟨(c % 26).toNat, by omega⟩
      have ea : atI (("abcdefghijklmnopqrstuvwxyz" : Str)).cps.toList (((c % 26).toNat : Nat) : Int) = some (97 + (c % 26).toNat) := ea
      rw [show (((c % 26).toNat : Nat) : Int) = c % 26 by omega] at ea
      refine ⟨_, rfl, _, rfl, .inl ⟨_, rfl, _, _, rfl, rfl, by show (0 : Int) < 26; decide, _, _, _, rfl, rfl, alpha_len, ea, _, _, rfl, rfl, ?_, ?_⟩⟩
      · show z.length + 1 ≤ sizeLine
        rw [hl]
        have : j + 1 ≤ 8 := by omega
        exact Nat.le_trans this (by decide)
      · refine ⟨_, rfl, _, _, rfl, rfl, ⟨by decide, by decide⟩, rfl, c / 26, _, _, rfl, Int.ediv_nonneg hc1 (by decide), ?_, ?_⟩
        · rw [Str.length_append, hl]; rfl
        · rw [append_cps, Array.toList_append]
          exact hlet.app (Letters.one (by omega) (by omega))
    · rintro σ H2 ⟨rfl, c, z, u, rfl, hc1, hl, hlet⟩
      exact ⟨_, rfl, k z ⟨by omega, by omega, hlet⟩⟩
def spNew (K : PySem.W.Frag) : Sp := fun vs H Q _ => ∃ (l : Addr) (ns : List Str) (z : Str), vs = [.ref l, .str z] ∧ SqL K H l (sv ns) ∧ ns.length ≤ 25 ∧ Good z ∧ ∀ z', Good z' → z' ∉ ns → Q (.str z') H
theorem ok_new (T : Txt P K mg A) : FnOk P w K mg base CX0 1 A.a_law_new A.d_law_new ["names", "word"] (spNew K) := by
  refine T.F_law_new.ok sc_law_new (fun vs H Q E h => ?_) (fun cdv A' outer s H vs Q E hr h => ?_)
  · obtain ⟨l, ns, z, rfl, _⟩ := h
    rfl
  · obtain ⟨l, ns, z, rfl, hS, hl, g, k⟩ := h
    refine ⟨_, (pss_cons (ps_set (i := 2) sc_law_new.nd rfl (Or.inl rfl) pe_str)
      (pss_cons (ps_for PassesOwn.never rfl (pi_range1 (by rfl) T.n_range (pa_cons pe_int pa_nil)) (pg_name (i := 3) sc_law_new.nd rfl (Or.inl rfl))
        (pss_cons (ps_if (pt_cmpR op_notIn_seq (pv 1) (pv 0) (by with_unfolding_all rfl)) (pss_one ps_break) pss_nil)
      (pss_one (ps_set (i := 1) sc_law_new.nd rfl (Or.inl rfl) (pe_op op_add_str (pe_slice sl_str (pv 1) po_none (po_some (pe_un un_neg pe_int))) (pe_ix ix_str (pv 2) (pe_op op_mod (pe_callTy call_int1 (by rfl) T.n_int (by decide +kernel) (pa_cons (pe_op op_add (pe_m1 PySem.F.slot_str_index PySem.F.type_str_index mt_sindex (pv 2) (pe_ix ix_str (pv 1) (pe_un un_neg pe_int) (fun _ _ => rfl))) pe_int) pa_nil)) pe_int) (fun _ _ => rfl)))))))
      (pss_one (ps_ret (pv 1))))), ?_⟩
    obtain ⟨pre, c, hz⟩ : ∃ pre c, z.cps.toList = pre ++ [c] := by
      have h1 : 0 < z.cps.toList.length := by have := g.pos; have e : z.cps.toList.length = z.length := Array.length_toList; omega
      exact ⟨_, _, (List.dropLast_concat_getLast (List.length_pos_iff.mp h1)).symm⟩
    have hc : 97 ≤ c ∧ c ≤ 122 := g.let_ c (by rw [hz]; simp)
    have hpre : Letters pre := fun x hx => g.let_ x (by rw [hz]; exact List.mem_append_left _ hx)
    have hpl : pre.length + 1 = z.length := by
      have e : z.cps.toList.length = z.length := Array.length_toList
      rw [hz] at e; simpa using e
    have hg : ∀ t, Good (wat pre c t) := fun t => by
      have := g.pos
      have := g.le
      refine ⟨?_, ?_, ?_⟩
      · rw [wat_len]; omega
      · rw [wat_len]; omega
      · show Letters (pre ++ [97 + (c - 97 + t) % 26])
        exact hpre.app (Letters.one (by omega) (by omega))
    have hz0 : z = wat pre c 0 := by
      apply str_ext
      apply Array.toList_inj.mp
      rw [hz]
      show pre ++ [c] = pre ++ [97 + (c - 97 + 0) % 26]
      have : 97 + (c - 97 + 0) % 26 = c := by omega
      rw [this]
    rw [hz0]
    have hsl : ∀ t, (wat pre c t).length ≤ sizeLine := fun t => Nat.le_trans (hg t).le (by decide)
    refine ⟨26, rfl, by decide, by decide, for_range (n := 26) (fun t σ H2 => H2 = H ∧ ∃ u : Option V, σ = [some (.ref l), some (.str (wat pre c t)), some (.str "abcdefghijklmnopqrstuvwxyz"), u] ∧ ∀ s, s < t → wat pre c s ∈ ns)
      ⟨rfl, none, rfl, fun s hs => absurd hs (Nat.not_lt_zero _)⟩ ?_ ?_⟩
    · rintro t σ H2 ht ⟨rfl, u, rfl, hall⟩
      refine ⟨_, rfl, _, rfl, l, _, rfl, .inl hS, rfl, flat_sv _, _, rfl, ?_⟩
      rw [if_pos (rfl : true = true), inV_str]
      by_cases hin : wat pre c t ∈ ns
      · refine ifF (by rw [decide_eq_true hin]; rfl) ?_
        have m26 : (c - 97 + t) % 26 < 26 := Nat.mod_lt _ (by decide)
        have ei : Builtin.Str.occurrences ("abcdefghijklmnopqrstuvwxyz" : Str) ⟨#[97 + (c - 97 + t) % 26]⟩ 0 (("abcdefghijklmnopqrstuvwxyz" : Str)).length 1 = [(c - 97 + t) % 26] := alpha_ix ⟨_, m26⟩
        have k26 : ((c - 97 + t) % 26 + 1) % 26 < 26 := Nat.mod_lt _ (by decide)
        have ea : atI (("abcdefghijklmnopqrstuvwxyz" : Str)).cps.toList (((((c - 97 + t) % 26 + 1) % 26 : Nat)) : Int) = some (97 + ((c - 97 + t) % 26 + 1) % 26) := alpha_at ⟨_, k26⟩
        rw [show (((((c - 97 + t) % 26 + 1) % 26 : Nat)) : Int) = ((((c - 97 + t) % 26 : Nat)) + 1 : Int) % 26 by omega] at ea
        refine ⟨_, rfl, _, rfl, _, rfl, _, rfl, hsl t, _, rfl, _, rfl, ⟨_, rfl⟩, _, rfl, _, rfl, _, _, _, rfl, rfl, hsl t, wat_last, _, _, _, _, rfl, rfl, ei, _, _, rfl, rfl, .inl ⟨_, rfl, _, _, rfl, rfl, by show (0 : Int) < 26; decide, _, _, _, rfl, rfl, alpha_len, ea, _, _, rfl, rfl, ?_, rfl, some (.int (0 + (t : Int))), ?_, ?_⟩⟩
        · refine Nat.le_trans (Nat.add_le_add_right (cutS_length _ _ _) 1) ?_
          have := (hg t).le
          exact Nat.le_trans (Nat.succ_le_succ this) (by decide)
        · rw [wat_next]; rfl
        · intro s hs
          rcases Nat.lt_succ_iff_lt_or_eq.mp hs with q | q
          · exact hall s q
          · rw [q]; exact hin
      · refine ifT (by rw [decide_eq_false hin]; rfl) ?_
        exact ⟨_, rfl, k _ (hg t) hin⟩
    · rintro σ H2 ⟨rfl, u, rfl, hall⟩
      exfalso
      have := wat_many (fun t ht => hall t ht)
      omega
def spSeq (K : PySem.W.Frag) : Sp := fun vs H Q _ => ∃ (l : Addr) (ns : List Str) (d : Int), vs = [.ref l, .int d] ∧ SqL K H l (sv ns) ∧ ns.length ≤ 50 ∧ ∀ p ms H', Same H H' → H' p = some (.lst (sv ms)) → ms.Perm ns → Q (.ref p) H'
theorem ok_seq (T : Txt P K mg A) : FnOk P w K mg base CX0 1 A.a_law_sequence A.d_law_sequence ["names", "draw"] (spSeq K) := by
  refine T.F_law_sequence.ok sc_law_sequence (fun vs H Q E h => ?_) (fun cdv A' outer s H vs Q E hr h => ?_)
  · obtain ⟨l, ns, d, rfl, _⟩ := h
    rfl
  · obtain ⟨l, ns, d, rfl, hS, hl, k⟩ := h
    refine ⟨_, (pss_cons (ps_set (i := 2) sc_law_sequence.nd rfl (Or.inl rfl) (pe_callTy call_list_of (by rfl) T.n_list (by decide +kernel) (pa_cons (pv 0) pa_nil)))
      (pss_cons (ps_set (i := 3) sc_law_sequence.nd rfl (Or.inl rfl) (pe_lst pa_nil))
      (pss_cons (ps_for PassesOwn.never rfl (pi_range1 (by rfl) T.n_range (pa_cons (pe_callB call_len_seq (by rfl) T.n_len (by decide +kernel) (pa_cons (pv 0) pa_nil)) pa_nil)) (pg_name (i := 4) sc_law_sequence.nd rfl (Or.inl rfl))
        (pss_cons (ps_set (i := 5) sc_law_sequence.nd rfl (Or.inl rfl) (pe_op op_mod (pe_callTy call_int1 (by rfl) T.n_int (by decide +kernel) (pa_cons (pv 1) pa_nil)) (pe_callB call_len_seq (by rfl) T.n_len (by decide +kernel) (pa_cons (pv 2) pa_nil))))
      (pss_cons (ps_set (i := 1) sc_law_sequence.nd rfl (Or.inl rfl) (pe_op op_fdivX (pv 1) (pe_callB call_len_seq (by rfl) T.n_len (by decide +kernel) (pa_cons (pv 2) pa_nil))))
      (pss_cons (ps_expr (pe_bm PySem.F.plainAttrs_list PySem.F.slot_list_append PySem.F.type_list_append mt_append (pv 3) (pa_cons (pe_ix ix_list (pv 2) (pv 5) (fun _ _ => rfl)) pa_nil)))
      (pss_one (ps_set (i := 2) sc_law_sequence.nd rfl (Or.inl rfl) (pe_op op_cat (pe_slice sl_list (pv 2) po_none (po_some (pv 5))) (pe_slice sl_list (pv 2) (po_some (pe_op op_add (pv 5) pe_int)) po_none))))))))
      (pss_one (ps_ret (pv 3)))))), ?_⟩
    refine ⟨_, rfl, l, _, rfl, .inl hS, fun q0 hq0 => ?_⟩
    refine ⟨by show 0 ≤ sizeLine; decide, fun r hr => ?_⟩
    have s1 := same_new (o := .lst (sv ns)) hq0
    have nqr : q0 ≠ r := ne_of_none upd_same hr
    refine ⟨_, rfl, l, _, rfl, .inl ((s1.trans (same_new hr)).seq hS), ?_⟩
    rw [len_sv]
    refine ⟨_, rfl, by omega, by omega, for_range (n := ns.length) (fun j σ H3 => ∃ (d : Int) (q : Addr) (ls ms : List Str) (u4 u5 : Option V), σ = [some (.ref l), some (.int d), some (.ref q), some (.ref r), u4, u5] ∧
      Same (upd H q0 (.lst (sv ns))) H3 ∧ H3 r = some (.lst (sv ms)) ∧ H3 q = some (.lst (sv ls)) ∧ (ms ++ ls).Perm ns ∧ ms.length = j ∧ q ≠ r) ⟨d, q0, ns, [], none, none, rfl, same_new hr, upd_same, by rw [upd_ne nqr]; exact upd_same, List.Perm.refl _, rfl, nqr⟩ ?_ ?_⟩
    · rintro j σ H3 hj ⟨d, q, ls, ms, u4, u5, rfl, sm, h3, hq, hp, hm, nq⟩
      have hlen := hp.length_eq
      rw [List.length_append] at hlen
      have hpos : 0 < ls.length := by omega
      have p0 := Int.emod_nonneg d (show ((ls.length : Nat) : Int) ≠ 0 by omega)
      have p1 := Int.emod_lt_of_pos d (show (0 : Int) < ((ls.length : Nat) : Int) by omega)
      refine ⟨_, rfl, .inl ⟨_, rfl, _, rfl, q, _, rfl, .inl (SqL.of hq), _, _, rfl, rfl, by rw [len_sv]; omega, ?_⟩⟩
      dsimp only
      rw [len_sv]
      generalize hpk : d % ((ls.length : Nat) : Int) = pick at p0 p1 ⊢
      obtain ⟨n, rfl⟩ := Int.eq_ofNat_of_zero_le p0
      have hn : n < ls.length := by omega
      refine ⟨_, rfl, _, rfl, q, _, rfl, .inl (SqL.of hq), _, _, rfl, rfl, ⟨by rw [len_sv]; omega, ?_⟩, ?_⟩
      · rw [len_sv, Int.natAbs_natCast]
        have : ls.length ≤ 50 := by omega
        exact Nat.lt_of_le_of_lt this (by decide)
      have at1 : atI (sv ls) ((n : Nat) : Int) = some (V.str ls[n]) := atI_nat (by rw [List.getElem?_map, List.getElem?_eq_getElem hn]; rfl)
      refine ⟨_, rfl, .inl ⟨rfl, _, SqL.of h3⟩, _, rfl, _, rfl, _, _, _, _, rfl, rfl, SqL.of hq, at1, r, _, _, rfl, rfl, h3, small_int (by rw [len_sv]; omega), ?_⟩
      generalize hX : upd H3 r _ = H4
      have sm4 : Same (upd H q0 (.lst (sv ns))) H4 := fun b o e => by rw [← hX, upd_ne (ne_of_none e hr)]; exact sm _ _ e
      have hr4 : H4 r = some (.lst (sv (ms ++ [ls[n]]))) := by rw [← hX, sv_snoc]; exact upd_same
      have hq4 : H4 q = some (.lst (sv ls)) := by rw [← hX, upd_ne nq]; exact hq
      clear hX
      refine ⟨_, rfl, _, rfl, _, rfl, q, _, rfl, SqL.of hq4, fun a ha => ⟨_, rfl, _, rfl, _, _, rfl, rfl, _, rfl, q, _, rfl, SqL.of (same_new ha _ _ hq4), fun b hb => ?_⟩⟩
      have nab : a ≠ b := ne_of_none upd_same hb
      rw [cut_take (by rw [len_sv]; omega), sv_take] at hb ⊢
      rw [show ((n : Int) + 1) = ((n + 1 : Nat) : Int) by omega, cut_drop (by rw [len_sv]; omega), sv_drop]
      refine ⟨a, b, _, _, rfl, rfl, by rw [upd_ne nab]; exact upd_same, upd_same, ?_, fun c hc => ?_⟩
      · rw [len_sv, len_sv, List.length_take, List.length_drop]
        have : min n ls.length + (ls.length - (n + 1)) ≤ 50 := by omega
        exact Nat.le_trans this (by decide)
      · have s5 := (same_new (o := .lst (sv (ls.take n))) ha).trans ((same_new (o := .lst (sv (ls.drop (n + 1)))) hb).trans (same_new (o := .lst (sv (ls.take n) ++ sv (ls.drop (n + 1)))) hc))
        refine ⟨_, c, ls.take n ++ ls.drop (n + 1), ms ++ [ls[n]], _, _, rfl, sm4.trans s5, s5 _ _ hr4, ?_, ?_, by rw [List.length_append, hm]; rfl, fun z => ?_⟩
        · rw [upd_same]; exact congrArg (fun z => some (HO.lst z)) List.map_append.symm
        · refine List.Perm.trans ?_ hp
          rw [List.append_assoc]
          refine List.Perm.append_left ms ?_
          have e : ls = ls.take n ++ ls[n] :: ls.drop (n + 1) := by
            conv => lhs; rw [← List.take_append_drop n ls]
            rw [List.drop_eq_getElem_cons hn]
          conv => rhs; rw [e]
          show (ls[n] :: (ls.take n ++ ls.drop (n + 1))).Perm _
          exact List.perm_middle.symm
        · subst z
          rw [((same_new (o := .lst (sv (ls.take n))) ha).trans (same_new (o := .lst (sv (ls.drop (n + 1)))) hb)) _ _ hr4] at hc
          cases hc
    · rintro σ H3 ⟨d, q, ls, ms, u4, u5, rfl, sm, h3, hq, hp, hm, nq⟩
      have hl0 : ls = [] := by
        have := hp.length_eq
        rw [List.length_append] at this
        exact List.eq_nil_of_length_eq_zero (by omega)
      subst hl0
      rw [List.append_nil] at hp
      exact ⟨_, rfl, k r ms H3 (s1.trans sm) h3 hp⟩
def spWhole (K : PySem.W.Frag) : Sp := fun vs H Q _ => ∃ (p : Addr) (ns : List Int) (i : Int), vs = [.ref p, .int i] ∧ SqL K H p (ns.map V.int) ∧ Pool ns ∧ 0 ≤ i ∧ i + 3 < ns.length ∧ ∀ z : Int, z.natAbs < 10 ^ 12 → ∀ H', Same H H' → Q (.int z) H'
theorem ok_whole (T : Txt P K mg A) : FnOk P w K mg base CX0 1 A.a_law_whole A.d_law_whole ["pool", "i"] (spWhole K) := by
  refine T.F_law_whole.ok sc_law_whole (fun vs H Q E h => ?_) (fun cdv A' outer s H vs Q E hr h => ?_)
  · obtain ⟨p, ns, i, rfl, _⟩ := h
    rfl
  · obtain ⟨p, ns, i, rfl, hS, hp, h0, h1, k⟩ := h
    refine ⟨_, (pss_cons (ps_set (i := 2) sc_law_whole.nd rfl (Or.inl rfl) (pe_lst (pa_cons pe_int (pa_cons pe_int (pa_cons pe_int (pa_cons (pe_op op_sub (pe_op op_mul pe_int (pe_op op_pow pe_int pe_int)) pe_int) pa_nil))))))
      (pss_cons (ps_set (i := 3) sc_law_whole.nd rfl (Or.inl rfl) (pe_ix ix_list (pv 2) (pe_op op_mod (pe_callTy call_int1 (by rfl) T.n_int (by decide +kernel) (pa_cons (pe_ix ix_list (pv 0) (pv 1) (fun _ _ => rfl)) pa_nil)) pe_int) (fun _ _ => rfl)))
      (pss_cons (ps_set (i := 4) sc_law_whole.nd rfl (Or.inl rfl) (pe_op op_add (pe_op op_mul (pe_op op_add (pe_op op_mul (pe_ix ix_list (pv 0) (pe_op op_add (pv 1) pe_int) (fun _ _ => rfl)) pe_int) (pe_ix ix_list (pv 0) (pe_op op_add (pv 1) pe_int) (fun _ _ => rfl))) pe_int) (pe_ix ix_list (pv 0) (pe_op op_add (pv 1) pe_int) (fun _ _ => rfl))))
      (pss_one (ps_ret (pe_op op_sub (pe_op op_mod (pe_callTy call_int1 (by rfl) T.n_int (by decide +kernel) (pa_cons (pv 4) pa_nil)) (pv 3)) (pe_op op_fdiv (pv 3) pe_int))))))), ?_⟩
    obtain ⟨x0, hx0, e0⟩ := atI_ok (xs := ns) (j := i) h0 (by omega)
    obtain ⟨x1, hx1, e1⟩ := atI_ok (xs := ns) (j := i + 1) (by omega) (by omega)
    obtain ⟨x2, hx2, e2⟩ := atI_ok (xs := ns) (j := i + 2) (by omega) (by omega)
    obtain ⟨x3, hx3, e3⟩ := atI_ok (xs := ns) (j := i + 3) (by omega) (by omega)
    have y0 := hp x0 hx0
    have y1 := hp x1 hx1
    have y2 := hp x2 hx2
    have y3 := hp x3 hx3
    refine ⟨_, _, rfl, rfl, ⟨by decide, by decide, by decide⟩, _, _, rfl, rfl, .inr (by decide), _, _, rfl, rfl, by show 4 ≤ sizeLine; decide, fun l hl => ?_⟩
    have s0 := same_new (o := .lst [V.int 7, .int 41, .int 2001, .int (2 * 10 ^ (9 : Int).toNat - 1)]) hl
    obtain ⟨m, hm, hm0, hm1⟩ : ∃ m : Int, atI [V.int 7, .int 41, .int 2001, .int (2 * 10 ^ (9 : Int).toNat - 1)] (x0 % 4) = some (V.int m) ∧ 0 < m ∧ m < 10 ^ 10 := by
      have a0 := Int.emod_nonneg x0 (show (4 : Int) ≠ 0 by decide)
      have a1 := Int.emod_lt_of_pos x0 (show (0 : Int) < 4 by decide)
      obtain ⟨k, hk⟩ := Int.eq_ofNat_of_zero_le a0
      rw [hk]
      match k, (show k < 4 by omega) with
      | 0, _ => exact ⟨7, rfl, by decide, by decide⟩
      | 1, _ => exact ⟨41, rfl, by decide, by decide⟩
      | 2, _ => exact ⟨2001, rfl, by decide, by decide⟩
      | 3, _ => exact ⟨_, rfl, by decide, by decide⟩
    have hS0 := s0.seq hS
    refine ⟨_, rfl, _, rfl, _, rfl, _, _, _, _, rfl, rfl, hS0, e0, .inl ⟨_, rfl, _, _, rfl, rfl, by show (0 : Int) < 4; decide, l, _, _, _, rfl, rfl, SqL.of upd_same, hm, ?_⟩⟩
    refine ⟨_, rfl, _, rfl, _, _, rfl, rfl, _, _, _, _, rfl, rfl, hS0, e1, _, _, rfl, rfl, .inr (by decide), _, rfl, _, rfl, _, _, rfl, rfl, _, _, _, _, rfl, rfl, hS0, e2, _, _, rfl, rfl, _, _, rfl, rfl, .inr (by decide), _, rfl, _, rfl, _, _, rfl, rfl, _, _, _, _, rfl, rfl, hS0, e3, _, _, rfl, rfl, ?_⟩
    dsimp only
    generalize hc : ((x1 * 27720 + x2) * 27720 + x3) = code
    have m0 := Int.emod_nonneg code (show m ≠ 0 by omega)
    have m1 := Int.emod_lt_of_pos code hm0
    refine ⟨_, rfl, .inl ⟨_, rfl, _, rfl, _, _, rfl, rfl, hm0, _, rfl, _, _, rfl, rfl, ⟨by decide, by decide⟩, _, _, rfl, rfl, k _ ?_ _ s0⟩⟩
    omega
/-- the names from a place on -/
theorem rot_at {ns : List Str} {n k : Nat} (hn : n ≤ ns.length) (hk : k < ns.length) : (rotN ns n)[k]? = ns[(n + k) % ns.length]? := by
  unfold rotN
  by_cases h : k < ns.length - n
  · rw [List.getElem?_append_left (by rw [List.length_drop]; exact h), List.getElem?_drop, Nat.mod_eq_of_lt (by omega)]
  · rw [List.getElem?_append_right (by rw [List.length_drop]; omega), List.length_drop, List.getElem?_take_of_lt (by omega)]
    congr 1
    rw [Nat.mod_eq_sub_mod (by omega), Nat.mod_eq_of_lt (by omega)]
    omega
def spFrom (K : PySem.W.Frag) : Sp := fun vs H Q _ => ∃ (l : Addr) (ns : List Str) (i : Int), vs = [.ref l, .int i] ∧ SqL K H l (sv ns) ∧ ns.length ≤ 50 ∧ i.natAbs < 10 ^ 15 ∧ ∀ p H', Same H H' → H p = none → H' p = some (.lst (sv (rotI ns i))) → Q (.ref p) H'
theorem ok_from (T : Txt P K mg A) : FnOk P w K mg base CX0 1 A.a_law_from A.d_law_from ["names", "places"] (spFrom K) := by
  refine T.F_law_from.ok sc_law_from (fun vs H Q E h => ?_) (fun cdv A' outer s H vs Q E hr h => ?_)
  · obtain ⟨l, ns, i, rfl, _⟩ := h
    rfl
  · obtain ⟨l, ns, i, rfl, hS, hl, hi, k⟩ := h
    refine ⟨_, (pss_cons (ps_set (i := 2) sc_law_from.nd rfl (Or.inr rfl) (pe_callB call_len_seq (by rfl) T.n_len (by decide +kernel) (pa_cons (pv 0) pa_nil)))
      (pss_cons (ps_if (pt_cmpR op_eq (pv 2) pe_int (nomark _)) (pss_one (ps_ret (pe_lst pa_nil))) pss_nil)
      (pss_cons (ps_set (i := 3) sc_law_from.nd rfl (Or.inr rfl) (pe_op op_sub (pv 1) (pe_op op_mulW (pe_op op_fdivX (pv 1) (pv 2)) (pv 2))))
      (pss_one (ps_ret (pe_lc (own := [("i", 4)]) (g := gName 4) (tt := tYes) rfl sc_law_from.nd (pi_range1 (by rfl) T.n_range (pa_cons (pv 2) pa_nil)) (blkOk_by (N := ["names", "places", "many", "start", "i"]) (sc := defScope s_law_from) (by decide +kernel)) (fun _ _ _ _ _ => (pg_name (i := 4) sc_law_from.nd rfl (Or.inl rfl))) (fun _ _ _ _ _ => pts_nil) (fun _ _ _ _ _ => (pe_ix (show IxR _ (rIxL K) from ix_list) (pv 0) (pe_op op_mod (pe_callTy call_int1 (by rfl) T.n_int (by decide +kernel) (pa_cons (pe_op op_add (pv 3) (pv 4)) pa_nil)) (pv 2)) (fun _ _ => rfl))))))))), ?_⟩
    refine ⟨_, rfl, l, _, rfl, .inl hS, _, rfl, rfl, _, rfl, ?_⟩
    by_cases h0 : ns = []
    · subst h0
      exact ifT rfl ⟨by show 0 ≤ sizeLine; decide, fun p hp => k p _ (same_new hp) hp upd_same⟩
    · have hpos : 0 < ns.length := List.length_pos_iff.mpr h0
      have hposI : (0 : Int) < ((ns.length : Nat) : Int) := by omega
      have er : rotI ns i = rotN ns (i % (ns.length : Int)).toNat := by unfold rotI; rw [if_neg h0]
      have e0 := Int.emod_nonneg i (show ((ns.length : Nat) : Int) ≠ 0 by omega)
      have e1 := Int.emod_lt_of_pos i hposI
      obtain ⟨n, hn⟩ := Int.eq_ofNat_of_zero_le e0
      have hn2 : n < ns.length := by omega
      have ev : i - i.fdiv ((ns.length : Nat) : Int) * ((ns.length : Nat) : Int) = (n : Int) := by
        rw [Int.fdiv_eq_ediv_of_nonneg _ (by omega), ← hn, Int.emod_def, Int.mul_comm]
      have sz : ((ns.length : Nat) : Int).natAbs < 2 ^ 9000 := by rw [Int.natAbs_natCast]; exact Nat.lt_of_le_of_lt hl (by decide)
      have sq : (i.fdiv ((ns.length : Nat) : Int)).natAbs < 2 ^ 9000 := by
        rw [Int.fdiv_eq_ediv_of_nonneg _ (by omega)]
        exact Nat.lt_of_le_of_lt (Int.natAbs_ediv_le_natAbs _ _) (Nat.lt_trans hi (by decide))
      refine ifF (iNe (by rw [len_sv]; omega)) ⟨_, rfl, _, rfl, _, rfl, _, _, rfl, rfl, ⟨by rw [len_sv]; omega, by rw [len_sv]; exact sz⟩, _, rfl, _, _, rfl, rfl, by rw [len_sv]; exact mulW sq sz, _, _, rfl, rfl, ?_⟩
      dsimp only
      rw [len_sv, ev]
      refine ⟨_, rfl, _, rfl, by omega, by omega, fun D hD => lc_range (n := ((ns.length : Nat) : Int).toNat) (PvS H D fun j => sv ((rotN ns n).take j)) (pv0 hD rfl) ?_ ?_⟩
      · rintro j H3 hj q
        rw [Int.toNat_natCast] at hj
        have hm : (n + j) % ns.length < ns.length := Nat.mod_lt _ hpos
        have hat := rot_at (k := j) (Nat.le_of_lt hn2) hj
        rw [List.getElem?_eq_getElem hm] at hat
        have at1 : atI (sv ns) (((n : Int) + (0 + (j : Int))) % ((ns.length : Nat) : Int)) = some (V.str ns[(n + j) % ns.length]) := by
          rw [show (n : Int) + (0 + (j : Int)) = ((n + j : Nat) : Int) by omega, show ((n + j : Nat) : Int) % ((ns.length : Nat) : Int) = (((n + j) % ns.length : Nat) : Int) from rfl]
          exact atI_nat (by rw [List.getElem?_map, List.getElem?_eq_getElem hm]; rfl)
        refine ⟨rfl, _, rfl, _, rfl, _, rfl, _, _, rfl, rfl, .inl ⟨_, rfl, _, rfl, _, _, rfl, rfl, hposI, l, _, _, _, rfl, rfl, q.1.seq hS, at1, q.push hD ?_ ?_⟩⟩
        · show sv ((rotN ns n).take (j + 1)) = _
          rw [take_succ hat]; exact List.map_append
        · show (sv ((rotN ns n).take j)).length ≤ 1000000
          rw [len_sv, List.length_take]; omega
      · rintro H3 ⟨s3, h3⟩
        have h3 : H3 D = some (.lst (sv ((rotN ns n).take ((ns.length : Nat) : Int).toNat))) := h3
        rw [Int.toNat_natCast, List.take_of_length_le (by rw [rotN_len]; exact Nat.le_refl _)] at h3
        rw [er, hn, Int.toNat_natCast] at k
        exact k D H3 s3 hD h3
def spBack (K : PySem.W.Frag) : Sp := fun vs H Q _ => ∃ (l : Addr) (ns : List Str), vs = [.ref l] ∧ SqL K H l (sv ns) ∧ ns.length ≤ 50 ∧ ∀ p H', Same H H' → H p = none → H' p = some (.lst (sv (backN ns))) → Q (.ref p) H'
theorem ok_back (T : Txt P K mg A) : FnOk P w K mg base CX0 1 A.a_law_back A.d_law_back ["names"] (spBack K) := by
  refine T.F_law_back.ok sc_law_back (fun vs H Q E h => ?_) (fun cdv A' outer s H vs Q E hr h => ?_)
  · obtain ⟨l, ns, rfl, _⟩ := h
    rfl
  · obtain ⟨l, ns, rfl, hS, hl, k⟩ := h
    refine ⟨_, (pss_one (ps_ret (pe_op op_cat (pe_slice sl_list (pv 0) po_none (po_some pe_int)) (pe_lc (own := [("k", 1)]) (g := gName 1) (tt := tYes) rfl sc_law_back.nd (pi_range2 (by rfl) T.n_range (pa_cons pe_int (pa_cons (pe_callB call_len_seq (by rfl) T.n_len (by decide +kernel) (pa_cons (pv 0) pa_nil)) pa_nil))) (blkOk_by (N := ["names", "k"]) (sc := defScope s_law_back) (by decide +kernel)) (fun _ _ _ _ _ => (pg_name (i := 1) sc_law_back.nd rfl (Or.inl rfl))) (fun _ _ _ _ _ => pts_nil) (fun _ _ _ _ _ => (pe_ix (show IxR _ (rIxL K) from ix_list) (pv 0) (pe_op op_sub (pe_callB (show CallR _ _ (rLen2 K) from call_len_seq) (by rfl) T.n_len (by decide +kernel) (pa_cons (pv 0) pa_nil)) (pv 1)) (fun _ _ => rfl))))))), ?_⟩
    refine ⟨_, rfl, _, rfl, l, _, rfl, hS, fun a ha => ?_⟩
    have e1 : cutV (sv ns) none (some 1) = sv (ns.take 1) := by
      unfold cutV
      rw [HT.sIx_none, show (1 : Int) = ((1 : Nat) : Int) from rfl, HT.sIx_nat, len_sv, sv_drop, sv_take, List.drop_zero, Nat.sub_zero]
      by_cases h1 : 1 ≤ ns.length
      · rw [Nat.min_eq_left h1]
      · rw [List.take_of_length_le (by omega), List.take_of_length_le (by omega)]
    rw [e1]
    have s1 := same_new (o := .lst (sv (ns.take 1))) ha
    have eN : ((((sv ns).length : Nat) : Int) - 1).toNat = ns.length - 1 := by rw [len_sv]; omega
    have lr : (ns.drop 1).reverse.length = ns.length - 1 := by rw [List.length_reverse, List.length_drop]
    refine ⟨_, rfl, l, _, rfl, .inl (s1.seq hS), _, _, rfl, ⟨by omega, by omega, by rw [len_sv]; omega, by rw [len_sv]; omega⟩, fun D hD => lc_range (n := ((((sv ns).length : Nat) : Int) - 1).toNat) (PvS (upd H a (.lst (sv (ns.take 1)))) D fun j => sv ((ns.drop 1).reverse.take j)) (pv0 hD rfl) ?_ ?_⟩
    · rintro j H3 hj q
      rw [eN] at hj
      have hlt : ns.length - (1 + j) < ns.length := by omega
      have hat : (ns.drop 1).reverse[j]? = some ns[ns.length - (1 + j)] := by
        rw [List.getElem?_reverse (by rw [List.length_drop]; omega), List.length_drop, List.getElem?_drop, ← List.getElem?_eq_getElem hlt]
        congr 1
        omega
      have at1 : atI (sv ns) ((((sv ns).length : Nat) : Int) - (1 + (j : Int))) = some (V.str ns[ns.length - (1 + j)]) := by
        rw [len_sv, show ((ns.length : Nat) : Int) - (1 + (j : Int)) = ((ns.length - (1 + j) : Nat) : Int) by omega]
        exact atI_nat (by rw [List.getElem?_map, List.getElem?_eq_getElem hlt]; rfl)
      refine ⟨rfl, _, rfl, _, rfl, l, _, rfl, .inl ((s1.trans q.1).seq hS), _, rfl, _, _, rfl, rfl, l, _, _, _, rfl, rfl, (s1.trans q.1).seq hS, at1, q.push hD ?_ ?_⟩
      · show sv ((ns.drop 1).reverse.take (j + 1)) = _
        rw [take_succ hat]; exact List.map_append
      · show (sv ((ns.drop 1).reverse.take j)).length ≤ 1000000
        rw [len_sv, List.length_take, lr]; omega
    · rintro H3 ⟨s3, h3⟩
      have h3 : H3 D = some (.lst (sv ((ns.drop 1).reverse.take ((((sv ns).length : Nat) : Int) - 1).toNat))) := h3
      rw [eN, List.take_of_length_le (by rw [lr]; exact Nat.le_refl _)] at h3
      have sl : (sv (ns.take 1)).length + (sv (ns.drop 1).reverse).length ≤ sizeLine := by
        rw [len_sv, len_sv, lr, List.length_take]
        exact Nat.le_trans (show min 1 ns.length + (ns.length - 1) ≤ 1000 by omega) (by decide)
      refine ⟨a, D, _, _, rfl, rfl, s3 _ _ upd_same, h3, sl, fun p hp => k p _ ((s1.trans s3).trans (same_new hp)) (none_of (s1.trans s3) hp) ?_⟩
      rw [upd_same]
      exact congrArg (fun z => some (HO.lst z)) List.map_append.symm
end
end My
set_option maxRecDepth 100000
set_option maxHeartbeats 4000000
set_option exponentiation.threshold 10000
namespace My
open PySem L2
theorem lst_ring {C : Addr} {H : Hp} {p : Addr} {ns : List Str} {Q : VK} (h : Rd C H p ns) (hl : ns.length ≤ 100) (k : ∀ q H', Same H H' → H q = none → H' q = some (.lst (sv ns)) → Q (.ref q) H') : rLstItR C (spIter C) (spLen C) E0 E0 [.ref p] H Q := by
  obtain ⟨dx, nt, hp, hn⟩ := h
  refine ⟨p, dx, _, rfl, hp, fun q hq hne => ?_⟩
  have s1 := same_new (o := .lst []) hq
  refine ⟨p, dx, nt, rfl, s1 _ _ hp, ⟨_, hn.same s1⟩, fun it hit => ?_⟩
  have s2 := s1.trans (same_new (o := TitO nt it 0) hit)
  have nqi : q ≠ it := ne_of_none upd_same hit
  refine ⟨it, nt, sv ns, rfl, upd_same, (hn.same s2).rd, by rw [upd_ne nqi]; exact upd_same, s2 _ _ hp, small_int (by rw [len_sv]; omega), ⟨p, ns, rfl, ⟨dx, nt, s2 _ _ hp, hn.same s2⟩, rfl, _, rfl, by omega, by omega⟩, fun H2 k2 e2 => ?_⟩
  refine k q H2 (fun b o e => ?_) hq e2
  have b1 : b ≠ q := ne_of_none e hq
  have b2 : b ≠ it := ne_of_none (s1 _ _ e) hit
  rw [k2 b b2 b1]
  exact s2 _ _ e
theorem okz_ring {ns : List Str} (h : RingOk ns) : ∀ z ∈ ns, Okz z := fun z hz => okz_good (h.g z hz)
section
variable {P : Program} {w : World} {K : PySem.W.Frag} {mg : Str → Option Value} {base : Heap} {A : Ad}
def spIs (C : Addr) (K : PySem.W.Frag) : Sp := fun vs H Q _ => ∃ p d ns, vs = [.ref p, .ref d] ∧ Rd C H p ns ∧ SqL K H d (sv ns) ∧ RingOk ns ∧ ∀ H', Same H H' → Q (.bl true) H'
theorem ok_is (T : Txt P K mg A) : FnOk P w K mg base CX0 7 A.a_law_is_round A.d_law_is_round ["found", "due"] (spIs A.C_Round K) := by
  have G_Round_iter := ok_iter (P := P) (w := w) (base := base) T
  have S_Round_iter := at_iter (P := P) (w := w) (base := base) T
  have G_Round_len := ok_len (P := P) (w := w) (base := base) T
  refine T.F_law_is_round.ok sc_law_is_round (fun vs H Q E h => ?_) (fun cdv A' outer s H vs Q E hr h => ?_)
  · obtain ⟨p, d, ns, rfl, _⟩ := h
    rfl
  · obtain ⟨p, d, ns, rfl, hR, hd, ok, k⟩ := h
    refine ⟨_, (pss_cons (ps_if (PW.pt (pw_or (pt_not (pt_val (pe_callB call_isi (by rfl) T.n_isinstance (by decide +kernel) (pa_cons (pv 0) (pa_cons (pe_glob (v := .ref A.C_Round) rfl T.mg_Round rfl) pa_nil))))) (pw_or1 (pt_cmpR (op_neD hr.units) (pe_callTy (call_listItR (EL := E0) ⟨T.m_Round_iter.at_, T.m_Round_iter.fn, T.m_Round_len.at_, T.m_Round_len.fn⟩ G_Round_iter T.b_Round_iter pass0 G_Round_len T.b_Round_len (hr.mono (by decide))) (by rfl) T.n_list (by decide +kernel) (pa_cons (pv 0) pa_nil)) (pv 1) (nomark _))))) (pss_one (ps_ret pe_bl)) pss_nil)
      (pss_one (ps_ret (pe_and (pe_cmpR op_eq (pe_callB (show CallR _ _ (rLenOwn A.C_Round _ _) from call_lenOwn G_Round_len T.b_Round_len pass0 (hr.mono (by decide)) T.m_Round_len.at_ T.m_Round_len.fn) (by rfl) T.n_len (by decide +kernel) (pa_cons (pv 0) pa_nil)) (pe_callB call_len_seq (by rfl) T.n_len (by decide +kernel) (pa_cons (pv 1) pa_nil)) (nomark _)) (pe_one (pe_cmpR (op_eqD hr.units) (pe_lc (own := [("name", 2)]) (g := gName 2) (tt := tYes) rfl sc_law_is_round.nd (pi_own (pv 0) S_Round_iter T.b_Round_iter (hr.mono (by decide)) T.m_Round_iter.at_ T.m_Round_iter.fn) (blkOk_by (N := ["found", "due", "name"]) (sc := defScope s_law_is_round) (by decide +kernel)) (fun _ _ _ _ _ => (pg_name (i := 2) sc_law_is_round.nd rfl (Or.inl rfl))) (fun _ _ _ _ _ => pts_nil) (fun _ _ _ _ _ => (pv 2))) (pv 1) (nomark _))))))), ?_⟩
    have gz := okz_ring ok
    have hn12 := ok.n
    obtain ⟨dx, nt, hp, hn⟩ := id hR
    refine ⟨_, rfl, _, _, _, _, true, rfl, .own _, T.ty hp, T.ko_self, true, rfl, ifF rfl ?_⟩
    refine ⟨_, rfl, ?_⟩
    dsimp only [tNil]
    refine lst_ring hR (by omega) fun q H1 s1 _ hq => ?_
    refine ⟨_, rfl, .list (pd ns), .list (pd ns), .lst (xs := sv ns) (SqL.of hq) (dp_pd ns), .lst (xs := sv ns) (s1.seq hd) (dp_pd ns), shaped_pd gz, shaped_pd gz, _, rfl, ifF (by rw [eqv_pd gz]; rfl) ?_⟩
    have hR1 := hR.same s1
    obtain ⟨dx, nt, hp1, hn1⟩ := id hR1
    refine ⟨_, rfl, p, _, _, rfl, hp1, p, ns, rfl, hR1, ns.length, rfl, by omega, _, rfl, d, _, rfl, .inl (s1.seq hd), rfl, _, rfl, ifT (iEq (by rw [len_sv])) ?_⟩
    refine ⟨_, rfl, p, _, _, nt, _, rfl, hp1, ⟨rfl, _, hn1⟩, hn1.sq, fun D hD => lc_it walk_tup (PvS H1 D fun i => sv (ns.take i)) (pv0 hD rfl) (fun i H2 _ q => (hn1.same q.1).sq) ?_ ?_⟩
    · rintro i x H3 H4 hi q ⟨rfl, hx⟩
      obtain ⟨z, hz, rfl⟩ := sv_get hx
      rw [len_sv] at hi
      refine ⟨rfl, _, rfl, q.push hD ?_ ?_⟩
      · show sv (ns.take (i + 1)) = _
        rw [take_succ hz]; exact List.map_append
      · show (sv (ns.take i)).length ≤ 1000000
        rw [len_sv, List.length_take]; omega
    · rintro H3 ⟨s3, h3⟩
      have h3 : H3 D = some (.lst (sv (ns.take (sv ns).length))) := h3
      rw [len_sv, List.take_length] at h3
      refine ⟨_, rfl, .list (pd ns), .list (pd ns), .lst (xs := sv ns) (SqL.of h3) (dp_pd ns), .lst (xs := sv ns) ((s1.trans s3).seq hd) (dp_pd ns), shaped_pd gz, shaped_pd gz, ?_⟩
      rw [eqv_pd gz]
      exact k H3 (s1.trans s3)
end
end My
set_option maxRecDepth 100000
set_option maxHeartbeats 4000000
set_option exponentiation.threshold 10000
namespace My
open PySem L2
/-! ### names moved on, again -/
theorem rotN_rotN {ns : List Str} {a b : Nat} (ha : a < ns.length) (hb : b < ns.length) : rotN (rotN ns a) b = rotN ns ((a + b) % ns.length) := by
  have hpos : 0 < ns.length := by omega
  have hm := Nat.mod_lt (a + b) hpos
  apply List.ext_getElem?
  intro t
  by_cases ht : t < ns.length
  · rw [rot_at (by rw [rotN_len]; omega) (by rw [rotN_len]; exact ht), rotN_len, rot_at (Nat.le_of_lt ha) (Nat.mod_lt _ hpos), rot_at (Nat.le_of_lt hm) ht]
    congr 1
    rw [Nat.add_mod_mod, Nat.mod_add_mod, Nat.add_assoc]
  · rw [List.getElem?_eq_none (by rw [rotN_len, rotN_len]; omega), List.getElem?_eq_none (by rw [rotN_len]; omega)]
theorem rotN_zero (ns : List Str) : rotN ns 0 = ns := by unfold rotN; simp
theorem rotI_of {ns : List Str} {i : Int} {k : Nat} (h0 : ns ≠ []) (hk : i % (ns.length : Int) = (k : Int)) : rotI ns i = rotN ns k := by
  unfold rotI; rw [if_neg h0, hk, Int.toNat_natCast]
theorem rotI_rotI (ns : List Str) (i j : Int) : rotI (rotI ns i) j = rotI ns (i + j) := by
  by_cases h0 : ns = []
  · subst h0; rfl
  · have hpos : 0 < ns.length := List.length_pos_iff.mpr h0
    have hI : (0 : Int) < ((ns.length : Nat) : Int) := by omega
    obtain ⟨a, ha⟩ := Int.eq_ofNat_of_zero_le (Int.emod_nonneg i (show ((ns.length : Nat) : Int) ≠ 0 by omega))
    obtain ⟨b, hb⟩ := Int.eq_ofNat_of_zero_le (Int.emod_nonneg j (show ((ns.length : Nat) : Int) ≠ 0 by omega))
    have ha2 := Int.emod_lt_of_pos i hI
    have hb2 := Int.emod_lt_of_pos j hI
    have h1 : rotI ns i ≠ [] := fun e => h0 (List.eq_nil_of_length_eq_zero (by rw [← rotI_len ns i, e]; rfl))
    rw [rotI_of h1 (k := b) (by rw [rotI_len]; exact hb), rotI_of h0 ha, rotN_rotN (by omega) (by omega), rotI_of h0 (k := (a + b) % ns.length)]
    rw [Int.add_emod, ha, hb]
    rfl
theorem rotI_zero (ns : List Str) : rotI ns 0 = ns := by
  by_cases h0 : ns = []
  · subst h0; rfl
  · rw [rotI_of h0 (k := 0) (by rw [Int.zero_emod]; rfl), rotN_zero]
theorem rotI_back (ns : List Str) (i : Int) : rotI (rotI ns i) (-i) = ns := by rw [rotI_rotI, show i + -i = 0 by omega, rotI_zero]
theorem mem_allRot {ns ms : List Str} : ns ∈ allRot ms ↔ ∃ i : Int, ns = rotI ms i := by
  unfold allRot
  rw [List.mem_map]
  constructor
  · rintro ⟨k, _, e⟩; exact ⟨_, e.symm⟩
  · rintro ⟨i, rfl⟩
    by_cases h0 : ms = []
    · subst h0; exact ⟨0, by simp, rfl⟩
    · have hpos : 0 < ms.length := List.length_pos_iff.mpr h0
      obtain ⟨a, ha⟩ := Int.eq_ofNat_of_zero_le (Int.emod_nonneg i (show ((ms.length : Nat) : Int) ≠ 0 by omega))
      have ha2 := Int.emod_lt_of_pos i (show (0 : Int) < ((ms.length : Nat) : Int) by omega)
      refine ⟨a, List.mem_range.mpr (by omega), ?_⟩
      rw [rotI_of h0 ha, rotI_of h0 (k := a)]
      rw [Int.emod_eq_of_lt (by omega) (by omega)]
theorem allRot_comm {ns ms : List Str} : ns ∈ allRot ms ↔ ms ∈ allRot ns := by
  rw [mem_allRot, mem_allRot]
  constructor
  · rintro ⟨i, rfl⟩; exact ⟨-i, (rotI_back ms i).symm⟩
  · rintro ⟨i, rfl⟩; exact ⟨-i, (rotI_back ns i).symm⟩
theorem allRot_small {ns ms : List Str} : ns ∈ allRot ms ↔ (ns.length = ms.length ∧ ns.length = 0) ∨ ∃ j : Nat, j < ns.length ∧ ns = rotI ms (j : Int) := by
  rw [mem_allRot]
  constructor
  · rintro ⟨i, e⟩
    have hl : ns.length = ms.length := by rw [e, rotI_len]
    by_cases h0 : ms = []
    · left; subst h0; exact ⟨hl, hl⟩
    · right
      have hpos : 0 < ms.length := List.length_pos_iff.mpr h0
      obtain ⟨a, ha⟩ := Int.eq_ofNat_of_zero_le (Int.emod_nonneg i (show ((ms.length : Nat) : Int) ≠ 0 by omega))
      have ha2 := Int.emod_lt_of_pos i (show (0 : Int) < ((ms.length : Nat) : Int) by omega)
      refine ⟨a, by omega, ?_⟩
      rw [e, rotI_of h0 ha, rotI_of h0 (k := a)]
      rw [Int.emod_eq_of_lt (by omega) (by omega)]
  · rintro (⟨h1, h2⟩ | ⟨j, _, e⟩)
    · refine ⟨0, ?_⟩
      have e1 : ns = [] := List.eq_nil_of_length_eq_zero h2
      have e2 : ms = [] := List.eq_nil_of_length_eq_zero (by omega)
      rw [e1, e2]; rfl
    · exact ⟨_, e⟩
theorem rotI_head {ns : List Str} {i : Int} {k : Nat} (h0 : ns ≠ []) (hk : i % (ns.length : Int) = (k : Int)) : (rotI ns i)[0]? = ns[k]? := by
  have hpos : 0 < ns.length := List.length_pos_iff.mpr h0
  have := Int.emod_lt_of_pos i (show (0 : Int) < ((ns.length : Nat) : Int) by omega)
  rw [rotI_of h0 hk, rot_at (by omega) hpos, Nat.add_zero, Nat.mod_eq_of_lt (by omega)]
theorem RingOk.rot {ns : List Str} (h : RingOk ns) (i : Int) : RingOk (rotI ns i) := h.perm (rotI_perm ns i)
theorem RingOk.back {ns : List Str} (h : RingOk ns) : RingOk (backN ns) := h.perm (backN_perm ns)
theorem at_last {ns : List Str} (h : 0 < ns.length) : atI (sv ns) (-1) = some (V.str ns[ns.length - 1]) := by
  unfold atI ixN
  rw [if_neg (by decide)]
  have e : (-1 + ((sv ns).length : Int)).toNat = ns.length - 1 := by rw [len_sv]; omega
  rw [if_pos (by rw [len_sv]; omega), e]
  show (sv ns)[ns.length - 1]? = _
  rw [List.getElem?_map, List.getElem?_eq_getElem (by omega)]
  rfl
theorem get_mk {C B : Addr} {H : Hp} {p : Addr} {i : Int} {ns : List Str} {z : Str} {Q : VK} {k : Nat} (hR : Rd C H p ns) (hi : i.natAbs < 10 ^ 15) (hl : ns.length ≤ 12) (h0 : ns ≠ []) (hk : i % (ns.length : Int) = (k : Int)) (hz : ns[k]? = some z) (q : Q (.str z) H) : spGet C B [.ref p, .int i] H Q E0 := by
  refine ⟨p, i, ns, rfl, hR, hi, hl, fun y _ hy => ?_, fun e => absurd e h0⟩
  rw [hk, Int.toNat_natCast, hz] at hy
  cases hy
  exact q
section
variable {P : Program} {w : World} {K : PySem.W.Frag} {mg : Str → Option Value} {base : Heap} {A : Ad}
theorem ok_getQ (T : Txt P K mg A) : FnOk P w K mg base CX0 3 A.a_Round_getitem A.d_Round_getitem ["self", "at"] (fun vs H Q _ => spGet A.C_Round A.C_BadNumber vs H Q E0) := quiet (ok_get T) fun _ _ _ _ h => h
theorem ok_cutQ (T : Txt P K mg A) : FnOk P w K mg base CX0 4 A.a_Round_cut A.d_Round_cut ["self", "name"] (fun vs H Q _ => spCut A.C_Round A.C_UnknownColumn vs H Q E0) := quiet (ok_cut T) fun _ _ _ _ h => h
theorem ok_turnedRight (T : Txt P K mg A) : FnOk P w K mg base CX0 7 A.a_law_turned_right A.d_law_turned_right ["turned", "due"] (spIs A.C_Round K) := by
  have G_Round_getitem := ok_getQ (P := P) (w := w) (base := base) T
  have G_Round_cut := ok_cutQ (P := P) (w := w) (base := base) T
  have G_Round_contains := ok_has (P := P) (w := w) (base := base) T
  refine T.F_law_turned_right.ok sc_law_turned_right (fun vs H Q E h => ?_) (fun cdv A' outer s H vs Q E hr h => ?_)
  · obtain ⟨p, d, ns, rfl, _⟩ := h
    rfl
  · obtain ⟨p, d, ns, rfl, hR, hd, ok, k⟩ := h
    refine ⟨_, (pss_cons (ps_set (i := 2) sc_law_turned_right.nd rfl (Or.inl rfl) (pe_callB call_len_seq (by rfl) T.n_len (by decide +kernel) (pa_cons (pv 1) pa_nil)))
      (pss_cons (ps_if (pt_cmpR op_eq (pv 2) pe_int (nomark _)) (pss_one (ps_ret pe_bl)) pss_nil)
      (pss_cons (ps_if (PW.pt (pw_or (pt_cmpR op_ne (pe_ixOwn G_Round_getitem T.b_Round_getitem passS0 (hr.mono (by decide)) T.m_Round_getitem.at_ (fnIn_of T.F_Round_getitem) T.m_Round_getitem.fn (pv 0) pe_int (fun _ _ => by with_unfolding_all rfl)) (pe_ix ix_list (pv 1) pe_int (fun _ _ => rfl)) (nomark _)) (pw_or (pt_cmpR op_ne (pe_ixOwn G_Round_getitem T.b_Round_getitem passS0 (hr.mono (by decide)) T.m_Round_getitem.at_ (fnIn_of T.F_Round_getitem) T.m_Round_getitem.fn (pv 0) (pe_un un_neg pe_int) (fun _ _ => by with_unfolding_all rfl)) (pe_ix ix_list (pv 1) (pe_un un_neg pe_int) (fun _ _ => rfl)) (nomark _)) (pw_or1 (pt_cmpR op_ne (pe_ixOwn G_Round_getitem T.b_Round_getitem passS0 (hr.mono (by decide)) T.m_Round_getitem.at_ (fnIn_of T.F_Round_getitem) T.m_Round_getitem.fn (pv 0) (pe_op op_add (pv 2) pe_int) (fun _ _ => by with_unfolding_all rfl)) (pe_ix ix_list (pv 1) (pe_op op_mod (pe_callTy call_int1 (by rfl) T.n_int (by decide +kernel) (pa_cons (pe_op op_add (pv 2) pe_int) pa_nil)) (pv 2)) (fun _ _ => rfl)) (nomark _)))))) (pss_one (ps_ret pe_bl)) pss_nil)
      (pss_one (ps_ret (pe_and (pe_cmpR (op_eqD hr.units) (pe_meth (pv 0) T.cl_Round T.m_Round_cut G_Round_cut (hr.mono (by decide)) T.b_Round_cut .nil pass0 (pa_cons (pe_ix ix_list (pv 1) pe_int (fun _ _ => rfl)) pa_nil)) (pe_slice sl_list (pv 1) (po_some pe_int) po_none) (nomark _)) (pe_one (pe_cmpR (op_inOwn G_Round_contains T.b_Round_contains pass0 (hr.mono (by decide)) T.m_Round_contains.at_ T.m_Round_contains.fn) (pe_ix ix_list (pv 1) (pe_un un_neg pe_int) (fun _ _ => rfl)) (pv 0) (by with_unfolding_all rfl))))))))), ?_⟩
    have gz := okz_ring ok
    have hn12 := ok.n
    obtain ⟨dx, nt, hp, hn⟩ := id hR
    refine ⟨_, rfl, d, _, rfl, .inl hd, _, rfl, rfl, _, rfl, ?_⟩
    by_cases h0 : ns = []
    · subst h0
      exact ifT rfl (k H (Same.refl _))
    · have hpos : 0 < ns.length := List.length_pos_iff.mpr h0
      have hI : (0 : Int) < ((ns.length : Nat) : Int) := by omega
      refine ifF (iNe (by rw [len_sv]; omega)) ?_
      have hz0 : ns[0]? = some ns[0] := List.getElem?_eq_getElem hpos
      have at0 : atI (sv ns) 0 = some (V.str ns[0]) := atI_nat (j := 0) (by rw [List.getElem?_map, hz0]; rfl)
      refine ⟨_, rfl, p, _, _, rfl, hp, get_mk hR (by decide) hn12 h0 (k := 0) (by rw [Int.zero_emod]; rfl) hz0 ?_⟩
      refine ⟨_, rfl, d, _, _, _, rfl, rfl, hd, at0, rfl, _, rfl, itNe rfl ?_⟩
      have hl1 : ns[ns.length - 1]? = some ns[ns.length - 1] := List.getElem?_eq_getElem (by omega)
      have ek : (-1 : Int) % ((ns.length : Nat) : Int) = ((ns.length - 1 : Nat) : Int) := by
        rw [show (-1 : Int) = ((ns.length - 1 : Nat) : Int) + (-1) * ((ns.length : Nat) : Int) by omega, Int.add_mul_emod_self_right, Int.emod_eq_of_lt (by omega) (by omega)]
      refine ⟨_, rfl, _, rfl, p, _, _, rfl, hp, get_mk hR (by decide) hn12 h0 (k := ns.length - 1) ek hl1 ?_⟩
      refine ⟨_, rfl, _, rfl, d, _, _, _, rfl, rfl, hd, at_last hpos, rfl, _, rfl, itNe rfl ?_⟩
      have em : (((ns.length : Nat) : Int) + 1) % ((ns.length : Nat) : Int) = (((ns.length + 1) % ns.length : Nat) : Int) := rfl
      have hm := Nat.mod_lt (ns.length + 1) hpos
      have hzm : ns[(ns.length + 1) % ns.length]? = some ns[(ns.length + 1) % ns.length] := List.getElem?_eq_getElem hm
      have atm : atI (sv ns) ((((ns.length : Nat) : Int) + 1) % ((ns.length : Nat) : Int)) = some (V.str ns[(ns.length + 1) % ns.length]) := by
        rw [em]; exact atI_nat (by rw [List.getElem?_map, hzm]; rfl)
      refine ⟨_, rfl, _, rfl, _, _, rfl, rfl, p, _, _, rfl, hp, get_mk hR (by rw [len_sv]; omega) hn12 h0 (k := (ns.length + 1) % ns.length) (by rw [len_sv]; exact em) hzm ?_⟩
      refine ⟨_, rfl, _, rfl, _, _, rfl, rfl, .inl ⟨_, rfl, _, rfl, _, _, rfl, rfl, by rw [len_sv]; exact hI, d, _, _, _, rfl, rfl, hd, by rw [len_sv]; exact atm, rfl, _, rfl, itNe rfl ?_⟩⟩
      refine ⟨_, rfl, p, _, _, rfl, hp, fldsR_cut _, _, rfl, d, _, _, _, rfl, rfl, hd, at0, p, ns[0], ns, rfl, hR, Nat.le_trans (ok.g _ (List.getElem_mem hpos)).le (by decide), hn12, fun i hi hno b H1 s1 _ hb => ?_, fun hnot => absurd (List.getElem_mem hpos) hnot⟩
      have hi0 : i = 0 := by
        rcases Nat.eq_zero_or_pos i with e | e
        · exact e
        · exact absurd hz0 (hno 0 e)
      subst hi0
      have ea : aft ns 0 = ns.drop 1 := by unfold aft; rw [List.take_zero, List.append_nil]
      rw [ea] at hb
      refine ⟨_, rfl, _, rfl, d, _, rfl, s1.seq hd, fun a ha => ?_⟩
      have ec : cutV (sv ns) (some 1) none = sv (ns.drop 1) := by
        rw [show (1 : Int) = ((1 : Nat) : Int) from rfl, cut_drop (by rw [len_sv]; omega), sv_drop]
      rw [ec]
      have gd : ∀ z ∈ ns.drop 1, Okz z := fun z hz => gz z (List.mem_of_mem_drop hz)
      have s2 := same_new (o := .lst (sv (ns.drop 1))) ha
      refine ⟨.list (pd (ns.drop 1)), .list (pd (ns.drop 1)), .lst (xs := sv (ns.drop 1)) (SqL.of (s2 _ _ hb)) (dp_pd _), .lst (xs := sv (ns.drop 1)) (SqL.of upd_same) (dp_pd _), shaped_pd gd, shaped_pd gd, _, rfl, ifT (eqv_pd gd) ?_⟩
      have s12 := s1.trans s2
      refine ⟨_, rfl, _, rfl, d, _, _, _, rfl, rfl, s12.seq hd, at_last hpos, _, rfl, p, _, _, rfl, s12 _ _ hp, p, _, ns, rfl, hR.same s12, _, rfl, ?_⟩
      rw [decide_eq_true (List.getElem_mem (by omega) : ns[ns.length - 1] ∈ ns)]
      exact k _ s12
end
end My
set_option maxRecDepth 100000
set_option maxHeartbeats 4000000
set_option exponentiation.threshold 10000
namespace My
open PySem L2
section
variable {P : Program} {w : World} {K : PySem.W.Frag} {mg : Str → Option Value} {base : Heap} {A : Ad}
def spTurns (C : Addr) (K : PySem.W.Frag) : Sp := fun vs H Q _ => ∃ p l i ns, vs = [.ref p, .ref l, .int i] ∧ Rd C H p ns ∧ SqL K H l (sv ns) ∧ RingOk ns ∧ i.natAbs < 10 ^ 12 ∧ ∀ H', Same H H' → Q (.bl true) H'
theorem ok_turns (T : Txt P K mg A) : FnOk P w K mg base CX0 9 A.a_law_turns A.d_law_turns ["ring", "names", "places"] (spTurns A.C_Round K) := by
  have G_law_from := ok_from (P := P) (w := w) (base := base) T
  have G_law_back := ok_back (P := P) (w := w) (base := base) T
  have G_law_is_round := ok_is (P := P) (w := w) (base := base) T
  have G_law_turned_right := ok_turnedRight (P := P) (w := w) (base := base) T
  have G_Round_lshift := ok_lshift (P := P) (w := w) (base := base) T
  have G_Round_rshift := ok_rshift (P := P) (w := w) (base := base) T
  have G_Round_invert := ok_invert (P := P) (w := w) (base := base) T
  have G_Round_eq := ok_eq (P := P) (w := w) (base := base) T
  have G_Round_getitem := ok_getQ (P := P) (w := w) (base := base) T
  have GX_Round_getitem := ok_get (P := P) (w := w) (base := base) T
  refine T.F_law_turns.ok sc_law_turns (fun vs H Q E h => ?_) (fun cdv A' outer s H vs Q E hr h => ?_)
  · obtain ⟨p, l, i, ns, rfl, _⟩ := h
    rfl
  · obtain ⟨p, l, i, ns, rfl, hR, hL, ok, hi, k⟩ := h
    refine ⟨_, (pss_cons (ps_set (i := 3) sc_law_turns.nd rfl (Or.inl rfl) (pe_call G_law_from (hr.mono (by decide)) rfl T.mg_law_from T.F_law_from.kp T.b_law_from .nil pass0 (pa_cons (pv 1) (pa_cons (pv 2) pa_nil))))
      (pss_cons (ps_set (i := 4) sc_law_turns.nd rfl (Or.inl rfl) (pe_call G_law_from (hr.mono (by decide)) rfl T.mg_law_from T.F_law_from.kp T.b_law_from .nil pass0 (pa_cons (pv 1) (pa_cons (pe_un un_neg (pv 2)) pa_nil))))
      (pss_cons (ps_if (PW.pt (pw_or (pt_not (pt_val (pe_call G_law_is_round (hr.mono (by decide)) rfl T.mg_law_is_round T.F_law_is_round.kp T.b_law_is_round .nil pass0 (pa_cons (pe_op (op_ownI G_Round_lshift T.b_Round_lshift pass0 (hr.mono (by decide)) T.ds_Round_lshift T.m_Round_lshift.fn T.sf_Round T.dr_Round_lshift (Or.inl rfl) T.ti_lshift T.tr_lshift T.su_Round) (pv 0) (pv 2)) (pa_cons (pv 3) pa_nil))))) (pw_or1 (pt_not (pt_val (pe_call G_law_is_round (hr.mono (by decide)) rfl T.mg_law_is_round T.F_law_is_round.kp T.b_law_is_round .nil pass0 (pa_cons (pe_op (op_ownI G_Round_rshift T.b_Round_rshift pass0 (hr.mono (by decide)) T.ds_Round_rshift T.m_Round_rshift.fn T.sf_Round T.dr_Round_rshift (Or.inl rfl) T.ti_rshift T.tr_rshift T.su_Round) (pv 0) (pv 2)) (pa_cons (pv 4) pa_nil)))))))) (pss_one (ps_ret pe_bl)) pss_nil)
      (pss_cons (ps_if (PW.pt (pw_or (pt_not (pt_val (pe_call G_law_is_round (hr.mono (by decide)) rfl T.mg_law_is_round T.F_law_is_round.kp T.b_law_is_round .nil pass0 (pa_cons (pe_op (op_ownI G_Round_rshift T.b_Round_rshift pass0 (hr.mono (by decide)) T.ds_Round_rshift T.m_Round_rshift.fn T.sf_Round T.dr_Round_rshift (Or.inl rfl) T.ti_rshift T.tr_rshift T.su_Round) (pe_op (op_ownI G_Round_lshift T.b_Round_lshift pass0 (hr.mono (by decide)) T.ds_Round_lshift T.m_Round_lshift.fn T.sf_Round T.dr_Round_lshift (Or.inl rfl) T.ti_lshift T.tr_lshift T.su_Round) (pv 0) (pv 2)) (pv 2)) (pa_cons (pv 1) pa_nil))))) (pw_or1 (pt_not (pt_val (pe_call G_law_is_round (hr.mono (by decide)) rfl T.mg_law_is_round T.F_law_is_round.kp T.b_law_is_round .nil pass0 (pa_cons (pe_un (un_inv G_Round_invert T.b_Round_invert pass0 (hr.mono (by decide)) T.m_Round_invert.at_ T.m_Round_invert.fn) (pe_op (op_ownI G_Round_lshift T.b_Round_lshift pass0 (hr.mono (by decide)) T.ds_Round_lshift T.m_Round_lshift.fn T.sf_Round T.dr_Round_lshift (Or.inl rfl) T.ti_lshift T.tr_lshift T.su_Round) (pv 0) (pv 2))) (pa_cons (pe_call G_law_back (hr.mono (by decide)) rfl T.mg_law_back T.F_law_back.kp T.b_law_back .nil pass0 (pa_cons (pv 3) pa_nil)) pa_nil)))))))) (pss_one (ps_ret pe_bl)) pss_nil)
      (pss_cons (ps_if (PW.pt (pw_or (pt_cmpR op_notBl (pe_cmpR (op_eqOwn G_Round_eq T.b_Round_eq pass0 (hr.mono (by decide)) T.m_Round_eq.at_ T.m_Round_eq.fn) (pv 0) (pe_op (op_ownI G_Round_lshift T.b_Round_lshift pass0 (hr.mono (by decide)) T.ds_Round_lshift T.m_Round_lshift.fn T.sf_Round T.dr_Round_lshift (Or.inl rfl) T.ti_lshift T.tr_lshift T.su_Round) (pv 0) (pv 2)) (nomark _)) pe_bl (nomark _)) (pw_or1 (pt_cmpR op_notBl (pe_cmpR (op_eqOwn G_Round_eq T.b_Round_eq pass0 (hr.mono (by decide)) T.m_Round_eq.at_ T.m_Round_eq.fn) (pe_op (op_ownI G_Round_rshift T.b_Round_rshift pass0 (hr.mono (by decide)) T.ds_Round_rshift T.m_Round_rshift.fn T.sf_Round T.dr_Round_rshift (Or.inl rfl) T.ti_rshift T.tr_rshift T.su_Round) (pv 0) (pv 2)) (pv 0) (nomark _)) pe_bl (nomark _))))) (pss_one (ps_ret pe_bl)) pss_nil)
      (pss_cons (ps_if (PW.pt (pw_or (pt_not (pt_val (pe_call G_law_turned_right (hr.mono (by decide)) rfl T.mg_law_turned_right T.F_law_turned_right.kp T.b_law_turned_right .nil pass0 (pa_cons (pe_op (op_ownI G_Round_lshift T.b_Round_lshift pass0 (hr.mono (by decide)) T.ds_Round_lshift T.m_Round_lshift.fn T.sf_Round T.dr_Round_lshift (Or.inl rfl) T.ti_lshift T.tr_lshift T.su_Round) (pv 0) (pv 2)) (pa_cons (pv 3) pa_nil))))) (pw_or1 (pt_not (pt_val (pe_call G_law_turned_right (hr.mono (by decide)) rfl T.mg_law_turned_right T.F_law_turned_right.kp T.b_law_turned_right .nil pass0 (pa_cons (pe_op (op_ownI G_Round_rshift T.b_Round_rshift pass0 (hr.mono (by decide)) T.ds_Round_rshift T.m_Round_rshift.fn T.sf_Round T.dr_Round_rshift (Or.inl rfl) T.ti_rshift T.tr_rshift T.su_Round) (pv 0) (pv 2)) (pa_cons (pv 4) pa_nil)))))))) (pss_one (ps_ret pe_bl)) pss_nil)
      (pss_cons (ps_if (pt_not (pt_val (pe_call G_law_turned_right (hr.mono (by decide)) rfl T.mg_law_turned_right T.F_law_turned_right.kp T.b_law_turned_right .nil pass0 (pa_cons (pe_un (un_inv G_Round_invert T.b_Round_invert pass0 (hr.mono (by decide)) T.m_Round_invert.at_ T.m_Round_invert.fn) (pe_op (op_ownI G_Round_lshift T.b_Round_lshift pass0 (hr.mono (by decide)) T.ds_Round_lshift T.m_Round_lshift.fn T.sf_Round T.dr_Round_lshift (Or.inl rfl) T.ti_lshift T.tr_lshift T.su_Round) (pv 0) (pv 2))) (pa_cons (pe_call G_law_back (hr.mono (by decide)) rfl T.mg_law_back T.F_law_back.kp T.b_law_back .nil pass0 (pa_cons (pv 3) pa_nil)) pa_nil))))) (pss_one (ps_ret pe_bl)) pss_nil)
      (pss_cons (ps_if (pt_cmpR op_gt (pe_callB call_len_seq (by rfl) T.n_len (by decide +kernel) (pa_cons (pv 1) pa_nil)) pe_int (nomark _)) (pss_one (ps_ret (pe_and (pe_cmpR op_eq (pe_ixOwn G_Round_getitem T.b_Round_getitem passS0 (hr.mono (by decide)) T.m_Round_getitem.at_ (fnIn_of T.F_Round_getitem) T.m_Round_getitem.fn (pv 0) (pv 2) (fun _ _ => by with_unfolding_all rfl)) (pe_ix ix_list (pv 3) pe_int (fun _ _ => rfl)) (nomark _)) (pe_and (pe_cmpR op_eq (pe_ixOwn G_Round_getitem T.b_Round_getitem passS0 (hr.mono (by decide)) T.m_Round_getitem.at_ (fnIn_of T.F_Round_getitem) T.m_Round_getitem.fn (pv 0) (pe_un un_neg (pv 2)) (fun _ _ => by with_unfolding_all rfl)) (pe_ix ix_list (pv 4) pe_int (fun _ _ => rfl)) (nomark _)) (pe_one (pe_callB call_isi (by rfl) T.n_isinstance (by decide +kernel) (pa_cons (pe_ixOwn G_Round_getitem T.b_Round_getitem passS0 (hr.mono (by decide)) T.m_Round_getitem.at_ (fnIn_of T.F_Round_getitem) T.m_Round_getitem.fn (pv 0) (pv 2) (fun _ _ => by with_unfolding_all rfl)) (pa_cons (pe_bltn (v := .ty "str") (by rfl) T.n_str (by decide +kernel) rfl) pa_nil)))))))) pss_nil)
      (pss_cons (ps_set (i := 5) sc_law_turns.nd rfl (Or.inl rfl) (pe_lst pa_nil))
      (pss_cons (ps_set (i := 6) sc_law_turns.nd rfl (Or.inl rfl) pe_non)
      (pss_cons (ps_set (i := 7) sc_law_turns.nd rfl (Or.inl rfl) pe_non)
      (pss_cons (ps_try_as (i := 8) (Wout := fun _ _ _ _ => False) rfl rfl sc_law_turns.nd rfl rfl ⟨rfl, by decide, .inl T.mg_BadNumber⟩ takes0 (fun W pn xe tk _ => (pss_one (ps_set (i := 7) sc_law_turns.nd rfl (Or.inl rfl) (pe_ixOwn GX_Round_getitem T.b_Round_getitem (fun σ => passAt tk σ) (hr.mono (by decide)) T.m_Round_getitem.at_ (fnIn_of T.F_Round_getitem) T.m_Round_getitem.fn (pv 0) (pv 2) (fun _ _ => by with_unfolding_all rfl))))) (fun a oe cls d pn hz hf => (pss_cons (ps_set (i := 6) sc_law_turns.nd rfl (Or.inl rfl) (pe_xf T.xf_BadNumber T.xn_BadNumber_number hz hf (pv 8)))
      (pss_one (ps_set (i := 5) sc_law_turns.nd rfl (Or.inl rfl) (pe_lst (pa_cons (pe_callB (call_isExD hz hf) (by rfl) T.n_isinstance (by decide +kernel) (pa_cons (pv 8) (pa_cons (pe_glob (v := .ref A.C_RowsError) rfl T.mg_RowsError rfl) pa_nil))) (pa_cons (pe_callB (call_isExD hz hf) (by rfl) T.n_isinstance (by decide +kernel) (pa_cons (pv 8) (pa_cons (pe_bltn (v := .ty "ValueError") (by rfl) T.n_ValueError (by decide +kernel) rfl) pa_nil))) (pa_cons (pe_callB (call_isExD hz hf) (by rfl) T.n_isinstance (by decide +kernel) (pa_cons (pv 8) (pa_cons (pe_glob (v := .ref A.C_Unknown) rfl T.mg_Unknown rfl) pa_nil))) (pa_cons (pe_callB (call_isExD hz hf) (by rfl) T.n_isinstance (by decide +kernel) (pa_cons (pv 8) (pa_cons (pe_glob (v := .ref A.C_Impossible) rfl T.mg_Impossible rfl) pa_nil))) pa_nil))))))))))
      (pss_cons (ps_if (PW.pt (pw_or (pt_cmpR op_notN (pv 7) pe_non (nomark _)) (pw_or1 (pt_cmpR (op_neD hr.units) (pv 5) (pe_lst (pa_cons pe_bl (pa_cons pe_bl (pa_cons pe_bl (pa_cons pe_bl pa_nil))))) (nomark _))))) (pss_one (ps_ret pe_bl)) pss_nil)
      (pss_one (ps_ret (pe_and (pe_callB call_isi (by rfl) T.n_isinstance (by decide +kernel) (pa_cons (pv 6) (pa_cons (pe_bltn (v := .ty "int") (by rfl) T.n_int (by decide +kernel) rfl) pa_nil))) (pe_and (pe_not (pe_callB call_isi (by rfl) T.n_isinstance (by decide +kernel) (pa_cons (pv 6) (pa_cons (pe_bltn (v := .ty "bool") (by rfl) T.n_bool (by decide +kernel) rfl) pa_nil)))) (pe_one (pe_cmpR op_eq (pv 6) (pv 2) (nomark _)))))))))))))))))))), ?_⟩
    have hn12 := ok.n
    refine ⟨_, rfl, _, rfl, l, ns, i, rfl, hL, by omega, by omega, fun a H1 s1 _ ha => ?_⟩
    refine ⟨_, rfl, _, rfl, _, rfl, l, ns, -i, rfl, s1.seq hL, by omega, by omega, fun b H2 s2 _ hb => ?_⟩
    have s12 := s1.trans s2
    have ha := s2 _ _ ha
    have hR2 := hR.same s12
    have hL2 := s12.seq hL
    clear s1 s2
    -- the ring moved on
    obtain ⟨dx, nt, hp, _⟩ := id hR2
    refine ⟨_, rfl, _, rfl, p, _, _, i, rfl, rfl, hp, p, i, ns, rfl, hR2, ok, fun q H3 s3 hq => ⟨_, rfl, q, a, _, rfl, hq, s3.seq (SqL.of ha), ok.rot i, fun H4 s4 => ⟨_, rfl, ifF rfl ?_⟩⟩⟩
    have s24 := s3.trans s4
    have hp4 := s24 _ _ hp
    refine ⟨_, rfl, _, rfl, p, _, _, i, rfl, rfl, hp4, p, i, ns, rfl, hR2.same s24, ok, fun q2 H5 s5 hq2 => ⟨_, rfl, q2, b, _, rfl, hq2, (s24.trans s5).seq (SqL.of hb), ok.rot (-i), fun H6 s6 => ⟨_, rfl, ifF rfl ?_⟩⟩⟩
    have s6 := (s24.trans s5).trans s6
    clear s24 s5 hp4
    have hp6 := s6 _ _ hp
    -- there and back
    refine ⟨_, rfl, _, rfl, p, _, _, i, rfl, rfl, hp6, p, i, ns, rfl, hR2.same s6, ok, fun q3 H7 s7 hq3 => ?_⟩
    obtain ⟨d3, t3, hi3, _⟩ := id hq3
    refine ⟨_, rfl, q3, _, _, i, rfl, rfl, hi3, q3, i, _, rfl, hq3, ok.rot i, fun q4 H8 s8 hq4 => ?_⟩
    have hq4 : Rd A.C_Round H8 q4 ns := by have z : Rd A.C_Round H8 q4 (rotI (rotI ns i) (-i)) := hq4; rw [rotI_back] at z; exact z
    have s8 := (s6.trans s7).trans s8
    refine ⟨_, rfl, q4, l, ns, rfl, hq4, s8.seq hL2, ok, fun H9 s9 => ⟨_, rfl, ifF rfl ?_⟩⟩
    have s9 := s8.trans s9
    clear s6 s7 s8 hp6
    have hp9 := s9 _ _ hp
    refine ⟨_, rfl, _, rfl, p, _, _, i, rfl, rfl, hp9, p, i, ns, rfl, hR2.same s9, ok, fun q5 H10 s10 hq5 => ?_⟩
    obtain ⟨d5, t5, hi5, _⟩ := id hq5
    refine ⟨q5, _, _, rfl, hi5, q5, _, rfl, hq5, ok.rot i, fun q6 H11 s11 hq6 => ?_⟩
    have s11 := (s9.trans s10).trans s11
    refine ⟨_, rfl, a, _, rfl, s11.seq (SqL.of ha), by rw [rotI_len]; omega, fun c H12 s12' _ hc => ?_⟩
    refine ⟨q6, c, _, rfl, hq6.same s12', SqL.of hc, (ok.rot i).back, fun H13 s13 => ⟨_, rfl, ifF rfl ?_⟩⟩
    have s13 := (s11.trans s12').trans s13
    clear s9 s10 s11 hp9
    have hp13 := s13 _ _ hp
    -- the same ring
    have m1 : decide (ns ∈ allRot (rotI ns i)) = true := decide_eq_true (mem_allRot.mpr ⟨-i, (rotI_back ns i).symm⟩)
    have m2 : decide (rotI ns (-i) ∈ allRot ns) = true := decide_eq_true (mem_allRot.mpr ⟨-i, rfl⟩)
    refine ⟨_, rfl, _, rfl, _, rfl, p, _, _, i, rfl, rfl, hp13, p, i, ns, rfl, hR2.same s13, ok, fun q7 H14 s14 hq7 => ?_⟩
    have s14 := s13.trans s14
    obtain ⟨d7, t7, hi7, _⟩ := id hq7
    refine ⟨p, q7, _, _, _, _, rfl, rfl, s14 _ _ hp, hi7, p, q7, ns, _, rfl, hR2.same s14, hq7, ok, ok.rot i, fun H15 s15 => ?_⟩
    rw [m1]
    refine ⟨true, true, rfl, rfl, _, rfl, ifF rfl ?_⟩
    have s15 := s14.trans s15
    have hp15 := s15 _ _ hp
    refine ⟨_, rfl, _, rfl, p, _, _, i, rfl, rfl, hp15, p, i, ns, rfl, hR2.same s15, ok, fun q8 H16 s16 hq8 => ?_⟩
    have s16 := s15.trans s16
    obtain ⟨d8, t8, hi8, _⟩ := id hq8
    refine ⟨_, rfl, q8, p, _, _, _, _, rfl, rfl, hi8, s16 _ _ hp, q8, p, _, ns, rfl, hq8, hR2.same s16, ok.rot (-i), ok, fun H17 s17 => ?_⟩
    rw [m2]
    refine ⟨true, true, rfl, rfl, _, rfl, ifF rfl ?_⟩
    have s17 := s16.trans s17
    clear s13 s14 s15 s16 hp13 hp15
    have hp17 := s17 _ _ hp
    -- turned right
    refine ⟨_, rfl, _, rfl, p, _, _, i, rfl, rfl, hp17, p, i, ns, rfl, hR2.same s17, ok, fun q9 H18 s18 hq9 => ⟨_, rfl, q9, a, _, rfl, hq9, (s17.trans s18).seq (SqL.of ha), ok.rot i, fun H19 s19 => ⟨_, rfl, ifF rfl ?_⟩⟩⟩
    have s19 := (s17.trans s18).trans s19
    have hp19 := s19 _ _ hp
    refine ⟨_, rfl, _, rfl, p, _, _, i, rfl, rfl, hp19, p, i, ns, rfl, hR2.same s19, ok, fun q10 H20 s20 hq10 => ⟨_, rfl, q10, b, _, rfl, hq10, (s19.trans s20).seq (SqL.of hb), ok.rot (-i), fun H21 s21 => ⟨_, rfl, ifF rfl ?_⟩⟩⟩
    have s21 := (s19.trans s20).trans s21
    have hp21 := s21 _ _ hp
    refine ⟨_, rfl, _, rfl, p, _, _, i, rfl, rfl, hp21, p, i, ns, rfl, hR2.same s21, ok, fun q11 H22 s22 hq11 => ?_⟩
    obtain ⟨d11, t11, hi11, _⟩ := id hq11
    refine ⟨q11, _, _, rfl, hi11, q11, _, rfl, hq11, ok.rot i, fun q12 H23 s23 hq12 => ?_⟩
    have s23 := (s21.trans s22).trans s23
    refine ⟨_, rfl, a, _, rfl, s23.seq (SqL.of ha), by rw [rotI_len]; omega, fun c2 H24 s24 _ hc2 => ?_⟩
    refine ⟨q12, c2, _, rfl, hq12.same s24, SqL.of hc2, (ok.rot i).back, fun H25 s25 => ⟨_, rfl, ifF rfl ?_⟩⟩
    have s25 := (s23.trans s24).trans s25
    clear s17 s18 s19 s20 s21 s22 s23 s24 hp17 hp19 hp21
    have hp25 := s25 _ _ hp
    have hR25 := hR2.same s25
    refine ⟨_, rfl, l, _, rfl, .inl (s25.seq hL2), _, _, rfl, rfl, _, rfl, ?_⟩
    by_cases h0 : ns = []
    · refine itN (by rw [h0]; decide) ?_
      refine ⟨by show 0 ≤ sizeLine; decide, fun kd hkd => ?_⟩
      have s26 := s25.trans (same_new (o := .lst []) hkd)
      refine ⟨_, rfl, _, rfl, p, _, _, rfl, s26 _ _ hp, p, i, ns, rfl, hR2.same s26, by omega, by omega, fun z h => absurd h0 h, fun _ d H27 s27 hd => ?_⟩
      have s27 := s26.trans s27
      refine ⟨true, exm_self T.bp_BadNumber T.ic_BadNumber T.tp_BadNumber T.ss_BadNumber, fun _ e he => ?_, fun q => nomatch q⟩
      have k1 : PySem.W.kitOne K (.ref A.C_BadNumber) (.ref A.C_RowsError) = some true := kit_own T.ic_RowsError T.tp_RowsError T.su_BadNumber_RowsError (.inr rfl)
      have k2 : PySem.W.kitOne K (.ref A.C_BadNumber) (.type "ValueError") = some true := kit_ownT (by decide +kernel) T.sv_BadNumber
      have k3 : PySem.W.kitOne K (.ref A.C_BadNumber) (.ref A.C_Unknown) = some false := kit_F T.ic_Unknown T.tp_Unknown T.su_BadNumber_Unknown T.ss_BadNumber
      have k4 : PySem.W.kitOne K (.ref A.C_BadNumber) (.ref A.C_Impossible) = some false := kit_F T.ic_Impossible T.tp_Impossible T.su_BadNumber_Impossible T.ss_BadNumber
      refine ⟨_, rfl, rfl, rfl, d, _, _, rfl, hd, rfl, ?_⟩
      refine ⟨_, rfl, _, _, _, rfl, rfl, hd, T.ec_BadNumber, _, _, true, rfl, fun _ h => h, k1, ?_⟩
      refine ⟨_, rfl, _, _, _, rfl, rfl, hd, T.ec_BadNumber, _, _, true, rfl, fun _ h => h, k2, ?_⟩
      refine ⟨_, rfl, _, _, _, rfl, rfl, hd, T.ec_BadNumber, _, _, false, rfl, fun _ h => h, k3, ?_⟩
      refine ⟨_, rfl, _, _, _, rfl, rfl, hd, T.ec_BadNumber, _, _, false, rfl, fun _ h => h, k4, ?_⟩
      refine ⟨by show 4 ≤ sizeLine; decide, fun t ht => ?_⟩
      have s28 := s27.trans (same_new (o := .lst [V.bl true, .bl true, .bl false, .bl false]) ht)
      refine ⟨_, rfl, rfl, _, rfl, ifF rfl ?_⟩
      refine ⟨_, rfl, by show 4 ≤ sizeLine; decide, fun t2 ht2 => ?_⟩
      have s29 := same_new (o := .lst [V.bl true, .bl true, .bl false, .bl false]) ht2
      refine ⟨.list [.bool true, .bool true, .bool false, .bool false], .list [.bool true, .bool true, .bool false, .bool false], .lst (SqL.of (s29 _ _ upd_same)) (dpAll_bl [true, true, false, false]), .lst (SqL.of upd_same) (dpAll_bl [true, true, false, false]), by decide, by decide, _, rfl, ifF (by decide) ?_⟩
      have s30 := s28.trans s29
      refine ⟨_, rfl, _, _, _, _, true, rfl, .ty _, .base (.int _), kit_ty (by decide +kernel), true, rfl, iteT ?_⟩
      refine ⟨_, rfl, _, _, _, _, false, rfl, .ty _, .base (.int _), kit_ty (by decide +kernel), false, rfl, true, rfl, iteT ?_⟩
      refine ⟨_, rfl, _, rfl, rfl, ?_⟩
      rw [iEq rfl]
      exact k _ (s12.trans s30)
    · have hpos : 0 < ns.length := List.length_pos_iff.mpr h0
      have hI : (0 : Int) < ((ns.length : Nat) : Int) := by omega
      have ix : ∀ j : Int, ∃ kk : Nat, j % (ns.length : Int) = (kk : Int) ∧ kk < ns.length := fun j => by
        obtain ⟨kk, hk⟩ := Int.eq_ofNat_of_zero_le (Int.emod_nonneg j (show ((ns.length : Nat) : Int) ≠ 0 by omega))
        have := Int.emod_lt_of_pos j hI
        exact ⟨kk, hk, by omega⟩
      obtain ⟨k1, e1, l1⟩ := ix i
      obtain ⟨k2, e2, l2⟩ := ix (-i)
      have hd : ∀ (j : Int) (kk : Nat) (hl : kk < ns.length), j % (ns.length : Int) = (kk : Int) → atI (sv (rotI ns j)) 0 = some (V.str ns[kk]) := fun j kk hl e =>
        atI_nat (j := 0) (by rw [List.getElem?_map, rotI_head h0 e, List.getElem?_eq_getElem hl]; rfl)
      refine itY (by rw [len_sv]; omega) ?_
      refine ⟨_, rfl, _, rfl, p, _, _, rfl, hp25, get_mk hR25 (by omega) hn12 h0 e1 (List.getElem?_eq_getElem l1) ?_⟩
      refine ⟨_, rfl, a, _, _, _, rfl, rfl, s25.seq (SqL.of ha), hd i k1 l1 e1, rfl, _, rfl, ifT (sEq rfl) ?_⟩
      refine ⟨_, rfl, _, rfl, _, rfl, p, _, _, rfl, hp25, get_mk hR25 (by omega) hn12 h0 e2 (List.getElem?_eq_getElem l2) ?_⟩
      refine ⟨_, rfl, b, _, _, _, rfl, rfl, s25.seq (SqL.of hb), hd (-i) k2 l2 e2, rfl, _, rfl, ifT (sEq rfl) ?_⟩
      refine ⟨_, rfl, _, rfl, p, _, _, rfl, hp25, get_mk hR25 (by omega) hn12 h0 e1 (List.getElem?_eq_getElem l1) ?_⟩
      exact ⟨_, _, _, _, true, rfl, .ty _, .base (.str _), kit_ty (by decide +kernel), k _ (s12.trans s25)⟩
end
end My
set_option maxRecDepth 100000
set_option maxHeartbeats 4000000
set_option exponentiation.threshold 10000
namespace My
open PySem L2
open C8 (pss_cut)
section
variable {P : Program} {w : World} {K : PySem.W.Frag} {mg : Str → Option Value} {base : Heap} {A : Ad}
def spEqs (C : Addr) (K : PySem.W.Frag) : Sp := fun vs H Q _ => ∃ p l o ns ms, vs = [.ref p, .ref l, .ref o] ∧ Rd C H p ns ∧ SqL K H l (sv ns) ∧ SqL K H o (sv ms) ∧ RingOk ns ∧ RingOk ms ∧ ∀ H', Same H H' → Q (.bl true) H'
theorem ok_equals (T : Txt P K mg A) : FnOk P w K mg base CX0 9 A.a_law_equals A.d_law_equals ["ring", "names", "others"] (spEqs A.C_Round K) := by
  have G_law_from := ok_from (P := P) (w := w) (base := base) T
  have G_Round_init := ok_init (P := P) (w := w) (base := base) T
  have G_Round_eq := ok_eq (P := P) (w := w) (base := base) T
  refine T.F_law_equals.ok sc_law_equals (fun vs H Q E h => ?_) (fun cdv A' outer s H vs Q E hr h => ?_)
  · obtain ⟨p, l, o, ns, ms, rfl, _⟩ := h
    rfl
  · obtain ⟨p, l, o, ns, ms, rfl, hR, hL, hO, ok, om, k⟩ := h
    refine ⟨_, (pss_cut (ps_set (i := 3) sc_law_equals.nd rfl (Or.inl rfl) (pe_and (pe_cmpR op_eq (pe_callB call_len_seq (by rfl) T.n_len (by decide +kernel) (pa_cons (pv 1) pa_nil)) (pe_callB call_len_seq (by rfl) T.n_len (by decide +kernel) (pa_cons (pv 2) pa_nil)) (nomark _)) (pe_one (pe_cmpR op_eq (pe_callB call_len_seq (by rfl) T.n_len (by decide +kernel) (pa_cons (pv 1) pa_nil)) pe_int (nomark _)))))
      (pss_cons (ps_for PassesOwn.never rfl (pi_range1 (by rfl) T.n_range (pa_cons (pe_callB call_len_seq (by rfl) T.n_len (by decide +kernel) (pa_cons (pv 1) pa_nil)) pa_nil)) (pg_name (i := 4) sc_law_equals.nd rfl (Or.inl rfl))
        (pss_one (ps_set (i := 3) sc_law_equals.nd rfl (Or.inl rfl) (pe_or (pv 3) (pe_one (pe_cmpR (op_eqD hr.units) (pv 1) (pe_call G_law_from (hr.mono (by decide)) rfl T.mg_law_from T.F_law_from.kp T.b_law_from .nil pass0 (pa_cons (pv 2) (pa_cons (pv 4) pa_nil))) (nomark _)))))))
      (pss_cons (ps_set (i := 5) sc_law_equals.nd rfl (Or.inl rfl) (pe_make T.mk_Round G_Round_init (hr.mono (by decide)) rfl T.mg_Round T.b_Round_init .nil pass0 (pa_cons (pe_callTy call_list_of (by rfl) T.n_list (by decide +kernel) (pa_cons (pv 2) pa_nil)) pa_nil)))
      (pss_cons (ps_for PassesOwn.never rfl (pi_list (pe_lst (pa_cons (pe_cmpR (op_eqOwn G_Round_eq T.b_Round_eq pass0 (hr.mono (by decide)) T.m_Round_eq.at_ T.m_Round_eq.fn) (pv 0) (pv 5) (nomark _)) (pa_cons (pe_cmpR (op_eqOwn G_Round_eq T.b_Round_eq pass0 (hr.mono (by decide)) T.m_Round_eq.at_ T.m_Round_eq.fn) (pv 5) (pv 0) (nomark _)) pa_nil)))) (pg_name (i := 6) sc_law_equals.nd rfl (Or.inl rfl))
        (pss_one (ps_if (PW.pt (pw_or (pt_not (pt_val (pe_callB call_isi (by rfl) T.n_isinstance (by decide +kernel) (pa_cons (pv 6) (pa_cons (pe_bltn (v := .ty "bool") (by rfl) T.n_bool (by decide +kernel) rfl) pa_nil))))) (pw_or1 (pt_cmpR op_ne (pv 6) (pv 3) (nomark _))))) (pss_one (ps_ret pe_bl)) pss_nil)))
      (pss_one (ps_ret pe_bl)))))), ?_⟩
    have hn12 := ok.n
    have hm12 := om.n
    have gn := okz_ring ok
    have gm := okz_ring om
    refine ⟨fun σ H1 => Same H H1 ∧ σ = [some (.ref p), some (.ref l), some (.ref o), some (.bl (decide (ns.length = ms.length ∧ ns.length = 0))), none, none, none], ?_, ?_⟩
    · refine ⟨_, rfl, l, _, rfl, .inl hL, _, rfl, o, _, rfl, .inl hO, rfl, _, rfl, ?_⟩
      by_cases h1 : ns.length = ms.length
      · refine ifT (iEq (by rw [len_sv, len_sv, h1])) ⟨_, rfl, l, _, rfl, .inl hL, rfl, Same.refl _, ?_⟩
        have e : decide (V.int ((sv ns).length : Nat) = V.int 0) = decide (ns.length = ms.length ∧ ns.length = 0) := by
          rw [len_sv, decide_eq_decide]
          exact ⟨fun e => ⟨h1, by have := V.int.inj e; omega⟩, fun e => by rw [e.2]; rfl⟩
        rw [e]
        rfl
      · refine ifF (iNe (by rw [len_sv, len_sv]; omega)) ⟨Same.refl _, ?_⟩
        rw [decide_eq_false (fun e : ns.length = ms.length ∧ ns.length = 0 => h1 e.1)]
        rfl
    · rintro σ H1 ⟨s1, rfl⟩
      refine ⟨_, rfl, l, _, rfl, .inl (s1.seq hL), _, rfl, by omega, by rw [len_sv]; omega, ?_⟩
      have eN : (((sv ns).length : Nat) : Int).toNat = ns.length := by rw [len_sv]; omega
      refine for_range (n := (((sv ns).length : Nat) : Int).toNat) (fun j σ H2 => Same H H2 ∧ ∃ u, σ = [some (.ref p), some (.ref l), some (.ref o), some (.bl (decide ((ns.length = ms.length ∧ ns.length = 0) ∨ ∃ t : Nat, t < j ∧ ns = rotI ms (t : Int)))), u, none, none]) ⟨s1, none, ?_⟩ ?_ ?_
      · rw [show decide ((ns.length = ms.length ∧ ns.length = 0) ∨ ∃ t : Nat, t < 0 ∧ ns = rotI ms (t : Int)) = decide (ns.length = ms.length ∧ ns.length = 0) from decide_eq_decide.mpr ⟨fun h => h.elim id fun ⟨t, ht, _⟩ => absurd ht (Nat.not_lt_zero _), .inl⟩]
      · rintro j σ H2 hj ⟨s2, u, rfl⟩
        have hj0 : (0 : Int) + (j : Int) = (j : Int) := by omega
        refine ⟨_, rfl, _, rfl, ?_⟩
        by_cases hP : (ns.length = ms.length ∧ ns.length = 0) ∨ ∃ t : Nat, t < j ∧ ns = rotI ms (t : Int)
        · refine itY hP ⟨s2, some (.int (0 + (j : Int))), ?_⟩
          rw [decide_eq_true (show (ns.length = ms.length ∧ ns.length = 0) ∨ ∃ t : Nat, t < j + 1 ∧ ns = rotI ms (t : Int) from hP.imp id fun ⟨t, ht, e⟩ => ⟨t, by omega, e⟩)]
          rfl
        · refine itN hP ⟨_, rfl, _, rfl, _, rfl, o, ms, _, rfl, s2.seq hO, by omega, by rw [len_sv] at hj; omega, fun a H3 s3 _ ha => ?_⟩
          have gr : ∀ z ∈ rotI ms (0 + (j : Int)), Okz z := fun z hz => gm z ((rotI_perm ms _).mem_iff.mp hz)
          refine ⟨.list (pd ns), .list (pd (rotI ms (0 + (j : Int)))), .lst (xs := sv ns) ((s2.trans s3).seq hL) (dp_pd _), .lst (xs := sv (rotI ms (0 + (j : Int)))) (SqL.of ha) (dp_pd _), shaped_pd gn, shaped_pd gr, s2.trans s3, some (.int (0 + (j : Int))), ?_⟩
          rw [eqv_L, hj0]
          have e : decide (ns = rotI ms (j : Int)) = decide ((ns.length = ms.length ∧ ns.length = 0) ∨ ∃ t : Nat, t < j + 1 ∧ ns = rotI ms (t : Int)) := by
            rw [decide_eq_decide]
            constructor
            · intro e; exact .inr ⟨j, Nat.lt_succ_self j, e⟩
            · rintro (e | ⟨t, ht, e⟩)
              · exact absurd (.inl e) hP
              · rcases Nat.lt_succ_iff_lt_or_eq.mp ht with q | q
                · exact absurd (.inr ⟨t, q, e⟩) hP
                · rw [← q]; exact e
          rw [e]
          rfl
      · rintro σ H2 ⟨s2, u, rfl⟩
        rw [eN]
        have ed : decide ((ns.length = ms.length ∧ ns.length = 0) ∨ ∃ t : Nat, t < ns.length ∧ ns = rotI ms (t : Int)) = decide (ns ∈ allRot ms) := decide_eq_decide.mpr allRot_small.symm
        have ec : decide (ms ∈ allRot ns) = decide (ns ∈ allRot ms) := decide_eq_decide.mpr allRot_comm
        rw [ed]
        generalize hb : decide (ns ∈ allRot ms) = b at ec
        refine ⟨_, rfl, o, _, rfl, .inl (s2.seq hO), fun q hq => ?_⟩
        have s3 := s2.trans (same_new (o := .lst (sv ms)) hq)
        refine fun x dx0 hx0 hdx0 hne0 => mk_ring2 (ns := ms) (.inl (SqL.of upd_same)) om hx0 hdx0 hne0 fun H4 s4 hx => ⟨rfl, ?_⟩
        have s4 := s3.trans s4
        obtain ⟨dx, nt, hp, _⟩ := id (hR.same s4)
        obtain ⟨dy, mt, hxp, _⟩ := id hx
        refine ⟨_, rfl, _, rfl, p, x, _, _, _, _, rfl, rfl, hp, hxp, p, x, ns, ms, rfl, hR.same s4, hx, ok, om, fun H5 s5 => ?_⟩
        rw [hb]
        refine ⟨_, rfl, _, rfl, x, p, _, _, _, _, rfl, rfl, s5 _ _ hxp, s5 _ _ hp, x, p, ms, ns, rfl, hx.same s5, (hR.same s4).same s5, om, ok, fun H6 s6 => ?_⟩
        rw [ec]
        refine ⟨by show 2 ≤ sizeLine; decide, fun D hD => ?_⟩
        have s7 := ((s4.trans s5).trans s6).trans (same_new (o := .lst [V.bl b, .bl b]) hD)
        have hD7 := upd_same (H := H6) (a := D) (o := .lst [V.bl b, .bl b])
        generalize upd H6 D _ = H7 at s7 hD7 ⊢
        refine ⟨D, rfl, ⟨_, SqL.of hD7⟩, for_it walk_list (fun i σ H8 => Same H7 H8 ∧ ∃ u1 : Option V, σ = [some (.ref p), some (.ref l), some (.ref o), some (.bl b), u, some (.ref x), u1]) ⟨Same.refl _, none, rfl⟩ (fun i σ H8 _ q => q.1.seq (SqL.of hD7)) ?_ ?_⟩
        · rintro i y σ H80 H8 hi ⟨s8, u1, rfl⟩ ⟨rfl, hy⟩
          obtain rfl : y = V.bl b := by
            match i, hy with
            | 0, hy => cases hy; rfl
            | 1, hy => cases hy; rfl
          refine ⟨_, rfl, _, _, _, _, true, rfl, .ty _, .base (.bl _), kit_ty (by decide +kernel), true, rfl, ifF rfl ?_⟩
          exact ⟨_, rfl, _, rfl, rfl, _, rfl, itNe rfl ⟨s8, _, rfl⟩⟩
        · rintro σ H8 ⟨s8, u1, rfl⟩
          exact k H8 (s7.trans s8)
end
end My
set_option maxRecDepth 100000
set_option maxHeartbeats 4000000
set_option exponentiation.threshold 10000
namespace My
open PySem L2
open C8 (pss_cut)
section
variable {P : Program} {w : World} {K : PySem.W.Frag} {mg : Str → Option Value} {base : Heap} {A : Ad}
theorem aft_rot {ns : List Str} {i : Nat} (hi : i < ns.length) : rotI ns (i : Int) = ns[i] :: aft ns i := by
  have h0 : ns ≠ [] := fun e => by rw [e] at hi; exact absurd hi (Nat.not_lt_zero _)
  rw [rotI_of h0 (k := i) (Int.emod_eq_of_lt (by omega) (by omega))]
  unfold rotN aft
  rw [List.drop_eq_getElem_cons hi]; rfl
def spCutIs (C : Addr) (K : PySem.W.Frag) : Sp := fun vs H Q _ => ∃ p l z ns, vs = [.ref p, .ref l, .str z] ∧ Rd C H p ns ∧ SqL K H l (sv ns) ∧ RingOk ns ∧ z.length ≤ 1000 ∧ ∀ H', Same H H' → Q (.bl true) H'
theorem ok_cutIs (T : Txt P K mg A) : FnOk P w K mg base CX0 9 A.a_law_cut_is A.d_law_cut_is ["ring", "names", "name"] (spCutIs A.C_Round K) := by
  have G_law_from := ok_from (P := P) (w := w) (base := base) T
  have GX_Round_cut := ok_cut (P := P) (w := w) (base := base) T
  have G_Round_cut := ok_cutQ (P := P) (w := w) (base := base) T
  have G_Round_contains := ok_has (P := P) (w := w) (base := base) T
  refine T.F_law_cut_is.ok sc_law_cut_is (fun vs H Q E h => ?_) (fun cdv A' outer s H vs Q E hr h => ?_)
  · obtain ⟨p, l, z, ns, rfl, _⟩ := h
    rfl
  · obtain ⟨p, l, z, ns, rfl, hR, hL, ok, hz, k⟩ := h
    refine ⟨_, (pss_cons (ps_set (i := 3) sc_law_cut_is.nd rfl (Or.inl rfl) pe_non)
      (pss_cons (ps_set (i := 4) sc_law_cut_is.nd rfl (Or.inl rfl) pe_non)
      (pss_cons (ps_set (i := 5) sc_law_cut_is.nd rfl (Or.inl rfl) (pe_lst pa_nil))
      (pss_cons (ps_try_as (i := 6) (Wout := fun _ _ _ _ => False) rfl rfl sc_law_cut_is.nd rfl rfl ⟨rfl, by decide, .inl T.mg_UnknownColumn⟩ takes0 (fun W pn xe tk _ => (pss_one (ps_set (i := 3) sc_law_cut_is.nd rfl (Or.inl rfl) (pe_methE (pv 0) T.cl_Round T.m_Round_cut GX_Round_cut (hr.mono (by decide)) T.b_Round_cut (fun σ => passAt tk σ) (pa_cons (pv 2) pa_nil))))) (fun a oe cls d pn hz hf => (pss_cons (ps_set (i := 4) sc_law_cut_is.nd rfl (Or.inl rfl) (pe_xf T.xf_UnknownColumn T.xn_UnknownColumn_name hz hf (pv 6)))
      (pss_one (ps_set (i := 5) sc_law_cut_is.nd rfl (Or.inl rfl) (pe_lst (pa_cons (pe_callB (call_isExD hz hf) (by rfl) T.n_isinstance (by decide +kernel) (pa_cons (pv 6) (pa_cons (pe_glob (v := .ref A.C_RowsError) rfl T.mg_RowsError rfl) pa_nil))) (pa_cons (pe_callB (call_isExD hz hf) (by rfl) T.n_isinstance (by decide +kernel) (pa_cons (pv 6) (pa_cons (pe_bltn (v := .ty "ValueError") (by rfl) T.n_ValueError (by decide +kernel) rfl) pa_nil))) (pa_cons (pe_callB (call_isExD hz hf) (by rfl) T.n_isinstance (by decide +kernel) (pa_cons (pv 6) (pa_cons (pe_glob (v := .ref A.C_Unknown) rfl T.mg_Unknown rfl) pa_nil))) (pa_cons (pe_callB (call_isExD hz hf) (by rfl) T.n_isinstance (by decide +kernel) (pa_cons (pv 6) (pa_cons (pe_glob (v := .ref A.C_Impossible) rfl T.mg_Impossible rfl) pa_nil))) pa_nil))))))))))
      (pss_cons (ps_set (i := 7) sc_law_cut_is.nd rfl (Or.inl rfl) (pe_cmpR (op_inOwn G_Round_contains T.b_Round_contains pass0 (hr.mono (by decide)) T.m_Round_contains.at_ T.m_Round_contains.fn) (pv 2) (pv 0) (by with_unfolding_all rfl)))
      (pss_cons (ps_if (pt_cmpR op_ne (pv 7) (pe_cmpR op_in_seq (pv 2) (pv 1) (by with_unfolding_all rfl)) (nomark _)) (pss_one (ps_ret pe_bl)) pss_nil)
      (pss_cons (ps_if (pt_cmpR op_notIn_seq (pv 2) (pv 1) (by with_unfolding_all rfl)) (pss_one (ps_ret (pe_and (pe_cmpR op_isN (pv 3) pe_non (nomark _)) (pe_and (pe_cmpR op_eq (pv 4) (pv 2) (nomark _)) (pe_one (pe_cmpR (op_eqD hr.units) (pv 5) (pe_lst (pa_cons pe_bl (pa_cons pe_bl (pa_cons pe_bl (pa_cons pe_bl pa_nil))))) (nomark _))))))) pss_nil)
      (pss_cons (ps_set (i := 8) sc_law_cut_is.nd rfl (Or.inl rfl) (pe_slice sl_list (pe_call G_law_from (hr.mono (by decide)) rfl T.mg_law_from T.F_law_from.kp T.b_law_from .nil pass0 (pa_cons (pv 1) (pa_cons (pe_bm PySem.F.plainAttrs_list PySem.F.slot_list_index PySem.F.type_list_index mt_index (pv 1) (pa_cons (pv 2) pa_nil)) pa_nil))) (po_some pe_int) po_none))
      (pss_cons (ps_if (PW.pt (pw_or (pt_not (pt_val (pe_callB call_isi (by rfl) T.n_isinstance (by decide +kernel) (pa_cons (pv 3) (pa_cons (pe_bltn (v := .ty "list") (by rfl) T.n_list (by decide +kernel) rfl) pa_nil))))) (pw_or1 (pt_cmpR (op_neD hr.units) (pv 3) (pv 8) (nomark _))))) (pss_one (ps_ret pe_bl)) pss_nil)
      (pss_cons (ps_expr (pe_bm PySem.F.plainAttrs_list PySem.F.slot_list_append PySem.F.type_list_append mt_append (pv 3) (pa_cons pe_str pa_nil)))
      (pss_one (ps_ret (pe_cmpR (op_eqD hr.units) (pe_meth (pv 0) T.cl_Round T.m_Round_cut G_Round_cut (hr.mono (by decide)) T.b_Round_cut .nil pass0 (pa_cons (pv 2) pa_nil)) (pv 8) (nomark _)))))))))))))), ?_⟩
    have hn12 := ok.n
    have gn := okz_ring ok
    refine ⟨by show 0 ≤ sizeLine; decide, fun kd hkd => ?_⟩
    have s1 := same_new (o := .lst []) hkd
    have hR1 := hR.same s1
    obtain ⟨dx, nt, hp, _⟩ := id hR1
    refine ⟨_, rfl, p, _, _, rfl, hp, fldsR_cut _, _, rfl, p, z, ns, rfl, hR1, hz, hn12, fun i hi hno b H2 s2 hb0 hb => ?_, fun hnot d H2 s2 hd => ?_⟩
    · have hin : z ∈ ns := List.mem_of_getElem? hi
      have s2 := s1.trans s2
      have hR2 := hR.same s2
      have hil := (List.getElem?_eq_some_iff.mp hi).1
      obtain ⟨dx, nt, hp, _⟩ := id hR2
      refine ⟨_, rfl, _, rfl, p, _, _, rfl, hp, p, z, ns, rfl, hR2, _, rfl, ?_⟩
      rw [decide_eq_true hin]
      refine ⟨_, rfl, _, rfl, _, rfl, l, _, rfl, .inl (s2.seq hL), rfl, flat_sv _, rfl, ?_⟩
      rw [if_neg Bool.false_ne_true, inV_str, decide_eq_true hin]
      refine ⟨_, rfl, itNe rfl ?_⟩
      refine ⟨_, rfl, _, rfl, l, _, rfl, .inl (s2.seq hL), rfl, flat_sv _, _, rfl, ?_⟩
      rw [if_pos (rfl : true = true), inV_str]
      refine ifF (by rw [decide_eq_true hin]; rfl) ?_
      -- due
      have hb0' : H b = none := none_of s1 hb0
      have ez : ns[i] = z := (List.getElem?_eq_some_iff.mp hi).2
      have er : rotI ns (i : Int) = z :: aft ns i := by rw [aft_rot hil, ez]
      have ga : ∀ y ∈ aft ns i, Okz y := fun y hy => gn y ((rotI_perm ns i).mem_iff.mp (by rw [er]; exact List.mem_cons_of_mem _ hy))
      have la : (aft ns i).length ≤ 12 := by
        have := rotI_len ns i
        rw [er, List.length_cons] at this
        omega
      refine ⟨_, rfl, _, rfl, .inl ⟨rfl, _, s2.seq hL⟩, _, rfl, l, sv ns, .str z, i, .str z, rfl, rfl, s2.seq hL, rfl, flat_sv _, by rw [List.getElem?_map, hi]; rfl, by rw [eqV_str]; exact decide_eq_true rfl, fun m z' hm hz' => ?_, l, ns, _, rfl, s2.seq hL, by omega, by omega, fun a H3 s3 _ ha => ?_⟩
      · obtain ⟨y, hy, rfl⟩ := sv_get hz'
        rw [eqV_str]
        exact decide_eq_false fun e => hno m hm (by rw [hy, e])
      rw [er] at ha
      refine ⟨_, rfl, a, _, rfl, SqL.of ha, fun c hc => ?_⟩
      have ec : cutV (sv (z :: aft ns i)) (some 1) none = sv (aft ns i) := by
        rw [show (1 : Int) = ((1 : Nat) : Int) from rfl, cut_drop (by rw [len_sv, List.length_cons]; omega), sv_drop]; rfl
      rw [ec]
      have s4 := s3.trans (same_new (o := .lst (sv (aft ns i))) hc)
      have hb4 := s4 _ _ hb
      have nbc : c ≠ b := (ne_of_none (s3 _ _ hb) hc).symm
      have hc4 := upd_same (H := H3) (a := c) (o := .lst (sv (aft ns i)))
      generalize upd H3 c _ = H4 at s4 hb4 hc4 ⊢
      refine ⟨_, rfl, _, _, _, _, true, rfl, .ty _, .base (.lst hb4), kit_ty (by decide +kernel), true, rfl, ifF rfl ?_⟩
      refine ⟨_, rfl, _, rfl, .list (pd (aft ns i)), .list (pd (aft ns i)), .lst (xs := sv (aft ns i)) (SqL.of hb4) (dp_pd _), .lst (xs := sv (aft ns i)) (SqL.of hc4) (dp_pd _), shaped_pd ga, shaped_pd ga, _, rfl, ifF (by rw [eqv_pd ga]; rfl) ?_⟩
      refine ⟨_, rfl, .inl ⟨rfl, _, SqL.of hb4⟩, b, _, _, rfl, rfl, hb4, small_int (by rw [len_sv]; omega), ?_⟩
      have s5 : Same H (upd H4 b (.lst (sv (aft ns i) ++ [V.str "q"]))) := fun x o e => by
        rw [upd_ne (ne_of_none e hb0')]; exact s4 _ _ (s2 _ _ e)
      have hc5 : upd H4 b (.lst (sv (aft ns i) ++ [V.str "q"])) c = some (.lst (sv (aft ns i))) := by rw [upd_ne nbc]; exact hc4
      generalize upd H4 b _ = H5 at s5 hc5 ⊢
      have hR5 := hR.same s5
      obtain ⟨dx, nt, hp, _⟩ := id hR5
      refine ⟨_, rfl, p, _, _, rfl, hp, fldsR_cut _, _, rfl, p, z, ns, rfl, hR5, hz, hn12, fun i2 hi2 hno2 b2 H6 s6 _ hb6 => ?_, fun h => absurd hin h⟩
      have ei : i2 = i := by rw [← ixS_of hi2 hno2, ixS_of hi hno]
      subst ei
      refine ⟨_, rfl, .list (pd (aft ns i2)), .list (pd (aft ns i2)), .lst (xs := sv (aft ns i2)) (SqL.of hb6) (dp_pd _), .lst (xs := sv (aft ns i2)) (SqL.of (s6 _ _ hc5)) (dp_pd _), shaped_pd ga, shaped_pd ga, ?_⟩
      rw [eqv_pd ga]
      exact k _ (s5.trans s6)
    · have s2 := s1.trans s2
      refine ⟨true, exm_self T.bp_UnknownColumn T.ic_UnknownColumn T.tp_UnknownColumn T.ss_UnknownColumn, fun _ e he => ?_, fun q => nomatch q⟩
      have k1 : PySem.W.kitOne K (.ref A.C_UnknownColumn) (.ref A.C_RowsError) = some true := kit_own T.ic_RowsError T.tp_RowsError T.su_UnknownColumn_RowsError (.inr rfl)
      have k2 : PySem.W.kitOne K (.ref A.C_UnknownColumn) (.type "ValueError") = some true := kit_ownT (by decide +kernel) T.sv_UnknownColumn
      have k3 : PySem.W.kitOne K (.ref A.C_UnknownColumn) (.ref A.C_Unknown) = some true := kit_own T.ic_Unknown T.tp_Unknown T.su_UnknownColumn_Unknown (.inr rfl)
      have k4 : PySem.W.kitOne K (.ref A.C_UnknownColumn) (.ref A.C_Impossible) = some false := kit_F T.ic_Impossible T.tp_Impossible T.su_UnknownColumn_Impossible T.ss_UnknownColumn
      refine ⟨_, rfl, rfl, rfl, d, _, _, rfl, hd, rfl, ?_⟩
      refine ⟨_, rfl, _, _, _, rfl, rfl, hd, T.ec_UnknownColumn, _, _, true, rfl, fun _ h => h, k1, ?_⟩
      refine ⟨_, rfl, _, _, _, rfl, rfl, hd, T.ec_UnknownColumn, _, _, true, rfl, fun _ h => h, k2, ?_⟩
      refine ⟨_, rfl, _, _, _, rfl, rfl, hd, T.ec_UnknownColumn, _, _, true, rfl, fun _ h => h, k3, ?_⟩
      refine ⟨_, rfl, _, _, _, rfl, rfl, hd, T.ec_UnknownColumn, _, _, false, rfl, fun _ h => h, k4, ?_⟩
      refine ⟨by show 4 ≤ sizeLine; decide, fun t ht => ?_⟩
      have s3 := s2.trans (same_new (o := .lst [V.bl true, .bl true, .bl true, .bl false]) ht)
      have ht3 := upd_same (H := H2) (a := t) (o := .lst [V.bl true, .bl true, .bl true, .bl false])
      generalize upd H2 t _ = H3 at s3 ht3 ⊢
      have hR3 := hR.same s3
      obtain ⟨dx, nt, hp, _⟩ := id hR3
      refine ⟨_, rfl, _, rfl, p, _, _, rfl, hp, p, z, ns, rfl, hR3, _, rfl, ?_⟩
      rw [decide_eq_false hnot]
      refine ⟨_, rfl, _, rfl, _, rfl, l, _, rfl, .inl (s3.seq hL), rfl, flat_sv _, rfl, ?_⟩
      rw [if_neg Bool.false_ne_true, inV_str, decide_eq_false hnot]
      refine ⟨_, rfl, itNe rfl ?_⟩
      refine ⟨_, rfl, _, rfl, l, _, rfl, .inl (s3.seq hL), rfl, flat_sv _, _, rfl, ?_⟩
      rw [if_pos (rfl : true = true), inV_str]
      refine ifT (by rw [decide_eq_false hnot]; rfl) ?_
      refine ⟨_, rfl, rfl, _, rfl, itY rfl ⟨_, rfl, _, rfl, rfl, _, rfl, ifT (sEq rfl) ?_⟩⟩
      refine ⟨_, rfl, by show 4 ≤ sizeLine; decide, fun t2 ht2 => ?_⟩
      have s4 := same_new (o := .lst [V.bl true, .bl true, .bl true, .bl false]) ht2
      refine ⟨.list [.bool true, .bool true, .bool true, .bool false], .list [.bool true, .bool true, .bool true, .bool false], .lst (SqL.of (s4 _ _ ht3)) (dpAll_bl [true, true, true, false]), .lst (SqL.of upd_same) (dpAll_bl [true, true, true, false]), by decide, by decide, ?_⟩
      rw [show PyData.eqv (.list [.bool true, .bool true, .bool true, .bool false]) (.list [.bool true, .bool true, .bool true, .bool false]) = true by decide]
      exact k _ (s3.trans s4)
end
end My
set_option maxRecDepth 100000
set_option maxHeartbeats 4000000
set_option exponentiation.threshold 10000
namespace My
open PySem L2
open C8 (pss_cut)
/-- at ts stand tuples with these items -/
def Tps (H : Hp) (ts : List Addr) (cs : List (List V)) : Prop := ts.length = cs.length ∧ ∀ (i : Nat) t c, ts[i]? = some t → cs[i]? = some c → H t = some (.tup c)
theorem Tps.same {H H' : Hp} {ts : List Addr} {cs : List (List V)} (h : Tps H ts cs) (e : Same H H') : Tps H' ts cs := ⟨h.1, fun i t s a b => e _ _ (h.2 i t s a b)⟩
theorem Tps.nil {H : Hp} : Tps H [] [] := ⟨rfl, fun i t s h => by simp at h⟩
theorem Tps.app2 {H : Hp} {ts us : List Addr} {cs ds : List (List V)} (h : Tps H ts cs) (k : Tps H us ds) : Tps H (ts ++ us) (cs ++ ds) := by
  refine ⟨by rw [List.length_append, List.length_append, h.1, k.1], fun i u y a b => ?_⟩
  by_cases c : i < ts.length
  · rw [List.getElem?_append_left c] at a
    rw [List.getElem?_append_left (by rw [← h.1]; exact c)] at b
    exact h.2 i u y a b
  · rw [List.getElem?_append_right (by omega)] at a
    rw [List.getElem?_append_right (by rw [← h.1]; omega), ← h.1] at b
    exact k.2 _ u y a b
theorem Tps.one {H : Hp} {t : Addr} {c : List V} (h : H t = some (.tup c)) : Tps H [t] [c] := ⟨rfl, fun i u y a b => by
  cases i with
  | zero => cases a; cases b; exact h
  | succ i => simp at a⟩
theorem Tps.upd {H : Hp} {ts : List Addr} {cs : List (List V)} {l : Addr} {u o : HO} (h : Tps H ts cs) (hl : H l = some u) (hu : ∀ xs, u ≠ .tup xs) : Tps (upd H l o) ts cs := ⟨h.1, fun i t x a b => by
  have := h.2 i t x a b
  rw [upd_ne (ne_of this hl (fun z => hu _ z.symm))]
  exact this⟩
/-- a comprehension's list of new tuples -/
def LcT (H1 : Hp) (D : Addr) (cs : List (List V)) (H : Hp) : Prop := Same H1 H ∧ ∃ us : List Addr, H D = some (.lst (us.map V.ref)) ∧ Tps H us cs
theorem lct0 {H1 : Hp} {D : Addr} (hD : H1 D = none) : LcT H1 D [] (upd H1 D (.lst [])) := ⟨same_new hD, [], upd_same, Tps.nil⟩
theorem LcT.push {H1 H : Hp} {D t : Addr} {cs : List (List V)} {c : List V} (q : LcT H1 D cs H) (hD : H1 D = none) (ht : H t = none) (hl : cs.length ≤ 1000001) :
    ∃ acc, (upd H t (.tup c)) D = some (.lst acc) ∧ acc.length < sizeLine ∧ LcT H1 D (cs ++ [c]) (upd (upd H t (.tup c)) D (.lst (acc ++ [.ref t]))) := by
  obtain ⟨sm, us, hd, hu⟩ := q
  have s1 := same_new (o := .tup c) ht
  refine ⟨us.map V.ref, s1 _ _ hd, Nat.lt_of_le_of_lt (by rw [List.length_map, hu.1]; exact hl) (by decide), fun b o e => ?_, us ++ [t], ?_, ?_⟩
  · rw [upd_ne (ne_of_none e hD)]; exact s1 _ _ (sm _ _ e)
  · rw [List.map_append]; exact upd_same
  · exact ((hu.same s1).app2 (Tps.one upd_same)).upd (s1 _ _ hd) (fun xs z => nomatch z)
/-- what is wrong with four names -/
def selfAt (fs : List Str) (k : Nat) : Bool := match fs[k]? with | some x => decide (x ∈ fs.take k) | none => false
def wrongU (ns fs : List Str) : List (List V) := (fs.filter fun x => !decide (x ∈ ns)).map fun x => [V.str "unknown", .str x]
def wrongS (fs : List Str) (n : Nat) : List (List V) := ((List.range n).filter (selfAt fs)).map fun k => [V.str "same", .str (fs.getD k Str.empty)]
theorem wrong_u {ns fs : List Str} {z : Str} (h : unk ns fs = some z) (n : Nat) : (wrongU ns fs ++ wrongS fs n)[0]? = some [V.str "unknown", .str z] := by
  have e : (fs.filter fun x => !decide (x ∈ ns))[0]? = some z := by
    rw [← List.head?_eq_getElem?, List.head?_filter]; exact h
  have hl := (List.getElem?_eq_some_iff.mp e).1
  rw [List.getElem?_append_left (by unfold wrongU; rw [List.length_map]; exact hl)]
  unfold wrongU
  rw [List.getElem?_map, e]; rfl
theorem wrong_none {ns fs : List Str} (h : unk ns fs = none) : wrongU ns fs = [] := by
  unfold wrongU
  rw [List.map_eq_nil_iff, List.filter_eq_nil_iff]
  intro x hx
  simp [unk_none.mp h x hx]
theorem bad_self {ns fs : List Str} (h : unk ns fs = none) (k : Nat) : badAt ns fs k = selfAt fs k := by
  unfold badAt selfAt
  cases e : fs[k]? with
  | none => rfl
  | some x => simp [unk_none.mp h x (List.mem_of_getElem? e)]
theorem wrong_s {ns fs : List Str} {i : Nat} {z : Str} (h : unk ns fs = none) (hs : stray ns fs = some i) (hz : fs[i]? = some z) : (wrongU ns fs ++ wrongS fs fs.length)[0]? = some [V.str "same", .str z] := by
  rw [wrong_none h, List.nil_append]
  have e : ((List.range fs.length).filter (selfAt fs))[0]? = some i := by
    rw [← List.head?_eq_getElem?, List.head?_filter, ← hs]
    unfold stray
    congr 1
    funext k
    exact (bad_self h k).symm
  unfold wrongS
  rw [List.getElem?_map, e, Option.map_some, List.getD_eq_getElem?_getD, hz]; rfl
theorem wrong_nil {ns fs : List Str} (h : unk ns fs = none) (hs : stray ns fs = none) : wrongU ns fs ++ wrongS fs fs.length = [] := by
  rw [wrong_none h, List.nil_append]
  unfold wrongS
  rw [List.map_eq_nil_iff, List.filter_eq_nil_iff]
  intro k hk
  unfold stray at hs
  rw [List.find?_eq_none] at hs
  rw [← bad_self h]
  exact hs k hk
section
variable {P : Program} {w : World} {K : PySem.W.Frag} {mg : Str → Option Value} {base : Heap} {A : Ad}
theorem index_p {ns : List Str} {z : Str} (h : z ∈ ns) : (sv ns)[ixS ns z]? = some (.str z) ∧ eqV (.str z) (.str z) = true ∧ ∀ (m : Nat) z', m < ixS ns z → (sv ns)[m]? = some z' → eqV z' (.str z) = false := by
  obtain ⟨i, hi, hno⟩ := first_ix h
  rw [ixS_of hi hno]
  exact ⟨by rw [List.getElem?_map, hi]; rfl, by rw [eqV_str]; exact decide_eq_true rfl, fun m z' hm hz' => by
    obtain ⟨y, hy, rfl⟩ := sv_get hz'
    rw [eqV_str]
    exact decide_eq_false fun e => hno m hm (by rw [hy, e])⟩
theorem ixS_lt {ns : List Str} {z : Str} (h : z ∈ ns) : ixS ns z < ns.length := by
  obtain ⟨i, hi, hno⟩ := first_ix h
  rw [ixS_of hi hno]; exact (List.getElem?_eq_some_iff.mp hi).1
def aheadB (ns : List Str) (st one ot : Str) : Bool := decide (ixS (rotI ns (ixS ns st : Nat)) one < ixS (rotI ns (ixS ns st : Nat)) ot)
def spAhead (K : PySem.W.Frag) : Sp := fun vs H Q _ => ∃ l st one ot ns, vs = [.ref l, .str st, .str one, .str ot] ∧ SqL K H l (sv ns) ∧ ns.length ≤ 50 ∧ st ∈ ns ∧ one ∈ ns ∧ ot ∈ ns ∧ ∀ H', Same H H' → Q (.bl (aheadB ns st one ot)) H'
theorem ok_ahead (T : Txt P K mg A) : FnOk P w K mg base CX0 3 A.a_law_ahead A.d_law_ahead ["names", "start", "one", "other"] (spAhead K) := by
  have G_law_from := ok_from (P := P) (w := w) (base := base) T
  refine T.F_law_ahead.ok sc_law_ahead (fun vs H Q E h => ?_) (fun cdv A' outer s H vs Q E hr h => ?_)
  · obtain ⟨l, st, one, ot, ns, rfl, _⟩ := h
    rfl
  · obtain ⟨l, st, one, ot, ns, rfl, hL, hl, h1, h2, h3, k⟩ := h
    refine ⟨_, (pss_cons (ps_set (i := 4) sc_law_ahead.nd rfl (Or.inl rfl) (pe_call G_law_from (hr.mono (by decide)) rfl T.mg_law_from T.F_law_from.kp T.b_law_from .nil pass0 (pa_cons (pv 0) (pa_cons (pe_bm PySem.F.plainAttrs_list PySem.F.slot_list_index PySem.F.type_list_index mt_index (pv 0) (pa_cons (pv 1) pa_nil)) pa_nil))))
      (pss_one (ps_ret (pe_cmpR op_lt (pe_bm PySem.F.plainAttrs_list PySem.F.slot_list_index PySem.F.type_list_index mt_index (pv 4) (pa_cons (pv 2) pa_nil)) (pe_bm PySem.F.plainAttrs_list PySem.F.slot_list_index PySem.F.type_list_index mt_index (pv 4) (pa_cons (pv 3) pa_nil)) (nomark _))))), ?_⟩
    have hi := ixS_lt h1
    obtain ⟨a1, a2, a3⟩ := index_p h1
    refine ⟨_, rfl, _, rfl, .inl ⟨rfl, _, hL⟩, _, rfl, l, sv ns, .str st, _, .str st, rfl, rfl, hL, rfl, flat_sv _, a1, a2, a3, l, ns, _, rfl, hL, hl, by omega, fun a H1 s1 _ ha => ?_⟩
    have hp := rotI_perm ns ((ixS ns st : Nat) : Int)
    obtain ⟨b1, b2, b3⟩ := index_p (hp.mem_iff.mpr h2)
    obtain ⟨c1, c2, c3⟩ := index_p (hp.mem_iff.mpr h3)
    refine ⟨_, rfl, .inl ⟨rfl, _, SqL.of ha⟩, _, rfl, a, _, .str one, _, .str one, rfl, rfl, SqL.of ha, rfl, flat_sv _, b1, b2, b3, ?_⟩
    refine ⟨_, rfl, .inl ⟨rfl, _, SqL.of ha⟩, _, rfl, a, _, .str ot, _, .str ot, rfl, rfl, SqL.of ha, rfl, flat_sv _, c1, c2, c3, ?_⟩
    refine ⟨_, _, rfl, rfl, ?_⟩
    have e : decide (((ixS (rotI ns (ixS ns st : Nat)) one : Nat) : Int) < ((ixS (rotI ns (ixS ns st : Nat)) ot : Nat) : Int)) = aheadB ns st one ot := by
      unfold aheadB
      exact decide_eq_decide.mpr (by omega)
    dsimp only
    rw [e]
    exact k H1 s1
theorem mem_take_ix {l : List Str} {r : Str} {j : Nat} (h : r ∈ l) : r ∈ l.take j ↔ ixS l r < j := by
  obtain ⟨i, hi, hno⟩ := first_ix h
  rw [ixS_of hi hno]
  constructor
  · intro hm
    obtain ⟨m, hm', e⟩ := List.mem_take_iff_getElem.mp hm
    rcases Nat.lt_or_ge i j with q | q
    · exact q
    · exact absurd (by rw [List.getElem?_eq_getElem (by omega), e]) (hno m (by omega))
  · intro hlt
    obtain ⟨hl, e⟩ := List.getElem?_eq_some_iff.mp hi
    exact List.mem_take_iff_getElem.mpr ⟨i, by omega, e⟩
theorem ixS_cons {p r : Str} {l : List Str} (hne : r ≠ p) (h : r ∈ l) : ixS (p :: l) r = ixS l r + 1 := by
  obtain ⟨i, hi, hno⟩ := first_ix h
  rw [ixS_of hi hno]
  refine ixS_of (i := i + 1) (by simpa using hi) fun m hm => ?_
  cases m with
  | zero => intro z; exact hne (Option.some.inj z).symm
  | succ m => exact hno m (by omega)
theorem split_ahead {ns : List Str} {p q r s : Str} (hp : p ∈ ns) (hq : q ∈ ns) (hr : r ∈ ns) (hs : s ∈ ns) (nq : q ≠ p) (nr : r ≠ p) (ns' : s ≠ p) : splitB ns p q r s = (aheadB ns p r q != aheadB ns p s q) := by
  obtain ⟨i, hi, hno⟩ := first_ix hp
  have ei : ixS ns p = i := ixS_of hi hno
  obtain ⟨hil, ez⟩ := List.getElem?_eq_some_iff.mp hi
  have er : rotI ns (i : Int) = p :: aft ns i := by rw [aft_rot hil, ez]
  have mq := aft_mem hi hq nq
  have mr := aft_mem hi hr nr
  have ms := aft_mem hi hs ns'
  unfold splitB aheadB aheadS
  rw [ei, er, ixS_cons nq mq, ixS_cons nr mr, ixS_cons ns' ms]
  have e1 : decide (r ∈ (aft ns i).take (ixS (aft ns i) q)) = decide (ixS (aft ns i) r + 1 < ixS (aft ns i) q + 1) := decide_eq_decide.mpr ((mem_take_ix mr).trans (by omega))
  have e2 : decide (s ∈ (aft ns i).take (ixS (aft ns i) q)) = decide (ixS (aft ns i) s + 1 < ixS (aft ns i) q + 1) := decide_eq_decide.mpr ((mem_take_ix ms).trans (by omega))
  rw [e1, e2]
def spSplitsAre (C : Addr) (K : PySem.W.Frag) : Sp := fun vs H Q _ => ∃ o l f ns fs, vs = [.ref o, .ref l, .ref f] ∧ Rd C H o ns ∧ SqL K H l (sv ns) ∧ SqL K H f (sv fs) ∧ RingOk ns ∧ fs.length = 4 ∧ (∀ z ∈ fs, Good z) ∧ ∀ H', Same H H' → Q (.bl true) H'
theorem ok_splitsQ (T : Txt P K mg A) : FnOk P w K mg base CX0 5 A.a_Round_splits A.d_Round_splits ["self", "p", "q", "r", "s"] (fun vs H Q _ => spSplits A.C_Round A.C_UnknownColumn A.C_SameColumn vs H Q E0) := quiet (ok_splits T) fun _ _ _ _ h => h
theorem fldsR_splits (nt : Addr) : (fldsR nt).lookup ("splits" : Str) = none := by unfold fldsR; rw [lookup_putF, if_neg (by decide +kernel)]; rfl
theorem ok_splitsAre (T : Txt P K mg A) : FnOk P w K mg base CX0 9 A.a_law_splits_are A.d_law_splits_are ["ring", "names", "four"] (spSplitsAre A.C_Round K) := by
  have G_law_ahead := ok_ahead (P := P) (w := w) (base := base) T
  have GX_Round_splits := ok_splits (P := P) (w := w) (base := base) T
  refine T.F_law_splits_are.ok sc_law_splits_are (fun vs H Q E h => ?_) (fun cdv A' outer s H vs Q E hr h => ?_)
  · obtain ⟨o, l, f, ns, fs, rfl, _⟩ := h
    rfl
  · obtain ⟨o, l, f, ns, fs, rfl, hR, hL, hF, ok, h4, gf, k⟩ := h
    refine ⟨_, (pss_cons (ps_setLc (i := 3) (own := [("name", 10)]) (g := gName 10) (tt := _) rfl sc_law_splits_are.nd rfl rfl (sw_true rfl rfl rfl (by decide +kernel)) (pi_list (pv 2)) (blkOk_by (N := ["ring", "names", "four", "wrong", "found", "told", "kinds", "e", "one", "other", "name", "k"]) (sc := defScope s_law_splits_are) (by decide +kernel)) (fun _ _ _ _ _ => (pg_name (i := 10) sc_law_splits_are.nd rfl (Or.inl rfl))) (fun _ _ _ _ _ => (pts_one (pt_cmpR (show OpR _ _ (rIn K true) from op_notIn_seq) (pv 10) (pv 1) (by with_unfolding_all rfl)))) (fun _ _ _ _ _ => (pe_tup (pa_cons pe_str (pa_cons (pv 10) pa_nil)))))
      (pss_cons (ps_set (i := 3) sc_law_splits_are.nd rfl (Or.inl rfl) (pe_op op_cat (pv 3) (pe_lc (own := [("k", 11)]) (g := gName 11) (tt := _) rfl sc_law_splits_are.nd (pi_range1 (by rfl) T.n_range (pa_cons pe_int pa_nil)) (blkOk_by (N := ["ring", "names", "four", "wrong", "found", "told", "kinds", "e", "one", "other", "name", "k"]) (sc := defScope s_law_splits_are) (by decide +kernel)) (fun _ _ _ _ _ => (pg_name (i := 11) sc_law_splits_are.nd rfl (Or.inl rfl))) (fun _ _ _ _ _ => (pts_one (pt_cmpR (show OpR _ _ (rIn K false) from op_in_seq) (pe_ix (show IxR _ (rIxL K) from ix_list) (pv 2) (pv 11) (fun _ _ => rfl)) (pe_slice (show SlR _ (rSlL K) from sl_list) (pv 2) po_none (po_some (pv 11))) (by with_unfolding_all rfl)))) (fun _ _ _ _ _ => (pe_tup (pa_cons pe_str (pa_cons (pe_ix (show IxR _ (rIxL K) from ix_list) (pv 2) (pv 11) (fun _ _ => rfl)) pa_nil)))))))
      (pss_cons (ps_set (i := 4) sc_law_splits_are.nd rfl (Or.inl rfl) pe_non)
      (pss_cons (ps_set (i := 5) sc_law_splits_are.nd rfl (Or.inl rfl) pe_non)
      (pss_cons (ps_set (i := 6) sc_law_splits_are.nd rfl (Or.inl rfl) (pe_lst pa_nil))
      (pss_cons (ps_try_as_many (i := 7) (Wout := fun _ _ _ _ => False) rfl rfl sc_law_splits_are.nd rfl rfl takes0 (fun W pn xe tk _ => (pss_one (ps_set (i := 4) sc_law_splits_are.nd rfl (Or.inl rfl) (pe_methE (pv 0) T.cl_Round T.m_Round_splits GX_Round_splits (hr.mono (by decide)) T.b_Round_splits (fun σ => passAt tk σ) (pa_cons (pe_ix (show IxR _ (rIxL K) from ix_list) (pv 2) pe_int (fun _ _ => rfl)) (pa_cons (pe_ix (show IxR _ (rIxL K) from ix_list) (pv 2) pe_int (fun _ _ => rfl)) (pa_cons (pe_ix (show IxR _ (rIxL K) from ix_list) (pv 2) pe_int (fun _ _ => rfl)) (pa_cons (pe_ix (show IxR _ (rIxL K) from ix_list) (pv 2) pe_int (fun _ _ => rfl)) pa_nil)))))))) (.cons ⟨rfl, by decide, .inl T.mg_UnknownColumn⟩ (fun a oe cls d pn hz hf => (pss_cons (ps_set (i := 5) sc_law_splits_are.nd rfl (Or.inl rfl) (pe_tup (pa_cons pe_str (pa_cons (pe_xf T.xf_UnknownColumn T.xn_UnknownColumn_name hz hf (pv 7)) pa_nil))))
      (pss_one (ps_set (i := 6) sc_law_splits_are.nd rfl (Or.inl rfl) (pe_lst (pa_cons (pe_callB (call_isExD hz hf) (by rfl) T.n_isinstance (by decide +kernel) (pa_cons (pv 7) (pa_cons (pe_glob (v := .ref A.C_RowsError) rfl T.mg_RowsError rfl) pa_nil))) (pa_cons (pe_callB (call_isExD hz hf) (by rfl) T.n_isinstance (by decide +kernel) (pa_cons (pv 7) (pa_cons (pe_glob (v := .ref A.C_Unknown) rfl T.mg_Unknown rfl) pa_nil))) (pa_cons (pe_callB (call_isExD hz hf) (by rfl) T.n_isinstance (by decide +kernel) (pa_cons (pv 7) (pa_cons (pe_glob (v := .ref A.C_Impossible) rfl T.mg_Impossible rfl) pa_nil))) pa_nil)))))))) (.cons ⟨rfl, by decide, .inl T.mg_SameColumn⟩ (fun a oe cls d pn hz hf => (pss_cons (ps_set (i := 5) sc_law_splits_are.nd rfl (Or.inl rfl) (pe_tup (pa_cons pe_str (pa_cons (pe_xf T.xf_SameColumn T.xn_SameColumn_name hz hf (pv 7)) pa_nil))))
      (pss_one (ps_set (i := 6) sc_law_splits_are.nd rfl (Or.inl rfl) (pe_lst (pa_cons (pe_callB (call_isExD hz hf) (by rfl) T.n_isinstance (by decide +kernel) (pa_cons (pv 7) (pa_cons (pe_glob (v := .ref A.C_RowsError) rfl T.mg_RowsError rfl) pa_nil))) (pa_cons (pe_not (pe_callB (call_isExD hz hf) (by rfl) T.n_isinstance (by decide +kernel) (pa_cons (pv 7) (pa_cons (pe_glob (v := .ref A.C_Unknown) rfl T.mg_Unknown rfl) pa_nil)))) (pa_cons (pe_callB (call_isExD hz hf) (by rfl) T.n_isinstance (by decide +kernel) (pa_cons (pv 7) (pa_cons (pe_glob (v := .ref A.C_Impossible) rfl T.mg_Impossible rfl) pa_nil))) pa_nil)))))))) .nil)))
      (pss_cons (ps_if (pt_cmpR op_gt (pe_callB call_len_seq (by rfl) T.n_len (by decide +kernel) (pa_cons (pv 3) pa_nil)) pe_int (nomark _)) (pss_one (ps_ret (pe_and (pe_cmpR op_isN (pv 4) pe_non (nomark _)) (pe_and (pe_cmpR (op_eqD hr.units) (pv 5) (pe_ix ix_list (pv 3) pe_int (fun _ _ => rfl)) (nomark _)) (pe_one (pe_cmpR (op_eqD hr.units) (pv 6) (pe_lst (pa_cons pe_bl (pa_cons pe_bl (pa_cons pe_bl pa_nil)))) (nomark _))))))) pss_nil)
      (pss_cons (ps_set (i := 8) sc_law_splits_are.nd rfl (Or.inl rfl) (pe_call G_law_ahead (hr.mono (by decide)) rfl T.mg_law_ahead T.F_law_ahead.kp T.b_law_ahead .nil pass0 (pa_cons (pv 1) (pa_cons (pe_ix ix_list (pv 2) pe_int (fun _ _ => rfl)) (pa_cons (pe_ix ix_list (pv 2) pe_int (fun _ _ => rfl)) (pa_cons (pe_ix ix_list (pv 2) pe_int (fun _ _ => rfl)) pa_nil))))))
      (pss_cons (ps_set (i := 9) sc_law_splits_are.nd rfl (Or.inl rfl) (pe_call G_law_ahead (hr.mono (by decide)) rfl T.mg_law_ahead T.F_law_ahead.kp T.b_law_ahead .nil pass0 (pa_cons (pv 1) (pa_cons (pe_ix ix_list (pv 2) pe_int (fun _ _ => rfl)) (pa_cons (pe_ix ix_list (pv 2) pe_int (fun _ _ => rfl)) (pa_cons (pe_ix ix_list (pv 2) pe_int (fun _ _ => rfl)) pa_nil))))))
      (pss_one (ps_ret (pe_and (pe_callB call_isi (by rfl) T.n_isinstance (by decide +kernel) (pa_cons (pv 4) (pa_cons (pe_bltn (v := .ty "bool") (by rfl) T.n_bool (by decide +kernel) rfl) pa_nil))) (pe_one (pe_cmpR op_eq (pv 4) (pe_cmpR op_ne (pv 8) (pv 9) (nomark _)) (nomark _))))))))))))))), ?_⟩
    have hn12 := ok.n
    refine ⟨_, rfl, f, rfl, ⟨_, hF⟩, fun D hD => lc_it walk_list (fun i H2 => LcT H D (wrongU ns (fs.take i)) H2) (lct0 hD) (fun i H2 _ q => q.1.seq hF) ?_ ?_⟩
    · rintro i x H3 H4 hi q ⟨rfl, hx⟩
      obtain ⟨z, hz, rfl⟩ := sv_get hx
      rw [len_sv] at hi
      refine ⟨rfl, _, rfl, _, rfl, l, _, rfl, .inl (q.1.seq hL), rfl, flat_sv _, _, rfl, ?_⟩
      rw [if_pos (rfl : true = true), inV_str]
      have st : wrongU ns (fs.take (i + 1)) = wrongU ns (fs.take i) ++ if z ∈ ns then [] else [[V.str "unknown", .str z]] := by
        unfold wrongU
        rw [take_succ hz, List.filter_append, List.map_append]
        congr 1
        by_cases h : z ∈ ns <;> simp [h]
      by_cases hin : z ∈ ns
      · refine ifF (by rw [decide_eq_true hin]; rfl) ?_
        rw [if_pos hin, List.append_nil] at st
        rw [st]; exact q
      · refine ifT (by rw [decide_eq_false hin]; rfl) ⟨_, rfl, by show 2 ≤ sizeLine; decide, fun t ht => ?_⟩
        rw [if_neg hin] at st
        rw [st]
        refine q.push hD ht ?_
        unfold wrongU
        have := List.length_filter_le (fun x => !decide (x ∈ ns)) (fs.take i)
        rw [List.length_take] at this
        rw [List.length_map]; omega
    rintro H3 ⟨s3, us, hd3, hu3⟩
    rw [len_sv, List.take_length] at hu3
    obtain ⟨p, q, r, s', rfl⟩ : ∃ p q r s', fs = [p, q, r, s'] := by
      match fs, h4 with
      | [p, q, r, s'], _ => exact ⟨p, q, r, s', rfl⟩
    have atF : ∀ (j : Nat) (y : Str), [p, q, r, s'][j]? = some y → atI (sv [p, q, r, s']) (j : Int) = some (V.str y) := fun j y h => atI_nat (by rw [List.getElem?_map, h]; rfl)
    refine ⟨_, rfl, 4, rfl, by decide, by decide, fun D2 hD2 => lc_range (n := 4) (fun i H2 => LcT H3 D2 (wrongS [p, q, r, s'] i) H2) (lct0 hD2) ?_ ?_⟩
    · rintro j H5 hj g
      have s5 := s3.trans g.1
      have hj0 : (0 : Int) + (j : Int) = (j : Int) := by omega
      have hjl : j < [p, q, r, s'].length := hj
      have hz : [p, q, r, s'][j]? = some [p, q, r, s'][j] := List.getElem?_eq_getElem hjl
      have at1 : atI (sv [p, q, r, s']) (0 + (j : Int)) = some (V.str [p, q, r, s'][j]) := by rw [hj0]; exact atF j _ hz
      have st : wrongS [p, q, r, s'] (j + 1) = wrongS [p, q, r, s'] j ++ if [p, q, r, s'][j] ∈ [p, q, r, s'].take j then [[V.str "same", .str [p, q, r, s'][j]]] else [] := by
        unfold wrongS
        rw [List.range_succ, List.filter_append, List.map_append]
        congr 1
        have e : selfAt [p, q, r, s'] j = decide ([p, q, r, s'][j] ∈ [p, q, r, s'].take j) := by unfold selfAt; rw [hz]
        have e2 : [p, q, r, s'].getD j Str.empty = [p, q, r, s'][j] := by rw [List.getD_eq_getElem?_getD, hz]; rfl
        by_cases h : [p, q, r, s'][j] ∈ [p, q, r, s'].take j
        · rw [if_pos h, List.filter_cons_of_pos (by rw [e]; exact decide_eq_true h), List.filter_nil, List.map_cons, e2]; rfl
        · rw [if_neg h, List.filter_cons_of_neg (by rw [e, decide_eq_false h]; exact Bool.false_ne_true), List.filter_nil]; rfl
      refine ⟨rfl, _, rfl, _, rfl, f, _, _, _, rfl, rfl, s5.seq hF, at1, _, rfl, _, rfl, _, rfl, f, _, rfl, s5.seq hF, fun t ht => ?_⟩
      have ec : cutV (sv [p, q, r, s']) none (some (0 + (j : Int))) = sv ([p, q, r, s'].take j) := by rw [hj0, cut_take (by rw [len_sv]; omega), sv_take]
      rw [ec]
      have g2 : LcT H3 D2 (wrongS [p, q, r, s'] j) (upd H5 t (.lst (sv ([p, q, r, s'].take j)))) := by
        obtain ⟨g1, vs, v1, v2⟩ := g
        have st := same_new (o := .lst (sv ([p, q, r, s'].take j))) ht
        exact ⟨g1.trans st, vs, st _ _ v1, v2.same st⟩
      refine ⟨t, _, rfl, .inl (SqL.of upd_same), rfl, flat_sv _, _, rfl, ?_⟩
      rw [if_neg Bool.false_ne_true, inV_str]
      by_cases hm : [p, q, r, s'][j] ∈ [p, q, r, s'].take j
      · refine ifT (decide_eq_true hm) ⟨_, rfl, _, rfl, f, _, _, _, rfl, rfl, (s3.trans g2.1).seq hF, at1, by show 2 ≤ sizeLine; decide, fun t2 ht2 => ?_⟩
        rw [if_pos hm] at st
        rw [st]
        refine g2.push hD2 ht2 ?_
        unfold wrongS
        have := List.length_filter_le (selfAt [p, q, r, s']) (List.range j)
        rw [List.length_range] at this
        rw [List.length_map]; omega
      · refine ifF (decide_eq_false hm) ?_
        rw [if_neg hm, List.append_nil] at st
        rw [st]; exact g2
    rintro H5 ⟨s5, vs, hd5, hv5⟩
    have hv5 : Tps H5 vs (wrongS [p, q, r, s'] [p, q, r, s'].length) := hv5
    have hu5 := hu3.same s5
    have hd35 := s5 _ _ hd3
    have lW : ∀ {H : Hp} {ts : List Addr} {cs : List (List V)}, Tps H ts cs → (ts.map V.ref).length = cs.length := fun h => by rw [List.length_map, h.1]
    have wu : (wrongU ns [p, q, r, s']).length ≤ 4 := by
      unfold wrongU
      have := List.length_filter_le (fun x => !decide (x ∈ ns)) [p, q, r, s']
      rw [List.length_map]; exact this
    have ws : (wrongS [p, q, r, s'] [p, q, r, s'].length).length ≤ 4 := by
      unfold wrongS
      have := List.length_filter_le (selfAt [p, q, r, s']) (List.range [p, q, r, s'].length)
      rw [List.length_range] at this
      rw [List.length_map]; exact this
    refine ⟨D, D2, _, _, rfl, rfl, hd35, hd5, by rw [lW hu5, lW hv5]; exact Nat.le_trans (Nat.add_le_add wu ws) (by decide), fun W hW => ?_⟩
    have s6 := (s3.trans s5).trans (same_new (o := .lst (us.map V.ref ++ vs.map V.ref)) hW)
    have hW6 : upd H5 W (.lst (us.map V.ref ++ vs.map V.ref)) W = some (.lst ((us ++ vs).map V.ref)) := by rw [upd_same, List.map_append]
    have hT6 : Tps (upd H5 W (.lst (us.map V.ref ++ vs.map V.ref))) (us ++ vs) (wrongU ns [p, q, r, s'] ++ wrongS [p, q, r, s'] [p, q, r, s'].length) := (hu5.app2 hv5).same (same_new hW)
    generalize upd H5 W _ = H6 at s6 hW6 hT6 ⊢
    clear s3 s5 hd5 hd35 hd3 hu3 hu5 hv5
    generalize hts : us ++ vs = ts at hW6 hT6
    have head : ∀ (w z : Str), (wrongU ns [p, q, r, s'] ++ wrongS [p, q, r, s'] [p, q, r, s'].length)[0]? = some [V.str w, .str z] → 0 < (ts.map V.ref).length ∧ ∃ t0, atI (ts.map V.ref) 0 = some (V.ref t0) ∧ H6 t0 = some (.tup [V.str w, .str z]) := fun w z h => by
      have hl := (List.getElem?_eq_some_iff.mp h).1
      rw [← hT6.1] at hl
      exact ⟨by rw [List.length_map]; exact hl, ts[0], atI_nat (j := 0) (by rw [List.getElem?_map, List.getElem?_eq_getElem hl]; rfl), hT6.2 0 _ _ (List.getElem?_eq_getElem hl) h⟩
    have hR6 := hR.same s6
    have hF6 := s6.seq hF
    obtain ⟨dx, nt, hp, _⟩ := id hR6
    have gz : ∀ z ∈ [p, q, r, s'], z.length ≤ 1000 := fun z hz => Nat.le_trans (gf z hz).le (by decide)
    refine ⟨by show 0 ≤ sizeLine; decide, fun kd hkd => ?_⟩
    have s7 := same_new (o := .lst []) hkd
    have hR7 := hR6.same s7
    have hF7 := s7.seq hF6
    have hp7 := s7 _ _ hp
    refine ⟨_, rfl, o, _, _, rfl, hp7, fldsR_splits _, _, rfl, f, _, _, _, rfl, rfl, hF7, atF 0 p rfl, _, rfl, f, _, _, _, rfl, rfl, hF7, atF 1 q rfl, _, rfl, f, _, _, _, rfl, rfl, hF7, atF 2 r rfl, _, rfl, f, _, _, _, rfl, rfl, hF7, atF 3 s' rfl, o, p, q, r, s', ns, rfl, hR7, hn12, gz, fun hu hs H8 s8 => ?_, fun z hu d H8 s8 hd => ?_, fun i z hu hs hz d H8 s8 hd => ?_⟩
    · have s8 := s7.trans s8
      obtain ⟨hin, hnd⟩ := stray_none_iff.mp hs
      have hnil := wrong_nil hu hs
      have hl0 : (ts.map V.ref).length = 0 := by
        have := hT6.1
        rw [hnil] at this
        rw [List.length_map]; exact this
      refine ⟨_, rfl, W, _, rfl, .inl (SqL.of (s8 _ _ hW6)), _, _, rfl, rfl, _, rfl, itN (by omega) ?_⟩
      have mp := hin p (by simp)
      have mq := hin q (by simp)
      have mr := hin r (by simp)
      have ms := hin s' (by simp)
      have nd1 : q ≠ p ∧ r ≠ p ∧ s' ≠ p := by
        simp at hnd
        exact ⟨fun e => hnd.1.1 e.symm, fun e => hnd.1.2.1 e.symm, fun e => hnd.1.2.2 e.symm⟩
      have esp := split_ahead mp mq mr ms nd1.1 nd1.2.1 nd1.2.2
      have hF8 := s8.seq hF6
      refine ⟨_, rfl, _, rfl, f, _, _, _, rfl, rfl, hF8, atF 0 p rfl, _, rfl, f, _, _, _, rfl, rfl, hF8, atF 2 r rfl, _, rfl, f, _, _, _, rfl, rfl, hF8, atF 1 q rfl, l, p, r, q, ns, rfl, (s6.trans s8).seq hL, by omega, mp, mr, mq, fun H9 s9 => ?_⟩
      have s9 := s8.trans s9
      have hF9 := s9.seq hF6
      refine ⟨_, rfl, _, rfl, f, _, _, _, rfl, rfl, hF9, atF 0 p rfl, _, rfl, f, _, _, _, rfl, rfl, hF9, atF 3 s' rfl, _, rfl, f, _, _, _, rfl, rfl, hF9, atF 1 q rfl, l, p, s', q, ns, rfl, (s6.trans s9).seq hL, by omega, mp, ms, mq, fun H10 s10 => ?_⟩
      refine ⟨_, rfl, _, _, _, _, true, rfl, .ty _, .base (.bl _), kit_ty (by decide +kernel), true, rfl, iteT ?_⟩
      refine ⟨_, rfl, _, rfl, _, rfl, rfl, rfl, ?_⟩
      rw [ne_bne, ← esp, pEq rfl]
      exact k _ (s6.trans (s9.trans s10))
    · have s8 := s7.trans s8
      obtain ⟨hl, t0, a0, ht0⟩ := head "unknown" z (wrong_u hu _)
      refine ⟨true, exm_self T.bp_UnknownColumn T.ic_UnknownColumn T.tp_UnknownColumn T.ss_UnknownColumn, fun _ e he => ?_, fun q => nomatch q⟩
      have k1 : PySem.W.kitOne K (.ref A.C_UnknownColumn) (.ref A.C_RowsError) = some true := kit_own T.ic_RowsError T.tp_RowsError T.su_UnknownColumn_RowsError (.inr rfl)
      have k3 : PySem.W.kitOne K (.ref A.C_UnknownColumn) (.ref A.C_Unknown) = some true := kit_own T.ic_Unknown T.tp_Unknown T.su_UnknownColumn_Unknown (.inr rfl)
      have k4 : PySem.W.kitOne K (.ref A.C_UnknownColumn) (.ref A.C_Impossible) = some false := kit_F T.ic_Impossible T.tp_Impossible T.su_UnknownColumn_Impossible T.ss_UnknownColumn
      refine ⟨_, rfl, rfl, rfl, d, _, _, rfl, hd, rfl, by show 2 ≤ sizeLine; decide, fun t ht => ?_⟩
      have hd9 := same_new (o := .tup [V.str "unknown", .str z]) ht _ _ hd
      have s9 := s8.trans (same_new (o := .tup [V.str "unknown", .str z]) ht)
      have ht9 := upd_same (H := H8) (a := t) (o := .tup [V.str "unknown", .str z])
      generalize upd H8 t _ = H9 at hd9 s9 ht9 ⊢
      refine ⟨_, rfl, _, _, _, rfl, rfl, hd9, T.ec_UnknownColumn, _, _, true, rfl, fun _ h => h, k1, ?_⟩
      refine ⟨_, rfl, _, _, _, rfl, rfl, hd9, T.ec_UnknownColumn, _, _, true, rfl, fun _ h => h, k3, ?_⟩
      refine ⟨_, rfl, _, _, _, rfl, rfl, hd9, T.ec_UnknownColumn, _, _, false, rfl, fun _ h => h, k4, ?_⟩
      refine ⟨by show 3 ≤ sizeLine; decide, fun kk hkk => ?_⟩
      have s10 := same_new (o := .lst [V.bl true, .bl true, .bl false]) hkk
      have hk10 := upd_same (H := H9) (a := kk) (o := .lst [V.bl true, .bl true, .bl false])
      generalize upd H9 kk _ = H10 at s10 hk10 ⊢
      have s610 := s9.trans s10
      have ht10 := s10 _ _ ht9
      refine ⟨_, rfl, W, _, rfl, .inl (SqL.of (s610 _ _ hW6)), _, _, rfl, rfl, _, rfl, itY (by omega) ?_⟩
      refine ⟨_, rfl, rfl, _, rfl, itY rfl ?_⟩
      have gz' := gf z (unk_mem hu).1
      have gw : Good "unknown" := okName_iff.mp (by decide +kernel)
      have lay : SeqAt.shaped (.tuple (pd ["unknown", z])) = true := shaped_pdT fun y hy => by
        rcases List.mem_cons.mp hy with rfl | hy
        · exact okz_good gw
        · rw [List.mem_singleton.mp hy]; exact okz_good gz'
      refine ⟨_, rfl, _, rfl, W, _, _, _, rfl, rfl, SqL.of (s610 _ _ hW6), a0, .tuple (pd ["unknown", z]), .tuple (pd ["unknown", z]), .tup (xs := sv ["unknown", z]) (SqT.of ht10) (dp_pd _), .tup (xs := sv ["unknown", z]) (SqT.of (s610 _ _ ht0)) (dp_pd _), lay, lay, _, rfl, ifT (by rw [eqv_T]; exact decide_eq_true rfl) ?_⟩
      refine ⟨_, rfl, by show 3 ≤ sizeLine; decide, fun k2 hk2 => ?_⟩
      have s11 := same_new (o := .lst [V.bl true, .bl true, .bl false]) hk2
      refine ⟨.list [.bool true, .bool true, .bool false], .list [.bool true, .bool true, .bool false], .lst (SqL.of (s11 _ _ hk10)) (dpAll_bl [true, true, false]), .lst (SqL.of upd_same) (dpAll_bl [true, true, false]), by decide, by decide, ?_⟩
      rw [show PyData.eqv (.list [.bool true, .bool true, .bool false]) (.list [.bool true, .bool true, .bool false]) = true by decide]
      exact k _ (s6.trans (s610.trans s11))
    · have s8 := s7.trans s8
      obtain ⟨hl, t0, a0, ht0⟩ := head "same" z (wrong_s hu hs hz)
      refine ⟨false, exm_F T.bp_UnknownColumn T.ic_UnknownColumn T.tp_UnknownColumn T.su_SameColumn_UnknownColumn, fun q => absurd q Bool.false_ne_true, fun _ => ?_⟩
      refine ⟨true, exm_self T.bp_SameColumn T.ic_SameColumn T.tp_SameColumn T.ss_SameColumn, fun _ e he => ?_, fun q => nomatch q⟩
      have k1 : PySem.W.kitOne K (.ref A.C_SameColumn) (.ref A.C_RowsError) = some true := kit_own T.ic_RowsError T.tp_RowsError T.su_SameColumn_RowsError (.inr rfl)
      have k3 : PySem.W.kitOne K (.ref A.C_SameColumn) (.ref A.C_Unknown) = some false := kit_F T.ic_Unknown T.tp_Unknown T.su_SameColumn_Unknown T.ss_SameColumn
      have k4 : PySem.W.kitOne K (.ref A.C_SameColumn) (.ref A.C_Impossible) = some false := kit_F T.ic_Impossible T.tp_Impossible T.su_SameColumn_Impossible T.ss_SameColumn
      refine ⟨_, rfl, rfl, rfl, d, _, _, rfl, hd, rfl, by show 2 ≤ sizeLine; decide, fun t ht => ?_⟩
      have hd9 := same_new (o := .tup [V.str "same", .str z]) ht _ _ hd
      have s9 := s8.trans (same_new (o := .tup [V.str "same", .str z]) ht)
      have ht9 := upd_same (H := H8) (a := t) (o := .tup [V.str "same", .str z])
      generalize upd H8 t _ = H9 at hd9 s9 ht9 ⊢
      refine ⟨_, rfl, _, _, _, rfl, rfl, hd9, T.ec_SameColumn, _, _, true, rfl, fun _ h => h, k1, ?_⟩
      refine ⟨_, rfl, _, _, _, rfl, rfl, hd9, T.ec_SameColumn, _, _, false, rfl, fun _ h => h, k3, _, rfl, ?_⟩
      refine ⟨_, rfl, _, _, _, rfl, rfl, hd9, T.ec_SameColumn, _, _, false, rfl, fun _ h => h, k4, ?_⟩
      refine ⟨by show 3 ≤ sizeLine; decide, fun kk hkk => ?_⟩
      rw [show (!false) = true from rfl]
      have s10 := same_new (o := .lst [V.bl true, .bl true, .bl false]) hkk
      have hk10 := upd_same (H := H9) (a := kk) (o := .lst [V.bl true, .bl true, .bl false])
      generalize upd H9 kk _ = H10 at s10 hk10 ⊢
      have s610 := s9.trans s10
      have ht10 := s10 _ _ ht9
      refine ⟨_, rfl, W, _, rfl, .inl (SqL.of (s610 _ _ hW6)), _, _, rfl, rfl, _, rfl, itY (by omega) ?_⟩
      refine ⟨_, rfl, rfl, _, rfl, itY rfl ?_⟩
      have gz' := gf z (List.mem_of_getElem? hz)
      have gw : Good "same" := okName_iff.mp (by decide +kernel)
      have lay : SeqAt.shaped (.tuple (pd ["same", z])) = true := shaped_pdT fun y hy => by
        rcases List.mem_cons.mp hy with rfl | hy
        · exact okz_good gw
        · rw [List.mem_singleton.mp hy]; exact okz_good gz'
      refine ⟨_, rfl, _, rfl, W, _, _, _, rfl, rfl, SqL.of (s610 _ _ hW6), a0, .tuple (pd ["same", z]), .tuple (pd ["same", z]), .tup (xs := sv ["same", z]) (SqT.of ht10) (dp_pd _), .tup (xs := sv ["same", z]) (SqT.of (s610 _ _ ht0)) (dp_pd _), lay, lay, _, rfl, ifT (by rw [eqv_T]; exact decide_eq_true rfl) ?_⟩
      refine ⟨_, rfl, by show 3 ≤ sizeLine; decide, fun k2 hk2 => ?_⟩
      have s11 := same_new (o := .lst [V.bl true, .bl true, .bl false]) hk2
      refine ⟨.list [.bool true, .bool true, .bool false], .list [.bool true, .bool true, .bool false], .lst (SqL.of (s11 _ _ hk10)) (dpAll_bl [true, true, false]), .lst (SqL.of upd_same) (dpAll_bl [true, true, false]), by decide, by decide, ?_⟩
      rw [show PyData.eqv (.list [.bool true, .bool true, .bool false]) (.list [.bool true, .bool true, .bool false]) = true by decide]
      exact k _ (s6.trans (s610.trans s11))
end
end My
set_option maxRecDepth 100000
set_option maxHeartbeats 4000000
set_option exponentiation.threshold 10000
namespace My
open PySem L2
open C8 (pss_cut)
/-- the first bad name ahead of the k-th -/
def badTo (ns : List Str) (k : Nat) : Option Nat := (List.range k).find? (badName ns)
theorem badTo_succ (ns : List Str) (k : Nat) : badTo ns (k + 1) = match badTo ns k with | some i => some i | none => if badName ns k = true then some k else none := by
  unfold badTo
  rw [List.range_succ, List.find?_append]
  cases h : (List.range k).find? (badName ns) with
  | some i => rfl
  | none =>
    simp only [Option.none_or, List.find?_singleton]
section
variable {P : Program} {w : World} {K : PySem.W.Frag} {mg : Str → Option Value} {base : Heap} {A : Ad}
def spRef (K : PySem.W.Frag) : Sp := fun vs H Q _ => ∃ l ns, vs = [.ref l] ∧ SqL K H l (sv ns) ∧ ns.length ≤ 1000 ∧ (∀ z ∈ ns, Okz z ∧ z.length ≤ 1000) ∧ ∀ H', Same H H' → Q (.bl true) H'
theorem ok_refused (T : Txt P K mg A) : FnOk P w K mg base CX0 9 A.a_law_refused A.d_law_refused ["names"] (spRef K) := by
  have GX_Round_init := ok_initX (P := P) (w := w) (base := base) T
  have G_Round_iter := ok_iter (P := P) (w := w) (base := base) T
  have G_Round_len := ok_len (P := P) (w := w) (base := base) T
  refine T.F_law_refused.ok sc_law_refused (fun vs H Q E h => ?_) (fun cdv A' outer s H vs Q E hr h => ?_)
  · obtain ⟨l, ns, rfl, _⟩ := h
    rfl
  · obtain ⟨l, ns, rfl, hL, hl, hz, k⟩ := h
    refine ⟨_, (pss_cons (ps_set (i := 1) sc_law_refused.nd rfl (Or.inl rfl) pe_non)
      (pss_cons (ps_for PassesOwn.never rfl (pi_range1 (by rfl) T.n_range (pa_cons (pe_callB call_len_seq (by rfl) T.n_len (by decide +kernel) (pa_cons (pv 0) pa_nil)) pa_nil)) (pg_name (i := 2) sc_law_refused.nd rfl (Or.inl rfl))
        (pss_cons (ps_set (i := 3) sc_law_refused.nd rfl (Or.inl rfl) (pe_ix ix_list (pv 0) (pv 2) (fun _ _ => rfl)))
      (pss_cut (ps_set (i := 4) sc_law_refused.nd rfl (Or.inl rfl) (pe_and (pe_cmpR op_eq (pe_bm PySem.F.plainAttrs_str PySem.F.slot_str_strip PySem.F.type_str_strip mt_stripChars (pv 3) (pa_cons pe_str pa_nil)) pe_str (nomark _)) (pe_and (pe_cmpR op_lt pe_int (pe_callB call_len_str (by rfl) T.n_len (by decide +kernel) (pa_cons (pv 3) pa_nil)) (nomark _)) (pe_one (pe_cmpR op_lt (pe_callB call_len_str (by rfl) T.n_len (by decide +kernel) (pa_cons (pv 3) pa_nil)) pe_int (nomark _))))))
      (pss_one (ps_if (PW.pt (pw_and (pt_cmpR op_isN (pv 1) pe_non (nomark _)) (pw_and1 (PW.pt (pw_or (pt_not (pt_val (pv 4))) (pw_or1 (pt_cmpR op_in_seq (pv 3) (pe_slice sl_list (pv 0) po_none (po_some (pv 2))) (by with_unfolding_all rfl)))))))) (pss_one (ps_set (i := 1) sc_law_refused.nd rfl (Or.inl rfl) (pv 2))) pss_nil)))))
      (pss_cut (ps_if (PW.pt (pw_and (pt_cmpR op_isN (pv 1) pe_non (nomark _)) (pw_and1 (pt_cmpR op_gt (pe_callB call_len_seq (by rfl) T.n_len (by decide +kernel) (pa_cons (pv 0) pa_nil)) pe_int (nomark _))))) (pss_one (ps_set (i := 1) sc_law_refused.nd rfl (Or.inl rfl) pe_int)) pss_nil)
      (pss_cons (ps_set (i := 5) sc_law_refused.nd rfl (Or.inl rfl) (pe_callTy call_list_of (by rfl) T.n_list (by decide +kernel) (pa_cons (pv 0) pa_nil)))
      (pss_cons (ps_set (i := 6) sc_law_refused.nd rfl (Or.inl rfl) pe_non)
      (pss_cons (ps_set (i := 7) sc_law_refused.nd rfl (Or.inl rfl) pe_non)
      (pss_cons (ps_set (i := 8) sc_law_refused.nd rfl (Or.inl rfl) (pe_lst pa_nil))
      (pss_cons (ps_try_as (i := 9) (Wout := fun _ _ _ _ => False) rfl rfl sc_law_refused.nd rfl rfl ⟨rfl, by decide, .inl T.mg_BadRound⟩ takes0 (fun W pn xe tk _ => (pss_one (ps_set (i := 6) sc_law_refused.nd rfl (Or.inl rfl) (pe_makeS T.mk_Round GX_Round_init (hr.mono (by decide)) rfl T.mg_Round T.b_Round_init (fun σ => passAt tk σ) (pa_cons (pv 5) pa_nil))))) (fun a oe cls d pn hz hf => (pss_cons (ps_set (i := 7) sc_law_refused.nd rfl (Or.inl rfl) (pe_xf T.xf_BadRound T.xn_BadRound_index hz hf (pv 9)))
      (pss_one (ps_set (i := 8) sc_law_refused.nd rfl (Or.inl rfl) (pe_lst (pa_cons (pe_callB (call_isExD hz hf) (by rfl) T.n_isinstance (by decide +kernel) (pa_cons (pv 9) (pa_cons (pe_glob (v := .ref A.C_RowsError) rfl T.mg_RowsError rfl) pa_nil))) (pa_cons (pe_callB (call_isExD hz hf) (by rfl) T.n_isinstance (by decide +kernel) (pa_cons (pv 9) (pa_cons (pe_bltn (v := .ty "ValueError") (by rfl) T.n_ValueError (by decide +kernel) rfl) pa_nil))) (pa_cons (pe_callB (call_isExD hz hf) (by rfl) T.n_isinstance (by decide +kernel) (pa_cons (pv 9) (pa_cons (pe_glob (v := .ref A.C_Unknown) rfl T.mg_Unknown rfl) pa_nil))) (pa_cons (pe_callB (call_isExD hz hf) (by rfl) T.n_isinstance (by decide +kernel) (pa_cons (pv 9) (pa_cons (pe_glob (v := .ref A.C_Impossible) rfl T.mg_Impossible rfl) pa_nil))) pa_nil))))))))))
      (pss_cons (ps_if (pt_cmpR (op_neD hr.units) (pv 5) (pv 0) (nomark _)) (pss_one (ps_ret pe_bl)) pss_nil)
      (pss_cons (ps_if (pt_cmpR op_isN (pv 1) pe_non (nomark _)) (pss_one (ps_ret (pe_and (pe_cmpR op_notN (pv 6) pe_non (nomark _)) (pe_one (pe_cmpR (op_eqD hr.units) (pe_callTy (call_listItR (EL := E0) ⟨T.m_Round_iter.at_, T.m_Round_iter.fn, T.m_Round_len.at_, T.m_Round_len.fn⟩ G_Round_iter T.b_Round_iter pass0 G_Round_len T.b_Round_len (hr.mono (by decide))) (by rfl) T.n_list (by decide +kernel) (pa_cons (pv 6) pa_nil)) (pv 0) (nomark _)))))) pss_nil)
      (pss_cons (ps_if (PW.pt (pw_or (pt_cmpR op_notN (pv 6) pe_non (nomark _)) (pw_or1 (pt_cmpR (op_neD hr.units) (pv 8) (pe_lst (pa_cons pe_bl (pa_cons pe_bl (pa_cons pe_bl (pa_cons pe_bl pa_nil))))) (nomark _))))) (pss_one (ps_ret pe_bl)) pss_nil)
      (pss_one (ps_ret (pe_and (pe_callB call_isi (by rfl) T.n_isinstance (by decide +kernel) (pa_cons (pv 7) (pa_cons (pe_bltn (v := .ty "int") (by rfl) T.n_int (by decide +kernel) rfl) pa_nil))) (pe_and (pe_not (pe_callB call_isi (by rfl) T.n_isinstance (by decide +kernel) (pa_cons (pv 7) (pa_cons (pe_bltn (v := .ty "bool") (by rfl) T.n_bool (by decide +kernel) rfl) pa_nil)))) (pe_one (pe_cmpR op_eq (pv 7) (pv 1) (nomark _)))))))))))))))))), ?_⟩
    have eN : (((sv ns).length : Nat) : Int).toNat = ns.length := by rw [len_sv]; omega
    refine ⟨_, rfl, l, _, rfl, .inl hL, _, rfl, by omega, by rw [len_sv]; omega, ?_⟩
    refine for_range (n := (((sv ns).length : Nat) : Int).toNat) (fun j σ H2 => Same H H2 ∧ ∃ u2 u3 u4 : Option V, σ = [some (.ref l), some (optV (badTo ns j)), u2, u3, u4, none, none, none, none, none]) ⟨Same.refl _, none, none, none, rfl⟩ ?_ ?_
    · rintro j σ H2 hj ⟨s2, u2, u3, u4, rfl⟩
      rw [eN] at hj
      have hj0 : (0 : Int) + (j : Int) = (j : Int) := by omega
      have hzj : ns[j]? = some ns[j] := List.getElem?_eq_getElem hj
      have at1 : atI (sv ns) (0 + (j : Int)) = some (V.str ns[j]) := by rw [hj0]; exact atI_nat (by rw [List.getElem?_map, hzj]; rfl)
      obtain ⟨oz, lz⟩ := hz ns[j] (List.getElem_mem hj)
      refine ⟨_, rfl, _, rfl, l, _, _, _, rfl, rfl, s2.seq hL, at1, ?_⟩
      refine ⟨fun σ H3 => Same H H3 ∧ σ = [some (.ref l), some (optV (badTo ns j)), some (.int (0 + (j : Int))), some (.str ns[j]), some (.bl (okName ns[j])), none, none, none, none, none], ?_, ?_⟩
      · have no : ¬ (Txt.stripChars ns[j] "abcdefghijklmnopqrstuvwxyz" = ("" : Str) ∧ (0 < ns[j].length ∧ ns[j].length < 9)) → okName ns[j] = false := fun h => by
          cases e : okName ns[j] with
          | false => rfl
          | true => exact absurd (okName_and.mp e) h
        have lz' : ns[j].length ≤ sizeLine := Nat.le_trans lz (by decide)
        refine ⟨_, rfl, rfl, ns[j], _, rfl, rfl, lz', rfl, _, rfl, ?_⟩
        by_cases h1 : Txt.stripChars ns[j] "abcdefghijklmnopqrstuvwxyz" = ("" : Str)
        · refine ifT (decide_eq_true (congrArg V.str h1)) ?_
          refine ⟨_, rfl, ns[j], rfl, lz', _, _, rfl, rfl, _, rfl, ?_⟩
          by_cases h2 : 0 < ns[j].length
          · refine itY (by omega) ⟨_, rfl, ns[j], rfl, lz', _, _, rfl, rfl, s2, ?_⟩
            by_cases h3 : ns[j].length < 9
            · dsimp only
              rw [show okName ns[j] = true from okName_and.mpr ⟨h1, h2, h3⟩, decide_eq_true (show (ns[j].length : Int) < 9 by omega)]; rfl
            · dsimp only
              rw [no fun h => h3 h.2.2, decide_eq_false (show ¬ (ns[j].length : Int) < 9 by omega)]; rfl
          · refine itN (by omega) ⟨s2, ?_⟩
            rw [no fun h => h2 h.2.1]; rfl
        · refine ifF (decide_eq_false fun e => h1 (V.str.inj e)) ⟨s2, ?_⟩
          rw [no fun h => h1 h.1]; rfl
      · rintro σ H3 ⟨s3, rfl⟩
        have hs := badTo_succ ns j
        refine ⟨_, rfl, rfl, _, rfl, ?_⟩
        cases hb : badTo ns j with
        | some i =>
          rw [hb] at hs
          refine itN (fun z => nomatch z) (iteF ⟨s3, some (.int (0 + (j : Int))), some (.str ns[j]), some (.bl (okName ns[j])), ?_⟩)
          rw [hs]
        | none =>
          rw [hb] at hs
          have hs : badTo ns (j + 1) = if badName ns j = true then some j else none := hs
          have eb : badName ns j = (!okName ns[j] || decide (ns[j] ∈ ns.take j)) := by unfold badName; rw [hzj]
          refine itY rfl ⟨_, rfl, _, rfl, ?_⟩
          cases ho : okName ns[j] with
          | false =>
            rw [ho] at eb
            rw [if_pos (by rw [eb]; rfl)] at hs
            refine iteT (iteT ⟨_, rfl, s3, some (.int (0 + (j : Int))), some (.str ns[j]), some (.bl false), ?_⟩)
            rw [hs, hj0]; rfl
          | true =>
            rw [ho] at eb
            refine iteF ⟨_, rfl, _, rfl, _, rfl, _, rfl, l, _, rfl, s3.seq hL, fun t ht => ?_⟩
            rw [hj0, cut_take (by rw [len_sv]; omega), sv_take]
            have s4 := s3.trans (same_new (o := .lst (sv (ns.take j))) ht)
            refine ⟨t, _, rfl, .inl (SqL.of upd_same), rfl, flat_sv _, _, rfl, ?_⟩
            rw [if_neg Bool.false_ne_true, inV_str]
            by_cases hm : ns[j] ∈ ns.take j
            · rw [if_pos (by rw [eb, decide_eq_true hm]; rfl)] at hs
              refine ifT (decide_eq_true hm) ⟨_, rfl, s4, some (.int (0 + (j : Int))), some (.str ns[j]), some (.bl true), ?_⟩
              rw [hs, hj0]; rfl
            · rw [if_neg (by rw [eb, decide_eq_false hm]; exact Bool.false_ne_true)] at hs
              refine ifF (decide_eq_false hm) ⟨s4, some (.int (j : Int)), some (.str ns[j]), some (.bl true), ?_⟩
              rw [hs]
    · rintro σ H2 ⟨s2, u2, u3, u4, rfl⟩
      have ef : badTo ns (((sv ns).length : Nat) : Int).toNat = firstBad ns := by rw [eN]; rfl
      rw [ef]
      refine ⟨fun σ H3 => Same H H3 ∧ σ = [some (.ref l), some (optV (ringFault ns)), u2, u3, u4, none, none, none, none, none], ?_, ?_⟩
      · refine ⟨_, rfl, rfl, _, rfl, ?_⟩
        have er : ringFault ns = match firstBad ns with | some i => some i | none => if 12 < ns.length then some 12 else none := rfl
        cases hb : firstBad ns with
        | some i =>
          rw [hb] at er
          refine itN (fun z => nomatch z) (iteF ⟨s2, ?_⟩)
          rw [er]
        | none =>
          rw [hb] at er
          have er : ringFault ns = if 12 < ns.length then some 12 else none := er
          refine itY rfl ⟨_, rfl, l, _, rfl, .inl (s2.seq hL), _, _, rfl, rfl, _, rfl, ?_⟩
          by_cases h12 : 12 < ns.length
          · rw [if_pos h12] at er
            refine itY (by rw [len_sv]; omega) ⟨s2, ?_⟩
            rw [er]; rfl
          · rw [if_neg h12] at er
            refine itN (by rw [len_sv]; omega) ⟨s2, ?_⟩
            rw [er]
      · rintro σ H3 ⟨s3, rfl⟩
        refine ⟨_, rfl, l, _, rfl, .inl (s3.seq hL), fun g hg => ?_⟩
        have s4 := s3.trans (same_new (o := .lst (sv ns)) hg)
        have hg4 := upd_same (H := H3) (a := g) (o := .lst (sv ns))
        generalize upd H3 g _ = H4 at s4 hg4 ⊢
        refine ⟨by show 0 ≤ sizeLine; decide, fun kd hkd => ?_⟩
        have s5 := same_new (o := .lst []) hkd
        have hg5 := s5 _ _ hg4
        have hkd5 := upd_same (H := H4) (a := kd) (o := .lst [])
        generalize upd H4 kd _ = H5 at s5 hg5 hkd5 ⊢
        have s5 := s4.trans s5
        have oz : ∀ z ∈ ns, Okz z := fun z h => (hz z h).1
        refine ⟨_, rfl, fun x dx hx hdx hne => ?_⟩
        have t1 := same_new (o := .own x) hdx
        have hx1 : upd H5 dx (.own x) x = none := by rw [upd_ne hne.symm]; exact hx
        have t2 : Same H5 (upd (upd H5 dx (.own x)) x (.ins A.C_Round dx [])) := t1.trans (same_new hx1)
        refine ⟨x, g, dx, ns, rfl, upd_same, .inl (t2.seq (SqL.of hg5)), fun z h => Nat.le_trans (hz z h).2 (by decide), hl, fun hok H6 hk hR => ⟨rfl, ?_⟩, fun i hi d H6 s6 hd => ?_⟩
        · have s6 : Same H5 H6 := fun b o e => hk b o (ne_of_none e hx) (t2 _ _ e)
          have s56 := s5.trans s6
          have ok := ringFault_none.mp hok
          rw [hok]
          refine ⟨_, rfl, _, rfl, .list (pd ns), .list (pd ns), .lst (xs := sv ns) (SqL.of (s6 _ _ hg5)) (dp_pd _), .lst (xs := sv ns) (s56.seq hL) (dp_pd _), shaped_pd oz, shaped_pd oz, _, rfl, ifF (by rw [eqv_pd oz]; rfl) ?_⟩
          refine ⟨_, rfl, rfl, _, rfl, itY rfl ?_⟩
          refine ⟨_, rfl, rfl, _, rfl, itNeN (fun z => nomatch z) ?_⟩
          refine ⟨_, rfl, ?_⟩
          dsimp only [tNil]
          refine lst_ring hR (by have := ok.n; omega) fun q H7 s7 _ hq => ?_
          refine ⟨_, rfl, .list (pd ns), .list (pd ns), .lst (xs := sv ns) (SqL.of hq) (dp_pd _), .lst (xs := sv ns) ((s56.trans s7).seq hL) (dp_pd _), shaped_pd oz, shaped_pd oz, ?_⟩
          rw [eqv_pd oz]
          exact k _ (s56.trans s7)
        · have s6 := t2.trans s6
          have s56 := s5.trans s6
          refine ⟨true, exm_self T.bp_BadRound T.ic_BadRound T.tp_BadRound T.ss_BadRound, fun _ e he => ?_, fun q => nomatch q⟩
          have k1 : PySem.W.kitOne K (.ref A.C_BadRound) (.ref A.C_RowsError) = some true := kit_own T.ic_RowsError T.tp_RowsError T.su_BadRound_RowsError (.inr rfl)
          have k2 : PySem.W.kitOne K (.ref A.C_BadRound) (.type "ValueError") = some true := kit_ownT (by decide +kernel) T.sv_BadRound
          have k3 : PySem.W.kitOne K (.ref A.C_BadRound) (.ref A.C_Unknown) = some false := kit_F T.ic_Unknown T.tp_Unknown T.su_BadRound_Unknown T.ss_BadRound
          have k4 : PySem.W.kitOne K (.ref A.C_BadRound) (.ref A.C_Impossible) = some false := kit_F T.ic_Impossible T.tp_Impossible T.su_BadRound_Impossible T.ss_BadRound
          refine ⟨_, rfl, rfl, rfl, d, _, _, rfl, hd, rfl, ?_⟩
          refine ⟨_, rfl, _, _, _, rfl, rfl, hd, T.ec_BadRound, _, _, true, rfl, fun _ h => h, k1, ?_⟩
          refine ⟨_, rfl, _, _, _, rfl, rfl, hd, T.ec_BadRound, _, _, true, rfl, fun _ h => h, k2, ?_⟩
          refine ⟨_, rfl, _, _, _, rfl, rfl, hd, T.ec_BadRound, _, _, false, rfl, fun _ h => h, k3, ?_⟩
          refine ⟨_, rfl, _, _, _, rfl, rfl, hd, T.ec_BadRound, _, _, false, rfl, fun _ h => h, k4, ?_⟩
          refine ⟨by show 4 ≤ sizeLine; decide, fun t ht => ?_⟩
          have s7 := s6.trans (same_new (o := .lst [V.bl true, .bl true, .bl false, .bl false]) ht)
          have ht7 := upd_same (H := H6) (a := t) (o := .lst [V.bl true, .bl true, .bl false, .bl false])
          generalize upd H6 t _ = H7 at s7 ht7 ⊢
          have s57 := s5.trans s7
          rw [hi]
          refine ⟨_, rfl, _, rfl, .list (pd ns), .list (pd ns), .lst (xs := sv ns) (SqL.of (s7 _ _ hg5)) (dp_pd _), .lst (xs := sv ns) (s57.seq hL) (dp_pd _), shaped_pd oz, shaped_pd oz, _, rfl, ifF (by rw [eqv_pd oz]; rfl) ?_⟩
          refine ⟨_, rfl, rfl, _, rfl, itN (fun z => nomatch z) ?_⟩
          refine ⟨_, rfl, rfl, _, rfl, ifF rfl ?_⟩
          refine ⟨_, rfl, by show 4 ≤ sizeLine; decide, fun t2 ht2 => ?_⟩
          have s8 := same_new (o := .lst [V.bl true, .bl true, .bl false, .bl false]) ht2
          refine ⟨.list [.bool true, .bool true, .bool false, .bool false], .list [.bool true, .bool true, .bool false, .bool false], .lst (SqL.of (s8 _ _ ht7)) (dpAll_bl [true, true, false, false]), .lst (SqL.of upd_same) (dpAll_bl [true, true, false, false]), by decide, by decide, _, rfl, ifF (by decide) ?_⟩
          refine ⟨_, rfl, _, _, _, _, true, rfl, .ty _, .base (.int _), kit_ty (by decide +kernel), true, rfl, iteT ?_⟩
          refine ⟨_, rfl, _, _, _, _, false, rfl, .ty _, .base (.int _), kit_ty (by decide +kernel), false, rfl, true, rfl, iteT ?_⟩
          refine ⟨_, rfl, _, rfl, rfl, ?_⟩
          show Q (.bl (decide (V.int (i : Nat) = V.int (i : Nat)))) _
          rw [iEq rfl]
          exact k _ (s57.trans s8)
end
end My
set_option maxRecDepth 100000
set_option maxHeartbeats 4000000
set_option exponentiation.threshold 10000
namespace My
open PySem L2
open C8 (pss_cut)
/-- texts that may be handed in -/
structure Ol (n : Nat) (ns : List Str) : Prop where
  n : ns.length ≤ n
  o : ∀ z ∈ ns, Okz z ∧ z.length ≤ 1000
theorem Ol.app {n m : Nat} {a b : List Str} (ha : Ol n a) (hb : Ol m b) : Ol (n + m) (a ++ b) := ⟨by rw [List.length_append]; exact Nat.add_le_add ha.n hb.n, fun z hz => (List.mem_append.mp hz).elim (ha.o z) (hb.o z)⟩
theorem Ol.sub {n : Nat} {a b : List Str} (ha : Ol n a) (h : b.Sublist a) : Ol n b := ⟨Nat.le_trans h.length_le ha.n, fun z hz => ha.o z (h.subset hz)⟩
theorem Ol.one {z : Str} (h : Okz z) (hl : z.length ≤ 1000) : Ol 1 [z] := ⟨Nat.le_refl _, fun y hy => by rw [List.mem_singleton.mp hy]; exact ⟨h, hl⟩⟩
theorem Ol.good {n : Nat} {ns : List Str} (h : ∀ z ∈ ns, Good z) (hl : ns.length ≤ n) : Ol n ns := ⟨hl, fun z hz => ⟨okz_good (h z hz), Nat.le_trans (h z hz).le (by decide)⟩⟩
theorem cat_sv (a b : List Str) : sv a ++ sv b = sv (a ++ b) := List.map_append.symm
theorem len_ol {n m : Nat} {a b : List Str} (ha : Ol n a) (hb : Ol m b) (h : n + m ≤ sizeLine) : (sv a).length + (sv b).length ≤ sizeLine := by
  rw [len_sv, len_sv]; exact Nat.le_trans (Nat.add_le_add ha.n hb.n) h
theorem good_k : Good "k" := okName_iff.mp (by decide +kernel)
section
variable {P : Program} {w : World} {K : PySem.W.Frag} {mg : Str → Option Value} {base : Heap} {A : Ad}
def spLists (K : PySem.W.Frag) : Sp := fun vs H Q _ => ∃ (l p : Addr) (ns : List Str) (ds : List Int), vs = [.ref l, .ref p] ∧ SqL K H l (sv ns) ∧ SqL K H p (ds.map V.int) ∧ RingOk ns ∧ 5 ≤ ds.length ∧ ∀ H', Same H H' → Q (.bl true) H'
theorem ok_lists (T : Txt P K mg A) : FnOk P w K mg base CX0 10 A.a_law_lists_refused A.d_law_lists_refused ["names", "pool"] (spLists K) := by
  have G_law_refused := ok_refused (P := P) (w := w) (base := base) T
  have G_law_new := ok_new (P := P) (w := w) (base := base) T
  refine T.F_law_lists_refused.ok sc_law_lists_refused (fun vs H Q E h => ?_) (fun cdv A' outer s H vs Q E hr h => ?_)
  · obtain ⟨l, p, ns, ds, rfl, _⟩ := h
    rfl
  · obtain ⟨l, p, ns, ds, rfl, hL, hS, ok, hd5, k⟩ := h
    refine ⟨_, (pss_cons (ps_set (i := 2) sc_law_lists_refused.nd rfl (Or.inl rfl) pe_str)
      (pss_cons (ps_set (i := 3) sc_law_lists_refused.nd rfl (Or.inl rfl) (pe_ix ix_list (pe_lst (pa_cons pe_str (pa_cons pe_str (pa_cons pe_str (pa_cons (pe_op op_add_str (pe_op op_add_str pe_str (pe_ix ix_str (pv 2) (pe_op op_mod (pe_callTy call_int1 (by rfl) T.n_int (by decide +kernel) (pa_cons (pe_ix ix_list (pv 1) pe_int (fun _ _ => rfl)) pa_nil)) (pe_callB call_len_str (by rfl) T.n_len (by decide +kernel) (pa_cons (pv 2) pa_nil))) (fun _ _ => rfl))) pe_str) (pa_cons pe_str (pa_cons pe_str pa_nil))))))) (pe_op op_mod (pe_callTy call_int1 (by rfl) T.n_int (by decide +kernel) (pa_cons (pe_ix ix_list (pv 1) pe_int (fun _ _ => rfl)) pa_nil)) pe_int) (fun _ _ => rfl)))
      (pss_cons (ps_set (i := 4) sc_law_lists_refused.nd rfl (Or.inl rfl) (pe_callTy call_list_of (by rfl) T.n_list (by decide +kernel) (pa_cons (pv 0) pa_nil)))
      (pss_cons (ps_for PassesOwn.never rfl (pi_range1 (by rfl) T.n_range (pa_cons (pe_op op_add pe_int (pe_op op_mod (pe_callTy call_int1 (by rfl) T.n_int (by decide +kernel) (pa_cons (pe_ix ix_list (pv 1) pe_int (fun _ _ => rfl)) pa_nil)) pe_int)) pa_nil)) (pg_name (i := 5) sc_law_lists_refused.nd rfl (Or.inl rfl))
        (pss_one (ps_if (pt_cmpR op_lt (pe_callB call_len_seq (by rfl) T.n_len (by decide +kernel) (pa_cons (pv 4) pa_nil)) (pe_op op_add pe_int (pe_op op_mod (pe_callTy call_int1 (by rfl) T.n_int (by decide +kernel) (pa_cons (pe_ix ix_list (pv 1) pe_int (fun _ _ => rfl)) pa_nil)) pe_int)) (nomark _)) (pss_one (ps_expr (pe_bm PySem.F.plainAttrs_list PySem.F.slot_list_append PySem.F.type_list_append mt_append (pv 4) (pa_cons (pe_call G_law_new (hr.mono (by decide)) rfl T.mg_law_new T.F_law_new.kp T.b_law_new .nil pass0 (pa_cons (pv 4) (pa_cons pe_str pa_nil))) pa_nil)))) pss_nil)))
      (pss_cons (ps_for PassesOwn.never rfl (pi_list (pe_lst (pa_cons (pe_callTy call_list_of (by rfl) T.n_list (by decide +kernel) (pa_cons (pv 0) pa_nil)) (pa_cons (pv 4) pa_nil)))) (pg_name (i := 6) sc_law_lists_refused.nd rfl (Or.inl rfl))
        (pss_cons (ps_set (i := 7) sc_law_lists_refused.nd rfl (Or.inl rfl) (pe_op op_mod (pe_callTy call_int1 (by rfl) T.n_int (by decide +kernel) (pa_cons (pe_ix ix_list (pv 1) pe_int (fun _ _ => rfl)) pa_nil)) (pe_op op_add (pe_callB call_len_seq (by rfl) T.n_len (by decide +kernel) (pa_cons (pv 6) pa_nil)) pe_int)))
      (pss_cons (ps_set (i := 8) sc_law_lists_refused.nd rfl (Or.inl rfl) (pe_ix ix_list (pe_op op_cat (pv 6) (pe_lst (pa_cons (pv 3) pa_nil))) (pe_op op_mod (pe_callTy call_int1 (by rfl) T.n_int (by decide +kernel) (pa_cons (pe_ix ix_list (pv 1) pe_int (fun _ _ => rfl)) pa_nil)) (pe_op op_add (pe_callB call_len_seq (by rfl) T.n_len (by decide +kernel) (pa_cons (pv 6) pa_nil)) pe_int)) (fun _ _ => rfl)))
      (pss_cons (ps_if (PW.pt (pw_or (pt_not (pt_val (pe_call G_law_refused (hr.mono (by decide)) rfl T.mg_law_refused T.F_law_refused.kp T.b_law_refused .nil pass0 (pa_cons (pv 6) pa_nil)))) (pw_or1 (pt_not (pt_val (pe_call G_law_refused (hr.mono (by decide)) rfl T.mg_law_refused T.F_law_refused.kp T.b_law_refused .nil pass0 (pa_cons (pe_op op_cat (pe_op op_cat (pe_slice sl_list (pv 6) po_none (po_some (pv 7))) (pe_lst (pa_cons (pv 3) pa_nil))) (pe_slice sl_list (pv 6) (po_some (pv 7)) po_none)) pa_nil))))))) (pss_one (ps_ret pe_bl)) pss_nil)
      (pss_cons (ps_if (PW.pt (pw_or (pt_not (pt_val (pe_call G_law_refused (hr.mono (by decide)) rfl T.mg_law_refused T.F_law_refused.kp T.b_law_refused .nil pass0 (pa_cons (pe_op op_cat (pe_op op_cat (pv 6) (pe_slice sl_list (pv 6) po_none (po_some pe_int))) (pe_lst (pa_cons (pv 3) pa_nil))) pa_nil)))) (pw_or1 (pt_not (pt_val (pe_call G_law_refused (hr.mono (by decide)) rfl T.mg_law_refused T.F_law_refused.kp T.b_law_refused .nil pass0 (pa_cons (pe_op op_cat (pe_op op_cat (pe_lst (pa_cons (pv 3) pa_nil)) (pv 6)) (pe_slice sl_list (pv 6) po_none (po_some pe_int))) pa_nil))))))) (pss_one (ps_ret pe_bl)) pss_nil)
      (pss_one (ps_if (PW.pt (pw_or (pt_not (pt_val (pe_call G_law_refused (hr.mono (by decide)) rfl T.mg_law_refused T.F_law_refused.kp T.b_law_refused .nil pass0 (pa_cons (pe_op op_cat (pe_op op_cat (pe_slice sl_list (pv 6) po_none (po_some (pv 7))) (pe_lst (pa_cons (pv 8) pa_nil))) (pe_slice sl_list (pv 6) (po_some (pv 7)) po_none)) pa_nil)))) (pw_or1 (pt_not (pt_val (pe_call G_law_refused (hr.mono (by decide)) rfl T.mg_law_refused T.F_law_refused.kp T.b_law_refused .nil pass0 (pa_cons (pe_op op_cat (pe_op op_cat (pe_slice sl_list (pv 6) po_none (po_some (pv 7))) (pe_lst (pa_cons (pv 3) pa_nil))) (pe_slice sl_list (pv 6) (po_some (pe_op op_add (pv 7) pe_int)) po_none)) pa_nil))))))) (pss_one (ps_ret pe_bl)) pss_nil)))))))
      (pss_one (ps_ret pe_bl))))))), ?_⟩
    have hn12 := ok.n
    obtain ⟨x0, _, e0⟩ := atI_ok (xs := ds) (j := 0) (by decide) (by omega)
    obtain ⟨x1, _, e1⟩ := atI_ok (xs := ds) (j := 1) (by decide) (by omega)
    obtain ⟨x2, _, e2⟩ := atI_ok (xs := ds) (j := 2) (by decide) (by omega)
    obtain ⟨x3, _, e3⟩ := atI_ok (xs := ds) (j := 3) (by decide) (by omega)
    obtain ⟨x4, _, e4⟩ := atI_ok (xs := ds) (j := 4) (by decide) (by omega)
    have hall : (" !\"#$&'()*+,-./0123456789:;<=>?@ABCDEFGHIJKLMNOPQRSTUVWXYZ[\\]^_`{|}~" : Str).cps.toList.all (· < 256) = true := by decide +kernel
    have hlen : (" !\"#$&'()*+,-./0123456789:;<=>?@ABCDEFGHIJKLMNOPQRSTUVWXYZ[\\]^_`{|}~" : Str).length = 68 := by decide +kernel
    generalize hsg : (" !\"#$&'()*+,-./0123456789:;<=>?@ABCDEFGHIJKLMNOPQRSTUVWXYZ[\\]^_`{|}~" : Str) = sg at hall hlen ⊢
    have hsl : sg.length ≤ sizeLine := by rw [hlen]; decide
    have m0 := Int.emod_nonneg x4 (show (68 : Int) ≠ 0 by decide)
    have m1 := Int.emod_lt_of_pos x4 (show (0 : Int) < 68 by decide)
    obtain ⟨n4, hn4⟩ := Int.eq_ofNat_of_zero_le m0
    have sz : sg.cps.toList.length = 68 := by rw [Array.length_toList]; exact hlen
    have hc : sg.cps.toList[n4]? = some (sg.cps.toList[n4]'(by omega)) := List.getElem?_eq_getElem _
    generalize sg.cps.toList[n4]'(by omega) = ch at hc
    have hch : ch < 256 := by
      have := List.all_eq_true.mp hall ch (List.mem_of_getElem? hc)
      exact of_decide_eq_true this
    have atc : atI sg.cps.toList (x4 % ((sg.length : Nat) : Int)) = some ch := by
      rw [hlen, show ((68 : Nat) : Int) = 68 from rfl, hn4]; exact atI_nat hc
    refine ⟨_, rfl, _, rfl, _, _, _, _, rfl, rfl, hS, e4, .inl ⟨_, rfl, _, rfl, sg, rfl, hsl, _, _, rfl, rfl, by show (0 : Int) < ((sg.length : Nat) : Int); rw [hlen]; decide, sg, _, _, rfl, rfl, hsl, atc, _, _, rfl, rfl, by show _ + 1 ≤ sizeLine; decide, _, _, rfl, rfl, ?_, by show 6 ≤ sizeLine; decide, fun L hLn => ?_⟩⟩
    · rw [Str.length_append]; show _ + 1 + _ ≤ sizeLine; decide
    have s0 := same_new (o := .lst [V.str "", .str "A", .str "abcdefghi", .str ((("a" : Str) ++ (⟨#[ch]⟩ : Str)) ++ "b"), .str "z1", .str " a"]) hLn
    have hL0 : upd H L (.lst [V.str "", .str "A", .str "abcdefghi", .str ((("a" : Str) ++ (⟨#[ch]⟩ : Str)) ++ "b"), .str "z1", .str " a"]) L = some (.lst (sv ["", "A", "abcdefghi", (("a" : Str) ++ (⟨#[ch]⟩ : Str)) ++ "b", "z1", " a"])) := upd_same
    have hos : ∀ z ∈ (["", "A", "abcdefghi", (("a" : Str) ++ (⟨#[ch]⟩ : Str)) ++ "b", "z1", " a"] : List Str), Okz z ∧ z.length ≤ 1000 := fun z hz => by
      simp only [List.mem_cons, List.not_mem_nil, or_false] at hz
      rcases hz with rfl | rfl | rfl | rfl | rfl | rfl
      · exact ⟨okz_low' (by decide), by decide⟩
      · exact ⟨okz_low' (by decide), by decide⟩
      · exact ⟨okz_low' (by decide), by decide⟩
      · refine ⟨okz_low' ?_, by rw [Str.length_append, Str.length_append]; show 1 + 1 + 1 ≤ 1000; decide⟩
        rw [append_cps, append_cps, Array.toList_append, Array.toList_append]
        show (([97] ++ [ch]) ++ [98] : List Nat).all _ = true
        simp [hch]
      · exact ⟨okz_low' (by decide), by decide⟩
      · exact ⟨okz_low' (by decide), by decide⟩
    obtain ⟨odd, modd, eodd⟩ := at_sv (ss := ["", "A", "abcdefghi", (("a" : Str) ++ (⟨#[ch]⟩ : Str)) ++ "b", "z1", " a"]) (j := x0 % 6) (Int.emod_nonneg _ (by decide)) (Int.emod_lt_of_pos _ (by decide))
    obtain ⟨oo, lo⟩ := hos odd modd
    generalize upd H L _ = H1 at s0 hL0 ⊢
    have hS1 := s0.seq hS
    refine ⟨_, rfl, _, _, _, _, rfl, rfl, hS1, e0, .inl ⟨_, rfl, _, _, rfl, rfl, by show (0 : Int) < 6; decide, L, _, _, _, rfl, rfl, SqL.of hL0, eodd, ?_⟩⟩
    refine ⟨_, rfl, l, _, rfl, .inl (s0.seq hL), fun m hm => ?_⟩
    have s1 := s0.trans (same_new (o := .lst (sv ns)) hm)
    have hmH : H m = none := none_of s0 hm
    have hm1 := upd_same (H := H1) (a := m) (o := .lst (sv ns))
    generalize upd H1 m _ = H2 at s1 hm1 ⊢
    clear hS1 hL0
    have a0 := Int.emod_nonneg x1 (show (3 : Int) ≠ 0 by decide)
    have a1 := Int.emod_lt_of_pos x1 (show (0 : Int) < 3 by decide)
    refine ⟨_, rfl, _, _, _, _, rfl, rfl, s1.seq hS, e1, .inl ⟨_, rfl, _, _, rfl, rfl, by show (0 : Int) < 3; decide, _, _, rfl, rfl, _, rfl, by omega, by omega, ?_⟩⟩
    refine for_range (n := (13 + x1 % 3).toNat) (fun j σ H3 => Same H H3 ∧ (∃ M : List Str, H3 m = some (.lst (sv M)) ∧ (∀ z ∈ M, Good z) ∧ M.length ≤ 15) ∧ ∃ u : Option V, σ = [some (.ref l), some (.ref p), some (.str sg), some (.str odd), some (.ref m), u, none, none, none]) ⟨s1, ⟨ns, hm1, ok.g, by omega⟩, none, rfl⟩ ?_ ?_
    · rintro j σ H3 hj ⟨s3, ⟨M, hM, gM, lM⟩, u, rfl⟩
      refine ⟨_, rfl, m, _, rfl, .inl (SqL.of hM), _, rfl, _, _, _, _, rfl, rfl, s3.seq hS, e1, .inl ⟨_, rfl, _, _, rfl, rfl, by show (0 : Int) < 3; decide, _, _, rfl, rfl, _, _, rfl, rfl, _, rfl, ?_⟩⟩
      by_cases hlt : ((sv M).length : Int) < 13 + x1 % 3
      · refine itY hlt ?_
        rw [len_sv] at hlt
        refine ⟨_, rfl, .inl ⟨rfl, _, SqL.of hM⟩, _, rfl, m, M, "k", rfl, SqL.of hM, by omega, good_k, fun z' g' _ => ?_⟩
        refine ⟨m, _, _, rfl, rfl, hM, small_int (by rw [len_sv]; omega), ?_⟩
        refine ⟨fun b o e => ?_, ⟨M ++ [z'], ?_, fun z hz => ?_, by rw [List.length_append]; show M.length + 1 ≤ 15; omega⟩, _, rfl⟩
        · rw [upd_ne (ne_of_none e hmH)]; exact s3 _ _ e
        · rw [upd_same, sv_snoc]
        · rcases List.mem_append.mp hz with h | h
          · exact gM z h
          · rw [List.mem_singleton.mp h]; exact g'
      · exact itN hlt ⟨s3, ⟨M, hM, gM, lM⟩, _, rfl⟩
    · rintro σ H3 ⟨s3, ⟨M, hM, gM, lM⟩, u, rfl⟩
      refine ⟨_, rfl, l, _, rfl, .inl (s3.seq hL), fun a ha => ?_⟩
      have s4 := s3.trans (same_new (o := .lst (sv ns)) ha)
      have nam : a ≠ m := (ne_of_none hM ha).symm
      have ha4 := upd_same (H := H3) (a := a) (o := .lst (sv ns))
      have hM4 : upd H3 a (.lst (sv ns)) m = some (.lst (sv M)) := by rw [upd_ne nam.symm]; exact hM
      generalize upd H3 a _ = H4 at s4 ha4 hM4 ⊢
      refine ⟨_, rfl, by show 2 ≤ sizeLine; decide, fun D hD => ?_⟩
      have s45 := same_new (o := .lst [V.ref a, .ref m]) hD
      have hD5 := upd_same (H := H4) (a := D) (o := .lst [V.ref a, .ref m])
      have ha5 := s45 _ _ ha4
      have hM5 := s45 _ _ hM4
      have s5 := s4.trans s45
      generalize upd H4 D _ = H5 at hD5 ha5 hM5 s5 ⊢
      clear s45 s4 ha4 hM4 s3
      refine ⟨D, rfl, ⟨_, SqL.of hD5⟩, for_it walk_list (fun i σ H6 => Same H5 H6 ∧ ∃ u1 u2 u3 : Option V, σ = [some (.ref l), some (.ref p), some (.str sg), some (.str odd), some (.ref m), u, u1, u2, u3]) ⟨Same.refl _, none, none, none, rfl⟩ (fun i σ H6 _ q => q.1.seq (SqL.of hD5)) ?_ ?_⟩
      · rintro i x σ H60 H6 hi ⟨s6, u1, u2, u3, rfl⟩ ⟨rfl, hx⟩
        obtain ⟨ln, X, rfl, hX, oX⟩ : ∃ ln X, x = V.ref ln ∧ H5 ln = some (.lst (sv X)) ∧ Ol 15 X := by
          match i, hx with
          | 0, hx => cases hx; exact ⟨a, ns, rfl, ha5, Ol.good ok.g (by omega)⟩
          | 1, hx => cases hx; exact ⟨m, M, rfl, hM5, Ol.good gM lM⟩
        have hX6 := s6 _ _ hX
        have s06 := s5.trans s6
        have hS6 := s06.seq hS
        have lX := oX.n
        have pos : (0 : Int) < ((sv X).length : Int) + 1 := by omega
        refine ⟨_, rfl, _, _, _, _, rfl, rfl, hS6, e2, .inl ⟨_, rfl, _, rfl, ln, _, rfl, .inl (SqL.of hX6), _, _, rfl, rfl, _, _, rfl, rfl, pos, ?_⟩⟩
        dsimp only
        generalize x2 % (((sv X).length : Int) + 1) = kk
        refine ⟨_, rfl, _, rfl, by show 1 ≤ sizeLine; decide, fun b hb => ?_⟩
        have t1 := same_new (o := .lst [V.str odd]) hb
        have hb1 := upd_same (H := H6) (a := b) (o := .lst [V.str odd])
        have hX7 := t1 _ _ hX6
        generalize upd H6 b _ = H7 at t1 hb1 hX7 ⊢
        refine ⟨ln, b, _, _, rfl, rfl, hX7, hb1, by rw [len_sv]; exact Nat.le_trans (Nat.add_le_add_right lX 1) (by decide), fun c hc => ?_⟩
        have t2 := same_new (o := .lst (sv X ++ [V.str odd])) hc
        have hc2 : upd H7 c (.lst (sv X ++ [V.str odd])) c = some (.lst (sv (X ++ [odd]))) := by rw [upd_same]; exact congrArg (fun z => some (HO.lst z)) (cat_sv X [odd])
        have hX8 := t2 _ _ hX7
        generalize upd H7 c _ = H8 at t2 hc2 hX8 ⊢
        have s8 := s06.trans (t1.trans t2)
        have s68 := s6.trans (t1.trans t2)
        have oXo := oX.app (Ol.one oo lo)
        obtain ⟨tw, mtw, etw⟩ := at_sv (ss := X ++ [odd]) (j := x3 % (((sv X).length : Int) + 1)) (Int.emod_nonneg _ (by omega)) (by have := Int.emod_lt_of_pos x3 pos; rw [len_sv] at this ⊢; rw [List.length_append]; show _ < (((X.length + 1 : Nat)) : Int); omega)
        obtain ⟨ot, lt⟩ := oXo.o tw mtw
        refine ⟨_, rfl, _, _, _, _, rfl, rfl, s8.seq hS, e3, .inl ⟨_, rfl, _, rfl, ln, _, rfl, .inl (SqL.of hX8), _, _, rfl, rfl, _, _, rfl, rfl, pos, c, _, _, _, rfl, rfl, SqL.of hc2, etw, ?_⟩⟩
        clear t1 t2 hb1 hc2 hX7 hX6 s06 hS6 s6
        -- the six lists
        refine ⟨_, rfl, ln, X, rfl, SqL.of hX8, by omega, oX.o, fun H9 s9 => ⟨_, rfl, ifF rfl ?_⟩⟩
        have hX9 := s9 _ _ hX8
        have s69 := s68.trans s9
        have hX := hX9
        have sA := s8.trans s9
        have sB := s69
        clear hX9 hX8 s69 s68 s9 s8
        refine ⟨_, rfl, _, rfl, _, rfl, ln, _, rfl, SqL.of hX, fun ap hap => ?_⟩
        obtain ⟨yp1, eyp1, syp1⟩ := cut_sv X (none) (some kk)
        rw [eyp1]
        have oyp1 := oX.sub syp1
        have q1 := same_new (o := .lst (sv yp1)) hap
        have q2 := upd_same (H := H9) (a := ap) (o := .lst (sv yp1))
        have hX := q1 _ _ hX
        have sA := sA.trans q1
        have sB := sB.trans q1
        generalize upd H9 ap _ = H21 at q1 q2 hX sA sB ⊢
        have fap := q2
        clear q1 q2
        refine ⟨_, rfl, by show 1 ≤ sizeLine; decide, fun bp hbp => ?_⟩
        have q1 := same_new (o := .lst ([V.str odd])) hbp
        have q2 := upd_same (H := H21) (a := bp) (o := .lst ([V.str odd]))
        have hX := q1 _ _ hX
        have fap := q1 _ _ fap
        have sA := sA.trans q1
        have sB := sB.trans q1
        generalize upd H21 bp _ = H22 at q1 q2 hX fap sA sB ⊢
        have fbp := q2
        clear q1 q2
        refine ⟨ap, bp, _, _, rfl, rfl, fap, fbp, len_ol (oyp1) ((Ol.one oo lo)) (by decide), fun cp hcp => ?_⟩
        rw [show sv (yp1) ++ [V.str odd] = sv (yp1 ++ [odd]) from cat_sv (yp1) ([odd])]
        have q1 := same_new (o := .lst (sv (yp1 ++ [odd]))) hcp
        have q2 := upd_same (H := H22) (a := cp) (o := .lst (sv (yp1 ++ [odd])))
        have hX := q1 _ _ hX
        have fap := q1 _ _ fap
        have fbp := q1 _ _ fbp
        have sA := sA.trans q1
        have sB := sB.trans q1
        generalize upd H22 cp _ = H23 at q1 q2 hX fap fbp sA sB ⊢
        have fcp := q2
        clear q1 q2
        refine ⟨_, rfl, _, rfl, _, rfl, ln, _, rfl, SqL.of hX, fun dp hdp => ?_⟩
        obtain ⟨yp2, eyp2, syp2⟩ := cut_sv X (some kk) (none)
        rw [eyp2]
        have oyp2 := oX.sub syp2
        have q1 := same_new (o := .lst (sv yp2)) hdp
        have q2 := upd_same (H := H23) (a := dp) (o := .lst (sv yp2))
        have hX := q1 _ _ hX
        have fap := q1 _ _ fap
        have fbp := q1 _ _ fbp
        have fcp := q1 _ _ fcp
        have sA := sA.trans q1
        have sB := sB.trans q1
        generalize upd H23 dp _ = H24 at q1 q2 hX fap fbp fcp sA sB ⊢
        have fdp := q2
        clear q1 q2
        refine ⟨cp, dp, _, _, rfl, rfl, fcp, fdp, len_ol (oyp1.app (Ol.one oo lo)) (oyp2) (by decide), fun ep hep => ?_⟩
        rw [show sv (yp1 ++ [odd]) ++ sv (yp2) = sv ((yp1 ++ [odd]) ++ yp2) from cat_sv (yp1 ++ [odd]) (yp2)]
        have q1 := same_new (o := .lst (sv ((yp1 ++ [odd]) ++ yp2))) hep
        have q2 := upd_same (H := H24) (a := ep) (o := .lst (sv ((yp1 ++ [odd]) ++ yp2)))
        have hX := q1 _ _ hX
        have fap := q1 _ _ fap
        have fbp := q1 _ _ fbp
        have fcp := q1 _ _ fcp
        have fdp := q1 _ _ fdp
        have sA := sA.trans q1
        have sB := sB.trans q1
        generalize upd H24 ep _ = H25 at q1 q2 hX fap fbp fcp fdp sA sB ⊢
        have fep := q2
        clear q1 q2
        have oR := (oyp1.app (Ol.one oo lo)).app oyp2
        refine ⟨ep, _, rfl, SqL.of fep, by have := oR.n; omega, oR.o, fun H26 sC => ⟨_, rfl, ifF rfl ?_⟩⟩
        have hX := sC _ _ hX
        have sA := sA.trans sC
        have sB := sB.trans sC
        clear sC oR fap fbp fcp fdp fep
        refine ⟨_, rfl, ?_⟩
        refine ⟨_, rfl, _, rfl, ln, _, rfl, SqL.of hX, fun aq haq => ?_⟩
        obtain ⟨yq1, eyq1, syq1⟩ := cut_sv X (none) (some 1)
        rw [eyq1]
        have oyq1 := oX.sub syq1
        have q1 := same_new (o := .lst (sv yq1)) haq
        have q2 := upd_same (H := H26) (a := aq) (o := .lst (sv yq1))
        have hX := q1 _ _ hX
        have sA := sA.trans q1
        have sB := sB.trans q1
        generalize upd H26 aq _ = H27 at q1 q2 hX sA sB ⊢
        have faq := q2
        clear q1 q2
        refine ⟨ln, aq, _, _, rfl, rfl, hX, faq, len_ol (oX) (oyq1) (by decide), fun bq hbq => ?_⟩
        rw [show sv (X) ++ sv (yq1) = sv (X ++ yq1) from cat_sv (X) (yq1)]
        have q1 := same_new (o := .lst (sv (X ++ yq1))) hbq
        have q2 := upd_same (H := H27) (a := bq) (o := .lst (sv (X ++ yq1)))
        have hX := q1 _ _ hX
        have faq := q1 _ _ faq
        have sA := sA.trans q1
        have sB := sB.trans q1
        generalize upd H27 bq _ = H28 at q1 q2 hX faq sA sB ⊢
        have fbq := q2
        clear q1 q2
        refine ⟨_, rfl, by show 1 ≤ sizeLine; decide, fun cq hcq => ?_⟩
        have q1 := same_new (o := .lst ([V.str odd])) hcq
        have q2 := upd_same (H := H28) (a := cq) (o := .lst ([V.str odd]))
        have hX := q1 _ _ hX
        have faq := q1 _ _ faq
        have fbq := q1 _ _ fbq
        have sA := sA.trans q1
        have sB := sB.trans q1
        generalize upd H28 cq _ = H29 at q1 q2 hX faq fbq sA sB ⊢
        have fcq := q2
        clear q1 q2
        refine ⟨bq, cq, _, _, rfl, rfl, fbq, fcq, len_ol (oX.app oyq1) ((Ol.one oo lo)) (by decide), fun dq hdq => ?_⟩
        rw [show sv (X ++ yq1) ++ [V.str odd] = sv ((X ++ yq1) ++ [odd]) from cat_sv (X ++ yq1) ([odd])]
        have q1 := same_new (o := .lst (sv ((X ++ yq1) ++ [odd]))) hdq
        have q2 := upd_same (H := H29) (a := dq) (o := .lst (sv ((X ++ yq1) ++ [odd])))
        have hX := q1 _ _ hX
        have faq := q1 _ _ faq
        have fbq := q1 _ _ fbq
        have fcq := q1 _ _ fcq
        have sA := sA.trans q1
        have sB := sB.trans q1
        generalize upd H29 dq _ = H30 at q1 q2 hX faq fbq fcq sA sB ⊢
        have fdq := q2
        clear q1 q2
        have oR := (oX.app oyq1).app (Ol.one oo lo)
        refine ⟨dq, _, rfl, SqL.of fdq, by have := oR.n; omega, oR.o, fun H31 sC => ⟨_, rfl, ifF rfl ?_⟩⟩
        have hX := sC _ _ hX
        have sA := sA.trans sC
        have sB := sB.trans sC
        clear sC oR faq fbq fcq fdq
        refine ⟨_, rfl, by show 1 ≤ sizeLine; decide, fun ar har => ?_⟩
        have q1 := same_new (o := .lst ([V.str odd])) har
        have q2 := upd_same (H := H31) (a := ar) (o := .lst ([V.str odd]))
        have hX := q1 _ _ hX
        have sA := sA.trans q1
        have sB := sB.trans q1
        generalize upd H31 ar _ = H32 at q1 q2 hX sA sB ⊢
        have far := q2
        clear q1 q2
        refine ⟨_, rfl, ?_⟩
        refine ⟨ar, ln, _, _, rfl, rfl, far, hX, len_ol ((Ol.one oo lo)) (oX) (by decide), fun br hbr => ?_⟩
        rw [show [V.str odd] ++ sv (X) = sv ([odd] ++ X) from cat_sv ([odd]) (X)]
        have q1 := same_new (o := .lst (sv ([odd] ++ X))) hbr
        have q2 := upd_same (H := H32) (a := br) (o := .lst (sv ([odd] ++ X)))
        have hX := q1 _ _ hX
        have far := q1 _ _ far
        have sA := sA.trans q1
        have sB := sB.trans q1
        generalize upd H32 br _ = H33 at q1 q2 hX far sA sB ⊢
        have fbr := q2
        clear q1 q2
        refine ⟨_, rfl, _, rfl, ln, _, rfl, SqL.of hX, fun cr hcr => ?_⟩
        obtain ⟨yr1, eyr1, syr1⟩ := cut_sv X (none) (some 1)
        rw [eyr1]
        have oyr1 := oX.sub syr1
        have q1 := same_new (o := .lst (sv yr1)) hcr
        have q2 := upd_same (H := H33) (a := cr) (o := .lst (sv yr1))
        have hX := q1 _ _ hX
        have far := q1 _ _ far
        have fbr := q1 _ _ fbr
        have sA := sA.trans q1
        have sB := sB.trans q1
        generalize upd H33 cr _ = H34 at q1 q2 hX far fbr sA sB ⊢
        have fcr := q2
        clear q1 q2
        refine ⟨br, cr, _, _, rfl, rfl, fbr, fcr, len_ol ((Ol.one oo lo).app oX) (oyr1) (by decide), fun dr hdr => ?_⟩
        rw [show sv ([odd] ++ X) ++ sv (yr1) = sv (([odd] ++ X) ++ yr1) from cat_sv ([odd] ++ X) (yr1)]
        have q1 := same_new (o := .lst (sv (([odd] ++ X) ++ yr1))) hdr
        have q2 := upd_same (H := H34) (a := dr) (o := .lst (sv (([odd] ++ X) ++ yr1)))
        have hX := q1 _ _ hX
        have far := q1 _ _ far
        have fbr := q1 _ _ fbr
        have fcr := q1 _ _ fcr
        have sA := sA.trans q1
        have sB := sB.trans q1
        generalize upd H34 dr _ = H35 at q1 q2 hX far fbr fcr sA sB ⊢
        have fdr := q2
        clear q1 q2
        have oR := ((Ol.one oo lo).app oX).app oyr1
        refine ⟨dr, _, rfl, SqL.of fdr, by have := oR.n; omega, oR.o, fun H36 sC => ⟨_, rfl, ifF rfl ?_⟩⟩
        have hX := sC _ _ hX
        have sA := sA.trans sC
        have sB := sB.trans sC
        clear sC oR far fbr fcr fdr
        refine ⟨_, rfl, _, rfl, _, rfl, ln, _, rfl, SqL.of hX, fun au hau => ?_⟩
        obtain ⟨yu1, eyu1, syu1⟩ := cut_sv X (none) (some kk)
        rw [eyu1]
        have oyu1 := oX.sub syu1
        have q1 := same_new (o := .lst (sv yu1)) hau
        have q2 := upd_same (H := H36) (a := au) (o := .lst (sv yu1))
        have hX := q1 _ _ hX
        have sA := sA.trans q1
        have sB := sB.trans q1
        generalize upd H36 au _ = H37 at q1 q2 hX sA sB ⊢
        have fau := q2
        clear q1 q2
        refine ⟨_, rfl, by show 1 ≤ sizeLine; decide, fun bu hbu => ?_⟩
        have q1 := same_new (o := .lst ([V.str tw])) hbu
        have q2 := upd_same (H := H37) (a := bu) (o := .lst ([V.str tw]))
        have hX := q1 _ _ hX
        have fau := q1 _ _ fau
        have sA := sA.trans q1
        have sB := sB.trans q1
        generalize upd H37 bu _ = H38 at q1 q2 hX fau sA sB ⊢
        have fbu := q2
        clear q1 q2
        refine ⟨au, bu, _, _, rfl, rfl, fau, fbu, len_ol (oyu1) ((Ol.one ot lt)) (by decide), fun cu hcu => ?_⟩
        rw [show sv (yu1) ++ [V.str tw] = sv (yu1 ++ [tw]) from cat_sv (yu1) ([tw])]
        have q1 := same_new (o := .lst (sv (yu1 ++ [tw]))) hcu
        have q2 := upd_same (H := H38) (a := cu) (o := .lst (sv (yu1 ++ [tw])))
        have hX := q1 _ _ hX
        have fau := q1 _ _ fau
        have fbu := q1 _ _ fbu
        have sA := sA.trans q1
        have sB := sB.trans q1
        generalize upd H38 cu _ = H39 at q1 q2 hX fau fbu sA sB ⊢
        have fcu := q2
        clear q1 q2
        refine ⟨_, rfl, _, rfl, _, rfl, ln, _, rfl, SqL.of hX, fun du hdu => ?_⟩
        obtain ⟨yu2, eyu2, syu2⟩ := cut_sv X (some kk) (none)
        rw [eyu2]
        have oyu2 := oX.sub syu2
        have q1 := same_new (o := .lst (sv yu2)) hdu
        have q2 := upd_same (H := H39) (a := du) (o := .lst (sv yu2))
        have hX := q1 _ _ hX
        have fau := q1 _ _ fau
        have fbu := q1 _ _ fbu
        have fcu := q1 _ _ fcu
        have sA := sA.trans q1
        have sB := sB.trans q1
        generalize upd H39 du _ = H40 at q1 q2 hX fau fbu fcu sA sB ⊢
        have fdu := q2
        clear q1 q2
        refine ⟨cu, du, _, _, rfl, rfl, fcu, fdu, len_ol (oyu1.app (Ol.one ot lt)) (oyu2) (by decide), fun eu heu => ?_⟩
        rw [show sv (yu1 ++ [tw]) ++ sv (yu2) = sv ((yu1 ++ [tw]) ++ yu2) from cat_sv (yu1 ++ [tw]) (yu2)]
        have q1 := same_new (o := .lst (sv ((yu1 ++ [tw]) ++ yu2))) heu
        have q2 := upd_same (H := H40) (a := eu) (o := .lst (sv ((yu1 ++ [tw]) ++ yu2)))
        have hX := q1 _ _ hX
        have fau := q1 _ _ fau
        have fbu := q1 _ _ fbu
        have fcu := q1 _ _ fcu
        have fdu := q1 _ _ fdu
        have sA := sA.trans q1
        have sB := sB.trans q1
        generalize upd H40 eu _ = H41 at q1 q2 hX fau fbu fcu fdu sA sB ⊢
        have feu := q2
        clear q1 q2
        have oR := (oyu1.app (Ol.one ot lt)).app oyu2
        refine ⟨eu, _, rfl, SqL.of feu, by have := oR.n; omega, oR.o, fun H42 sC => ⟨_, rfl, ifF rfl ?_⟩⟩
        have hX := sC _ _ hX
        have sA := sA.trans sC
        have sB := sB.trans sC
        clear sC oR fau fbu fcu fdu feu
        refine ⟨_, rfl, _, rfl, _, rfl, ln, _, rfl, SqL.of hX, fun av hav => ?_⟩
        obtain ⟨yv1, eyv1, syv1⟩ := cut_sv X (none) (some kk)
        rw [eyv1]
        have oyv1 := oX.sub syv1
        have q1 := same_new (o := .lst (sv yv1)) hav
        have q2 := upd_same (H := H42) (a := av) (o := .lst (sv yv1))
        have hX := q1 _ _ hX
        have sA := sA.trans q1
        have sB := sB.trans q1
        generalize upd H42 av _ = H43 at q1 q2 hX sA sB ⊢
        have fav := q2
        clear q1 q2
        refine ⟨_, rfl, by show 1 ≤ sizeLine; decide, fun bv hbv => ?_⟩
        have q1 := same_new (o := .lst ([V.str odd])) hbv
        have q2 := upd_same (H := H43) (a := bv) (o := .lst ([V.str odd]))
        have hX := q1 _ _ hX
        have fav := q1 _ _ fav
        have sA := sA.trans q1
        have sB := sB.trans q1
        generalize upd H43 bv _ = H44 at q1 q2 hX fav sA sB ⊢
        have fbv := q2
        clear q1 q2
        refine ⟨av, bv, _, _, rfl, rfl, fav, fbv, len_ol (oyv1) ((Ol.one oo lo)) (by decide), fun cv hcv => ?_⟩
        rw [show sv (yv1) ++ [V.str odd] = sv (yv1 ++ [odd]) from cat_sv (yv1) ([odd])]
        have q1 := same_new (o := .lst (sv (yv1 ++ [odd]))) hcv
        have q2 := upd_same (H := H44) (a := cv) (o := .lst (sv (yv1 ++ [odd])))
        have hX := q1 _ _ hX
        have fav := q1 _ _ fav
        have fbv := q1 _ _ fbv
        have sA := sA.trans q1
        have sB := sB.trans q1
        generalize upd H44 cv _ = H45 at q1 q2 hX fav fbv sA sB ⊢
        have fcv := q2
        clear q1 q2
        refine ⟨_, rfl, _, rfl, _, _, rfl, rfl, _, rfl, ln, _, rfl, SqL.of hX, fun dv hdv => ?_⟩
        obtain ⟨yv2, eyv2, syv2⟩ := cut_sv X (some (kk + 1)) (none)
        rw [eyv2]
        have oyv2 := oX.sub syv2
        have q1 := same_new (o := .lst (sv yv2)) hdv
        have q2 := upd_same (H := H45) (a := dv) (o := .lst (sv yv2))
        have hX := q1 _ _ hX
        have fav := q1 _ _ fav
        have fbv := q1 _ _ fbv
        have fcv := q1 _ _ fcv
        have sA := sA.trans q1
        have sB := sB.trans q1
        generalize upd H45 dv _ = H46 at q1 q2 hX fav fbv fcv sA sB ⊢
        have fdv := q2
        clear q1 q2
        refine ⟨cv, dv, _, _, rfl, rfl, fcv, fdv, len_ol (oyv1.app (Ol.one oo lo)) (oyv2) (by decide), fun ev hev => ?_⟩
        rw [show sv (yv1 ++ [odd]) ++ sv (yv2) = sv ((yv1 ++ [odd]) ++ yv2) from cat_sv (yv1 ++ [odd]) (yv2)]
        have q1 := same_new (o := .lst (sv ((yv1 ++ [odd]) ++ yv2))) hev
        have q2 := upd_same (H := H46) (a := ev) (o := .lst (sv ((yv1 ++ [odd]) ++ yv2)))
        have hX := q1 _ _ hX
        have fav := q1 _ _ fav
        have fbv := q1 _ _ fbv
        have fcv := q1 _ _ fcv
        have fdv := q1 _ _ fdv
        have sA := sA.trans q1
        have sB := sB.trans q1
        generalize upd H46 ev _ = H47 at q1 q2 hX fav fbv fcv fdv sA sB ⊢
        have fev := q2
        clear q1 q2
        have oR := (oyv1.app (Ol.one oo lo)).app oyv2
        refine ⟨ev, _, rfl, SqL.of fev, by have := oR.n; omega, oR.o, fun H48 sC => ⟨_, rfl, ifF rfl ?_⟩⟩
        have hX := sC _ _ hX
        have sA := sA.trans sC
        have sB := sB.trans sC
        clear sC oR fav fbv fcv fdv fev
        exact ⟨sB, _, _, _, rfl⟩
      · rintro σ H6 ⟨s6, u1, u2, u3, rfl⟩
        exact k H6 (s5.trans s6)
end
end My
set_option maxRecDepth 100000
set_option maxHeartbeats 4000000
set_option exponentiation.threshold 10000
namespace My
open PySem L2
open C8 (pss_cut)
theorem backN_backN (ns : List Str) : backN (backN ns) = ns := by
  unfold backN
  cases ns with
  | nil => rfl
  | cons a t => simp
theorem Rd.upd {C : Addr} {H : Hp} {p g : Addr} {ns : List Str} {xs : List V} {o : HO} (h : Rd C H p ns) (hg : H g = some (.lst xs)) : Rd C (L2.upd H g o) p ns := by
  obtain ⟨dx, nt, h1, h2⟩ := h
  exact ⟨dx, nt, by rw [upd_ne (ne_of h1 hg (fun z => nomatch z))]; exact h1, h2.upd hg (fun _ _ => nofun)⟩
theorem cut_drop1 (N : List Str) (k : Nat) : cutV (sv N) (some (k : Int)) none = sv (N.drop k) := by
  unfold cutV
  rw [HT.sIx_none, HT.sIx_nat, len_sv, sv_drop, sv_take]
  by_cases h : k ≤ N.length
  · rw [Nat.min_eq_left h, List.take_of_length_le (by rw [List.length_drop]; exact Nat.le_refl _)]
  · rw [Nat.min_eq_right (by omega), List.drop_of_length_le (Nat.le_refl _), List.drop_of_length_le (by omega)]; simp
theorem cut_take1 (N : List Str) (k : Nat) : cutV (sv N) none (some (k : Int)) = sv (N.take k) := by
  unfold cutV
  rw [HT.sIx_none, HT.sIx_nat, len_sv, sv_drop, sv_take, List.drop_zero, Nat.sub_zero]
  by_cases h : k ≤ N.length
  · rw [Nat.min_eq_left h]
  · rw [Nat.min_eq_right (by omega), List.take_of_length_le (Nat.le_refl _), List.take_of_length_le (by omega)]
theorem cut_12 (N : List Str) : cutV (sv N) (some ((1 : Nat) : Int)) (some ((2 : Nat) : Int)) = sv ((N.drop 1).take 1) := by
  unfold cutV
  rw [HT.sIx_nat, HT.sIx_nat, len_sv, sv_drop, sv_take]
  match N with
  | [] => rfl
  | [a] => rfl
  | a :: b :: t =>
    have h1 : min 1 (a :: b :: t).length = 1 := by simp
    have h2 : min 2 (a :: b :: t).length = 2 := by simp
    rw [h1, h2]
theorem swap_perm (N : List Str) : ((N.drop 1).take 1 ++ N.take 1 ++ N.drop 2).Perm N := by
  match N with
  | [] => exact List.Perm.refl _
  | [a] => exact List.Perm.refl _
  | a :: b :: t => exact List.Perm.swap a b t
theorem RingOk.sub {ns ms : List Str} (h : RingOk ns) (s : ms.Sublist ns) : RingOk ms := ⟨fun z hz => h.g z (s.subset hz), h.nd.sublist s, Nat.le_trans s.length_le h.n⟩
/-- law's: a list of at most 63 ints is handed in, True comes out -/
def spLaw (K : PySem.W.Frag) : Sp := fun vs H Q _ => ∃ (a : Addr) (ns : List Int), vs = [.ref a] ∧ SqL K H a (ns.map V.int) ∧ ns.length ≤ 63 ∧ ∀ H', Q (.bl true) H'
section
variable {P : Program} {w : World} {K : PySem.W.Frag} {mg : Str → Option Value} {base : Heap} {A : Ad}
theorem ok_law (T : Txt P K mg A) : FnOk P w K mg base CX0 20 A.a_law A.d_law ["script"] (spLaw K) := by
  have G_law_pool := ok_pool (P := P) (w := w) (base := base) T
  have G_law_whole := ok_whole (P := P) (w := w) (base := base) T
  have G_law_word := ok_word (P := P) (w := w) (base := base) T
  have G_law_new := ok_new (P := P) (w := w) (base := base) T
  have G_law_sequence := ok_seq (P := P) (w := w) (base := base) T
  have G_law_back := ok_back (P := P) (w := w) (base := base) T
  have G_law_is_round := ok_is (P := P) (w := w) (base := base) T
  have G_law_turns := ok_turns (P := P) (w := w) (base := base) T
  have G_law_equals := ok_equals (P := P) (w := w) (base := base) T
  have G_law_cut_is := ok_cutIs (P := P) (w := w) (base := base) T
  have G_law_splits_are := ok_splitsAre (P := P) (w := w) (base := base) T
  have G_law_lists_refused := ok_lists (P := P) (w := w) (base := base) T
  have G_Round_init := ok_init (P := P) (w := w) (base := base) T
  have G_Round_invert := ok_invert (P := P) (w := w) (base := base) T
  refine T.F_law.ok sc_law (fun vs H Q E h => ?_) (fun cdv A' outer s H vs Q E hr h => ?_)
  · obtain ⟨a, ns, rfl, _⟩ := h
    rfl
  · obtain ⟨sa, scr, rfl, hS, hlen, k⟩ := h
    refine ⟨_, (pss_cons (ps_set (i := 1) sc_law.nd rfl (Or.inl rfl) (pe_call G_law_pool (hr.mono (by decide)) rfl T.mg_law_pool T.F_law_pool.kp T.b_law_pool .nil pass0 (pa_cons (pv 0) (pa_cons pe_int (pa_cons pe_int pa_nil)))))
      (pss_cons (ps_set (i := 2) sc_law.nd rfl (Or.inr rfl) (pe_call G_law_pool (hr.mono (by decide)) rfl T.mg_law_pool T.F_law_pool.kp T.b_law_pool .nil pass0 (pa_cons (pv 0) (pa_cons pe_int (pa_cons pe_int pa_nil)))))
      (pss_cons (ps_set (i := 3) sc_law.nd rfl (Or.inl rfl) (pe_lst pa_nil))
      (pss_cons (ps_for PassesOwn.never rfl (pi_range1 (by rfl) T.n_range (pa_cons (pe_ix ix_list (pe_lst (pa_cons pe_int (pa_cons pe_int (pa_cons pe_int (pa_cons pe_int (pa_cons pe_int (pa_cons pe_int (pa_cons pe_int (pa_cons pe_int (pa_cons pe_int (pa_cons pe_int (pa_cons pe_int (pa_cons pe_int (pa_cons pe_int pa_nil)))))))))))))) (pe_op op_mod (pe_callTy call_int1 (by rfl) T.n_int (by decide +kernel) (pa_cons (pe_ix ix_list (pv 1) pe_int (fun _ _ => rfl)) pa_nil)) pe_int) (fun _ _ => rfl)) pa_nil)) (pg_name (i := 4) sc_law.nd rfl (Or.inl rfl))
        (pss_one (ps_expr (pe_bm PySem.F.plainAttrs_list PySem.F.slot_list_append PySem.F.type_list_append mt_append (pv 3) (pa_cons (pe_call G_law_new (hr.mono (by decide)) rfl T.mg_law_new T.F_law_new.kp T.b_law_new .nil pass0 (pa_cons (pv 3) (pa_cons (pe_call G_law_word (hr.mono (by decide)) rfl T.mg_law_word T.F_law_word.kp T.b_law_word .nil pass0 (pa_cons (pv 1) (pa_cons (pe_op op_add pe_int (pe_op op_mul pe_int (pv 4))) pa_nil))) pa_nil))) pa_nil)))))
      (pss_cons (ps_set (i := 5) sc_law.nd rfl (Or.inl rfl) (pe_callTy call_list_of (by rfl) T.n_list (by decide +kernel) (pa_cons (pv 3) pa_nil)))
      (pss_cons (ps_set (i := 6) sc_law.nd rfl (Or.inl rfl) (pe_make T.mk_Round G_Round_init (hr.mono (by decide)) rfl T.mg_Round T.b_Round_init .nil pass0 (pa_cons (pv 5) pa_nil)))
      (pss_cons (ps_expr (pe_bm PySem.F.plainAttrs_list PySem.F.slot_list_append PySem.F.type_list_append mt_append (pv 5) (pa_cons pe_str pa_nil)))
      (pss_cons (ps_set (i := 7) sc_law.nd rfl (Or.inl rfl) (pe_call G_law_new (hr.mono (by decide)) rfl T.mg_law_new T.F_law_new.kp T.b_law_new .nil pass0 (pa_cons (pv 3) (pa_cons (pe_call G_law_word (hr.mono (by decide)) rfl T.mg_law_word T.F_law_word.kp T.b_law_word .nil pass0 (pa_cons (pv 1) (pa_cons pe_int pa_nil))) pa_nil))))
      (pss_cons (ps_if (PW.pt (pw_or (pt_not (pt_val (pe_call G_law_is_round (hr.mono (by decide)) rfl T.mg_law_is_round T.F_law_is_round.kp T.b_law_is_round .nil pass0 (pa_cons (pv 6) (pa_cons (pv 3) pa_nil))))) (pw_or1 (pt_not (pt_val (pe_call G_law_is_round (hr.mono (by decide)) rfl T.mg_law_is_round T.F_law_is_round.kp T.b_law_is_round .nil pass0 (pa_cons (pe_un (un_inv G_Round_invert T.b_Round_invert pass0 (hr.mono (by decide)) T.m_Round_invert.at_ T.m_Round_invert.fn) (pv 6)) (pa_cons (pe_call G_law_back (hr.mono (by decide)) rfl T.mg_law_back T.F_law_back.kp T.b_law_back .nil pass0 (pa_cons (pv 3) pa_nil)) pa_nil)))))))) (pss_one (ps_ret pe_bl)) pss_nil)
      (pss_cons (ps_if (PW.pt (pw_or (pt_not (pt_val (pe_call G_law_is_round (hr.mono (by decide)) rfl T.mg_law_is_round T.F_law_is_round.kp T.b_law_is_round .nil pass0 (pa_cons (pe_un (un_inv G_Round_invert T.b_Round_invert pass0 (hr.mono (by decide)) T.m_Round_invert.at_ T.m_Round_invert.fn) (pe_un (un_inv G_Round_invert T.b_Round_invert pass0 (hr.mono (by decide)) T.m_Round_invert.at_ T.m_Round_invert.fn) (pv 6))) (pa_cons (pv 3) pa_nil))))) (pw_or1 (pt_not (pt_val (pe_call G_law_is_round (hr.mono (by decide)) rfl T.mg_law_is_round T.F_law_is_round.kp T.b_law_is_round .nil pass0 (pa_cons (pe_make T.mk_Round G_Round_init (hr.mono (by decide)) rfl T.mg_Round T.b_Round_init .nil pass0 (pa_cons (pe_callTy (show CallR _ _ (rTupD K) from call_tuple_ofD) (by rfl) T.n_tuple (by decide +kernel) (pa_cons (pv 3) pa_nil)) pa_nil)) (pa_cons (pv 3) pa_nil)))))))) (pss_one (ps_ret pe_bl)) pss_nil)
      (pss_cons (ps_for PassesOwn.never rfl (pi_list (pe_lst (pa_cons (pe_call G_law_whole (hr.mono (by decide)) rfl T.mg_law_whole T.F_law_whole.kp T.b_law_whole .nil pass0 (pa_cons (pv 1) (pa_cons pe_int pa_nil))) (pa_cons (pe_call G_law_whole (hr.mono (by decide)) rfl T.mg_law_whole T.F_law_whole.kp T.b_law_whole .nil pass0 (pa_cons (pv 1) (pa_cons pe_int pa_nil))) (pa_cons pe_int (pa_cons pe_int pa_nil)))))) (pg_name (i := 8) sc_law.nd rfl (Or.inl rfl))
        (pss_one (ps_if (pt_not (pt_val (pe_call G_law_turns (hr.mono (by decide)) rfl T.mg_law_turns T.F_law_turns.kp T.b_law_turns .nil pass0 (pa_cons (pv 6) (pa_cons (pv 3) (pa_cons (pv 8) pa_nil)))))) (pss_one (ps_ret pe_bl)) pss_nil)))
      (pss_cons (ps_set (i := 9) sc_law.nd rfl (Or.inl rfl) (pe_call G_law_sequence (hr.mono (by decide)) rfl T.mg_law_sequence T.F_law_sequence.kp T.b_law_sequence .nil pass0 (pa_cons (pv 3) (pa_cons (pe_op op_add (pe_op op_mul (pe_ix ix_list (pv 2) pe_int (fun _ _ => rfl)) pe_int) (pe_ix ix_list (pv 2) pe_int (fun _ _ => rfl))) pa_nil))))
      (pss_cons (ps_if (PW.pt (pw_or (pt_not (pt_val (pe_call G_law_equals (hr.mono (by decide)) rfl T.mg_law_equals T.F_law_equals.kp T.b_law_equals .nil pass0 (pa_cons (pv 6) (pa_cons (pv 3) (pa_cons (pv 9) pa_nil)))))) (pw_or1 (pt_not (pt_val (pe_call G_law_equals (hr.mono (by decide)) rfl T.mg_law_equals T.F_law_equals.kp T.b_law_equals .nil pass0 (pa_cons (pv 6) (pa_cons (pv 3) (pa_cons (pe_revL (pv 3)) pa_nil))))))))) (pss_one (ps_ret pe_bl)) pss_nil)
      (pss_cons (ps_if (PW.pt (pw_or (pt_not (pt_val (pe_call G_law_equals (hr.mono (by decide)) rfl T.mg_law_equals T.F_law_equals.kp T.b_law_equals .nil pass0 (pa_cons (pv 6) (pa_cons (pv 3) (pa_cons (pe_slice sl_list (pv 3) (po_some pe_int) po_none) pa_nil)))))) (pw_or1 (pt_not (pt_val (pe_call G_law_equals (hr.mono (by decide)) rfl T.mg_law_equals T.F_law_equals.kp T.b_law_equals .nil pass0 (pa_cons (pv 6) (pa_cons (pv 3) (pa_cons (pe_op op_cat (pe_slice sl_list (pv 3) (po_some pe_int) po_none) (pe_lst (pa_cons (pv 7) pa_nil))) pa_nil))))))))) (pss_one (ps_ret pe_bl)) pss_nil)
      (pss_cons (ps_if (pt_not (pt_val (pe_call G_law_equals (hr.mono (by decide)) rfl T.mg_law_equals T.F_law_equals.kp T.b_law_equals .nil pass0 (pa_cons (pv 6) (pa_cons (pv 3) (pa_cons (pe_op op_cat (pe_op op_cat (pe_slice sl_list (pv 3) (po_some pe_int) (po_some pe_int)) (pe_slice sl_list (pv 3) po_none (po_some pe_int))) (pe_slice sl_list (pv 3) (po_some pe_int) po_none)) pa_nil)))))) (pss_one (ps_ret pe_bl)) pss_nil)
      (pss_cons (ps_for PassesOwn.never rfl (pi_list (pe_op op_cat (pv 3) (pe_lst (pa_cons (pv 7) (pa_cons pe_str pa_nil))))) (pg_name (i := 10) sc_law.nd rfl (Or.inl rfl))
        (pss_one (ps_if (pt_not (pt_val (pe_call G_law_cut_is (hr.mono (by decide)) rfl T.mg_law_cut_is T.F_law_cut_is.kp T.b_law_cut_is .nil pass0 (pa_cons (pv 6) (pa_cons (pv 3) (pa_cons (pv 10) pa_nil)))))) (pss_one (ps_ret pe_bl)) pss_nil)))
      (pss_cons (ps_set (i := 11) sc_law.nd rfl (Or.inr rfl) (pe_op op_cat (pv 3) (pe_lst (pa_cons (pv 7) pa_nil))))
      (pss_cons (ps_setLc (i := 12) (own := [("k", 4)]) (g := gName 4) (tt := tYes) rfl sc_law.nd rfl rfl (sw_true rfl rfl rfl (by decide +kernel)) (pi_range1 (by rfl) T.n_range (pa_cons pe_int pa_nil)) (blkOk_by (N := ["script", "pool", "other", "names", "k", "given", "ring", "stranger", "places", "mixed", "name", "known", "four"]) (sc := defScope s_law) (by decide +kernel)) (fun _ _ _ _ _ => (pg_name (i := 4) sc_law.nd rfl (Or.inl rfl))) (fun _ _ _ _ _ => pts_nil) (fun _ _ _ _ _ => (pe_ix (show IxR _ (rIxL K) from ix_list) (pv 11) (pe_op op_mod (pe_callTy call_int1 (by rfl) T.n_int (by decide +kernel) (pa_cons (pe_ix (show IxR _ (rIxL K) from ix_list) (pv 2) (pe_op op_add pe_int (pv 4)) (fun _ _ => rfl)) pa_nil)) (pe_callB (show CallR _ _ (rLen2 K) from call_len_seq) (by rfl) T.n_len (by decide +kernel) (pa_cons (pv 11) pa_nil))) (fun _ _ => rfl))))
      (pss_cons (ps_if (PW.pt (pw_or (pt_not (pt_val (pe_call G_law_splits_are (hr.mono (by decide)) rfl T.mg_law_splits_are T.F_law_splits_are.kp T.b_law_splits_are .nil pass0 (pa_cons (pv 6) (pa_cons (pv 3) (pa_cons (pv 12) pa_nil)))))) (pw_or1 (pt_not (pt_val (pe_call G_law_splits_are (hr.mono (by decide)) rfl T.mg_law_splits_are T.F_law_splits_are.kp T.b_law_splits_are .nil pass0 (pa_cons (pv 6) (pa_cons (pv 3) (pa_cons (pe_slice sl_list (pe_op op_cat (pv 9) (pv 12)) po_none (po_some pe_int)) pa_nil))))))))) (pss_one (ps_ret pe_bl)) pss_nil)
      (pss_cons (ps_if (PW.pt (pw_or (pt_not (pt_val (pe_call G_law_splits_are (hr.mono (by decide)) rfl T.mg_law_splits_are T.F_law_splits_are.kp T.b_law_splits_are .nil pass0 (pa_cons (pv 6) (pa_cons (pv 3) (pa_cons (pe_slice sl_list (pe_op op_cat (pv 3) (pv 12)) po_none (po_some pe_int)) pa_nil)))))) (pw_or1 (pt_not (pt_val (pe_call G_law_lists_refused (hr.mono (by decide)) rfl T.mg_law_lists_refused T.F_law_lists_refused.kp T.b_law_lists_refused .nil pass0 (pa_cons (pv 3) (pa_cons (pe_slice sl_list (pv 2) (po_some pe_int) po_none) pa_nil)))))))) (pss_one (ps_ret pe_bl)) pss_nil)
      (pss_one (ps_ret (pe_and (pe_call G_law_is_round (hr.mono (by decide)) rfl T.mg_law_is_round T.F_law_is_round.kp T.b_law_is_round .nil pass0 (pa_cons (pv 6) (pa_cons (pv 3) pa_nil))) (pe_one (pe_call G_law_turns (hr.mono (by decide)) rfl T.mg_law_turns T.F_law_turns.kp T.b_law_turns .nil pass0 (pa_cons (pv 6) (pa_cons (pv 3) (pa_cons (pe_call G_law_whole (hr.mono (by decide)) rfl T.mg_law_whole T.F_law_whole.kp T.b_law_whole .nil pass0 (pa_cons (pv 1) (pa_cons pe_int pa_nil))) pa_nil)))))))))))))))))))))))))))), ?_⟩
    refine ⟨_, rfl, sa, scr, 0, 60, rfl, hS, by decide, by decide, by decide, fun p ps H1 s1 h1 l1 P1 => ?_⟩
    refine ⟨_, rfl, sa, scr, 1, 60, rfl, s1.seq hS, by decide, by decide, by decide, fun q qs H2 s2 h2 l2 P2 => ?_⟩
    have h1 := s2 _ _ h1
    have lp : ps.length = 60 := by omega
    have lq : qs.length = 60 := by omega
    obtain ⟨x0, _, e0⟩ := atI_ok (xs := ps) (j := 0) (by decide) (by omega)
    obtain ⟨y0, _, f0⟩ := atI_ok (xs := qs) (j := 0) (by decide) (by omega)
    obtain ⟨y1, _, f1⟩ := atI_ok (xs := qs) (j := 1) (by decide) (by omega)
    refine ⟨by show 0 ≤ sizeLine; decide, fun nm hnm => ?_⟩
    have npn : p ≠ nm := ne_of_none h1 hnm
    have nqn : q ≠ nm := ne_of_none h2 hnm
    have s3 := same_new (o := .lst []) hnm
    have hp3 := s3 _ _ h1
    have hq3 := s3 _ _ h2
    have hN3 := upd_same (H := H2) (a := nm) (o := .lst [])
    generalize upd H2 nm _ = H3 at s3 hp3 hq3 hN3 ⊢
    clear s1 s2 s3 h1 h2
    refine ⟨by show 13 ≤ sizeLine; decide, fun L hL => ?_⟩
    obtain ⟨n, hn, en⟩ := atI_ok (xs := [3, 4, 5, 2, 8, 6, 9, 10, 1, 7, 0, 12, 11]) (j := x0 % 13) (Int.emod_nonneg _ (by decide)) (Int.emod_lt_of_pos _ (by decide))
    have hnb : 0 ≤ n ∧ n ≤ 12 := by
      have : ∀ v ∈ ([3, 4, 5, 2, 8, 6, 9, 10, 1, 7, 0, 12, 11] : List Int), 0 ≤ v ∧ v ≤ 12 := by decide
      exact this n hn
    have s4 := same_new (o := .lst [V.int 3, .int 4, .int 5, .int 2, .int 8, .int 6, .int 9, .int 10, .int 1, .int 7, .int 0, .int 12, .int 11]) hL
    have hp4 := s4 _ _ hp3
    have hq4 := s4 _ _ hq3
    have hN4 := s4 _ _ hN3
    have hL4 := upd_same (H := H3) (a := L) (o := .lst [V.int 3, .int 4, .int 5, .int 2, .int 8, .int 6, .int 9, .int 10, .int 1, .int 7, .int 0, .int 12, .int 11])
    generalize upd H3 L _ = H4 at s4 hp4 hq4 hN4 hL4 ⊢
    clear s4 hp3 hq3 hN3
    refine ⟨_, rfl, _, _, _, _, rfl, rfl, SqL.of hp4, e0, .inl ⟨_, rfl, _, _, rfl, rfl, by show (0 : Int) < 13; decide, L, _, _, _, rfl, rfl, SqL.of hL4, en, n, rfl, by omega, by omega, ?_⟩⟩
    refine for_range (n := n.toNat) (fun j σ H5 => H5 p = some (.lst (ps.map V.int)) ∧ H5 q = some (.lst (qs.map V.int)) ∧ (∃ N : List Str, H5 nm = some (.lst (sv N)) ∧ (∀ z ∈ N, Good z) ∧ N.Nodup ∧ N.length = j) ∧ ∃ u : Option V, σ = [some (.ref sa), some (.ref p), some (.ref q), some (.ref nm), u, none, none, none, none, none, none, none, none])
      ⟨hp4, hq4, ⟨[], hN4, fun _ h => (nomatch h), List.nodup_nil, rfl⟩, none, rfl⟩ ?_ ?_
    · rintro j σ H5 hj ⟨hp5, hq5, ⟨N, hN5, gN, dN, lN⟩, u, rfl⟩
      refine ⟨_, rfl, .inl ⟨rfl, _, SqL.of hN5⟩, _, rfl, _, rfl, _, rfl, _, _, rfl, rfl, .inl (by decide), _, _, rfl, rfl, p, ps, _, rfl, SqL.of hp5, P1, by omega, by omega, fun z gz => ?_⟩
      refine ⟨nm, N, z, rfl, SqL.of hN5, by omega, gz, fun z' g' hn' => ?_⟩
      refine ⟨nm, _, _, rfl, rfl, hN5, small_int (by rw [len_sv]; omega), ?_⟩
      refine ⟨by rw [upd_ne npn]; exact hp5, by rw [upd_ne nqn]; exact hq5, ⟨N ++ [z'], by rw [upd_same, sv_snoc], fun y hy => ?_, ?_, by rw [List.length_append, lN]; rfl⟩, _, rfl⟩
      · rcases List.mem_append.mp hy with h | h
        · exact gN y h
        · rw [List.mem_singleton.mp h]; exact g'
      · rw [List.nodup_append]
        refine ⟨dN, by simp, fun a ha b hb e => ?_⟩
        rw [List.mem_singleton.mp hb] at e
        rw [e] at ha
        exact hn' ha
    · rintro σ H5 ⟨hp5, hq5, ⟨N, hN5, gN, dN, lN⟩, u, rfl⟩
      have ok : RingOk N := ⟨gN, dN, by omega⟩
      have hn12 := ok.n
      clear hp4 hq4 hN4 hL4
      -- the ring
      refine ⟨_, rfl, nm, _, rfl, .inl (SqL.of hN5), fun g hg => ?_⟩
      have s6 := same_new (o := .lst (sv N)) hg
      have npg : p ≠ g := ne_of_none hp5 hg
      have nqg : q ≠ g := ne_of_none hq5 hg
      have nng : nm ≠ g := ne_of_none hN5 hg
      have hp6 := s6 _ _ hp5
      have hq6 := s6 _ _ hq5
      have hN6 := s6 _ _ hN5
      have hg6 := upd_same (H := H5) (a := g) (o := .lst (sv N))
      generalize upd H5 g _ = H6 at s6 hp6 hq6 hN6 hg6 ⊢
      clear s6 hp5 hq5 hN5
      refine ⟨_, rfl, fun r dx hx hdx hne => mk_ring2 (ns := N) (.inl (SqL.of hg6)) ok hx hdx hne fun H7 s7 hR => ⟨rfl, ?_⟩⟩
      have hp7 := s7 _ _ hp6
      have hq7 := s7 _ _ hq6
      have hN7 := s7 _ _ hN6
      have hg7 := s7 _ _ hg6
      clear s7 hp6 hq6 hN6 hg6 hx hdx
      refine ⟨_, rfl, .inl ⟨rfl, _, SqL.of hg7⟩, g, _, _, rfl, rfl, hg7, small_int (by rw [len_sv]; omega), ?_⟩
      have hR := hR.upd hg7 (o := .lst (sv N ++ [V.str "q"]))
      have hp8 : upd H7 g (.lst (sv N ++ [V.str "q"])) p = some (.lst (ps.map V.int)) := by rw [upd_ne npg]; exact hp7
      have hq8 : upd H7 g (.lst (sv N ++ [V.str "q"])) q = some (.lst (qs.map V.int)) := by rw [upd_ne nqg]; exact hq7
      have hN8 : upd H7 g (.lst (sv N ++ [V.str "q"])) nm = some (.lst (sv N)) := by rw [upd_ne nng]; exact hN7
      generalize upd H7 g _ = H8 at hR hp8 hq8 hN8 ⊢
      clear hp7 hq7 hN7 hg7
      have hP := SqL.of (K := K) hp8
      have hQ := SqL.of (K := K) hq8
      have hN := SqL.of (K := K) hN8
      -- the stranger
      refine ⟨_, rfl, _, rfl, p, ps, 45, rfl, hP, P1, by decide, by omega, fun z gz => ?_⟩
      refine ⟨nm, N, z, rfl, hN, by omega, gz, fun stg gs nst => ?_⟩
      -- is round
      refine ⟨_, rfl, _, rfl, r, nm, N, rfl, hR, hN, ok, fun H9 s9 => ⟨_, rfl, ifF rfl ?_⟩⟩
      obtain ⟨d0, n0, i0, _⟩ := id (hR.same s9)
      refine ⟨_, rfl, r, _, _, rfl, i0, r, N, rfl, hR.same s9, ok, fun b1 H10 s10 hb1 => ?_⟩
      have s10 := s9.trans s10
      refine ⟨_, rfl, nm, N, rfl, s10.seq hN, by omega, fun c1 H11 s11 _ hc1 => ?_⟩
      refine ⟨b1, c1, backN N, rfl, hb1.same s11, SqL.of hc1, ok.back, fun H12 s12 => ⟨_, rfl, ifF rfl ?_⟩⟩
      have s12 := (s10.trans s11).trans s12
      clear s9 s10 s11 hc1 hb1 i0
      obtain ⟨d0, n0, i0, _⟩ := id (hR.same s12)
      refine ⟨_, rfl, r, _, _, rfl, i0, r, N, rfl, hR.same s12, ok, fun b1 H10 s10 hb1 => ?_⟩
      obtain ⟨d1, n1, i1, _⟩ := id hb1
      refine ⟨b1, _, _, rfl, i1, b1, _, rfl, hb1, ok.back, fun b2 H11 s11 hb2 => ?_⟩
      rw [backN_backN] at hb2
      have s11 := (s12.trans s10).trans s11
      refine ⟨_, rfl, b2, nm, N, rfl, hb2, s11.seq hN, ok, fun H13 s13 => ⟨_, rfl, ifF rfl ?_⟩⟩
      have s13 := s11.trans s13
      clear s10 s11 s12 hb1 hb2 i0 i1
      refine ⟨_, rfl, nm, _, rfl, .inl ⟨s13.seq hN, fun tp o htp hod => ?_⟩⟩
      have s14 := s13.trans (same_new (o := .frz o (.tup (sv N))) htp)
      have hD : DT (upd H13 tp (.frz o (.tup (sv N)))) tp (sv N) := ⟨o, hod, upd_same⟩
      generalize upd H13 tp _ = H14 at s14 hD ⊢
      refine fun r2 dx hx hdx hne => mk_ring2 (ns := N) (.inr hD) ok hx hdx hne fun H15 s15 hR2 => ⟨rfl, ?_⟩
      have s15 := s14.trans s15
      refine ⟨_, rfl, r2, nm, N, rfl, hR2, s15.seq hN, ok, fun H16 s16 => ⟨_, rfl, ifF rfl ?_⟩⟩
      have s16 := s15.trans s16
      clear s13 s14 s15 hD hR2
      -- turns
      refine ⟨_, rfl, p, ps, 37, rfl, s16.seq hP, P1, by decide, by omega, fun v1 g1 H17 s17 => ?_⟩
      have s17 := s16.trans s17
      refine ⟨_, rfl, p, ps, 41, rfl, s17.seq hP, P1, by decide, by omega, fun v2 g2 H18 s18 => ?_⟩
      have s18 := s17.trans s18
      refine ⟨by show 4 ≤ sizeLine; decide, fun D hD => ?_⟩
      have s19 := s18.trans (same_new (o := .lst [V.int v1, .int v2, .int 0, .int 1]) hD)
      have hD9 := upd_same (H := H18) (a := D) (o := .lst [V.int v1, .int v2, .int 0, .int 1])
      generalize upd H18 D _ = H19 at s19 hD9 ⊢
      clear s16 s17 s18
      refine ⟨D, rfl, ⟨_, SqL.of hD9⟩, for_it walk_list (fun i σ H20 => Same H19 H20 ∧ ∃ u8 : Option V, σ = [some (.ref sa), some (.ref p), some (.ref q), some (.ref nm), u, some (.ref g), some (.ref r), some (.str stg), u8, none, none, none, none]) ⟨Same.refl _, none, rfl⟩ (fun i σ H20 _ q => q.1.seq (SqL.of hD9)) ?_ ?_⟩
      · rintro i x σ H200 H20 hi ⟨s20, u8, rfl⟩ ⟨rfl, hx⟩
        obtain ⟨v, rfl, gv⟩ : ∃ v : Int, x = V.int v ∧ v.natAbs < 10 ^ 12 := by
          match i, hx with
          | 0, hx => cases hx; exact ⟨_, rfl, g1⟩
          | 1, hx => cases hx; exact ⟨_, rfl, g2⟩
          | 2, hx => cases hx; exact ⟨_, rfl, by decide⟩
          | 3, hx => cases hx; exact ⟨_, rfl, by decide⟩
        have s21 := s19.trans s20
        exact ⟨_, rfl, _, rfl, _, rfl, r, nm, v, N, rfl, hR.same s21, s21.seq hN, ok, gv, fun H22 s22 => ⟨_, rfl, iteF ⟨s20.trans s22, _, rfl⟩⟩⟩
      rintro σ H20 ⟨s20, u8, rfl⟩
      have s20 := s19.trans s20
      clear s19 hD9
      -- mixed
      refine ⟨_, rfl, _, rfl, q, _, _, _, rfl, rfl, s20.seq hQ, f0, _, _, rfl, rfl, .inr (by decide), _, rfl, q, _, _, _, rfl, rfl, s20.seq hQ, f1, _, _, rfl, rfl, ?_⟩
      refine ⟨nm, N, _, rfl, s20.seq hN, by omega, fun mx M H21 s21 hmx pM => ?_⟩
      have s21 := s20.trans s21
      have om : RingOk M := ok.perm pM
      have hmx8 := hmx
      refine ⟨_, rfl, _, rfl, _, rfl, r, nm, mx, N, M, rfl, hR.same s21, s21.seq hN, SqL.of hmx, ok, om, fun H22 s22 => ⟨_, rfl, ifF rfl ?_⟩⟩
      have hmx := s22 _ _ hmx
      have s22 := s21.trans s22
      have orv : RingOk N.reverse := ok.perm (List.reverse_perm N)
      have erv : (sv N).reverse = sv N.reverse := List.map_reverse.symm
      refine ⟨_, rfl, _, rfl, _, rfl, nm, _, rfl, s22.seq hN, fun a1 ha1 => ?_⟩
      rw [erv]
      have q1 := same_new (o := .lst (sv N.reverse)) ha1
      have q2 := upd_same (H := H22) (a := a1) (o := .lst (sv N.reverse))
      have hmx := q1 _ _ hmx
      have s23 := s22.trans q1
      generalize upd H22 a1 _ = H23 at q1 q2 hmx s23 ⊢
      refine ⟨r, nm, a1, N, N.reverse, rfl, hR.same s23, s23.seq hN, SqL.of q2, ok, orv, fun H24 s24 => ⟨_, rfl, ifF rfl ?_⟩⟩
      have hmx := s24 _ _ hmx
      have s24 := s23.trans s24
      clear q1 q2 s20 s21 s22 s23
      -- fewer names, and a stranger
      have od : RingOk (N.drop 1) := ok.sub (List.drop_sublist _ _)
      have ods : RingOk (N.drop 1 ++ [stg]) := by
        refine ⟨fun z hz => (List.mem_append.mp hz).elim (od.g z) fun h => by rw [List.mem_singleton.mp h]; exact gs, ?_, ?_⟩
        · rw [List.nodup_append]
          refine ⟨od.nd, by simp, fun a ha b hb e => ?_⟩
          rw [List.mem_singleton.mp hb] at e
          rw [e] at ha
          exact nst (List.mem_of_mem_drop ha)
        · rw [List.length_append, List.length_drop]; show N.length - 1 + 1 ≤ 12; omega
      refine ⟨_, rfl, _, rfl, _, rfl, _, rfl, nm, _, rfl, s24.seq hN, fun a2 ha2 => ?_⟩
      rw [show cutV (sv N) (some 1) none = sv (N.drop 1) from cut_drop1 N 1]
      have q1 := same_new (o := .lst (sv (N.drop 1))) ha2
      have q2 := upd_same (H := H24) (a := a2) (o := .lst (sv (N.drop 1)))
      have hmx := q1 _ _ hmx
      have s25 := s24.trans q1
      generalize upd H24 a2 _ = H25 at q1 q2 hmx s25 ⊢
      refine ⟨r, nm, a2, N, N.drop 1, rfl, hR.same s25, s25.seq hN, SqL.of q2, ok, od, fun H26 s26 => ⟨_, rfl, ifF rfl ?_⟩⟩
      have hmx := s26 _ _ hmx
      have s26 := s25.trans s26
      clear q1 q2 s24 s25
      refine ⟨_, rfl, _, rfl, _, rfl, _, rfl, nm, _, rfl, s26.seq hN, fun a3 ha3 => ?_⟩
      rw [show cutV (sv N) (some 1) none = sv (N.drop 1) from cut_drop1 N 1]
      have q1 := same_new (o := .lst (sv (N.drop 1))) ha3
      have q2 := upd_same (H := H26) (a := a3) (o := .lst (sv (N.drop 1)))
      have hmx := q1 _ _ hmx
      have s27 := s26.trans q1
      generalize upd H26 a3 _ = H27 at q1 q2 hmx s27 ⊢
      clear q1 s26
      refine ⟨_, rfl, by show 1 ≤ sizeLine; decide, fun b3 hb3 => ?_⟩
      have q1 := same_new (o := .lst [V.str stg]) hb3
      have q3 := upd_same (H := H27) (a := b3) (o := .lst [V.str stg])
      have q2 := q1 _ _ q2
      have hmx := q1 _ _ hmx
      have s28 := s27.trans q1
      generalize upd H27 b3 _ = H28 at q1 q2 q3 hmx s28 ⊢
      clear q1 s27
      refine ⟨a3, b3, _, _, rfl, rfl, q2, q3, by rw [len_sv, List.length_drop]; exact Nat.le_trans (show N.length - 1 + 1 ≤ 100 by omega) (by decide), fun c3 hc3 => ?_⟩
      rw [show sv (N.drop 1) ++ [V.str stg] = sv (N.drop 1 ++ [stg]) from cat_sv _ [stg]]
      have q1 := same_new (o := .lst (sv (N.drop 1 ++ [stg]))) hc3
      have q4 := upd_same (H := H28) (a := c3) (o := .lst (sv (N.drop 1 ++ [stg])))
      have hmx := q1 _ _ hmx
      have s29 := s28.trans q1
      generalize upd H28 c3 _ = H29 at q1 q4 hmx s29 ⊢
      refine ⟨r, nm, c3, N, _, rfl, hR.same s29, s29.seq hN, SqL.of q4, ok, ods, fun H30 s30 => ⟨_, rfl, ifF rfl ?_⟩⟩
      have hmx := s30 _ _ hmx
      have s30 := s29.trans s30
      clear q1 q2 q3 q4 s28 s29
      -- the first two exchanged
      have oss : RingOk ((N.drop 1).take 1 ++ N.take 1 ++ N.drop 2) := ok.perm (swap_perm N)
      refine ⟨_, rfl, _, rfl, _, rfl, _, rfl, _, rfl, nm, _, rfl, s30.seq hN, fun a4 ha4 => ?_⟩
      rw [show cutV (sv N) (some 1) (some 2) = sv ((N.drop 1).take 1) from cut_12 N]
      have q1 := same_new (o := .lst (sv ((N.drop 1).take 1))) ha4
      have q2 := upd_same (H := H30) (a := a4) (o := .lst (sv ((N.drop 1).take 1)))
      have hmx := q1 _ _ hmx
      have s31 := s30.trans q1
      generalize upd H30 a4 _ = H31 at q1 q2 hmx s31 ⊢
      clear q1 s30
      refine ⟨_, rfl, _, rfl, nm, _, rfl, s31.seq hN, fun b4 hb4 => ?_⟩
      rw [show cutV (sv N) none (some 1) = sv (N.take 1) from cut_take1 N 1]
      have q1 := same_new (o := .lst (sv (N.take 1))) hb4
      have q3 := upd_same (H := H31) (a := b4) (o := .lst (sv (N.take 1)))
      have q2 := q1 _ _ q2
      have hmx := q1 _ _ hmx
      have s32 := s31.trans q1
      generalize upd H31 b4 _ = H32 at q1 q2 q3 hmx s32 ⊢
      clear q1 s31
      refine ⟨a4, b4, _, _, rfl, rfl, q2, q3, by rw [len_sv, len_sv, List.length_take, List.length_take]; exact Nat.le_trans (show _ ≤ 100 by omega) (by decide), fun c4 hc4 => ?_⟩
      rw [cat_sv]
      have q1 := same_new (o := .lst (sv ((N.drop 1).take 1 ++ N.take 1))) hc4
      have q4 := upd_same (H := H32) (a := c4) (o := .lst (sv ((N.drop 1).take 1 ++ N.take 1)))
      have hmx := q1 _ _ hmx
      have s33 := s32.trans q1
      generalize upd H32 c4 _ = H33 at q1 q4 hmx s33 ⊢
      clear q1 q2 q3 s32
      refine ⟨_, rfl, _, rfl, nm, _, rfl, s33.seq hN, fun d4 hd4 => ?_⟩
      rw [show cutV (sv N) (some 2) none = sv (N.drop 2) from cut_drop1 N 2]
      have q1 := same_new (o := .lst (sv (N.drop 2))) hd4
      have q5 := upd_same (H := H33) (a := d4) (o := .lst (sv (N.drop 2)))
      have q4 := q1 _ _ q4
      have hmx := q1 _ _ hmx
      have s34 := s33.trans q1
      generalize upd H33 d4 _ = H34 at q1 q4 q5 hmx s34 ⊢
      clear q1 s33
      refine ⟨c4, d4, _, _, rfl, rfl, q4, q5, by rw [len_sv, len_sv]; simp only [List.length_append, List.length_take, List.length_drop]; exact Nat.le_trans (show _ ≤ 100 by omega) (by decide), fun e4 he4 => ?_⟩
      rw [cat_sv]
      have q1 := same_new (o := .lst (sv ((N.drop 1).take 1 ++ N.take 1 ++ N.drop 2))) he4
      have q6 := upd_same (H := H34) (a := e4) (o := .lst (sv ((N.drop 1).take 1 ++ N.take 1 ++ N.drop 2)))
      have hmx := q1 _ _ hmx
      have s35 := s34.trans q1
      generalize upd H34 e4 _ = H35 at q1 q6 hmx s35 ⊢
      refine ⟨r, nm, e4, N, _, rfl, hR.same s35, s35.seq hN, SqL.of q6, ok, oss, fun H36 s36 => ⟨_, rfl, iteF ?_⟩⟩
      have hmx := s36 _ _ hmx
      have s36 := s35.trans s36
      clear q1 q4 q5 q6 s34 s35
      -- cuts
      have hN36 := s36 _ _ hN8
      refine ⟨_, rfl, _, rfl, by show 2 ≤ sizeLine; decide, fun b5 hb5 => ?_⟩
      have q1 := same_new (o := .lst [V.str stg, .str ""]) hb5
      have q3 := upd_same (H := H36) (a := b5) (o := .lst [V.str stg, .str ""])
      have hN37 := q1 _ _ hN36
      have hmx := q1 _ _ hmx
      have s37 := s36.trans q1
      generalize upd H36 b5 _ = H37 at q1 q3 hN37 hmx s37 ⊢
      clear q1 s36 hN36
      refine ⟨nm, b5, _, _, rfl, rfl, hN37, q3, by rw [len_sv]; exact Nat.le_trans (show N.length + 2 ≤ 100 by omega) (by decide), fun c5 hc5 => ?_⟩
      rw [show sv N ++ [V.str stg, .str ""] = sv (N ++ [stg, ""]) from cat_sv N [stg, ""]]
      have q1 := same_new (o := .lst (sv (N ++ [stg, ""]))) hc5
      have q4 := upd_same (H := H37) (a := c5) (o := .lst (sv (N ++ [stg, ""])))
      have hmx := q1 _ _ hmx
      have s38 := s37.trans q1
      generalize upd H37 c5 _ = H38 at q1 q4 hmx s38 ⊢
      clear q1 q3 s37 hN37
      refine ⟨c5, rfl, ⟨_, SqL.of q4⟩, for_it walk_list (fun i σ H39 => Same H38 H39 ∧ ∃ u10 : Option V, σ = [some (.ref sa), some (.ref p), some (.ref q), some (.ref nm), u, some (.ref g), some (.ref r), some (.str stg), u8, some (.ref mx), u10, none, none]) ⟨Same.refl _, none, rfl⟩ (fun i σ H39 _ q => q.1.seq (SqL.of q4)) ?_ ?_⟩
      · rintro i x σ H390 H39 hi ⟨s39, u10, rfl⟩ ⟨rfl, hx⟩
        obtain ⟨z, hz, rfl⟩ := sv_get hx
        have lz : z.length ≤ 1000 := by
          rcases List.mem_append.mp (List.mem_of_getElem? hz) with h | h
          · exact Nat.le_trans (gN z h).le (by decide)
          · rcases List.mem_cons.mp h with h | h
            · rw [h]; exact Nat.le_trans gs.le (by decide)
            · rw [List.mem_singleton.mp h]; decide
        have s40 := s38.trans s39
        exact ⟨_, rfl, _, rfl, _, rfl, r, nm, z, N, rfl, hR.same s40, s40.seq hN, ok, lz, fun H41 s41 => ⟨_, rfl, iteF ⟨s39.trans s41, _, rfl⟩⟩⟩
      rintro σ H39 ⟨s39, u10, rfl⟩
      have hmx := s39 _ _ hmx
      have s39 := s38.trans s39
      clear s38 q4
      -- four of them
      have hN39 := s39 _ _ hN8
      refine ⟨_, rfl, _, rfl, by show 1 ≤ sizeLine; decide, fun b6 hb6 => ?_⟩
      have q1 := same_new (o := .lst [V.str stg]) hb6
      have q3 := upd_same (H := H39) (a := b6) (o := .lst [V.str stg])
      have hN40 := q1 _ _ hN39
      have hmx := q1 _ _ hmx
      have s40 := s39.trans q1
      generalize upd H39 b6 _ = H40 at q1 q3 hN40 hmx s40 ⊢
      clear q1 s39 hN39
      refine ⟨nm, b6, _, _, rfl, rfl, hN40, q3, by rw [len_sv]; exact Nat.le_trans (show N.length + 1 ≤ 100 by omega) (by decide), fun kn hkn => ?_⟩
      rw [show sv N ++ [V.str stg] = sv (N ++ [stg]) from cat_sv N [stg]]
      have q1 := same_new (o := .lst (sv (N ++ [stg]))) hkn
      have q4 := upd_same (H := H40) (a := kn) (o := .lst (sv (N ++ [stg])))
      have hmx := q1 _ _ hmx
      have s41 := s40.trans q1
      generalize upd H40 kn _ = H41 at q1 q4 hmx s41 ⊢
      clear q1 q3 s40 hN40
      have gk : ∀ z ∈ N ++ [stg], Good z := fun z hz => (List.mem_append.mp hz).elim (gN z) fun h => by rw [List.mem_singleton.mp h]; exact gs
      have lk : (sv (N ++ [stg])).length = N.length + 1 := by rw [len_sv, List.length_append]; rfl
      refine ⟨4, rfl, by decide, by decide, fun D2 hD2 => lc_range (n := 4) (fun i H42 => Same H41 H42 ∧ ∃ F : List Str, H42 D2 = some (.lst (sv F)) ∧ F.length = i ∧ ∀ z ∈ F, Good z) ⟨same_new hD2, [], upd_same, rfl, fun _ h => (nomatch h)⟩ ?_ ?_⟩
      · rintro j H42 hj ⟨s42, F, hF, lF, gF⟩
        obtain ⟨w, _, fw⟩ := atI_ok (xs := qs) (j := 2 + (0 + (j : Int))) (by omega) (by omega)
        have pos : (0 : Int) < ((sv (N ++ [stg])).length : Int) := by rw [lk]; omega
        obtain ⟨z, mz, ez⟩ := at_sv (ss := N ++ [stg]) (j := w % ((sv (N ++ [stg])).length : Int)) (Int.emod_nonneg _ (by omega)) (by have := Int.emod_lt_of_pos w pos; rw [len_sv] at this ⊢; exact this)
        have hk42 := s42 _ _ q4
        refine ⟨rfl, _, rfl, _, rfl, _, rfl, _, _, rfl, rfl, q, _, _, _, rfl, rfl, (s41.trans s42).seq hQ, fw, .inl ⟨_, rfl, _, rfl, kn, _, rfl, .inl (SqL.of hk42), _, _, rfl, rfl, pos, kn, _, _, _, rfl, rfl, SqL.of hk42, ez, _, hF, small_int (by rw [len_sv]; omega), fun b o e => ?_, F ++ [z], ?_, by rw [List.length_append, lF]; rfl, fun y hy => ?_⟩⟩
        · rw [upd_ne (ne_of_none e hD2)]; exact s42 _ _ e
        · rw [upd_same, sv_snoc]
        · rcases List.mem_append.mp hy with h | h
          · exact gF y h
          · rw [List.mem_singleton.mp h]; exact gk z mz
      rintro H42 ⟨s42, F, hF, lF, gF⟩
      have hmx := s42 _ _ hmx
      have s42 := s41.trans s42
      clear s41 q4
      refine ⟨_, rfl, _, rfl, _, rfl, r, nm, D2, N, F, rfl, hR.same s42, s42.seq hN, SqL.of hF, ok, lF, gF, fun H43 s43 => ⟨_, rfl, ifF rfl ?_⟩⟩
      have hmx := s43 _ _ hmx
      have hF := s43 _ _ hF
      have s43 := s42.trans s43
      clear s42
      -- (mixed + four)[:4]
      have four : ∀ X : List Str, (∀ z ∈ X, Good z) → X.length ≤ 12 → ((X ++ F).take 4).length = 4 ∧ ∀ z ∈ (X ++ F).take 4, Good z := fun X gX lX => by
        refine ⟨by rw [List.length_take, List.length_append]; omega, fun z hz => ?_⟩
        exact (List.mem_append.mp (List.mem_of_mem_take hz)).elim (gX z) (gF z)
      refine ⟨_, rfl, _, rfl, _, rfl, _, rfl, mx, D2, _, _, rfl, rfl, hmx, hF, by rw [len_sv, len_sv]; have := om.n; exact Nat.le_trans (show _ ≤ 100 by omega) (by decide), fun c7 hc7 => ?_⟩
      rw [cat_sv]
      have q1 := same_new (o := .lst (sv (M ++ F))) hc7
      have q4 := upd_same (H := H43) (a := c7) (o := .lst (sv (M ++ F)))
      have hF := q1 _ _ hF
      have s44 := s43.trans q1
      generalize upd H43 c7 _ = H44 at q1 q4 hF s44 ⊢
      clear q1 s43
      refine ⟨_, rfl, c7, _, rfl, SqL.of q4, fun d7 hd7 => ?_⟩
      rw [show cutV (sv (M ++ F)) none (some 4) = sv ((M ++ F).take 4) from cut_take1 _ 4]
      have q1 := same_new (o := .lst (sv ((M ++ F).take 4))) hd7
      have q5 := upd_same (H := H44) (a := d7) (o := .lst (sv ((M ++ F).take 4)))
      have hF := q1 _ _ hF
      have s45 := s44.trans q1
      generalize upd H44 d7 _ = H45 at q1 q5 hF s45 ⊢
      obtain ⟨l4, g4⟩ := four M om.g om.n
      refine ⟨r, nm, d7, N, _, rfl, hR.same s45, s45.seq hN, SqL.of q5, ok, l4, g4, fun H46 s46 => ⟨_, rfl, iteF ?_⟩⟩
      have hF := s46 _ _ hF
      have s46 := s45.trans s46
      clear q1 q4 q5 s44 s45 l4 g4
      -- (names + four)[:4]
      have hN46 := s46 _ _ hN8
      refine ⟨_, rfl, _, rfl, _, rfl, _, rfl, nm, D2, _, _, rfl, rfl, hN46, hF, by rw [len_sv, len_sv]; exact Nat.le_trans (show _ ≤ 100 by omega) (by decide), fun c8 hc8 => ?_⟩
      rw [cat_sv]
      have q1 := same_new (o := .lst (sv (N ++ F))) hc8
      have q4 := upd_same (H := H46) (a := c8) (o := .lst (sv (N ++ F)))
      have s47 := s46.trans q1
      generalize upd H46 c8 _ = H47 at q1 q4 s47 ⊢
      clear q1 s46
      refine ⟨_, rfl, c8, _, rfl, SqL.of q4, fun d8 hd8 => ?_⟩
      rw [show cutV (sv (N ++ F)) none (some 4) = sv ((N ++ F).take 4) from cut_take1 _ 4]
      have q1 := same_new (o := .lst (sv ((N ++ F).take 4))) hd8
      have q5 := upd_same (H := H47) (a := d8) (o := .lst (sv ((N ++ F).take 4)))
      have s48 := s47.trans q1
      generalize upd H47 d8 _ = H48 at q1 q5 s48 ⊢
      obtain ⟨l4, g4⟩ := four N gN hn12
      refine ⟨r, nm, d8, N, _, rfl, hR.same s48, s48.seq hN, SqL.of q5, ok, l4, g4, fun H49 s49 => ⟨_, rfl, ifF rfl ?_⟩⟩
      have s49 := s48.trans s49
      clear q1 q4 q5 s47 s48 l4 g4
      -- lists refused
      refine ⟨_, rfl, _, rfl, _, rfl, q, _, rfl, s49.seq hQ, fun d9 hd9 => ?_⟩
      have ed : cutV (qs.map V.int) (some 6) none = (qs.drop 6).map V.int := by
        rw [show (6 : Int) = ((6 : Nat) : Int) from rfl, cut_drop (by rw [len_map_int]; omega), List.map_drop]
      rw [ed]
      have q1 := same_new (o := .lst ((qs.drop 6).map V.int)) hd9
      have q5 := upd_same (H := H49) (a := d9) (o := .lst ((qs.drop 6).map V.int))
      have s50 := s49.trans q1
      generalize upd H49 d9 _ = H50 at q1 q5 s50 ⊢
      refine ⟨nm, d9, N, qs.drop 6, rfl, s50.seq hN, SqL.of q5, ok, by rw [List.length_drop]; omega, fun H51 s51 => ⟨_, rfl, iteF ?_⟩⟩
      have s51 := s50.trans s51
      -- the end
      refine ⟨_, rfl, _, rfl, r, nm, N, rfl, hR.same s51, s51.seq hN, ok, fun H52 s52 => ⟨_, rfl, iteT ?_⟩⟩
      have s52 := s51.trans s52
      refine ⟨_, rfl, _, rfl, _, rfl, p, ps, 41, rfl, s52.seq hP, P1, by decide, by omega, fun v3 g3 H53 s53 => ?_⟩
      have s53 := s52.trans s53
      exact ⟨r, nm, v3, N, rfl, hR.same s53, s53.seq hN, ok, g3, fun H54 _ => k H54⟩
end
end My
set_option maxRecDepth 100000
set_option maxHeartbeats 4000000
set_option exponentiation.threshold 10000
namespace My
open PySem L2
theorem all_mk {l : PySem.W.OpenLaw} {w : World} {K : PySem.W.Frag} {h : Heap} {mg : Str → Option Value} {fa C_Round C_Table C_RowsError C_Unknown C_Impossible C_UnknownColumn C_BadRound C_BadNumber C_SameColumn a_UnknownColumn_init a_BadRound_init a_BadNumber_init a_SameColumn_init a_is_name a_first_bad_name a_first_stray a_check_known a_check_different a_Round_init a_Round_cut a_Round_splits a_Round_getitem a_Round_lshift a_Round_rshift a_Round_invert a_Round_contains a_Round_len a_Round_iter a_Round_eq a_moved a_all_moved a_law_cell a_law_pool a_law_whole a_law_word a_law_new a_law_sequence a_law_from a_law_back a_law_is_round a_law_turned_right a_law_turns a_law_equals a_law_cut_is a_law_ahead a_law_splits_are a_law_refused a_law_lists_refused a_law : Addr} (X : K.In h) (G : h.Ns mainGlobals mg) (hfa : mg "law" = some (.ref fa))
    {cd_UnknownColumn : ClassData}
    {oc_UnknownColumn_init kV_UnknownColumn_init dc_UnknownColumn_init pm_UnknownColumn_init ct_UnknownColumn_init oa_UnknownColumn_init ob_UnknownColumn_init : Value} {od_UnknownColumn_init an_UnknownColumn_init da_UnknownColumn_init db_UnknownColumn_init : Option Addr} {sl_UnknownColumn_init la_UnknownColumn_init lb_UnknownColumn_init : Array (Option Value)} {cda_UnknownColumn_init cc_UnknownColumn_init : Addr} {vs_UnknownColumn_init : Array Value} {fl_UnknownColumn_init : Str} {tf_UnknownColumn_init : Tok}
    {cd_BadRound : ClassData}
    {oc_BadRound_init kV_BadRound_init dc_BadRound_init pm_BadRound_init ct_BadRound_init oa_BadRound_init ob_BadRound_init : Value} {od_BadRound_init an_BadRound_init da_BadRound_init db_BadRound_init : Option Addr} {sl_BadRound_init la_BadRound_init lb_BadRound_init : Array (Option Value)} {cda_BadRound_init cc_BadRound_init : Addr} {vs_BadRound_init : Array Value} {fl_BadRound_init : Str} {tf_BadRound_init : Tok}
    {cd_BadNumber : ClassData}
    {oc_BadNumber_init kV_BadNumber_init dc_BadNumber_init pm_BadNumber_init ct_BadNumber_init oa_BadNumber_init ob_BadNumber_init : Value} {od_BadNumber_init an_BadNumber_init da_BadNumber_init db_BadNumber_init : Option Addr} {sl_BadNumber_init la_BadNumber_init lb_BadNumber_init : Array (Option Value)} {cda_BadNumber_init cc_BadNumber_init : Addr} {vs_BadNumber_init : Array Value} {fl_BadNumber_init : Str} {tf_BadNumber_init : Tok}
    {cd_SameColumn : ClassData}
    {oc_SameColumn_init kV_SameColumn_init dc_SameColumn_init pm_SameColumn_init ct_SameColumn_init oa_SameColumn_init ob_SameColumn_init : Value} {od_SameColumn_init an_SameColumn_init da_SameColumn_init db_SameColumn_init : Option Addr} {sl_SameColumn_init la_SameColumn_init lb_SameColumn_init : Array (Option Value)} {cda_SameColumn_init cc_SameColumn_init : Addr} {vs_SameColumn_init : Array Value} {fl_SameColumn_init : Str} {tf_SameColumn_init : Tok}
    {tk_LONGEST_NAME : Tok}
    {tk_Table_MOST_COLUMNS : Tok}
    {oc_is_name kV_is_name dc_is_name pm_is_name cd_is_name ct_is_name : Value} {od_is_name an_is_name : Option Addr} {sl_is_name : Array (Option Value)}
    {oc_first_bad_name kV_first_bad_name dc_first_bad_name pm_first_bad_name cd_first_bad_name ct_first_bad_name : Value} {od_first_bad_name an_first_bad_name : Option Addr} {sl_first_bad_name : Array (Option Value)}
    {oc_first_stray kV_first_stray dc_first_stray pm_first_stray cd_first_stray ct_first_stray : Value} {od_first_stray an_first_stray : Option Addr} {sl_first_stray : Array (Option Value)}
    {oc_check_known kV_check_known dc_check_known pm_check_known cd_check_known ct_check_known : Value} {od_check_known an_check_known : Option Addr} {sl_check_known : Array (Option Value)}
    {oc_check_different kV_check_different dc_check_different pm_check_different cd_check_different ct_check_different : Value} {od_check_different an_check_different : Option Addr} {sl_check_different : Array (Option Value)}
    {oc_Round_init kV_Round_init dc_Round_init pm_Round_init cd_Round_init ct_Round_init : Value} {od_Round_init an_Round_init : Option Addr} {sl_Round_init : Array (Option Value)}
    {oc_Round_cut kV_Round_cut dc_Round_cut pm_Round_cut cd_Round_cut ct_Round_cut : Value} {od_Round_cut an_Round_cut : Option Addr} {sl_Round_cut : Array (Option Value)}
    {oc_Round_splits kV_Round_splits dc_Round_splits pm_Round_splits cd_Round_splits ct_Round_splits : Value} {od_Round_splits an_Round_splits : Option Addr} {sl_Round_splits : Array (Option Value)}
    {oc_Round_getitem kV_Round_getitem dc_Round_getitem pm_Round_getitem cd_Round_getitem ct_Round_getitem : Value} {od_Round_getitem an_Round_getitem : Option Addr} {sl_Round_getitem : Array (Option Value)}
    {oc_Round_lshift kV_Round_lshift dc_Round_lshift pm_Round_lshift cd_Round_lshift ct_Round_lshift : Value} {od_Round_lshift an_Round_lshift : Option Addr} {sl_Round_lshift : Array (Option Value)}
    {oc_Round_rshift kV_Round_rshift dc_Round_rshift pm_Round_rshift cd_Round_rshift ct_Round_rshift : Value} {od_Round_rshift an_Round_rshift : Option Addr} {sl_Round_rshift : Array (Option Value)}
    {oc_Round_invert kV_Round_invert dc_Round_invert pm_Round_invert cd_Round_invert ct_Round_invert : Value} {od_Round_invert an_Round_invert : Option Addr} {sl_Round_invert : Array (Option Value)}
    {oc_Round_contains kV_Round_contains dc_Round_contains pm_Round_contains cd_Round_contains ct_Round_contains : Value} {od_Round_contains an_Round_contains : Option Addr} {sl_Round_contains : Array (Option Value)}
    {oc_Round_len kV_Round_len dc_Round_len pm_Round_len cd_Round_len ct_Round_len : Value} {od_Round_len an_Round_len : Option Addr} {sl_Round_len : Array (Option Value)}
    {oc_Round_iter kV_Round_iter dc_Round_iter pm_Round_iter cd_Round_iter ct_Round_iter : Value} {od_Round_iter an_Round_iter : Option Addr} {sl_Round_iter : Array (Option Value)}
    {oc_Round_eq kV_Round_eq dc_Round_eq pm_Round_eq cd_Round_eq ct_Round_eq : Value} {od_Round_eq an_Round_eq : Option Addr} {sl_Round_eq : Array (Option Value)}
    {oc_moved kV_moved dc_moved pm_moved cd_moved ct_moved : Value} {od_moved an_moved : Option Addr} {sl_moved : Array (Option Value)}
    {oc_all_moved kV_all_moved dc_all_moved pm_all_moved cd_all_moved ct_all_moved : Value} {od_all_moved an_all_moved : Option Addr} {sl_all_moved : Array (Option Value)}
    {oc_law_cell kV_law_cell dc_law_cell pm_law_cell cd_law_cell ct_law_cell : Value} {od_law_cell an_law_cell : Option Addr} {sl_law_cell : Array (Option Value)}
    {oc_law_pool kV_law_pool dc_law_pool pm_law_pool cd_law_pool ct_law_pool : Value} {od_law_pool an_law_pool : Option Addr} {sl_law_pool : Array (Option Value)}
    {oc_law_whole kV_law_whole dc_law_whole pm_law_whole cd_law_whole ct_law_whole : Value} {od_law_whole an_law_whole : Option Addr} {sl_law_whole : Array (Option Value)}
    {oc_law_word kV_law_word dc_law_word pm_law_word cd_law_word ct_law_word : Value} {od_law_word an_law_word : Option Addr} {sl_law_word : Array (Option Value)}
    {oc_law_new kV_law_new dc_law_new pm_law_new cd_law_new ct_law_new : Value} {od_law_new an_law_new : Option Addr} {sl_law_new : Array (Option Value)}
    {oc_law_sequence kV_law_sequence dc_law_sequence pm_law_sequence cd_law_sequence ct_law_sequence : Value} {od_law_sequence an_law_sequence : Option Addr} {sl_law_sequence : Array (Option Value)}
    {oc_law_from kV_law_from dc_law_from pm_law_from cd_law_from ct_law_from : Value} {od_law_from an_law_from : Option Addr} {sl_law_from : Array (Option Value)}
    {oc_law_back kV_law_back dc_law_back pm_law_back cd_law_back ct_law_back : Value} {od_law_back an_law_back : Option Addr} {sl_law_back : Array (Option Value)}
    {oc_law_is_round kV_law_is_round dc_law_is_round pm_law_is_round cd_law_is_round ct_law_is_round : Value} {od_law_is_round an_law_is_round : Option Addr} {sl_law_is_round : Array (Option Value)}
    {oc_law_turned_right kV_law_turned_right dc_law_turned_right pm_law_turned_right cd_law_turned_right ct_law_turned_right : Value} {od_law_turned_right an_law_turned_right : Option Addr} {sl_law_turned_right : Array (Option Value)}
    {oc_law_turns kV_law_turns dc_law_turns pm_law_turns cd_law_turns ct_law_turns : Value} {od_law_turns an_law_turns : Option Addr} {sl_law_turns : Array (Option Value)}
    {oc_law_equals kV_law_equals dc_law_equals pm_law_equals cd_law_equals ct_law_equals : Value} {od_law_equals an_law_equals : Option Addr} {sl_law_equals : Array (Option Value)}
    {oc_law_cut_is kV_law_cut_is dc_law_cut_is pm_law_cut_is cd_law_cut_is ct_law_cut_is : Value} {od_law_cut_is an_law_cut_is : Option Addr} {sl_law_cut_is : Array (Option Value)}
    {oc_law_ahead kV_law_ahead dc_law_ahead pm_law_ahead cd_law_ahead ct_law_ahead : Value} {od_law_ahead an_law_ahead : Option Addr} {sl_law_ahead : Array (Option Value)}
    {oc_law_splits_are kV_law_splits_are dc_law_splits_are pm_law_splits_are cd_law_splits_are ct_law_splits_are : Value} {od_law_splits_are an_law_splits_are : Option Addr} {sl_law_splits_are : Array (Option Value)}
    {oc_law_refused kV_law_refused dc_law_refused pm_law_refused cd_law_refused ct_law_refused : Value} {od_law_refused an_law_refused : Option Addr} {sl_law_refused : Array (Option Value)}
    {oc_law_lists_refused kV_law_lists_refused dc_law_lists_refused pm_law_lists_refused cd_law_lists_refused ct_law_lists_refused : Value} {od_law_lists_refused an_law_lists_refused : Option Addr} {sl_law_lists_refused : Array (Option Value)}
    {oc_law kV_law dc_law pm_law cd_law ct_law : Value} {od_law an_law : Option Addr} {sl_law : Array (Option Value)}
    (xmg_Round : PySem.W.nsIn K mainGlobals "Round" = some (some (.ref C_Round)))
    (xmg_Table : PySem.W.nsIn K mainGlobals "Table" = some (some (.ref C_Table)))
    (xmg_RowsError : PySem.W.nsIn K mainGlobals "RowsError" = some (some (.ref C_RowsError)))
    (xmg_Unknown : PySem.W.nsIn K mainGlobals "Unknown" = some (some (.ref C_Unknown)))
    (xmg_Impossible : PySem.W.nsIn K mainGlobals "Impossible" = some (some (.ref C_Impossible)))
    (xmg_UnknownColumn : PySem.W.nsIn K mainGlobals "UnknownColumn" = some (some (.ref C_UnknownColumn)))
    (xmg_BadRound : PySem.W.nsIn K mainGlobals "BadRound" = some (some (.ref C_BadRound)))
    (xmg_BadNumber : PySem.W.nsIn K mainGlobals "BadNumber" = some (some (.ref C_BadNumber)))
    (xmg_SameColumn : PySem.W.nsIn K mainGlobals "SameColumn" = some (some (.ref C_SameColumn)))
    (am_UnknownColumn_init : PySem.W.findIn K (.ref C_UnknownColumn) "__init__" = some (some (.ref a_UnknownColumn_init)))
    (am_BadRound_init : PySem.W.findIn K (.ref C_BadRound) "__init__" = some (some (.ref a_BadRound_init)))
    (am_BadNumber_init : PySem.W.findIn K (.ref C_BadNumber) "__init__" = some (some (.ref a_BadNumber_init)))
    (am_SameColumn_init : PySem.W.findIn K (.ref C_SameColumn) "__init__" = some (some (.ref a_SameColumn_init)))
    (xmg_LONGEST_NAME : PySem.W.nsIn K mainGlobals "LONGEST_NAME" = some (some (.int 8 tk_LONGEST_NAME)))
    (xmg_is_name : PySem.W.nsIn K mainGlobals "is_name" = some (some (.ref a_is_name)))
    (xmg_first_bad_name : PySem.W.nsIn K mainGlobals "first_bad_name" = some (some (.ref a_first_bad_name)))
    (xmg_first_stray : PySem.W.nsIn K mainGlobals "first_stray" = some (some (.ref a_first_stray)))
    (xmg_check_known : PySem.W.nsIn K mainGlobals "check_known" = some (some (.ref a_check_known)))
    (xmg_check_different : PySem.W.nsIn K mainGlobals "check_different" = some (some (.ref a_check_different)))
    (am_Round_init : PySem.W.findIn K (.ref C_Round) "__init__" = some (some (.ref a_Round_init)))
    (am_Round_cut : PySem.W.findIn K (.ref C_Round) "cut" = some (some (.ref a_Round_cut)))
    (am_Round_splits : PySem.W.findIn K (.ref C_Round) "splits" = some (some (.ref a_Round_splits)))
    (am_Round_getitem : PySem.W.findIn K (.ref C_Round) "__getitem__" = some (some (.ref a_Round_getitem)))
    (am_Round_lshift : PySem.W.findIn K (.ref C_Round) "__lshift__" = some (some (.ref a_Round_lshift)))
    (am_Round_rshift : PySem.W.findIn K (.ref C_Round) "__rshift__" = some (some (.ref a_Round_rshift)))
    (am_Round_invert : PySem.W.findIn K (.ref C_Round) "__invert__" = some (some (.ref a_Round_invert)))
    (am_Round_contains : PySem.W.findIn K (.ref C_Round) "__contains__" = some (some (.ref a_Round_contains)))
    (am_Round_len : PySem.W.findIn K (.ref C_Round) "__len__" = some (some (.ref a_Round_len)))
    (am_Round_iter : PySem.W.findIn K (.ref C_Round) "__iter__" = some (some (.ref a_Round_iter)))
    (am_Round_eq : PySem.W.findIn K (.ref C_Round) "__eq__" = some (some (.ref a_Round_eq)))
    (xmg_moved : PySem.W.nsIn K mainGlobals "_moved" = some (some (.ref a_moved)))
    (xmg_all_moved : PySem.W.nsIn K mainGlobals "_all_moved" = some (some (.ref a_all_moved)))
    (xmg_law_cell : PySem.W.nsIn K mainGlobals "_law_cell" = some (some (.ref a_law_cell)))
    (xmg_law_pool : PySem.W.nsIn K mainGlobals "_law_pool" = some (some (.ref a_law_pool)))
    (xmg_law_whole : PySem.W.nsIn K mainGlobals "_law_whole" = some (some (.ref a_law_whole)))
    (xmg_law_word : PySem.W.nsIn K mainGlobals "_law_word" = some (some (.ref a_law_word)))
    (xmg_law_new : PySem.W.nsIn K mainGlobals "_law_new" = some (some (.ref a_law_new)))
    (xmg_law_sequence : PySem.W.nsIn K mainGlobals "_law_sequence" = some (some (.ref a_law_sequence)))
    (xmg_law_from : PySem.W.nsIn K mainGlobals "_law_from" = some (some (.ref a_law_from)))
    (xmg_law_back : PySem.W.nsIn K mainGlobals "_law_back" = some (some (.ref a_law_back)))
    (xmg_law_is_round : PySem.W.nsIn K mainGlobals "_law_is_round" = some (some (.ref a_law_is_round)))
    (xmg_law_turned_right : PySem.W.nsIn K mainGlobals "_law_turned_right" = some (some (.ref a_law_turned_right)))
    (xmg_law_turns : PySem.W.nsIn K mainGlobals "_law_turns" = some (some (.ref a_law_turns)))
    (xmg_law_equals : PySem.W.nsIn K mainGlobals "_law_equals" = some (some (.ref a_law_equals)))
    (xmg_law_cut_is : PySem.W.nsIn K mainGlobals "_law_cut_is" = some (some (.ref a_law_cut_is)))
    (xmg_law_ahead : PySem.W.nsIn K mainGlobals "_law_ahead" = some (some (.ref a_law_ahead)))
    (xmg_law_splits_are : PySem.W.nsIn K mainGlobals "_law_splits_are" = some (some (.ref a_law_splits_are)))
    (xmg_law_refused : PySem.W.nsIn K mainGlobals "_law_refused" = some (some (.ref a_law_refused)))
    (xmg_law_lists_refused : PySem.W.nsIn K mainGlobals "_law_lists_refused" = some (some (.ref a_law_lists_refused)))
    (xmg_law : PySem.W.nsIn K mainGlobals "law" = some (some (.ref a_law)))
    (if_Round_init : PySem.W.isFn K (.ref a_Round_init) = true)
    (if_Round_cut : PySem.W.isFn K (.ref a_Round_cut) = true)
    (if_Round_splits : PySem.W.isFn K (.ref a_Round_splits) = true)
    (if_Round_getitem : PySem.W.isFn K (.ref a_Round_getitem) = true)
    (if_Round_lshift : PySem.W.isFn K (.ref a_Round_lshift) = true)
    (if_Round_rshift : PySem.W.isFn K (.ref a_Round_rshift) = true)
    (if_Round_invert : PySem.W.isFn K (.ref a_Round_invert) = true)
    (if_Round_contains : PySem.W.isFn K (.ref a_Round_contains) = true)
    (if_Round_len : PySem.W.isFn K (.ref a_Round_len) = true)
    (if_Round_iter : PySem.W.isFn K (.ref a_Round_iter) = true)
    (if_Round_eq : PySem.W.isFn K (.ref a_Round_eq) = true)
    (l_UnknownColumn_init : K.lookup a_UnknownColumn_init = some ⟨oc_UnknownColumn_init, od_UnknownColumn_init, .func (PySem.W.ksFn "__init__" "UnknownColumn.__init__" (defArgs s_UnknownColumn_init) (defBody s_UnknownColumn_init) (defScope s_UnknownColumn_init) .none kV_UnknownColumn_init dc_UnknownColumn_init pm_UnknownColumn_init an_UnknownColumn_init (.ref cda_UnknownColumn_init) ct_UnknownColumn_init cc_UnknownColumn_init), sl_UnknownColumn_init⟩)
    (l_BadRound_init : K.lookup a_BadRound_init = some ⟨oc_BadRound_init, od_BadRound_init, .func (PySem.W.ksFn "__init__" "BadRound.__init__" (defArgs s_BadRound_init) (defBody s_BadRound_init) (defScope s_BadRound_init) .none kV_BadRound_init dc_BadRound_init pm_BadRound_init an_BadRound_init (.ref cda_BadRound_init) ct_BadRound_init cc_BadRound_init), sl_BadRound_init⟩)
    (l_BadNumber_init : K.lookup a_BadNumber_init = some ⟨oc_BadNumber_init, od_BadNumber_init, .func (PySem.W.ksFn "__init__" "BadNumber.__init__" (defArgs s_BadNumber_init) (defBody s_BadNumber_init) (defScope s_BadNumber_init) .none kV_BadNumber_init dc_BadNumber_init pm_BadNumber_init an_BadNumber_init (.ref cda_BadNumber_init) ct_BadNumber_init cc_BadNumber_init), sl_BadNumber_init⟩)
    (l_SameColumn_init : K.lookup a_SameColumn_init = some ⟨oc_SameColumn_init, od_SameColumn_init, .func (PySem.W.ksFn "__init__" "SameColumn.__init__" (defArgs s_SameColumn_init) (defBody s_SameColumn_init) (defScope s_SameColumn_init) .none kV_SameColumn_init dc_SameColumn_init pm_SameColumn_init an_SameColumn_init (.ref cda_SameColumn_init) ct_SameColumn_init cc_SameColumn_init), sl_SameColumn_init⟩)
    (l_is_name : K.lookup a_is_name = some ⟨oc_is_name, od_is_name, .func (PySem.W.fnOf "is_name" "is_name" (defArgs s_is_name) (defBody s_is_name) (defScope s_is_name) .none kV_is_name dc_is_name pm_is_name an_is_name cd_is_name ct_is_name), sl_is_name⟩)
    (l_first_bad_name : K.lookup a_first_bad_name = some ⟨oc_first_bad_name, od_first_bad_name, .func (PySem.W.fnOf "first_bad_name" "first_bad_name" (defArgs s_first_bad_name) (defBody s_first_bad_name) (defScope s_first_bad_name) .none kV_first_bad_name dc_first_bad_name pm_first_bad_name an_first_bad_name cd_first_bad_name ct_first_bad_name), sl_first_bad_name⟩)
    (l_first_stray : K.lookup a_first_stray = some ⟨oc_first_stray, od_first_stray, .func (PySem.W.fnOf "first_stray" "first_stray" (defArgs s_first_stray) (defBody s_first_stray) (defScope s_first_stray) .none kV_first_stray dc_first_stray pm_first_stray an_first_stray cd_first_stray ct_first_stray), sl_first_stray⟩)
    (l_check_known : K.lookup a_check_known = some ⟨oc_check_known, od_check_known, .func (PySem.W.fnOf "check_known" "check_known" (defArgs s_check_known) (defBody s_check_known) (defScope s_check_known) .none kV_check_known dc_check_known pm_check_known an_check_known cd_check_known ct_check_known), sl_check_known⟩)
    (l_check_different : K.lookup a_check_different = some ⟨oc_check_different, od_check_different, .func (PySem.W.fnOf "check_different" "check_different" (defArgs s_check_different) (defBody s_check_different) (defScope s_check_different) .none kV_check_different dc_check_different pm_check_different an_check_different cd_check_different ct_check_different), sl_check_different⟩)
    (l_Round_init : K.lookup a_Round_init = some ⟨oc_Round_init, od_Round_init, .func (PySem.W.fnOf "__init__" "Round.__init__" (defArgs s_Round_init) (defBody s_Round_init) (defScope s_Round_init) .none kV_Round_init dc_Round_init pm_Round_init an_Round_init cd_Round_init ct_Round_init), sl_Round_init⟩)
    (l_Round_cut : K.lookup a_Round_cut = some ⟨oc_Round_cut, od_Round_cut, .func (PySem.W.fnOf "cut" "Round.cut" (defArgs s_Round_cut) (defBody s_Round_cut) (defScope s_Round_cut) .none kV_Round_cut dc_Round_cut pm_Round_cut an_Round_cut cd_Round_cut ct_Round_cut), sl_Round_cut⟩)
    (l_Round_splits : K.lookup a_Round_splits = some ⟨oc_Round_splits, od_Round_splits, .func (PySem.W.fnOf "splits" "Round.splits" (defArgs s_Round_splits) (defBody s_Round_splits) (defScope s_Round_splits) .none kV_Round_splits dc_Round_splits pm_Round_splits an_Round_splits cd_Round_splits ct_Round_splits), sl_Round_splits⟩)
    (l_Round_getitem : K.lookup a_Round_getitem = some ⟨oc_Round_getitem, od_Round_getitem, .func (PySem.W.fnOf "__getitem__" "Round.__getitem__" (defArgs s_Round_getitem) (defBody s_Round_getitem) (defScope s_Round_getitem) .none kV_Round_getitem dc_Round_getitem pm_Round_getitem an_Round_getitem cd_Round_getitem ct_Round_getitem), sl_Round_getitem⟩)
    (l_Round_lshift : K.lookup a_Round_lshift = some ⟨oc_Round_lshift, od_Round_lshift, .func (PySem.W.fnOf "__lshift__" "Round.__lshift__" (defArgs s_Round_lshift) (defBody s_Round_lshift) (defScope s_Round_lshift) .none kV_Round_lshift dc_Round_lshift pm_Round_lshift an_Round_lshift cd_Round_lshift ct_Round_lshift), sl_Round_lshift⟩)
    (l_Round_rshift : K.lookup a_Round_rshift = some ⟨oc_Round_rshift, od_Round_rshift, .func (PySem.W.fnOf "__rshift__" "Round.__rshift__" (defArgs s_Round_rshift) (defBody s_Round_rshift) (defScope s_Round_rshift) .none kV_Round_rshift dc_Round_rshift pm_Round_rshift an_Round_rshift cd_Round_rshift ct_Round_rshift), sl_Round_rshift⟩)
    (l_Round_invert : K.lookup a_Round_invert = some ⟨oc_Round_invert, od_Round_invert, .func (PySem.W.fnOf "__invert__" "Round.__invert__" (defArgs s_Round_invert) (defBody s_Round_invert) (defScope s_Round_invert) .none kV_Round_invert dc_Round_invert pm_Round_invert an_Round_invert cd_Round_invert ct_Round_invert), sl_Round_invert⟩)
    (l_Round_contains : K.lookup a_Round_contains = some ⟨oc_Round_contains, od_Round_contains, .func (PySem.W.fnOf "__contains__" "Round.__contains__" (defArgs s_Round_contains) (defBody s_Round_contains) (defScope s_Round_contains) .none kV_Round_contains dc_Round_contains pm_Round_contains an_Round_contains cd_Round_contains ct_Round_contains), sl_Round_contains⟩)
    (l_Round_len : K.lookup a_Round_len = some ⟨oc_Round_len, od_Round_len, .func (PySem.W.fnOf "__len__" "Round.__len__" (defArgs s_Round_len) (defBody s_Round_len) (defScope s_Round_len) .none kV_Round_len dc_Round_len pm_Round_len an_Round_len cd_Round_len ct_Round_len), sl_Round_len⟩)
    (l_Round_iter : K.lookup a_Round_iter = some ⟨oc_Round_iter, od_Round_iter, .func (PySem.W.fnOf "__iter__" "Round.__iter__" (defArgs s_Round_iter) (defBody s_Round_iter) (defScope s_Round_iter) .none kV_Round_iter dc_Round_iter pm_Round_iter an_Round_iter cd_Round_iter ct_Round_iter), sl_Round_iter⟩)
    (l_Round_eq : K.lookup a_Round_eq = some ⟨oc_Round_eq, od_Round_eq, .func (PySem.W.fnOf "__eq__" "Round.__eq__" (defArgs s_Round_eq) (defBody s_Round_eq) (defScope s_Round_eq) .none kV_Round_eq dc_Round_eq pm_Round_eq an_Round_eq cd_Round_eq ct_Round_eq), sl_Round_eq⟩)
    (l_moved : K.lookup a_moved = some ⟨oc_moved, od_moved, .func (PySem.W.fnOf "_moved" "_moved" (defArgs s_moved) (defBody s_moved) (defScope s_moved) .none kV_moved dc_moved pm_moved an_moved cd_moved ct_moved), sl_moved⟩)
    (l_all_moved : K.lookup a_all_moved = some ⟨oc_all_moved, od_all_moved, .func (PySem.W.fnOf "_all_moved" "_all_moved" (defArgs s_all_moved) (defBody s_all_moved) (defScope s_all_moved) .none kV_all_moved dc_all_moved pm_all_moved an_all_moved cd_all_moved ct_all_moved), sl_all_moved⟩)
    (l_law_cell : K.lookup a_law_cell = some ⟨oc_law_cell, od_law_cell, .func (PySem.W.fnOf "_law_cell" "_law_cell" (defArgs s_law_cell) (defBody s_law_cell) (defScope s_law_cell) .none kV_law_cell dc_law_cell pm_law_cell an_law_cell cd_law_cell ct_law_cell), sl_law_cell⟩)
    (l_law_pool : K.lookup a_law_pool = some ⟨oc_law_pool, od_law_pool, .func (PySem.W.fnOf "_law_pool" "_law_pool" (defArgs s_law_pool) (defBody s_law_pool) (defScope s_law_pool) .none kV_law_pool dc_law_pool pm_law_pool an_law_pool cd_law_pool ct_law_pool), sl_law_pool⟩)
    (l_law_whole : K.lookup a_law_whole = some ⟨oc_law_whole, od_law_whole, .func (PySem.W.fnOf "_law_whole" "_law_whole" (defArgs s_law_whole) (defBody s_law_whole) (defScope s_law_whole) .none kV_law_whole dc_law_whole pm_law_whole an_law_whole cd_law_whole ct_law_whole), sl_law_whole⟩)
    (l_law_word : K.lookup a_law_word = some ⟨oc_law_word, od_law_word, .func (PySem.W.fnOf "_law_word" "_law_word" (defArgs s_law_word) (defBody s_law_word) (defScope s_law_word) .none kV_law_word dc_law_word pm_law_word an_law_word cd_law_word ct_law_word), sl_law_word⟩)
    (l_law_new : K.lookup a_law_new = some ⟨oc_law_new, od_law_new, .func (PySem.W.fnOf "_law_new" "_law_new" (defArgs s_law_new) (defBody s_law_new) (defScope s_law_new) .none kV_law_new dc_law_new pm_law_new an_law_new cd_law_new ct_law_new), sl_law_new⟩)
    (l_law_sequence : K.lookup a_law_sequence = some ⟨oc_law_sequence, od_law_sequence, .func (PySem.W.fnOf "_law_sequence" "_law_sequence" (defArgs s_law_sequence) (defBody s_law_sequence) (defScope s_law_sequence) .none kV_law_sequence dc_law_sequence pm_law_sequence an_law_sequence cd_law_sequence ct_law_sequence), sl_law_sequence⟩)
    (l_law_from : K.lookup a_law_from = some ⟨oc_law_from, od_law_from, .func (PySem.W.fnOf "_law_from" "_law_from" (defArgs s_law_from) (defBody s_law_from) (defScope s_law_from) .none kV_law_from dc_law_from pm_law_from an_law_from cd_law_from ct_law_from), sl_law_from⟩)
    (l_law_back : K.lookup a_law_back = some ⟨oc_law_back, od_law_back, .func (PySem.W.fnOf "_law_back" "_law_back" (defArgs s_law_back) (defBody s_law_back) (defScope s_law_back) .none kV_law_back dc_law_back pm_law_back an_law_back cd_law_back ct_law_back), sl_law_back⟩)
    (l_law_is_round : K.lookup a_law_is_round = some ⟨oc_law_is_round, od_law_is_round, .func (PySem.W.fnOf "_law_is_round" "_law_is_round" (defArgs s_law_is_round) (defBody s_law_is_round) (defScope s_law_is_round) .none kV_law_is_round dc_law_is_round pm_law_is_round an_law_is_round cd_law_is_round ct_law_is_round), sl_law_is_round⟩)
    (l_law_turned_right : K.lookup a_law_turned_right = some ⟨oc_law_turned_right, od_law_turned_right, .func (PySem.W.fnOf "_law_turned_right" "_law_turned_right" (defArgs s_law_turned_right) (defBody s_law_turned_right) (defScope s_law_turned_right) .none kV_law_turned_right dc_law_turned_right pm_law_turned_right an_law_turned_right cd_law_turned_right ct_law_turned_right), sl_law_turned_right⟩)
    (l_law_turns : K.lookup a_law_turns = some ⟨oc_law_turns, od_law_turns, .func (PySem.W.fnOf "_law_turns" "_law_turns" (defArgs s_law_turns) (defBody s_law_turns) (defScope s_law_turns) .none kV_law_turns dc_law_turns pm_law_turns an_law_turns cd_law_turns ct_law_turns), sl_law_turns⟩)
    (l_law_equals : K.lookup a_law_equals = some ⟨oc_law_equals, od_law_equals, .func (PySem.W.fnOf "_law_equals" "_law_equals" (defArgs s_law_equals) (defBody s_law_equals) (defScope s_law_equals) .none kV_law_equals dc_law_equals pm_law_equals an_law_equals cd_law_equals ct_law_equals), sl_law_equals⟩)
    (l_law_cut_is : K.lookup a_law_cut_is = some ⟨oc_law_cut_is, od_law_cut_is, .func (PySem.W.fnOf "_law_cut_is" "_law_cut_is" (defArgs s_law_cut_is) (defBody s_law_cut_is) (defScope s_law_cut_is) .none kV_law_cut_is dc_law_cut_is pm_law_cut_is an_law_cut_is cd_law_cut_is ct_law_cut_is), sl_law_cut_is⟩)
    (l_law_ahead : K.lookup a_law_ahead = some ⟨oc_law_ahead, od_law_ahead, .func (PySem.W.fnOf "_law_ahead" "_law_ahead" (defArgs s_law_ahead) (defBody s_law_ahead) (defScope s_law_ahead) .none kV_law_ahead dc_law_ahead pm_law_ahead an_law_ahead cd_law_ahead ct_law_ahead), sl_law_ahead⟩)
    (l_law_splits_are : K.lookup a_law_splits_are = some ⟨oc_law_splits_are, od_law_splits_are, .func (PySem.W.fnOf "_law_splits_are" "_law_splits_are" (defArgs s_law_splits_are) (defBody s_law_splits_are) (defScope s_law_splits_are) .none kV_law_splits_are dc_law_splits_are pm_law_splits_are an_law_splits_are cd_law_splits_are ct_law_splits_are), sl_law_splits_are⟩)
    (l_law_refused : K.lookup a_law_refused = some ⟨oc_law_refused, od_law_refused, .func (PySem.W.fnOf "_law_refused" "_law_refused" (defArgs s_law_refused) (defBody s_law_refused) (defScope s_law_refused) .none kV_law_refused dc_law_refused pm_law_refused an_law_refused cd_law_refused ct_law_refused), sl_law_refused⟩)
    (l_law_lists_refused : K.lookup a_law_lists_refused = some ⟨oc_law_lists_refused, od_law_lists_refused, .func (PySem.W.fnOf "_law_lists_refused" "_law_lists_refused" (defArgs s_law_lists_refused) (defBody s_law_lists_refused) (defScope s_law_lists_refused) .none kV_law_lists_refused dc_law_lists_refused pm_law_lists_refused an_law_lists_refused cd_law_lists_refused ct_law_lists_refused), sl_law_lists_refused⟩)
    (l_law : K.lookup a_law = some ⟨oc_law, od_law, .func (PySem.W.fnOf "law" "law" (defArgs s_law) (defBody s_law) (defScope s_law) .none kV_law dc_law pm_law an_law cd_law ct_law), sl_law⟩)
    (lx_UnknownColumn_init : K.lookup cda_UnknownColumn_init = some ⟨oa_UnknownColumn_init, da_UnknownColumn_init, .fields vs_UnknownColumn_init, la_UnknownColumn_init⟩)
    (lq_UnknownColumn_init : K.lookup cc_UnknownColumn_init = some ⟨ob_UnknownColumn_init, db_UnknownColumn_init, .cell (some (.ref C_UnknownColumn)), lb_UnknownColumn_init⟩)
    (lx_BadRound_init : K.lookup cda_BadRound_init = some ⟨oa_BadRound_init, da_BadRound_init, .fields vs_BadRound_init, la_BadRound_init⟩)
    (lq_BadRound_init : K.lookup cc_BadRound_init = some ⟨ob_BadRound_init, db_BadRound_init, .cell (some (.ref C_BadRound)), lb_BadRound_init⟩)
    (lx_BadNumber_init : K.lookup cda_BadNumber_init = some ⟨oa_BadNumber_init, da_BadNumber_init, .fields vs_BadNumber_init, la_BadNumber_init⟩)
    (lq_BadNumber_init : K.lookup cc_BadNumber_init = some ⟨ob_BadNumber_init, db_BadNumber_init, .cell (some (.ref C_BadNumber)), lb_BadNumber_init⟩)
    (lx_SameColumn_init : K.lookup cda_SameColumn_init = some ⟨oa_SameColumn_init, da_SameColumn_init, .fields vs_SameColumn_init, la_SameColumn_init⟩)
    (lq_SameColumn_init : K.lookup cc_SameColumn_init = some ⟨ob_SameColumn_init, db_SameColumn_init, .cell (some (.ref C_SameColumn)), lb_SameColumn_init⟩)
    (c_UnknownColumn_init : PySem.W.codeIn K (.ref cda_UnknownColumn_init) "UnknownColumn.__init__" = true)
    (c_BadRound_init : PySem.W.codeIn K (.ref cda_BadRound_init) "BadRound.__init__" = true)
    (c_BadNumber_init : PySem.W.codeIn K (.ref cda_BadNumber_init) "BadNumber.__init__" = true)
    (c_SameColumn_init : PySem.W.codeIn K (.ref cda_SameColumn_init) "SameColumn.__init__" = true)
    (c_is_name : PySem.W.codeIn K cd_is_name "is_name" = true)
    (k_is_name : PySem.W.keepIn K (.ref a_is_name) = true)
    (c_first_bad_name : PySem.W.codeIn K cd_first_bad_name "first_bad_name" = true)
    (k_first_bad_name : PySem.W.keepIn K (.ref a_first_bad_name) = true)
    (c_first_stray : PySem.W.codeIn K cd_first_stray "first_stray" = true)
    (k_first_stray : PySem.W.keepIn K (.ref a_first_stray) = true)
    (c_check_known : PySem.W.codeIn K cd_check_known "check_known" = true)
    (k_check_known : PySem.W.keepIn K (.ref a_check_known) = true)
    (c_check_different : PySem.W.codeIn K cd_check_different "check_different" = true)
    (k_check_different : PySem.W.keepIn K (.ref a_check_different) = true)
    (c_Round_init : PySem.W.codeIn K cd_Round_init "Round.__init__" = true)
    (k_Round_init : PySem.W.keepIn K (.ref a_Round_init) = true)
    (c_Round_cut : PySem.W.codeIn K cd_Round_cut "Round.cut" = true)
    (k_Round_cut : PySem.W.keepIn K (.ref a_Round_cut) = true)
    (c_Round_splits : PySem.W.codeIn K cd_Round_splits "Round.splits" = true)
    (k_Round_splits : PySem.W.keepIn K (.ref a_Round_splits) = true)
    (c_Round_getitem : PySem.W.codeIn K cd_Round_getitem "Round.__getitem__" = true)
    (k_Round_getitem : PySem.W.keepIn K (.ref a_Round_getitem) = true)
    (c_Round_lshift : PySem.W.codeIn K cd_Round_lshift "Round.__lshift__" = true)
    (k_Round_lshift : PySem.W.keepIn K (.ref a_Round_lshift) = true)
    (c_Round_rshift : PySem.W.codeIn K cd_Round_rshift "Round.__rshift__" = true)
    (k_Round_rshift : PySem.W.keepIn K (.ref a_Round_rshift) = true)
    (c_Round_invert : PySem.W.codeIn K cd_Round_invert "Round.__invert__" = true)
    (k_Round_invert : PySem.W.keepIn K (.ref a_Round_invert) = true)
    (c_Round_contains : PySem.W.codeIn K cd_Round_contains "Round.__contains__" = true)
    (k_Round_contains : PySem.W.keepIn K (.ref a_Round_contains) = true)
    (c_Round_len : PySem.W.codeIn K cd_Round_len "Round.__len__" = true)
    (k_Round_len : PySem.W.keepIn K (.ref a_Round_len) = true)
    (c_Round_iter : PySem.W.codeIn K cd_Round_iter "Round.__iter__" = true)
    (k_Round_iter : PySem.W.keepIn K (.ref a_Round_iter) = true)
    (c_Round_eq : PySem.W.codeIn K cd_Round_eq "Round.__eq__" = true)
    (k_Round_eq : PySem.W.keepIn K (.ref a_Round_eq) = true)
    (c_moved : PySem.W.codeIn K cd_moved "_moved" = true)
    (k_moved : PySem.W.keepIn K (.ref a_moved) = true)
    (c_all_moved : PySem.W.codeIn K cd_all_moved "_all_moved" = true)
    (k_all_moved : PySem.W.keepIn K (.ref a_all_moved) = true)
    (c_law_cell : PySem.W.codeIn K cd_law_cell "_law_cell" = true)
    (k_law_cell : PySem.W.keepIn K (.ref a_law_cell) = true)
    (c_law_pool : PySem.W.codeIn K cd_law_pool "_law_pool" = true)
    (k_law_pool : PySem.W.keepIn K (.ref a_law_pool) = true)
    (c_law_whole : PySem.W.codeIn K cd_law_whole "_law_whole" = true)
    (k_law_whole : PySem.W.keepIn K (.ref a_law_whole) = true)
    (c_law_word : PySem.W.codeIn K cd_law_word "_law_word" = true)
    (k_law_word : PySem.W.keepIn K (.ref a_law_word) = true)
    (c_law_new : PySem.W.codeIn K cd_law_new "_law_new" = true)
    (k_law_new : PySem.W.keepIn K (.ref a_law_new) = true)
    (c_law_sequence : PySem.W.codeIn K cd_law_sequence "_law_sequence" = true)
    (k_law_sequence : PySem.W.keepIn K (.ref a_law_sequence) = true)
    (c_law_from : PySem.W.codeIn K cd_law_from "_law_from" = true)
    (k_law_from : PySem.W.keepIn K (.ref a_law_from) = true)
    (c_law_back : PySem.W.codeIn K cd_law_back "_law_back" = true)
    (k_law_back : PySem.W.keepIn K (.ref a_law_back) = true)
    (c_law_is_round : PySem.W.codeIn K cd_law_is_round "_law_is_round" = true)
    (k_law_is_round : PySem.W.keepIn K (.ref a_law_is_round) = true)
    (c_law_turned_right : PySem.W.codeIn K cd_law_turned_right "_law_turned_right" = true)
    (k_law_turned_right : PySem.W.keepIn K (.ref a_law_turned_right) = true)
    (c_law_turns : PySem.W.codeIn K cd_law_turns "_law_turns" = true)
    (k_law_turns : PySem.W.keepIn K (.ref a_law_turns) = true)
    (c_law_equals : PySem.W.codeIn K cd_law_equals "_law_equals" = true)
    (k_law_equals : PySem.W.keepIn K (.ref a_law_equals) = true)
    (c_law_cut_is : PySem.W.codeIn K cd_law_cut_is "_law_cut_is" = true)
    (k_law_cut_is : PySem.W.keepIn K (.ref a_law_cut_is) = true)
    (c_law_ahead : PySem.W.codeIn K cd_law_ahead "_law_ahead" = true)
    (k_law_ahead : PySem.W.keepIn K (.ref a_law_ahead) = true)
    (c_law_splits_are : PySem.W.codeIn K cd_law_splits_are "_law_splits_are" = true)
    (k_law_splits_are : PySem.W.keepIn K (.ref a_law_splits_are) = true)
    (c_law_refused : PySem.W.codeIn K cd_law_refused "_law_refused" = true)
    (k_law_refused : PySem.W.keepIn K (.ref a_law_refused) = true)
    (c_law_lists_refused : PySem.W.codeIn K cd_law_lists_refused "_law_lists_refused" = true)
    (k_law_lists_refused : PySem.W.keepIn K (.ref a_law_lists_refused) = true)
    (c_law : PySem.W.codeIn K cd_law "law" = true)
    (k_law : PySem.W.keepIn K (.ref a_law) = true)
    (pgcl_Round : PySem.W.plainGet K C_Round Str.empty = true)
    (hdcl_Round : PySem.W.hasDictIn K C_Round = true)
    (pocl_Round : PySem.W.plainOver K C_Round = true)
    (sacl_Round : PySem.W.findIn K (.ref C_Round) "__setattr__" = some (some (.builtin "object.__setattr__")))
    (xsf_Round : PySem.W.selfFirst K C_Round = true)
    (kmk_Round : PySem.W.makesIn K C_Round = true)
    (kkmk_Round : PySem.W.keepIn K (.ref C_Round) = true)
    (xc1_Round : PySem.W.findIn K (.ref C_Round) "__class__" = some (some (.builtin "object.__class__")))
    (xc3_Round : PySem.W.mroIn K C_Round (.type "object") = some true)
    (xn_Round_names : PySem.W.findIn K (.ref C_Round) "names" = some none)
    (pgcl_Table : PySem.W.plainGet K C_Table Str.empty = true)
    (hdcl_Table : PySem.W.hasDictIn K C_Table = true)
    (pocl_Table : PySem.W.plainOver K C_Table = true)
    (sacl_Table : PySem.W.findIn K (.ref C_Table) "__setattr__" = some (some (.builtin "object.__setattr__")))
    (xsf_Table : PySem.W.selfFirst K C_Table = true)
    (xc1_Table : PySem.W.findIn K (.ref C_Table) "__class__" = some (some (.builtin "object.__class__")))
    (xc3_Table : PySem.W.mroIn K C_Table (.type "object") = some true)
    (xc2 : PySem.W.specialIn K (.builtin "object.__class__") "__get__" = some (some (.builtin "getset_descriptor.__get__")))
    (xc4 : PySem.W.takesIn K (.builtin "object.__class__") = some true)
    (xtp_RowsError : PySem.W.typeIn K (.ref C_RowsError) = some (.type "type"))
    (xic_RowsError : PySem.W.isClsIn K C_RowsError = true)
    (xtp_Unknown : PySem.W.typeIn K (.ref C_Unknown) = some (.type "type"))
    (xic_Unknown : PySem.W.isClsIn K C_Unknown = true)
    (xtp_Impossible : PySem.W.typeIn K (.ref C_Impossible) = some (.type "type"))
    (xic_Impossible : PySem.W.isClsIn K C_Impossible = true)
    (xtp_UnknownColumn : PySem.W.typeIn K (.ref C_UnknownColumn) = some (.type "type"))
    (xic_UnknownColumn : PySem.W.isClsIn K C_UnknownColumn = true)
    (xtp_BadRound : PySem.W.typeIn K (.ref C_BadRound) = some (.type "type"))
    (xic_BadRound : PySem.W.isClsIn K C_BadRound = true)
    (xtp_BadNumber : PySem.W.typeIn K (.ref C_BadNumber) = some (.type "type"))
    (xic_BadNumber : PySem.W.isClsIn K C_BadNumber = true)
    (xtp_SameColumn : PySem.W.typeIn K (.ref C_SameColumn) = some (.type "type"))
    (xic_SameColumn : PySem.W.isClsIn K C_SameColumn = true)
    (g1SC_UnknownColumn : PySem.W.clsIn K C_UnknownColumn = some cd_UnknownColumn)
    (g2SC_UnknownColumn : PySem.W.mroIn K C_UnknownColumn (.ref C_UnknownColumn) = some true)
    (ksSC_UnknownColumn : PySem.W.ks_superIn K C_UnknownColumn C_UnknownColumn "__init__" = some (some (.builtin "ValueError.__init__")))
    (g4SC_UnknownColumn : PySem.W.nsIn K PySem.cStatics "thirdparty.any" = some none)
    (g5SC_UnknownColumn : PySem.W.nsIn K mainGlobals "super" = some none)
    (rfSC_UnknownColumn : (l.prog.main.scope.names.lookup ("super" : Str)).isSome = false)
    (kxSC_UnknownColumn : PySem.W.excInitIn K C_UnknownColumn [.type "ValueError", .type "Exception", .type "BaseException", .type "object"] "ValueError.__new__" = true)
    (g6SC_UnknownColumn : PySem.W.findIn K (.ref C_UnknownColumn) "__setattr__" = some (some (.builtin "object.__setattr__")))
    (rv_UnknownColumn_init : vs_UnknownColumn_init[2]? = some (.str fl_UnknownColumn_init tf_UnknownColumn_init))
    (rg_UnknownColumn_init : ((l.prog.main.file : Str) == fl_UnknownColumn_init) = true)
    (xti_UnknownColumn : PySem.W.typeIn K (.ref a_UnknownColumn_init) = some (.type "function"))
    (xxn_UnknownColumn_name : PySem.W.findIn K (.ref C_UnknownColumn) "name" = some none)
    (xk_UnknownColumn : PySem.W.keepIn K (.ref C_UnknownColumn) = true)
    (xbp_UnknownColumn : PySem.W.subIn K (.ref C_UnknownColumn) (.type "BaseException") = some true)
    (xsv_UnknownColumn : PySem.W.subIn K (.ref C_UnknownColumn) (.type "ValueError") = some true)
    (xss_UnknownColumn : PySem.W.subIn K (.ref C_UnknownColumn) (.ref C_UnknownColumn) = some true)
    (xsu_UnknownColumn_RowsError : PySem.W.subIn K (.ref C_UnknownColumn) (.ref C_RowsError) = some true)
    (xsu_UnknownColumn_Unknown : PySem.W.subIn K (.ref C_UnknownColumn) (.ref C_Unknown) = some true)
    (xsu_UnknownColumn_Impossible : PySem.W.subIn K (.ref C_UnknownColumn) (.ref C_Impossible) = some false)
    (xsu_UnknownColumn_SameColumn : PySem.W.subIn K (.ref C_UnknownColumn) (.ref C_SameColumn) = some false)
    (xe1_UnknownColumn : PySem.W.findIn K (.ref C_UnknownColumn) "__getattribute__" = some (some (.builtin "BaseException.__getattribute__")))
    (xe2_UnknownColumn : PySem.W.findIn K (.ref C_UnknownColumn) "__getattr__" = some none)
    (xe3_UnknownColumn : PySem.W.hasDictIn K C_UnknownColumn = true)
    (xe4_UnknownColumn : PySem.W.findIn K (.ref C_UnknownColumn) "__class__" = some (some (.builtin "object.__class__")))
    (xe5_UnknownColumn : PySem.W.mroIn K C_UnknownColumn (.type "object") = some true)
    (g1SC_BadRound : PySem.W.clsIn K C_BadRound = some cd_BadRound)
    (g2SC_BadRound : PySem.W.mroIn K C_BadRound (.ref C_BadRound) = some true)
    (ksSC_BadRound : PySem.W.ks_superIn K C_BadRound C_BadRound "__init__" = some (some (.builtin "ValueError.__init__")))
    (g4SC_BadRound : PySem.W.nsIn K PySem.cStatics "thirdparty.any" = some none)
    (g5SC_BadRound : PySem.W.nsIn K mainGlobals "super" = some none)
    (rfSC_BadRound : (l.prog.main.scope.names.lookup ("super" : Str)).isSome = false)
    (kxSC_BadRound : PySem.W.excInitIn K C_BadRound [.type "ValueError", .type "Exception", .type "BaseException", .type "object"] "ValueError.__new__" = true)
    (g6SC_BadRound : PySem.W.findIn K (.ref C_BadRound) "__setattr__" = some (some (.builtin "object.__setattr__")))
    (rv_BadRound_init : vs_BadRound_init[2]? = some (.str fl_BadRound_init tf_BadRound_init))
    (rg_BadRound_init : ((l.prog.main.file : Str) == fl_BadRound_init) = true)
    (xti_BadRound : PySem.W.typeIn K (.ref a_BadRound_init) = some (.type "function"))
    (xxn_BadRound_index : PySem.W.findIn K (.ref C_BadRound) "index" = some none)
    (xk_BadRound : PySem.W.keepIn K (.ref C_BadRound) = true)
    (xbp_BadRound : PySem.W.subIn K (.ref C_BadRound) (.type "BaseException") = some true)
    (xsv_BadRound : PySem.W.subIn K (.ref C_BadRound) (.type "ValueError") = some true)
    (xss_BadRound : PySem.W.subIn K (.ref C_BadRound) (.ref C_BadRound) = some true)
    (xsu_BadRound_RowsError : PySem.W.subIn K (.ref C_BadRound) (.ref C_RowsError) = some true)
    (xsu_BadRound_Unknown : PySem.W.subIn K (.ref C_BadRound) (.ref C_Unknown) = some false)
    (xsu_BadRound_Impossible : PySem.W.subIn K (.ref C_BadRound) (.ref C_Impossible) = some false)
    (xe1_BadRound : PySem.W.findIn K (.ref C_BadRound) "__getattribute__" = some (some (.builtin "BaseException.__getattribute__")))
    (xe2_BadRound : PySem.W.findIn K (.ref C_BadRound) "__getattr__" = some none)
    (xe3_BadRound : PySem.W.hasDictIn K C_BadRound = true)
    (xe4_BadRound : PySem.W.findIn K (.ref C_BadRound) "__class__" = some (some (.builtin "object.__class__")))
    (xe5_BadRound : PySem.W.mroIn K C_BadRound (.type "object") = some true)
    (g1SC_BadNumber : PySem.W.clsIn K C_BadNumber = some cd_BadNumber)
    (g2SC_BadNumber : PySem.W.mroIn K C_BadNumber (.ref C_BadNumber) = some true)
    (ksSC_BadNumber : PySem.W.ks_superIn K C_BadNumber C_BadNumber "__init__" = some (some (.builtin "ValueError.__init__")))
    (g4SC_BadNumber : PySem.W.nsIn K PySem.cStatics "thirdparty.any" = some none)
    (g5SC_BadNumber : PySem.W.nsIn K mainGlobals "super" = some none)
    (rfSC_BadNumber : (l.prog.main.scope.names.lookup ("super" : Str)).isSome = false)
    (kxSC_BadNumber : PySem.W.excInitIn K C_BadNumber [.type "ValueError", .type "Exception", .type "BaseException", .type "object"] "ValueError.__new__" = true)
    (g6SC_BadNumber : PySem.W.findIn K (.ref C_BadNumber) "__setattr__" = some (some (.builtin "object.__setattr__")))
    (rv_BadNumber_init : vs_BadNumber_init[2]? = some (.str fl_BadNumber_init tf_BadNumber_init))
    (rg_BadNumber_init : ((l.prog.main.file : Str) == fl_BadNumber_init) = true)
    (xti_BadNumber : PySem.W.typeIn K (.ref a_BadNumber_init) = some (.type "function"))
    (xxn_BadNumber_number : PySem.W.findIn K (.ref C_BadNumber) "number" = some none)
    (xk_BadNumber : PySem.W.keepIn K (.ref C_BadNumber) = true)
    (xbp_BadNumber : PySem.W.subIn K (.ref C_BadNumber) (.type "BaseException") = some true)
    (xsv_BadNumber : PySem.W.subIn K (.ref C_BadNumber) (.type "ValueError") = some true)
    (xss_BadNumber : PySem.W.subIn K (.ref C_BadNumber) (.ref C_BadNumber) = some true)
    (xsu_BadNumber_RowsError : PySem.W.subIn K (.ref C_BadNumber) (.ref C_RowsError) = some true)
    (xsu_BadNumber_Unknown : PySem.W.subIn K (.ref C_BadNumber) (.ref C_Unknown) = some false)
    (xsu_BadNumber_Impossible : PySem.W.subIn K (.ref C_BadNumber) (.ref C_Impossible) = some false)
    (xe1_BadNumber : PySem.W.findIn K (.ref C_BadNumber) "__getattribute__" = some (some (.builtin "BaseException.__getattribute__")))
    (xe2_BadNumber : PySem.W.findIn K (.ref C_BadNumber) "__getattr__" = some none)
    (xe3_BadNumber : PySem.W.hasDictIn K C_BadNumber = true)
    (xe4_BadNumber : PySem.W.findIn K (.ref C_BadNumber) "__class__" = some (some (.builtin "object.__class__")))
    (xe5_BadNumber : PySem.W.mroIn K C_BadNumber (.type "object") = some true)
    (g1SC_SameColumn : PySem.W.clsIn K C_SameColumn = some cd_SameColumn)
    (g2SC_SameColumn : PySem.W.mroIn K C_SameColumn (.ref C_SameColumn) = some true)
    (ksSC_SameColumn : PySem.W.ks_superIn K C_SameColumn C_SameColumn "__init__" = some (some (.builtin "ValueError.__init__")))
    (g4SC_SameColumn : PySem.W.nsIn K PySem.cStatics "thirdparty.any" = some none)
    (g5SC_SameColumn : PySem.W.nsIn K mainGlobals "super" = some none)
    (rfSC_SameColumn : (l.prog.main.scope.names.lookup ("super" : Str)).isSome = false)
    (kxSC_SameColumn : PySem.W.excInitIn K C_SameColumn [.type "ValueError", .type "Exception", .type "BaseException", .type "object"] "ValueError.__new__" = true)
    (g6SC_SameColumn : PySem.W.findIn K (.ref C_SameColumn) "__setattr__" = some (some (.builtin "object.__setattr__")))
    (rv_SameColumn_init : vs_SameColumn_init[2]? = some (.str fl_SameColumn_init tf_SameColumn_init))
    (rg_SameColumn_init : ((l.prog.main.file : Str) == fl_SameColumn_init) = true)
    (xti_SameColumn : PySem.W.typeIn K (.ref a_SameColumn_init) = some (.type "function"))
    (xxn_SameColumn_name : PySem.W.findIn K (.ref C_SameColumn) "name" = some none)
    (xk_SameColumn : PySem.W.keepIn K (.ref C_SameColumn) = true)
    (xbp_SameColumn : PySem.W.subIn K (.ref C_SameColumn) (.type "BaseException") = some true)
    (xsv_SameColumn : PySem.W.subIn K (.ref C_SameColumn) (.type "ValueError") = some true)
    (xss_SameColumn : PySem.W.subIn K (.ref C_SameColumn) (.ref C_SameColumn) = some true)
    (xsu_SameColumn_RowsError : PySem.W.subIn K (.ref C_SameColumn) (.ref C_RowsError) = some true)
    (xsu_SameColumn_Unknown : PySem.W.subIn K (.ref C_SameColumn) (.ref C_Unknown) = some false)
    (xsu_SameColumn_Impossible : PySem.W.subIn K (.ref C_SameColumn) (.ref C_Impossible) = some false)
    (xsu_SameColumn_UnknownColumn : PySem.W.subIn K (.ref C_SameColumn) (.ref C_UnknownColumn) = some false)
    (xe1_SameColumn : PySem.W.findIn K (.ref C_SameColumn) "__getattribute__" = some (some (.builtin "BaseException.__getattribute__")))
    (xe2_SameColumn : PySem.W.findIn K (.ref C_SameColumn) "__getattr__" = some none)
    (xe3_SameColumn : PySem.W.hasDictIn K C_SameColumn = true)
    (xe4_SameColumn : PySem.W.findIn K (.ref C_SameColumn) "__class__" = some (some (.builtin "object.__class__")))
    (xe5_SameColumn : PySem.W.mroIn K C_SameColumn (.type "object") = some true)
    (r1cr_Table : PySem.W.readsIn K C_Table (.type "type") = true)
    (r2cr_Table : PySem.W.specialIn K (.ref C_Table) "__getattribute__" = some (some (.builtin "type.__getattribute__")))
    (xcv_Table_MOST_COLUMNS : PySem.W.findCls K (.ref C_Table) (.type "type") "MOST_COLUMNS" = some (.val (.int 12 tk_Table_MOST_COLUMNS)))
    (xn_abs : PySem.W.nsIn K mainGlobals "abs" = some none)
    (xn_int : PySem.W.nsIn K mainGlobals "int" = some none)
    (xn_isinstance : PySem.W.nsIn K mainGlobals "isinstance" = some none)
    (xn_range : PySem.W.nsIn K mainGlobals "range" = some none)
    (xn_len : PySem.W.nsIn K mainGlobals "len" = some none)
    (xn_str : PySem.W.nsIn K mainGlobals "str" = some none)
    (xn_tuple : PySem.W.nsIn K mainGlobals "tuple" = some none)
    (xn_list : PySem.W.nsIn K mainGlobals "list" = some none)
    (xn_ValueError : PySem.W.nsIn K mainGlobals "ValueError" = some none)
    (xn_all : PySem.W.nsIn K mainGlobals "all" = some none)
    (xn_enumerate : PySem.W.nsIn K mainGlobals "enumerate" = some none)
    (xn_iter : PySem.W.nsIn K mainGlobals "iter" = some none)
    (xn_bool : PySem.W.nsIn K mainGlobals "bool" = some none)
    (xdr_Round_lshift : PySem.W.findIn K (.ref C_Round) (dunderR "lshift") = some none)
    (xdr_Round_rshift : PySem.W.findIn K (.ref C_Round) (dunderR "rshift") = some none)
    (xti_lshift : PySem.W.findIn K (.type "int") (PySem.dunder "lshift") = some (some (.builtin "int.__lshift__")))
    (xtr_lshift : PySem.W.findIn K (.type "int") (dunderR "lshift") = some (some (.builtin "int.__rlshift__")))
    (xti_rshift : PySem.W.findIn K (.type "int") (PySem.dunder "rshift") = some (some (.builtin "int.__rshift__")))
    (xtr_rshift : PySem.W.findIn K (.type "int") (dunderR "rshift") = some (some (.builtin "int.__rrshift__")))
    (xsu_Round : PySem.W.subIn K (.type "int") (.ref C_Round) = some false)
    (xds_Round_lshift : PySem.W.findIn K (.ref C_Round) (PySem.dunder "lshift") = some (some (.ref a_Round_lshift)))
    (xds_Round_rshift : PySem.W.findIn K (.ref C_Round) (PySem.dunder "rshift") = some (some (.ref a_Round_rshift)))
    : ∃ fd : FuncData, (∀ (s : Shared) (v : Value), BindsTo s fd ⟨[v], []⟩ [("script", v)]) ∧ ∀ base : Heap, K.In base → base.Ns mainGlobals mg → FnOk l.prog w K mg base CX0 20 fa fd ["script"] (spLaw K) := by
  have e := hfa.symm.trans (PySem.W.mg_of X G xmg_law)
  cases e
  have T : Txt l.prog K mg ⟨C_Round, C_Table, C_RowsError, C_Unknown, C_Impossible, C_UnknownColumn, C_BadRound, C_BadNumber, C_SameColumn, a_UnknownColumn_init, _, a_BadRound_init, _, a_BadNumber_init, _, a_SameColumn_init, _, a_is_name, _, a_first_bad_name, _, a_first_stray, _, a_check_known, _, a_check_different, _, a_Round_init, _, a_Round_cut, _, a_Round_splits, _, a_Round_getitem, _, a_Round_lshift, _, a_Round_rshift, _, a_Round_invert, _, a_Round_contains, _, a_Round_len, _, a_Round_iter, _, a_Round_eq, _, a_moved, _, a_all_moved, _, a_law_cell, _, a_law_pool, _, a_law_whole, _, a_law_word, _, a_law_new, _, a_law_sequence, _, a_law_from, _, a_law_back, _, a_law_is_round, _, a_law_turned_right, _, a_law_turns, _, a_law_equals, _, a_law_cut_is, _, a_law_ahead, _, a_law_splits_are, _, a_law_refused, _, a_law_lists_refused, _, fa, _⟩ := {
    mg_Round := PySem.W.mg_of X G xmg_Round
    cl_Round := ⟨pgcl_Round, hdcl_Round, pocl_Round, sacl_Round⟩
    sf_Round := xsf_Round
    mk_Round := ⟨kmk_Round, am_Round_init, if_Round_init, kkmk_Round⟩
    c1_Round := xc1_Round
    c3_Round := xc3_Round
    n_Round_names := xn_Round_names
    mg_Table := PySem.W.mg_of X G xmg_Table
    cl_Table := ⟨pgcl_Table, hdcl_Table, pocl_Table, sacl_Table⟩
    sf_Table := xsf_Table
    c1_Table := xc1_Table
    c3_Table := xc3_Table
    c2 := xc2
    c4 := xc4
    mg_RowsError := PySem.W.mg_of X G xmg_RowsError
    tp_RowsError := xtp_RowsError
    ic_RowsError := xic_RowsError
    mg_Unknown := PySem.W.mg_of X G xmg_Unknown
    tp_Unknown := xtp_Unknown
    ic_Unknown := xic_Unknown
    mg_Impossible := PySem.W.mg_of X G xmg_Impossible
    tp_Impossible := xtp_Impossible
    ic_Impossible := xic_Impossible
    mg_UnknownColumn := PySem.W.mg_of X G xmg_UnknownColumn
    tp_UnknownColumn := xtp_UnknownColumn
    ic_UnknownColumn := xic_UnknownColumn
    mg_BadRound := PySem.W.mg_of X G xmg_BadRound
    tp_BadRound := xtp_BadRound
    ic_BadRound := xic_BadRound
    mg_BadNumber := PySem.W.mg_of X G xmg_BadNumber
    tp_BadNumber := xtp_BadNumber
    ic_BadNumber := xic_BadNumber
    mg_SameColumn := PySem.W.mg_of X G xmg_SameColumn
    tp_SameColumn := xtp_SameColumn
    ic_SameColumn := xic_SameColumn
    SC_UnknownColumn := ⟨⟨_, g1SC_UnknownColumn⟩, g2SC_UnknownColumn, ksSC_UnknownColumn, g4SC_UnknownColumn, xsv_UnknownColumn, PySem.W.mg_none_of X G g5SC_UnknownColumn, rfSC_UnknownColumn, oex_of kxSC_UnknownColumn xe3_UnknownColumn g6SC_UnknownColumn xbp_UnknownColumn xtp_UnknownColumn xk_UnknownColumn⟩
    SF_UnknownColumn := ⟨⟨_, _, _, _, _, _, _, _, _, _, rfl, l_UnknownColumn_init, c_UnknownColumn_init, ⟨_, _, _, _, _, _, lx_UnknownColumn_init, rv_UnknownColumn_init, rg_UnknownColumn_init⟩, _, _, _, lq_UnknownColumn_init⟩⟩
    ii_UnknownColumn := am_UnknownColumn_init
    ti_UnknownColumn := xti_UnknownColumn
    b_UnknownColumn_init := fun s us _ hl => by rw [List.append_nil] at hl ⊢; exact .of_eq (match us, hl with | [_, _], _ => rfl)
    xn_UnknownColumn_name := xxn_UnknownColumn_name
    xf_UnknownColumn := ⟨xe1_UnknownColumn, xe2_UnknownColumn, xbp_UnknownColumn, xe3_UnknownColumn⟩
    ec_UnknownColumn := ⟨xe1_UnknownColumn, xe2_UnknownColumn, xbp_UnknownColumn, xe3_UnknownColumn, xe4_UnknownColumn, xc2, xc4, xe5_UnknownColumn⟩
    k_UnknownColumn := xk_UnknownColumn
    bp_UnknownColumn := xbp_UnknownColumn
    sv_UnknownColumn := xsv_UnknownColumn
    ss_UnknownColumn := xss_UnknownColumn
    su_UnknownColumn_RowsError := xsu_UnknownColumn_RowsError
    su_UnknownColumn_Unknown := xsu_UnknownColumn_Unknown
    su_UnknownColumn_Impossible := xsu_UnknownColumn_Impossible
    su_UnknownColumn_SameColumn := xsu_UnknownColumn_SameColumn
    e1_UnknownColumn := xe1_UnknownColumn
    e2_UnknownColumn := xe2_UnknownColumn
    e3_UnknownColumn := xe3_UnknownColumn
    e4_UnknownColumn := xe4_UnknownColumn
    e5_UnknownColumn := xe5_UnknownColumn
    SC_BadRound := ⟨⟨_, g1SC_BadRound⟩, g2SC_BadRound, ksSC_BadRound, g4SC_BadRound, xsv_BadRound, PySem.W.mg_none_of X G g5SC_BadRound, rfSC_BadRound, oex_of kxSC_BadRound xe3_BadRound g6SC_BadRound xbp_BadRound xtp_BadRound xk_BadRound⟩
    SF_BadRound := ⟨⟨_, _, _, _, _, _, _, _, _, _, rfl, l_BadRound_init, c_BadRound_init, ⟨_, _, _, _, _, _, lx_BadRound_init, rv_BadRound_init, rg_BadRound_init⟩, _, _, _, lq_BadRound_init⟩⟩
    ii_BadRound := am_BadRound_init
    ti_BadRound := xti_BadRound
    b_BadRound_init := fun s us _ hl => by rw [List.append_nil] at hl ⊢; exact .of_eq (match us, hl with | [_, _], _ => rfl)
    xn_BadRound_index := xxn_BadRound_index
    xf_BadRound := ⟨xe1_BadRound, xe2_BadRound, xbp_BadRound, xe3_BadRound⟩
    ec_BadRound := ⟨xe1_BadRound, xe2_BadRound, xbp_BadRound, xe3_BadRound, xe4_BadRound, xc2, xc4, xe5_BadRound⟩
    k_BadRound := xk_BadRound
    bp_BadRound := xbp_BadRound
    sv_BadRound := xsv_BadRound
    ss_BadRound := xss_BadRound
    su_BadRound_RowsError := xsu_BadRound_RowsError
    su_BadRound_Unknown := xsu_BadRound_Unknown
    su_BadRound_Impossible := xsu_BadRound_Impossible
    e1_BadRound := xe1_BadRound
    e2_BadRound := xe2_BadRound
    e3_BadRound := xe3_BadRound
    e4_BadRound := xe4_BadRound
    e5_BadRound := xe5_BadRound
    SC_BadNumber := ⟨⟨_, g1SC_BadNumber⟩, g2SC_BadNumber, ksSC_BadNumber, g4SC_BadNumber, xsv_BadNumber, PySem.W.mg_none_of X G g5SC_BadNumber, rfSC_BadNumber, oex_of kxSC_BadNumber xe3_BadNumber g6SC_BadNumber xbp_BadNumber xtp_BadNumber xk_BadNumber⟩
    SF_BadNumber := ⟨⟨_, _, _, _, _, _, _, _, _, _, rfl, l_BadNumber_init, c_BadNumber_init, ⟨_, _, _, _, _, _, lx_BadNumber_init, rv_BadNumber_init, rg_BadNumber_init⟩, _, _, _, lq_BadNumber_init⟩⟩
    ii_BadNumber := am_BadNumber_init
    ti_BadNumber := xti_BadNumber
    b_BadNumber_init := fun s us _ hl => by rw [List.append_nil] at hl ⊢; exact .of_eq (match us, hl with | [_, _], _ => rfl)
    xn_BadNumber_number := xxn_BadNumber_number
    xf_BadNumber := ⟨xe1_BadNumber, xe2_BadNumber, xbp_BadNumber, xe3_BadNumber⟩
    ec_BadNumber := ⟨xe1_BadNumber, xe2_BadNumber, xbp_BadNumber, xe3_BadNumber, xe4_BadNumber, xc2, xc4, xe5_BadNumber⟩
    k_BadNumber := xk_BadNumber
    bp_BadNumber := xbp_BadNumber
    sv_BadNumber := xsv_BadNumber
    ss_BadNumber := xss_BadNumber
    su_BadNumber_RowsError := xsu_BadNumber_RowsError
    su_BadNumber_Unknown := xsu_BadNumber_Unknown
    su_BadNumber_Impossible := xsu_BadNumber_Impossible
    e1_BadNumber := xe1_BadNumber
    e2_BadNumber := xe2_BadNumber
    e3_BadNumber := xe3_BadNumber
    e4_BadNumber := xe4_BadNumber
    e5_BadNumber := xe5_BadNumber
    SC_SameColumn := ⟨⟨_, g1SC_SameColumn⟩, g2SC_SameColumn, ksSC_SameColumn, g4SC_SameColumn, xsv_SameColumn, PySem.W.mg_none_of X G g5SC_SameColumn, rfSC_SameColumn, oex_of kxSC_SameColumn xe3_SameColumn g6SC_SameColumn xbp_SameColumn xtp_SameColumn xk_SameColumn⟩
    SF_SameColumn := ⟨⟨_, _, _, _, _, _, _, _, _, _, rfl, l_SameColumn_init, c_SameColumn_init, ⟨_, _, _, _, _, _, lx_SameColumn_init, rv_SameColumn_init, rg_SameColumn_init⟩, _, _, _, lq_SameColumn_init⟩⟩
    ii_SameColumn := am_SameColumn_init
    ti_SameColumn := xti_SameColumn
    b_SameColumn_init := fun s us _ hl => by rw [List.append_nil] at hl ⊢; exact .of_eq (match us, hl with | [_, _], _ => rfl)
    xn_SameColumn_name := xxn_SameColumn_name
    xf_SameColumn := ⟨xe1_SameColumn, xe2_SameColumn, xbp_SameColumn, xe3_SameColumn⟩
    ec_SameColumn := ⟨xe1_SameColumn, xe2_SameColumn, xbp_SameColumn, xe3_SameColumn, xe4_SameColumn, xc2, xc4, xe5_SameColumn⟩
    k_SameColumn := xk_SameColumn
    bp_SameColumn := xbp_SameColumn
    sv_SameColumn := xsv_SameColumn
    ss_SameColumn := xss_SameColumn
    su_SameColumn_RowsError := xsu_SameColumn_RowsError
    su_SameColumn_Unknown := xsu_SameColumn_Unknown
    su_SameColumn_Impossible := xsu_SameColumn_Impossible
    su_SameColumn_UnknownColumn := xsu_SameColumn_UnknownColumn
    e1_SameColumn := xe1_SameColumn
    e2_SameColumn := xe2_SameColumn
    e3_SameColumn := xe3_SameColumn
    e4_SameColumn := xe4_SameColumn
    e5_SameColumn := xe5_SameColumn
    mg_LONGEST_NAME := ⟨_, PySem.W.mg_of X G xmg_LONGEST_NAME⟩
    cr_Table := ⟨r1cr_Table, r2cr_Table⟩
    cv_Table_MOST_COLUMNS := ⟨_, ⟨xcv_Table_MOST_COLUMNS, ⟨_, rfl⟩⟩⟩
    n_abs := PySem.W.mg_none_of X G xn_abs
    n_int := PySem.W.mg_none_of X G xn_int
    n_isinstance := PySem.W.mg_none_of X G xn_isinstance
    n_range := PySem.W.mg_none_of X G xn_range
    n_len := PySem.W.mg_none_of X G xn_len
    n_str := PySem.W.mg_none_of X G xn_str
    n_tuple := PySem.W.mg_none_of X G xn_tuple
    n_list := PySem.W.mg_none_of X G xn_list
    n_ValueError := PySem.W.mg_none_of X G xn_ValueError
    n_all := PySem.W.mg_none_of X G xn_all
    n_enumerate := PySem.W.mg_none_of X G xn_enumerate
    n_iter := PySem.W.mg_none_of X G xn_iter
    n_bool := PySem.W.mg_none_of X G xn_bool
    dr_Round_lshift := xdr_Round_lshift
    dr_Round_rshift := xdr_Round_rshift
    ti_lshift := xti_lshift
    tr_lshift := xtr_lshift
    ti_rshift := xti_rshift
    tr_rshift := xtr_rshift
    su_Round := xsu_Round
    F_is_name := fun_mk (st := s_is_name) l_is_name c_is_name k_is_name
    b_is_name := (fun_mk (st := s_is_name) l_is_name c_is_name k_is_name).binds fun _ _ _ _ _ _ us hl => match us, hl with | [_], _ => rfl
    mg_is_name := PySem.W.mg_of X G xmg_is_name
    F_first_bad_name := fun_mk (st := s_first_bad_name) l_first_bad_name c_first_bad_name k_first_bad_name
    b_first_bad_name := (fun_mk (st := s_first_bad_name) l_first_bad_name c_first_bad_name k_first_bad_name).binds fun _ _ _ _ _ _ us hl => match us, hl with | [_], _ => rfl
    mg_first_bad_name := PySem.W.mg_of X G xmg_first_bad_name
    F_first_stray := fun_mk (st := s_first_stray) l_first_stray c_first_stray k_first_stray
    b_first_stray := (fun_mk (st := s_first_stray) l_first_stray c_first_stray k_first_stray).binds fun _ _ _ _ _ _ us hl => match us, hl with | [_, _], _ => rfl
    mg_first_stray := PySem.W.mg_of X G xmg_first_stray
    F_check_known := fun_mk (st := s_check_known) l_check_known c_check_known k_check_known
    b_check_known := (fun_mk (st := s_check_known) l_check_known c_check_known k_check_known).binds fun _ _ _ _ _ _ us hl => match us, hl with | [_, _], _ => rfl
    mg_check_known := PySem.W.mg_of X G xmg_check_known
    F_check_different := fun_mk (st := s_check_different) l_check_different c_check_different k_check_different
    b_check_different := (fun_mk (st := s_check_different) l_check_different c_check_different k_check_different).binds fun _ _ _ _ _ _ us hl => match us, hl with | [_, _], _ => rfl
    mg_check_different := PySem.W.mg_of X G xmg_check_different
    F_Round_init := fun_mk (st := s_Round_init) l_Round_init c_Round_init k_Round_init
    b_Round_init := (fun_mk (st := s_Round_init) l_Round_init c_Round_init k_Round_init).binds fun _ _ _ _ _ _ us hl => match us, hl with | [_, _], _ => rfl
    m_Round_init := ⟨am_Round_init, if_Round_init, k_Round_init⟩
    F_Round_cut := fun_mk (st := s_Round_cut) l_Round_cut c_Round_cut k_Round_cut
    b_Round_cut := (fun_mk (st := s_Round_cut) l_Round_cut c_Round_cut k_Round_cut).binds fun _ _ _ _ _ _ us hl => match us, hl with | [_, _], _ => rfl
    m_Round_cut := ⟨am_Round_cut, if_Round_cut, k_Round_cut⟩
    F_Round_splits := fun_mk (st := s_Round_splits) l_Round_splits c_Round_splits k_Round_splits
    b_Round_splits := (fun_mk (st := s_Round_splits) l_Round_splits c_Round_splits k_Round_splits).binds fun _ _ _ _ _ _ us hl => match us, hl with | [_, _, _, _, _], _ => rfl
    m_Round_splits := ⟨am_Round_splits, if_Round_splits, k_Round_splits⟩
    F_Round_getitem := fun_mk (st := s_Round_getitem) l_Round_getitem c_Round_getitem k_Round_getitem
    b_Round_getitem := (fun_mk (st := s_Round_getitem) l_Round_getitem c_Round_getitem k_Round_getitem).binds fun _ _ _ _ _ _ us hl => match us, hl with | [_, _], _ => rfl
    m_Round_getitem := ⟨am_Round_getitem, if_Round_getitem, k_Round_getitem⟩
    F_Round_lshift := fun_mk (st := s_Round_lshift) l_Round_lshift c_Round_lshift k_Round_lshift
    b_Round_lshift := (fun_mk (st := s_Round_lshift) l_Round_lshift c_Round_lshift k_Round_lshift).binds fun _ _ _ _ _ _ us hl => match us, hl with | [_, _], _ => rfl
    m_Round_lshift := ⟨am_Round_lshift, if_Round_lshift, k_Round_lshift⟩
    ds_Round_lshift := xds_Round_lshift
    F_Round_rshift := fun_mk (st := s_Round_rshift) l_Round_rshift c_Round_rshift k_Round_rshift
    b_Round_rshift := (fun_mk (st := s_Round_rshift) l_Round_rshift c_Round_rshift k_Round_rshift).binds fun _ _ _ _ _ _ us hl => match us, hl with | [_, _], _ => rfl
    m_Round_rshift := ⟨am_Round_rshift, if_Round_rshift, k_Round_rshift⟩
    ds_Round_rshift := xds_Round_rshift
    F_Round_invert := fun_mk (st := s_Round_invert) l_Round_invert c_Round_invert k_Round_invert
    b_Round_invert := (fun_mk (st := s_Round_invert) l_Round_invert c_Round_invert k_Round_invert).binds fun _ _ _ _ _ _ us hl => match us, hl with | [_], _ => rfl
    m_Round_invert := ⟨am_Round_invert, if_Round_invert, k_Round_invert⟩
    F_Round_contains := fun_mk (st := s_Round_contains) l_Round_contains c_Round_contains k_Round_contains
    b_Round_contains := (fun_mk (st := s_Round_contains) l_Round_contains c_Round_contains k_Round_contains).binds fun _ _ _ _ _ _ us hl => match us, hl with | [_, _], _ => rfl
    m_Round_contains := ⟨am_Round_contains, if_Round_contains, k_Round_contains⟩
    F_Round_len := fun_mk (st := s_Round_len) l_Round_len c_Round_len k_Round_len
    b_Round_len := (fun_mk (st := s_Round_len) l_Round_len c_Round_len k_Round_len).binds fun _ _ _ _ _ _ us hl => match us, hl with | [_], _ => rfl
    m_Round_len := ⟨am_Round_len, if_Round_len, k_Round_len⟩
    F_Round_iter := fun_mk (st := s_Round_iter) l_Round_iter c_Round_iter k_Round_iter
    b_Round_iter := (fun_mk (st := s_Round_iter) l_Round_iter c_Round_iter k_Round_iter).binds fun _ _ _ _ _ _ us hl => match us, hl with | [_], _ => rfl
    m_Round_iter := ⟨am_Round_iter, if_Round_iter, k_Round_iter⟩
    F_Round_eq := fun_mk (st := s_Round_eq) l_Round_eq c_Round_eq k_Round_eq
    b_Round_eq := (fun_mk (st := s_Round_eq) l_Round_eq c_Round_eq k_Round_eq).binds fun _ _ _ _ _ _ us hl => match us, hl with | [_, _], _ => rfl
    m_Round_eq := ⟨am_Round_eq, if_Round_eq, k_Round_eq⟩
    F_moved := fun_mk (st := s_moved) l_moved c_moved k_moved
    b_moved := (fun_mk (st := s_moved) l_moved c_moved k_moved).binds fun _ _ _ _ _ _ us hl => match us, hl with | [_, _], _ => rfl
    mg_moved := PySem.W.mg_of X G xmg_moved
    F_all_moved := fun_mk (st := s_all_moved) l_all_moved c_all_moved k_all_moved
    b_all_moved := (fun_mk (st := s_all_moved) l_all_moved c_all_moved k_all_moved).binds fun _ _ _ _ _ _ us hl => match us, hl with | [_], _ => rfl
    mg_all_moved := PySem.W.mg_of X G xmg_all_moved
    F_law_cell := fun_mk (st := s_law_cell) l_law_cell c_law_cell k_law_cell
    b_law_cell := (fun_mk (st := s_law_cell) l_law_cell c_law_cell k_law_cell).binds fun _ _ _ _ _ _ us hl => match us, hl with | [_, _], _ => rfl
    mg_law_cell := PySem.W.mg_of X G xmg_law_cell
    F_law_pool := fun_mk (st := s_law_pool) l_law_pool c_law_pool k_law_pool
    b_law_pool := (fun_mk (st := s_law_pool) l_law_pool c_law_pool k_law_pool).binds fun _ _ _ _ _ _ us hl => match us, hl with | [_, _, _], _ => rfl
    mg_law_pool := PySem.W.mg_of X G xmg_law_pool
    F_law_whole := fun_mk (st := s_law_whole) l_law_whole c_law_whole k_law_whole
    b_law_whole := (fun_mk (st := s_law_whole) l_law_whole c_law_whole k_law_whole).binds fun _ _ _ _ _ _ us hl => match us, hl with | [_, _], _ => rfl
    mg_law_whole := PySem.W.mg_of X G xmg_law_whole
    F_law_word := fun_mk (st := s_law_word) l_law_word c_law_word k_law_word
    b_law_word := (fun_mk (st := s_law_word) l_law_word c_law_word k_law_word).binds fun _ _ _ _ _ _ us hl => match us, hl with | [_, _], _ => rfl
    mg_law_word := PySem.W.mg_of X G xmg_law_word
    F_law_new := fun_mk (st := s_law_new) l_law_new c_law_new k_law_new
    b_law_new := (fun_mk (st := s_law_new) l_law_new c_law_new k_law_new).binds fun _ _ _ _ _ _ us hl => match us, hl with | [_, _], _ => rfl
    mg_law_new := PySem.W.mg_of X G xmg_law_new
    F_law_sequence := fun_mk (st := s_law_sequence) l_law_sequence c_law_sequence k_law_sequence
    b_law_sequence := (fun_mk (st := s_law_sequence) l_law_sequence c_law_sequence k_law_sequence).binds fun _ _ _ _ _ _ us hl => match us, hl with | [_, _], _ => rfl
    mg_law_sequence := PySem.W.mg_of X G xmg_law_sequence
    F_law_from := fun_mk (st := s_law_from) l_law_from c_law_from k_law_from
    b_law_from := (fun_mk (st := s_law_from) l_law_from c_law_from k_law_from).binds fun _ _ _ _ _ _ us hl => match us, hl with | [_, _], _ => rfl
    mg_law_from := PySem.W.mg_of X G xmg_law_from
    F_law_back := fun_mk (st := s_law_back) l_law_back c_law_back k_law_back
    b_law_back := (fun_mk (st := s_law_back) l_law_back c_law_back k_law_back).binds fun _ _ _ _ _ _ us hl => match us, hl with | [_], _ => rfl
    mg_law_back := PySem.W.mg_of X G xmg_law_back
    F_law_is_round := fun_mk (st := s_law_is_round) l_law_is_round c_law_is_round k_law_is_round
    b_law_is_round := (fun_mk (st := s_law_is_round) l_law_is_round c_law_is_round k_law_is_round).binds fun _ _ _ _ _ _ us hl => match us, hl with | [_, _], _ => rfl
    mg_law_is_round := PySem.W.mg_of X G xmg_law_is_round
    F_law_turned_right := fun_mk (st := s_law_turned_right) l_law_turned_right c_law_turned_right k_law_turned_right
    b_law_turned_right := (fun_mk (st := s_law_turned_right) l_law_turned_right c_law_turned_right k_law_turned_right).binds fun _ _ _ _ _ _ us hl => match us, hl with | [_, _], _ => rfl
    mg_law_turned_right := PySem.W.mg_of X G xmg_law_turned_right
    F_law_turns := fun_mk (st := s_law_turns) l_law_turns c_law_turns k_law_turns
    b_law_turns := (fun_mk (st := s_law_turns) l_law_turns c_law_turns k_law_turns).binds fun _ _ _ _ _ _ us hl => match us, hl with | [_, _, _], _ => rfl
    mg_law_turns := PySem.W.mg_of X G xmg_law_turns
    F_law_equals := fun_mk (st := s_law_equals) l_law_equals c_law_equals k_law_equals
    b_law_equals := (fun_mk (st := s_law_equals) l_law_equals c_law_equals k_law_equals).binds fun _ _ _ _ _ _ us hl => match us, hl with | [_, _, _], _ => rfl
    mg_law_equals := PySem.W.mg_of X G xmg_law_equals
    F_law_cut_is := fun_mk (st := s_law_cut_is) l_law_cut_is c_law_cut_is k_law_cut_is
    b_law_cut_is := (fun_mk (st := s_law_cut_is) l_law_cut_is c_law_cut_is k_law_cut_is).binds fun _ _ _ _ _ _ us hl => match us, hl with | [_, _, _], _ => rfl
    mg_law_cut_is := PySem.W.mg_of X G xmg_law_cut_is
    F_law_ahead := fun_mk (st := s_law_ahead) l_law_ahead c_law_ahead k_law_ahead
    b_law_ahead := (fun_mk (st := s_law_ahead) l_law_ahead c_law_ahead k_law_ahead).binds fun _ _ _ _ _ _ us hl => match us, hl with | [_, _, _, _], _ => rfl
    mg_law_ahead := PySem.W.mg_of X G xmg_law_ahead
    F_law_splits_are := fun_mk (st := s_law_splits_are) l_law_splits_are c_law_splits_are k_law_splits_are
    b_law_splits_are := (fun_mk (st := s_law_splits_are) l_law_splits_are c_law_splits_are k_law_splits_are).binds fun _ _ _ _ _ _ us hl => match us, hl with | [_, _, _], _ => rfl
    mg_law_splits_are := PySem.W.mg_of X G xmg_law_splits_are
    F_law_refused := fun_mk (st := s_law_refused) l_law_refused c_law_refused k_law_refused
    b_law_refused := (fun_mk (st := s_law_refused) l_law_refused c_law_refused k_law_refused).binds fun _ _ _ _ _ _ us hl => match us, hl with | [_], _ => rfl
    mg_law_refused := PySem.W.mg_of X G xmg_law_refused
    F_law_lists_refused := fun_mk (st := s_law_lists_refused) l_law_lists_refused c_law_lists_refused k_law_lists_refused
    b_law_lists_refused := (fun_mk (st := s_law_lists_refused) l_law_lists_refused c_law_lists_refused k_law_lists_refused).binds fun _ _ _ _ _ _ us hl => match us, hl with | [_, _], _ => rfl
    mg_law_lists_refused := PySem.W.mg_of X G xmg_law_lists_refused
    F_law := fun_mk (st := s_law) l_law c_law k_law
    b_law := (fun_mk (st := s_law) l_law c_law k_law).binds fun _ _ _ _ _ _ us hl => match us, hl with | [_], _ => rfl
    mg_law := PySem.W.mg_of X G xmg_law
  }
  exact ⟨_, fun s v => .of_eq rfl, fun base _ _ => ok_law T⟩
theorem walk {l : PySem.W.OpenLaw} {q : Program} {loose : List Str} {XP : (Str → Option Value) → Heap → Prop} {YP : World → Heap → Prop} {d : DefRec} {K : Params → PySem.W.Frag} (hn : l.most = some 63) (hdf : d.params.defaults = [])
    (hY : ∀ (w : World) (h : Heap), YP w h → (K w.params).In h)
    (F : ∀ (w : World) (mg : Str → Option Value) (fa : Addr) (h : Heap), (K w.params).In h → h.Ns mainGlobals mg → mg d.name = some (.ref fa) →
      ∃ fd : FuncData, (∀ (s : Shared) (u : Value), BindsTo s fd ⟨[u], []⟩ [("script", u)]) ∧ ∀ base : Heap, (K w.params).In base → base.Ns mainGlobals mg → FnOk l.prog w (K w.params) mg base CX0 20 fa fd ["script"] (spLaw (K w.params))) :
    PySem.W.WalkO q loose XP YP l.row.toRowW d [] (fun f vs => PySem.call f vs) :=
  L2.walk_of (n := 63) (k := 20) (x := "script") (CX := fun _ => CX0) (sp := fun w => spLaw (K w.params)) hn (by decide) hdf ⟨rfl, by decide, by decide⟩ hY F (fun _ _ a ns hl _ hS => ⟨a, ns, rfl, hS, hl, fun _ => rfl⟩) fun _ _ _ _ _ z => z
end My
open PySem PySem.W PyProof.Rows
set_option maxRecDepth 100000 in
set_option maxHeartbeats 0 in
theorem PySem.Challenge.cw_unbrokenrows_k09_rounds_holds : PySem.Challenge.rw_unbrokenrows_k09_rounds.Holds := by
  w_on; o_law; k_head; (case hw => w_witness2)
  k_fill
  refine My.walk (l := PySem.Challenge.rw_unbrokenrows_k09_rounds) rfl rfl (fun w h Y => PySem.W.kIn_of Y) ?F
  case F =>
    intro w mg fa h KX G hmg
    refine' My.all_mk KX G hmg ?xmg_Round ?xmg_Table ?xmg_RowsError ?xmg_Unknown ?xmg_Impossible ?xmg_UnknownColumn ?xmg_BadRound ?xmg_BadNumber ?xmg_SameColumn ?am_UnknownColumn_init ?am_BadRound_init ?am_BadNumber_init ?am_SameColumn_init ?xmg_LONGEST_NAME ?xmg_is_name ?xmg_first_bad_name ?xmg_first_stray ?xmg_check_known ?xmg_check_different ?am_Round_init ?am_Round_cut ?am_Round_splits ?am_Round_getitem ?am_Round_lshift ?am_Round_rshift ?am_Round_invert ?am_Round_contains ?am_Round_len ?am_Round_iter ?am_Round_eq ?xmg_moved ?xmg_all_moved ?xmg_law_cell ?xmg_law_pool ?xmg_law_whole ?xmg_law_word ?xmg_law_new ?xmg_law_sequence ?xmg_law_from ?xmg_law_back ?xmg_law_is_round ?xmg_law_turned_right ?xmg_law_turns ?xmg_law_equals ?xmg_law_cut_is ?xmg_law_ahead ?xmg_law_splits_are ?xmg_law_refused ?xmg_law_lists_refused ?xmg_law ?if_Round_init ?if_Round_cut ?if_Round_splits ?if_Round_getitem ?if_Round_lshift ?if_Round_rshift ?if_Round_invert ?if_Round_contains ?if_Round_len ?if_Round_iter ?if_Round_eq ?l_UnknownColumn_init ?l_BadRound_init ?l_BadNumber_init ?l_SameColumn_init ?l_is_name ?l_first_bad_name ?l_first_stray ?l_check_known ?l_check_different ?l_Round_init ?l_Round_cut ?l_Round_splits ?l_Round_getitem ?l_Round_lshift ?l_Round_rshift ?l_Round_invert ?l_Round_contains ?l_Round_len ?l_Round_iter ?l_Round_eq ?l_moved ?l_all_moved ?l_law_cell ?l_law_pool ?l_law_whole ?l_law_word ?l_law_new ?l_law_sequence ?l_law_from ?l_law_back ?l_law_is_round ?l_law_turned_right ?l_law_turns ?l_law_equals ?l_law_cut_is ?l_law_ahead ?l_law_splits_are ?l_law_refused ?l_law_lists_refused ?l_law ?lx_UnknownColumn_init ?lq_UnknownColumn_init ?lx_BadRound_init ?lq_BadRound_init ?lx_BadNumber_init ?lq_BadNumber_init ?lx_SameColumn_init ?lq_SameColumn_init ?c_UnknownColumn_init ?c_BadRound_init ?c_BadNumber_init ?c_SameColumn_init ?c_is_name ?k_is_name ?c_first_bad_name ?k_first_bad_name ?c_first_stray ?k_first_stray ?c_check_known ?k_check_known ?c_check_different ?k_check_different ?c_Round_init ?k_Round_init ?c_Round_cut ?k_Round_cut ?c_Round_splits ?k_Round_splits ?c_Round_getitem ?k_Round_getitem ?c_Round_lshift ?k_Round_lshift ?c_Round_rshift ?k_Round_rshift ?c_Round_invert ?k_Round_invert ?c_Round_contains ?k_Round_contains ?c_Round_len ?k_Round_len ?c_Round_iter ?k_Round_iter ?c_Round_eq ?k_Round_eq ?c_moved ?k_moved ?c_all_moved ?k_all_moved ?c_law_cell ?k_law_cell ?c_law_pool ?k_law_pool ?c_law_whole ?k_law_whole ?c_law_word ?k_law_word ?c_law_new ?k_law_new ?c_law_sequence ?k_law_sequence ?c_law_from ?k_law_from ?c_law_back ?k_law_back ?c_law_is_round ?k_law_is_round ?c_law_turned_right ?k_law_turned_right ?c_law_turns ?k_law_turns ?c_law_equals ?k_law_equals ?c_law_cut_is ?k_law_cut_is ?c_law_ahead ?k_law_ahead ?c_law_splits_are ?k_law_splits_are ?c_law_refused ?k_law_refused ?c_law_lists_refused ?k_law_lists_refused ?c_law ?k_law ?pgcl_Round ?hdcl_Round ?pocl_Round ?sacl_Round ?xsf_Round ?kmk_Round ?kkmk_Round ?xc1_Round ?xc3_Round ?xn_Round_names ?pgcl_Table ?hdcl_Table ?pocl_Table ?sacl_Table ?xsf_Table ?xc1_Table ?xc3_Table ?xc2 ?xc4 ?xtp_RowsError ?xic_RowsError ?xtp_Unknown ?xic_Unknown ?xtp_Impossible ?xic_Impossible ?xtp_UnknownColumn ?xic_UnknownColumn ?xtp_BadRound ?xic_BadRound ?xtp_BadNumber ?xic_BadNumber ?xtp_SameColumn ?xic_SameColumn ?g1SC_UnknownColumn ?g2SC_UnknownColumn ?ksSC_UnknownColumn ?g4SC_UnknownColumn ?g5SC_UnknownColumn ?rfSC_UnknownColumn ?kxSC_UnknownColumn ?g6SC_UnknownColumn ?rv_UnknownColumn_init ?rg_UnknownColumn_init ?xti_UnknownColumn ?xxn_UnknownColumn_name ?xk_UnknownColumn ?xbp_UnknownColumn ?xsv_UnknownColumn ?xss_UnknownColumn ?xsu_UnknownColumn_RowsError ?xsu_UnknownColumn_Unknown ?xsu_UnknownColumn_Impossible ?xsu_UnknownColumn_SameColumn ?xe1_UnknownColumn ?xe2_UnknownColumn ?xe3_UnknownColumn ?xe4_UnknownColumn ?xe5_UnknownColumn ?g1SC_BadRound ?g2SC_BadRound ?ksSC_BadRound ?g4SC_BadRound ?g5SC_BadRound ?rfSC_BadRound ?kxSC_BadRound ?g6SC_BadRound ?rv_BadRound_init ?rg_BadRound_init ?xti_BadRound ?xxn_BadRound_index ?xk_BadRound ?xbp_BadRound ?xsv_BadRound ?xss_BadRound ?xsu_BadRound_RowsError ?xsu_BadRound_Unknown ?xsu_BadRound_Impossible ?xe1_BadRound ?xe2_BadRound ?xe3_BadRound ?xe4_BadRound ?xe5_BadRound ?g1SC_BadNumber ?g2SC_BadNumber ?ksSC_BadNumber ?g4SC_BadNumber ?g5SC_BadNumber ?rfSC_BadNumber ?kxSC_BadNumber ?g6SC_BadNumber ?rv_BadNumber_init ?rg_BadNumber_init ?xti_BadNumber ?xxn_BadNumber_number ?xk_BadNumber ?xbp_BadNumber ?xsv_BadNumber ?xss_BadNumber ?xsu_BadNumber_RowsError ?xsu_BadNumber_Unknown ?xsu_BadNumber_Impossible ?xe1_BadNumber ?xe2_BadNumber ?xe3_BadNumber ?xe4_BadNumber ?xe5_BadNumber ?g1SC_SameColumn ?g2SC_SameColumn ?ksSC_SameColumn ?g4SC_SameColumn ?g5SC_SameColumn ?rfSC_SameColumn ?kxSC_SameColumn ?g6SC_SameColumn ?rv_SameColumn_init ?rg_SameColumn_init ?xti_SameColumn ?xxn_SameColumn_name ?xk_SameColumn ?xbp_SameColumn ?xsv_SameColumn ?xss_SameColumn ?xsu_SameColumn_RowsError ?xsu_SameColumn_Unknown ?xsu_SameColumn_Impossible ?xsu_SameColumn_UnknownColumn ?xe1_SameColumn ?xe2_SameColumn ?xe3_SameColumn ?xe4_SameColumn ?xe5_SameColumn ?r1cr_Table ?r2cr_Table ?xcv_Table_MOST_COLUMNS ?xn_abs ?xn_int ?xn_isinstance ?xn_range ?xn_len ?xn_str ?xn_tuple ?xn_list ?xn_ValueError ?xn_all ?xn_enumerate ?xn_iter ?xn_bool ?xdr_Round_lshift ?xdr_Round_rshift ?xti_lshift ?xtr_lshift ?xti_rshift ?xtr_rshift ?xsu_Round ?xds_Round_lshift ?xds_Round_rshift
    (case xmg_Round => k_is)
    (case xmg_Table => k_is)
    (case xmg_RowsError => k_is)
    (case xmg_Unknown => k_is)
    (case xmg_Impossible => k_is)
    (case xmg_UnknownColumn => k_is)
    (case xmg_BadRound => k_is)
    (case xmg_BadNumber => k_is)
    (case xmg_SameColumn => k_is)
    (case am_UnknownColumn_init => k_is)
    (case am_BadRound_init => k_is)
    (case am_BadNumber_init => k_is)
    (case am_SameColumn_init => k_is)
    (case xmg_LONGEST_NAME => k_is)
    (case xmg_is_name => k_is)
    (case xmg_first_bad_name => k_is)
    (case xmg_first_stray => k_is)
    (case xmg_check_known => k_is)
    (case xmg_check_different => k_is)
    (case am_Round_init => k_is)
    (case am_Round_cut => k_is)
    (case am_Round_splits => k_is)
    (case am_Round_getitem => k_is)
    (case am_Round_lshift => k_is)
    (case am_Round_rshift => k_is)
    (case am_Round_invert => k_is)
    (case am_Round_contains => k_is)
    (case am_Round_len => k_is)
    (case am_Round_iter => k_is)
    (case am_Round_eq => k_is)
    (case xmg_moved => k_is)
    (case xmg_all_moved => k_is)
    (case xmg_law_cell => k_is)
    (case xmg_law_pool => k_is)
    (case xmg_law_whole => k_is)
    (case xmg_law_word => k_is)
    (case xmg_law_new => k_is)
    (case xmg_law_sequence => k_is)
    (case xmg_law_from => k_is)
    (case xmg_law_back => k_is)
    (case xmg_law_is_round => k_is)
    (case xmg_law_turned_right => k_is)
    (case xmg_law_turns => k_is)
    (case xmg_law_equals => k_is)
    (case xmg_law_cut_is => k_is)
    (case xmg_law_ahead => k_is)
    (case xmg_law_splits_are => k_is)
    (case xmg_law_refused => k_is)
    (case xmg_law_lists_refused => k_is)
    (case xmg_law => k_is)
    (case if_Round_init => k_is)
    (case if_Round_cut => k_is)
    (case if_Round_splits => k_is)
    (case if_Round_getitem => k_is)
    (case if_Round_lshift => k_is)
    (case if_Round_rshift => k_is)
    (case if_Round_invert => k_is)
    (case if_Round_contains => k_is)
    (case if_Round_len => k_is)
    (case if_Round_iter => k_is)
    (case if_Round_eq => k_is)
    (case l_UnknownColumn_init => k_is)
    (case l_BadRound_init => k_is)
    (case l_BadNumber_init => k_is)
    (case l_SameColumn_init => k_is)
    (case l_is_name => k_is)
    (case l_first_bad_name => k_is)
    (case l_first_stray => k_is)
    (case l_check_known => k_is)
    (case l_check_different => k_is)
    (case l_Round_init => k_is)
    (case l_Round_cut => k_is)
    (case l_Round_splits => k_is)
    (case l_Round_getitem => k_is)
    (case l_Round_lshift => k_is)
    (case l_Round_rshift => k_is)
    (case l_Round_invert => k_is)
    (case l_Round_contains => k_is)
    (case l_Round_len => k_is)
    (case l_Round_iter => k_is)
    (case l_Round_eq => k_is)
    (case l_moved => k_is)
    (case l_all_moved => k_is)
    (case l_law_cell => k_is)
    (case l_law_pool => k_is)
    (case l_law_whole => k_is)
    (case l_law_word => k_is)
    (case l_law_new => k_is)
    (case l_law_sequence => k_is)
    (case l_law_from => k_is)
    (case l_law_back => k_is)
    (case l_law_is_round => k_is)
    (case l_law_turned_right => k_is)
    (case l_law_turns => k_is)
    (case l_law_equals => k_is)
    (case l_law_cut_is => k_is)
    (case l_law_ahead => k_is)
    (case l_law_splits_are => k_is)
    (case l_law_refused => k_is)
    (case l_law_lists_refused => k_is)
    (case l_law => k_is)
    (case lx_UnknownColumn_init => k_is)
    (case lq_UnknownColumn_init => k_is)
    (case lx_BadRound_init => k_is)
    (case lq_BadRound_init => k_is)
    (case lx_BadNumber_init => k_is)
    (case lq_BadNumber_init => k_is)
    (case lx_SameColumn_init => k_is)
    (case lq_SameColumn_init => k_is)
    (case c_UnknownColumn_init => k_is)
    (case c_BadRound_init => k_is)
    (case c_BadNumber_init => k_is)
    (case c_SameColumn_init => k_is)
    (case c_is_name => k_is)
    (case k_is_name => k_is)
    (case c_first_bad_name => k_is)
    (case k_first_bad_name => k_is)
    (case c_first_stray => k_is)
    (case k_first_stray => k_is)
    (case c_check_known => k_is)
    (case k_check_known => k_is)
    (case c_check_different => k_is)
    (case k_check_different => k_is)
    (case c_Round_init => k_is)
    (case k_Round_init => k_is)
    (case c_Round_cut => k_is)
    (case k_Round_cut => k_is)
    (case c_Round_splits => k_is)
    (case k_Round_splits => k_is)
    (case c_Round_getitem => k_is)
    (case k_Round_getitem => k_is)
    (case c_Round_lshift => k_is)
    (case k_Round_lshift => k_is)
    (case c_Round_rshift => k_is)
    (case k_Round_rshift => k_is)
    (case c_Round_invert => k_is)
    (case k_Round_invert => k_is)
    (case c_Round_contains => k_is)
    (case k_Round_contains => k_is)
    (case c_Round_len => k_is)
    (case k_Round_len => k_is)
    (case c_Round_iter => k_is)
    (case k_Round_iter => k_is)
    (case c_Round_eq => k_is)
    (case k_Round_eq => k_is)
    (case c_moved => k_is)
    (case k_moved => k_is)
    (case c_all_moved => k_is)
    (case k_all_moved => k_is)
    (case c_law_cell => k_is)
    (case k_law_cell => k_is)
    (case c_law_pool => k_is)
    (case k_law_pool => k_is)
    (case c_law_whole => k_is)
    (case k_law_whole => k_is)
    (case c_law_word => k_is)
    (case k_law_word => k_is)
    (case c_law_new => k_is)
    (case k_law_new => k_is)
    (case c_law_sequence => k_is)
    (case k_law_sequence => k_is)
    (case c_law_from => k_is)
    (case k_law_from => k_is)
    (case c_law_back => k_is)
    (case k_law_back => k_is)
    (case c_law_is_round => k_is)
    (case k_law_is_round => k_is)
    (case c_law_turned_right => k_is)
    (case k_law_turned_right => k_is)
    (case c_law_turns => k_is)
    (case k_law_turns => k_is)
    (case c_law_equals => k_is)
    (case k_law_equals => k_is)
    (case c_law_cut_is => k_is)
    (case k_law_cut_is => k_is)
    (case c_law_ahead => k_is)
    (case k_law_ahead => k_is)
    (case c_law_splits_are => k_is)
    (case k_law_splits_are => k_is)
    (case c_law_refused => k_is)
    (case k_law_refused => k_is)
    (case c_law_lists_refused => k_is)
    (case k_law_lists_refused => k_is)
    (case c_law => k_is)
    (case k_law => k_is)
    (case pgcl_Round => k_is)
    (case hdcl_Round => k_is)
    (case pocl_Round => k_is)
    (case sacl_Round => k_is)
    (case xsf_Round => k_is)
    (case kmk_Round => k_is)
    (case kkmk_Round => k_is)
    (case xc1_Round => k_is)
    (case xc3_Round => k_is)
    (case xn_Round_names => k_is)
    (case pgcl_Table => k_is)
    (case hdcl_Table => k_is)
    (case pocl_Table => k_is)
    (case sacl_Table => k_is)
    (case xsf_Table => k_is)
    (case xc1_Table => k_is)
    (case xc3_Table => k_is)
    (case xc2 => k_is)
    (case xc4 => k_is)
    (case xtp_RowsError => k_is)
    (case xic_RowsError => k_is)
    (case xtp_Unknown => k_is)
    (case xic_Unknown => k_is)
    (case xtp_Impossible => k_is)
    (case xic_Impossible => k_is)
    (case xtp_UnknownColumn => k_is)
    (case xic_UnknownColumn => k_is)
    (case xtp_BadRound => k_is)
    (case xic_BadRound => k_is)
    (case xtp_BadNumber => k_is)
    (case xic_BadNumber => k_is)
    (case xtp_SameColumn => k_is)
    (case xic_SameColumn => k_is)
    (case g1SC_UnknownColumn => k_is)
    (case g2SC_UnknownColumn => k_is)
    (case ksSC_UnknownColumn => ks_is)
    (case g4SC_UnknownColumn => k_is)
    (case g5SC_UnknownColumn => k_is)
    (case rfSC_UnknownColumn => first | rfl | decide +kernel)
    (case kxSC_UnknownColumn => kx_is)
    (case g6SC_UnknownColumn => k_is)
    (case rv_UnknownColumn_init => first | rfl | decide +kernel)
    (case rg_UnknownColumn_init => first | rfl | decide +kernel)
    (case xti_UnknownColumn => k_is)
    (case xxn_UnknownColumn_name => k_is)
    (case xk_UnknownColumn => k_is)
    (case xbp_UnknownColumn => k_is)
    (case xsv_UnknownColumn => k_is)
    (case xss_UnknownColumn => k_is)
    (case xsu_UnknownColumn_RowsError => k_is)
    (case xsu_UnknownColumn_Unknown => k_is)
    (case xsu_UnknownColumn_Impossible => k_is)
    (case xsu_UnknownColumn_SameColumn => k_is)
    (case xe1_UnknownColumn => k_is)
    (case xe2_UnknownColumn => k_is)
    (case xe3_UnknownColumn => k_is)
    (case xe4_UnknownColumn => k_is)
    (case xe5_UnknownColumn => k_is)
    (case g1SC_BadRound => k_is)
    (case g2SC_BadRound => k_is)
    (case ksSC_BadRound => ks_is)
    (case g4SC_BadRound => k_is)
    (case g5SC_BadRound => k_is)
    (case rfSC_BadRound => first | rfl | decide +kernel)
    (case kxSC_BadRound => kx_is)
    (case g6SC_BadRound => k_is)
    (case rv_BadRound_init => first | rfl | decide +kernel)
    (case rg_BadRound_init => first | rfl | decide +kernel)
    (case xti_BadRound => k_is)
    (case xxn_BadRound_index => k_is)
    (case xk_BadRound => k_is)
    (case xbp_BadRound => k_is)
    (case xsv_BadRound => k_is)
    (case xss_BadRound => k_is)
    (case xsu_BadRound_RowsError => k_is)
    (case xsu_BadRound_Unknown => k_is)
    (case xsu_BadRound_Impossible => k_is)
    (case xe1_BadRound => k_is)
    (case xe2_BadRound => k_is)
    (case xe3_BadRound => k_is)
    (case xe4_BadRound => k_is)
    (case xe5_BadRound => k_is)
    (case g1SC_BadNumber => k_is)
    (case g2SC_BadNumber => k_is)
    (case ksSC_BadNumber => ks_is)
    (case g4SC_BadNumber => k_is)
    (case g5SC_BadNumber => k_is)
    (case rfSC_BadNumber => first | rfl | decide +kernel)
    (case kxSC_BadNumber => kx_is)
    (case g6SC_BadNumber => k_is)
    (case rv_BadNumber_init => first | rfl | decide +kernel)
    (case rg_BadNumber_init => first | rfl | decide +kernel)
    (case xti_BadNumber => k_is)
    (case xxn_BadNumber_number => k_is)
    (case xk_BadNumber => k_is)
    (case xbp_BadNumber => k_is)
    (case xsv_BadNumber => k_is)
    (case xss_BadNumber => k_is)
    (case xsu_BadNumber_RowsError => k_is)
    (case xsu_BadNumber_Unknown => k_is)
    (case xsu_BadNumber_Impossible => k_is)
    (case xe1_BadNumber => k_is)
    (case xe2_BadNumber => k_is)
    (case xe3_BadNumber => k_is)
    (case xe4_BadNumber => k_is)
    (case xe5_BadNumber => k_is)
    (case g1SC_SameColumn => k_is)
    (case g2SC_SameColumn => k_is)
    (case ksSC_SameColumn => ks_is)
    (case g4SC_SameColumn => k_is)
    (case g5SC_SameColumn => k_is)
    (case rfSC_SameColumn => first | rfl | decide +kernel)
    (case kxSC_SameColumn => kx_is)
    (case g6SC_SameColumn => k_is)
    (case rv_SameColumn_init => first | rfl | decide +kernel)
    (case rg_SameColumn_init => first | rfl | decide +kernel)
    (case xti_SameColumn => k_is)
    (case xxn_SameColumn_name => k_is)
    (case xk_SameColumn => k_is)
    (case xbp_SameColumn => k_is)
    (case xsv_SameColumn => k_is)
    (case xss_SameColumn => k_is)
    (case xsu_SameColumn_RowsError => k_is)
    (case xsu_SameColumn_Unknown => k_is)
    (case xsu_SameColumn_Impossible => k_is)
    (case xsu_SameColumn_UnknownColumn => k_is)
    (case xe1_SameColumn => k_is)
    (case xe2_SameColumn => k_is)
    (case xe3_SameColumn => k_is)
    (case xe4_SameColumn => k_is)
    (case xe5_SameColumn => k_is)
    (case r1cr_Table => k_is)
    (case r2cr_Table => k_is)
    (case xcv_Table_MOST_COLUMNS => k_is)
    (case xn_abs => k_is)
    (case xn_int => k_is)
    (case xn_isinstance => k_is)
    (case xn_range => k_is)
    (case xn_len => k_is)
    (case xn_str => k_is)
    (case xn_tuple => k_is)
    (case xn_list => k_is)
    (case xn_ValueError => k_is)
    (case xn_all => k_is)
    (case xn_enumerate => k_is)
    (case xn_iter => k_is)
    (case xn_bool => k_is)
    (case xdr_Round_lshift => k_is)
    (case xdr_Round_rshift => k_is)
    (case xti_lshift => k_is)
    (case xtr_lshift => k_is)
    (case xti_rshift => k_is)
    (case xtr_rshift => k_is)
    (case xsu_Round => k_is)
    (case xds_Round_lshift => k_is)
    (case xds_Round_rshift => k_is)
#print axioms PySem.Challenge.cw_unbrokenrows_k09_rounds_holds
