import PyProof.Rows.All
import Wide.All
import OpenK.AllK
import Wide.FinOn
import HandS.Base
import HandS.Call
import HandS.List
import HandS.OwnEq
import HandS.Ends
import HandS.ClsMeth
import HandS.ExcOwn
import HandS.ExcIs
import HandS.TryOnly
import KE.KExcSuper
import HandS.ExcInit
import HandS.ExcField
import HandS.Words
import HandS.SortKw
import HandS.IterNext
import KE.DataMinMax
import KE.KExcIs
import KE.KExcLine
import HandS.OwnIter
import HandS.Walk
import KE.GoesMore
import KE.SortData
import HandS.SortRule
import HandS.IsInst
import HandS.WideBits
import HandS.Exc
import HandS.TryMany
import HandS.Style
import HandS.Strs
import HandS.Deep
import PyProof.StrLawsChain
import HandS.Text
import PyProof.Rows.StrCut
import HandS.Wide
import HandS.TupAny
import HandS.Star
import HandS.More
import HandS.Defaults
import HandS.Codes
import HandS.ForMost
import HandS.FStr
import HandS.StrMore
import HandS.Replace
import HandS.WordsExc
import PyProof.StrBlock2
import PyProof.ListStr
import PyProof.P3In
import PyProof.Rows.SortStr
import KE.BitLaws
import PySem.Challenge.RW_unbrokenrows_k34_meetings_and_companies
set_option Elab.async false
set_option linter.all false
set_option maxRecDepth 100000
namespace My
open PySem PySem.Spec PyProof.Rows L2
section
variable {X : Cx} {CX : CXT} {n : Nat} {f C : Addr} {fd : FuncData} {ps : List Str} {sp : Sp} {E : XK}
/-- a promise, called anywhere in the running body -/
theorem call_at (G0 : FnOk X.prog X.w X.K X.mg X.base CX n f fd ps sp) (hb : Binds X.K fd ps []) (hx : Passes CX X E) {A : Around} (hr : Room n A) (hA : A.frames = X.A.frames)
    {pins : List (Addr × Obj)} {s : Shared} {σ : L2.St} {H : Hp} (I : Inv X pins σ H s) {vs : List V} {us : List Value} (r : Vals vs us) {Q : VK} (h : sp vs H Q E) :
    wpAny (model X.prog X.w) A (call (.ref f) us) (EP X pins σ Q) X.xe s := by
  have e0 : Env0 X.prog X.w X.K X.mg X.base A X.stack s H := by
    have e := I.env0
    exact ⟨by rw [hA]; exact e.frames, e.mod, e.bs, e.bsz, e.funs, e.frf, e.hok, e.bare⟩
  have hl := G0.len _ _ _ _ h
  refine wpAny_call (codeAny_mono (G0.run A X.stack s H ⟨us, []⟩ us vs Q E hr e0 (by
    have := hb s us I.kIn (by rw [List.append_nil, ← r.length]; exact hl)
    simpa using this) r h) fun r s' hq => ?_)
  cases r with
  | error e => exact hx pins σ H s e s' I hq
  | ok fl =>
    cases fl with
    | ret w => exact I.after hq
    | next => exact False.elim hq
    | brk => exact False.elim hq
    | cont => exact False.elim hq
theorem relV_noNI {v : V} {u : Value} (r : RelV v u) : u ≠ .notImplemented := by
  intro e
  subst e
  cases v <;> first | (cases r; done) | (obtain ⟨_, z⟩ := r; cases z)
theorem cmpBack_of {pins : List (Addr × Obj)} {σ : L2.St} {Q : VK} {v : Value} {s : Shared} (h : EP X pins σ Q v s) : PySem.W.CmpBack (EP X pins σ Q) v s := by
  obtain ⟨x, H', I', r, q⟩ := id h
  cases v <;> first | exact h | exact absurd rfl (relV_noNI r)
/-- x op y, both instances of the class at C, by its own method -/
def rOwn2 (C : Addr) (sp : Sp) (E : XK) : R2 := fun x y H Q => ∃ a b dx dy fs gs, x = .ref a ∧ y = .ref b ∧ H a = some (.ins C dx fs) ∧ H b = some (.ins C dy gs) ∧ sp [.ref a, .ref b] H Q E
theorem op_own2 {op : Operator} (G0 : FnOk X.prog X.w X.K X.mg X.base CX n f fd ps sp) (hb : Binds X.K fd ps []) (hx : Passes CX X E) (hr : Room n X.A)
    (hs : PySem.W.findIn X.K (.ref C) (PySem.dunder op.info.2) = some (some (.ref f))) (hf : PySem.W.isFn X.K (.ref f) = true) (hc : PySem.W.selfFirst X.K C = true) : OpR X (binaryOp op) (rOwn2 C sp E) := by
  intro pins s σ H x y v u Q I rx ry h
  obtain ⟨a, b, dx, dy, fs, gs, rfl, rfl, ha, hb', q⟩ := h
  cases rx
  cases ry
  obtain ⟨mA, J, _⟩ := ins_get I.hok ha
  obtain ⟨mB, J', _⟩ := ins_get I.hok hb'
  obtain ⟨od, J, _⟩ := J.look
  obtain ⟨od', J', _⟩ := J'.look
  obtain ⟨m, hF⟩ := I.fr
  refine PySem.W.binop_K hF I.ok.mod.kin J J'.type hc hs hf ?_
  exact wpAny_mono (call_at G0 hb hx hr rfl I (vs := [.ref a, .ref b]) (.cons rfl (.cons rfl .nil)) q) (fun v s' z => cmpBack_of z) fun _ _ z => z
/-- x op k, x such an instance, k a whole number -/
def rOwnI (C : Addr) (sp : Sp) (E : XK) : R2 := fun x y H Q => ∃ a dx fs k, x = .ref a ∧ y = .int k ∧ H a = some (.ins C dx fs) ∧ sp [.ref a, .int k] H Q E
theorem op_ownI {op : Operator} {fo ro rc : Option Value} (G0 : FnOk X.prog X.w X.K X.mg X.base CX n f fd ps sp) (hb : Binds X.K fd ps []) (hx : Passes CX X E) (hr : Room n X.A)
    (hs : PySem.W.findIn X.K (.ref C) (PySem.dunder op.info.2) = some (some (.ref f))) (hf : PySem.W.isFn X.K (.ref f) = true) (hc : PySem.W.selfFirst X.K C = true)
    (hrr : PySem.W.findIn X.K (.ref C) (dunderR op.info.2) = some rc) (hp : rc = none ∨ ∃ g : Addr, rc = some (.ref g))
    (h1 : PySem.W.findIn X.K (.type "int") (PySem.dunder op.info.2) = some fo) (h2 : PySem.W.findIn X.K (.type "int") (dunderR op.info.2) = some ro) (hsub : PySem.W.subIn X.K (.type "int") (.ref C) = some false) :
    OpR X (binaryOp op) (rOwnI C sp E) := by
  intro pins s σ H x y v u Q I rx ry h
  obtain ⟨a, dx, fs, k, rfl, rfl, ha, q⟩ := h
  cases rx
  obtain ⟨t, rfl⟩ := ry
  obtain ⟨mA, J, _⟩ := ins_get I.hok ha
  obtain ⟨od, J, _⟩ := J.look
  obtain ⟨m, hF⟩ := I.fr
  refine PySem.W.ksp_binT (T := "int") hF I.ok.mod.kin J rfl hc hs hf hrr hp h1 h2 hsub ?_
  exact wpAny_mono (call_at G0 hb hx hr rfl I (vs := [.ref a, .int k]) (.cons rfl (.cons ⟨_, rfl⟩ .nil)) q) (fun v s' z => cmpBack_of z) fun _ _ z => z
/-- one-place operators of such an instance -/
def rOwn1 (C : Addr) (sp : Sp) (E : XK) : V → Hp → VK → Prop := fun x H Q => ∃ a dx fs, x = .ref a ∧ H a = some (.ins C dx fs) ∧ sp [.ref a] H Q E
theorem un_own (G0 : FnOk X.prog X.w X.K X.mg X.base CX n f fd ps sp) (hb : Binds X.K fd ps []) (hx : Passes CX X E) (hr : Room n X.A)
    (hs : PySem.W.findIn X.K (.ref C) "__neg__" = some (some (.ref f))) (hf : PySem.W.isFn X.K (.ref f) = true) : UnR X (unaryOp .USub) (rOwn1 C sp E) := by
  intro pins s σ H x v Q I rx h
  obtain ⟨a, dx, fs, rfl, ha, q⟩ := h
  cases rx
  obtain ⟨mA, J, _⟩ := ins_get I.hok ha
  obtain ⟨od, J, _⟩ := J.look
  obtain ⟨m, hF⟩ := I.fr
  exact PySem.W.ksp_neg hF I.ok.mod.kin J hs hf (call_at G0 hb hx hr rfl I (vs := [.ref a]) (.cons rfl .nil) q)
/-- abs(x), bool(x) of such an instance -/
theorem call_absOwn (G0 : FnOk X.prog X.w X.K X.mg X.base CX n f fd ps sp) (hb : Binds X.K fd ps []) (hx : Passes CX X E) (hr : Room (n + 1) X.A)
    (hs : PySem.W.findIn X.K (.ref C) "__abs__" = some (some (.ref f))) (hf : PySem.W.isFn X.K (.ref f) = true) :
    CallR X (.builtin "abs") (fun xs H Q => ∃ a dx fs, xs = [V.ref a] ∧ H a = some (.ins C dx fs) ∧ sp [.ref a] H Q E) := by
  intro pins s σ H xs us Q I r h
  obtain ⟨a, dx, fs, rfl, ha, q⟩ := h
  obtain ⟨u, rfl, r1⟩ := vals1 r
  cases r1
  obtain ⟨mA, J, _⟩ := ins_get I.hok ha
  obtain ⟨od, J, _⟩ := J.look
  refine PySem.Calls.call_function_entry kind_abs plain_abs entry_abs (args_abs _) ?_
  unfold Builtin.«abs»
  refine wpAny_bind (m := oneArg "abs" _) (wpAny_pure ?_)
  refine wpAny_bind (m := callSpecial? (.ref a) (Str.ofString "__abs__")) (PySem.W.special_fn I.kIn J hs (beq_iff_eq.mp hf) ?_)
  refine wpAny_mono (call_at G0 hb hx (A := X.A.in1) hr.in1 rfl I (vs := [.ref a]) (.cons rfl .nil) q) (fun v s' z => ?_) fun _ _ z => z
  exact wpAny_pure ⟨_, rfl, z⟩
theorem meets_bool_own (prog : Program) (w : World) (l : Addr) : MeetsIn prog w (Builtin.«bool.__new__» ⟨[.type "bool", .ref l], []⟩)
    (fun A R s => wpAny (model prog w) A.in1 (truthy (.ref l)) (fun b s' => R (.ok (.ret (.bool b))) s') (fun e s' => R (.error e) s') s) := by
  intro A R s hs
  have f1 := F.conv_sub_bool
  unfold Builtin.«bool.__new__»
  dsimp only
  repeat (any_goals (first | assumption | (with_reducible refine wpAny_mono hs (fun b s' z => ?_) (fun _ _ z => z)) | wp_step))
  all_goals first | exact z | skip
theorem call_boolOwn (G0 : FnOk X.prog X.w X.K X.mg X.base CX n f fd ps sp) (hb : Binds X.K fd ps []) (hx : Passes CX X E) (hr : Room (n + 2) X.A)
    (hs : PySem.W.findIn X.K (.ref C) "__bool__" = some (some (.ref f))) (hf : PySem.W.isFn X.K (.ref f) = true) :
    CallR X (.type "bool") (fun xs H Q => ∃ a dx fs, xs = [V.ref a] ∧ H a = some (.ins C dx fs) ∧ sp [.ref a] H (fun v H' => ∃ k, v = .bl k ∧ Q v H') E) := by
  intro pins s σ H xs us Q I r h
  obtain ⟨a, dx, fs, rfl, ha, q⟩ := h
  obtain ⟨u, rfl, r1⟩ := vals1 r
  cases r1
  obtain ⟨mA, J, _⟩ := ins_get I.hok ha
  obtain ⟨od, J, _⟩ := J.look
  obtain ⟨m, hF⟩ := I.fr
  refine callType_newIn F.called_bool F.newNe_bool (F.typeCall_bool_1 _) (F.newCall_bool_1 _) (fun obj => F.args_object_init_2 obj _) F.entry_bool_new (meets_bool_own X.prog X.w a) ?_
  refine PySem.W.truthy_K hF I.ok.mod.kin J hs hf ?_
  refine wpAny_mono (call_at G0 hb hx (A := X.A.in1.in1) hr.in1.in1 rfl I (vs := [.ref a]) (.cons rfl .nil) q) (fun v s' z => ?_) fun _ _ z => z
  obtain ⟨x, H', I', r, k, rfl, q'⟩ := z
  cases r
  exact ⟨PySem.typeIs_bool _ _, .bl k, H', I', rfl, q'⟩
/-- == of two such instances -/
def rOwnEq (C : Addr) (sp : Sp) (E : XK) : R2 := fun x y H Q => ∃ a b dx dy fs gs, x = .ref a ∧ y = .ref b ∧ H a = some (.ins C dx fs) ∧ H b = some (.ins C dy gs) ∧ sp [.ref a, .ref b] H Q E
theorem op_eqOwn (G0 : FnOk X.prog X.w X.K X.mg X.base CX n f fd ps sp) (hb : Binds X.K fd ps []) (hx : Passes CX X E) (hr : Room n X.A)
    (hs : PySem.W.findIn X.K (.ref C) "__eq__" = some (some (.ref f))) (hf : PySem.W.isFn X.K (.ref f) = true) : OpR X (compareOp .Eq) (rOwnEq C sp E) := by
  intro pins s σ H x y v u Q I rx ry h
  obtain ⟨a, b, dx, dy, fs, gs, rfl, rfl, ha, hb', q⟩ := h
  cases rx
  cases ry
  obtain ⟨mA, J, _⟩ := ins_get I.hok ha
  obtain ⟨mB, J', _⟩ := ins_get I.hok hb'
  obtain ⟨od, J, _⟩ := J.look
  obtain ⟨od', J', _⟩ := J'.look
  obtain ⟨m, hF⟩ := I.fr
  show wpAny (model X.prog X.w) X.A (richCompare .Eq (.ref a) (.ref b)) (EP X pins σ Q) X.xe s
  refine PySem.W.cmp_K (op := .Eq) (tb := .ref C) hr.units0 hF I.ok.mod.kin J J'.type (by simp [PySem.W.notFirst]) hs hf ?_
  exact wpAny_mono (call_at G0 hb hx hr rfl I (vs := [.ref a, .ref b]) (.cons rfl (.cons rfl .nil)) q) (fun v s' z => cmpBack_of z) fun _ _ z => z
end
end My
set_option maxRecDepth 100000
namespace My
open PySem PySem.Spec PyProof.Rows L2
open ClX (CRead)
section
variable {X : Cx} {CX : CXT} {n k : Nat} {f C : Addr} {fd : FuncData} {ps : List Str} {sp : Sp} {E : XK}
/-- str(x) of an instance with its own __str__ -/
theorem call_strOwn (G0 : FnOk X.prog X.w X.K X.mg X.base CX n f fd ps sp) (hb : Binds X.K fd ps []) (hx : Passes CX X E) (hr : Room (n + 2) X.A)
    (hs : PySem.W.findIn X.K (.ref C) "__str__" = some (some (.ref f))) (hf : PySem.W.isFn X.K (.ref f) = true) :
    CallR X (.type "str") (fun xs H Q => ∃ a dx fs, xs = [V.ref a] ∧ H a = some (.ins C dx fs) ∧ sp [.ref a] H (fun v H' => ∃ z, v = .str z ∧ Q v H') E) := by
  intro pins s σ H xs us Q I r h
  obtain ⟨a, dx, fs, rfl, ha, q⟩ := h
  obtain ⟨u, rfl, r1⟩ := vals1 r
  cases r1
  obtain ⟨mA, J, _⟩ := ins_get I.hok ha
  obtain ⟨od, J, _⟩ := J.look
  refine PySem.W.kso_call (hr.in1.in1.units0) I.kIn J hs hf ?_
  refine wpAny_mono (call_at G0 hb hx (A := X.A.in1.in1) hr.in1.in1 rfl I (vs := [.ref a]) (.cons rfl .nil) q) (fun v s' z => ?_) fun _ _ z => z
  obtain ⟨x, H', I', r, y, rfl, q'⟩ := z
  obtain ⟨t, rfl⟩ := r
  exact ⟨.str y, H', I', ⟨_, rfl⟩, q'⟩
/-- C.m is a staticmethod: its record at p, its def at g -/
structure SMet (K : PySem.W.Frag) (C : Addr) (mc : Value) (m : Str) (p g : Addr) : Prop where
  at_ : PySem.W.findCls K (.ref C) mc m = some (.get (.builtin "staticmethod.__get__") (.ref p) .none (.ref C))
  rc : ∃ rest, PySem.W.recIn K p "staticmethod" = some (.ref g :: rest)
  kp : PySem.W.keepIn K (.ref g) = true
theorem getmethsm_ok {pins : List (Addr × Obj)} {σ : L2.St} {H : Hp} {s : Shared} {p g : Addr} {mc : Value} {m : Str} {A : Around} {E : Value → Shared → Prop} {pl : Sem Bool} {Q : Value × List Value → Shared → Prop} (I : Inv X pins σ H s) (r : CRead X.K C mc) (k : SMet X.K C mc m p g)
    (h : ∀ s', Inv X pins σ H s' → Q (.ref g, []) s') : wpAny (model X.prog X.w) A (getMethod (.ref C) m pl) Q E s := by
  refine PySem.W.method_cls I.kIn r.ga ?_
  obtain ⟨rest, hp⟩ := k.rc
  refine PySem.W.cls_bind I.kIn r.rd k.at_ ?_
  refine wpAny_call (PySem.W.sm_get (s := { s with toks := s.toks + 1 }) I.kIn hp (PySem.W.handed_on rfl ?_))
  exact h _ (I.tok _)
/-- C.m(e, ..), m a staticmethod of the class at C -/
def tSMeth (C : Addr) (sp : Sp) (dvs : List V) (E : XK) (ta : TE) (t : TA) : TE := fun σ H Q => ta σ H fun x H1 => x = .ref C ∧ t σ H1 fun vs H2 => sp (vs ++ dvs) H2 Q E
theorem pe_smeth {o e : Expr} {es : List Expr} {p g : Addr} {mc : Value} {m : Str} {pos apos : Pos} {ta : TE} {t : TA} {pl : Sem Bool} {ds : List Value} {dvs : List V} (he : PE X o ta) (r : CRead X.K C mc) (c : SMet X.K C mc m p g)
    (G0 : FnOk X.prog X.w X.K X.mg X.base CX k g fd ps sp) (hr : Room k X.A) (hb : Binds X.K fd ps ds) (hd : Vals dvs ds) (hx : Passes CX X E) (ha : PA X (e :: es) t)
    (hst : starEach (e :: es) X.env = (false, eval e X.env) :: starEach es X.env := by rfl) (hpl : (backTo pos (starEach es X.env)).any (·.1) = false := by rfl)
    (ht : eval (.Call (.Attribute o m apos) (e :: es) [] pos) X.env = (do
      let ov ← eval o X.env
      standAt apos.atName
      let (f, first) ← holding [ov] (getMethod ov m pl)
      callWith pos f first (backTo pos (starEach (e :: es) X.env)) (backToKw pos (keywordEach [] X.env))) := by rfl) :
    PE X (.Call (.Attribute o m apos) (e :: es) [] pos) (tSMeth C sp dvs E ta t) := by
  refine ⟨fun pins s σ H Q I h => ?_⟩
  refine PySem.W.methodCall_KW (pl := pl) (thn (he.run pins s σ H _ I h) fun u s1 ⟨x, H1, I1, rx, ex, q⟩ => ?_) ht
  subst ex
  obtain rfl : u = Value.ref C := rx
  refine getmethsm_ok I1 r c fun s2 I2 => ?_
  refine PySem.W.callWith_K (h₀ := X.base) I2.ok.mod.kin c.kp (thn (ha.run pos pins s2 σ H1 _ I2 q) fun us s3 ⟨vs, H2, I3, r3, q3⟩ => ⟨I3.kIn, ?_⟩) hst hpl
  exact run_fn G0 hr hb hd hx I3 r3 q3
/-- C(e, ..) where what its __init__ raises is wished for -/
def tMakeS (C : Addr) (sp : Sp) (E : L2.St → XK) (t : TA) : TE := fun σ H Q => t σ H fun vs H1 => ∀ x dx, H1 x = none → H1 dx = none → dx ≠ x →
  sp (.ref x :: vs) (upd (upd H1 dx (.own x)) x (.ins C dx [])) (fun v H2 => v = .non ∧ Q (.ref x) H2) (E σ)
theorem run_makeS {E : L2.St → XK} {pins : List (Addr × Obj)} {σ : L2.St} {H : Hp} {s : Shared} {Q : VK} {us : List Value} {vs : List V} (M : Mk X.K C f) (G0 : FnOk X.prog X.w X.K X.mg X.base CX k f fd ps sp) (hr : Room (k + 1) X.A) (hb : Binds X.K fd ps [])
    (hx : PassesAt CX X σ (E σ)) (I : Inv X pins σ H s) (r : Vals vs us)
    (h : ∀ x dx, H x = none → H dx = none → dx ≠ x → sp (.ref x :: vs) (upd (upd H dx (.own x)) x (.ins C dx [])) (fun v H2 => v = .non ∧ Q (.ref x) H2) (E σ)) :
    wpAny (model X.prog X.w) X.A (call (.ref C) us) (EP X pins σ Q) X.xe s := by
  have hq := h (s.heap.objs.size + 1) s.heap.objs.size (I.hok.fresh (Nat.le_succ _)) (I.hok.fresh (Nat.le_refl _)) (Nat.ne_of_lt (Nat.lt_succ_self _))
  have I2 := Inv.made (C := C) I
  have r2 : Vals (V.ref (s.heap.objs.size + 1) :: vs) (Value.ref (s.heap.objs.size + 1) :: us) := .cons rfl r
  have hl : (Value.ref (s.heap.objs.size + 1) :: us).length = ps.length := by
    have e := r2.length
    rw [G0.len _ _ _ _ hq] at e
    exact e.symm
  have b := hb _ (Value.ref (s.heap.objs.size + 1) :: us) I2.kIn (by rw [List.append_nil]; exact hl)
  rw [List.append_nil] at b
  refine wpAny_call (make_map (f := f) I.kIn M.makes M.init (beq_iff_eq.mp M.fn) (codeAny_mono (G0.run _ X.stack _ _ ⟨Value.ref (s.heap.objs.size + 1) :: us, []⟩ (Value.ref (s.heap.objs.size + 1) :: us) _ _ (E σ) (hr.make C us [])
    (I2.env0.make C us []) b r2 hq) fun r s' hq' => ?_))
  cases r with
  | error e => exact hx pins _ _ e s' I2 hq'
  | ok fl =>
    cases fl with
    | ret u =>
      obtain ⟨v, H', I3, rv, ev, q3⟩ := I2.after hq'
      subst ev
      exact ⟨rv, ⟨V.ref (s.heap.objs.size + 1), H', I3, rfl, q3⟩⟩
    | next => exact False.elim hq'
    | brk => exact False.elim hq'
    | cont => exact False.elim hq'
theorem pe_makeS {E : L2.St → XK} {x : Str} {p pos : Pos} {e : Expr} {es : List Expr} {t : TA} (M : Mk X.K C f) (G0 : FnOk X.prog X.w X.K X.mg X.base CX k f fd ps sp) (hr : Room (k + 1) X.A) (hg : Gl X x) (hm : X.mg x = some (.ref C)) (hb : Binds X.K fd ps []) (hx : ∀ σ, PassesAt CX X σ (E σ))
    (ha : PA X (e :: es) t) (hdb : (x == ("__debug__" : Str)) = false := by decide) (he : starEach (e :: es) X.env = (false, eval e X.env) :: starEach es X.env := by rfl) (hpl : (backTo pos (starEach es X.env)).any (·.1) = false := by rfl) :
    PE X (.Call (.Name x p) (e :: es) [] pos) (tMakeS C sp E t) := by
  refine ⟨fun pins s σ H Q I h => ?_⟩
  refine wpAny_Call_Name_kw (ld_glob I hg hm ?_ hdb)
  refine PySem.W.callWith_K (h₀ := X.base) I.ok.mod.kin M.kp (thn (ha.run pos pins s σ H _ I h) fun us s1 ⟨vs, H1, I1, r, q⟩ => ⟨I1.kIn, ?_⟩) he hpl
  exact run_makeS M G0 hr hb (hx σ) I1 r q
end
/-- isinstance(e, c) in an except suite of any error -/
theorem call_isEx {X : Cx} {a : Addr} {oe : Obj} {cls : Value} {d : Option Addr} {pn : List (Addr × Obj)} (hz : Zc cls d oe) (hf : ∃ vs, oe.data = .fields vs) :
    CallR (X.suite a ((a, oe) :: pn)) (.builtin "isinstance") (fun xs H Q => ∃ D, cls = .ref D ∧ d = none ∧ ExcC X.K D ∧ rIsE X.K D a xs H Q) := by
  intro pins s σ H xs us Q I r h
  obtain ⟨D, rfl, rfl, c, q⟩ := h
  exact call_isE c hz hf pins s σ H xs us Q I r q
/-- an own class against an own class, against a built-in one -/
theorem kit_own {K : PySem.W.Frag} {C D : Addr} {b : Bool} (hi : PySem.W.isClsIn K D = true) (ht : PySem.W.typeIn K (.ref D) = some (.type "type")) (hs : PySem.W.subIn K (.ref C) (.ref D) = some b) (hne : C ≠ D ∨ b = true) : PySem.W.kitOne K (.ref C) (.ref D) = some b := by
  unfold PySem.W.kitOne
  by_cases e : C = D
  · rcases hne with h | h
    · exact absurd e h
    · rw [if_pos (by rw [e]; simp), h]
  · rw [if_neg (by simp [e])]
    show (if ((PySem.W.clsIn K D).isSome && PySem.W.typeIn K (.ref D) == some (.type "type")) = true then _ else _) = _
    rw [if_pos (by
      rw [ht]
      have : (PySem.W.clsIn K D).isSome = true := hi
      rw [this]; simp)]
    exact hs
theorem kit_ownT {K : PySem.W.Frag} {C : Addr} {T : String} {b : Bool} (hm : PySem.W.kitMeta T = true) (hs : PySem.W.subIn K (.ref C) (.type T) = some b) : PySem.W.kitOne K (.ref C) (.type T) = some b := by
  unfold PySem.W.kitOne PySem.W.kitCls
  rw [if_neg (by simp)]
  show (if PySem.W.kitMeta T = true then _ else _) = _
  rw [if_pos hm]
  exact hs
end My
set_option maxRecDepth 100000
set_option maxHeartbeats 1000000
/-! own exceptions whose __init__ says super().__init__(text) and then stores its fields -/
namespace My
open PySem PySem.Spec PyProof.Rows L2
/-- the names of such a def: its parameters are local, nothing is a cell, __class__ alone is free -/
structure SupScope (N ps : List Str) (sc : Scope) : Prop where
  kind : sc.kind = .function
  co : sc.isCoroutine = false
  gen : sc.isGenerator = false
  nd : ps.Nodup
  eqN : N = ps
  par : ∀ x ∈ ps, sc.names.lookup x = some .local
  nocell : ∀ y ∈ sc.names, y.2 ≠ .cell
  free : ∀ y ∈ sc.names, y.2 = .free → y.1 = "__class__"
  ks : sc.names.lookup ("super" : Str) = some .globalImplicit
  kc : sc.names.lookup ("__class__" : Str) = some .free
/-- the context of its body -/
def cxSup (CX : CXT) (P : Program) (w : World) (K : PySem.W.Frag) (mg : Str → Option Value) (base : Heap) (N : List Str) (qual : Str) (scope : Scope) (f : Addr) (cd : Value) (cc : Addr) (A : Around) (outer : List Env) (s : Shared) (H : Hp) (E : XK) : Cx where
  prog := P
  w := w
  K := K
  mg := mg
  base := base
  A := A.deeper (PySem.W.ksEnv qual scope s.heap.objs.size f cd cc)
  N := N
  s_0 := s
  H_0 := H
  env := PySem.W.ksEnv qual scope s.heap.objs.size f cd cc
  outer := outer
  stack := PySem.W.ksEnv qual scope s.heap.objs.size f cd cc :: outer
  ex := []
  calm := true
  fn := fun _ => false
  pn := []
  xe := fun e s' => wpAny (model P w) (A.deeper (PySem.W.ksEnv qual scope s.heap.objs.size f cd cc)) (leaving (PySem.W.ksEnv qual scope s.heap.objs.size f cd cc) e) (fun _ s'' => CX outer H s E e s'') (fun e' s'' => CX outer H s E e' s'') s'
theorem lookup_of_mem {l : List (Str × Value)} {y : Str} {u : Value} (nd : (l.map (·.1)).Nodup) (h : (y, u) ∈ l) : l.lookup y = some u := by
  induction l with
  | nil => cases h
  | cons p r ih =>
    obtain ⟨z, v⟩ := p
    rw [List.map_cons, List.nodup_cons] at nd
    rcases List.mem_cons.mp h with e | e
    · cases e; simp [List.lookup]
    · have hne : y ≠ z := fun q => nd.1 (by rw [← q]; exact List.mem_map.mpr ⟨_, e, rfl⟩)
      have : (y == z) = false := by simpa using hne
      simp only [List.lookup, this]
      exact ih nd.2 e
theorem map_fst_zip_sub : ∀ (ps : List Str) (us : List Value), ((ps.zip us).map (·.1)).Sublist ps
  | [], _ => by simp
  | _ :: _, [] => by simp
  | p :: ps, u :: us => by simpa using map_fst_zip_sub ps us
theorem nd_rev {l : List Str} (h : l.Nodup) : l.reverse.Nodup := by
  induction l with
  | nil => simp
  | cons a t ih =>
    rw [List.nodup_cons] at h
    rw [List.reverse_cons, List.nodup_append]
    exact ⟨ih h.2, by simp, fun x hx y hy e => h.1 (by simp at hy; rw [← hy, ← e]; simpa using hx)⟩
theorem zip_lookup {ps : List Str} {us : List Value} {i : Nat} {y : Str} {u : Value} (nd : ps.Nodup) (h1 : ps[i]? = some y) (h2 : us[i]? = some u) : (ps.zip us).reverse.lookup y = some u := by
  refine lookup_of_mem ?_ ?_
  · rw [List.map_reverse]
    have : ((ps.zip us).map (·.1)).Nodup := by
      exact nd.sublist (map_fst_zip_sub ps us)
    exact nd_rev this
  · rw [List.mem_reverse]
    have : (ps.zip us)[i]? = some (y, u) := by rw [List.getElem?_zip_eq_some]; exact ⟨h1, h2⟩
    exact List.mem_of_getElem? this
section
variable {CX : CXT} {P : Program} {w : World} {K : PySem.W.Frag} {mg : Str → Option Value} {base : Heap} {N ps : List Str} {qual : Str} {scope : Scope} {f cc : Addr} {cd : Value} {A : Around} {outer : List Env} {s : Shared} {H : Hp} {E : XK}
theorem env_cells {x : Str} {c : Addr} {L : Addr} (h : (PySem.W.ksEnv qual scope L f cd cc).cells.lookup x = some c) : x = "__class__" ∧ c = cc := by
  have h' : ([(("__class__" : Str), cc)] : List (Str × Addr)).lookup x = some c := h
  by_cases e : x = "__class__"
  · subst e
    simp [List.lookup] at h'
    exact ⟨rfl, h'.symm⟩
  · have : (x == ("__class__" : Str)) = false := by simpa using e
    simp [List.lookup, this] at h'
theorem inv_sup {us : List Value} {vs : List V} {h1 : Heap} {t : Nat} {cl : Value} {cld : Option Addr} {cv : Option Value} {csl : Array (Option Value)} (S : SupScope N ps scope) (hd : A.handled = none) (e0 : Env0 P w K mg base A outer s H) (hl : vs.length = ps.length) (r : Vals vs us)
    (hcell : K.lookup cc = some ⟨cl, cld, .cell cv, csl⟩)
    (hns : h1.Ns s.heap.objs.size (fun x => (ps.zip us).reverse.lookup x)) (hk : ∀ b o, s.heap.get? b = some o → h1.get? b = some o) :
    Inv (cxSup CX P w K mg base N qual scope f cd cc A outer s H E) [] (L2.start N vs) H { s with heap := h1, toks := t } := by
  have noA : ∀ b : Addr, b ∉ (cxSup CX P w K mg base N qual scope f cd cc A outer s H E).ex := fun b z => absurd (show b ∈ ([] : List Addr) from z) (by simp)
  have hcb := e0.mod.kin _ _ hcell
  refine ⟨⟨e0.mod, S.kind, rfl, rfl, Nat.le_refl _, fun y z c h1 h2 => (env_cells h1).1.trans (env_cells h2).1.symm, fun y hy => ?_, fun y c h _ => absurd h Bool.false_ne_true, fun _ => hd, Around.frames_deeper e0.frames, .inr ⟨rfl, rfl⟩, fun b z => absurd z (noA b), e0.bs, e0.bsz, fun b _ _ => noA b, fun b z => absurd z (noA b), e0.funs, e0.frf⟩,
    rfl, e0.bare, Un.kept hk, ⟨_, hns, fun i y v h1 h2 h3 => ?_⟩, fun y c h => ?_, e0.hok.fresh (Nat.le_refl _), fun y c h => ?_, fun p hp => absurd (show p ∈ ([] : List (Addr × Obj)) from hp) (by simp), e0.hok.kept hk, ?_⟩
  · have hy : scope.names.lookup y = some .cell ∨ scope.names.lookup y = some .free := hy
    rcases hy with hy | hy
    · exact absurd rfl (S.nocell _ (PySem.mem_of_lookup hy))
    · have e := S.free _ (PySem.mem_of_lookup hy) rfl
      refine ⟨cc, ?_⟩
      show ([(("__class__" : Str), cc)] : List (Str × Addr)).lookup y = some cc
      have e' : y = "__class__" := e
      rw [e']
      simp [List.lookup]
  · have hlen : N.length = vs.length := by rw [S.eqN, hl]
    have e2 : L2.start N vs = vs.map some := by unfold L2.start; rw [hlen, Nat.sub_self]; simp
    rw [e2, List.getElem?_map] at h2
    cases ea : vs[i]? with
    | none => rw [ea] at h2; cases h2
    | some a =>
      rw [ea] at h2
      cases h2
      obtain ⟨u, hu, rv⟩ := r.get ea
      have hp : ps[i]? = some y := by rw [← S.eqN]; exact h1
      exact ⟨u, rv, .inl ⟨S.par y (List.mem_of_getElem? hp), zip_lookup S.nd hp hu⟩⟩
  · obtain ⟨rfl, rfl⟩ := env_cells h
    exact ⟨cv, _, hk _ _ (e0.bs _ _ hcb).1, rfl⟩
  · obtain ⟨rfl, rfl⟩ := env_cells h
    exact (e0.bs _ _ hcb).2
  · unfold L2.start
    show _ = N.length
    rw [List.length_append, List.length_map, List.length_replicate, S.eqN]
    omega
end
open PySem.W (ksFn ksEnv)
/-- what the written part says of such a class -/
structure SupCls (P : Program) (K : PySem.W.Frag) (mg : Str → Option Value) (C : Addr) : Prop where
  cd : ∃ cd, PySem.W.clsIn K C = some cd
  mro : PySem.W.mroIn K C (.ref C) = some true
  sup : PySem.W.ks_superIn K C C "__init__" = some (some (.builtin "ValueError.__init__"))
  opq : PySem.W.nsIn K PySem.cStatics "thirdparty.any" = some none
  ve : PySem.W.subIn K (.ref C) (.type "ValueError") = some true
  mgs : mg "super" = none
  top : (P.main.scope.names.lookup ("super" : Str)).isSome = false
  ox : OexC K C
/-- and of its __init__ -/
structure SupFn (P : Program) (K : PySem.W.Frag) (st : Stmt) (qual : Str) (C f : Addr) (fd : FuncData) : Prop where
  ex : ∃ (oc : Value) (od : Option Addr) (kV doc pm : Value) (an : Option Addr) (cda : Addr) (ct : Value) (cc : Addr) (sl : Array (Option Value)),
    fd = ksFn "__init__" qual (defArgs st) (defBody st) (defScope st) .none kV doc pm an (.ref cda) ct cc ∧ K.lookup f = some ⟨oc, od, .func fd, sl⟩ ∧ PySem.W.codeIn K (.ref cda) qual = true ∧
    (∃ (a : Value) (b : Option Addr) (vs : Array Value) (d : Array (Option Value)) (file : Str) (tf : Tok), K.lookup cda = some ⟨a, b, .fields vs, d⟩ ∧ vs[2]? = some (.str file tf) ∧ ((P.main.file : Str) == file) = true) ∧
    ∃ (a : Value) (b : Option Addr) (d : Array (Option Value)), K.lookup cc = some ⟨a, b, .cell (some (.ref C)), d⟩
section
variable {CX : CXT} {P : Program} {w : World} {K : PySem.W.Frag} {mg : Str → Option Value} {base : Heap} {N ps : List Str} {qual : Str} {scope : Scope} {f cc cda C a : Addr} {A : Around} {outer : List Env} {s0 : Shared} {H0 : Hp} {E : XK}
variable {oc : Value} {od : Option Addr} {fd : FuncData} {sl : Array (Option Value)} {vs : Array Value} {file : Str} {tf : Tok}
theorem mw_call {X : Cx} {pins : List (Addr × Obj)} {σ : L2.St} {H : Hp} {s : Shared} {u : Addr} {us : List Value} {Q : Value → Shared → Prop} {B : Around} {EE : Value → Shared → Prop} (T : OexC X.K C) (I : Inv X ((u, PySem.W.kxs_mw "ValueError.__init__" a) :: pins) σ H s)
    (ea : H a = some (exo a C none)) (hz : us.length ≤ sizeLine) (q : ∀ s', Inv X ((u, PySem.W.kxs_mw "ValueError.__init__" a) :: pins) σ H s' → Q .none s') :
    wpAny (model X.prog X.w) B (call (.ref u) us) Q EE s := by
  obtain ⟨nm, q0, N0, bs, bm, sn, sub, ab, col, dd, k0, k1, k2, k3, k5, hC, hbm⟩ := T.cls
  obtain ⟨t1, ho⟩ := exo_at I.hok ea
  have hu := ClX.pin_at I
  have KX := I.kIn
  have eu : upd H a (exo a C none) = H := by
    funext b
    by_cases hb : b = a
    · rw [hb, upd_same, ea]
    · rw [upd_ne hb]
  have T1 : (Value.type "method-wrapper" == Value.type "method" || Value.type "method-wrapper" == Value.type "builtin_function_or_method" || Value.type "method-wrapper" == Value.type "method-wrapper") = true := by decide
  obtain ⟨hp, g, d, t, os⟩ := s
  refine wpAny_call (codeAny_of_tree ?_)
  show wpAny _ _ (callAny (.ref u) ⟨us, []⟩) _ _ _
  unfold callAny
  refine wpAny_bind (wpAny_load hu ?_)
  simp only [PySem.W.kxs_mw, T1, if_true]
  refine PySem.W.KFB.if_so (by decide) ?_
  refine wpAny_bind (PySem.W.check_bound_init F.excBase_ValueError.toExcCallFacts (KX _ _ hC) ho rfl ?_)
  refine wpAny_bind (wpAny_pure (wpAny_pure ⟨PySem.plainId_quiet F.excBase_ValueError.init.plain _, codeAny_builtin F.excBase_ValueError.initEntry ?_⟩))
  refine PySem.W.exc_init_tree (cls := .ref C) (t0 := t1) (dv := none) (c2 := .none) (c3 := .none) (b4 := .bool false) ho hz fun h' k e1 _ => ?_
  have J := I.write (t' := t) (x := a) (e := a) (o := exo a C none) (by rw [ea]; exact True.intro) (.inl rfl) k ⟨_, e1⟩ (exo_ok e1)
  rw [eu] at J
  exact q _ J

/-- super().__init__(e, ..) at the head of the body -/
theorem sup_run {an : Option Addr} {kV doc pm ct : Value} {body : List Stmt} {args : Arguments} {σ : L2.St} {H : Hp} {s : Shared} {ta : TA} {e : Expr} {es : List Expr} {p0 p1 p2 p3 p4 : Pos} {ar : Arg} {Q : Flow → Shared → Prop}
    (S : SupScope N ps scope) (D : SupCls P K mg C)
    (lk : K.lookup f = some ⟨oc, od, .func (ksFn "__init__" qual args body scope .none kV doc pm an (.ref cda) ct cc), sl⟩) (har : (args.posonlyargs ++ args.args).head? = some ar)
    (lc : ∃ (a : Value) (b : Option Addr) (vs : Array Value) (d : Array (Option Value)) (file : Str) (tf : Tok), K.lookup cda = some ⟨a, b, .fields vs, d⟩ ∧ vs[2]? = some (.str file tf) ∧ ((P.main.file : Str) == file) = true)
    (lq : ∃ (a : Value) (b : Option Addr) (d : Array (Option Value)), K.lookup cc = some ⟨a, b, .cell (some (.ref C)), d⟩)
    (I : Inv (cxSup CX P w K mg base N qual scope f (.ref cda) cc A outer s0 H0 E) [] σ H s) (h0 : σ[0]? = some (some (.ref a))) (hN : N[0]? = some ar.arg) (hloc : scope.names.lookup ar.arg = some .local)
    (ea : H a = some (exo a C none)) (hes : PA (cxSup CX P w K mg base N qual scope f (.ref cda) cc A outer s0 H0 E) (e :: es) ta)
    {R : Hp → Prop} (q : ta σ H fun us H1 => us.length ≤ 1000 ∧ H1 a = some (exo a C none) ∧ R H1)
    (cont : ∀ H1 s', R H1 → Inv (cxSup CX P w K mg base N qual scope f (.ref cda) cc A outer s0 H0 E) [] σ H1 s' → Q .next s')
    (he : starEach (e :: es) (ksEnv qual scope s0.heap.objs.size f (.ref cda) cc) = (false, eval e (ksEnv qual scope s0.heap.objs.size f (.ref cda) cc)) :: starEach es (ksEnv qual scope s0.heap.objs.size f (.ref cda) cc))
    (hpl : (backTo p3 (starEach es (ksEnv qual scope s0.heap.objs.size f (.ref cda) cc))).any (·.1) = false) 
    (hsw : swapsWith (.Call (.Attribute (.Call (.Name "super" p0) [] [] p1) "__init__" p2) (e :: es) [] p3) none p4.line (ksEnv qual scope s0.heap.objs.size f (.ref cda) cc) = pure false)
    {pl : Sem Bool} (hcall : eval (.Call (.Attribute (.Call (.Name "super" p0) [] [] p1) "__init__" p2) (e :: es) [] p3) (ksEnv qual scope s0.heap.objs.size f (.ref cda) cc) = (do
      let ov ← attributeBase (.Call (.Name "super" p0) [] [] p1) "__init__" (ksEnv qual scope s0.heap.objs.size f (.ref cda) cc) (eval (.Call (.Name "super" p0) [] [] p1) (ksEnv qual scope s0.heap.objs.size f (.ref cda) cc))
      standAt p2.atName
      let (fx, first) ← holding [ov] (getMethod ov "__init__" pl)
      callWith p3 fx first (backTo p3 (starEach (e :: es) (ksEnv qual scope s0.heap.objs.size f (.ref cda) cc))) []))
    (B : List Stmt) :
    PySem.wpAt (model P w) (A.deeper (ksEnv qual scope s0.heap.objs.size f (.ref cda) cc)) (.func B (ksEnv qual scope s0.heap.objs.size f (.ref cda) cc))
      (exec (.Expr (.Call (.Attribute (.Call (.Name "super" p0) [] [] p1) "__init__" p2) (e :: es) [] p3) p4) (ksEnv qual scope s0.heap.objs.size f (.ref cda) cc)) Q (cxSup CX P w K mg base N qual scope f (.ref cda) cc A outer s0 H0 E).xe s := by
  have KX : K.In s.heap := I.kIn
  obtain ⟨t1, hoe⟩ := exo_at I.hok ea
  obtain ⟨m, hn, hl⟩ := I.loc
  obtain ⟨u, ru, look⟩ := hl 0 ar.arg (.ref a) hN h0 (Or.inl hloc)
  obtain rfl : u = Value.ref a := ru
  have hm : m ar.arg = some (.ref a) := by
    rcases look with z | ⟨z, _⟩
    · exact z.2
    · have z : scope.names.lookup ar.arg = some .cell ∨ scope.names.lookup ar.arg = some .free := z
      rw [hloc] at z
      rcases z with z | z <;> cases z
  obtain ⟨c1, c2, vs, c3, file, tf, hcode, hvs, hfile⟩ := lc
  obtain ⟨c4, c5, c6, hcell⟩ := lq
  obtain ⟨cd, hcd⟩ := D.cd
  obtain ⟨mb, hb1, hb2⟩ := I.mod.blt
  obtain ⟨oD, hD1, hD2⟩ : ∃ oD, s.heap.get? C = some oD ∧ oD.data = .cls cd := by
    unfold PySem.W.clsIn at hcd
    split at hcd
    · rename_i ho
      cases hcd
      exact ⟨_, KX _ _ ho, rfl⟩
    · cases hcd
  obtain ⟨hh, g, d, t, os⟩ := s
  refine ks_wpAt_Expr_any ?_ I.quiet hsw
  refine ks_wpAt_MethodCall (he := hcall) ?_
  refine ks_wpAt_super_base (ar := ar) S.ks S.kc rfl rfl (KX _ _ lk) rfl har rfl (KX _ _ hcode) rfl hvs hfile D.top ?_
  refine PySem.W.ks_loadName_global S.kind S.ks (Calls.loadGlobal_builtin (I.mod.glob.keeps I.bk) D.mgs (hb1.keeps I.bk) ((hb2 _ (by decide)).trans PyProof.Rows.Boot.«super») ⟨rfl, ?_⟩)
  refine wpAny_loadName_free S.kind S.kc rfl ⟨_, KX _ _ hcell, rfl⟩ ?_
  refine wpAny_loadName_local S.kind hloc hn hm ?_
  refine ks_wpAny_isType_cls hD1 hD2 ⟨rfl, ?_⟩
  refine ks_wpAny_call_super hD1 hD2 hoe rfl (fun c z => by cases z) (PySem.W.looks_mroIn KX D.mro) (fun h' e1 k => ?_)
  have I1 := ClX.pin_new (t' := t) I k (Nat.le_refl _) e1 (fun v z => by cases z)
  have KX1 : K.In h' := I1.kIn
  have hca : a ≠ C := fun z => by
    subst z
    rw [hoe] at hD1
    cases hD1
    cases hD2
  have hsI : PySem.W.Looks (model P w) h' (isInstance (.ref a) (.type "ValueError")) true := by
    have II : PySem.W.InstAt h' a _ C none := ⟨k _ _ hoe, rfl, rfl, trivial⟩
    exact II.type.andThen (PySem.W.looks_subIn KX1 D.ve)
  have hsup := D.sup
  unfold PySem.W.ks_superIn at hsup
  rw [hcd] at hsup
  refine PySem.W.kxs_getMethod PySem.W.kxs_ValueError e1 (PySem.W.looks_opaque KX1 D.opq) (l₀ := cd.mro) (fun A Q E s k q => wpAny_bind ((PySem.W.looks_clsIn KX1 hcd) A _ E s k (wpAny_pure q))) rfl KX1 hsup hsI hca rfl ?_
  have I2 := ClX.pin_new (t' := t + 1) I1 (h' := h'.push (PySem.W.kxs_mw "ValueError.__init__" a)) (o := PySem.W.kxs_mw "ValueError.__init__" a) (fun b o z => Heap.get?_push_of_some _ z) (Nat.le_refl _) (Heap.get?_push_at rfl rfl) (fun v z => by cases z)
  dsimp only
  rw [he]
  refine PySem.W.kxs_callWith (i := "ValueError.__init__") (x := a) (by show (false || (backTo p3 (starEach es _)).any (·.1)) = false; rw [hpl]; rfl) (Calls.evalArgs_plain ?_)
  have run := hes.run p3 _ _ σ H _ I2 q
  rw [show starEach (e :: es) (cxSup CX P w K mg base N qual scope f (.ref cda) cc A outer s0 H0 E).env = _ from he] at run
  refine thn run fun us s1 ⟨xs, H1, I3, r1, hz, ea1, q1⟩ => ⟨ClX.pin_at I3, ?_⟩
  have hlen : us.length ≤ sizeLine := by
    rw [← Paired.length r1, sizeLine_eq]
    omega
  exact mw_call D.ox I3 ea1 hlen fun s' J => cont _ s' q1 (ClX.unpin (ClX.unpin J))

/-- such an __init__, by what it says behind super() -/
theorem sup_ok {st : Stmt} {fd : FuncData} {k : Nat} {sp : Sp} {body : List Stmt} {e : Expr} {p0 p1 p2 p3 p4 : Pos} {ar : Arg} {pl : Sem Bool} (F : SupFn P K st qual C f fd) (S : SupScope N ps (defScope st)) (D : SupCls P K mg C)
    (hb : defBody st = .Expr (.Call (.Attribute (.Call (.Name "super" p0) [] [] p1) "__init__" p2) [e] [] p3) p4 :: body) (har : ((defArgs st).posonlyargs ++ (defArgs st).args).head? = some ar) (hN : N[0]? = some ar.arg)
    (he : ∀ env : Env, starEach [e] env = [(false, eval e env)])
    (hsw : ∀ env : Env, swapsWith (.Call (.Attribute (.Call (.Name "super" p0) [] [] p1) "__init__" p2) [e] [] p3) none p4.line env = pure false)
    (hcall : ∀ env : Env, eval (.Call (.Attribute (.Call (.Name "super" p0) [] [] p1) "__init__" p2) [e] [] p3) env = (do
      let ov ← attributeBase (.Call (.Name "super" p0) [] [] p1) "__init__" env (eval (.Call (.Name "super" p0) [] [] p1) env)
      standAt p2.atName
      let (fx, first) ← holding [ov] (getMethod ov "__init__" pl)
      callWith p3 fx first (backTo p3 (starEach [e] env)) []))
    (len : ∀ vs H Q E, sp vs H Q E → vs.length = ps.length)
    (hbody : ∀ (cda : Value) (cc : Addr) (A : Around) (outer : List Env) (s : Shared) (H : Hp) (vs : List V) (Q : VK) (E : XK), Room k (A.deeper (ksEnv qual (defScope st) s.heap.objs.size f cda cc)) → sp vs H Q E →
      ∃ (a : Addr) (te : TE) (t : TS), vs[0]? = some (.ref a) ∧ H a = some (exo a C none) ∧ PE (cxSup CX P w K mg base N qual (defScope st) f cda cc A outer s H E) e te ∧ PSs (cxSup CX P w K mg base N qual (defScope st) f cda cc A outer s H E) body t ∧
        te (L2.start N vs) H fun x H1 => [x].length ≤ 1000 ∧ H1 a = some (exo a C none) ∧ t { nx := fun _ H' => Q .non H', rt := Q } (L2.start N vs) H1) : FnOk P w K mg base CX (k + 1) f fd ps sp := by
  obtain ⟨oc, od, kV, doc, pm, an, cda, ct, cc, sl, rfl, lk, hcd, lc, lq⟩ := F.ex
  refine ⟨len, fun A outer s H args us vs Q E hr e0 hbi r hsp => ?_⟩
  have hl := len _ _ _ _ hsp
  have KX : K.In s.heap := e0.mod.kin.keeps fun b o e => (e0.bs b o e).1
  have lim : s.heap.NoLimit := e0.mod.nolimit.keeps fun b o e => (e0.bs b o e).1
  obtain ⟨c4, c5, c6, hcell⟩ := lq
  refine ks_codeAny_call_defAt (body := defBody st) hr.depth (KX _ _ lk) rfl lim (PySem.W.codeRec_of KX hcd) rfl hbi S.nocell (fun ⟨n, v⟩ hy => S.par n (List.of_mem_zip hy).1) (fun h1 hns hk => ?_) S.co S.gen S.kind
  obtain ⟨a, te, t, hv, ea, pe, pss, q⟩ := hbody (.ref cda) cc A outer s H vs Q E (hr.deeper _) hsp
  have I : Inv (cxSup CX P w K mg base N qual (defScope st) f (.ref cda) cc A outer s H E) [] (L2.start N vs) H _ := inv_sup (t := s.toks + (ps.zip us).length) S hr.hd e0 hl r hcell hns hk
  have fin : ∀ {σ' : L2.St} {H' : Hp} {v : V} {u : Value} {s' : Shared}, Inv (cxSup CX P w K mg base N qual (defScope st) f (.ref cda) cc A outer s H E) [] σ' H' s' → RelV v u → Q v H' → CE outer P w H s Q u s' :=
    fun {σ' H' v u s'} J rv q => ⟨v, H', J.os, J.bare, J.base, J.hok, rv, q⟩
  have h0 : (L2.start N vs)[0]? = some (some (V.ref a)) := by
    unfold L2.start
    rw [List.getElem?_append_left (by rw [List.length_map]; exact (List.getElem?_eq_some_iff.mp hv).1), List.getElem?_map, hv]
    rfl
  have hloc : (defScope st).names.lookup ar.arg = some .local := S.par _ (by rw [← S.eqN]; exact List.mem_of_getElem? hN)
  show PySem.wpAt _ _ _ (execs (defBody st) _) _ _ _
  rw [hb]
  refine ks_wpAt_execs_cons ?_
  refine sup_run S D lk har lc ⟨c4, c5, c6, hcell⟩ I h0 hN hloc ea (pa_cons pe pa_nil (he _)) q (fun H1 s1 q1 J => ?_) (he _) rfl (hsw _) (hcall _) _
  refine wpAt_of_wpAny (wpAny_mono (pss.run [] s1 (L2.start N vs) H1 _ J q1) (fun fl s' hs => ?_) fun e s' hs => hs)
  cases fl with
  | ret u =>
    obtain ⟨v, σ', H', J, rv, q⟩ := hs
    exact fin J rv q
  | next =>
    obtain ⟨σ', H', J, q⟩ := hs
    exact fin (v := V.non) (u := Value.none) J rfl q
  | brk =>
    obtain ⟨_, _, _, q⟩ := hs
    exact False.elim q
  | cont =>
    obtain ⟨_, _, _, q⟩ := hs
    exact False.elim q
end
end My
set_option maxRecDepth 100000
set_option maxHeartbeats 1000000
namespace My
open PySem PySem.Spec PyProof.Rows L2
/-! ### max(x, default=d) of a list of whole numbers -/
theorem ints_reads {h : Heap} : ∀ {ns : List Int} {us : List Value}, Vals (ns.map V.int) us → ReadsAll h us (ns.map PyData.int) []
  | [], _, .nil => .nil
  | n :: ns, _, .cons r t => by
    obtain ⟨tk, rfl⟩ := r
    exact ReadsAll.cons (as := []) (bs := []) (.int n tk) (ints_reads t)
theorem alike_ints (ns : List Int) : PySem.W.AlikeAll (ns.map PyData.int) := by
  refine ⟨fun x hx y hy => ?_, fun x hx => ?_⟩
  · obtain ⟨i, _, rfl⟩ := List.mem_map.mp hx
    obtain ⟨j, _, rfl⟩ := List.mem_map.mp hy
    rfl
  · obtain ⟨i, _, rfl⟩ := List.mem_map.mp hx
    exact fun z => nomatch z
theorem depth_ints : ∀ ns : List Int, PyData.depthAll (ns.map PyData.int) ≤ 1
  | [] => by simp [PyData.depthAll]
  | n :: ns => by
    have := depth_ints ns
    simp only [List.map_cons, PyData.depthAll, PyData.depth]
    omega
theorem foldl_max (ns : List Int) : ∀ n : Int, (ns.foldl max n ∈ n :: ns) ∧ ∀ y ∈ n :: ns, y ≤ ns.foldl max n := by
  induction ns with
  | nil => intro n; simp
  | cons k r ih =>
    intro n
    obtain ⟨h1, h2⟩ := ih (max n k)
    rw [List.foldl_cons]
    refine ⟨?_, fun y hy => ?_⟩
    · rcases List.mem_cons.mp h1 with e | e
      · rw [e]
        rcases Int.le_total n k with z | z
        · rw [Int.max_eq_right z]; simp
        · rw [Int.max_eq_left z]; simp
      · exact List.mem_cons_of_mem _ (List.mem_cons_of_mem _ e)
    · have hm := h2 (max n k) List.mem_cons_self
      rcases List.mem_cons.mp hy with e | e
      · rw [e]; omega
      · rcases List.mem_cons.mp e with e | e
        · rw [e]; omega
        · exact h2 y (List.mem_cons_of_mem _ e)
section
variable {X : Cx}
def rMaxDf (K : PySem.W.Frag) : List V → List V → Hp → VK → Prop := fun xs zs H Q => ∃ (a : Addr) (ns : List Int) (d : Int), xs = [.ref a] ∧ zs = [.int d] ∧ SqL K H a (ns.map V.int) ∧
  (ns = [] → Q (.int d) H) ∧ ∀ m, m ∈ ns → (∀ y ∈ ns, y ≤ m) → Q (.int m) H
theorem call_maxDf (hc : X.calm = true) (hu : X.A.units + 10 < cLine) : CallRK X (.builtin "max") ["default"] (rMaxDf X.K) := by
  intro pins s σ H xs zs us ws Q I r rz h
  obtain ⟨a, ns, d, rfl, rfl, hq, h0, h1⟩ := h
  obtain rfl := Vals.ref1 r
  obtain ⟨w, rfl, rw'⟩ := rz.one
  obtain ⟨its, rv, pl, hz⟩ := I.list hq
  have hd := depth_ints ns
  refine PySem.W.max_list_default (I.ok.hd hc) pl.isList (xs := ns.map PyData.int) (as := []) (by rw [List.toList_toArray]; exact ints_reads rv) (alike_ints ns) (by show X.A.units + 1 + _ < _; omega) (fun e h' tk k => ?_) fun y ys i v h' tk bs e hv rd k => ?_
  · exact ⟨.int d, H, I.kept (t' := tk) k, rw', h0 (List.map_eq_nil_iff.mp e)⟩
  · cases ns with
    | nil => cases e
    | cons n ns =>
      rw [List.map_cons] at e
      obtain ⟨rfl, rfl⟩ := List.cons.inj e
      rw [PySem.W.maxD_ints] at rd
      obtain ⟨t0, rfl, _⟩ := reads_int_inv rd
      obtain ⟨m1, m2⟩ := foldl_max ns n
      exact ⟨.int (ns.foldl max n), H, I.kept (t' := tk) k, ⟨_, rfl⟩, h1 _ m1 m2⟩
/-! ### isinstance(e, c) of a caught error with fields -/
theorem call_isExD {a : Addr} {oe : Obj} {cls : Value} {d : Option Addr} {pn : List (Addr × Obj)} (hz : Zc cls d oe) (hf : ∃ vs, oe.data = .fields vs) :
    CallR (X.suite a ((a, oe) :: pn)) (.builtin "isinstance") (fun xs H Q => ∃ D dd fs, cls = .ref D ∧ d = some dd ∧ H dd = some (.xd fs) ∧ ExcC X.K D ∧ rIsE X.K D a xs H Q) := by
  intro pins s σ H xs us Q I r h
  obtain ⟨D, dd, fs, rfl, rfl, hd, C, c, cv, b, rfl, hcv, e, q⟩ := h
  cases r with
  | cons rx rr =>
    cases rr with
    | cons rt rr =>
      cases rr
      cases rx
      have ec := hcv _ rt
      subst ec
      obtain ⟨hget, _⟩ := I.pin (a, oe) (List.mem_append.mpr (.inl List.mem_cons_self))
      obtain ⟨vs, hv⟩ := hf
      have hx : ObjOk X.prog X.w H s.heap dd (.xd fs) := I.hok dd _ hd
      obtain ⟨mA, ⟨od, es, ep, ho, _⟩, _⟩ := hx
      have J : PySem.W.InstAt s.heap a oe D (some od) := ⟨hget, hz.1, by unfold PySem.W.notCls; rw [hv] <;> rfl, by rw [hz.2]; exact ho⟩
      obtain ⟨cdD, hcD, _⟩ := PySem.W.any_some C.hd
      refine PySem.W.kia_one (PySem.W.kitx_exc (od := some od) (by rw [hcD]; rfl) C.hg C.hk C.hs C.ha C.hn C.ht C.hm) I.kIn J e (fun z => nomatch z) fun tk => ⟨.bl b, H, I.kept (t' := tk) fun _ _ z => z, rfl, q⟩
end
/-! ### what such a class has, by a check -/
theorem tail_refs : ∀ {l : List Value}, PySem.W.excTail [.type "ValueError", .type "Exception", .type "BaseException", .type "object"] l = true → PySem.HandSPX.refsVE l = true := by
  intro l
  induction l with
  | nil => intro h; revert h; decide
  | cons a t ih =>
    intro h
    cases a <;> first | exact ih h | exact h
theorem oex_of {K : PySem.W.Frag} {C : Addr} (q : PySem.W.excInitIn K C [.type "ValueError", .type "Exception", .type "BaseException", .type "object"] "ValueError.__new__" = true) (hd : PySem.W.hasDictIn K C = true)
    (sa : PySem.W.findIn K (.ref C) "__setattr__" = some (some (.builtin "object.__setattr__"))) (bp : PySem.W.subIn K (.ref C) (.type "BaseException") = some true) (tp : PySem.W.typeIn K (.ref C) = some (.type "type")) (kp : PySem.W.keepIn K (.ref C) = true) : OexC K C := by
  refine ⟨?_, sa, bp, tp, kp⟩
  unfold PySem.W.excInitIn at q
  split at q
  · rename_i dd cd sl ho
    split at q
    · rename_i C' bm k0 k1 k2 k3 n k5 hm hs
      simp only [Bool.and_eq_true, beq_iff_eq, Bool.not_eq_true'] at q
      obtain ⟨⟨⟨e1, e2⟩, hdel⟩, ht⟩ := q
      subst e1
      subst e2
      obtain ⟨cd1, hc1, hd1⟩ := PySem.W.any_some hd
      have ec : PySem.W.clsIn K C' = some cd := by unfold PySem.W.clsIn; rw [ho]
      rw [ec] at hc1
      cases hc1
      obtain ⟨nm, bs, mro, ns, qn, hdc, sn, sub, ab, col, del⟩ := cd
      dsimp only at hm hdel hd1
      subst hm
      subst hdel
      subst hd1
      have hsl : sl = #[k0, k1, k2, k3, some (.builtin "ValueError.__new__"), k5] := by
        obtain ⟨l⟩ := sl
        simp only at hs
        rw [hs]
      subst hsl
      exact ⟨nm, qn, ns, bs, bm, sn, sub, ab, col, dd, k0, k1, k2, k3, k5, ho, tail_refs ht⟩
    · cases q
  · cases q
/-! ### the promises of such an __init__ -/
/-- one field -/
def spX1 (C : Addr) (f : Str) (P : V → Prop) : Sp := fun vs H Q _ => ∃ (a : Addr) (y : V), vs = [.ref a, y] ∧ P y ∧ H a = some (exo a C none) ∧ ∀ d, H d = none → d ≠ a → Q .non (upd (upd H d (exd d [(f, y)])) a (exo a C (some d)))
def smallI (y : V) : Prop := ∃ i : Int, y = .int i ∧ i.natAbs < 1000000
theorem small_log {i : Int} (h : i.natAbs < 1000000) : i.natAbs.log2 < 1920 := by
  rcases Nat.eq_zero_or_pos i.natAbs with e | e
  · rw [e]; decide
  · exact Nat.lt_of_lt_of_le ((Nat.log2_lt (by omega)).mpr (Nat.lt_of_lt_of_le h (by decide : 1000000 ≤ 2 ^ 20))) (by decide)
end My
set_option maxRecDepth 100000
set_option maxHeartbeats 1000000
namespace My
open PySem PySem.Spec PyProof.Rows L2
/-! ### iter(t) of a tuple; list(o), o's class with its own __iter__ (a tuple's iterator) and its own __len__ -/
/-- a tuple's iterator at it, over the tuple at l, the next place i -/
def TitO (l it : Addr) (i : Nat) : HO := .ext fun h => h.IsTupleIter it l i
/-- at it stands something -/
def AnyO (it : Addr) : HO := .ext fun h => ∃ o, h.get? it = some o
theorem titO_ok {P : Program} {w : World} {H : Hp} {h : Heap} {l it : Addr} {i : Nat} (e : h.IsTupleIter it l i) : ObjOk P w H h it (TitO l it i) :=
  ⟨e, ⟨_, e.choose_spec.1⟩, fun h1 h2 q k => let ⟨o, ho, r⟩ := q; ⟨o, k _ ho, r⟩⟩
theorem anyO_ok {P : Program} {w : World} {H : Hp} {h : Heap} {it : Addr} (e : ∃ o, h.get? it = some o) : ObjOk P w H h it (AnyO it) := ⟨e, e, fun h1 h2 q k => let ⟨o, ho⟩ := q; ⟨o, k _ ho⟩⟩
section
variable {X : Cx} {pins : List (Addr × Obj)} {σ : L2.St} {H : Hp} {s : Shared} {l it S : Addr} {i : Nat}
theorem titO_get (I : Inv X pins σ H s) (e : H it = some (TitO l it i)) : s.heap.IsTupleIter it l i := (I.hok it _ e).1
theorem call_iterT : CallR X (.builtin "iter") (fun xs H Q => ∃ (l : Addr) (zs : List V), xs = [.ref l] ∧ SqT X.K H l zs ∧ ∀ it, H it = none → Q (.ref it) (upd H it (TitO l it 0))) := by
  intro pins s σ H xs us Q I r h
  obtain ⟨l, zs, rfl, hq, q⟩ := h
  obtain rfl := Vals.ref1 r
  obtain ⟨its, rv, pl, hz⟩ := I.tuple hq
  refine Calls.call_function_entry (by decide +kernel) (by decide +kernel) PySem.W.kdk_entry_iter (PySem.W.kdk_args_iter _) ?_
  unfold Builtin.«iter»
  refine wpAny_bind (m := someArgs "iter" 1 2 _) (wpAny_of_eq (a := [Value.ref l]) (by first | rfl | kernel_rfl!) ?_)
  show wpAny _ _ (pyIter (.ref l) >>= _) _ _ _
  refine wpAny_bind (wpAny_pyIter_tuple (show s.heap.IsTuple l its.toArray from pl) (wpAny_pure ⟨_, rfl, ?_⟩))
  exact ⟨.ref s.heap.objs.size, _, I.laid (t' := s.toks) (fun b u e => Heap.get?_push_of_some _ e) (Nat.le_refl _) (titO_ok ⟨_, Heap.get?_push_size _ rfl, rfl, rfl⟩), rfl, q _ (I.hok.fresh (Nat.le_refl _))⟩
/-- the end of a tuple's iterator; its record stays -/
theorem tup_end {prog : Program} {w : World} {A : Around} {E : Value → Shared → Prop} {items : Array Value} {Q : Option Value → Shared → Prop} (hh : A.handled = none) (hit : s.heap.IsTupleIter it l i) (ht : s.heap.IsTuple l items) (hx : items[i]? = none)
    (hQ : ∀ h', (∀ b o, b ≠ it → s.heap.get? b = some o → h'.get? b = some o) → (∃ o, h'.get? it = some o) → Q none { s with heap := h' }) : wpAny (model prog w) A (pyNext (.ref it)) Q E s := by
  obtain ⟨o, ho, hc, hd⟩ := id hit
  obtain ⟨ol, hol, _, nl, hdl⟩ := ht
  have hup := Heap.get?_update_self (Obj.mapFields (·.setIfInBounds 0 Value.none)) ho (Obj.isFreed_of_fields (Obj.data_mapFields hd _))
  unfold pyNext
  refine wpAny_bind (wpAny_attempt (wpAny_callSpecial?_slot (name := Str.ofString "__next__") hit.typeIs PySem.F.slot_tuple_iterator_next (wpAny_call_entry PySem.F.slot_tuple_iterator_next hit.typeIs PySem.F.entry_tuple_iterator_next ?_ (PySem.F.args_tuple_iterator_next_1 _))))
  show wpAny _ _ (field (.ref it) 0 >>= _) _ _ s; refine wpAny_bind (wpAny_field ho hd (x := .ref l) rfl ?_); show wpAny _ _ (if (Value.ref l == Value.none) = true then _ else _) _ _ s
  rw [if_neg (fun z => by revert z; exact Bool.false_ne_true : ¬ ((Value.ref l == Value.none) = true))]; show wpAny _ _ (field (.ref it) 1 >>= _) _ _ s
  refine wpAny_bind (wpAny_field ho hd (x := .int i 0) rfl ?_); show wpAny _ _ (seqItems? (.ref l) >>= _) _ _ s
  refine wpAny_bind (wpAny_seqItems hol hdl ?_)
  simp only [Int.toNat_natCast, hx]
  refine wpAny_bind (wpAny_rule (wpAny_bind (wpAny_setField ho hd (by simp) ?_))); show wpAny _ _ (newExc (.type "StopIteration") [] >>= _) _ _ _
  refine wpAny_bind ?_
  simp only [newExc, newTuple]
  refine wpAny_bind (wpAny_newObj_type ?_ (by size_fits)); refine wpAny_bind (m := firstArgMember _ _) (wpAny_of_eq (a := Value.none) (by first | rfl | (simp only [firstArgMember]; rfl)) ?_)
  refine wpAny_newObj_type ?_ (by size_fits)
  simp only [raiseNew]
  refine wpAny_bind (wpAny_handled ?_)
  first | rw [show A.in1.handled = none from hh] | rw [hh]
  refine wpAny_bind (wpAny_pure (wpAny_throw ?_))
  refine wpAny_bind (wpAny_isInstance (T := "StopIteration") (b := true) ⟨_, Heap.get?_push_size _ rfl, rfl⟩ isSubtype_stop (wpAny_pure (hQ _ (fun b ob hb e => ?_) ⟨_, Heap.get?_push_of_some _ (Heap.get?_push_of_some _ hup)⟩)))
  exact Heap.get?_push_of_some _ (Heap.get?_push_of_some _ ((Heap.get?_update_other _ _ (Ne.symm hb)).trans e))
/-- list.extend over it -/
theorem tit_loop {A1 : Around} {ys : List V} {Rs : Result → Shared → Prop} (hh : A1.handled = none) :
    ∀ (k i : Nat) (H : Hp) (s : Shared), ys.length - i = k → i ≤ ys.length → Inv X pins σ H s → H it = some (TitO l it i) → H l = some (.tup ys) → H S = some (.lst (ys.take i)) → ys.length < sizeLine →
      (∀ H2 s2, Inv X pins σ H2 s2 → (∀ b, b ≠ it → b ≠ S → H2 b = H b) → H2 S = some (.lst ys) → Rs (.ok (.ret .none)) s2) → codeAny (model X.prog X.w) A1 (.builtin "list.extend.loop" ⟨[.ref S, .ref it, .none], []⟩) Rs s := by
  intro k
  induction k with
  | zero =>
    intro i H s hk hi I h1 h2 h3 hz hR
    have hne : S ≠ it := ne_of h3 h1 (fun z => nomatch z)
    obtain ⟨its, rv, pl, _⟩ := I.tuple (SqT.of h2)
    refine codeAny_builtin PySem.F.entry_extend_loop ?_
    rw [Around.under_plainId PySem.F.plain_extend_loop _]
    show wpAny _ A1.in1 (pyNext (.ref it) >>= _) _ _ s
    have hno : (its.toArray)[i]? = none := by
      have := rv.length
      rw [List.getElem?_toArray, List.getElem?_eq_none_iff]
      omega
    refine wpAny_bind (tup_end hh (titO_get I h1) (show s.heap.IsTuple l its.toArray from pl) hno fun h' k' e' => wpAny_pure ?_)
    have J := I.write (t' := s.toks) (x := it) (e := it) (o := AnyO it) (by rw [h1]; exact True.intro) (.inl rfl) k' e' (anyO_ok e')
    refine hR _ _ J (fun b hb _ => upd_ne hb) ?_
    rw [upd_ne hne, h3, List.take_of_length_le (by omega)]
  | succ k ih =>
    intro i H s hk hi I h1 h2 h3 hz hR
    have hne : S ≠ it := ne_of h3 h1 (fun z => nomatch z)
    have hln : l ≠ it := ne_of h2 h1 (fun z => nomatch z)
    have hlS : l ≠ S := ne_of h2 h3 (fun z => nomatch z)
    obtain ⟨its, rv, pl, _⟩ := I.tuple (SqT.of h2)
    have hlen := rv.length
    have hlt : i < ys.length := by omega
    obtain ⟨u, hu, ru⟩ := rv.get (i := i) (x := ys[i]) (by simp [hlt])
    refine codeAny_builtin PySem.F.entry_extend_loop ?_
    rw [Around.under_plainId PySem.F.plain_extend_loop _]
    show wpAny _ A1.in1 (pyNext (.ref it) >>= _) _ _ s
    refine wpAny_bind (wpAny_pyNext_tuple_item (titO_get I h1) (show s.heap.IsTuple l its.toArray from pl) (x := u) (by rw [List.getElem?_toArray]; exact hu) fun h' hit hs => ?_)
    have J := I.write (t' := s.toks) (x := it) (e := it) (o := TitO l it (i + 1)) (by rw [h1]; exact True.intro) (.inl rfl) (fun b o hb e => hs.extBut b o hb e) ⟨_, hit.choose_spec.1⟩ (titO_ok hit)
    have h3' : upd H it (TitO l it (i + 1)) S = some (.lst (ys.take i)) := by rw [upd_ne hne]; exact h3
    show wpAny _ A1.in1 (updateSeq S (·.push u) >>= _) _ _ _
    obtain ⟨z, its3, n3, r3, hl3, e3⟩ := J.lstM h3'
    have hl4 : its3.length = i := by rw [← hl3, List.length_take]; omega
    refine wpAny_bind (wpAny_updateSeq e3 rfl (wpAny_pure ⟨plainId_quiet PySem.F.plain_extend_loop _, ?_⟩) (by rw [List.size_toArray]; omega) (by show (its3.toArray.push u).size ≤ sizeLine + 1; rw [Array.size_push, List.size_toArray]; omega))
    have et : ys.take (i + 1) = ys.take i ++ [ys[i]] := by rw [List.take_succ]; simp [hlt]
    have J2 := J.lset (f := (·.push u)) (its' := its3 ++ [u]) (t' := s.toks) (ys := ys.take (i + 1)) h3' e3 (by simp) (by rw [et]; exact r3.append (.cons ru .nil)) (by rw [List.length_take]; omega)
    refine ih (i + 1) _ _ (by omega) hlt J2 ?_ ?_ upd_same hz fun H2 s2 I2 k2 e2 => hR H2 s2 I2 (fun b hb hc => ?_) e2
    · rw [upd_ne (Ne.symm hne), upd_same]
    · rw [upd_ne hlS, upd_ne hln]; exact h2
    · rw [k2 b hb hc, upd_ne hc, upd_ne hb]
/-- what such a class must have -/
structure ItL (K : PySem.W.Frag) (C fi fl : Addr) : Prop where
  it : PySem.W.findIn K (.ref C) "__iter__" = some (some (.ref fi))
  itF : PySem.W.isFn K (.ref fi) = true
  ln : PySem.W.findIn K (.ref C) "__len__" = some (some (.ref fl))
  lnF : PySem.W.isFn K (.ref fl) = true

/-- list(o): its __iter__ gives a tuple's iterator, its __len__ a number -/
def rLstIt (C : Addr) (spI spL : Sp) (EI EL : XK) : List V → Hp → VK → Prop := fun xs H Q => ∃ a dx fs, xs = [.ref a] ∧ H a = some (.ins C dx fs) ∧ ∀ q, H q = none → q ≠ a →
  spI [.ref a] (upd H q (.lst [])) (fun v H1 => ∃ it l ys, v = .ref it ∧ H1 it = some (TitO l it 0) ∧ H1 l = some (.tup ys) ∧ H1 q = some (.lst []) ∧ H1 a = some (.ins C dx fs) ∧ ys.length < sizeLine ∧
    spL [.ref a] H1 (fun n H2 => H2 = H1 ∧ ∃ k : Int, n = .int k ∧ 0 ≤ k ∧ k < 1000) EL ∧ ∀ H2, (∀ b, b ≠ it → b ≠ q → H2 b = H1 b) → H2 q = some (.lst ys) → Q (.ref q) H2) EI
section
variable {X : Cx} {CI : CXT} {n : Nat} {C fi fl : Addr} {fdI fdL : FuncData} {psI psL : List Str} {spI spL : Sp} {EI EL : XK}
theorem call_at0 {f : Addr} {fd : FuncData} {ps : List Str} {sp : Sp} {E : XK} (G0 : FnOk X.prog X.w X.K X.mg X.base CX0 n f fd ps sp) (hb : Binds X.K fd ps []) {A : Around} (hr : Room n A) (hA : A.frames = X.A.frames)
    {pins : List (Addr × Obj)} {s : Shared} {σ : L2.St} {H : Hp} (I : Inv X pins σ H s) {vs : List V} {us : List Value} (r : Vals vs us) {Q : VK} {EE : Value → Shared → Prop} (h : sp vs H Q E) :
    wpAny (model X.prog X.w) A (call (.ref f) us) (EP X pins σ Q) EE s := by
  have e0 : Env0 X.prog X.w X.K X.mg X.base A X.stack s H := by
    have e := I.env0
    exact ⟨by rw [hA]; exact e.frames, e.mod, e.bs, e.bsz, e.funs, e.frf, e.hok, e.bare⟩
  have hl := G0.len _ _ _ _ h
  refine wpAny_call (codeAny_mono (G0.run A X.stack s H ⟨us, []⟩ us vs Q E hr e0 (by
    have := hb s us I.kIn (by rw [List.append_nil, ← r.length]; exact hl)
    simpa using this) r h) fun r s' hq => ?_)
  cases r with
  | error e => exact False.elim hq
  | ok fl =>
    cases fl with
    | ret w => exact I.after hq
    | next => exact False.elim hq
    | brk => exact False.elim hq
    | cont => exact False.elim hq
theorem call_listIt (hc : ItL X.K C fi fl) (FI : FnOk X.prog X.w X.K X.mg X.base CI n fi fdI psI spI) (bI : Binds X.K fdI psI []) (xI : Passes CI X EI)
    (FL : FnOk X.prog X.w X.K X.mg X.base CX0 n fl fdL psL spL) (bL : Binds X.K fdL psL []) (hr : Room (n + 4) X.A) : CallR X (.type "list") (rLstIt C spI spL EI EL) := by
  intro pins s σ H xs us Q I rv h
  obtain ⟨a, dx, fs, rfl, ha, hq⟩ := h
  obtain ⟨u, rfl, ru⟩ := rv.one
  cases ru
  have sb : Sub X (n + 2) X.A.in1.in1 := (Sub.in1 (Sub.in1 (⟨hr, rfl⟩ : Sub X (n + 4) X.A)))
  refine callType_codes (Q₁ := fun obj s₁ => obj = .ref s.heap.objs.size ∧ s₁ = { s with heap := s.heap.push { cls := .type "list", data := .seq #[] } }) PySem.F.called_list (PySem.F.typeCall_list_1 _) PySem.F.entry_list_init (code_list_new _ ⟨rfl, rfl⟩) fun obj s₁ h₁ => ?_
  obtain ⟨rfl, rfl⟩ := h₁
  have hS : (s.heap.push { cls := .type "list", data := .seq #[] }).get? s.heap.objs.size = some { cls := .type "list", data := .seq #[] } := Heap.get?_push_size _ rfl
  refine ⟨⟨_, hS, rfl⟩, PySem.F.args_list_init_2 _ _, ?_⟩
  have fr : H s.heap.objs.size = none := I.hok.fresh (Nat.le_refl _)
  have sp0 := hq _ fr (fun z => by rw [z, ha] at fr; cases fr)
  have I1 : Inv X pins σ (upd H s.heap.objs.size (.lst [])) { s with heap := s.heap.push { cls := .type "list", data := .seq #[] } } := I.lnew (its := []) (t' := s.toks) .nil (Nat.zero_le _)
  show wpAny _ _ (do let old ← Builtin.List.listItems (.ref s.heap.objs.size); Builtin.List.listUpdate (.ref s.heap.objs.size) (fun _ => #[]); letGo old.toList.reverse; Builtin.List.listExtendWith (.ref s.heap.objs.size) (.ref a) .none) _ _ _
  refine wpAny_bind ?_
  unfold Builtin.List.listItems
  refine wpAny_bind (wpAny_seqItems hS rfl (wpAny_pure ?_))
  show wpAny _ _ (updateSeq s.heap.objs.size (fun _ => #[]) >>= fun _ => letGo (#[] : Array Value).toList.reverse >>= fun _ => Builtin.List.listExtendWith (.ref s.heap.objs.size) (.ref a) .none) _ _ _
  refine wpAny_bind (wpAny_updateSeq hS rfl ?_)
  have I2 := I1.lset (f := fun _ => #[]) (its := []) (its' := []) (ys := []) (t' := s.toks) upd_same hS rfl .nil (Nat.zero_le _)
  rw [upd_upd] at I2
  refine wpAny_bind (wpAny_letGo ?_)
  have ha2 : upd H s.heap.objs.size (.lst []) a = some (.ins C dx fs) := by rw [upd_ne (ne_of_none ha fr)]; exact ha
  have hne : s.heap.objs.size ≠ a := fun z => by rw [z, ha] at fr; cases fr
  generalize hq0 : s.heap.objs.size = q at *
  generalize hH0 : upd H q (.lst []) = H0 at *
  obtain ⟨mA, J, _⟩ := ins_get I2.hok ha2
  obtain ⟨od, J, _⟩ := J.look
  obtain ⟨m0, hF⟩ := I2.fr
  unfold Builtin.List.listExtendWith
  refine wpAny_bind (J.type.here ?_)
  have h1 : Builtin.List.listSameRef (.ref q) (.ref a) = false := by simp [Builtin.List.listSameRef, hne]
  simp only [h1, (rfl : (Value.ref C == Value.type "list") = false), (rfl : (Value.ref C == Value.type "tuple") = false), Bool.or_false, Bool.false_eq_true, if_false]
  refine wpAny_bind (PySem.W.owit_iter hF I2.ok.mod.kin J hc.it hc.itF ?_)
  refine wpAny_mono (call_at FI bI xI (A := X.A.in1.in1) (sb.mono (by omega)).room sb.fr I2 (vs := [.ref a]) (.cons rfl .nil) sp0) (fun v s3 z => ?_) fun _ _ z => z
  obtain ⟨x, H1, I3, r3, it, l, ys, ex, e1, e2, e3, e4, hz, q1, q2⟩ := z
  subst ex
  obtain rfl : v = Value.ref it := r3
  have hit := titO_get I3 e1
  unfold PySem.W.OwitIt
  refine wpAny_specialOf (show s3.TypeIs (.ref it) "tuple_iterator" from hit.typeIs) PySem.F.slot_tuple_iterator_next.lookup ?_
  show wpAny _ _ _ _ _ s3
  refine wpAny_bind (wpAny_holding ?_)
  obtain ⟨mB, J3, _⟩ := ins_get I3.hok e4
  obtain ⟨od3, J3, _⟩ := J3.look
  obtain ⟨m3, hF3⟩ := I3.fr
  unfold Builtin.List.listLengthHint
  refine wpAny_bind (wpAny_bind (J3.type.here ((PySem.W.looks_findIn I3.kIn hc.ln).here ?_)))
  refine PySem.W.KFB.if_not rfl ?_
  refine PySem.W.KFB.if_so rfl ?_
  refine wpAny_bind (wpAny_rule (wpAny_bind (wpAny_attempt ?_)))
  refine PySem.W.len_K hF3 I3.ok.mod.kin J3 hc.ln hc.lnF (wpAny_mono (call_at0 FL bL (A := X.A.in1.in1.in1) (Sub.in1 (sb.mono (show n + 1 ≤ n + 2 by omega))).room sb.fr I3 (vs := [.ref a]) (.cons rfl .nil) q1) (fun v s4 z => ?_) fun _ _ z => z)
  obtain ⟨x, H2, I4, r4, eH, k0, ek, hk0, hk1⟩ := z
  subst ek
  subst eH
  obtain ⟨tk4, rfl⟩ := r4
  refine ⟨⟨hk0, by omega⟩, ?_⟩
  refine wpAny_bind (wpAny_of_eq (a := some k0) rfl ?_)
  show wpAny _ _ (if Builtin.List.listTooLong k0.toNat = true then _ else _) _ _ _
  refine PySem.W.KFB.if_not (notLongL (by rw [sizeLine_eq]; omega)) (wpAny_pure ?_)
  have I5 := I4.tok (s4.toks + 1)
  have hne1 : q ≠ it := ne_of e3 e1 (fun z => nomatch z)
  have go : ∀ s5, Inv X pins σ H2 s5 → codeAny (model X.prog X.w) X.A.in1 (.builtin "list.extend.loop" ⟨[.ref q, .ref it, .none], []⟩) (wants (fun r s₂ => r = .none ∧ EP X pins σ Q (.ref q) s₂) X.xe) s5 := fun s5 I6 =>
    tit_loop (A1 := X.A.in1) (Rs := wants (fun r s₂ => r = .none ∧ EP X pins σ Q (.ref q) s₂) X.xe) (show X.A.in1.handled = none from hr.hd) ys.length 0 H2 s5 (by omega) (Nat.zero_le _) I6 e1 e2 (by rw [List.take_zero]; exact e3) hz fun H7 s7 I7 k7 e7 => ⟨rfl, .ref q, H7, I7, rfl, q2 H7 k7 e7⟩
  refine wpAny_ite_split (fun _ => ?_) (fun _ => wpAny_pure ⟨plainId_quiet PySem.F.plain_extend_loop _, go _ I5⟩)
  refine wpAny_bind (wpAny_rule (wpAny_bind ?_))
  show wpAny _ _ (updateSeq q (·.push .none) >>= fun _ => updateSeq q (·.pop)) _ _ _
  obtain ⟨z, its, n5, r5, hl5, e5⟩ := I5.lstM e3
  cases r5
  refine wpAny_bind (wpAny_updateSeq e5 rfl ?_)
  have I6 := I5.lset (f := (·.push Value.none)) (its' := [Value.none]) (ys := [.non]) (t' := s4.toks + 1) e3 e5 (by simp) (.cons rfl .nil) (by rw [List.length_singleton, sizeLine_eq]; decide)
  obtain ⟨z6, its6, n6, r6, hl6, e6⟩ := I6.lstM upd_same
  obtain ⟨u6, rfl, ru6⟩ := r6.one
  refine wpAny_updateSeq e6 rfl (wpAny_pure ⟨plainId_quiet PySem.F.plain_extend_loop _, go _ ?_⟩) (by show 1 ≤ sizeLine; rw [sizeLine_eq]; decide) (by show 0 ≤ sizeLine + 1; exact Nat.zero_le _)
  have I7 := I6.lset (f := (·.pop)) (its := [u6]) (its' := []) (ys := []) (t' := s4.toks + 1) upd_same e6 (by rfl) .nil (Nat.zero_le _)
  rw [upd_upd] at I7
  have hH : upd H2 q (.lst []) = H2 := by
    funext b
    by_cases hb : b = q
    · rw [hb, upd_same, e3]
    · rw [upd_ne hb]
  rw [hH] at I7
  exact I7
end
end
end My
set_option maxRecDepth 100000
set_option maxHeartbeats 2000000
namespace My
open PySem PySem.Spec PyProof.Rows L2
/-! ### enumerate(t), t a tuple -/
theorem enum_new1 {v : Value} {o : Obj} {G : Heap → Prop} (B : Begins v o G) :
    Meets (Builtin.«enumerate.__new__» ⟨[.type "enumerate", v], []⟩) (fun _ R s => G s.heap ∧
      R (.ok (.ret (.ref (s.heap.push o).objs.size))) { s with heap := (s.heap.push o).push { cls := .type "enumerate", data := .fields #[.none, .bool false, .ref s.heap.objs.size, rawInt 0, .none, .none] } }) := by
  refine .of_wp fun prog w A R s h => ?_
  obtain ⟨hp, g, d, tk, os⟩ := s
  obtain ⟨h1, h⟩ := h
  have hsub := sub_enumerate
  have goB : ∀ {A' : Around} {E Q : Value → Shared → Prop}, Q (.ref hp.objs.size) ⟨hp.push o, g, d, tk, os⟩ → wpAny (model prog w) A' (pyIter v) Q E ⟨hp, g, d, tk, os⟩ := fun q => B.iter prog w _ _ ⟨hp, g, d, tk, os⟩ _ h1 q
  wp_walk using goB
  refine wpAny_stack_any fun st => wpAny_pure ?_
  split
  · rename_i c _ _ _ _ _
    cases (c == Value.type "enumerate") <;> (wp_walk using goB; exact ⟨_, rfl, h⟩)
  · wp_walk using goB
    exact ⟨_, rfl, h⟩
theorem call_enum1 {prog : Program} {w : World} {A : Around} {E : Value → Shared → Prop} {s : Shared} {v : Value} {o : Obj} {G : Heap → Prop} {Q : Value → Shared → Prop} (B : Begins v o G) (h1 : G s.heap)
    (h : ∀ h', IsEnum h' (s.heap.objs.size + 1) s.heap.objs.size 0 .none → h'.get? s.heap.objs.size = some o → (∀ b o, s.heap.get? b = some o → h'.get? b = some o) → Q (.ref (s.heap.objs.size + 1)) { s with heap := h' }) :
    wpAny (model prog w) A (call (.type "enumerate") [v]) Q E s := by
  refine callType_new PySem.F.called_enumerate (by decide) (PySem.F.typeCall_enumerate_1 _) (PySem.F.newCall_enumerate_1 _) (fun obj => PySem.F.args_object_init_2 obj _) PySem.F.entry_enumerate_new (enum_new1 B) ⟨h1, ?_⟩
  have hz : (s.heap.push o).objs.size = s.heap.objs.size + 1 := Heap.size_push ..
  show _ ∧ _
  rw [hz]
  have he : IsEnum ((s.heap.push o).push { cls := .type "enumerate", data := .fields #[.none, .bool false, .ref s.heap.objs.size, rawInt 0, .none, .none] }) (s.heap.objs.size + 1) s.heap.objs.size 0 .none := by
    have q := Heap.get?_push_size (s.heap.push o) (o := { cls := .type "enumerate", data := .fields #[.none, .bool false, .ref s.heap.objs.size, rawInt 0, .none, .none] }) rfl
    rwa [hz] at q
  exact ⟨⟨_, he, rfl⟩, h _ he (Heap.get?_push_of_some _ (Heap.get?_push_size _ B.free)) fun b o x => Heap.get?_push_of_some _ (Heap.get?_push_of_some _ x)⟩
def IteT (K : PySem.W.Frag) (a : Addr) : It :=
  ⟨fun i H => ∃ (xs : List V) (x : V), SqT K H a xs ∧ xs[i]? = some x, fun i H v H' => ∃ T x, v = .ref T ∧ H T = none ∧ H' = upd H T (.tup [.int (i : Nat), x]) ∧ ∀ xs, SqT K H a xs → xs[i]? = some x, fun i H => ∃ xs : List V, SqT K H a xs ∧ xs.length ≤ i⟩
theorem turn_enumT {P : Program} {w : World} {K : PySem.W.Frag} {elts : List Expr} {kk : Nat} {tpos : Pos} (a e it : Addr) (hae : a ≠ e) (hai : a ≠ it) :
    Turn P w K (.Tuple elts kk tpos) (IteT K a) [e, it] e (fun i h => (∃ old, IsEnum h e it ((i : Nat) : Int) old) ∧ h.IsTupleIter it a i ∧ e ≠ it) where
  mem := by simp
  obj := fun i h st b hb => by
    obtain ⟨⟨old, he⟩, ⟨o, ho, hc, hd⟩, _⟩ := st
    have e' : b = e ∨ b = it := by simpa using hb
    rcases e' with z | z
    · rw [z]; exact ⟨_, he, fun v q => nomatch q⟩
    · rw [z]; exact ⟨o, ho, fun v q => by rw [hd] at q; cases q⟩
  keep := fun i h h' st k => let ⟨⟨old, he⟩, hi, hne⟩ := st; ⟨⟨old, k e (by simp) _ he⟩, hi.at fun o q => k it (by simp) o q, hne⟩
  item := by
    intro X hP hw hK hc i pins s σ H E I hf st hg
    subst hP hw hK
    obtain ⟨⟨old, he⟩, hit, hne⟩ := st
    obtain ⟨xs, x, hq, hx⟩ := hg
    obtain ⟨its, rv, p, hz⟩ := I.tuple hq
    obtain ⟨u, hu, ru⟩ := rv.get hx
    have hel : e < s.heap.objs.size := Heap.lt_size he
    have hil : it < s.heap.objs.size := by obtain ⟨_, q, _⟩ := hit; exact Heap.lt_size q
    have hlt : i < its.toArray.size := by rw [List.size_toArray]; exact (List.getElem?_eq_some_iff.mp hu).1
    refine wpAny_pyNext_enum_itemD (Draws.tuple (A := X.A.in1) (show X.A.in1.handled = none from I.ok.hd hc) it a hai its.toArray) he ⟨hit, p⟩ hlt hne (by simp [hne, Ne.symm hae]) fun x1 h' tk px ho st' hT hsz hk => ?_
    obtain ⟨hit', _⟩ := st'
    have ex1 : x1 = u := by
      rw [List.getElem?_toArray, hu] at px
      exact (Option.some.inj px).symm
    subst ex1
    refine ⟨_, rfl, wpAny_letOwnedTupleGo_enum (s := { s with heap := h', toks := tk + 1 }) ho fun h'' he' sb => ?_⟩
    have hT2 : h''.get? s.heap.objs.size = some { cls := .type "tuple", data := .seq #[.int i tk, x1] } := (sb.2 _ (Nat.ne_of_gt hel)).trans hT
    have new : ObjOk X.prog X.w (upd H s.heap.objs.size (.tup [.int (i : Nat), x])) h'' s.heap.objs.size (.tup [.int (i : Nat), x]) :=
      ⟨by show 2 ≤ sizeLine; decide, [.int i tk, x1], .cons ⟨_, rfl⟩ (.cons ru .nil), ⟨_, hT2, rfl, _, rfl⟩⟩
    have I1 : Inv X pins σ (upd H s.heap.objs.size (.tup [.int (i : Nat), x])) { s with heap := h'', toks := tk + 1 } :=
      I.turnedNew (ch := [e, it]) (fun b ob hb q => (sb.2 b (fun z => hb (by simp [z]))).trans (hk b ob (fun z => hb (by simp [z])) (fun z => hb (by simp [z])) q)) hf (Nat.le_refl _) new
    refine ⟨.ref s.heap.objs.size, _, I1, rfl, ⟨_, x, rfl, I.hok.fresh (Nat.le_refl _), rfl, fun ys hy => by rw [I.tuple_inj hy hq]; exact hx⟩, ⟨⟨x1, ?_⟩, hit'.at fun o q => (sb.2 it (Ne.symm hne)).trans q, hne⟩, fun b hb => ?_⟩
    · rw [show ((i + 1 : Nat) : Int) = (i : Int) + 1 by omega]; exact he'
    · have hb' : b < s.heap.objs.size := by
        rcases (by simpa using hb : b = e ∨ b = it) with z | z
        · rw [z]; exact hel
        · rw [z]; exact hil
      rw [upd_ne (Nat.ne_of_lt hb')]; exact (hf b hb).1
  done := by
    intro X hP hw hK hc i pins s σ H E I hf st hg
    subst hP hw hK
    obtain ⟨⟨old, he⟩, hit, hne⟩ := st
    obtain ⟨xs, hq, hx⟩ := hg
    obtain ⟨its, rv, p, hz⟩ := I.tuple hq
    obtain ⟨f0, f1, f2, f3, f4, f5⟩ := hf it (by simp)
    have hl := rv.length
    have hno : (its.toArray)[i]? = none := by rw [List.getElem?_toArray, List.getElem?_eq_none_iff]; omega
    have D : Draws X.prog X.w X.A.in1 it [it, a] i (fun _ _ => True) (fun j h => j = i ∧ h.IsTupleIter it a i ∧ h.IsTuple a its.toArray) :=
      ⟨fun _ _ st => ⟨_, st.2.1.choose_spec.1⟩, fun _ _ _ st hk => ⟨st.1, st.2.1.at fun o q => hk it (by simp) o q, st.2.2.at fun o q => hk a (by simp) o q⟩,
        fun j s Q E hj st _ => absurd st.1 (Nat.ne_of_lt hj), fun s Q E st hE => wpAny_nextOf_tuple_end (show X.A.in1.handled = none from I.ok.hd hc) st.2.1 st.2.2 hno hE⟩
    exact wpAny_pyNext_enum_endD D he ⟨rfl, hit, p⟩ fun h' eb => ⟨rfl, I.turned (t' := s.toks) (fun b o hb q => eb b o hb q) f0 f1 f3 f4 f5⟩
  self := fun A i s Q E st h => let ⟨⟨_, he⟩, _⟩ := st; wpAny_pyIter_enum he h
def iEnumT (K : PySem.W.Frag) (ta : TA) : TI := fun σ H R => ta σ H fun vs H1 => ∃ a xs, vs = [.ref a] ∧ SqT K H1 a xs ∧ R (IteT K a) H1
theorem pi_enumT {X : Cx} {e : Expr} {ta : TA} {p pos tpos : Pos} {elts : List Expr} {kk : Nat} (hg : Gl X "enumerate") (hm : X.mg "enumerate" = none) (ha : PA X [e] ta) (hs : starEach [e] X.env = [(false, eval e X.env)] := by rfl) :
    PI X (.Tuple elts kk tpos) (.Call (.Name "enumerate" p) [e] [] pos) (iEnumT X.K ta) := by
  refine ⟨fun pins s σ H R I h => ?_⟩
  refine Call_ (ld_blt I hg hm boot_enumerate (PyProof.Rows.callWith_type1 (thn (ha.run pos pins s σ H _ I h) fun us s1 ⟨vs, H1, I1, r1, a, xs, ex, hq, q⟩ => ?_) hs rfl))
  subst ex
  obtain rfl := Vals.ref1 r1
  obtain ⟨its, rv, p', hz⟩ := I1.tuple hq
  have hal : a < s1.heap.objs.size := by obtain ⟨_, z, _⟩ := p'; exact Heap.lt_size z
  refine call_enum1 (begins_tuple a its.toArray) (show s1.heap.IsTuple a its.toArray from p') fun h' he hit hk => wpAny_pyIter_enum he ?_
  have I2 : Inv X pins σ H1 { s1 with heap := h' } := I1.kept (t' := s1.toks) hk
  refine ⟨s1.heap.objs.size + 1, [s1.heap.objs.size + 1, s1.heap.objs.size], _, _, H1, rfl, I2, turn_enumT a (s1.heap.objs.size + 1) s1.heap.objs.size (Nat.ne_of_lt (Nat.lt_succ_of_lt hal)) (Nat.ne_of_lt hal), ⟨⟨.none, he⟩, ⟨_, hit, rfl, rfl⟩, Nat.succ_ne_self _⟩, fun b hb => ?_, q⟩
  have hle : s1.heap.objs.size ≤ b := by
    rcases (by simpa using hb : b = s1.heap.objs.size + 1 ∨ b = s1.heap.objs.size) with z | z
    · rw [z]; exact Nat.le_add_right _ _
    · rw [z]; exact Nat.le_refl _
  exact I1.fpOk hle (I1.hok.fresh hle)
theorem walk_enumT {K : PySem.W.Frag} {a : Addr} {xs : List V} : Walk (IteT K a) xs.length (fun H => SqT K H a xs) (YPair (fun i => some (.int (i : Nat))) (fun i => xs[i]?)) := by
  refine ⟨fun i _ hi q => ⟨xs, xs[i], q, by simp [hi]⟩, fun _ q => ⟨xs, q, Nat.le_refl _⟩, fun i H v H' _ q y => ?_⟩
  obtain ⟨T, x, h1, h2, h3, h4⟩ := y
  exact ⟨T, .int (i : Nat), x, h1, h2, h3, rfl, h4 xs q⟩
end My
set_option maxRecDepth 100000
set_option maxHeartbeats 4000000
namespace PySem.SeqAt
open PySem PySem.Spec PyProof.Rows
/-- tuple's own __lt__, called as sorting calls it -/
theorem call_tuple_lt {prog : Program} {w : World} {A : Around} {s : Shared} {E : Value → Shared → Prop} {Q : Value → Shared → Prop} {l b : Addr} {items items2 : Array Value} {e r : Nat → Bool} (hl : s.heap.IsTuple l items) (hb : s.heap.IsTuple b items2)
    (he : ∀ j (h1 : j < items.size) (h2 : j < items2.size), EqAt A.in1 s items[j] items2[j] (e j)) (hr : ∀ j (h1 : j < items.size) (h2 : j < items2.size), e j = false → RcLt A.in1 s items[j] items2[j] (r j))
    (h : Q (.bool (firstLt e r (decide (items.size < items2.size)) (List.range (min items.size items2.size)))) s) : wpAny (model prog w) A (call (.builtin "tuple.__lt__") [.ref l, .ref b]) Q E s := by
  obtain ⟨⟨cls, dd, data, sl⟩, ho, hc, n, hd⟩ := id hl
  obtain ⟨⟨cls2, dd2, data2, sl2⟩, ho2, hc2, n2, hd2⟩ := id hb
  simp only at hc hd hc2 hd2
  subst hc hd hc2 hd2
  exact call_meets F.slot_tuple_lt ⟨_, ho, rfl⟩ F.entry_tuple_lt (F.args_tuple_lt_2 _ _) (tuple_ltAt l b items items2 n n2 dd dd2 sl sl2 e r) ⟨ho, ho2, he, hr, h⟩
end PySem.SeqAt
namespace PySem.W
open PySem PySem.Calls PyProof.Rows PySem.SeqAt
abbrev encT (b : List Int) : PyData := .tuple (b.map .int)
abbrev encL (b : List Int) : PyData := .list (b.map .int)
section
variable {prog : Program} {w : World} {A : Around} {E : Value → Shared → Prop} {s : Shared}
theorem oneLt_tup {xs ys : List PyData} {a b : Value} {as bs : List Addr} {Q : Bool → Shared → Prop} (ra : Reads s.heap a (.tuple xs) as) (rb : Reads s.heap b (.tuple ys) bs) (hal : alikeAll xs ys = true)
    (hu : A.units + min (PyData.depth (.tuple xs)) (PyData.depth (.tuple ys)) < cLine) (hq : Q (dataLt (.tuple xs) (.tuple ys)) s) : wpAny (model prog w) A (oneLt' true a b) Q E s := by
  cases ra with
  | @tuple l o vs n _ as₁ h1 h2 h3 h4 =>
    cases rb with
    | @tuple l' o' vs' n' _ bs₁ k1 k2 k3 k4 =>
      have n1 : vs.size = xs.length := by simpa using ReadsAll.length _ _ _ h4
      have n2 : vs'.size = ys.length := by simpa using ReadsAll.length _ _ _ k4
      rw [dataLt_tuple, ← firstLt_toks xs ys hal, ← n1, ← n2] at hq
      rw [oneLt'_eq]
      simp only [if_true]
      refine wpAny_bind (wpAny_cRoomFor (room_here hu) ?_)
      refine wpAny_bind (wpAny_callSpecialIfBound?_slot (T := "tuple") ⟨_, h1, h2⟩ F.slot_tuple_lt (call_tuple_lt (e := pairEq xs ys) (r := fun j => dataLt (xs.getD j .none) (ys.getD j .none)) ⟨_, h1, h2, _, h3⟩ ⟨_, k1, k2, _, k3⟩ (fun j j1 j2 => ?_) (fun j j1 j2 hj => ?_) ?_))
      · have := eqAt_alikeAll xs ys A.in1 s vs.toList vs'.toList _ _ h4 k4 hal (room_in hu) j (by simpa using j1) (by simpa using j2)
        simpa using this
      · have := rcLt_alikeAll xs ys A.in1 s vs.toList vs'.toList _ _ h4 k4 hal (room_in hu) j (by simpa using j1) (by simpa using j2) hj
        simpa using this
      · exact wpAny_truthy_bool hq
end
/-! ### which kind of keys tuples of ints are -/
section
variable {M : Model} {A : Around} {E : Value → Shared → Prop} {s : Shared}
theorem tup_firsts : ∀ (vs : List Value) (bs : List (List Int)) {Q : List (Option Value) → Shared → Prop}, EachIs (fun v b => ∃ as, Reads s.heap v (encT b) as) vs bs → (∀ fs : List (Option Value), EachIs (fun f b => f.isSome = !b.isEmpty) fs bs → Q fs s) → wpAny M A (vs.mapM firstOfTuple') Q E s
  | [], [], _, _, h => by rw [List.mapM_nil]; exact wpAny_pure (h [] .nil)
  | [], _ :: _, _, e, _ => nomatch e
  | _ :: _, [], _, e, _ => nomatch e
  | v :: vs, b :: bs, Q, .cons ⟨as, r⟩ e, h => by
    rw [List.mapM_cons]
    refine wpAny_bind ?_
    rw [kas_first_eq]
    cases r with
    | @tuple a o xs n _ _ ho hc hd hr =>
      refine wpAny_bind (Looks.here (show Looks M s.heap (typeOf (.ref a)) o.cls from (Looks.ld ho).andThen .now) ?_)
      rw [hc, if_neg (by first | decide | simp)]
      refine wpAny_bind (listItems_at ho hd (wpAny_pure ?_))
      refine wpAny_bind (tup_firsts vs bs (Q := fun fs s' => wpAny M A (pure (xs[0]? :: fs)) Q E s') e fun fs hf => wpAny_pure (h _ (.cons ?_ hf)))
      have hl := SeqAt.ReadsAll.length _ _ _ hr
      rw [List.length_map] at hl
      have hl : xs.size = b.length := by simpa using hl
      cases b with
      | nil => rw [Array.getElem?_eq_none (by rw [hl]; exact Nat.zero_le _)]; rfl
      | cons x t => rw [Array.getElem?_eq_getElem (by rw [hl]; exact Nat.succ_pos _)]; rfl
theorem tup_kind {vs : List Value} {bs : List (List Int)} {Q : SortKind → Shared → Prop} (e : EachIs (fun v b => ∃ as, Reads s.heap v (encT b) as) vs bs) {b0 : List Int} {bt : List (List Int)} (hb : bs = b0 :: bt) (hne : [] ∈ bs)
    (h : Q (if b0.isEmpty then oneType' else general') s) : wpAny M A (keyKind' vs.toArray) Q E s := by
  rw [keyKind'_eq, List.mapM_toArray, map_eq_pure_bind]
  refine wpAny_bind (wpAny_bind (tup_firsts vs bs e fun fs hf => wpAny_pure ?_))
  have hall : ¬ (fs.toArray.all fun x => x.isSome) = true := fun z => by
    simp only [List.all_toArray, List.all_eq_true] at z
    have : ∀ {fs : List (Option Value)} {bs : List (List Int)}, EachIs (fun f b => f.isSome = !b.isEmpty) fs bs → (∀ f ∈ fs, f.isSome = true) → [] ∉ bs := by
      intro fs bs hf
      induction hf with
      | nil => intro _ h; cases h
      | cons h t ih =>
        intro z hm
        rcases List.mem_cons.mp hm with hm | hm
        · subst hm
          have := z _ List.mem_cons_self
          rw [h] at this
          cases this
        · exact ih (fun f hf => z f (List.mem_cons_of_mem _ hf)) hm
    exact this hf z hne
  rw [if_neg hall]
  subst hb
  cases hf with
  | @cons f _ ft _ h0 ht =>
  have e0 : ((f :: ft).toArray[0]?.bind id) = f := by simp
  rw [e0]
  cases b0 with
  | cons x t =>
    have h0 : f.isSome = true := h0
    rw [if_pos h0]
    exact wpAny_pure h
  | nil =>
    have h0 : f.isSome = false := h0
    rw [if_neg (by rw [h0]; decide)]
    rw [oneTypeOnly'_eq, List.mapM_toArray, map_eq_pure_bind]
    have tk : ∀ {vs : List Value} {bs : List (List Int)}, EachIs (fun v b => ∃ as, Reads s.heap v (encT b) as) vs bs → ∀ v ∈ vs, Looks M s.heap (typeOf v) (.type "tuple") := by
      intro vs bs e
      induction e with
      | nil => intro v hv; cases hv
      | cons h t ih =>
        intro v hv
        rcases List.mem_cons.mp hv with rfl | hv
        · obtain ⟨as, r⟩ := h
          exact looks_reads r
        · exact ih v hv
    refine wpAny_bind (wpAny_bind (wpAny_bind (kas_mapM (r := Value.type "tuple") _ (fun v hv Q' hq => (tk e v hv).here hq) (wpAny_pure ?_))))
    have hlen : 0 < vs.length := by rw [e.length]; exact Nat.succ_pos _
    have hall2 : ((List.map (fun _ => Value.type "tuple") vs).toArray.all fun x => x == Value.type "tuple") = true := by
      simp only [List.all_toArray, List.all_map, List.all_eq_true]
      intro _ _
      exact beq_self_eq_true _
    have h00 : (List.map (fun _ => Value.type "tuple") vs).toArray[0]? = some (Value.type "tuple") := by
      cases vs with
      | nil => cases hlen
      | cons a t => simp
    rw [h00]
    simp only [hall2, if_true]
    exact wpAny_pure (wpAny_pure h)
end
section
variable {prog : Program} {w : World} {A : Around} {E : Value → Shared → Prop} {s : Shared}
theorem alike_encT (b b' : List Int) : alike (encT b) (encT b') = true := by
  show alikeAll _ _ = true
  exact alike_ints b b'
theorem depth_encT (b : List Int) : (encT b).depth = 1 := by
  show PyData.depth (.tuple _) = 1
  simp only [PyData.depth]
  rw [depth_ints]
theorem SortsAt.tupI {vs : List Value} {bs : List (List Int)} (e : EachIs (fun v b => ∃ as, Reads s.heap v (encT b) as) vs bs) (hu : A.units + 2 < cLine) : SortsAt prog w A s (dataKind s.heap (bs.map encT)) vs := by
  have e' := each_map (R := fun v d => ∃ as, Reads s.heap v d as) encT e
  have hal : AllAlike (bs.map encT) := AllAlike.of fun b b' => alike_encT b b'
  have hd : ∀ d ∈ bs.map encT, A.units + d.depth < cLine := fun d hd => by
    obtain ⟨b, _, rfl⟩ := List.mem_map.mp hd
    rw [depth_encT]; omega
  by_cases hne : [] ∈ bs
  · cases bs with
    | nil => cases hne
    | cons b0 bt =>
    refine ⟨fun v hv => ?_, ⟨_, ?_, fun h2 E Q hq => tup_kind e rfl hne hq⟩⟩
    · obtain ⟨d, hd, as, r⟩ := e'.left v hv
      exact ⟨_, dataKind_some hal hd r⟩
    · intro E x y a b Q ha hb hq
      obtain ⟨d, as, hd1, ra, rfl⟩ := dataKind_inv ha
      obtain ⟨d', as', hd', rb, rfl⟩ := dataKind_inv hb
      have hq : Q (dataLt d d') s := hq
      obtain ⟨c, _, rfl⟩ := List.mem_map.mp hd1
      obtain ⟨c', _, rfl⟩ := List.mem_map.mp hd'
      have hroom : A.units + min (encT c).depth (encT c').depth < cLine := by rw [depth_encT, depth_encT]; omega
      split
      · rw [keyLt'_oneType]
        exact oneLt_tup ra rb (alike_ints c c') hroom hq
      · show wpAny _ _ (oneLt' false x y) _ _ _
        exact oneLt_alike (fun z => nomatch z) ra rb (alike_encT c c') (fun z => nomatch z) hroom hq
  · exact SortsAt.data e' hal (.inl fun d hd => by
      obtain ⟨b, hb, rfl⟩ := List.mem_map.mp hd
      cases b with
      | nil => exact absurd hb hne
      | cons x t => exact ⟨_, _, rfl⟩) hd
theorem dataLe_encT : dataLe false encT = fun p q : List Int => decide (p ≤ q) := by
  rw [← dataLe_rows (fun b : List Int => b)]
  funext p q
  show (!dataLt (encT q) (encT p)) = !dataLt (encL q) (encL p)
  rw [show dataLt (encT q) (encT p) = dataLt (encL q) (encL p) from (dataLt_tuple _ _).trans (dataLt_list _ _).symm]
/-- sorted of tuples of ints, empty ones among them -/
theorem sorted_tupsI {l : Addr} {vs : List Value} {bs : List (List Int)} {R : Value → List Int → Prop} {Q : Value → Shared → Prop} (hl : s.heap.IsList l vs.toArray) (e : EachIs R vs bs) (er : EachIs (fun v b => ∃ as, Reads s.heap v (encT b) as) vs bs) (hL : bs.length ≤ sizeLine)
    (hu : A.units + 4 < cLine) (h : ∀ out, out.length = bs.length → EachIs R out (bs.mergeSort fun p q => decide (p ≤ q)) → Q (.ref (s.heap.objs.size + 1)) { s with heap := sortedAll s.heap vs (List.toArray out) }) :
    wpAny (model prog w) A (call (.builtin "sorted") [.ref l]) Q E s := by
  have er' : EachIs (fun v b => ∃ as, Reads (sortingHeap (copyHeap s.heap vs) (s.heap.objs.size + 1) vs) v (encT b) as) vs bs := er.mono fun _ _ ⟨as, r⟩ => ⟨as, PyProof.Rows.Reads.keeps (fun _ _ => sorting_copy_old) r⟩
  refine sorted_vals hl (SortsAt.tupI (s := { s with heap := sortingHeap (copyHeap s.heap vs) (s.heap.objs.size + 1) vs }) er' (by show A.units + 1 + 1 + 2 < cLine; omega)) (by rw [e.length]; exact hL) ?_
  refine h _ (by rw [sortVals_length false rfl]; exact e.length) ?_
  have := sortVals_data false e er' (AllAlike.of fun b b' => alike_encT b b')
  rw [dataLe_encT] at this
  exact this
end
end PySem.W
namespace L2
open PySem PySem.Spec PyProof.Rows PySem.W
theorem vals_each {Rv : V → List Int → Prop} : ∀ {xs : List V} {us : List Value} {bs : List (List Int)}, Vals xs us → EachIs Rv xs bs → EachIs (fun v b => ∃ x, RelV x v ∧ Rv x b) us bs
  | _, _, _, .nil, .nil => .nil
  | _, _, _, .cons r t, .cons h e => .cons ⟨_, r, h⟩ (vals_each t e)
theorem each_vals {Rv : V → List Int → Prop} : ∀ {us : List Value} {bs : List (List Int)}, EachIs (fun v b => ∃ x, RelV x v ∧ Rv x b) us bs → ∃ ys, Vals ys us ∧ EachIs Rv ys bs
  | _, _, .nil => ⟨[], .nil, .nil⟩
  | _, _, .cons ⟨x, r, h⟩ e => let ⟨ys, a, b⟩ := each_vals e; ⟨x :: ys, .cons r a, .cons h b⟩
def rSortD (K : PySem.W.Frag) (enc : List Int → PyData) : List V → Hp → VK → Prop := fun vs H Q => ∃ (a : Addr) (xs : List V) (bs : List (List Int)) (Rv : V → List Int → Prop), vs = [.ref a] ∧ SqL K H a xs ∧ EachIs Rv xs bs ∧ (∀ x b, Rv x b → Dp K H x (enc b)) ∧
  ∀ ys p, EachIs Rv ys (bs.mergeSort fun p q => decide (p ≤ q)) → H p = none → Q (.ref p) (upd H p (.lst ys))
section
variable {X : Cx}
theorem cr_sortTI (hu : X.A.units + 10 < cLine) : CallR X (.builtin "sorted") (rSortD X.K encT) := by
  intro pins s σ H vs us Q I r h
  obtain ⟨a, xs, bs, Rv, rfl, hs, hx, hd, q⟩ := h
  obtain ⟨its, rv, hl, hz⟩ := I.list hs
  obtain ⟨u, rfl, ru⟩ := vals1 r
  obtain rfl : u = Value.ref a := ru
  have e := vals_each rv hx
  have er : EachIs (fun v b => ∃ as, Reads s.heap v (encT b) as) its bs := e.mono fun v b ⟨x, rx, hr⟩ => Dp.reads I _ _ _ (hd x b hr) rx
  have hbl : bs.length = its.length := e.length.symm
  refine sorted_tupsI hl.isList e er (by rw [hbl, ← rv.length]; exact hz) (by omega) fun out ho eo => ?_
  obtain ⟨ys, vy, ey⟩ := each_vals eo
  obtain ⟨ep, he'⟩ := PyProof.Rows.sortedAll_at s.heap its (List.toArray out)
  have hlen : ys.length ≤ sizeLine := by rw [vy.length, ho, hbl, ← rv.length]; exact hz
  exact ⟨.ref _, upd H (s.heap.objs.size + 1) (.lst ys), I.laid (t' := s.toks) (fun _ _ => PyProof.Rows.sortedAll_old) (Nat.le_succ _) ⟨hlen, out, ep, vy, he'⟩, rfl, q _ _ ey (I.hok.fresh (Nat.le_succ _))⟩
theorem cr_sortLI (hu : X.A.units + 10 < cLine) : CallR X (.builtin "sorted") (rSortD X.K encL) := by
  intro pins s σ H vs us Q I r h
  obtain ⟨a, xs, bs, Rv, rfl, hs, hx, hd, q⟩ := h
  obtain ⟨its, rv, hl, hz⟩ := I.list hs
  obtain ⟨u, rfl, ru⟩ := vals1 r
  obtain rfl : u = Value.ref a := ru
  have e := vals_each rv hx
  have er : EachIs (fun v b => ∃ as, Reads s.heap v (encL b) as) its bs := e.mono fun v b ⟨x, rx, hr⟩ => Dp.reads I _ _ _ (hd x b hr) rx
  have hbl : bs.length = its.length := e.length.symm
  refine sorted_data hl.isList e er (AllAlike.of fun b b' => by show alikeAll _ _ = true; exact alike_ints b b') (Sortable.others fun b => ⟨fun z => (nomatch z), fun _ z => (nomatch z)⟩) (by rw [hbl, ← rv.length]; exact hz) (fun b _ => ?_) fun out ho eo => ?_
  · have : (encL b).depth = 1 := by show PyData.depth (.list _) = 1; simp only [PyData.depth]; rw [depth_ints]
    omega
  rw [show dataLe false encL = fun p q : List Int => decide (p ≤ q) from dataLe_rows (fun b : List Int => b)] at eo
  obtain ⟨ys, vy, ey⟩ := each_vals eo
  obtain ⟨ep, he'⟩ := PyProof.Rows.sortedAll_at s.heap its (List.toArray out)
  have hlen : ys.length ≤ sizeLine := by rw [vy.length, ho, hbl, ← rv.length]; exact hz
  exact ⟨.ref _, upd H (s.heap.objs.size + 1) (.lst ys), I.laid (t' := s.toks) (fun _ _ => PyProof.Rows.sortedAll_old) (Nat.le_succ _) ⟨hlen, out, ep, vy, he'⟩, rfl, q _ _ ey (I.hok.fresh (Nat.le_succ _))⟩
end
end L2
set_option maxRecDepth 100000
set_option maxHeartbeats 4000000
namespace My
open PySem L2 PySem.Spec PyProof.Rows
section
variable {X : Cx} {CX : CXT} {n : Nat} {f C : Addr} {fd : FuncData} {ps : List Str} {sp : Sp}
/-- a promise that may raise, called anywhere in the running body -/
theorem call_atS {σ : L2.St} {E : XK} (G0 : FnOk X.prog X.w X.K X.mg X.base CX n f fd ps sp) (hb : Binds X.K fd ps []) (hx : PassesAt CX X σ E) {A : Around} (hr : Room n A) (hA : A.frames = X.A.frames)
    {pins : List (Addr × Obj)} {s : Shared} {H : Hp} (I : Inv X pins σ H s) {vs : List V} {us : List Value} (r : Vals vs us) {Q : VK} (h : sp vs H Q E) :
    wpAny (model X.prog X.w) A (call (.ref f) us) (EP X pins σ Q) X.xe s := by
  have e0 : Env0 X.prog X.w X.K X.mg X.base A X.stack s H := by
    have e := I.env0
    exact ⟨by rw [hA]; exact e.frames, e.mod, e.bs, e.bsz, e.funs, e.frf, e.hok, e.bare⟩
  have hl := G0.len _ _ _ _ h
  refine wpAny_call (codeAny_mono (G0.run A X.stack s H ⟨us, []⟩ us vs Q E hr e0 (by
    have := hb s us I.kIn (by rw [List.append_nil, ← r.length]; exact hl)
    simpa using this) r h) fun r s' hq => ?_)
  cases r with
  | error e => exact hx pins H s e s' I hq
  | ok fl =>
    cases fl with
    | ret w => exact I.after hq
    | next => exact False.elim hq
    | brk => exact False.elim hq
    | cont => exact False.elim hq
/-- a[b], a an instance of the class at C with its own __getitem__ -/
def tIxOwn (C : Addr) (sp : Sp) (E : L2.St → XK) (ta tb : TE) : TE := fun σ H Q => ta σ H fun x H1 => tb σ H1 fun y H2 => ∃ p dx fs, x = .ref p ∧ H2 p = some (.ins C dx fs) ∧ sp [.ref p, y] H2 Q (E σ)
theorem pe_ixOwn {a b : Expr} {ta tb : TE} {pos : Pos} {E : L2.St → XK} (G0 : FnOk X.prog X.w X.K X.mg X.base CX n f fd ps sp) (hb : Binds X.K fd ps []) (hx : ∀ σ, PassesAt CX X σ (E σ)) (hr : Room (n + 1) X.A)
    (hs : PySem.W.findIn X.K (.ref C) "__getitem__" = some (some (.ref f))) (hf : PySem.W.fnIn X.K f = true) (hfn : PySem.W.isFn X.K (.ref f) = true) (ha : PE X a ta) (hbb : PE X b tb)
    (hsl : ∀ x i, subscripted b true (.ref x) i = runValue (.builtin "lifetime.subscript" ⟨[.ref x, i], []⟩)) : PE X (.Subscript a b pos) (tIxOwn C sp E ta tb) := by
  refine ⟨fun pins s σ H Q I h => ?_⟩
  refine Subscript_ (binT ha hbb I h fun v u s2 x y H2 I2 rx ry q => ?_)
  obtain ⟨p, dx, fs, rfl, hp, q⟩ := q
  cases rx
  obtain ⟨mA, J, _⟩ := ins_get I2.hok hp
  obtain ⟨od, J, _⟩ := J.look
  obtain ⟨m, hF⟩ := I2.fr
  exact PySem.W.sub_K hF I2.ok.mod.kin J hs hf hfn (call_atS G0 hb (hx σ) (A := X.A.in1) hr.in1 rfl I2 (vs := [.ref p, y]) (.cons rfl (.cons ry .nil)) q) (hsl _ _)
end
end My
set_option maxRecDepth 100000
set_option maxHeartbeats 4000000
namespace My
open PySem L2 PySem.Spec PyProof.Rows
/-- the truth of a value, inside a comprehension -/
def tTruK (K : PySem.W.Frag) (ta : TE) : TT := fun σ H Q => ta σ H fun x H' => ∃ k, TruV K x H' k ∧ Q k H'
section
variable {X : Cx} {CX : CXT} {E : XK} {n : Nat} {f C : Addr} {fd : FuncData} {ps : List Str} {sp : Sp}
/-- len(x), x an instance of the class at C with its own __len__ -/
def rLenOwn (C : Addr) (sp : Sp) (E : XK) : List V → Hp → VK → Prop := fun xs H Q => ∃ a dx fs, xs = [V.ref a] ∧ H a = some (.ins C dx fs) ∧ sp [.ref a] H (fun v H' => ∃ k : Nat, v = .int (k : Int) ∧ k ≤ 1000000 ∧ Q (.int (k : Int)) H') E
theorem call_lenOwn (G0 : FnOk X.prog X.w X.K X.mg X.base CX n f fd ps sp) (hb : Binds X.K fd ps []) (hx : Passes CX X E) (hr : Room (n + 1) X.A)
    (hs : PySem.W.findIn X.K (.ref C) "__len__" = some (some (.ref f))) (hf : PySem.W.isFn X.K (.ref f) = true) :
    CallR X (.builtin "len") (rLenOwn C sp E) := by
  intro pins s σ H xs us Q I r h
  obtain ⟨a, dx, fs, rfl, ha, q⟩ := h
  obtain ⟨u, rfl, r1⟩ := vals1 r
  cases r1
  obtain ⟨mA, J, _⟩ := ins_get I.hok ha
  obtain ⟨od, J, _⟩ := J.look
  obtain ⟨m, hF⟩ := I.fr
  refine PySem.W.len_K hF I.ok.mod.kin J hs hf (wpAny_mono (call_at G0 hb hx (A := X.A.in1) hr.in1 rfl I (vs := [.ref a]) (.cons rfl .nil) q) (fun v s' z => ?_) fun _ _ z => z)
  obtain ⟨x, H1, I1, r1, k, rfl, hk, z⟩ := z
  obtain ⟨tk, rfl⟩ := r1
  exact ⟨⟨Int.natCast_nonneg _, by omega⟩, .int (k : Int), H1, by first | exact I1.tok _ | exact I1, ⟨_, rfl⟩, z⟩
/-- isinstance(e, (c1, c2)) of a caught error with fields -/
def rIsET (K : PySem.W.Frag) (a : Addr) (cls : Value) (d : Option Addr) : List V → Hp → VK → Prop := fun xs H Q => ∃ D dd fs, cls = .ref D ∧ d = some dd ∧ H dd = some (.xd fs) ∧ ExcC K D ∧
  ∃ (tp : Addr) (cs : List V) (us : List Value) (b : Bool), xs = [.ref a, .ref tp] ∧ H tp = some (.tup cs) ∧ Paired ClsV cs us ∧ PySem.W.kitAny K (.ref D) us = some b ∧ Q (.bl b) H
theorem call_isExT {a : Addr} {oe : Obj} {cls : Value} {d : Option Addr} {pn : List (Addr × Obj)} (hz : Zc cls d oe) (hf : ∃ vs, oe.data = .fields vs) :
    CallR (X.suite a ((a, oe) :: pn)) (.builtin "isinstance") (rIsET X.K a cls d) := by
  intro pins s σ H xs us Q I r h
  obtain ⟨D, dd, fs, rfl, rfl, hd, C, tp, cs, ws, b, rfl, hT, k, e, q⟩ := h
  obtain ⟨u1, u2, rfl, r1, r2⟩ := vals2 r
  cases (show u2 = Value.ref tp from r2)
  cases (show u1 = Value.ref a from r1)
  obtain ⟨hget, _⟩ := I.pin (a, oe) (List.mem_append.mpr (.inl List.mem_cons_self))
  obtain ⟨vs, hv⟩ := hf
  have hx : ObjOk X.prog X.w H s.heap dd (.xd fs) := I.hok dd _ hd
  obtain ⟨mA, ⟨od, es, ep, ho, _⟩, _⟩ := hx
  have J : PySem.W.InstAt s.heap a oe D (some od) := ⟨hget, hz.1, by unfold PySem.W.notCls; rw [hv] <;> rfl, by rw [hz.2]; exact ho⟩
  obtain ⟨cdD, hcD, _⟩ := PySem.W.any_some C.hd
  obtain ⟨_, its, rv, o, h1, h2, n, h3⟩ := (show ObjOk X.prog X.w H s.heap tp (.tup cs) from I.hok tp _ hT)
  have e3 := ClsV.all k rv
  subst e3
  obtain ⟨oc, od2, dt, sl⟩ := o
  simp only at h2 h3
  subst h2 h3
  exact PySem.W.kia_tup (PySem.W.kitx_exc (od := some od) (by rw [hcD]; rfl) C.hg C.hk C.hs C.ha C.hn C.ht C.hm) I.kIn J h1 e (fun z => nomatch z) fun tk => ⟨.bl b, H, I.tok tk, rfl, q⟩
theorem band (a b : Nat) : Builtin.bitAnd (a : Int) (b : Int) = ((a &&& b : Nat) : Int) := by
  unfold Builtin.bitAnd
  simp
theorem bor (a b : Nat) : Builtin.bitOr (a : Int) (b : Int) = ((a ||| b : Nat) : Int) := by
  rw [bitOr_nn (Int.natCast_nonneg _) (Int.natCast_nonneg _), Int.toNat_natCast, Int.toNat_natCast]
theorem op_andN {X : Cx} : OpR X (binaryOp .BitAnd) (fun x y H Q => ∃ a b : Nat, x = .int (a : Int) ∧ y = .int (b : Int) ∧ Q (.int ((a &&& b : Nat) : Int)) H) := by
  intro pins s σ H x y v u Q I rx ry h
  obtain ⟨a, b, rfl, rfl, q⟩ := h
  rw [← band] at q
  exact op_and pins s σ H _ _ v u Q I rx ry ⟨_, _, rfl, rfl, q⟩
theorem op_orN {X : Cx} : OpR X (binaryOp .BitOr) (fun x y H Q => ∃ a b : Nat, x = .int (a : Int) ∧ y = .int (b : Int) ∧ Q (.int ((a ||| b : Nat) : Int)) H) := by
  intro pins s σ H x y v u Q I rx ry h
  obtain ⟨a, b, rfl, rfl, q⟩ := h
  rw [← bor] at q
  exact op_or pins s σ H _ _ v u Q I rx ry ⟨_, _, rfl, rfl, q⟩
end
end My
set_option maxRecDepth 100000
set_option maxHeartbeats 4000000
namespace My
open PySem L2 PySem.Spec PyProof.Rows
section
variable {X : Cx} {CX : CXT} {E : XK} {n : Nat} {f C : Addr} {fd : FuncData} {ps : List Str} {sp : Sp}
/-- x in o, o's class with its own __contains__ that gives a truth value -/
def rInOwn (C : Addr) (sp : Sp) (E : XK) (neg : Bool) : R2 := fun x y H Q => ∃ a dx fs, y = .ref a ∧ H a = some (.ins C dx fs) ∧ sp [.ref a, x] H (fun v H' => ∃ k, v = .bl k ∧ Q (.bl (if neg = true then !k else k)) H') E
theorem op_inOwn (G0 : FnOk X.prog X.w X.K X.mg X.base CX n f fd ps sp) (hb : Binds X.K fd ps []) (hx : Passes CX X E) (hr : Room n X.A)
    (hs : PySem.W.findIn X.K (.ref C) "__contains__" = some (some (.ref f))) (hf : PySem.W.isFn X.K (.ref f) = true) : OpR X (compareOp .In) (rInOwn C sp E false) := by
  intro pins s σ H x y v u Q I rx ry h
  obtain ⟨a, dx, fs, rfl, ha, q⟩ := h
  cases ry
  obtain ⟨mA, J, _⟩ := ins_get I.hok ha
  obtain ⟨od, J, _⟩ := J.look
  obtain ⟨m, hF⟩ := I.fr
  refine PySem.W.in_K hF I.ok.mod.kin J hs hf ?_
  refine wpAny_mono (call_at G0 hb hx hr rfl I (vs := [.ref a, x]) (.cons rfl (.cons rx .nil)) q) (fun r s' z => ?_) fun _ _ z => z
  obtain ⟨z, H1, I1, r1, k, rfl, q1⟩ := z
  cases r1
  exact wpAny_truthy_bool ⟨.bl k, H1, I1, rfl, q1⟩
theorem op_notInOwn (G0 : FnOk X.prog X.w X.K X.mg X.base CX n f fd ps sp) (hb : Binds X.K fd ps []) (hx : Passes CX X E) (hr : Room n X.A)
    (hs : PySem.W.findIn X.K (.ref C) "__contains__" = some (some (.ref f))) (hf : PySem.W.isFn X.K (.ref f) = true) : OpR X (compareOp .NotIn) (rInOwn C sp E true) := by
  intro pins s σ H x y v u Q I rx ry h
  obtain ⟨a, dx, fs, rfl, ha, q⟩ := h
  cases ry
  obtain ⟨mA, J, _⟩ := ins_get I.hok ha
  obtain ⟨od, J, _⟩ := J.look
  obtain ⟨m, hF⟩ := I.fr
  refine PySem.W.notIn_K hF I.ok.mod.kin J hs hf ?_
  refine wpAny_mono (call_at G0 hb hx hr rfl I (vs := [.ref a, x]) (.cons rfl (.cons rx .nil)) q) (fun r s' z => ?_) fun _ _ z => z
  obtain ⟨z, H1, I1, r1, k, rfl, q1⟩ := z
  cases r1
  exact wpAny_truthy_bool ⟨.bl (!k), H1, I1, rfl, q1⟩
/-- ~o -/
theorem un_inv (G0 : FnOk X.prog X.w X.K X.mg X.base CX n f fd ps sp) (hb : Binds X.K fd ps []) (hx : Passes CX X E) (hr : Room n X.A)
    (hs : PySem.W.findIn X.K (.ref C) "__invert__" = some (some (.ref f))) (hf : PySem.W.isFn X.K (.ref f) = true) : UnR X (unaryOp .Invert) (rOwn1 C sp E) := by
  intro pins s σ H x v Q I rx h
  obtain ⟨a, dx, fs, rfl, ha, q⟩ := h
  cases rx
  obtain ⟨mA, J, _⟩ := ins_get I.hok ha
  obtain ⟨od, J, _⟩ := J.look
  obtain ⟨m, hF⟩ := I.fr
  exact PySem.W.ksp_inv hF I.ok.mod.kin J hs hf (call_at G0 hb hx hr rfl I (vs := [.ref a]) (.cons rfl .nil) q)
/-! ### a thing is forgotten -/
theorem hok_forget {P : Program} {w : World} {H : Hp} {h : Heap} {x : Addr} {φ : Heap → Prop} (hx : H x = none) (ok : HOk P w (upd H x (.ext φ)) h) : HOk P w H h := fun b u e => by
  have hb : b ≠ x := ne_of_none e hx
  refine (ok b u (by rw [upd_ne hb]; exact e)).stay (fun _ _ _ q => q) (fun c q => ?_) fun c xs q => ?_
  · by_cases hc : c = x
    · rw [hc, upd_same] at q; cases q
    · rw [upd_ne hc] at q; exact q
  · by_cases hc : c = x
    · rw [hc, upd_same] at q; cases q
    · rw [upd_ne hc] at q; exact q
theorem inv_forget {pins : List (Addr × Obj)} {σ : L2.St} {H : Hp} {s : Shared} {x : Addr} {φ : Heap → Prop} (hx : H x = none) (I : Inv X pins σ (upd H x (.ext φ)) s) : Inv X pins σ H s := by
  have no : ∀ {b : Addr} {o : HO}, upd H x (.ext φ) b = some o → (∀ ψ, o ≠ .ext ψ) → H b = some o := fun {b o} q hn => by
    by_cases hc : b = x
    · rw [hc, upd_same] at q; cases q; exact absurd rfl (hn φ)
    · rw [upd_ne hc] at q; exact q
  have nn : ∀ {b : Addr}, upd H x (.ext φ) b = none → H b = none := fun {b} q => by
    by_cases hc : b = x
    · rw [hc, upd_same] at q; cases q
    · rw [upd_ne hc] at q; exact q
  refine ⟨I.ok, I.os, I.bare, ⟨I.base.keep, I.base.slot, fun b o e n hx => nn (I.base.free b o e n hx), I.base.there, fun b xs q => no (I.base.tups b xs q) (fun _ => nofun), fun b o u q => no (I.base.frzs b o u q) (fun _ => nofun), fun b ps q => ?_⟩, I.loc, I.cell, nn I.free, fun y c e => nn (I.freeC y c e), fun p hp => ?_, hok_forget hx I.hok, I.len⟩
  · obtain ⟨m, e⟩ := I.base.tbls b ps q
    exact ⟨m, no e (fun _ => nofun)⟩
  · obtain ⟨e, n, ne, nf, d⟩ := I.pin p hp
    exact ⟨e, nn n, ne, nf, d⟩
end
/-! ### a promise that knows the state at the call -/
structure FnAt (P : Program) (w : World) (K : PySem.W.Frag) (mg : Str → Option Value) (base : Heap) (CX : CXT) (k : Nat) (f : Addr) (fd : FuncData) (ps : List Str) (sp : Shared → Sp) : Prop where
  len : ∀ s vs H Q E, sp s vs H Q E → vs.length = ps.length
  run : ∀ (A : Around) (outer : List Env) (s : Shared) (H : Hp) (args : Args) (us : List Value) (vs : List V) (Q : VK) (E : XK), Room k A → Env0 P w K mg base A outer s H → BindsTo s fd args (ps.zip us) → Vals vs us → sp s vs H Q E →
    codeAny (model P w) A (.call (.ref f) args) (CR CX outer P w H s Q E) s
theorem fun_okAt {P : Program} {w : World} {K : PySem.W.Frag} {mg : Str → Option Value} {base : Heap} {CX : CXT} {x qual : Str} {st : Stmt} {f : Addr} {fd : FuncData} {N ps : List Str} {k : Nat} {sp : Shared → Sp} (F : Fun K x qual st f fd) (S : FnScope N ps (defScope st)) (len : ∀ s vs H Q E, sp s vs H Q E → vs.length = ps.length)
    (hbody : ∀ (cdv : Value) (A : Around) (outer : List Env) (s : Shared) (H : Hp) (vs : List V) (Q : VK) (E : XK), Room k (A.deeper (PyProof.Rows.envOfC qual (defScope st) s.heap.objs.size f cdv)) → sp s vs H Q E →
      ∃ t, PSs (cxOf CX P w K mg base N qual (defScope st) f cdv A outer s H E) (defBody st) t ∧ t { nx := fun _ H' => Q .non H', rt := Q } (L2.start N vs) H) : FnAt P w K mg base CX (k + 1) f fd ps sp := by
  obtain ⟨oc, od, kV, doc, pm, an, cdv, ct, osl, rfl, lk, hcd⟩ := F.ex
  refine ⟨len, fun A outer s H args us vs Q E hr e0 hb r hsp => ?_⟩
  have hl := len _ _ _ _ _ hsp
  have KX : K.In s.heap := e0.mod.kin.keeps fun b o e => (e0.bs b o e).1
  have lim : s.heap.NoLimit := e0.mod.nolimit.keeps fun b o e => (e0.bs b o e).1
  have hkind : ∀ y ∈ ps.zip us, (defScope st).names.lookup y.1 = some .local ∨ ((defScope st).names.lookup y.1 = some .cell ∧ ((cellsFrom (s.heap.objs.size + 1) (defScope st).names []).lookup y.1).isSome = true) := fun ⟨n, v⟩ hy => by
    rcases S.par n (List.of_mem_zip hy).1 with q | q
    · exact .inl q
    · exact .inr ⟨q, PySem.W.cellsFrom_some _ _ _ (.inl q)⟩
  refine codeAny_call_function hr.depth (KX _ _ lk) rfl S.co S.gen rfl (PySem.W.codeRec_of KX hcd) (hb _ _ _ _ ?_)
  refine wpAny_newFunctionEnv_cells S.kind hkind fun env he s1 x => ?_
  subst he
  refine ⟨lim.keeps x.toInCall.keep, codeAny_func ?_⟩
  obtain ⟨t, ht, hq⟩ := hbody cdv A outer s H vs Q E (hr.deeper _) hsp
  have I : Inv (cxOf CX P w K mg base N qual (defScope st) f cdv A outer s H E) [] (L2.start N vs) H s1 := inv_start S hr.hd e0 hl r x
  refine wpAny_mono (ht.run [] s1 (L2.start N vs) H _ I hq) (fun fl s' hs => ?_) fun e s' hs => hs
  have fin : ∀ {σ' : L2.St} {H' : Hp} {v : V} {u : Value}, Inv (cxOf CX P w K mg base N qual (defScope st) f cdv A outer s H E) [] σ' H' s' → RelV v u → Q v H' → CE outer P w H s Q u s' :=
    fun {σ' H' v u} J rv q => ⟨v, H', J.os, J.bare, J.base, J.hok, rv, q⟩
  cases fl with
  | ret u =>
    obtain ⟨v, σ', H', J, rv, q⟩ := hs
    exact fin J rv q
  | next =>
    obtain ⟨σ', H', J, q⟩ := hs
    exact fin (v := V.non) (u := Value.none) J rfl q
  | brk =>
    obtain ⟨_, _, _, q⟩ := hs
    exact False.elim q
  | cont =>
    obtain ⟨_, _, _, q⟩ := hs
    exact False.elim q
section
variable {X : Cx}
/-- iter(t) of a tuple; the iterator is younger than the call -/
theorem call_iterTS : CallR X (.builtin "iter") (fun xs H Q => ∃ (l : Addr) (zs : List V), xs = [.ref l] ∧ SqT X.K H l zs ∧ ∀ it, H it = none → X.s_0.heap.objs.size ≤ it → Q (.ref it) (upd H it (TitO l it 0))) := by
  intro pins s σ H xs us Q I r h
  obtain ⟨l, zs, rfl, hq, q⟩ := h
  obtain rfl := Vals.ref1 r
  obtain ⟨its, rv, pl, hz⟩ := I.tuple hq
  refine Calls.call_function_entry (by decide +kernel) (by decide +kernel) PySem.W.kdk_entry_iter (PySem.W.kdk_args_iter _) ?_
  unfold Builtin.«iter»
  refine wpAny_bind (m := someArgs "iter" 1 2 _) (wpAny_of_eq (a := [Value.ref l]) (by first | rfl | kernel_rfl!) ?_)
  show wpAny _ _ (pyIter (.ref l) >>= _) _ _ _
  refine wpAny_bind (wpAny_pyIter_tuple (show s.heap.IsTuple l its.toArray from pl) (wpAny_pure ⟨_, rfl, ?_⟩))
  exact ⟨.ref s.heap.objs.size, _, I.laid (t' := s.toks) (fun b u e => Heap.get?_push_of_some _ e) (Nat.le_refl _) (titO_ok ⟨_, Heap.get?_push_size _ rfl, rfl, rfl⟩), rfl, q _ (I.hok.fresh (Nat.le_refl _)) I.sz⟩
/-- what such an __iter__ promises: an iterator over the tuple at l, at its beginning -/
def spItS (C : Addr) (L : Hp → Addr → List (Str × V) → Addr → Prop) : Shared → Sp := fun s vs H Q _ => ∃ p dx fs l, vs = [.ref p] ∧ H p = some (.ins C dx fs) ∧ L H p fs l ∧ ∀ it, H it = none → s.heap.objs.size ≤ it → Q (.ref it) (upd H it (TitO l it 0))
def iOwn (K : PySem.W.Frag) (C : Addr) (L : Hp → Addr → List (Str × V) → Addr → Prop) (tl : TE) : TI := fun σ H R => tl σ H fun x H1 => ∃ a dx fs l xs, x = .ref a ∧ H1 a = some (.ins C dx fs) ∧ L H1 a fs l ∧ SqT K H1 l xs ∧ R (Itt K l) H1
theorem pi_own {tg e : Expr} {tl : TE} {n : Nat} {f C : Addr} {fd : FuncData} {ps : List Str} {L : Hp → Addr → List (Str × V) → Addr → Prop} (he : PE X e tl) (G0 : FnAt X.prog X.w X.K X.mg X.base CX0 n f fd ps (spItS C L)) (hb : Binds X.K fd ps []) (hr : Room n X.A)
    (hs : PySem.W.findIn X.K (.ref C) "__iter__" = some (some (.ref f))) (hf : PySem.W.isFn X.K (.ref f) = true) : PI X tg e (iOwn X.K C L tl) := by
  refine ⟨fun pins s σ H R I h => ?_⟩
  refine thn (he.run pins s σ H _ I h) fun v s1 ⟨x, H1, I1, r1, q1⟩ => ?_
  obtain ⟨a, dx, fs, l, xs, rfl, ha, hL, hq, q⟩ := q1
  cases r1
  obtain ⟨mA, J, _⟩ := ins_get I1.hok ha
  obtain ⟨od, J, _⟩ := J.look
  obtain ⟨m, hF⟩ := I1.fr
  refine PySem.W.owit_iter hF I1.ok.mod.kin J hs hf ?_
  have hsp : spItS C L s1 [.ref a] H1 (fun v H2 => ∃ it, v = .ref it ∧ H1 it = none ∧ s1.heap.objs.size ≤ it ∧ H2 = upd H1 it (TitO l it 0)) (fun _ _ _ => False) := ⟨a, dx, fs, l, rfl, ha, hL, fun it h1 h2 => ⟨it, rfl, h1, h2, rfl⟩⟩
  have r : Vals [V.ref a] [Value.ref a] := .cons rfl .nil
  have e0 : Env0 X.prog X.w X.K X.mg X.base X.A X.stack s1 H1 := I1.env0
  have hl := G0.len _ _ _ _ _ hsp
  refine wpAny_call (codeAny_mono (G0.run X.A X.stack s1 H1 ⟨[.ref a], []⟩ [.ref a] [.ref a] _ _ hr e0 (by
    have := hb s1 [.ref a] I1.kIn (by rw [List.append_nil]; exact hl)
    simpa using this) r hsp) fun r s' hq' => ?_)
  cases r with
  | error e => exact False.elim hq'
  | ok fl =>
    cases fl with
    | ret u =>
      obtain ⟨v, H2, I2, rv, it, rfl, hn, hsz, rfl⟩ := I1.after hq'
      obtain rfl : u = Value.ref it := rv
      have hit := titO_get I2 upd_same
      unfold PySem.W.OwitIt
      refine wpAny_specialOf (show s'.TypeIs (.ref it) "tuple_iterator" from hit.typeIs) PySem.F.slot_tuple_iterator_next.lookup ?_
      have I3 := inv_forget hn I2
      refine ⟨it, [it], _, _, H1, rfl, I3, turn_tuple l it, hit, fun b hb => ?_, q⟩
      have e : b = it := by simpa using hb
      subst e
      exact I1.fpOk hsz hn
    | next => exact False.elim hq'
    | brk => exact False.elim hq'
    | cont => exact False.elim hq'
end
/-! ### several except clauses with a name -/
def wManyAs (K : PySem.W.Frag) (i : Nat) (Wout : WX) (D : Ends) : List (Value × (Addr → Value → Option Addr → TS)) → WX
  | [] => Wout
  | (c, ts) :: r => fun cls d σ H => ∃ b, PySem.W.exmOne K cls c = some b ∧ (b = true → ∀ a, H a = none → ts a cls d { nx := fun σ' H' => D.nx (σ'.set i none) H', rt := D.rt, bk := fun σ' H' => D.bk (σ'.set i none) H', ct := fun σ' H' => D.ct (σ'.set i none) H' } (σ.set i (some (.ref a))) H) ∧ (b = false → wManyAs K i Wout D r cls d σ H)
inductive HdsAs (X : Cx) (n : Str) : List ExceptHandler → List (Value × (Addr → Value → Option Addr → TS)) → Prop
  | nil : HdsAs X n [] []
  | cons {x : Str} {c : Value} {ts : Addr → Value → Option Addr → TS} {b₀ : Stmt} {suite : List Stmt} {np pos' : Pos} {hds : List ExceptHandler} {l : List (Value × (Addr → Value → Option Addr → TS))} (hc : Names X x c)
      (hsu : ∀ (a : Addr) (oe : Obj) (cls : Value) (d : Option Addr) (pn : List (Addr × Obj)), Zc cls d oe → (∃ vs, oe.data = .fields vs) → PSs (X.suite a ((a, oe) :: pn)) (b₀ :: suite) (ts a cls d)) (r : HdsAs X n hds l) :
      HdsAs X n (.ExceptHandler (some (.Name x np)) (some n) (b₀ :: suite) pos' :: hds) ((c, ts) :: l)
section
variable {X : Cx} {n : Str} {i : Nat} {body : List Stmt} {h₀ : ExceptHandler} {hds : List ExceptHandler} {l : List (Value × (Addr → Value → Option Addr → TS))} {pos : Pos} {tb : WX → TS} {Wout : WX}
theorem ps_try_as_many (hs : X.stack = X.env :: X.outer) (hf : X.env.frame = some X.env.locals) (hN : X.N.Nodup) (hi : X.N[i]? = some n) (hln : X.env.kindOf n = some .local) (tk : Takes X Wout)
    (hb : ∀ (W : WX) (pn : List (Addr × Obj)) (xe : Value → Shared → Prop), Takes (X.tr pn xe) W → PassesOwn (model X.prog X.w) X.A X.env xe → PSs (X.tr pn xe) body (tb W))
    (hh : HdsAs X n (h₀ :: hds) l) : PS X (.Try body (h₀ :: hds) [] [] pos) (fun D σ H => tb (wManyAs X.K i Wout D l) D σ H) := by
  refine ⟨fun pins s σ H D I h => ?_⟩
  have ok := I.ok
  have hloc : Loc X.env.scope n := .inl hln
  have hfr : X.A.frames = some (X.env :: X.outer) := by rw [ok.frames, hs]
  refine wpAny_Try_except ?_
  refine wpAny_mono ((hb (wManyAs X.K i Wout D l) (X.pn ++ pins) (fun e s₁ => wpAny (model X.prog X.w) X.A (noteFrame e X.env) (fun _ s₂ => wpAny (model X.prog X.w) X.A (setFlight e none) (fun _ s₃ =>
    wpAny (model X.prog X.w) X.A (handleBy e X.env (h₀ :: hds)) (SP X pins D) X.xe s₃) X.xe s₂) X.xe s₁) (fun u s' xx => ?_) PassesOwn.looking).run [] s σ H D (I.toTry _) h) (fun f s1 hsp => ?_) (fun e s1 he => he)
  · obtain ⟨a, B, sI, pins', σ', H', cls, d, rfl, J', nb, up, sky, na, os, ag, w⟩ := xx
    have J : Inv X pins σ' H' sI := J'.ofTry ok
    have sky' : Sky B (X.env :: X.outer) a (Zc cls d) X.env.locals s'.heap := by rw [← hs]; exact sky
    show wpAny (model X.prog X.w) X.A (noteFrame (.ref a) X.env) _ _ _
    refine Sky.land Zc.steady hfr hf sky' fun h3 fl3 up3 => ?_
    have J3 : Inv X pins σ' H' { s' with heap := h3 } := J.landed nb fl3.1 (up.trans up3) os ag
    obtain ⟨oe3, vs3, he3, hz3, hd3⟩ := fl3.there
    have notFr : ∀ {h : Heap} {o : Obj} {vs : Array Value}, h.FunFrames B (X.env :: X.outer) → h.get? a = some o → o.data = .fields vs → a ∉ frs (X.env :: X.outer) := fun {h o vs} ff e dd hm => by
      obtain ⟨_, o', e', hnf⟩ := ff.mem hm
      rw [e] at e'; cases e'
      exact hnf _ dd
    have nfr := notFr fl3.2.2.1 he3 hd3
    have nL : a ≠ X.env.locals := fun z => nfr (List.mem_filterMap.mpr ⟨X.env, List.mem_cons_self, by rw [hf, z]⟩)
    have nF : a ∉ X.fs := fun hm => by
      obtain ⟨e, he, q⟩ := List.mem_filterMap.mp hm
      exact nfr (List.mem_filterMap.mpr ⟨e, List.mem_cons_of_mem _ he, q⟩)
    have S3 := J3.suite he3 hd3 na nL nF
    have go : ∀ {hds' : List ExceptHandler} {l' : List (Value × (Addr → Value → Option Addr → TS))}, HdsAs X n hds' l' → wManyAs X.K i Wout D l' cls d σ' H' →
        wpAny (model X.prog X.w) X.A (handleBy (.ref a) X.env hds') (SP X pins D) X.xe { s' with heap := h3 } := by
      intro hds' l' hk
      induction hk with
      | nil =>
        intro w
        refine wpAny_handleBy_nil ?_
        obtain ⟨k1, k2, k3, oe, vs, T, oT, ts', he, hz, hd, h1, hr⟩ := id fl3
        unfold PySem.passOn
        refine wpAny_bind (wpAny_field he hd h1 ?_)
        rw [if_neg (show ¬ ((Value.ref T == Value.none) = true) from by simp)]
        have fin : wpAny (model X.prog X.w) X.A (setFlight (.ref a) X.env.frame) (fun _ s4 => wpAny (model X.prog X.w) X.A (throw (.ref a) : Sem Flow) (SP X pins D) X.xe s4) X.xe { s' with heap := h3 } := by
          rw [hf]
          refine HandSPX.setFlight_upZ fl3 fun h4 hh4 up4 => wpAny_throw (tk _ _ ?_)
          exact ⟨a, B, sI, pins, σ', H', cls, d, rfl, J, nb, (up.trans up3).trans up4, .inr (.inr (by rw [hs]; exact hh4)), na, os, ag, w⟩
        first
          | exact wpAny_bind (wpAny_pure (wpAny_bind fin))
          | exact wpAny_bind fin
      | @cons x c ts b₀ suite np pos' hds2 l2 hc hsu r ih =>
        intro w
        obtain ⟨b, hb1, hyes, hno⟩ := w
        refine wpAny_handleBy_cons (codeAny_handlers_test ?_) (by intro q; cases q)
        have LT : PySem.W.Looks (model X.prog X.w) h3 (typeOf (.ref a)) cls := fun A Q E s k q => wpAny_typeOf_ref (k _ _ he3) (by rw [hz3.1]; exact q)
        have LM := PySem.W.exm_one (M := model X.prog X.w) (J3.kIn) LT hb1
        have test : ∀ {Q : Value → Shared → Prop} {E : Value → Shared → Prop}, Q c { s' with heap := h3 } → wpAny (model X.prog X.w) (X.A.mark (some (.ref a))) (eval (.Name x np) X.env) Q E { s' with heap := h3 } := fun {Q E} q => by
          obtain ⟨hg, hdbg, hm | ⟨hm, hv, hnn⟩⟩ := hc
          · exact ld_glob (X := X.suite a ((a, oe3) :: (X.pn ++ pins))) S3 hg hm q hdbg
          · exact ld_blt (X := X.suite a ((a, oe3) :: (X.pn ++ pins))) S3 hg hm hv q hnn hdbg
        refine test (LM.here ?_)
        cases b with
        | true =>
          refine codeAny_handlers_suite_as ?_
          refine HandSPX.lands_againZ fl3 fun h4 fl4 up4 => ?_
          have J4 : Inv X pins σ' H' { s' with heap := h4 } := J.landed nb fl4.1 ((up.trans up3).trans up4) os ag
          obtain ⟨oe4, vs4, he4, hz4, hd4⟩ := fl4.there
          have S4 := J4.suite he4 hd4 na nL nF
          refine store_ok (X := X.suite a ((a, oe4) :: (X.pn ++ pins))) (v := .ref a) S4 hN hi hloc rfl (fun s5 S5 => ?_) (.inr hln)
          refine wpAny_mono ((hsu a oe4 cls d (X.pn ++ pins) hz4 ⟨_, hd4⟩).run [] s5 _ H' _ S5 (hyes rfl a na)) (fun f s6 hsp => ?_) (fun _ _ z => False.elim z)
          have end_ : ∀ {σ6 : L2.St} {H6 : Hp} {Q : Shared → Prop}, Inv (X.suite a ((a, oe4) :: (X.pn ++ pins))) [] σ6 H6 s6 → (∀ s7, Inv X pins (σ6.set i none) H6 s7 → Q s7) →
              wpAny (model X.prog X.w) X.A (do bindName X.env n .none; unbindBehindTheSuite X.env n pos') (fun _ s7 => Q s7) X.xe s6 := fun {σ6 H6 Q} S6 hq => gone_ok (S6.unsuite ok) hN hi hln hq
          cases f with
          | next =>
            obtain ⟨σ6, H6, S6, q6⟩ := hsp
            exact end_ S6 fun s7 J7 => ⟨_, _, J7, q6⟩
          | brk =>
            obtain ⟨σ6, H6, S6, q6⟩ := hsp
            exact end_ S6 fun s7 J7 => ⟨_, _, J7, q6⟩
          | cont =>
            obtain ⟨σ6, H6, S6, q6⟩ := hsp
            exact end_ S6 fun s7 J7 => ⟨_, _, J7, q6⟩
          | ret u =>
            obtain ⟨v6, σ6, H6, S6, r6, q6⟩ := hsp
            exact end_ S6 fun s7 J7 => ⟨_, _, _, J7, r6, q6⟩
        | false =>
          show wpAny _ X.A (handleBy (.ref a) X.env hds2) _ _ _
          exact ih (hno rfl)
    exact go hh w
  · cases f with
    | next =>
      obtain ⟨σ', H', J', q⟩ := hsp
      exact wpAny_execs_nil ⟨σ', H', J'.ofTry ok, q⟩
    | brk =>
      obtain ⟨σ', H', J', q⟩ := hsp
      exact ⟨σ', H', J'.ofTry ok, q⟩
    | cont =>
      obtain ⟨σ', H', J', q⟩ := hsp
      exact ⟨σ', H', J'.ofTry ok, q⟩
    | ret u =>
      obtain ⟨v, σ', H', J', r, q⟩ := hsp
      exact ⟨v, σ', H', J'.ofTry ok, r, q⟩
end
end My
set_option maxRecDepth 100000
set_option maxHeartbeats 4000000
namespace My
open PySem L2 PySem.Spec PyProof.Rows
/-! ### t[:0:-1], t a tuple -/
theorem fm_congr {α β : Type} {f g : α → Option β} : ∀ {l : List α}, (∀ x ∈ l, f x = g x) → l.filterMap f = l.filterMap g
  | [], _ => rfl
  | a :: l, h => by
    rw [List.filterMap_cons, List.filterMap_cons, h a List.mem_cons_self, fm_congr fun x hx => h x (List.mem_cons_of_mem _ hx)]
theorem back_pick (xs : Array Value) : ((List.range (xs.size - 1)).filterMap fun (m : Nat) => xs[(((xs.size : Nat) : Int) - 1 + (m : Int) * (-1)).toNat]?) = (xs.toList.drop 1).reverse := by
  obtain ⟨l⟩ := xs
  cases l with
  | nil => rfl
  | cons a t =>
    simp only [List.size_toArray, List.getElem?_toArray, List.length_cons, List.drop_succ_cons, List.drop_zero]
    rw [Nat.add_sub_cancel]
    have e : ∀ m ∈ List.range t.length, (a :: t)[((((t.length + 1 : Nat)) : Int) - 1 + (m : Int) * (-1)).toNat]? = t.reverse[m]? := fun m hm => by
      have hm := List.mem_range.mp hm
      have e1 : ((((t.length + 1 : Nat)) : Int) - 1 + (m : Int) * (-1)).toNat = (t.length - 1 - m) + 1 := by omega
      rw [e1, List.getElem?_cons_succ, List.getElem?_reverse hm]
    have e2 : (List.range t.length).filterMap (fun (m : Nat) => (a :: t)[((((t.length + 1 : Nat)) : Int) - 1 + (m : Int) * (-1)).toNat]?) = (List.range t.length).filterMap (fun m => t.reverse[m]?) :=
      fm_congr e
    rw [e2]
    have h := PySem.W.krv_all t.reverse.toArray
    simpa using h
theorem back_adjust (n : Nat) : Builtin.Slice.sliceAdjust none (some 0) (-1) (n : Int) = ((n : Int) - 1, if n = 0 then -1 else 0) := by
  by_cases h : n = 0
  · subst h; rfl
  · rw [if_neg h]
    have e : min (0 : Int) ((n : Int) - 1) = 0 := by omega
    show ((n : Int) - 1, min (0 : Int) ((n : Int) - 1)) = _
    rw [e]
theorem back_places (n : Nat) : Builtin.Slice.slicePlaces ((n : Int) - 1) (if n = 0 then -1 else 0) (-1) = n - 1 := by
  unfold Builtin.Slice.slicePlaces
  rw [if_neg (show ¬ ((-1 : Int) > 0) by decide)]
  by_cases h : n = 0
  · subst h; rfl
  · rw [if_neg h]
    by_cases h1 : n = 1
    · subst h1; rfl
    · rw [if_pos (by omega), show (- -1 : Int) = 1 by decide, Int.ediv_one]
      omega
section
variable {prog : Program} {w : World} {A : Around} {E : Value → Shared → Prop} {s : Shared}
theorem back_applied {sl : Addr} {vl vu vs : Value} {n : Nat} {Q : Int × Int × Nat → Shared → Prop} (hs : s.heap.IsSliceOf sl vl vu vs) (pl : IsPart vl none) (pu : IsPart vu (some 0)) (ps : IsPart vs (some (-1)))
    (h : Q ((n : Int) - 1, -1, n - 1) s) : wpAny (model prog w) A (Builtin.Slice.sliceApplied (.ref sl) (pure (n : Int))) Q E s := by
  obtain ⟨os, hos, hcs, hds⟩ := id hs
  unfold Builtin.Slice.sliceApplied Builtin.Slice.sliceFields
  refine wpAny_bind (wpAny_bind (wpAny_field hos hds (x := vl) rfl (wpAny_bind (wpAny_field hos hds (x := vu) rfl (wpAny_bind (wpAny_field hos hds (x := vs) rfl (wpAny_pure ?_)))))))
  refine wpAny_bind (HT.slicePart_ ps ?_)
  show wpAny _ _ (if ((-1 : Int) == 0) = true then _ else _) _ _ s
  rw [if_neg (by decide)]
  refine wpAny_bind (HT.slicePart_ pl (wpAny_bind (HT.slicePart_ pu (wpAny_bind (wpAny_pure ?_)))))
  show wpAny _ _ (match Builtin.Slice.sliceAdjust none (some 0) (-1) (n : Int) with | (lo, hi) => pure (lo, (-1 : Int), Builtin.Slice.slicePlaces lo hi (-1))) _ _ s
  rw [back_adjust n]
  show wpAny _ _ (pure ((n : Int) - 1, (-1 : Int), Builtin.Slice.slicePlaces ((n : Int) - 1) (if n = 0 then -1 else 0) (-1))) _ _ s
  rw [back_places]
  exact wpAny_pure h
theorem getItem_tuple_back {t sl : Addr} {items : Array Value} {vl vu vs : Value} {Q : Value → Shared → Prop} (ht : IsTup s.heap t items) (hs : s.heap.IsSliceOf sl vl vu vs) (pl : IsPart vl none) (pu : IsPart vu (some 0)) (ps : IsPart vs (some (-1)))
    (h : Q (.ref s.heap.objs.size) { s with heap := s.heap.push { cls := .type "tuple", data := .seq (items.toList.drop 1).reverse.toArray } })
    (hsz : items.size ≤ sizeLine) : wpAny (model prog w) A (getItem (.ref t) (.ref sl)) Q E s := by
  have htake : sizeOk (.seq (items.toList.drop 1).reverse.toArray) := by
    show (items.toList.drop 1).reverse.toArray.size ≤ sizeLine
    rw [List.size_toArray, List.length_reverse, List.length_drop, Array.length_toList]
    omega
  obtain ⟨os, hos, hcs, hds⟩ := id hs
  have hTs : s.TypeIs (.ref sl) "slice" := ⟨os, hos, hcs⟩
  unfold getItem
  try with_reducible refine wpAny_holding ?_
  first | refine wpAny_bind (wpAny_pure ?_) | skip
  refine wpAny_bind (wpAny_sequenceKey ht.typeIs (by decide) ?_)
  refine wpAny_bind (wpAny_callSpecial?_slot (name := Str.ofString "__getitem__") ht.typeIs PyProof.Rows.slot_tuple_getitem
    (wpAny_call_entry PyProof.Rows.slot_tuple_getitem ht.typeIs entry_tuple_getitem ?_ (args_tuple_getitem _ _)))
  show wpAny _ _ (Builtin.Tuple.tupleItemsOf (.ref t) >>= _) _ _ s
  refine wpAny_bind (tupleItemsOf_ ht ?_)
  refine wpAny_bind (wpAny_typeOf hTs ?_)
  rw [if_pos (by decide)]
  refine wpAny_bind (back_applied hs pl pu ps ?_)
  have hno : ¬ (((((items.size : Nat) : Int) - 1) == 0 && (-1 : Int) == 1 && (items.size - 1) == items.size) = true) := by
    intro q
    rw [Bool.and_eq_true, Bool.and_eq_true] at q
    exact absurd q.1.2 (by decide)
  show wpAny _ _ (if ((((items.size : Nat) : Int) - 1) == 0 && (-1 : Int) == 1 && (items.size - 1) == items.size) = true then _ else _) _ _ s
  rw [if_neg hno, back_pick]
  first
    | exact wpAny_bind (m := Builtin.Tuple.tupleExact _) (wpAny_newObj_type (wpAny_pure ⟨_, rfl, wpAny_pure h⟩) htake)
    | exact wpAny_bind (m := Builtin.Tuple.tupleExact _) (wpAny_newObj_type (wpAny_bind (wpAny_pure (wpAny_pure ⟨_, rfl, wpAny_pure h⟩))) htake)
    | exact wpAny_bind (wpAny_bind (m := Builtin.Tuple.tupleExact _) (wpAny_newObj_type (wpAny_pure (wpAny_pure ⟨_, rfl, wpAny_pure h⟩)) htake))
    | exact wpAny_bind (wpAny_bind (m := Builtin.Tuple.tupleExact _) (wpAny_newObj_type (wpAny_pure ⟨_, rfl, wpAny_pure h⟩) htake))
end
section
variable {X : Cx}
def tBackT (K : PySem.W.Frag) (te : TE) : TE := fun σ H Q => te σ H fun x H1 => ∃ a xs, x = .ref a ∧ SqT K H1 a xs ∧ ∀ p, H1 p = none → Q (.ref p) (upd H1 p (.tup (xs.drop 1).reverse))
theorem pe_backT {e : Expr} {te : TE} {k k0 : Nat} {p0 p1 p2 p3 pos : Pos} (he : PE X e te) : PE X (.Subscript e (.Slice none (some (.Constant (.int 0) k0 p0)) (some (.UnaryOp .USub (.Constant (.int 1) k p1) p2)) p3) pos) (tBackT X.K te) := by
  refine ⟨fun pins s σ H Q I h => ?_⟩
  refine Subscript_ (thn (he.run pins s σ H _ I h) fun v s1 ⟨x, H1, I1, r1, q1⟩ => ?_)
  obtain ⟨a, xs, ex, hx, q⟩ := q1
  subst ex
  cases r1
  have hst : PO X (some (.UnaryOp .USub (.Constant (.int 1) k p1) p2)) (tPart (tUn (rU fun i => .int (-i)) (tC (.int 1)))) := po_some (pe_un un_neg pe_int)
  have hup : PO X (some (.Constant (.int 0) k0 p0)) (tPart (tC (.int 0))) := po_some pe_int
  refine wpAny_Slice (thn (po_none.run pins s1 σ H1 (fun o H2 => o = none ∧ H2 = H1) I1 ⟨rfl, rfl⟩) fun vl s2 ⟨l, H2, I2, pl, el, e2⟩ => ?_)
  subst el e2
  refine thn (hup.run pins s2 σ H2 (fun o H3 => o = some 0 ∧ H3 = H2) I2 ⟨0, rfl, rfl, rfl⟩) fun vu s3 ⟨u, H3, I3, pu, eu, e3⟩ => ?_
  subst eu e3
  refine thn (hst.run pins s3 σ H3 (fun o H4 => o = some (-1) ∧ H4 = H3) I3 ⟨1, rfl, -1, rfl, rfl, rfl⟩) fun vs s4 ⟨o, H4, I4, ps, eo, e4⟩ => ?_
  subst eo e4
  have I5 : Inv X pins σ H4 { s4 with heap := s4.heap.push { cls := .type "slice", data := .fields #[vl, vu, vs] } } := I4.kept (t' := s4.toks) fun b ob q => Heap.get?_push_of_some _ q
  obtain ⟨its, r, ht, hz⟩ := I5.tuple hx
  have hlen := r.length
  show wpAny (model X.prog X.w) X.A (subscriptTail e (.Slice none (some (.Constant (.int 0) k0 p0)) (some (.UnaryOp .USub (.Constant (.int 1) k p1) p2)) p3) (.ref a) (.ref s4.heap.objs.size)) (EP X pins σ Q) X.xe { s4 with heap := s4.heap.push { cls := .type "slice", data := .fields #[vl, vu, vs] } }
  refine tail_any (ops := [.ref a, .ref s4.heap.objs.size]) ht.typeIs (PyProof.Rows.slot_tuple_getitem.lookup) ?_ (by with_unfolding_all rfl)
  refine getItem_tuple_back ht (Heap.IsSliceOf.new _ vl vu vs) pl pu ps ?_ (by rw [List.size_toArray]; omega)
  refine ⟨.ref _, _, I5.laid (t' := s4.toks) (o := .tup (xs.drop 1).reverse) (fun b ob q => Heap.get?_push_of_some _ q) (Nat.le_refl _) ?_, rfl, q _ (I5.hok.fresh (Nat.le_refl _))⟩
  exact ⟨by rw [List.length_reverse, List.length_drop]; omega, _, (r.drop 1).reverse, IsTup.new _ _⟩
end
end My
set_option maxRecDepth 100000
set_option maxHeartbeats 4000000
namespace My
open PySem L2 PySem.Spec PyProof.Rows
/-! ### tuples that are known to have no dict: their methods can be called -/
def DT (H : Hp) (a : Addr) (xs : List V) : Prop := ∃ o : Obj, o.dict = none ∧ H a = some (.frz o (.tup xs))
theorem DT.sq {K : PySem.W.Frag} {H : Hp} {a : Addr} {xs : List V} (h : DT H a xs) : SqT K H a xs := let ⟨o, _, e⟩ := h; .inl (.inr ⟨o, e⟩)
theorem DT.same {H H' : Hp} {a : Addr} {xs : List V} (h : DT H a xs) (s : Same H H') : DT H' a xs := let ⟨o, d, e⟩ := h; ⟨o, d, s _ _ e⟩
theorem DT.upd {H : Hp} {a b : Addr} {xs : List V} {u o : HO} (h : DT H a xs) (hb : H b = some u) (hu : ∀ o v, u ≠ .frz o v) : DT (L2.upd H b o) a xs := let ⟨w, d, e⟩ := h; ⟨w, d, by rw [upd_ne (ne_of e hb (fun z => hu _ _ z.symm))]; exact e⟩
section
variable {X : Cx}
/-- tuple(xs), a new one -/
def rTupD (K : PySem.W.Frag) : List V → Hp → VK → Prop := fun xs H Q => ∃ p ys, xs = [.ref p] ∧ ((SqL K H p ys ∧ ∀ (l : Addr) (o : Obj), H l = none → o.dict = none → Q (.ref l) (upd H l (.frz o (.tup ys)))) ∨ (SqT K H p ys ∧ Q (.ref p) H))
theorem call_tuple_ofD : CallR X (.type "tuple") (rTupD X.K) := by
  intro pins s σ H xs us Q I r h
  obtain ⟨p, ys, rfl, h⟩ := h
  obtain ⟨u, rfl, rx⟩ := vals1 r
  cases rx
  rcases h with ⟨hq, q⟩ | ⟨hq, q⟩
  · obtain ⟨its, r', pl, hz⟩ := I.list hq
    have hlen := r'.length
    refine call_tuple_list pl.isList (fun h' kp => ?_) (by simp only [List.size_toArray] <;> omega)
    have I1 : Inv X pins σ H { s with heap := h' } := I.kept (t' := s.toks) kp
    have I2 : Inv X pins σ (upd H h'.objs.size (.frz { cls := .type "tuple", data := .seq its.toArray } (.tup ys))) { s with heap := h'.push { cls := .type "tuple", data := .seq its.toArray } } :=
      I1.laid (t' := s.toks) (fun b o e => Heap.get?_push_of_some _ e) (Nat.le_refl _) (show ObjOk X.prog X.w _ _ _ (.frz _ (.tup ys)) from ⟨Heap.get?_push_size _ rfl, hz, its, r', IsTup.new _ _⟩)
    exact ⟨.ref h'.objs.size, _, I2, rfl, q _ _ (I1.hok.fresh (Nat.le_refl _)) rfl⟩
  · obtain ⟨its, r', pl, hz⟩ := I.tuple hq
    exact call_tuple_same pl ⟨.ref p, H, I, rfl, q⟩
def tTupD (t : TA) : TE := fun σ H Q => t σ H fun xs H1 => xs.length ≤ sizeLine ∧ ∀ (p : Addr) (o : Obj), H1 p = none → o.dict = none → Q (.ref p) (upd H1 p (.frz o (.tup xs)))
theorem pe_tupD {es : List Expr} {t : TA} {x1} {pos : Pos} (h : PA X es t) : PE X (.Tuple es x1 pos) (tTupD t) := by
  refine ⟨fun pins s σ H Q I hq => ?_⟩
  refine wpAny_Tuple_spliced (thn (h.run pos pins s σ H _ I hq) fun us s1 ⟨xs, H1, I1, r, z, q⟩ => ⟨by rw [← r.length]; exact z, ?_⟩)
  have hf : H1 s1.heap.objs.size = none := I1.hok.fresh (Nat.le_refl _)
  refine ⟨.ref s1.heap.objs.size, upd H1 s1.heap.objs.size (.frz { cls := .type "tuple", data := .seq us.toArray } (.tup xs)), I1.laid (t' := s1.toks) (fun b u e => Heap.get?_push_of_some _ e) (Nat.le_refl _) ?_, rfl, q _ _ hf rfl⟩
  exact ⟨Heap.get?_push_size _ rfl, z, us, r, ⟨_, Heap.get?_push_size _ rfl, rfl, _, rfl⟩⟩
/-- t.m(e, ..) -/
def tBMT (r : V → List V → Hp → VK → Prop) (to : TE) (t : TA) : TE := fun σ H Q => to σ H fun x H1 => (∃ p xs, x = .ref p ∧ DT H1 p xs) ∧ t σ H1 fun xs H2 => r x xs H2 Q
theorem pe_bmT {o e : Expr} {es : List Expr} {to : TE} {t : TA} {name : Str} {apos cpos : Pos} {id : String} {r : V → List V → Hp → VK → Prop} (pa : PlainAttrs "tuple") (slot : Slot "tuple" name id) (hty : typeOf (.builtin id) = pure (.type "method_descriptor")) (hm : MtR X id r) (ho : PE X o to) (ha : PA X (e :: es) t)
    (hbase : attributeBase o name X.env (eval o X.env) = eval o X.env := by rfl)
    (hfew : ((backTo cpos (starEach (e :: es) X.env)).all (fun x => !x.1) && (backToKw cpos (keywordEach [] X.env)).all (fun x => x.1.isSome)
      && decide ((e :: es).length + ([] : List Keyword).length + (if ([] : List Keyword).isEmpty then 0 else 1) < 30)) = true := by rfl)
    (hline : (apos.endLine == cpos.line) = true := by rfl) (hs : starEach (e :: es) X.env = (false, eval e X.env) :: starEach es X.env := by rfl) (hplain : (backTo cpos (starEach es X.env)).any (·.1) = false := by rfl) :
    PE X (.Call (.Attribute o name apos) (e :: es) [] cpos) (tBMT r to t) := by
  refine ⟨fun pins s σ H Q I h => ?_⟩
  refine wpAny_Call_method_late hbase hfew hline rfl (thn (ho.run pins s σ H _ I h) fun v s1 ⟨x, H1, I1, r1, ty, q1⟩ => ?_)
  obtain ⟨p, xs, rfl, ob, hd, hfz⟩ := ty
  obtain rfl : v = Value.ref p := r1
  obtain ⟨eo, _, its, _, ob', e', hc, _⟩ := (show ObjOk X.prog X.w H1 s1.heap p (.frz ob (.tup xs)) from I1.hok p _ hfz)
  rw [eo] at e'
  cases e'
  have h1 : s1.TypeIs (.ref p) "tuple" := ⟨ob, eo, hc⟩
  have h2 : ∀ a, Value.ref p = .ref a → ∃ ob, s1.heap.get? a = some ob ∧ ob.dict = none := fun a e => by cases e; exact ⟨ob, eo, hd⟩
  refine ⟨"tuple", id, pa, slot, hty, h1, h2, ?_⟩
  have hA := ha.run cpos pins s1 σ H1 _ I1 q1
  rw [hs] at hA ⊢
  refine Calls.callWith_builtin (by show (false || (backTo cpos (starEach es X.env)).any (·.1)) = false; rw [hplain] <;> rfl) (Calls.evalArgs_plain ?_)
  exact thn hA fun us s2 ⟨vs, H2, I2, r2, q2⟩ => hm pins s2 σ H2 (.ref p) vs (.ref p) us Q I2 rfl r2 q2
end
end My
set_option maxRecDepth 100000
set_option maxHeartbeats 4000000
namespace My
open PySem PySem.Spec PyProof.Rows L2
theorem rd_ne {H : Hp} {a b : Addr} {u v : HO} (h : L2.Rd H a u) (hb : H b = some v) (h1 : u ≠ v) (h2 : ∀ o, HO.frz o u ≠ v) : a ≠ b := by
  rcases h with h | ⟨o, h⟩
  · exact ne_of h hb h1
  · exact ne_of h hb (h2 o)
theorem rd_upd {H : Hp} {a b : Addr} {u o : HO} (h : L2.Rd H a u) (hne : a ≠ b) : L2.Rd (upd H b o) a u := by
  rcases h with h | ⟨w, h⟩
  · exact .inl (by rw [upd_ne hne]; exact h)
  · exact .inr ⟨w, by rw [upd_ne hne]; exact h⟩
theorem DT.rd {H : Hp} {a : Addr} {xs : List V} (h : DT H a xs) : L2.Rd H a (.tup xs) := let ⟨o, _, e⟩ := h; .inr ⟨o, e⟩
section
variable {X : Cx} {pins : List (Addr × Obj)} {σ : L2.St} {H : Hp} {s : Shared} {l it S : Addr} {i : Nat}
/-- list.extend over it -/
theorem tit_loopR {A1 : Around} {ys : List V} {Rs : Result → Shared → Prop} (hh : A1.handled = none) :
    ∀ (k i : Nat) (H : Hp) (s : Shared), ys.length - i = k → i ≤ ys.length → Inv X pins σ H s → H it = some (TitO l it i) → L2.Rd H l (.tup ys) → H S = some (.lst (ys.take i)) → ys.length < sizeLine →
      (∀ H2 s2, Inv X pins σ H2 s2 → (∀ b, b ≠ it → b ≠ S → H2 b = H b) → H2 S = some (.lst ys) → Rs (.ok (.ret .none)) s2) → codeAny (model X.prog X.w) A1 (.builtin "list.extend.loop" ⟨[.ref S, .ref it, .none], []⟩) Rs s := by
  intro k
  induction k with
  | zero =>
    intro i H s hk hi I h1 h2 h3 hz hR
    have hne : S ≠ it := ne_of h3 h1 (fun z => nomatch z)
    obtain ⟨its, rv, pl, _⟩ := I.tuple (.inl h2)
    refine codeAny_builtin PySem.F.entry_extend_loop ?_
    rw [Around.under_plainId PySem.F.plain_extend_loop _]
    show wpAny _ A1.in1 (pyNext (.ref it) >>= _) _ _ s
    have hno : (its.toArray)[i]? = none := by
      have := rv.length
      rw [List.getElem?_toArray, List.getElem?_eq_none_iff]
      omega
    refine wpAny_bind (tup_end hh (titO_get I h1) (show s.heap.IsTuple l its.toArray from pl) hno fun h' k' e' => wpAny_pure ?_)
    have J := I.write (t' := s.toks) (x := it) (e := it) (o := AnyO it) (by rw [h1]; exact True.intro) (.inl rfl) k' e' (anyO_ok e')
    refine hR _ _ J (fun b hb _ => upd_ne hb) ?_
    rw [upd_ne hne, h3, List.take_of_length_le (by omega)]
  | succ k ih =>
    intro i H s hk hi I h1 h2 h3 hz hR
    have hne : S ≠ it := ne_of h3 h1 (fun z => nomatch z)
    have hln : l ≠ it := rd_ne h2 h1 (fun z => nomatch z) (fun _ z => nomatch z)
    have hlS : l ≠ S := rd_ne h2 h3 (fun z => nomatch z) (fun _ z => nomatch z)
    obtain ⟨its, rv, pl, _⟩ := I.tuple (.inl h2)
    have hlen := rv.length
    have hlt : i < ys.length := by omega
    obtain ⟨u, hu, ru⟩ := rv.get (i := i) (x := ys[i]) (by simp [hlt])
    refine codeAny_builtin PySem.F.entry_extend_loop ?_
    rw [Around.under_plainId PySem.F.plain_extend_loop _]
    show wpAny _ A1.in1 (pyNext (.ref it) >>= _) _ _ s
    refine wpAny_bind (wpAny_pyNext_tuple_item (titO_get I h1) (show s.heap.IsTuple l its.toArray from pl) (x := u) (by rw [List.getElem?_toArray]; exact hu) fun h' hit hs => ?_)
    have J := I.write (t' := s.toks) (x := it) (e := it) (o := TitO l it (i + 1)) (by rw [h1]; exact True.intro) (.inl rfl) (fun b o hb e => hs.extBut b o hb e) ⟨_, hit.choose_spec.1⟩ (titO_ok hit)
    have h3' : upd H it (TitO l it (i + 1)) S = some (.lst (ys.take i)) := by rw [upd_ne hne]; exact h3
    show wpAny _ A1.in1 (updateSeq S (·.push u) >>= _) _ _ _
    obtain ⟨z, its3, n3, r3, hl3, e3⟩ := J.lstM h3'
    have hl4 : its3.length = i := by rw [← hl3, List.length_take]; omega
    refine wpAny_bind (wpAny_updateSeq e3 rfl (wpAny_pure ⟨plainId_quiet PySem.F.plain_extend_loop _, ?_⟩) (by rw [List.size_toArray]; omega) (by show (its3.toArray.push u).size ≤ sizeLine + 1; rw [Array.size_push, List.size_toArray]; omega))
    have et : ys.take (i + 1) = ys.take i ++ [ys[i]] := by rw [List.take_succ]; simp [hlt]
    have J2 := J.lset (f := (·.push u)) (its' := its3 ++ [u]) (t' := s.toks) (ys := ys.take (i + 1)) h3' e3 (by simp) (by rw [et]; exact r3.append (.cons ru .nil)) (by rw [List.length_take]; omega)
    refine ih (i + 1) _ _ (by omega) hlt J2 ?_ ?_ upd_same hz fun H2 s2 I2 k2 e2 => hR H2 s2 I2 (fun b hb hc => ?_) e2
    · rw [upd_ne (Ne.symm hne), upd_same]
    · exact rd_upd (rd_upd h2 hln) hlS
    · rw [k2 b hb hc, upd_ne hc, upd_ne hb]
end
/-- list(o): its __iter__ gives a tuple's iterator, its __len__ a number -/
def rLstItR (C : Addr) (spI spL : Sp) (EI EL : XK) : List V → Hp → VK → Prop := fun xs H Q => ∃ a dx fs, xs = [.ref a] ∧ H a = some (.ins C dx fs) ∧ ∀ q, H q = none → q ≠ a →
  spI [.ref a] (upd H q (.lst [])) (fun v H1 => ∃ it l ys, v = .ref it ∧ H1 it = some (TitO l it 0) ∧ L2.Rd H1 l (.tup ys) ∧ H1 q = some (.lst []) ∧ H1 a = some (.ins C dx fs) ∧ ys.length < sizeLine ∧
    spL [.ref a] H1 (fun n H2 => H2 = H1 ∧ ∃ k : Int, n = .int k ∧ 0 ≤ k ∧ k < 1000) EL ∧ ∀ H2, (∀ b, b ≠ it → b ≠ q → H2 b = H1 b) → H2 q = some (.lst ys) → Q (.ref q) H2) EI
section
variable {X : Cx} {CI : CXT} {n : Nat} {C fi fl : Addr} {fdI fdL : FuncData} {psI psL : List Str} {spI spL : Sp} {EI EL : XK}
theorem call_listItR (hc : ItL X.K C fi fl) (FI : FnOk X.prog X.w X.K X.mg X.base CI n fi fdI psI spI) (bI : Binds X.K fdI psI []) (xI : Passes CI X EI)
    (FL : FnOk X.prog X.w X.K X.mg X.base CX0 n fl fdL psL spL) (bL : Binds X.K fdL psL []) (hr : Room (n + 4) X.A) : CallR X (.type "list") (rLstItR C spI spL EI EL) := by
  intro pins s σ H xs us Q I rv h
  obtain ⟨a, dx, fs, rfl, ha, hq⟩ := h
  obtain ⟨u, rfl, ru⟩ := rv.one
  cases ru
  have sb : Sub X (n + 2) X.A.in1.in1 := (Sub.in1 (Sub.in1 (⟨hr, rfl⟩ : Sub X (n + 4) X.A)))
  refine callType_codes (Q₁ := fun obj s₁ => obj = .ref s.heap.objs.size ∧ s₁ = { s with heap := s.heap.push { cls := .type "list", data := .seq #[] } }) PySem.F.called_list (PySem.F.typeCall_list_1 _) PySem.F.entry_list_init (code_list_new _ ⟨rfl, rfl⟩) fun obj s₁ h₁ => ?_
  obtain ⟨rfl, rfl⟩ := h₁
  have hS : (s.heap.push { cls := .type "list", data := .seq #[] }).get? s.heap.objs.size = some { cls := .type "list", data := .seq #[] } := Heap.get?_push_size _ rfl
  refine ⟨⟨_, hS, rfl⟩, PySem.F.args_list_init_2 _ _, ?_⟩
  have fr : H s.heap.objs.size = none := I.hok.fresh (Nat.le_refl _)
  have sp0 := hq _ fr (fun z => by rw [z, ha] at fr; cases fr)
  have I1 : Inv X pins σ (upd H s.heap.objs.size (.lst [])) { s with heap := s.heap.push { cls := .type "list", data := .seq #[] } } := I.lnew (its := []) (t' := s.toks) .nil (Nat.zero_le _)
  show wpAny _ _ (do let old ← Builtin.List.listItems (.ref s.heap.objs.size); Builtin.List.listUpdate (.ref s.heap.objs.size) (fun _ => #[]); letGo old.toList.reverse; Builtin.List.listExtendWith (.ref s.heap.objs.size) (.ref a) .none) _ _ _
  refine wpAny_bind ?_
  unfold Builtin.List.listItems
  refine wpAny_bind (wpAny_seqItems hS rfl (wpAny_pure ?_))
  show wpAny _ _ (updateSeq s.heap.objs.size (fun _ => #[]) >>= fun _ => letGo (#[] : Array Value).toList.reverse >>= fun _ => Builtin.List.listExtendWith (.ref s.heap.objs.size) (.ref a) .none) _ _ _
  refine wpAny_bind (wpAny_updateSeq hS rfl ?_)
  have I2 := I1.lset (f := fun _ => #[]) (its := []) (its' := []) (ys := []) (t' := s.toks) upd_same hS rfl .nil (Nat.zero_le _)
  rw [upd_upd] at I2
  refine wpAny_bind (wpAny_letGo ?_)
  have ha2 : upd H s.heap.objs.size (.lst []) a = some (.ins C dx fs) := by rw [upd_ne (ne_of_none ha fr)]; exact ha
  have hne : s.heap.objs.size ≠ a := fun z => by rw [z, ha] at fr; cases fr
  generalize hq0 : s.heap.objs.size = q at *
  generalize hH0 : upd H q (.lst []) = H0 at *
  obtain ⟨mA, J, _⟩ := ins_get I2.hok ha2
  obtain ⟨od, J, _⟩ := J.look
  obtain ⟨m0, hF⟩ := I2.fr
  unfold Builtin.List.listExtendWith
  refine wpAny_bind (J.type.here ?_)
  have h1 : Builtin.List.listSameRef (.ref q) (.ref a) = false := by simp [Builtin.List.listSameRef, hne]
  simp only [h1, (rfl : (Value.ref C == Value.type "list") = false), (rfl : (Value.ref C == Value.type "tuple") = false), Bool.or_false, Bool.false_eq_true, if_false]
  refine wpAny_bind (PySem.W.owit_iter hF I2.ok.mod.kin J hc.it hc.itF ?_)
  refine wpAny_mono (call_at FI bI xI (A := X.A.in1.in1) (sb.mono (by omega)).room sb.fr I2 (vs := [.ref a]) (.cons rfl .nil) sp0) (fun v s3 z => ?_) fun _ _ z => z
  obtain ⟨x, H1, I3, r3, it, l, ys, ex, e1, e2, e3, e4, hz, q1, q2⟩ := z
  subst ex
  obtain rfl : v = Value.ref it := r3
  have hit := titO_get I3 e1
  unfold PySem.W.OwitIt
  refine wpAny_specialOf (show s3.TypeIs (.ref it) "tuple_iterator" from hit.typeIs) PySem.F.slot_tuple_iterator_next.lookup ?_
  show wpAny _ _ _ _ _ s3
  refine wpAny_bind (wpAny_holding ?_)
  obtain ⟨mB, J3, _⟩ := ins_get I3.hok e4
  obtain ⟨od3, J3, _⟩ := J3.look
  obtain ⟨m3, hF3⟩ := I3.fr
  unfold Builtin.List.listLengthHint
  refine wpAny_bind (wpAny_bind (J3.type.here ((PySem.W.looks_findIn I3.kIn hc.ln).here ?_)))
  refine PySem.W.KFB.if_not rfl ?_
  refine PySem.W.KFB.if_so rfl ?_
  refine wpAny_bind (wpAny_rule (wpAny_bind (wpAny_attempt ?_)))
  refine PySem.W.len_K hF3 I3.ok.mod.kin J3 hc.ln hc.lnF (wpAny_mono (call_at0 FL bL (A := X.A.in1.in1.in1) (Sub.in1 (sb.mono (show n + 1 ≤ n + 2 by omega))).room sb.fr I3 (vs := [.ref a]) (.cons rfl .nil) q1) (fun v s4 z => ?_) fun _ _ z => z)
  obtain ⟨x, H2, I4, r4, eH, k0, ek, hk0, hk1⟩ := z
  subst ek
  subst eH
  obtain ⟨tk4, rfl⟩ := r4
  refine ⟨⟨hk0, by omega⟩, ?_⟩
  refine wpAny_bind (wpAny_of_eq (a := some k0) rfl ?_)
  show wpAny _ _ (if Builtin.List.listTooLong k0.toNat = true then _ else _) _ _ _
  refine PySem.W.KFB.if_not (notLongL (by rw [sizeLine_eq]; omega)) (wpAny_pure ?_)
  have I5 := I4.tok (s4.toks + 1)
  have hne1 : q ≠ it := ne_of e3 e1 (fun z => nomatch z)
  have go : ∀ s5, Inv X pins σ H2 s5 → codeAny (model X.prog X.w) X.A.in1 (.builtin "list.extend.loop" ⟨[.ref q, .ref it, .none], []⟩) (wants (fun r s₂ => r = .none ∧ EP X pins σ Q (.ref q) s₂) X.xe) s5 := fun s5 I6 =>
    tit_loopR (A1 := X.A.in1) (Rs := wants (fun r s₂ => r = .none ∧ EP X pins σ Q (.ref q) s₂) X.xe) (show X.A.in1.handled = none from hr.hd) ys.length 0 H2 s5 (by omega) (Nat.zero_le _) I6 e1 e2 (by rw [List.take_zero]; exact e3) hz fun H7 s7 I7 k7 e7 => ⟨rfl, .ref q, H7, I7, rfl, q2 H7 k7 e7⟩
  refine wpAny_ite_split (fun _ => ?_) (fun _ => wpAny_pure ⟨plainId_quiet PySem.F.plain_extend_loop _, go _ I5⟩)
  refine wpAny_bind (wpAny_rule (wpAny_bind ?_))
  show wpAny _ _ (updateSeq q (·.push .none) >>= fun _ => updateSeq q (·.pop)) _ _ _
  obtain ⟨z, its, n5, r5, hl5, e5⟩ := I5.lstM e3
  cases r5
  refine wpAny_bind (wpAny_updateSeq e5 rfl ?_)
  have I6 := I5.lset (f := (·.push Value.none)) (its' := [Value.none]) (ys := [.non]) (t' := s4.toks + 1) e3 e5 (by simp) (.cons rfl .nil) (by rw [List.length_singleton, sizeLine_eq]; decide)
  obtain ⟨z6, its6, n6, r6, hl6, e6⟩ := I6.lstM upd_same
  obtain ⟨u6, rfl, ru6⟩ := r6.one
  refine wpAny_updateSeq e6 rfl (wpAny_pure ⟨plainId_quiet PySem.F.plain_extend_loop _, go _ ?_⟩) (by show 1 ≤ sizeLine; rw [sizeLine_eq]; decide) (by show 0 ≤ sizeLine + 1; exact Nat.zero_le _)
  have I7 := I6.lset (f := (·.pop)) (its := [u6]) (its' := []) (ys := []) (t' := s4.toks + 1) upd_same e6 (by rfl) .nil (Nat.zero_le _)
  rw [upd_upd] at I7
  have hH : upd H2 q (.lst []) = H2 := by
    funext b
    by_cases hb : b = q
    · rw [hb, upd_same, e3]
    · rw [upd_ne hb]
  rw [hH] at I7
  exact I7
end
end My
set_option maxRecDepth 100000
set_option maxHeartbeats 4000000
namespace My
open PySem L2 PySem.Spec PyProof.Rows
section
variable {X : Cx} {CX : CXT} {k : Nat} {f C : Addr} {fd : FuncData} {ps : List Str} {sp : Sp} {m : Str} {o e : Expr} {es : List Expr} {ta : TE} {t : TA} {apos pos : Pos}
/-- o.m(e, ..) that may raise, what is wished of the exception may speak of the slots -/
def tMethE (C : Addr) (m : Str) (sp : Sp) (E : L2.St → XK) (ta : TE) (t : TA) : TE := fun σ H Q => ta σ H fun x H1 => ∃ a dx fs, x = .ref a ∧ H1 a = some (.ins C dx fs) ∧ fs.lookup m = none ∧ t σ H1 fun vs H2 => sp (x :: vs) H2 Q (E σ)
theorem pe_methE {E : L2.St → XK} {pl : Sem Bool} (he : PE X o ta) (c : Cls X.K C) (hm : Meth X.K C m f) (F : FnOk X.prog X.w X.K X.mg X.base CX k f fd ps sp) (hr : Room k X.A) (hb : Binds X.K fd ps []) (hx : ∀ σ, PassesAt CX X σ (E σ)) (ha : PA X (e :: es) t)
    (hst : starEach (e :: es) X.env = (false, eval e X.env) :: starEach es X.env := by rfl) (hpl : (backTo pos (starEach es X.env)).any (·.1) = false := by rfl)
    (ht : eval (.Call (.Attribute o m apos) (e :: es) [] pos) X.env = (do
      let ov ← eval o X.env
      standAt apos.atName
      let (f, first) ← holding [ov] (getMethod ov m pl)
      callWith pos f first (backTo pos (starEach (e :: es) X.env)) (backToKw pos (keywordEach [] X.env))) := by rfl) :
    PE X (.Call (.Attribute o m apos) (e :: es) [] pos) (tMethE C m sp E ta t) := by
  refine ⟨fun pins s σ H Q I h => ?_⟩
  refine PySem.W.methodCall_KW (pl := pl) (thn (he.run pins s σ H _ I h) fun u s1 ⟨x, H1, I1, rx, a, dx, fs, ex, ea, l, q⟩ => ?_) ht
  subst ex
  obtain rfl : u = Value.ref a := rx
  refine getmeth_ok I1 ea c hm l ?_
  refine PySem.W.callWith_K (first := [.ref a]) (h₀ := X.base) I.ok.mod.kin hm.kp (thn (ha.run pos pins s1 σ H1 _ I1 q) fun us s2 ⟨vs, H2, I2, r, q2⟩ => ⟨I2.kIn, ?_⟩) hst hpl
  exact run_fnS (us := .ref a :: us) (vs := .ref a :: vs) F hr hb (hx σ) I2 (.cons rfl r) q2
theorem pe_methE0 {E : L2.St → XK} {pl : Sem Bool} (he : PE X o ta) (c : Cls X.K C) (hm : Meth X.K C m f) (F : FnOk X.prog X.w X.K X.mg X.base CX k f fd ps sp) (hr : Room k X.A) (hb : Binds X.K fd ps []) (hx : ∀ σ, PassesAt CX X σ (E σ))
    (ht : eval (.Call (.Attribute o m apos) [] [] pos) X.env = (do
      let ov ← eval o X.env
      standAt apos.atName
      let (f, first) ← holding [ov] (getMethod ov m pl)
      callWith pos f first (backTo pos (starEach [] X.env)) (backToKw pos (keywordEach [] X.env))) := by rfl) :
    PE X (.Call (.Attribute o m apos) [] [] pos) (tMethE C m sp E ta tNil) := by
  refine ⟨fun pins s σ H Q I h => ?_⟩
  refine PySem.W.methodCall_KW (pl := pl) (thn (he.run pins s σ H _ I h) fun u s1 ⟨x, H1, I1, rx, a, dx, fs, ex, ea, l, q⟩ => ?_) ht
  subst ex
  obtain rfl : u = Value.ref a := rx
  refine getmeth_ok I1 ea c hm l ?_
  exact PySem.W.callWith_K0 (first := [.ref a]) I1.kIn hm.kp (run_fnS (us := [.ref a]) (vs := [.ref a]) F hr hb (hx σ) I1 (.cons rfl .nil) q)
end
end My
set_option maxRecDepth 100000
set_option maxHeartbeats 4000000
set_option exponentiation.threshold 10000
namespace My
open PySem L2
theorem hu10 {A : Around} {k : Nat} (hr : Room k A) : A.units + 10 < cLine := by have := hr.un; omega
/-- text * int -/
theorem op_mulS {X : Cx} : OpR X (binaryOp .Mult) (fun x y H Q => ∃ (z : Str) (n : Int), x = .str z ∧ y = .int n ∧ MulOk z n ∧ Q (.str (Txt.mul z n)) H) := by
  intro pins s σ H x y v u Q I rx ry h
  obtain ⟨z, n, rfl, rfl, ok, q⟩ := h
  obtain ⟨t, rfl⟩ := rx
  obtain ⟨t', rfl⟩ := ry
  exact PySem.SB.mul ok fun t' k => ⟨.str (Txt.mul z n), H, I.tok _, ⟨_, rfl⟩, q⟩
def rLen2 (K : PySem.W.Frag) : List V → Hp → VK → Prop := fun xs H Q => ∃ p ys, xs = [.ref p] ∧ (SqL K H p ys ∨ SqT K H p ys) ∧ Q (.int ys.length) H
def rListOf (K : PySem.W.Frag) : List V → Hp → VK → Prop := fun xs H Q => ∃ p ys, xs = [.ref p] ∧ (SqL K H p ys ∨ SqT K H p ys) ∧ ∀ l, H l = none → Q (.ref l) (upd H l (.lst ys))
def rTupOf (K : PySem.W.Frag) : List V → Hp → VK → Prop := fun xs H Q => ∃ p ys, xs = [.ref p] ∧ ((SqL K H p ys ∧ ∀ l, H l = none → Q (.ref l) (upd H l (.tup ys))) ∨ (SqT K H p ys ∧ Q (.ref p) H))
/-! ### texts in lists -/
abbrev sv (ss : List Str) : List V := ss.map V.str
theorem len_sv (ss : List Str) : (sv ss).length = ss.length := List.length_map ..
theorem flat_sv (ss : List Str) : (sv ss).all flatV = true := by
  rw [List.all_eq_true]; intro x hx; obtain ⟨s, _, rfl⟩ := List.mem_map.mp hx; rfl
theorem eqV_str (a b : Str) : eqV (.str a) (.str b) = decide (a = b) := by
  first | rfl | (simp only [eqV]; by_cases h : a = b <;> simp [h])
theorem inV_str (x : Str) (ss : List Str) : inV (.str x) (sv ss) = decide (x ∈ ss) := by
  unfold inV
  rw [Bool.eq_iff_iff, List.any_eq_true, decide_eq_true_iff]
  constructor
  · rintro ⟨y, hy, e⟩
    obtain ⟨s, hs, rfl⟩ := List.mem_map.mp hy
    rw [eqV_str, decide_eq_true_iff] at e
    rw [← e]; exact hs
  · intro h
    exact ⟨.str x, List.mem_map.mpr ⟨x, h, rfl⟩, by rw [eqV_str]; simp⟩
theorem sv_get {ss : List Str} {i : Nat} {v : V} (h : (sv ss)[i]? = some v) : ∃ s, ss[i]? = some s ∧ v = .str s := by
  rw [List.getElem?_map] at h
  cases e : ss[i]? with
  | none => rw [e] at h; cases h
  | some t => rw [e] at h; exact ⟨t, rfl, (Option.some.inj h).symm⟩
theorem cut_take {xs : List V} {k : Nat} (h : k ≤ xs.length) : cutV xs none (some (k : Int)) = xs.take k := by
  unfold cutV
  rw [HT.sIx_none, HT.sIx_nat, Nat.min_eq_left h]
  simp
theorem cut_drop {xs : List V} {k : Nat} (h : k ≤ xs.length) : cutV xs (some (k : Int)) none = xs.drop k := by
  unfold cutV
  rw [HT.sIx_none, HT.sIx_nat, Nat.min_eq_left h]
  rw [List.take_of_length_le (by rw [List.length_drop]; exact Nat.le_refl _)]
theorem sv_take (ss : List Str) (k : Nat) : (sv ss).take k = sv (ss.take k) := List.map_take.symm
theorem sv_drop (ss : List Str) (k : Nat) : (sv ss).drop k = sv (ss.drop k) := List.map_drop.symm
/-! ### names -/
def Letters (l : List Nat) : Prop := ∀ c ∈ l, 97 ≤ c ∧ c ≤ 122
structure Good (z : Str) : Prop where
  pos : 1 ≤ z.length
  le : z.length ≤ 8
  let_ : Letters z.cps.toList
/-! ### the first stray of a list -/
def badAt (cs ns : List Str) (i : Nat) : Bool := match ns[i]? with | some x => !decide (x ∈ cs) || decide (x ∈ ns.take i) | none => false
def stray (cs ns : List Str) : Option Nat := (List.range ns.length).find? (badAt cs ns)
def fault (cs ns : List Str) : Option Nat := match stray cs ns with | some i => some i | none => if ns.length < cs.length then some ns.length else none
def optV : Option Nat → V
  | none => .non
  | some i => .int (i : Nat)
theorem stray_some {cs ns : List Str} {i : Nat} (hi : i < ns.length) (h1 : badAt cs ns i = true) (h2 : ∀ j, j < i → badAt cs ns j = false) : stray cs ns = some i := by
  unfold stray
  rw [List.find?_range_eq_some]
  exact ⟨h1, List.mem_range.mpr hi, fun j hj => by rw [h2 j hj]; rfl⟩
theorem stray_none {cs ns : List Str} (h2 : ∀ j, j < ns.length → badAt cs ns j = false) : stray cs ns = none := by
  unfold stray
  rw [List.find?_eq_none]
  intro j hj
  rw [h2 j (List.mem_range.mp hj)]
  exact Bool.false_ne_true
theorem stray_none_iff {cs ns : List Str} : stray cs ns = none ↔ (∀ x ∈ ns, x ∈ cs) ∧ ns.Nodup := by
  unfold stray
  rw [List.find?_eq_none]
  constructor
  · intro h
    have hb : ∀ i (hi : i < ns.length), ns[i] ∈ cs ∧ ns[i] ∉ ns.take i := fun i hi => by
      have := h i (List.mem_range.mpr hi)
      unfold badAt at this
      rw [List.getElem?_eq_getElem hi] at this
      simpa using this
    refine ⟨fun x hx => ?_, ?_⟩
    · obtain ⟨i, hi, rfl⟩ := List.getElem_of_mem hx
      exact (hb i hi).1
    · rw [List.nodup_iff_pairwise_ne, List.pairwise_iff_getElem]
      intro i j hi hj hij e
      refine (hb j hj).2 ?_
      rw [← e]
      exact List.mem_take_iff_getElem.mpr ⟨i, by omega, rfl⟩
  · rintro ⟨h1, h2⟩ i hi
    have hi := List.mem_range.mp hi
    unfold badAt
    rw [List.getElem?_eq_getElem hi]
    have a := h1 _ (List.getElem_mem hi)
    have b : ns[i] ∉ ns.take i := fun hm => by
      obtain ⟨j, hj, e⟩ := List.mem_take_iff_getElem.mp hm
      rw [List.nodup_iff_pairwise_ne, List.pairwise_iff_getElem] at h2
      exact h2 j i (by omega) hi (by omega) e
    simp [a, b]
theorem fault_none {cs ns : List Str} (h1 : ∀ x ∈ ns, x ∈ cs) (h2 : ns.Nodup) (h3 : cs.length ≤ ns.length) : fault cs ns = none := by
  unfold fault
  rw [stray_none_iff.mpr ⟨h1, h2⟩]
  show (if ns.length < cs.length then _ else _) = _
  rw [if_neg (by omega)]
/-- the law's list of what is wrong -/
def wrongs (cs ns : List Str) : List Nat := (List.range ns.length).filter (badAt cs ns) ++ if ns.length < cs.length then [ns.length] else []
theorem wrongs_head (cs ns : List Str) : (wrongs cs ns).head? = fault cs ns := by
  unfold wrongs fault stray
  rw [List.head?_append, List.head?_filter]
  cases (List.range ns.length).find? (badAt cs ns) with
  | some i => rfl
  | none =>
    show Option.or none _ = (if _ then _ else _)
    split <;> rfl
/-! ### runs -/
def runAt (fl : List Bool) (i : Nat) : Bool := fl.getD i false && !(decide (0 < i) && fl.getD (i - 1) false)
def runs (fl : List Bool) : Nat := ((List.range fl.length).filter (runAt fl)).length
theorem runs_le (fl : List Bool) : runs fl ≤ fl.length := by
  unfold runs
  have := List.length_filter_le (runAt fl) (List.range fl.length)
  rw [List.length_range] at this
  exact this
/-! ### the picture -/
theorem mul_len (n : Int) : (Txt.mul (" " : Str) n).length = n.toNat := by
  unfold Txt.mul
  have h1 : ((" " : Str).length == 0) = false := by decide
  split
  · rename_i h
    show 0 = n.toNat
    omega
  · rename_i h
    split
    · rename_i h'
      rw [h1, Bool.or_false, beq_iff_eq] at h'
      subst h'
      rfl
    · have e : ∀ (m : Nat) (acc : Array Nat), ((List.replicate m (" " : Str).cps).foldl (· ++ ·) acc).size = acc.size + m := by
        intro m
        induction m with
        | zero => intro acc; rfl
        | succ m ih =>
          intro acc
          rw [List.replicate_succ, List.foldl_cons, ih, Array.size_append]
          have : (" " : Str).cps.size = 1 := by decide
          rw [this]; omega
      show ((List.replicate n.toNat (" " : Str).cps).foldl (· ++ ·) #[]).size = n.toNat
      rw [e]
      show 0 + n.toNat = _
      omega
theorem mul_cps (n : Int) : (Txt.mul (" " : Str) n).cps = Array.replicate n.toNat 32 := by
  unfold Txt.mul
  have h1 : ((" " : Str).length == 0) = false := by decide
  split
  · rename_i h
    have : n.toNat = 0 := by omega
    rw [this]
    rfl
  · rename_i h
    split
    · rename_i h'
      rw [h1, Bool.or_false, beq_iff_eq] at h'
      subst h'
      decide
    · have e : ∀ (m : Nat) (acc : Array Nat), ((List.replicate m (" " : Str).cps).foldl (· ++ ·) acc) = acc ++ Array.replicate m 32 := by
        intro m
        induction m with
        | zero => intro acc; simp
        | succ m ih =>
          intro acc
          rw [List.replicate_succ, List.foldl_cons, ih]
          have : (" " : Str).cps = #[32] := by decide
          rw [this, Array.append_assoc]
          congr 1
          apply Array.toList_inj.mp
          simp [List.replicate_succ]
      show ((List.replicate n.toNat (" " : Str).cps).foldl (· ++ ·) #[]) = _
      rw [e]
      simp
theorem str_ext {a b : Str} (h : a.cps = b.cps) : a = b := by cases a; cases b; exact congrArg Str.mk h
theorem append_cps (a b : Str) : (a ++ b).cps = a.cps ++ b.cps := rfl
theorem ljust_eq (x : Str) (W : Int) : Txt.ljust x W = x ++ Txt.mul " " (W - x.length) := by
  apply str_ext
  rw [append_cps, mul_cps]
  unfold Txt.ljust
  split
  · rename_i h
    have : (W - (x.length : Int)).toNat = 0 := by omega
    rw [this]; simp
  · rename_i h
    have : W.toNat - x.length = (W - (x.length : Int)).toNat := by omega
    rw [this]
    show Array.replicate 0 32 ++ x.cps ++ Array.replicate _ 32 = _
    simp
theorem ljust_len (x : Str) (W : Int) : (Txt.ljust x W).length = x.length + (W - x.length).toNat := by
  rw [ljust_eq, Str.length_append, mul_len]
def fill (ws : List Str) (W : Int) : Str := Txt.join " " (ws.map fun x => Txt.ljust x W)
def marks (order row : List Str) : List Str := order.map fun x => if x ∈ row then ("x" : Str) else "."
def flags (order row : List Str) : List Bool := order.map fun x => decide (x ∈ row)
def num4 (n : Nat) : Str := Txt.rjust (Str.ofString (toString (n : Int))) 4
def line (order : List Str) (W : Int) (row : List Str) : Str := fill (marks order row) W ++ num4 (runs (flags order row))
def pic (order : List Str) (rows : List (List Str)) (W : Int) : Str := Txt.join "\n" (fill order W :: rows.map (line order W))
theorem num_small : ∀ n : Fin 13, (Str.ofString (toString ((n.val : Nat) : Int))).length ≤ 4 := by decide +kernel
theorem num4_len {n : Nat} (h : n ≤ 12) : (num4 n).length = 4 := by
  have hl : (Str.ofString (toString (n : Int))).length ≤ 4 := num_small ⟨n, by omega⟩
  unfold num4 Txt.rjust
  generalize Str.ofString (toString (n : Int)) = x at hl ⊢
  split
  · rename_i h4; omega
  · show (Array.replicate _ 32 ++ x.cps ++ Array.replicate 0 32).size = 4
    simp
    show (4 : Int).toNat - x.length + x.length = 4
    omega
theorem cut4 {s : Str} (h : s.length ≤ 4) : cutS (("    " : Str) ++ s) (some (-4)) none = Txt.rjust s 4 := by
  apply str_ext
  unfold cutS Txt.rjust
  have hl : (("    " : Str) ++ s).length = 4 + s.length := by rw [Str.length_append]; rfl
  have h1 : HT.sIx (("    " : Str) ++ s).length 0 (some (-4)) = s.length := by
    rw [hl]
    show (if (-4 : Int) < 0 then ((-4 : Int) + ((4 + s.length : Nat) : Int)).toNat else min (-4 : Int).toNat (4 + s.length)) = s.length
    rw [if_pos (by decide)]; omega
  rw [h1, HT.sIx_none, hl]
  have e4 : (("    " : Str)).cps.toList = List.replicate 4 32 := by decide
  apply Array.toList_inj.mp
  rw [append_cps, Array.toList_append, e4]
  have h5 : 4 + s.length - s.length = 4 := by omega
  rw [h5]
  have hs : s.cps.toList.length = s.length := by simp [Str.length]
  have e6 : (List.replicate 4 32 ++ s.cps.toList).drop s.length = List.replicate (4 - s.length) 32 ++ s.cps.toList := by
    rw [List.drop_append_of_le_length (by simp; exact h), List.drop_replicate]
  rw [e6, List.take_of_length_le (by rw [List.length_append, List.length_replicate, hs]; omega)]
  split
  · rename_i h4
    have : 4 - s.length = 0 := by omega
    rw [this]; rfl
  · show _ = (Array.replicate ((4 : Int).toNat - s.length) 32 ++ s.cps ++ Array.replicate 0 32).toList
    simp
/-! ### lengths -/
theorem sum_le {ys : List Nat} {B : Nat} (h : ∀ y ∈ ys, y ≤ B) : ys.sum ≤ ys.length * B := by
  induction ys with
  | nil => simp
  | cons y r ih =>
    have h1 := h y List.mem_cons_self
    have h2 := ih fun x hx => h x (List.mem_cons_of_mem _ hx)
    rw [List.sum_cons, List.length_cons, Nat.succ_mul]
    omega
theorem join_len (a : Str) : ∀ ys : List Str, (Txt.join a ys).length ≤ (ys.map (·.length)).sum + ys.length * a.length
  | [] => by
    show (Txt.join a []).length ≤ 0 + 0 * a.length
    have : (Txt.join a []).length = 0 := rfl
    omega
  | [x] => by
    have : Txt.join a [x] = x := by rw [TL.join_eq]; rfl
    rw [this]
    simp
  | x :: y :: r => by
    have e : Txt.join a (x :: y :: r) = x ++ a ++ Txt.join a (y :: r) := by rw [TL.join_eq, TL.join_eq]; rfl
    have ih := join_len a (y :: r)
    rw [e, Str.length_append, Str.length_append, List.map_cons, List.sum_cons, List.length_cons, Nat.succ_mul]
    omega
theorem fits_join {a : Str} {ys : List Str} {B n : Nat} (h : ∀ y ∈ ys, y.length ≤ B) (hn : ys.length ≤ n) (hs : n * (B + a.length) ≤ 16777216) : (ys.map (·.length)).sum + ys.length * a.length ≤ 16777216 ∧ (Txt.join a ys).length ≤ n * (B + a.length) := by
  have h1 : (ys.map (·.length)).sum ≤ (ys.map (·.length)).length * B := sum_le fun y hy => by
    obtain ⟨z, hz, rfl⟩ := List.mem_map.mp hy
    exact h z hz
  rw [List.length_map] at h1
  have h2 := join_len a ys
  have h3 : ys.length * (B + a.length) ≤ n * (B + a.length) := Nat.mul_le_mul_right _ hn
  rw [Nat.mul_add] at h3
  omega
/-! ### names, in general -/
def okName (z : Str) : Bool := decide (1 ≤ z.length) && (decide (z.length ≤ 8) && z.cps.toList.all fun c => decide (97 ≤ c ∧ c ≤ 122))
theorem okName_iff {z : Str} : okName z = true ↔ Good z := by
  unfold okName
  rw [Bool.and_eq_true, Bool.and_eq_true, decide_eq_true_iff, decide_eq_true_iff, List.all_eq_true]
  exact ⟨fun ⟨a, b, c⟩ => ⟨a, b, fun x hx => of_decide_eq_true (c x hx)⟩, fun h => ⟨h.pos, h.le, fun x hx => decide_eq_true (h.let_ x hx)⟩⟩
def badName (ns : List Str) (i : Nat) : Bool := match ns[i]? with | some x => !okName x || decide (x ∈ ns.take i) | none => false
def firstBad (ns : List Str) : Option Nat := (List.range ns.length).find? (badName ns)
theorem firstBad_some {ns : List Str} {i : Nat} (hi : i < ns.length) (h1 : badName ns i = true) (h2 : ∀ j, j < i → badName ns j = false) : firstBad ns = some i := by
  unfold firstBad
  rw [List.find?_range_eq_some]
  exact ⟨h1, List.mem_range.mpr hi, fun j hj => by rw [h2 j hj]; rfl⟩
theorem firstBad_none {ns : List Str} (h2 : ∀ j, j < ns.length → badName ns j = false) : firstBad ns = none := by
  unfold firstBad
  rw [List.find?_eq_none]
  intro j hj
  rw [h2 j (List.mem_range.mp hj)]
  exact Bool.false_ne_true
theorem firstBad_none_iff {ns : List Str} : firstBad ns = none ↔ (∀ x ∈ ns, Good x) ∧ ns.Nodup := by
  unfold firstBad
  rw [List.find?_eq_none]
  constructor
  · intro h
    have hb : ∀ i (hi : i < ns.length), Good ns[i] ∧ ns[i] ∉ ns.take i := fun i hi => by
      have := h i (List.mem_range.mpr hi)
      unfold badName at this
      rw [List.getElem?_eq_getElem hi] at this
      simp at this
      exact ⟨okName_iff.mp this.1, this.2⟩
    refine ⟨fun x hx => ?_, ?_⟩
    · obtain ⟨i, hi, rfl⟩ := List.getElem_of_mem hx
      exact (hb i hi).1
    · rw [List.nodup_iff_pairwise_ne, List.pairwise_iff_getElem]
      intro i j hi hj hij e
      refine (hb j hj).2 ?_
      rw [← e]
      exact List.mem_take_iff_getElem.mpr ⟨i, by omega, rfl⟩
  · rintro ⟨h1, h2⟩ i hi
    have hi := List.mem_range.mp hi
    unfold badName
    rw [List.getElem?_eq_getElem hi]
    have a := okName_iff.mpr (h1 _ (List.getElem_mem hi))
    have b : ns[i] ∉ ns.take i := fun hm => by
      obtain ⟨j, hj, e⟩ := List.mem_take_iff_getElem.mp hm
      rw [List.nodup_iff_pairwise_ne, List.pairwise_iff_getElem] at h2
      exact h2 j i (by omega) hi (by omega) e
    simp [a, b]
/-! ### strip -/
theorem strip_all {x y : Str} : Txt.stripChars x y = Str.empty ↔ ∀ c ∈ x.cps.toList, y.cps.contains c = true := by
  obtain ⟨a0, a1, a2⟩ := PyProof.Rows.lo_facts y.cps.contains x
  obtain ⟨b0, b1, b2, b3⟩ := PyProof.Rows.hi_facts y.cps.contains x (PySem.stripLo y.cps.contains true x) a0
  unfold Txt.stripChars
  rw [PyProof.Rows.stripBy_eq]
  generalize PySem.stripLo y.cps.contains true x = lo at *
  generalize PySem.stripHi y.cps.contains true x lo = hi at *
  have hl : (Builtin.Str.strSub x lo hi).length = hi - lo := by
    show (x.cps.extract lo hi).size = hi - lo
    rw [Array.size_extract]
    have : x.cps.size = x.length := rfl
    rw [this]
    have := b1
    omega
  have gd : ∀ k (hk : k < x.length), x.cps.getD k 0 = x.cps[k]'hk := fun k hk => by
    show x.cps.getD k 0 = _
    unfold Array.getD
    exact dif_pos hk
  constructor
  · intro e c hc
    rw [e] at hl
    have hl : 0 = hi - lo := hl
    rw [Array.mem_toList_iff] at hc
    obtain ⟨k, hk, rfl⟩ := Array.getElem_of_mem hc
    by_cases h : k < lo
    · have := a1 k h; rw [gd k hk] at this; exact this
    · have := b2 k (by omega) hk; rw [gd k hk] at this; exact this
  · intro h
    have lo_eq : lo = x.length := by
      rcases a2 with e | e
      · exact e
      · by_cases hlt : lo < x.length
        · rw [gd lo hlt, h _ (by rw [Array.mem_toList_iff]; exact Array.getElem_mem hlt)] at e; cases e
        · omega
    have : hi - lo = 0 := by omega
    rw [this] at hl
    apply str_ext
    exact Array.eq_empty_of_size_eq_zero hl
theorem alpha_has : ∀ c : Nat, (("abcdefghijklmnopqrstuvwxyz" : Str)).cps.contains c = true ↔ 97 ≤ c ∧ c ≤ 122 := by
  intro c
  rw [Array.contains_iff_mem]
  have e : (("abcdefghijklmnopqrstuvwxyz" : Str)).cps.toList = (List.range 26).map (97 + ·) := by decide +kernel
  rw [← Array.mem_toList_iff, e, List.mem_map]
  constructor
  · rintro ⟨a, ha, rfl⟩
    have := List.mem_range.mp ha
    omega
  · rintro ⟨h1, h2⟩
    exact ⟨c - 97, List.mem_range.mpr (by omega), by omega⟩
theorem strip_ok {z : Str} : Txt.stripChars z "abcdefghijklmnopqrstuvwxyz" = Str.empty ↔ Letters z.cps.toList := by
  rw [strip_all]
  exact ⟨fun h c hc => (alpha_has c).mp (h c hc), fun h c hc => (alpha_has c).mpr (h c hc)⟩
theorem empty_eq : ("" : Str) = Str.empty := by decide
theorem okName_and {z : Str} : okName z = true ↔ Txt.stripChars z "abcdefghijklmnopqrstuvwxyz" = ("" : Str) ∧ (0 < z.length ∧ z.length < 9) := by
  rw [okName_iff, empty_eq, strip_ok]
  exact ⟨fun g => ⟨g.let_, by have := g.pos; omega, by have := g.le; omega⟩, fun ⟨a, b, c⟩ => ⟨by omega, by omega, a⟩⟩
/-- // by any divisor but 0 below 2 ^ 9000 -/
def CDivX (_ j : Int) : Prop := j ≠ 0 ∧ j.natAbs < 2 ^ 9000
theorem op_fdivX {X : Cx} : OpR X (binaryOp .FloorDiv) (rI CDivX fun i j => .int (i.fdiv j)) := opI fun i j _ _ _ _ _ hc q =>
  PyProof.Rows.floordiv_int hc.1 q (.inl (PyProof.noPylong_of_log2 (PySem.Flt.log2_lt_of (by decide) hc.2)))
theorem itN {c A B : Prop} [Decidable c] (hc : ¬ c) (h : B) : if decide c = true then A else B := by
  rw [decide_eq_false hc]; exact iteF h
theorem itY {c A B : Prop} [Decidable c] (hc : c) (h : A) : if decide c = true then A else B := by
  rw [decide_eq_true hc]; exact iteT h
theorem ifT {b : Bool} {A B : Prop} (hb : b = true) (h : A) : if b = true then A else B := by rw [if_pos hb]; exact h
theorem ifF {b : Bool} {A B : Prop} (hb : b = false) (h : B) : if b = true then A else B := by rw [if_neg (by rw [hb]; decide)]; exact h
theorem same_new {H : Hp} {l : Addr} {o : HO} (h : H l = none) : Same H (upd H l o) := fun b u e => by rw [upd_ne (ne_of_none e h)]; exact e
theorem _root_.L2.Same.tup {K : PySem.W.Frag} {H H' : Hp} {a : Addr} {xs : List V} (e : Same H H') (h : SqT K H a xs) : SqT K H' a xs := by
  rcases h with (r | ⟨o, r⟩) | z
  · exact .inl (.inl (e _ _ r))
  · exact .inl (.inr ⟨o, e _ _ r⟩)
  · exact .inr z
/-! ### a comprehension's list -/
/-- the heap H1 has grown, at D stands fm i -/
def PvS (H1 : Hp) (D : Addr) (fm : Nat → List V) (i : Nat) (H : Hp) : Prop := Same H1 H ∧ H D = some (.lst (fm i))
theorem pv0 {H1 : Hp} {D : Addr} {fm : Nat → List V} (hD : H1 D = none) (h : fm 0 = []) : PvS H1 D fm 0 (upd H1 D (.lst [])) := ⟨same_new hD, by rw [h]; exact upd_same⟩
theorem PvS.more {H1 H H' : Hp} {D : Addr} {fm : Nat → List V} {i : Nat} (p : PvS H1 D fm i H) (s : Same H H') : PvS H1 D fm i H' := ⟨p.1.trans s, s _ _ p.2⟩
theorem PvS.push {H1 H : Hp} {D : Addr} {fm : Nat → List V} {i : Nat} {y : V} (p : PvS H1 D fm i H) (hD : H1 D = none) (h : fm (i + 1) = fm i ++ [y]) (hl : (fm i).length ≤ 1000000) :
    ∃ acc, H D = some (.lst acc) ∧ acc.length < sizeLine ∧ PvS H1 D fm (i + 1) (upd H D (.lst (acc ++ [y]))) := by
  refine ⟨fm i, p.2, Nat.lt_of_le_of_lt hl (by decide), fun b o e => ?_, ?_⟩
  · rw [upd_ne (ne_of_none e hD)]; exact p.1 _ _ e
  · rw [h]; exact upd_same
theorem PvS.skip {H1 H : Hp} {D : Addr} {fm : Nat → List V} {i : Nat} (p : PvS H1 D fm i H) (h : fm (i + 1) = fm i) : PvS H1 D fm (i + 1) H := ⟨p.1, by rw [h]; exact p.2⟩
theorem small_int {n : Nat} (h : n ≤ 1000000) : n < sizeLine := Nat.lt_of_le_of_lt h (by decide)
theorem take_succ {α : Type} {xs : List α} {i : Nat} {x : α} (h : xs[i]? = some x) : xs.take (i + 1) = xs.take i ++ [x] := by
  rw [List.take_succ, h]; rfl
theorem not_take {ns : List Str} {i : Nat} {z : Str} (nd : ns.Nodup) (hz : ns[i]? = some z) : z ∉ ns.take i := by
  intro hm
  obtain ⟨j, hj, e⟩ := List.mem_take_iff_getElem.mp hm
  obtain ⟨hi, e2⟩ := List.getElem?_eq_some_iff.mp hz
  rw [List.nodup_iff_pairwise_ne, List.pairwise_iff_getElem] at nd
  exact nd j i (by omega) hi (by omega) (e.trans e2.symm)
theorem itNe {A B : Prop} {x y : V} (h : x = y) (h2 : B) : if (!decide (x = y)) = true then A else B := by
  rw [decide_eq_true h]; exact iteF h2
theorem itNeN {A B : Prop} {x y : V} (h : x ≠ y) (h2 : A) : if (!decide (x = y)) = true then A else B := by
  rw [decide_eq_false h]; exact iteT h2
/-- a def that may raise -/
theorem funX {P : Program} {w : World} {K : PySem.W.Frag} {mg : Str → Option Value} {base : Heap} {CX : CXT} {x qual : Str} {st : Stmt} {f : Addr} {fd : FuncData} {N ps : List Str} {k : Nat} {sp : Sp} (F : Fun K x qual st f fd) (S : FnScope N ps (defScope st)) (len : ∀ vs H Q E, sp vs H Q E → vs.length = ps.length)
    (hbody : ∀ (cdv : Value) (A : Around) (outer : List Env) (s : Shared) (H : Hp) (vs : List V) (Q : VK) (E : XK), Room k (A.deeper (PyProof.Rows.envOfC qual (defScope st) s.heap.objs.size f cdv)) → sp vs H Q E →
      ∃ t, PSs (cxOf CX P w K mg base N qual (defScope st) f cdv A outer s H E) (defBody st) t ∧ t { nx := fun _ H' => Q .non H', rt := Q } (L2.start N vs) H) : FnOk P w K mg base CX (k + 1) f fd ps sp := by
  obtain ⟨oc, od, kV, doc, pm, an, cdv, ct, osl, rfl, lk, hcd⟩ := F.ex
  exact fn_of lk hcd S len fun A outer s H vs Q E hr hsp => hbody cdv A outer s H vs Q E hr hsp
theorem seq_upd {K : PySem.W.Frag} {H : Hp} {a b : Addr} {xs : List V} {u o : HO} (h : SqL K H a xs) (hb : H b = some u) (h1 : ∀ ys, u ≠ .lst ys) (h2 : ∀ c d, u ≠ .frz c d) : SqL K (upd H b o) a xs := by
  rcases h with (r | ⟨c, r⟩) | z
  · exact .inl (.inl (by rw [upd_ne (ne_of r hb (fun z => h1 _ z.symm))]; exact r))
  · exact .inl (.inr ⟨c, by rw [upd_ne (ne_of r hb (fun z => h2 _ _ z.symm))]; exact r⟩)
  · exact .inr z
/-! ### tables -/
theorem krc : ¬ (("columns" : Str) = "rows") := by decide +kernel
def fldsT (ct rt : Addr) : List (Str × V) := putF "rows" (.ref rt) (putF "columns" (.ref ct) [])
theorem fldsT_columns (ct rt : Addr) : (fldsT ct rt).lookup ("columns" : Str) = some (.ref ct) := by
  unfold fldsT; rw [lookup_putF, if_neg krc, lookup_putF, if_pos rfl]
theorem fldsT_rows (ct rt : Addr) : (fldsT ct rt).lookup ("rows" : Str) = some (.ref rt) := by
  unfold fldsT; rw [lookup_putF, if_pos rfl]
/-- at ts stand the lists (or tuples) of texts rs -/
structure Lss (f : List V → HO) (H : Hp) (ts : List Addr) (rs : List (List Str)) : Prop where
  len : ts.length = rs.length
  at_ : ∀ (i : Nat) (t : Addr) (r : List Str), ts[i]? = some t → rs[i]? = some r → H t = some (f (sv r))
theorem Lss.same {f : List V → HO} {H H' : Hp} {ts : List Addr} {rs : List (List Str)} (h : Lss f H ts rs) (e : Same H H') : Lss f H' ts rs := ⟨h.len, fun i t x a b => e _ _ (h.at_ i t x a b)⟩
theorem Lss.nil {f : List V → HO} {H : Hp} : Lss f H [] [] := ⟨rfl, fun i t x h => by simp at h⟩
theorem Lss.app {f : List V → HO} {H : Hp} {ts : List Addr} {rs : List (List Str)} {t : Addr} {r : List Str} (h : Lss f H ts rs) (ht : H t = some (f (sv r))) : Lss f H (ts ++ [t]) (rs ++ [r]) := by
  refine ⟨by rw [List.length_append, List.length_append, h.len]; rfl, fun i u y a b => ?_⟩
  rcases Nat.lt_trichotomy i ts.length with c | c | c
  · rw [List.getElem?_append_left c] at a
    rw [List.getElem?_append_left (by rw [← h.len]; exact c)] at b
    exact h.at_ i u y a b
  · rw [c, List.getElem?_append_right (Nat.le_refl _), Nat.sub_self] at a
    rw [c, h.len, List.getElem?_append_right (Nat.le_refl _), Nat.sub_self] at b
    cases a; cases b; exact ht
  · rw [List.getElem?_append_right (by omega), List.getElem?_eq_none (by simp; omega)] at a
    cases a
theorem Lss.get {f : List V → HO} {H : Hp} {ts : List Addr} {rs : List (List Str)} (h : Lss f H ts rs) {i : Nat} {t : Addr} (hi : ts[i]? = some t) : ∃ r, rs[i]? = some r ∧ H t = some (f (sv r)) := by
  have hx : i < rs.length := by rw [← h.len]; exact (List.getElem?_eq_some_iff.mp hi).1
  exact ⟨rs[i], List.getElem?_eq_getElem hx, h.at_ i _ _ hi (List.getElem?_eq_getElem hx)⟩
theorem refs_get {ts : List Addr} {i : Nat} {v : V} (h : (ts.map V.ref)[i]? = some v) : ∃ t, ts[i]? = some t ∧ v = .ref t := by
  rw [List.getElem?_map] at h
  cases e : ts[i]? with
  | none => rw [e] at h; cases h
  | some t => rw [e] at h; exact ⟨t, rfl, (Option.some.inj h).symm⟩
/-- the row in the columns' sequence -/
def canon (cs r : List Str) : List Str := cs.filter fun x => decide (x ∈ r)
theorem canon_T {l r : List Str} {z : Str} (hm : z ∈ r) : canon (l ++ [z]) r = canon l r ++ [z] := by
  unfold canon; rw [List.filter_append]; simp [hm]
theorem canon_F {l r : List Str} {z : Str} (hm : z ∉ r) : canon (l ++ [z]) r = canon l r := by
  unfold canon; rw [List.filter_append]; simp [hm]
theorem Lss.updT {H : Hp} {ts : List Addr} {rs : List (List Str)} {l : Addr} {u o : HO} (h : Lss .tup H ts rs) (hl : H l = some u) (hu : ∀ xs, u ≠ .tup xs) : Lss .tup (upd H l o) ts rs := ⟨h.len, fun i t x a b => by
  have := h.at_ i t x a b
  rw [upd_ne (ne_of this hl (fun z => hu _ z.symm))]
  exact this⟩
/-- the table with the columns cs and the rows rs stands at p -/
def Tb (C : Addr) (H : Hp) (p : Addr) (cs : List Str) (rs : List (List Str)) : Prop :=
  ∃ dx ct rt ts, H p = some (.ins C dx (fldsT ct rt)) ∧ H ct = some (.tup (sv cs)) ∧ H rt = some (.tup (ts.map V.ref)) ∧ Lss .tup H ts (rs.map (canon cs))
theorem Tb.same {C : Addr} {H H' : Hp} {p : Addr} {cs : List Str} {rs : List (List Str)} (h : Tb C H p cs rs) (e : Same H H') : Tb C H' p cs rs :=
  let ⟨dx, ct, rt, ts, h1, h2, h3, h4⟩ := h; ⟨dx, ct, rt, ts, e _ _ h1, e _ _ h2, e _ _ h3, h4.same e⟩
theorem exc_same {H : Hp} {a d : Addr} {o1 o2 o3 o4 : HO} (ha : H a = none) (hd : H d = none) : Same H (upd (L2.del (upd (upd (upd H a o1) d o2) a o3) a) d o4) := fun b o e => by
  rw [upd_ne (ne_of_none e hd), L2.del_ne (ne_of_none e ha), upd_ne (ne_of_none e ha), upd_ne (ne_of_none e hd), upd_ne (ne_of_none e ha)]
  exact e
theorem fault_lt {cs ns : List Str} {i : Nat} (h : fault cs ns = some i) : i ≤ ns.length := by
  unfold fault at h
  cases hs : stray cs ns with
  | some j =>
    rw [hs] at h
    cases h
    unfold stray at hs
    rw [List.find?_range_eq_some] at hs
    exact Nat.le_of_lt (List.mem_range.mp hs.2.1)
  | none =>
    rw [hs] at h
    have h : (if ns.length < cs.length then some ns.length else none) = some i := h
    split at h
    · cases h; exact Nat.le_refl _
    · cases h
section
variable {K : PySem.W.Frag}
theorem passS0 {X : Cx} : ∀ σ, PassesAt CX0 X σ ((fun _ => E0) σ) := fun _ _ _ _ _ _ _ h => h.elim
theorem fnIn_of {x qual : Str} {st : Stmt} {f : Addr} {fd : FuncData} (F : Fun K x qual st f fd) : PySem.W.fnIn K f = true := by
  obtain ⟨oc, od, kV, doc, pm, an, cdv, ct, osl, rfl, lk, hcd⟩ := F.ex
  unfold PySem.W.fnIn
  rw [lk]
end
section
variable {P : Program} {w : World} {K : PySem.W.Frag} {mg : Str → Option Value} {base : Heap}
/-- a promise under which nothing is raised -/
theorem quiet {k : Nat} {f : Addr} {fd : FuncData} {ps : List Str} {sp sp' : Sp} (F : FnOk P w K mg base (L2.CX P w) k f fd ps sp) (h : ∀ vs H Q E, sp' vs H Q E → sp vs H Q E0) : FnOk P w K mg base CX0 k f fd ps sp' :=
  ⟨fun vs H Q E q => F.len _ _ _ _ (h _ _ _ _ q), fun A outer s H args us vs Q E hr he hb hv hs => codeAny_mono (F.run A outer s H args us vs Q E0 hr he hb hv (h _ _ _ _ hs)) fun r s' g => by
    cases r with
    | ok fl => cases fl <;> exact g
    | error e => obtain ⟨_, _, _, _, _, _, _, _, _, _, _, _, z⟩ := g; exact z.elim⟩
/-- two promises of one def -/
theorem fnok_or {CX : CXT} {k : Nat} {f : Addr} {fd : FuncData} {ps : List Str} {sp sp' : Sp} (F : FnOk P w K mg base CX k f fd ps sp) (G : FnOk P w K mg base CX k f fd ps sp') : FnOk P w K mg base CX k f fd ps (fun vs H Q E => sp vs H Q E ∨ sp' vs H Q E) :=
  ⟨fun vs H Q E h => h.elim (F.len vs H Q E) (G.len vs H Q E), fun A outer s H args us vs Q E hr he hb hv hs => hs.elim (F.run A outer s H args us vs Q E hr he hb hv) (G.run A outer s H args us vs Q E hr he hb hv)⟩
end
theorem hu65 {A : Around} {k : Nat} (hr : Room k A) : A.units + 65 < cLine := by have := hr.un; omega
theorem cut_sv (os : List Str) (lo hi : Option Int) : ∃ ys : List Str, cutV (sv os) lo hi = sv ys ∧ ys.Sublist os := by
  unfold cutV
  rw [sv_drop, sv_take]
  exact ⟨_, rfl, (List.take_sublist _ _).trans (List.drop_sublist _ _)⟩
theorem sv_app (a b : List Str) : sv a ++ sv b = sv (a ++ b) := List.map_append.symm
/-- texts that can be laid -/
abbrev Okz (z : Str) : Prop := PyData.canLay0 (.str z) = true
theorem okz_good {z : Str} (h : Good z) : Okz z := by
  show PyData.canLay0 (.str z) = true
  unfold PyData.canLay0 PyData.strOk
  rw [Array.all_eq_true]
  intro i hi
  have := h.let_ z.cps[i] (by rw [Array.mem_toList_iff]; exact Array.getElem_mem hi)
  exact decide_eq_true (by omega)
abbrev pd (ss : List Str) : List PyData := ss.map PyData.str
theorem lay_all {ss : List Str} (h : ∀ z ∈ ss, Okz z) : PyData.canLayAll0 (pd ss) = true := by
  induction ss with
  | nil => rfl
  | cons a t ih =>
    show (PyData.canLay0 (.str a) && PyData.canLayAll0 (pd t)) = true
    rw [h a List.mem_cons_self, ih fun z hz => h z (List.mem_cons_of_mem _ hz)]; rfl
theorem depth_pd : ∀ ss : List Str, PyData.depthAll (pd ss) ≤ 1
  | [] => by simp [PyData.depthAll]
  | n :: r => by
    have e : PyData.depthAll (r.map PyData.str) ≤ 1 := depth_pd r
    simp only [List.map_cons, PyData.depthAll, PyData.depth]
    omega
theorem shaped_pd {ss : List Str} (h : ∀ z ∈ ss, Okz z) : SeqAt.shaped (.list (pd ss)) = true := by
  have h1 := depth_pd ss
  show (PyData.canLay0 (.list (pd ss)) && decide (PyData.depth (.list (pd ss)) ≤ 64)) = true
  rw [Bool.and_eq_true]
  exact ⟨by simp only [PyData.canLay0]; exact lay_all h, decide_eq_true (by simp only [PyData.depth]; omega)⟩
theorem dp_pd {K : PySem.W.Frag} {H : Hp} : ∀ ss : List Str, DpAll K H (sv ss) (pd ss)
  | [] => .nil
  | s :: r => .cons (.str s) (dp_pd r)
theorem eqv_pd {ss : List Str} (h : ∀ z ∈ ss, Okz z) : PyData.eqv (.list (pd ss)) (.list (pd ss)) = true := SeqAt.eqv_refl _ (by simp only [PyData.canLay0]; exact lay_all h)
theorem dpAll_bl {K : PySem.W.Frag} {H : Hp} : ∀ bs : List Bool, DpAll K H (bs.map V.bl) (bs.map PyData.bool)
  | [] => .nil
  | b :: bs => .cons (.bl b) (dpAll_bl bs)
theorem exm_self {K : PySem.W.Frag} {C : Addr} (hb : PySem.W.subIn K (.ref C) (.type "BaseException") = some true) (hi : PySem.W.isClsIn K C = true) (ht : PySem.W.typeIn K (.ref C) = some (.type "type")) (hs : PySem.W.subIn K (.ref C) (.ref C) = some true) :
    PySem.W.exmOne K (.ref C) (.ref C) = some true := by
  unfold PySem.W.exmOne
  rw [hb, if_pos (by rfl)]
  show (if ((PySem.W.clsIn K C).isSome && PySem.W.typeIn K (.ref C) == some (.type "type")) = true then _ else _) = _
  rw [if_pos (by
    rw [ht]
    have : (PySem.W.clsIn K C).isSome = true := hi
    rw [this]; simp)]
  exact hs
theorem nd_len : ∀ (x cs : List Str), x.Nodup → (∀ y ∈ x, y ∈ cs) → x.length ≤ cs.length
  | [], _, _, _ => Nat.zero_le _
  | a :: t, cs, nd, h => by
    have nd := List.nodup_cons.mp nd
    have hp := List.perm_cons_erase (h a List.mem_cons_self)
    have := nd_len t (cs.erase a) nd.2 fun y hy => by
      have hy' := h y (List.mem_cons_of_mem _ hy)
      exact (List.mem_erase_of_ne (fun e => nd.1 (by rw [← e]; exact hy))).mpr hy'
    have e := hp.length_eq
    rw [List.length_cons] at e ⊢
    omega
theorem at_sv {ss : List Str} {j : Int} (h0 : 0 ≤ j) (h1 : j < ss.length) : ∃ z, z ∈ ss ∧ atI (sv ss) j = some (V.str z) := by
  obtain ⟨n, rfl⟩ := Int.eq_ofNat_of_zero_le h0
  have hn : n < ss.length := by omega
  exact ⟨ss[n], List.getElem_mem hn, atI_nat (by rw [List.getElem?_map, List.getElem?_eq_getElem hn]; rfl)⟩
theorem sv3 (a b : List Str) (x : Str) : sv a ++ [V.str x] ++ sv b = sv (a ++ [x] ++ b) := by simp [sv]
theorem mulW {i j : Int} (hi : i.natAbs < 2 ^ 9000) (hj : j.natAbs < 2 ^ 9000) : CMulW i j := wide_mul hi hj (by decide) (by decide) (by decide)
theorem atI_ok {xs : List Int} {j : Int} (h0 : 0 ≤ j) (h1 : j < xs.length) : ∃ v, v ∈ xs ∧ atI (xs.map V.int) j = some (V.int v) := by
  have hj : j.toNat < xs.length := by omega
  refine ⟨xs[j.toNat], List.getElem_mem hj, ?_⟩
  have e : (xs.map V.int)[j.toNat]? = some (V.int xs[j.toNat]) := by rw [List.getElem?_map, List.getElem?_eq_getElem hj]; rfl
  have := atI_nat e
  rw [show ((j.toNat : Nat) : Int) = j by omega] at this
  exact this
theorem len_map_int (xs : List Int) : (xs.map V.int).length = xs.length := List.length_map ..
/-- a pool of draws -/
def Pool (ns : List Int) : Prop := ∀ x ∈ ns, 0 ≤ x ∧ x < 27720
theorem Pool.nil : Pool [] := fun x h => nomatch h
theorem Pool.app {ns : List Int} {x : Int} (h : Pool ns) (h0 : 0 ≤ x) (h1 : x < 27720) : Pool (ns ++ [x]) := fun y hy => by
  rcases List.mem_append.mp hy with hy | hy
  · exact h y hy
  · cases List.mem_singleton.mp hy; exact ⟨h0, h1⟩
theorem upd_app {H : Hp} {l : Addr} {ps : List Int} {x : Int} : upd (upd H l (.lst (ps.map V.int))) l (.lst (ps.map V.int ++ [V.int x])) = upd H l (.lst ((ps ++ [x]).map V.int)) := by
  rw [upd_upd, List.map_append]
  rfl
theorem mod_sz {x m : Int} {k : Nat} (h : 0 < m) (hk : m.natAbs < 2 ^ k) : (x % m).natAbs < 2 ^ k := by
  have h1 := Int.emod_nonneg x (Int.ne_of_gt h)
  have h2 := Int.emod_lt_of_pos x h
  omega
/-! ### drawn names -/
theorem alpha_at : ∀ k : Fin 26, atI (("abcdefghijklmnopqrstuvwxyz" : Str)).cps.toList ((k.val : Nat) : Int) = some (97 + k.val) := by decide +kernel
theorem alpha_ix : ∀ k : Fin 26, Builtin.Str.occurrences ("abcdefghijklmnopqrstuvwxyz" : Str) ⟨#[97 + k.val]⟩ 0 (("abcdefghijklmnopqrstuvwxyz" : Str)).length 1 = [k.val] := by decide +kernel
theorem alpha_len : (("abcdefghijklmnopqrstuvwxyz" : Str)).length ≤ sizeLine := by decide
theorem Letters.app {l m : List Nat} (h : Letters l) (k : Letters m) : Letters (l ++ m) := fun c hc => (List.mem_append.mp hc).elim (h c) (k c)
theorem Letters.one {c : Nat} (h0 : 97 ≤ c) (h1 : c ≤ 122) : Letters [c] := fun d hd => by rw [List.mem_singleton.mp hd]; exact ⟨h0, h1⟩
/-- the word whose last sign has gone t signs on -/
def wat (pre : List Nat) (c t : Nat) : Str := ⟨(pre ++ [97 + (c - 97 + t) % 26]).toArray⟩
theorem wat_len {pre : List Nat} {c t : Nat} : (wat pre c t).length = pre.length + 1 := by
  show ((pre ++ [97 + (c - 97 + t) % 26]).toArray).size = _
  rw [List.size_toArray, List.length_append]; rfl
theorem wat_last {pre : List Nat} {c t : Nat} : atI (wat pre c t).cps.toList (-1) = some (97 + (c - 97 + t) % 26) := by
  show atI (pre ++ [97 + (c - 97 + t) % 26]) (-1) = _
  unfold atI ixN
  rw [if_neg (by decide)]
  have h1 : ((pre ++ [97 + (c - 97 + t) % 26]).length : Int) = (pre.length : Int) + 1 := by rw [List.length_append]; rfl
  have e : (-1 + ((pre ++ [97 + (c - 97 + t) % 26]).length : Int)).toNat = pre.length := by omega
  rw [if_pos (by omega), e]
  simp
theorem wat_next {pre : List Nat} {c t : Nat} : wat pre c (t + 1) = cutS (wat pre c t) none (some (-1)) ++ (⟨#[97 + ((c - 97 + t) % 26 + 1) % 26]⟩ : Str) := by
  apply str_ext
  apply Array.toList_inj.mp
  rw [append_cps, Array.toList_append]
  show pre ++ [97 + (c - 97 + (t + 1)) % 26] = (((pre ++ [97 + (c - 97 + t) % 26]).drop 0).take _) ++ [97 + ((c - 97 + t) % 26 + 1) % 26]
  have h2 : HT.sIx (wat pre c t).length (wat pre c t).length (some (-1)) - HT.sIx (wat pre c t).length 0 none = pre.length := by
    rw [wat_len]
    unfold HT.sIx
    simp
    omega
  rw [h2, List.drop_zero, List.take_left]
  have : (c - 97 + (t + 1)) % 26 = ((c - 97 + t) % 26 + 1) % 26 := by omega
  rw [this]
theorem nodup_le {l : List Str} : ∀ {m : List Str}, l.Nodup → (∀ x ∈ l, x ∈ m) → l.length ≤ m.length := by
  induction l with
  | nil => intro m _ _; exact Nat.zero_le _
  | cons a t ih =>
    intro m nd h
    rw [List.nodup_cons] at nd
    have ha := h a List.mem_cons_self
    have := ih (m := m.erase a) nd.2 fun x hx => (List.mem_erase_of_ne (fun e => nd.1 (by rw [← e]; exact hx))).mpr (h x (List.mem_cons_of_mem _ hx))
    rw [List.length_erase_of_mem ha] at this
    have : 0 < m.length := List.length_pos_of_mem ha
    rw [List.length_cons]
    omega
theorem wat_many {pre : List Nat} {c : Nat} {ns : List Str} (h : ∀ t, t < 26 → wat pre c t ∈ ns) : 26 ≤ ns.length := by
  have nd : ((List.range 26).map (wat pre c)).Nodup := by
    rw [List.nodup_iff_pairwise_ne, List.pairwise_map]
    refine List.Pairwise.imp_of_mem (fun {a b} ha hb hab e => hab ?_) (List.nodup_iff_pairwise_ne.mp List.nodup_range)
    have e1 : pre ++ [97 + (c - 97 + a) % 26] = pre ++ [97 + (c - 97 + b) % 26] := congrArg (fun z : Str => z.cps.toList) e
    have e2 := List.append_cancel_left e1
    have e3 : 97 + (c - 97 + a) % 26 = 97 + (c - 97 + b) % 26 := List.head_eq_of_cons_eq e2
    have := List.mem_range.mp ha
    have := List.mem_range.mp hb
    omega
  have := nodup_le nd fun x hx => by
    obtain ⟨t, ht, rfl⟩ := List.mem_map.mp hx
    exact h t (List.mem_range.mp ht)
  rw [List.length_map, List.length_range] at this
  exact this
theorem sv_inj {a b : List Str} (h : sv a = sv b) : a = b := by
  have : ∀ {a b : List Str}, sv a = sv b → a = b := fun {a b} => by
    intro h
    induction a generalizing b with
    | nil => cases b with | nil => rfl | cons _ _ => cases h
    | cons x t ih =>
      cases b with
      | nil => cases h
      | cons y u =>
        have h1 := List.cons.inj h
        rw [V.str.inj h1.1, ih h1.2]
  exact this h
theorem sv_snoc (l : List Str) (x : Str) : sv (l ++ [x]) = sv l ++ [V.str x] := List.map_append
theorem sEq {a b : Str} (h : a = b) : decide (V.str a = V.str b) = true := by rw [h]; exact decide_eq_true rfl
theorem sNe {a b : Str} (h : a ≠ b) : decide (V.str a = V.str b) = false := decide_eq_false fun e => h (V.str.inj e)
theorem iEq {a b : Int} (h : a = b) : decide (V.int a = V.int b) = true := by rw [h]; exact decide_eq_true rfl
theorem iNe {a b : Int} (h : a ≠ b) : decide (V.int a = V.int b) = false := decide_eq_false fun e => h (V.int.inj e)
theorem atR_of {us : List Addr} {i : Nat} {u : Addr} (h : us[i]? = some u) : atI (us.map V.ref) (i : Int) = some (V.ref u) := atI_nat (by rw [List.getElem?_map, h]; rfl)
theorem Lss.ex {f : List V → HO} {H : Hp} {us : List Addr} {ls : List (List Str)} (h : Lss f H us ls) {i : Nat} (hi : i < ls.length) : ∃ u w, us[i]? = some u ∧ ls[i]? = some w ∧ H u = some (f (sv w)) := by
  have hi' : i < us.length := by rw [h.len]; exact hi
  exact ⟨us[i], ls[i], List.getElem?_eq_getElem hi', List.getElem?_eq_getElem hi, h.at_ i _ _ (List.getElem?_eq_getElem hi') (List.getElem?_eq_getElem hi)⟩
theorem kit_F {K : PySem.W.Frag} {C D : Addr} (hi : PySem.W.isClsIn K D = true) (ht : PySem.W.typeIn K (.ref D) = some (.type "type")) (hs : PySem.W.subIn K (.ref C) (.ref D) = some false) (hss : PySem.W.subIn K (.ref C) (.ref C) = some true) : PySem.W.kitOne K (.ref C) (.ref D) = some false :=
  kit_own hi ht hs (.inl fun e => by rw [← e, hss] at hs; cases hs)
theorem exm_F {K : PySem.W.Frag} {C D : Addr} (hb : PySem.W.subIn K (.ref D) (.type "BaseException") = some true) (hi : PySem.W.isClsIn K D = true) (ht : PySem.W.typeIn K (.ref D) = some (.type "type")) (hs : PySem.W.subIn K (.ref C) (.ref D) = some false) : PySem.W.exmOne K (.ref C) (.ref D) = some false := by
  unfold PySem.W.exmOne
  rw [hb, if_pos (by rfl)]
  show (if ((PySem.W.clsIn K D).isSome && PySem.W.typeIn K (.ref D) == some (.type "type")) = true then _ else _) = _
  rw [if_pos (by
    rw [ht]
    have : (PySem.W.clsIn K D).isSome = true := hi
    rw [this]; simp)]
  exact hs
theorem pEq {a b : Bool} (h : a = b) : decide (V.bl a = V.bl b) = true := by rw [h]; exact decide_eq_true rfl
theorem pNe {a b : Bool} (h : a ≠ b) : decide (V.bl a = V.bl b) = false := decide_eq_false fun e => h (V.bl.inj e)
theorem sIx_lo {n k : Nat} (h : k ≤ n) : HT.sIx n 0 (some (k : Int)) = k := by rw [HT.sIx_nat, Nat.min_eq_left h]
theorem sIx_hi {n k : Nat} (h : k ≤ n) : HT.sIx n n (some (k : Int)) = k := by rw [HT.sIx_nat, Nat.min_eq_left h]
theorem layc {a : PyData} {r : List PyData} (h : PyData.canLay0 a = true) (k : PyData.canLayAll0 r = true) : PyData.canLayAll0 (a :: r) = true := by
  show (PyData.canLay0 a && PyData.canLayAll0 r) = true
  rw [h, k]; rfl
theorem lay_int (i : Int) : PyData.canLay0 (.int i) = true := by simp [PyData.canLay0]
theorem shapedL {xs : List PyData} (h1 : PyData.canLayAll0 xs = true) (h2 : PyData.depthAll xs ≤ 20) : SeqAt.shaped (.list xs) = true := by
  show (PyData.canLay0 (.list xs) && decide (PyData.depth (.list xs) ≤ 64)) = true
  rw [Bool.and_eq_true]
  exact ⟨by simp only [PyData.canLay0]; exact h1, decide_eq_true (by simp only [PyData.depth]; omega)⟩
theorem shapedT {xs : List PyData} (h1 : PyData.canLayAll0 xs = true) (h2 : PyData.depthAll xs ≤ 20) : SeqAt.shaped (.tuple xs) = true := by
  show (PyData.canLay0 (.tuple xs) && decide (PyData.depth (.tuple xs) ≤ 64)) = true
  rw [Bool.and_eq_true]
  exact ⟨by simp only [PyData.canLay0]; exact h1, decide_eq_true (by simp only [PyData.depth]; omega)⟩
theorem eqvL {xs : List PyData} (h1 : PyData.canLayAll0 xs = true) : PyData.eqv (.list xs) (.list xs) = true := SeqAt.eqv_refl _ (by simp only [PyData.canLay0]; exact h1)
theorem eqvT {xs : List PyData} (h1 : PyData.canLayAll0 xs = true) : PyData.eqv (.tuple xs) (.tuple xs) = true := SeqAt.eqv_refl _ (by simp only [PyData.canLay0]; exact h1)
theorem layL {xs : List PyData} (h1 : PyData.canLayAll0 xs = true) : PyData.canLay0 (.list xs) = true := by simp only [PyData.canLay0]; exact h1
theorem layT {xs : List PyData} (h1 : PyData.canLayAll0 xs = true) : PyData.canLay0 (.tuple xs) = true := by simp only [PyData.canLay0]; exact h1
theorem none_of {H H' : Hp} (s : Same H H') {a : Addr} (h : H' a = none) : H a = none := by
  cases e : H a with
  | none => rfl
  | some o => rw [s _ _ e] at h; cases h
theorem Lss.updNe {f : List V → HO} {H : Hp} {ts : List Addr} {rs : List (List Str)} {l : Addr} {o : HO} (h : Lss f H ts rs) (hne : ∀ (i : Nat) (t : Addr), ts[i]? = some t → t ≠ l) : Lss f (upd H l o) ts rs :=
  ⟨h.len, fun i t x a b => by rw [upd_ne (hne i t a)]; exact h.at_ i t x a b⟩
theorem ne_app {ts : List Addr} {a l : Addr} (h : ∀ (i : Nat) (t : Addr), ts[i]? = some t → t ≠ l) (ha : a ≠ l) : ∀ (i : Nat) (t : Addr), (ts ++ [a])[i]? = some t → t ≠ l := fun i t e => by
  rcases List.mem_append.mp (List.mem_of_getElem? e) with hm | hm
  · obtain ⟨j, hj, rfl⟩ := List.getElem_of_mem hm
    exact h j _ (List.getElem?_eq_getElem hj)
  · rw [List.mem_singleton.mp hm]; exact ha
theorem noT {r : Addr} : ∀ (i : Nat) (t : Addr), ([] : List Addr)[i]? = some t → t ≠ r := fun i t h => by simp at h
/-- a comprehension's list of new lists -/
def LcL (H1 : Hp) (D : Addr) (lls : List (List Str)) (H : Hp) : Prop := Same H1 H ∧ ∃ us : List Addr, H D = some (.lst (us.map V.ref)) ∧ Lss .lst H us lls ∧ ∀ (i : Nat) (t : Addr), us[i]? = some t → t ≠ D
theorem lcl0 {H1 : Hp} {D : Addr} (hD : H1 D = none) : LcL H1 D [] (upd H1 D (.lst [])) := ⟨same_new hD, [], upd_same, Lss.nil, noT⟩
theorem LcL.push {H1 H H' : Hp} {D a : Addr} {lls : List (List Str)} {y : List Str} (q : LcL H1 D lls H) (hD : H1 D = none) (s : Same H H') (ha : H' a = some (.lst (sv y))) (hne : a ≠ D) (hl : lls.length ≤ 1000001) :
    ∃ acc, H' D = some (.lst acc) ∧ acc.length < sizeLine ∧ LcL H1 D (lls ++ [y]) (upd H' D (.lst (acc ++ [.ref a]))) := by
  obtain ⟨sm, us, hd, hls, hn⟩ := q
  refine ⟨us.map V.ref, s _ _ hd, Nat.lt_of_le_of_lt (by rw [List.length_map, hls.len]; exact hl) (by decide), fun b o e => ?_, us ++ [a], ?_, ?_, ne_app hn hne⟩
  · rw [upd_ne (ne_of_none e hD)]; exact s _ _ (sm _ _ e)
  · rw [List.map_append]; exact upd_same
  · exact ((hls.same s).app ha).updNe (ne_app hn hne)
theorem LcL.new {H1 H : Hp} {D a : Addr} {lls : List (List Str)} {y : List Str} (q : LcL H1 D lls H) (hD : H1 D = none) (ha : H a = none) (hl : lls.length ≤ 1000001) :
    ∃ acc, (upd H a (.lst (sv y))) D = some (.lst acc) ∧ acc.length < sizeLine ∧ LcL H1 D (lls ++ [y]) (upd (upd H a (.lst (sv y))) D (.lst (acc ++ [.ref a]))) :=
  q.push hD (same_new ha) upd_same (by obtain ⟨_, us, hd, _⟩ := q; exact (ne_of_none hd ha).symm) hl

theorem okz_low {z : Str} (h : ∀ c ∈ z.cps.toList, c ≤ 122) : Okz z := by
  show PyData.canLay0 (.str z) = true
  unfold PyData.canLay0 PyData.strOk
  rw [Array.all_eq_true]
  intro i hi
  have := h z.cps[i] (by rw [Array.mem_toList_iff]; exact Array.getElem_mem hi)
  exact decide_eq_true (by omega)
theorem okz_sp {z : Str} (g : Good z) : Okz (z ++ " ") := okz_low fun c hc => by
  rw [append_cps, Array.toList_append] at hc
  rcases List.mem_append.mp hc with hc | hc
  · exact (g.let_ c hc).2
  · rw [show (" " : Str).cps.toList = [32] by decide] at hc; rw [List.mem_singleton.mp hc]; decide
theorem okz_A {z : Str} (g : Good z) : Okz ("A" ++ z) := okz_low fun c hc => by
  rw [append_cps, Array.toList_append] at hc
  rcases List.mem_append.mp hc with hc | hc
  · rw [show ("A" : Str).cps.toList = [65] by decide] at hc; rw [List.mem_singleton.mp hc]; decide
  · exact (g.let_ c hc).2
/-- a list of tuples of names -/
abbrev pdd (rs : List (List Str)) : List PyData := rs.map fun r => PyData.tuple (pd r)
theorem lay_pdd {rs : List (List Str)} (h : ∀ r ∈ rs, ∀ z ∈ r, Okz z) : PyData.canLayAll0 (pdd rs) = true := by
  induction rs with
  | nil => rfl
  | cons a t ih =>
    show (PyData.canLay0 (.tuple (pd a)) && PyData.canLayAll0 (pdd t)) = true
    rw [ih fun z hz => h z (List.mem_cons_of_mem _ hz), show PyData.canLay0 (.tuple (pd a)) = true by simp only [PyData.canLay0]; exact lay_all (h a List.mem_cons_self)]; rfl
theorem depth_pdd : ∀ rs : List (List Str), PyData.depthAll (pdd rs) ≤ 3
  | [] => by simp [PyData.depthAll]
  | r :: t => by
    have h1 : PyData.depthAll (t.map fun r => PyData.tuple (pd r)) ≤ 3 := depth_pdd t
    have h2 := depth_pd r
    simp only [List.map_cons, PyData.depthAll, PyData.depth]
    omega
theorem shaped_pdd {rs : List (List Str)} (h : ∀ r ∈ rs, ∀ z ∈ r, Okz z) : SeqAt.shaped (.list (pdd rs)) = true := by
  have h1 := depth_pdd rs
  show (PyData.canLay0 (.list (pdd rs)) && decide (PyData.depth (.list (pdd rs)) ≤ 64)) = true
  rw [Bool.and_eq_true]
  exact ⟨by simp only [PyData.canLay0]; exact lay_pdd h, decide_eq_true (by simp only [PyData.depth]; omega)⟩
theorem eqv_pdd {rs : List (List Str)} (h : ∀ r ∈ rs, ∀ z ∈ r, Okz z) : PyData.eqv (.list (pdd rs)) (.list (pdd rs)) = true := SeqAt.eqv_refl _ (by simp only [PyData.canLay0]; exact lay_pdd h)
theorem dp_pdd {K : PySem.W.Frag} {H : Hp} : ∀ {ts : List Addr} {rs : List (List Str)}, Lss .tup H ts rs → DpAll K H (ts.map V.ref) (pdd rs)
  | [], [], _ => .nil
  | [], _ :: _, h => nomatch h.len
  | _ :: _, [], h => nomatch h.len
  | t :: ts, r :: rs, h => .cons (.tup (xs := sv r) (SqT.of (h.at_ 0 t r rfl rfl)) (dp_pd r)) (dp_pdd ⟨Nat.succ.inj h.len, fun i u x a b => h.at_ (i + 1) u x a b⟩)
/-! ### == of data -/
mutual
/-- no truth values, no dicts -/
def nb : PyData → Bool
  | .none => true
  | .int _ => true
  | .str _ => true
  | .bool _ => false
  | .dict _ => false
  | .list xs => nbAll xs
  | .tuple xs => nbAll xs
def nbAll : List PyData → Bool
  | [] => true
  | x :: xs => nb x && nbAll xs
end
mutual
theorem eqv_iff : ∀ (d e : PyData), nb d = true → nb e = true → (PyData.eqv d e = true ↔ d = e)
  | .none, e, _, h => by cases e <;> simp [PyData.eqv]
  | .int i, e, _, h => by
    cases e <;> first | (simp only [nb] at h; cases h; done) | simp [PyData.eqv]
  | .str i, e, _, h => by cases e <;> simp [PyData.eqv]
  | .bool _, _, h, _ => by simp [nb] at h
  | .dict _, _, h, _ => by simp [nb] at h
  | .list xs, e, h, h' => by
    cases e <;> first | (simp [PyData.eqv]; done) | skip
    rename_i ys
    simp only [PyData.eqv, PyData.list.injEq]
    exact eqvAll_iff xs ys (by simpa [nb] using h) (by simpa [nb] using h')
  | .tuple xs, e, h, h' => by
    cases e <;> first | (simp [PyData.eqv]; done) | skip
    rename_i ys
    simp only [PyData.eqv, PyData.tuple.injEq]
    exact eqvAll_iff xs ys (by simpa [nb] using h) (by simpa [nb] using h')
theorem eqvAll_iff : ∀ (xs ys : List PyData), nbAll xs = true → nbAll ys = true → (PyData.eqvAll xs ys = true ↔ xs = ys)
  | [], [], _, _ => by simp [PyData.eqvAll]
  | [], _ :: _, _, _ => by simp [PyData.eqvAll]
  | _ :: _, [], _, _ => by simp [PyData.eqvAll]
  | x :: xs, y :: ys, h, h' => by
    simp only [nbAll, Bool.and_eq_true] at h h'
    simp only [PyData.eqvAll, Bool.and_eq_true, eqv_iff x y h.1 h'.1, eqvAll_iff xs ys h.2 h'.2, List.cons.injEq]
end
theorem nb_pd (ss : List Str) : nbAll (pd ss) = true := by
  induction ss with
  | nil => rfl
  | cons a t ih => show (true && nbAll (pd t)) = true; rw [ih]; rfl
theorem pd_inj {a b : List Str} : pd a = pd b ↔ a = b := by
  constructor
  · intro h
    have := congrArg (List.map fun d : PyData => match d with | .str x => x | _ => ("" : Str)) h
    rw [List.map_map, List.map_map] at this
    simpa [Function.comp_def] using this
  · intro h; rw [h]
theorem eqv_L (a b : List Str) : PyData.eqv (.list (pd a)) (.list (pd b)) = decide (a = b) := by
  rw [Bool.eq_iff_iff, decide_eq_true_iff, eqv_iff (.list (pd a)) (.list (pd b)) (by simp only [nb]; exact nb_pd a) (by simp only [nb]; exact nb_pd b), PyData.list.injEq, pd_inj]
theorem eqv_T (a b : List Str) : PyData.eqv (.tuple (pd a)) (.tuple (pd b)) = decide (a = b) := by
  rw [Bool.eq_iff_iff, decide_eq_true_iff, eqv_iff (.tuple (pd a)) (.tuple (pd b)) (by simp only [nb]; exact nb_pd a) (by simp only [nb]; exact nb_pd b), PyData.tuple.injEq, pd_inj]
theorem shaped_pdT {ss : List Str} (h : ∀ z ∈ ss, Okz z) : SeqAt.shaped (.tuple (pd ss)) = true := shapedT (lay_all h) (Nat.le_trans (depth_pd ss) (by decide))
theorem any_pdd (rs : List (List Str)) (a : List Str) : ((pdd rs).any fun z => PyData.eqv z (.tuple (pd a))) = decide (a ∈ rs) := by
  rw [Bool.eq_iff_iff, List.any_eq_true, decide_eq_true_iff]
  constructor
  · rintro ⟨d, hd, e⟩
    obtain ⟨r, hr, rfl⟩ := List.mem_map.mp hd
    rw [eqv_T, decide_eq_true_iff] at e
    rw [← e]; exact hr
  · intro h
    exact ⟨_, List.mem_map.mpr ⟨a, h, rfl⟩, by rw [eqv_T]; exact decide_eq_true rfl⟩
theorem okz_low' {z : Str} (h : z.cps.toList.all (· < 256) = true) : Okz z := by
  show PyData.canLay0 (.str z) = true
  unfold PyData.canLay0 PyData.strOk
  rw [Array.all_eq_true]
  intro i hi
  have := List.all_eq_true.mp h z.cps[i] (by rw [Array.mem_toList_iff]; exact Array.getElem_mem hi)
  have := of_decide_eq_true this
  exact decide_eq_true (by omega)
end My
set_option maxRecDepth 100000
set_option maxHeartbeats 4000000
set_option exponentiation.threshold 10000
namespace My
open PySem L2
abbrev rn (ns cs r : List Str) : Nat := runs (flags ns (canon cs r))
def nums (f : List Str → Bool) (rs : List (List Str)) : List Nat := (List.range rs.length).filter fun i => f (rs.getD i [])
theorem nums_le (f : List Str → Bool) (rs : List (List Str)) : (nums f rs).length ≤ rs.length := by
  have := List.length_filter_le (fun i => f (rs.getD i [])) (List.range rs.length)
  rw [List.length_range] at this
  exact this
theorem numsT {f : List Str → Bool} {rs : List (List Str)} {i : Nat} {r : List Str} (h : rs[i]? = some r) (hf : f r = true) : (((List.range (i + 1)).filter fun i => f (rs.getD i [])).map fun n => V.int (n : Nat)) = (((List.range i).filter fun i => f (rs.getD i [])).map fun n => V.int (n : Nat)) ++ [V.int (i : Nat)] := by
  have hd : rs.getD i [] = r := by rw [List.getD_eq_getElem?_getD, h]; rfl
  rw [List.range_succ, List.filter_append, List.map_append, List.filter_cons_of_pos (by rw [hd]; exact hf)]; rfl
theorem numsF {f : List Str → Bool} {rs : List (List Str)} {i : Nat} {r : List Str} (h : rs[i]? = some r) (hf : f r = false) : (((List.range (i + 1)).filter fun i => f (rs.getD i [])).map fun n => V.int (n : Nat)) = (((List.range i).filter fun i => f (rs.getD i [])).map fun n => V.int (n : Nat)) := by
  have hd : rs.getD i [] = r := by rw [List.getD_eq_getElem?_getD, h]; rfl
  rw [List.range_succ, List.filter_append, List.map_append, List.filter_cons_of_neg (by rw [hd, hf]; decide)]; simp
theorem nums_len (f : List Str → Bool) (rs : List (List Str)) (i : Nat) (hi : i ≤ 1000) : (((List.range i).filter fun i => f (rs.getD i [])).map fun n => V.int (n : Nat)).length ≤ 1000000 := by
  have := List.length_filter_le (fun i => f (rs.getD i [])) (List.range i)
  rw [List.length_range] at this
  rw [List.length_map]; omega
theorem perm_of_fault {cs ns : List Str} (nc : cs.Nodup) (h : fault cs ns = none) : (∀ x ∈ ns, x ∈ cs) ∧ ns.Nodup ∧ ns.Perm cs := by
  unfold fault at h
  cases hs : stray cs ns with
  | some i => rw [hs] at h; cases h
  | none =>
    rw [hs] at h
    have h : (if ns.length < cs.length then some ns.length else none) = none := h
    have hl : cs.length ≤ ns.length := by
      by_cases z : ns.length < cs.length
      · rw [if_pos z] at h; cases h
      · omega
    obtain ⟨hsub, nd⟩ := stray_none_iff.mp hs
    refine ⟨hsub, nd, ?_⟩
    have hin : ∀ x ∈ cs, x ∈ ns := fun x hx => Classical.byContradiction fun hn => by
      have := nodup_le (l := x :: ns) (m := cs) (List.nodup_cons.mpr ⟨hn, nd⟩) fun y hy => by
        rcases List.mem_cons.mp hy with rfl | hy
        · exact hx
        · exact hsub y hy
      rw [List.length_cons] at this
      omega
    exact (List.perm_ext_iff_of_nodup nd nc).mpr fun x => ⟨hsub x, hin x⟩
theorem perm_pick {α : Type} {l : List α} {i : Nat} {x : α} (h : l[i]? = some x) : (x :: (l.take i ++ l.drop (i + 1))).Perm l := by
  have hi := (List.getElem?_eq_some_iff.mp h).1
  have e : l = l.take i ++ x :: l.drop (i + 1) := by
    conv => lhs; rw [← List.take_append_drop i l]
    rw [List.drop_eq_getElem_cons hi]
    rw [List.getElem?_eq_getElem hi] at h
    cases h; rfl
  conv => rhs; rw [e]
  exact List.perm_middle.symm
def szs : List Int := [3, 4, 5, 2, 4, 6, 3, 5, 1, 7, 0, 12, 4, 5, 3, 6, 8, 4, 5, 9, 10, 4, 7, 11]
theorem cut_takeG {xs : List V} {k : Nat} : cutV xs none (some (k : Int)) = xs.take k := by
  unfold cutV
  rw [HT.sIx_none, HT.sIx_nat]
  simp
theorem cut_dropG {xs : List V} {k : Nat} : cutV xs (some (k : Int)) none = xs.drop k := by
  unfold cutV
  rw [HT.sIx_none, HT.sIx_nat]
  rw [List.take_of_length_le (by rw [List.length_drop]; omega)]
  rcases Nat.le_total k xs.length with h | h
  · rw [Nat.min_eq_left h]
  · rw [Nat.min_eq_right h, List.drop_eq_nil_of_le (Nat.le_refl _), List.drop_eq_nil_of_le h]
theorem rot_perm {α : Type} (l : List α) (c : Nat) : (l.drop c ++ l.take c).Perm l := by
  have := List.perm_append_comm (l₁ := l.drop c) (l₂ := l.take c)
  rw [List.take_append_drop] at this
  exact this
def RowOk (cs x : List Str) : Prop := x.Nodup ∧ ∀ y ∈ x, y ∈ cs
theorem RowOk.len {cs x : List Str} (h : RowOk cs x) : x.length ≤ cs.length := nodup_le h.1 h.2
theorem RowOk.stray {cs x : List Str} (h : RowOk cs x) : stray cs x = none := stray_none_iff.mpr ⟨h.2, h.1⟩
def Rows (H : Hp) (D : Addr) (ts : List Addr) (cs : List Str) (rs : List (List Str)) : Prop := Lss .lst H ts rs ∧ (∀ t ∈ ts, t ≠ D) ∧ ∀ x ∈ rs, RowOk cs x
theorem Rows.push {H H' : Hp} {D t : Addr} {ts : List Addr} {cs ms : List Str} {rs : List (List Str)} {o : HO} (h : Rows H D ts cs rs) (s : Same H H') (ht : H' t = some (.lst (sv ms))) (hD : t ≠ D) (ok : RowOk cs ms) : Rows (upd H' D o) D (ts ++ [t]) cs (rs ++ [ms]) := by
  have h1 := (h.1.same s).app ht
  have hn : ∀ u ∈ ts ++ [t], u ≠ D := fun u hu => (List.mem_append.mp hu).elim (h.2.1 u) fun hu => by rw [List.mem_singleton.mp hu]; exact hD
  refine ⟨⟨h1.len, fun i u x a b => ?_⟩, hn, fun x hx => (List.mem_append.mp hx).elim (h.2.2 x) fun hx => by rw [List.mem_singleton.mp hx]; exact ok⟩
  rw [upd_ne (hn u (List.mem_of_getElem? a))]
  exact h1.at_ i u x a b
/-- names of the law: different, good, at most 7 signs -/
def Nms (ns : List Str) : Prop := ns.Nodup ∧ ∀ z ∈ ns, Good z ∧ z.length ≤ 7
theorem Nms.sub {a b c : List Str} (h : Nms a) (p : b.Perm a) (s : c.Sublist b) : Nms c := ⟨s.nodup (p.nodup_iff.mpr h.1), fun z hz => h.2 z (p.mem_iff.mp (s.subset hz))⟩
def W1 : List Str := ["ab", "a", "abc", "aa", "b", "ba", "aab", "bb", "abcdefg", "abcdefh", "aba", "bab"]
def W2 : List Str := ["first", "row", "end", "near", "span", "last", "before", "window", "over", "column", "not", "ask"]
theorem nms_of {ns : List Str} (h : (decide ns.Nodup && ns.all fun z => okName z && decide (z.length ≤ 7)) = true) : Nms ns := by
  rw [Bool.and_eq_true, decide_eq_true_iff, List.all_eq_true] at h
  refine ⟨h.1, fun z hz => ?_⟩
  have := h.2 z hz
  rw [Bool.and_eq_true, decide_eq_true_iff] at this
  exact ⟨okName_iff.mp this.1, this.2⟩
theorem w1_ok : Nms W1 := nms_of (by decide +kernel)
theorem w2_ok : Nms W2 := nms_of (by decide +kernel)
/-! ### words about one letter -/
def l1 (c : Nat) : Str := ⟨#[c]⟩
theorem mul1 (c : Nat) (n : Int) : (Txt.mul (l1 c) n).cps = Array.replicate n.toNat c := by
  unfold Txt.mul
  have h1 : ((l1 c).length == 0) = false := rfl
  split
  · rename_i h
    have : n.toNat = 0 := by omega
    rw [this]
    rfl
  · rename_i h
    split
    · rename_i h'
      rw [h1, Bool.or_false, beq_iff_eq] at h'
      subst h'
      rfl
    · have e : ∀ (m : Nat) (acc : Array Nat), ((List.replicate m (l1 c).cps).foldl (· ++ ·) acc) = acc ++ Array.replicate m c := by
        intro m
        induction m with
        | zero => intro acc; simp
        | succ m ih =>
          intro acc
          rw [List.replicate_succ, List.foldl_cons, ih]
          have : (l1 c).cps = #[c] := rfl
          rw [this, Array.append_assoc]
          congr 1
          apply Array.toList_inj.mp
          simp [List.replicate_succ]
      show ((List.replicate n.toNat (l1 c).cps).foldl (· ++ ·) #[]) = _
      rw [e]
      simp
theorem mulOk1 (c : Nat) {n : Int} (h0 : 0 ≤ n) (h3 : n ≤ 3) : MulOk (l1 c) n := by
  unfold MulOk
  have e : (l1 c).length = 1 := rfl
  rw [e]
  rcases (show n = 0 ∨ n = 1 ∨ n = 2 ∨ n = 3 by omega) with rfl | rfl | rfl | rfl <;> decide
/-- a side of a name: letters behind l -/
def Side (x : Str) : Prop := (∀ c ∈ x.cps.toList, 109 ≤ c ∧ c ≤ 122) ∧ x.length ≤ 3
theorem side1 {c : Nat} {n : Int} (h1 : 109 ≤ c) (h2 : c ≤ 122) (h0 : 0 ≤ n) (h3 : n ≤ 3) : Side (Txt.mul (l1 c) n) := by
  have e := mul1 c n
  refine ⟨fun d hd => ?_, ?_⟩
  · rw [e, Array.toList_replicate, List.mem_replicate] at hd
    rw [hd.2]; exact ⟨h1, h2⟩
  · show (Txt.mul (l1 c) n).cps.size ≤ 3
    rw [e, Array.size_replicate]; omega
theorem em : ("m" : Str) = l1 109 := str_ext (by decide)
theorem ez : ("z" : Str) = l1 122 := str_ext (by decide)
theorem coreT : ∀ k : Fin 12, atI (("abcdefghijkl" : Str)).cps.toList ((k.val : Nat) : Int) = some (97 + k.val) := by decide +kernel
theorem leftT : ∀ k : Fin 14, atI (("mnopqrstuvwxyz" : Str)).cps.toList ((k.val : Nat) : Int) = some (109 + k.val) := by decide +kernel
theorem rightT : ∀ k : Fin 14, atI (("zyxwvutsrqponm" : Str)).cps.toList ((k.val : Nat) : Int) = some (122 - k.val) := by decide +kernel
theorem core_at {j : Int} (h0 : 0 ≤ j) (h1 : j < 12) : atI (("abcdefghijkl" : Str)).cps.toList j = some (97 + j.toNat) := by
  have := coreT ⟨j.toNat, by omega⟩
  rw [show (((⟨j.toNat, by omega⟩ : Fin 12).val : Nat) : Int) = j from by show ((j.toNat : Nat) : Int) = j; omega] at this
  exact this
theorem left_at {j : Int} (h0 : 0 ≤ j) (h1 : j < 14) : atI (("mnopqrstuvwxyz" : Str)).cps.toList j = some (109 + j.toNat) := by
  have := leftT ⟨j.toNat, by omega⟩
  rw [show (((⟨j.toNat, by omega⟩ : Fin 14).val : Nat) : Int) = j from by show ((j.toNat : Nat) : Int) = j; omega] at this
  exact this
theorem right_at {j : Int} (h0 : 0 ≤ j) (h1 : j < 14) : atI (("zyxwvutsrqponm" : Str)).cps.toList j = some (122 - j.toNat) := by
  have := rightT ⟨j.toNat, by omega⟩
  rw [show (((⟨j.toNat, by omega⟩ : Fin 14).val : Nat) : Int) = j from by show ((j.toNat : Nat) : Int) = j; omega] at this
  exact this
theorem core_len : (("abcdefghijkl" : Str)).length ≤ sizeLine := by decide
theorem left_len : (("mnopqrstuvwxyz" : Str)).length ≤ sizeLine := by decide
theorem right_len : (("zyxwvutsrqponm" : Str)).length ≤ sizeLine := by decide
/-- a made name with the letter c -/
def Made (c : Nat) (z : Str) : Prop := Good z ∧ z.length ≤ 7 ∧ z.cps.toList.filter (fun d => decide (d < 109)) = [c]
theorem made_of {l r : Str} {c : Nat} (hl : Side l) (hr : Side r) (h1 : 97 ≤ c) (h2 : c < 109) : Made c (l ++ l1 c ++ r) := by
  have el : (l ++ l1 c ++ r).length = l.length + 1 + r.length := by rw [Str.length_append, Str.length_append]; rfl
  have ec : (l ++ l1 c ++ r).cps.toList = l.cps.toList ++ [c] ++ r.cps.toList := by
    rw [append_cps, append_cps, Array.toList_append, Array.toList_append]; rfl
  have hl2 := hl.2
  have hr2 := hr.2
  refine ⟨⟨by omega, by omega, fun d hd => ?_⟩, by omega, ?_⟩
  · rw [ec] at hd
    rcases List.mem_append.mp hd with hd | hd
    · rcases List.mem_append.mp hd with hd | hd
      · have := hl.1 d hd; omega
      · rw [List.mem_singleton] at hd; omega
    · have := hr.1 d hd; omega
  · have no : ∀ x : Str, Side x → x.cps.toList.filter (fun d => decide (d < 109)) = [] := fun x hx => by
      rw [List.filter_eq_nil_iff]
      intro d hd h
      have := hx.1 d hd
      rw [decide_eq_true_iff] at h
      omega
    have ec2 : [c].filter (fun d => decide (d < 109)) = [c] := by simp [h2]
    rw [ec, List.filter_append, List.filter_append, no l hl, no r hr, ec2]; rfl
/-- the first i made names -/
def Mades (s : Int) (ns : List Str) : Prop := ∀ (t : Nat) z, ns[t]? = some z → Made (97 + (((t : Int) * 5 + s) % 12).toNat) z
theorem Mades.app {s : Int} {ns : List Str} {z : Str} (h : Mades s ns) (hz : Made (97 + (((ns.length : Int) * 5 + s) % 12).toNat) z) : Mades s (ns ++ [z]) := fun t y e => by
  rcases Nat.lt_trichotomy t ns.length with c | c | c
  · rw [List.getElem?_append_left c] at e; exact h t y e
  · rw [c, List.getElem?_append_right (Nat.le_refl _), Nat.sub_self] at e
    cases e; rw [c]; exact hz
  · rw [List.getElem?_append_right (by omega), List.getElem?_eq_none (by simp; omega)] at e
    cases e
theorem Mades.nms {s : Int} {ns : List Str} (h : Mades s ns) (hl : ns.length ≤ 12) : Nms ns := by
  refine ⟨?_, fun z hz => ?_⟩
  · rw [List.nodup_iff_pairwise_ne, List.pairwise_iff_getElem]
    intro i j hi hj hij e
    have h1 := h i _ (List.getElem?_eq_getElem hi)
    have h2 := h j _ (List.getElem?_eq_getElem hj)
    have e1 := h1.2.2
    rw [e, h2.2.2] at e1
    have e2 := (List.cons.inj e1).1
    omega
  · obtain ⟨i, hi, e⟩ := List.getElem_of_mem hz
    have h1 := h i _ (List.getElem?_eq_getElem hi)
    rw [e] at h1
    exact ⟨h1.1, h1.2.1⟩
def unk (cs ns : List Str) : Option Str := ns.find? fun x => !decide (x ∈ cs)
theorem unk_some {cs ns : List Str} {i : Nat} {z : Str} (hz : ns[i]? = some z) (h1 : z ∉ cs) (h2 : ∀ (j : Nat) y, j < i → ns[j]? = some y → y ∈ cs) : unk cs ns = some z := by
  unfold unk
  rw [List.find?_eq_some_iff_getElem]
  obtain ⟨hi, e⟩ := List.getElem?_eq_some_iff.mp hz
  refine ⟨by simp [h1], i, hi, e, fun j hj => ?_⟩
  have := h2 j ns[j] hj (List.getElem?_eq_getElem _)
  simp [this]
theorem unk_none {cs ns : List Str} : unk cs ns = none ↔ ∀ x ∈ ns, x ∈ cs := by
  unfold unk
  rw [List.find?_eq_none]
  exact ⟨fun h x hx => by have := h x hx; simpa using this, fun h x hx => by simp [h x hx]⟩
theorem unk_mem {cs ns : List Str} {z : Str} (h : unk cs ns = some z) : z ∈ ns ∧ z ∉ cs := by
  unfold unk at h
  exact ⟨List.mem_of_find?_eq_some h, by have := List.find?_some h; simpa using this⟩
def fldsR (nt : Addr) : List (Str × V) := putF "names" (.ref nt) []
theorem fldsR_names (nt : Addr) : (fldsR nt).lookup ("names" : Str) = some (.ref nt) := by unfold fldsR; rw [lookup_putF, if_pos rfl]
def Rd (C : Addr) (H : Hp) (p : Addr) (ns : List Str) : Prop := ∃ dx nt, H p = some (.ins C dx (fldsR nt)) ∧ DT H nt (sv ns)
theorem Rd.same {C : Addr} {H H' : Hp} {p : Addr} {ns : List Str} (h : Rd C H p ns) (e : Same H H') : Rd C H' p ns := let ⟨dx, nt, h1, h2⟩ := h; ⟨dx, nt, e _ _ h1, h2.same e⟩
def ringFault (ns : List Str) : Option Nat := match firstBad ns with | some i => some i | none => if 12 < ns.length then some 12 else none
structure RingOk (ns : List Str) : Prop where
  g : ∀ z ∈ ns, Good z
  nd : ns.Nodup
  n : ns.length ≤ 12
theorem ringFault_none {ns : List Str} : ringFault ns = none ↔ RingOk ns := by
  unfold ringFault
  cases hf : firstBad ns with
  | some i =>
    constructor
    · intro h; cases h
    · intro h
      rw [firstBad_none_iff.mpr ⟨h.g, h.nd⟩] at hf; cases hf
  | none =>
    obtain ⟨a, b⟩ := firstBad_none_iff.mp hf
    constructor
    · intro h
      have h : (if 12 < ns.length then some 12 else none) = none := h
      refine ⟨a, b, ?_⟩
      by_cases q : 12 < ns.length
      · rw [if_pos q] at h; cases h
      · omega
    · intro h
      show (if 12 < ns.length then some 12 else none) = none
      rw [if_neg (by have := h.n; omega)]
theorem RingOk.perm {ns ms : List Str} (h : RingOk ns) (p : ms.Perm ns) : RingOk ms := ⟨fun z hz => h.g z (p.mem_iff.mp hz), p.nodup_iff.mpr h.nd, by rw [p.length_eq]; exact h.n⟩
def aft (ns : List Str) (i : Nat) : List Str := ns.drop (i + 1) ++ ns.take i
theorem first_ix {ns : List Str} {z : Str} (h : z ∈ ns) : ∃ i : Nat, ns[i]? = some z ∧ ∀ m, m < i → ns[m]? ≠ some z := by
  induction ns with
  | nil => cases h
  | cons a t ih =>
    by_cases e : a = z
    · exact ⟨0, by rw [e]; rfl, fun m hm => absurd hm (Nat.not_lt_zero _)⟩
    · rcases List.mem_cons.mp h with q | q
      · exact absurd q.symm e
      · obtain ⟨i, h1, h2⟩ := ih q
        refine ⟨i + 1, h1, fun m hm => ?_⟩
        cases m with
        | zero => intro z; exact e (Option.some.inj z)
        | succ m => exact h2 m (by omega)
abbrev SqA (K : PySem.W.Frag) : Hp → Addr → List V → Prop := fun H a xs => SqL K H a xs ∨ SqT K H a xs
theorem _root_.L2.Same.sqa {K : PySem.W.Frag} {H H' : Hp} {a : Addr} {xs : List V} (e : Same H H') (h : SqA K H a xs) : SqA K H' a xs := h.imp (fun z => e.seq z) fun z => e.tup z
/-! ### slices and tuple(..), whichever way the object comes -/
theorem slOT {K : PySem.W.Frag} {H : Hp} {c : Addr} {xs : List V} {lo hi : Option Int} {Q : VK} (hc : SqT K H c xs) (h : ∀ a H', Same H H' → SqT K H' a (cutV xs lo hi) → Q (.ref a) H') : rSlA K (.ref c) lo hi H Q := by
  refine ⟨c, xs, rfl, hc, fun hw => ?_, fun _ p hp => h p _ (same_new hp) (SqT.of upd_same)⟩
  have e : cutV xs lo hi = xs := by
    unfold cutV
    rw [hw.1, hw.2, Nat.sub_zero, List.drop_zero, List.take_length]
  have := h c H (Same.refl _)
  rw [e] at this
  exact this hc
theorem slO {K : PySem.W.Frag} {H : Hp} {c : Addr} {xs : List V} {lo hi : Option Int} {Q : VK} (hc : SqL K H c xs) (h : ∀ a H', Same H H' → H a = none → H' a = some (.lst (cutV xs lo hi)) → Q (.ref a) H') : rSlL K (.ref c) lo hi H Q :=
  ⟨c, xs, rfl, hc, fun p hp => h p _ (same_new hp) hp upd_same⟩
theorem tupO {K : PySem.W.Frag} {H : Hp} {p : Addr} {ys : List V} {Q : VK} (h : SqA K H p ys) (k : ∀ a H', Same H H' → SqT K H' a ys → Q (.ref a) H') : rTupOf K [.ref p] H Q := by
  refine ⟨p, ys, rfl, ?_⟩
  rcases h with h | h
  · exact .inl ⟨h, fun l hl => k l _ (same_new hl) (SqT.of upd_same)⟩
  · exact .inr ⟨h, k p H (Same.refl _) h⟩
end My
set_option maxRecDepth 100000
set_option maxHeartbeats 4000000
namespace My
open PySem PySem.Spec PyProof.Rows L2
/-! sorted(t) of a tuple of texts -/
section
variable {prog : Program} {w : World} {A : Around} {E : Value → Shared → Prop} {s : Shared}
abbrev cA (h : Heap) (vs : List Value) : Heap := (h.push (seqObj "list" #[] 0)).update h.objs.size (Obj.mapSeq (· ++ vs.toArray))
theorem collect_tup {l : Addr} {vs : List Value} {Q : List Value → Shared → Prop} (hl : s.heap.IsTuple l vs.toArray) (hz : vs.length ≤ sizeLine) (h : Q vs { s with heap := cA s.heap vs }) :
    wpAny (model prog w) A (collect (.ref l)) Q E s := by
  obtain ⟨o, ho, hc, n, hd⟩ := id hl
  unfold collect
  refine wpAny_bind (wpAny_runValue (codeAny_builtin entry_proto_collect' ?_)); show wpAny _ _ (do again (.builtin "list.__iadd__" ⟨[← newList [], .ref l], []⟩)) _ _ s
  refine wpAny_bind (wpAny_newList (wpAny_pure ⟨Code.quiet_builtin _ (by decide +kernel), codeAny_builtin entry_list_iadd' ?_⟩)); show wpAny _ _ (Builtin.List.listExtendWith (.ref s.heap.objs.size) (.ref l) (.ref s.heap.objs.size)) _ _ { s with heap := s.heap.push (seqObj "list" #[] 0) }
  unfold Builtin.List.listExtendWith
  have h2 : (s.heap.push (seqObj "list" #[] 0)).get? l = some o := Heap.get?_push_of_some _ ho
  refine wpAny_bind (wpAny_typeOf (T := "tuple") ⟨o, h2, hc⟩ ?_)
  rw [if_pos (by simp [show (Value.type "tuple" == Value.type "tuple") = true by rfl])]
  refine wpAny_bind (listItems_at h2 hd (wpAny_bind (listItems_at (xs := #[]) (n := 0) (Heap.get?_push_size _ rfl) rfl ?_)))
  rw [if_neg (by simp)]
  refine wpAny_bind (listUpdate_at (xs := #[]) (n := 0) (Heap.get?_push_size _ rfl) rfl (wpAny_pure ?_) (Nat.zero_le _) (by show (#[] ++ vs.toArray).size ≤ sizeLine + 1; rw [Array.size_append, List.size_toArray]; show 0 + vs.length ≤ _; omega))
  show wpAny (model prog w) A (do match (← load s.heap.objs.size).data with | .seq xs _ => pure xs.toList | _ => unsupported "internal:collect") Q E { s with heap := cA s.heap vs }
  refine wpAny_bind (wpAny_load (get?_update_seq (Heap.get?_push_size _ rfl) _) ?_)
  show wpAny _ _ (pure ((#[] : Array Value) ++ vs.toArray).toList) Q E _
  rw [show ((#[] : Array Value) ++ vs.toArray).toList = vs by simp]; exact wpAny_pure h
theorem sorted_strsT {l : Addr} {vs : List Value} {ss : List Str} {Q : Value → Shared → Prop} (hl : s.heap.IsTuple l vs.toArray) (hS : StrsAre vs ss) (h64 : vs.length < 64)
    (h : ∀ (out : Array Value) (ss' : List Str), StrsAre out.toList ss' → ss'.Perm ss → sortedS ss' = true → Q (.ref (s.heap.objs.size + 1)) { s with heap := sortedAll s.heap vs out }) :
    wpAny (model prog w) A (call (.builtin "sorted") [.ref l]) Q E s := by
  refine Calls.call_function_entry kind_sorted plain_sorted entry_sorted (args_sorted1 _) ?_
  unfold Builtin.«sorted»
  have hz : vs.length ≤ sizeLine := by rw [sizeLine_eq]; omega
  refine wpAny_bind (m := checkCount "sorted" 1 1 _) (wpAny_pure (wpAny_bind (collect_tup hl hz (wpAny_bind (wpAny_newList ?_ hz)))))
  have e1 : (cA s.heap vs).objs.size = s.heap.objs.size + 1 := by rw [Heap.size_update, size_push']
  have ho : ((cA s.heap vs).push (seqObj "list" vs.toArray 0)).get? (s.heap.objs.size + 1) = some (seqObj "list" vs.toArray 0) := by
    rw [← e1]; exact Heap.get?_push_size _ rfl
  show wpAny _ _ _ _ _ { s with heap := (cA s.heap vs).push (seqObj "list" vs.toArray 0) }
  rw [e1]
  refine wpAny_bind (wpAny_holding (wpAny_call_entry slot_list_sort ⟨_, ho, rfl⟩ entry_list_sort (list_sort_treeK strKind_oneLt ho hS.keysOf (fun v₁ v₂ rest e => keyKind_strs (by rw [← e]; exact hS)) h64 fun st' a1 a2 => ⟨_, rfl, ?_⟩) (args_list_sort _)))
  obtain ⟨ss', q1, q2, q3⟩ := sorted_out_str hS a1 a2
  exact wpAny_pure ⟨_, rfl, h _ ss' q1 q2 q3⟩
end
def rSortedA (K : PySem.W.Frag) : List V → Hp → VK → Prop := fun vs H Q => ∃ (a : Addr) (xs : List Str), vs = [V.ref a] ∧ SqA K H a (sv xs) ∧ xs.length < 64 ∧
  ∀ (ys : List Str) (p : Addr), ys.Perm xs → sortedS ys = true → H p = none → Q (.ref p) (upd H p (.lst (sv ys)))
theorem cr_sortedA {X : Cx} : CallR X (.builtin "sorted") (rSortedA X.K) := by
  intro pins s σ H vs us Q I r h
  obtain ⟨a, xs, rfl, hs, h64, q⟩ := h
  rcases hs with hs | hs
  · exact cr_sortedS pins s σ H _ us Q I r ⟨a, xs, rfl, hs, h64, q⟩
  · obtain ⟨its, rv, hl, _⟩ := I.tuple hs
    rw [Vals.ref1 r]
    have e0 := rv.length
    rw [List.length_map] at e0
    refine sorted_strsT hl rv.strs (by rw [← e0]; exact h64) fun out ys h1 h2 h3 => ?_
    obtain ⟨ep, he⟩ := sortedAll_at s.heap its out
    have hlen : (ys.map V.str).length ≤ sizeLine := by rw [List.length_map, h2.length_eq, sizeLine_eq]; omega
    exact ⟨.ref _, upd H (s.heap.objs.size + 1) (.lst (ys.map V.str)), I.laid (t' := s.toks) (fun _ _ => sortedAll_old) (Nat.le_succ _) ⟨hlen, out.toList, ep, vals_of_strs h1, he⟩, rfl, q ys _ h2 h3 (I.hok.fresh (Nat.le_succ _))⟩
/-! list(x) of a text -/
def sgn (x : Str) : List V := x.cps.toList.map fun c => V.str ⟨#[c]⟩
def rListS : List V → Hp → VK → Prop := fun vs H Q => ∃ x : Str, vs = [.str x] ∧ x.cps.size ≤ sizeLine ∧ ∀ q, H q = none → Q (.ref q) (upd H q (.lst (sgn x)))
theorem call_listS {X : Cx} (hc : X.calm = true) : CallR X (.type "list") rListS := by
  intro pins s σ H vs us Q I r h
  obtain ⟨x, rfl, hz, q⟩ := h
  obtain ⟨u, rfl, ru⟩ := r.one
  obtain ⟨t, rfl⟩ := ru
  refine call_list_str (I.ok.hd hc) x t (fun h' tk acc c' hk e hi => ?_) hz
  refine ⟨.ref s.heap.objs.size, upd H s.heap.objs.size (.lst (sgn x)), I.laid hk (Nat.le_refl _) ⟨by unfold sgn; rw [List.length_map, Array.length_toList]; exact hz, acc.toList, c', ?_, by rw [Array.toArray_toList]; exact e⟩, rfl, q _ (I.hok.fresh (Nat.le_refl _))⟩
  refine vals_of_idx _ _ (by unfold sgn; rw [List.length_map, Array.length_toList, Array.length_toList]; exact hi.1) fun j u hu => ?_
  obtain ⟨c, t', hc, rfl⟩ := hi.2 j u (by rw [← Array.getElem?_toList]; exact hu)
  exact ⟨.str ⟨#[c]⟩, by unfold sgn; rw [List.getElem?_map, Array.getElem?_toList, hc]; rfl, ⟨_, rfl⟩⟩
/-! a & ~b of naturals -/
def andN (a b : Nat) : Nat := a - (a &&& b)
theorem andN_bit (i : Nat) : ∀ a b : Nat, (andN a b).testBit i = (a.testBit i && !b.testBit i) := by
  have h1 : ∀ a b : Nat, (a &&& b) % 2 = a % 2 * (b % 2) := fun a b => by
    have := Nat.and_mod_two_pow (a := a) (b := b) (n := 1)
    rcases Nat.mod_two_eq_zero_or_one a with x | x <;> rcases Nat.mod_two_eq_zero_or_one b with y | y <;> rw [show (2 : Nat) ^ 1 = 2 from rfl, x, y] at this <;> rw [this, x, y] <;> rfl
  have h2 : ∀ a b : Nat, (a &&& b) / 2 = (a / 2) &&& (b / 2) := fun a b => Nat.and_div_two
  have h3 : ∀ a b : Nat, (a &&& b) ≤ a := fun a b => Nat.and_le_left
  induction i with
  | zero =>
    intro a b
    have q := h1 a b
    have q3 := h3 a b
    unfold andN
    rw [Nat.testBit_zero, Nat.testBit_zero, Nat.testBit_zero]
    generalize a &&& b = c at q q3
    rcases Nat.mod_two_eq_zero_or_one a with x | x <;> rcases Nat.mod_two_eq_zero_or_one b with y | y <;> rw [x, y] at q <;> rw [x, y]
    · rw [decide_eq_false (by omega)]; rfl
    · rw [decide_eq_false (by omega)]; rfl
    · rw [decide_eq_true (by omega)]; rfl
    · rw [decide_eq_false (by omega)]; rfl
  | succ i ih =>
    intro a b
    rw [Nat.testBit_succ, Nat.testBit_succ, Nat.testBit_succ, ← ih (a / 2) (b / 2)]
    have e : andN a b / 2 = andN (a / 2) (b / 2) := by
      unfold andN
      have q := h1 a b
      have q3 := h3 a b
      rw [← h2]
      generalize a &&& b = c at q q3
      rcases Nat.mod_two_eq_zero_or_one a with x | x <;> rcases Nat.mod_two_eq_zero_or_one b with y | y <;> rw [x, y] at q <;> omega
    rw [e]
theorem op_andNot {X : Cx} : OpR X (binaryOp .BitAnd) (fun x y H Q => ∃ a b : Nat, x = .int (a : Int) ∧ y = .int (Builtin.bitNot (b : Int)) ∧ Q (.int ((andN a b : Nat) : Int)) H) := by
  intro pins s σ H x y v u Q I rx ry h
  obtain ⟨a, b, rfl, rfl, q⟩ := h
  have e : Builtin.bitAnd (a : Int) (Builtin.bitNot (b : Int)) = ((andN a b : Nat) : Int) := by
    have hn : ¬ 0 ≤ Builtin.bitNot (b : Int) := by show ¬ 0 ≤ -(b : Int) - 1; omega
    have hb : Builtin.bitNot (Builtin.bitNot (b : Int)) = (b : Int) := by show -(-(b : Int) - 1) - 1 = b; omega
    rw [bitAnd_comm, bitAnd_np hn (by omega), hb, Int.toNat_natCast, Int.toNat_natCast]
    have : (a &&& b) ≤ a := Nat.and_le_left
    unfold andN; omega
  rw [← e] at q
  exact op_and pins s σ H _ _ v u Q I rx ry ⟨_, _, rfl, rfl, q⟩
/-! x in t, t a tuple of data -/
def rInDT (K : PySem.W.Frag) : R2 := fun x y H Q => ∃ d ds, Dp K H x d ∧ Dp K H y (.tuple ds) ∧ SeqAt.shaped d = true ∧ SeqAt.shaped (.tuple ds) = true ∧ Q (.bl (ds.any fun z => PyData.eqv z d)) H
theorem op_inDT {X : Cx} (hu : X.A.units + 65 < cLine) : OpR X (compareOp .In) (rInDT X.K) := by
  intro pins s σ H x y v u Q I rx ry h
  obtain ⟨d, ds, hd, he, sd, se, q⟩ := h
  obtain ⟨as, r1⟩ := Dp.reads I d x v hd rx
  obtain ⟨bs, r2⟩ := Dp.reads I (.tuple ds) y u he ry
  exact SeqAt.in_tuple_reads r2 r1 (SeqAt.canLay_of_shaped se) (SeqAt.canLay_of_shaped sd) (room_in_shaped sd hu) ⟨.bl _, H, I, rfl, q⟩
end My
set_option maxRecDepth 100000
set_option maxHeartbeats 4000000
/-! the mathematics of matching masks by columns -/
namespace My
/-- the mask of the places below n where P holds -/
def bm (P : Nat → Bool) : Nat → Nat
  | 0 => 0
  | n + 1 => bm P n + if P n then 2 ^ n else 0
theorem bm_lt (P : Nat → Bool) (n : Nat) : bm P n < 2 ^ n := by
  induction n with
  | zero => exact Nat.one_pos
  | succ n ih =>
    rw [Nat.pow_succ]
    unfold bm
    split <;> omega
theorem bm_bit (P : Nat → Bool) (n i : Nat) : (bm P n).testBit i = (decide (i < n) && P i) := by
  induction n with
  | zero => unfold bm; simp
  | succ n ih =>
    unfold bm
    have hl := bm_lt P n
    by_cases hp : P n = true
    · rw [if_pos hp, Nat.add_comm]
      by_cases hi : i = n
      · subst hi
        rw [Nat.testBit_two_pow_add_eq, ih]
        simp [hp]
      · rcases Nat.lt_or_gt_of_ne hi with l | l
        · rw [Nat.testBit_two_pow_add_gt l, ih, decide_eq_true l, decide_eq_true (Nat.lt_succ_of_lt l)]
        · rw [Nat.testBit_lt_two_pow (by have : 2 ^ n * 2 ≤ 2 ^ i := by rw [← Nat.pow_succ]; exact Nat.pow_le_pow_right (by decide) l
                                         omega), decide_eq_false (by omega)]; rfl
    · rw [if_neg hp, Nat.add_zero, ih]
      by_cases hi : i = n
      · subst hi; simp at hp; simp [hp]
      · have : decide (i < n) = decide (i < n + 1) := decide_eq_decide.mpr (by omega)
        rw [this]
theorem bit_ext {a b : Nat} (h : ∀ i, a.testBit i = b.testBit i) : a = b := Nat.eq_of_testBit_eq h
/-- a mask seen through chosen columns -/
def seeM (m : Nat) (ch : List Nat) : Nat := bm (fun p => m.testBit (ch.getD p 0)) ch.length
theorem seeM_bit (m : Nat) (ch : List Nat) (p : Nat) : (seeM m ch).testBit p = (match ch[p]? with | some c => m.testBit c | none => false) := by
  unfold seeM
  rw [bm_bit]
  by_cases h : p < ch.length
  · rw [decide_eq_true h, List.getElem?_eq_getElem h, List.getD_eq_getElem?_getD, List.getElem?_eq_getElem h]; rfl
  · rw [decide_eq_false h, List.getElem?_eq_none (by omega)]; rfl
theorem seeM_take (m : Nat) (ch : List Nat) {k : Nat} (h : k ≤ ch.length) : seeM m ch % 2 ^ k = seeM m (ch.take k) := by
  refine bit_ext fun i => ?_
  rw [Nat.testBit_mod_two_pow, seeM_bit, seeM_bit, List.getElem?_take]
  by_cases hi : i < k
  · rw [decide_eq_true hi, if_pos hi]; simp
  · rw [decide_eq_false hi, if_neg hi]; rfl
def fitsB (W M : List Nat) (ch : List Nat) : Bool := (W.map (· % 2 ^ ch.length)).isPerm (M.map (seeM · ch))
theorem fits_iff {W M ch : List Nat} : fitsB W M ch = true ↔ (W.map (· % 2 ^ ch.length)).Perm (M.map (seeM · ch)) := List.isPerm_iff
/-- the depth-first choice of columns -/
def extB (W M : List Nat) (width : Nat) : Nat → List Nat → Option (List Nat)
  | 0, ch => some ch
  | f + 1, ch => (List.range width).findSome? fun c => if decide (c ∉ ch) && fitsB W M (ch ++ [c]) then extB W M width f (ch ++ [c]) else none
structure Cols (width : Nat) (ch : List Nat) : Prop where
  nd : ch.Nodup
  lt : ∀ c ∈ ch, c < width
theorem Cols.snoc {width : Nat} {ch : List Nat} {c : Nat} (h : Cols width ch) (hc : c < width) (hn : c ∉ ch) : Cols width (ch ++ [c]) :=
  ⟨by rw [List.nodup_append]; exact ⟨h.nd, by simp, fun a ha b hb e => hn (by rw [List.mem_singleton.mp hb] at e; rw [← e]; exact ha)⟩, fun x hx => by
    rcases List.mem_append.mp hx with q | q
    · exact h.lt x q
    · rw [List.mem_singleton.mp q]; exact hc⟩
theorem ext_sound {W M : List Nat} {width : Nat} : ∀ (f : Nat) (ch r : List Nat), Cols width ch → ch.length + f = width → (f = 0 → fitsB W M ch = true) → extB W M width f ch = some r → Cols width r ∧ r.length = width ∧ fitsB W M r = true
  | 0, ch, r, hc, hl, hf, h => by
    unfold extB at h
    cases h
    exact ⟨hc, by omega, hf rfl⟩
  | f + 1, ch, r, hc, hl, hf, h => by
    unfold extB at h
    obtain ⟨c, hm, hs⟩ := List.exists_of_findSome?_eq_some h
    split at hs
    · rename_i hb
      rw [Bool.and_eq_true, decide_eq_true_iff] at hb
      exact ext_sound f _ r (hc.snoc (List.mem_range.mp hm) hb.1) (by rw [List.length_append]; show ch.length + 1 + f = width; omega) (fun _ => hb.2) hs
    · cases hs
theorem ext_complete {W M : List Nat} {width : Nat} {σ : List Nat} (hσ : Cols width σ) (hl : σ.length = width) (hp : W.Perm (M.map (seeM · σ))) : ∀ (f k : Nat), k + f = width → extB W M width f (σ.take k) ≠ none
  | 0, k, _ => by unfold extB; exact fun h => nomatch h
  | f + 1, k, hk => by
    unfold extB
    intro h
    rw [List.findSome?_eq_none_iff] at h
    have hkl : k < σ.length := by omega
    have hs : σ[k]? = some σ[k] := List.getElem?_eq_getElem hkl
    have := h σ[k] (List.mem_range.mpr (hσ.lt _ (List.getElem_mem hkl)))
    have e : σ.take k ++ [σ[k]] = σ.take (k + 1) := by rw [List.take_succ, hs]; rfl
    have n1 : σ[k] ∉ σ.take k := fun hm => by
      obtain ⟨j, hj, e2⟩ := List.getElem_of_mem hm
      rw [List.length_take] at hj
      rw [List.getElem_take] at e2
      have nd := hσ.nd
      rw [List.nodup_iff_pairwise_ne, List.pairwise_iff_getElem] at nd
      exact nd j k (by omega) hkl (by omega) e2
    have ft : fitsB W M (σ.take (k + 1)) = true := by
      rw [fits_iff, List.length_take, Nat.min_eq_left (by omega)]
      have := hp.map (· % 2 ^ (k + 1))
      rw [List.map_map] at this
      refine this.trans (List.Perm.of_eq (List.map_congr_left fun m _ => ?_))
      exact seeM_take m σ (by omega)
    rw [e, decide_eq_true n1, ft] at this
    exact ext_complete hσ hl hp f (k + 1) (by omega) this
/-- how many places of a mask are set -/
def pcM (m width : Nat) : Nat := ((List.range width).filter fun i => m.testBit i).length
def sizesB (W M : List Nat) (width : Nat) : Bool := (W.map (pcM · width)).isPerm (M.map (pcM · width))
theorem nodup_leG {α : Type} [DecidableEq α] : ∀ {l m : List α}, l.Nodup → (∀ x ∈ l, x ∈ m) → l.length ≤ m.length
  | [], _, _, _ => Nat.zero_le _
  | a :: t, m, h, hs => by
    obtain ⟨h1, h2⟩ := List.nodup_cons.mp h
    have ha := hs a List.mem_cons_self
    have := nodup_leG (l := t) (m := m.erase a) h2 fun x hx => (List.mem_erase_of_ne (fun e => h1 (by rw [← e]; exact hx))).mpr (hs x (List.mem_cons_of_mem _ hx))
    rw [List.length_erase_of_mem ha] at this
    have : 0 < m.length := List.length_pos_of_mem ha
    rw [List.length_cons]; omega
theorem cols_perm {width : Nat} {σ : List Nat} (h : Cols width σ) (hl : σ.length = width) : σ.Perm (List.range width) := by
  refine (List.perm_ext_iff_of_nodup h.nd List.nodup_range).mpr fun x => ⟨fun hx => List.mem_range.mpr (h.lt x hx), fun hx => Classical.byContradiction fun hn => ?_⟩
  have := nodup_leG (l := x :: σ) (m := List.range width) (List.nodup_cons.mpr ⟨hn, h.nd⟩) fun y hy => by
    rcases List.mem_cons.mp hy with rfl | hy
    · exact hx
    · exact List.mem_range.mpr (h.lt y hy)
  rw [List.length_cons, List.length_range] at this
  omega
theorem pc_see {m width : Nat} {σ : List Nat} (h : Cols width σ) (hl : σ.length = width) : pcM (seeM m σ) width = pcM m width := by
  have p := cols_perm h hl
  unfold pcM
  rw [← (p.filter fun i => m.testBit i).length_eq]
  have e : σ = (List.range width).map fun p => σ.getD p 0 := by
    refine List.ext_getElem (by rw [List.length_map, List.length_range, hl]) fun i h1 h2 => ?_
    rw [List.getElem_map, List.getElem_range, List.getD_eq_getElem?_getD, List.getElem?_eq_getElem h1]; rfl
  have e2 : (σ.filter fun i => m.testBit i).length = ((List.range width).filter ((fun i => m.testBit i) ∘ fun p => σ.getD p 0)).length := by
    conv => lhs; rw [e]
    rw [List.filter_map, List.length_map]
  rw [e2]
  congr 1
  refine List.filter_congr fun i hi => ?_
  have hl2 : i < σ.length := by rw [hl]; exact List.mem_range.mp hi
  rw [seeM_bit, List.getElem?_eq_getElem hl2]
  show m.testBit σ[i] = m.testBit (σ.getD i 0)
  rw [List.getD_eq_getElem?_getD, List.getElem?_eq_getElem hl2]; rfl
/-- the matching: the numbers of the rows and the columns -/
def matchB (W M : List Nat) (width : Nat) : Option (List Nat × List Nat) :=
  if sizesB W M width then (extB W M width width []).map fun cols => (W.map fun w => (M.map (seeM · cols)).idxOf w, cols) else none
theorem match_sound {W M : List Nat} {width : Nat} {ns cols : List Nat} (hw : 0 < width) (hlt : ∀ w ∈ W, w < 2 ^ width) (h : matchB W M width = some (ns, cols)) :
    Cols width cols ∧ cols.length = width ∧ W.Perm (M.map (seeM · cols)) ∧ ns = W.map fun w => (M.map (seeM · cols)).idxOf w := by
  unfold matchB at h
  split at h
  · cases he : extB W M width width [] with
    | none => rw [he] at h; cases h
    | some r =>
      rw [he] at h
      cases h
      obtain ⟨a, b, c⟩ := ext_sound width [] cols ⟨List.nodup_nil, fun c h => nomatch h⟩ (Nat.zero_add _) (fun e => by omega) he
      refine ⟨a, b, ?_, rfl⟩
      rw [fits_iff, b] at c
      have : W.map (· % 2 ^ width) = W := by
        conv => rhs; rw [← List.map_id W]
        exact List.map_congr_left fun w hw => Nat.mod_eq_of_lt (hlt w hw)
      rw [this] at c
      exact c
  · cases h
theorem match_complete {W M : List Nat} {width : Nat} {σ : List Nat} (hσ : Cols width σ) (hl : σ.length = width) (hp : W.Perm (M.map (seeM · σ))) : matchB W M width ≠ none := by
  unfold matchB
  have hs : sizesB W M width = true := by
    unfold sizesB
    rw [List.isPerm_iff]
    have := hp.map (pcM · width)
    rw [List.map_map] at this
    exact this.trans (List.Perm.of_eq (List.map_congr_left fun m _ => pc_see hσ hl))
  rw [if_pos hs]
  have := ext_complete hσ hl hp width 0 (by omega)
  rw [List.take_zero] at this
  intro h
  cases he : extB W M width width [] with
  | none => exact this he
  | some r => rw [he] at h; cases h
end My
set_option maxRecDepth 100000
set_option maxHeartbeats 4000000
/-! the mathematics of full companies: guests as numbers below n, M says who have met -/
namespace My
theorem asc_ext : ∀ {a b : List Nat}, a.Pairwise (· < ·) → b.Pairwise (· < ·) → (∀ x, x ∈ a ↔ x ∈ b) → a = b := fun {a b} ha hb h => by
  have na : a.Nodup := ha.imp fun h => Nat.ne_of_lt h
  have nb : b.Nodup := hb.imp fun h => Nat.ne_of_lt h
  exact ((List.perm_ext_iff_of_nodup na nb).mpr h).eq_of_pairwise (le := (· < ·)) (fun x y _ _ h1 h2 => by omega) ha hb
/-- a full company -/
structure Mx (M : Nat → Nat → Bool) (n : Nat) (L : List Nat) : Prop where
  asc : L.Pairwise (· < ·)
  lt : ∀ x ∈ L, x < n
  ne : L ≠ []
  iff : ∀ i, i < n → (i ∈ L ↔ ∀ j ∈ L, j ≠ i → M i j = true)
def numsB (m L : Nat) : List Nat := (List.range L).filter fun i => m.testBit i
theorem numsB_asc (m n : Nat) : (numsB m n).Pairwise (· < ·) := List.pairwise_lt_range.filter _
theorem mem_numsB {m n x : Nat} : x ∈ numsB m n ↔ x < n ∧ m.testBit x = true := by unfold numsB; rw [List.mem_filter, List.mem_range]
/-- as the program asks it -/
def fullM (M : Nat → Nat → Bool) (n c : Nat) : Bool := decide (c = bm (fun i => decide (andN (andN c (2 ^ i)) (bm (M i) n) = 0)) n)
theorem and_zero {M : Nat → Nat → Bool} {n c i : Nat} (hc : c < 2 ^ n) : andN (andN c (2 ^ i)) (bm (M i) n) = 0 ↔ ∀ j, c.testBit j = true → j ≠ i → M i j = true := by
  constructor
  · intro h j hj hne
    have hb : (andN (andN c (2 ^ i)) (bm (M i) n)).testBit j = false := by rw [h]; exact Nat.zero_testBit j
    rw [andN_bit, andN_bit, hj, Nat.testBit_two_pow, bm_bit] at hb
    have hjn : j < n := Classical.byContradiction fun hn => by
      rw [Nat.testBit_lt_two_pow (Nat.lt_of_lt_of_le hc (Nat.pow_le_pow_right (by omega) (by omega)))] at hj
      cases hj
    rw [decide_eq_false (fun e => hne e.symm), decide_eq_true hjn] at hb
    simpa using hb
  · intro h
    refine Nat.eq_of_testBit_eq fun j => ?_
    rw [andN_bit, andN_bit, Nat.testBit_two_pow, bm_bit, Nat.zero_testBit]
    cases hj : c.testBit j with
    | false => rfl
    | true =>
      by_cases e : i = j
      · rw [decide_eq_true e]; rfl
      · have hjn : j < n := Classical.byContradiction fun hn => by
          rw [Nat.testBit_lt_two_pow (Nat.lt_of_lt_of_le hc (Nat.pow_le_pow_right (by omega) (by omega)))] at hj
          cases hj
        rw [h j hj fun z => e z.symm, decide_eq_false e, decide_eq_true hjn]; rfl
theorem full_iff {M : Nat → Nat → Bool} {n c : Nat} (hc : c < 2 ^ n) : fullM M n c = true ↔ ∀ i, i < n → (c.testBit i = true ↔ ∀ j, c.testBit j = true → j ≠ i → M i j = true) := by
  unfold fullM
  rw [decide_eq_true_iff]
  constructor
  · intro h i hi
    have hb : c.testBit i = decide (andN (andN c (2 ^ i)) (bm (M i) n) = 0) := by
      conv => lhs; rw [h]
      rw [bm_bit, decide_eq_true hi]; rfl
    rw [hb, decide_eq_true_iff, and_zero hc]
  · intro h
    refine Nat.eq_of_testBit_eq fun i => ?_
    rw [bm_bit]
    by_cases hi : i < n
    · rw [decide_eq_true hi, Bool.eq_iff_iff, h i hi, Bool.true_and, decide_eq_true_iff, and_zero hc]
    · rw [decide_eq_false hi, Nat.testBit_lt_two_pow (Nat.lt_of_lt_of_le hc (Nat.pow_le_pow_right (by omega) (by omega)))]; rfl
def progM (M : Nat → Nat → Bool) (n : Nat) : List Nat := ((List.range (2 ^ n - 1)).map (· + 1)).filter (fullM M n)
def progC (M : Nat → Nat → Bool) (n : Nat) : List (List Nat) := (progM M n).map fun m => numsB m n
theorem mem_progM {M : Nat → Nat → Bool} {n m : Nat} : m ∈ progM M n ↔ (0 < m ∧ m < 2 ^ n) ∧ fullM M n m = true := by
  unfold progM
  rw [List.mem_filter, List.mem_map]
  refine and_congr_left fun _ => ⟨?_, fun h => ⟨m - 1, List.mem_range.mpr (by omega), by omega⟩⟩
  rintro ⟨k, hk, rfl⟩
  have := List.mem_range.mp hk
  omega
theorem bit_lt {m n i : Nat} (h : m < 2 ^ n) (hi : m.testBit i = true) : i < n := Classical.byContradiction fun hn => by
  rw [Nat.testBit_lt_two_pow (Nat.lt_of_lt_of_le h (Nat.pow_le_pow_right (by omega) (by omega)))] at hi
  cases hi
theorem mem_progC {M : Nat → Nat → Bool} {n : Nat} {L : List Nat} : L ∈ progC M n ↔ Mx M n L := by
  unfold progC
  rw [List.mem_map]
  constructor
  · rintro ⟨m, hm, rfl⟩
    obtain ⟨⟨h0, h1⟩, hf⟩ := mem_progM.mp hm
    have hb : ∀ i, i ∈ numsB m n ↔ m.testBit i = true := fun i => by rw [mem_numsB]; exact ⟨fun h => h.2, fun h => ⟨bit_lt h1 h, h⟩⟩
    refine ⟨numsB_asc m n, fun x hx => (mem_numsB.mp hx).1, fun e => ?_, fun i hi => ?_⟩
    · have : m = 0 := Nat.eq_of_testBit_eq fun i => by
        rw [Nat.zero_testBit]
        cases hi : m.testBit i with
        | false => rfl
        | true => have := (hb i).mpr hi; rw [e] at this; cases this
      omega
    · rw [hb, (full_iff h1).mp hf i hi]
      exact ⟨fun h j hj => h j ((hb j).mp hj), fun h j hj => h j ((hb j).mpr hj)⟩
  · intro h
    have hb : ∀ i, (bm (fun i => decide (i ∈ L)) n).testBit i = decide (i ∈ L) := fun i => by
      rw [bm_bit]
      by_cases hi : i ∈ L
      · rw [decide_eq_true (h.lt i hi)]; rfl
      · rw [decide_eq_false hi, Bool.and_false]
    have hlt := bm_lt (fun i => decide (i ∈ L)) n
    refine ⟨bm (fun i => decide (i ∈ L)) n, mem_progM.mpr ⟨⟨?_, hlt⟩, (full_iff hlt).mpr fun i hi => ?_⟩, ?_⟩
    · obtain ⟨x, hx⟩ := List.exists_mem_of_ne_nil _ h.ne
      have := hb x
      rw [decide_eq_true hx] at this
      rcases Nat.eq_zero_or_pos (bm (fun i => decide (i ∈ L)) n) with e | e
      · rw [e, Nat.zero_testBit] at this; cases this
      · exact e
    · rw [hb, decide_eq_true_iff, h.iff i hi]
      exact ⟨fun q j hj => q j (by rw [hb, decide_eq_true_iff] at hj; exact hj), fun q j hj => q j (by rw [hb, decide_eq_true_iff]; exact hj)⟩
    · refine asc_ext (numsB_asc _ _) h.asc fun x => ?_
      rw [mem_numsB, hb, decide_eq_true_iff]
      exact ⟨fun q => q.2, fun q => ⟨h.lt x q, q⟩⟩
theorem nodup_map {α β : Type} {f : α → β} {l : List α} (h : l.Nodup) (inj : ∀ x ∈ l, ∀ y ∈ l, f x = f y → x = y) : (l.map f).Nodup := by
  rw [List.nodup_iff_pairwise_ne, List.pairwise_map]
  rw [List.nodup_iff_pairwise_ne] at h
  exact h.imp_of_mem fun {a b} ha hb hne e => hne (inj a ha b hb e)
theorem nodup_progC (M : Nat → Nat → Bool) (n : Nat) : (progC M n).Nodup := by
  unfold progC
  refine nodup_map (List.Nodup.sublist List.filter_sublist (nodup_map List.nodup_range fun x _ y _ e => by omega)) fun x hx y hy e => ?_
  have hx1 := (mem_progM.mp hx).1.2
  have hy1 := (mem_progM.mp hy).1.2
  refine Nat.eq_of_testBit_eq fun i => ?_
  have hm : i ∈ numsB x n ↔ i ∈ numsB y n := by rw [e]
  rw [mem_numsB, mem_numsB] at hm
  rw [Bool.eq_iff_iff]
  exact ⟨fun h => (hm.mp ⟨bit_lt hx1 h, h⟩).2, fun h => (hm.mpr ⟨bit_lt hy1 h, h⟩).2⟩
/-! ### the law's own list, begun with the empty company -/
def cliqB (M : Nat → Nat → Bool) (L : List Nat) : Bool := L.all fun i => L.all fun j => i == j || M i j
theorem cliq_iff {M : Nat → Nat → Bool} {L : List Nat} : cliqB M L = true ↔ ∀ i ∈ L, ∀ j ∈ L, i ≠ j → M i j = true := by
  unfold cliqB
  rw [List.all_eq_true]
  refine ⟨fun h i hi j hj hne => ?_, fun h i hi => List.all_eq_true.mpr fun j hj => ?_⟩
  · have := List.all_eq_true.mp (h i hi) j hj
    rw [Bool.or_eq_true] at this
    exact this.resolve_left (by simpa using hne)
  · rw [Bool.or_eq_true]
    by_cases e : i = j
    · exact .inl (by simpa using e)
    · exact .inr (h i hi j hj e)
def cl (M : Nat → Nat → Bool) : Nat → List (List Nat)
  | 0 => [[]]
  | k + 1 => cl M k ++ ((cl M k).filter fun L => cliqB M (L ++ [k])).map (· ++ [k])
theorem asc_last {L : List Nat} {k : Nat} (ha : L.Pairwise (· < ·)) (hl : ∀ x ∈ L, x < k + 1) (hk : k ∈ L) : ∃ L', L = L' ++ [k] ∧ L'.Pairwise (· < ·) ∧ ∀ x ∈ L', x < k := by
  rcases List.eq_nil_or_concat L with e | ⟨L', x, e⟩
  · rw [e] at hk; cases hk
  · rw [List.concat_eq_append] at e
    subst e
    obtain ⟨h1, _, h3⟩ := List.pairwise_append.mp ha
    have hx : x = k := by
      rcases List.mem_append.mp hk with q | q
      · have := h3 k q x (List.mem_singleton_self _)
        have := hl x (List.mem_append_right _ (List.mem_singleton_self _))
        omega
      · exact (List.mem_singleton.mp q).symm
    subst hx
    exact ⟨L', rfl, h1, fun y hy => h3 y hy x (List.mem_singleton_self _)⟩
theorem mem_cl {M : Nat → Nat → Bool} : ∀ {k : Nat} {L : List Nat}, L ∈ cl M k ↔ L.Pairwise (· < ·) ∧ (∀ x ∈ L, x < k) ∧ cliqB M L = true
  | 0, L => by
    unfold cl
    rw [List.mem_singleton]
    refine ⟨fun e => by subst e; exact ⟨.nil, fun x h => by simp at h, rfl⟩, fun h => ?_⟩
    cases L with
    | nil => rfl
    | cons a t => have := h.2.1 a List.mem_cons_self; omega
  | k + 1, L => by
    unfold cl
    rw [List.mem_append, List.mem_map, mem_cl (k := k)]
    constructor
    · rintro (⟨h1, h2, h3⟩ | ⟨L', hL', rfl⟩)
      · exact ⟨h1, fun x hx => Nat.lt_succ_of_lt (h2 x hx), h3⟩
      · obtain ⟨q1, q2⟩ := List.mem_filter.mp hL'
        obtain ⟨h1, h2, _⟩ := mem_cl.mp q1
        refine ⟨List.pairwise_append.mpr ⟨h1, List.pairwise_singleton _ _, fun x hx y hy => by rw [List.mem_singleton.mp hy]; exact h2 x hx⟩, fun x hx => ?_, q2⟩
        rcases List.mem_append.mp hx with q | q
        · exact Nat.lt_succ_of_lt (h2 x q)
        · rw [List.mem_singleton.mp q]; omega
    · rintro ⟨h1, h2, h3⟩
      by_cases hk : k ∈ L
      · obtain ⟨L', rfl, a1, a2⟩ := asc_last h1 h2 hk
        refine .inr ⟨L', List.mem_filter.mpr ⟨mem_cl.mpr ⟨a1, a2, cliq_iff.mpr fun i hi j hj => (cliq_iff.mp h3) i (List.mem_append_left _ hi) j (List.mem_append_left _ hj)⟩, h3⟩, rfl⟩
      · exact .inl ⟨h1, fun x hx => by have := h2 x hx; have : x ≠ k := fun e => hk (e ▸ hx); omega, h3⟩
theorem nodup_cl (M : Nat → Nat → Bool) : ∀ k, (cl M k).Nodup
  | 0 => by unfold cl; simp
  | k + 1 => by
    unfold cl
    rw [List.nodup_append]
    refine ⟨nodup_cl M k, nodup_map (List.Nodup.sublist List.filter_sublist (nodup_cl M k)) fun x _ y _ e => List.append_cancel_right e, fun a ha b hb e => ?_⟩
    obtain ⟨L', _, rfl⟩ := List.mem_map.mp hb
    have := (mem_cl.mp ha).2.1 k (by rw [e]; exact List.mem_append_right _ (List.mem_singleton_self _))
    omega
theorem len_cl (M : Nat → Nat → Bool) : ∀ k, (cl M k).length ≤ 2 ^ k
  | 0 => by unfold cl; simp
  | k + 1 => by
    unfold cl
    rw [List.length_append, List.length_map]
    have := len_cl M k
    have h2 := List.length_filter_le (fun L => cliqB M (L ++ [k])) (cl M k)
    rw [Nat.pow_succ]; omega
def furB (M : Nat → Nat → Bool) (n : Nat) (L : List Nat) : Bool := !L.isEmpty && ((List.range n).filter fun g => decide (g ∉ L) && cliqB M (L ++ [g])).isEmpty
def dueC (M : Nat → Nat → Bool) (n : Nat) : List (List Nat) := (cl M n).filter (furB M n)
theorem mem_dueC {M : Nat → Nat → Bool} {n : Nat} {L : List Nat} (sy : ∀ i j, M i j = M j i) : L ∈ dueC M n ↔ Mx M n L := by
  unfold dueC furB
  rw [List.mem_filter, mem_cl, Bool.and_eq_true, Bool.not_eq_true', List.isEmpty_eq_false_iff, List.isEmpty_iff, List.filter_eq_nil_iff]
  constructor
  · rintro ⟨⟨h1, h2, h3⟩, h4, h5⟩
    refine ⟨h1, h2, h4, fun i hi => ⟨fun hm j hj hne => (cliq_iff.mp h3) i hm j hj (fun e => hne e.symm), fun q => Classical.byContradiction fun hn => ?_⟩⟩
    refine h5 i (List.mem_range.mpr hi) ?_
    rw [Bool.and_eq_true, decide_eq_true_iff]
    refine ⟨hn, cliq_iff.mpr fun a ha b hb hne => ?_⟩
    rcases List.mem_append.mp ha with pa | pa <;> rcases List.mem_append.mp hb with pb | pb
    · exact (cliq_iff.mp h3) a pa b pb hne
    · rw [List.mem_singleton.mp pb] at hne ⊢
      rw [sy]; exact q a pa hne
    · rw [List.mem_singleton.mp pa] at hne ⊢
      exact q b pb fun e => hne e.symm
    · exact absurd ((List.mem_singleton.mp pa).trans (List.mem_singleton.mp pb).symm) hne
  · rintro ⟨h1, h2, h4, h5⟩
    refine ⟨⟨h1, h2, cliq_iff.mpr fun i hi j hj hne => (h5 i (h2 i hi)).mp hi j hj fun e => hne e.symm⟩, h4, fun g hg hb => ?_⟩
    rw [Bool.and_eq_true, decide_eq_true_iff] at hb
    refine hb.1 ((h5 g (List.mem_range.mp hg)).mpr fun j hj hne => (cliq_iff.mp hb.2) g (List.mem_append_right _ (List.mem_singleton_self _)) j (List.mem_append_left _ hj) fun e => hne e.symm)
theorem due_perm {M : Nat → Nat → Bool} {n : Nat} (sy : ∀ i j, M i j = M j i) : (dueC M n).Perm (progC M n) :=
  (List.perm_ext_iff_of_nodup (List.Nodup.sublist List.filter_sublist (nodup_cl M n)) (nodup_progC M n)).mpr fun L => (mem_dueC sy).trans mem_progC.symm
/-! ### groups: one of each -/
def prodS (ls : List (List Nat)) (g : List Nat) : List (List Nat) := ls.flatMap fun b => g.map fun x => b ++ [x]
def prodL (gs : List (List Nat)) : List (List Nat) := gs.foldl prodS [[]]
theorem prodL_app (gs : List (List Nat)) (g : List Nat) : prodL (gs ++ [g]) = prodS (prodL gs) g := by unfold prodL; rw [List.foldl_append]; rfl
/-- one of each group -/
def OneOf (gs : List (List Nat)) (c : List Nat) : Prop := c.length = gs.length ∧ ∀ (k : Nat) (g : List Nat) (x : Nat), gs[k]? = some g → c[k]? = some x → x ∈ g
theorem ind_last {α : Type} {P : List α → Prop} (h0 : P []) (h1 : ∀ l x, P l → P (l ++ [x])) : ∀ l, P l := fun l => by
  have : ∀ r : List α, P r.reverse := fun r => by
    induction r with
    | nil => exact h0
    | cons a t ih => rw [List.reverse_cons]; exact h1 _ a ih
  have q := this l.reverse
  rwa [List.reverse_reverse] at q
theorem oneOf_snoc {gs : List (List Nat)} {g c : List Nat} {x : Nat} : OneOf (gs ++ [g]) (c ++ [x]) ↔ OneOf gs c ∧ x ∈ g := by
  unfold OneOf
  rw [List.length_append, List.length_append]
  constructor
  · rintro ⟨h1, h2⟩
    have hl : c.length = gs.length := by simpa using h1
    refine ⟨⟨hl, fun k g' y e1 e2 => ?_⟩, ?_⟩
    · have k1 := (List.getElem?_eq_some_iff.mp e1).1
      have k2 := (List.getElem?_eq_some_iff.mp e2).1
      exact h2 k g' y (by rw [List.getElem?_append_left k1]; exact e1) (by rw [List.getElem?_append_left k2]; exact e2)
    · exact h2 gs.length g x (by simp) (by rw [← hl]; simp)
  · rintro ⟨⟨hl, h2⟩, hx⟩
    refine ⟨by simp [hl], fun k g' y e1 e2 => ?_⟩
    by_cases hk : k < gs.length
    · rw [List.getElem?_append_left hk] at e1
      rw [List.getElem?_append_left (by omega)] at e2
      exact h2 k g' y e1 e2
    · have k1 := (List.getElem?_eq_some_iff.mp e1).1
      rw [List.length_append] at k1
      have : k = gs.length := by simp at k1; omega
      subst this
      rw [List.getElem?_append_right (Nat.le_refl _)] at e1
      rw [← hl, List.getElem?_append_right (Nat.le_refl _)] at e2
      simp at e1 e2
      subst e1 e2
      exact hx
theorem mem_prodL : ∀ (gs : List (List Nat)) (c : List Nat), c ∈ prodL gs ↔ OneOf gs c := by
  refine ind_last (fun c => ?_) (fun gs g ih c => ?_)
  · show c ∈ [[]] ↔ _
    rw [List.mem_singleton]
    refine ⟨fun e => by subst e; exact ⟨rfl, fun k g x e => by simp at e⟩, fun h => List.eq_nil_of_length_eq_zero h.1⟩
  · rw [prodL_app]
    unfold prodS
    rw [List.mem_flatMap]
    constructor
    · rintro ⟨b, hb, hc⟩
      obtain ⟨x, hx, rfl⟩ := List.mem_map.mp hc
      exact oneOf_snoc.mpr ⟨(ih b).mp hb, hx⟩
    · intro h
      rcases List.eq_nil_or_concat c with e | ⟨b, x, e⟩
      · subst e; have := h.1; simp at this
      · rw [List.concat_eq_append] at e
        subst e
        obtain ⟨q1, q2⟩ := oneOf_snoc.mp h
        exact ⟨b, (ih b).mpr q1, List.mem_map.mpr ⟨x, q2, rfl⟩⟩
theorem nodup_prodL : ∀ (gs : List (List Nat)), (∀ g ∈ gs, g.Nodup) → (prodL gs).Nodup := by
  refine ind_last (fun _ => by show ([[]] : List (List Nat)).Nodup; simp) (fun gs g ih h => ?_)
  rw [prodL_app]
  unfold prodS
  have i1 := ih fun g' hg => h g' (List.mem_append_left _ hg)
  have i2 := h g (List.mem_append_right _ (List.mem_singleton_self _))
  rw [List.nodup_iff_pairwise_ne] at i1 ⊢
  rw [List.pairwise_flatMap]
  refine ⟨fun b _ => ?_, i1.imp fun {a b} hne x hx y hy e => ?_⟩
  · rw [← List.nodup_iff_pairwise_ne]
    exact nodup_map i2 fun x _ y _ e => by have := List.append_cancel_left e; simpa using this
  · obtain ⟨u, _, rfl⟩ := List.mem_map.mp hx
    obtain ⟨v, _, rfl⟩ := List.mem_map.mp hy
    exact hne (List.append_inj' e rfl).1
theorem len_prodL : ∀ (gs : List (List Nat)), (∀ g ∈ gs, g.length ≤ 4) → (prodL gs).length ≤ 4 ^ gs.length := by
  refine ind_last (fun _ => by show 1 ≤ 1; omega) (fun gs g ih h => ?_)
  rw [prodL_app, List.length_append]
  have i1 := ih fun g' hg => h g' (List.mem_append_left _ hg)
  have i2 := h g (List.mem_append_right _ (List.mem_singleton_self _))
  unfold prodS
  rw [List.length_flatMap]
  have : (List.map (fun a => (List.map (fun x => a ++ [x]) g).length) (prodL gs)) = (prodL gs).map fun _ => g.length := List.map_congr_left fun a _ => List.length_map ..
  rw [this, List.map_const', List.sum_replicate_nat]
  show (prodL gs).length * g.length ≤ 4 ^ (gs.length + 1)
  rw [Nat.pow_succ]
  exact Nat.mul_le_mul i1 i2
/-- the groups part the numbers below n -/
structure Parts (gs : List (List Nat)) (n : Nat) : Prop where
  perm : gs.flatten.Perm (List.range n)
  ne : ∀ g ∈ gs, g ≠ []
  some : gs ≠ []
def together (gs : List (List Nat)) (i j : Nat) : Prop := ∃ g ∈ gs, i ∈ g ∧ j ∈ g
theorem flat_at : ∀ {gs : List (List Nat)} {k j : Nat} {g h : List Nat} {x : Nat}, gs.flatten.Nodup → gs[k]? = some g → gs[j]? = some h → x ∈ g → x ∈ h → k = j
  | [], k, j, g, h, x, _, e, _, _, _ => by simp at e
  | a :: t, k, j, g, h, x, nd, e1, e2, h1, h2 => by
    rw [List.flatten_cons, List.nodup_append] at nd
    obtain ⟨_, nt, dj⟩ := nd
    cases k with
    | zero =>
      cases j with
      | zero => rfl
      | succ j =>
        rw [List.getElem?_cons_zero] at e1
        cases e1
        rw [List.getElem?_cons_succ] at e2
        exact absurd rfl (dj x h1 x (List.mem_flatten.mpr ⟨h, List.mem_of_getElem? e2, h2⟩))
    | succ k =>
      cases j with
      | zero =>
        rw [List.getElem?_cons_zero] at e2
        cases e2
        rw [List.getElem?_cons_succ] at e1
        exact absurd rfl (dj x h2 x (List.mem_flatten.mpr ⟨g, List.mem_of_getElem? e1, h1⟩))
      | succ j => rw [List.getElem?_cons_succ] at e1 e2; rw [flat_at nt e1 e2 h1 h2]
def srtN (c : List Nat) : List Nat := c.mergeSort fun a b => decide (a ≤ b)
theorem srtN_perm (c : List Nat) : (srtN c).Perm c := List.mergeSort_perm _ _
theorem srtN_le (c : List Nat) : (srtN c).Pairwise (· ≤ ·) := by
  have := List.pairwise_mergeSort (le := fun a b : Nat => decide (a ≤ b)) (fun a b c h1 h2 => by simp at *; omega) (fun a b => by simp; omega) c
  exact this.imp fun h => of_decide_eq_true h
section
variable {gs : List (List Nat)} {n : Nat}
theorem Parts.nd (h : Parts gs n) : gs.flatten.Nodup := h.perm.nodup_iff.mpr List.nodup_range
theorem Parts.gnd (h : Parts gs n) : ∀ g ∈ gs, g.Nodup := fun g hg => List.Nodup.sublist (List.sublist_flatten_of_mem hg) h.nd
theorem Parts.lt (h : Parts gs n) {g : List Nat} {x : Nat} (hg : g ∈ gs) (hx : x ∈ g) : x < n := List.mem_range.mp (h.perm.mem_iff.mp (List.mem_flatten.mpr ⟨g, hg, hx⟩))
theorem Parts.of (h : Parts gs n) {x : Nat} (hx : x < n) : ∃ (k : Nat) (g : List Nat), gs[k]? = Option.some g ∧ x ∈ g := by
  obtain ⟨g, hg, hxg⟩ := List.mem_flatten.mp (h.perm.mem_iff.mpr (List.mem_range.mpr hx))
  obtain ⟨k, hk, e⟩ := List.getElem_of_mem hg
  exact ⟨k, g, by rw [List.getElem?_eq_getElem hk, e], hxg⟩
theorem OneOf.at {c : List Nat} (h : OneOf gs c) {x : Nat} (hx : x ∈ c) : ∃ (k : Nat) (g : List Nat), c[k]? = Option.some x ∧ gs[k]? = Option.some g ∧ x ∈ g := by
  obtain ⟨k, hk, e⟩ := List.getElem_of_mem hx
  have hk2 : k < gs.length := by rw [← h.1]; exact hk
  have e1 : c[k]? = Option.some x := by rw [List.getElem?_eq_getElem hk, e]
  exact ⟨k, gs[k], e1, List.getElem?_eq_getElem hk2, h.2 k _ x (List.getElem?_eq_getElem hk2) e1⟩
theorem OneOf.nd {c : List Nat} (hp : Parts gs n) (h : OneOf gs c) : c.Nodup := by
  rw [List.nodup_iff_pairwise_ne, List.pairwise_iff_getElem]
  intro i j hi hj hij e
  have i2 : i < gs.length := by rw [← h.1]; exact hi
  have j2 : j < gs.length := by rw [← h.1]; exact hj
  have a1 := h.2 i _ _ (List.getElem?_eq_getElem i2) (List.getElem?_eq_getElem hi)
  have a2 := h.2 j _ _ (List.getElem?_eq_getElem j2) (List.getElem?_eq_getElem hj)
  have := flat_at hp.nd (List.getElem?_eq_getElem i2) (List.getElem?_eq_getElem j2) a1 (e ▸ a2)
  omega
/-- met: of other groups -/
theorem grp_perm {M : Nat → Nat → Bool} (hp : Parts gs n) (hM : ∀ i j, i < n → j < n → i ≠ j → (M i j = true ↔ ¬ together gs i j)) : ((prodL gs).map srtN).Perm (progC M n) := by
  refine (List.perm_ext_iff_of_nodup (nodup_map (nodup_prodL gs hp.gnd) fun a ha b hb e => ?_) (nodup_progC M n)).mpr fun L => ?_
  · have pa := (mem_prodL gs a).mp ha
    have pb := (mem_prodL gs b).mp hb
    have pm : a.Perm b := (srtN_perm a).symm.trans ((List.Perm.of_eq e).trans (srtN_perm b))
    refine List.ext_getElem (by rw [pa.1, pb.1]) fun k h1 h2 => ?_
    have k2 : k < gs.length := by rw [← pa.1]; exact h1
    have x1 := pa.2 k _ _ (List.getElem?_eq_getElem k2) (List.getElem?_eq_getElem h1)
    obtain ⟨j, g, e1, e2, e3⟩ := pb.at (pm.mem_iff.mp (List.getElem_mem h1))
    have := flat_at hp.nd (List.getElem?_eq_getElem k2) e2 x1 e3
    subst this
    rw [List.getElem?_eq_getElem h2] at e1
    exact (Option.some.inj e1).symm
  · rw [List.mem_map]
    refine Iff.trans ?_ mem_progC.symm
    constructor
    · rintro ⟨c, hc, rfl⟩
      have pc := (mem_prodL gs c).mp hc
      have hm : ∀ x, x ∈ srtN c ↔ x ∈ c := fun x => (srtN_perm c).mem_iff
      have lt : ∀ x ∈ c, x < n := fun x hx => by
        obtain ⟨k, g, _, e2, e3⟩ := pc.at hx
        exact hp.lt (List.mem_of_getElem? e2) e3
      refine ⟨?_, fun x hx => lt x ((hm x).mp hx), fun e => ?_, fun i hi => ?_⟩
      · have nd := (srtN_perm c).nodup_iff.mpr (pc.nd hp)
        rw [List.nodup_iff_pairwise_ne] at nd
        exact ((srtN_le c).and nd).imp fun h => by omega
      · have h1 := (srtN_perm c).length_eq
        have h2 := pc.1
        rw [e] at h1
        exact hp.some (List.eq_nil_of_length_eq_zero (by rw [← h2, ← h1]; rfl))
      · rw [hm]
        constructor
        · intro hic j hj hne
          have hjc := (hm j).mp hj
          refine (hM i j hi (lt j hjc) fun e => hne e.symm).mpr ?_
          rintro ⟨g, hg, g1, g2⟩
          obtain ⟨q, hq, eg⟩ := List.getElem_of_mem hg
          have eq : gs[q]? = Option.some g := by rw [List.getElem?_eq_getElem hq, eg]
          obtain ⟨k1, u1, a1, a2, a3⟩ := pc.at hic
          obtain ⟨k2, u2, b1, b2, b3⟩ := pc.at hjc
          have z1 := flat_at hp.nd a2 eq a3 g1
          have z2 := flat_at hp.nd b2 eq b3 g2
          rw [z1] at a1
          rw [z2] at b1
          rw [a1] at b1
          exact hne (Option.some.inj b1).symm
        · intro h
          obtain ⟨k, g, e1, e2⟩ := hp.of hi
          have hk : k < c.length := by rw [pc.1]; exact (List.getElem?_eq_some_iff.mp e1).1
          have x1 := pc.2 k g _ e1 (List.getElem?_eq_getElem hk)
          by_cases e : c[k] = i
          · rw [← e]; exact List.getElem_mem hk
          · have hm2 := h _ ((hm _).mpr (List.getElem_mem hk)) e
            exact absurd ⟨g, List.mem_of_getElem? e1, e2, x1⟩ ((hM i _ hi (lt _ (List.getElem_mem hk)) fun z => e z.symm).mp hm2)
    · intro h
      have pick : ∀ k, k < gs.length → ∃ x, x ∈ L ∧ x ∈ gs.getD k [] := fun k hk => Classical.byContradiction fun hn => by
        have e1 : gs.getD k [] = gs[k] := by rw [List.getD_eq_getElem?_getD, List.getElem?_eq_getElem hk]; rfl
        rw [e1] at hn
        have hg : gs[k] ∈ gs := List.getElem_mem hk
        obtain ⟨y, hy⟩ := List.exists_mem_of_ne_nil _ (hp.ne _ hg)
        have hyn := hp.lt hg hy
        refine hn ⟨y, (h.iff y hyn).mpr fun j hj hne => (hM y j hyn (h.lt j hj) fun e => hne e.symm).mpr ?_, hy⟩
        rintro ⟨g, hg2, g1, g2⟩
        obtain ⟨q, hq, eg⟩ := List.getElem_of_mem hg2
        have z := flat_at hp.nd (List.getElem?_eq_getElem hk) (List.getElem?_eq_getElem hq) hy (eg ▸ g1)
        subst z
        exact hn ⟨j, hj, eg ▸ g2⟩
      have ⟨f, hf⟩ : ∃ f : Nat → Nat, ∀ k, k < gs.length → f k ∈ L ∧ f k ∈ gs.getD k [] := by
        refine ⟨fun k => if hk : k < gs.length then (pick k hk).choose else 0, fun k hk => ?_⟩
        dsimp only
        rw [dif_pos hk]
        exact (pick k hk).choose_spec
      have oc : OneOf gs ((List.range gs.length).map f) := by
        refine ⟨by rw [List.length_map, List.length_range], fun k g x e1 e2 => ?_⟩
        have hk := (List.getElem?_eq_some_iff.mp e1).1
        rw [List.getElem?_map, List.getElem?_range hk] at e2
        cases e2
        have := (hf k hk).2
        rw [List.getD_eq_getElem?_getD, e1] at this
        exact this
      refine ⟨(List.range gs.length).map f, (mem_prodL gs _).mpr oc, ?_⟩
      have nd := (srtN_perm ((List.range gs.length).map f)).nodup_iff.mpr (oc.nd hp)
      rw [List.nodup_iff_pairwise_ne] at nd
      refine asc_ext (((srtN_le _).and nd).imp fun h => by omega) h.asc fun x => ?_
      rw [(srtN_perm _).mem_iff, List.mem_map]
      constructor
      · rintro ⟨k, hk, rfl⟩
        exact (hf k (List.mem_range.mp hk)).1
      · intro hx
        obtain ⟨k, g, e1, e2⟩ := hp.of (h.lt x hx)
        have hk := (List.getElem?_eq_some_iff.mp e1).1
        obtain ⟨q1, q2⟩ := hf k hk
        rw [List.getD_eq_getElem?_getD, e1] at q2
        refine ⟨k, List.mem_range.mpr hk, Classical.byContradiction fun hne => ?_⟩
        have := (h.iff x (h.lt x hx)).mp hx (f k) q1 hne
        exact absurd ⟨g, List.mem_of_getElem? e1, e2, q2⟩ ((hM x (f k) (h.lt x hx) (h.lt _ q1) fun e => hne e.symm).mp this)
end
end My
set_option maxRecDepth 100000
set_option maxHeartbeats 4000000
/-! a dict that the module has written, its keys whole numbers; tuples that the module has written -/
namespace My
open PySem L2 PySem.Spec PyProof.Rows
/-- the written entries are these -/
def KeysI : List DictEntry → List (Int × V) → Prop
  | [], [] => True
  | e :: r, p :: q => ((∃ t, e.key = .int p.1 t) ∧ e.hash = hashInt p.1 ∧ RelV p.2 e.val) ∧ KeysI r q
  | _, _ => False
structure IDict (K : PySem.W.Frag) (d : Addr) (kvs : List (Int × V)) : Prop where
  low : (d == sysModules) = false
  at_ : ∃ es n, K.lookup d = some ⟨.type "dict", none, .dict es n, #[]⟩ ∧ KeysI es.toList kvs
theorem KeysI.keys : ∀ {es : List DictEntry} {kvs : List (Int × V)}, KeysI es kvs → ∀ e ∈ es, ∃ k t, e.key = .int k t ∧ e.hash = hashInt k
  | [], [], _, e, h => nomatch h
  | _ :: _, [], h, _, _ => h.elim
  | [], _ :: _, h, _, _ => h.elim
  | e0 :: r, p :: q, h, e, hm => by
    obtain ⟨⟨⟨t, a⟩, b, _⟩, h2⟩ := h
    rcases List.mem_cons.mp hm with rfl | hm
    · exact ⟨_, _, a, b⟩
    · exact h2.keys e hm
theorem KeysI.find : ∀ {es : List DictEntry} {kvs : List (Int × V)}, KeysI es kvs → ∀ k, match kvs.lookup k with | none => es.find? (fun e => Value.isInt k e.key) = none | some v => ∃ e, es.find? (fun e => Value.isInt k e.key) = some e ∧ RelV v e.val
  | [], [], _, k => rfl
  | _ :: _, [], h, _ => h.elim
  | [], _ :: _, h, _ => h.elim
  | e0 :: r, p :: q, h, k => by
    obtain ⟨⟨⟨t, a⟩, b, c⟩, h2⟩ := h
    obtain ⟨pk, pv⟩ := p
    have ih := h2.find k
    by_cases e : k = pk
    · subst e
      have l : List.lookup k ((k, pv) :: q) = some pv := by simp [List.lookup]
      rw [l]
      refine ⟨e0, ?_, c⟩
      rw [List.find?_cons, a]
      simp [Value.isInt]
    · have l : List.lookup k ((pk, pv) :: q) = q.lookup k := by
        rw [List.lookup_cons]
        have : (k == pk) = false := beq_eq_false_iff_ne.mpr e
        rw [this]
      have f : (e0 :: r).find? (fun e => Value.isInt k e.key) = r.find? (fun e => Value.isInt k e.key) := by
        rw [List.find?_cons, a]
        have : Value.isInt k (Value.int pk t) = false := by simp [Value.isInt]; exact fun h => e h.symm
        rw [this]
      rw [l, f]
      exact ih
section
variable {X : Cx}
theorem IDict.map {K : PySem.W.Frag} {prog : Program} {w : World} {h : Heap} {d : Addr} {kvs : List (Int × V)} (D : IDict K d kvs) (I : K.In h) : ∃ es : Array DictEntry, h.MapOf (intKind prog w) d (findBy Value.isInt es) ∧ KeysI es.toList kvs := by
  obtain ⟨es, n, hl, hk⟩ := D.at_
  refine ⟨es, ⟨_, es, n, I _ _ hl, ⟨rfl, rfl, rfl⟩, rfl, fun e he => ?_, fun _ => rfl⟩, hk⟩
  obtain ⟨k, t, e1, e2⟩ := hk.keys e (Array.mem_toList_iff.mpr he)
  exact ⟨k, by rw [e1]; exact intKind_is prog w k t, e2⟩
theorem find_is {es : Array DictEntry} {kvs : List (Int × V)} (h : KeysI es.toList kvs) (k : Int) : (findBy Value.isInt es k).isSome = (kvs.lookup k).isSome := by
  obtain ⟨l⟩ := es
  have := h.find k
  unfold findBy
  rw [List.find?_toArray]
  cases e : kvs.lookup k with
  | none => rw [e] at this; rw [show l.find? (fun e => Value.isInt k e.key) = none from this]; rfl
  | some v => rw [e] at this; obtain ⟨x, e2, _⟩ := this; rw [show l.find? (fun e => Value.isInt k e.key) = some x from e2]; rfl
theorem find_some {es : Array DictEntry} {kvs : List (Int × V)} (h : KeysI es.toList kvs) {k : Int} {v : V} (e : kvs.lookup k = some v) : ∃ u, findBy Value.isInt es k = some u ∧ RelV v u := by
  obtain ⟨l⟩ := es
  have := h.find k
  rw [e] at this
  obtain ⟨x, e2, r⟩ := this
  refine ⟨x.val, ?_, r⟩
  unfold findBy
  rw [List.find?_toArray, show l.find? (fun e => Value.isInt k e.key) = some x from e2]
  rfl
/-- k in d, of a written dict -/
def rInI (K : PySem.W.Frag) : R2 := fun x y H Q => ∃ k d kvs, x = .int k ∧ y = .ref d ∧ IDict K d kvs ∧ Q (.bl (kvs.lookup k).isSome) H
theorem op_inI : OpR X (compareOp .In) (rInI X.K) := by
  intro pins s σ H x y v u Q I rx ry h
  obtain ⟨k, d, kvs, rfl, rfl, D, q⟩ := h
  obtain ⟨t, rfl⟩ := rx
  cases ry
  obtain ⟨es, hm, hk⟩ := D.map (prog := X.prog) (w := X.w) I.kIn
  refine wpAny_in_of (intKind_is X.prog X.w k t) D.low hm ?_
  rw [find_is hk]
  exact ⟨.bl (kvs.lookup k).isSome, H, I.tok _, rfl, q⟩
/-- d[k], of a written dict -/
def rIxI (K : PySem.W.Frag) : R2 := fun x y H Q => ∃ d k kvs v, x = .ref d ∧ y = .int k ∧ IDict K d kvs ∧ kvs.lookup k = some v ∧ Q v H
theorem ix_idict : IxR X (rIxI X.K) := by
  intro value slice pins s σ H x y v u Q I rx ry h hs
  obtain ⟨d, k, kvs, r, rfl, rfl, D, e, q⟩ := h
  obtain rfl : v = Value.ref d := rx
  obtain ⟨t, rfl⟩ := ry
  obtain ⟨es, hm, hk⟩ := D.map (prog := X.prog) (w := X.w) I.kIn
  obtain ⟨u0, e0, r0⟩ := find_some hk e
  exact tail_any hm.typeIs slot_dict_getitem.lookup (wpAny_getItem_of (intKind_is X.prog X.w k t) hm e0 ⟨r, H, I.tok _, r0, q⟩) hs
end
/-- a tuple that the module has written -/
def WTup (K : PySem.W.Frag) (t : Addr) (xs : List V) : Prop := ∃ (od : Option Addr) (its : Array Value) (n : Nat) (sl : Array (Option Value)), K.lookup t = some ⟨.type "tuple", od, .seq its n, sl⟩ ∧ its.size ≤ sizeLine ∧ Vals xs its.toList
theorem WTup.sq {K : PySem.W.Frag} {H : Hp} {t : Addr} {xs : List V} (h : WTup K t xs) : SqT K H t xs :=
  let ⟨_, its, n, _, e, l, v⟩ := h; .inr ⟨_, its, n, e, rfl, rfl, l, v⟩
end My
set_option maxRecDepth 100000
set_option maxHeartbeats 4000000
set_option exponentiation.threshold 10000
namespace My
open PySem L2
def top (i : Nat) : Stmt := PySem.Challenge.pw_unbrokenrows_k34_meetings_and_companies.main.body.getD i (.Pass ⟨0, 0, 0, 0⟩)
abbrev s_UnknownGuest_init : Stmt := inClass (top 5) 0
abbrev s_BadMeetings_init : Stmt := inClass (top 8) 0
abbrev s_TooMany_init : Stmt := inClass (top 9) 0
abbrev s_is_name : Stmt := top 12
abbrev s_first_bad_name : Stmt := top 13
abbrev s_first_stray : Stmt := top 14
abbrev s_numbers_in : Stmt := top 16
abbrev s_named : Stmt := top 17
abbrev s_check_columns : Stmt := top 19
abbrev s_check_rows : Stmt := top 20
abbrev s_Table_in_order : Stmt := inClass (top 21) 3
abbrev s_Table_init : Stmt := inClass (top 21) 2
abbrev s_Meetings_init : Stmt := inClass (top 25) 0
abbrev s_Meetings_met : Stmt := inClass (top 25) 1
abbrev s_Meetings_companies : Stmt := inClass (top 25) 2
abbrev s_Meetings_known_by : Stmt := inClass (top 25) 3
abbrev s_check_guests : Stmt := top 26
abbrev s_check_pairs : Stmt := top 27
abbrev s_is_full : Stmt := top 28
abbrev s_company_table : Stmt := top 29
abbrev s_companies_with : Stmt := top 30
abbrev s_law_cell : Stmt := top 32
abbrev s_law_pool : Stmt := top 33
abbrev s_law_names : Stmt := top 34
abbrev s_law_order : Stmt := top 35
abbrev s_law_is_number : Stmt := top 36
abbrev s_law_met : Stmt := top 37
abbrev s_law_is_company : Stmt := top 38
abbrev s_law_companies : Stmt := top 39
abbrev s_law_free_pairs : Stmt := top 40
abbrev s_law_group_sizes : Stmt := top 41
abbrev s_law_groups : Stmt := top 42
abbrev s_law_pairs_across : Stmt := top 43
abbrev s_law_one_of_each : Stmt := top 44
abbrev s_law_told_pairs : Stmt := top 45
abbrev s_law_bad : Stmt := top 46
abbrev s_law_refused : Stmt := top 47
abbrev s_law_unknown : Stmt := top 48
abbrev s_law_same_companies : Stmt := top 49
abbrev s_law_table_right : Stmt := top 50
abbrev s_law : Stmt := top 51
theorem ss_UnknownGuest_init : SupScope ["self", "name"] ["self", "name"] (defScope s_UnknownGuest_init) := ⟨rfl, rfl, rfl, by decide +kernel, rfl, by decide +kernel, by decide +kernel, by decide +kernel, rfl, rfl⟩
theorem ss_BadMeetings_init : SupScope ["self", "part", "index"] ["self", "part", "index"] (defScope s_BadMeetings_init) := ⟨rfl, rfl, rfl, by decide +kernel, rfl, by decide +kernel, by decide +kernel, by decide +kernel, rfl, rfl⟩
theorem ss_TooMany_init : SupScope ["self", "many"] ["self", "many"] (defScope s_TooMany_init) := ⟨rfl, rfl, rfl, by decide +kernel, rfl, by decide +kernel, by decide +kernel, by decide +kernel, rfl, rfl⟩
theorem sc_is_name : FnScope ["text", "sign"] ["text"] (defScope s_is_name) := ⟨rfl, rfl, rfl, by decide +kernel, rfl, by decide +kernel, by decide +kernel⟩
theorem sc_first_bad_name : FnScope ["names", "index", "name"] ["names"] (defScope s_first_bad_name) := ⟨rfl, rfl, rfl, by decide +kernel, rfl, by decide +kernel, by decide +kernel⟩
theorem sc_first_stray : FnScope ["columns", "names", "index", "name"] ["columns", "names"] (defScope s_first_stray) := ⟨rfl, rfl, rfl, by decide +kernel, rfl, by decide +kernel, by decide +kernel⟩
theorem sc_numbers_in : FnScope ["mask", "number"] ["mask"] (defScope s_numbers_in) := ⟨rfl, rfl, rfl, by decide +kernel, rfl, by decide +kernel, by decide +kernel⟩
theorem sc_named : FnScope ["numbers", "columns", "number"] ["numbers", "columns"] (defScope s_named) := ⟨rfl, rfl, rfl, by decide +kernel, rfl, by decide +kernel, by decide +kernel⟩
theorem sc_check_columns : FnScope ["columns", "index"] ["columns"] (defScope s_check_columns) := ⟨rfl, rfl, rfl, by decide +kernel, rfl, by decide +kernel, by decide +kernel⟩
theorem sc_check_rows : FnScope ["columns", "rows", "index", "row"] ["columns", "rows"] (defScope s_check_rows) := ⟨rfl, rfl, rfl, by decide +kernel, rfl, by decide +kernel, by decide +kernel⟩
theorem sc_Table_in_order : FnScope ["self", "names", "name"] ["self", "names"] (defScope s_Table_in_order) := ⟨rfl, rfl, rfl, by decide +kernel, rfl, by decide +kernel, by decide +kernel⟩
theorem sc_Table_init : FnScope ["self", "columns", "rows", "row"] ["self", "columns", "rows"] (defScope s_Table_init) := ⟨rfl, rfl, rfl, by decide +kernel, rfl, by decide +kernel, by decide +kernel⟩
theorem sc_Meetings_init : FnScope ["self", "guests", "pairs", "pair"] ["self", "guests", "pairs"] (defScope s_Meetings_init) := ⟨rfl, rfl, rfl, by decide +kernel, rfl, by decide +kernel, by decide +kernel⟩
theorem sc_Meetings_met : FnScope ["self", "a", "b", "name"] ["self", "a", "b"] (defScope s_Meetings_met) := ⟨rfl, rfl, rfl, by decide +kernel, rfl, by decide +kernel, by decide +kernel⟩
theorem sc_Meetings_companies : FnScope ["self", "known", "full", "guest", "mask", "numbers"] ["self"] (defScope s_Meetings_companies) := ⟨rfl, rfl, rfl, by decide +kernel, rfl, by decide +kernel, by decide +kernel⟩
theorem sc_Meetings_known_by : FnScope ["self", "guest", "number", "other"] ["self", "guest"] (defScope s_Meetings_known_by) := ⟨rfl, rfl, rfl, by decide +kernel, rfl, by decide +kernel, by decide +kernel⟩
theorem sc_check_guests : FnScope ["guests", "index"] ["guests"] (defScope s_check_guests) := ⟨rfl, rfl, rfl, by decide +kernel, rfl, by decide +kernel, by decide +kernel⟩
theorem sc_check_pairs : FnScope ["guests", "pairs", "earlier", "index", "pair"] ["guests", "pairs"] (defScope s_check_pairs) := ⟨rfl, rfl, rfl, by decide +kernel, rfl, by decide +kernel, by decide +kernel⟩
theorem sc_is_full : FnScope ["company", "known", "number", "mask"] ["company", "known"] (defScope s_is_full) := ⟨rfl, rfl, rfl, by decide +kernel, rfl, by decide +kernel, by decide +kernel⟩
theorem sc_company_table : FnScope ["meetings", "companies", "columns", "guest"] ["meetings"] (defScope s_company_table) := ⟨rfl, rfl, rfl, by decide +kernel, rfl, by decide +kernel, by decide +kernel⟩
theorem sc_companies_with : FnScope ["guest", "companies", "columns", "name", "company"] ["guest", "companies", "columns"] (defScope s_companies_with) := ⟨rfl, rfl, rfl, by decide +kernel, rfl, by decide +kernel, by decide +kernel⟩
theorem sc_law_cell : FnScope ["script", "k"] ["script", "k"] (defScope s_law_cell) := ⟨rfl, rfl, rfl, by decide +kernel, rfl, by decide +kernel, by decide +kernel⟩
theorem sc_law_pool : FnScope ["script", "k", "count", "value", "pool", "i", "first", "second", "third"] ["script", "k", "count"] (defScope s_law_pool) := ⟨rfl, rfl, rfl, by decide +kernel, rfl, by decide +kernel, by decide +kernel⟩
theorem sc_law_names : FnScope ["count", "seed", "words", "cut", "names", "k", "core", "left", "right"] ["count", "seed"] (defScope s_law_names) := ⟨rfl, rfl, rfl, by decide +kernel, rfl, by decide +kernel, by decide +kernel⟩
theorem sc_law_order : FnScope ["names", "pool", "start", "left", "order", "k", "pick"] ["names", "pool", "start"] (defScope s_law_order) := ⟨rfl, rfl, rfl, by decide +kernel, rfl, by decide +kernel, by decide +kernel⟩
theorem sc_law_is_number : FnScope ["value", "least", "most"] ["value", "least", "most"] (defScope s_law_is_number) := ⟨rfl, rfl, rfl, by decide +kernel, rfl, by decide +kernel, by decide +kernel⟩
theorem sc_law_met : FnScope ["pairs", "one", "other"] ["pairs", "one", "other"] (defScope s_law_met) := ⟨rfl, rfl, rfl, by decide +kernel, rfl, by decide +kernel, by decide +kernel⟩
theorem sc_law_is_company : FnScope ["guests", "pairs", "company", "one", "other"] ["guests", "pairs", "company"] (defScope s_law_is_company) := ⟨rfl, rfl, rfl, by decide +kernel, rfl, by decide +kernel, by decide +kernel⟩
theorem sc_law_companies : FnScope ["guests", "pairs", "found", "guest", "full", "company", "further", "i"] ["guests", "pairs"] (defScope s_law_companies) := ⟨rfl, rfl, rfl, by decide +kernel, rfl, by decide +kernel, by decide +kernel⟩
theorem sc_law_free_pairs : FnScope ["guests", "pool", "start", "pairs", "j", "draw", "i"] ["guests", "pool", "start"] (defScope s_law_free_pairs) := ⟨rfl, rfl, rfl, by decide +kernel, rfl, by decide +kernel, by decide +kernel⟩
theorem sc_law_group_sizes : FnScope ["pool", "sizes", "k", "size"] ["pool"] (defScope s_law_group_sizes) := ⟨rfl, rfl, rfl, by decide +kernel, rfl, by decide +kernel, by decide +kernel⟩
theorem sc_law_groups : FnScope ["order", "sizes", "groups", "start", "size"] ["order", "sizes"] (defScope s_law_groups) := ⟨rfl, rfl, rfl, by decide +kernel, rfl, by decide +kernel, by decide +kernel⟩
theorem sc_law_pairs_across : FnScope ["guests", "groups", "pairs", "j", "i", "group"] ["guests", "groups"] (defScope s_law_pairs_across) := ⟨rfl, rfl, rfl, by decide +kernel, rfl, by decide +kernel, by decide +kernel⟩
theorem sc_law_one_of_each : FnScope ["guests", "groups", "lists", "group", "longer", "begun", "guest", "keyed", "chosen", "i"] ["guests", "groups"] (defScope s_law_one_of_each) := ⟨rfl, rfl, rfl, by decide +kernel, rfl, by decide +kernel, by decide +kernel⟩
theorem sc_law_told_pairs : FnScope ["pairs", "pool", "second", "told", "pair"] ["pairs", "pool", "second"] (defScope s_law_told_pairs) := ⟨rfl, rfl, rfl, by decide +kernel, rfl, by decide +kernel, by decide +kernel⟩
theorem sc_law_bad : FnScope ["guests", "pairs", "pool", "word", "at", "first", "here", "odd", "one", "later", "again", "pair", "letter"] ["guests", "pairs", "pool"] (defScope s_law_bad) := ⟨rfl, rfl, rfl, by decide +kernel, rfl, by decide +kernel, by decide +kernel⟩
theorem sc_law_refused : FnScope ["guests", "pairs", "told", "e"] ["guests", "pairs"] (defScope s_law_refused) := ⟨rfl, rfl, rfl, by decide +kernel, rfl, by decide +kernel, by decide +kernel⟩
theorem sc_law_unknown : FnScope ["meetings", "one", "other", "told", "e"] ["meetings", "one", "other"] (defScope s_law_unknown) := ⟨rfl, rfl, rfl, by decide +kernel, rfl, by decide +kernel, by decide +kernel⟩
theorem sc_law_same_companies : FnScope ["found", "due", "k"] ["found", "due"] (defScope s_law_same_companies) := ⟨rfl, rfl, rfl, by decide +kernel, rfl, by decide +kernel, by decide +kernel⟩
theorem sc_law_table_right : FnScope ["meetings", "guests", "due", "told", "e", "letters", "rows", "guest", "letter", "k"] ["meetings", "guests", "due"] (defScope s_law_table_right) := ⟨rfl, rfl, rfl, by decide +kernel, rfl, by decide +kernel, by decide +kernel⟩
theorem sc_law : FnScope ["script", "p0", "p1", "p2", "p3", "grouped", "sizes", "many", "guests", "k", "groups", "pairs", "due", "handed", "meetings", "alone", "one", "other", "answer", "found", "guest", "bad", "told", "pair"] ["script"] (defScope s_law) := ⟨rfl, rfl, rfl, by decide +kernel, rfl, by decide +kernel, by decide +kernel⟩
/-- where the defs and classes stand -/
structure Ad where
  C_Table : Addr
  C_Meetings : Addr
  C_RowsError : Addr
  C_Unknown : Addr
  C_Impossible : Addr
  C_UnknownGuest : Addr
  C_BadMeetings : Addr
  C_TooMany : Addr
  a_UnknownGuest_init : Addr
  d_UnknownGuest_init : FuncData
  a_BadMeetings_init : Addr
  d_BadMeetings_init : FuncData
  a_TooMany_init : Addr
  d_TooMany_init : FuncData
  a_is_name : Addr
  d_is_name : FuncData
  a_first_bad_name : Addr
  d_first_bad_name : FuncData
  a_first_stray : Addr
  d_first_stray : FuncData
  a_numbers_in : Addr
  d_numbers_in : FuncData
  a_named : Addr
  d_named : FuncData
  a_check_columns : Addr
  d_check_columns : FuncData
  a_check_rows : Addr
  d_check_rows : FuncData
  a_Table_in_order : Addr
  d_Table_in_order : FuncData
  a_Table_init : Addr
  d_Table_init : FuncData
  a_Meetings_init : Addr
  d_Meetings_init : FuncData
  a_Meetings_met : Addr
  d_Meetings_met : FuncData
  a_Meetings_companies : Addr
  d_Meetings_companies : FuncData
  a_Meetings_known_by : Addr
  d_Meetings_known_by : FuncData
  a_check_guests : Addr
  d_check_guests : FuncData
  a_check_pairs : Addr
  d_check_pairs : FuncData
  a_is_full : Addr
  d_is_full : FuncData
  a_company_table : Addr
  d_company_table : FuncData
  a_companies_with : Addr
  d_companies_with : FuncData
  a_law_cell : Addr
  d_law_cell : FuncData
  a_law_pool : Addr
  d_law_pool : FuncData
  a_law_names : Addr
  d_law_names : FuncData
  a_law_order : Addr
  d_law_order : FuncData
  a_law_is_number : Addr
  d_law_is_number : FuncData
  a_law_met : Addr
  d_law_met : FuncData
  a_law_is_company : Addr
  d_law_is_company : FuncData
  a_law_companies : Addr
  d_law_companies : FuncData
  a_law_free_pairs : Addr
  d_law_free_pairs : FuncData
  a_law_group_sizes : Addr
  d_law_group_sizes : FuncData
  a_law_groups : Addr
  d_law_groups : FuncData
  a_law_pairs_across : Addr
  d_law_pairs_across : FuncData
  a_law_one_of_each : Addr
  d_law_one_of_each : FuncData
  a_law_told_pairs : Addr
  d_law_told_pairs : FuncData
  a_law_bad : Addr
  d_law_bad : FuncData
  a_law_refused : Addr
  d_law_refused : FuncData
  a_law_unknown : Addr
  d_law_unknown : FuncData
  a_law_same_companies : Addr
  d_law_same_companies : FuncData
  a_law_table_right : Addr
  d_law_table_right : FuncData
  a_law : Addr
  d_law : FuncData
  e_Table_init : Addr
/-- what the top has written -/
structure Txt (P : Program) (K : PySem.W.Frag) (mg : Str → Option Value) (A : Ad) : Prop where
  mg_Table : mg "Table" = some (.ref A.C_Table)
  cl_Table : Cls K A.C_Table
  sf_Table : PySem.W.selfFirst K A.C_Table = true
  mk_Table : Mk K A.C_Table A.a_Table_init
  c1_Table : PySem.W.findIn K (.ref A.C_Table) "__class__" = some (some (.builtin "object.__class__"))
  c3_Table : PySem.W.mroIn K A.C_Table (.type "object") = some true
  n_Table_columns : NoAttr K A.C_Table "columns"
  n_Table_rows : NoAttr K A.C_Table "rows"
  mg_Meetings : mg "Meetings" = some (.ref A.C_Meetings)
  cl_Meetings : Cls K A.C_Meetings
  sf_Meetings : PySem.W.selfFirst K A.C_Meetings = true
  mk_Meetings : Mk K A.C_Meetings A.a_Meetings_init
  c1_Meetings : PySem.W.findIn K (.ref A.C_Meetings) "__class__" = some (some (.builtin "object.__class__"))
  c3_Meetings : PySem.W.mroIn K A.C_Meetings (.type "object") = some true
  n_Meetings_guests : NoAttr K A.C_Meetings "guests"
  n_Meetings_pairs : NoAttr K A.C_Meetings "pairs"
  c2 : PySem.W.specialIn K (.builtin "object.__class__") "__get__" = some (some (.builtin "getset_descriptor.__get__"))
  c4 : PySem.W.takesIn K (.builtin "object.__class__") = some true
  mg_RowsError : mg "RowsError" = some (.ref A.C_RowsError)
  tp_RowsError : PySem.W.typeIn K (.ref A.C_RowsError) = some (.type "type")
  ic_RowsError : PySem.W.isClsIn K A.C_RowsError = true
  mg_Unknown : mg "Unknown" = some (.ref A.C_Unknown)
  tp_Unknown : PySem.W.typeIn K (.ref A.C_Unknown) = some (.type "type")
  ic_Unknown : PySem.W.isClsIn K A.C_Unknown = true
  mg_Impossible : mg "Impossible" = some (.ref A.C_Impossible)
  tp_Impossible : PySem.W.typeIn K (.ref A.C_Impossible) = some (.type "type")
  ic_Impossible : PySem.W.isClsIn K A.C_Impossible = true
  mg_UnknownGuest : mg "UnknownGuest" = some (.ref A.C_UnknownGuest)
  tp_UnknownGuest : PySem.W.typeIn K (.ref A.C_UnknownGuest) = some (.type "type")
  ic_UnknownGuest : PySem.W.isClsIn K A.C_UnknownGuest = true
  mg_BadMeetings : mg "BadMeetings" = some (.ref A.C_BadMeetings)
  tp_BadMeetings : PySem.W.typeIn K (.ref A.C_BadMeetings) = some (.type "type")
  ic_BadMeetings : PySem.W.isClsIn K A.C_BadMeetings = true
  mg_TooMany : mg "TooMany" = some (.ref A.C_TooMany)
  tp_TooMany : PySem.W.typeIn K (.ref A.C_TooMany) = some (.type "type")
  ic_TooMany : PySem.W.isClsIn K A.C_TooMany = true
  SC_UnknownGuest : SupCls P K mg A.C_UnknownGuest
  SF_UnknownGuest : SupFn P K s_UnknownGuest_init "UnknownGuest.__init__" A.C_UnknownGuest A.a_UnknownGuest_init A.d_UnknownGuest_init
  ii_UnknownGuest : PySem.W.findIn K (.ref A.C_UnknownGuest) "__init__" = some (some (.ref A.a_UnknownGuest_init))
  ti_UnknownGuest : PySem.W.typeIn K (.ref A.a_UnknownGuest_init) = some (.type "function")
  b_UnknownGuest_init : Binds K A.d_UnknownGuest_init ["self", "name"] []
  xn_UnknownGuest_name : PySem.W.findIn K (.ref A.C_UnknownGuest) "name" = some none
  xf_UnknownGuest : XfC K A.C_UnknownGuest
  ec_UnknownGuest : ExcC K A.C_UnknownGuest
  k_UnknownGuest : PySem.W.keepIn K (.ref A.C_UnknownGuest) = true
  bp_UnknownGuest : PySem.W.subIn K (.ref A.C_UnknownGuest) (.type "BaseException") = some true
  sv_UnknownGuest : PySem.W.subIn K (.ref A.C_UnknownGuest) (.type "ValueError") = some true
  ss_UnknownGuest : PySem.W.subIn K (.ref A.C_UnknownGuest) (.ref A.C_UnknownGuest) = some true
  su_UnknownGuest_RowsError : PySem.W.subIn K (.ref A.C_UnknownGuest) (.ref A.C_RowsError) = some true
  su_UnknownGuest_Unknown : PySem.W.subIn K (.ref A.C_UnknownGuest) (.ref A.C_Unknown) = some true
  su_UnknownGuest_Impossible : PySem.W.subIn K (.ref A.C_UnknownGuest) (.ref A.C_Impossible) = some false
  e1_UnknownGuest : PySem.W.findIn K (.ref A.C_UnknownGuest) "__getattribute__" = some (some (.builtin "BaseException.__getattribute__"))
  e2_UnknownGuest : PySem.W.findIn K (.ref A.C_UnknownGuest) "__getattr__" = some none
  e3_UnknownGuest : PySem.W.hasDictIn K A.C_UnknownGuest = true
  e4_UnknownGuest : PySem.W.findIn K (.ref A.C_UnknownGuest) "__class__" = some (some (.builtin "object.__class__"))
  e5_UnknownGuest : PySem.W.mroIn K A.C_UnknownGuest (.type "object") = some true
  SC_BadMeetings : SupCls P K mg A.C_BadMeetings
  SF_BadMeetings : SupFn P K s_BadMeetings_init "BadMeetings.__init__" A.C_BadMeetings A.a_BadMeetings_init A.d_BadMeetings_init
  ii_BadMeetings : PySem.W.findIn K (.ref A.C_BadMeetings) "__init__" = some (some (.ref A.a_BadMeetings_init))
  ti_BadMeetings : PySem.W.typeIn K (.ref A.a_BadMeetings_init) = some (.type "function")
  b_BadMeetings_init : Binds K A.d_BadMeetings_init ["self", "part", "index"] []
  xn_BadMeetings_part : PySem.W.findIn K (.ref A.C_BadMeetings) "part" = some none
  xn_BadMeetings_index : PySem.W.findIn K (.ref A.C_BadMeetings) "index" = some none
  xf_BadMeetings : XfC K A.C_BadMeetings
  ec_BadMeetings : ExcC K A.C_BadMeetings
  k_BadMeetings : PySem.W.keepIn K (.ref A.C_BadMeetings) = true
  bp_BadMeetings : PySem.W.subIn K (.ref A.C_BadMeetings) (.type "BaseException") = some true
  sv_BadMeetings : PySem.W.subIn K (.ref A.C_BadMeetings) (.type "ValueError") = some true
  ss_BadMeetings : PySem.W.subIn K (.ref A.C_BadMeetings) (.ref A.C_BadMeetings) = some true
  su_BadMeetings_RowsError : PySem.W.subIn K (.ref A.C_BadMeetings) (.ref A.C_RowsError) = some true
  su_BadMeetings_Unknown : PySem.W.subIn K (.ref A.C_BadMeetings) (.ref A.C_Unknown) = some false
  su_BadMeetings_Impossible : PySem.W.subIn K (.ref A.C_BadMeetings) (.ref A.C_Impossible) = some false
  e1_BadMeetings : PySem.W.findIn K (.ref A.C_BadMeetings) "__getattribute__" = some (some (.builtin "BaseException.__getattribute__"))
  e2_BadMeetings : PySem.W.findIn K (.ref A.C_BadMeetings) "__getattr__" = some none
  e3_BadMeetings : PySem.W.hasDictIn K A.C_BadMeetings = true
  e4_BadMeetings : PySem.W.findIn K (.ref A.C_BadMeetings) "__class__" = some (some (.builtin "object.__class__"))
  e5_BadMeetings : PySem.W.mroIn K A.C_BadMeetings (.type "object") = some true
  SC_TooMany : SupCls P K mg A.C_TooMany
  SF_TooMany : SupFn P K s_TooMany_init "TooMany.__init__" A.C_TooMany A.a_TooMany_init A.d_TooMany_init
  ii_TooMany : PySem.W.findIn K (.ref A.C_TooMany) "__init__" = some (some (.ref A.a_TooMany_init))
  ti_TooMany : PySem.W.typeIn K (.ref A.a_TooMany_init) = some (.type "function")
  b_TooMany_init : Binds K A.d_TooMany_init ["self", "many"] []
  xn_TooMany_many : PySem.W.findIn K (.ref A.C_TooMany) "many" = some none
  xf_TooMany : XfC K A.C_TooMany
  ec_TooMany : ExcC K A.C_TooMany
  k_TooMany : PySem.W.keepIn K (.ref A.C_TooMany) = true
  bp_TooMany : PySem.W.subIn K (.ref A.C_TooMany) (.type "BaseException") = some true
  sv_TooMany : PySem.W.subIn K (.ref A.C_TooMany) (.type "ValueError") = some true
  ss_TooMany : PySem.W.subIn K (.ref A.C_TooMany) (.ref A.C_TooMany) = some true
  su_TooMany_RowsError : PySem.W.subIn K (.ref A.C_TooMany) (.ref A.C_RowsError) = some true
  su_TooMany_Unknown : PySem.W.subIn K (.ref A.C_TooMany) (.ref A.C_Unknown) = some false
  su_TooMany_Impossible : PySem.W.subIn K (.ref A.C_TooMany) (.ref A.C_Impossible) = some false
  e1_TooMany : PySem.W.findIn K (.ref A.C_TooMany) "__getattribute__" = some (some (.builtin "BaseException.__getattribute__"))
  e2_TooMany : PySem.W.findIn K (.ref A.C_TooMany) "__getattr__" = some none
  e3_TooMany : PySem.W.hasDictIn K A.C_TooMany = true
  e4_TooMany : PySem.W.findIn K (.ref A.C_TooMany) "__class__" = some (some (.builtin "object.__class__"))
  e5_TooMany : PySem.W.mroIn K A.C_TooMany (.type "object") = some true
  mg_COLUMN_NAMES : ∃ t : Tok, mg "COLUMN_NAMES" = some (.str "abcdefghijkl" t)
  mg_LONGEST_NAME : ∃ t : Tok, mg "LONGEST_NAME" = some (.int 8 t)
  mg_MOST_GUESTS : ∃ t : Tok, mg "MOST_GUESTS" = some (.int 10 t)
  cr_Table : ClX.CRead K A.C_Table (.type "type")
  cv_Table_MOST_COLUMNS : ∃ u, ClX.CVal K A.C_Table (.type "type") "MOST_COLUMNS" (.int 12) u
  cv_Table_MOST_ROWS : ∃ u, ClX.CVal K A.C_Table (.type "type") "MOST_ROWS" (.int 48) u
  n_abs : mg "abs" = none
  n_int : mg "int" = none
  n_isinstance : mg "isinstance" = none
  n_range : mg "range" = none
  n_len : mg "len" = none
  n_str : mg "str" = none
  n_tuple : mg "tuple" = none
  n_list : mg "list" = none
  n_ValueError : mg "ValueError" = none
  n_all : mg "all" = none
  n_min : mg "min" = none
  n_enumerate : mg "enumerate" = none
  n_bool : mg "bool" = none
  n_sum : mg "sum" = none
  n_sorted : mg "sorted" = none
  n_zip : mg "zip" = none
  F_is_name : Fun K "is_name" "is_name" s_is_name A.a_is_name A.d_is_name
  b_is_name : Binds K A.d_is_name ["text"] []
  mg_is_name : mg "is_name" = some (.ref A.a_is_name)
  F_first_bad_name : Fun K "first_bad_name" "first_bad_name" s_first_bad_name A.a_first_bad_name A.d_first_bad_name
  b_first_bad_name : Binds K A.d_first_bad_name ["names"] []
  mg_first_bad_name : mg "first_bad_name" = some (.ref A.a_first_bad_name)
  F_first_stray : Fun K "first_stray" "first_stray" s_first_stray A.a_first_stray A.d_first_stray
  b_first_stray : Binds K A.d_first_stray ["columns", "names"] []
  mg_first_stray : mg "first_stray" = some (.ref A.a_first_stray)
  F_numbers_in : Fun K "numbers_in" "numbers_in" s_numbers_in A.a_numbers_in A.d_numbers_in
  b_numbers_in : Binds K A.d_numbers_in ["mask"] []
  mg_numbers_in : mg "numbers_in" = some (.ref A.a_numbers_in)
  F_named : Fun K "named" "named" s_named A.a_named A.d_named
  b_named : Binds K A.d_named ["numbers", "columns"] []
  mg_named : mg "named" = some (.ref A.a_named)
  F_check_columns : Fun K "check_columns" "check_columns" s_check_columns A.a_check_columns A.d_check_columns
  b_check_columns : Binds K A.d_check_columns ["columns"] []
  mg_check_columns : mg "check_columns" = some (.ref A.a_check_columns)
  F_check_rows : Fun K "_check_rows" "_check_rows" s_check_rows A.a_check_rows A.d_check_rows
  b_check_rows : Binds K A.d_check_rows ["columns", "rows"] []
  mg_check_rows : mg "_check_rows" = some (.ref A.a_check_rows)
  F_Table_in_order : Fun K "_in_order" "Table._in_order" s_Table_in_order A.a_Table_in_order A.d_Table_in_order
  b_Table_in_order : Binds K A.d_Table_in_order ["self", "names"] []
  m_Table_in_order : Meth K A.C_Table "_in_order" A.a_Table_in_order
  F_Table_init : FunD K "__init__" "Table.__init__" (defArgs s_Table_init) (defBody s_Table_init) (defScope s_Table_init) [.ref A.e_Table_init] [] A.a_Table_init A.d_Table_init
  m_Table_init : Meth K A.C_Table "__init__" A.a_Table_init
  F_Meetings_init : Fun K "__init__" "Meetings.__init__" s_Meetings_init A.a_Meetings_init A.d_Meetings_init
  b_Meetings_init : Binds K A.d_Meetings_init ["self", "guests", "pairs"] []
  m_Meetings_init : Meth K A.C_Meetings "__init__" A.a_Meetings_init
  F_Meetings_met : Fun K "met" "Meetings.met" s_Meetings_met A.a_Meetings_met A.d_Meetings_met
  b_Meetings_met : Binds K A.d_Meetings_met ["self", "a", "b"] []
  m_Meetings_met : Meth K A.C_Meetings "met" A.a_Meetings_met
  F_Meetings_companies : Fun K "companies" "Meetings.companies" s_Meetings_companies A.a_Meetings_companies A.d_Meetings_companies
  b_Meetings_companies : Binds K A.d_Meetings_companies ["self"] []
  m_Meetings_companies : Meth K A.C_Meetings "companies" A.a_Meetings_companies
  F_Meetings_known_by : Fun K "_known_by" "Meetings._known_by" s_Meetings_known_by A.a_Meetings_known_by A.d_Meetings_known_by
  b_Meetings_known_by : Binds K A.d_Meetings_known_by ["self", "guest"] []
  m_Meetings_known_by : Meth K A.C_Meetings "_known_by" A.a_Meetings_known_by
  F_check_guests : Fun K "_check_guests" "_check_guests" s_check_guests A.a_check_guests A.d_check_guests
  b_check_guests : Binds K A.d_check_guests ["guests"] []
  mg_check_guests : mg "_check_guests" = some (.ref A.a_check_guests)
  F_check_pairs : Fun K "_check_pairs" "_check_pairs" s_check_pairs A.a_check_pairs A.d_check_pairs
  b_check_pairs : Binds K A.d_check_pairs ["guests", "pairs"] []
  mg_check_pairs : mg "_check_pairs" = some (.ref A.a_check_pairs)
  F_is_full : Fun K "_is_full" "_is_full" s_is_full A.a_is_full A.d_is_full
  b_is_full : Binds K A.d_is_full ["company", "known"] []
  mg_is_full : mg "_is_full" = some (.ref A.a_is_full)
  F_company_table : Fun K "company_table" "company_table" s_company_table A.a_company_table A.d_company_table
  b_company_table : Binds K A.d_company_table ["meetings"] []
  mg_company_table : mg "company_table" = some (.ref A.a_company_table)
  F_companies_with : Fun K "_companies_with" "_companies_with" s_companies_with A.a_companies_with A.d_companies_with
  b_companies_with : Binds K A.d_companies_with ["guest", "companies", "columns"] []
  mg_companies_with : mg "_companies_with" = some (.ref A.a_companies_with)
  F_law_cell : Fun K "_law_cell" "_law_cell" s_law_cell A.a_law_cell A.d_law_cell
  b_law_cell : Binds K A.d_law_cell ["script", "k"] []
  mg_law_cell : mg "_law_cell" = some (.ref A.a_law_cell)
  F_law_pool : Fun K "_law_pool" "_law_pool" s_law_pool A.a_law_pool A.d_law_pool
  b_law_pool : Binds K A.d_law_pool ["script", "k", "count"] []
  mg_law_pool : mg "_law_pool" = some (.ref A.a_law_pool)
  F_law_names : Fun K "_law_names" "_law_names" s_law_names A.a_law_names A.d_law_names
  b_law_names : Binds K A.d_law_names ["count", "seed"] []
  mg_law_names : mg "_law_names" = some (.ref A.a_law_names)
  F_law_order : Fun K "_law_order" "_law_order" s_law_order A.a_law_order A.d_law_order
  b_law_order : Binds K A.d_law_order ["names", "pool", "start"] []
  mg_law_order : mg "_law_order" = some (.ref A.a_law_order)
  F_law_is_number : Fun K "_law_is_number" "_law_is_number" s_law_is_number A.a_law_is_number A.d_law_is_number
  b_law_is_number : Binds K A.d_law_is_number ["value", "least", "most"] []
  mg_law_is_number : mg "_law_is_number" = some (.ref A.a_law_is_number)
  F_law_met : Fun K "_law_met" "_law_met" s_law_met A.a_law_met A.d_law_met
  b_law_met : Binds K A.d_law_met ["pairs", "one", "other"] []
  mg_law_met : mg "_law_met" = some (.ref A.a_law_met)
  F_law_is_company : Fun K "_law_is_company" "_law_is_company" s_law_is_company A.a_law_is_company A.d_law_is_company
  b_law_is_company : Binds K A.d_law_is_company ["guests", "pairs", "company"] []
  mg_law_is_company : mg "_law_is_company" = some (.ref A.a_law_is_company)
  F_law_companies : Fun K "_law_companies" "_law_companies" s_law_companies A.a_law_companies A.d_law_companies
  b_law_companies : Binds K A.d_law_companies ["guests", "pairs"] []
  mg_law_companies : mg "_law_companies" = some (.ref A.a_law_companies)
  F_law_free_pairs : Fun K "_law_free_pairs" "_law_free_pairs" s_law_free_pairs A.a_law_free_pairs A.d_law_free_pairs
  b_law_free_pairs : Binds K A.d_law_free_pairs ["guests", "pool", "start"] []
  mg_law_free_pairs : mg "_law_free_pairs" = some (.ref A.a_law_free_pairs)
  F_law_group_sizes : Fun K "_law_group_sizes" "_law_group_sizes" s_law_group_sizes A.a_law_group_sizes A.d_law_group_sizes
  b_law_group_sizes : Binds K A.d_law_group_sizes ["pool"] []
  mg_law_group_sizes : mg "_law_group_sizes" = some (.ref A.a_law_group_sizes)
  F_law_groups : Fun K "_law_groups" "_law_groups" s_law_groups A.a_law_groups A.d_law_groups
  b_law_groups : Binds K A.d_law_groups ["order", "sizes"] []
  mg_law_groups : mg "_law_groups" = some (.ref A.a_law_groups)
  F_law_pairs_across : Fun K "_law_pairs_across" "_law_pairs_across" s_law_pairs_across A.a_law_pairs_across A.d_law_pairs_across
  b_law_pairs_across : Binds K A.d_law_pairs_across ["guests", "groups"] []
  mg_law_pairs_across : mg "_law_pairs_across" = some (.ref A.a_law_pairs_across)
  F_law_one_of_each : Fun K "_law_one_of_each" "_law_one_of_each" s_law_one_of_each A.a_law_one_of_each A.d_law_one_of_each
  b_law_one_of_each : Binds K A.d_law_one_of_each ["guests", "groups"] []
  mg_law_one_of_each : mg "_law_one_of_each" = some (.ref A.a_law_one_of_each)
  F_law_told_pairs : Fun K "_law_told_pairs" "_law_told_pairs" s_law_told_pairs A.a_law_told_pairs A.d_law_told_pairs
  b_law_told_pairs : Binds K A.d_law_told_pairs ["pairs", "pool", "second"] []
  mg_law_told_pairs : mg "_law_told_pairs" = some (.ref A.a_law_told_pairs)
  F_law_bad : Fun K "_law_bad" "_law_bad" s_law_bad A.a_law_bad A.d_law_bad
  b_law_bad : Binds K A.d_law_bad ["guests", "pairs", "pool"] []
  mg_law_bad : mg "_law_bad" = some (.ref A.a_law_bad)
  F_law_refused : Fun K "_law_refused" "_law_refused" s_law_refused A.a_law_refused A.d_law_refused
  b_law_refused : Binds K A.d_law_refused ["guests", "pairs"] []
  mg_law_refused : mg "_law_refused" = some (.ref A.a_law_refused)
  F_law_unknown : Fun K "_law_unknown" "_law_unknown" s_law_unknown A.a_law_unknown A.d_law_unknown
  b_law_unknown : Binds K A.d_law_unknown ["meetings", "one", "other"] []
  mg_law_unknown : mg "_law_unknown" = some (.ref A.a_law_unknown)
  F_law_same_companies : Fun K "_law_same_companies" "_law_same_companies" s_law_same_companies A.a_law_same_companies A.d_law_same_companies
  b_law_same_companies : Binds K A.d_law_same_companies ["found", "due"] []
  mg_law_same_companies : mg "_law_same_companies" = some (.ref A.a_law_same_companies)
  F_law_table_right : Fun K "_law_table_right" "_law_table_right" s_law_table_right A.a_law_table_right A.d_law_table_right
  b_law_table_right : Binds K A.d_law_table_right ["meetings", "guests", "due"] []
  mg_law_table_right : mg "_law_table_right" = some (.ref A.a_law_table_right)
  F_law : Fun K "law" "law" s_law A.a_law A.d_law
  b_law : Binds K A.d_law ["script"] []
  mg_law : mg "law" = some (.ref A.a_law)
end My
set_option maxRecDepth 100000
set_option maxHeartbeats 4000000
set_option exponentiation.threshold 10000
namespace My
open PySem L2
theorem lu1 : Str.length ("there is no guest " : Str) = 18 := by decide
theorem lm1 : Str.length ("wrong in meetings: " : Str) = 19 := by decide
theorem lm2 : Str.length (" " : Str) = 1 := by decide
theorem lt1 : Str.length ("too many: " : Str) = 10 := by decide
def shortS (y : V) : Prop := ∃ z : Str, y = .str z ∧ z.length ≤ 1000
section
variable {P : Program} {w : World} {K : PySem.W.Frag} {mg : Str → Option Value} {base : Heap} {A : Ad}
theorem ok_UnknownGuest (T : Txt P K mg A) : FnOk P w K mg base CX0 1 A.a_UnknownGuest_init A.d_UnknownGuest_init ["self", "name"] (spX1 A.C_UnknownGuest "name" shortS) := by
  refine sup_ok T.SF_UnknownGuest ss_UnknownGuest_init T.SC_UnknownGuest rfl rfl rfl (fun _ => rfl) (fun _ => rfl) (fun _ => rfl) (fun vs H Q E h => ?_) (fun cda cc A' outer s H vs Q E hr h => ?_)
  · obtain ⟨a, y, rfl, _⟩ := h
    rfl
  · obtain ⟨a, y, rfl, ⟨z, rfl, hz⟩, ha, k⟩ := h
    refine ⟨a, _, _, rfl, ha, (pe_joined (PJ.cons pe_str (PJ.cons (pe_fmt (pv 1)) PJ.nil))), (pss_one (ps_ost (pv 0) (pv 1))), ?_⟩
    refine ⟨_, rfl, by rw [Str.empty_append, lu1]; decide, _, rfl, .inl ⟨z, rfl, Nat.le_trans hz (by decide), _, rfl, ?_, (by decide : 1 ≤ 1000), ha, _, rfl, _, rfl, a, _, rfl, T.SC_UnknownGuest.ox, T.xn_UnknownGuest_name, .inl ⟨ha, fun d hd hne => k d hd hne⟩⟩⟩
    rw [Str.empty_append, Str.length_append, lu1]
    exact Nat.le_trans (Nat.add_le_add_left hz 18) (by decide)
theorem ok_TooMany (T : Txt P K mg A) : FnOk P w K mg base CX0 1 A.a_TooMany_init A.d_TooMany_init ["self", "many"] (spX1 A.C_TooMany "many" smallI) := by
  refine sup_ok T.SF_TooMany ss_TooMany_init T.SC_TooMany rfl rfl rfl (fun _ => rfl) (fun _ => rfl) (fun _ => rfl) (fun vs H Q E h => ?_) (fun cda cc A' outer s H vs Q E hr h => ?_)
  · obtain ⟨a, y, rfl, _⟩ := h
    rfl
  · obtain ⟨a, y, rfl, ⟨i, rfl, hi⟩, ha, k⟩ := h
    have l1 := PyProof.Rows.int_text_len_1921 (small_log hi)
    refine ⟨a, _, _, rfl, ha, (pe_joined (PJ.cons pe_str (PJ.cons (pe_fmt (pv 1)) PJ.nil))), (pss_one (ps_ost (pv 0) (pv 1))), ?_⟩
    refine ⟨_, rfl, by rw [Str.empty_append, lt1]; decide, _, rfl, .inr ⟨i, rfl, small_log hi, _, rfl, ?_, (by decide : 1 ≤ 1000), ha, _, rfl, _, rfl, a, _, rfl, T.SC_TooMany.ox, T.xn_TooMany_many, .inl ⟨ha, fun d hd hne => k d hd hne⟩⟩⟩
    rw [Str.empty_append, Str.length_append, lt1]
    exact Nat.le_trans (Nat.add_le_add_left l1 10) (by decide)
/-- an error with a word and a number -/
def spX2S (C : Addr) (f g : Str) : Sp := fun vs H Q _ => ∃ (a : Addr) (y : Str) (z : Int), vs = [.ref a, .str y, .int z] ∧ y.length ≤ 1000 ∧ z.natAbs < 1000000 ∧ H a = some (exo a C none) ∧ ∀ d, H d = none → d ≠ a → Q .non (upd (upd (upd H d (exd d [(f, .str y)])) a (exo a C (some d))) d (exd d [(g, .int z), (f, .str y)]))
theorem ok_BadMeetings (T : Txt P K mg A) : FnOk P w K mg base CX0 1 A.a_BadMeetings_init A.d_BadMeetings_init ["self", "part", "index"] (spX2S A.C_BadMeetings "part" "index") := by
  refine sup_ok T.SF_BadMeetings ss_BadMeetings_init T.SC_BadMeetings rfl rfl rfl (fun _ => rfl) (fun _ => rfl) (fun _ => rfl) (fun vs H Q E h => ?_) (fun cda cc A' outer s H vs Q E hr h => ?_)
  · obtain ⟨a, y, z, rfl, _⟩ := h
    rfl
  · obtain ⟨a, y, z, rfl, hy, hz, ha, k⟩ := h
    have l2 := PyProof.Rows.int_text_len_1921 (small_log hz)
    refine ⟨a, _, _, rfl, ha, (pe_joined (PJ.cons pe_str (PJ.cons (pe_fmt (pv 1)) (PJ.cons pe_str (PJ.cons (pe_fmt (pv 2)) PJ.nil))))), (pss_cons (ps_ost (pv 0) (pv 1)) (pss_one (ps_ost (pv 0) (pv 2)))), ?_⟩
    have big : (8000 : Nat) ≤ sizeLine := by decide
    refine ⟨_, rfl, by rw [Str.empty_append, lm1]; decide, _, rfl, .inl ⟨y, rfl, Nat.le_trans hy (by decide), _, rfl, ?_, _, rfl, ?_, _, rfl, .inr ⟨z, rfl, small_log hz, _, rfl, ?_, (by decide : 1 ≤ 1000), ha, _, rfl, _, rfl, a, _, rfl, T.SC_BadMeetings.ox, T.xn_BadMeetings_part, .inl ⟨ha, fun d hd hne => ⟨_, rfl, _, rfl, a, _, rfl, T.SC_BadMeetings.ox, T.xn_BadMeetings_index, .inr ⟨d, _, upd_same, by rw [upd_ne hne]; exact upd_same, by show 1 ≤ 900; decide, k d hd hne⟩⟩⟩⟩⟩⟩
    · rw [Str.empty_append, Str.length_append, lm1]; omega
    · rw [Str.empty_append, Str.length_append, Str.length_append, lm1, lm2]; omega
    · rw [Str.empty_append, Str.length_append, Str.length_append, Str.length_append, lm1, lm2]; omega
/-! ### names -/
def spName : Sp := fun vs H Q _ => ∃ z, vs = [.str z] ∧ z.length ≤ 16000000 ∧ ∀ H', Same H H' → Q (.bl (okName z)) H'
theorem ok_name (T : Txt P K mg A) : FnOk P w K mg base CX0 1 A.a_is_name A.d_is_name ["text"] spName := by
  refine T.F_is_name.ok sc_is_name (fun vs H Q E h => ?_) (fun cdv A' outer s H vs Q E hr h => ?_)
  · obtain ⟨z, rfl, _⟩ := h
    rfl
  · obtain ⟨z, rfl, g, k⟩ := h
    refine ⟨_, (pss_one (ps_ret (pe_and (pe_chain op_le op_le pe_int (pe_callB call_len_str (by rfl) T.n_len (by decide +kernel) (pa_cons (pv 0) pa_nil)) (pe_glob (v := .int 8) rfl T.mg_LONGEST_NAME.choose_spec ⟨_, rfl⟩)) (pe_one (pe_callB (cr_all rfl) (by rfl) T.n_all (by decide +kernel) (pa_cons (pe_lc (own := [("sign", 1)]) (g := gName 1) (tt := tYes) rfl sc_is_name.nd (pi_str (pv 0)) (blkOk_by (N := ["text", "sign"]) (sc := defScope s_is_name) (by decide +kernel)) (fun _ _ _ _ _ => (pg_name (i := 1) sc_is_name.nd rfl (Or.inl rfl))) (fun _ _ _ _ _ => pts_nil) (fun _ _ _ _ _ => (pe_chain op_le_str op_le_str pe_str (pv 1) pe_str))) pa_nil)))))), ?_⟩
    have hz : z.length ≤ sizeLine := Nat.le_trans g (by decide)
    refine ⟨_, rfl, z, rfl, hz, _, _, rfl, rfl, _, rfl, ?_⟩
    by_cases h1 : 1 ≤ z.length
    · refine itY (by omega) ⟨_, _, rfl, rfl, _, rfl, ?_⟩
      by_cases h8 : z.length ≤ 8
      · refine itY (by omega) ?_
        refine ⟨_, rfl, z, rfl, fun D hD => lc_it walk_str (PvS H D fun i => (z.cps.toList.take i).map fun c => V.bl (decide (97 ≤ c ∧ c ≤ 122))) (pv0 hD rfl) (fun _ _ _ _ => trivial) ?_ ?_⟩
        · rintro i x H30 H3 hi p ⟨rfl, c, hc, rfl⟩
          have hc' : z.cps.toList[i]? = some c := by rw [Array.getElem?_toList]; exact hc
          have push : ∀ b : Bool, b = decide (97 ≤ c ∧ c ≤ 122) → ∃ acc, H3 D = some (.lst acc) ∧ acc.length < sizeLine ∧ PvS H D (fun i => (z.cps.toList.take i).map fun c => V.bl (decide (97 ≤ c ∧ c ≤ 122))) (i + 1) (upd H3 D (.lst (acc ++ [V.bl b]))) := fun b hb => by
            refine p.push hD ?_ ?_
            · show (z.cps.toList.take (i + 1)).map _ = _
              rw [take_succ hc', List.map_append, hb]; rfl
            · show ((z.cps.toList.take i).map _).length ≤ 1000000
              rw [List.length_map, List.length_take]
              have h2 : z.cps.size = z.length := rfl
              rw [Array.length_toList]; omega
          refine ⟨rfl, ?_⟩
          refine ⟨_, rfl, _, _, rfl, rfl, _, rfl, ?_⟩
          by_cases ha : 97 ≤ c
          · refine ifT (by
              show (!decide ([c] < [97])) = true
              have : ¬ c < 97 := by omega
              simp [List.cons_lt_cons_iff] <;> omega) ⟨_, _, rfl, rfl, push _ ?_⟩
            show (!decide ([122] < [c])) = decide (97 ≤ c ∧ c ≤ 122)
            by_cases hb : c ≤ 122
            · rw [decide_eq_true (⟨ha, hb⟩ : 97 ≤ c ∧ c ≤ 122)]
              simp [List.cons_lt_cons_iff] <;> omega
            · rw [decide_eq_false (fun h : 97 ≤ c ∧ c ≤ 122 => hb h.2)]
              simp [List.cons_lt_cons_iff] <;> omega
          · refine ifF (by
              show (!decide ([c] < [97])) = false
              simp [List.cons_lt_cons_iff] <;> omega) (push _ ?_)
            rw [decide_eq_false (fun h : 97 ≤ c ∧ c ≤ 122 => ha h.1)]
            first | done | (show (!decide ([c] < [97])) = false; simp [List.cons_lt_cons_iff] <;> omega)
        · rintro H3 ⟨sm, h3⟩
          have h3 : H3 D = some (.lst ((z.cps.toList.take z.cps.size).map fun c => V.bl (decide (97 ≤ c ∧ c ≤ 122)))) := h3
          rw [List.take_of_length_le (by rw [Array.length_toList]; exact Nat.le_refl _)] at h3
          refine ⟨D, z.cps.toList.map fun c => decide (97 ≤ c ∧ c ≤ 122), rfl, SqL.of (by rw [List.map_map]; exact h3), ?_⟩
          have e : (z.cps.toList.map fun c => decide (97 ≤ c ∧ c ≤ 122)).all id = okName z := by
            unfold okName
            rw [decide_eq_true h1, decide_eq_true h8, List.all_map]; rfl
          rw [e]
          exact k H3 sm
      · refine itN (by omega) ?_
        have e : okName z = false := by unfold okName; rw [decide_eq_false h8]; simp
        rw [e] at k
        exact k H (Same.refl _)
    · refine itN (by omega) ?_
      have e : okName z = false := by unfold okName; rw [decide_eq_false h1]; rfl
      rw [e] at k
      exact ⟨_, rfl, iteF (k H (Same.refl _))⟩
def spFirstBad (sq : Hp → Addr → List V → Prop) : Sp := fun vs H Q _ => ∃ l ns, vs = [.ref l] ∧ sq H l (sv ns) ∧ (∀ z ∈ ns, z.length ≤ 16000000) ∧ ∀ H', Same H H' → Q (optV (firstBad ns)) H'
theorem ok_firstBad (T : Txt P K mg A) : FnOk P w K mg base CX0 2 A.a_first_bad_name A.d_first_bad_name ["names"] (spFirstBad (SqL K)) := by
  have G_is_name := ok_name (P := P) (w := w) (base := base) T
  refine T.F_first_bad_name.ok sc_first_bad_name (fun vs H Q E h => ?_) (fun cdv A' outer s H vs Q E hr h => ?_)
  · obtain ⟨l, ns, rfl, _⟩ := h
    rfl
  · obtain ⟨l, ns, rfl, hS, g, k⟩ := h
    refine ⟨_, (pss_cons (ps_for PassesOwn.never rfl (pi_enum (by rfl) T.n_enumerate (pa_cons (pv 0) pa_nil)) (pg_tup (by rfl) (pgs_cons (pg_name (i := 1) sc_first_bad_name.nd rfl (Or.inl rfl)) (pgs_cons (pg_name (i := 2) sc_first_bad_name.nd rfl (Or.inl rfl)) pgs_nil)))
        (pss_one (ps_if (PW.pt (pw_or (pt_not (pt_val (pe_call G_is_name (hr.mono (by decide)) rfl T.mg_is_name T.F_is_name.kp T.b_is_name .nil pass0 (pa_cons (pv 2) pa_nil)))) (pw_or1 (pt_cmpR op_in_seq (pv 2) (pe_slice sl_list (pv 0) po_none (po_some (pv 1))) (by with_unfolding_all rfl))))) (pss_one (ps_ret (pv 1))) pss_nil)))
      (pss_one (ps_ret pe_non))), ?_⟩
    refine ⟨_, rfl, l, _, rfl, hS, for_it walk_enum (fun i σ H2 => Same H H2 ∧ (∀ j, j < i → badName ns j = false) ∧ ∃ u1 u2 : Option V, σ = [some (.ref l), u1, u2]) ⟨Same.refl _, fun j hj => absurd hj (Nat.not_lt_zero _), none, none, rfl⟩ (fun i σ H2 _ p => p.1.seq hS) ?_ ?_⟩
    · rintro i x σ H2 H3 hi ⟨sm, hb, u1, u2, rfl⟩ ⟨t, _, _, rfl, ht, rfl, ⟨⟩, hx⟩
      obtain ⟨z, hz, rfl⟩ := sv_get hx
      have hil : i < ns.length := by rw [len_sv] at hi; exact hi
      have bad : badName ns i = (!okName z || decide (z ∈ ns.take i)) := by unfold badName; rw [hz]
      refine ⟨t, _, rfl, SqT.of upd_same, rfl, _, _, rfl, _, _, rfl, rfl, ?_⟩
      refine ⟨_, rfl, z, rfl, g z (List.mem_of_getElem? hz), fun H4 sm4 => ⟨_, rfl, ?_⟩⟩
      have s4 : Same H H4 := sm.trans ((same_new ht).trans sm4)
      cases ok : okName z with
      | false =>
        refine ifT rfl (ifT rfl ⟨_, rfl, ?_⟩)
        have e := firstBad_some hil (by rw [bad, ok]; rfl) hb
        rw [e] at k
        exact k _ s4
      | true =>
        refine ifF rfl ⟨_, rfl, _, rfl, _, rfl, _, rfl, l, _, rfl, s4.seq hS, fun p hp => ⟨p, _, rfl, .inl (SqL.of upd_same), rfl, by rw [cut_take (by omega), sv_take]; exact flat_sv _, _, rfl, ?_⟩⟩
        rw [if_neg Bool.false_ne_true, cut_take (by omega), sv_take, inV_str]
        have s5 := s4.trans (same_new (o := .lst (cutV (sv ns) none (some ((i : Nat) : Int)))) hp)
        rw [cut_take (by omega), sv_take] at s5
        by_cases hp2 : z ∈ ns.take i
        · refine ifT (decide_eq_true hp2) ⟨_, rfl, ?_⟩
          have e := firstBad_some hil (by rw [bad, decide_eq_true hp2, Bool.or_true]) hb
          rw [e] at k
          exact k _ s5
        · refine ifF (decide_eq_false hp2) ⟨s5, fun j hj => ?_, _, _, rfl⟩
          rcases Nat.lt_succ_iff_lt_or_eq.mp hj with q | q
          · exact hb j q
          · rw [q, bad, ok, decide_eq_false hp2]; rfl
    · rintro σ H2 ⟨sm, hb, u1, u2, rfl⟩
      have e := firstBad_none (ns := ns) fun j hj => hb j (by rw [len_sv]; exact hj)
      rw [e] at k
      exact k H2 sm
theorem ok_firstBadT (T : Txt P K mg A) : FnOk P w K mg base CX0 2 A.a_first_bad_name A.d_first_bad_name ["names"] (spFirstBad (SqT K)) := by
  have G_is_name := ok_name (P := P) (w := w) (base := base) T
  refine T.F_first_bad_name.ok sc_first_bad_name (fun vs H Q E h => ?_) (fun cdv A' outer s H vs Q E hr h => ?_)
  · obtain ⟨l, ns, rfl, _⟩ := h
    rfl
  · obtain ⟨l, ns, rfl, hS, g, k⟩ := h
    refine ⟨_, (pss_cons (ps_for PassesOwn.never rfl (pi_enumT (by rfl) T.n_enumerate (pa_cons (pv 0) pa_nil)) (pg_tup (by rfl) (pgs_cons (pg_name (i := 1) sc_first_bad_name.nd rfl (Or.inl rfl)) (pgs_cons (pg_name (i := 2) sc_first_bad_name.nd rfl (Or.inl rfl)) pgs_nil)))
        (pss_one (ps_if (PW.pt (pw_or (pt_not (pt_val (pe_call G_is_name (hr.mono (by decide)) rfl T.mg_is_name T.F_is_name.kp T.b_is_name .nil pass0 (pa_cons (pv 2) pa_nil)))) (pw_or1 (pt_cmpR op_in_seq (pv 2) (pe_slice sl_tupA (pv 0) po_none (po_some (pv 1))) (by with_unfolding_all rfl))))) (pss_one (ps_ret (pv 1))) pss_nil)))
      (pss_one (ps_ret pe_non))), ?_⟩
    refine ⟨_, rfl, l, _, rfl, hS, for_it walk_enumT (fun i σ H2 => Same H H2 ∧ (∀ j, j < i → badName ns j = false) ∧ ∃ u1 u2 : Option V, σ = [some (.ref l), u1, u2]) ⟨Same.refl _, fun j hj => absurd hj (Nat.not_lt_zero _), none, none, rfl⟩ (fun i σ H2 _ p => p.1.tup hS) ?_ ?_⟩
    · rintro i x σ H2 H3 hi ⟨sm, hb, u1, u2, rfl⟩ ⟨t, _, _, rfl, ht, rfl, ⟨⟩, hx⟩
      obtain ⟨z, hz, rfl⟩ := sv_get hx
      have hil : i < ns.length := by rw [len_sv] at hi; exact hi
      have bad : badName ns i = (!okName z || decide (z ∈ ns.take i)) := by unfold badName; rw [hz]
      refine ⟨t, _, rfl, SqT.of upd_same, rfl, _, _, rfl, _, _, rfl, rfl, ?_⟩
      refine ⟨_, rfl, z, rfl, g z (List.mem_of_getElem? hz), fun H4 sm4 => ⟨_, rfl, ?_⟩⟩
      have s4 : Same H H4 := sm.trans ((same_new ht).trans sm4)
      cases ok : okName z with
      | false =>
        refine ifT rfl (ifT rfl ⟨_, rfl, ?_⟩)
        have e := firstBad_some hil (by rw [bad, ok]; rfl) hb
        rw [e] at k
        exact k _ s4
      | true =>
        refine ifF rfl ⟨_, rfl, _, rfl, _, rfl, _, rfl, l, _, rfl, s4.tup hS, fun z => absurd z.2 (by rw [HT.sIx_nat, len_sv]; omega), fun _ p hp => ⟨p, _, rfl, .inr (SqT.of upd_same), rfl, by rw [cut_take (by omega), sv_take]; exact flat_sv _, _, rfl, ?_⟩⟩
        rw [if_neg Bool.false_ne_true, cut_take (by omega), sv_take, inV_str]
        have s5 := s4.trans (same_new (o := .tup (cutV (sv ns) none (some ((i : Nat) : Int)))) hp)
        rw [cut_take (by omega), sv_take] at s5
        by_cases hp2 : z ∈ ns.take i
        · refine ifT (decide_eq_true hp2) ⟨_, rfl, ?_⟩
          have e := firstBad_some hil (by rw [bad, decide_eq_true hp2, Bool.or_true]) hb
          rw [e] at k
          exact k _ s5
        · refine ifF (decide_eq_false hp2) ⟨s5, fun j hj => ?_, _, _, rfl⟩
          rcases Nat.lt_succ_iff_lt_or_eq.mp hj with q | q
          · exact hb j q
          · rw [q, bad, ok, decide_eq_false hp2]; rfl
    · rintro σ H2 ⟨sm, hb, u1, u2, rfl⟩
      have e := firstBad_none (ns := ns) fun j hj => hb j (by rw [len_sv]; exact hj)
      rw [e] at k
      exact k H2 sm
theorem ok_firstBadO (T : Txt P K mg A) : FnOk P w K mg base CX0 2 A.a_first_bad_name A.d_first_bad_name ["names"] (spFirstBad (SqA K)) :=
  (fnok_or (ok_firstBad T) (ok_firstBadT T)).imp fun vs H Q E ⟨l, ns, e, hs, r⟩ => hs.elim (fun h => .inl ⟨l, ns, e, h, r⟩) (fun h => .inr ⟨l, ns, e, h, r⟩)
def spStray (sq1 sq2 : Hp → Addr → List V → Prop) : Sp := fun vs H Q _ => ∃ c l cs ns, vs = [.ref c, .ref l] ∧ sq1 H c (sv cs) ∧ sq2 H l (sv ns) ∧ ns.length ≤ 1000 ∧ ∀ H', Same H H' → Q (optV (stray cs ns)) H'
theorem ok_stray (T : Txt P K mg A) : FnOk P w K mg base CX0 1 A.a_first_stray A.d_first_stray ["columns", "names"] (spStray (SqA K) (SqL K)) := by
  refine T.F_first_stray.ok sc_first_stray (fun vs H Q E h => ?_) (fun cdv A' outer s H vs Q E hr h => ?_)
  · obtain ⟨c, l, cs, ns, rfl, _⟩ := h
    rfl
  · obtain ⟨c, l, cs, ns, rfl, h1, h2, hl, k⟩ := h
    refine ⟨_, (pss_cons (ps_for PassesOwn.never rfl (pi_enum (by rfl) T.n_enumerate (pa_cons (pv 1) pa_nil)) (pg_tup (by rfl) (pgs_cons (pg_name (i := 2) sc_first_stray.nd rfl (Or.inl rfl)) (pgs_cons (pg_name (i := 3) sc_first_stray.nd rfl (Or.inl rfl)) pgs_nil)))
        (pss_one (ps_if (PW.pt (pw_or (pt_cmpR op_notIn_seq (pv 3) (pv 0) (by with_unfolding_all rfl)) (pw_or1 (pt_cmpR op_in_seq (pv 3) (pe_slice sl_list (pv 1) po_none (po_some (pv 2))) (by with_unfolding_all rfl))))) (pss_one (ps_ret (pv 2))) pss_nil)))
      (pss_one (ps_ret pe_non))), ?_⟩
    refine ⟨_, rfl, l, _, rfl, h2, for_it walk_enum (fun i σ H2 => Same H H2 ∧ (∀ j, j < i → badAt cs ns j = false) ∧ ∃ u1 u2 : Option V, σ = [some (.ref c), some (.ref l), u1, u2]) ⟨Same.refl _, fun j hj => absurd hj (Nat.not_lt_zero _), none, none, rfl⟩ (fun i σ H2 _ p => p.1.seq h2) ?_ ?_⟩
    · rintro i x σ H2 H3 hi ⟨sm, hb, u1, u2, rfl⟩ ⟨t, _, _, rfl, ht, rfl, ⟨⟩, hx⟩
      obtain ⟨z, hz, rfl⟩ := sv_get hx
      have hil : i < ns.length := by rw [len_sv] at hi; exact hi
      have bad : badAt cs ns i = (!decide (z ∈ cs) || decide (z ∈ ns.take i)) := by unfold badAt; rw [hz]
      refine ⟨t, _, rfl, SqT.of upd_same, rfl, _, _, rfl, _, _, rfl, rfl, ?_⟩
      have s3 : Same H (upd H2 t (.tup [.int (i : Nat), .str z])) := sm.trans (same_new ht)
      refine ⟨_, rfl, _, rfl, c, _, rfl, s3.sqa h1, rfl, flat_sv _, _, rfl, ?_⟩
      rw [if_pos (rfl : true = true), inV_str]
      by_cases hc : z ∈ cs
      · refine ifF (by rw [decide_eq_true hc]; rfl) ?_
        refine ⟨_, rfl, _, rfl, _, rfl, _, rfl, l, _, rfl, s3.seq h2, fun p hp => ⟨p, _, rfl, .inl (SqL.of upd_same), rfl, by rw [cut_take (by omega), sv_take]; exact flat_sv _, _, rfl, ?_⟩⟩
        rw [if_neg Bool.false_ne_true, cut_take (by omega), sv_take, inV_str]
        have s4 := s3.trans (same_new (o := .lst (cutV (sv ns) none (some ((i : Nat) : Int)))) hp)
        rw [cut_take (by omega), sv_take] at s4
        by_cases hp2 : z ∈ ns.take i
        · refine ifT (decide_eq_true hp2) ⟨_, rfl, ?_⟩
          have e := stray_some (cs := cs) hil (by rw [bad, decide_eq_true hp2, Bool.or_true]) hb
          rw [e] at k
          exact k _ s4
        · refine ifF (decide_eq_false hp2) ⟨s4, fun j hj => ?_, _, _, rfl⟩
          rcases Nat.lt_succ_iff_lt_or_eq.mp hj with q | q
          · exact hb j q
          · rw [q, bad, decide_eq_true hc, decide_eq_false hp2]; rfl
      · refine ifT (by rw [decide_eq_false hc]; rfl) (ifT rfl ⟨_, rfl, ?_⟩)
        have e := stray_some (cs := cs) hil (by rw [bad, decide_eq_false hc]; rfl) hb
        rw [e] at k
        exact k _ s3
    · rintro σ H2 ⟨sm, hb, u1, u2, rfl⟩
      have e := stray_none (cs := cs) (ns := ns) fun j hj => hb j (by rw [len_sv]; exact hj)
      rw [e] at k
      exact k H2 sm
theorem ok_strayT (T : Txt P K mg A) : FnOk P w K mg base CX0 1 A.a_first_stray A.d_first_stray ["columns", "names"] (spStray (SqA K) (SqT K)) := by
  refine T.F_first_stray.ok sc_first_stray (fun vs H Q E h => ?_) (fun cdv A' outer s H vs Q E hr h => ?_)
  · obtain ⟨c, l, cs, ns, rfl, _⟩ := h
    rfl
  · obtain ⟨c, l, cs, ns, rfl, h1, h2, hl, k⟩ := h
    refine ⟨_, (pss_cons (ps_for PassesOwn.never rfl (pi_enumT (by rfl) T.n_enumerate (pa_cons (pv 1) pa_nil)) (pg_tup (by rfl) (pgs_cons (pg_name (i := 2) sc_first_stray.nd rfl (Or.inl rfl)) (pgs_cons (pg_name (i := 3) sc_first_stray.nd rfl (Or.inl rfl)) pgs_nil)))
        (pss_one (ps_if (PW.pt (pw_or (pt_cmpR op_notIn_seq (pv 3) (pv 0) (by with_unfolding_all rfl)) (pw_or1 (pt_cmpR op_in_seq (pv 3) (pe_slice sl_tupA (pv 1) po_none (po_some (pv 2))) (by with_unfolding_all rfl))))) (pss_one (ps_ret (pv 2))) pss_nil)))
      (pss_one (ps_ret pe_non))), ?_⟩
    refine ⟨_, rfl, l, _, rfl, h2, for_it walk_enumT (fun i σ H2 => Same H H2 ∧ (∀ j, j < i → badAt cs ns j = false) ∧ ∃ u1 u2 : Option V, σ = [some (.ref c), some (.ref l), u1, u2]) ⟨Same.refl _, fun j hj => absurd hj (Nat.not_lt_zero _), none, none, rfl⟩ (fun i σ H2 _ p => p.1.tup h2) ?_ ?_⟩
    · rintro i x σ H2 H3 hi ⟨sm, hb, u1, u2, rfl⟩ ⟨t, _, _, rfl, ht, rfl, ⟨⟩, hx⟩
      obtain ⟨z, hz, rfl⟩ := sv_get hx
      have hil : i < ns.length := by rw [len_sv] at hi; exact hi
      have bad : badAt cs ns i = (!decide (z ∈ cs) || decide (z ∈ ns.take i)) := by unfold badAt; rw [hz]
      refine ⟨t, _, rfl, SqT.of upd_same, rfl, _, _, rfl, _, _, rfl, rfl, ?_⟩
      have s3 : Same H (upd H2 t (.tup [.int (i : Nat), .str z])) := sm.trans (same_new ht)
      refine ⟨_, rfl, _, rfl, c, _, rfl, s3.sqa h1, rfl, flat_sv _, _, rfl, ?_⟩
      rw [if_pos (rfl : true = true), inV_str]
      by_cases hc : z ∈ cs
      · refine ifF (by rw [decide_eq_true hc]; rfl) ?_
        refine ⟨_, rfl, _, rfl, _, rfl, _, rfl, l, _, rfl, s3.tup h2, fun z => absurd z.2 (by rw [HT.sIx_nat, len_sv]; omega), fun _ p hp => ⟨p, _, rfl, .inr (SqT.of upd_same), rfl, by rw [cut_take (by omega), sv_take]; exact flat_sv _, _, rfl, ?_⟩⟩
        rw [if_neg Bool.false_ne_true, cut_take (by omega), sv_take, inV_str]
        have s4 := s3.trans (same_new (o := .tup (cutV (sv ns) none (some ((i : Nat) : Int)))) hp)
        rw [cut_take (by omega), sv_take] at s4
        by_cases hp2 : z ∈ ns.take i
        · refine ifT (decide_eq_true hp2) ⟨_, rfl, ?_⟩
          have e := stray_some (cs := cs) hil (by rw [bad, decide_eq_true hp2, Bool.or_true]) hb
          rw [e] at k
          exact k _ s4
        · refine ifF (decide_eq_false hp2) ⟨s4, fun j hj => ?_, _, _, rfl⟩
          rcases Nat.lt_succ_iff_lt_or_eq.mp hj with q | q
          · exact hb j q
          · rw [q, bad, decide_eq_true hc, decide_eq_false hp2]; rfl
      · refine ifT (by rw [decide_eq_false hc]; rfl) (ifT rfl ⟨_, rfl, ?_⟩)
        have e := stray_some (cs := cs) hil (by rw [bad, decide_eq_false hc]; rfl) hb
        rw [e] at k
        exact k _ s3
    · rintro σ H2 ⟨sm, hb, u1, u2, rfl⟩
      have e := stray_none (cs := cs) (ns := ns) fun j hj => hb j (by rw [len_sv]; exact hj)
      rw [e] at k
      exact k H2 sm
theorem ok_strayA (T : Txt P K mg A) : FnOk P w K mg base CX0 1 A.a_first_stray A.d_first_stray ["columns", "names"] (spStray (SqA K) (SqA K)) :=
  (fnok_or (ok_stray T) (ok_strayT T)).imp fun vs H Q E ⟨c, l, cs, ns, e, h1, h2, r⟩ => h2.elim (fun h => .inl ⟨c, l, cs, ns, e, h1, h, r⟩) (fun h => .inr ⟨c, l, cs, ns, e, h1, h, r⟩)
end
end My
set_option maxRecDepth 100000
set_option maxHeartbeats 4000000
set_option exponentiation.threshold 10000
namespace My
open PySem L2
/-- at ts stand the lists or tuples of texts rs -/
structure LsA (K : PySem.W.Frag) (H : Hp) (ts : List Addr) (rs : List (List Str)) : Prop where
  len : ts.length = rs.length
  at_ : ∀ (i : Nat) (t : Addr) (r : List Str), ts[i]? = some t → rs[i]? = some r → SqA K H t (sv r)
theorem LsA.same {K : PySem.W.Frag} {H H' : Hp} {ts : List Addr} {rs : List (List Str)} (h : LsA K H ts rs) (e : Same H H') : LsA K H' ts rs := ⟨h.len, fun i t x a b => e.sqa (h.at_ i t x a b)⟩
theorem LsA.get {K : PySem.W.Frag} {H : Hp} {ts : List Addr} {rs : List (List Str)} (h : LsA K H ts rs) {i : Nat} {t : Addr} (hi : ts[i]? = some t) : ∃ r, rs[i]? = some r ∧ SqA K H t (sv r) := by
  have hx : i < rs.length := by rw [← h.len]; exact (List.getElem?_eq_some_iff.mp hi).1
  exact ⟨rs[i], List.getElem?_eq_getElem hx, h.at_ i _ _ hi (List.getElem?_eq_getElem hx)⟩
theorem Lss.lsa {K : PySem.W.Frag} {H : Hp} {ts : List Addr} {rs : List (List Str)} (h : Lss .lst H ts rs) : LsA K H ts rs := ⟨h.len, fun i t r a b => .inl (SqL.of (h.at_ i t r a b))⟩
theorem Lss.lsaT {K : PySem.W.Frag} {H : Hp} {ts : List Addr} {rs : List (List Str)} (h : Lss .tup H ts rs) : LsA K H ts rs := ⟨h.len, fun i t r a b => .inr (SqT.of (h.at_ i t r a b))⟩
theorem sqa_upd {K : PySem.W.Frag} {H : Hp} {a b C dx : Addr} {xs : List V} {f g : List (Str × V)} (h : SqA K H a xs) (hb : H b = some (.ins C dx f)) : SqA K (upd H b (.ins C dx g)) a xs := by
  rcases h with h | h
  · exact .inl (seq_upd h hb (fun ys z => nomatch z) (fun c d z => nomatch z))
  · refine .inr ?_
    rcases h with (r | ⟨c, r⟩) | z
    · exact .inl (.inl (by rw [upd_ne (ne_of r hb (fun z => nomatch z))]; exact r))
    · exact .inl (.inr ⟨c, by rw [upd_ne (ne_of r hb (fun z => nomatch z))]; exact r⟩)
    · exact .inr z
section
variable {P : Program} {w : World} {K : PySem.W.Frag} {mg : Str → Option Value} {base : Heap} {A : Ad}
theorem Txt.bi (T : Txt P K mg A) : Binds K A.d_Table_init ["self", "columns", "rows"] [] := by
  obtain ⟨ds, hv, hb⟩ := T.F_Table_init.binds1 (ps := ["self", "columns", "rows"]) 3 1 (by simp) rfl (fun T kV dc pm an cd ct us its hl hi => by
    match us, hl, its, hi with
    | [_, _, _], _, [_], _ => exact ⟨_, rfl, rfl⟩)
  cases hv
  exact hb
def spCols (K : PySem.W.Frag) : Sp := fun vs H Q _ => ∃ l cs, vs = [.ref l] ∧ SqA K H l (sv cs) ∧ (∀ z ∈ cs, Good z) ∧ cs.Nodup ∧ cs.length ≤ 12 ∧ ∀ H', Same H H' → Q .non H'
theorem ok_cols (T : Txt P K mg A) : FnOk P w K mg base CX0 3 A.a_check_columns A.d_check_columns ["columns"] (spCols K) := by
  have G_first_bad_name := ok_firstBadO (P := P) (w := w) (base := base) T
  refine T.F_check_columns.ok sc_check_columns (fun vs H Q E h => ?_) (fun cdv A' outer s H vs Q E hr h => ?_)
  · obtain ⟨l, cs, rfl, _⟩ := h
    rfl
  · obtain ⟨l, cs, rfl, h1, g, nd, hl, k⟩ := h
    refine ⟨_, (pss_cons (ps_if (pt_cmpR op_gt (pe_callB call_len_seq (by rfl) T.n_len (by decide +kernel) (pa_cons (pv 0) pa_nil)) (ClX.pe_cval (pe_glob (v := .ref A.C_Table) rfl T.mg_Table rfl)) (nomark _)) (pss_one ps_never) pss_nil)
      (pss_cons (ps_set (i := 1) sc_check_columns.nd rfl (Or.inl rfl) (pe_call G_first_bad_name (hr.mono (by decide)) rfl T.mg_first_bad_name T.F_first_bad_name.kp T.b_first_bad_name .nil pass0 (pa_cons (pv 0) pa_nil)))
      (pss_one (ps_if (pt_cmpR op_notN (pv 1) pe_non (nomark _)) (pss_one ps_never) pss_nil)))), ?_⟩
    obtain ⟨u, hu⟩ := T.cv_Table_MOST_COLUMNS
    refine ⟨_, rfl, l, _, rfl, h1, _, _, _, _, rfl, T.cr_Table, hu, _, _, rfl, rfl, _, rfl, itN (by rw [len_sv]; omega) ?_⟩
    exact ⟨_, rfl, l, cs, rfl, h1, (fun z hz => Nat.le_trans (g z hz).le (by decide)), fun H2 sm => by
      rw [firstBad_none_iff.mpr ⟨g, nd⟩]
      exact ⟨_, rfl, rfl, _, rfl, itNe rfl (k _ sm)⟩⟩
def spChRows (K : PySem.W.Frag) : Sp := fun vs H Q _ => ∃ l r cs ts rs, vs = [.ref l, .ref r] ∧ SqA K H l (sv cs) ∧ SqL K H r (ts.map V.ref) ∧ LsA K H ts rs ∧ rs.length ≤ 48 ∧ (∀ x ∈ rs, stray cs x = none ∧ x.length ≤ 1000) ∧ ∀ H', Same H H' → Q .non H'
theorem ok_chRows (T : Txt P K mg A) : FnOk P w K mg base CX0 2 A.a_check_rows A.d_check_rows ["columns", "rows"] (spChRows K) := by
  have G_first_stray := ok_strayA (P := P) (w := w) (base := base) T
  refine T.F_check_rows.ok sc_check_rows (fun vs H Q E h => ?_) (fun cdv A' outer s H vs Q E hr h => ?_)
  · obtain ⟨l, r, cs, ts, rs, rfl, _⟩ := h
    rfl
  · obtain ⟨l, r, cs, ts, rs, rfl, h1, h2, hs, hl, hg, k⟩ := h
    refine ⟨_, (pss_cons (ps_if (pt_cmpR op_gt (pe_callB call_len_seq (by rfl) T.n_len (by decide +kernel) (pa_cons (pv 1) pa_nil)) (ClX.pe_cval (pe_glob (v := .ref A.C_Table) rfl T.mg_Table rfl)) (nomark _)) (pss_one ps_never) pss_nil)
      (pss_one (ps_for PassesOwn.never rfl (pi_enum (by rfl) T.n_enumerate (pa_cons (pv 1) pa_nil)) (pg_tup (by rfl) (pgs_cons (pg_name (i := 2) sc_check_rows.nd rfl (Or.inl rfl)) (pgs_cons (pg_name (i := 3) sc_check_rows.nd rfl (Or.inl rfl)) pgs_nil)))
        (pss_one (ps_if (pt_cmpR op_notN (pe_call G_first_stray (hr.mono (by decide)) rfl T.mg_first_stray T.F_first_stray.kp T.b_first_stray .nil pass0 (pa_cons (pv 0) (pa_cons (pv 3) pa_nil))) pe_non (nomark _)) (pss_one ps_never) pss_nil))))), ?_⟩
    obtain ⟨u, hu⟩ := T.cv_Table_MOST_ROWS
    refine ⟨_, rfl, r, _, rfl, .inl h2, _, _, _, _, rfl, T.cr_Table, hu, _, _, rfl, rfl, _, rfl, itN (by rw [List.length_map, hs.len]; omega) ?_⟩
    refine ⟨_, rfl, r, _, rfl, h2, for_it walk_enum (fun i σ H2 => Same H H2 ∧ ∃ u1 u2 : Option V, σ = [some (.ref l), some (.ref r), u1, u2]) ⟨Same.refl _, none, none, rfl⟩ (fun i σ H2 _ p => p.1.seq h2) ?_ ?_⟩
    · rintro i x σ H2 H3 hi ⟨sm, u1, u2, rfl⟩ ⟨t, _, _, rfl, ht, rfl, ⟨⟩, hx⟩
      obtain ⟨b, hb, rfl⟩ := refs_get hx
      obtain ⟨y, hy, ho⟩ := hs.get hb
      have g := hg y (List.mem_of_getElem? hy)
      have s3 : Same H (upd H2 t (.tup [.int (i : Nat), .ref b])) := sm.trans (same_new ht)
      refine ⟨t, _, rfl, SqT.of upd_same, rfl, _, _, rfl, _, _, rfl, rfl, ?_⟩
      refine ⟨_, rfl, _, rfl, l, b, cs, y, rfl, s3.sqa h1, s3.sqa ho, g.2, fun H4 sm4 => ?_⟩
      rw [g.1]
      exact ⟨rfl, _, rfl, itNe rfl ⟨s3.trans sm4, _, _, rfl⟩⟩
    · rintro σ H2 ⟨sm, u1, u2, rfl⟩
      exact k H2 sm
def spInOrder (C : Addr) (K : PySem.W.Frag) : Sp := fun vs H Q _ => ∃ p l dx ct cs r fs, vs = [.ref p, .ref l] ∧ H p = some (.ins C dx fs) ∧ fs.lookup ("columns" : Str) = some (.ref ct) ∧ H ct = some (.tup (sv cs)) ∧ SqA K H l (sv r) ∧ cs.length ≤ 1000 ∧
  ∀ t H', Same H H' → H' t = some (.tup (sv (canon cs r))) → Q (.ref t) H'
theorem ok_inOrder (T : Txt P K mg A) : FnOk P w K mg base CX0 1 A.a_Table_in_order A.d_Table_in_order ["self", "names"] (spInOrder A.C_Table K) := by
  refine T.F_Table_in_order.ok sc_Table_in_order (fun vs H Q E h => ?_) (fun cdv A' outer s H vs Q E hr h => ?_)
  · obtain ⟨p, l, dx, ct, cs, r, fs, rfl, _⟩ := h
    rfl
  · obtain ⟨p, l, dx, ct, cs, r, fs, rfl, h1, hct, hc, h2, hl, k⟩ := h
    refine ⟨_, (pss_one (ps_ret (pe_callTy (show CallR _ _ (rTupOf K) from call_tuple_of) (by rfl) T.n_tuple (by decide +kernel) (pa_cons (pe_lc (own := [("name", 2)]) (g := gName 2) (tt := _) rfl sc_Table_in_order.nd (pi_tup (pe_fld (pv 0) rfl)) (blkOk_by (N := ["self", "names", "name"]) (sc := defScope s_Table_in_order) (by decide +kernel)) (fun _ _ _ _ _ => (pg_name (i := 2) sc_Table_in_order.nd rfl (Or.inl rfl))) (fun _ _ _ _ _ => (pts_one (pt_cmpR (show OpR _ _ (rIn K false) from op_in_seq) (pv 2) (pv 1) (by with_unfolding_all rfl)))) (fun _ _ _ _ _ => (pv 2))) pa_nil)))), ?_⟩
    have stepT : ∀ i z, cs[i]? = some z → z ∈ r → sv (canon (cs.take (i + 1)) r) = sv (canon (cs.take i) r) ++ [V.str z] := fun i z hz hm => by
      rw [take_succ hz, canon_T hm]; exact List.map_append
    have stepF : ∀ i z, cs[i]? = some z → z ∉ r → sv (canon (cs.take (i + 1)) r) = sv (canon (cs.take i) r) := fun i z hz hm => by
      rw [take_succ hz, canon_F hm]
    refine ⟨_, rfl, p, _, dx, fs, _, rfl, h1, T.cl_Table, T.n_Table_columns, hct, ct, rfl, ⟨_, SqT.of hc⟩, fun D hD => lc_it walk_tup (PvS H D fun i => sv (canon (cs.take i) r)) (pv0 hD rfl) (fun i H2 _ q => q.1.tup (SqT.of hc)) ?_ ?_⟩
    · rintro i x H3 H4 hi q ⟨rfl, hx⟩
      obtain ⟨z, hz, rfl⟩ := sv_get hx
      refine ⟨rfl, _, rfl, _, rfl, l, _, rfl, q.1.sqa h2, rfl, flat_sv _, _, rfl, ?_⟩
      rw [if_neg Bool.false_ne_true, inV_str]
      have hlen : (sv (canon (cs.take i) r)).length ≤ 1000000 := by
        have := List.length_filter_le (fun x => decide (x ∈ r)) (cs.take i)
        rw [List.length_take] at this
        rw [len_sv]; unfold canon; omega
      by_cases hm : z ∈ r
      · exact ifT (decide_eq_true hm) ⟨_, rfl, q.push hD (stepT i z hz hm) hlen⟩
      · exact ifF (decide_eq_false hm) (q.skip (stepF i z hz hm))
    · rintro H3 ⟨sm, h3⟩
      have h3 : H3 D = some (.lst (sv (canon (cs.take (sv cs).length) r))) := h3
      rw [len_sv, List.take_length] at h3
      exact ⟨D, _, rfl, .inl ⟨SqL.of h3, fun t ht => k t _ (sm.trans (same_new ht)) upd_same⟩⟩
def spTable (C : Addr) (K : PySem.W.Frag) : Sp := fun vs H Q _ => ∃ p l r dx cs ts rs, vs = [.ref p, .ref l, .ref r] ∧ H p = some (.ins C dx []) ∧ (SqL K H l (sv cs) ∨ H l = some (.tup (sv cs))) ∧ SqL K H r (ts.map V.ref) ∧ LsA K H ts rs ∧
  (∀ z ∈ cs, Good z) ∧ cs.Nodup ∧ cs.length ≤ 12 ∧ rs.length ≤ 48 ∧ (∀ x ∈ rs, stray cs x = none ∧ x.length ≤ 1000) ∧ ∀ H', (∀ b o, b ≠ p → H b = some o → H' b = some o) → Tb C H' p cs rs → Q .non H'
theorem ok_table (T : Txt P K mg A) : FnOk P w K mg base CX0 4 A.a_Table_init A.d_Table_init ["self", "columns", "rows"] (spTable A.C_Table K) := by
  have G_check_columns := ok_cols (P := P) (w := w) (base := base) T
  have G_check_rows := ok_chRows (P := P) (w := w) (base := base) T
  have G_Table_in_order := ok_inOrder (P := P) (w := w) (base := base) T
  refine T.F_Table_init.ok sc_Table_init (fun vs H Q E h => ?_) (fun cdv A' outer s H vs Q E hr h => ?_)
  · obtain ⟨p, l, r, dx, cs, ts, rs, rfl, _⟩ := h
    rfl
  · obtain ⟨p, l, r, dx, cs, ts, rs, rfl, hp, h1, h2, hs, g, nd, hc, hrs, hst, k⟩ := h
    refine ⟨_, (pss_cons (ps_expr (pe_call G_check_columns (hr.mono (by decide)) rfl T.mg_check_columns T.F_check_columns.kp T.b_check_columns .nil pass0 (pa_cons (pv 1) pa_nil)))
      (pss_cons (ps_expr (pe_call G_check_rows (hr.mono (by decide)) rfl T.mg_check_rows T.F_check_rows.kp T.b_check_rows .nil pass0 (pa_cons (pv 1) (pa_cons (pv 2) pa_nil))))
      (pss_cons (ps_fld (pv 0) (pe_callTy (show CallR _ _ (rTupOf K) from call_tuple_of) (by rfl) T.n_tuple (by decide +kernel) (pa_cons (pv 1) pa_nil)) rfl)
      (pss_one (ps_fld (pv 0) (pe_callTy (show CallR _ _ (rTupOf K) from call_tuple_of) (by rfl) T.n_tuple (by decide +kernel) (pa_cons (pe_lc (own := [("row", 3)]) (g := gName 3) (tt := tYes) rfl sc_Table_init.nd (pi_list (pv 2)) (blkOk_by (N := ["self", "columns", "rows", "row"]) (sc := defScope s_Table_init) (by decide +kernel)) (fun _ _ _ _ _ => (pg_name (i := 3) sc_Table_init.nd rfl (Or.inl rfl))) (fun _ _ _ _ _ => pts_nil) (fun _ _ _ _ _ => (pe_meth (pv 0) T.cl_Table T.m_Table_in_order G_Table_in_order (hr.mono (by decide)) T.b_Table_in_order .nil pass0 (pa_cons (pv 3) pa_nil)))) pa_nil)) rfl))))), ?_⟩
    have h1a : SqA K H l (sv cs) := h1.imp id SqT.of
    refine ⟨_, rfl, l, cs, rfl, h1a, g, nd, hc, fun H1 s1 => ?_⟩
    refine ⟨_, rfl, _, rfl, l, r, cs, ts, rs, rfl, s1.sqa h1a, s1.seq h2, hs.same s1, hrs, hst, fun H2 s2 => ?_⟩
    have s2 := s1.trans s2
    refine ⟨_, rfl, l, sv cs, rfl, ?_⟩
    have hpS := s2 _ _ hp
    have fin : ∀ (ct : Addr) (H2' : Hp), Same H H2' → H2' ct = some (.tup (sv cs)) → ct ≠ p → H2' p = some (.ins A.C_Table dx []) ∧ H2' ct = some (.tup (sv cs)) ∧ ct ≠ p ∧ Same H H2' := fun ct H2' s h n => ⟨s _ _ hp, h, n, s⟩
    rcases h1 with h1 | h1
    · refine .inl ⟨s2.seq h1, fun ct hct => ?_⟩
      have npc : ct ≠ p := fun z => by rw [z] at hct; rw [hpS] at hct; cases hct
      have F := fin ct (upd H2 ct (.tup (sv cs))) (s2.trans (same_new hct)) upd_same npc
      generalize upd H2 ct (.tup (sv cs)) = H2' at F ⊢
      clear hct npc
      obtain ⟨hp2, hc2, npc, s2'⟩ := F
      refine ⟨_, rfl, p, _, dx, [], rfl, hp2, T.cl_Table, T.n_Table_columns, (by show 0 < 1000; decide), ?_⟩
      generalize hX : upd H2' p _ = H3
      have hp3 : H3 p = some (.ins A.C_Table dx (putF "columns" (.ref ct) [])) := by rw [← hX]; exact upd_same
      have hc3 : H3 ct = some (.tup (sv cs)) := by rw [← hX, upd_ne npc]; exact hc2
      have sm3 : ∀ b o, b ≠ p → H b = some o → H3 b = some o := fun b o hb e => by
        rw [← hX, upd_ne hb]; exact s2' _ _ e
      have h23 : SqL K H3 r (ts.map V.ref) := by
        rw [← hX]; exact seq_upd (s2'.seq h2) hp2 (fun xs z => nomatch z) (fun o u z => nomatch z)
      have hs3 : LsA K H3 ts rs := ⟨hs.len, fun i t x a b => by rw [← hX]; exact sqa_upd (s2'.sqa (hs.at_ i t x a b)) hp2⟩
      clear hX
      have hlk : (putF "columns" (.ref ct) ([] : List (Str × V))).lookup ("columns" : Str) = some (.ref ct) := by rw [lookup_putF, if_pos rfl]
      have hlm : (putF "columns" (.ref ct) ([] : List (Str × V))).lookup ("_in_order" : Str) = none := by rw [lookup_putF, if_neg (by decide +kernel)]; rfl
      refine ⟨_, rfl, r, rfl, ⟨_, h23⟩, fun D hD => lc_it walk_list (fun i H4 => Same H3 H4 ∧ ∃ us : List Addr, H4 D = some (.lst (us.map V.ref)) ∧ Lss .tup H4 us ((rs.take i).map (canon cs))) ⟨same_new hD, [], upd_same, Lss.nil⟩ (fun i H4 _ q => q.1.seq h23) ?_ ?_⟩
      · rintro i x H4 H5 hi ⟨s4, us, hd4, hl4⟩ ⟨rfl, hx⟩
        obtain ⟨b, hb, rfl⟩ := refs_get hx
        obtain ⟨y, hy, ho⟩ := (hs3.same s4).get hb
        refine ⟨rfl, _, rfl, p, dx, _, rfl, s4 _ _ hp3, hlm, _, rfl, p, b, dx, ct, cs, y, _, rfl, s4 _ _ hp3, hlk, s4 _ _ hc3, ho, by omega, fun t H6 s6 ht => ?_⟩
        have hd6 := s6 _ _ hd4
        refine ⟨_, hd6, small_int (by rw [List.length_map, hl4.len, List.length_map, List.length_take]; omega), ?_, us ++ [t], ?_, ?_⟩
        · intro c o e
          rw [upd_ne (ne_of_none e hD)]
          exact s6 _ _ (s4 _ _ e)
        · rw [List.map_append]; exact upd_same
        · rw [take_succ hy, List.map_append]
          exact ((hl4.same s6).app ht).updT hd6 (fun xs z => nomatch z)
      · rintro H4 ⟨s4, us, hd4, hl4⟩
        rw [List.length_map, hs.len, List.take_length] at hl4
        refine ⟨D, _, rfl, .inl ⟨SqL.of hd4, fun rt hrt => ?_⟩⟩
        have hp5 : upd H4 rt (.tup (us.map V.ref)) p = some (.ins A.C_Table dx (putF "columns" (.ref ct) [])) := by rw [upd_ne (ne_of_none (s4 _ _ hp3) hrt)]; exact s4 _ _ hp3
        refine ⟨_, rfl, p, _, dx, _, rfl, hp5, T.cl_Table, T.n_Table_rows, (by show 1 < 1000; decide), ?_⟩
        have nrp : rt ≠ p := fun z => by rw [z] at hrt; rw [s4 _ _ hp3] at hrt; cases hrt
        have nrc : ct ≠ rt := ne_of_none (s4 _ _ hc3) hrt
        refine k _ (fun b o hb e => ?_) ⟨dx, ct, rt, us, upd_same, ?_, ?_, ?_⟩
        · have z := s4 _ _ (sm3 b o hb e)
          rw [upd_ne hb, upd_ne (ne_of_none z hrt)]
          exact z
        · rw [upd_ne npc, upd_ne nrc]; exact s4 _ _ hc3
        · rw [upd_ne nrp]; exact upd_same
        · exact (hl4.same (same_new (o := .tup (us.map V.ref)) hrt)).updT hp5 (fun xs z => nomatch z)
    · have F := fin l H2 s2 (s2 _ _ h1) (ne_of h1 hp (fun z => nomatch z))
      refine .inr ⟨SqT.of (s2 _ _ h1), ?_⟩
      generalize hlc : l = ct at F ⊢
      generalize hHH : H2 = H2' at F ⊢
      obtain ⟨hp2, hc2, npc, s2'⟩ := F
      refine ⟨_, rfl, p, _, dx, [], rfl, hp2, T.cl_Table, T.n_Table_columns, (by show 0 < 1000; decide), ?_⟩
      generalize hX : upd H2' p _ = H3
      have hp3 : H3 p = some (.ins A.C_Table dx (putF "columns" (.ref ct) [])) := by rw [← hX]; exact upd_same
      have hc3 : H3 ct = some (.tup (sv cs)) := by rw [← hX, upd_ne npc]; exact hc2
      have sm3 : ∀ b o, b ≠ p → H b = some o → H3 b = some o := fun b o hb e => by
        rw [← hX, upd_ne hb]; exact s2' _ _ e
      have h23 : SqL K H3 r (ts.map V.ref) := by
        rw [← hX]; exact seq_upd (s2'.seq h2) hp2 (fun xs z => nomatch z) (fun o u z => nomatch z)
      have hs3 : LsA K H3 ts rs := ⟨hs.len, fun i t x a b => by rw [← hX]; exact sqa_upd (s2'.sqa (hs.at_ i t x a b)) hp2⟩
      clear hX
      have hlk : (putF "columns" (.ref ct) ([] : List (Str × V))).lookup ("columns" : Str) = some (.ref ct) := by rw [lookup_putF, if_pos rfl]
      have hlm : (putF "columns" (.ref ct) ([] : List (Str × V))).lookup ("_in_order" : Str) = none := by rw [lookup_putF, if_neg (by decide +kernel)]; rfl
      refine ⟨_, rfl, r, rfl, ⟨_, h23⟩, fun D hD => lc_it walk_list (fun i H4 => Same H3 H4 ∧ ∃ us : List Addr, H4 D = some (.lst (us.map V.ref)) ∧ Lss .tup H4 us ((rs.take i).map (canon cs))) ⟨same_new hD, [], upd_same, Lss.nil⟩ (fun i H4 _ q => q.1.seq h23) ?_ ?_⟩
      · rintro i x H4 H5 hi ⟨s4, us, hd4, hl4⟩ ⟨rfl, hx⟩
        obtain ⟨b, hb, rfl⟩ := refs_get hx
        obtain ⟨y, hy, ho⟩ := (hs3.same s4).get hb
        refine ⟨rfl, _, rfl, p, dx, _, rfl, s4 _ _ hp3, hlm, _, rfl, p, b, dx, ct, cs, y, _, rfl, s4 _ _ hp3, hlk, s4 _ _ hc3, ho, by omega, fun t H6 s6 ht => ?_⟩
        have hd6 := s6 _ _ hd4
        refine ⟨_, hd6, small_int (by rw [List.length_map, hl4.len, List.length_map, List.length_take]; omega), ?_, us ++ [t], ?_, ?_⟩
        · intro c o e
          rw [upd_ne (ne_of_none e hD)]
          exact s6 _ _ (s4 _ _ e)
        · rw [List.map_append]; exact upd_same
        · rw [take_succ hy, List.map_append]
          exact ((hl4.same s6).app ht).updT hd6 (fun xs z => nomatch z)
      · rintro H4 ⟨s4, us, hd4, hl4⟩
        rw [List.length_map, hs.len, List.take_length] at hl4
        refine ⟨D, _, rfl, .inl ⟨SqL.of hd4, fun rt hrt => ?_⟩⟩
        have hp5 : upd H4 rt (.tup (us.map V.ref)) p = some (.ins A.C_Table dx (putF "columns" (.ref ct) [])) := by rw [upd_ne (ne_of_none (s4 _ _ hp3) hrt)]; exact s4 _ _ hp3
        refine ⟨_, rfl, p, _, dx, _, rfl, hp5, T.cl_Table, T.n_Table_rows, (by show 1 < 1000; decide), ?_⟩
        have nrp : rt ≠ p := fun z => by rw [z] at hrt; rw [s4 _ _ hp3] at hrt; cases hrt
        have nrc : ct ≠ rt := ne_of_none (s4 _ _ hc3) hrt
        refine k _ (fun b o hb e => ?_) ⟨dx, ct, rt, us, upd_same, ?_, ?_, ?_⟩
        · have z := s4 _ _ (sm3 b o hb e)
          rw [upd_ne hb, upd_ne (ne_of_none z hrt)]
          exact z
        · rw [upd_ne npc, upd_ne nrc]; exact s4 _ _ hc3
        · rw [upd_ne nrp]; exact upd_same
        · exact (hl4.same (same_new (o := .tup (us.map V.ref)) hrt)).updT hp5 (fun xs z => nomatch z)
end
end My
set_option maxRecDepth 100000
set_option maxHeartbeats 4000000
set_option exponentiation.threshold 10000
namespace My
open PySem L2
/-- the columns outside a row -/
def outs (cs r : List Str) : List Str := cs.filter fun x => decide (x ∉ r)
theorem outs_T {l r : List Str} {z : Str} (hm : z ∉ r) : outs (l ++ [z]) r = outs l r ++ [z] := by
  unfold outs; rw [List.filter_append]; simp [hm]
theorem outs_F {l r : List Str} {z : Str} (hm : z ∈ r) : outs (l ++ [z]) r = outs l r := by
  unfold outs; rw [List.filter_append]; simp [hm]
def turnRow (cs : List Str) (z : Str) (r : List Str) : List Str := if z ∈ canon cs r then outs cs (canon cs r) else canon cs r
theorem fldsT_in_order (ct rt : Addr) : (fldsT ct rt).lookup ("_in_order" : Str) = none := by
  unfold fldsT; rw [lookup_putF, if_neg (by decide +kernel), lookup_putF, if_neg (by decide +kernel)]; rfl
theorem fldsT_inside (ct rt : Addr) : (fldsT ct rt).lookup ("_inside_out" : Str) = none := by
  unfold fldsT; rw [lookup_putF, if_neg (by decide +kernel), lookup_putF, if_neg (by decide +kernel)]; rfl
structure ColsOk (cs : List Str) : Prop where
  g : ∀ z ∈ cs, Good z
  nd : cs.Nodup
  n : cs.length ≤ 12
theorem ColsOk.sub {cs ds : List Str} (h : ColsOk cs) (s : ds.Sublist cs) : ColsOk ds := ⟨fun z hz => h.g z (s.subset hz), s.nodup h.nd, Nat.le_trans s.length_le h.n⟩
theorem canon_sub (cs r : List Str) : (canon cs r).Sublist cs := List.filter_sublist
theorem outs_sub (cs r : List Str) : (outs cs r).Sublist cs := List.filter_sublist
theorem turn_sub (cs : List Str) (z : Str) (r : List Str) : (turnRow cs z r).Sublist cs := by
  unfold turnRow; split
  · exact outs_sub _ _
  · exact canon_sub _ _
theorem sub_row {cs r : List Str} (h : ColsOk cs) (s : r.Sublist cs) : stray cs r = none ∧ r.length ≤ 1000 := ⟨stray_none_iff.mpr ⟨fun x hx => s.subset hx, s.nodup h.nd⟩, by have := s.length_le; have := h.n; omega⟩
theorem mem_canon {cs r : List Str} {x : Str} : x ∈ canon cs r ↔ x ∈ cs ∧ x ∈ r := by unfold canon; rw [List.mem_filter, decide_eq_true_iff]
theorem mem_outs {cs r : List Str} {x : Str} : x ∈ outs cs r ↔ x ∈ cs ∧ x ∉ r := by unfold outs; rw [List.mem_filter, decide_eq_true_iff]
theorem canon_row {cs r ns : List Str} (h : ColsOk cs) (hn : ∀ x ∈ ns, x ∈ cs) : stray (canon cs ns) (canon (canon cs r) ns) = none ∧ (canon (canon cs r) ns).length ≤ 1000 :=
  ⟨stray_none_iff.mpr ⟨fun x hx => mem_canon.mpr ⟨(mem_canon.mp (mem_canon.mp hx).1).1, (mem_canon.mp hx).2⟩, ((canon_sub _ _).trans (canon_sub _ _)).nodup h.nd⟩, by have := ((canon_sub (canon cs r) ns).trans (canon_sub _ _)).length_le; have := h.n; omega⟩
theorem mk_table {C : Addr} {K : PySem.W.Frag} {H : Hp} {l r : Addr} {cs : List Str} {ts : List Addr} {rs : List (List Str)} {Q : VK} (hL : SqL K H l (sv cs) ∨ H l = some (.tup (sv cs))) (hR : SqL K H r (ts.map V.ref)) (hs : LsA K H ts rs) (ok : ColsOk cs) (hr : rs.length ≤ 48)
    (st : ∀ x ∈ rs, stray cs x = none ∧ x.length ≤ 1000) (k : ∀ q H', Same H H' → H q = none → Tb C H' q cs rs → Q (.ref q) H') :
    ∀ x dx, H x = none → H dx = none → dx ≠ x → spTable C K (.ref x :: ([.ref l, .ref r] ++ [])) (upd (upd H dx (.own x)) x (.ins C dx [])) (fun v H2 => v = .non ∧ Q (.ref x) H2) E0 := fun x dx hx hdx hne => by
  have s1 := same_new (o := .own x) hdx
  have hx1 : upd H dx (.own x) x = none := by rw [upd_ne hne.symm]; exact hx
  have s2 : Same H (upd (upd H dx (.own x)) x (.ins C dx [])) := s1.trans (same_new hx1)
  exact ⟨x, l, r, dx, cs, ts, rs, rfl, upd_same, hL.imp (fun q => s2.seq q) (fun q => s2 _ _ q), s2.seq hR, hs.same s2, ok.g, ok.nd, ok.n, hr, st, fun H' hk hT => ⟨rfl, k x H' (fun b o e => hk b o (ne_of_none e hx) (s2 _ _ e)) hx hT⟩⟩
end My
set_option maxRecDepth 100000
set_option maxHeartbeats 4000000
set_option exponentiation.threshold 10000
namespace My
open PySem L2
abbrev fv {α : Type} (f : α → V) (l : List α) : List V := l.map f
section
variable {α : Type} {f : α → V}
theorem fv_len (l : List α) : (fv f l).length = l.length := List.length_map ..
theorem fv_take (l : List α) (k : Nat) : (fv f l).take k = fv f (l.take k) := List.map_take.symm
theorem fv_drop (l : List α) (k : Nat) : (fv f l).drop k = fv f (l.drop k) := List.map_drop.symm
theorem fv_app (a b : List α) : fv f a ++ fv f b = fv f (a ++ b) := List.map_append.symm
theorem fv_snoc (l : List α) (x : α) : fv f (l ++ [x]) = fv f l ++ [f x] := List.map_append
end
/-- no name is made of z alone -/
def Low (ns : List Str) : Prop := ∀ z ∈ ns, ∃ c ∈ z.cps.toList, c < 122
theorem low1 : Low W1 := by
  have : (W1.all fun z => z.cps.toList.any fun c => decide (c < 122)) = true := by decide +kernel
  intro z hz
  obtain ⟨c, hc, h⟩ := List.any_eq_true.mp (List.all_eq_true.mp this z hz)
  exact ⟨c, hc, of_decide_eq_true h⟩
theorem low2 : Low W2 := by
  have : (W2.all fun z => z.cps.toList.any fun c => decide (c < 122)) = true := by decide +kernel
  intro z hz
  obtain ⟨c, hc, h⟩ := List.any_eq_true.mp (List.all_eq_true.mp this z hz)
  exact ⟨c, hc, of_decide_eq_true h⟩
theorem Mades.low {s : Int} {ns : List Str} (h : Mades s ns) : Low ns := fun z hz => by
  obtain ⟨t, ht, e⟩ := List.getElem_of_mem hz
  obtain ⟨_, _, q⟩ := h t z (by rw [List.getElem?_eq_getElem ht, e])
  have hm : (97 + (((t : Int) * 5 + s) % 12).toNat) ∈ z.cps.toList.filter (fun d => decide (d < 109)) := by rw [q]; exact List.mem_singleton_self _
  have := List.mem_filter.mp hm
  exact ⟨_, this.1, by have := of_decide_eq_true this.2; omega⟩
theorem sv_snoc' (l : List Str) (x : Str) : sv (l ++ [x]) = sv l ++ [V.str x] := List.map_append
def spCell (K : PySem.W.Frag) : Sp := fun vs H Q _ => ∃ (a : Addr) (ns : List Int) (k : Int), vs = [.ref a, .int k] ∧ SqL K H a (ns.map V.int) ∧ 0 ≤ k ∧ ∀ z, Q (.int z) H
def spPool (K : PySem.W.Frag) : Sp := fun vs H Q _ => ∃ (a : Addr) (ns : List Int) (k c : Int), vs = [.ref a, .int k, .int c] ∧ SqL K H a (ns.map V.int) ∧ 0 ≤ k ∧ 0 ≤ c ∧ c ≤ 1000 ∧
  ∀ p ps H', Same H H' → H' p = some (.lst (ps.map V.int)) → (ps.length : Int) = c → Pool ps → Q (.ref p) H'
section
variable {P : Program} {w : World} {K : PySem.W.Frag} {mg : Str → Option Value} {base : Heap} {A : Ad}
theorem ok_cell (T : Txt P K mg A) : FnOk P w K mg base CX0 1 A.a_law_cell A.d_law_cell ["script", "k"] (spCell K) := by
  refine T.F_law_cell.ok sc_law_cell (fun vs H Q E h => ?_) (fun cdv A' outer s H vs Q E hr h => ?_)
  · obtain ⟨a, ns, k, rfl, _⟩ := h
    rfl
  · obtain ⟨a, ns, i, rfl, hS, h0, k⟩ := h
    refine ⟨_, (pss_cons (ps_if (pt_cmpR op_lt (pv 1) (pe_callB call_len_seq (by rfl) T.n_len (by decide +kernel) (pa_cons (pv 0) pa_nil)) (nomark _)) (pss_one (ps_ret (pe_ix ix_list (pv 0) (pv 1) (fun _ _ => rfl)))) pss_nil)
      (pss_one (ps_ret pe_int))), ?_⟩
    refine ⟨_, rfl, _, rfl, _, _, rfl, .inl hS, _, _, rfl, rfl, _, rfl, ?_⟩
    by_cases hi : i < ((ns.map V.int).length : Int)
    · refine itY hi ?_
      obtain ⟨v, hv, e⟩ := atI_ok (xs := ns) h0 (by rw [len_map_int] at hi; exact hi)
      exact ⟨_, rfl, _, rfl, _, _, _, _, rfl, rfl, hS, e, k v⟩
    · refine itN hi ?_
      exact k 0
theorem ok_pool (T : Txt P K mg A) : FnOk P w K mg base CX0 2 A.a_law_pool A.d_law_pool ["script", "k", "count"] (spPool K) := by
  have G_law_cell : FnOk P w K mg base CX0 1 A.a_law_cell A.d_law_cell ["script", "k"] (spCell K) := ok_cell T
  refine T.F_law_pool.ok sc_law_pool (fun vs H Q E h => ?_) (fun cdv A' outer s H vs Q E hr h => ?_)
  · obtain ⟨a, ns, k, c, rfl, _⟩ := h
    rfl
  · obtain ⟨a, ns, i, c, rfl, hS, h0, hc0, hc, k⟩ := h
    refine ⟨_, (pss_cons (ps_set (i := 3) sc_law_pool.nd rfl (Or.inl rfl) (pe_callB call_abs (by rfl) T.n_abs (by decide +kernel) (pa_cons (pe_call G_law_cell (hr.mono (by decide)) rfl T.mg_law_cell T.F_law_cell.kp T.b_law_cell .nil pass0 (pa_cons (pv 0) (pa_cons (pv 1) pa_nil))) pa_nil)))
      (pss_cons (ps_set (i := 4) sc_law_pool.nd rfl (Or.inl rfl) (pe_lst pa_nil))
      (pss_cons (ps_if (pt_cmpR op_ge (pv 3) (pe_op op_pow pe_int pe_int) (nomark _)) (pss_cons (ps_set (i := 3) sc_law_pool.nd rfl (Or.inl rfl) (pe_op op_sub (pv 3) (pe_op op_pow pe_int pe_int)))
      (pss_cons (ps_for PassesOwn.never rfl (pi_range1 (by rfl) T.n_range (pa_cons (pv 2) pa_nil)) (pg_name (i := 5) sc_law_pool.nd rfl (Or.inl rfl))
        (pss_cons (ps_expr (pe_bm PySem.F.plainAttrs_list PySem.F.slot_list_append PySem.F.type_list_append mt_append (pv 4) (pa_cons (pe_op op_mod (pe_callTy call_int1 (by rfl) T.n_int (by decide +kernel) (pa_cons (pv 3) pa_nil)) pe_int) pa_nil)))
      (pss_one (ps_set (i := 3) sc_law_pool.nd rfl (Or.inl rfl) (pe_op op_fdiv (pv 3) pe_int)))))
      (pss_one (ps_ret (pv 4))))) pss_nil)
      (pss_cons (ps_for PassesOwn.never rfl (pi_range1 (by rfl) T.n_range (pa_cons (pv 2) pa_nil)) (pg_name (i := 5) sc_law_pool.nd rfl (Or.inl rfl))
        (pss_cons (ps_set (i := 6) sc_law_pool.nd rfl (Or.inl rfl) (pe_op op_mod (pe_callTy call_int1 (by rfl) T.n_int (by decide +kernel) (pa_cons (pe_op op_add (pe_op op_add (pe_op op_add (pe_op op_mul (pv 3) pe_int) (pe_op op_mul (pe_op op_add (pv 5) pe_int) pe_int)) (pe_op op_mul (pv 1) pe_int)) pe_int) pa_nil)) pe_int))
      (pss_cons (ps_set (i := 7) sc_law_pool.nd rfl (Or.inl rfl) (pe_op op_mod (pe_callTy call_int1 (by rfl) T.n_int (by decide +kernel) (pa_cons (pe_op op_add (pe_op op_add (pe_op op_mulW (pv 6) (pv 6)) (pe_op op_mul (pv 3) pe_int)) (pv 5)) pa_nil)) pe_int))
      (pss_cons (ps_set (i := 8) sc_law_pool.nd rfl (Or.inl rfl) (pe_op op_mod (pe_callTy call_int1 (by rfl) T.n_int (by decide +kernel) (pa_cons (pe_op op_add (pe_op op_mulW (pv 7) (pv 7)) (pv 6)) pa_nil)) pe_int))
      (pss_one (ps_expr (pe_bm PySem.F.plainAttrs_list PySem.F.slot_list_append PySem.F.type_list_append mt_append (pv 4) (pa_cons (pe_op op_mod (pe_callTy call_int1 (by rfl) T.n_int (by decide +kernel) (pa_cons (pe_op op_fdiv (pv 8) pe_int) pa_nil)) pe_int) pa_nil))))))))
      (pss_one (ps_ret (pv 4))))))), ?_⟩
    refine ⟨_, rfl, _, rfl, a, ns, i, rfl, hS, h0, fun z => ⟨_, rfl, ?_⟩⟩
    refine ⟨by show 0 ≤ sizeLine; decide, fun l hl => ?_⟩
    refine ⟨_, rfl, _, _, rfl, rfl, ⟨by decide, by decide, by decide⟩, _, _, rfl, rfl, _, rfl, ?_⟩
    have fin : ∀ ps : List Int, ps.length = c.toNat → Pool ps → Q (.ref l) (upd H l (.lst (ps.map V.int))) := fun ps h1 h2 => k l ps _ (same_new hl) upd_same (by omega) h2
    refine ite2 (fun hb => ?_) (fun hb => ?_)
    · refine ⟨_, rfl, _, _, rfl, rfl, ⟨by decide, by decide, by decide⟩, _, _, rfl, rfl, ?_⟩
      refine ⟨_, rfl, c, rfl, by omega, by omega, for_range (n := c.toNat) (fun j σ H2 => ∃ (v : Int) (ps : List Int) (u : Option V), σ = [some (.ref a), some (.int i), some (.int c), some (.int v), some (.ref l), u, none, none, none] ∧
        H2 = upd H l (.lst (ps.map V.int)) ∧ ps.length = j ∧ Pool ps) ⟨_, [], none, rfl, rfl, rfl, Pool.nil⟩ ?_ ?_⟩
      · rintro j σ H2 hj ⟨v, ps, u, rfl, rfl, hl2, hp⟩
        refine ⟨_, rfl, .inl ⟨rfl, _, SqL.of upd_same⟩, _, rfl, .inl ⟨_, rfl, ?_⟩⟩
        refine ⟨_, _, rfl, rfl, by show (0 : Int) < 27720; decide, l, _, _, rfl, rfl, upd_same, small_int (by rw [len_map_int]; omega), ?_⟩
        refine ⟨_, rfl, _, _, rfl, rfl, ⟨by decide, by decide⟩, ?_⟩
        refine ⟨_, ps ++ [v % 27720], _, rfl, ?_, by simp [hl2], hp.app (Int.emod_nonneg _ (by decide)) (Int.emod_lt_of_pos _ (by decide))⟩
        rw [upd_upd, List.map_append]
        rfl
      · rintro σ H2 ⟨v, ps, u, rfl, rfl, hl2, hp⟩
        exact ⟨_, rfl, fin ps hl2 hp⟩
    · refine ⟨_, rfl, c, rfl, by omega, by omega, for_range (n := c.toNat) (fun j σ H2 => ∃ (v : Int) (ps : List Int) (u u1 u2 u3 : Option V), σ = [some (.ref a), some (.int i), some (.int c), some (.int v), some (.ref l), u, u1, u2, u3] ∧
        H2 = upd H l (.lst (ps.map V.int)) ∧ ps.length = j ∧ Pool ps) ⟨_, [], none, none, none, none, rfl, rfl, rfl, Pool.nil⟩ ?_ ?_⟩
      · rintro j σ H2 hj ⟨v, ps, u, u1, u2, u3, rfl, rfl, hl2, hp⟩
        refine ⟨_, rfl, _, _, rfl, rfl, .inr (by decide), _, rfl, _, _, rfl, rfl, _, _, rfl, rfl, .inr (by decide), _, _, rfl, rfl, _, rfl, _, _, rfl, rfl, .inr (by decide), _, _, rfl, rfl, _, _, rfl, rfl, .inl ⟨_, rfl, _, _, rfl, rfl, by show (0 : Int) < 2147483647; decide, ?_⟩⟩
        refine ⟨_, rfl, _, rfl, _, _, rfl, rfl, mulW (mod_sz (by decide) (by decide)) (mod_sz (by decide) (by decide)), _, rfl, _, _, rfl, rfl, .inr (by decide), _, _, rfl, rfl, _, rfl, _, _, rfl, rfl, .inl ⟨_, rfl, _, _, rfl, rfl, by show (0 : Int) < 2147483629; decide, ?_⟩⟩
        refine ⟨_, rfl, _, rfl, _, _, rfl, rfl, mulW (mod_sz (by decide) (by decide)) (mod_sz (by decide) (by decide)), _, rfl, _, _, rfl, rfl, .inl ⟨_, rfl, _, _, rfl, rfl, by show (0 : Int) < 2147483587; decide, ?_⟩⟩
        refine ⟨_, rfl, .inl ⟨rfl, _, SqL.of upd_same⟩, _, rfl, _, _, rfl, rfl, ⟨by decide, by decide⟩, .inl ⟨_, rfl, ?_⟩⟩
        refine ⟨_, _, rfl, rfl, by show (0 : Int) < 27720; decide, l, _, _, rfl, rfl, upd_same, small_int (by rw [len_map_int]; omega), ?_⟩
        exact ⟨_, ps ++ [_], _, _, _, _, rfl, upd_app, by simp [hl2], hp.app (Int.emod_nonneg _ (by decide)) (Int.emod_lt_of_pos _ (by decide))⟩
      · rintro σ H2 ⟨v, ps, u, u1, u2, u3, rfl, rfl, hl2, hp⟩
        exact ⟨_, rfl, fin ps hl2 hp⟩
def spOrderF {α : Type} (f : α → V) (K : PySem.W.Frag) : Sp := fun vs H Q _ => ∃ (n p : Addr) (ns : List α) (ps : List Int) (st : Int), vs = [.ref n, .ref p, .int st] ∧ SqL K H n (fv f ns) ∧ SqL K H p (ps.map V.int) ∧ ns.length ≤ 60 ∧ 0 ≤ st ∧ st + ns.length ≤ ps.length ∧ ∀ a os H', Same H H' → H a = none → H' a = some (.lst (fv f os)) → os.Perm ns → Q (.ref a) H'
theorem ok_orderF {α : Type} (f : α → V) (T : Txt P K mg A) : FnOk P w K mg base CX0 1 A.a_law_order A.d_law_order ["names", "pool", "start"] (spOrderF f K) := by
  refine T.F_law_order.ok sc_law_order (fun vs H Q E h => ?_) (fun cdv A' outer s H vs Q E hr h => ?_)
  · obtain ⟨n, p, ns, ps, st, rfl, _⟩ := h
    rfl
  · obtain ⟨n, p, ns, ps, st, rfl, hN, hP, hnl, hst, hpl, k⟩ := h
    refine ⟨_, (pss_cons (ps_set (i := 3) sc_law_order.nd rfl (Or.inl rfl) (pe_callTy (show CallR _ _ (rListOf K) from call_list_of) (by rfl) T.n_list (by decide +kernel) (pa_cons (pv 0) pa_nil)))
      (pss_cons (ps_set (i := 4) sc_law_order.nd rfl (Or.inl rfl) (pe_lst pa_nil))
      (pss_cons (ps_for PassesOwn.never rfl (pi_range1 (by rfl) T.n_range (pa_cons (pe_callB call_len_seq (by rfl) T.n_len (by decide +kernel) (pa_cons (pv 0) pa_nil)) pa_nil)) (pg_name (i := 5) sc_law_order.nd rfl (Or.inl rfl))
        (pss_cons (ps_set (i := 6) sc_law_order.nd rfl (Or.inl rfl) (pe_op op_mod (pe_callTy call_int1 (by rfl) T.n_int (by decide +kernel) (pa_cons (pe_ix ix_list (pv 1) (pe_op op_add (pv 2) (pv 5)) (fun _ _ => rfl)) pa_nil)) (pe_callB call_len_seq (by rfl) T.n_len (by decide +kernel) (pa_cons (pv 3) pa_nil))))
      (pss_cons (ps_expr (pe_bm PySem.F.plainAttrs_list PySem.F.slot_list_append PySem.F.type_list_append mt_append (pv 4) (pa_cons (pe_ix ix_list (pv 3) (pv 6) (fun _ _ => rfl)) pa_nil)))
      (pss_one (ps_set (i := 3) sc_law_order.nd rfl (Or.inl rfl) (pe_op op_cat (pe_slice sl_list (pv 3) po_none (po_some (pv 6))) (pe_slice sl_list (pv 3) (po_some (pe_op op_add (pv 6) pe_int)) po_none)))))))
      (pss_one (ps_ret (pv 4)))))), ?_⟩
    refine ⟨_, rfl, n, _, rfl, .inl hN, fun l0 hl0 => ?_⟩
    have s1 := same_new (o := .lst (fv f ns)) hl0
    refine ⟨by show 0 ≤ sizeLine; decide, fun o ho => ?_⟩
    have s2 := s1.trans (same_new (o := .lst []) ho)
    have ho' : H o = none := none_of s1 ho
    have hl1 : upd (upd H l0 (.lst (fv f ns))) o (.lst []) l0 = some (.lst (fv f ns)) := by rw [upd_ne (ne_of_none upd_same ho)]; exact upd_same
    refine ⟨_, rfl, n, _, rfl, .inl (s2.seq hN), _, rfl, by rw [fv_len]; omega, by rw [fv_len]; omega, ?_⟩
    have e1 : (((fv f ns).length : Nat) : Int).toNat = ns.length := by rw [fv_len, Int.toNat_natCast]
    refine for_range (n := (((fv f ns).length : Nat) : Int).toNat) (fun i σ H2 => Same H H2 ∧ ∃ (l : Addr) (ls os : List α) (u1 u2 : Option V), σ = [some (.ref n), some (.ref p), some (.int st), some (.ref l), some (.ref o), u1, u2] ∧ H l = none ∧ l ≠ o ∧ H2 l = some (.lst (fv f ls)) ∧ H2 o = some (.lst (fv f os)) ∧ (os ++ ls).Perm ns ∧ os.length = i)
      ⟨s2, l0, ns, [], none, none, rfl, hl0, ne_of_none upd_same ho, hl1, upd_same, .refl _, rfl⟩ ?_ ?_
    · rintro i σ H2 hi ⟨sm, l, ls, os, u1, u2, rfl, hl, hlo, h2, h3, hp, hi2⟩
      rw [e1] at hi
      have hlen := hp.length_eq
      rw [List.length_append] at hlen
      have hls : 0 < ls.length := by omega
      obtain ⟨v, hv, e⟩ := atI_ok (xs := ps) (j := st + (0 + (i : Int))) (by omega) (by omega)
      have hd : (0 : Int) < ((fv f ls).length : Nat) := by rw [fv_len]; omega
      have m0 := Int.emod_nonneg v (Int.ne_of_gt hd)
      have m1 := Int.emod_lt_of_pos v hd
      refine ⟨_, rfl, _, rfl, _, rfl, _, _, rfl, rfl, p, _, _, _, rfl, rfl, sm.seq hP, e, .inl ⟨_, rfl, _, rfl, l, _, rfl, .inl (SqL.of h2), _, _, rfl, rfl, hd, ?_⟩⟩
      obtain ⟨j, hj⟩ := Int.eq_ofNat_of_zero_le m0
      rw [hj] at m1
      rw [fv_len] at m1
      have hj2 : j < ls.length := by omega
      have hz : ls[j]? = some ls[j] := List.getElem?_eq_getElem hj2
      have ej : atI (fv f ls) (j : Int) = some (f ls[j]) := atI_nat (by rw [List.getElem?_map, hz]; rfl)
      refine ⟨_, rfl, .inl ⟨rfl, _, SqL.of h3⟩, _, rfl, _, rfl, l, _, _, _, rfl, rfl, SqL.of h2, by rw [hj]; exact ej, o, _, _, rfl, rfl, h3, small_int (by rw [fv_len]; omega), ?_⟩
      have hlo2 : upd H2 o (.lst (fv f os ++ [f ls[j]])) l = some (.lst (fv f ls)) := by rw [upd_ne hlo]; exact h2
      refine ⟨_, rfl, _, rfl, _, rfl, l, _, rfl, SqL.of hlo2, fun a ha => ?_⟩
      have hla : l ≠ a := ne_of_none hlo2 ha
      refine ⟨_, rfl, _, rfl, _, _, rfl, rfl, _, rfl, l, _, rfl, SqL.of (by rw [upd_ne hla]; exact hlo2), fun b hb => ?_⟩
      have ha2 : a ≠ b := ne_of_none upd_same hb
      refine ⟨a, b, _, _, rfl, rfl, by rw [upd_ne ha2]; exact upd_same, upd_same, ?_, fun c hc => ?_⟩
      · rw [hj, show ((j : Int) + 1) = ((j + 1 : Nat) : Int) by omega, cut_take (by rw [fv_len]; omega), cut_drop (by rw [fv_len]; omega)]
        have := fv_len (f := f) ls
        refine Nat.le_trans (m := 80) ?_ (by decide)
        rw [List.length_take, List.length_drop]; omega
      · rw [hj, cut_take (by rw [fv_len]; omega), fv_take] at hb
        rw [hj, show ((j : Int) + 1) = ((j + 1 : Nat) : Int) by omega] at hc ⊢
        rw [cut_take (by rw [fv_len]; omega), cut_drop (by rw [fv_len]; omega), fv_take, fv_drop] at hc ⊢
        rw [fv_app]
        have ob : o ≠ b := ne_of_none (show upd (upd H2 o _) a _ o = some _ by rw [upd_ne (ne_of_none upd_same ha)]; exact upd_same) hb
        have oa : o ≠ a := ne_of_none upd_same ha
        have oc : o ≠ c := ne_of_none (show upd (upd (upd H2 o _) a _) b _ o = some _ by rw [upd_ne ob, upd_ne oa]; exact upd_same) hc
        have sX : ∀ (x : Addr) (u : HO), H x = some u → upd (upd (upd H2 o (.lst (fv f os ++ [f ls[j]]))) a (.lst (fv f (ls.take j)))) b (.lst (fv f (ls.drop (j + 1)))) x = some u := fun x u hx => by
          have e2 := sm x u hx
          have e3 : upd H2 o (.lst (fv f os ++ [f ls[j]])) x = some u := by
            rw [upd_ne (fun z => by rw [z, ho'] at hx; cases hx)]; exact e2
          have e4 : upd (upd H2 o (.lst (fv f os ++ [f ls[j]]))) a (.lst (fv f (ls.take j))) x = some u := by rw [upd_ne (ne_of_none e3 ha)]; exact e3
          rw [upd_ne (ne_of_none e4 hb)]; exact e4
        refine ⟨fun x u hx => ?_, c, ls.take j ++ ls.drop (j + 1), os ++ [ls[j]], _, _, rfl, ?_, oc.symm, upd_same, ?_, ?_, ?_⟩
        · rw [upd_ne (ne_of_none (sX x u hx) hc)]; exact sX x u hx
        · cases e : H c with
          | none => rfl
          | some u => rw [sX _ _ e] at hc; cases hc
        · rw [upd_ne oc, upd_ne ob, upd_ne oa, upd_same, fv_snoc]
        · have := perm_pick hz
          rw [List.append_assoc, List.singleton_append]
          exact ((this.append_left os)).trans hp
        · rw [List.length_append, hi2]; rfl
    · rintro σ H2 ⟨sm, l, ls, os, u1, u2, rfl, hl, hlo, h2, h3, hp, hi2⟩
      rw [e1] at hi2
      have hlen := hp.length_eq
      rw [List.length_append] at hlen
      have : ls = [] := List.length_eq_zero_iff.mp (by omega)
      rw [this, List.append_nil] at hp
      exact ⟨_, rfl, k o os H2 sm ho' h3 hp⟩
def spNames : Sp := fun vs H Q _ => ∃ (n : Nat) (sd : Int), vs = [.int (n : Nat), .int sd] ∧ n ≤ 12 ∧ ∀ D ns H', Same H H' → H D = none → H' D = some (.lst (sv ns)) → ns.length = n → Nms ns ∧ Low ns → Q (.ref D) H'
theorem ok_names (T : Txt P K mg A) : FnOk P w K mg base CX0 1 A.a_law_names A.d_law_names ["count", "seed"] spNames := by
  refine T.F_law_names.ok sc_law_names (fun vs H Q E h => ?_) (fun cdv A' outer s H vs Q E hr h => ?_)
  · obtain ⟨n, sd, rfl, _⟩ := h
    rfl
  · obtain ⟨n, sd, rfl, hn, k⟩ := h
    refine ⟨_, (pss_cons (ps_if (pt_cmpR op_gt (pe_op op_mod (pe_callTy call_int1 (by rfl) T.n_int (by decide +kernel) (pa_cons (pv 1) pa_nil)) pe_int) pe_int (nomark _)) (pss_cons (ps_set (i := 2) sc_law_names.nd rfl (Or.inl rfl) (pe_lst (pa_cons pe_str (pa_cons pe_str (pa_cons pe_str (pa_cons pe_str (pa_cons pe_str (pa_cons pe_str (pa_cons pe_str (pa_cons pe_str (pa_cons pe_str (pa_cons pe_str (pa_cons pe_str (pa_cons pe_str pa_nil))))))))))))))
      (pss_cons (ps_if (pt_cmpR op_eq (pe_op op_mod (pe_callTy call_int1 (by rfl) T.n_int (by decide +kernel) (pa_cons (pv 1) pa_nil)) pe_int) pe_int (nomark _)) (pss_one (ps_set (i := 2) sc_law_names.nd rfl (Or.inl rfl) (pe_lst (pa_cons pe_str (pa_cons pe_str (pa_cons pe_str (pa_cons pe_str (pa_cons pe_str (pa_cons pe_str (pa_cons pe_str (pa_cons pe_str (pa_cons pe_str (pa_cons pe_str (pa_cons pe_str (pa_cons pe_str pa_nil))))))))))))))) pss_nil)
      (pss_cons (ps_set (i := 3) sc_law_names.nd rfl (Or.inl rfl) (pe_op op_mod (pe_callTy call_int1 (by rfl) T.n_int (by decide +kernel) (pa_cons (pe_op op_fdiv (pv 1) pe_int) pa_nil)) pe_int))
      (pss_one (ps_ret (pe_slice sl_list (pe_op op_cat (pe_slice sl_list (pv 2) (po_some (pv 3)) po_none) (pe_slice sl_list (pv 2) po_none (po_some (pv 3)))) po_none (po_some (pv 0)))))))) pss_nil)
      (pss_cons (ps_set (i := 4) sc_law_names.nd rfl (Or.inl rfl) (pe_lst pa_nil))
      (pss_cons (ps_for PassesOwn.never rfl (pi_range1 (by rfl) T.n_range (pa_cons (pv 0) pa_nil)) (pg_name (i := 5) sc_law_names.nd rfl (Or.inl rfl))
        (pss_cons (ps_set (i := 6) sc_law_names.nd rfl (Or.inl rfl) (pe_ix ix_str pe_str (pe_op op_mod (pe_callTy call_int1 (by rfl) T.n_int (by decide +kernel) (pa_cons (pe_op op_add (pe_op op_mul (pv 5) pe_int) (pv 1)) pa_nil)) pe_int) (fun _ _ => rfl)))
      (pss_cons (ps_set (i := 7) sc_law_names.nd rfl (Or.inl rfl) (pe_op op_mulS (pe_ix ix_str pe_str (pe_op op_mod (pe_callTy call_int1 (by rfl) T.n_int (by decide +kernel) (pa_cons (pe_op op_add (pe_op op_fdiv (pv 1) pe_int) (pv 5)) pa_nil)) pe_int) (fun _ _ => rfl)) (pe_op op_mod (pe_callTy call_int1 (by rfl) T.n_int (by decide +kernel) (pa_cons (pe_op op_add (pe_op op_fdiv (pv 1) pe_int) (pe_op op_mul (pv 5) pe_int)) pa_nil)) pe_int)))
      (pss_cons (ps_set (i := 8) sc_law_names.nd rfl (Or.inl rfl) (pe_op op_mulS (pe_ix ix_str pe_str (pe_op op_mod (pe_callTy call_int1 (by rfl) T.n_int (by decide +kernel) (pa_cons (pe_op op_add (pe_op op_fdiv (pv 1) pe_int) (pe_op op_mul (pv 5) pe_int)) pa_nil)) pe_int) (fun _ _ => rfl)) (pe_op op_mod (pe_callTy call_int1 (by rfl) T.n_int (by decide +kernel) (pa_cons (pe_op op_add (pe_op op_fdiv (pv 1) pe_int) (pv 5)) pa_nil)) pe_int)))
      (pss_cons (ps_if (pt_cmpR op_eq (pe_op op_mod (pe_callTy call_int1 (by rfl) T.n_int (by decide +kernel) (pa_cons (pv 1) pa_nil)) pe_int) pe_int (nomark _)) (pss_cons (ps_set (i := 7) sc_law_names.nd rfl (Or.inl rfl) (pe_op op_mulS pe_str (pe_op op_mod (pe_callTy call_int1 (by rfl) T.n_int (by decide +kernel) (pa_cons (pe_op op_fdiv (pv 1) pe_int) pa_nil)) pe_int)))
      (pss_one (ps_set (i := 8) sc_law_names.nd rfl (Or.inl rfl) (pe_op op_mulS pe_str (pe_op op_mod (pe_callTy call_int1 (by rfl) T.n_int (by decide +kernel) (pa_cons (pe_op op_fdiv (pv 1) pe_int) pa_nil)) pe_int))))) pss_nil)
      (pss_one (ps_expr (pe_bm PySem.F.plainAttrs_list PySem.F.slot_list_append PySem.F.type_list_append mt_append (pv 4) (pa_cons (pe_op op_add_str (pe_op op_add_str (pv 7) (pv 6)) (pv 8)) pa_nil)))))))))
      (pss_one (ps_ret (pv 4)))))), ?_⟩
    refine ⟨_, rfl, .inl ⟨_, rfl, _, _, rfl, rfl, by show (0 : Int) < 6; decide, _, _, rfl, rfl, _, rfl, ite2 (fun hb => ?_) (fun hb => ?_)⟩⟩
    · refine ⟨by show 12 ≤ sizeLine; decide, fun a0 ha0 => ?_⟩
      have s1 := same_new (o := .lst (sv W1)) ha0
      refine ⟨_, rfl, .inl ⟨_, rfl, _, _, rfl, rfl, by show (0 : Int) < 6; decide, rfl, _, rfl, ite2 (fun hb2 => ?_) (fun hb2 => ?_)⟩⟩
      · refine ⟨by show 12 ≤ sizeLine; decide, fun a ha => ?_⟩
        have s2 := s1.trans (same_new (o := .lst (sv W2)) ha)
        refine ⟨_, rfl, _, _, rfl, rfl, ⟨by decide, by decide⟩, .inl ⟨_, rfl, _, _, rfl, rfl, by show (0 : Int) < 12; decide, ?_⟩⟩
        obtain ⟨c, hc⟩ := Int.eq_ofNat_of_zero_le (Int.emod_nonneg (sd / 6) (show (12 : Int) ≠ 0 by decide))
        refine ⟨_, rfl, _, rfl, _, rfl, a, _, rfl, SqL.of upd_same, fun p hp2 => ?_⟩
        have hbp : a ≠ p := ne_of_none upd_same hp2
        have hp3 := hp2
        have s3 := s2.trans (same_new (o := .lst (cutV (sv W2) (some (sd / 6 % 12)) none)) hp2)
        refine ⟨_, rfl, _, rfl, _, rfl, a, _, rfl, SqL.of (by rw [upd_ne hbp]; exact upd_same), fun q hq => ?_⟩
        have hpq : p ≠ q := ne_of_none upd_same hq
        have s4 := s3.trans (same_new (o := .lst (cutV (sv W2) none (some (sd / 6 % 12)))) hq)
        refine ⟨p, q, _, _, rfl, rfl, by rw [upd_ne hpq]; exact upd_same, upd_same, ?_, fun t ht => ?_⟩
        · rw [hc, cut_dropG, cut_takeG]
          refine Nat.le_trans (m := 24) ?_ (by decide)
          rw [List.length_drop, List.length_take]
          show 12 - c + min c 12 ≤ 24
          omega
        · have s5 := s4.trans (same_new (o := .lst (cutV (sv W2) (some (sd / 6 % 12)) none ++ cutV (sv W2) none (some (sd / 6 % 12)))) ht)
          refine ⟨_, rfl, _, rfl, t, _, rfl, SqL.of upd_same, fun r hr2 => ?_⟩
          have s6 := s5.trans (same_new (o := .lst (cutV (cutV (sv W2) (some (sd / 6 % 12)) none ++ cutV (sv W2) none (some (sd / 6 % 12))) none (some (n : Int)))) hr2)
          have eL : cutV (cutV (sv W2) (some (sd / 6 % 12)) none ++ cutV (sv W2) none (some (sd / 6 % 12))) none (some (n : Int)) = sv ((((W2).drop c) ++ (W2).take c).take n) := by
            rw [hc, cut_dropG, cut_takeG, cut_takeG, sv_drop, sv_take, sv_app, sv_take]
          have pr := rot_perm W2 c
          refine k r _ _ s6 (none_of s5 hr2) (by rw [← eL]; exact upd_same) ?_ ?_
          · rw [List.length_take, pr.length_eq, show (W2).length = 12 from rfl]; omega
          · exact ⟨w2_ok.sub pr (List.take_sublist _ _), fun z hz => low2 z (pr.mem_iff.mp (List.mem_of_mem_take hz))⟩
      · have a := a0
        have s2 := s1
        refine ⟨_, rfl, _, _, rfl, rfl, ⟨by decide, by decide⟩, .inl ⟨_, rfl, _, _, rfl, rfl, by show (0 : Int) < 12; decide, ?_⟩⟩
        obtain ⟨c, hc⟩ := Int.eq_ofNat_of_zero_le (Int.emod_nonneg (sd / 6) (show (12 : Int) ≠ 0 by decide))
        refine ⟨_, rfl, _, rfl, _, rfl, a0, _, rfl, SqL.of upd_same, fun p hp2 => ?_⟩
        have hbp : a0 ≠ p := ne_of_none upd_same hp2
        have hp3 := hp2
        have s3 := s2.trans (same_new (o := .lst (cutV (sv W1) (some (sd / 6 % 12)) none)) hp2)
        refine ⟨_, rfl, _, rfl, _, rfl, a0, _, rfl, SqL.of (by rw [upd_ne hbp]; exact upd_same), fun q hq => ?_⟩
        have hpq : p ≠ q := ne_of_none upd_same hq
        have s4 := s3.trans (same_new (o := .lst (cutV (sv W1) none (some (sd / 6 % 12)))) hq)
        refine ⟨p, q, _, _, rfl, rfl, by rw [upd_ne hpq]; exact upd_same, upd_same, ?_, fun t ht => ?_⟩
        · rw [hc, cut_dropG, cut_takeG]
          refine Nat.le_trans (m := 24) ?_ (by decide)
          rw [List.length_drop, List.length_take]
          show 12 - c + min c 12 ≤ 24
          omega
        · have s5 := s4.trans (same_new (o := .lst (cutV (sv W1) (some (sd / 6 % 12)) none ++ cutV (sv W1) none (some (sd / 6 % 12)))) ht)
          refine ⟨_, rfl, _, rfl, t, _, rfl, SqL.of upd_same, fun r hr2 => ?_⟩
          have s6 := s5.trans (same_new (o := .lst (cutV (cutV (sv W1) (some (sd / 6 % 12)) none ++ cutV (sv W1) none (some (sd / 6 % 12))) none (some (n : Int)))) hr2)
          have eL : cutV (cutV (sv W1) (some (sd / 6 % 12)) none ++ cutV (sv W1) none (some (sd / 6 % 12))) none (some (n : Int)) = sv ((((W1).drop c) ++ (W1).take c).take n) := by
            rw [hc, cut_dropG, cut_takeG, cut_takeG, sv_drop, sv_take, sv_app, sv_take]
          have pr := rot_perm W1 c
          refine k r _ _ s6 (none_of s5 hr2) (by rw [← eL]; exact upd_same) ?_ ?_
          · rw [List.length_take, pr.length_eq, show (W1).length = 12 from rfl]; omega
          · exact ⟨w1_ok.sub pr (List.take_sublist _ _), fun z hz => low1 z (pr.mem_iff.mp (List.mem_of_mem_take hz))⟩
    · refine ⟨by show 0 ≤ sizeLine; decide, fun D hD => ?_⟩
      have s0 := same_new (o := .lst []) hD
      refine ⟨_, rfl, _, rfl, by omega, by omega, for_range (n := ((n : Nat) : Int).toNat) (fun i σ H2 => Same H H2 ∧ ∃ (ns : List Str) (u1 u2 u3 u4 : Option V), σ = [some (.int (n : Nat)), some (.int sd), none, none, some (.ref D), u1, u2, u3, u4] ∧ H2 D = some (.lst (sv ns)) ∧ Mades sd ns ∧ ns.length = i)
        ⟨s0, [], none, none, none, none, rfl, upd_same, (fun t z e => by simp at e), rfl⟩ ?_ ?_⟩
      · rintro i σ H2 hi ⟨sm, ns, u1, u2, u3, u4, rfl, hd2, hM, hl⟩
        have c0 := Int.emod_nonneg ((0 + (i : Int)) * 5 + sd) (show (12 : Int) ≠ 0 by decide)
        have c1 := Int.emod_lt_of_pos ((0 + (i : Int)) * 5 + sd) (show (0 : Int) < 12 by decide)
        have a0 := Int.emod_nonneg (sd / 12 + (0 + (i : Int))) (show (14 : Int) ≠ 0 by decide)
        have a1 := Int.emod_lt_of_pos (sd / 12 + (0 + (i : Int))) (show (0 : Int) < 14 by decide)
        have b0 := Int.emod_nonneg (sd / 7 + (0 + (i : Int)) * 3) (show (14 : Int) ≠ 0 by decide)
        have b1 := Int.emod_lt_of_pos (sd / 7 + (0 + (i : Int)) * 3) (show (0 : Int) < 14 by decide)
        have m0 := Int.emod_nonneg (sd / 5 + (0 + (i : Int)) * 2) (show (3 : Int) ≠ 0 by decide)
        have m1 := Int.emod_lt_of_pos (sd / 5 + (0 + (i : Int)) * 2) (show (0 : Int) < 3 by decide)
        have n0 := Int.emod_nonneg (sd / 11 + (0 + (i : Int))) (show (4 : Int) ≠ 0 by decide)
        have n1 := Int.emod_lt_of_pos (sd / 11 + (0 + (i : Int))) (show (0 : Int) < 4 by decide)
        have p0 := Int.emod_nonneg (sd / 2) (show (3 : Int) ≠ 0 by decide)
        have p1 := Int.emod_lt_of_pos (sd / 2) (show (0 : Int) < 3 by decide)
        have q0 := Int.emod_nonneg (sd / 6) (show (3 : Int) ≠ 0 by decide)
        have q1 := Int.emod_lt_of_pos (sd / 6) (show (0 : Int) < 3 by decide)
        refine ⟨_, rfl, _, _, rfl, rfl, .inr (by decide), _, rfl, _, _, rfl, rfl, .inl ⟨_, rfl, _, _, rfl, rfl, by show (0 : Int) < 12; decide, _, _, _, rfl, rfl, core_len, core_at c0 c1, ?_⟩⟩
        refine ⟨_, rfl, _, _, rfl, rfl, ⟨by decide, by decide⟩, _, rfl, _, _, rfl, rfl, .inl ⟨_, rfl, _, _, rfl, rfl, by show (0 : Int) < 14; decide, _, _, _, rfl, rfl, left_len, left_at a0 a1, ?_⟩⟩
        refine ⟨_, rfl, _, _, rfl, rfl, ⟨by decide, by decide⟩, _, rfl, _, _, rfl, rfl, .inr (by decide), _, _, rfl, rfl, .inl ⟨_, rfl, _, _, rfl, rfl, by show (0 : Int) < 3; decide, _, _, rfl, rfl, mulOk1 _ m0 (by omega), ?_⟩⟩
        refine ⟨_, rfl, _, _, rfl, rfl, ⟨by decide, by decide⟩, _, rfl, _, _, rfl, rfl, .inr (by decide), _, _, rfl, rfl, .inl ⟨_, rfl, _, _, rfl, rfl, by show (0 : Int) < 14; decide, _, _, _, rfl, rfl, right_len, right_at b0 b1, ?_⟩⟩
        refine ⟨_, rfl, _, _, rfl, rfl, ⟨by decide, by decide⟩, _, rfl, _, _, rfl, rfl, .inl ⟨_, rfl, _, _, rfl, rfl, by show (0 : Int) < 4; decide, _, _, rfl, rfl, mulOk1 _ n0 (by omega), ?_⟩⟩
        have sl := side1 (c := 109 + ((sd / 12 + (0 + (i : Int))) % 14).toNat) (n := (sd / 5 + (0 + (i : Int)) * 2) % 3) (by omega) (by omega) m0 (by omega)
        have sr := side1 (c := 122 - ((sd / 7 + (0 + (i : Int)) * 3) % 14).toNat) (n := (sd / 11 + (0 + (i : Int))) % 4) (by omega) (by omega) n0 (by omega)
        have ecore : ((0 + (i : Int)) * 5 + sd) % 12 = ((ns.length : Int) * 5 + sd) % 12 := by rw [hl, Int.zero_add]
        have fin : ∀ (l r : Str), Side l → Side r → l.length + 1 ≤ sizeLine ∧ (l ++ l1 (97 + (((0 + (i : Int)) * 5 + sd) % 12).toNat)).length + r.length ≤ sizeLine ∧ Mades sd (ns ++ [l ++ l1 (97 + (((0 + (i : Int)) * 5 + sd) % 12).toNat) ++ r]) := fun l r hl2 hr2 => by
          have x1 := hl2.2
          have x2 := hr2.2
          refine ⟨Nat.le_trans (m := 24) (by omega) (by decide), Nat.le_trans (m := 24) ?_ (by decide), hM.app ?_⟩
          · rw [Str.length_append, show (l1 (97 + (((0 + (i : Int)) * 5 + sd) % 12).toNat)).length = 1 from rfl]; omega
          · rw [← ecore]; exact made_of hl2 hr2 (by omega) (by omega)
        refine ⟨_, rfl, .inl ⟨_, rfl, _, _, rfl, rfl, by show (0 : Int) < 2; decide, rfl, _, rfl, ite2 (fun hb2 => ?_) (fun hb2 => ?_)⟩⟩
        · refine ⟨_, rfl, _, _, rfl, rfl, ⟨by decide, by decide⟩, .inl ⟨_, rfl, _, _, rfl, rfl, by show (0 : Int) < 3; decide, _, _, rfl, rfl, by rw [em]; exact mulOk1 _ p0 (by omega), ?_⟩⟩
          refine ⟨_, rfl, _, _, rfl, rfl, ⟨by decide, by decide⟩, .inl ⟨_, rfl, _, _, rfl, rfl, by show (0 : Int) < 3; decide, _, _, rfl, rfl, by rw [ez]; exact mulOk1 _ q0 (by omega), ?_⟩⟩
          have sl2 := side1 (c := 109) (n := sd / 2 % 3) (by omega) (by omega) p0 (by omega)
          have sr2 := side1 (c := 122) (n := sd / 6 % 3) (by omega) (by omega) q0 (by omega)
          rw [← em] at sl2
          rw [← ez] at sr2
          obtain ⟨f1, f2, f3⟩ := fin _ _ sl2 sr2
          refine ⟨_, rfl, .inl ⟨rfl, _, SqL.of hd2⟩, _, rfl, _, rfl, _, _, rfl, rfl, f1, _, rfl, _, _, rfl, rfl, f2, D, _, _, rfl, rfl, hd2, small_int (by rw [len_sv]; omega), ?_⟩
          refine ⟨fun x u e => ?_, _, _, _, _, _, rfl, ?_, f3, by rw [List.length_append, hl]; rfl⟩
          · rw [upd_ne (ne_of_none e hD)]; exact sm _ _ e
          · rw [sv_snoc']; exact upd_same
        · obtain ⟨f1, f2, f3⟩ := fin _ _ sl sr
          refine ⟨_, rfl, .inl ⟨rfl, _, SqL.of hd2⟩, _, rfl, _, rfl, _, _, rfl, rfl, f1, _, rfl, _, _, rfl, rfl, f2, D, _, _, rfl, rfl, hd2, small_int (by rw [len_sv]; omega), ?_⟩
          refine ⟨fun x u e => ?_, _, _, _, _, _, rfl, ?_, f3, by rw [List.length_append, hl]; rfl⟩
          · rw [upd_ne (ne_of_none e hD)]; exact sm _ _ e
          · rw [sv_snoc']; exact upd_same
      · rintro σ H2 ⟨sm, ns, u1, u2, u3, u4, rfl, hd2, hM, hl⟩
        rw [Int.toNat_natCast] at hl
        exact ⟨_, rfl, k D ns H2 sm hD hd2 hl ⟨hM.nms (by omega), hM.low⟩⟩
def spIsNum : Sp := fun vs H Q _ => ∃ (v a b : Int), vs = [.int v, .int a, .int b] ∧ Q (.bl (decide (a ≤ v ∧ v ≤ b))) H
theorem ok_isNum (T : Txt P K mg A) : FnOk P w K mg base CX0 1 A.a_law_is_number A.d_law_is_number ["value", "least", "most"] spIsNum := by
  refine T.F_law_is_number.ok sc_law_is_number (fun vs H Q E h => ?_) (fun cdv A' outer s H vs Q E hr h => ?_)
  · obtain ⟨v, a, b, rfl, _⟩ := h
    rfl
  · obtain ⟨v, a, b, rfl, k⟩ := h
    refine ⟨_, (pss_one (ps_ret (pe_and (pe_callB call_isi (by rfl) T.n_isinstance (by decide +kernel) (pa_cons (pv 0) (pa_cons (pe_bltn (v := .ty "int") (by rfl) T.n_int (by decide +kernel) rfl) pa_nil))) (pe_and (pe_not (pe_callB call_isi (by rfl) T.n_isinstance (by decide +kernel) (pa_cons (pv 0) (pa_cons (pe_bltn (v := .ty "bool") (by rfl) T.n_bool (by decide +kernel) rfl) pa_nil)))) (pe_and (pe_cmpR op_le (pv 1) (pv 0) (nomark _)) (pe_one (pe_cmpR op_le (pv 0) (pv 2) (nomark _)))))))), ?_⟩
    refine ⟨_, rfl, _, _, _, _, true, rfl, .ty _, .base (.int _), kit_ty (by decide +kernel), true, rfl, iteT ?_⟩
    refine ⟨_, rfl, _, _, _, _, false, rfl, .ty _, .base (.int _), kit_ty (by decide +kernel), false, rfl, true, rfl, iteT ?_⟩
    refine ⟨_, rfl, _, rfl, _, _, rfl, rfl, _, rfl, ?_⟩
    by_cases h1 : a ≤ v
    · refine itY h1 ⟨_, rfl, _, rfl, _, _, rfl, rfl, ?_⟩
      rw [show decide (a ≤ v ∧ v ≤ b) = decide (v ≤ b) from decide_eq_decide.mpr ⟨fun h => h.2, fun h => ⟨h1, h⟩⟩] at k
      exact k
    · refine itN h1 ?_
      rw [decide_eq_false (fun h => h1 h.1)] at k
      exact k
end
end My
set_option maxRecDepth 100000
set_option maxHeartbeats 4000000
set_option exponentiation.threshold 10000
namespace My
open PySem L2
open C8 (pss_cut)
theorem atS_of {ss : List Str} {i : Nat} {z : Str} (h : ss[i]? = some z) : atI (sv ss) (i : Int) = some (V.str z) := atI_nat (by rw [List.getElem?_map, h]; rfl)
def bl (m : Nat) : Nat := Builtin.Int.intBits (m : Int)
theorem bl_le {m k : Nat} (h : m < 2 ^ k) : bl m ≤ k := PyProof.Rows.intBits_le (by rw [Int.natAbs_natCast]; exact h)
theorem lt_bl (m : Nat) : m < 2 ^ bl m := by
  unfold bl Builtin.Int.intBits
  split
  · rename_i h
    have : m = 0 := by simpa using h
    rw [this]; exact Nat.one_pos
  · rw [Int.natAbs_natCast]; exact Nat.lt_log2_self
theorem bit_odd (m i : Nat) : (m : Int) / 2 ^ i = ((m / 2 ^ i : Nat) : Int) := by push_cast; rfl
theorem bit_dec (m i : Nat) : m.testBit i = decide (m / 2 ^ i % 2 = 1) := Nat.testBit_eq_decide_div_mod_eq
def niv (l : List Nat) : List V := l.map fun n => V.int (n : Nat)
theorem niv_len (l : List Nat) : (niv l).length = l.length := List.length_map ..
theorem niv_get {l : List Nat} {i : Nat} {v : V} (h : (niv l)[i]? = some v) : ∃ n, l[i]? = some n ∧ v = .int (n : Nat) := by
  unfold niv at h
  rw [List.getElem?_map] at h
  cases e : l[i]? with
  | none => rw [e] at h; cases h
  | some t => rw [e] at h; exact ⟨t, rfl, (Option.some.inj h).symm⟩
theorem numsB_len (m n : Nat) : (numsB m n).length ≤ n := by
  have := List.length_filter_le (fun i => m.testBit i) (List.range n)
  rw [List.length_range] at this
  exact this
theorem numsB_bl {m n : Nat} (h : m < 2 ^ n) : numsB m (bl m) = numsB m n := asc_ext (numsB_asc _ _) (numsB_asc _ _) fun x => by
  rw [mem_numsB, mem_numsB]
  exact ⟨fun q => ⟨bit_lt h q.2, q.2⟩, fun q => ⟨bit_lt (lt_bl m) q.2, q.2⟩⟩
abbrev ivs (b : List Int) : List V := b.map V.int
theorem ivs_len (b : List Int) : (ivs b).length = b.length := List.length_map ..
def pwl (P : Nat → Bool) (n : Nat) : List Int := ((List.range n).filter P).map fun p => (2 : Int) ^ p
theorem pwl_T {P : Nat → Bool} {n : Nat} (h : P n = true) : ivs (pwl P (n + 1)) = ivs (pwl P n) ++ [V.int (2 ^ n)] := by
  unfold pwl ivs
  rw [List.range_succ, List.filter_append, List.map_append, List.map_append, List.filter_cons_of_pos h]; rfl
theorem pwl_F {P : Nat → Bool} {n : Nat} (h : P n = false) : ivs (pwl P (n + 1)) = ivs (pwl P n) := by
  unfold pwl
  rw [List.range_succ, List.filter_append, List.filter_cons_of_neg (by rw [h]; decide)]; simp
theorem pwl_len (P : Nat → Bool) (n : Nat) : (ivs (pwl P n)).length ≤ n := by
  have := List.length_filter_le P (List.range n)
  rw [List.length_range] at this
  unfold pwl; rw [ivs_len, List.length_map]; exact this
theorem pwl_sum (P : Nat → Bool) (n : Nat) : (pwl P n).sum = ((bm P n : Nat) : Int) := by
  induction n with
  | zero => rfl
  | succ n ih =>
    have e : bm P (n + 1) = bm P n + if P n then 2 ^ n else 0 := rfl
    rw [e]
    unfold pwl at *
    rw [List.range_succ, List.filter_append, List.map_append, List.sum_append, ih]
    by_cases h : P n = true
    · rw [List.filter_cons_of_pos h, if_pos h]; simp
    · rw [List.filter_cons_of_neg (by simpa using h), if_neg h]; simp
def pickS (cs : List Str) (l : List Nat) : List Str := l.filterMap fun i => cs[i]?
section
variable {P : Program} {w : World} {K : PySem.W.Frag} {mg : Str → Option Value} {base : Heap} {A : Ad}
def spNumsIn : Sp := fun vs H Q _ => ∃ m n : Nat, vs = [.int (m : Nat)] ∧ m < 2 ^ n ∧ n ≤ 12 ∧ ∀ a H', Same H H' → H a = none → H' a = some (.lst (niv (numsB m n))) → Q (.ref a) H'
theorem ok_numsIn (T : Txt P K mg A) : FnOk P w K mg base CX0 1 A.a_numbers_in A.d_numbers_in ["mask"] spNumsIn := by
  refine T.F_numbers_in.ok sc_numbers_in (fun vs H Q E h => ?_) (fun cdv A' outer s H vs Q E hr h => ?_)
  · obtain ⟨m, n, rfl, _⟩ := h
    rfl
  · obtain ⟨m, n, rfl, hm, hn, k⟩ := h
    refine ⟨_, (pss_one (ps_ret (pe_lc (own := [("number", 1)]) (g := gName 1) (tt := _) rfl sc_numbers_in.nd (pi_range1 (by rfl) T.n_range (pa_cons (pe_bits (pv 0)) pa_nil)) (blkOk_by (N := ["mask", "number"]) (sc := defScope s_numbers_in) (by decide +kernel)) (fun _ _ _ _ _ => (pg_name (i := 1) sc_numbers_in.nd rfl (Or.inl rfl))) (fun _ _ _ _ _ => (pts_one (show PT _ _ (tTruK K _) from pt_truth (pe_op op_odd (pe_op op_shrN (pv 0) (pv 1)) pe_int) (by intro _; rfl)))) (fun _ _ _ _ _ => (pv 1))))), ?_⟩
    have hb : bl m ≤ 12 := Nat.le_trans (bl_le hm) hn
    have e1 : ((bl m : Nat) : Int).toNat = bl m := Int.toNat_natCast _
    refine ⟨_, rfl, _, rfl, _, rfl, (by show -2 ^ 62 ≤ ((bl m : Nat) : Int); omega), (by show ((bl m : Nat) : Int) < 2 ^ 62; omega), fun D hD => lc_range (n := (((bl m : Nat) : Int)).toNat) (PvS H D fun i => niv (numsB m i)) (pv0 hD rfl) ?_ ?_⟩
    · rintro i H3 hi q
      rw [e1] at hi
      have hi0 : (0 : Int) + (i : Int) = (i : Int) := by omega
      have stepT : m.testBit i = true → niv (numsB m (i + 1)) = niv (numsB m i) ++ [V.int (0 + (i : Int))] := fun h => by
        unfold niv numsB
        rw [List.range_succ, List.filter_append, List.map_append, List.filter_cons_of_pos h, hi0]; rfl
      have stepF : m.testBit i = false → niv (numsB m (i + 1)) = niv (numsB m i) := fun h => by
        unfold niv numsB
        rw [List.range_succ, List.filter_append, List.map_append, List.filter_cons_of_neg (by rw [h]; decide)]; simp
      have hl : (niv (numsB m i)).length ≤ 1000000 := by rw [niv_len]; have := numsB_len m i; omega
      refine ⟨rfl, _, rfl, _, rfl, _, i, rfl, by rw [hi0], m / 2 ^ i, by rw [bit_odd], rfl, ?_⟩
      rw [bit_dec] at stepT stepF
      by_cases h : m / 2 ^ i % 2 = 1
      · rw [h]
        exact ⟨_, rfl, ifT rfl ⟨_, rfl, q.push hD (stepT (decide_eq_true h)) hl⟩⟩
      · have : m / 2 ^ i % 2 = 0 := by omega
        rw [this]
        exact ⟨_, rfl, ifF rfl (q.skip (stepF (decide_eq_false h)))⟩
    · rintro H3 ⟨sm, h3⟩
      have h3 : H3 D = some (.lst (niv (numsB m ((bl m : Nat) : Int).toNat))) := h3
      rw [e1, numsB_bl hm] at h3
      exact k D H3 sm hD h3
def spNamed (K : PySem.W.Frag) : Sp := fun vs H Q _ => ∃ (a c : Addr) (l : List Nat) (cs : List Str), vs = [.ref a, .ref c] ∧ SqL K H a (niv l) ∧ SqT K H c (sv cs) ∧ (∀ x ∈ l, x < cs.length) ∧ l.length ≤ 1000 ∧ ∀ d H', Same H H' → H d = none → H' d = some (.lst (sv (pickS cs l))) → Q (.ref d) H'
theorem ok_named (T : Txt P K mg A) : FnOk P w K mg base CX0 1 A.a_named A.d_named ["numbers", "columns"] (spNamed K) := by
  refine T.F_named.ok sc_named (fun vs H Q E h => ?_) (fun cdv A' outer s H vs Q E hr h => ?_)
  · obtain ⟨a, c, l, cs, rfl, _⟩ := h
    rfl
  · obtain ⟨a, c, N, cs, rfl, ha, h1, hN, nl, k⟩ := h
    refine ⟨_, (pss_one (ps_ret (pe_lc (own := [("number", 2)]) (g := gName 2) (tt := tYes) rfl sc_named.nd (pi_list (pv 0)) (blkOk_by (N := ["numbers", "columns", "number"]) (sc := defScope s_named) (by decide +kernel)) (fun _ _ _ _ _ => (pg_name (i := 2) sc_named.nd rfl (Or.inl rfl))) (fun _ _ _ _ _ => pts_nil) (fun _ _ _ _ _ => (pe_ix (show IxR _ (rIxT K) from ix_tup) (pv 1) (pv 2) (fun _ _ => rfl)))))), ?_⟩
    refine ⟨_, rfl, a, rfl, ⟨_, ha⟩, fun D hD => lc_it walk_list (PvS H D fun i => sv (pickS cs (N.take i))) (pv0 hD rfl) (fun i H2 _ q => q.1.seq ha) ?_ ?_⟩
    · rintro i x H3 H4 hi q ⟨rfl, hx⟩
      obtain ⟨n, hn, rfl⟩ := niv_get hx
      have hn2 := hN n (List.mem_of_getElem? hn)
      have hc : cs[n]? = some cs[n] := List.getElem?_eq_getElem hn2
      refine ⟨rfl, _, rfl, _, rfl, c, _, _, _, rfl, rfl, q.1.tup h1, atS_of hc, q.push hD ?_ ?_⟩
      · show sv (pickS cs (N.take (i + 1))) = sv (pickS cs (N.take i)) ++ [V.str cs[n]]
        rw [take_succ hn]
        unfold pickS
        rw [List.filterMap_append, List.filterMap_cons, hc]
        exact List.map_append
      · rw [len_sv]
        have := List.length_filterMap_le (fun i => cs[i]?) (N.take i)
        rw [List.length_take] at this
        unfold pickS; omega
    · rintro H3 ⟨sm, h3⟩
      have h3 : H3 D = some (.lst (sv (pickS cs (N.take (niv N).length)))) := h3
      rw [niv_len, List.take_length] at h3
      exact k D H3 sm hD h3
def spIsFull (K : PySem.W.Frag) : Sp := fun vs H Q _ => ∃ (c : Nat) (a : Addr) (M : Nat → Nat → Bool) (n : Nat), vs = [.int (c : Nat), .ref a] ∧ SqL K H a (niv ((List.range n).map fun i => bm (M i) n)) ∧ n ≤ 12 ∧ ∀ H', Same H H' → Q (.bl (fullM M n c)) H'
theorem ok_isFull (T : Txt P K mg A) : FnOk P w K mg base CX0 1 A.a_is_full A.d_is_full ["company", "known"] (spIsFull K) := by
  refine T.F_is_full.ok sc_is_full (fun vs H Q E h => ?_) (fun cdv A' outer s H vs Q E hr h => ?_)
  · obtain ⟨c, a, M, n, rfl, _⟩ := h
    rfl
  · obtain ⟨c, a, M, n, rfl, ha, hn, k⟩ := h
    refine ⟨_, (pss_one (ps_ret (pe_cmpR op_eq (pv 0) (pe_callB (cr_sum rfl) (by rfl) T.n_sum (by decide +kernel) (pa_cons (pe_lc (own := [("number", 2), ("mask", 3)]) (g := gTup K 2 (gCons (gName 2) (gCons (gName 3) gNil))) (tt := _) rfl sc_is_full.nd (pi_enum (by rfl) T.n_enumerate (pa_cons (pv 1) pa_nil)) (blkOk_by (N := ["company", "known", "number", "mask"]) (sc := defScope s_is_full) (by decide +kernel)) (fun _ _ _ _ _ => (pg_tup (by rfl) (pgs_cons (pg_name (i := 2) sc_is_full.nd rfl (Or.inl rfl)) (pgs_cons (pg_name (i := 3) sc_is_full.nd rfl (Or.inl rfl)) pgs_nil)))) (fun _ _ _ _ _ => (pts_one (pt_cmpR op_eq (pe_op op_andNot (pe_op op_andNot (pv 0) (pe_un L2.un_inv (pe_op op_shlN pe_int (pv 2)))) (pe_un L2.un_inv (pv 3))) pe_int (nomark _)))) (fun _ _ _ _ _ => (pe_op op_shlN pe_int (pv 2)))) pa_nil)) (nomark _)))), ?_⟩
    let f : Nat → Bool := fun i => decide (andN (andN c (2 ^ i)) (bm (M i) n) = 0)
    have hsh : ∀ i : Nat, i < n → CShl 1 (i : Int) := fun i hi => ⟨by omega, by
      have : Builtin.Int.intBits 1 ≤ 1 := PyProof.Rows.intBits_le (by decide)
      omega⟩
    refine ⟨_, rfl, _, rfl, a, _, rfl, ha, fun D hD => lc_it walk_enum (PvS H D fun i => ivs (pwl f i)) (pv0 hD rfl) (fun i H2 _ q => q.1.seq ha) ?_ ?_⟩
    · rintro i x H3 H4 hi q ⟨t, _, _, rfl, ht, rfl, ⟨⟩, hx⟩
      have hil : i < n := by rw [niv_len, List.length_map, List.length_range] at hi; exact hi
      obtain ⟨m, hm, rfl⟩ := niv_get hx
      rw [List.getElem?_map, List.getElem?_range hil] at hm
      cases hm
      have q' := q.more (same_new (o := .tup [.int (i : Nat), .int ((bm (M i) n : Nat) : Int)]) ht)
      have hl2 := pwl_len f i
      refine ⟨t, _, rfl, SqT.of upd_same, rfl, _, _, rfl, _, _, rfl, rfl, rfl, ?_⟩
      refine ⟨_, rfl, _, rfl, 1, i, rfl, rfl, hsh i hil, _, rfl, c, 2 ^ i, rfl, by rw [Int.one_mul]; push_cast; rfl, _, rfl, _, rfl, _, _, rfl, rfl, rfl, _, rfl, ?_⟩
      have e : decide (V.int ((andN (andN c (2 ^ i)) (bm (M i) n) : Nat) : Int) = V.int 0) = f i := by
        show _ = decide _
        rw [decide_eq_decide, V.int.injEq]; omega
      rw [e]
      by_cases hm : f i = true
      · rw [hm]
        refine ifT rfl ⟨_, rfl, 1, i, rfl, rfl, hsh i hil, ?_⟩
        rw [Int.one_mul]; exact q'.push hD (pwl_T hm) (by omega)
      · exact ifF (by simpa using hm) (q'.skip (pwl_F (by simpa using hm)))
    · rintro H3 ⟨sm, h3⟩
      have h3 : H3 D = some (.lst (ivs (pwl f (niv ((List.range n).map fun i => bm (M i) n)).length))) := h3
      rw [niv_len, List.length_map, List.length_range] at h3
      refine ⟨D, _, rfl, SqL.of h3, rfl, ?_⟩
      rw [pwl_sum]
      have e : decide (V.int (c : Int) = V.int ((bm f n : Nat) : Int)) = fullM M n c := by
        show _ = decide (c = bm f n)
        rw [decide_eq_decide, V.int.injEq]; omega
      rw [e]
      exact k H3 sm
end
end My
set_option maxRecDepth 100000
set_option maxHeartbeats 4000000
set_option exponentiation.threshold 10000
namespace My
open PySem L2
open C8 (pss_cut)
theorem krp : ¬ (("guests" : Str) = "pairs") := by decide +kernel
def fldsM (gt pt : Addr) : List (Str × V) := putF "pairs" (.ref pt) (putF "guests" (.ref gt) [])
theorem fldsM_guests (gt pt : Addr) : (fldsM gt pt).lookup ("guests" : Str) = some (.ref gt) := by
  unfold fldsM; rw [lookup_putF, if_neg krp, lookup_putF, if_pos rfl]
theorem fldsM_pairs (gt pt : Addr) : (fldsM gt pt).lookup ("pairs" : Str) = some (.ref pt) := by
  unfold fldsM; rw [lookup_putF, if_pos rfl]
theorem fldsM_met (gt pt : Addr) : (fldsM gt pt).lookup ("met" : Str) = none := by
  unfold fldsM; rw [lookup_putF, if_neg (by decide +kernel), lookup_putF, if_neg (by decide +kernel)]; rfl
theorem fldsM_known (gt pt : Addr) : (fldsM gt pt).lookup ("_known_by" : Str) = none := by
  unfold fldsM; rw [lookup_putF, if_neg (by decide +kernel), lookup_putF, if_neg (by decide +kernel)]; rfl
theorem fldsM_comp (gt pt : Addr) : (fldsM gt pt).lookup ("companies" : Str) = none := by
  unfold fldsM; rw [lookup_putF, if_neg (by decide +kernel), lookup_putF, if_neg (by decide +kernel)]; rfl
/-- meetings: their guests and pairs -/
def Mt (C : Addr) (H : Hp) (p : Addr) (gs : List Str) (ps : List (List Str)) : Prop :=
  ∃ dx gt pt ts, H p = some (.ins C dx (fldsM gt pt)) ∧ H gt = some (.tup (sv gs)) ∧ H pt = some (.tup (ts.map V.ref)) ∧ Lss .tup H ts ps
theorem Mt.same {C : Addr} {H H' : Hp} {p : Addr} {gs : List Str} {ps : List (List Str)} (h : Mt C H p gs ps) (e : Same H H') : Mt C H' p gs ps :=
  let ⟨dx, gt, pt, ts, a, b, c, d⟩ := h; ⟨dx, gt, pt, ts, e _ _ a, e _ _ b, e _ _ c, d.same e⟩
def metB (ps : List (List Str)) (a b : Str) : Bool := decide ([a, b] ∈ ps) || decide ([b, a] ∈ ps)
theorem metB_comm (ps : List (List Str)) (a b : Str) : metB ps a b = metB ps b a := Bool.or_comm _ _
theorem shaped_pddT {rs : List (List Str)} (h : ∀ r ∈ rs, ∀ z ∈ r, Okz z) : SeqAt.shaped (.tuple (pdd rs)) = true := shapedT (lay_pdd h) (Nat.le_trans (depth_pdd rs) (by decide))
section
variable {P : Program} {w : World} {K : PySem.W.Frag} {mg : Str → Option Value} {base : Heap} {A : Ad}
def spMetX (C U : Addr) : Sp := fun vs H Q E => ∃ (p : Addr) (a b : Str) (gs : List Str) (ps : List (List Str)), vs = [.ref p, .str a, .str b] ∧ Mt C H p gs ps ∧ Okz a ∧ Okz b ∧ a.length ≤ 1000 ∧ b.length ≤ 1000 ∧ (∀ q ∈ ps, ∀ z ∈ q, Okz z) ∧
  (a ∈ gs → b ∈ gs → ∀ H', Same H H' → Q (.bl (metB ps a b)) H') ∧ ∀ z, (z = a ∧ a ∉ gs) ∨ (z = b ∧ a ∈ gs ∧ b ∉ gs) → ∀ d H', Same H H' → H' d = some (.xd [("name", .str z)]) → E (.ref U) (some d) H'
theorem ok_metX (T : Txt P K mg A) : FnOk P w K mg base (L2.CX P w) 3 A.a_Meetings_met A.d_Meetings_met ["self", "a", "b"] (spMetX A.C_Meetings A.C_UnknownGuest) := by
  have G_UnknownGuest_init := ok_UnknownGuest (P := P) (w := w) (base := base) T
  refine funX T.F_Meetings_met sc_Meetings_met (fun vs H Q E h => ?_) (fun cdv A' outer s H vs Q E hr h => ?_)
  · obtain ⟨p, a, b, gs, ps, rfl, _⟩ := h
    rfl
  · obtain ⟨p, a, b, gs, ps, rfl, hM, oa, ob, la, lb, op, kq, ke⟩ := h
    refine ⟨_, (pss_cons (ps_for (passes_of rfl) rfl (pi_tup (pe_tup (pa_cons (pv 1) (pa_cons (pv 2) pa_nil)))) (pg_name (i := 3) sc_Meetings_met.nd rfl (Or.inl rfl))
        (pss_one (ps_if (pt_cmpR op_notIn_seq (pv 3) (pe_fld (pv 0) rfl) (by with_unfolding_all rfl)) (pss_one (ps_raise rfl (takes_of rfl rfl rfl rfl) (pmk_oex T.SC_UnknownGuest.ox T.ii_UnknownGuest T.ti_UnknownGuest G_UnknownGuest_init (hr.mono (by decide)) T.b_UnknownGuest_init .nil pass0 rfl T.mg_UnknownGuest (pa_cons (pv 3) pa_nil)))) pss_nil)))
      (pss_one (ps_ret (pe_or (pe_cmpR (op_inDT (hu65 hr)) (pe_tup (pa_cons (pv 1) (pa_cons (pv 2) pa_nil))) (pe_fld (pv 0) rfl) (by with_unfolding_all rfl)) (pe_one (pe_cmpR (op_inDT (hu65 hr)) (pe_tup (pa_cons (pv 2) (pa_cons (pv 1) pa_nil))) (pe_fld (pv 0) rfl) (by with_unfolding_all rfl))))))), ?_⟩
    obtain ⟨dx, gt, pt, ts, h1, h2, h3, h4⟩ := hM
    refine ⟨_, rfl, _, rfl, by show 2 ≤ sizeLine; decide, fun t ht => ?_⟩
    generalize hG : upd H t _ = H1
    have s1 : Same H H1 := hG ▸ same_new ht
    have ht1 := (congrFun hG t).symm.trans upd_same
    clear hG
    have ht1 : H1 t = some (.tup (sv [a, b])) := ht1
    refine ⟨t, rfl, ⟨_, SqT.of ht1⟩, for_it walk_tup (fun i σ H2 => Same H1 H2 ∧ (∀ (j : Nat) z, j < i → [a, b][j]? = some z → z ∈ gs) ∧ ∃ u, σ = [some (.ref p), some (.str a), some (.str b), u]) ⟨Same.refl _, fun j z hj => absurd hj (Nat.not_lt_zero _), none, rfl⟩ (fun i σ H2 _ q => q.1.tup (SqT.of ht1)) ?_ ?_⟩
    · rintro i x σ H20 H2 hi ⟨sm, hb, u, rfl⟩ ⟨rfl, hx⟩
      obtain ⟨z, hz, rfl⟩ := sv_get hx
      have s2 := s1.trans sm
      have m1 := s2 _ _ h1
      refine ⟨_, rfl, _, rfl, _, _, _, _, _, rfl, m1, T.cl_Meetings, T.n_Meetings_guests, fldsM_guests _ _, gt, _, rfl, .inr (SqT.of (s2 _ _ h2)), rfl, flat_sv _, _, rfl, ?_⟩
      rw [if_pos (rfl : true = true), inV_str]
      by_cases hc : z ∈ gs
      · refine ifF (by rw [decide_eq_true hc]; rfl) ⟨sm, fun j y hj hy => ?_, _, rfl⟩
        rcases Nat.lt_succ_iff_lt_or_eq.mp hj with q | q
        · exact hb j y q hy
        · rw [q, hz] at hy; cases hy; exact hc
      · have hz2 : i = 0 ∧ z = a ∨ i = 1 ∧ z = b := by
          rcases i with _ | _ | i
          · left; simp at hz; exact ⟨rfl, hz.symm⟩
          · right; simp at hz; exact ⟨rfl, hz.symm⟩
          · simp at hz
        have hzl : z.length ≤ 1000 := by rcases hz2 with q | q <;> rw [q.2] <;> assumption
        refine ifT (by rw [decide_eq_false hc]; rfl) ⟨_, rfl, (by decide : 1 ≤ 1000), fun a' ha => ⟨a', _, rfl, ⟨_, rfl, hzl⟩, upd_same, fun d hd hne => ⟨rfl, d, _, upd_same, by rw [upd_ne hne, upd_same], by rw [upd_ne hne] at hd; exact hd, ?_⟩⟩⟩
        rw [upd_ne hne] at hd
        refine ke z ?_ d _ (s2.trans (exc_same ha hd)) upd_same
        rcases hz2 with ⟨q1, q⟩ | ⟨q1, q⟩
        · exact .inl ⟨q, q ▸ hc⟩
        · exact .inr ⟨q, hb 0 a (by omega) rfl, q ▸ hc⟩
    · rintro σ H2 ⟨sm, hb, u, rfl⟩
      have hl2 : (sv [a, b]).length = 2 := rfl
      have ha := hb 0 a (by omega) rfl
      have hbb := hb 1 b (by omega) rfl
      have s2 := s1.trans sm
      refine ⟨_, rfl, _, rfl, by show 2 ≤ sizeLine; decide, fun t2 ht2 => ?_⟩
      generalize hG : upd H2 t2 _ = H3
      have s3 : Same H2 H3 := hG ▸ same_new ht2
      have ht3 := (congrFun hG t2).symm.trans upd_same
      clear hG
      have ht3 : H3 t2 = some (.tup (sv [a, b])) := ht3
      have s23 := s2.trans s3
      have dq : ∀ {G : Hp} {u v : Str} {x : Addr}, Okz u → Okz v → G x = some (.tup (sv [u, v])) → Dp K G (.ref x) (.tuple (pd [u, v])) ∧ SeqAt.shaped (.tuple (pd [u, v])) = true := fun hu hv hx => ⟨.tup (SqT.of hx) (dp_pd _), shaped_pdT fun z hz => by
        rcases List.mem_cons.mp hz with e | hz
        · exact e ▸ hu
        · rw [List.mem_singleton.mp hz]; exact hv⟩
      have dp1 := dq oa ob ht3
      have m1 := s23 _ _ h1
      refine ⟨_, rfl, _, _, _, _, _, rfl, m1, T.cl_Meetings, T.n_Meetings_pairs, fldsM_pairs _ _, _, _, dp1.1, .tup (SqT.of (s23 _ _ h3)) (dp_pdd (h4.same s23)), dp1.2, shaped_pddT op, _, rfl, ?_⟩
      rw [any_pdd]
      have kq := kq ha hbb
      by_cases hab : [a, b] ∈ ps
      · refine ifT (decide_eq_true hab) ?_
        rw [show metB ps a b = true by unfold metB; rw [decide_eq_true hab]; rfl] at kq
        exact kq _ s23
      refine ifF (decide_eq_false hab) ⟨_, rfl, _, rfl, by show 2 ≤ sizeLine; decide, fun t3 ht3 => ?_⟩
      generalize hG : upd H3 t3 _ = H4
      have s4 : Same H3 H4 := hG ▸ same_new ht3
      have ht4 := (congrFun hG t3).symm.trans upd_same
      clear hG
      have ht4 : H4 t3 = some (.tup (sv [b, a])) := ht4
      have s24 := s23.trans s4
      have dp2 := dq ob oa ht4
      have m2 := s24 _ _ h1
      refine ⟨_, rfl, _, _, _, _, _, rfl, m2, T.cl_Meetings, T.n_Meetings_pairs, fldsM_pairs _ _, _, _, dp2.1, .tup (SqT.of (s24 _ _ h3)) (dp_pdd (h4.same s24)), dp2.2, shaped_pddT op, ?_⟩
      rw [any_pdd]
      rw [show metB ps a b = decide ([b, a] ∈ ps) by unfold metB; rw [decide_eq_false hab]; rfl] at kq
      exact kq _ s24
def spMet (C : Addr) : Sp := fun vs H Q E => ∃ (p : Addr) (a b : Str) (gs : List Str) (ps : List (List Str)), vs = [.ref p, .str a, .str b] ∧ Mt C H p gs ps ∧ (∀ z ∈ gs, Good z) ∧ (∀ q ∈ ps, ∀ z ∈ q, Okz z) ∧ a ∈ gs ∧ b ∈ gs ∧ ∀ H', Same H H' → Q (.bl (metB ps a b)) H'
theorem ok_met (T : Txt P K mg A) : FnOk P w K mg base CX0 3 A.a_Meetings_met A.d_Meetings_met ["self", "a", "b"] (spMet A.C_Meetings) :=
  quiet (ok_metX T) fun vs H Q E ⟨p, a, b, gs, ps, e, hM, hg, op, ha, hb, k⟩ => ⟨p, a, b, gs, ps, e, hM, okz_good (hg a ha), okz_good (hg b hb), by have := (hg a ha).le; omega, by have := (hg b hb).le; omega, op, fun _ _ => k, fun z hz => (hz.elim (fun q => q.2 ha) fun q => q.2.2 hb).elim⟩
/-- who has met whom, by numbers -/
def MM (gs : List Str) (ps : List (List Str)) (i j : Nat) : Bool := metB ps (gs.getD i "") (gs.getD j "")
theorem MM_sy (gs : List Str) (ps : List (List Str)) (i j : Nat) : MM gs ps i j = MM gs ps j i := metB_comm _ _ _
theorem getD_of {gs : List Str} {i : Nat} {z : Str} (h : gs[i]? = some z) : gs.getD i "" = z := by rw [List.getD_eq_getElem?_getD, h]; rfl
def spKnown (C : Addr) : Sp := fun vs H Q E => ∃ (p : Addr) (i : Nat) (a : Str) (gs : List Str) (ps : List (List Str)), vs = [.ref p, .str a] ∧ Mt C H p gs ps ∧ (∀ z ∈ gs, Good z) ∧ gs.length ≤ 12 ∧ (∀ q ∈ ps, ∀ z ∈ q, Okz z) ∧ gs[i]? = some a ∧ ∀ H', Same H H' → Q (.int (bm (MM gs ps i) gs.length : Nat)) H'
theorem ok_known (T : Txt P K mg A) : FnOk P w K mg base CX0 4 A.a_Meetings_known_by A.d_Meetings_known_by ["self", "guest"] (spKnown A.C_Meetings) := by
  have G_Meetings_met := ok_met (P := P) (w := w) (base := base) T
  refine T.F_Meetings_known_by.ok sc_Meetings_known_by (fun vs H Q E h => ?_) (fun cdv A' outer s H vs Q E hr h => ?_)
  · obtain ⟨p, i, a, gs, ps, rfl, _⟩ := h
    rfl
  · obtain ⟨p, i0, a, gs, ps, rfl, hM, hg, hl, op, ha, k⟩ := h
    refine ⟨_, (pss_one (ps_ret (pe_callB (cr_sum rfl) (by rfl) T.n_sum (by decide +kernel) (pa_cons (pe_lc (own := [("number", 2), ("other", 3)]) (g := gTup K 2 (gCons (gName 2) (gCons (gName 3) gNil))) (tt := _) rfl sc_Meetings_known_by.nd (pi_enumT (by rfl) T.n_enumerate (pa_cons (pe_fld (pv 0) rfl) pa_nil)) (blkOk_by (N := ["self", "guest", "number", "other"]) (sc := defScope s_Meetings_known_by) (by decide +kernel)) (fun _ _ _ _ _ => (pg_tup (by rfl) (pgs_cons (pg_name (i := 2) sc_Meetings_known_by.nd rfl (Or.inl rfl)) (pgs_cons (pg_name (i := 3) sc_Meetings_known_by.nd rfl (Or.inl rfl)) pgs_nil)))) (fun _ _ _ _ _ => (pts_one (pt_val (pe_meth (pv 0) T.cl_Meetings T.m_Meetings_met G_Meetings_met (hr.mono (by decide)) T.b_Meetings_met .nil pass0 (pa_cons (pv 1) (pa_cons (pv 3) pa_nil)))))) (fun _ _ _ _ _ => (pe_op op_shlN pe_int (pv 2)))) pa_nil)))), ?_⟩
    have hM0 := hM
    obtain ⟨dx, gt, pt, ts, h1, h2, h3, h4⟩ := hM
    have hsh : ∀ i : Nat, i < gs.length → CShl 1 (i : Int) := fun i hi => ⟨by omega, by
      have : Builtin.Int.intBits 1 ≤ 1 := PyProof.Rows.intBits_le (by decide)
      omega⟩
    refine ⟨_, rfl, _, _, _, _, _, rfl, h1, T.cl_Meetings, T.n_Meetings_guests, fldsM_guests _ _, gt, _, rfl, SqT.of h2, fun D hD => lc_it walk_enumT (PvS H D fun i => ivs (pwl (MM gs ps i0) i)) (pv0 hD rfl) (fun i H2 _ q => q.1.tup (SqT.of h2)) ?_ ?_⟩
    · rintro i x H3 H4 hi q ⟨t, _, _, rfl, ht, rfl, ⟨⟩, hx⟩
      obtain ⟨z, hz, rfl⟩ := sv_get hx
      have hil : i < gs.length := by rw [len_sv] at hi; exact hi
      have q' := q.more (same_new (o := .tup [.int (i : Nat), .str z]) ht)
      have hl2 := pwl_len (MM gs ps i0) i
      have s4 := q'.1
      refine ⟨t, _, rfl, SqT.of upd_same, rfl, _, _, rfl, _, _, rfl, rfl, rfl, ?_⟩
      refine ⟨_, rfl, p, dx, _, rfl, s4 _ _ h1, fldsM_met gt pt, _, rfl, _, rfl, p, a, z, gs, ps, rfl, hM0.same s4, hg, op, List.mem_of_getElem? ha, List.mem_of_getElem? hz, fun H5 s5 => ?_⟩
      have q'' := q'.more s5
      have e : metB ps a z = MM gs ps i0 i := by unfold MM; rw [getD_of ha, getD_of hz]
      rw [e]
      refine ⟨_, rfl, ?_⟩
      by_cases hm : MM gs ps i0 i = true
      · refine ifT hm ⟨_, rfl, 1, i, rfl, rfl, hsh i hil, ?_⟩
        rw [Int.one_mul]; exact q''.push hD (pwl_T hm) (by omega)
      · exact ifF (by simpa using hm) (q''.skip (pwl_F (by simpa using hm)))
    · rintro H3 ⟨sm, h3⟩
      have h3 : H3 D = some (.lst (ivs (pwl (MM gs ps i0) (sv gs).length))) := h3
      rw [len_sv] at h3
      refine ⟨D, _, rfl, SqL.of h3, ?_⟩
      rw [pwl_sum]
      exact k H3 sm
end
end My
set_option maxRecDepth 100000
set_option maxHeartbeats 4000000
set_option exponentiation.threshold 10000
namespace My
open PySem L2
open C8 (pss_cut)
/-- lists of things, each laid at its address -/
structure Lg {α : Type} (f : α → HO) (H : Hp) (us : List Addr) (xs : List α) : Prop where
  len : us.length = xs.length
  at_ : ∀ (i : Nat) (u : Addr) (x : α), us[i]? = some u → xs[i]? = some x → H u = some (f x)
section
variable {α : Type} {f : α → HO} {H H' : Hp} {us : List Addr} {xs : List α}
theorem Lg.same (h : Lg f H us xs) (e : Same H H') : Lg f H' us xs := ⟨h.len, fun i u x a b => e _ _ (h.at_ i u x a b)⟩
theorem Lg.nil : Lg f H [] [] := ⟨rfl, fun i t x h => by simp at h⟩
theorem Lg.app {u : Addr} {x : α} (h : Lg f H us xs) (hu : H u = some (f x)) : Lg f H (us ++ [u]) (xs ++ [x]) := by
  refine ⟨by rw [List.length_append, List.length_append, h.len]; rfl, fun i t y a b => ?_⟩
  by_cases hi : i < us.length
  · rw [List.getElem?_append_left hi] at a
    rw [List.getElem?_append_left (by rw [← h.len]; exact hi)] at b
    exact h.at_ i t y a b
  · rw [List.getElem?_append_right (by omega)] at a
    rw [List.getElem?_append_right (by rw [← h.len]; omega), ← h.len] at b
    have : i - us.length = 0 := by
      have := (List.getElem?_eq_some_iff.mp a).1
      simp at this; omega
    rw [this] at a b
    simp at a b
    rw [← a, ← b]; exact hu
theorem Lg.get (h : Lg f H us xs) {i : Nat} {u : Addr} (hi : us[i]? = some u) : ∃ x, xs[i]? = some x ∧ H u = some (f x) := by
  have hl : i < xs.length := by rw [← h.len]; exact (List.getElem?_eq_some_iff.mp hi).1
  exact ⟨xs[i], List.getElem?_eq_getElem hl, h.at_ i u _ hi (List.getElem?_eq_getElem hl)⟩
theorem Lg.tail {u : Addr} {x : α} {us : List Addr} {xs : List α} (h : Lg f H (u :: us) (x :: xs)) : H u = some (f x) ∧ Lg f H us xs :=
  ⟨h.at_ 0 u x rfl rfl, ⟨by have := h.len; simpa using this, fun i t y a b => h.at_ (i + 1) t y a b⟩⟩
theorem Lg.cons {u : Addr} {x : α} {us : List Addr} {xs : List α} (hu : H u = some (f x)) (h : Lg f H us xs) : Lg f H (u :: us) (x :: xs) :=
  ⟨by simp [h.len], fun i t y a b => by
    cases i with
    | zero => simp at a b; rw [← a, ← b]; exact hu
    | succ i => exact h.at_ i t y a b⟩
theorem Lg.upd1 {D : Addr} {o : HO} (h : Lg f H us xs) (hne : ∀ (i : Nat) (t : Addr), us[i]? = some t → t ≠ D) : Lg f (upd H D o) us xs := ⟨h.len, fun i t x a b => by rw [upd_ne (hne i t a)]; exact h.at_ i t x a b⟩
end
/-- a comprehension that collects new objects -/
def LcG {α : Type} (f : α → HO) (H1 : Hp) (D : Addr) (xs : List α) (H : Hp) : Prop := Same H1 H ∧ ∃ us : List Addr, H D = some (.lst (us.map V.ref)) ∧ Lg f H us xs ∧ ∀ (i : Nat) (t : Addr), us[i]? = some t → t ≠ D
section
variable {α : Type} {f : α → HO} {H1 H H' : Hp} {D a : Addr} {xs : List α} {x : α}
theorem lcg0 (hD : H1 D = none) : LcG f H1 D [] (upd H1 D (.lst [])) := ⟨same_new hD, [], upd_same, Lg.nil, noT⟩
theorem LcG.more (q : LcG f H1 D xs H) (s : Same H H') : LcG f H1 D xs H' := let ⟨a, us, b, c, d⟩ := q; ⟨a.trans s, us, s _ _ b, c.same s, d⟩
theorem LcG.push (q : LcG f H1 D xs H) (hD : H1 D = none) (s : Same H H') (ha : H' a = some (f x)) (hne : a ≠ D) (hl : xs.length ≤ 1000001) :
    ∃ acc, H' D = some (.lst acc) ∧ acc.length < sizeLine ∧ LcG f H1 D (xs ++ [x]) (upd H' D (.lst (acc ++ [.ref a]))) := by
  obtain ⟨sm, us, h1, h2, h3⟩ := q
  refine ⟨_, s _ _ h1, Nat.lt_of_le_of_lt (by rw [List.length_map, h2.len]; exact hl) (by decide), fun b u e => ?_, us ++ [a], by rw [List.map_append]; exact upd_same, ?_, ne_app h3 hne⟩
  · rw [upd_ne (ne_of_none e hD)]; exact s _ _ (sm _ _ e)
  · exact ((h2.same s).app ha).upd1 (ne_app h3 hne)
end
/-- sorting lists of numbers -/
def iL (L : List Nat) : List Int := L.map fun n => ((n : Nat) : Int)
theorem niv_ivs (l : List Nat) : niv l = ivs (iL l) := by unfold niv ivs iL; rw [List.map_map]; rfl
theorem iL_inj {a b : List Nat} (h : iL a = iL b) : a = b := by
  have := congrArg (List.map Int.toNat) h
  unfold iL at this
  simpa [List.map_map, Function.comp_def] using this
def srtL (Ls : List (List Nat)) : List (List Nat) := Ls.mergeSort fun p q => decide (iL p ≤ iL q)
theorem srtL_perm (Ls : List (List Nat)) : (srtL Ls).Perm Ls := List.mergeSort_perm _ _
theorem srtL_le (Ls : List (List Nat)) : (srtL Ls).Pairwise fun p q => iL p ≤ iL q := by
  have := List.pairwise_mergeSort (le := fun p q : List Nat => decide (iL p ≤ iL q)) (fun a b c h1 h2 => decide_eq_true (List.le_trans (of_decide_eq_true h1) (of_decide_eq_true h2))) (fun a b => by
    rw [Bool.or_eq_true, decide_eq_true_iff, decide_eq_true_iff]; exact List.le_total _ _) Ls
  exact this.imp fun h => of_decide_eq_true h
theorem srtL_congr {a b : List (List Nat)} (h : a.Perm b) : srtL a = srtL b :=
  ((srtL_perm a).trans (h.trans (srtL_perm b).symm)).eq_of_pairwise (le := fun p q => iL p ≤ iL q) (fun x y _ _ h1 h2 => iL_inj (List.le_antisymm h1 h2)) (srtL_le a) (srtL_le b)
theorem srtL_map (Ls : List (List Nat)) : (Ls.map iL).mergeSort (fun p q => decide (p ≤ q)) = (srtL Ls).map iL := (List.map_mergeSort (r := fun p q : List Nat => decide (iL p ≤ iL q)) (s := fun p q : List Int => decide (p ≤ q)) (f := iL) (fun a _ b _ => rfl)).symm
/-- numbers as data -/
abbrev pdi (l : List Int) : List PyData := l.map PyData.int
theorem dp_ivs {K : PySem.W.Frag} {H : Hp} : ∀ l : List Int, DpAll K H (ivs l) (pdi l)
  | [] => .nil
  | a :: l => .cons (.int a) (dp_ivs l)
def RvN (H : Hp) (v : V) (b : List Int) : Prop := ∃ u L, v = .ref u ∧ H u = some (.lst (niv L)) ∧ b = iL L
theorem each_of {H : Hp} : ∀ {us : List Addr} {Ls : List (List Nat)}, Lg (fun L => .lst (niv L)) H us Ls → PySem.W.EachIs (RvN H) (us.map V.ref) (Ls.map iL)
  | [], [], _ => .nil
  | u :: us, L :: Ls, h => .cons ⟨u, L, rfl, h.tail.1, rfl⟩ (each_of h.tail.2)
  | [], _ :: _, h => by have := h.len; simp at this
  | _ :: _, [], h => by have := h.len; simp at this
theorem of_each {H : Hp} : ∀ {ys : List V} {Ls : List (List Nat)}, PySem.W.EachIs (RvN H) ys (Ls.map iL) → ∃ us, ys = us.map V.ref ∧ Lg (fun L => .lst (niv L)) H us Ls
  | [], [], _ => ⟨[], rfl, Lg.nil⟩
  | y :: ys, L :: Ls, h => by
    cases h with
    | cons r t =>
      obtain ⟨u, L', rfl, hu, e⟩ := r
      obtain ⟨us, rfl, g⟩ := of_each t
      have := iL_inj e
      subst this
      exact ⟨u :: us, rfl, g.cons hu⟩
  | [], _ :: _, h => by cases h
  | _ :: _, [], h => by cases h
theorem rv_dp {K : PySem.W.Frag} {H : Hp} (x : V) (b : List Int) (h : RvN H x b) : Dp K H x (PySem.W.encL b) := by
  obtain ⟨u, L, rfl, hu, rfl⟩ := h
  rw [niv_ivs] at hu
  exact .lst (SqL.of hu) (dp_ivs _)
end My
set_option maxRecDepth 100000
set_option maxHeartbeats 4000000
set_option exponentiation.threshold 10000
namespace My
open PySem L2
open C8 (pss_cut)
/-- all full companies, by names -/
def comps (gs : List Str) (ps : List (List Str)) : List (List Str) := (srtL (progC (MM gs ps) gs.length)).map (pickS gs)
theorem progM_len (M : Nat → Nat → Bool) (n : Nat) (h : n ≤ 12) : (progM M n).length ≤ 4096 := by
  unfold progM
  refine Nat.le_trans (List.length_filter_le _ _) ?_
  rw [List.length_map, List.length_range]
  have : 2 ^ n ≤ 2 ^ 12 := Nat.pow_le_pow_right (by omega) h
  omega
section
variable {P : Program} {w : World} {K : PySem.W.Frag} {mg : Str → Option Value} {base : Heap} {A : Ad}
def spComp (C : Addr) : Sp := fun vs H Q E => ∃ (p : Addr) (gs : List Str) (ps : List (List Str)), vs = [.ref p] ∧ Mt C H p gs ps ∧ (∀ z ∈ gs, Good z) ∧ gs.length ≤ 12 ∧ (∀ q ∈ ps, ∀ z ∈ q, Okz z) ∧ ∀ D ts H', Same H H' → H D = none → H' D = some (.lst (ts.map V.ref)) → Lg (fun r => .tup (sv r)) H' ts (comps gs ps) → Q (.ref D) H'
theorem ok_comp (T : Txt P K mg A) : FnOk P w K mg base CX0 5 A.a_Meetings_companies A.d_Meetings_companies ["self"] (spComp A.C_Meetings) := by
  have G_Meetings_known_by := ok_known (P := P) (w := w) (base := base) T
  have G_numbers_in := ok_numsIn (P := P) (w := w) (base := base) T
  have G_named := ok_named (P := P) (w := w) (base := base) T
  have G_is_full := ok_isFull (P := P) (w := w) (base := base) T
  refine T.F_Meetings_companies.ok sc_Meetings_companies (fun vs H Q E h => ?_) (fun cdv A' outer s H vs Q E hr h => ?_)
  · obtain ⟨p, gs, ps, rfl, _⟩ := h
    rfl
  · obtain ⟨p, gs, ps, rfl, hM, hg, hl, op, k⟩ := h
    refine ⟨_, (pss_cons (ps_set (i := 1) sc_Meetings_companies.nd rfl (Or.inr rfl) (pe_lc (own := [("guest", 3)]) (g := gName 3) (tt := tYes) rfl sc_Meetings_companies.nd (pi_tup (pe_fld (pv 0) rfl)) (blkOk_by (N := ["self", "known", "full", "guest", "mask", "numbers"]) (sc := defScope s_Meetings_companies) (by decide +kernel)) (fun _ _ _ _ _ => (pg_name (i := 3) sc_Meetings_companies.nd rfl (Or.inl rfl))) (fun _ _ _ _ _ => pts_nil) (fun _ _ _ _ _ => (pe_meth (pv 0) T.cl_Meetings T.m_Meetings_known_by G_Meetings_known_by (hr.mono (by decide)) T.b_Meetings_known_by .nil pass0 (pa_cons (pv 3) pa_nil)))))
      (pss_cons (ps_setLc (i := 2) (own := [("mask", 4)]) (g := gName 4) (tt := _) rfl sc_Meetings_companies.nd rfl rfl (sw_true rfl rfl rfl (by decide +kernel)) (pi_range2 (by rfl) T.n_range (pa_cons pe_int (pa_cons (pe_op op_shlN pe_int (pe_callB call_len_seq (by rfl) T.n_len (by decide +kernel) (pa_cons (pv 1) pa_nil))) pa_nil))) (blkOk_by (N := ["self", "known", "full", "guest", "mask", "numbers"]) (sc := defScope s_Meetings_companies) (by decide +kernel)) (fun _ _ _ _ _ => (pg_name (i := 4) sc_Meetings_companies.nd rfl (Or.inl rfl))) (fun _ _ _ _ _ => (pts_one (pt_val (pe_call G_is_full (hr.mono (by decide)) rfl T.mg_is_full T.F_is_full.kp T.b_is_full .nil pass0 (pa_cons (pv 4) (pa_cons (pv 1) pa_nil)))))) (fun _ _ _ _ _ => (pe_call G_numbers_in (hr.mono (by decide)) rfl T.mg_numbers_in T.F_numbers_in.kp T.b_numbers_in .nil pass0 (pa_cons (pv 4) pa_nil))))
      (pss_one (ps_ret (pe_lc (own := [("numbers", 5)]) (g := gName 5) (tt := tYes) rfl sc_Meetings_companies.nd (pi_list (pe_callB (cr_sortLI (hu10 hr)) (by rfl) T.n_sorted (by decide +kernel) (pa_cons (pv 2) pa_nil))) (blkOk_by (N := ["self", "known", "full", "guest", "mask", "numbers"]) (sc := defScope s_Meetings_companies) (by decide +kernel)) (fun _ _ _ _ _ => (pg_name (i := 5) sc_Meetings_companies.nd rfl (Or.inl rfl))) (fun _ _ _ _ _ => pts_nil) (fun _ _ _ _ _ => (pe_callTy (show CallR _ _ (rTupOf K) from call_tuple_of) (by rfl) T.n_tuple (by decide +kernel) (pa_cons (pe_call G_named (hr.mono (by decide)) rfl T.mg_named T.F_named.kp T.b_named .nil pass0 (pa_cons (pv 5) (pa_cons (show PE _ _ (tFld K _ "guests") from pe_fld (pv 0) rfl) pa_nil))) pa_nil)))))))), ?_⟩
    have hM0 := hM
    obtain ⟨dx, gt, pt, ts, h1, h2, h3, h4⟩ := hM
    refine ⟨_, rfl, _, _, _, _, _, rfl, h1, T.cl_Meetings, T.n_Meetings_guests, fldsM_guests _ _, gt, rfl, ⟨_, SqT.of h2⟩, fun D hD => lc_it walk_tup (PvS H D fun i => niv ((List.range i).map fun i => bm (MM gs ps i) gs.length)) (pv0 hD rfl) (fun i H2 _ q => q.1.tup (SqT.of h2)) ?_ ?_⟩
    · rintro i x H30 H3 hi q ⟨rfl, hx⟩
      obtain ⟨z, hz, rfl⟩ := sv_get hx
      have hil : i < gs.length := by rw [len_sv] at hi; exact hi
      refine ⟨rfl, _, rfl, p, dx, _, rfl, q.1 _ _ h1, fldsM_known gt pt, _, rfl, p, i, z, gs, ps, rfl, hM0.same q.1, hg, hl, op, hz, fun H5 s5 => (q.more s5).push hD ?_ ?_⟩
      · show niv ((List.range (i + 1)).map _) = _
        rw [List.range_succ, List.map_append]; exact List.map_append
      · show (niv ((List.range i).map _)).length ≤ _
        rw [niv_len, List.length_map, List.length_range]; omega
    rintro H3 ⟨s3, hD3⟩
    have hD3 : H3 D = some (.lst (niv ((List.range gs.length).map fun i => bm (MM gs ps i) gs.length))) := by
      have := hD3
      dsimp only at this
      rw [len_sv] at this; exact this
    have dl : (niv ((List.range gs.length).map fun i => bm (MM gs ps i) gs.length)).length = gs.length := by rw [niv_len, List.length_map, List.length_range]
    have hsh : CShl 1 (gs.length : Int) := ⟨by omega, by
      have : Builtin.Int.intBits 1 ≤ 1 := PyProof.Rows.intBits_le (by decide)
      omega⟩
    have hp2 : (2 : Nat) ^ gs.length ≤ 4096 := Nat.pow_le_pow_right (n := 2) (by omega) hl
    have e2 : (1 : Int) * 2 ^ gs.length = ((2 ^ gs.length : Nat) : Int) := by rw [Int.one_mul]; push_cast; rfl
    refine ⟨_, rfl, D, _, rfl, .inl (SqL.of hD3), 1, gs.length, rfl, by rw [dl], hsh, ?_⟩
    rw [e2]
    have l2 : (((2 ^ gs.length : Nat) : Int) - 1).toNat = 2 ^ gs.length - 1 := by omega
    have pos2 : 0 < 2 ^ gs.length := Nat.two_pow_pos _
    let pm : Nat → List Nat := fun i => ((List.range i).map (· + 1)).filter (fullM (MM gs ps) gs.length)
    have pml : ∀ i, (pm i).length ≤ i := fun i => by
      refine Nat.le_trans (List.length_filter_le _ _) ?_
      rw [List.length_map, List.length_range]; exact Nat.le_refl _
    refine ⟨_, _, rfl, ⟨by omega, by omega, by omega, by omega⟩, fun D2 nD2 => lc_it walk_range (fun i G => LcG (fun L => .lst (niv L)) H3 D2 ((pm i).map fun m => numsB m gs.length) G) (lcg0 nD2) (fun i G _ q => trivial) ?_ ?_⟩
    · rintro i x Ga Gb hi q ⟨rfl, hx⟩
      have hi : i < 2 ^ gs.length - 1 := by rw [← l2]; exact hi
      have ei : (1 : Int) + (i : Int) = ((i + 1 : Nat) : Int) := by omega
      have hx : x = V.int ((i + 1 : Nat) : Int) := by rw [hx]; show V.int (1 + (i : Int)) = _; rw [ei]
      subst hx
      refine ⟨rfl, _, rfl, _, rfl, i + 1, D, MM gs ps, gs.length, rfl, SqL.of (q.1 _ _ hD3), hl, fun G2 t2 => ⟨_, rfl, ?_⟩⟩
      have st : pm (i + 1) = pm i ++ (if fullM (MM gs ps) gs.length (i + 1) = true then [i + 1] else []) := by
        show ((List.range (i + 1)).map _).filter _ = _
        rw [List.range_succ, List.map_append, List.filter_append]
        show pm i ++ [i + 1].filter _ = _
        rw [List.filter_cons]; rfl
      by_cases hf : fullM (MM gs ps) gs.length (i + 1) = true
      · refine ifT hf ⟨_, rfl, i + 1, gs.length, rfl, by omega, hl, fun a G3 t3 na ha => ?_⟩
        rw [st, if_pos hf, List.map_append]
        have q2 := q.more t2
        refine q2.push nD2 t3 ha (fun e => ?_) (by rw [List.length_map]; have := pml i; omega)
        obtain ⟨_, us, hd, _⟩ := q2
        rw [e, hd] at na; cases na
      · refine ifF (by simpa using hf) ?_
        rw [st, if_neg hf, List.append_nil]
        exact q.more t2
    rintro H4 ⟨s4, us, hD4, hus, _⟩
    have hus : Lg (fun L => .lst (niv L)) H4 us (progC (MM gs ps) gs.length) := by
      have := hus
      rw [l2] at this
      exact this
    refine ⟨_, rfl, D2, us.map V.ref, _, RvN H4, rfl, SqL.of hD4, each_of hus, rv_dp, fun ys D3 hys nD3 => ?_⟩
    rw [srtL_map] at hys
    obtain ⟨vs, rfl, hvs⟩ := of_each hys
    have s5 := same_new (o := .lst (vs.map V.ref)) nD3
    have x5 : upd H4 D3 (.lst (vs.map V.ref)) D3 = some (.lst (vs.map V.ref)) := upd_same
    have hvs := hvs.same s5
    generalize upd H4 D3 (.lst (vs.map V.ref)) = H5 at s5 x5 hvs ⊢
    have s35 := s3.trans (s4.trans s5)
    have clen : (srtL (progC (MM gs ps) gs.length)).length ≤ 4096 := by
      rw [(srtL_perm _).length_eq]
      unfold progC
      rw [List.length_map]; exact progM_len _ _ hl
    refine ⟨D3, rfl, ⟨_, SqL.of x5⟩, fun D5 nD5 => lc_it walk_list (fun i G => LcG (fun r => .tup (sv r)) H5 D5 (((srtL (progC (MM gs ps) gs.length)).take i).map (pickS gs)) G) (lcg0 nD5) (fun i G _ q => SqL.of (q.1 _ _ x5)) ?_ ?_⟩
    · rintro i x Ga Gb hi q ⟨rfl, hx⟩
      obtain ⟨u, hu, rfl⟩ := refs_get hx
      obtain ⟨L, hL, hLa⟩ := hvs.get hu
      have mx := mem_progC.mp ((srtL_perm _).mem_iff.mp (List.mem_of_getElem? hL))
      have Ll : L.length ≤ 1000 := by
        have := nodup_leG (l := L) (m := List.range gs.length) (mx.asc.imp fun h => Nat.ne_of_lt h) fun x hx => List.mem_range.mpr (mx.lt x hx)
        rw [List.length_range] at this; omega
      have sq := s35.trans q.1
      have m1 := sq _ _ h1
      refine ⟨rfl, _, rfl, _, rfl, _, _, _, _, _, rfl, m1, T.cl_Meetings, T.n_Meetings_guests, fldsM_guests _ _, u, gt, L, gs, rfl, SqL.of (q.1 _ _ hLa), SqT.of (sq _ _ h2), mx.lt, Ll, fun d G2 t2 nd hd => ?_⟩
      dsimp only [tNil]
      refine ⟨d, _, rfl, .inl ⟨SqL.of hd, fun e ne => ?_⟩⟩
      generalize hG : upd G2 e _ = G3
      have t3 : Same G2 G3 := hG ▸ same_new ne
      have he := (congrFun hG e).symm.trans upd_same
      clear hG
      have q3 := q.more (t2.trans t3)
      rw [take_succ hL, List.map_append]
      refine q.push nD5 (t2.trans t3) he (fun z => ?_) (by rw [List.length_map, List.length_take]; omega)
      obtain ⟨_, us', hd', _⟩ := q
      rw [z, t2 _ _ hd'] at ne; cases ne
    rintro H6 ⟨s6, ts, hD6, hts, _⟩
    refine k D5 ts H6 (s35.trans s6) (none_of s35 nD5) hD6 ?_
    have e := hts
    rw [List.length_map, hvs.len, List.take_length] at e
    exact e
end
end My
set_option maxRecDepth 100000
set_option maxHeartbeats 4000000
set_option exponentiation.threshold 10000
namespace My
open PySem L2
open C8 (pss_cut)
theorem exc_same5 {H : Hp} {a d : Addr} {o1 o2 o3 o4 o5 : HO} (ha : H a = none) (hd : H d = none) : Same H (upd (L2.del (upd (upd (upd (upd H a o1) d o2) a o3) d o4) a) d o5) := fun b o e => by
  have na := ne_of_none e ha
  have ndd := ne_of_none e hd
  rw [upd_ne ndd, L2.del_ne na, upd_ne ndd, upd_ne na, upd_ne ndd, upd_ne na]
  exact e
abbrev pdr (rs : List (List Str)) : List PyData := rs.map fun r => PyData.list (pd r)
theorem lay_pdr {rs : List (List Str)} (h : ∀ r ∈ rs, ∀ z ∈ r, Okz z) : PyData.canLayAll0 (pdr rs) = true := by
  induction rs with
  | nil => rfl
  | cons a t ih => exact layc (layL (lay_all fun z hz => h a List.mem_cons_self z hz)) (ih fun s hs => h s (List.mem_cons_of_mem _ hs))
theorem depth_pdr : ∀ rs : List (List Str), PyData.depthAll (pdr rs) ≤ 3
  | [] => by simp [PyData.depthAll]
  | r :: t => by
    have h1 : PyData.depthAll (t.map fun r => PyData.list (pd r)) ≤ 3 := depth_pdr t
    have h2 := depth_pd r
    simp only [List.map_cons, PyData.depthAll, PyData.depth]
    omega
theorem dp_pdr {K : PySem.W.Frag} {H : Hp} : ∀ {ts : List Addr} {rs : List (List Str)}, Lss .lst H ts rs → DpAll K H (ts.map V.ref) (pdr rs)
  | [], [], _ => .nil
  | [], _ :: _, h => nomatch h.len
  | _ :: _, [], h => nomatch h.len
  | t :: ts, r :: rs, h => .cons (.lst (xs := sv r) (SqL.of (h.at_ 0 t r rfl rfl)) (dp_pd r)) (dp_pdr ⟨Nat.succ.inj h.len, fun i u x a b => h.at_ (i + 1) u x a b⟩)
theorem mk_table2 {C : Addr} {K : PySem.W.Frag} {H : Hp} {l r x dx : Addr} {cs : List Str} {ts : List Addr} {rs : List (List Str)} {Q2 : VK} (hL : SqL K H l (sv cs) ∨ H l = some (.tup (sv cs))) (hR : SqL K H r (ts.map V.ref)) (hs : LsA K H ts rs) (ok : ColsOk cs) (hr : rs.length ≤ 48)
    (st : ∀ x ∈ rs, stray cs x = none ∧ x.length ≤ 1000) (hx : H x = none) (hdx : H dx = none) (hne : dx ≠ x) (k : ∀ H', Same H H' → Tb C H' x cs rs → Q2 .non H') :
    spTable C K (.ref x :: ([.ref l, .ref r] ++ [])) (upd (upd H dx (.own x)) x (.ins C dx [])) Q2 E0 := by
  have s1 := same_new (o := .own x) hdx
  have hx1 : upd H dx (.own x) x = none := by rw [upd_ne hne.symm]; exact hx
  have s2 : Same H (upd (upd H dx (.own x)) x (.ins C dx [])) := s1.trans (same_new hx1)
  exact ⟨x, l, r, dx, cs, ts, rs, rfl, upd_same, hL.imp (fun q => s2.seq q) (fun q => s2 _ _ q), s2.seq hR, hs.same s2, ok.g, ok.nd, ok.n, hr, st, fun H' hk hT => k H' (fun b o e => hk b o (ne_of_none e hx) (s2 _ _ e)) hT⟩
theorem any_pdr (rs : List (List Str)) (a : List Str) : ((pdr rs).any fun z => PyData.eqv z (.list (pd a))) = decide (a ∈ rs) := by
  rw [Bool.eq_iff_iff, List.any_eq_true, decide_eq_true_iff]
  constructor
  · rintro ⟨d, hd, e⟩
    obtain ⟨r, hr, rfl⟩ := List.mem_map.mp hd
    rw [eqv_L, decide_eq_true_iff] at e
    rw [← e]; exact hr
  · intro h
    exact ⟨_, List.mem_map.mpr ⟨a, h, rfl⟩, by rw [eqv_L]; exact decide_eq_true rfl⟩
def guestFault (gs : List Str) : Option (Str × Nat) := if 10 < gs.length then some (("guests" : Str), 0) else (firstBad gs).map fun i => (("guest" : Str), i)
def okPair (gs : List Str) (ps : List (List Str)) (i : Nat) : Prop := ∀ p, ps[i]? = some p → p.length = 2 ∧ stray gs p = none ∧ ∀ q ∈ ps.take i, ¬ q.Perm p
theorem srt_two {a b : List Str} (h : a.Perm b) (ha : a.length = 2) (s1 : PyProof.Rows.sortedS a = true) (s2 : PyProof.Rows.sortedS b = true) : a = b := by
  have hb : b.length = 2 := by rw [← h.length_eq]; exact ha
  match a, b, ha, hb with
  | [x, y], [u, v], _, _ =>
    have key : ∀ {x y : Str}, PyProof.Rows.sortedS [x, y] = true → ¬ y.cps.toList < x.cps.toList := fun {x y} q => by
      have : (!PySem.Spec.ltCps y.cps.toList x.cps.toList && true) = true := q
      rw [PyProof.Rows.ltCps_eq] at this
      simpa using this
    have k1 := key s1
    have k2 := key s2
    have hx : x ∈ [u, v] := h.mem_iff.mp (by simp)
    have eq : x = y → [x, y] = [u, v] := fun e => by
      subst e
      have hu : u ∈ [x, x] := h.mem_iff.mpr (by simp)
      have hv : v ∈ [x, x] := h.mem_iff.mpr (by simp)
      simp at hu hv
      rw [hu, hv]
    rcases List.mem_cons.mp hx with e | e
    · subst e
      have := (List.perm_cons x).mp h
      rw [List.perm_singleton.mp this.symm]
    · have e := List.mem_singleton.mp e
      subst e
      have h2 : [x, y].Perm [x, u] := h.trans (List.Perm.swap x u [])
      have := List.perm_singleton.mp ((List.perm_cons x).mp h2).symm
      simp at this
      subst this
      refine eq (str_ext ?_)
      have : x.cps.toList = u.cps.toList := List.le_antisymm (List.not_lt.mp k1) (List.not_lt.mp k2)
      exact Array.toList_inj.mp this
section
variable {P : Program} {w : World} {K : PySem.W.Frag} {mg : Str → Option Value} {base : Heap} {A : Ad}
def spChG (B : Addr) (K : PySem.W.Frag) : Sp := fun vs H Q E => ∃ (l : Addr) (gs : List Str), vs = [.ref l] ∧ SqA K H l (sv gs) ∧ (∀ z ∈ gs, z.length ≤ 16000000) ∧ gs.length ≤ 1000 ∧ (guestFault gs = none → ∀ H', Same H H' → Q .non H') ∧
  ∀ pt i, guestFault gs = some (pt, i) → ∀ d H', Same H H' → H' d = some (.xd [("index", .int (i : Nat)), ("part", .str pt)]) → E (.ref B) (some d) H'
theorem ok_chG (T : Txt P K mg A) : FnOk P w K mg base (L2.CX P w) 4 A.a_check_guests A.d_check_guests ["guests"] (spChG A.C_BadMeetings K) := by
  have G_BadMeetings_init := ok_BadMeetings (P := P) (w := w) (base := base) T
  have G_first_bad_name := ok_firstBadO (P := P) (w := w) (base := base) T
  refine funX T.F_check_guests sc_check_guests (fun vs H Q E h => ?_) (fun cdv A' outer s H vs Q E hr h => ?_)
  · obtain ⟨l, gs, rfl, _⟩ := h
    rfl
  · obtain ⟨l, gs, rfl, hS, hz, hl, kq, ke⟩ := h
    refine ⟨_, (pss_cons (ps_if (pt_cmpR op_gt (pe_callB call_len_seq (by rfl) T.n_len (by decide +kernel) (pa_cons (pv 0) pa_nil)) (pe_glob (v := .int 10) rfl T.mg_MOST_GUESTS.choose_spec ⟨_, rfl⟩) (nomark _)) (pss_one (ps_raise rfl (takes_of rfl rfl rfl rfl) (pmk_oex T.SC_BadMeetings.ox T.ii_BadMeetings T.ti_BadMeetings G_BadMeetings_init (hr.mono (by decide)) T.b_BadMeetings_init .nil pass0 rfl T.mg_BadMeetings (pa_cons pe_str (pa_cons pe_int pa_nil))))) pss_nil)
      (pss_cons (ps_set (i := 1) sc_check_guests.nd rfl (Or.inl rfl) (pe_call G_first_bad_name (hr.mono (by decide)) rfl T.mg_first_bad_name T.F_first_bad_name.kp T.b_first_bad_name .nil pass0 (pa_cons (pv 0) pa_nil)))
      (pss_one (ps_if (pt_cmpR op_notN (pv 1) pe_non (nomark _)) (pss_one (ps_raise rfl (takes_of rfl rfl rfl rfl) (pmk_oex T.SC_BadMeetings.ox T.ii_BadMeetings T.ti_BadMeetings G_BadMeetings_init (hr.mono (by decide)) T.b_BadMeetings_init .nil pass0 rfl T.mg_BadMeetings (pa_cons pe_str (pa_cons (pv 1) pa_nil))))) pss_nil)))), ?_⟩
    refine ⟨_, rfl, l, _, rfl, hS, _, _, rfl, rfl, _, rfl, ?_⟩
    by_cases h10 : (((sv gs).length : Nat) : Int) > 10
    · refine ifT (decide_eq_true h10) ?_
      have e : guestFault gs = some (("guests" : Str), 0) := by unfold guestFault; rw [if_pos (by rw [len_sv] at h10; omega)]
      refine ⟨by show 2 ≤ 1000; decide, fun a ha => ⟨a, "guests", 0, rfl, by decide, by decide, upd_same, fun d hd hne => ⟨rfl, d, _, by rw [upd_ne hne.symm]; exact upd_same, upd_same, by rw [upd_ne hne] at hd; exact hd, ?_⟩⟩⟩
      rw [upd_ne hne] at hd
      exact ke _ _ e d _ (exc_same5 ha hd) upd_same
    · refine ifF (decide_eq_false h10) ?_
      have hle : ¬ 10 < gs.length := fun z => h10 (by rw [len_sv]; omega)
      refine ⟨_, rfl, l, gs, rfl, hS, hz, fun H1 s1 => ?_⟩
      cases e : firstBad gs with
      | none =>
        refine ⟨_, rfl, rfl, _, rfl, ifF rfl ?_⟩
        exact kq (by unfold guestFault; rw [if_neg hle, e]; rfl) H1 s1
      | some i =>
        have il : i < gs.length := by
          unfold firstBad at e
          rw [List.find?_range_eq_some] at e
          exact List.mem_range.mp e.2.1
        refine ⟨_, rfl, rfl, _, rfl, ifT rfl ?_⟩
        refine ⟨_, rfl, by show 2 ≤ 1000; decide, fun a ha => ⟨a, "guest", (i : Nat), rfl, by decide, by omega, upd_same, fun d hd hne => ⟨rfl, d, _, by rw [upd_ne hne.symm]; exact upd_same, upd_same, by rw [upd_ne hne] at hd; exact hd, ?_⟩⟩⟩
        rw [upd_ne hne] at hd
        exact ke _ i (by unfold guestFault; rw [if_neg hle, e]; rfl) d _ (s1.trans (exc_same5 ha hd)) upd_same
def spChP (B : Addr) (sq : Hp → Addr → List V → Prop) (K : PySem.W.Frag) : Sp := fun vs H Q E => ∃ (g r : Addr) (gs : List Str) (ts : List Addr) (ps : List (List Str)), vs = [.ref g, .ref r] ∧ SqA K H g (sv gs) ∧ sq H r (ts.map V.ref) ∧ LsA K H ts ps ∧ ps.length ≤ 1000 ∧ (∀ q ∈ ps, q.length ≤ 20 ∧ ∀ z ∈ q, Okz z) ∧
  ((∀ i, i < ps.length → okPair gs ps i) → ∀ H', Same H H' → Q .non H') ∧
  ∀ i, i < ps.length → (∀ j, j < i → okPair gs ps j) → ¬ okPair gs ps i → ∀ d H', Same H H' → H' d = some (.xd [("index", .int (i : Nat)), ("part", .str "pair")]) → E (.ref B) (some d) H'
theorem ok_chP (T : Txt P K mg A) : FnOk P w K mg base (L2.CX P w) 4 A.a_check_pairs A.d_check_pairs ["guests", "pairs"] (spChP A.C_BadMeetings (SqL K) K) := by
  have G_BadMeetings_init := ok_BadMeetings (P := P) (w := w) (base := base) T
  have G_first_stray := ok_strayA (P := P) (w := w) (base := base) T
  refine funX T.F_check_pairs sc_check_pairs (fun vs H Q E h => ?_) (fun cdv A' outer s H vs Q E hr h => ?_)
  · obtain ⟨g, r, gs, ts, ps, rfl, _⟩ := h
    rfl
  · obtain ⟨g, r, gs, ts, ps, rfl, hG, hR, hT, hl, hz, kq, ke⟩ := h
    refine ⟨_, (pss_cons (ps_set (i := 2) sc_check_pairs.nd rfl (Or.inl rfl) (pe_lst pa_nil))
      (pss_one (ps_for (passes_of rfl) rfl (pi_enum (by rfl) T.n_enumerate (pa_cons (pv 1) pa_nil)) (pg_tup (by rfl) (pgs_cons (pg_name (i := 3) sc_check_pairs.nd rfl (Or.inl rfl)) (pgs_cons (pg_name (i := 4) sc_check_pairs.nd rfl (Or.inl rfl)) pgs_nil)))
        (pss_cons (ps_if (PW.pt (pw_or (pt_cmpR op_ne (pe_callB call_len_seq (by rfl) T.n_len (by decide +kernel) (pa_cons (pv 4) pa_nil)) pe_int (nomark _)) (pw_or (pt_cmpR op_notN (pe_call G_first_stray (hr.mono (by decide)) rfl T.mg_first_stray T.F_first_stray.kp T.b_first_stray .nil pass0 (pa_cons (pv 0) (pa_cons (pv 4) pa_nil))) pe_non (nomark _)) (pw_or1 (pt_cmpR (op_inD (hu65 hr)) (pe_callB cr_sortedA (by rfl) T.n_sorted (by decide +kernel) (pa_cons (pv 4) pa_nil)) (pv 2) (by with_unfolding_all rfl)))))) (pss_one (ps_raise rfl (takes_of rfl rfl rfl rfl) (pmk_oex T.SC_BadMeetings.ox T.ii_BadMeetings T.ti_BadMeetings G_BadMeetings_init (hr.mono (by decide)) T.b_BadMeetings_init .nil pass0 rfl T.mg_BadMeetings (pa_cons pe_str (pa_cons (pv 3) pa_nil))))) pss_nil)
      (pss_one (ps_expr (pe_bm PySem.F.plainAttrs_list PySem.F.slot_list_append PySem.F.type_list_append mt_append (pv 2) (pa_cons (pe_callB cr_sortedA (by rfl) T.n_sorted (by decide +kernel) (pa_cons (pv 4) pa_nil)) pa_nil)))))))), ?_⟩
    refine ⟨by show 0 ≤ sizeLine; decide, fun D nD => ?_⟩
    have rl : (ts.map V.ref).length = ps.length := by rw [List.length_map, hT.len]
    refine ⟨_, rfl, r, _, rfl, (same_new nD).seq hR, for_it walk_enum (fun i σ H2 => Same H H2 ∧ (∀ j, j < i → okPair gs ps j) ∧ (∃ us es, H2 D = some (.lst (us.map V.ref)) ∧ Lss .lst H2 us es ∧ (∀ (j : Nat) (t : Addr), us[j]? = some t → t ≠ D) ∧ es.length = i ∧ ∀ (j : Nat) e q, es[j]? = some e → ps[j]? = some q → e.Perm q ∧ PyProof.Rows.sortedS e = true) ∧ ∃ u1 u2 : Option V, σ = [some (.ref g), some (.ref r), some (.ref D), u1, u2]) ⟨same_new nD, fun j hj => absurd hj (Nat.not_lt_zero _), ⟨[], [], upd_same, Lss.nil, noT, rfl, fun j e q h => by simp at h⟩, none, none, rfl⟩ (fun i σ H2 _ q => q.1.seq hR) ?_ ?_⟩
    · rintro i x σ H2 H3 hi ⟨sm, hb, ⟨us, es, hD, hus, hne, hel, hes⟩, u1, u2, rfl⟩ ⟨t, _, _, rfl, ht, rfl, ⟨⟩, hx⟩
      obtain ⟨c, hc, rfl⟩ := refs_get hx
      have hil : i < ps.length := by rw [rl] at hi; exact hi
      obtain ⟨p, hp, hpa⟩ := hT.get hc
      have s3 : Same H (upd H2 t (.tup [.int (i : Nat), .ref c])) := sm.trans (same_new ht)
      obtain ⟨pl, pz⟩ := hz p (List.mem_of_getElem? hp)
      refine ⟨t, _, rfl, SqT.of upd_same, rfl, _, _, rfl, _, _, rfl, rfl, ?_⟩
      refine ⟨_, rfl, c, _, rfl, s3.sqa hpa, ?_⟩
      refine ⟨rfl, _, rfl, ?_⟩
      by_cases h2 : p.length = 2
      case neg =>
        refine ifT (by rw [len_sv, decide_eq_false (fun z => h2 (by have := V.int.inj z; omega))]; rfl) (ifT rfl ⟨_, rfl, by show 2 ≤ 1000; decide, fun a ha => ⟨a, "pair", (i : Nat), rfl, by decide, by omega, upd_same, fun d hd hne => ⟨rfl, d, _, by rw [upd_ne hne.symm]; exact upd_same, upd_same, by rw [upd_ne hne] at hd; exact hd, ?_⟩⟩⟩)
        rw [upd_ne hne] at hd
        exact ke i hil hb (fun ok => h2 (ok p hp).1) d _ (s3.trans (exc_same5 ha hd)) upd_same
      refine ifF (by rw [len_sv, decide_eq_true (show V.int (p.length : Nat) = V.int 2 by rw [h2]; rfl)]; rfl) ?_
      refine ⟨_, rfl, _, rfl, g, c, gs, p, rfl, s3.sqa hG, s3.sqa hpa, by omega, fun H4 s4 => ?_⟩
      have s34 := s3.trans s4
      cases es2 : stray gs p with
      | some j =>
        refine ⟨rfl, _, rfl, ifT rfl (ifT rfl ⟨_, rfl, by show 2 ≤ 1000; decide, fun a ha => ⟨a, "pair", (i : Nat), rfl, by decide, by omega, upd_same, fun d hd hne => ⟨rfl, d, _, by rw [upd_ne hne.symm]; exact upd_same, upd_same, by rw [upd_ne hne] at hd; exact hd, ?_⟩⟩⟩)⟩
        rw [upd_ne hne] at hd
        exact ke i hil hb (fun ok => by rw [(ok p hp).2.1] at es2; cases es2) d _ (s34.trans (exc_same5 ha hd)) upd_same
      | none =>
      refine ⟨rfl, _, rfl, ifF rfl ?_⟩
      refine ⟨_, rfl, c, p, rfl, s34.sqa hpa, by omega, fun ys sp hpm hst nsp => ?_⟩
      have x5 := upd_same (H := H4) (a := sp) (o := .lst (sv ys))
      have s5 := same_new (o := .lst (sv ys)) nsp
      generalize upd H4 sp (.lst (sv ys)) = H5 at s5 x5 ⊢
      have s35 := s34.trans s5
      have s25 : Same H2 H5 := (same_new ht).trans (s4.trans s5)
      have oky : ∀ z ∈ ys, Okz z := fun z hz => pz z (hpm.mem_iff.mp hz)
      have okes : ∀ e ∈ es, ∀ z ∈ e, Okz z := fun e he z hz2 => by
        obtain ⟨j, hj, ee⟩ := List.getElem_of_mem he
        have hjp : j < ps.length := by omega
        have := hes j e ps[j] (by rw [List.getElem?_eq_getElem hj, ee]) (List.getElem?_eq_getElem hjp)
        exact (hz ps[j] (List.getElem_mem hjp)).2 z (this.1.mem_iff.mp hz2)
      refine ⟨_, rfl, .list (pd ys), pdr es, .lst (SqL.of x5) (dp_pd _), .lst (SqL.of (s25 _ _ hD)) (dp_pdr (hus.same s25)), shaped_pd oky, shapedL (lay_pdr okes) (Nat.le_trans (depth_pdr es) (by decide)), _, rfl, ?_⟩
      rw [any_pdr]
      by_cases hm : ys ∈ es
      · refine ifT (decide_eq_true hm) ⟨_, rfl, by show 2 ≤ 1000; decide, fun a ha => ⟨a, "pair", (i : Nat), rfl, by decide, by omega, upd_same, fun d hd hne => ⟨rfl, d, _, by rw [upd_ne hne.symm]; exact upd_same, upd_same, by rw [upd_ne hne] at hd; exact hd, ?_⟩⟩⟩
        rw [upd_ne hne] at hd
        refine ke i hil hb (fun ok => ?_) d _ (s35.trans (exc_same5 ha hd)) upd_same
        obtain ⟨j, hj, ee⟩ := List.getElem_of_mem hm
        have hjp : j < ps.length := by omega
        have := hes j ys ps[j] (by rw [List.getElem?_eq_getElem hj, ee]) (List.getElem?_eq_getElem hjp)
        refine (ok p hp).2.2 ps[j] ?_ (this.1.symm.trans hpm)
        exact List.mem_of_getElem? (i := j) (by rw [List.getElem?_take, if_pos (by omega)]; exact List.getElem?_eq_getElem hjp)
      refine ifF (decide_eq_false hm) ?_
      refine ⟨_, rfl, .inl ⟨rfl, _, SqL.of (s25 _ _ hD)⟩, _, rfl, c, p, rfl, s35.sqa hpa, by omega, fun ys2 sp2 hpm2 hst2 nsp2 => ?_⟩
      obtain rfl : ys2 = ys := srt_two (hpm2.trans hpm.symm) (by rw [hpm2.length_eq]; exact h2) hst2 hst
      have x6 := upd_same (H := H5) (a := sp2) (o := .lst (sv ys2))
      have s6 := same_new (o := .lst (sv ys2)) nsp2
      have nD6 : sp2 ≠ D := fun e => by rw [e, s25 _ _ hD] at nsp2; cases nsp2
      generalize upd H5 sp2 (.lst (sv ys2)) = H6 at s6 x6 ⊢
      have s26 := s25.trans s6
      refine ⟨D, _, _, rfl, rfl, s26 _ _ hD, small_int (by rw [List.length_map, hus.len]; omega), ?_⟩
      refine ⟨fun b o e => by rw [upd_ne (ne_of_none e nD)]; exact s6 _ _ (s35 _ _ e), fun j hj => ?_, ⟨us ++ [sp2], es ++ [ys2], by rw [List.map_append]; exact upd_same, ((hus.same s26).app x6).updNe (ne_app hne nD6), ne_app hne nD6, by rw [List.length_append, hel]; rfl, fun j e q he hq => ?_⟩, _, _, rfl⟩
      · rcases Nat.lt_succ_iff_lt_or_eq.mp hj with q | q
        · exact hb j q
        · subst q
          intro p2 hp2
          rw [hp] at hp2; cases hp2
          refine ⟨h2, es2, fun q hq hqp => hm ?_⟩
          obtain ⟨m, hm1, em⟩ := List.getElem_of_mem hq
          rw [List.length_take] at hm1
          rw [List.getElem_take] at em
          have hmp : m < ps.length := by omega
          have hme : m < es.length := by omega
          have := hes m es[m] ps[m] (List.getElem?_eq_getElem hme) (List.getElem?_eq_getElem hmp)
          rw [em] at this
          have e2 : es[m] = ys2 := srt_two (this.1.trans (hqp.trans hpm2.symm)) (by rw [(this.1.trans hqp).length_eq]; exact h2) this.2 hst2
          rw [← e2]; exact List.getElem_mem hme
      · by_cases hj : j < es.length
        · rw [List.getElem?_append_left hj] at he
          exact hes j e q he hq
        · have hj2 := (List.getElem?_eq_some_iff.mp he).1
          rw [List.length_append] at hj2
          have : j = es.length := by simp at hj2; omega
          subst this
          rw [List.getElem?_append_right (Nat.le_refl _)] at he
          simp at he
          subst he
          rw [hel, hp] at hq; cases hq
          exact ⟨hpm2, hst2⟩
    · rintro σ H2 ⟨sm, hb, _, u1, u2, rfl⟩
      exact kq (fun i hi => hb i (by rw [rl]; exact hi)) H2 sm
theorem ok_chPT (T : Txt P K mg A) : FnOk P w K mg base (L2.CX P w) 4 A.a_check_pairs A.d_check_pairs ["guests", "pairs"] (spChP A.C_BadMeetings (SqT K) K) := by
  have G_BadMeetings_init := ok_BadMeetings (P := P) (w := w) (base := base) T
  have G_first_stray := ok_strayA (P := P) (w := w) (base := base) T
  refine funX T.F_check_pairs sc_check_pairs (fun vs H Q E h => ?_) (fun cdv A' outer s H vs Q E hr h => ?_)
  · obtain ⟨g, r, gs, ts, ps, rfl, _⟩ := h
    rfl
  · obtain ⟨g, r, gs, ts, ps, rfl, hG, hR, hT, hl, hz, kq, ke⟩ := h
    refine ⟨_, (pss_cons (ps_set (i := 2) sc_check_pairs.nd rfl (Or.inl rfl) (pe_lst pa_nil))
      (pss_one (ps_for (passes_of rfl) rfl (pi_enumT (by rfl) T.n_enumerate (pa_cons (pv 1) pa_nil)) (pg_tup (by rfl) (pgs_cons (pg_name (i := 3) sc_check_pairs.nd rfl (Or.inl rfl)) (pgs_cons (pg_name (i := 4) sc_check_pairs.nd rfl (Or.inl rfl)) pgs_nil)))
        (pss_cons (ps_if (PW.pt (pw_or (pt_cmpR op_ne (pe_callB call_len_seq (by rfl) T.n_len (by decide +kernel) (pa_cons (pv 4) pa_nil)) pe_int (nomark _)) (pw_or (pt_cmpR op_notN (pe_call G_first_stray (hr.mono (by decide)) rfl T.mg_first_stray T.F_first_stray.kp T.b_first_stray .nil pass0 (pa_cons (pv 0) (pa_cons (pv 4) pa_nil))) pe_non (nomark _)) (pw_or1 (pt_cmpR (op_inD (hu65 hr)) (pe_callB cr_sortedA (by rfl) T.n_sorted (by decide +kernel) (pa_cons (pv 4) pa_nil)) (pv 2) (by with_unfolding_all rfl)))))) (pss_one (ps_raise rfl (takes_of rfl rfl rfl rfl) (pmk_oex T.SC_BadMeetings.ox T.ii_BadMeetings T.ti_BadMeetings G_BadMeetings_init (hr.mono (by decide)) T.b_BadMeetings_init .nil pass0 rfl T.mg_BadMeetings (pa_cons pe_str (pa_cons (pv 3) pa_nil))))) pss_nil)
      (pss_one (ps_expr (pe_bm PySem.F.plainAttrs_list PySem.F.slot_list_append PySem.F.type_list_append mt_append (pv 2) (pa_cons (pe_callB cr_sortedA (by rfl) T.n_sorted (by decide +kernel) (pa_cons (pv 4) pa_nil)) pa_nil)))))))), ?_⟩
    refine ⟨by show 0 ≤ sizeLine; decide, fun D nD => ?_⟩
    have rl : (ts.map V.ref).length = ps.length := by rw [List.length_map, hT.len]
    refine ⟨_, rfl, r, _, rfl, (same_new nD).tup hR, for_it walk_enumT (fun i σ H2 => Same H H2 ∧ (∀ j, j < i → okPair gs ps j) ∧ (∃ us es, H2 D = some (.lst (us.map V.ref)) ∧ Lss .lst H2 us es ∧ (∀ (j : Nat) (t : Addr), us[j]? = some t → t ≠ D) ∧ es.length = i ∧ ∀ (j : Nat) e q, es[j]? = some e → ps[j]? = some q → e.Perm q ∧ PyProof.Rows.sortedS e = true) ∧ ∃ u1 u2 : Option V, σ = [some (.ref g), some (.ref r), some (.ref D), u1, u2]) ⟨same_new nD, fun j hj => absurd hj (Nat.not_lt_zero _), ⟨[], [], upd_same, Lss.nil, noT, rfl, fun j e q h => by simp at h⟩, none, none, rfl⟩ (fun i σ H2 _ q => q.1.tup hR) ?_ ?_⟩
    · rintro i x σ H2 H3 hi ⟨sm, hb, ⟨us, es, hD, hus, hne, hel, hes⟩, u1, u2, rfl⟩ ⟨t, _, _, rfl, ht, rfl, ⟨⟩, hx⟩
      obtain ⟨c, hc, rfl⟩ := refs_get hx
      have hil : i < ps.length := by rw [rl] at hi; exact hi
      obtain ⟨p, hp, hpa⟩ := hT.get hc
      have s3 : Same H (upd H2 t (.tup [.int (i : Nat), .ref c])) := sm.trans (same_new ht)
      obtain ⟨pl, pz⟩ := hz p (List.mem_of_getElem? hp)
      refine ⟨t, _, rfl, SqT.of upd_same, rfl, _, _, rfl, _, _, rfl, rfl, ?_⟩
      refine ⟨_, rfl, c, _, rfl, s3.sqa hpa, ?_⟩
      refine ⟨rfl, _, rfl, ?_⟩
      by_cases h2 : p.length = 2
      case neg =>
        refine ifT (by rw [len_sv, decide_eq_false (fun z => h2 (by have := V.int.inj z; omega))]; rfl) (ifT rfl ⟨_, rfl, by show 2 ≤ 1000; decide, fun a ha => ⟨a, "pair", (i : Nat), rfl, by decide, by omega, upd_same, fun d hd hne => ⟨rfl, d, _, by rw [upd_ne hne.symm]; exact upd_same, upd_same, by rw [upd_ne hne] at hd; exact hd, ?_⟩⟩⟩)
        rw [upd_ne hne] at hd
        exact ke i hil hb (fun ok => h2 (ok p hp).1) d _ (s3.trans (exc_same5 ha hd)) upd_same
      refine ifF (by rw [len_sv, decide_eq_true (show V.int (p.length : Nat) = V.int 2 by rw [h2]; rfl)]; rfl) ?_
      refine ⟨_, rfl, _, rfl, g, c, gs, p, rfl, s3.sqa hG, s3.sqa hpa, by omega, fun H4 s4 => ?_⟩
      have s34 := s3.trans s4
      cases es2 : stray gs p with
      | some j =>
        refine ⟨rfl, _, rfl, ifT rfl (ifT rfl ⟨_, rfl, by show 2 ≤ 1000; decide, fun a ha => ⟨a, "pair", (i : Nat), rfl, by decide, by omega, upd_same, fun d hd hne => ⟨rfl, d, _, by rw [upd_ne hne.symm]; exact upd_same, upd_same, by rw [upd_ne hne] at hd; exact hd, ?_⟩⟩⟩)⟩
        rw [upd_ne hne] at hd
        exact ke i hil hb (fun ok => by rw [(ok p hp).2.1] at es2; cases es2) d _ (s34.trans (exc_same5 ha hd)) upd_same
      | none =>
      refine ⟨rfl, _, rfl, ifF rfl ?_⟩
      refine ⟨_, rfl, c, p, rfl, s34.sqa hpa, by omega, fun ys sp hpm hst nsp => ?_⟩
      have x5 := upd_same (H := H4) (a := sp) (o := .lst (sv ys))
      have s5 := same_new (o := .lst (sv ys)) nsp
      generalize upd H4 sp (.lst (sv ys)) = H5 at s5 x5 ⊢
      have s35 := s34.trans s5
      have s25 : Same H2 H5 := (same_new ht).trans (s4.trans s5)
      have oky : ∀ z ∈ ys, Okz z := fun z hz => pz z (hpm.mem_iff.mp hz)
      have okes : ∀ e ∈ es, ∀ z ∈ e, Okz z := fun e he z hz2 => by
        obtain ⟨j, hj, ee⟩ := List.getElem_of_mem he
        have hjp : j < ps.length := by omega
        have := hes j e ps[j] (by rw [List.getElem?_eq_getElem hj, ee]) (List.getElem?_eq_getElem hjp)
        exact (hz ps[j] (List.getElem_mem hjp)).2 z (this.1.mem_iff.mp hz2)
      refine ⟨_, rfl, .list (pd ys), pdr es, .lst (SqL.of x5) (dp_pd _), .lst (SqL.of (s25 _ _ hD)) (dp_pdr (hus.same s25)), shaped_pd oky, shapedL (lay_pdr okes) (Nat.le_trans (depth_pdr es) (by decide)), _, rfl, ?_⟩
      rw [any_pdr]
      by_cases hm : ys ∈ es
      · refine ifT (decide_eq_true hm) ⟨_, rfl, by show 2 ≤ 1000; decide, fun a ha => ⟨a, "pair", (i : Nat), rfl, by decide, by omega, upd_same, fun d hd hne => ⟨rfl, d, _, by rw [upd_ne hne.symm]; exact upd_same, upd_same, by rw [upd_ne hne] at hd; exact hd, ?_⟩⟩⟩
        rw [upd_ne hne] at hd
        refine ke i hil hb (fun ok => ?_) d _ (s35.trans (exc_same5 ha hd)) upd_same
        obtain ⟨j, hj, ee⟩ := List.getElem_of_mem hm
        have hjp : j < ps.length := by omega
        have := hes j ys ps[j] (by rw [List.getElem?_eq_getElem hj, ee]) (List.getElem?_eq_getElem hjp)
        refine (ok p hp).2.2 ps[j] ?_ (this.1.symm.trans hpm)
        exact List.mem_of_getElem? (i := j) (by rw [List.getElem?_take, if_pos (by omega)]; exact List.getElem?_eq_getElem hjp)
      refine ifF (decide_eq_false hm) ?_
      refine ⟨_, rfl, .inl ⟨rfl, _, SqL.of (s25 _ _ hD)⟩, _, rfl, c, p, rfl, s35.sqa hpa, by omega, fun ys2 sp2 hpm2 hst2 nsp2 => ?_⟩
      obtain rfl : ys2 = ys := srt_two (hpm2.trans hpm.symm) (by rw [hpm2.length_eq]; exact h2) hst2 hst
      have x6 := upd_same (H := H5) (a := sp2) (o := .lst (sv ys2))
      have s6 := same_new (o := .lst (sv ys2)) nsp2
      have nD6 : sp2 ≠ D := fun e => by rw [e, s25 _ _ hD] at nsp2; cases nsp2
      generalize upd H5 sp2 (.lst (sv ys2)) = H6 at s6 x6 ⊢
      have s26 := s25.trans s6
      refine ⟨D, _, _, rfl, rfl, s26 _ _ hD, small_int (by rw [List.length_map, hus.len]; omega), ?_⟩
      refine ⟨fun b o e => by rw [upd_ne (ne_of_none e nD)]; exact s6 _ _ (s35 _ _ e), fun j hj => ?_, ⟨us ++ [sp2], es ++ [ys2], by rw [List.map_append]; exact upd_same, ((hus.same s26).app x6).updNe (ne_app hne nD6), ne_app hne nD6, by rw [List.length_append, hel]; rfl, fun j e q he hq => ?_⟩, _, _, rfl⟩
      · rcases Nat.lt_succ_iff_lt_or_eq.mp hj with q | q
        · exact hb j q
        · subst q
          intro p2 hp2
          rw [hp] at hp2; cases hp2
          refine ⟨h2, es2, fun q hq hqp => hm ?_⟩
          obtain ⟨m, hm1, em⟩ := List.getElem_of_mem hq
          rw [List.length_take] at hm1
          rw [List.getElem_take] at em
          have hmp : m < ps.length := by omega
          have hme : m < es.length := by omega
          have := hes m es[m] ps[m] (List.getElem?_eq_getElem hme) (List.getElem?_eq_getElem hmp)
          rw [em] at this
          have e2 : es[m] = ys2 := srt_two (this.1.trans (hqp.trans hpm2.symm)) (by rw [(this.1.trans hqp).length_eq]; exact h2) this.2 hst2
          rw [← e2]; exact List.getElem_mem hme
      · by_cases hj : j < es.length
        · rw [List.getElem?_append_left hj] at he
          exact hes j e q he hq
        · have hj2 := (List.getElem?_eq_some_iff.mp he).1
          rw [List.length_append] at hj2
          have : j = es.length := by simp at hj2; omega
          subst this
          rw [List.getElem?_append_right (Nat.le_refl _)] at he
          simp at he
          subst he
          rw [hel, hp] at hq; cases hq
          exact ⟨hpm2, hst2⟩
    · rintro σ H2 ⟨sm, hb, _, u1, u2, rfl⟩
      exact kq (fun i hi => hb i (by rw [rl]; exact hi)) H2 sm
end
end My
set_option maxRecDepth 100000
set_option maxHeartbeats 4000000
set_option exponentiation.threshold 10000
namespace My
open PySem L2
open C8 (pss_cut)
/-- a list, or a tuple laid here -/
def LT (H : Hp) (a : Addr) (xs : List V) : Prop := H a = some (.lst xs) ∨ H a = some (.tup xs)
theorem LT.same {H H' : Hp} {a : Addr} {xs : List V} (h : LT H a xs) (e : Same H H') : LT H' a xs := h.imp (e _ _) (e _ _)
theorem LT.sqa {K : PySem.W.Frag} {H : Hp} {a : Addr} {xs : List V} (h : LT H a xs) : SqA K H a xs := h.imp SqL.of SqT.of
theorem LT.updI {H : Hp} {a p C dx : Addr} {xs : List V} {f : List (Str × V)} {o : HO} (h : LT H a xs) (hp : H p = some (.ins C dx f)) : LT (upd H p o) a xs :=
  h.imp (fun e => by rw [upd_ne (fun z => by rw [z, hp] at e; cases e)]; exact e) (fun e => by rw [upd_ne (fun z => by rw [z, hp] at e; cases e)]; exact e)
theorem tupP {K : PySem.W.Frag} {H : Hp} {p : Addr} {ys : List V} {Q : VK} (h : LT H p ys) (k : ∀ a H', Same H H' → H' a = some (.tup ys) → Q (.ref a) H') : rTupOf K [.ref p] H Q := by
  refine ⟨p, ys, rfl, ?_⟩
  rcases h with h | h
  · exact .inl ⟨SqL.of h, fun l hl => k l _ (same_new hl) upd_same⟩
  · exact .inr ⟨SqT.of h, k p H (Same.refl _) h⟩
structure LsT (H : Hp) (ts : List Addr) (rs : List (List Str)) : Prop where
  len : ts.length = rs.length
  at_ : ∀ (i : Nat) (t : Addr) (r : List Str), ts[i]? = some t → rs[i]? = some r → LT H t (sv r)
theorem LsT.same {H H' : Hp} {ts : List Addr} {rs : List (List Str)} (h : LsT H ts rs) (e : Same H H') : LsT H' ts rs := ⟨h.len, fun i t x a b => (h.at_ i t x a b).same e⟩
theorem LsT.get {H : Hp} {ts : List Addr} {rs : List (List Str)} (h : LsT H ts rs) {i : Nat} {t : Addr} (hi : ts[i]? = some t) : ∃ r, rs[i]? = some r ∧ LT H t (sv r) := by
  have hx : i < rs.length := by rw [← h.len]; exact (List.getElem?_eq_some_iff.mp hi).1
  exact ⟨rs[i], List.getElem?_eq_getElem hx, h.at_ i _ _ hi (List.getElem?_eq_getElem hx)⟩
theorem LsT.lsa {K : PySem.W.Frag} {H : Hp} {ts : List Addr} {rs : List (List Str)} (h : LsT H ts rs) : LsA K H ts rs := ⟨h.len, fun i t r a b => (h.at_ i t r a b).sqa⟩
theorem LsT.updI {H : Hp} {p C dx : Addr} {ts : List Addr} {rs : List (List Str)} {f : List (Str × V)} {o : HO} (h : LsT H ts rs) (hp : H p = some (.ins C dx f)) : LsT (upd H p o) ts rs := ⟨h.len, fun i t x a b => (h.at_ i t x a b).updI hp⟩
section
variable {P : Program} {w : World} {K : PySem.W.Frag} {mg : Str → Option Value} {base : Heap} {A : Ad}
def spMkX (C B : Addr) (lt : List V → HO) : Sp := fun vs H Q E => ∃ (p g r dx : Addr) (gs : List Str) (ts : List Addr) (ps : List (List Str)), vs = [.ref p, .ref g, .ref r] ∧ H p = some (.ins C dx []) ∧ LT H g (sv gs) ∧ H r = some (lt (ts.map V.ref)) ∧ LsT H ts ps ∧ (∀ z ∈ gs, z.length ≤ 16000000) ∧ gs.length ≤ 1000 ∧ ps.length ≤ 1000 ∧ (∀ q ∈ ps, q.length ≤ 20 ∧ ∀ z ∈ q, Okz z) ∧
  (guestFault gs = none → (∀ i, i < ps.length → okPair gs ps i) → ∀ H', (∀ b o, b ≠ p → H b = some o → H' b = some o) → Mt C H' p gs ps → Q .non H') ∧
  (∀ pt i, guestFault gs = some (pt, i) → ∀ d H', Same H H' → H' d = some (.xd [("index", .int (i : Nat)), ("part", .str pt)]) → E (.ref B) (some d) H') ∧
  ∀ i, guestFault gs = none → i < ps.length → (∀ j, j < i → okPair gs ps j) → ¬ okPair gs ps i → ∀ d H', Same H H' → H' d = some (.xd [("index", .int (i : Nat)), ("part", .str "pair")]) → E (.ref B) (some d) H'
theorem ok_mk (T : Txt P K mg A) : FnOk P w K mg base (L2.CX P w) 5 A.a_Meetings_init A.d_Meetings_init ["self", "guests", "pairs"] (spMkX A.C_Meetings A.C_BadMeetings .lst) := by
  have GX_check_guests := ok_chG (P := P) (w := w) (base := base) T
  have GX_check_pairs := ok_chP (P := P) (w := w) (base := base) T
  refine funX T.F_Meetings_init sc_Meetings_init (fun vs H Q E h => ?_) (fun cdv A' outer s H vs Q E hr h => ?_)
  · obtain ⟨p, g, r, dx, gs, ts, ps, rfl, _⟩ := h
    rfl
  · obtain ⟨p, g, r, dx, gs, ts, ps, rfl, hp, hG, hR, hT, hgz, hgl, hpl, hpz, kq, keg, kep⟩ := h
    refine ⟨_, (pss_cons (ps_expr (pe_callS GX_check_guests (hr.mono (by decide)) rfl T.mg_check_guests T.F_check_guests.kp T.b_check_guests (fun σ => passAt (takes_of rfl rfl rfl rfl) σ) (pa_cons (pv 1) pa_nil)))
      (pss_cons (ps_expr (pe_callS GX_check_pairs (hr.mono (by decide)) rfl T.mg_check_pairs T.F_check_pairs.kp T.b_check_pairs (fun σ => passAt (takes_of rfl rfl rfl rfl) σ) (pa_cons (pv 1) (pa_cons (pv 2) pa_nil))))
      (pss_cons (ps_fld (pv 0) (pe_callTy (show CallR _ _ (rTupOf K) from call_tuple_of) (by rfl) T.n_tuple (by decide +kernel) (pa_cons (pv 1) pa_nil)) rfl)
      (pss_one (ps_fld (pv 0) (pe_callTy (show CallR _ _ (rTupOf K) from call_tuple_of) (by rfl) T.n_tuple (by decide +kernel) (pa_cons (pe_lc (own := [("pair", 3)]) (g := gName 3) (tt := tYes) rfl sc_Meetings_init.nd (pi_list (pv 2)) (blkOk_by (N := ["self", "guests", "pairs", "pair"]) (sc := defScope s_Meetings_init) (by decide +kernel)) (fun _ _ _ _ _ => (pg_name (i := 3) sc_Meetings_init.nd rfl (Or.inl rfl))) (fun _ _ _ _ _ => pts_nil) (fun _ _ _ _ _ => (pe_callTy (show CallR _ _ (rTupOf K) from call_tuple_of) (by rfl) T.n_tuple (by decide +kernel) (pa_cons (pv 3) pa_nil)))) pa_nil)) rfl))))), ?_⟩
    refine ⟨_, rfl, g, gs, rfl, hG.sqa, hgz, hgl, fun hg0 H1 s1 => ?_, keg⟩
    refine ⟨_, rfl, _, rfl, g, r, gs, ts, ps, rfl, (hG.same s1).sqa, SqL.of (s1 _ _ hR), (hT.same s1).lsa, hpl, hpz, fun hp0 H2 s2 => ?_, fun i hi hb hn d H' s' hd => kep i hg0 hi hb hn d H' (s1.trans s') hd⟩
    have s2 := s1.trans s2
    have kq := kq hg0 hp0
    clear keg kep
    have hp := s2 _ _ hp
    have hG := hG.same s2
    have hR := s2 _ _ hR
    have hT := hT.same s2
    refine ⟨_, rfl, ?_⟩
    dsimp only [tNil]
    refine tupP (K := K) hG fun gt H3 s3 hgt => ?_
    have hp3 := s3 _ _ hp
    have hR := s3 _ _ hR
    have hT := hT.same s3
    refine ⟨_, rfl, p, _, dx, [], rfl, hp3, T.cl_Meetings, T.n_Meetings_guests, (by show 0 < 1000; decide), ?_⟩
    have x4 := upd_same (H := H3) (a := p) (o := .ins A.C_Meetings dx (putF "guests" (.ref gt) []))
    have k4 : ∀ b o, b ≠ p → H b = some o → upd H3 p (.ins A.C_Meetings dx (putF "guests" (.ref gt) [])) b = some o := fun b o hb e => by rw [upd_ne hb]; exact s3 _ _ (s2 _ _ e)
    have hgt4 : upd H3 p (.ins A.C_Meetings dx (putF "guests" (.ref gt) [])) gt = some (.tup (sv gs)) := by rw [upd_ne (fun z => by rw [z, hp3] at hgt; cases hgt)]; exact hgt
    have hR4 : upd H3 p (.ins A.C_Meetings dx (putF "guests" (.ref gt) [])) r = some (.lst (ts.map V.ref)) := by rw [upd_ne (fun z => by rw [z, hp3] at hR; cases hR)]; exact hR
    have hT4 := hT.updI (o := .ins A.C_Meetings dx (putF "guests" (.ref gt) [])) hp3
    generalize upd H3 p _ = H4 at x4 k4 hgt4 hR4 hT4 ⊢
    refine ⟨_, rfl, r, rfl, ⟨_, SqL.of hR4⟩, fun D nD => lc_it walk_list (fun i G => LcG (fun q => .tup (sv q)) H4 D (ps.take i) G) (lcg0 nD) (fun i G _ q => SqL.of (q.1 _ _ hR4)) ?_ ?_⟩
    · rintro i x Ga Gb hi q ⟨rfl, hx⟩
      obtain ⟨u, hu, rfl⟩ := refs_get hx
      obtain ⟨y, hy, hly⟩ := (hT4.same q.1).get hu
      refine ⟨rfl, _, rfl, ?_⟩
      dsimp only [tNil]
      refine tupP (K := K) hly fun e G2 t2 he => ?_
      rw [take_succ hy]
      refine q.push nD t2 he (fun z => ?_) (by rw [List.length_take]; omega)
      obtain ⟨_, us', hd', _⟩ := q
      rw [z, t2 _ _ hd'] at he; cases he
    rintro H5 ⟨s5, us, hD5, hus, _⟩
    have hus : Lg (fun q => .tup (sv q)) H5 us ps := by
      have e := hus
      rw [List.length_map, hT.len, List.take_length] at e
      exact e
    refine ⟨D, _, rfl, .inl ⟨SqL.of hD5, fun pt npt => ?_⟩⟩
    generalize hG : upd H5 pt _ = H6
    have s6 : Same H5 H6 := hG ▸ same_new npt
    have hpt := (congrFun hG pt).symm.trans upd_same
    clear hG
    have s46 := s5.trans s6
    have hp6 := s46 _ _ x4
    have hg6 := s46 _ _ hgt4
    refine ⟨_, rfl, p, _, dx, _, rfl, hp6, T.cl_Meetings, T.n_Meetings_pairs, (by show 1 < 1000; decide), ?_⟩
    have nn : ∀ {a : Addr} {xs : List V}, H6 a = some (.tup xs) → upd H6 p (.ins A.C_Meetings dx (fldsM gt pt)) a = some (.tup xs) := fun {a xs} e => by rw [upd_ne (fun z => by rw [z, hp6] at e; cases e)]; exact e
    refine kq _ (fun b o hb e => by rw [upd_ne hb]; exact s46 _ _ (k4 b o hb e)) ⟨dx, gt, pt, us, upd_same, nn hg6, nn hpt, ⟨hus.len, fun i t x a b => nn (s6 _ _ (hus.at_ i t x a b))⟩⟩
theorem ok_mkT (T : Txt P K mg A) : FnOk P w K mg base (L2.CX P w) 5 A.a_Meetings_init A.d_Meetings_init ["self", "guests", "pairs"] (spMkX A.C_Meetings A.C_BadMeetings .tup) := by
  have GX_check_guests := ok_chG (P := P) (w := w) (base := base) T
  have GX_check_pairsT := ok_chPT (P := P) (w := w) (base := base) T
  refine funX T.F_Meetings_init sc_Meetings_init (fun vs H Q E h => ?_) (fun cdv A' outer s H vs Q E hr h => ?_)
  · obtain ⟨p, g, r, dx, gs, ts, ps, rfl, _⟩ := h
    rfl
  · obtain ⟨p, g, r, dx, gs, ts, ps, rfl, hp, hG, hR, hT, hgz, hgl, hpl, hpz, kq, keg, kep⟩ := h
    refine ⟨_, (pss_cons (ps_expr (pe_callS GX_check_guests (hr.mono (by decide)) rfl T.mg_check_guests T.F_check_guests.kp T.b_check_guests (fun σ => passAt (takes_of rfl rfl rfl rfl) σ) (pa_cons (pv 1) pa_nil)))
      (pss_cons (ps_expr (pe_callS GX_check_pairsT (hr.mono (by decide)) rfl T.mg_check_pairs T.F_check_pairs.kp T.b_check_pairs (fun σ => passAt (takes_of rfl rfl rfl rfl) σ) (pa_cons (pv 1) (pa_cons (pv 2) pa_nil))))
      (pss_cons (ps_fld (pv 0) (pe_callTy (show CallR _ _ (rTupOf K) from call_tuple_of) (by rfl) T.n_tuple (by decide +kernel) (pa_cons (pv 1) pa_nil)) rfl)
      (pss_one (ps_fld (pv 0) (pe_callTy (show CallR _ _ (rTupOf K) from call_tuple_of) (by rfl) T.n_tuple (by decide +kernel) (pa_cons (pe_lc (own := [("pair", 3)]) (g := gName 3) (tt := tYes) rfl sc_Meetings_init.nd (pi_tup (pv 2)) (blkOk_by (N := ["self", "guests", "pairs", "pair"]) (sc := defScope s_Meetings_init) (by decide +kernel)) (fun _ _ _ _ _ => (pg_name (i := 3) sc_Meetings_init.nd rfl (Or.inl rfl))) (fun _ _ _ _ _ => pts_nil) (fun _ _ _ _ _ => (pe_callTy (show CallR _ _ (rTupOf K) from call_tuple_of) (by rfl) T.n_tuple (by decide +kernel) (pa_cons (pv 3) pa_nil)))) pa_nil)) rfl))))), ?_⟩
    refine ⟨_, rfl, g, gs, rfl, hG.sqa, hgz, hgl, fun hg0 H1 s1 => ?_, keg⟩
    refine ⟨_, rfl, _, rfl, g, r, gs, ts, ps, rfl, (hG.same s1).sqa, SqT.of (s1 _ _ hR), (hT.same s1).lsa, hpl, hpz, fun hp0 H2 s2 => ?_, fun i hi hb hn d H' s' hd => kep i hg0 hi hb hn d H' (s1.trans s') hd⟩
    have s2 := s1.trans s2
    have kq := kq hg0 hp0
    clear keg kep
    have hp := s2 _ _ hp
    have hG := hG.same s2
    have hR := s2 _ _ hR
    have hT := hT.same s2
    refine ⟨_, rfl, ?_⟩
    dsimp only [tNil]
    refine tupP (K := K) hG fun gt H3 s3 hgt => ?_
    have hp3 := s3 _ _ hp
    have hR := s3 _ _ hR
    have hT := hT.same s3
    refine ⟨_, rfl, p, _, dx, [], rfl, hp3, T.cl_Meetings, T.n_Meetings_guests, (by show 0 < 1000; decide), ?_⟩
    have x4 := upd_same (H := H3) (a := p) (o := .ins A.C_Meetings dx (putF "guests" (.ref gt) []))
    have k4 : ∀ b o, b ≠ p → H b = some o → upd H3 p (.ins A.C_Meetings dx (putF "guests" (.ref gt) [])) b = some o := fun b o hb e => by rw [upd_ne hb]; exact s3 _ _ (s2 _ _ e)
    have hgt4 : upd H3 p (.ins A.C_Meetings dx (putF "guests" (.ref gt) [])) gt = some (.tup (sv gs)) := by rw [upd_ne (fun z => by rw [z, hp3] at hgt; cases hgt)]; exact hgt
    have hR4 : upd H3 p (.ins A.C_Meetings dx (putF "guests" (.ref gt) [])) r = some (.tup (ts.map V.ref)) := by rw [upd_ne (fun z => by rw [z, hp3] at hR; cases hR)]; exact hR
    have hT4 := hT.updI (o := .ins A.C_Meetings dx (putF "guests" (.ref gt) [])) hp3
    generalize upd H3 p _ = H4 at x4 k4 hgt4 hR4 hT4 ⊢
    refine ⟨_, rfl, r, rfl, ⟨_, SqT.of hR4⟩, fun D nD => lc_it walk_tup (fun i G => LcG (fun q => .tup (sv q)) H4 D (ps.take i) G) (lcg0 nD) (fun i G _ q => SqT.of (q.1 _ _ hR4)) ?_ ?_⟩
    · rintro i x Ga Gb hi q ⟨rfl, hx⟩
      obtain ⟨u, hu, rfl⟩ := refs_get hx
      obtain ⟨y, hy, hly⟩ := (hT4.same q.1).get hu
      refine ⟨rfl, _, rfl, ?_⟩
      dsimp only [tNil]
      refine tupP (K := K) hly fun e G2 t2 he => ?_
      rw [take_succ hy]
      refine q.push nD t2 he (fun z => ?_) (by rw [List.length_take]; omega)
      obtain ⟨_, us', hd', _⟩ := q
      rw [z, t2 _ _ hd'] at he; cases he
    rintro H5 ⟨s5, us, hD5, hus, _⟩
    have hus : Lg (fun q => .tup (sv q)) H5 us ps := by
      have e := hus
      rw [List.length_map, hT.len, List.take_length] at e
      exact e
    refine ⟨D, _, rfl, .inl ⟨SqL.of hD5, fun pt npt => ?_⟩⟩
    generalize hG : upd H5 pt _ = H6
    have s6 : Same H5 H6 := hG ▸ same_new npt
    have hpt := (congrFun hG pt).symm.trans upd_same
    clear hG
    have s46 := s5.trans s6
    have hp6 := s46 _ _ x4
    have hg6 := s46 _ _ hgt4
    refine ⟨_, rfl, p, _, dx, _, rfl, hp6, T.cl_Meetings, T.n_Meetings_pairs, (by show 1 < 1000; decide), ?_⟩
    have nn : ∀ {a : Addr} {xs : List V}, H6 a = some (.tup xs) → upd H6 p (.ins A.C_Meetings dx (fldsM gt pt)) a = some (.tup xs) := fun {a xs} e => by rw [upd_ne (fun z => by rw [z, hp6] at e; cases e)]; exact e
    refine kq _ (fun b o hb e => by rw [upd_ne hb]; exact s46 _ _ (k4 b o hb e)) ⟨dx, gt, pt, us, upd_same, nn hg6, nn hpt, ⟨hus.len, fun i t x a b => nn (s6 _ _ (hus.at_ i t x a b))⟩⟩
end
end My
set_option maxRecDepth 100000
set_option maxHeartbeats 4000000
set_option exponentiation.threshold 10000
namespace My
open PySem L2
open C8 (pss_cut)
def ltrs (n : Nat) : List Str := (List.range n).map fun i => l1 (97 + i)
theorem ltrs_len (n : Nat) : (ltrs n).length = n := by unfold ltrs; rw [List.length_map, List.length_range]
theorem ltrs_at {n i : Nat} (h : i < n) : (ltrs n)[i]? = some (l1 (97 + i)) := by unfold ltrs; rw [List.getElem?_map, List.getElem?_range h]; rfl
theorem abc_cut : ∀ n : Fin 13, (cutS ("abcdefghijkl" : Str) none (some ((n.val : Nat) : Int))).cps.toList = (List.range n.val).map (97 + ·) := by decide +kernel
theorem abc_sgn {n : Nat} (h : n ≤ 12) : sgn (cutS ("abcdefghijkl" : Str) none (some (n : Int))) = sv (ltrs n) := by
  have := abc_cut ⟨n, by omega⟩
  unfold sgn
  rw [this]
  unfold ltrs sv
  rw [List.map_map, List.map_map]; rfl
theorem ltrs_ok {n : Nat} (h : n ≤ 12) : ColsOk (ltrs n) := by
  have h12 : ∀ n : Fin 13, (decide (ltrs n.val).Nodup && (ltrs n.val).all okName) = true := by decide +kernel
  have := h12 ⟨n, by omega⟩
  rw [Bool.and_eq_true, decide_eq_true_iff] at this
  exact ⟨fun z hz => okName_iff.mp (List.all_eq_true.mp this.2 z hz), this.1, by rw [ltrs_len]; exact h⟩
/-- the columns of the companies with a guest, of the first i ones -/
def cw (z : Str) (cs : List (List Str)) (i : Nat) : List Str := ((List.range i).filter fun k => decide (z ∈ cs.getD k [])).map fun k => l1 (97 + k)
theorem cw_len (z : Str) (cs : List (List Str)) (i : Nat) : (cw z cs i).length ≤ i := by
  unfold cw
  rw [List.length_map]
  refine Nat.le_trans (List.length_filter_le _ _) ?_
  rw [List.length_range]; exact Nat.le_refl _
theorem cw_succ (z : Str) (cs : List (List Str)) (i : Nat) : cw z cs (i + 1) = cw z cs i ++ if decide (z ∈ cs.getD i []) = true then [l1 (97 + i)] else [] := by
  unfold cw
  rw [List.range_succ, List.filter_append, List.map_append, List.filter_cons]
  split <;> rfl
theorem cw_sub (z : Str) (cs : List (List Str)) (n : Nat) : (cw z cs n).Sublist (ltrs n) := List.filter_sublist.map _
theorem canon_sublist {cs S : List Str} (h : S.Sublist cs) (nd : cs.Nodup) : canon cs S = S := by
  unfold canon
  induction h with
  | slnil => rfl
  | cons a h ih =>
    rename_i l₁ l₂
    obtain ⟨n1, n2⟩ := List.nodup_cons.mp nd
    rw [List.filter_cons_of_neg (by simpa using fun hm => n1 (h.subset hm))]
    exact ih n2
  | cons_cons a h ih =>
    rename_i l₁ l₂
    obtain ⟨n1, n2⟩ := List.nodup_cons.mp nd
    rw [List.filter_cons_of_pos (by simp)]
    refine congrArg (a :: ·) (Eq.trans (List.filter_congr fun x hx => ?_) (ih n2))
    have : x ≠ a := fun e => n1 (e ▸ hx)
    rw [decide_eq_decide]; simp [this]
section
variable {P : Program} {w : World} {K : PySem.W.Frag} {mg : Str → Option Value} {base : Heap} {A : Ad}
def spWith (K : PySem.W.Frag) : Sp := fun vs H Q E => ∃ (m c : Addr) (z : Str) (cs : List (List Str)) (ts : List Addr), vs = [.str z, .ref m, .ref c] ∧ SqL K H m (ts.map V.ref) ∧ Lg (fun r => .tup (sv r)) H ts cs ∧ SqL K H c (sv (ltrs cs.length)) ∧ cs.length ≤ 12 ∧ ∀ D H', Same H H' → H D = none → H' D = some (.lst (sv (cw z cs cs.length))) → Q (.ref D) H'
theorem ok_with (T : Txt P K mg A) : FnOk P w K mg base CX0 1 A.a_companies_with A.d_companies_with ["guest", "companies", "columns"] (spWith K) := by
  refine T.F_companies_with.ok sc_companies_with (fun vs H Q E h => ?_) (fun cdv A' outer s H vs Q E hr h => ?_)
  · obtain ⟨m, c, z, cs, ts, rfl, _⟩ := h
    rfl
  · obtain ⟨m, c, z, cs, ts, rfl, hm, hT, hc, hl, k⟩ := h
    refine ⟨_, (pss_one (ps_ret (pe_lc (own := [("name", 3), ("company", 4)]) (g := gTup K 2 (gCons (gName 3) (gCons (gName 4) gNil))) (tt := _) rfl sc_companies_with.nd (pi_zip (by rfl) T.n_zip (pa_cons (pv 2) (pa_cons (pv 1) pa_nil))) (blkOk_by (N := ["guest", "companies", "columns", "name", "company"]) (sc := defScope s_companies_with) (by decide +kernel)) (fun _ _ _ _ _ => (pg_tup (by rfl) (pgs_cons (pg_name (i := 3) sc_companies_with.nd rfl (Or.inl rfl)) (pgs_cons (pg_name (i := 4) sc_companies_with.nd rfl (Or.inl rfl)) pgs_nil)))) (fun _ _ _ _ _ => (pts_one (pt_cmpR (show OpR _ _ (rIn K false) from op_in_seq) (pv 0) (pv 4) (by with_unfolding_all rfl)))) (fun _ _ _ _ _ => (pv 3))))), ?_⟩
    have e1 : (sv (ltrs cs.length)).length = cs.length := by rw [len_sv, ltrs_len]
    have e2 : (ts.map V.ref).length = cs.length := by rw [List.length_map, hT.len]
    refine ⟨_, rfl, _, rfl, c, m, _, _, rfl, hc, hm, fun D nD => lc_it (walk_zip (n := cs.length) (by rw [e1, e2]; omega)) (PvS H D fun i => sv (cw z cs i)) (pv0 nD rfl) (fun i G _ q => ⟨q.1.seq hc, q.1.seq hm⟩) ?_ ?_⟩
    · rintro i x H3 H4 hi q ⟨t, _, _, rfl, ht, rfl, hx1, hx2⟩
      obtain ⟨y, hy, rfl⟩ := sv_get hx1
      obtain ⟨u, hu, rfl⟩ := refs_get hx2
      rw [ltrs_at hi] at hy
      cases hy
      obtain ⟨r, hr2, hur⟩ := hT.get hu
      have q' := q.more (same_new (o := .tup [.str (l1 (97 + i)), .ref u]) ht)
      refine ⟨t, _, rfl, SqT.of upd_same, rfl, _, _, rfl, _, _, rfl, rfl, rfl, ?_⟩
      refine ⟨_, rfl, _, rfl, u, _, rfl, .inr (SqT.of (q'.1 _ _ hur)), rfl, flat_sv _, _, rfl, ?_⟩
      rw [if_neg Bool.false_ne_true, inV_str]
      have eg : cs.getD i [] = r := by rw [List.getD_eq_getElem?_getD, hr2]; rfl
      have st : sv (cw z cs (i + 1)) = sv (cw z cs i) ++ sv (if decide (z ∈ r) = true then [l1 (97 + i)] else []) := by rw [cw_succ, eg]; exact List.map_append
      by_cases hm : z ∈ r
      · rw [if_pos (decide_eq_true hm)] at st
        exact ifT (decide_eq_true hm) ⟨_, rfl, q'.push nD st (by rw [len_sv]; have := cw_len z cs i; omega)⟩
      · rw [if_neg (by simpa using hm)] at st
        exact ifF (decide_eq_false hm) (q'.skip (by rw [st]; simp))
    · rintro H3 ⟨sm, h3⟩
      exact k D H3 sm nD h3
def spTab (C D U : Addr) : Sp := fun vs H Q E => ∃ (p : Addr) (gs : List Str) (ps : List (List Str)), vs = [.ref p] ∧ Mt C H p gs ps ∧ (∀ z ∈ gs, Good z) ∧ gs.length ≤ 12 ∧ (∀ q ∈ ps, ∀ z ∈ q, Okz z) ∧
  ((comps gs ps).length ≤ 12 → ∀ t H', Same H H' → H t = none → Tb D H' t (ltrs (comps gs ps).length) (gs.map fun z => cw z (comps gs ps) (comps gs ps).length) → Q (.ref t) H') ∧
  (12 < (comps gs ps).length → ∀ d H', Same H H' → H' d = some (.xd [("many", .int ((comps gs ps).length : Nat))]) → E (.ref U) (some d) H')
theorem comps_len (gs : List Str) (ps : List (List Str)) (h : gs.length ≤ 12) : (comps gs ps).length ≤ 4096 := by
  unfold comps
  rw [List.length_map, (srtL_perm _).length_eq]
  unfold progC
  rw [List.length_map]; exact progM_len _ _ h
theorem ok_tab (T : Txt P K mg A) : FnOk P w K mg base (L2.CX P w) 6 A.a_company_table A.d_company_table ["meetings"] (spTab A.C_Meetings A.C_Table A.C_TooMany) := by
  have G_TooMany_init := ok_TooMany (P := P) (w := w) (base := base) T
  have G_Meetings_companies := ok_comp (P := P) (w := w) (base := base) T
  have G_companies_with := ok_with (P := P) (w := w) (base := base) T
  have G_Table_init := ok_table (P := P) (w := w) (base := base) T
  refine funX T.F_company_table sc_company_table (fun vs H Q E h => ?_) (fun cdv A' outer s H vs Q E hr h => ?_)
  · obtain ⟨p, gs, ps, rfl, _⟩ := h
    rfl
  · obtain ⟨p, gs, ps, rfl, hM, hg, hl, op, kq, ke⟩ := h
    refine ⟨_, (pss_cons (ps_set (i := 1) sc_company_table.nd rfl (Or.inr rfl) (pe_meth0 (pv 0) T.cl_Meetings T.m_Meetings_companies G_Meetings_companies (hr.mono (by decide)) T.b_Meetings_companies .nil pass0))
      (pss_cons (ps_if (pt_cmpR op_gt (pe_callB call_len_seq (by rfl) T.n_len (by decide +kernel) (pa_cons (pv 1) pa_nil)) (ClX.pe_cval (pe_glob (v := .ref A.C_Table) rfl T.mg_Table rfl)) (nomark _)) (pss_one (ps_raise rfl (takes_of rfl rfl rfl rfl) (pmk_oex T.SC_TooMany.ox T.ii_TooMany T.ti_TooMany G_TooMany_init (hr.mono (by decide)) T.b_TooMany_init .nil pass0 rfl T.mg_TooMany (pa_cons (pe_callB call_len_seq (by rfl) T.n_len (by decide +kernel) (pa_cons (pv 1) pa_nil)) pa_nil)))) pss_nil)
      (pss_cons (ps_set (i := 2) sc_company_table.nd rfl (Or.inr rfl) (pe_callTy (call_listS rfl) (by rfl) T.n_list (by decide +kernel) (pa_cons (pe_slice sl_str (pe_glob (v := .str "abcdefghijkl") rfl T.mg_COLUMN_NAMES.choose_spec ⟨_, rfl⟩) po_none (po_some (pe_callB call_len_seq (by rfl) T.n_len (by decide +kernel) (pa_cons (pv 1) pa_nil)))) pa_nil)))
      (pss_one (ps_ret (pe_make T.mk_Table G_Table_init (hr.mono (by decide)) rfl T.mg_Table T.bi .nil pass0 (pa_cons (pv 2) (pa_cons (pe_lc (own := [("guest", 3)]) (g := gName 3) (tt := tYes) rfl sc_company_table.nd (pi_tup (pe_fld (pv 0) rfl)) (blkOk_by (N := ["meetings", "companies", "columns", "guest"]) (sc := defScope s_company_table) (by decide +kernel)) (fun _ _ _ _ _ => (pg_name (i := 3) sc_company_table.nd rfl (Or.inl rfl))) (fun _ _ _ _ _ => pts_nil) (fun _ _ _ _ _ => (pe_call G_companies_with (hr.mono (by decide)) rfl T.mg_companies_with T.F_companies_with.kp T.b_companies_with .nil pass0 (pa_cons (pv 3) (pa_cons (pv 1) (pa_cons (pv 2) pa_nil)))))) pa_nil)))))))), ?_⟩
    have hM0 := hM
    obtain ⟨dx, gt, pt, pts, h1, h2, h3, h4⟩ := hM
    refine ⟨_, rfl, p, dx, _, rfl, h1, fldsM_comp gt pt, p, gs, ps, rfl, hM0, hg, hl, op, fun D ts H1 s1 nD hD hts => ?_⟩
    have cl := comps_len gs ps hl
    generalize comps gs ps = cs at kq ke hts cl
    have e2 : (ts.map V.ref).length = cs.length := by rw [List.length_map, hts.len]
    obtain ⟨u0, hu0⟩ := T.cv_Table_MOST_COLUMNS
    refine ⟨_, rfl, D, _, rfl, .inl (SqL.of hD), _, _, _, _, rfl, T.cr_Table, hu0, _, _, rfl, rfl, _, rfl, ?_⟩
    by_cases h12 : (((ts.map V.ref).length : Nat) : Int) > 12
    · refine ifT (decide_eq_true h12) ⟨_, rfl, D, _, rfl, .inl (SqL.of hD), by show 1 ≤ 1000; decide, fun a ha => ⟨a, _, rfl, ⟨_, rfl, by omega⟩, upd_same, fun d hd hne => ⟨rfl, d, _, upd_same, by rw [upd_ne hne, upd_same], by rw [upd_ne hne] at hd; exact hd, ?_⟩⟩⟩
      rw [upd_ne hne] at hd
      rw [e2]
      exact ke (by omega) d _ (s1.trans (exc_same ha hd)) upd_same
    refine ifF (decide_eq_false h12) ?_
    have h12 : cs.length ≤ 12 := by omega
    have kq := kq h12
    have cps : (cutS ("abcdefghijkl" : Str) none (some (cs.length : Int))).cps.size = cs.length := by
      have := congrArg List.length (abc_cut ⟨cs.length, by omega⟩)
      rw [List.length_map, List.length_range, Array.length_toList] at this
      exact this
    refine ⟨_, rfl, D, _, rfl, .inl (SqL.of hD), _, rfl, _, rfl, by decide, ?_⟩
    rw [e2]
    refine ⟨_, rfl, by rw [cps]; exact Nat.le_trans h12 (by decide), fun LD nLD => ?_⟩
    rw [abc_sgn h12]
    generalize hG : upd H1 LD _ = H2
    have s2 : Same H1 H2 := hG ▸ same_new nLD
    have hLD := (congrFun hG LD).symm.trans upd_same
    clear hG
    have s12 := s1.trans s2
    have m1 := s12 _ _ h1
    refine ⟨_, rfl, _, rfl, _, _, _, _, _, rfl, m1, T.cl_Meetings, T.n_Meetings_guests, fldsM_guests _ _, gt, rfl, ⟨_, SqT.of (s12 _ _ h2)⟩, fun RD nRD => lc_it walk_tup (fun i G => LcG (fun q => .lst (sv q)) H2 RD ((gs.take i).map fun z => cw z cs cs.length) G) (lcg0 nRD) (fun i G _ q => SqT.of (q.1 _ _ (s12 _ _ h2))) ?_ ?_⟩
    · rintro i x Ga Gb hi q ⟨rfl, hx⟩
      obtain ⟨z, hz, rfl⟩ := sv_get hx
      refine ⟨rfl, _, rfl, _, rfl, _, rfl, D, LD, z, cs, ts, rfl, SqL.of (q.1 _ _ (s2 _ _ hD)), hts.same (s2.trans q.1), SqL.of (q.1 _ _ hLD), h12, fun a G2 t2 na ha => ?_⟩
      rw [take_succ hz, List.map_append]
      refine q.push nRD t2 ha (fun e => ?_) (by rw [List.length_map, List.length_take]; omega)
      obtain ⟨_, us', hd', _⟩ := q
      rw [e, hd'] at na; cases na
    rintro H3 ⟨s3, us, hRD, hus, _⟩
    have hus : Lg (fun q => .lst (sv q)) H3 us (gs.map fun z => cw z cs cs.length) := by
      have e := hus
      rw [len_sv, List.take_length] at e
      exact e
    have cok := ltrs_ok h12
    refine fun x dx hx hdx hne => mk_table2 (.inl (SqL.of (s3 _ _ hLD))) (SqL.of hRD) ⟨hus.len, fun i t r a b => .inl (SqL.of (hus.at_ i t r a b))⟩ cok (by rw [List.length_map]; omega) (fun r hr => ?_) hx hdx hne fun H4 s4 hT => ⟨rfl, kq x H4 (s12.trans (s3.trans s4)) (none_of (s12.trans s3) hx) hT⟩
    obtain ⟨z, _, rfl⟩ := List.mem_map.mp hr
    have := cw_sub z cs cs.length
    exact ⟨stray_none_iff.mpr ⟨fun y hy => this.subset hy, this.nodup cok.nd⟩, by have := cw_len z cs cs.length; omega⟩
end
end My
set_option maxRecDepth 100000
set_option maxHeartbeats 4000000
set_option exponentiation.threshold 10000
namespace My
open PySem L2
open C8 (pss_cut)
def cliqS (ps : List (List Str)) (c : List Str) : Bool := c.all fun a => c.all fun b => decide (a = b) || metB ps a b
section
variable {P : Program} {w : World} {K : PySem.W.Frag} {mg : Str → Option Value} {base : Heap} {A : Ad}
def spLMet (K : PySem.W.Frag) : Sp := fun vs H Q E => ∃ (D : Addr) (ts : List Addr) (a b : Str) (ps : List (List Str)), vs = [.ref D, .str a, .str b] ∧ SqL K H D (ts.map V.ref) ∧ Lss .tup H ts ps ∧ Okz a ∧ Okz b ∧ (∀ q ∈ ps, ∀ z ∈ q, Okz z) ∧ ∀ H', Same H H' → Q (.bl (metB ps a b)) H'
theorem ok_lmet (T : Txt P K mg A) : FnOk P w K mg base CX0 1 A.a_law_met A.d_law_met ["pairs", "one", "other"] (spLMet K) := by
  refine T.F_law_met.ok sc_law_met (fun vs H Q E h => ?_) (fun cdv A' outer s H vs Q E hr h => ?_)
  · obtain ⟨D, ts, a, b, ps, rfl, _⟩ := h
    rfl
  · obtain ⟨D, ts, a, b, ps, rfl, hD, h4, oa, ob, op, kq⟩ := h
    refine ⟨_, (pss_one (ps_ret (pe_or (pe_cmpR (op_inD (hu65 hr)) (pe_tup (pa_cons (pv 1) (pa_cons (pv 2) pa_nil))) (pv 0) (by with_unfolding_all rfl)) (pe_one (pe_cmpR (op_inD (hu65 hr)) (pe_tup (pa_cons (pv 2) (pa_cons (pv 1) pa_nil))) (pv 0) (by with_unfolding_all rfl)))))), ?_⟩
    have dq : ∀ {G : Hp} {u v : Str} {x : Addr}, Okz u → Okz v → G x = some (.tup (sv [u, v])) → Dp K G (.ref x) (.tuple (pd [u, v])) ∧ SeqAt.shaped (.tuple (pd [u, v])) = true := fun hu hv hx => ⟨.tup (SqT.of hx) (dp_pd _), shaped_pdT fun z hz => by
      rcases List.mem_cons.mp hz with e | hz
      · exact e ▸ hu
      · rw [List.mem_singleton.mp hz]; exact hv⟩
    refine ⟨_, rfl, _, rfl, by show 2 ≤ sizeLine; decide, fun t2 ht2 => ?_⟩
    generalize hG : upd H t2 _ = H3
    have s3 : Same H H3 := hG ▸ same_new ht2
    have ht3 := (congrFun hG t2).symm.trans upd_same
    clear hG
    have ht3 : H3 t2 = some (.tup (sv [a, b])) := ht3
    have dp1 := dq oa ob ht3
    refine ⟨_, rfl, _, _, dp1.1, .lst (s3.seq hD) (dp_pdd (h4.same s3)), dp1.2, shaped_pdd op, _, rfl, ?_⟩
    rw [any_pdd]
    by_cases hab : [a, b] ∈ ps
    · refine ifT (decide_eq_true hab) ?_
      rw [show metB ps a b = true by unfold metB; rw [decide_eq_true hab]; rfl] at kq
      exact kq _ s3
    refine ifF (decide_eq_false hab) ⟨_, rfl, _, rfl, by show 2 ≤ sizeLine; decide, fun t3 ht3 => ?_⟩
    generalize hG : upd H3 t3 _ = H4
    have s4 : Same H3 H4 := hG ▸ same_new ht3
    have ht4 := (congrFun hG t3).symm.trans upd_same
    clear hG
    have ht4 : H4 t3 = some (.tup (sv [b, a])) := ht4
    have s24 := s3.trans s4
    have dp2 := dq ob oa ht4
    refine ⟨_, rfl, _, _, dp2.1, .lst (s24.seq hD) (dp_pdd (h4.same s24)), dp2.2, shaped_pdd op, ?_⟩
    rw [any_pdd]
    rw [show metB ps a b = decide ([b, a] ∈ ps) by unfold metB; rw [decide_eq_false hab]; rfl] at kq
    exact kq _ s24
def spIsC (K : PySem.W.Frag) : Sp := fun vs H Q E => ∃ (g D c : Addr) (ts : List Addr) (ps : List (List Str)) (cs : List Str), vs = [.ref g, .ref D, .ref c] ∧ SqL K H D (ts.map V.ref) ∧ Lss .tup H ts ps ∧ SqL K H c (sv cs) ∧ (∀ z ∈ cs, Okz z) ∧ (∀ q ∈ ps, ∀ z ∈ q, Okz z) ∧ ∀ H', Same H H' → Q (.bl (cliqS ps cs && decide (0 < cs.length))) H'
theorem ok_isC (T : Txt P K mg A) : FnOk P w K mg base CX0 2 A.a_law_is_company A.d_law_is_company ["guests", "pairs", "company"] (spIsC K) := by
  have G_law_met := ok_lmet (P := P) (w := w) (base := base) T
  refine T.F_law_is_company.ok sc_law_is_company (fun vs H Q E h => ?_) (fun cdv A' outer s H vs Q E hr h => ?_)
  · obtain ⟨g, D, c, ts, ps, cs, rfl, _⟩ := h
    rfl
  · obtain ⟨g, D, c, ts, ps, cs, rfl, hD, hT, hc, oc, op, k⟩ := h
    refine ⟨_, (pss_cons (ps_for PassesOwn.never rfl (pi_list (pv 2)) (pg_name (i := 3) sc_law_is_company.nd rfl (Or.inl rfl))
        (pss_one (ps_for PassesOwn.never rfl (pi_list (pv 2)) (pg_name (i := 4) sc_law_is_company.nd rfl (Or.inl rfl))
        (pss_one (ps_if (PW.pt (pw_and (pt_cmpR op_ne (pv 3) (pv 4) (nomark _)) (pw_and1 (pt_not (pt_val (pe_call G_law_met (hr.mono (by decide)) rfl T.mg_law_met T.F_law_met.kp T.b_law_met .nil pass0 (pa_cons (pv 1) (pa_cons (pv 3) (pa_cons (pv 4) pa_nil))))))))) (pss_one (ps_ret pe_bl)) pss_nil)))))
      (pss_one (ps_ret (pe_cmpR op_gt (pe_callB call_len_seq (by rfl) T.n_len (by decide +kernel) (pa_cons (pv 2) pa_nil)) pe_int (nomark _))))), ?_⟩
    have no : ∀ {a b : Str}, a ∈ cs → b ∈ cs → a ≠ b → metB ps a b = false → cliqS ps cs = false := fun {a b} ha hb hne hm => by
      rw [Bool.eq_false_iff]
      intro z
      unfold cliqS at z
      have := List.all_eq_true.mp (List.all_eq_true.mp z a ha) b hb
      rw [hm, decide_eq_false hne] at this
      cases this
    refine ⟨_, rfl, c, rfl, ⟨_, hc⟩, for_it walk_list (fun i σ H2 => Same H H2 ∧ (∀ (j : Nat) a, j < i → cs[j]? = some a → (cs.all fun b => decide (a = b) || metB ps a b) = true) ∧ ∃ u1 u2, σ = [some (.ref g), some (.ref D), some (.ref c), u1, u2]) ⟨Same.refl _, fun j a hj => absurd hj (Nat.not_lt_zero _), none, none, rfl⟩ (fun i σ H2 _ q => q.1.seq hc) ?_ ?_⟩
    · rintro i x σ H20 H2 hi ⟨sm, hb, u1, u2, rfl⟩ ⟨rfl, hx⟩
      obtain ⟨a, ha, rfl⟩ := sv_get hx
      have ham := List.mem_of_getElem? ha
      refine ⟨_, rfl, c, rfl, ⟨_, sm.seq hc⟩, for_it walk_list (fun j σ H3 => Same H H3 ∧ (∀ (m : Nat) b, m < j → cs[m]? = some b → (decide (a = b) || metB ps a b) = true) ∧ ∃ u2, σ = [some (.ref g), some (.ref D), some (.ref c), some (.str a), u2]) ⟨sm, fun j a hj => absurd hj (Nat.not_lt_zero _), _, rfl⟩ (fun i σ H2 _ q => q.1.seq hc) ?_ ?_⟩
      · rintro j x σ H30 H3 hj ⟨sm3, hb3, u3, rfl⟩ ⟨rfl, hx⟩
        obtain ⟨b, hbb, rfl⟩ := sv_get hx
        have hbm := List.mem_of_getElem? hbb
        refine ⟨_, rfl, _, rfl, rfl, _, rfl, ?_⟩
        by_cases e : a = b
        · refine ifF (by rw [decide_eq_true (show V.str a = V.str b by rw [e])]; rfl) ⟨sm3, fun m y hm hy => ?_, _, rfl⟩
          rcases Nat.lt_succ_iff_lt_or_eq.mp hm with q | q
          · exact hb3 m y q hy
          · rw [q, hbb] at hy; cases hy; rw [decide_eq_true e]; rfl
        · refine ifT (by rw [decide_eq_false (fun z => e (V.str.inj z))]; rfl) ?_
          refine ⟨_, rfl, _, rfl, _, rfl, D, ts, a, b, ps, rfl, sm3.seq hD, hT.same sm3, oc a ham, oc b hbm, op, fun H4 s4 => ?_⟩
          have s34 := sm3.trans s4
          refine ⟨_, rfl, ?_⟩
          cases hm : metB ps a b with
          | true =>
            refine ifF rfl ⟨s34, fun m y hm2 hy => ?_, _, rfl⟩
            rcases Nat.lt_succ_iff_lt_or_eq.mp hm2 with q | q
            · exact hb3 m y q hy
            · rw [q, hbb] at hy; cases hy; rw [hm, Bool.or_true]
          | false =>
            refine ifT rfl ?_
            rw [no ham hbm e hm] at k
            exact k _ s34
      · rintro σ H3 ⟨sm3, hb3, u3, rfl⟩
        refine ⟨sm3, fun j y hj hy => ?_, _, _, rfl⟩
        rcases Nat.lt_succ_iff_lt_or_eq.mp hj with q | q
        · exact hb j y q hy
        · rw [q, ha] at hy
          cases hy
          refine List.all_eq_true.mpr fun b hbm => ?_
          obtain ⟨m, hm, e⟩ := List.getElem_of_mem hbm
          exact hb3 m b (by rw [len_sv]; exact hm) (by rw [List.getElem?_eq_getElem hm, e])
    · rintro σ H2 ⟨sm, hb, u1, u2, rfl⟩
      have e : cliqS ps cs = true := by
        unfold cliqS
        refine List.all_eq_true.mpr fun a ham => ?_
        obtain ⟨m, hm, e⟩ := List.getElem_of_mem ham
        exact hb m a (by rw [len_sv]; exact hm) (by rw [List.getElem?_eq_getElem hm, e])
      refine ⟨_, rfl, c, _, rfl, .inl (sm.seq hc), _, _, rfl, rfl, ?_⟩
      rw [e, Bool.true_and] at k
      rw [len_sv]
      have := k _ sm
      rw [show decide (0 < cs.length) = decide ((0 : Int) < (cs.length : Int)) from decide_eq_decide.mpr (by omega)] at this
      exact this
end
end My
set_option maxRecDepth 100000
set_option maxHeartbeats 4000000
set_option exponentiation.threshold 10000
namespace My
open PySem L2
open C8 (pss_cut)
theorem catO {H : Hp} {a b : Addr} {xs ys : List V} {Q : VK} (ha : H a = some (.lst xs)) (hb : H b = some (.lst ys)) (hl : xs.length + ys.length ≤ 1000000) (h : ∀ c H', Same H H' → H c = none → H' c = some (.lst (xs ++ ys)) → Q (.ref c) H') : rCat (.ref a) (.ref b) H Q :=
  ⟨a, b, xs, ys, rfl, rfl, ha, hb, Nat.le_trans hl (by decide), fun t ht => h t _ (same_new ht) ht upd_same⟩
theorem Lg.cat {α : Type} {f : α → HO} {H : Hp} {us vs : List Addr} {xs ys : List α} (h : Lg f H us xs) (g : Lg f H vs ys) : Lg f H (us ++ vs) (xs ++ ys) := by
  refine ⟨by rw [List.length_append, List.length_append, h.len, g.len], fun i t x a b => ?_⟩
  by_cases hi : i < us.length
  · rw [List.getElem?_append_left hi] at a
    rw [List.getElem?_append_left (by rw [← h.len]; exact hi)] at b
    exact h.at_ i t x a b
  · rw [List.getElem?_append_right (by omega)] at a
    rw [List.getElem?_append_right (by rw [← h.len]; omega), ← h.len] at b
    exact g.at_ _ t x a b
theorem pickS_map {gs : List Str} : ∀ {L : List Nat}, (∀ x ∈ L, x < gs.length) → pickS gs L = L.map fun i => gs.getD i ""
  | [], _ => rfl
  | a :: L, h => by
    have ha := h a List.mem_cons_self
    have ih := pickS_map fun x hx => h x (List.mem_cons_of_mem _ hx)
    unfold pickS at *
    rw [List.filterMap_cons, List.getElem?_eq_getElem ha, List.map_cons, ← ih]
    rw [List.getD_eq_getElem?_getD, List.getElem?_eq_getElem ha]; rfl
theorem pickS_snoc {gs : List Str} {L : List Nat} {k : Nat} {z : Str} (h : gs[k]? = some z) : pickS gs (L ++ [k]) = pickS gs L ++ [z] := by
  unfold pickS
  rw [List.filterMap_append, List.filterMap_cons, h]; rfl
theorem pickS_sub {gs : List Str} {L : List Nat} {z : Str} (h : z ∈ pickS gs L) : z ∈ gs := by
  unfold pickS at h
  obtain ⟨i, _, e⟩ := List.mem_filterMap.mp h
  exact List.mem_of_getElem? e
theorem getD_inj {gs : List Str} (nd : gs.Nodup) {i j : Nat} (hi : i < gs.length) (hj : j < gs.length) (e : gs.getD i "" = gs.getD j "") : i = j := by
  rw [List.getD_eq_getElem?_getD, List.getD_eq_getElem?_getD, List.getElem?_eq_getElem hi, List.getElem?_eq_getElem hj] at e
  exact (List.getElem_inj nd).mp e
theorem cliqS_pick {gs : List Str} {ps : List (List Str)} {L : List Nat} (nd : gs.Nodup) (hL : ∀ x ∈ L, x < gs.length) : cliqS ps (pickS gs L) = cliqB (MM gs ps) L := by
  rw [Bool.eq_iff_iff, cliq_iff, pickS_map hL]
  unfold cliqS
  rw [List.all_eq_true]
  constructor
  · intro h i hi j hj hne
    have := List.all_eq_true.mp (h _ (List.mem_map.mpr ⟨i, hi, rfl⟩)) _ (List.mem_map.mpr ⟨j, hj, rfl⟩)
    rw [Bool.or_eq_true, decide_eq_true_iff] at this
    exact this.resolve_left fun e => hne (getD_inj nd (hL i hi) (hL j hj) e)
  · intro h a ha
    obtain ⟨i, hi, rfl⟩ := List.mem_map.mp ha
    refine List.all_eq_true.mpr fun b hb => ?_
    obtain ⟨j, hj, rfl⟩ := List.mem_map.mp hb
    rw [Bool.or_eq_true, decide_eq_true_iff]
    by_cases e : i = j
    · exact .inl (by rw [e])
    · exact .inr (h i hi j hj e)
theorem mem_pick {gs : List Str} {L : List Nat} {i : Nat} {z : Str} (nd : gs.Nodup) (hL : ∀ x ∈ L, x < gs.length) (hz : gs[i]? = some z) : z ∈ pickS gs L ↔ i ∈ L := by
  have hi := (List.getElem?_eq_some_iff.mp hz).1
  rw [pickS_map hL, List.mem_map]
  constructor
  · rintro ⟨j, hj, e⟩
    rw [← getD_of hz] at e
    rw [← getD_inj nd (hL j hj) hi e]; exact hj
  · intro h
    exact ⟨i, h, getD_of hz⟩
theorem pick_len {gs : List Str} {L : List Nat} (hL : ∀ x ∈ L, x < gs.length) : (pickS gs L).length = L.length := by rw [pickS_map hL, List.length_map]
abbrev nsc_law_companies : Scope := { kind := ScopeKind.function, names := [(".0", NameKind.local), ("company", NameKind.local), ("tuple", NameKind.globalImplicit), ("guests", NameKind.cell)], isGenerator := false, isCoroutine := false }
section
variable {P : Program} {w : World} {K : PySem.W.Frag} {mg : Str → Option Value} {base : Heap} {A : Ad}
def spLCo (K : PySem.W.Frag) : Sp := fun vs H Q E => ∃ (g D : Addr) (ts : List Addr) (ps : List (List Str)) (gs : List Str), vs = [.ref g, .ref D] ∧ SqL K H g (sv gs) ∧ SqL K H D (ts.map V.ref) ∧ Lss .tup H ts ps ∧ gs.Nodup ∧ gs.length ≤ 8 ∧ (∀ z ∈ gs, Okz z) ∧ (∀ q ∈ ps, ∀ z ∈ q, Okz z) ∧ ∀ R us H', Same H H' → H R = none → H' R = some (.lst (us.map V.ref)) → Lg (fun r => .tup (sv r)) H' us (comps gs ps) → Q (.ref R) H'
theorem ok_lco (T : Txt P K mg A) : FnOk P w K mg base CX0 3 A.a_law_companies A.d_law_companies ["guests", "pairs"] (spLCo K) := by
  have G_law_is_company := ok_isC (P := P) (w := w) (base := base) T
  refine T.F_law_companies.ok sc_law_companies (fun vs H Q E h => ?_) (fun cdv A' outer s H vs Q E hr h => ?_)
  · obtain ⟨g, D, ts, ps, gs, rfl, _⟩ := h
    rfl
  · obtain ⟨g, D, ts, ps, gs, rfl, hG, hD, hT, nd, hl, og, op, kq⟩ := h
    refine ⟨_, (pss_cons (ps_set (i := 2) sc_law_companies.nd rfl (Or.inl rfl) (pe_lst (pa_cons (pe_lst pa_nil) pa_nil)))
      (pss_cons (ps_for PassesOwn.never rfl (pi_list (pv 0)) (pg_name (i := 3) sc_law_companies.nd rfl (Or.inr rfl))
        (pss_one (ps_set (i := 2) sc_law_companies.nd rfl (Or.inl rfl) (pe_op op_cat (pv 2) (pe_lc (own := [("company", 5)]) (g := gName 5) (tt := _) rfl sc_law_companies.nd (pi_list (pv 2)) (blkOk_by (N := ["guests", "pairs", "found", "guest", "full", "company", "further", "i"]) (sc := defScope s_law_companies) (by decide +kernel)) (fun _ _ _ _ _ => (pg_name (i := 5) sc_law_companies.nd rfl (Or.inl rfl))) (fun _ _ _ _ _ => (pts_one (pt_val (pe_call G_law_is_company (hr.mono (by decide)) rfl T.mg_law_is_company T.F_law_is_company.kp T.b_law_is_company .nil pass0 (pa_cons (pv 0) (pa_cons (pv 1) (pa_cons (pe_op op_cat (pv 5) (pe_lst (pa_cons (pv 3) pa_nil))) pa_nil))))))) (fun _ _ _ _ _ => (pe_op op_cat (pv 5) (pe_lst (pa_cons (pv 3) pa_nil)))))))))
      (pss_cons (ps_set (i := 4) sc_law_companies.nd rfl (Or.inl rfl) (pe_lst pa_nil))
      (pss_cons (ps_for PassesOwn.never rfl (pi_list (pv 2)) (pg_name (i := 5) sc_law_companies.nd rfl (Or.inr rfl))
        (pss_cons (ps_setLc (i := 6) (own := [("guest", 3)]) (g := gName 3) (tt := _) rfl sc_law_companies.nd rfl rfl (sw_true rfl rfl rfl (by decide +kernel)) (pi_list (pv 0)) (blkOk_by (N := ["guests", "pairs", "found", "guest", "full", "company", "further", "i"]) (sc := defScope s_law_companies) (by decide +kernel)) (fun _ _ _ _ _ => (pg_name (i := 3) sc_law_companies.nd rfl (Or.inl rfl))) (fun _ _ _ _ _ => (pts_one (PW.pt (pw_and (pt_cmpR (show OpR _ _ (rIn K true) from op_notIn_seq) (pv 3) (pv 5) (by with_unfolding_all rfl)) (pw_and1 (pt_val (pe_call G_law_is_company (hr.mono (by decide)) rfl T.mg_law_is_company T.F_law_is_company.kp T.b_law_is_company .nil pass0 (pa_cons (pv 0) (pa_cons (pv 1) (pa_cons (pe_op op_cat (pv 5) (pe_lst (pa_cons (pv 3) pa_nil))) pa_nil)))))))))) (fun _ _ _ _ _ => (pv 3)))
      (pss_one (ps_if (PW.pt (pw_and (pt_cmpR op_gt (pe_callB call_len_seq (by rfl) T.n_len (by decide +kernel) (pa_cons (pv 5) pa_nil)) pe_int (nomark _)) (pw_and1 (pt_cmpR op_eq (pe_callB call_len_seq (by rfl) T.n_len (by decide +kernel) (pa_cons (pv 6) pa_nil)) pe_int (nomark _))))) (pss_one (ps_expr (pe_bm PySem.F.plainAttrs_list PySem.F.slot_list_append PySem.F.type_list_append mt_append (pv 4) (pa_cons (pe_lc (own := [("guest", 3)]) (g := gName 3) (tt := tYes) rfl sc_law_companies.nd (pi_list (pv 5)) (blkOk_by (N := ["guests", "pairs", "found", "guest", "full", "company", "further", "i"]) (sc := defScope s_law_companies) (by decide +kernel)) (fun _ _ _ _ _ => (pg_name (i := 3) sc_law_companies.nd rfl (Or.inl rfl))) (fun _ _ _ _ _ => pts_nil) (fun _ _ _ _ _ => (show PE _ _ (tBM K "list" (rIndex K) _ _) from (pe_bm PySem.F.plainAttrs_list PySem.F.slot_list_index PySem.F.type_list_index mt_index (pv 0) (pa_cons (pv 3) pa_nil))))) pa_nil)))) pss_nil))))
      (pss_one (ps_ret (pe_lc (own := [("company", 5)]) (g := gName 5) (tt := tYes) rfl sc_law_companies.nd (pi_list (pe_callB (cr_sortLI (hu10 hr)) (by rfl) T.n_sorted (by decide +kernel) (pa_cons (pv 4) pa_nil))) (blkOk_by (N := ["guests", "pairs", "found", "guest", "full", "company", "further", "i"]) (sc := defScope s_law_companies) (by decide +kernel)) (fun _ _ _ _ _ => (pg_name (i := 5) sc_law_companies.nd rfl (Or.inl rfl))) (fun _ _ _ _ _ => pts_nil) (fun _ _ _ _ _ => (pe_callTy (show CallR _ _ (rTupOf K) from call_tuple_of) (by rfl) T.n_tuple (by decide +kernel) (pa_cons (pe_lc (own := [("i", 7)]) (g := gName 7) (tt := tYes) rfl sc_law_companies.nd (show PI _ _ _ (iList K _) from (pi_list (pv 5))) (blkOk_by (N := ["guests", "pairs", "found", "guest", "full", "company", "further", "i"]) (sc := nsc_law_companies) (by decide +kernel)) (fun _ _ _ _ _ => (pg_name (i := 7) sc_law_companies.nd rfl (Or.inl rfl))) (fun _ _ _ _ _ => pts_nil) (fun _ _ _ _ _ => (pe_ix (show IxR _ (rIxL K) from ix_list) (pv 0) (pv 7) (fun _ _ => rfl)))) pa_nil)))))))))), ?_⟩
    have hM : ∀ {k : Nat} {L : List Nat}, L ∈ cl (MM gs ps) k → k ≤ gs.length → ∀ x ∈ L, x < gs.length := fun h hk x hx => Nat.lt_of_lt_of_le ((mem_cl.mp h).2.1 x hx) hk
    refine ⟨by show 0 ≤ sizeLine; decide, fun E0a nE0 => ?_⟩
    generalize hG : upd H E0a _ = H1
    have s1 : Same H H1 := hG ▸ same_new nE0
    have hE0 := (congrFun hG E0a).symm.trans upd_same
    clear hG
    refine ⟨by show 1 ≤ sizeLine; decide, fun F0 nF0 => ?_⟩
    generalize hG : upd H1 F0 _ = H2
    have s2 : Same H1 H2 := hG ▸ same_new nF0
    have hF0 := (congrFun hG F0).symm.trans upd_same
    clear hG
    have s12 := s1.trans s2
    refine ⟨_, rfl, g, rfl, ⟨_, s12.seq hG⟩, for_it walk_list (fun i σ G => Same H G ∧ ∃ (F : Addr) (us : List Addr) (u1 u2 u3 : Option V), σ = [some (.ref g), some (.ref D), some (.ref F), u1, none, u2, none, u3] ∧ H F = none ∧ G F = some (.lst (us.map V.ref)) ∧ Lg (fun L => .lst (sv (pickS gs L))) G us (cl (MM gs ps) i)) ⟨s12, F0, [E0a], none, none, none, rfl, none_of s1 nF0, hF0, Lg.nil.app (s2 _ _ hE0)⟩ (fun i σ G _ q => q.1.seq hG) ?_ ?_⟩
    · rintro i x σ G0 G hi ⟨sm, F, us, u1, u2, u3, rfl, nF, hF, hus⟩ ⟨rfl, hx⟩
      obtain ⟨z, hz, rfl⟩ := sv_get hx
      have hil : i < gs.length := by rw [len_sv] at hi; exact hi
      have cl8 : (cl (MM gs ps) i).length ≤ 256 := Nat.le_trans (len_cl _ _) (Nat.pow_le_pow_right (n := 2) (by omega) (by omega : i ≤ 8))
      let cond : List Nat → Bool := fun L => cliqB (MM gs ps) (L ++ [i])
      refine ⟨_, rfl, _, rfl, F, rfl, ⟨_, SqL.of hF⟩, fun D2 nD2 => lc_it walk_list (fun j G1 => LcG (fun L => .lst (sv (pickS gs L))) G D2 ((((cl (MM gs ps) i).take j).filter cond).map (· ++ [i])) G1) (lcg0 nD2) (fun j G1 _ q => SqL.of (q.1 _ _ hF)) ?_ ?_⟩
      · rintro j x Ga Gb hj q ⟨rfl, hx⟩
        obtain ⟨u, hu, rfl⟩ := refs_get hx
        obtain ⟨L, hL, hLa⟩ := (hus.same q.1).get hu
        have hLn := hM (List.mem_of_getElem? hL) (by omega)
        have hL8 : (pickS gs L).length ≤ 8 := by
          rw [pick_len hLn]
          have mx := mem_cl.mp (List.mem_of_getElem? hL)
          have := nodup_leG (l := L) (m := List.range gs.length) (mx.1.imp fun h => Nat.ne_of_lt h) fun x hx => List.mem_range.mpr (hLn x hx)
          rw [List.length_range] at this; omega
        have hLi : ∀ x ∈ L ++ [i], x < gs.length := fun x hx => (List.mem_append.mp hx).elim (hLn x) fun h => by rw [List.mem_singleton.mp h]; exact hil
        have es : pickS gs (L ++ [i]) = pickS gs L ++ [z] := pickS_snoc hz
        refine ⟨rfl, _, rfl, _, rfl, _, rfl, _, rfl, by show 1 ≤ sizeLine; decide, fun l1 n1 => ?_⟩
        generalize hG : upd Gb l1 _ = G2
        have t2 : Same Gb G2 := hG ▸ same_new n1
        have h2 := (congrFun hG l1).symm.trans upd_same
        clear hG
        refine catO (t2 _ _ hLa) h2 (by rw [len_sv]; show _ + 1 ≤ _; omega) fun c1 G3 t3 n3 h3 => ?_
        have t23 := t2.trans t3
        have h3 : G3 c1 = some (.lst (sv (pickS gs (L ++ [i])))) := by rw [es]; show _ = some (HO.lst (List.map V.str _)); rw [List.map_append]; exact h3
        have q3 := q.more t23
        have s3 := sm.trans q3.1
        refine ⟨g, D, c1, ts, ps, _, rfl, s3.seq hD, hT.same s3, SqL.of h3, fun y hy => og y (pickS_sub hy), op, fun G4 t4 => ⟨_, rfl, ?_⟩⟩
        rw [cliqS_pick nd hLi, pick_len hLi, show decide (0 < (L ++ [i]).length) = true from decide_eq_true (by simp), Bool.and_true]
        have st : (((cl (MM gs ps) i).take (j + 1)).filter cond).map (· ++ [i]) = (((cl (MM gs ps) i).take j).filter cond).map (· ++ [i]) ++ (if cond L = true then [L ++ [i]] else []) := by
          rw [take_succ hL, List.filter_append, List.map_append, List.filter_cons]
          split <;> rfl
        have q4 := q3.more t4
        rw [st]
        by_cases hc : cond L = true
        · refine ifT hc ⟨_, rfl, _, rfl, by show 1 ≤ sizeLine; decide, fun l2 n2 => ?_⟩
          rw [if_pos hc]
          generalize hG : upd G4 l2 _ = G5
          have t5 : Same G4 G5 := hG ▸ same_new n2
          have h5 := (congrFun hG l2).symm.trans upd_same
          clear hG
          refine catO (t5 _ _ (t4 _ _ (t23 _ _ hLa))) h5 (by rw [len_sv]; show _ + 1 ≤ _; omega) fun c2 G6 t6 n6 h6 => ?_
          have h6 : G6 c2 = some (.lst (sv (pickS gs (L ++ [i])))) := by rw [es]; show _ = some (HO.lst (List.map V.str _)); rw [List.map_append]; exact h6
          have q5 := q4.more t5
          refine q5.push nD2 t6 h6 (fun e => ?_) ?_
          · obtain ⟨_, us', hd', _⟩ := q5
            rw [e, hd'] at n6; cases n6
          · rw [List.length_map]
            have := List.length_filter_le cond ((cl (MM gs ps) i).take j)
            rw [List.length_take] at this; omega
        · rw [if_neg hc, List.append_nil]
          exact ifF (by simpa using hc) q4
      rintro G1 ⟨s1', us2, hD2, hus2, _⟩
      have hus2 : Lg (fun L => .lst (sv (pickS gs L))) G1 us2 (((cl (MM gs ps) i).filter cond).map (· ++ [i])) := by
        have e := hus2
        rw [List.length_map, hus.len, List.take_length] at e
        exact e
      have l2 : us2.length ≤ 256 := by
        rw [hus2.len, List.length_map]
        exact Nat.le_trans (List.length_filter_le _ _) cl8
      refine catO (s1' _ _ hF) hD2 (by rw [List.length_map, List.length_map, hus.len]; omega) fun F2 G3 t3 n3 h3 => ?_
      have sG := sm.trans (s1'.trans t3)
      refine ⟨sG, F2, us ++ us2, _, _, _, rfl, none_of (sm.trans s1') n3, by rw [List.map_append]; exact h3, ?_⟩
      show Lg _ G3 (us ++ us2) (cl (MM gs ps) i ++ ((cl (MM gs ps) i).filter cond).map (· ++ [i]))
      exact (hus.same (s1'.trans t3)).cat (hus2.same t3)
    rintro σ G ⟨sm, F, us, u1, u2, u3, rfl, nF, hF, hus⟩
    have hus : Lg (fun L => .lst (sv (pickS gs L))) G us (cl (MM gs ps) gs.length) := by rw [← len_sv gs]; exact hus
    have cl8 : (cl (MM gs ps) gs.length).length ≤ 256 := Nat.le_trans (len_cl _ _) (Nat.pow_le_pow_right (n := 2) (by omega) hl)
    refine ⟨by show 0 ≤ sizeLine; decide, fun FU nFU => ?_⟩
    refine ⟨_, rfl, F, rfl, ⟨_, SqL.of (same_new nFU _ _ hF)⟩, for_it walk_list (fun j σ G2 => Same G G2 ∧ ∃ (ws : List Addr) (v1 v2 v3 v4 : Option V), σ = [some (.ref g), some (.ref D), some (.ref F), v1, some (.ref FU), v2, v3, v4] ∧ G2 FU = some (.lst (ws.map V.ref)) ∧ Lg (fun L => .lst (niv L)) G2 ws (((cl (MM gs ps) gs.length).take j).filter (furB (MM gs ps) gs.length)) ∧ ∀ (i : Nat) (t : Addr), ws[i]? = some t → t ≠ FU) ⟨same_new nFU, [], _, _, _, _, rfl, upd_same, Lg.nil, noT⟩ (fun j σ G2 _ q => SqL.of (q.1 _ _ hF)) ?_ ?_⟩
    · rintro j x σ Ga Gb hj ⟨s2, ws, v1, v2, v3, v4, rfl, hFU, hws, hne⟩ ⟨rfl, hx⟩
      obtain ⟨u, hu, rfl⟩ := refs_get hx
      obtain ⟨L, hL, hLa⟩ := (hus.same s2).get hu
      have hLn := hM (List.mem_of_getElem? hL) (Nat.le_refl _)
      have sb := sm.trans s2
      have LS : SqL K Gb u (sv (pickS gs L)) := SqL.of hLa
      have ln := pick_len hLn
      have hL8 : (pickS gs L).length ≤ 8 := by
        rw [ln]
        have mx := mem_cl.mp (List.mem_of_getElem? hL)
        have := nodup_leG (l := L) (m := List.range gs.length) (mx.1.imp fun h => Nat.ne_of_lt h) fun x hx => List.mem_range.mpr (hLn x hx)
        rw [List.length_range] at this; omega
      let fc : Nat → Bool := fun g => decide (g ∉ L) && cliqB (MM gs ps) (L ++ [g])
      refine ⟨_, rfl, g, rfl, ⟨_, sb.seq hG⟩, fun D3 nD3 => lc_it walk_list (PvS Gb D3 fun i => sv (((List.range i).filter fc).map fun g => gs.getD g "")) (pv0 nD3 rfl) (fun i G3 _ q => q.1.seq (sb.seq hG)) ?_ ?_⟩
      · rintro i x Gc Gd hi q ⟨rfl, hx⟩
        obtain ⟨z, hz, rfl⟩ := sv_get hx
        have hil : i < gs.length := by rw [len_sv] at hi; exact hi
        have hLi : ∀ x ∈ L ++ [i], x < gs.length := fun x hx => (List.mem_append.mp hx).elim (hLn x) fun h => by rw [List.mem_singleton.mp h]; exact hil
        have es : pickS gs (L ++ [i]) = pickS gs L ++ [z] := pickS_snoc hz
        have hml : (sv (((List.range i).filter fc).map fun g => gs.getD g "")).length ≤ 1000000 := by
          rw [len_sv, List.length_map]
          have := List.length_filter_le fc (List.range i)
          rw [List.length_range] at this; omega
        have stT : fc i = true → sv (((List.range (i + 1)).filter fc).map fun g => gs.getD g "") = sv (((List.range i).filter fc).map fun g => gs.getD g "") ++ [V.str z] := fun h => by
          rw [List.range_succ, List.filter_append, List.filter_cons_of_pos h, List.map_append]
          show sv (_ ++ [gs.getD i ""]) = _
          rw [getD_of hz]; exact sv_snoc' _ _
        have stF : fc i = false → sv (((List.range (i + 1)).filter fc).map fun g => gs.getD g "") = sv (((List.range i).filter fc).map fun g => gs.getD g "") := fun h => by
          rw [List.range_succ, List.filter_append, List.filter_cons_of_neg (by rw [h]; decide)]; simp
        refine ⟨rfl, _, rfl, _, rfl, u, _, rfl, .inl (q.1.seq LS), rfl, flat_sv _, _, rfl, ?_⟩
        rw [if_pos (rfl : true = true), inV_str]
        by_cases hm : z ∈ pickS gs L
        · have : fc i = false := by
            show (decide (i ∉ L) && _) = false
            rw [decide_eq_false (not_not_intro ((mem_pick nd hLn hz).mp hm))]; rfl
          exact ifF (by rw [decide_eq_true hm]; rfl) (ifF rfl (q.skip (stF this)))
        refine ifT (by rw [decide_eq_false hm]; rfl) ?_
        refine ⟨_, rfl, _, rfl, _, rfl, _, rfl, by show 1 ≤ sizeLine; decide, fun l1 n1 => ?_⟩
        generalize hG : upd Gd l1 _ = G2
        have t2 : Same Gd G2 := hG ▸ same_new n1
        have h2 := (congrFun hG l1).symm.trans upd_same
        clear hG
        have q2 := q.more t2
        have hLa2 : G2 u = some (.lst (sv (pickS gs L))) := q2.1 _ _ hLa
        refine catO hLa2 h2 (by rw [len_sv]; show _ + 1 ≤ _; omega) fun c1 G3 t3 n3 h3 => ?_
        have h3 : G3 c1 = some (.lst (sv (pickS gs (L ++ [i])))) := by rw [es]; show _ = some (HO.lst (List.map V.str _)); rw [List.map_append]; exact h3
        have q3 := q2.more t3
        have s3 := sb.trans q3.1
        refine ⟨g, D, c1, ts, ps, _, rfl, s3.seq hD, hT.same s3, SqL.of h3, fun y hy => og y (pickS_sub hy), op, fun G4 t4 => ⟨_, rfl, ?_⟩⟩
        rw [cliqS_pick nd hLi, pick_len hLi, show decide (0 < (L ++ [i]).length) = true from decide_eq_true (by simp), Bool.and_true]
        have ef : fc i = cliqB (MM gs ps) (L ++ [i]) := by
          show (decide (i ∉ L) && _) = _
          have hn : i ∉ L := fun h => hm ((mem_pick nd hLn hz).mpr h)
          rw [decide_eq_true hn]; rfl
        rw [← ef]
        have q4 := q3.more t4
        by_cases hc : fc i = true
        · exact ifT hc ⟨_, rfl, q4.push nD3 (stT hc) hml⟩
        · exact ifF (by simpa using hc) (q4.skip (stF (by simpa using hc)))
      rintro G1 ⟨s1', hD3⟩
      have hD3 : G1 D3 = some (.lst (sv (((List.range gs.length).filter fc).map fun g => gs.getD g ""))) := by rw [← len_sv gs]; exact hD3
      generalize hB : ((List.range gs.length).filter fc) = B at hD3
      have fb : furB (MM gs ps) gs.length L = (!L.isEmpty && B.isEmpty) := by unfold furB; rw [← hB]
      have bl2 : B.length ≤ 8 := by
        rw [← hB]
        have := List.length_filter_le fc (List.range gs.length)
        rw [List.length_range] at this; omega
      have sb1 := sb.trans s1'
      have hFU1 := s1' _ _ hFU
      have hws1 := hws.same s1'
      have LS1 : SqL K G1 u (sv (pickS gs L)) := s1'.seq LS
      have keep : furB (MM gs ps) gs.length L = false → ((cl (MM gs ps) gs.length).take (j + 1)).filter (furB (MM gs ps) gs.length) = ((cl (MM gs ps) gs.length).take j).filter (furB (MM gs ps) gs.length) := fun h => by
        rw [take_succ hL, List.filter_append, List.filter_cons_of_neg (by rw [h]; decide)]; simp
      refine ⟨_, rfl, u, _, rfl, .inl LS1, _, _, rfl, rfl, _, rfl, ?_⟩
      by_cases h0 : (((sv (pickS gs L)).length : Nat) : Int) > 0
      case neg =>
        have e : furB (MM gs ps) gs.length L = false := by
          rw [fb]
          have : L = [] := List.eq_nil_of_length_eq_zero (by rw [len_sv, ln] at h0; omega)
          rw [this]; rfl
        refine ifF (decide_eq_false h0) (ifF rfl ⟨s2.trans s1', ws, _, _, _, _, rfl, hFU1, ?_, hne⟩)
        rw [keep e]; exact hws1
      refine ifT (decide_eq_true h0) ⟨_, rfl, D3, _, rfl, .inl (SqL.of hD3), rfl, _, rfl, ?_⟩
      have hne0 : L ≠ [] := fun e => by rw [len_sv, ln, e] at h0; exact absurd h0 (by decide)
      by_cases hb : B = []
      case neg =>
        have e : furB (MM gs ps) gs.length L = false := by
          rw [fb, show B.isEmpty = false from List.isEmpty_eq_false_iff.mpr hb, Bool.and_false]
        refine ifF (decide_eq_false fun z => ?_) ⟨s2.trans s1', ws, _, _, _, _, rfl, hFU1, ?_, hne⟩
        · have := V.int.inj z
          rw [len_sv, List.length_map] at this
          exact hb (List.eq_nil_of_length_eq_zero (by omega))
        · rw [keep e]; exact hws1
      subst hb
      have e : furB (MM gs ps) gs.length L = true := by
        rw [fb, show L.isEmpty = false from List.isEmpty_eq_false_iff.mpr hne0]; rfl
      refine ifT (decide_eq_true rfl) ?_
      refine ⟨_, rfl, .inl ⟨rfl, _, SqL.of hFU1⟩, _, rfl, u, rfl, ⟨_, LS1⟩, fun D4 nD4 => lc_it walk_list (PvS G1 D4 fun i => niv (L.take i)) (pv0 nD4 rfl) (fun i G3 _ q => q.1.seq LS1) ?_ ?_⟩
      · rintro i x Gc Gd hi q ⟨rfl, hx⟩
        obtain ⟨z, hz, rfl⟩ := sv_get hx
        have hzm := hz
        rw [pickS_map hLn, List.getElem?_map] at hz
        cases hk : L[i]? with
        | none => rw [hk] at hz; cases hz
        | some k =>
        rw [hk] at hz
        have hz : gs.getD k "" = z := Option.some.inj hz
        have hkn := hLn k (List.mem_of_getElem? hk)
        have hgk : gs[k]? = some z := by
          rw [List.getD_eq_getElem?_getD, List.getElem?_eq_getElem hkn] at hz
          rw [List.getElem?_eq_getElem hkn]; exact congrArg some hz
        have sq := sb1.trans q.1
        refine ⟨rfl, _, rfl, .inl ⟨rfl, _, sq.seq hG⟩, _, rfl, g, _, _, k, _, rfl, rfl, sq.seq hG, rfl, flat_sv _, by rw [List.getElem?_map, hgk]; rfl, by rw [eqV_str]; exact decide_eq_true rfl, fun m z' hm hz' => ?_, q.push nD4 ?_ ?_⟩
        · obtain ⟨y, hy, rfl⟩ := sv_get hz'
          rw [eqV_str, decide_eq_false_iff_not]
          intro e
          subst e
          have e2 : gs.getD m "" = gs.getD k "" := by rw [getD_of hy, hz]
          have hml := (List.getElem?_eq_some_iff.mp hy).1
          have := getD_inj nd hml hkn e2
          omega
        · rw [take_succ hk]; exact List.map_append
        · rw [niv_len, List.length_take]; omega
      rintro G3 ⟨s3', hD4⟩
      have hD4 : G3 D4 = some (.lst (niv L)) := by
        have := hD4
        dsimp only at this
        rw [len_sv, ln, List.take_length] at this
        exact this
      have hFU3 := s3' _ _ hFU1
      have wl : ws.length ≤ 256 := by
        rw [hws.len]
        refine Nat.le_trans (List.length_filter_le _ _) ?_
        rw [List.length_take]; omega
      have nDF : D4 ≠ FU := fun e => by rw [e, hFU1] at nD4; cases nD4
      refine ⟨FU, _, _, rfl, rfl, hFU3, small_int (by rw [List.length_map]; omega), fun b o e2 => ?_, ws ++ [D4], _, _, _, _, rfl, by rw [List.map_append]; exact upd_same, ?_, ne_app hne nDF⟩
      · rw [upd_ne (ne_of_none e2 nFU)]; exact s3' _ _ (s1' _ _ (s2 _ _ e2))
      · rw [take_succ hL, List.filter_append, List.filter_cons_of_pos e]
        exact ((hws1.same s3').app hD4).upd1 (ne_app hne nDF)
    · rintro σ G2 ⟨s2, ws, v1, v2, v3, v4, rfl, hFU, hws, hne⟩
      have hws : Lg (fun L => .lst (niv L)) G2 ws (dueC (MM gs ps) gs.length) := by
        have e := hws
        rw [List.length_map, hus.len, List.take_length] at e
        exact e
      have sb := sm.trans s2
      refine ⟨_, rfl, FU, ws.map V.ref, _, RvN G2, rfl, SqL.of hFU, each_of hws, rv_dp, fun ys D3 hys nD3 => ?_⟩
      rw [srtL_map, srtL_congr (due_perm (MM_sy gs ps))] at hys
      obtain ⟨vs, rfl, hvs⟩ := of_each hys
      generalize hG : upd G2 D3 _ = H5
      have s5 : Same G2 H5 := hG ▸ same_new nD3
      have x5 := (congrFun hG D3).symm.trans upd_same
      clear hG
      have hvs := hvs.same s5
      have sb5 := sb.trans s5
      have clen : (srtL (progC (MM gs ps) gs.length)).length ≤ 4096 := by
        rw [(srtL_perm _).length_eq]
        unfold progC
        rw [List.length_map]; exact progM_len _ _ (by omega)
      refine ⟨D3, rfl, ⟨_, SqL.of x5⟩, fun D5 nD5 => lc_it walk_list (fun i G => LcG (fun r => .tup (sv r)) H5 D5 (((srtL (progC (MM gs ps) gs.length)).take i).map (pickS gs)) G) (lcg0 nD5) (fun i G _ q => SqL.of (q.1 _ _ x5)) ?_ ?_⟩
      · rintro i x Ga Gb hi q ⟨rfl, hx⟩
        obtain ⟨u, hu, rfl⟩ := refs_get hx
        obtain ⟨L, hL, hLa⟩ := hvs.get hu
        have mx := mem_progC.mp ((srtL_perm _).mem_iff.mp (List.mem_of_getElem? hL))
        have LS : SqL K Gb u (niv L) := SqL.of (q.1 _ _ hLa)
        have sG := sb5.trans q.1
        have Ll : L.length ≤ 1000 := by
          have := nodup_leG (l := L) (m := List.range gs.length) (mx.asc.imp fun h => Nat.ne_of_lt h) fun x hx => List.mem_range.mpr (mx.lt x hx)
          rw [List.length_range] at this; omega
        refine ⟨rfl, _, rfl, u, rfl, ⟨_, LS⟩, fun D6 nD6 => lc_it walk_list (PvS Gb D6 fun j => sv (pickS gs (L.take j))) (pv0 nD6 rfl) (fun j G3 _ q2 => q2.1.seq LS) ?_ ?_⟩
        · rintro j x Gc Gd hj q2 ⟨rfl, hx⟩
          obtain ⟨n, hn, rfl⟩ := niv_get hx
          have hn2 := mx.lt n (List.mem_of_getElem? hn)
          have hc : gs[n]? = some gs[n] := List.getElem?_eq_getElem hn2
          refine ⟨rfl, _, rfl, _, rfl, g, _, _, _, rfl, rfl, (sG.trans q2.1).seq hG, atS_of hc, q2.push nD6 ?_ ?_⟩
          · rw [take_succ hn]
            show sv (pickS gs (L.take j ++ [n])) = _
            rw [pickS_snoc hc]; exact sv_snoc' _ _
          · rw [len_sv]
            have := List.length_filterMap_le (fun i => gs[i]?) (L.take j)
            rw [List.length_take] at this
            unfold pickS; omega
        rintro G3 ⟨s3', hD6⟩
        have hD6 : G3 D6 = some (.lst (sv (pickS gs L))) := by
          have := hD6
          dsimp only at this
          rw [niv_len, List.take_length] at this
          exact this
        refine ⟨D6, _, rfl, .inl ⟨SqL.of hD6, fun e ne => ?_⟩⟩
        generalize hG : upd G3 e _ = G4
        have t4 : Same G3 G4 := hG ▸ same_new ne
        have he := (congrFun hG e).symm.trans upd_same
        clear hG
        rw [take_succ hL, List.map_append]
        refine q.push nD5 (s3'.trans t4) he (fun z => ?_) (by rw [List.length_map, List.length_take]; omega)
        obtain ⟨_, us', hd', _⟩ := q
        rw [z, s3' _ _ hd'] at ne; cases ne
      rintro H6 ⟨s6, ts6, hD6, hts6, _⟩
      refine kq D5 ts6 H6 (sb5.trans s6) (none_of sb5 nD5) hD6 ?_
      have e := hts6
      rw [List.length_map, hvs.len, List.take_length] at e
      exact e
end
end My
set_option maxRecDepth 100000
set_option maxHeartbeats 4000000
set_option exponentiation.threshold 10000
namespace My
open PySem L2
open C8 (pss_cut)
/-- the pairs of numbers drawn so far -/
structure PrI (gs : List Str) (full : Bool) (c : Nat → Nat → Prop) (J I : Nat) (ps : List (List Str)) : Prop where
  nd : ps.Nodup
  of : ∀ q ∈ ps, ∃ i j, (j < J ∨ (j = J ∧ i < I)) ∧ i < j ∧ j < gs.length ∧ (full = true → c i j) ∧ q = [gs.getD i "", gs.getD j ""]
  all : full = true → ∀ i j, (j < J ∨ (j = J ∧ i < I)) → i < j → j < gs.length → c i j → [gs.getD i "", gs.getD j ""] ∈ ps
section
variable {gs : List Str} {full : Bool} {c : Nat → Nat → Prop} {J I : Nat} {ps : List (List Str)}
theorem PrI.zero : PrI gs full c 0 0 [] := ⟨List.nodup_nil, fun q h => by simp at h, fun _ i j h => by omega⟩
theorem PrI.row (h : PrI gs full c J J ps) : PrI gs full c (J + 1) 0 ps := ⟨h.nd, fun q hq => by
  obtain ⟨i, j, a, b⟩ := h.of q hq
  exact ⟨i, j, .inl (by omega), b⟩, fun f i j a b => h.all f i j (by omega) b⟩
theorem PrI.yes (h : PrI gs full c J I ps) (nd : gs.Nodup) (hi : I < J) (hj : J < gs.length) (hc : full = true → c I J) : PrI gs full c J (I + 1) (ps ++ [[gs.getD I "", gs.getD J ""]]) := by
  refine ⟨?_, fun q hq => ?_, fun f i j a b d e => ?_⟩
  · rw [List.nodup_append]
    refine ⟨h.nd, by simp, fun q hq r hr e => ?_⟩
    rw [List.mem_singleton.mp hr] at e
    obtain ⟨i, j, a, b, d, _, rfl⟩ := h.of q hq
    simp only [List.cons.injEq, and_true] at e
    have e1 := getD_inj nd (by omega) (by omega) e.1
    have e2 := getD_inj nd (by omega) (by omega) e.2
    omega
  · rcases List.mem_append.mp hq with q1 | q1
    · obtain ⟨i, j, a, b⟩ := h.of q q1
      exact ⟨i, j, by omega, b⟩
    · exact ⟨I, J, .inr ⟨rfl, by omega⟩, hi, hj, hc, List.mem_singleton.mp q1⟩
  · by_cases e0 : j = J ∧ i = I
    · obtain ⟨rfl, rfl⟩ := e0
      exact List.mem_append_right _ (List.mem_singleton_self _)
    · exact List.mem_append_left _ (h.all f i j (by omega) b d e)
theorem PrI.no (h : PrI gs full c J I ps) (hc : full = true → ¬ c I J) : PrI gs full c J (I + 1) ps := by
  refine ⟨h.nd, fun q hq => ?_, fun f i j a b d e => ?_⟩
  · obtain ⟨i, j, a, b⟩ := h.of q hq
    exact ⟨i, j, by omega, b⟩
  · by_cases e0 : j = J ∧ i = I
    · obtain ⟨rfl, rfl⟩ := e0
      exact absurd e (hc f)
    · exact h.all f i j (by omega) b d e
theorem PrI.len (h : PrI gs full c J I ps) (hl : gs.length ≤ 12) : ps.length ≤ 1000 := by
  have : ps.length ≤ ((List.range gs.length).flatMap fun j => (List.range gs.length).map fun i => [gs.getD i "", gs.getD j ""]).length := by
    refine nodup_leG h.nd fun q hq => ?_
    obtain ⟨i, j, _, b, d, _, rfl⟩ := h.of q hq
    exact List.mem_flatMap.mpr ⟨j, List.mem_range.mpr d, List.mem_map.mpr ⟨i, List.mem_range.mpr (by omega), rfl⟩⟩
  rw [List.length_flatMap] at this
  have e : (List.map (fun a => (List.map (fun i => [gs.getD i "", gs.getD a ""]) (List.range gs.length)).length) (List.range gs.length)) = (List.range gs.length).map fun _ => gs.length := List.map_congr_left fun a _ => by rw [List.length_map, List.length_range]
  rw [e, List.map_const', List.sum_replicate_nat, List.length_range] at this
  have := Nat.mul_le_mul hl hl
  omega
end
section
variable {P : Program} {w : World} {K : PySem.W.Frag} {mg : Str → Option Value} {base : Heap} {A : Ad}
def spFree (K : PySem.W.Frag) : Sp := fun vs H Q E => ∃ (g p : Addr) (st : Int) (gs : List Str) (xs : List Int), vs = [.ref g, .ref p, .int st] ∧ SqL K H g (sv gs) ∧ SqL K H p (ivs xs) ∧ gs.Nodup ∧ gs.length ≤ 12 ∧ 0 ≤ st ∧ st + gs.length ≤ xs.length ∧ ∀ R us ps H', Same H H' → H R = none → H' R = some (.lst (us.map V.ref)) → Lss .tup H' us ps → PrI gs false (fun _ _ => True) gs.length 0 ps → Q (.ref R) H'
theorem ok_free (T : Txt P K mg A) : FnOk P w K mg base CX0 1 A.a_law_free_pairs A.d_law_free_pairs ["guests", "pool", "start"] (spFree K) := by
  refine T.F_law_free_pairs.ok sc_law_free_pairs (fun vs H Q E h => ?_) (fun cdv A' outer s H vs Q E hr h => ?_)
  · obtain ⟨g, p, st, gs, xs, rfl, _⟩ := h
    rfl
  · obtain ⟨g, p, st, gs, xs, rfl, hG, hP, nd, hl, h0, hst, kq⟩ := h
    refine ⟨_, (pss_cons (ps_set (i := 3) sc_law_free_pairs.nd rfl (Or.inl rfl) (pe_lst pa_nil))
      (pss_cons (ps_for PassesOwn.never rfl (pi_range1 (by rfl) T.n_range (pa_cons (pe_callB call_len_seq (by rfl) T.n_len (by decide +kernel) (pa_cons (pv 0) pa_nil)) pa_nil)) (pg_name (i := 4) sc_law_free_pairs.nd rfl (Or.inl rfl))
        (pss_cons (ps_set (i := 5) sc_law_free_pairs.nd rfl (Or.inl rfl) (pe_callTy call_int1 (by rfl) T.n_int (by decide +kernel) (pa_cons (pe_ix ix_list (pv 1) (pe_op op_add (pv 2) (pv 4)) (fun _ _ => rfl)) pa_nil)))
      (pss_one (ps_for PassesOwn.never rfl (pi_range1 (by rfl) T.n_range (pa_cons (pv 4) pa_nil)) (pg_name (i := 6) sc_law_free_pairs.nd rfl (Or.inl rfl))
        (pss_cons (ps_if (pt_cmpR op_eq (pe_op op_mod (pe_callTy call_int1 (by rfl) T.n_int (by decide +kernel) (pa_cons (pv 5) pa_nil)) pe_int) pe_int (nomark _)) (pss_one (ps_expr (pe_bm PySem.F.plainAttrs_list PySem.F.slot_list_append PySem.F.type_list_append mt_append (pv 3) (pa_cons (pe_tup (pa_cons (pe_ix ix_list (pv 0) (pv 6) (fun _ _ => rfl)) (pa_cons (pe_ix ix_list (pv 0) (pv 4) (fun _ _ => rfl)) pa_nil))) pa_nil)))) pss_nil)
      (pss_one (ps_set (i := 5) sc_law_free_pairs.nd rfl (Or.inl rfl) (pe_op op_fdiv (pv 5) pe_int))))))))
      (pss_one (ps_ret (pv 3))))), ?_⟩
    refine ⟨by show 0 ≤ sizeLine; decide, fun D nD => ?_⟩
    refine ⟨_, rfl, g, _, rfl, .inl ((same_new nD).seq hG), _, rfl, by rw [len_sv]; omega, by rw [len_sv]; omega, for_range (n := (((sv gs).length : Nat) : Int).toNat) (fun j σ G => Same H G ∧ ∃ (us : List Addr) (ps : List (List Str)) (u1 u2 u3 : Option V), σ = [some (.ref g), some (.ref p), some (.int st), some (.ref D), u1, u2, u3] ∧ G D = some (.lst (us.map V.ref)) ∧ Lss .tup G us ps ∧ PrI gs false (fun _ _ => True) j 0 ps) ⟨same_new nD, [], [], none, none, none, rfl, upd_same, Lss.nil, PrI.zero⟩ ?_ ?_⟩
    · rintro j σ G hj ⟨sm, us, ps, u1, u2, u3, rfl, hD, hus, hpr⟩
      have hjl : j < gs.length := by rw [len_sv, Int.toNat_natCast] at hj; exact hj
      rw [Int.zero_add]
      obtain ⟨v0, hv0, e0⟩ := atI_ok (xs := xs) (j := st + (j : Int)) (by omega) (by omega)
      refine ⟨_, rfl, _, rfl, _, rfl, _, _, rfl, rfl, p, _, _, _, rfl, rfl, sm.seq hP, e0, .inl ⟨_, rfl, ?_⟩⟩
      refine ⟨_, rfl, _, rfl, by omega, by omega, for_range (n := ((j : Nat) : Int).toNat) (fun i σ G => Same H G ∧ ∃ (us : List Addr) (ps : List (List Str)) (v : Int) (u3 : Option V), σ = [some (.ref g), some (.ref p), some (.int st), some (.ref D), some (.int (j : Nat)), some (.int v), u3] ∧ G D = some (.lst (us.map V.ref)) ∧ Lss .tup G us ps ∧ PrI gs false (fun _ _ => True) j i ps) ⟨sm, us, ps, v0, _, rfl, hD, hus, hpr⟩ ?_ ?_⟩
      · rintro i σ G hi ⟨sm, us, ps, v, u3, rfl, hD, hus, hpr⟩
        have hij : i < j := by rw [Int.toNat_natCast] at hi; exact hi
        rw [Int.zero_add]
        have zi : gs[i]? = some gs[i] := List.getElem?_eq_getElem (by omega)
        have zj : gs[j]? = some gs[j] := List.getElem?_eq_getElem hjl
        have pl := hpr.len hl
        refine ⟨_, rfl, .inl ⟨_, rfl, _, _, rfl, rfl, by show (0 : Int) < 2; decide, rfl, _, rfl, ite2 (fun hb => ?_) (fun hb => ?_)⟩⟩
        · refine ⟨_, rfl, .inl ⟨rfl, _, SqL.of hD⟩, _, rfl, _, rfl, g, _, _, _, rfl, rfl, sm.seq hG, atS_of zi, _, rfl, _, rfl, g, _, _, _, rfl, rfl, sm.seq hG, atS_of zj, by show 2 ≤ sizeLine; decide, fun t nt => ?_⟩
          generalize hG : upd G t _ = G2
          have t2 : Same G G2 := hG ▸ same_new nt
          have ht := (congrFun hG t).symm.trans upd_same
          clear hG
          have ntD : t ≠ D := fun e => by rw [e, hD] at nt; cases nt
          refine ⟨D, _, _, rfl, rfl, t2 _ _ hD, small_int (by rw [List.length_map, hus.len]; omega), ?_⟩
          refine ⟨_, rfl, _, _, rfl, rfl, ⟨by decide, by decide⟩, ?_⟩
          have ht : G2 t = some (.tup (sv [gs.getD i "", gs.getD j ""])) := by rw [getD_of zi, getD_of zj]; exact ht
          exact ⟨fun b o e => by rw [upd_ne (ne_of_none e nD)]; exact t2 _ _ (sm _ _ e), us ++ [t], _, _, _, rfl, by rw [List.map_append]; exact upd_same, ((hus.same t2).app ht).updT (t2 _ _ hD) (fun xs z => nomatch z), hpr.yes nd hij hjl (fun z => nomatch z)⟩
        · refine ⟨_, rfl, _, _, rfl, rfl, ⟨by decide, by decide⟩, ?_⟩
          exact ⟨sm, us, ps, _, _, rfl, hD, hus, hpr.no (fun z => nomatch z)⟩
      · rintro σ G ⟨sm, us, ps, v, u3, rfl, hD, hus, hpr⟩
        rw [Int.toNat_natCast] at hpr
        exact ⟨sm, us, ps, _, _, _, rfl, hD, hus, hpr.row⟩
    · rintro σ G ⟨sm, us, ps, u1, u2, u3, rfl, hD, hus, hpr⟩
      rw [len_sv, Int.toNat_natCast] at hpr
      exact ⟨_, rfl, kq D us ps G sm nD hD hus hpr⟩
end
end My
set_option maxRecDepth 100000
set_option maxHeartbeats 4000000
set_option exponentiation.threshold 10000
namespace My
open PySem L2
open C8 (pss_cut)
theorem cut_mid {xs : List V} {a b : Nat} (h : a ≤ b) : cutV xs (some (a : Int)) (some (b : Int)) = (xs.drop a).take (b - a) := by
  unfold cutV
  rw [HT.sIx_nat, HT.sIx_nat]
  rcases Nat.le_total a xs.length with h1 | h1
  · rw [Nat.min_eq_left h1]
    rcases Nat.le_total b xs.length with h2 | h2
    · rw [Nat.min_eq_left h2]
    · rw [Nat.min_eq_right h2, List.take_of_length_le (by rw [List.length_drop]; omega), List.take_of_length_le (by rw [List.length_drop]; omega)]
  · rw [Nat.min_eq_right h1, List.drop_eq_nil_of_le (Nat.le_refl _), List.drop_eq_nil_of_le h1]; simp
/-- stretches of a list by their sizes -/
def chk (ix ss : List Nat) (i : Nat) : List (List Nat) := (List.range i).map fun k => (ix.drop (ss.take k).sum).take (ss.getD k 0)
theorem chk_len (ix ss : List Nat) (i : Nat) : (chk ix ss i).length = i := by unfold chk; rw [List.length_map, List.length_range]
theorem chk_succ (ix ss : List Nat) (i : Nat) : chk ix ss (i + 1) = chk ix ss i ++ [(ix.drop (ss.take i).sum).take (ss.getD i 0)] := by unfold chk; rw [List.range_succ, List.map_append]; rfl
theorem sum_take {ss : List Nat} {i s : Nat} (h : ss[i]? = some s) : (ss.take (i + 1)).sum = (ss.take i).sum + s := by rw [take_succ h, List.sum_append]; simp
theorem chk_flat (ix ss : List Nat) : ∀ i, i ≤ ss.length → (chk ix ss i).flatten = ix.take (ss.take i).sum
  | 0, _ => by simp [chk]
  | i + 1, h => by
    have e : ss[i]? = some ss[i] := List.getElem?_eq_getElem (by omega)
    rw [chk_succ, List.flatten_append, chk_flat ix ss i (by omega), sum_take e, List.take_add]
    have : ss.getD i 0 = ss[i] := by rw [List.getD_eq_getElem?_getD, e]; rfl
    rw [this]; simp
theorem chk_parts {ix ss : List Nat} {n : Nat} (hp : ix.Perm (List.range n)) (hs : ss.sum = n) (h1 : ∀ s ∈ ss, 1 ≤ s) (hne : ss ≠ []) : Parts (chk ix ss ss.length) n := by
  have il : ix.length = n := by rw [hp.length_eq, List.length_range]
  refine ⟨?_, fun g hg e => ?_, fun e => ?_⟩
  · rw [chk_flat ix ss _ (Nat.le_refl _), List.take_length, hs, ← il, List.take_length]
    rw [il]; exact hp
  · obtain ⟨k, hk, e2⟩ := List.getElem_of_mem hg
    rw [chk_len] at hk
    have es : ss[k]? = some ss[k] := List.getElem?_eq_getElem hk
    have hs2 := sum_take es
    have hs1 := h1 _ (List.getElem_mem hk)
    have tot : (ss.take (k + 1)).sum ≤ n := by
      rw [← hs]
      conv => rhs; rw [← List.take_append_drop (k + 1) ss]
      rw [List.sum_append]; omega
    have e3 : (chk ix ss ss.length)[k]? = some g := by rw [List.getElem?_eq_getElem (by rw [chk_len]; exact hk), e2]
    unfold chk at e3
    rw [List.getElem?_map, List.getElem?_range hk] at e3
    have := congrArg List.length (Option.some.inj e3)
    rw [e, List.length_take, List.length_drop, List.getD_eq_getElem?_getD, es, il] at this
    simp at this
    omega
  · have := congrArg List.length e
    rw [chk_len] at this
    exact hne (List.eq_nil_of_length_eq_zero this)
theorem perm_map_inv {α : Type} {f : Nat → α} : ∀ {os : List α} {l : List Nat}, os.Perm (l.map f) → ∃ l' : List Nat, l'.Perm l ∧ os = l'.map f
  | [], l, h => by
    have := List.map_eq_nil_iff.mp (List.nil_perm.mp h)
    exact ⟨[], by rw [this], rfl⟩
  | a :: t, l, h => by
    obtain ⟨x, hx, rfl⟩ := List.mem_map.mp (h.mem_iff.mp List.mem_cons_self)
    have hl := List.perm_cons_erase hx
    have ht : t.Perm ((l.erase x).map f) := (List.perm_cons (f x)).mp (h.trans (hl.map f))
    obtain ⟨l', p, rfl⟩ := perm_map_inv ht
    exact ⟨x :: l', (p.cons x).trans hl.symm, rfl⟩
theorem idx_of {gs os : List Str} (h : os.Perm gs) : ∃ ix : List Nat, ix.Perm (List.range gs.length) ∧ os = pickS gs ix := by
  have e : pickS gs (List.range gs.length) = gs := by
    rw [pickS_map fun x hx => List.mem_range.mp hx]
    refine List.ext_getElem? fun i => ?_
    rw [List.getElem?_map]
    by_cases hi : i < gs.length
    · rw [List.getElem?_range hi]
      show some (gs.getD i "") = _
      rw [List.getElem?_eq_getElem hi, getD_of (List.getElem?_eq_getElem hi)]
    · rw [List.getElem?_eq_none (by rw [List.length_range]; omega), List.getElem?_eq_none (by omega)]; rfl
  have h2 : os.Perm ((List.range gs.length).map fun i => gs.getD i "") := by
    rw [← pickS_map fun x hx => List.mem_range.mp hx, e]; exact h
  obtain ⟨ix, p, rfl⟩ := perm_map_inv h2
  exact ⟨ix, p, (pickS_map fun x hx => List.mem_range.mp (p.mem_iff.mp hx)).symm⟩
theorem pick_cut {gs : List Str} {L : List Nat} (hL : ∀ x ∈ L, x < gs.length) (a b : Nat) : ((pickS gs L).drop a).take b = pickS gs ((L.drop a).take b) := by
  rw [pickS_map hL, pickS_map fun x hx => hL x (List.mem_of_mem_drop (List.mem_of_mem_take hx)), List.map_take, List.map_drop]
end My
set_option maxRecDepth 100000
set_option maxHeartbeats 4000000
set_option exponentiation.threshold 10000
namespace My
open PySem L2
open C8 (pss_cut)
theorem iL_sum : ∀ l : List Nat, (iL l).sum = ((l.sum : Nat) : Int)
  | [] => rfl
  | a :: t => by
    show (a : Int) + (iL t).sum = _
    rw [iL_sum t, List.sum_cons]; push_cast; rfl
theorem fsum_le (f : Nat → Bool) : ∀ l : List Nat, (l.filter f).sum ≤ l.sum
  | [] => Nat.le_refl _
  | a :: t => by
    have := fsum_le f t
    rw [List.filter_cons, List.sum_cons]
    split
    · rw [List.sum_cons]; omega
    · omega
theorem niv_app (a b : List Nat) : niv (a ++ b) = niv a ++ niv b := List.map_append
section
variable {P : Program} {w : World} {K : PySem.W.Frag} {mg : Str → Option Value} {base : Heap} {A : Ad}
def spSizes (K : PySem.W.Frag) : Sp := fun vs H Q E => ∃ (p : Addr) (xs : List Int), vs = [.ref p] ∧ SqL K H p (ivs xs) ∧ xs.length = 60 ∧ ∀ R (ss : List Nat) H', Same H H' → H R = none → H' R = some (.lst (niv ss)) → ss ≠ [] → (∀ s ∈ ss, 1 ≤ s ∧ s ≤ 4) → ss.sum ≤ 10 → ss.length ≤ 5 → Q (.ref R) H'
theorem ok_sizes (T : Txt P K mg A) : FnOk P w K mg base CX0 1 A.a_law_group_sizes A.d_law_group_sizes ["pool"] (spSizes K) := by
  refine T.F_law_group_sizes.ok sc_law_group_sizes (fun vs H Q E h => ?_) (fun cdv A' outer s H vs Q E hr h => ?_)
  · obtain ⟨p, xs, rfl, _⟩ := h
    rfl
  · obtain ⟨p, xs, rfl, hP, hl, kq⟩ := h
    refine ⟨_, (pss_cons (ps_set (i := 1) sc_law_group_sizes.nd rfl (Or.inl rfl) (pe_lst pa_nil))
      (pss_cons (ps_for PassesOwn.never rfl (pi_range1 (by rfl) T.n_range (pa_cons (pe_op op_add pe_int (pe_op op_mod (pe_callTy call_int1 (by rfl) T.n_int (by decide +kernel) (pa_cons (pe_ix ix_list (pv 0) pe_int (fun _ _ => rfl)) pa_nil)) pe_int)) pa_nil)) (pg_name (i := 2) sc_law_group_sizes.nd rfl (Or.inl rfl))
        (pss_one (ps_expr (pe_bm PySem.F.plainAttrs_list PySem.F.slot_list_append PySem.F.type_list_append mt_append (pv 1) (pa_cons (pe_callB (call_min2 rfl) (by rfl) T.n_min (by decide +kernel) (pa_cons (pe_op op_add pe_int (pe_op op_mod (pe_callTy call_int1 (by rfl) T.n_int (by decide +kernel) (pa_cons (pe_ix ix_list (pv 0) (pe_op op_add pe_int (pv 2)) (fun _ _ => rfl)) pa_nil)) pe_int)) (pa_cons (pe_op op_sub pe_int (pe_callB (cr_sum rfl) (by rfl) T.n_sum (by decide +kernel) (pa_cons (pv 1) pa_nil))) pa_nil))) pa_nil)))))
      (pss_one (ps_ret (pe_lc (own := [("size", 3)]) (g := gName 3) (tt := _) rfl sc_law_group_sizes.nd (pi_list (pv 1)) (blkOk_by (N := ["pool", "sizes", "k", "size"]) (sc := defScope s_law_group_sizes) (by decide +kernel)) (fun _ _ _ _ _ => (pg_name (i := 3) sc_law_group_sizes.nd rfl (Or.inl rfl))) (fun _ _ _ _ _ => (pts_one (pt_cmpR op_gt (pv 3) pe_int (nomark _)))) (fun _ _ _ _ _ => (pv 3))))))), ?_⟩
    obtain ⟨v1, hv1, e1⟩ := atI_ok (xs := xs) (j := 31) (by omega) (by omega)
    have m0 := Int.emod_nonneg v1 (show (5 : Int) ≠ 0 by decide)
    have m1 := Int.emod_lt_of_pos v1 (show (0 : Int) < 5 by decide)
    refine ⟨by show 0 ≤ sizeLine; decide, fun D nD => ?_⟩
    have H1 := same_new (o := .lst []) nD
    refine ⟨_, rfl, p, _, _, _, rfl, rfl, H1.seq hP, e1, .inl ⟨_, rfl, _, _, rfl, rfl, by show (0 : Int) < 5; decide, _, _, rfl, rfl, ?_⟩⟩
    refine ⟨_, rfl, by omega, by omega, for_range (n := (1 + v1 % 5).toNat) (fun j σ G => Same H G ∧ ∃ (ss : List Nat) (u1 : Option V), σ = [some (.ref p), some (.ref D), u1, none] ∧ G D = some (.lst (niv ss)) ∧ ss.length = j ∧ (∀ s ∈ ss, s ≤ 4) ∧ ss.sum ≤ 10 ∧ (0 < j → ∃ s ∈ ss, 1 ≤ s)) ⟨H1, [], none, rfl, upd_same, rfl, fun s h => by simp at h, by decide, fun h => absurd h (by decide)⟩ ?_ ?_⟩
    · rintro j σ G hj ⟨sm, ss, u1, rfl, hD, hsl, h4, h10, hex⟩
      have hj5 : j < 5 := by omega
      rw [Int.zero_add]
      obtain ⟨v2, hv2, e2⟩ := atI_ok (xs := xs) (j := 32 + (j : Int)) (by omega) (by omega)
      have n0 := Int.emod_nonneg v2 (show (4 : Int) ≠ 0 by decide)
      have n1 := Int.emod_lt_of_pos v2 (show (0 : Int) < 4 by decide)
      have hDi : G D = some (.lst (ivs (iL ss))) := by rw [← niv_ivs]; exact hD
      have esum := iL_sum ss
      refine ⟨_, rfl, .inl ⟨rfl, _, SqL.of hD⟩, _, rfl, _, rfl, _, _, rfl, rfl, p, _, _, _, rfl, rfl, sm.seq hP, e2, .inl ⟨_, rfl, _, _, rfl, rfl, by show (0 : Int) < 4; decide, _, _, rfl, rfl, _, rfl, D, _, rfl, SqL.of hDi, _, _, rfl, rfl, _, _, rfl, ?_⟩⟩
      rw [esum]
      obtain ⟨z, hz, hz4, hz10, hz1⟩ : ∃ z : Nat, (if 10 - ((ss.sum : Nat) : Int) < 1 + v2 % 4 then 10 - ((ss.sum : Nat) : Int) else 1 + v2 % 4) = (z : Int) ∧ z ≤ 4 ∧ ss.sum + z ≤ 10 ∧ (ss.sum < 10 → 1 ≤ z) := by
        split
        · exact ⟨10 - ss.sum, by omega, by omega, by omega, by omega⟩
        · exact ⟨(1 + v2 % 4).toNat, by omega, by omega, by omega, by omega⟩
      rw [hz]
      refine ⟨D, _, _, rfl, rfl, hD, small_int (by rw [niv_len]; omega), fun b o e => by rw [upd_ne (ne_of_none e nD)]; exact sm _ _ e, ss ++ [z], _, rfl, by rw [niv_app]; exact upd_same, by rw [List.length_append, hsl]; rfl, fun s hs => ?_, by rw [List.sum_append]; simpa using hz10, fun _ => ?_⟩
      · rcases List.mem_append.mp hs with q | q
        · exact h4 s q
        · rw [List.mem_singleton.mp q]; exact hz4
      · by_cases hj0 : 0 < j
        · obtain ⟨s, hs, h1⟩ := hex hj0
          exact ⟨s, List.mem_append_left _ hs, h1⟩
        · have : ss = [] := List.eq_nil_of_length_eq_zero (by omega)
          subst this
          exact ⟨z, by simp, hz1 (by decide)⟩
    · rintro σ G ⟨sm, ss, u1, rfl, hD, hsl, h4, h10, hex⟩
      let ft : List Nat → List Nat := fun l => l.filter fun s => decide (0 < s)
      have sl5 : ss.length ≤ 5 := by omega
      refine ⟨_, rfl, D, rfl, ⟨_, SqL.of hD⟩, fun D3 nD3 => lc_it walk_list (PvS G D3 fun i => niv (ft (ss.take i))) (pv0 nD3 rfl) (fun i G3 _ q => q.1.seq (SqL.of hD)) ?_ ?_⟩
      · rintro i x Gc Gd hi q ⟨rfl, hx⟩
        obtain ⟨n, hn, rfl⟩ := niv_get hx
        have hle : (niv (ft (ss.take i))).length ≤ 1000000 := by
          rw [niv_len]
          exact Nat.le_trans (List.length_filter_le _ _) (Nat.le_trans (List.length_take_le' _ _) (Nat.le_trans sl5 (by decide)))
        have st : niv (ft (ss.take (i + 1))) = niv (ft (ss.take i)) ++ niv (ft [n]) := by
          rw [take_succ hn, ← niv_app]
          exact congrArg niv (List.filter_append ..)
        refine ⟨rfl, _, rfl, _, _, rfl, rfl, _, rfl, ?_⟩
        by_cases h0 : ((n : Nat) : Int) > 0
        · refine ifT (decide_eq_true h0) ⟨_, rfl, q.push nD3 ?_ hle⟩
          have e : ft [n] = [n] := by show List.filter _ _ = _; simp; omega
          rw [st, e]; rfl
        · refine ifF (decide_eq_false h0) (q.skip ?_)
          have e : ft [n] = [] := by show List.filter _ _ = _; simp; omega
          rw [st, e]; simp [niv]
      rintro G3 ⟨s3, hD3⟩
      have hD3 : G3 D3 = some (.lst (niv (ft ss))) := by
        have := hD3
        dsimp only at this
        rw [niv_len, List.take_length] at this
        exact this
      refine kq D3 (ft ss) G3 (sm.trans s3) (none_of sm nD3) hD3 (fun e => ?_) (fun s hs => ?_) ?_ ?_
      · obtain ⟨s, hs, h1⟩ := hex (by omega)
        have : s ∈ ft ss := List.mem_filter.mpr ⟨hs, decide_eq_true h1⟩
        rw [e] at this; cases this
      · have := List.mem_filter.mp hs
        exact ⟨of_decide_eq_true this.2, h4 s this.1⟩
      · exact Nat.le_trans (fsum_le _ _) h10
      · exact Nat.le_trans (List.length_filter_le _ _) sl5
end
end My
set_option maxRecDepth 100000
set_option maxHeartbeats 4000000
set_option exponentiation.threshold 10000
namespace My
open PySem L2
open C8 (pss_cut)
section
variable {P : Program} {w : World} {K : PySem.W.Frag} {mg : Str → Option Value} {base : Heap} {A : Ad}
def spGroups (K : PySem.W.Frag) : Sp := fun vs H Q E => ∃ (o z : Addr) (gs : List Str) (ix ss : List Nat), vs = [.ref o, .ref z] ∧ SqL K H o (sv (pickS gs ix)) ∧ SqL K H z (niv ss) ∧ (∀ x ∈ ix, x < gs.length) ∧ ss.length ≤ 5 ∧ ∀ R us H', Same H H' → H R = none → H' R = some (.lst (us.map V.ref)) → Lg (fun g => .lst (sv (pickS gs g))) H' us (chk ix ss ss.length) → Q (.ref R) H'
theorem ok_groups (T : Txt P K mg A) : FnOk P w K mg base CX0 1 A.a_law_groups A.d_law_groups ["order", "sizes"] (spGroups K) := by
  refine T.F_law_groups.ok sc_law_groups (fun vs H Q E h => ?_) (fun cdv A' outer s H vs Q E hr h => ?_)
  · obtain ⟨o, z, gs, ix, ss, rfl, _⟩ := h
    rfl
  · obtain ⟨o, z, gs, ix, ss, rfl, hO, hZ, hix, hl, kq⟩ := h
    refine ⟨_, (pss_cons (ps_set (i := 2) sc_law_groups.nd rfl (Or.inl rfl) (pe_lst pa_nil))
      (pss_cons (ps_set (i := 3) sc_law_groups.nd rfl (Or.inl rfl) pe_int)
      (pss_cons (ps_for PassesOwn.never rfl (pi_list (pv 1)) (pg_name (i := 4) sc_law_groups.nd rfl (Or.inl rfl))
        (pss_cons (ps_expr (pe_bm PySem.F.plainAttrs_list PySem.F.slot_list_append PySem.F.type_list_append mt_append (pv 2) (pa_cons (pe_slice sl_list (pv 0) (po_some (pv 3)) (po_some (pe_op op_add (pv 3) (pv 4)))) pa_nil)))
      (pss_one (ps_set (i := 3) sc_law_groups.nd rfl (Or.inl rfl) (pe_op op_add (pv 3) (pv 4))))))
      (pss_one (ps_ret (pv 2)))))), ?_⟩
    refine ⟨by show 0 ≤ sizeLine; decide, fun D nD => ?_⟩
    refine ⟨_, rfl, z, rfl, ⟨_, (same_new nD).seq hZ⟩, for_it walk_list (fun j σ G => Same H G ∧ ∃ (us : List Addr) (u1 : Option V), σ = [some (.ref o), some (.ref z), some (.ref D), some (.int ((ss.take j).sum : Nat)), u1] ∧ G D = some (.lst (us.map V.ref)) ∧ Lg (fun g => .lst (sv (pickS gs g))) G us (chk ix ss j) ∧ ∀ (i : Nat) (t : Addr), us[i]? = some t → t ≠ D) ⟨same_new nD, [], none, rfl, upd_same, Lg.nil, noT⟩ (fun j σ G _ q => q.1.seq hZ) ?_ ?_⟩
    · rintro j x σ Ga G hj ⟨sm, us, u1, rfl, hD, hus, hne⟩ ⟨rfl, hx⟩
      obtain ⟨n, hn, rfl⟩ := niv_get hx
      have hj5 : j < 5 := by have := (List.getElem?_eq_some_iff.mp hn).1; omega
      refine ⟨_, rfl, .inl ⟨rfl, _, SqL.of hD⟩, _, rfl, _, rfl, _, rfl, _, rfl, _, rfl, _, _, rfl, rfl, _, rfl, slO (sm.seq hO) fun b1 G2 t2 n2 h2 => ?_⟩
      have ec : cutV (sv (pickS gs ix)) (some (((ss.take j).sum : Nat) : Int)) (some ((((ss.take j).sum : Nat) : Int) + (n : Int))) = sv (pickS gs ((ix.drop (ss.take j).sum).take (ss.getD j 0))) := by
        rw [show ((((ss.take j).sum : Nat) : Int) + (n : Int)) = (((ss.take j).sum + n : Nat) : Int) by push_cast; rfl, cut_mid (by omega), Nat.add_sub_cancel_left, sv_drop, sv_take, pick_cut hix]
        have : ss.getD j 0 = n := by rw [List.getD_eq_getElem?_getD, hn]; rfl
        rw [this]
      rw [ec] at h2
      have nbD : b1 ≠ D := fun e => by rw [e, hD] at n2; cases n2
      refine ⟨D, _, _, rfl, rfl, t2 _ _ hD, small_int (by rw [List.length_map, hus.len, chk_len]; omega), ?_⟩
      refine ⟨_, rfl, _, rfl, _, _, rfl, rfl, ?_⟩
      refine ⟨fun b o e => by rw [upd_ne (ne_of_none e nD)]; exact t2 _ _ (sm _ _ e), us ++ [b1], some (.int (n : Nat)), ?_, by rw [List.map_append]; exact upd_same, ?_, ne_app hne nbD⟩
      · rw [sum_take hn]; push_cast; rfl
      · rw [chk_succ]
        exact ((hus.same t2).app h2).upd1 (ne_app hne nbD)
    · rintro σ G ⟨sm, us, u1, rfl, hD, hus, hne⟩
      have hus : Lg (fun g => .lst (sv (pickS gs g))) G us (chk ix ss ss.length) := by rw [← niv_len ss]; exact hus
      exact ⟨_, rfl, kq D us G sm nD hD hus⟩
def spAcross (K : PySem.W.Frag) : Sp := fun vs H Q E => ∃ (g r : Addr) (gs : List Str) (gi : List (List Nat)) (gts : List Addr), vs = [.ref g, .ref r] ∧ SqL K H g (sv gs) ∧ SqL K H r (gts.map V.ref) ∧ Lg (fun g => .lst (sv (pickS gs g))) H gts gi ∧ (∀ l ∈ gi, ∀ x ∈ l, x < gs.length) ∧ gi.length ≤ 5 ∧ gs.Nodup ∧ gs.length ≤ 12 ∧ ∀ R us ps H', Same H H' → H R = none → H' R = some (.lst (us.map V.ref)) → Lss .tup H' us ps → PrI gs true (fun i j => ¬ together gi i j) gs.length 0 ps → Q (.ref R) H'
theorem ok_across (T : Txt P K mg A) : FnOk P w K mg base CX0 1 A.a_law_pairs_across A.d_law_pairs_across ["guests", "groups"] (spAcross K) := by
  refine T.F_law_pairs_across.ok sc_law_pairs_across (fun vs H Q E h => ?_) (fun cdv A' outer s H vs Q E hr h => ?_)
  · obtain ⟨g, r, gs, gi, gts, rfl, _⟩ := h
    rfl
  · obtain ⟨g, r, gs, gi, gts, rfl, hG, hR, hT, hx, hgl, nd, hl, kq⟩ := h
    refine ⟨_, (pss_cons (ps_set (i := 2) sc_law_pairs_across.nd rfl (Or.inl rfl) (pe_lst pa_nil))
      (pss_cons (ps_for PassesOwn.never rfl (pi_range1 (by rfl) T.n_range (pa_cons (pe_callB call_len_seq (by rfl) T.n_len (by decide +kernel) (pa_cons (pv 0) pa_nil)) pa_nil)) (pg_name (i := 3) sc_law_pairs_across.nd rfl (Or.inr rfl))
        (pss_one (ps_for PassesOwn.never rfl (pi_range1 (by rfl) T.n_range (pa_cons (pv 3) pa_nil)) (pg_name (i := 4) sc_law_pairs_across.nd rfl (Or.inr rfl))
        (pss_one (ps_if (pt_cmpR op_eq (pe_callB call_len_seq (by rfl) T.n_len (by decide +kernel) (pa_cons (pe_lc (own := [("group", 5)]) (g := gName 5) (tt := _) rfl sc_law_pairs_across.nd (pi_list (pv 1)) (blkOk_by (N := ["guests", "groups", "pairs", "j", "i", "group"]) (sc := defScope s_law_pairs_across) (by decide +kernel)) (fun _ _ _ _ _ => (pg_name (i := 5) sc_law_pairs_across.nd rfl (Or.inl rfl))) (fun _ _ _ _ _ => (pts_one (PW.pt (pw_and (pt_cmpR (show OpR _ _ (rIn K false) from op_in_seq) (pe_ix (show IxR _ (rIxL K) from ix_list) (pv 0) (pv 4) (fun _ _ => rfl)) (pv 5) (by with_unfolding_all rfl)) (pw_and1 (pt_cmpR (show OpR _ _ (rIn K false) from op_in_seq) (pe_ix (show IxR _ (rIxL K) from ix_list) (pv 0) (pv 3) (fun _ _ => rfl)) (pv 5) (by with_unfolding_all rfl))))))) (fun _ _ _ _ _ => (pv 5))) pa_nil)) pe_int (nomark _)) (pss_one (ps_expr (pe_bm PySem.F.plainAttrs_list PySem.F.slot_list_append PySem.F.type_list_append mt_append (pv 2) (pa_cons (pe_tup (pa_cons (pe_ix ix_list (pv 0) (pv 4) (fun _ _ => rfl)) (pa_cons (pe_ix ix_list (pv 0) (pv 3) (fun _ _ => rfl)) pa_nil))) pa_nil)))) pss_nil)))))
      (pss_one (ps_ret (pv 2))))), ?_⟩
    refine ⟨by show 0 ≤ sizeLine; decide, fun D nD => ?_⟩
    refine ⟨_, rfl, g, _, rfl, .inl ((same_new nD).seq hG), _, rfl, by rw [len_sv]; omega, by rw [len_sv]; omega, for_range (n := (((sv gs).length : Nat) : Int).toNat) (fun j σ G => Same H G ∧ ∃ (us : List Addr) (ps : List (List Str)) (u1 u2 : Option V), σ = [some (.ref g), some (.ref r), some (.ref D), u1, u2, none] ∧ G D = some (.lst (us.map V.ref)) ∧ Lss .tup G us ps ∧ PrI gs true (fun i j => ¬ together gi i j) j 0 ps) ⟨same_new nD, [], [], none, none, rfl, upd_same, Lss.nil, PrI.zero⟩ ?_ ?_⟩
    · rintro j σ G hj ⟨sm, us, ps, u1, u2, rfl, hD, hus, hpr⟩
      have hjl : j < gs.length := by rw [len_sv, Int.toNat_natCast] at hj; exact hj
      rw [Int.zero_add]
      refine ⟨_, rfl, _, rfl, by omega, by omega, for_range (n := ((j : Nat) : Int).toNat) (fun i σ G => Same H G ∧ ∃ (us : List Addr) (ps : List (List Str)) (u2 : Option V), σ = [some (.ref g), some (.ref r), some (.ref D), some (.int (j : Nat)), u2, none] ∧ G D = some (.lst (us.map V.ref)) ∧ Lss .tup G us ps ∧ PrI gs true (fun i j => ¬ together gi i j) j i ps) ⟨sm, us, ps, _, rfl, hD, hus, hpr⟩ ?_ ?_⟩
      · rintro i σ G hi ⟨sm, us, ps, u2, rfl, hD, hus, hpr⟩
        have hij : i < j := by rw [Int.toNat_natCast] at hi; exact hi
        rw [Int.zero_add]
        have zi : gs[i]? = some gs[i] := List.getElem?_eq_getElem (by omega)
        have zj : gs[j]? = some gs[j] := List.getElem?_eq_getElem hjl
        have pl := hpr.len hl
        refine ⟨_, rfl, r, rfl, ⟨_, sm.seq hR⟩, fun D3 nD3 => lc_it walk_list (fun m G3 => Same G G3 ∧ ∃ xs : List V, G3 D3 = some (.lst xs) ∧ xs.length ≤ m ∧ (xs.length = 0 ↔ ¬ together (gi.take m) i j)) ⟨same_new nD3, [], upd_same, Nat.le_refl _, fun _ ⟨g, hg, _⟩ => by simp at hg, fun _ => rfl⟩ (fun m G3 _ q => q.1.seq (sm.seq hR)) ?_ ?_⟩
        · rintro m x Gc Gd hm ⟨s3, xs, h3, hxl, hxz⟩ ⟨rfl, hx2⟩
          obtain ⟨u, hu, rfl⟩ := refs_get hx2
          obtain ⟨L, hL, hLa⟩ := (hT.same (sm.trans s3)).get hu
          have hLn := hx L (List.mem_of_getElem? hL)
          have sG := sm.trans s3
          have h5 : m < 5 := by have := (List.getElem?_eq_some_iff.mp hL).1; omega
          have tg : together (gi.take (m + 1)) i j ↔ together (gi.take m) i j ∨ (i ∈ L ∧ j ∈ L) := by
            rw [take_succ hL]
            constructor
            · rintro ⟨q, hq, a⟩
              rcases List.mem_append.mp hq with h | h
              · exact .inl ⟨q, h, a⟩
              · rw [List.mem_singleton.mp h] at a; exact .inr a
            · rintro (⟨q, hq, a⟩ | a)
              · exact ⟨q, List.mem_append_left _ hq, a⟩
              · exact ⟨L, List.mem_append_right _ (List.mem_singleton_self _), a⟩
          have off : ¬ (i ∈ L ∧ j ∈ L) → Same G Gd ∧ ∃ xs, Gd D3 = some (.lst xs) ∧ xs.length ≤ m + 1 ∧ (xs.length = 0 ↔ ¬ together (gi.take (m + 1)) i j) := fun hn => ⟨s3, xs, h3, by omega, by rw [tg, hxz]; exact ⟨fun h z => z.elim h hn, fun h z => h (.inl z)⟩⟩
          refine ⟨rfl, _, rfl, _, rfl, g, _, _, _, rfl, rfl, sG.seq hG, atS_of zi, _, rfl, u, _, rfl, .inl (SqL.of hLa), rfl, flat_sv _, _, rfl, ?_⟩
          rw [if_neg Bool.false_ne_true, inV_str]
          by_cases hi1 : gs[i] ∈ pickS gs L
          case neg => exact ifF (decide_eq_false hi1) (ifF rfl (off fun z => hi1 ((mem_pick nd hLn zi).mpr z.1)))
          refine ifT (decide_eq_true hi1) ⟨_, rfl, _, rfl, g, _, _, _, rfl, rfl, sG.seq hG, atS_of zj, _, rfl, u, _, rfl, .inl (SqL.of hLa), rfl, flat_sv _, _, rfl, ?_⟩
          rw [if_neg Bool.false_ne_true, inV_str]
          by_cases hj1 : gs[j] ∈ pickS gs L
          case neg => exact ifF (decide_eq_false hj1) (off fun z => hj1 ((mem_pick nd hLn zj).mpr z.2))
          refine ifT (decide_eq_true hj1) ⟨_, rfl, _, h3, small_int (by omega), fun b o e => by rw [upd_ne (ne_of_none e nD3)]; exact s3 _ _ e, _, upd_same, by rw [List.length_append]; show xs.length + 1 ≤ _; omega, ?_⟩
          rw [tg, List.length_append]
          exact ⟨fun h => absurd h (by show xs.length + 1 ≠ 0; omega), fun h => absurd (.inr ⟨(mem_pick nd hLn zi).mp hi1, (mem_pick nd hLn zj).mp hj1⟩) h⟩
        rintro G3 ⟨s3, xs, h3, hxl, hxz⟩
        rw [List.length_map, hT.len] at hxl
        rw [List.length_map, hT.len, List.take_length] at hxz
        have s03 := sm.trans s3
        have hD3 := s3 _ _ hD
        have hus3 := hus.same s3
        refine ⟨D3, _, rfl, .inl (SqL.of h3), rfl, _, rfl, ?_⟩
        by_cases hz : xs.length = 0
        · refine ifT (decide_eq_true (show V.int (xs.length : Nat) = V.int 0 by rw [hz]; rfl)) ?_
          refine ⟨_, rfl, .inl ⟨rfl, _, SqL.of hD3⟩, _, rfl, _, rfl, g, _, _, _, rfl, rfl, s03.seq hG, atS_of zi, _, rfl, _, rfl, g, _, _, _, rfl, rfl, s03.seq hG, atS_of zj, by show 2 ≤ sizeLine; decide, fun t nt => ?_⟩
          generalize hG : upd G3 t _ = G4
          have t2 : Same G3 G4 := hG ▸ same_new nt
          have ht := (congrFun hG t).symm.trans upd_same
          clear hG
          have ht : G4 t = some (.tup (sv [gs.getD i "", gs.getD j ""])) := by rw [getD_of zi, getD_of zj]; exact ht
          refine ⟨D, _, _, rfl, rfl, t2 _ _ hD3, small_int (by rw [List.length_map, hus.len]; omega), ?_⟩
          exact ⟨fun b o e => by rw [upd_ne (ne_of_none e nD)]; exact t2 _ _ (s03 _ _ e), us ++ [t], _, _, rfl, by rw [List.map_append]; exact upd_same, ((hus3.same t2).app ht).updT (t2 _ _ hD3) (fun xs z => nomatch z), hpr.yes nd hij hjl (fun _ => hxz.mp hz)⟩
        · refine ifF (decide_eq_false fun z => hz (by have := V.int.inj z; omega)) ?_
          exact ⟨s03, us, ps, _, rfl, hD3, hus3, hpr.no (fun _ h => hz (hxz.mpr h))⟩
      · rintro σ G ⟨sm, us, ps, u2, rfl, hD, hus, hpr⟩
        rw [Int.toNat_natCast] at hpr
        exact ⟨sm, us, ps, _, _, rfl, hD, hus, hpr.row⟩
    · rintro σ G ⟨sm, us, ps, u1, u2, rfl, hD, hus, hpr⟩
      rw [len_sv, Int.toNat_natCast] at hpr
      exact ⟨_, rfl, kq D us ps G sm nD hD hus hpr⟩
end
end My
set_option maxRecDepth 100000
set_option maxHeartbeats 4000000
set_option exponentiation.threshold 10000
namespace My
open PySem L2
open C8 (pss_cut)
abbrev nsc_one1 : Scope := { kind := ScopeKind.function, names := [(".0", NameKind.local), ("chosen", NameKind.local), ("len", NameKind.globalImplicit), ("sorted", NameKind.globalImplicit), ("guests", NameKind.cell)], isGenerator := false, isCoroutine := false }
abbrev nsc_one2 : Scope := { kind := ScopeKind.function, names := [(".0", NameKind.local), ("chosen", NameKind.local), ("tuple", NameKind.globalImplicit), ("guests", NameKind.cell)], isGenerator := false, isCoroutine := false }
theorem iL_le {c : List Nat} {ns : List Int} (hp : ns.Perm (iL c)) (hs : ns.Pairwise (· ≤ ·)) : ns = iL (srtN c) := by
  have h2 : (iL (srtN c)).Pairwise (· ≤ ·) := by
    unfold iL
    rw [List.pairwise_map]
    exact (srtN_le c).imp fun h => by omega
  have p2 : (iL (srtN c)).Perm (iL c) := (srtN_perm c).map _
  exact (hp.trans p2.symm).eq_of_pairwise (le := (· ≤ ·)) (fun x y _ _ h1 h2 => by omega) hs h2
section
variable {P : Program} {w : World} {K : PySem.W.Frag} {mg : Str → Option Value} {base : Heap} {A : Ad}
def spOne (K : PySem.W.Frag) : Sp := fun vs H Q E => ∃ (g r : Addr) (gs : List Str) (gi : List (List Nat)) (gts : List Addr) (ps : List (List Str)), vs = [.ref g, .ref r] ∧ SqL K H g (sv gs) ∧ SqL K H r (gts.map V.ref) ∧ Lg (fun g => .lst (sv (pickS gs g))) H gts gi ∧ Parts gi gs.length ∧ gi.length ≤ 5 ∧ (∀ l ∈ gi, l.length ≤ 4) ∧ gs.Nodup ∧ gs.length ≤ 12 ∧ (∀ i j, i < gs.length → j < gs.length → i ≠ j → (MM gs ps i j = true ↔ ¬ together gi i j)) ∧
  ∀ R us H', Same H H' → H R = none → H' R = some (.lst (us.map V.ref)) → Lg (fun r => .tup (sv r)) H' us (comps gs ps) → Q (.ref R) H'
theorem ok_one (T : Txt P K mg A) : FnOk P w K mg base CX0 1 A.a_law_one_of_each A.d_law_one_of_each ["guests", "groups"] (spOne K) := by
  refine T.F_law_one_of_each.ok sc_law_one_of_each (fun vs H Q E h => ?_) (fun cdv A' outer s H vs Q E hr h => ?_)
  · obtain ⟨g, r, gs, gi, gts, ps, rfl, _⟩ := h
    rfl
  · obtain ⟨g, r, gs, gi, gts, ps, rfl, hG, hR, hT, hP, hgl, hg4, nd, hl, hM, kq⟩ := h
    refine ⟨_, (pss_cons (ps_set (i := 2) sc_law_one_of_each.nd rfl (Or.inl rfl) (pe_lst (pa_cons (pe_lst pa_nil) pa_nil)))
      (pss_cons (ps_for PassesOwn.never rfl (pi_list (pv 1)) (pg_name (i := 3) sc_law_one_of_each.nd rfl (Or.inl rfl))
        (pss_cons (ps_set (i := 4) sc_law_one_of_each.nd rfl (Or.inl rfl) (pe_lst pa_nil))
      (pss_cons (ps_for PassesOwn.never rfl (pi_list (pv 2)) (pg_name (i := 5) sc_law_one_of_each.nd rfl (Or.inl rfl))
        (pss_one (ps_for PassesOwn.never rfl (pi_list (pv 3)) (pg_name (i := 6) sc_law_one_of_each.nd rfl (Or.inl rfl))
        (pss_one (ps_expr (pe_bm PySem.F.plainAttrs_list PySem.F.slot_list_append PySem.F.type_list_append mt_append (pv 4) (pa_cons (pe_op op_cat (pv 5) (pe_lst (pa_cons (pv 6) pa_nil))) pa_nil)))))))
      (pss_one (ps_set (i := 2) sc_law_one_of_each.nd rfl (Or.inl rfl) (pe_callTy (show CallR _ _ (rListOf K) from call_list_of) (by rfl) T.n_list (by decide +kernel) (pa_cons (pv 4) pa_nil)))))))
      (pss_cons (ps_set (i := 7) sc_law_one_of_each.nd rfl (Or.inl rfl) (pe_callB (cr_sortLI (hu10 hr)) (by rfl) T.n_sorted (by decide +kernel) (pa_cons (pe_lc (own := [("chosen", 8)]) (g := gName 8) (tt := _) rfl sc_law_one_of_each.nd (pi_list (pv 2)) (blkOk_by (N := ["guests", "groups", "lists", "group", "longer", "begun", "guest", "keyed", "chosen", "i"]) (sc := defScope s_law_one_of_each) (by decide +kernel)) (fun _ _ _ _ _ => (pg_name (i := 8) sc_law_one_of_each.nd rfl (Or.inl rfl))) (fun _ _ _ _ _ => (pts_one (pt_cmpR op_gt (pe_callB (show CallR _ _ (rLen2 K) from call_len_seq) (by rfl) T.n_len (by decide +kernel) (pa_cons (pv 8) pa_nil)) pe_int (nomark _)))) (fun _ _ _ _ _ => (pe_callB (show CallR _ _ (rSortedI K) from cr_sortedI) (by rfl) T.n_sorted (by decide +kernel) (pa_cons (pe_lc (own := [("guest", 6)]) (g := gName 6) (tt := tYes) rfl sc_law_one_of_each.nd (show PI _ _ _ (iList K _) from (pi_list (pv 8))) (blkOk_by (N := ["guests", "groups", "lists", "group", "longer", "begun", "guest", "keyed", "chosen", "i"]) (sc := nsc_one1) (by decide +kernel)) (fun _ _ _ _ _ => (pg_name (i := 6) sc_law_one_of_each.nd rfl (Or.inl rfl))) (fun _ _ _ _ _ => pts_nil) (fun _ _ _ _ _ => (show PE _ _ (tBM K "list" (rIndex K) _ _) from (pe_bm PySem.F.plainAttrs_list PySem.F.slot_list_index PySem.F.type_list_index mt_index (pv 0) (pa_cons (pv 6) pa_nil))))) pa_nil)))) pa_nil)))
      (pss_one (ps_ret (pe_lc (own := [("chosen", 8)]) (g := gName 8) (tt := tYes) rfl sc_law_one_of_each.nd (pi_list (pv 7)) (blkOk_by (N := ["guests", "groups", "lists", "group", "longer", "begun", "guest", "keyed", "chosen", "i"]) (sc := defScope s_law_one_of_each) (by decide +kernel)) (fun _ _ _ _ _ => (pg_name (i := 8) sc_law_one_of_each.nd rfl (Or.inl rfl))) (fun _ _ _ _ _ => pts_nil) (fun _ _ _ _ _ => (pe_callTy (show CallR _ _ (rTupOf K) from call_tuple_of) (by rfl) T.n_tuple (by decide +kernel) (pa_cons (pe_lc (own := [("i", 9)]) (g := gName 9) (tt := tYes) rfl sc_law_one_of_each.nd (show PI _ _ _ (iList K _) from (pi_list (pv 8))) (blkOk_by (N := ["guests", "groups", "lists", "group", "longer", "begun", "guest", "keyed", "chosen", "i"]) (sc := nsc_one2) (by decide +kernel)) (fun _ _ _ _ _ => (pg_name (i := 9) sc_law_one_of_each.nd rfl (Or.inl rfl))) (fun _ _ _ _ _ => pts_nil) (fun _ _ _ _ _ => (pe_ix (show IxR _ (rIxL K) from ix_list) (pv 0) (pv 9) (fun _ _ => rfl)))) pa_nil))))))))), ?_⟩
    have hin : ∀ {k : Nat} {c : List Nat}, c ∈ prodL (gi.take k) → ∀ x ∈ c, x < gs.length := fun {k c} hc x hx => by
      have oc := (mem_prodL _ _).mp hc
      obtain ⟨j, q, _, e2, e3⟩ := oc.at hx
      exact hP.lt (List.mem_of_mem_take (List.mem_of_getElem? e2)) e3
    have plen : ∀ k, (prodL (gi.take k)).length ≤ 1024 := fun k => by
      have := len_prodL (gi.take k) fun l hl => hg4 l (List.mem_of_mem_take hl)
      refine Nat.le_trans this ?_
      exact Nat.pow_le_pow_right (n := 4) (by omega) (by rw [List.length_take]; omega : (gi.take k).length ≤ 5)
    refine ⟨by show 0 ≤ sizeLine; decide, fun E0a nE0 => ?_⟩
    generalize hG : upd H E0a _ = H1
    have s1 : Same H H1 := hG ▸ same_new nE0
    have hE0 := (congrFun hG E0a).symm.trans upd_same
    clear hG
    refine ⟨by show 1 ≤ sizeLine; decide, fun F0 nF0 => ?_⟩
    generalize hG : upd H1 F0 _ = H2
    have s2 : Same H1 H2 := hG ▸ same_new nF0
    have hF0 := (congrFun hG F0).symm.trans upd_same
    clear hG
    have s12 := s1.trans s2
    refine ⟨_, rfl, r, rfl, ⟨_, s12.seq hR⟩, for_it walk_list (fun k σ G => Same H G ∧ ∃ (F : Addr) (us : List Addr) (u1 u2 u3 u4 : Option V), σ = [some (.ref g), some (.ref r), some (.ref F), u1, u2, u3, u4, none, none, none] ∧ G F = some (.lst (us.map V.ref)) ∧ Lg (fun L => .lst (sv (pickS gs L))) G us (prodL (gi.take k))) ⟨s12, F0, [E0a], none, none, none, none, rfl, hF0, Lg.nil.app (s2 _ _ hE0)⟩ (fun k σ G _ q => q.1.seq hR) ?_ ?_⟩
    · rintro k x σ G0 G hk ⟨sm, F, us, u1, u2, u3, u4, rfl, hF, hus⟩ ⟨rfl, hx⟩
      obtain ⟨gu, hgu, rfl⟩ := refs_get hx
      obtain ⟨q, hq, hqa⟩ := (hT.same sm).get hgu
      have hqm := List.mem_of_getElem? hq
      have q4 := hg4 q hqm
      have hqn : ∀ x ∈ q, x < gs.length := fun x hx => hP.lt hqm hx
      have pl := plen k
      have pl2 := plen (k + 1)
      generalize hLL : prodL (gi.take k) = LL at hus pl
      have eP : prodL (gi.take (k + 1)) = prodS LL q := by rw [take_succ hq, prodL_app, hLL]
      have hLLn : ∀ b ∈ LL, ∀ x ∈ b, x < gs.length := fun b hb => hin (k := k) (hLL ▸ hb)
      have hLLl : ∀ b ∈ LL, b.length ≤ 5 := fun b hb => by
        have := ((mem_prodL _ _).mp (hLL ▸ hb)).1
        rw [List.length_take] at this; omega
      have sl : ∀ j m (b : List Nat), ((LL.take j).flatMap (fun b => q.map fun x => b ++ [x]) ++ (q.take m).map fun x => b ++ [x]).length ≤ 100000 := fun j m b => by
        rw [List.length_append, List.length_flatMap, List.length_map, List.length_take]
        have : (List.map (fun a => (List.map (fun x => a ++ [x]) q).length) (LL.take j)) = (LL.take j).map fun _ => q.length := List.map_congr_left fun a _ => List.length_map ..
        rw [this, List.map_const', List.sum_replicate_nat, List.length_take]
        have := Nat.mul_le_mul (show min j LL.length ≤ 1024 by omega) q4
        omega
      refine ⟨by show 0 ≤ sizeLine; decide, fun D nD => ?_⟩
      refine ⟨_, rfl, F, rfl, ⟨_, SqL.of (same_new nD _ _ hF)⟩, for_it walk_list (fun j σ G2 => Same G G2 ∧ ∃ (ws : List Addr) (v1 v2 : Option V), σ = [some (.ref g), some (.ref r), some (.ref F), some (.ref gu), some (.ref D), v1, v2, none, none, none] ∧ G2 D = some (.lst (ws.map V.ref)) ∧ Lg (fun L => .lst (sv (pickS gs L))) G2 ws ((LL.take j).flatMap fun b => q.map fun x => b ++ [x]) ∧ ∀ (i : Nat) (t : Addr), ws[i]? = some t → t ≠ D) ⟨same_new nD, [], _, _, rfl, upd_same, Lg.nil, noT⟩ (fun j σ G2 _ q => SqL.of (q.1 _ _ hF)) ?_ ?_⟩
      · rintro j x σ Ga Gb hj ⟨s2, ws, v1, v2, rfl, hD, hws, hne⟩ ⟨rfl, hx⟩
        obtain ⟨u, hu, rfl⟩ := refs_get hx
        obtain ⟨b, hb, hba⟩ := (hus.same s2).get hu
        have hbm := List.mem_of_getElem? hb
        refine ⟨_, rfl, gu, rfl, ⟨_, SqL.of (s2 _ _ hqa)⟩, for_it walk_list (fun m σ G3 => Same G G3 ∧ ∃ (ws : List Addr) (v2 : Option V), σ = [some (.ref g), some (.ref r), some (.ref F), some (.ref gu), some (.ref D), some (.ref u), v2, none, none, none] ∧ G3 u = some (.lst (sv (pickS gs b))) ∧ G3 D = some (.lst (ws.map V.ref)) ∧ Lg (fun L => .lst (sv (pickS gs L))) G3 ws (((LL.take j).flatMap fun b => q.map fun x => b ++ [x]) ++ (q.take m).map fun x => b ++ [x]) ∧ ∀ (i : Nat) (t : Addr), ws[i]? = some t → t ≠ D) ⟨s2, ws, _, rfl, hba, hD, by simpa using hws, hne⟩ (fun m σ G3 _ q => SqL.of (q.1 _ _ hqa)) ?_ ?_⟩
        · rintro m x σ Gc Gd hm ⟨s3, ws, v2, rfl, hba, hD, hws, hne⟩ ⟨rfl, hx⟩
          obtain ⟨z, hz, rfl⟩ := sv_get hx
          have hz2 := hz
          rw [pickS_map hqn, List.getElem?_map] at hz2
          cases hn : q[m]? with
          | none => rw [hn] at hz2; cases hz2
          | some n =>
          rw [hn] at hz2
          have hz2 : gs.getD n "" = z := Option.some.inj hz2
          have hnn := hqn n (List.mem_of_getElem? hn)
          have hgz : gs[n]? = some z := by
            rw [List.getD_eq_getElem?_getD, List.getElem?_eq_getElem hnn] at hz2
            rw [List.getElem?_eq_getElem hnn]; exact congrArg some hz2
          have es : pickS gs (b ++ [n]) = pickS gs b ++ [z] := pickS_snoc hgz
          refine ⟨_, rfl, .inl ⟨rfl, _, SqL.of hD⟩, _, rfl, _, rfl, by show 1 ≤ sizeLine; decide, fun l1 n1 => ?_⟩
          generalize hG : upd Gd l1 _ = G4
          have t4 : Same Gd G4 := hG ▸ same_new n1
          have h4 := (congrFun hG l1).symm.trans upd_same
          clear hG
          refine catO (t4 _ _ hba) h4 (by rw [len_sv, pick_len (hLLn b hbm)]; have := hLLl b hbm; show _ + 1 ≤ _; omega) fun c1 G5 t5 n5 h5 => ?_
          have h5 : G5 c1 = some (.lst (sv (pickS gs (b ++ [n])))) := by rw [es]; show _ = some (HO.lst (List.map V.str _)); rw [List.map_append]; exact h5
          have t45 := t4.trans t5
          have ncD : c1 ≠ D := fun e => by rw [e, t4 _ _ hD] at n5; cases n5
          have ncu : u ≠ D := fun e => by
            have := s3 _ _ (hus.at_ j u b hu hb)
            rw [e] at this
            have h6 := same_new nD (o := .lst []) 
            have := hus.at_ j u b hu hb
            rw [e, nD] at this; cases this
          refine ⟨D, _, _, rfl, rfl, t45 _ _ hD, small_int (by rw [List.length_map, hws.len]; have := sl j m b; omega), fun x o e => by rw [upd_ne (ne_of_none e nD)]; exact t45 _ _ (s3 _ _ e), ws ++ [c1], _, rfl, by rw [upd_ne ncu]; exact t45 _ _ hba, by rw [List.map_append]; exact upd_same, ?_, ne_app hne ncD⟩
          rw [take_succ hn, List.map_append, ← List.append_assoc]
          exact ((hws.same t45).app h5).upd1 (ne_app hne ncD)
        · rintro σ G3 ⟨s3, ws, v2, rfl, _, hD, hws, hne⟩
          refine ⟨s3, ws, _, _, rfl, hD, ?_, hne⟩
          rw [take_succ hb, List.flatMap_append]
          have e : q.take (sv (pickS gs q)).length = q := by rw [len_sv, pick_len hqn, List.take_length]
          rw [e] at hws
          simpa using hws
      · rintro σ G2 ⟨s2, ws, v1, v2, rfl, hD, hws, hne⟩
        rw [List.length_map, hus.len, List.take_length] at hws
        refine ⟨_, rfl, ?_⟩
        dsimp only [tNil]
        refine ⟨D, _, rfl, .inl (SqL.of hD), fun F2 nF2 => ?_⟩
        refine ⟨(sm.trans s2).trans (same_new nF2), F2, ws, _, _, _, _, rfl, upd_same, ?_⟩
        rw [eP]
        exact hws.same (same_new nF2)
    · rintro σ G ⟨sm, F, us, u1, u2, u3, u4, rfl, hF, hus⟩
      have hus : Lg (fun L => .lst (sv (pickS gs L))) G us (prodL gi) := by
        have e := hus
        rw [List.length_map, hT.len, List.take_length] at e
        exact e
      have pl : (prodL gi).length ≤ 1024 := by have := plen gi.length; rwa [List.take_length] at this
      have hin : ∀ {c : List Nat}, c ∈ prodL gi → ∀ x ∈ c, x < gs.length := fun {c} hc => hin (k := gi.length) (by rw [List.take_length]; exact hc)
      refine ⟨_, rfl, F, rfl, ⟨_, SqL.of hF⟩, fun D2 nD2 => lc_it walk_list (fun j G2 => LcG (fun L => .lst (niv L)) G D2 (((prodL gi).take j).map srtN) G2) (lcg0 nD2) (fun j G2 _ q => SqL.of (q.1 _ _ hF)) ?_ ?_⟩
      · rintro j x Ga Gb hj q ⟨rfl, hx⟩
        obtain ⟨u, hu, rfl⟩ := refs_get hx
        obtain ⟨c, hc, hca⟩ := (hus.same q.1).get hu
        have hcm := List.mem_of_getElem? hc
        have hcn := hin hcm
        have oc := (mem_prodL _ _).mp hcm
        have cl0 : 0 < c.length := by
          rw [oc.1]
          exact List.length_pos_iff.mpr hP.some
        have CS : SqL K Gb u (sv (pickS gs c)) := SqL.of hca
        have ln := pick_len hcn
        have sG := sm.trans q.1
        refine ⟨rfl, _, rfl, u, _, rfl, .inl CS, _, _, rfl, rfl, _, rfl, ifT (decide_eq_true (by rw [len_sv, ln]; omega)) ?_⟩
        refine ⟨_, rfl, u, rfl, ⟨_, CS⟩, fun D4 nD4 => lc_it walk_list (PvS Gb D4 fun i => niv (c.take i)) (pv0 nD4 rfl) (fun i G3 _ q => q.1.seq CS) ?_ ?_⟩
        · rintro i x Gc Gd hi q2 ⟨rfl, hx⟩
          obtain ⟨z, hz, rfl⟩ := sv_get hx
          rw [pickS_map hcn, List.getElem?_map] at hz
          cases hk : c[i]? with
          | none => rw [hk] at hz; cases hz
          | some k =>
          rw [hk] at hz
          have hz : gs.getD k "" = z := Option.some.inj hz
          have hkn := hcn k (List.mem_of_getElem? hk)
          have hgk : gs[k]? = some z := by
            rw [List.getD_eq_getElem?_getD, List.getElem?_eq_getElem hkn] at hz
            rw [List.getElem?_eq_getElem hkn]; exact congrArg some hz
          have sq := sG.trans q2.1
          refine ⟨rfl, _, rfl, .inl ⟨rfl, _, sq.seq hG⟩, _, rfl, g, _, _, k, _, rfl, rfl, sq.seq hG, rfl, flat_sv _, by rw [List.getElem?_map, hgk]; rfl, by rw [eqV_str]; exact decide_eq_true rfl, fun m z' hm hz' => ?_, q2.push nD4 ?_ ?_⟩
          · obtain ⟨y, hy, rfl⟩ := sv_get hz'
            rw [eqV_str, decide_eq_false_iff_not]
            intro e
            subst e
            have e2 : gs.getD m "" = gs.getD k "" := by rw [getD_of hy, hz]
            have hml := (List.getElem?_eq_some_iff.mp hy).1
            have := getD_inj nd hml hkn e2
            omega
          · rw [take_succ hk]; exact List.map_append
          · rw [niv_len, List.length_take]; have := oc.1; omega
        rintro G3 ⟨s3', hD4⟩
        have hD4 : G3 D4 = some (.lst (ivs (iL c))) := by
          have := hD4
          dsimp only at this
          rw [len_sv, ln, List.take_length, niv_ivs] at this
          exact this
        refine ⟨D4, iL c, rfl, SqL.of hD4, fun ns p hpm hsrt np => ?_⟩
        rw [iL_le hpm hsrt]
        generalize hG : upd G3 p _ = G4
        have t4 : Same G3 G4 := hG ▸ same_new np
        have hp4 := (congrFun hG p).symm.trans upd_same
        clear hG
        have hp4 : G4 p = some (.lst (niv (srtN c))) := by rw [niv_ivs]; exact hp4
        rw [take_succ hc, List.map_append]
        refine q.push nD2 (s3'.trans t4) hp4 (fun e => ?_) (by rw [List.length_map, List.length_take]; omega)
        obtain ⟨_, us', hd', _⟩ := q
        rw [e, s3' _ _ hd'] at np; cases np
      rintro G2 ⟨s2, ws, hD2, hws, _⟩
      have hws : Lg (fun L => .lst (niv L)) G2 ws ((prodL gi).map srtN) := by
        have e := hws
        rw [List.length_map, hus.len, List.take_length] at e
        exact e
      have sb := sm.trans s2
      refine ⟨D2, ws.map V.ref, _, RvN G2, rfl, SqL.of hD2, each_of hws, rv_dp, fun ys D3 hys nD3 => ?_⟩
      rw [srtL_map, srtL_congr (grp_perm hP hM)] at hys
      obtain ⟨vs, rfl, hvs⟩ := of_each hys
      generalize hG : upd G2 D3 _ = H5
      have s5 : Same G2 H5 := hG ▸ same_new nD3
      have x5 := (congrFun hG D3).symm.trans upd_same
      clear hG
      have hvs := hvs.same s5
      have sb5 := sb.trans s5
      have clen : (srtL (progC (MM gs ps) gs.length)).length ≤ 4096 := by
        rw [(srtL_perm _).length_eq]
        unfold progC
        rw [List.length_map]; exact progM_len _ _ hl
      refine ⟨_, rfl, D3, rfl, ⟨_, SqL.of x5⟩, fun D5 nD5 => lc_it walk_list (fun i G => LcG (fun r => .tup (sv r)) H5 D5 (((srtL (progC (MM gs ps) gs.length)).take i).map (pickS gs)) G) (lcg0 nD5) (fun i G _ q => SqL.of (q.1 _ _ x5)) ?_ ?_⟩
      · rintro i x Ga Gb hi q ⟨rfl, hx⟩
        obtain ⟨u, hu, rfl⟩ := refs_get hx
        obtain ⟨L, hL, hLa⟩ := hvs.get hu
        have mx := mem_progC.mp ((srtL_perm _).mem_iff.mp (List.mem_of_getElem? hL))
        have LS : SqL K Gb u (niv L) := SqL.of (q.1 _ _ hLa)
        have sG := sb5.trans q.1
        have Ll : L.length ≤ 1000 := by
          have := nodup_leG (l := L) (m := List.range gs.length) (mx.asc.imp fun h => Nat.ne_of_lt h) fun x hx => List.mem_range.mpr (mx.lt x hx)
          rw [List.length_range] at this; omega
        refine ⟨rfl, _, rfl, u, rfl, ⟨_, LS⟩, fun D6 nD6 => lc_it walk_list (PvS Gb D6 fun j => sv (pickS gs (L.take j))) (pv0 nD6 rfl) (fun j G3 _ q2 => q2.1.seq LS) ?_ ?_⟩
        · rintro j x Gc Gd hj q2 ⟨rfl, hx⟩
          obtain ⟨n, hn, rfl⟩ := niv_get hx
          have hn2 := mx.lt n (List.mem_of_getElem? hn)
          have hc : gs[n]? = some gs[n] := List.getElem?_eq_getElem hn2
          refine ⟨rfl, _, rfl, _, rfl, g, _, _, _, rfl, rfl, (sG.trans q2.1).seq hG, atS_of hc, q2.push nD6 ?_ ?_⟩
          · rw [take_succ hn]
            show sv (pickS gs (L.take j ++ [n])) = _
            rw [pickS_snoc hc]; exact sv_snoc' _ _
          · rw [len_sv]
            have := List.length_filterMap_le (fun i => gs[i]?) (L.take j)
            rw [List.length_take] at this
            unfold pickS; omega
        rintro G3 ⟨s3', hD6⟩
        have hD6 : G3 D6 = some (.lst (sv (pickS gs L))) := by
          have := hD6
          dsimp only at this
          rw [niv_len, List.take_length] at this
          exact this
        refine ⟨D6, _, rfl, .inl ⟨SqL.of hD6, fun e ne => ?_⟩⟩
        generalize hG : upd G3 e _ = G4
        have t4 : Same G3 G4 := hG ▸ same_new ne
        have he := (congrFun hG e).symm.trans upd_same
        clear hG
        rw [take_succ hL, List.map_append]
        refine q.push nD5 (s3'.trans t4) he (fun z => ?_) (by rw [List.length_map, List.length_take]; omega)
        obtain ⟨_, us', hd', _⟩ := q
        rw [z, s3' _ _ hd'] at ne; cases ne
      rintro H6 ⟨s6, ts6, hD6, hts6, _⟩
      refine kq D5 ts6 H6 (sb5.trans s6) (none_of sb5 nD5) hD6 ?_
      have e := hts6
      rw [List.length_map, hvs.len, List.take_length] at e
      exact e
end
end My
set_option maxRecDepth 100000
set_option maxHeartbeats 4000000
set_option exponentiation.threshold 10000
namespace My
open PySem L2
open C8 (pss_cut)
structure PsGood (gs : List Str) (ps : List (List Str)) : Prop where
  two : ∀ q ∈ ps, ∃ a b, q = [a, b] ∧ a ∈ gs ∧ b ∈ gs ∧ a ≠ b
  once : ps.Pairwise fun p q => ¬ p.Perm q
theorem perm_two {a b c d : Str} (h : [a, b].Perm [c, d]) : (a = c ∧ b = d) ∨ (a = d ∧ b = c) := by
  have ha : a ∈ [c, d] := h.mem_iff.mp (by simp)
  rcases List.mem_cons.mp ha with e | e
  · subst e
    have := List.perm_singleton.mp ((List.perm_cons a).mp h).symm
    simp at this
    exact .inl ⟨rfl, this.symm⟩
  · have e := List.mem_singleton.mp e
    subst e
    have := List.perm_singleton.mp ((List.perm_cons a).mp (h.trans (List.Perm.swap a c []))).symm
    simp at this
    exact .inr ⟨rfl, this.symm⟩
theorem PrI.good {gs : List Str} {full : Bool} {c : Nat → Nat → Prop} {J I : Nat} {ps : List (List Str)} (h : PrI gs full c J I ps) (nd : gs.Nodup) : PsGood gs ps := by
  have gm : ∀ {i : Nat}, i < gs.length → gs.getD i "" ∈ gs := fun {i} hi => by rw [getD_of (List.getElem?_eq_getElem hi)]; exact List.getElem_mem hi
  refine ⟨fun q hq => ?_, ?_⟩
  · obtain ⟨i, j, _, hij, hj, _, rfl⟩ := h.of q hq
    exact ⟨_, _, rfl, gm (by omega), gm hj, fun e => by have := getD_inj nd (by omega) hj e; omega⟩
  · have n1 := h.nd
    rw [List.nodup_iff_pairwise_ne] at n1
    refine n1.imp_of_mem fun {p q} hp hq hne hpq => hne ?_
    obtain ⟨i, j, _, hij, hj, _, rfl⟩ := h.of p hp
    obtain ⟨i', j', _, hij', hj', _, rfl⟩ := h.of q hq
    rcases perm_two hpq with ⟨e1, e2⟩ | ⟨e1, e2⟩
    · rw [e1, e2]
    · have a1 := getD_inj nd (by omega) (by omega) e1
      have a2 := getD_inj nd (by omega) (by omega) e2
      omega
/-- the same pairs, some turned about -/
def Fl (told ps : List (List Str)) : Prop := told.length = ps.length ∧ ∀ (k : Nat) q p, told[k]? = some q → ps[k]? = some p → q.Perm p
def Told (told ps : List (List Str)) : Prop := ∃ ps', ps'.Perm ps ∧ Fl told ps'
theorem Fl.to {told ps : List (List Str)} (h : Fl told ps) {q : List Str} (hq : q ∈ told) : ∃ p ∈ ps, q.Perm p := by
  obtain ⟨k, hk, e⟩ := List.getElem_of_mem hq
  have hk2 : k < ps.length := by rw [← h.1]; exact hk
  exact ⟨ps[k], List.getElem_mem hk2, h.2 k q _ (by rw [List.getElem?_eq_getElem hk, e]) (List.getElem?_eq_getElem hk2)⟩
theorem Fl.fro {told ps : List (List Str)} (h : Fl told ps) {p : List Str} (hp : p ∈ ps) : ∃ q ∈ told, q.Perm p := by
  obtain ⟨k, hk, e⟩ := List.getElem_of_mem hp
  have hk2 : k < told.length := by rw [h.1]; exact hk
  exact ⟨told[k], List.getElem_mem hk2, h.2 k _ p (List.getElem?_eq_getElem hk2) (by rw [List.getElem?_eq_getElem hk, e])⟩
theorem PsGood.fl {gs : List Str} {told ps : List (List Str)} (h : PsGood gs ps) (f : Fl told ps) : PsGood gs told := by
  refine ⟨fun q hq => ?_, ?_⟩
  · obtain ⟨p, hp, hqp⟩ := f.to hq
    obtain ⟨a, b, rfl, ha, hb, hne⟩ := h.two p hp
    match q, hqp with
    | [c, d], hqp =>
      rcases perm_two hqp with ⟨e1, e2⟩ | ⟨e1, e2⟩
      · exact ⟨c, d, rfl, e1 ▸ ha, e2 ▸ hb, by rw [e1, e2]; exact hne⟩
      · exact ⟨c, d, rfl, e1 ▸ hb, e2 ▸ ha, by rw [e1, e2]; exact fun z => hne z.symm⟩
    | [], hqp => exact absurd hqp.length_eq (by simp)
    | [c], hqp => exact absurd hqp.length_eq (by simp)
    | c :: d :: e :: t, hqp => exact absurd hqp.length_eq (by simp)
  · have o := h.once
    rw [List.pairwise_iff_getElem] at o ⊢
    intro i j hi hj hij hpq
    have hi2 : i < ps.length := by rw [← f.1]; exact hi
    have hj2 : j < ps.length := by rw [← f.1]; exact hj
    have p1 := f.2 i _ _ (List.getElem?_eq_getElem hi) (List.getElem?_eq_getElem hi2)
    have p2 := f.2 j _ _ (List.getElem?_eq_getElem hj) (List.getElem?_eq_getElem hj2)
    exact o i j hi2 hj2 hij (p1.symm.trans (hpq.trans p2))
theorem PsGood.perm {gs : List Str} {told ps : List (List Str)} (h : PsGood gs ps) (f : told.Perm ps) : PsGood gs told :=
  ⟨fun q hq => h.two q (f.mem_iff.mp hq), h.once.perm f.symm fun h z => h z.symm⟩
theorem PsGood.told {gs : List Str} {told ps : List (List Str)} (h : PsGood gs ps) (t : Told told ps) : PsGood gs told := let ⟨_, a, b⟩ := t; (h.perm a).fl b
theorem met_iff {ps : List (List Str)} (h : ∀ q ∈ ps, q.length = 2) {a b : Str} : metB ps a b = true ↔ ∃ q ∈ ps, q.Perm [a, b] := by
  unfold metB
  rw [Bool.or_eq_true, decide_eq_true_iff, decide_eq_true_iff]
  constructor
  · rintro (q | q)
    · exact ⟨_, q, .refl _⟩
    · exact ⟨_, q, .swap _ _ _⟩
  · rintro ⟨q, hq, hp⟩
    match q, h q hq with
    | [c, d], _ =>
      rcases perm_two hp with ⟨e1, e2⟩ | ⟨e1, e2⟩
      · subst e1 e2; exact .inl hq
      · subst e1 e2; exact .inr hq
theorem met_told {gs : List Str} {told ps : List (List Str)} (h : PsGood gs ps) (t : Told told ps) (a b : Str) : metB told a b = metB ps a b := by
  have len2 : ∀ {l : List (List Str)}, PsGood gs l → ∀ q ∈ l, q.length = 2 := fun hl q hq => by
    obtain ⟨a, b, rfl, _⟩ := hl.two q hq; rfl
  rw [Bool.eq_iff_iff, met_iff (len2 (h.told t)), met_iff (len2 h)]
  obtain ⟨ps', p1, f⟩ := t
  constructor
  · rintro ⟨q, hq, hp⟩
    obtain ⟨p, hp2, hqp⟩ := f.to hq
    exact ⟨p, p1.mem_iff.mp hp2, hqp.symm.trans hp⟩
  · rintro ⟨p, hp, hp2⟩
    obtain ⟨q, hq, hqp⟩ := f.fro (p1.mem_iff.mpr hp)
    exact ⟨q, hq, hqp.trans hp2⟩
theorem PsGood.ok {gs : List Str} {ps : List (List Str)} (h : PsGood gs ps) {i : Nat} (hi : i < ps.length) : okPair gs ps i := by
  intro p hp
  obtain ⟨a, b, rfl, ha, hb, hne⟩ := h.two p (List.mem_of_getElem? hp)
  refine ⟨rfl, stray_none_iff.mpr ⟨fun x hx => ?_, by simp [hne]⟩, fun q hq hqp => ?_⟩
  · rcases List.mem_cons.mp hx with e | hx
    · rw [e]; exact ha
    · rw [List.mem_singleton.mp hx]; exact hb
  · obtain ⟨m, hm, em⟩ := List.getElem_of_mem hq
    rw [List.length_take] at hm
    rw [List.getElem_take] at em
    have o := h.once
    rw [List.pairwise_iff_getElem] at o
    refine o m i (by omega) hi (by omega) ?_
    rw [em]
    rw [List.getElem?_eq_getElem hi] at hp
    rw [Option.some.inj hp]; exact hqp
/-- the pairs of addresses in another sequence -/
def rOf (H : Hp) (t : Addr) : List Str := match H t with
  | some (.tup xs) => xs.map fun v => match v with | .str s => s | _ => ""
  | _ => []
theorem rOf_is {H : Hp} {t : Addr} {r : List Str} (h : H t = some (.tup (sv r))) : rOf H t = r := by
  unfold rOf
  rw [h]
  show (sv r).map _ = r
  unfold sv
  rw [List.map_map]
  exact List.map_id'' (fun _ => rfl) r
theorem Lss.rOf {H : Hp} {ts : List Addr} {rs : List (List Str)} (h : Lss .tup H ts rs) : rs = ts.map (rOf H) := by
  refine List.ext_getElem? fun i => ?_
  rw [List.getElem?_map]
  by_cases hi : i < rs.length
  · have hi2 : i < ts.length := by rw [h.len]; exact hi
    rw [List.getElem?_eq_getElem hi, List.getElem?_eq_getElem hi2]
    exact congrArg some (rOf_is (h.at_ i _ _ (List.getElem?_eq_getElem hi2) (List.getElem?_eq_getElem hi))).symm
  · rw [List.getElem?_eq_none (by omega), List.getElem?_eq_none (by rw [h.len]; omega)]; rfl
theorem Lss.permA {H : Hp} {ts os : List Addr} {rs : List (List Str)} (h : Lss .tup H ts rs) (p : os.Perm ts) : ∃ qs, qs.Perm rs ∧ Lss .tup H os qs := by
  refine ⟨os.map (My.rOf H), by rw [h.rOf]; exact p.map _, by rw [List.length_map], fun i t r a b => ?_⟩
  rw [List.getElem?_map, a] at b
  cases b
  obtain ⟨j, hj, e⟩ := List.getElem_of_mem (p.mem_iff.mp (List.mem_of_getElem? a))
  have hj2 : j < rs.length := by rw [← h.len]; exact hj
  have := h.at_ j t _ (by rw [List.getElem?_eq_getElem hj, e]) (List.getElem?_eq_getElem hj2)
  rw [rOf_is this]; exact this
section
variable {P : Program} {w : World} {K : PySem.W.Frag} {mg : Str → Option Value} {base : Heap} {A : Ad}
def spTold (K : PySem.W.Frag) : Sp := fun vs H Q E => ∃ (D p s2 : Addr) (ts : List Addr) (ps : List (List Str)) (xs ys : List Int), vs = [.ref D, .ref p, .ref s2] ∧ SqL K H D (ts.map V.ref) ∧ Lss .tup H ts ps ∧ (∀ q ∈ ps, ∃ a b, q = [a, b]) ∧ ps.length ≤ 60 ∧ SqL K H p (ivs xs) ∧ SqL K H s2 (ivs ys) ∧ xs.length = 60 ∧ ys.length = 60 ∧
  ∀ R us told H', Same H H' → H R = none → H' R = some (.lst (us.map V.ref)) → Lss .tup H' us told → Told told ps → Q (.ref R) H'
theorem ok_told (T : Txt P K mg A) : FnOk P w K mg base CX0 2 A.a_law_told_pairs A.d_law_told_pairs ["pairs", "pool", "second"] (spTold K) := by
  have G_law_order := ok_orderF V.ref (P := P) (w := w) (base := base) T
  refine T.F_law_told_pairs.ok sc_law_told_pairs (fun vs H Q E h => ?_) (fun cdv A' outer s H vs Q E hr h => ?_)
  · obtain ⟨D, p, s2, ts, ps, xs, ys, rfl, _⟩ := h
    rfl
  · obtain ⟨D, p, s2, ts, ps, xs, ys, rfl, hD, hT, h2, hl, hP, hS, lx, ly, kq⟩ := h
    refine ⟨_, (pss_cons (ps_set (i := 3) sc_law_told_pairs.nd rfl (Or.inl rfl) (pe_lst pa_nil))
      (pss_cons (ps_for PassesOwn.never rfl (pi_list (pe_call G_law_order (hr.mono (by decide)) rfl T.mg_law_order T.F_law_order.kp T.b_law_order .nil pass0 (pa_cons (pv 0) (pa_cons (pv 1) (pa_cons pe_int pa_nil))))) (pg_name (i := 4) sc_law_told_pairs.nd rfl (Or.inl rfl))
        (pss_cons (ps_if (pt_cmpR op_eq (pe_op op_mod (pe_callTy call_int1 (by rfl) T.n_int (by decide +kernel) (pa_cons (pe_ix ix_list (pv 2) (pe_callB call_len_seq (by rfl) T.n_len (by decide +kernel) (pa_cons (pv 3) pa_nil)) (fun _ _ => rfl)) pa_nil)) pe_int) pe_int (nomark _)) (pss_one (ps_set (i := 4) sc_law_told_pairs.nd rfl (Or.inl rfl) (pe_tup (pa_cons (pe_ix ix_tup (pv 4) pe_int (fun _ _ => rfl)) (pa_cons (pe_ix ix_tup (pv 4) pe_int (fun _ _ => rfl)) pa_nil))))) pss_nil)
      (pss_one (ps_expr (pe_bm PySem.F.plainAttrs_list PySem.F.slot_list_append PySem.F.type_list_append mt_append (pv 3) (pa_cons (pv 4) pa_nil))))))
      (pss_one (ps_ret (pv 3))))), ?_⟩
    refine ⟨by show 0 ≤ sizeLine; decide, fun R nR => ?_⟩
    generalize hG : upd H R _ = H1
    have s1 : Same H H1 := hG ▸ same_new nR
    have hR := (congrFun hG R).symm.trans upd_same
    clear hG
    refine ⟨_, rfl, _, rfl, D, p, ts, xs, 0, rfl, s1.seq hD, s1.seq hP, by rw [hT.len]; exact hl, by decide, by rw [hT.len]; omega, fun o os H2 t2 no ho hop => ?_⟩
    obtain ⟨qs, qp, hqs⟩ := (hT.same (s1.trans t2)).permA hop
    have s12 := s1.trans t2
    have ho : H2 o = some (.lst (os.map V.ref)) := ho
    have hR1 := hR
    have hR := t2 _ _ hR
    have hR0 := hR
    have ql : qs.length ≤ 60 := by rw [qp.length_eq]; exact hl
    have hol : ∀ {G : Hp}, (∀ b u, b ≠ R → H2 b = some u → G b = some u) → G o = some (.lst (os.map V.ref)) := fun h => h o _ (fun e => by rw [e, hR1] at no; cases no) ho
    refine ⟨o, rfl, ⟨_, SqL.of ho⟩, for_it walk_list (fun j σ G => (∀ b u, b ≠ R → H2 b = some u → G b = some u) ∧ ∃ (us : List Addr) (told : List (List Str)) (u1 : Option V), σ = [some (.ref D), some (.ref p), some (.ref s2), some (.ref R), u1] ∧ G R = some (.lst (us.map V.ref)) ∧ Lss .tup G us told ∧ told.length = j ∧ ∀ (k : Nat) q p, told[k]? = some q → qs[k]? = some p → q.Perm p) ⟨fun b u _ e => e, [], [], none, rfl, hR, Lss.nil, rfl, fun k q p h => by simp at h⟩ (fun j σ G _ q => SqL.of (hol q.1)) ?_ ?_⟩
    · rintro j x σ Ga G hj ⟨sm, us, told, u1, rfl, hR, hus, htl, hfl⟩ ⟨rfl, hx⟩
      obtain ⟨t, ht, rfl⟩ := refs_get hx
      obtain ⟨q, hq, hqa⟩ := hqs.get ht
      obtain ⟨a, b, rfl⟩ := h2 q (qp.mem_iff.mp (List.mem_of_getElem? hq))
      have sH : Same H G := fun b u e => sm b u (fun z => by rw [z, nR] at e; cases e) (s12 _ _ e)
      have hqG : G t = some (.tup (sv [a, b])) := sm t _ (fun z => by rw [z, hR0] at hqa; cases hqa) hqa
      have hjl : j < qs.length := (List.getElem?_eq_some_iff.mp hq).1
      obtain ⟨y0, hy0, e0⟩ := atI_ok (xs := ys) (j := (j : Int)) (by omega) (by omega)
      have ulen : (us.map V.ref).length = j := by rw [List.length_map, hus.len, htl]
      have fin : ∀ (G2 : Hp) (t' : Addr) (q' : List Str) (v : Option V), Same G G2 → G2 t' = some (.tup (sv q')) → q'.Perm [a, b] → ∀ acc, acc = us.map V.ref → (∀ b u, b ≠ R → H2 b = some u → upd G2 R (.lst (acc ++ [V.ref t'])) b = some u) ∧ ∃ (us : List Addr) (told : List (List Str)) (u1 : Option V), [some (.ref D), some (.ref p), some (.ref s2), some (.ref R), v] = [some (.ref D), some (.ref p), some (.ref s2), some (.ref R), u1] ∧ upd G2 R (.lst (acc ++ [V.ref t'])) R = some (.lst (us.map V.ref)) ∧ Lss .tup (upd G2 R (.lst (acc ++ [V.ref t']))) us told ∧ told.length = j + 1 ∧ ∀ (k : Nat) q p, told[k]? = some q → qs[k]? = some p → q.Perm p := fun G2 t' q' v sG h' hp' acc ea => by
        subst ea
        refine ⟨fun b u hb e => by rw [upd_ne hb]; exact sG _ _ (sm b u hb e), us ++ [t'], told ++ [q'], v, rfl, by rw [List.map_append]; exact upd_same, ((hus.same sG).app h').updT (sG _ _ hR) (fun xs z => nomatch z), by rw [List.length_append, htl]; rfl, fun k q p e1 e2 => ?_⟩
        by_cases hk : k < told.length
        · rw [List.getElem?_append_left hk] at e1
          exact hfl k q p e1 e2
        · have hk2 := (List.getElem?_eq_some_iff.mp e1).1
          rw [List.length_append] at hk2
          have : k = told.length := by simp at hk2; omega
          subst this
          rw [List.getElem?_append_right (Nat.le_refl _)] at e1
          simp at e1
          subst e1
          rw [htl, hq] at e2; cases e2
          exact hp'
      refine ⟨_, rfl, _, rfl, R, _, rfl, .inl (SqL.of hR), s2, _, _, _, rfl, rfl, sH.seq hS, by rw [ulen]; exact e0, .inl ⟨_, rfl, _, _, rfl, rfl, by show (0 : Int) < 2; decide, rfl, _, rfl, ite2 (fun hb => ?_) (fun hb => ?_)⟩⟩
      · refine ⟨_, rfl, t, _, _, _, rfl, rfl, SqT.of hqG, rfl, _, rfl, t, _, _, _, rfl, rfl, SqT.of hqG, rfl, by show 2 ≤ sizeLine; decide, fun t3 n3 => ?_⟩
        generalize hG : upd G t3 _ = G3
        have s3 : Same G G3 := hG ▸ same_new n3
        have h3 := (congrFun hG t3).symm.trans upd_same
        clear hG
        refine ⟨_, rfl, .inl ⟨rfl, _, SqL.of (s3 _ _ hR)⟩, _, rfl, R, _, _, rfl, rfl, s3 _ _ hR, small_int (by omega), ?_⟩
        exact fin G3 t3 [b, a] _ s3 h3 (.swap _ _ _) _ rfl
      · refine ⟨_, rfl, .inl ⟨rfl, _, SqL.of hR⟩, _, rfl, R, _, _, rfl, rfl, hR, small_int (by omega), ?_⟩
        exact fin G t [a, b] _ (Same.refl _) hqG (.refl _) _ rfl
    · rintro σ G ⟨sm, us, told, u1, rfl, hR, hus, htl, hfl⟩
      have sH : Same H G := fun b u e => sm b u (fun z => by rw [z, nR] at e; cases e) (s12 _ _ e)
      refine ⟨_, rfl, kq R us told G sH nR hR hus ⟨qs, qp, ?_, hfl⟩⟩
      rw [htl, List.length_map, hqs.len]
end
end My
set_option maxRecDepth 100000
set_option maxHeartbeats 4000000
set_option exponentiation.threshold 10000
namespace My
open PySem L2
open C8 (pss_cut)
section
variable {P : Program} {w : World} {K : PySem.W.Frag} {mg : Str → Option Value} {base : Heap} {A : Ad}
def spUnk (C : Addr) : Sp := fun vs H Q E => ∃ (p : Addr) (a b z : Str) (gs : List Str) (ps : List (List Str)), vs = [.ref p, .str a, .str b] ∧ Mt C H p gs ps ∧ Okz a ∧ Okz b ∧ a.length ≤ 1000 ∧ b.length ≤ 1000 ∧ (∀ q ∈ ps, ∀ z ∈ q, Okz z) ∧ ((z = a ∧ a ∉ gs) ∨ (z = b ∧ a ∈ gs ∧ b ∉ gs)) ∧
  ∀ (t l : Addr) H', Same H H' → H' t = some (.tup [.str z, .ref l]) → H' l = some (.lst [.bl true, .bl true, .bl false]) → Q (.ref t) H'
theorem ok_unk (T : Txt P K mg A) : FnOk P w K mg base CX0 4 A.a_law_unknown A.d_law_unknown ["meetings", "one", "other"] (spUnk A.C_Meetings) := by
  have GX_Meetings_met := ok_metX (P := P) (w := w) (base := base) T
  refine T.F_law_unknown.ok sc_law_unknown (fun vs H Q E h => ?_) (fun cdv A' outer s H vs Q E hr h => ?_)
  · obtain ⟨p, a, b, z, gs, ps, rfl, _⟩ := h
    rfl
  · obtain ⟨p, a, b, z, gs, ps, rfl, hM, oa, ob, la, lb, op, hz, kq⟩ := h
    refine ⟨_, (pss_cons (ps_set (i := 3) sc_law_unknown.nd rfl (Or.inl rfl) (pe_tup (pa_cons pe_str (pa_cons (pe_lst pa_nil) pa_nil))))
      (pss_cons (ps_try_as (i := 4) (Wout := fun _ _ _ _ => False) rfl rfl sc_law_unknown.nd rfl rfl ⟨rfl, by decide, .inl T.mg_UnknownGuest⟩ takes0 (fun W pn xe tk _ => (pss_one (ps_expr (pe_methE (pv 0) T.cl_Meetings T.m_Meetings_met GX_Meetings_met (hr.mono (by decide)) T.b_Meetings_met (fun σ => passAt tk σ) (pa_cons (pv 1) (pa_cons (pv 2) pa_nil)))))) (fun a oe cls d pn hz hf => (pss_one (ps_set (i := 3) sc_law_unknown.nd rfl (Or.inl rfl) (pe_tup (pa_cons (pe_xf T.xf_UnknownGuest T.xn_UnknownGuest_name hz hf (pv 4)) (pa_cons (pe_lst (pa_cons (pe_callB (call_isExD hz hf) (by rfl) T.n_isinstance (by decide +kernel) (pa_cons (pv 4) (pa_cons (pe_glob (v := .ref A.C_RowsError) rfl T.mg_RowsError rfl) pa_nil))) (pa_cons (pe_callB (call_isExD hz hf) (by rfl) T.n_isinstance (by decide +kernel) (pa_cons (pv 4) (pa_cons (pe_glob (v := .ref A.C_Unknown) rfl T.mg_Unknown rfl) pa_nil))) (pa_cons (pe_callB (call_isExD hz hf) (by rfl) T.n_isinstance (by decide +kernel) (pa_cons (pv 4) (pa_cons (pe_glob (v := .ref A.C_Impossible) rfl T.mg_Impossible rfl) pa_nil))) pa_nil)))) pa_nil)))))))
      (pss_one (ps_ret (pv 3))))), ?_⟩
    refine ⟨by show 0 ≤ sizeLine; decide, fun l0 n0 => ?_⟩
    generalize hG : upd H l0 _ = H1
    have s1 : Same H H1 := hG ▸ same_new n0
    have h1 := (congrFun hG l0).symm.trans upd_same
    clear hG
    refine ⟨by show 2 ≤ sizeLine; decide, fun t0 m0 => ?_⟩
    generalize hG : upd H1 t0 _ = H2
    have s2 : Same H1 H2 := hG ▸ same_new m0
    have h2 := (congrFun hG t0).symm.trans upd_same
    clear hG
    have hM := hM.same (s1.trans s2)
    have hM0 := hM
    obtain ⟨dx, gt, pt, ts, e1, _⟩ := hM
    have s12 := s1.trans s2
    refine ⟨_, rfl, p, dx, _, rfl, e1, fldsM_met gt pt, _, rfl, _, rfl, p, a, b, gs, ps, rfl, hM0, oa, ob, la, lb, op, fun ha hb => ?_, fun z' hz' d H6 s6 hd => ?_⟩
    · rcases hz with ⟨_, h⟩ | ⟨_, _, h⟩
      · exact absurd ha h
      · exact absurd hb h
    have ez : z' = z := by
      rcases hz with ⟨h1, h2⟩ | ⟨h1, h2, h3⟩ <;> rcases hz' with ⟨g1, g2⟩ | ⟨g1, g2, g3⟩
      · rw [h1, g1]
      · exact absurd g2 h2
      · exact absurd h2 g2
      · rw [h1, g1]
    subst ez
    refine ⟨true, exm_self T.bp_UnknownGuest T.ic_UnknownGuest T.tp_UnknownGuest T.ss_UnknownGuest, fun _ e he => ?_, fun q => nomatch q⟩
    have hne : A.C_UnknownGuest ≠ A.C_Impossible := fun e => by
      have z := T.su_UnknownGuest_Impossible
      rw [← e, T.ss_UnknownGuest] at z; cases z
    have k1 : PySem.W.kitOne K (.ref A.C_UnknownGuest) (.ref A.C_RowsError) = some true := kit_own T.ic_RowsError T.tp_RowsError T.su_UnknownGuest_RowsError (.inr rfl)
    have k3 : PySem.W.kitOne K (.ref A.C_UnknownGuest) (.ref A.C_Unknown) = some true := kit_own T.ic_Unknown T.tp_Unknown T.su_UnknownGuest_Unknown (.inr rfl)
    have k4 : PySem.W.kitOne K (.ref A.C_UnknownGuest) (.ref A.C_Impossible) = some false := kit_own T.ic_Impossible T.tp_Impossible T.su_UnknownGuest_Impossible (.inl hne)
    refine ⟨_, rfl, rfl, rfl, d, _, _, rfl, hd, rfl, ?_⟩
    refine ⟨_, rfl, _, _, _, rfl, rfl, hd, T.ec_UnknownGuest, _, _, true, rfl, fun _ h => h, k1, ?_⟩
    refine ⟨_, rfl, _, _, _, rfl, rfl, hd, T.ec_UnknownGuest, _, _, true, rfl, fun _ h => h, k3, ?_⟩
    refine ⟨_, rfl, _, _, _, rfl, rfl, hd, T.ec_UnknownGuest, _, _, false, rfl, fun _ h => h, k4, ?_⟩
    refine ⟨by show 3 ≤ sizeLine; decide, fun l3 n3 => ?_⟩
    generalize hG : upd H6 l3 _ = H7
    have s7 : Same H6 H7 := hG ▸ same_new n3
    have h7 := (congrFun hG l3).symm.trans upd_same
    clear hG
    refine ⟨by show 2 ≤ sizeLine; decide, fun t3 m3 => ?_⟩
    generalize hG : upd H7 t3 _ = H8
    have s8 : Same H7 H8 := hG ▸ same_new m3
    have h8 := (congrFun hG t3).symm.trans upd_same
    clear hG
    exact ⟨_, rfl, kq t3 l3 H8 (s12.trans (s6.trans (s7.trans s8))) h8 (s8 _ _ h7)⟩
/-- what is wrong with guests and pairs -/
def BadM (gs : List Str) (ps : List (List Str)) (pt : Str) (i : Nat) : Prop := guestFault gs = some (pt, i) ∨ (guestFault gs = none ∧ pt = "pair" ∧ i < ps.length ∧ (∀ j, j < i → okPair gs ps j) ∧ ¬ okPair gs ps i)
def spRef (K : PySem.W.Frag) : Sp := fun vs H Q E => ∃ (g r : Addr) (gs : List Str) (ts : List Addr) (ps : List (List Str)) (pt : Str) (i : Nat), vs = [.ref g, .ref r] ∧ SqL K H g (sv gs) ∧ SqL K H r (ts.map V.ref) ∧ Lss .tup H ts ps ∧ (∀ z ∈ gs, z.length ≤ 1000) ∧ gs.length ≤ 1000 ∧ ps.length ≤ 1000 ∧ (∀ q ∈ ps, q.length ≤ 20 ∧ ∀ z ∈ q, Okz z) ∧ BadM gs ps pt i ∧
  ∀ (t l : Addr) H', Same H H' → H' t = some (.tup [.str pt, .int (i : Nat), .ref l]) → H' l = some (.lst [.bl true, .bl false, .bl false]) → Q (.ref t) H'
theorem ok_ref (T : Txt P K mg A) : FnOk P w K mg base CX0 8 A.a_law_refused A.d_law_refused ["guests", "pairs"] (spRef K) := by
  have GX_Meetings_init := ok_mk (P := P) (w := w) (base := base) T
  refine T.F_law_refused.ok sc_law_refused (fun vs H Q E h => ?_) (fun cdv A' outer s H vs Q E hr h => ?_)
  · obtain ⟨g, r, gs, ts, ps, pt, i, rfl, _⟩ := h
    rfl
  · obtain ⟨g, r, gs, ts, ps, pt, i, rfl, hG, hR, hT, hgz, hgl, hpl, hpz, hb, kq⟩ := h
    refine ⟨_, (pss_cons (ps_set (i := 2) sc_law_refused.nd rfl (Or.inl rfl) (pe_tup (pa_cons pe_str (pa_cons pe_non (pa_cons (pe_lst pa_nil) pa_nil)))))
      (pss_cons (ps_try_as (i := 3) (Wout := fun _ _ _ _ => False) rfl rfl sc_law_refused.nd rfl rfl ⟨rfl, by decide, .inl T.mg_BadMeetings⟩ takes0 (fun W pn xe tk _ => (pss_one (ps_expr (pe_makeS T.mk_Meetings GX_Meetings_init (hr.mono (by decide)) rfl T.mg_Meetings T.b_Meetings_init (fun σ => passAt tk σ) (pa_cons (pe_callTy (show CallR _ _ (rListOf K) from call_list_of) (by rfl) T.n_list (by decide +kernel) (pa_cons (pv 0) pa_nil)) (pa_cons (pe_callTy (show CallR _ _ (rListOf K) from call_list_of) (by rfl) T.n_list (by decide +kernel) (pa_cons (pv 1) pa_nil)) pa_nil)))))) (fun a oe cls d pn hz hf => (pss_one (ps_set (i := 2) sc_law_refused.nd rfl (Or.inl rfl) (pe_tup (pa_cons (pe_xf T.xf_BadMeetings T.xn_BadMeetings_part hz hf (pv 3)) (pa_cons (pe_xf T.xf_BadMeetings T.xn_BadMeetings_index hz hf (pv 3)) (pa_cons (pe_lst (pa_cons (pe_callB (call_isExD hz hf) (by rfl) T.n_isinstance (by decide +kernel) (pa_cons (pv 3) (pa_cons (pe_glob (v := .ref A.C_RowsError) rfl T.mg_RowsError rfl) pa_nil))) (pa_cons (pe_callB (call_isExD hz hf) (by rfl) T.n_isinstance (by decide +kernel) (pa_cons (pv 3) (pa_cons (pe_glob (v := .ref A.C_Unknown) rfl T.mg_Unknown rfl) pa_nil))) (pa_cons (pe_callB (call_isExD hz hf) (by rfl) T.n_isinstance (by decide +kernel) (pa_cons (pv 3) (pa_cons (pe_glob (v := .ref A.C_Impossible) rfl T.mg_Impossible rfl) pa_nil))) pa_nil)))) pa_nil))))))))
      (pss_one (ps_ret (pv 2))))), ?_⟩
    refine ⟨by show 0 ≤ sizeLine; decide, fun l0 n0 => ?_⟩
    generalize hG : upd H l0 _ = H1
    have s1 : Same H H1 := hG ▸ same_new n0
    have h1 := (congrFun hG l0).symm.trans upd_same
    clear hG
    refine ⟨by show 3 ≤ sizeLine; decide, fun t0 m0 => ?_⟩
    generalize hG : upd H1 t0 _ = H2
    have s2 : Same H1 H2 := hG ▸ same_new m0
    have h2 := (congrFun hG t0).symm.trans upd_same
    clear hG
    have s12 := s1.trans s2
    refine ⟨_, rfl, ?_⟩
    dsimp only [tNil]
    refine ⟨g, _, rfl, .inl (s12.seq hG), fun l1 n1 => ?_⟩
    generalize hG : upd H2 l1 _ = H3
    have s3 : Same H2 H3 := hG ▸ same_new n1
    have x3 := (congrFun hG l1).symm.trans upd_same
    clear hG
    refine ⟨_, rfl, ?_⟩
    dsimp only [tNil]
    refine ⟨r, _, rfl, .inl ((s12.trans s3).seq hR), fun l2 n2 => ?_⟩
    generalize hG : upd H3 l2 _ = H4
    have s4 : Same H3 H4 := hG ▸ same_new n2
    have x4 := (congrFun hG l2).symm.trans upd_same
    clear hG
    have s14 := s12.trans (s3.trans s4)
    intro x dx hx hdx hne
    have q1 := same_new (o := .own x) hdx
    have hx1 : upd H4 dx (.own x) x = none := by rw [upd_ne hne.symm]; exact hx
    have q2 : Same H4 (upd (upd H4 dx (.own x)) x (.ins A.C_Meetings dx [])) := q1.trans (same_new hx1)
    have s5 := s14.trans q2
    have hTT : LsT (upd (upd H4 dx (.own x)) x (.ins A.C_Meetings dx [])) ts ps := ⟨hT.len, fun i t r a b => .inr (s5 _ _ (hT.at_ i t r a b))⟩
    have hne2 : A.C_BadMeetings ≠ A.C_Unknown ∧ A.C_BadMeetings ≠ A.C_Impossible := by
      refine ⟨fun e => ?_, fun e => ?_⟩
      · have z := T.su_BadMeetings_Unknown
        rw [← e, T.ss_BadMeetings] at z; cases z
      · have z := T.su_BadMeetings_Impossible
        rw [← e, T.ss_BadMeetings] at z; cases z
    have k1 : PySem.W.kitOne K (.ref A.C_BadMeetings) (.ref A.C_RowsError) = some true := kit_own T.ic_RowsError T.tp_RowsError T.su_BadMeetings_RowsError (.inr rfl)
    have k3 : PySem.W.kitOne K (.ref A.C_BadMeetings) (.ref A.C_Unknown) = some false := kit_own T.ic_Unknown T.tp_Unknown T.su_BadMeetings_Unknown (.inl hne2.1)
    have k4 : PySem.W.kitOne K (.ref A.C_BadMeetings) (.ref A.C_Impossible) = some false := kit_own T.ic_Impossible T.tp_Impossible T.su_BadMeetings_Impossible (.inl hne2.2)
    refine ⟨x, l1, l2, dx, gs, ts, ps, rfl, upd_same, .inl (q2 _ _ (s4 _ _ x3)), q2 _ _ x4, hTT, fun z hz => Nat.le_trans (hgz z hz) (by decide), hgl, hpl, hpz, fun h0 hp0 => ?_, fun pt' i' hb' d H6 s6 hd => ?_, fun i' h0 hi' hj' hn' d H6 s6 hd => ?_⟩
    · rcases hb with h | ⟨_, _, hi, _, h⟩
      · rw [h0] at h; cases h
      · exact absurd (hp0 i hi) h
    · have e : pt' = pt ∧ i' = i := by
        rcases hb with h | ⟨h, _⟩
        · rw [hb'] at h; cases h; exact ⟨rfl, rfl⟩
        · rw [hb'] at h; cases h
      obtain ⟨rfl, rfl⟩ := e
      refine ⟨true, exm_self T.bp_BadMeetings T.ic_BadMeetings T.tp_BadMeetings T.ss_BadMeetings, fun _ e he => ?_, fun q => nomatch q⟩
      refine ⟨_, rfl, rfl, rfl, d, _, _, rfl, hd, rfl, ?_⟩
      refine ⟨_, rfl, rfl, rfl, d, _, _, rfl, hd, rfl, ?_⟩
      refine ⟨_, rfl, _, _, _, rfl, rfl, hd, T.ec_BadMeetings, _, _, true, rfl, fun _ h => h, k1, ?_⟩
      refine ⟨_, rfl, _, _, _, rfl, rfl, hd, T.ec_BadMeetings, _, _, false, rfl, fun _ h => h, k3, ?_⟩
      refine ⟨_, rfl, _, _, _, rfl, rfl, hd, T.ec_BadMeetings, _, _, false, rfl, fun _ h => h, k4, ?_⟩
      refine ⟨by show 3 ≤ sizeLine; decide, fun l3 n3 => ?_⟩
      generalize hG : upd H6 l3 _ = H7
      have s7 : Same H6 H7 := hG ▸ same_new n3
      have h7 := (congrFun hG l3).symm.trans upd_same
      clear hG
      refine ⟨by show 3 ≤ sizeLine; decide, fun t3 m3 => ?_⟩
      generalize hG : upd H7 t3 _ = H8
      have s8 : Same H7 H8 := hG ▸ same_new m3
      have h8 := (congrFun hG t3).symm.trans upd_same
      clear hG
      exact ⟨_, rfl, kq t3 l3 H8 (s5.trans (s6.trans (s7.trans s8))) h8 (s8 _ _ h7)⟩
    · have e : pt = "pair" ∧ i' = i := by
        rcases hb with h | ⟨_, h1, hi, hj, hn⟩
        · rw [h0] at h; cases h
        · refine ⟨h1, ?_⟩
          rcases Nat.lt_trichotomy i' i with q | q | q
          · exact absurd (hj i' q) hn'
          · exact q
          · exact absurd (hj' i q) hn
      obtain ⟨rfl, rfl⟩ := e
      refine ⟨true, exm_self T.bp_BadMeetings T.ic_BadMeetings T.tp_BadMeetings T.ss_BadMeetings, fun _ e he => ?_, fun q => nomatch q⟩
      refine ⟨_, rfl, rfl, rfl, d, _, _, rfl, hd, rfl, ?_⟩
      refine ⟨_, rfl, rfl, rfl, d, _, _, rfl, hd, rfl, ?_⟩
      refine ⟨_, rfl, _, _, _, rfl, rfl, hd, T.ec_BadMeetings, _, _, true, rfl, fun _ h => h, k1, ?_⟩
      refine ⟨_, rfl, _, _, _, rfl, rfl, hd, T.ec_BadMeetings, _, _, false, rfl, fun _ h => h, k3, ?_⟩
      refine ⟨_, rfl, _, _, _, rfl, rfl, hd, T.ec_BadMeetings, _, _, false, rfl, fun _ h => h, k4, ?_⟩
      refine ⟨by show 3 ≤ sizeLine; decide, fun l3 n3 => ?_⟩
      generalize hG : upd H6 l3 _ = H7
      have s7 : Same H6 H7 := hG ▸ same_new n3
      have h7 := (congrFun hG l3).symm.trans upd_same
      clear hG
      refine ⟨by show 3 ≤ sizeLine; decide, fun t3 m3 => ?_⟩
      generalize hG : upd H7 t3 _ = H8
      have s8 : Same H7 H8 := hG ▸ same_new m3
      have h8 := (congrFun hG t3).symm.trans upd_same
      clear hG
      exact ⟨_, rfl, kq t3 l3 H8 (s5.trans (s6.trans (s7.trans s8))) h8 (s8 _ _ h7)⟩
end
end My
set_option maxRecDepth 100000
set_option maxHeartbeats 4000000
set_option exponentiation.threshold 10000
namespace My
open PySem L2
open C8 (pss_cut)
section
variable {P : Program} {w : World} {K : PySem.W.Frag} {mg : Str → Option Value} {base : Heap} {A : Ad}
theorem Txt.ko_selfT (T : Txt P K mg A) : PySem.W.kitOne K (.ref A.C_Table) (.ref A.C_Table) = some true := by
  unfold PySem.W.kitOne
  rw [if_pos (by simp)]
theorem Txt.tyT (T : Txt P K mg A) {H : Hp} {p dx : Addr} {fs : List (Str × V)} (h : H p = some (.ins A.C_Table dx fs)) : TyX K H (.ref p) (.ref A.C_Table) :=
  .base (.ins h T.cl_Table T.c1_Table T.c2 T.c4 T.c3_Table)
abbrev tupS (r : List Str) : HO := .tup (sv r)
theorem Lg.lss {H : Hp} {ts : List Addr} {rs : List (List Str)} (h : Lg (fun r => .tup (sv r)) H ts rs) : Lss .tup H ts rs := ⟨h.len, h.at_⟩
theorem Lss.lg {H : Hp} {ts : List Addr} {rs : List (List Str)} (h : Lss .tup H ts rs) : Lg (fun r => .tup (sv r)) H ts rs := ⟨h.len, h.at_⟩
theorem Lg.ex {α : Type} {f : α → HO} {H : Hp} {us : List Addr} {xs : List α} (h : Lg f H us xs) {i : Nat} (hi : i < xs.length) : ∃ u x, us[i]? = some u ∧ xs[i]? = some x ∧ H u = some (f x) := by
  have hi' : i < us.length := by rw [h.len]; exact hi
  exact ⟨us[i], xs[i], List.getElem?_eq_getElem hi', List.getElem?_eq_getElem hi, h.at_ i _ _ (List.getElem?_eq_getElem hi') (List.getElem?_eq_getElem hi)⟩
def spSame (K : PySem.W.Frag) : Sp := fun vs H Q _ => ∃ (D se : Addr) (sets : List (List Str)) (ts us : List Addr), vs = [.ref D, .ref se] ∧ H D = some (.lst (ts.map V.ref)) ∧ Lg (fun r => .tup (sv r)) H ts sets ∧ SqL K H se (us.map V.ref) ∧ Lg (fun r => .tup (sv r)) H us sets ∧ sets.length ≤ 5000 ∧ (∀ S ∈ sets, ∀ z ∈ S, Okz z) ∧ ∀ H', Same H H' → Q (.bl true) H'
theorem ok_same (T : Txt P K mg A) : FnOk P w K mg base CX0 1 A.a_law_same_companies A.d_law_same_companies ["found", "due"] (spSame K) := by
  refine T.F_law_same_companies.ok sc_law_same_companies (fun vs H Q E h => ?_) (fun cdv A' outer s H vs Q E hr h => ?_)
  · obtain ⟨D, se, sets, ts, us, rfl, _⟩ := h
    rfl
  · obtain ⟨D, se, sets, ts, us, rfl, hD, hT, hse, hS, sl, hG, kk⟩ := h
    refine ⟨_, (pss_cons (ps_if (PW.pt (pw_or (pt_not (pt_val (pe_callB call_isi (by rfl) T.n_isinstance (by decide +kernel) (pa_cons (pv 0) (pa_cons (pe_bltn (v := .ty "list") (by rfl) T.n_list (by decide +kernel) rfl) pa_nil))))) (pw_or1 (pt_cmpR op_ne (pe_callB call_len_seq (by rfl) T.n_len (by decide +kernel) (pa_cons (pv 0) pa_nil)) (pe_callB call_len_seq (by rfl) T.n_len (by decide +kernel) (pa_cons (pv 1) pa_nil)) (nomark _))))) (pss_one (ps_ret pe_bl)) pss_nil)
      (pss_cons (ps_for PassesOwn.never rfl (pi_range1 (by rfl) T.n_range (pa_cons (pe_callB call_len_seq (by rfl) T.n_len (by decide +kernel) (pa_cons (pv 1) pa_nil)) pa_nil)) (pg_name (i := 2) sc_law_same_companies.nd rfl (Or.inl rfl))
        (pss_one (ps_if (PW.pt (pw_or (pt_not (pt_val (pe_callB call_isi (by rfl) T.n_isinstance (by decide +kernel) (pa_cons (pe_ix ix_list (pv 0) (pv 2) (fun _ _ => rfl)) (pa_cons (pe_bltn (v := .ty "tuple") (by rfl) T.n_tuple (by decide +kernel) rfl) pa_nil))))) (pw_or1 (pt_cmpR (op_neD hr.units) (pe_ix ix_list (pv 0) (pv 2) (fun _ _ => rfl)) (pe_ix ix_list (pv 1) (pv 2) (fun _ _ => rfl)) (nomark _))))) (pss_one (ps_ret pe_bl)) pss_nil)))
      (pss_one (ps_ret pe_bl)))), ?_⟩
    have lt : (ts.map V.ref).length = sets.length := by rw [List.length_map, hT.len]
    have lu : (us.map V.ref).length = sets.length := by rw [List.length_map, hS.len]
    refine ⟨_, rfl, _, _, _, _, true, rfl, .ty _, .base (.lst hD), kit_ty (by decide +kernel), true, rfl, ifF rfl ?_⟩
    refine ⟨_, rfl, D, _, rfl, .inl (SqL.of hD), _, rfl, se, _, rfl, .inl hse, rfl, _, rfl, itNe (by rw [lt, lu]) ?_⟩
    refine ⟨_, rfl, se, _, rfl, .inl hse, _, rfl, by rw [lu]; omega, by rw [lu]; omega, ?_⟩
    have e1 : (((us.map V.ref).length : Nat) : Int).toNat = sets.length := by rw [lu, Int.toNat_natCast]
    refine for_range (n := (((us.map V.ref).length : Nat) : Int).toNat) (fun i σ H2 => Same H H2 ∧ ∃ u1 : Option V, σ = [some (.ref D), some (.ref se), u1]) ⟨Same.refl _, none, rfl⟩ ?_ ?_
    · rintro i σ H2 hi ⟨sm, u1, rfl⟩
      rw [e1] at hi
      rw [Int.zero_add]
      obtain ⟨t, S, et, eS, hT1⟩ := hT.ex hi
      obtain ⟨u, U, eu, eU, hU1⟩ := hS.ex hi
      rw [eS] at eU; cases eU
      have gS := hG S (List.mem_of_getElem? eS)
      refine ⟨_, rfl, _, rfl, D, _, _, _, rfl, rfl, SqL.of (sm _ _ hD), atR_of et, _, _, _, _, true, rfl, .ty _, .base (.tup (sm _ _ hT1)), kit_ty (by decide +kernel), true, rfl, ifF rfl ?_⟩
      refine ⟨_, rfl, _, rfl, D, _, _, _, rfl, rfl, SqL.of (sm _ _ hD), atR_of et, _, rfl, _, rfl, se, _, _, _, rfl, rfl, sm.seq hse, atR_of eu, .tuple (pd S), .tuple (pd S), .tup (SqT.of (sm _ _ hT1)) (dp_pd S), .tup (SqT.of (sm _ _ hU1)) (dp_pd S), shaped_pdT gS, shaped_pdT gS, _, rfl, ifF (by rw [eqv_T, decide_eq_true rfl]; rfl) ?_⟩
      exact ⟨sm, _, rfl⟩
    · rintro σ H2 ⟨sm, u1, rfl⟩
      exact kk H2 sm
def spRight (C : Addr) (K : PySem.W.Frag) : Sp := fun vs H Q _ => ∃ (p g D : Addr) (gs : List Str) (ps : List (List Str)) (us : List Addr), vs = [.ref p, .ref g, .ref D] ∧ Mt C H p gs ps ∧ SqL K H g (sv gs) ∧ (∀ z ∈ gs, Good z) ∧ gs.length ≤ 12 ∧ (∀ q ∈ ps, ∀ z ∈ q, Okz z) ∧ SqL K H D (us.map V.ref) ∧ Lg (fun r => .tup (sv r)) H us (comps gs ps) ∧ ∀ H', Same H H' → Q (.bl true) H'
theorem ok_right (T : Txt P K mg A) : FnOk P w K mg base CX0 9 A.a_law_table_right A.d_law_table_right ["meetings", "guests", "due"] (spRight A.C_Meetings K) := by
  have GX_company_table := ok_tab (P := P) (w := w) (base := base) T
  have G_law_is_number := ok_isNum (P := P) (w := w) (base := base) T
  refine T.F_law_table_right.ok sc_law_table_right (fun vs H Q E h => ?_) (fun cdv A' outer s H vs Q E hr h => ?_)
  · obtain ⟨p, g, D, gs, ps, us, rfl, _⟩ := h
    rfl
  · obtain ⟨p, g, D, gs, ps, us, rfl, hM, hG, hg, hl, op, hD, hus, kq⟩ := h
    refine ⟨_, (pss_cons (ps_set (i := 3) sc_law_table_right.nd rfl (Or.inl rfl) (pe_tup (pa_cons pe_str (pa_cons pe_non (pa_cons (pe_lst pa_nil) pa_nil)))))
      (pss_cons (ps_try_as (i := 4) (Wout := fun _ _ _ _ => False) rfl rfl sc_law_table_right.nd rfl rfl ⟨rfl, by decide, .inl T.mg_TooMany⟩ takes0 (fun W pn xe tk _ => (pss_one (ps_set (i := 3) sc_law_table_right.nd rfl (Or.inl rfl) (pe_tup (pa_cons pe_str (pa_cons (pe_callS GX_company_table (hr.mono (by decide)) rfl T.mg_company_table T.F_company_table.kp T.b_company_table (fun σ => passAt tk σ) (pa_cons (pv 0) pa_nil)) (pa_cons (pe_lst pa_nil) pa_nil))))))) (fun a oe cls d pn hz hf => (pss_one (ps_set (i := 3) sc_law_table_right.nd rfl (Or.inl rfl) (pe_tup (pa_cons pe_str (pa_cons (pe_xf T.xf_TooMany T.xn_TooMany_many hz hf (pv 4)) (pa_cons (pe_lst (pa_cons (pe_callB (call_isExD hz hf) (by rfl) T.n_isinstance (by decide +kernel) (pa_cons (pv 4) (pa_cons (pe_glob (v := .ref A.C_RowsError) rfl T.mg_RowsError rfl) pa_nil))) (pa_cons (pe_callB (call_isExD hz hf) (by rfl) T.n_isinstance (by decide +kernel) (pa_cons (pv 4) (pa_cons (pe_glob (v := .ref A.C_Unknown) rfl T.mg_Unknown rfl) pa_nil))) (pa_cons (pe_callB (call_isExD hz hf) (by rfl) T.n_isinstance (by decide +kernel) (pa_cons (pv 4) (pa_cons (pe_glob (v := .ref A.C_Impossible) rfl T.mg_Impossible rfl) pa_nil))) pa_nil)))) pa_nil))))))))
      (pss_cons (ps_if (pt_cmpR op_gt (pe_callB call_len_seq (by rfl) T.n_len (by decide +kernel) (pa_cons (pv 2) pa_nil)) pe_int (nomark _)) (pss_one (ps_ret (pe_and (pe_cmpR op_eq (pe_ix ix_tup (pv 3) pe_int (fun _ _ => rfl)) pe_str (nomark _)) (pe_and (pe_call G_law_is_number (hr.mono (by decide)) rfl T.mg_law_is_number T.F_law_is_number.kp T.b_law_is_number .nil pass0 (pa_cons (pe_ix ix_tup (pv 3) pe_int (fun _ _ => rfl)) (pa_cons (pe_callB call_len_seq (by rfl) T.n_len (by decide +kernel) (pa_cons (pv 2) pa_nil)) (pa_cons (pe_callB call_len_seq (by rfl) T.n_len (by decide +kernel) (pa_cons (pv 2) pa_nil)) pa_nil)))) (pe_one (pe_cmpR (op_eqD hr.units) (pe_ix ix_tup (pv 3) pe_int (fun _ _ => rfl)) (pe_lst (pa_cons pe_bl (pa_cons pe_bl (pa_cons pe_bl pa_nil)))) (nomark _))))))) pss_nil)
      (pss_cons (ps_if (PW.pt (pw_or (pt_cmpR op_ne (pe_ix ix_tup (pv 3) pe_int (fun _ _ => rfl)) pe_str (nomark _)) (pw_or1 (pt_not (pt_val (pe_callB call_isi (by rfl) T.n_isinstance (by decide +kernel) (pa_cons (pe_ix ix_tup (pv 3) pe_int (fun _ _ => rfl)) (pa_cons (pe_glob (v := .ref A.C_Table) rfl T.mg_Table rfl) pa_nil)))))))) (pss_one (ps_ret pe_bl)) pss_nil)
      (pss_cons (ps_set (i := 5) sc_law_table_right.nd rfl (Or.inr rfl) (pe_slice sl_list (pe_lc (own := [("letter", 8)]) (g := gName 8) (tt := tYes) rfl sc_law_table_right.nd (pi_str pe_str) (blkOk_by (N := ["meetings", "guests", "due", "told", "e", "letters", "rows", "guest", "letter", "k"]) (sc := defScope s_law_table_right) (by decide +kernel)) (fun _ _ _ _ _ => (pg_name (i := 8) sc_law_table_right.nd rfl (Or.inl rfl))) (fun _ _ _ _ _ => pts_nil) (fun _ _ _ _ _ => (pv 8))) po_none (po_some (pe_callB call_len_seq (by rfl) T.n_len (by decide +kernel) (pa_cons (pv 2) pa_nil)))))
      (pss_cons (ps_set (i := 6) sc_law_table_right.nd rfl (Or.inl rfl) (pe_lst pa_nil))
      (pss_cons (ps_for PassesOwn.never rfl (pi_list (pv 1)) (pg_name (i := 7) sc_law_table_right.nd rfl (Or.inr rfl))
        (pss_one (ps_expr (pe_bm PySem.F.plainAttrs_list PySem.F.slot_list_append PySem.F.type_list_append mt_append (pv 6) (pa_cons (pe_callTy (show CallR _ _ (rTupOf K) from call_tuple_of) (by rfl) T.n_tuple (by decide +kernel) (pa_cons (pe_lc (own := [("k", 9)]) (g := gName 9) (tt := _) rfl sc_law_table_right.nd (pi_range1 (by rfl) T.n_range (pa_cons (pe_callB call_len_seq (by rfl) T.n_len (by decide +kernel) (pa_cons (pv 2) pa_nil)) pa_nil)) (blkOk_by (N := ["meetings", "guests", "due", "told", "e", "letters", "rows", "guest", "letter", "k"]) (sc := defScope s_law_table_right) (by decide +kernel)) (fun _ _ _ _ _ => (pg_name (i := 9) sc_law_table_right.nd rfl (Or.inl rfl))) (fun _ _ _ _ _ => (pts_one (pt_cmpR (show OpR _ _ (rIn K false) from op_in_seq) (pv 7) (pe_ix (show IxR _ (rIxL K) from ix_list) (pv 2) (pv 9) (fun _ _ => rfl)) (by with_unfolding_all rfl)))) (fun _ _ _ _ _ => (pe_ix (show IxR _ (rIxL K) from ix_list) (pv 5) (pv 9) (fun _ _ => rfl)))) pa_nil)) pa_nil)))))
      (pss_one (ps_ret (pe_and (pe_cmpR (op_eqD hr.units) (pe_fld (pe_ix ix_tup (pv 3) pe_int (fun _ _ => rfl)) rfl) (pe_callTy (show CallR _ _ (rTupOf K) from call_tuple_of) (by rfl) T.n_tuple (by decide +kernel) (pa_cons (pv 5) pa_nil)) (nomark _)) (pe_one (pe_cmpR (op_eqD hr.units) (pe_fld (pe_ix ix_tup (pv 3) pe_int (fun _ _ => rfl)) rfl) (pe_callTy (show CallR _ _ (rTupOf K) from call_tuple_of) (by rfl) T.n_tuple (by decide +kernel) (pa_cons (pv 6) pa_nil)) (nomark _))))))))))))), ?_⟩
    refine ⟨by show 0 ≤ sizeLine; decide, fun l0 n0 => ?_⟩
    generalize hG : upd H l0 _ = H1
    have s1 : Same H H1 := hG ▸ same_new n0
    have h1 := (congrFun hG l0).symm.trans upd_same
    clear hG
    refine ⟨by show 3 ≤ sizeLine; decide, fun t0 m0 => ?_⟩
    generalize hG : upd H1 t0 _ = H2
    have s2 : Same H1 H2 := hG ▸ same_new m0
    have h2 := (congrFun hG t0).symm.trans upd_same
    clear hG
    have s12 := s1.trans s2
    have hM := hM.same s12
    refine ⟨_, rfl, p, gs, ps, rfl, hM, hg, hl, op, fun hle t H3 s3 nt hTb => ?_, fun hgt d H3 s3 hd => ?_⟩
    · have s13 := s12.trans s3
      refine ⟨by show 0 ≤ sizeLine; decide, fun l3 n3 => ?_⟩
      generalize hG : upd H3 l3 _ = H4
      have s4 : Same H3 H4 := hG ▸ same_new n3
      have h4 := (congrFun hG l3).symm.trans upd_same
      clear hG
      refine ⟨by show 3 ≤ sizeLine; decide, fun t3 m3 => ?_⟩
      generalize hG : upd H4 t3 _ = H5
      have s5 : Same H4 H5 := hG ▸ same_new m3
      have h5 := (congrFun hG t3).symm.trans upd_same
      clear hG
      have s35 := s4.trans s5
      have s15 := s13.trans s35
      have hT5 := hTb.same s35
      obtain ⟨dx, ct, rt, ts, g1, g2, g3, g4⟩ := hT5
      refine ⟨_, rfl, D, _, rfl, .inl (s15.seq hD), _, _, rfl, rfl, _, rfl, ifF (decide_eq_false (by rw [List.length_map, hus.len]; omega)) ?_⟩
      refine ⟨_, rfl, t3, _, _, _, rfl, rfl, SqT.of h5, rfl, rfl, _, rfl, ifF (by rw [decide_eq_true rfl]; rfl) ?_⟩
      refine ⟨_, rfl, t3, _, _, _, rfl, rfl, SqT.of h5, rfl, _, _, _, _, true, rfl, .own _, T.tyT g1, T.ko_selfT, true, rfl, ifF rfl ?_⟩
      generalize hcs : comps gs ps = cs at *
      refine ⟨_, rfl, fun LD nLD => lc_it walk_str (PvS H5 LD fun i => sv (ltrs i)) (pv0 nLD rfl) (fun _ _ _ _ => trivial) ?_ ?_⟩
      · rintro i x Ga Gb hi q ⟨rfl, c, hc, rfl⟩
        have hi12 : i < 12 := hi
        have ec : c = 97 + i := by
          have h12 : ∀ i : Fin 12, (("abcdefghijkl" : Str)).cps[i.val]? = some (97 + i.val) := by decide +kernel
          have := h12 ⟨i, hi12⟩
          rw [hc] at this
          exact Option.some.inj this
        subst ec
        refine ⟨rfl, _, rfl, q.push nLD ?_ (by rw [len_sv, ltrs_len]; omega)⟩
        show sv (ltrs (i + 1)) = _
        unfold ltrs
        rw [List.range_succ, List.map_append]; exact sv_snoc' _ _
      rintro H6 ⟨s6, hLD⟩
      have hLD : H6 LD = some (.lst (sv (ltrs 12))) := hLD
      delta tNoPart
      refine ⟨_, rfl, D, _, rfl, .inl ((s15.trans s6).seq hD), _, rfl, slO (SqL.of hLD) fun LT2 H7 s7 nLT hLT => ?_⟩
      have ul : (us.map V.ref).length = cs.length := by rw [List.length_map, hus.len]
      have hLT : H7 LT2 = some (.lst (sv (ltrs cs.length))) := by
        rw [hLT, ul, cut_takeG, sv_take]
        unfold ltrs
        rw [← List.map_take, List.take_range, Nat.min_eq_left hle]
      have s17 := s15.trans (s6.trans s7)
      have s57 := s6.trans s7
      refine ⟨by show 0 ≤ sizeLine; decide, fun RD nRD => ?_⟩
      have sR0 := same_new (o := .lst []) nRD
      refine ⟨_, rfl, g, rfl, ⟨_, (s17.trans sR0).seq hG⟩, for_it walk_list (fun j σ G => Same H7 G ∧ ∃ (ws : List Addr) (v1 : Option V), σ = [some (.ref p), some (.ref g), some (.ref D), some (.ref t3), none, some (.ref LT2), some (.ref RD), v1, none, none] ∧ G RD = some (.lst (ws.map V.ref)) ∧ Lg (fun r => .tup (sv r)) G ws ((gs.take j).map fun z => cw z cs cs.length) ∧ ∀ (i : Nat) (t : Addr), ws[i]? = some t → t ≠ RD) ⟨sR0, [], none, rfl, upd_same, Lg.nil, noT⟩ (fun j σ G _ q => (s17.trans q.1).seq hG) ?_ ?_⟩
      · rintro j x σ Ga G hj ⟨sm, ws, v1, rfl, hRD, hws, hne⟩ ⟨rfl, hx⟩
        obtain ⟨z, hz, rfl⟩ := sv_get hx
        have s1G := s17.trans sm
        have e1 : ((cs.length : Nat) : Int).toNat = cs.length := Int.toNat_natCast _
        have hjl := (List.getElem?_eq_some_iff.mp hz).1
        refine ⟨_, rfl, .inl ⟨rfl, _, SqL.of hRD⟩, _, rfl, D, _, rfl, .inl (s1G.seq hD), _, rfl, by rw [ul]; omega, by rw [ul]; omega, fun D9 nD9 => lc_range (n := (((us.map V.ref).length : Nat) : Int).toNat) (PvS G D9 fun i => sv (cw z cs i)) (pv0 nD9 rfl) ?_ ?_⟩
        · rintro k Gc hk q
          have hk : k < cs.length := by rw [ul, e1] at hk; exact hk
          rw [Int.zero_add]
          obtain ⟨u, r, eu, er, hu⟩ := (hus.same s1G).ex hk
          have eg : cs.getD k [] = r := by rw [List.getD_eq_getElem?_getD, er]; rfl
          have st : sv (cw z cs (k + 1)) = sv (cw z cs k) ++ sv (if decide (z ∈ r) = true then [l1 (97 + k)] else []) := by rw [cw_succ, eg]; exact List.map_append
          refine ⟨rfl, _, rfl, _, rfl, _, rfl, D, _, _, _, rfl, rfl, (s1G.trans q.1).seq hD, atR_of eu, u, _, rfl, .inr (SqT.of (q.1 _ _ hu)), rfl, flat_sv _, _, rfl, ?_⟩
          rw [if_neg Bool.false_ne_true, inV_str]
          by_cases hm : z ∈ r
          · rw [if_pos (decide_eq_true hm)] at st
            refine ifT (decide_eq_true hm) ⟨_, rfl, _, rfl, LT2, _, _, _, rfl, rfl, SqL.of (q.1 _ _ (sm _ _ hLT)), atS_of (ltrs_at hk), q.push nD9 st (by rw [len_sv]; have := cw_len z cs k; omega)⟩
          · rw [if_neg (by simpa using hm)] at st
            exact ifF (decide_eq_false hm) (q.skip (by rw [st]; simp))
        rintro G3 ⟨s3', hD9⟩
        have hD9 : G3 D9 = some (.lst (sv (cw z cs cs.length))) := by
          have := hD9
          dsimp only at this
          rw [ul, e1] at this
          exact this
        have hRD3 := s3' _ _ hRD
        refine ⟨D9, _, rfl, .inl ⟨SqL.of hD9, fun e ne => ?_⟩⟩
        generalize hG : upd G3 e _ = G4
        have s4' : Same G3 G4 := hG ▸ same_new ne
        have he := (congrFun hG e).symm.trans upd_same
        clear hG
        have neR : e ≠ RD := fun z => by rw [z, hRD3] at ne; cases ne
        refine ⟨RD, _, _, rfl, rfl, s4' _ _ hRD3, small_int (by rw [List.length_map, hws.len, List.length_map, List.length_take]; omega), fun b o e2 => by rw [upd_ne (ne_of_none e2 nRD)]; exact s4' _ _ (s3' _ _ (sm _ _ e2)), ws ++ [e], _, rfl, by rw [List.map_append]; exact upd_same, ?_, ne_app hne neR⟩
        rw [take_succ hz, List.map_append]
        exact ((hws.same (s3'.trans s4')).app he).upd1 (ne_app hne neR)
      · rintro σ G ⟨sm, ws, v1, rfl, hRD, hws, hne⟩
        have hws : Lg (fun r => .tup (sv r)) G ws (gs.map fun z => cw z cs cs.length) := by
          have e := hws
          rw [len_sv, List.take_length] at e
          exact e
        have s5G := s57.trans sm
        have cok := ltrs_ok hle
        have ecan : (gs.map fun z => cw z cs cs.length).map (canon (ltrs cs.length)) = gs.map fun z => cw z cs cs.length := by
          rw [List.map_map]
          exact List.map_congr_left fun z _ => canon_sublist (cw_sub z cs cs.length) cok.nd
        rw [ecan] at g4
        have okl : ∀ z ∈ ltrs cs.length, Okz z := fun z hz => okz_good (cok.g z hz)
        have okr : ∀ r ∈ gs.map (fun z => cw z cs cs.length), ∀ z ∈ r, Okz z := fun r hr z hz => by
          obtain ⟨y, _, rfl⟩ := List.mem_map.mp hr
          exact okl z ((cw_sub y cs cs.length).subset hz)
        have m1 := s5G _ _ g1
        refine ⟨_, rfl, t3, _, _, _, rfl, rfl, SqT.of (s5G _ _ h5), rfl, ?_⟩
        refine ⟨t, _, _, _, _, rfl, m1, T.cl_Table, T.n_Table_columns, fldsT_columns _ _, _, rfl, ?_⟩
        dsimp only [tNil]
        refine ⟨LT2, _, rfl, .inl ⟨SqL.of (sm _ _ hLT), fun e ne => ?_⟩⟩
        generalize hG : upd G e _ = G3
        have s3' : Same G G3 := hG ▸ same_new ne
        have he := (congrFun hG e).symm.trans upd_same
        clear hG
        have sG3 := s5G.trans s3'
        refine ⟨.tuple (pd (ltrs cs.length)), .tuple (pd (ltrs cs.length)), .tup (SqT.of (sG3 _ _ g2)) (dp_pd _), .tup (SqT.of he) (dp_pd _), shaped_pdT okl, shaped_pdT okl, _, rfl, ifT (by rw [eqv_T, decide_eq_true rfl]) ?_⟩
        have m2 := sG3 _ _ g1
        refine ⟨_, rfl, t3, _, _, _, rfl, rfl, SqT.of (sG3 _ _ h5), rfl, ?_⟩
        refine ⟨t, _, _, _, _, rfl, m2, T.cl_Table, T.n_Table_rows, fldsT_rows _ _, _, rfl, ?_⟩
        dsimp only [tNil]
        refine ⟨RD, _, rfl, .inl ⟨SqL.of (s3' _ _ hRD), fun e2 ne2 => ?_⟩⟩
        generalize hG : upd G3 e2 _ = G4
        have s4' : Same G3 G4 := hG ▸ same_new ne2
        have he2 := (congrFun hG e2).symm.trans upd_same
        clear hG
        have sG4 := sG3.trans s4'
        refine ⟨.tuple (pdd _), .tuple (pdd _), .tup (SqT.of (sG4 _ _ g3)) (dp_pdd (g4.same sG4)), .tup (SqT.of he2) (dp_pdd (hws.lss.same (s3'.trans s4'))), shaped_pddT okr, shaped_pddT okr, ?_⟩
        rw [show PyData.eqv (.tuple (pdd (gs.map fun z => cw z cs cs.length))) (.tuple (pdd (gs.map fun z => cw z cs cs.length))) = true from eqvT (lay_pdd okr)]
        exact kq _ (s17.trans (sm.trans (s3'.trans s4')))
    · have s13 := s12.trans s3
      refine ⟨true, exm_self T.bp_TooMany T.ic_TooMany T.tp_TooMany T.ss_TooMany, fun _ e he => ?_, fun q => nomatch q⟩
      have hne : A.C_TooMany ≠ A.C_Unknown ∧ A.C_TooMany ≠ A.C_Impossible := by
        refine ⟨fun e => ?_, fun e => ?_⟩
        · have z := T.su_TooMany_Unknown
          rw [← e, T.ss_TooMany] at z; cases z
        · have z := T.su_TooMany_Impossible
          rw [← e, T.ss_TooMany] at z; cases z
      have k1 : PySem.W.kitOne K (.ref A.C_TooMany) (.ref A.C_RowsError) = some true := kit_own T.ic_RowsError T.tp_RowsError T.su_TooMany_RowsError (.inr rfl)
      have k3 : PySem.W.kitOne K (.ref A.C_TooMany) (.ref A.C_Unknown) = some false := kit_own T.ic_Unknown T.tp_Unknown T.su_TooMany_Unknown (.inl hne.1)
      have k4 : PySem.W.kitOne K (.ref A.C_TooMany) (.ref A.C_Impossible) = some false := kit_own T.ic_Impossible T.tp_Impossible T.su_TooMany_Impossible (.inl hne.2)
      refine ⟨_, rfl, rfl, rfl, d, _, _, rfl, hd, rfl, ?_⟩
      refine ⟨_, rfl, _, _, _, rfl, rfl, hd, T.ec_TooMany, _, _, true, rfl, fun _ h => h, k1, ?_⟩
      refine ⟨_, rfl, _, _, _, rfl, rfl, hd, T.ec_TooMany, _, _, false, rfl, fun _ h => h, k3, ?_⟩
      refine ⟨_, rfl, _, _, _, rfl, rfl, hd, T.ec_TooMany, _, _, false, rfl, fun _ h => h, k4, ?_⟩
      refine ⟨by show 3 ≤ sizeLine; decide, fun l3 n3 => ?_⟩
      generalize hG : upd H3 l3 _ = H4
      have s4 : Same H3 H4 := hG ▸ same_new n3
      have h4 := (congrFun hG l3).symm.trans upd_same
      clear hG
      refine ⟨by show 3 ≤ sizeLine; decide, fun t3 m3 => ?_⟩
      generalize hG : upd H4 t3 _ = H5
      have s5 : Same H4 H5 := hG ▸ same_new m3
      have h5 := (congrFun hG t3).symm.trans upd_same
      clear hG
      have s15 := s13.trans (s4.trans s5)
      have ul : (us.map V.ref).length = (comps gs ps).length := by rw [List.length_map, hus.len]
      refine ⟨_, rfl, D, _, rfl, .inl (s15.seq hD), _, _, rfl, rfl, _, rfl, ifT (decide_eq_true (by rw [ul]; omega)) ?_⟩
      refine ⟨_, rfl, t3, _, _, _, rfl, rfl, SqT.of h5, rfl, rfl, _, rfl, ifT (decide_eq_true rfl) ?_⟩
      refine ⟨_, rfl, t3, _, _, _, rfl, rfl, SqT.of h5, rfl, _, rfl, D, _, rfl, .inl (s15.seq hD), _, rfl, D, _, rfl, .inl (s15.seq hD), _, _, _, rfl, ?_⟩
      rw [ul, decide_eq_true (by omega)]
      refine ⟨_, rfl, ifT rfl ?_⟩
      refine ⟨_, rfl, t3, _, _, _, rfl, rfl, SqT.of h5, rfl, by show 3 ≤ sizeLine; decide, fun l4 n4 => ?_⟩
      generalize hG : upd H5 l4 _ = H6
      have s6 : Same H5 H6 := hG ▸ same_new n4
      have h6 := (congrFun hG l4).symm.trans upd_same
      clear hG
      refine ⟨.list ([true, false, false].map PyData.bool), .list ([true, false, false].map PyData.bool), .lst (xs := [true, false, false].map V.bl) (SqL.of (s6 _ _ (s5 _ _ h4))) (dpAll_bl _), .lst (xs := [true, false, false].map V.bl) (SqL.of h6) (dpAll_bl _), shapedL (by decide +kernel) (by decide +kernel), shapedL (by decide +kernel) (by decide +kernel), ?_⟩
      rw [show PyData.eqv (.list ([true, false, false].map PyData.bool)) (.list ([true, false, false].map PyData.bool)) = true from eqvL (by decide +kernel)]
      exact kq _ (s15.trans s6)
end
end My
set_option maxRecDepth 100000
set_option maxHeartbeats 4000000
set_option exponentiation.threshold 10000
namespace My
open PySem L2
open C8 (pss_cut)
theorem fault_at {pre rest : List Str} {x : Str} (hg : ∀ z ∈ pre, Good z) (nd : pre.Nodup) (hl : pre.length + rest.length + 1 ≤ 10) (hx : okName x = false ∨ x ∈ pre) : guestFault (pre ++ x :: rest) = some (("guest" : Str), pre.length) := by
  unfold guestFault
  rw [if_neg (by rw [List.length_append, List.length_cons]; omega)]
  have hi : pre.length < (pre ++ x :: rest).length := by rw [List.length_append, List.length_cons]; omega
  have e0 : (pre ++ x :: rest)[pre.length]? = some x := by rw [List.getElem?_append_right (Nat.le_refl _)]; simp
  have t0 : (pre ++ x :: rest).take pre.length = pre := by rw [List.take_append_of_le_length (Nat.le_refl _), List.take_length]
  rw [firstBad_some hi (by
    unfold badName
    rw [e0]
    show (!okName x || decide (x ∈ (pre ++ x :: rest).take pre.length)) = true
    rw [t0]
    rcases hx with h | h
    · rw [h]; rfl
    · rw [decide_eq_true h, Bool.or_true]) fun j hj => ?_]
  · rfl
  · unfold badName
    have e1 : (pre ++ x :: rest)[j]? = some pre[j] := by rw [List.getElem?_append_left hj, List.getElem?_eq_getElem hj]
    rw [e1]
    show (!okName pre[j] || decide (pre[j] ∈ (pre ++ x :: rest).take j)) = false
    rw [List.take_append_of_le_length (by omega), okName_iff.mpr (hg _ (List.getElem_mem hj)), decide_eq_false (not_take nd (List.getElem?_eq_getElem hj))]; rfl
theorem fault_none' {gs : List Str} (hg : ∀ z ∈ gs, Good z) (nd : gs.Nodup) (hl : gs.length ≤ 10) : guestFault gs = none := by
  unfold guestFault
  rw [if_neg (by omega), firstBad_none_iff.mpr ⟨hg, nd⟩]; rfl
def badOne (gs : List Str) (A : List (List Str)) (one : List Str) : Prop := one.length ≠ 2 ∨ stray gs one ≠ none ∨ ∃ q ∈ A, q.Perm one
theorem pair_at {gs : List Str} {A B : List (List Str)} {one : List Str} (hA : PsGood gs A) (h : badOne gs A one) (h0 : guestFault gs = none) : BadM gs (A ++ one :: B) "pair" A.length := by
  refine .inr ⟨h0, rfl, by rw [List.length_append, List.length_cons]; omega, fun j hj p hp => ?_, fun ok => ?_⟩
  · rw [List.getElem?_append_left hj] at hp
    obtain ⟨a, b, c⟩ := hA.ok hj p hp
    exact ⟨a, b, fun q hq => c q (by rwa [List.take_append_of_le_length (by omega)] at hq)⟩
  · obtain ⟨a, b, c⟩ := ok one (by rw [List.getElem?_append_right (Nat.le_refl _)]; simp)
    rcases h with h | h | ⟨q, hq, hp⟩
    · exact h a
    · exact h b
    · exact c q (by rw [List.take_append_of_le_length (Nat.le_refl _), List.take_length]; exact hq) hp
theorem PsGood.take {gs : List Str} {ps : List (List Str)} (h : PsGood gs ps) (k : Nat) : PsGood gs (ps.take k) := ⟨fun q hq => h.two q (List.mem_of_mem_take hq), h.once.sublist (List.take_sublist _ _)⟩
theorem stray_out {gs one : List Str} {z : Str} (hz : z ∈ one) (h : z ∉ gs) : stray gs one ≠ none := fun e => h ((stray_none_iff.mp e).1 z hz)
theorem stray_dup {gs : List Str} {z : Str} : stray gs [z, z] ≠ none := fun e => by
  have := (stray_none_iff.mp e).2
  simp at this
/-- what is handed back: guests and pairs with a fault -/
def BadOut (H : Hp) (R : Addr) : Prop := ∃ (g p : Addr) (gs : List Str) (ts : List Addr) (ps : List (List Str)) (pt : Str) (i : Nat), H R = some (.lst [.ref g, .ref p, .str pt, .int (i : Nat)]) ∧ H g = some (.lst (sv gs)) ∧ H p = some (.lst (ts.map V.ref)) ∧ Lss .tup H ts ps ∧ (∀ z ∈ gs, z.length ≤ 1000) ∧ gs.length ≤ 1000 ∧ ps.length ≤ 1000 ∧ (∀ q ∈ ps, q.length ≤ 20 ∧ ∀ z ∈ q, Okz z) ∧ BadM gs ps pt i
theorem Lss.cat {k : List V → HO} {H : Hp} {ts us : List Addr} {rs qs : List (List Str)} (h : Lss k H ts rs) (g : Lss k H us qs) : Lss k H (ts ++ us) (rs ++ qs) := by
  refine ⟨by rw [List.length_append, List.length_append, h.len, g.len], fun i t x a b => ?_⟩
  by_cases hi : i < ts.length
  · rw [List.getElem?_append_left hi] at a
    rw [List.getElem?_append_left (by rw [← h.len]; exact hi)] at b
    exact h.at_ i t x a b
  · rw [List.getElem?_append_right (by omega)] at a
    rw [List.getElem?_append_right (by rw [← h.len]; omega), ← h.len] at b
    exact g.at_ _ t x a b
theorem Lss.tk {k : List V → HO} {H : Hp} {ts : List Addr} {rs : List (List Str)} (h : Lss k H ts rs) (n : Nat) : Lss k H (ts.take n) (rs.take n) := ⟨by rw [List.length_take, List.length_take, h.len], fun i t x a b => by
  rw [List.getElem?_take] at a b
  split at a
  · rename_i hi; rw [if_pos hi] at b; exact h.at_ i t x a b
  · cases a⟩
theorem Lss.dp {k : List V → HO} {H : Hp} {ts : List Addr} {rs : List (List Str)} (h : Lss k H ts rs) (n : Nat) : Lss k H (ts.drop n) (rs.drop n) := ⟨by rw [List.length_drop, List.length_drop, h.len], fun i t x a b => by
  rw [List.getElem?_drop] at a b
  exact h.at_ _ t x a b⟩
theorem Lss.one {k : List V → HO} {H : Hp} {t : Addr} {r : List Str} (h : H t = some (k (sv r))) : Lss k H [t] [r] := (Lss.nil (f := k) (H := H)).app h
theorem good_z8 : Good ("zzzzzzzz" : Str) := okName_iff.mp (by decide +kernel)
theorem good_stranger : Good ("stranger" : Str) := okName_iff.mp (by decide +kernel)
section
variable {P : Program} {w : World} {K : PySem.W.Frag} {mg : Str → Option Value} {base : Heap} {A : Ad}
def spBad (K : PySem.W.Frag) : Sp := fun vs H Q E => ∃ (g D p : Addr) (gs : List Str) (ts : List Addr) (ps : List (List Str)) (xs : List Int), vs = [.ref g, .ref D, .ref p] ∧ H g = some (.lst (sv gs)) ∧ H D = some (.lst (ts.map V.ref)) ∧ Lss .tup H ts ps ∧ (∀ z ∈ gs, Good z) ∧ gs.Nodup ∧ gs.length ≤ 10 ∧ ("zzzzzzzz" : Str) ∉ gs ∧ PsGood gs ps ∧ ps.length ≤ 100 ∧ SqL K H p (ivs xs) ∧ xs.length = 60 ∧
  ∀ R H', Same H H' → BadOut H' R → Q (.ref R) H'
theorem ok_bad (T : Txt P K mg A) : FnOk P w K mg base CX0 1 A.a_law_bad A.d_law_bad ["guests", "pairs", "pool"] (spBad K) := by
  refine T.F_law_bad.ok sc_law_bad (fun vs H Q E h => ?_) (fun cdv A' outer s H vs Q E hr h => ?_)
  · obtain ⟨g, D, p, gs, ts, ps, xs, rfl, _⟩ := h
    rfl
  · obtain ⟨g, D, p, gs, ts, ps, xs, rfl, hG, hD, hT, hg, nd, hl, hz8, hps, hpl, hP, lx, kq⟩ := h
    refine ⟨_, (pss_cons (ps_set (i := 3) sc_law_bad.nd rfl (Or.inl rfl) (pe_op op_mod (pe_callTy call_int1 (by rfl) T.n_int (by decide +kernel) (pa_cons (pe_ix ix_list (pv 2) pe_int (fun _ _ => rfl)) pa_nil)) pe_int))
      (pss_cons (ps_set (i := 4) sc_law_bad.nd rfl (Or.inl rfl) (pe_op op_mod (pe_callTy call_int1 (by rfl) T.n_int (by decide +kernel) (pa_cons (pe_ix ix_list (pv 2) pe_int (fun _ _ => rfl)) pa_nil)) (pe_op op_add (pe_callB call_len_seq (by rfl) T.n_len (by decide +kernel) (pa_cons (pv 1) pa_nil)) pe_int)))
      (pss_cons (ps_set (i := 5) sc_law_bad.nd rfl (Or.inl rfl) pe_str)
      (pss_cut (ps_if (pt_cmpR op_gt (pe_callB call_len_seq (by rfl) T.n_len (by decide +kernel) (pa_cons (pv 0) pa_nil)) pe_int (nomark _)) (pss_one (ps_set (i := 5) sc_law_bad.nd rfl (Or.inl rfl) (pe_ix ix_list (pv 0) (pe_op op_mod (pe_callTy call_int1 (by rfl) T.n_int (by decide +kernel) (pa_cons (pe_ix ix_list (pv 2) pe_int (fun _ _ => rfl)) pa_nil)) (pe_callB call_len_seq (by rfl) T.n_len (by decide +kernel) (pa_cons (pv 0) pa_nil))) (fun _ _ => rfl)))) pss_nil)
      (pss_cons (ps_if (pt_cmpR op_eq (pv 3) pe_int (nomark _)) (pss_cons (ps_set (i := 6) sc_law_bad.nd rfl (Or.inl rfl) (pe_op op_mod (pe_callTy call_int1 (by rfl) T.n_int (by decide +kernel) (pa_cons (pe_ix ix_list (pv 2) pe_int (fun _ _ => rfl)) pa_nil)) (pe_op op_add (pe_callB (call_min2 rfl) (by rfl) T.n_min (by decide +kernel) (pa_cons pe_int (pa_cons (pe_callB call_len_seq (by rfl) T.n_len (by decide +kernel) (pa_cons (pv 0) pa_nil)) pa_nil))) pe_int)))
      (pss_cons (ps_set (i := 7) sc_law_bad.nd rfl (Or.inl rfl) (pe_ix ix_list (pe_lst (pa_cons pe_str (pa_cons pe_str (pa_cons pe_str (pa_cons pe_str (pa_cons pe_str pa_nil)))))) (pe_op op_mod (pe_callTy call_int1 (by rfl) T.n_int (by decide +kernel) (pa_cons (pe_ix ix_list (pv 2) pe_int (fun _ _ => rfl)) pa_nil)) pe_int) (fun _ _ => rfl)))
      (pss_one (ps_ret (pe_lst (pa_cons (pe_op op_cat (pe_op op_cat (pe_op op_cat (pe_slice sl_list (pv 0) po_none (po_some (pv 6))) (pe_lst (pa_cons (pv 7) pa_nil))) (pe_slice sl_list (pv 0) (po_some (pv 6)) (po_some pe_int))) (pe_slice sl_list (pv 0) po_none (po_some pe_int))) (pa_cons (pe_op op_cat (pv 1) (pe_lst (pa_cons (pe_tup (pa_cons (pv 5) (pa_cons (pv 5) pa_nil))) pa_nil))) (pa_cons pe_str (pa_cons (pv 6) pa_nil))))))))) pss_nil)
      (pss_cut (ps_if (PW.pt (pw_and (pt_cmpR op_eq (pv 3) pe_int (nomark _)) (pw_and (pt_cmpR op_gt (pe_callB call_len_seq (by rfl) T.n_len (by decide +kernel) (pa_cons (pv 0) pa_nil)) pe_int (nomark _)) (pw_and1 (pt_cmpR op_lt (pe_callB call_len_seq (by rfl) T.n_len (by decide +kernel) (pa_cons (pv 0) pa_nil)) pe_int (nomark _)))))) (pss_one (ps_ret (pe_lst (pa_cons (pe_op op_cat (pv 0) (pe_slice sl_list (pe_lst (pa_cons (pv 5) (pa_cons (pe_ix ix_list (pe_lst (pa_cons (pv 5) (pa_cons pe_str pa_nil))) (pe_op op_mod (pe_callTy call_int1 (by rfl) T.n_int (by decide +kernel) (pa_cons (pe_ix ix_list (pv 2) pe_int (fun _ _ => rfl)) pa_nil)) pe_int) (fun _ _ => rfl)) pa_nil))) po_none (po_some (pe_op op_sub pe_int (pe_callB call_len_seq (by rfl) T.n_len (by decide +kernel) (pa_cons (pv 0) pa_nil)))))) (pa_cons (pv 1) (pa_cons pe_str (pa_cons (pe_callB call_len_seq (by rfl) T.n_len (by decide +kernel) (pa_cons (pv 0) pa_nil)) pa_nil))))))) pss_nil)
      (pss_cons (ps_if (pt_cmpR op_eq (pv 3) pe_int (nomark _)) (pss_one (ps_ret (pe_lst (pa_cons (pe_op op_cat (pe_lst (pa_cons pe_str pa_nil)) (pe_lc (own := [("letter", 12)]) (g := gName 12) (tt := tYes) rfl sc_law_bad.nd (pi_str pe_str) (blkOk_by (N := ["guests", "pairs", "pool", "word", "at", "first", "here", "odd", "one", "later", "again", "pair", "letter"]) (sc := defScope s_law_bad) (by decide +kernel)) (fun _ _ _ _ _ => (pg_name (i := 12) sc_law_bad.nd rfl (Or.inl rfl))) (fun _ _ _ _ _ => pts_nil) (fun _ _ _ _ _ => (pv 12)))) (pa_cons (pv 1) (pa_cons pe_str (pa_cons pe_int pa_nil))))))) pss_nil)
      (pss_cons (ps_set (i := 8) sc_law_bad.nd rfl (Or.inl rfl) (pe_ix ix_list (pe_lst (pa_cons (pe_tup (pa_cons (pv 5) (pa_cons pe_str pa_nil))) (pa_cons (pe_tup (pa_cons pe_str (pa_cons (pv 5) pa_nil))) (pa_cons (pe_tup (pa_cons (pv 5) (pa_cons (pv 5) pa_nil))) (pa_cons (pe_tup (pa_cons (pv 5) pa_nil)) (pa_cons (pe_callTy (show CallR _ _ (rTupOf K) from call_tuple_of) (by rfl) T.n_tuple (by decide +kernel) (pa_cons (pe_slice sl_list (pe_op op_cat (pv 0) (pe_lst (pa_cons (pv 5) (pa_cons (pv 5) pa_nil)))) po_none (po_some pe_int)) pa_nil)) pa_nil)))))) (pe_op op_mod (pe_callTy call_int1 (by rfl) T.n_int (by decide +kernel) (pa_cons (pe_ix ix_list (pv 2) pe_int (fun _ _ => rfl)) pa_nil)) pe_int) (fun _ _ => rfl)))
      (pss_cons (ps_setLc (i := 9) (own := [("pair", 11)]) (g := gName 11) (tt := tYes) rfl sc_law_bad.nd rfl rfl (sw_true rfl rfl rfl (by decide +kernel)) (pi_list (pe_slice sl_list (pv 1) po_none (po_some pe_int))) (blkOk_by (N := ["guests", "pairs", "pool", "word", "at", "first", "here", "odd", "one", "later", "again", "pair", "letter"]) (sc := defScope s_law_bad) (by decide +kernel)) (fun _ _ _ _ _ => (pg_name (i := 11) sc_law_bad.nd rfl (Or.inl rfl))) (fun _ _ _ _ _ => pts_nil) (fun _ _ _ _ _ => (pe_tup (pa_cons (pe_ix (show IxR _ (rIxT K) from ix_tup) (pv 11) pe_int (fun _ _ => rfl)) (pa_cons (pe_ix (show IxR _ (rIxT K) from ix_tup) (pv 11) pe_int (fun _ _ => rfl)) pa_nil)))))
      (pss_cut (ps_if (PW.pt (pw_and (pt_cmpR op_gt (pv 3) pe_int (nomark _)) (pw_and1 (pt_cmpR op_gt (pe_callB call_len_seq (by rfl) T.n_len (by decide +kernel) (pa_cons (pv 1) pa_nil)) pe_int (nomark _))))) (pss_cons (ps_set (i := 9) sc_law_bad.nd rfl (Or.inl rfl) (pe_lst (pa_cons (pe_tup (pa_cons (pv 5) (pa_cons pe_str pa_nil))) pa_nil)))
      (pss_cons (ps_set (i := 4) sc_law_bad.nd rfl (Or.inl rfl) (pe_op op_add pe_int (pe_op op_mod (pe_callTy call_int1 (by rfl) T.n_int (by decide +kernel) (pa_cons (pe_ix ix_list (pv 2) pe_int (fun _ _ => rfl)) pa_nil)) (pe_callB call_len_seq (by rfl) T.n_len (by decide +kernel) (pa_cons (pv 1) pa_nil)))))
      (pss_cons (ps_set (i := 10) sc_law_bad.nd rfl (Or.inl rfl) (pe_ix ix_list (pv 1) (pe_op op_mod (pe_callTy call_int1 (by rfl) T.n_int (by decide +kernel) (pa_cons (pe_ix ix_list (pv 2) pe_int (fun _ _ => rfl)) pa_nil)) (pv 4)) (fun _ _ => rfl)))
      (pss_one (ps_set (i := 8) sc_law_bad.nd rfl (Or.inl rfl) (pe_ix ix_list (pe_lst (pa_cons (pv 10) (pa_cons (pe_tup (pa_cons (pe_ix ix_tup (pv 10) pe_int (fun _ _ => rfl)) (pa_cons (pe_ix ix_tup (pv 10) pe_int (fun _ _ => rfl)) pa_nil))) pa_nil))) (pe_op op_mod (pe_callTy call_int1 (by rfl) T.n_int (by decide +kernel) (pa_cons (pe_ix ix_list (pv 2) pe_int (fun _ _ => rfl)) pa_nil)) pe_int) (fun _ _ => rfl))))))) pss_nil)
      (pss_one (ps_ret (pe_lst (pa_cons (pv 0) (pa_cons (pe_op op_cat (pe_op op_cat (pe_op op_cat (pe_slice sl_list (pv 1) po_none (po_some (pv 4))) (pe_lst (pa_cons (pv 8) pa_nil))) (pe_slice sl_list (pv 1) (po_some (pv 4)) po_none)) (pv 9)) (pa_cons pe_str (pa_cons (pv 4) pa_nil))))))))))))))))), ?_⟩
    obtain ⟨x10, h10, e10⟩ := atI_ok (xs := xs) (j := 10) (by omega) (by omega)
    obtain ⟨x11, h11, e11⟩ := atI_ok (xs := xs) (j := 11) (by omega) (by omega)
    obtain ⟨x12, h12, e12⟩ := atI_ok (xs := xs) (j := 12) (by omega) (by omega)
    obtain ⟨x13, h13, e13⟩ := atI_ok (xs := xs) (j := 13) (by omega) (by omega)
    obtain ⟨x14, h14, e14⟩ := atI_ok (xs := xs) (j := 14) (by omega) (by omega)
    have tl : (ts.map V.ref).length = ps.length := by rw [List.length_map, hT.len]
    refine ⟨_, rfl, p, _, _, _, rfl, rfl, hP, e10, .inl ⟨_, rfl, _, _, rfl, rfl, by show (0 : Int) < 10; decide, ?_⟩⟩
    refine ⟨_, rfl, p, _, _, _, rfl, rfl, hP, e11, .inl ⟨_, rfl, _, rfl, D, _, rfl, .inl (SqL.of hD), _, _, rfl, rfl, _, _, rfl, rfl, by rw [tl]; omega, ?_⟩⟩
    obtain ⟨a0, ha0⟩ := Int.eq_ofNat_of_zero_le (Int.emod_nonneg x11 (show (((ts.map V.ref).length : Nat) : Int) + 1 ≠ 0 by omega))
    have ha1 : a0 ≤ ps.length := by
      have := Int.emod_lt_of_pos x11 (show (0 : Int) < (((ts.map V.ref).length : Nat) : Int) + 1 by omega)
      omega
    have wd0 := Int.emod_nonneg x10 (show (10 : Int) ≠ 0 by decide)
    have wd1 := Int.emod_lt_of_pos x10 (show (0 : Int) < 10 by decide)
    generalize hwd : x10 % 10 = wd at wd0 wd1
    refine ⟨fun σ G => H = G ∧ ∃ z : Str, σ = [some (.ref g), some (.ref D), some (.ref p), some (.int wd), some (.int (a0 : Nat)), some (.str z), none, none, none, none, none, none, none] ∧ Good z ∧ ((gs = [] ∧ z = "stranger") ∨ z ∈ gs), ?_, ?_⟩
    · refine ⟨_, rfl, g, _, rfl, .inl (SqL.of hG), _, _, rfl, rfl, _, rfl, ?_⟩
      by_cases h0 : (((sv gs).length : Nat) : Int) > 0
      · refine ifT (decide_eq_true h0) ⟨_, rfl, _, rfl, p, _, _, _, rfl, rfl, hP, e12, .inl ⟨_, rfl, _, rfl, g, _, rfl, .inl (SqL.of hG), _, _, rfl, rfl, h0, ?_⟩⟩
        obtain ⟨k, hk⟩ := Int.eq_ofNat_of_zero_le (Int.emod_nonneg x12 (show (((sv gs).length : Nat) : Int) ≠ 0 by omega))
        have hkl : k < gs.length := by
          have := Int.emod_lt_of_pos x12 h0
          rw [len_sv] at this hk; omega
        have hz : gs[k]? = some gs[k] := List.getElem?_eq_getElem hkl
        refine ⟨g, _, _, _, rfl, rfl, SqL.of hG, by rw [hk]; exact atS_of hz, rfl, gs[k], ?_, hg _ (List.getElem_mem hkl), .inr (List.getElem_mem hkl)⟩
        rw [← hwd, ← ha0]; rfl
      · refine ifF (decide_eq_false h0) ⟨rfl, _, ?_, good_stranger, .inl ⟨List.eq_nil_of_length_eq_zero (by rw [len_sv] at h0; omega), rfl⟩⟩
        rw [← hwd, ← ha0]; rfl
    rintro σ G ⟨rfl, z, rfl, gz, hz⟩
    have gsl : ∀ y ∈ gs, y.length ≤ 1000 := fun y hy => by have := (hg y hy).le; omega
    have pz : ∀ q ∈ ps, q.length ≤ 20 ∧ ∀ z ∈ q, Okz z := fun q hq => by
      obtain ⟨a, b, rfl, ha, hb, _⟩ := hps.two q hq
      refine ⟨by show 2 ≤ 20; decide, fun y hy => ?_⟩
      rcases List.mem_cons.mp hy with e | hy
      · rw [e]; exact okz_good (hg a ha)
      · rw [List.mem_singleton.mp hy]; exact okz_good (hg b hb)
    have okz2 : ∀ {a b : Str}, Good a → Good b → ([a, b] : List Str).length ≤ 20 ∧ ∀ y ∈ [a, b], Okz y := fun {a b} ha hb => ⟨by show 2 ≤ 20; decide, fun y hy => by
      rcases List.mem_cons.mp hy with e | hy
      · rw [e]; exact okz_good ha
      · rw [List.mem_singleton.mp hy]; exact okz_good hb⟩
    have zzok := okz2 gz gz
    have gl : (sv gs).length = gs.length := len_sv gs
    refine ⟨_, rfl, rfl, _, rfl, ?_⟩
    by_cases w0 : wd = 0
    · refine ifT (decide_eq_true (show V.int wd = V.int 0 by rw [w0])) ?_
      have gl : (sv gs).length = gs.length := len_sv gs
      have m8 : 0 ≤ (if (((sv gs).length : Nat) : Int) < 8 then (((sv gs).length : Nat) : Int) else 8) := by split <;> omega
      refine ⟨_, rfl, p, _, _, _, rfl, rfl, hP, e13, .inl ⟨_, rfl, _, rfl, g, _, rfl, .inl (SqL.of hG), _, _, rfl, _, _, rfl, rfl, _, _, rfl, rfl, by omega, ?_⟩⟩
      obtain ⟨hr0, hhr⟩ := Int.eq_ofNat_of_zero_le (Int.emod_nonneg x13 (show (if (((sv gs).length : Nat) : Int) < 8 then (((sv gs).length : Nat) : Int) else 8) + 1 ≠ 0 by omega))
      have hh : hr0 ≤ 8 ∧ hr0 ≤ gs.length := by
        have := Int.emod_lt_of_pos x13 (show (0 : Int) < (if (((sv gs).length : Nat) : Int) < 8 then (((sv gs).length : Nat) : Int) else 8) + 1 by omega)
        rw [hhr] at this
        split at this <;> omega
      dsimp only
      rw [hhr]
      refine ⟨by show 5 ≤ sizeLine; decide, fun lo no => ?_⟩
      generalize hG : upd H lo _ = H1
      have s1 : Same H H1 := hG ▸ same_new no
      have hlo := (congrFun hG lo).symm.trans upd_same
      clear hG
      obtain ⟨od, hod, okod, lod⟩ : ∃ od : Str, atI [V.str "", V.str "A", V.str "a1", V.str "abcdefghi", V.str "a b"] (x14 % 5) = some (.str od) ∧ okName od = false ∧ od.length ≤ 1000 := by
        have a0 := Int.emod_nonneg x14 (show (5 : Int) ≠ 0 by decide)
        have a1 := Int.emod_lt_of_pos x14 (show (0 : Int) < 5 by decide)
        have : x14 % 5 = 0 ∨ x14 % 5 = 1 ∨ x14 % 5 = 2 ∨ x14 % 5 = 3 ∨ x14 % 5 = 4 := by omega
        rcases this with h | h | h | h | h <;> rw [h]
        · exact ⟨"", rfl, by decide +kernel, by decide⟩
        · exact ⟨"A", rfl, by decide +kernel, by decide⟩
        · exact ⟨"a1", rfl, by decide +kernel, by decide⟩
        · exact ⟨"abcdefghi", rfl, by decide +kernel, by decide⟩
        · exact ⟨"a b", rfl, by decide +kernel, by decide⟩
      refine ⟨_, rfl, p, _, _, _, rfl, rfl, s1.seq hP, e14, .inl ⟨_, rfl, _, _, rfl, rfl, by show (0 : Int) < 5; decide, lo, _, _, _, rfl, rfl, SqL.of hlo, hod, ?_⟩⟩
      refine ⟨_, rfl, ?_⟩
      delta tNoPart
      refine ⟨_, rfl, _, rfl, slO (SqL.of (s1 _ _ hG)) fun b1 H2 s2 n2 h2 => ?_⟩
      rw [cut_takeG, sv_take] at h2
      refine ⟨_, rfl, by show 1 ≤ sizeLine; decide, fun l3 n3 => ?_⟩
      generalize hG : upd H2 l3 _ = H3
      have s3 : Same H2 H3 := hG ▸ same_new n3
      have h3 := (congrFun hG l3).symm.trans upd_same
      clear hG
      refine catO (s3 _ _ h2) h3 (by rw [len_sv, List.length_take]; show min hr0 gs.length + 1 ≤ 1000000; omega) fun b4 H4 s4 n4 h4 => ?_
      have h4 : H4 b4 = some (.lst (sv (gs.take hr0 ++ [od]))) := by rw [h4, sv_snoc']
      have s14 := s1.trans (s2.trans (s3.trans s4))
      refine ⟨_, rfl, _, rfl, _, rfl, _, rfl, slO (SqL.of (s14 _ _ hG)) fun b5 H5 s5 n5 h5 => ?_⟩
      have h5 : H5 b5 = some (.lst (sv ((gs.drop hr0).take (8 - hr0)))) := by
        rw [h5, show ((8 : Int)) = ((8 : Nat) : Int) from rfl, cut_mid hh.1, sv_drop, sv_take]
      refine catO (s5 _ _ h4) h5 (by rw [len_sv, len_sv, List.length_append, List.length_take, List.length_take, List.length_drop]; show min hr0 gs.length + 1 + min (8 - hr0) (gs.length - hr0) ≤ 1000000; omega) fun b6 H6 s6 n6 h6 => ?_
      have s16 := s14.trans (s5.trans s6)
      refine ⟨_, rfl, _, rfl, slO (SqL.of (s16 _ _ hG)) fun b7 H7 s7 n7 h7 => ?_⟩
      have h7 : H7 b7 = some (.lst (sv (gs.take 1))) := by
        rw [h7, show ((1 : Int)) = ((1 : Nat) : Int) from rfl, cut_takeG, sv_take]
      refine catO (s7 _ _ h6) h7 (by rw [List.length_append, len_sv, len_sv, len_sv, List.length_append, List.length_take, List.length_take, List.length_take, List.length_drop]; show min hr0 gs.length + 1 + min (8 - hr0) (gs.length - hr0) + min 1 gs.length ≤ 1000000; omega) fun b8 H8 s8 n8 h8 => ?_
      have s18 := s16.trans (s7.trans s8)
      have h8 : H8 b8 = some (.lst (sv (gs.take hr0 ++ od :: ((gs.drop hr0).take (8 - hr0) ++ gs.take 1)))) := by
        rw [h8, sv_app, sv_app]; simp
      refine ⟨_, rfl, _, rfl, _, rfl, by show 2 ≤ sizeLine; decide, fun t9 n9 => ?_⟩
      generalize hG : upd H8 t9 _ = H9
      have s9 : Same H8 H9 := hG ▸ same_new n9
      have h9 := (congrFun hG t9).symm.trans upd_same
      clear hG
      refine ⟨by show 1 ≤ sizeLine; decide, fun l10 n10 => ?_⟩
      generalize hG : upd H9 l10 _ = H10
      have s10 : Same H9 H10 := hG ▸ same_new n10
      have h10' := (congrFun hG l10).symm.trans upd_same
      clear hG
      have s1a := s18.trans (s9.trans s10)
      refine catO (s1a _ _ hD) h10' (by rw [tl]; show ps.length + 1 ≤ 1000000; omega) fun b11 H11 s11 n11 h11 => ?_
      refine ⟨_, rfl, by show 4 ≤ sizeLine; decide, fun R nR => ?_⟩
      generalize hG : upd H11 R _ = H12
      have s12 : Same H11 H12 := hG ▸ same_new nR
      have h12' := (congrFun hG R).symm.trans upd_same
      clear hG
      have sF := s1a.trans (s11.trans s12)
      have s8F := s9.trans (s10.trans (s11.trans s12))
      have h9F : H12 t9 = some (.tup (sv [z, z])) := s12 _ _ (s11 _ _ (s10 _ _ h9))
      have fa := fault_at (pre := gs.take hr0) (rest := (gs.drop hr0).take (8 - hr0) ++ gs.take 1) (x := od) (fun y hy => hg y (List.mem_of_mem_take hy)) (nd.sublist (List.take_sublist _ _)) (by rw [List.length_append, List.length_take, List.length_take, List.length_take, List.length_drop]; omega) (.inl okod)
      rw [List.length_take, Nat.min_eq_left hh.2] at fa
      refine kq R H12 sF ⟨b8, b11, _, ts ++ [t9], ps ++ [[z, z]], "guest", hr0, h12', s8F _ _ h8, by rw [List.map_append]; exact s12 _ _ h11, ((hT.same sF).cat (Lss.one h9F)), fun y hy => ?_, ?_, by rw [List.length_append]; show ps.length + 1 ≤ 1000; omega, fun q hq => ?_, .inl fa⟩
      · rcases List.mem_append.mp hy with hy | hy
        · exact gsl y (List.mem_of_mem_take hy)
        rcases List.mem_cons.mp hy with e | hy
        · rw [e]; exact lod
        rcases List.mem_append.mp hy with hy | hy
        · exact gsl y (List.mem_of_mem_drop (List.mem_of_mem_take hy))
        · exact gsl y (List.mem_of_mem_take hy)
      · rw [List.length_append, List.length_cons, List.length_append, List.length_take, List.length_take, List.length_take, List.length_drop]; omega
      · rcases List.mem_append.mp hq with hq | hq
        · exact pz q hq
        · rw [List.mem_singleton.mp hq]; exact zzok
    refine ifF (decide_eq_false fun z => w0 (V.int.inj z)) ?_
    refine ⟨fun σ G => H = G ∧ σ = [some (.ref g), some (.ref D), some (.ref p), some (.int wd), some (.int (a0 : Nat)), some (.str z), none, none, none, none, none, none, none], ?_, ?_⟩
    · refine ⟨_, rfl, rfl, _, rfl, ?_⟩
      by_cases w1 : wd = 1
      case neg => exact ifF (decide_eq_false fun z => w1 (V.int.inj z)) (ifF rfl ⟨rfl, rfl⟩)
      refine ifT (decide_eq_true (show V.int wd = V.int 1 by rw [w1])) ⟨_, rfl, g, _, rfl, .inl (SqL.of hG), _, _, rfl, rfl, _, rfl, ?_⟩
      by_cases hn0 : (((sv gs).length : Nat) : Int) > 0
      case neg => exact ifF (decide_eq_false hn0) (ifF rfl ⟨rfl, rfl⟩)
      refine ifT (decide_eq_true hn0) ⟨_, rfl, g, _, rfl, .inl (SqL.of hG), _, _, rfl, rfl, _, rfl, ?_⟩
      by_cases hn1 : (((sv gs).length : Nat) : Int) < 10
      case neg => exact ifF (decide_eq_false hn1) ⟨rfl, rfl⟩
      refine ifT (decide_eq_true hn1) ?_
      have hzm : z ∈ gs := hz.resolve_left fun h => by rw [len_sv, h.1] at hn0; exact absurd hn0 (by decide)
      refine ⟨_, rfl, _, rfl, _, rfl, by show 2 ≤ sizeLine; decide, fun l1 n1 => ?_⟩
      generalize hG : upd H l1 _ = H1
      have s1 : Same H H1 := hG ▸ same_new n1
      have h1' := (congrFun hG l1).symm.trans upd_same
      clear hG
      obtain ⟨od, hod, lod⟩ : ∃ od : Str, atI [V.str z, V.str "A"] (x14 % 2) = some (.str od) ∧ od.length ≤ 1000 := by
        have : x14 % 2 = 0 ∨ x14 % 2 = 1 := by omega
        rcases this with h | h <;> rw [h]
        · exact ⟨z, rfl, gsl z hzm⟩
        · exact ⟨"A", rfl, by decide⟩
      refine ⟨_, rfl, p, _, _, _, rfl, rfl, s1.seq hP, e14, .inl ⟨_, rfl, _, _, rfl, rfl, by show (0 : Int) < 2; decide, l1, _, _, _, rfl, rfl, SqL.of h1', hod, ?_⟩⟩
      refine ⟨by show 2 ≤ sizeLine; decide, fun l2 n2 => ?_⟩
      generalize hG : upd H1 l2 _ = H2
      have s2 : Same H1 H2 := hG ▸ same_new n2
      have h2' := (congrFun hG l2).symm.trans upd_same
      clear hG
      delta tNoPart
      have s12 := s1.trans s2
      refine ⟨_, rfl, g, _, rfl, .inl (SqL.of (s12 _ _ hG)), _, _, rfl, rfl, _, rfl, slO (SqL.of h2') fun b3 H3 s3 n3 h3 => ?_⟩
      obtain ⟨m, hm⟩ := Int.eq_ofNat_of_zero_le (show 0 ≤ 10 - (((sv gs).length : Nat) : Int) by omega)
      have h3 : H3 b3 = some (.lst (sv (([z, od] : List Str).take m))) := by
        rw [h3, hm, cut_takeG]; exact congrArg (fun q => some (HO.lst q)) (sv_take [z, od] m)
      have hml : ((([z, od] : List Str).take m)).length ≤ m ∧ ((([z, od] : List Str).take m)).length ≤ 2 := by
        rw [List.length_take]; show min m 2 ≤ m ∧ min m 2 ≤ 2; omega
      refine catO ((s12.trans s3) _ _ hG) h3 (by rw [len_sv, len_sv]; omega) fun b4 H4 s4 n4 h4 => ?_
      have em : (([z, od] : List Str).take m) = z :: (([od] : List Str).take (m - 1)) := by
        obtain ⟨m', rfl⟩ : ∃ m', m = m' + 1 := ⟨m - 1, by omega⟩
        rfl
      have h4 : H4 b4 = some (.lst (sv (gs ++ z :: (([od] : List Str).take (m - 1))))) := by rw [h4, sv_app, em]
      have hml2 : (([od] : List Str).take (m - 1)).length ≤ m - 1 := by rw [List.length_take]; omega
      refine ⟨_, rfl, _, rfl, g, _, rfl, .inl (SqL.of ((s12.trans (s3.trans s4)) _ _ hG)), ?_⟩
      refine ⟨by show 4 ≤ sizeLine; decide, fun R nR => ?_⟩
      generalize hG : upd H4 R _ = H5
      have s5 : Same H4 H5 := hG ▸ same_new nR
      have h5 := (congrFun hG R).symm.trans upd_same
      clear hG
      have sF := s12.trans (s3.trans (s4.trans s5))
      have fa := fault_at (pre := gs) (rest := ([od] : List Str).take (m - 1)) (x := z) hg nd (by omega) (.inr hzm)
      refine kq R H5 sF ⟨b4, D, _, ts, ps, "guest", gs.length, by rw [← gl]; exact h5, s5 _ _ h4, sF _ _ hD, hT.same sF, fun y hy => ?_, ?_, by omega, pz, .inl fa⟩
      · rcases List.mem_append.mp hy with hy | hy
        · exact gsl y hy
        rcases List.mem_cons.mp hy with e | hy
        · rw [e]; exact gsl z hzm
        · rw [List.mem_singleton.mp (List.mem_of_mem_take hy)]; exact lod
      · rw [List.length_append, List.length_cons]; omega
    rintro σ G ⟨rfl, rfl⟩
    refine ⟨_, rfl, rfl, _, rfl, ?_⟩
    by_cases w2 : wd = 2
    · refine ifT (decide_eq_true (show V.int wd = V.int 2 by rw [w2])) ?_
      refine ⟨by show 1 ≤ sizeLine; decide, fun l1 n1 => ?_⟩
      generalize hG : upd H l1 _ = H1
      have s1 : Same H H1 := hG ▸ same_new n1
      have h1' := (congrFun hG l1).symm.trans upd_same
      clear hG
      refine ⟨_, rfl, fun LD nLD => lc_it walk_str (PvS H1 LD fun i => sv (ltrs i)) (pv0 nLD rfl) (fun _ _ _ _ => trivial) ?_ ?_⟩
      · rintro i x Ga Gb hi q ⟨rfl, c, hc, rfl⟩
        have hi12 : i < 10 := hi
        have ec : c = 97 + i := by
          have h12 : ∀ i : Fin 10, (("abcdefghij" : Str)).cps[i.val]? = some (97 + i.val) := by decide +kernel
          have := h12 ⟨i, hi12⟩
          rw [hc] at this
          exact Option.some.inj this
        subst ec
        refine ⟨rfl, _, rfl, q.push nLD ?_ (by rw [len_sv, ltrs_len]; omega)⟩
        show sv (ltrs (i + 1)) = _
        unfold ltrs
        rw [List.range_succ, List.map_append]; exact sv_snoc' _ _
      rintro H2 ⟨s2, h2'⟩
      have h2' : H2 LD = some (.lst (sv (ltrs 10))) := h2'
      refine catO (s2 _ _ h1') h2' (by decide) fun b3 H3 s3 n3 h3 => ?_
      have h3 : H3 b3 = some (.lst (sv ("" :: ltrs 10))) := h3
      refine ⟨_, rfl, by show 4 ≤ sizeLine; decide, fun R nR => ?_⟩
      generalize hG : upd H3 R _ = H4
      have s4 : Same H3 H4 := hG ▸ same_new nR
      have h4 := (congrFun hG R).symm.trans upd_same
      clear hG
      have sF := s1.trans (s2.trans (s3.trans s4))
      refine kq R H4 sF ⟨b3, D, _, ts, ps, "guests", 0, h4, s4 _ _ h3, sF _ _ hD, hT.same sF, fun y hy => ?_, by decide, by omega, pz, .inl ?_⟩
      · rcases List.mem_cons.mp hy with e | hy
        · rw [e]; decide
        · have := ((ltrs_ok (n := 10) (by decide)).g y hy).le; omega
      · unfold guestFault; rw [if_pos (by decide)]
    refine ifF (decide_eq_false fun z => w2 (V.int.inj z)) ?_
    refine ⟨_, rfl, by show 2 ≤ sizeLine; decide, fun t1 n1 => ?_⟩
    generalize hG : upd H t1 _ = H1
    have s1 : Same H H1 := hG ▸ same_new n1
    have y1 := (congrFun hG t1).symm.trans upd_same
    clear hG
    refine ⟨_, rfl, by show 2 ≤ sizeLine; decide, fun t2 n2 => ?_⟩
    generalize hG : upd H1 t2 _ = H2
    have s2 : Same H1 H2 := hG ▸ same_new n2
    have y2 := (congrFun hG t2).symm.trans upd_same
    clear hG
    refine ⟨_, rfl, _, rfl, by show 2 ≤ sizeLine; decide, fun t3 n3 => ?_⟩
    generalize hG : upd H2 t3 _ = H3
    have s3 : Same H2 H3 := hG ▸ same_new n3
    have y3 := (congrFun hG t3).symm.trans upd_same
    clear hG
    refine ⟨_, rfl, by show 1 ≤ sizeLine; decide, fun t4 n4 => ?_⟩
    generalize hG : upd H3 t4 _ = H4
    have s4 : Same H3 H4 := hG ▸ same_new n4
    have y4 := (congrFun hG t4).symm.trans upd_same
    clear hG
    have s14 := s1.trans (s2.trans (s3.trans s4))
    refine ⟨_, rfl, _, rfl, _, rfl, by show 2 ≤ sizeLine; decide, fun l5 n5 => ?_⟩
    generalize hG : upd H4 l5 _ = H5
    have s5 : Same H4 H5 := hG ▸ same_new n5
    have y5 := (congrFun hG l5).symm.trans upd_same
    clear hG
    refine catO ((s14.trans s5) _ _ hG) y5 (by rw [len_sv]; show gs.length + 2 ≤ 1000000; omega) fun l6 H6 s6 n6 y6 => ?_
    have y6 : H6 l6 = some (.lst (sv (gs ++ [z, z]))) := by rw [y6]; exact congrArg (fun q => some (HO.lst q)) (sv_app gs [z, z])
    delta tNoPart
    refine ⟨_, rfl, slO (SqL.of y6) fun l7 H7 s7 n7 y7 => ?_⟩
    have y7 : H7 l7 = some (.lst (sv ((gs ++ [z, z]).take 3))) := by rw [y7, show ((3 : Int)) = ((3 : Nat) : Int) from rfl, cut_takeG, sv_take]
    refine ⟨l7, _, rfl, .inl ⟨SqL.of y7, fun t5 n8 => ?_⟩⟩
    generalize hG : upd H7 t5 _ = H8
    have s8 : Same H7 H8 := hG ▸ same_new n8
    have y8 := (congrFun hG t5).symm.trans upd_same
    clear hG
    refine ⟨by show 5 ≤ sizeLine; decide, fun l9 n9 => ?_⟩
    generalize hG : upd H8 l9 _ = H9
    have s9 : Same H8 H9 := hG ▸ same_new n9
    have y9 := (congrFun hG l9).symm.trans upd_same
    clear hG
    have s59 := s5.trans (s6.trans (s7.trans (s8.trans s9)))
    have s19 := s14.trans s59
    obtain ⟨ta, c, hta, htc, hbad, hcl, hco⟩ : ∃ (ta : Addr) (c : List Str), atI [V.ref t1, V.ref t2, V.ref t3, V.ref t4, V.ref t5] (x14 % 5) = some (.ref ta) ∧ H9 ta = some (.tup (sv c)) ∧ (c.length ≠ 2 ∨ stray gs c ≠ none) ∧ c.length ≤ 20 ∧ ∀ y ∈ c, Okz y := by
      have a0 := Int.emod_nonneg x14 (show (5 : Int) ≠ 0 by decide)
      have a1 := Int.emod_lt_of_pos x14 (show (0 : Int) < 5 by decide)
      have : x14 % 5 = 0 ∨ x14 % 5 = 1 ∨ x14 % 5 = 2 ∨ x14 % 5 = 3 ∨ x14 % 5 = 4 := by omega
      rcases this with h | h | h | h | h <;> rw [h]
      · exact ⟨t1, [z, "zzzzzzzz"], rfl, s59 _ _ (s4 _ _ (s3 _ _ (s2 _ _ y1))), .inr (stray_out (by simp) hz8), (okz2 gz good_z8).1, (okz2 gz good_z8).2⟩
      · exact ⟨t2, ["zzzzzzzz", z], rfl, s59 _ _ (s4 _ _ (s3 _ _ y2)), .inr (stray_out (by simp) hz8), (okz2 good_z8 gz).1, (okz2 good_z8 gz).2⟩
      · exact ⟨t3, [z, z], rfl, s59 _ _ (s4 _ _ y3), .inr stray_dup, zzok.1, zzok.2⟩
      · exact ⟨t4, [z], rfl, s59 _ _ y4, .inl (by simp), by simp, fun y hy => by rw [List.mem_singleton.mp hy]; exact okz_good gz⟩
      · refine ⟨t5, (gs ++ [z, z]).take 3, rfl, s9 _ _ y8, ?_, by rw [List.length_take]; omega, fun y hy => ?_⟩
        · rcases hz with ⟨h1, h2⟩ | h1
          · subst h1; exact .inr stray_dup
          · left
            have := List.length_pos_of_mem h1
            rw [List.length_take, List.length_append]
            show min 3 (gs.length + 2) ≠ 2
            omega
        · rcases List.mem_append.mp (List.mem_of_mem_take hy) with h | h
          · exact okz_good (hg y h)
          · exact zzok.2 y h
    refine ⟨_, rfl, p, _, _, _, rfl, rfl, s19.seq hP, e14, .inl ⟨_, rfl, _, _, rfl, rfl, by show (0 : Int) < 5; decide, l9, _, _, _, rfl, rfl, SqL.of y9, hta, ?_⟩⟩
    refine ⟨_, rfl, ?_⟩
    refine ⟨_, rfl, slO (SqL.of (s19 _ _ hD)) fun l10 H10 s10 n10 y10 => ?_⟩
    have y10 : H10 l10 = some (.lst ((ts.take 1).map V.ref)) := by rw [y10, show ((1 : Int)) = ((1 : Nat) : Int) from rfl, cut_takeG, List.map_take]
    have s1a := s19.trans s10
    have hT1 : Lss .tup H10 (ts.take 1) (ps.take 1) := (hT.same s1a).tk 1
    have l1 : (ps.take 1).length ≤ 1 := by rw [List.length_take]; omega
    refine ⟨l10, rfl, ⟨_, SqL.of y10⟩, fun LD nLD => lc_it walk_list (fun i G => LcG (fun r => .tup (sv r)) H10 LD (((ps.take 1).take i).map List.reverse) G) (lcg0 nLD) (fun i G _ q => SqL.of (q.1 _ _ y10)) ?_ ?_⟩
    · rintro i x Ga Gb hi q ⟨rfl, hx⟩
      obtain ⟨u, hu, rfl⟩ := refs_get hx
      obtain ⟨r, hr2, hru⟩ := (hT1.same q.1).get hu
      obtain ⟨a, b, rfl, _⟩ := hps.two r (List.mem_of_mem_take (List.mem_of_getElem? hr2))
      refine ⟨rfl, _, rfl, u, _, _, _, rfl, rfl, SqT.of hru, rfl, _, rfl, u, _, _, _, rfl, rfl, SqT.of hru, rfl, by show 2 ≤ sizeLine; decide, fun t nt => ?_⟩
      generalize hG : upd Gb t _ = G2
      have t2' : Same Gb G2 := hG ▸ same_new nt
      have ht := (congrFun hG t).symm.trans upd_same
      clear hG
      rw [take_succ hr2, List.map_append]
      refine q.push nLD t2' ht (fun e => ?_) (by rw [List.length_map, List.length_take, List.length_take]; omega)
      obtain ⟨_, us', hd', _⟩ := q
      rw [e, hd'] at nt; cases nt
    rintro H11 ⟨s11, lts, hLD, hlts, _⟩
    have hlts : Lss .tup H11 lts ((ps.take 1).map List.reverse) := by
      have e := hlts
      rw [List.length_map, hT1.len, List.take_length] at e
      exact e.lss
    have s1b := s1a.trans s11
    have lq : ∀ q ∈ (ps.take 1).map List.reverse, q.length ≤ 20 ∧ ∀ y ∈ q, Okz y := fun q hq => by
      obtain ⟨r, hr2, rfl⟩ := List.mem_map.mp hq
      have := pz r (List.mem_of_mem_take hr2)
      exact ⟨by rw [List.length_reverse]; exact this.1, fun y hy => this.2 y (List.mem_reverse.mp hy)⟩
    refine ⟨fun σ G => Same H G ∧ ∃ (at' : Nat) (a LD : Addr) (c : List Str) (lts : List Addr) (lps : List (List Str)) (u10 : Option V), σ = [some (.ref g), some (.ref D), some (.ref p), some (.int wd), some (.int (at' : Nat)), some (.str z), none, none, some (.ref a), some (.ref LD), u10, none, none] ∧ at' ≤ ps.length ∧ G a = some (.tup (sv c)) ∧ badOne gs (ps.take at') c ∧ c.length ≤ 20 ∧ (∀ y ∈ c, Okz y) ∧ G LD = some (.lst (lts.map V.ref)) ∧ Lss .tup G lts lps ∧ lps.length ≤ 10 ∧ ∀ q ∈ lps, q.length ≤ 20 ∧ ∀ y ∈ q, Okz y, ?_, ?_⟩
    · refine ⟨_, rfl, _, _, rfl, rfl, _, rfl, ?_⟩
      by_cases w6 : wd > 6
      case neg => exact ifF (decide_eq_false w6) (ifF rfl ⟨s1b, a0, ta, LD, c, lts, _, none, rfl, ha1, s11 _ _ (s10 _ _ htc), hbad.elim .inl fun h => .inr (.inl h), hcl, hco, hLD, hlts, by rw [List.length_map]; omega, lq⟩)
      refine ifT (decide_eq_true w6) ⟨_, rfl, D, _, rfl, .inl (SqL.of (s1b _ _ hD)), _, _, rfl, rfl, _, rfl, ?_⟩
      by_cases hp0 : (((ts.map V.ref).length : Nat) : Int) > 0
      case neg => exact ifF (decide_eq_false hp0) ⟨s1b, a0, ta, LD, c, lts, _, none, rfl, ha1, s11 _ _ (s10 _ _ htc), hbad.elim .inl fun h => .inr (.inl h), hcl, hco, hLD, hlts, by rw [List.length_map]; omega, lq⟩
      refine ifT (decide_eq_true hp0) ?_
      refine ⟨_, rfl, by show 2 ≤ sizeLine; decide, fun t12 n12 => ?_⟩
      generalize hG : upd H11 t12 _ = H12
      have s12 : Same H11 H12 := hG ▸ same_new n12
      have y12 := (congrFun hG t12).symm.trans upd_same
      clear hG
      refine ⟨by show 1 ≤ sizeLine; decide, fun L13 n13 => ?_⟩
      generalize hG : upd H12 L13 _ = H13
      have s13 : Same H12 H13 := hG ▸ same_new n13
      have y13 := (congrFun hG L13).symm.trans upd_same
      clear hG
      have s1d := s1b.trans (s12.trans s13)
      have hT13 := hT.same s1d
      obtain ⟨k, hk⟩ := Int.eq_ofNat_of_zero_le (Int.emod_nonneg x11 (show (((ts.map V.ref).length : Nat) : Int) ≠ 0 by omega))
      have hkl : k < ps.length := by
        have := Int.emod_lt_of_pos x11 hp0
        omega
      refine ⟨_, rfl, p, _, _, _, rfl, rfl, s1d.seq hP, e11, .inl ⟨_, rfl, _, rfl, D, _, rfl, .inl (SqL.of (s1d _ _ hD)), _, _, rfl, rfl, hp0, _, _, rfl, rfl, ?_⟩⟩
      dsimp only
      rw [hk, show (1 : Int) + (k : Int) = ((k + 1 : Nat) : Int) by omega]
      obtain ⟨m, hm⟩ := Int.eq_ofNat_of_zero_le (Int.emod_nonneg x13 (show ((k + 1 : Nat) : Int) ≠ 0 by omega))
      have hml : m < k + 1 := by
        have := Int.emod_lt_of_pos x13 (show (0 : Int) < ((k + 1 : Nat) : Int) by omega)
        omega
      obtain ⟨ua, q, eu, eq, hua⟩ := hT13.lg.ex (show m < ps.length by omega)
      have hqm : q ∈ ps.take (k + 1) := List.mem_of_getElem? (i := m) (by rw [List.getElem?_take, if_pos hml]; exact eq)
      obtain ⟨a, b, rfl, hga, hgb, hab⟩ := hps.two q (List.mem_of_getElem? eq)
      refine ⟨_, rfl, _, rfl, p, _, _, _, rfl, rfl, s1d.seq hP, e13, .inl ⟨_, rfl, _, rfl, _, _, rfl, rfl, by omega, D, _, _, _, rfl, rfl, SqL.of (s1d _ _ hD), by rw [hm]; exact atR_of eu, ?_⟩⟩
      refine ⟨_, rfl, _, rfl, ua, _, _, _, rfl, rfl, SqT.of hua, rfl, _, rfl, ua, _, _, _, rfl, rfl, SqT.of hua, rfl, by show 2 ≤ sizeLine; decide, fun t14 n14 => ?_⟩
      generalize hG : upd H13 t14 _ = H14
      have s14' : Same H13 H14 := hG ▸ same_new n14
      have y14 := (congrFun hG t14).symm.trans upd_same
      clear hG
      refine ⟨by show 2 ≤ sizeLine; decide, fun L15 n15 => ?_⟩
      generalize hG : upd H14 L15 _ = H15
      have s15 : Same H14 H15 := hG ▸ same_new n15
      have y15 := (congrFun hG L15).symm.trans upd_same
      clear hG
      have s1f := s1d.trans (s14'.trans s15)
      obtain ⟨oa, c', hoa, hoc, hper⟩ : ∃ (oa : Addr) (c' : List Str), atI [V.ref ua, V.ref t14] (x14 % 2) = some (.ref oa) ∧ H15 oa = some (.tup (sv c')) ∧ (c' = [a, b] ∨ c' = [b, a]) := by
        have : x14 % 2 = 0 ∨ x14 % 2 = 1 := by omega
        rcases this with h | h <;> rw [h]
        · exact ⟨ua, [a, b], rfl, s15 _ _ (s14' _ _ hua), .inl rfl⟩
        · exact ⟨t14, [b, a], rfl, s15 _ _ y14, .inr rfl⟩
      refine ⟨_, rfl, p, _, _, _, rfl, rfl, s1f.seq hP, e14, .inl ⟨_, rfl, _, _, rfl, rfl, by show (0 : Int) < 2; decide, L15, _, _, _, rfl, rfl, SqL.of y15, hoa, ?_⟩⟩
      have hc' : c'.length ≤ 20 ∧ ∀ y ∈ c', Okz y := by
        rcases hper with h | h <;> rw [h]
        · exact okz2 (hg a hga) (hg b hgb)
        · exact okz2 (hg b hgb) (hg a hga)
      refine ⟨s1f, k + 1, oa, L13, c', [t12], [[z, "zzzzzzzz"]], _, rfl, by omega, hoc, .inr (.inr ⟨[a, b], hqm, ?_⟩), hc'.1, hc'.2, s15 _ _ (s14' _ _ y13), Lss.one (s15 _ _ (s14' _ _ (s13 _ _ y12))), by show 1 ≤ 10; decide, fun q hq => by rw [List.mem_singleton.mp hq]; exact okz2 gz good_z8⟩
      rcases hper with h | h <;> rw [h]
      exact List.Perm.swap b a []
    rintro σ G ⟨sG, at', a, LD, c, lts, lps, u10, rfl, hat, ha, hbo, hcl, hco, hLD, hlts, hll, hlq⟩
    refine ⟨_, rfl, ?_⟩
    refine ⟨_, rfl, ?_⟩
    refine ⟨_, rfl, _, rfl, slO (SqL.of (sG _ _ hD)) fun b1 H1 s1 n1 y1 => ?_⟩
    rw [cut_takeG] at y1
    refine ⟨_, rfl, by show 1 ≤ sizeLine; decide, fun l2 n2 => ?_⟩
    generalize hG : upd H1 l2 _ = H2
    have s2 : Same H1 H2 := hG ▸ same_new n2
    have y2 := (congrFun hG l2).symm.trans upd_same
    clear hG
    refine catO (s2 _ _ y1) y2 (by rw [List.length_take, tl]; show min at' ps.length + 1 ≤ 1000000; omega) fun b3 H3 s3 n3 y3 => ?_
    have sG3 := sG.trans (s1.trans (s2.trans s3))
    refine ⟨_, rfl, _, rfl, _, rfl, slO (SqL.of (sG3 _ _ hD)) fun b4 H4 s4 n4 y4 => ?_⟩
    rw [cut_dropG] at y4
    refine catO (s4 _ _ y3) y4 (by rw [List.length_append, List.length_take, List.length_drop, tl]; show min at' ps.length + 1 + (ps.length - at') ≤ 1000000; omega) fun b5 H5 s5 n5 y5 => ?_
    have s05 := s1.trans (s2.trans (s3.trans (s4.trans s5)))
    have ll : (lts.map V.ref).length = lps.length := by rw [List.length_map, hlts.len]
    refine ⟨_, rfl, catO y5 (s05 _ _ hLD) (by rw [List.length_append, List.length_append, List.length_take, List.length_drop, tl, ll]; show min at' ps.length + 1 + (ps.length - at') + lps.length ≤ 1000000; omega) fun b6 H6 s6 n6 y6 => ?_⟩
    refine ⟨_, rfl, by show 4 ≤ sizeLine; decide, fun R nR => ?_⟩
    generalize hG : upd H6 R _ = H7
    have s7 : Same H6 H7 := hG ▸ same_new nR
    have y7 := (congrFun hG R).symm.trans upd_same
    clear hG
    have s07 := s05.trans (s6.trans s7)
    have sF := sG.trans s07
    have hTF := hT.same sF
    have pa := pair_at (B := ps.drop at' ++ lps) (hps.take at') hbo (fault_none' hg nd hl)
    rw [List.length_take, Nat.min_eq_left hat] at pa
    refine kq R H7 sF ⟨g, b6, gs, ts.take at' ++ [a] ++ ts.drop at' ++ lts, ps.take at' ++ [c] ++ ps.drop at' ++ lps, "pair", at', y7, sF _ _ hG, ?_, ?_, gsl, by omega, ?_, fun q hq => ?_, ?_⟩
    · rw [s7 _ _ y6, List.map_append, List.map_append, List.map_append, List.map_take, List.map_drop]; rfl
    · exact (((hTF.tk at').cat (Lss.one (s07 _ _ ha))).cat (hTF.dp at')).cat (hlts.same s07)
    · rw [List.length_append, List.length_append, List.length_append, List.length_take, List.length_drop]
      show min at' ps.length + 1 + (ps.length - at') + lps.length ≤ 1000
      omega
    · rcases List.mem_append.mp hq with hq | hq
      · rcases List.mem_append.mp hq with hq | hq
        · rcases List.mem_append.mp hq with hq | hq
          · exact pz q (List.mem_of_mem_take hq)
          · rw [List.mem_singleton.mp hq]; exact ⟨hcl, hco⟩
        · exact pz q (List.mem_of_mem_drop hq)
      · exact hlq q hq
    · rw [show ps.take at' ++ [c] ++ ps.drop at' ++ lps = ps.take at' ++ c :: (ps.drop at' ++ lps) by simp]
      exact pa
end
end My
set_option maxRecDepth 100000
set_option maxHeartbeats 4000000
set_option exponentiation.threshold 10000
namespace My
open PySem L2
open C8 (pss_cut)
def padded (z : Str) : Str := cutS (z ++ "zzzzzzzz") none (some 8)
theorem z8_cps : (("zzzzzzzz" : Str)).cps.toList = List.replicate 8 122 := by decide
theorem pad_cps (z : Str) : (padded z).cps.toList = (z.cps.toList ++ List.replicate 8 122).take 8 := by
  have e : (z ++ "zzzzzzzz").cps.toList = z.cps.toList ++ List.replicate 8 122 := by rw [append_cps, Array.toList_append, z8_cps]
  have el : (z ++ "zzzzzzzz").length = (z.cps.toList ++ List.replicate 8 122).length := by rw [← e, Array.length_toList]; rfl
  unfold padded cutS
  rw [show ((8 : Int)) = ((8 : Nat) : Int) from rfl, HT.sIx_none, HT.sIx_nat, e, el, List.drop_zero, Nat.sub_zero]
  show List.take (min 8 _) _ = _
  rw [Nat.min_eq_left (by rw [List.length_append, List.length_replicate]; omega)]
theorem pad_len (z : Str) : (padded z).length = 8 := by
  show (padded z).cps.size = 8
  rw [← Array.length_toList, pad_cps, List.length_take, List.length_append, List.length_replicate]; omega
theorem pad_good {z : Str} (h : Good z) : Good (padded z) := by
  refine ⟨by rw [pad_len]; decide, by rw [pad_len]; decide, fun c hc => ?_⟩
  rw [pad_cps] at hc
  rcases List.mem_append.mp (List.mem_of_mem_take hc) with q | q
  · exact h.let_ c q
  · rw [List.eq_of_mem_replicate q]; decide
theorem pad_ne8 {z : Str} (h7 : z.length ≤ 7) (hl : ∃ c ∈ z.cps.toList, c < 122) : padded z ≠ "zzzzzzzz" := fun e => by
  obtain ⟨c, hc, hlt⟩ := hl
  have h := pad_cps z
  rw [e, z8_cps] at h
  have hz : z.cps.toList.length ≤ 7 := by rw [Array.length_toList]; exact h7
  have hm : c ∈ (z.cps.toList ++ List.replicate 8 122).take 8 := by
    rw [List.take_append, List.take_of_length_le (by omega)]
    exact List.mem_append_left _ hc
  rw [← h] at hm
  have := List.eq_of_mem_replicate hm
  omega
theorem pad_neS {z : Str} (h7 : z.length ≤ 7) : padded z ≠ "stranger" := fun e => by
  have h := pad_cps z
  have hz : z.cps.toList.length ≤ 7 := by rw [Array.length_toList]; exact h7
  have h1 : ((z.cps.toList ++ List.replicate 8 122).take 8)[7]? = some 122 := by
    rw [List.getElem?_take, if_pos (by decide), List.getElem?_append_right (by omega), List.getElem?_replicate, if_pos (by omega)]
  rw [← h, e] at h1
  revert h1
  decide
structure Gs (gs : List Str) : Prop where
  g : ∀ z ∈ gs, Good z
  nd : gs.Nodup
  z8 : ("zzzzzzzz" : Str) ∉ gs
  st : ("stranger" : Str) ∉ gs
theorem gs_of {ns : List Str} (h : Nms ns) (hl : Low ns) : Gs ns := by
  have e8 : ("zzzzzzzz" : Str).length = 8 := by decide
  have es : ("stranger" : Str).length = 8 := by decide
  exact ⟨fun z hz => (h.2 z hz).1, h.1, fun hm => by have := (h.2 _ hm).2; omega, fun hm => by have := (h.2 _ hm).2; omega⟩
theorem gs_set {ns : List Str} {k : Nat} {z : Str} (h : Nms ns) (hl : Low ns) (hk : ns[k]? = some z) : Gs (ns.set k (padded z)) := by
  have hzm := List.mem_of_getElem? hk
  have hkl := (List.getElem?_eq_some_iff.mp hk).1
  have h7 := (h.2 z hzm).2
  have b := gs_of h hl
  have mem : ∀ y, y ∈ ns.set k (padded z) → y = padded z ∨ y ∈ ns := fun y hy => by
    rcases List.mem_or_eq_of_mem_set hy with q | q
    · exact .inr q
    · exact .inl q
  refine ⟨fun y hy => ?_, ?_, fun hm => ?_, fun hm => ?_⟩
  · rcases mem y hy with e | e
    · rw [e]; exact pad_good (h.2 z hzm).1
    · exact b.g y e
  · have n1 := h.1
    rw [List.nodup_iff_pairwise_ne, List.pairwise_iff_getElem] at n1 ⊢
    intro i j hi hj hij
    have hi' : i < ns.length := by rw [List.length_set] at hi; exact hi
    have hj' : j < ns.length := by rw [List.length_set] at hj; exact hj
    rw [List.getElem_set, List.getElem_set]
    have big : ∀ m (hm : m < ns.length), padded z ≠ ns[m] := fun m hm e => by
      have := (h.2 _ (List.getElem_mem hm)).2
      rw [← e, pad_len] at this; omega
    split
    · rw [if_neg (by omega)]
      exact big j hj'
    · split
      · exact fun e => big i hi' e.symm
      · exact n1 i j hi' hj' hij
  · rcases mem _ hm with e | e
    · exact pad_ne8 h7 (hl z hzm) e.symm
    · exact b.z8 e
  · rcases mem _ hm with e | e
    · exact pad_neS h7 e.symm
    · exact b.st e
end My
set_option maxRecDepth 100000
set_option maxHeartbeats 16000000
set_option exponentiation.threshold 10000
namespace My
open PySem L2
open C8 (pss_cut)
theorem PrI.len45 {gs : List Str} {full : Bool} {c : Nat → Nat → Prop} {J I : Nat} {ps : List (List Str)} (h : PrI gs full c J I ps) (hl : gs.length ≤ 10) : ps.length ≤ 45 := by
  have : ps.length ≤ ((List.range 10).flatMap fun j => (List.range j).map fun i => [gs.getD i "", gs.getD j ""]).length := by
    refine nodup_leG h.nd fun q hq => ?_
    obtain ⟨i, j, _, b, d, _, rfl⟩ := h.of q hq
    exact List.mem_flatMap.mpr ⟨j, List.mem_range.mpr (by omega), List.mem_map.mpr ⟨i, List.mem_range.mpr b, rfl⟩⟩
  exact this
theorem together_comm {gi : List (List Nat)} {i j : Nat} : together gi i j ↔ together gi j i := ⟨fun ⟨g, a, b, c⟩ => ⟨g, a, c, b⟩, fun ⟨g, a, b, c⟩ => ⟨g, a, c, b⟩⟩
theorem across_met {gs : List Str} {gi : List (List Nat)} {ps : List (List Str)} (nd : gs.Nodup) (h : PrI gs true (fun i j => ¬ together gi i j) gs.length 0 ps) {i j : Nat} (hi : i < gs.length) (hj : j < gs.length) (hne : i ≠ j) : MM gs ps i j = true ↔ ¬ together gi i j := by
  have key : ∀ {i j : Nat}, i < j → j < gs.length → (MM gs ps i j = true ↔ ¬ together gi i j) := fun {i j} hij hj => by
    unfold MM metB
    rw [Bool.or_eq_true, decide_eq_true_iff, decide_eq_true_iff]
    constructor
    · rintro (q | q)
      · obtain ⟨i', j', _, a, b, c, e⟩ := h.of _ q
        simp only [List.cons.injEq, and_true] at e
        have e1 := getD_inj nd (by omega) (by omega) e.1
        have e2 := getD_inj nd (by omega) (by omega) e.2
        subst e1 e2
        exact c rfl
      · obtain ⟨i', j', _, a, b, c, e⟩ := h.of _ q
        simp only [List.cons.injEq, and_true] at e
        have e1 := getD_inj nd (by omega) (by omega) e.1
        have e2 := getD_inj nd (by omega) (by omega) e.2
        omega
    · intro q
      exact .inl (h.all rfl i j (.inl hj) hij hj q)
  rcases Nat.lt_or_gt_of_ne hne with q | q
  · exact key q hj
  · rw [MM_sy, key q hi, together_comm]
/-- without pairs each guest is a company of its own -/
theorem mx_none {n : Nat} {L : List Nat} : Mx (fun _ _ => false) n L ↔ ∃ i, i < n ∧ L = [i] := by
  constructor
  · intro h
    match L, h with
    | [], h => exact absurd rfl h.ne
    | [a], h => exact ⟨a, h.lt a (by simp), rfl⟩
    | a :: b :: t, h =>
      have := (h.iff a (h.lt a (by simp))).mp (by simp) b (by simp)
      have hab := (List.pairwise_cons.mp h.asc).1 b (by simp)
      exact absurd (this (by omega)) (by simp)
  · rintro ⟨i, hi, rfl⟩
    refine ⟨by simp, fun x hx => by rw [List.mem_singleton.mp hx]; exact hi, by simp, fun x hx => ?_⟩
    rw [List.mem_singleton]
    constructor
    · intro e j hj hne
      rw [List.mem_singleton.mp hj] at hne
      exact absurd e.symm hne
    · intro q
      exact Classical.byContradiction fun hne => absurd (q i (by simp) fun e => hne e.symm) (by simp)
theorem comps_none (gs : List Str) : comps gs [] = gs.map fun z => [z] := by
  have em : MM gs [] = fun _ _ => false := by funext i j; rfl
  have pe : (progC (MM gs []) gs.length).Perm ((List.range gs.length).map fun i => [i]) := by
    rw [em]
    refine (List.perm_ext_iff_of_nodup (nodup_progC _ _) (nodup_map List.nodup_range fun x _ y _ e => by simpa using e)).mpr fun L => ?_
    rw [mem_progC, mx_none, List.mem_map]
    exact ⟨fun ⟨i, hi, e⟩ => ⟨i, List.mem_range.mpr hi, e.symm⟩, fun ⟨i, hi, e⟩ => ⟨i, List.mem_range.mp hi, e.symm⟩⟩
  have so : srtL ((List.range gs.length).map fun i => [i]) = (List.range gs.length).map fun i => [i] := by
    refine ((srtL_perm _)).eq_of_pairwise (le := fun p q => iL p ≤ iL q) (fun x y _ _ h1 h2 => iL_inj (List.le_antisymm h1 h2)) (srtL_le _) ?_
    rw [List.pairwise_map]
    refine List.pairwise_lt_range.imp fun {a b} h => ?_
    show [(a : Int)] ≤ [(b : Int)]
    exact List.cons_le_cons_iff.mpr (.inl (by omega))
  unfold comps
  rw [srtL_congr pe, so, List.map_map]
  refine List.ext_getElem? fun i => ?_
  rw [List.getElem?_map, List.getElem?_map]
  by_cases hi : i < gs.length
  · rw [List.getElem?_range hi, List.getElem?_eq_getElem hi]
    show some (pickS gs [i]) = some [gs[i]]
    unfold pickS
    rw [List.filterMap_cons, List.getElem?_eq_getElem hi]; rfl
  · rw [List.getElem?_eq_none (by rw [List.length_range]; omega), List.getElem?_eq_none (by omega)]; rfl
theorem app_same {G0 G : Hp} {D : Addr} {o : HO} (nD : G0 D = none) (s : Same G0 G) : Same G0 (upd G D o) := fun b u e => by rw [upd_ne (ne_of_none e nD)]; exact s _ _ e
section
variable {P : Program} {w : World} {K : PySem.W.Frag} {mg : Str → Option Value} {base : Heap} {A : Ad}
def spMk (C : Addr) (lt : List V → HO) : Sp := fun vs H Q E => ∃ (p g r dx : Addr) (gs : List Str) (ts : List Addr) (ps : List (List Str)), vs = [.ref p, .ref g, .ref r] ∧ H p = some (.ins C dx []) ∧ LT H g (sv gs) ∧ H r = some (lt (ts.map V.ref)) ∧ LsT H ts ps ∧ Gs gs ∧ gs.length ≤ 10 ∧ PsGood gs ps ∧ ps.length ≤ 1000 ∧ ∀ H', (∀ b o, b ≠ p → H b = some o → H' b = some o) → Mt C H' p gs ps → Q .non H'
theorem pairs_okz {gs : List Str} {ps : List (List Str)} (hg : ∀ z ∈ gs, Good z) (h : PsGood gs ps) : ∀ q ∈ ps, q.length ≤ 20 ∧ ∀ z ∈ q, Okz z := fun q hq => by
  obtain ⟨a, b, rfl, ha, hb, _⟩ := h.two q hq
  refine ⟨by show 2 ≤ 20; decide, fun y hy => ?_⟩
  rcases List.mem_cons.mp hy with e | hy
  · rw [e]; exact okz_good (hg a ha)
  · rw [List.mem_singleton.mp hy]; exact okz_good (hg b hb)
theorem mk_imp {C B : Addr} {lt : List V → HO} : ∀ vs H Q E, spMk C lt vs H Q E → spMkX C B lt vs H Q E0 := by
  rintro vs H Q E ⟨p, g, r, dx, gs, ts, ps, e, h1, h2, h3, h4, hg, hl, hp, hpl, k⟩
  refine ⟨p, g, r, dx, gs, ts, ps, e, h1, h2, h3, h4, fun z hz => by have := (hg.g z hz).le; omega, by omega, hpl, pairs_okz hg.g hp, fun _ _ => k, fun pt i hb => ?_, fun i _ hi _ hn => absurd (hp.ok hi) hn⟩
  rw [fault_none' hg.g hg.nd hl] at hb; cases hb
theorem ok_mkQ (T : Txt P K mg A) : FnOk P w K mg base CX0 5 A.a_Meetings_init A.d_Meetings_init ["self", "guests", "pairs"] (fun vs H Q E => spMk A.C_Meetings .lst vs H Q E ∨ spMk A.C_Meetings .tup vs H Q E) :=
  fnok_or (quiet (ok_mk T) mk_imp) (quiet (ok_mkT T) mk_imp)
theorem mk_meet {C : Addr} {lt : List V → HO} {H : Hp} {g r x dx : Addr} {gs : List Str} {ts : List Addr} {ps : List (List Str)} {Q2 : VK} (hG : LT H g (sv gs)) (hR : H r = some (lt (ts.map V.ref))) (hT : LsT H ts ps) (hg : Gs gs) (hl : gs.length ≤ 10) (hp : PsGood gs ps) (hpl : ps.length ≤ 1000) (hx : H x = none) (hdx : H dx = none) (hne : dx ≠ x) (k : ∀ H', Same H H' → Mt C H' x gs ps → Q2 .non H') :
    spMk C lt (.ref x :: ([.ref g, .ref r] ++ [])) (upd (upd H dx (.own x)) x (.ins C dx [])) Q2 E0 := by
  have s1 := same_new (o := .own x) hdx
  have hx1 : upd H dx (.own x) x = none := by rw [upd_ne hne.symm]; exact hx
  have s2 : Same H (upd (upd H dx (.own x)) x (.ins C dx [])) := s1.trans (same_new hx1)
  exact ⟨x, g, r, dx, gs, ts, ps, rfl, upd_same, hG.same s2, s2 _ _ hR, hT.same s2, hg, hl, hp, hpl, fun H' hk hM => k H' (fun b o e => hk b o (ne_of_none e hx) (s2 _ _ e)) hM⟩
end
end My
set_option maxRecDepth 100000
set_option maxHeartbeats 16000000
set_option exponentiation.threshold 10000
namespace My
open PySem L2
open C8 (pss_cut)
theorem ixN_natM {n j : Nat} (hj : j < n) : ixN n (j : Int) = some j := by
  unfold ixN
  rw [if_pos (by omega), if_pos (by omega), Int.toNat_natCast]
theorem Mt.updL {C : Addr} {H : Hp} {p l : Addr} {xs : List V} {o : HO} {gs : List Str} {ps : List (List Str)} (h : Mt C H p gs ps) (hl : H l = some (.lst xs)) : Mt C (upd H l o) p gs ps := by
  obtain ⟨dx, gt, pt, ts, a, b, c, d⟩ := h
  refine ⟨dx, gt, pt, ts, ?_, ?_, ?_, d.updT hl (fun xs z => nomatch z)⟩
  · rw [upd_ne (fun z => by rw [z, hl] at a; cases a)]; exact a
  · rw [upd_ne (fun z => by rw [z, hl] at b; cases b)]; exact b
  · rw [upd_ne (fun z => by rw [z, hl] at c; cases c)]; exact c
theorem met_nil (a b : Str) : metB [] a b = false := by simp [metB]
theorem comps_mem {gs : List Str} {ps : List (List Str)} {S : List Str} {z : Str} (hS : S ∈ comps gs ps) (hz : z ∈ S) : z ∈ gs := by
  obtain ⟨L, _, rfl⟩ := List.mem_map.mp hS
  unfold pickS at hz
  obtain ⟨i, _, e⟩ := List.mem_filterMap.mp hz
  exact List.mem_of_getElem? e
abbrev wUnk : List PyData := [PyData.str "stranger", PyData.list ([true, true, false].map PyData.bool)]
theorem lay_unk : PyData.canLayAll0 wUnk = true := by decide +kernel
theorem dep_unk : PyData.depthAll wUnk ≤ 20 := by decide +kernel
def spLaw (K : PySem.W.Frag) : Sp := fun vs H Q _ => ∃ (a : Addr) (ns : List Int), vs = [.ref a] ∧ SqL K H a (ns.map V.int) ∧ ns.length ≤ 63 ∧ ∀ H', Q (.bl true) H'
section
variable {P : Program} {w : World} {K : PySem.W.Frag} {mg : Str → Option Value} {base : Heap} {A : Ad}
theorem ok_law (T : Txt P K mg A) : FnOk P w K mg base CX0 22 A.a_law A.d_law ["script"] (spLaw K) := by
  have G_law_pool := ok_pool (P := P) (w := w) (base := base) T
  have G_law_group_sizes := ok_sizes (P := P) (w := w) (base := base) T
  have G_law_names := ok_names (P := P) (w := w) (base := base) T
  have G_law_groups := ok_groups (P := P) (w := w) (base := base) T
  have G_law_order := ok_orderF V.str (P := P) (w := w) (base := base) T
  have G_law_told_pairs := ok_told (P := P) (w := w) (base := base) T
  have G_law_pairs_across := ok_across (P := P) (w := w) (base := base) T
  have G_law_one_of_each := ok_one (P := P) (w := w) (base := base) T
  have G_law_free_pairs := ok_free (P := P) (w := w) (base := base) T
  have G_law_companies := ok_lco (P := P) (w := w) (base := base) T
  have G_Meetings_init := ok_mkQ (P := P) (w := w) (base := base) T
  have G_Meetings_met := ok_met (P := P) (w := w) (base := base) T
  have G_law_met := ok_lmet (P := P) (w := w) (base := base) T
  have G_Meetings_companies := ok_comp (P := P) (w := w) (base := base) T
  have G_law_same_companies := ok_same (P := P) (w := w) (base := base) T
  have G_law_table_right := ok_right (P := P) (w := w) (base := base) T
  have G_law_unknown := ok_unk (P := P) (w := w) (base := base) T
  have G_law_bad := ok_bad (P := P) (w := w) (base := base) T
  have G_law_refused := ok_ref (P := P) (w := w) (base := base) T
  have G_law_is_number := ok_isNum (P := P) (w := w) (base := base) T
  refine T.F_law.ok sc_law (fun vs H Q E h => ?_) (fun cdv A' outer s0 H vs Q E hr h => ?_)
  · obtain ⟨a, ns, rfl, _⟩ := h
    rfl
  · obtain ⟨a, ns, rfl, hS, hnl, kk⟩ := h
    refine ⟨_, (pss_cons (ps_set (i := 1) sc_law.nd rfl (Or.inl rfl) (pe_call G_law_pool (hr.mono (by decide)) rfl T.mg_law_pool T.F_law_pool.kp T.b_law_pool .nil pass0 (pa_cons (pv 0) (pa_cons pe_int (pa_cons pe_int pa_nil)))))
      (pss_cons (ps_set (i := 2) sc_law.nd rfl (Or.inl rfl) (pe_call G_law_pool (hr.mono (by decide)) rfl T.mg_law_pool T.F_law_pool.kp T.b_law_pool .nil pass0 (pa_cons (pv 0) (pa_cons pe_int (pa_cons pe_int pa_nil)))))
      (pss_cons (ps_set (i := 3) sc_law.nd rfl (Or.inl rfl) (pe_call G_law_pool (hr.mono (by decide)) rfl T.mg_law_pool T.F_law_pool.kp T.b_law_pool .nil pass0 (pa_cons (pv 0) (pa_cons pe_int (pa_cons pe_int pa_nil)))))
      (pss_cons (ps_set (i := 4) sc_law.nd rfl (Or.inl rfl) (pe_call G_law_pool (hr.mono (by decide)) rfl T.mg_law_pool T.F_law_pool.kp T.b_law_pool .nil pass0 (pa_cons (pv 0) (pa_cons pe_int (pa_cons pe_int pa_nil)))))
      (pss_cons (ps_set (i := 5) sc_law.nd rfl (Or.inl rfl) (pe_cmpR op_eq (pe_op op_mod (pe_callTy call_int1 (by rfl) T.n_int (by decide +kernel) (pa_cons (pe_ix ix_list (pv 3) pe_int (fun _ _ => rfl)) pa_nil)) pe_int) pe_int (nomark _)))
      (pss_cons (ps_set (i := 6) sc_law.nd rfl (Or.inl rfl) (pe_call G_law_group_sizes (hr.mono (by decide)) rfl T.mg_law_group_sizes T.F_law_group_sizes.kp T.b_law_group_sizes .nil pass0 (pa_cons (pv 3) pa_nil)))
      (pss_cons (ps_set (i := 7) sc_law.nd rfl (Or.inl rfl) (pe_op op_mod (pe_callTy call_int1 (by rfl) T.n_int (by decide +kernel) (pa_cons (pe_ix ix_list (pv 1) pe_int (fun _ _ => rfl)) pa_nil)) pe_int))
      (pss_cut (ps_if (pt_val (pv 5)) (pss_one (ps_set (i := 7) sc_law.nd rfl (Or.inl rfl) (pe_callB (cr_sum rfl) (by rfl) T.n_sum (by decide +kernel) (pa_cons (pv 6) pa_nil)))) pss_nil)
      (pss_cons (ps_set (i := 8) sc_law.nd rfl (Or.inl rfl) (pe_call G_law_names (hr.mono (by decide)) rfl T.mg_law_names T.F_law_names.kp T.b_law_names .nil pass0 (pa_cons (pv 7) (pa_cons (pe_ix ix_list (pv 1) pe_int (fun _ _ => rfl)) pa_nil))))
      (pss_cut (ps_if (PW.pt (pw_and (pt_cmpR op_gt (pv 7) pe_int (nomark _)) (pw_and1 (pt_cmpR op_eq (pe_op op_mod (pe_callTy call_int1 (by rfl) T.n_int (by decide +kernel) (pa_cons (pe_ix ix_list (pv 3) pe_int (fun _ _ => rfl)) pa_nil)) pe_int) pe_int (nomark _))))) (pss_cons (ps_set (i := 9) sc_law.nd rfl (Or.inl rfl) (pe_op op_mod (pe_callTy call_int1 (by rfl) T.n_int (by decide +kernel) (pa_cons (pe_ix ix_list (pv 3) pe_int (fun _ _ => rfl)) pa_nil)) (pv 7)))
      (pss_one (ps_asg (pe_slice sl_str (pe_op op_add_str (pe_ix ix_list (pv 8) (pv 9) (fun _ _ => rfl)) pe_str) po_none (po_some pe_int)) (pg_sub (pv 8) (pv 9) set_list)))) pss_nil)
      (pss_cons (ps_set (i := 10) sc_law.nd rfl (Or.inl rfl) (pe_call G_law_groups (hr.mono (by decide)) rfl T.mg_law_groups T.F_law_groups.kp T.b_law_groups .nil pass0 (pa_cons (pe_call G_law_order (hr.mono (by decide)) rfl T.mg_law_order T.F_law_order.kp T.b_law_order .nil pass0 (pa_cons (pv 8) (pa_cons (pv 1) (pa_cons pe_int pa_nil)))) (pa_cons (pv 6) pa_nil))))
      (pss_cut (ps_if (pt_val (pv 5)) (pss_cons (ps_set (i := 11) sc_law.nd rfl (Or.inl rfl) (pe_call G_law_told_pairs (hr.mono (by decide)) rfl T.mg_law_told_pairs T.F_law_told_pairs.kp T.b_law_told_pairs .nil pass0 (pa_cons (pe_call G_law_pairs_across (hr.mono (by decide)) rfl T.mg_law_pairs_across T.F_law_pairs_across.kp T.b_law_pairs_across .nil pass0 (pa_cons (pv 8) (pa_cons (pv 10) pa_nil))) (pa_cons (pv 2) (pa_cons (pv 4) pa_nil)))))
      (pss_one (ps_set (i := 12) sc_law.nd rfl (Or.inl rfl) (pe_call G_law_one_of_each (hr.mono (by decide)) rfl T.mg_law_one_of_each T.F_law_one_of_each.kp T.b_law_one_of_each .nil pass0 (pa_cons (pv 8) (pa_cons (pv 10) pa_nil)))))) (pss_cons (ps_set (i := 11) sc_law.nd rfl (Or.inl rfl) (pe_call G_law_told_pairs (hr.mono (by decide)) rfl T.mg_law_told_pairs T.F_law_told_pairs.kp T.b_law_told_pairs .nil pass0 (pa_cons (pe_call G_law_free_pairs (hr.mono (by decide)) rfl T.mg_law_free_pairs T.F_law_free_pairs.kp T.b_law_free_pairs .nil pass0 (pa_cons (pv 8) (pa_cons (pv 1) (pa_cons pe_int pa_nil)))) (pa_cons (pv 2) (pa_cons (pv 4) pa_nil)))))
      (pss_one (ps_set (i := 12) sc_law.nd rfl (Or.inl rfl) (pe_call G_law_companies (hr.mono (by decide)) rfl T.mg_law_companies T.F_law_companies.kp T.b_law_companies .nil pass0 (pa_cons (pv 8) (pa_cons (pv 11) pa_nil)))))))
      (pss_cons (ps_set (i := 13) sc_law.nd rfl (Or.inl rfl) (pe_lst (pa_cons (pe_callTy (show CallR _ _ (rListOf K) from call_list_of) (by rfl) T.n_list (by decide +kernel) (pa_cons (pv 8) pa_nil)) (pa_cons (pe_lc (own := [("pair", 23)]) (g := gName 23) (tt := tYes) rfl sc_law.nd (pi_list (pv 11)) (blkOk_by (N := ["script", "p0", "p1", "p2", "p3", "grouped", "sizes", "many", "guests", "k", "groups", "pairs", "due", "handed", "meetings", "alone", "one", "other", "answer", "found", "guest", "bad", "told", "pair"]) (sc := defScope s_law) (by decide +kernel)) (fun _ _ _ _ _ => (pg_name (i := 23) sc_law.nd rfl (Or.inl rfl))) (fun _ _ _ _ _ => pts_nil) (fun _ _ _ _ _ => (pe_callTy (show CallR _ _ (rListOf K) from call_list_of) (by rfl) T.n_list (by decide +kernel) (pa_cons (pv 23) pa_nil)))) pa_nil))))
      (pss_cons (ps_set (i := 14) sc_law.nd rfl (Or.inl rfl) (pe_make T.mk_Meetings G_Meetings_init (hr.mono (by decide)) rfl T.mg_Meetings T.b_Meetings_init .nil pass0 (pa_cons (pe_ix ix_list (pv 13) pe_int (fun _ _ => rfl)) (pa_cons (pe_ix ix_list (pv 13) pe_int (fun _ _ => rfl)) pa_nil))))
      (pss_cons (ps_if (pt_cmpR (op_neD hr.units) (pv 13) (pe_lst (pa_cons (pv 8) (pa_cons (pe_lc (own := [("pair", 23)]) (g := gName 23) (tt := tYes) rfl sc_law.nd (pi_list (pv 11)) (blkOk_by (N := ["script", "p0", "p1", "p2", "p3", "grouped", "sizes", "many", "guests", "k", "groups", "pairs", "due", "handed", "meetings", "alone", "one", "other", "answer", "found", "guest", "bad", "told", "pair"]) (sc := defScope s_law) (by decide +kernel)) (fun _ _ _ _ _ => (pg_name (i := 23) sc_law.nd rfl (Or.inl rfl))) (fun _ _ _ _ _ => pts_nil) (fun _ _ _ _ _ => (pe_callTy (show CallR _ _ (rListOf K) from call_list_of) (by rfl) T.n_list (by decide +kernel) (pa_cons (pv 23) pa_nil)))) pa_nil))) (nomark _)) (pss_one (ps_ret pe_bl)) pss_nil)
      (pss_cons (ps_expr (pe_bm PySem.F.plainAttrs_list PySem.F.slot_list_append PySem.F.type_list_append mt_append (pe_ix ix_list (pv 13) pe_int (fun _ _ => rfl)) (pa_cons pe_str pa_nil)))
      (pss_cons (ps_expr (pe_bm PySem.F.plainAttrs_list PySem.F.slot_list_append PySem.F.type_list_append mt_append (pe_ix ix_list (pv 13) pe_int (fun _ _ => rfl)) (pa_cons (pe_lst (pa_cons pe_str (pa_cons pe_str pa_nil))) pa_nil)))
      (pss_cons (ps_set (i := 15) sc_law.nd rfl (Or.inl rfl) (pe_make T.mk_Meetings G_Meetings_init (hr.mono (by decide)) rfl T.mg_Meetings T.b_Meetings_init .nil pass0 (pa_cons (pe_callTy (show CallR _ _ (rTupOf K) from call_tuple_of) (by rfl) T.n_tuple (by decide +kernel) (pa_cons (pv 8) pa_nil)) (pa_cons (pe_tup pa_nil) pa_nil))))
      (pss_cons (ps_if (PW.pt (pw_or (pt_cmpR (op_neD hr.units) (pe_fld (pv 14) rfl) (pe_callTy (show CallR _ _ (rTupOf K) from call_tuple_of) (by rfl) T.n_tuple (by decide +kernel) (pa_cons (pv 8) pa_nil)) (nomark _)) (pw_or1 (pt_cmpR (op_neD hr.units) (pe_fld (pv 14) rfl) (pe_callTy (show CallR _ _ (rTupOf K) from call_tuple_of) (by rfl) T.n_tuple (by decide +kernel) (pa_cons (pv 11) pa_nil)) (nomark _))))) (pss_one (ps_ret pe_bl)) pss_nil)
      (pss_cons (ps_for PassesOwn.never rfl (pi_list (pv 8)) (pg_name (i := 16) sc_law.nd rfl (Or.inl rfl))
        (pss_one (ps_for PassesOwn.never rfl (pi_list (pv 8)) (pg_name (i := 17) sc_law.nd rfl (Or.inl rfl))
        (pss_cons (ps_set (i := 18) sc_law.nd rfl (Or.inl rfl) (pe_meth (pv 14) T.cl_Meetings T.m_Meetings_met G_Meetings_met (hr.mono (by decide)) T.b_Meetings_met .nil pass0 (pa_cons (pv 16) (pa_cons (pv 17) pa_nil))))
      (pss_one (ps_if (PW.pt (pw_or (pt_not (pt_val (pe_callB call_isi (by rfl) T.n_isinstance (by decide +kernel) (pa_cons (pv 18) (pa_cons (pe_bltn (v := .ty "bool") (by rfl) T.n_bool (by decide +kernel) rfl) pa_nil))))) (pw_or (pt_cmpR op_ne (pv 18) (pe_call G_law_met (hr.mono (by decide)) rfl T.mg_law_met T.F_law_met.kp T.b_law_met .nil pass0 (pa_cons (pv 11) (pa_cons (pv 16) (pa_cons (pv 17) pa_nil)))) (nomark _)) (pw_or1 (pt_val (pe_meth (pv 15) T.cl_Meetings T.m_Meetings_met G_Meetings_met (hr.mono (by decide)) T.b_Meetings_met .nil pass0 (pa_cons (pv 16) (pa_cons (pv 17) pa_nil)))))))) (pss_one (ps_ret pe_bl)) pss_nil))))))
      (pss_cons (ps_set (i := 19) sc_law.nd rfl (Or.inl rfl) (pe_meth0 (pv 14) T.cl_Meetings T.m_Meetings_companies G_Meetings_companies (hr.mono (by decide)) T.b_Meetings_companies .nil pass0))
      (pss_cons (ps_if (pt_not (pt_val (pe_call G_law_same_companies (hr.mono (by decide)) rfl T.mg_law_same_companies T.F_law_same_companies.kp T.b_law_same_companies .nil pass0 (pa_cons (pv 19) (pa_cons (pv 12) pa_nil))))) (pss_one (ps_ret pe_bl)) pss_nil)
      (pss_cons (ps_expr (pe_bm PySem.F.plainAttrs_list PySem.F.slot_list_append PySem.F.type_list_append mt_append (pv 19) (pa_cons (pe_tup (pa_cons pe_str pa_nil)) pa_nil)))
      (pss_cons (ps_if (pt_not (pt_val (pe_call G_law_same_companies (hr.mono (by decide)) rfl T.mg_law_same_companies T.F_law_same_companies.kp T.b_law_same_companies .nil pass0 (pa_cons (pe_meth0 (pv 15) T.cl_Meetings T.m_Meetings_companies G_Meetings_companies (hr.mono (by decide)) T.b_Meetings_companies .nil pass0) (pa_cons (pe_lc (own := [("guest", 20)]) (g := gName 20) (tt := tYes) rfl sc_law.nd (pi_list (pv 8)) (blkOk_by (N := ["script", "p0", "p1", "p2", "p3", "grouped", "sizes", "many", "guests", "k", "groups", "pairs", "due", "handed", "meetings", "alone", "one", "other", "answer", "found", "guest", "bad", "told", "pair"]) (sc := defScope s_law) (by decide +kernel)) (fun _ _ _ _ _ => (pg_name (i := 20) sc_law.nd rfl (Or.inl rfl))) (fun _ _ _ _ _ => pts_nil) (fun _ _ _ _ _ => (pe_tup (pa_cons (pv 20) pa_nil)))) pa_nil))))) (pss_one (ps_ret pe_bl)) pss_nil)
      (pss_cons (ps_if (PW.pt (pw_or (pt_not (pt_val (pe_call G_law_same_companies (hr.mono (by decide)) rfl T.mg_law_same_companies T.F_law_same_companies.kp T.b_law_same_companies .nil pass0 (pa_cons (pe_meth0 (pv 14) T.cl_Meetings T.m_Meetings_companies G_Meetings_companies (hr.mono (by decide)) T.b_Meetings_companies .nil pass0) (pa_cons (pv 12) pa_nil))))) (pw_or1 (pt_not (pt_val (pe_call G_law_table_right (hr.mono (by decide)) rfl T.mg_law_table_right T.F_law_table_right.kp T.b_law_table_right .nil pass0 (pa_cons (pv 14) (pa_cons (pv 8) (pa_cons (pv 12) pa_nil))))))))) (pss_one (ps_ret pe_bl)) pss_nil)
      (pss_cons (ps_for PassesOwn.never rfl (pi_list (pe_op op_cat (pv 8) (pe_lst (pa_cons pe_str pa_nil)))) (pg_name (i := 20) sc_law.nd rfl (Or.inl rfl))
        (pss_one (ps_if (pt_cmpR (op_neD hr.units) (pe_call G_law_unknown (hr.mono (by decide)) rfl T.mg_law_unknown T.F_law_unknown.kp T.b_law_unknown .nil pass0 (pa_cons (pv 14) (pa_cons pe_str (pa_cons (pv 20) pa_nil)))) (pe_tup (pa_cons pe_str (pa_cons (pe_lst (pa_cons pe_bl (pa_cons pe_bl (pa_cons pe_bl pa_nil)))) pa_nil))) (nomark _)) (pss_one (ps_ret pe_bl)) pss_nil)))
      (pss_cut (ps_if (PW.pt (pw_and (pt_cmpR op_gt (pv 7) pe_int (nomark _)) (pw_and1 (pt_cmpR (op_neD hr.units) (pe_call G_law_unknown (hr.mono (by decide)) rfl T.mg_law_unknown T.F_law_unknown.kp T.b_law_unknown .nil pass0 (pa_cons (pv 14) (pa_cons (pe_ix ix_list (pv 8) pe_int (fun _ _ => rfl)) (pa_cons pe_str pa_nil)))) (pe_tup (pa_cons pe_str (pa_cons (pe_lst (pa_cons pe_bl (pa_cons pe_bl (pa_cons pe_bl pa_nil)))) pa_nil))) (nomark _))))) (pss_one (ps_ret pe_bl)) pss_nil)
      (pss_cons (ps_set (i := 21) sc_law.nd rfl (Or.inl rfl) (pe_call G_law_bad (hr.mono (by decide)) rfl T.mg_law_bad T.F_law_bad.kp T.b_law_bad .nil pass0 (pa_cons (pv 8) (pa_cons (pv 11) (pa_cons (pv 3) pa_nil)))))
      (pss_cons (ps_set (i := 22) sc_law.nd rfl (Or.inl rfl) (pe_call G_law_refused (hr.mono (by decide)) rfl T.mg_law_refused T.F_law_refused.kp T.b_law_refused .nil pass0 (pa_cons (pe_ix ix_list (pv 21) pe_int (fun _ _ => rfl)) (pa_cons (pe_ix ix_list (pv 21) pe_int (fun _ _ => rfl)) pa_nil))))
      (pss_one (ps_ret (pe_and (pe_cmpR op_eq (pe_ix ix_tup (pv 22) pe_int (fun _ _ => rfl)) (pe_ix ix_list (pv 21) pe_int (fun _ _ => rfl)) (nomark _)) (pe_and (pe_call G_law_is_number (hr.mono (by decide)) rfl T.mg_law_is_number T.F_law_is_number.kp T.b_law_is_number .nil pass0 (pa_cons (pe_ix ix_tup (pv 22) pe_int (fun _ _ => rfl)) (pa_cons (pe_ix ix_list (pv 21) pe_int (fun _ _ => rfl)) (pa_cons (pe_ix ix_list (pv 21) pe_int (fun _ _ => rfl)) pa_nil)))) (pe_one (pe_cmpR (op_eqD hr.units) (pe_ix ix_tup (pv 22) pe_int (fun _ _ => rfl)) (pe_lst (pa_cons pe_bl (pa_cons pe_bl (pa_cons pe_bl pa_nil)))) (nomark _)))))))))))))))))))))))))))))))))))), ?_⟩
    refine ⟨_, rfl, a, ns, 0, 60, rfl, hS, by decide, by decide, by decide, fun p0 q0 H0 s0' hp0 l0 P0 => ?_⟩
    refine ⟨_, rfl, a, ns, 1, 60, rfl, s0'.seq hS, by decide, by decide, by decide, fun p1 q1 H1 s1 hp1 l1 P1 => ?_⟩
    refine ⟨_, rfl, a, ns, 2, 60, rfl, (s0'.trans s1).seq hS, by decide, by decide, by decide, fun p2 q2 H2 s2 hp2 l2 P2 => ?_⟩
    refine ⟨_, rfl, a, ns, 3, 60, rfl, (s0'.trans (s1.trans s2)).seq hS, by decide, by decide, by decide, fun p3 q3 H3 s3 hp3 l3 P3 => ?_⟩
    have hp0 := s3 _ _ (s2 _ _ (s1 _ _ hp0))
    have hp1 := s3 _ _ (s2 _ _ hp1)
    have hp2 := s3 _ _ hp2
    have l0 : q0.length = 60 := by omega
    have l1 : q1.length = 60 := by omega
    have l2 : q2.length = 60 := by omega
    have l3 : q3.length = 60 := by omega
    clear s0' s1 s2 s3 hS P0 P1 P2 P3 hnl
    obtain ⟨x00, _, e00⟩ := atI_ok (xs := q0) (j := 0) (by omega) (by omega)
    obtain ⟨x01, _, e01⟩ := atI_ok (xs := q0) (j := 1) (by omega) (by omega)
    obtain ⟨x28, _, e28⟩ := atI_ok (xs := q2) (j := 28) (by omega) (by omega)
    obtain ⟨x29, _, e29⟩ := atI_ok (xs := q2) (j := 29) (by omega) (by omega)
    obtain ⟨x30, _, e30⟩ := atI_ok (xs := q2) (j := 30) (by omega) (by omega)
    refine ⟨_, rfl, p2, _, _, _, rfl, rfl, SqL.of hp2, e30, .inl ⟨_, rfl, _, _, rfl, rfl, by show (0 : Int) < 4; decide, rfl, ?_⟩⟩
    refine ⟨_, rfl, p2, q2, rfl, SqL.of hp2, l2, fun SZ ss H4 s4 nSZ hSZ ssne ss14 ss10 ss5 => ?_⟩
    have hp0 := s4 _ _ hp0
    have hp1 := s4 _ _ hp1
    have hp2 := s4 _ _ hp2
    have hp3 := s4 _ _ hp3
    clear s4 nSZ
    have m0 := Int.emod_nonneg x00 (show (8 : Int) ≠ 0 by decide)
    have m1 := Int.emod_lt_of_pos x00 (show (0 : Int) < 8 by decide)
    refine ⟨_, rfl, p0, _, _, _, rfl, rfl, SqL.of hp0, e00, .inl ⟨_, rfl, _, _, rfl, rfl, by show (0 : Int) < 8; decide, ?_⟩⟩
    generalize hgr : decide (V.int (x30 % 4) = V.int 0) = gr
    refine ⟨fun σ G => H4 = G ∧ ∃ n : Nat, σ = [some (.ref a), some (.ref p0), some (.ref p1), some (.ref p2), some (.ref p3), some (.bl gr), some (.ref SZ), some (.int (n : Nat)), none, none, none, none, none, none, none, none, none, none, none, none, none, none, none, none] ∧ n ≤ 10 ∧ (gr = true → n = ss.sum) ∧ (gr = false → n ≤ 7), ?_, ?_⟩
    · cases gr with
      | true =>
        refine ⟨_, rfl, _, rfl, ifT rfl ?_⟩
        refine ⟨_, rfl, SZ, _, rfl, SqL.of (by rw [hSZ, niv_ivs]), ?_⟩
        rw [iL_sum]
        exact ⟨rfl, ss.sum, rfl, ss10, fun _ => rfl, fun h => nomatch h⟩
      | false =>
        refine ⟨_, rfl, _, rfl, ifF rfl ?_⟩
        obtain ⟨n, hn⟩ := Int.eq_ofNat_of_zero_le m0
        refine ⟨rfl, n, ?_, by omega, (fun h => nomatch h), fun _ => by omega⟩
        rw [← hn]; rfl
    rintro σ G ⟨rfl, n, rfl, n10, ng, nf⟩
    refine ⟨_, rfl, _, rfl, p0, _, _, _, rfl, rfl, SqL.of hp0, e01, n, x01, rfl, by omega, fun g cs H5 s5 ngG hg hcl hNL => ?_⟩
    obtain ⟨hN, hLow⟩ := hNL
    have hp25 := s5 _ _ hp2
    refine ⟨fun σ G => ∃ (gs : List Str) (u9 : Option V), σ = [some (.ref a), some (.ref p0), some (.ref p1), some (.ref p2), some (.ref p3), some (.bl gr), some (.ref SZ), some (.int (n : Nat)), some (.ref g), u9, none, none, none, none, none, none, none, none, none, none, none, none, none, none] ∧ Same H4 G ∧ G g = some (.lst (sv gs)) ∧ gs.length = n ∧ Gs gs, ?_, ?_⟩
    · refine ⟨_, rfl, _, _, rfl, rfl, _, rfl, ?_⟩
      by_cases hn0 : ((n : Nat) : Int) > 0
      case neg => exact ifF (decide_eq_false hn0) (ifF rfl ⟨cs, none, rfl, s5, hg, hcl, gs_of hN hLow⟩)
      refine ifT (decide_eq_true hn0) ⟨_, rfl, p2, _, _, _, rfl, rfl, SqL.of hp25, e29, .inl ⟨_, rfl, _, _, rfl, rfl, by show (0 : Int) < 2; decide, rfl, _, rfl, ?_⟩⟩
      refine ite2 (fun hb => ?_) (fun hb => ?_)
      · refine ⟨_, rfl, p2, _, _, _, rfl, rfl, SqL.of hp25, e28, .inl ⟨_, rfl, _, rfl, _, _, rfl, rfl, hn0, ?_⟩⟩
        obtain ⟨k, hk⟩ := Int.eq_ofNat_of_zero_le (Int.emod_nonneg x28 (show ((n : Nat) : Int) ≠ 0 by omega))
        have hkl : k < cs.length := by
          have := Int.emod_lt_of_pos x28 hn0
          omega
        have hz : cs[k]? = some cs[k] := List.getElem?_eq_getElem hkl
        dsimp only
        rw [hk]
        refine ⟨_, rfl, _, rfl, g, _, _, _, rfl, rfl, SqL.of hg, atS_of hz, _, _, rfl, rfl, ?_, ?_⟩
        · have := (hN.2 _ (List.getElem_mem hkl)).2
          have e8 : ("zzzzzzzz" : Str).length = 8 := by decide
          rw [e8]; exact Nat.le_trans (show _ ≤ 100 by omega) (by decide)
        delta tNoPart
        refine ⟨_, rfl, _, rfl, ?_, _, rfl, _, rfl, g, _, _, k, rfl, rfl, hg, ?_, ?_⟩
        · have := (hN.2 _ (List.getElem_mem hkl)).2
          have e8 : ("zzzzzzzz" : Str).length = 8 := by decide
          rw [Str.length_append, e8]; exact Nat.le_trans (show _ ≤ 100 by omega) (by decide)
        · exact ixN_natM (by rw [len_sv]; exact hkl)
        · refine ⟨cs.set k (padded cs[k]), _, rfl, (fun b o e => by rw [upd_ne (ne_of_none e ngG)]; exact s5 _ _ e), ?_, by rw [List.length_set]; exact hcl, gs_set hN hLow hz⟩
          rw [upd_same]
          unfold sv padded
          rw [List.map_set]
      · exact ⟨cs, none, rfl, s5, hg, hcl, gs_of hN hLow⟩
    rintro σ G ⟨gs, u9, rfl, sG, hg, hgl, hGs⟩
    clear s5
    have hp0 := sG _ _ hp0
    have hp1 := sG _ _ hp1
    have hp2 := sG _ _ hp2
    have hp3 := sG _ _ hp3
    have hSZ := sG _ _ hSZ
    refine ⟨_, rfl, _, rfl, g, p0, gs, q0, 20, rfl, SqL.of hg, SqL.of hp0, by omega, by decide, by omega, fun o os H6 s6 no ho hop => ?_⟩
    obtain ⟨ix, hixp, rfl⟩ := idx_of hop
    have hixl : ∀ x ∈ ix, x < gs.length := fun x hx => List.mem_range.mp (hixp.mem_iff.mp hx)
    refine ⟨_, rfl, o, SZ, gs, ix, ss, rfl, SqL.of ho, SqL.of (s6 _ _ hSZ), hixl, ss5, fun GD gts H7 s7 nGD hGD hgts => ?_⟩
    have s67 := s6.trans s7
    have hg := s67 _ _ hg
    have hp0 := s67 _ _ hp0
    have hp1 := s67 _ _ hp1
    have hp2 := s67 _ _ hp2
    have hp3 := s67 _ _ hp3
    have gn := hGs.nd
    refine ⟨fun σ G => ∃ (PD DD : Addr) (ts us : List Addr) (told : List (List Str)), σ = [some (.ref a), some (.ref p0), some (.ref p1), some (.ref p2), some (.ref p3), some (.bl gr), some (.ref SZ), some (.int (n : Nat)), some (.ref g), u9, some (.ref GD), some (.ref PD), some (.ref DD), none, none, none, none, none, none, none, none, none, none, none] ∧ Same H7 G ∧ G PD = some (.lst (ts.map V.ref)) ∧ Lss .tup G ts told ∧ PsGood gs told ∧ told.length ≤ 100 ∧ G DD = some (.lst (us.map V.ref)) ∧ Lg (fun r => .tup (sv r)) G us (comps gs told), ?_, ?_⟩
    · cases gr with
      | true =>
        refine ⟨_, rfl, _, rfl, ifT rfl ?_⟩
        have hpart := chk_parts (n := gs.length) hixp (by rw [hgl, ng rfl]) (fun s hs => (ss14 s hs).1) ssne
        have hcin : ∀ l ∈ chk ix ss ss.length, ∀ x ∈ l, x < gs.length := fun l hl x hx => hpart.lt hl hx
        refine ⟨_, rfl, _, rfl, g, GD, gs, _, gts, rfl, SqL.of hg, SqL.of hGD, hgts, hcin, by rw [chk_len]; exact ss5, gn, by omega, fun R ws ps H8 s8 nR hR hws hpr => ?_⟩
        have hpg := hpr.good gn
        have pl := hpr.len45 (by omega)
        refine ⟨_, rfl, _, rfl, R, p1, p3, ws, ps, q1, q3, rfl, SqL.of hR, hws, fun q hq => let ⟨x, y, e, _⟩ := hpg.two q hq; ⟨x, y, e⟩, by omega, SqL.of (s8 _ _ hp1), SqL.of (s8 _ _ hp3), l1, l3, fun PD ts told H9 s9 nPD hPD hts htold => ?_⟩
        have s89 := s8.trans s9
        have tgd := hpg.told htold
        have tl : told.length = ps.length := let ⟨ps', pp, f, _⟩ := htold; f.trans pp.length_eq
        refine ⟨_, rfl, _, rfl, g, GD, gs, _, gts, told, rfl, SqL.of (s89 _ _ hg), SqL.of (s89 _ _ hGD), hgts.same s89, hpart, by rw [chk_len]; exact ss5, fun l hl => ?_, gn, by omega, fun i j hi hj hij => ?_, fun DD us HA sA nDD hDD hus => ?_⟩
        · obtain ⟨k, hk, e⟩ := List.mem_map.mp hl
          rw [← e, List.length_take]
          have := List.mem_range.mp hk
          have : ss.getD k 0 ≤ 4 := by
            rw [List.getD_eq_getElem?_getD, List.getElem?_eq_getElem this]
            exact (ss14 _ (List.getElem_mem this)).2
          omega
        · have e : MM gs told i j = MM gs ps i j := met_told hpg htold _ _
          rw [e]; exact across_met gn hpr hi hj hij
        · exact ⟨PD, DD, ts, us, told, rfl, s89.trans sA, sA _ _ hPD, hts.same sA, tgd, by omega, hDD, hus⟩
      | false =>
        refine ⟨_, rfl, _, rfl, ifF rfl ?_⟩
        have n7 := nf rfl
        refine ⟨_, rfl, _, rfl, g, p0, 2, gs, q0, rfl, SqL.of hg, SqL.of hp0, gn, by omega, by decide, by omega, fun R ws ps H8 s8 nR hR hws hpr => ?_⟩
        have hpg := hpr.good gn
        have pl := hpr.len45 (by omega)
        refine ⟨_, rfl, _, rfl, R, p1, p3, ws, ps, q1, q3, rfl, SqL.of hR, hws, fun q hq => let ⟨x, y, e, _⟩ := hpg.two q hq; ⟨x, y, e⟩, by omega, SqL.of (s8 _ _ hp1), SqL.of (s8 _ _ hp3), l1, l3, fun PD ts told H9 s9 nPD hPD hts htold => ?_⟩
        have s89 := s8.trans s9
        have tgd := hpg.told htold
        have tl : told.length = ps.length := let ⟨ps', pp, f, _⟩ := htold; f.trans pp.length_eq
        refine ⟨_, rfl, _, rfl, g, PD, ts, told, gs, rfl, SqL.of (s89 _ _ hg), SqL.of hPD, hts, gn, by omega, fun z hz => okz_good (hGs.g z hz), fun q hq z hz => (pairs_okz hGs.g tgd q hq).2 z hz, fun DD us HA sA nDD hDD hus => ?_⟩
        exact ⟨PD, DD, ts, us, told, rfl, s89.trans sA, sA _ _ hPD, hts.same sA, tgd, by omega, hDD, hus⟩
    rintro σ G ⟨PD, DD, ts, us, told, rfl, s7G, hPD, hts, tgd, tl, hDD, hus⟩
    clear hixp ng nf ss14
    have hg := s7G _ _ hg
    have hp2 := s7G _ _ hp2
    refine ⟨_, rfl, ?_⟩
    dsimp only [tNil]
    refine ⟨g, _, rfl, .inl (SqL.of hg), fun l1 n1 => ?_⟩
    generalize hG : upd G l1 _ = G1
    have t1 : Same G G1 := hG ▸ same_new n1
    have y1 := (congrFun hG l1).symm.trans upd_same
    clear hG
    have hPD1 := t1 _ _ hPD
    have hts1 := hts.same t1
    refine ⟨_, rfl, PD, rfl, ⟨_, SqL.of hPD1⟩, fun D1 nD1 => lc_it walk_list (fun i G2 => LcG (fun r => .lst (sv r)) G1 D1 (told.take i) G2) (lcg0 nD1) (fun i G2 _ q => SqL.of (q.1 _ _ hPD1)) ?_ ?_⟩
    · rintro i x Ga Gb hi q ⟨rfl, hx⟩
      obtain ⟨u, hu, rfl⟩ := refs_get hx
      obtain ⟨r, er, hr⟩ := (hts1.same q.1).get hu
      refine ⟨rfl, _, rfl, ?_⟩
      dsimp only [tNil]
      refine ⟨u, _, rfl, .inr (SqT.of hr), fun l2 n2 => ?_⟩
      generalize hG : upd Gb l2 _ = G3
      have t3 : Same Gb G3 := hG ▸ same_new n2
      have y3 := (congrFun hG l2).symm.trans upd_same
      clear hG
      have hne : l2 ≠ D1 := fun e => by
        obtain ⟨_, us, h, _⟩ := q
        rw [e, h] at n2; cases n2
      rw [take_succ er]
      exact q.push nD1 t3 y3 hne (by rw [List.length_take]; omega)
    rintro G2 ⟨t2, hs, hD1, hhs, _⟩
    have hhs : Lg (fun r => .lst (sv r)) G2 hs told := by
      rw [List.length_map, hts.len, List.take_length] at hhs; exact hhs
    refine ⟨by show 2 ≤ sizeLine; decide, fun HD nHD => ?_⟩
    generalize hG : upd G2 HD _ = G3
    have t3 : Same G2 G3 := hG ▸ same_new nHD
    have hHD := (congrFun hG HD).symm.trans upd_same
    clear hG
    have opz : ∀ q ∈ told, ∀ z ∈ q, Okz z := fun q hq z hz => (pairs_okz hGs.g tgd q hq).2 z hz
    have ogz : ∀ z ∈ gs, Okz z := fun z hz => okz_good (hGs.g z hz)
    have y1_3 := t3 _ _ (t2 _ _ y1)
    have hD1_3 := t3 _ _ hD1
    have hhs3 := hhs.same t3
    refine ⟨_, rfl, HD, _, _, _, rfl, rfl, SqL.of hHD, rfl, _, rfl, HD, _, _, _, rfl, rfl, SqL.of hHD, rfl, ?_⟩
    intro x dx hx hdx hne
    refine .inl (mk_meet (.inl y1_3) hD1_3 ⟨hhs3.len, fun i t r a b => .inl (hhs3.at_ i t r a b)⟩ hGs (by omega) tgd (by omega) hx hdx hne fun G4 t4 hM => ?_)
    have t34 := t1.trans (t2.trans (t3.trans t4))
    have hPD4 := t34 _ _ hPD
    have hts4 := hts.same t34
    refine ⟨rfl, _, rfl, _, rfl, _, rfl, PD, rfl, ⟨_, SqL.of hPD4⟩, fun D2 nD2 => lc_it walk_list (fun i G2 => LcG (fun r => .lst (sv r)) G4 D2 (told.take i) G2) (lcg0 nD2) (fun i G2 _ q => SqL.of (q.1 _ _ hPD4)) ?_ ?_⟩
    · rintro i x Ga Gb hi q ⟨rfl, hx⟩
      obtain ⟨u, hu, rfl⟩ := refs_get hx
      obtain ⟨r, er, hr⟩ := (hts4.same q.1).get hu
      refine ⟨rfl, _, rfl, ?_⟩
      dsimp only [tNil]
      refine ⟨u, _, rfl, .inr (SqT.of hr), fun l2 n2 => ?_⟩
      generalize hG : upd Gb l2 _ = G3
      have t3 : Same Gb G3 := hG ▸ same_new n2
      have y3 := (congrFun hG l2).symm.trans upd_same
      clear hG
      have hne : l2 ≠ D2 := fun e => by
        obtain ⟨_, us, h, _⟩ := q
        rw [e, h] at n2; cases n2
      rw [take_succ er]
      exact q.push nD2 t3 y3 hne (by rw [List.length_take]; omega)
    rintro G5 ⟨t5, hs2, hD2, hhs2, _⟩
    have hhs2 : Lg (fun r => .lst (sv r)) G5 hs2 told := by
      rw [List.length_map, hts.len, List.take_length] at hhs2; exact hhs2
    refine ⟨by show 2 ≤ sizeLine; decide, fun HE nHE => ?_⟩
    generalize hG : upd G5 HE _ = G6
    have t6 : Same G5 G6 := hG ▸ same_new nHE
    have hHE := (congrFun hG HE).symm.trans upd_same
    clear hG
    have t46 := t4.trans (t5.trans t6)
    have t06 := t34.trans (t5.trans t6)
    have lyH : PyData.canLayAll0 [PyData.list (pd gs), PyData.list (pdr told)] = true := layc (layL (lay_all ogz)) (layc (layL (lay_pdr opz)) rfl)
    have dpH : PyData.depthAll [PyData.list (pd gs), PyData.list (pdr told)] ≤ 20 := by
      have h1 := depth_pd gs
      have h2 := depth_pdr told
      simp only [PyData.depthAll, PyData.depth]
      omega
    refine ⟨.list [.list (pd gs), .list (pdr told)], .list [.list (pd gs), .list (pdr told)], .lst (SqL.of (t46 _ _ hHD)) (.cons (.lst (SqL.of (t46 _ _ y1_3)) (dp_pd gs)) (.cons (.lst (SqL.of (t46 _ _ hD1_3)) (dp_pdr ⟨hhs3.len, (hhs3.same t46).at_⟩)) .nil)), .lst (SqL.of hHE) (.cons (.lst (SqL.of (t06 _ _ hg)) (dp_pd gs)) (.cons (.lst (SqL.of (t6 _ _ hD2)) (dp_pdr ⟨hhs2.len, (hhs2.same t6).at_⟩)) .nil)), shapedL lyH dpH, shapedL lyH dpH, _, rfl, ifF (by rw [eqvL lyH]; rfl) ?_⟩
    have hHD6 := t46 _ _ hHD
    have y16 := t46 _ _ y1_3
    have hD16 := t46 _ _ hD1_3
    have hM6 := hM.same (t5.trans t6)
    have nH1 : HD ≠ l1 := fun e => by rw [e, t2 _ _ y1] at nHD; cases nHD
    have nD1l : D1 ≠ l1 := fun e => by rw [e, y1] at nD1; cases nD1
    have hlen : (hs.map V.ref).length = told.length := by rw [List.length_map, hhs.len]
    refine ⟨_, rfl, HD, _, _, _, rfl, rfl, SqL.of hHD6, rfl, .inl ⟨rfl, _, SqL.of y16⟩, l1, _, _, rfl, rfl, y16, small_int (by rw [len_sv]; omega), ?_⟩
    have hHD7 : upd G6 l1 (.lst (sv gs ++ [.str "zzzzzzzz"])) HD = some (.lst [.ref l1, .ref D1]) := by rw [upd_ne nH1]; exact hHD6
    have hD17 : upd G6 l1 (.lst (sv gs ++ [.str "zzzzzzzz"])) D1 = some (.lst (hs.map V.ref)) := by rw [upd_ne nD1l]; exact hD16
    have s07 : Same G (upd G6 l1 (.lst (sv gs ++ [.str "zzzzzzzz"]))) := app_same n1 t06
    have hM7 : Mt A.C_Meetings (upd G6 l1 (.lst (sv gs ++ [.str "zzzzzzzz"]))) x gs told := hM6.updL y16
    generalize upd G6 l1 (.lst (sv gs ++ [.str "zzzzzzzz"])) = G7 at hHD7 hD17 s07 hM7 ⊢
    refine ⟨_, rfl, HD, _, _, _, rfl, rfl, SqL.of hHD7, rfl, .inl ⟨rfl, _, SqL.of hD17⟩, by show 2 ≤ sizeLine; decide, fun l3 n3 => ?_⟩
    generalize hG : upd G7 l3 _ = G8
    have t8 : Same G7 G8 := hG ▸ same_new n3
    have y8 := (congrFun hG l3).symm.trans upd_same
    clear hG
    have hD18 := t8 _ _ hD17
    refine ⟨D1, _, _, rfl, rfl, hD18, small_int (by rw [hlen]; omega), ?_⟩
    have s09 : Same G (upd G8 D1 (.lst (hs.map V.ref ++ [.ref l3]))) := app_same (none_of t1 nD1) (s07.trans t8)
    have hM9 : Mt A.C_Meetings (upd G8 D1 (.lst (hs.map V.ref ++ [.ref l3]))) x gs told := (hM7.same t8).updL hD18
    generalize upd G8 D1 (.lst (hs.map V.ref ++ [.ref l3])) = G9 at s09 hM9 ⊢
    clear y1_3 hD1_3 hhs3 hx hdx hne hPD1 hts1 y16 hD16 hM6 hHD6 hHD7 hD17 s07 hM7 hD18 lyH dpH hM hHD hHE nHE nHD hhs2 hhs hD1 hD2 n3 y8 t8 hPD4 hts4 t34 t46 t06
    have hg := s09 _ _ hg
    have hPD := s09 _ _ hPD
    have hts := hts.same s09
    have hDD := s09 _ _ hDD
    have hus := hus.same s09
    have hp2 := s09 _ _ hp2
    clear s09
    refine ⟨_, rfl, ?_⟩
    dsimp only [tNil]
    refine tupP (.inl hg) fun c1 H1 s1 hc1 => ?_
    refine ⟨by show 0 ≤ sizeLine; decide, fun c2 nc2 => ?_⟩
    generalize hG : upd H1 c2 _ = H2
    have s2 : Same H1 H2 := hG ▸ same_new nc2
    have hc2 := (congrFun hG c2).symm.trans upd_same
    clear hG
    intro x2 dx2 hx2 hdx2 hne2
    refine .inr (mk_meet (ts := []) (ps := []) (.inr (s2 _ _ hc1)) hc2 ⟨rfl, fun i t r a b => by simp at a⟩ hGs (by omega) ⟨fun q hq => by simp at hq, .nil⟩ (by decide) hx2 hdx2 hne2 fun H3 s3 hA => ?_)
    have s13 := s1.trans (s2.trans s3)
    have hg := s13 _ _ hg
    have hPD := s13 _ _ hPD
    have hts := hts.same s13
    have hDD := s13 _ _ hDD
    have hus := hus.same s13
    have hp2 := s13 _ _ hp2
    have hM := hM9.same s13
    clear s1 s2 s3 s13 hc1 hc2 nc2 hM9 hx2 hdx2 hne2
    have hM0 := hM
    obtain ⟨dx3, gt, pt, ts3, m1, m2, m3, m4⟩ := hM0
    refine ⟨rfl, _, rfl, x, _, _, _, _, rfl, m1, T.cl_Meetings, T.n_Meetings_guests, fldsM_guests _ _, _, rfl, ?_⟩
    dsimp only [tNil]
    refine ⟨g, _, rfl, .inl ⟨SqL.of hg, fun e ne => ?_⟩⟩
    generalize hG : upd H3 e _ = H4
    have s4 : Same H3 H4 := hG ▸ same_new ne
    have he := (congrFun hG e).symm.trans upd_same
    clear hG
    refine ⟨.tuple (pd gs), .tuple (pd gs), .tup (SqT.of (s4 _ _ m2)) (dp_pd _), .tup (SqT.of he) (dp_pd _), shaped_pdT ogz, shaped_pdT ogz, _, rfl, ifF (by rw [eqv_T, decide_eq_true rfl]; rfl) ?_⟩
    refine ⟨_, rfl, x, _, _, _, _, rfl, s4 _ _ m1, T.cl_Meetings, T.n_Meetings_pairs, fldsM_pairs _ _, _, rfl, ?_⟩
    dsimp only [tNil]
    refine ⟨PD, _, rfl, .inl ⟨SqL.of (s4 _ _ hPD), fun e2 ne2 => ?_⟩⟩
    generalize hG : upd H4 e2 _ = H5
    have s5 : Same H4 H5 := hG ▸ same_new ne2
    have he2 := (congrFun hG e2).symm.trans upd_same
    clear hG
    have s45 := s4.trans s5
    refine ⟨.tuple (pdd _), .tuple (pdd _), .tup (SqT.of (s45 _ _ m3)) (dp_pdd (m4.same s45)), .tup (SqT.of he2) (dp_pdd (hts.same s45)), shaped_pddT opz, shaped_pddT opz, _, rfl, ifF (by rw [show PyData.eqv (.tuple (pdd told)) (.tuple (pdd told)) = true from eqvT (lay_pdd opz)]; rfl) ?_⟩
    have hg := s45 _ _ hg
    have hPD := s45 _ _ hPD
    have hts := hts.same s45
    have hDD := s45 _ _ hDD
    have hus := hus.same s45
    have hp2 := s45 _ _ hp2
    have hM := hM.same s45
    have hA := hA.same s45
    clear m1 m2 m3 m4 s4 s5 s45 he he2 ne ne2
    have hgl0 : (sv gs).length = gs.length := len_sv _
    refine ⟨_, rfl, g, rfl, ⟨_, SqL.of hg⟩, for_it walk_list (fun i σ G => Same H5 G ∧ ∃ u16 u17 u18 : Option V, σ = [some (.ref a), some (.ref p0), some (.ref p1), some (.ref p2), some (.ref p3), some (.bl gr), some (.ref SZ), some (.int (n : Nat)), some (.ref g), u9, some (.ref GD), some (.ref PD), some (.ref DD), some (.ref HD), some (.ref x), some (.ref x2), u16, u17, u18, none, none, none, none, none]) ⟨Same.refl _, none, none, none, rfl⟩ (fun i σ G _ q => SqL.of (q.1 _ _ hg)) ?_ ?_⟩
    · rintro i y σ Ga G ei ⟨sm, u16, u17, u18, rfl⟩ ⟨rfl, hy⟩
      obtain ⟨za, hza, rfl⟩ := sv_get hy
      have ma := List.mem_of_getElem? hza
      refine ⟨_, rfl, g, rfl, ⟨_, SqL.of (sm _ _ hg)⟩, for_it walk_list (fun j σ G2 => Same H5 G2 ∧ ∃ u17 u18 : Option V, σ = [some (.ref a), some (.ref p0), some (.ref p1), some (.ref p2), some (.ref p3), some (.bl gr), some (.ref SZ), some (.int (n : Nat)), some (.ref g), u9, some (.ref GD), some (.ref PD), some (.ref DD), some (.ref HD), some (.ref x), some (.ref x2), some (.str za), u17, u18, none, none, none, none, none]) ⟨sm, _, _, rfl⟩ (fun j σ G _ q => SqL.of (q.1 _ _ hg)) ?_ ?_⟩
      · rintro j y σ Ga G ej ⟨sm, u17, u18, rfl⟩ ⟨rfl, hy⟩
        obtain ⟨zb, hzb, rfl⟩ := sv_get hy
        have mb := List.mem_of_getElem? hzb
        have hMG := hM.same sm
        have hMG0 := hMG
        obtain ⟨dx3, gt, pt, ts3, m1, _⟩ := hMG0
        refine ⟨_, rfl, x, dx3, _, rfl, m1, fldsM_met gt pt, _, rfl, _, rfl, x, za, zb, gs, told, rfl, hMG, hGs.g, opz, ma, mb, fun G1 s1 => ?_⟩
        have sm1 := sm.trans s1
        refine ⟨_, rfl, _, _, _, _, true, rfl, .ty _, .base (.bl _), kit_ty (by decide +kernel), true, rfl, ifF rfl ?_⟩
        refine ⟨_, rfl, _, rfl, _, rfl, _, rfl, PD, ts, za, zb, told, rfl, SqL.of (sm1 _ _ hPD), hts.same sm1, ogz za ma, ogz zb mb, opz, fun G2 s2 => ?_⟩
        refine ⟨rfl, _, rfl, ifF (by rw [decide_eq_true rfl]; rfl) ?_⟩
        have sm2 := sm1.trans s2
        have hAG := hA.same sm2
        have hAG0 := hAG
        obtain ⟨dx4, gt4, pt4, ts4, k1, _⟩ := hAG0
        refine ⟨_, rfl, x2, dx4, _, rfl, k1, fldsM_met gt4 pt4, _, rfl, _, rfl, x2, za, zb, gs, [], rfl, hAG, hGs.g, (fun q hq => by simp at hq), ma, mb, fun G3 s3 => ?_⟩
        refine ⟨_, rfl, ifF (met_nil za zb) ?_⟩
        exact ⟨sm2.trans s3, _, _, rfl⟩
      · rintro σ G ⟨sm, u17, u18, rfl⟩
        exact ⟨sm, _, _, _, rfl⟩
    rintro σ H6 ⟨s6, u16, u17, u18, rfl⟩
    have hg := s6 _ _ hg
    have hPD := s6 _ _ hPD
    have hts := hts.same s6
    have hDD := s6 _ _ hDD
    have hus := hus.same s6
    have hp2 := s6 _ _ hp2
    have hM := hM.same s6
    have hA := hA.same s6
    clear s6
    have cl : (comps gs told).length ≤ 5000 := Nat.le_trans (comps_len gs told (by omega)) (by decide)
    have cok : ∀ S ∈ comps gs told, ∀ z ∈ S, Okz z := fun S hS z hz => ogz z (comps_mem hS hz)
    have hM0 := hM
    obtain ⟨dx3, gt, pt, ts3, m1, _⟩ := hM0
    refine ⟨_, rfl, x, dx3, _, rfl, m1, fldsM_comp gt pt, x, gs, told, rfl, hM, hGs.g, by omega, opz, fun FD ft H7 s7 nFD hFD hft => ?_⟩
    refine ⟨_, rfl, _, rfl, FD, DD, comps gs told, ft, us, rfl, hFD, hft, SqL.of (s7 _ _ hDD), hus.same s7, cl, cok, fun H8 s8 => ⟨_, rfl, ifF rfl ?_⟩⟩
    have hFD8 := s8 _ _ hFD
    have ftl : (ft.map V.ref).length = (comps gs told).length := by rw [List.length_map, hft.len]
    refine ⟨_, rfl, .inl ⟨rfl, _, SqL.of hFD8⟩, by show 1 ≤ sizeLine; decide, fun l5 n5 => ?_⟩
    generalize hG : upd H8 l5 _ = H9
    have s9 : Same H8 H9 := hG ▸ same_new n5
    have y9 := (congrFun hG l5).symm.trans upd_same
    clear hG
    have hFD9 := s9 _ _ hFD8
    refine ⟨FD, _, _, rfl, rfl, hFD9, small_int (by rw [ftl]; omega), ?_⟩
    have s69 : Same H6 (upd H9 FD (.lst (ft.map V.ref ++ [.ref l5]))) := app_same nFD (s7.trans (s8.trans s9))
    generalize upd H9 FD (.lst (ft.map V.ref ++ [.ref l5])) = HA at s69 ⊢
    have hg := s69 _ _ hg
    have hPD := s69 _ _ hPD
    have hts := hts.same s69
    have hDD := s69 _ _ hDD
    have hus := hus.same s69
    have hp2 := s69 _ _ hp2
    have hM := hM.same s69
    have hA := hA.same s69
    clear s69 hFD9 hFD8 s7 s8 s9 y9 n5 hft hFD nFD m1
    have hA0 := hA
    obtain ⟨dx4, gt4, pt4, ts4, k1, _⟩ := hA0
    refine ⟨_, rfl, x2, dx4, _, rfl, k1, fldsM_comp gt4 pt4, x2, gs, [], rfl, hA, hGs.g, by omega, (fun q hq => by simp at hq), fun AD at' HB sB nAD hAD hat => ?_⟩
    rw [comps_none] at hat
    have hgB := sB _ _ hg
    refine ⟨_, rfl, g, rfl, ⟨_, SqL.of hgB⟩, fun D3 nD3 => lc_it walk_list (fun i G2 => LcG (fun r => .tup (sv r)) HB D3 ((gs.take i).map fun z => [z]) G2) (lcg0 nD3) (fun i G2 _ q => SqL.of (q.1 _ _ hgB)) ?_ ?_⟩
    · rintro i y Ga Gb ei q ⟨rfl, hy⟩
      obtain ⟨z, hz, rfl⟩ := sv_get hy
      refine ⟨rfl, _, rfl, by show 1 ≤ sizeLine; decide, fun l2 n2 => ?_⟩
      generalize hG : upd Gb l2 _ = G3
      have t3 : Same Gb G3 := hG ▸ same_new n2
      have y3 := (congrFun hG l2).symm.trans upd_same
      clear hG
      have hne : l2 ≠ D3 := fun e => by
        obtain ⟨_, us, h, _⟩ := q
        rw [e, h] at n2; cases n2
      rw [take_succ hz, List.map_append]
      exact q.push nD3 t3 y3 hne (by rw [List.length_map, List.length_take]; omega)
    rintro HC ⟨sC, ut, hD3, hut, _⟩
    have hut : Lg (fun r => .tup (sv r)) HC ut (gs.map fun z => [z]) := by
      rw [len_sv, List.take_length] at hut; exact hut
    refine ⟨AD, D3, gs.map fun z => [z], at', ut, rfl, sC _ _ hAD, hat.same sC, SqL.of hD3, hut, by rw [List.length_map]; omega, fun S hS z hz => ?_, fun HE sE => ⟨_, rfl, ifF rfl ?_⟩⟩
    · obtain ⟨y, hy, rfl⟩ := List.mem_map.mp hS
      rw [List.mem_singleton.mp hz]; exact ogz y hy
    have sAE := sB.trans (sC.trans sE)
    have hg := sAE _ _ hg
    have hPD := sAE _ _ hPD
    have hts := hts.same sAE
    have hDD := sAE _ _ hDD
    have hus := hus.same sAE
    have hp2 := sAE _ _ hp2
    have hM := hM.same sAE
    clear sAE sB sC sE hA k1 hat hAD hgB hut hD3 nD3
    have hM0 := hM
    obtain ⟨dx3, gt, pt, ts3, m1, _⟩ := hM0
    refine ⟨_, rfl, x, dx3, _, rfl, m1, fldsM_comp gt pt, x, gs, told, rfl, hM, hGs.g, by omega, opz, fun MD mt HF sF nMD hMD hmt => ?_⟩
    refine ⟨_, rfl, MD, DD, comps gs told, mt, us, rfl, hMD, hmt, SqL.of (sF _ _ hDD), hus.same sF, cl, cok, fun HG s8 => ⟨_, rfl, ifF rfl ?_⟩⟩
    have sFG := sF.trans s8
    refine ⟨_, rfl, _, rfl, _, rfl, x, g, DD, gs, told, us, rfl, hM.same sFG, SqL.of (sFG _ _ hg), hGs.g, by omega, opz, SqL.of (sFG _ _ hDD), hus.same sFG, fun HH s9 => ⟨_, rfl, ifF rfl ?_⟩⟩
    have sFH := sFG.trans s9
    have hg := sFH _ _ hg
    have hPD := sFH _ _ hPD
    have hts := hts.same sFH
    have hp2 := sFH _ _ hp2
    have hM := hM.same sFH
    clear sFH sFG sF s8 s9 hmt hMD hDD hus m1
    have st1 : ("stranger" : Str).length ≤ 1000 := by decide +kernel
    have unk : ∀ {G1 : Hp} {t l : Addr}, G1 t = some (.tup [.str "stranger", .ref l]) → G1 l = some (.lst [.bl true, .bl true, .bl false]) → Dp K G1 (.ref t) (.tuple wUnk) := fun ht hl => .tup (SqT.of ht) (.cons (.str _) (.cons (.lst (xs := [true, true, false].map V.bl) (SqL.of hl) (dpAll_bl _)) .nil))
    refine ⟨_, rfl, by show 1 ≤ sizeLine; decide, fun l6 n6 => ?_⟩
    generalize hG : upd HH l6 _ = HI
    have sI : Same HH HI := hG ▸ same_new n6
    have yI := (congrFun hG l6).symm.trans upd_same
    clear hG
    refine catO (sI _ _ hg) yI (by rw [len_sv]; show _ + 1 ≤ _; omega) fun b7 HJ sJ n7 yJ => ?_
    have yJ : HJ b7 = some (.lst (sv (gs ++ [("zzzzzzzz" : Str)]))) := by rw [yJ]; exact congrArg some (congrArg HO.lst (sv_snoc gs "zzzzzzzz").symm)
    have sHJ := sI.trans sJ
    refine ⟨b7, rfl, ⟨_, SqL.of yJ⟩, for_it walk_list (fun i σ G => Same HJ G ∧ ∃ u20 : Option V, σ = [some (.ref a), some (.ref p0), some (.ref p1), some (.ref p2), some (.ref p3), some (.bl gr), some (.ref SZ), some (.int (n : Nat)), some (.ref g), u9, some (.ref GD), some (.ref PD), some (.ref DD), some (.ref HD), some (.ref x), some (.ref x2), u16, u17, u18, some (.ref FD), u20, none, none, none]) ⟨Same.refl _, _, rfl⟩ (fun i σ G _ q => SqL.of (q.1 _ _ yJ)) ?_ ?_⟩
    · rintro i y σ Ga G ei ⟨sm, u20, rfl⟩ ⟨rfl, hy⟩
      obtain ⟨z, hz, rfl⟩ := sv_get hy
      have gz : Good z := by
        rcases List.mem_append.mp (List.mem_of_getElem? hz) with h | h
        · exact hGs.g z h
        · rw [List.mem_singleton.mp h]; exact good_z8
      refine ⟨_, rfl, _, rfl, x, "stranger", z, "stranger", gs, told, rfl, (hM.same sHJ).same sm, okz_good good_stranger, okz_good gz, st1, Nat.le_trans gz.le (by decide), opz, .inl ⟨rfl, hGs.st⟩, fun t l G1 s1 ht hl => ?_⟩
      refine ⟨by show 3 ≤ sizeLine; decide, fun l8 n8 => ?_⟩
      generalize hG : upd G1 l8 _ = G2
      have s2 : Same G1 G2 := hG ▸ same_new n8
      have y8 := (congrFun hG l8).symm.trans upd_same
      clear hG
      refine ⟨by show 2 ≤ sizeLine; decide, fun t9 n9 => ?_⟩
      generalize hG : upd G2 t9 _ = G3
      have s3 : Same G2 G3 := hG ▸ same_new n9
      have y9 := (congrFun hG t9).symm.trans upd_same
      clear hG
      refine ⟨.tuple wUnk, .tuple wUnk, unk (s3 _ _ (s2 _ _ ht)) (s3 _ _ (s2 _ _ hl)), unk y9 (s3 _ _ y8), shapedT lay_unk dep_unk, shapedT lay_unk dep_unk, _, rfl, ifF (by rw [eqvT lay_unk]; rfl) ?_⟩
      exact ⟨sm.trans (s1.trans (s2.trans s3)), _, rfl⟩
    rintro σ HK ⟨sK, u20, rfl⟩
    have sHK := sHJ.trans sK
    have hg := sHK _ _ hg
    have hPD := sHK _ _ hPD
    have hts := hts.same sHK
    have hp2 := sHK _ _ hp2
    have hM := hM.same sHK
    clear sHK sK sHJ sI sJ yI yJ
    refine ⟨fun σ G => Same HK G ∧ σ = [some (.ref a), some (.ref p0), some (.ref p1), some (.ref p2), some (.ref p3), some (.bl gr), some (.ref SZ), some (.int (n : Nat)), some (.ref g), u9, some (.ref GD), some (.ref PD), some (.ref DD), some (.ref HD), some (.ref x), some (.ref x2), u16, u17, u18, some (.ref FD), u20, none, none, none], ?_, ?_⟩
    · refine ⟨_, rfl, _, _, rfl, rfl, _, rfl, ?_⟩
      by_cases hn0 : ((n : Nat) : Int) > 0
      case neg => exact ifF (decide_eq_false hn0) (ifF rfl ⟨Same.refl _, rfl⟩)
      have hz0 : gs[0]? = some gs[0] := List.getElem?_eq_getElem (by omega)
      have m0 := List.mem_of_getElem? hz0
      refine ifT (decide_eq_true hn0) ⟨_, rfl, _, rfl, g, _, _, _, rfl, rfl, SqL.of hg, atS_of hz0, x, gs[0], "stranger", "stranger", gs, told, rfl, hM, ogz _ m0, okz_good good_stranger, Nat.le_trans (hGs.g _ m0).le (by decide), st1, opz, .inr ⟨rfl, m0, hGs.st⟩, fun t l G1 s1 ht hl => ?_⟩
      refine ⟨by show 3 ≤ sizeLine; decide, fun l8 n8 => ?_⟩
      generalize hG : upd G1 l8 _ = G2
      have s2 : Same G1 G2 := hG ▸ same_new n8
      have y8 := (congrFun hG l8).symm.trans upd_same
      clear hG
      refine ⟨by show 2 ≤ sizeLine; decide, fun t9 n9 => ?_⟩
      generalize hG : upd G2 t9 _ = G3
      have s3 : Same G2 G3 := hG ▸ same_new n9
      have y9 := (congrFun hG t9).symm.trans upd_same
      clear hG
      refine ⟨.tuple wUnk, .tuple wUnk, unk (s3 _ _ (s2 _ _ ht)) (s3 _ _ (s2 _ _ hl)), unk y9 (s3 _ _ y8), shapedT lay_unk dep_unk, shapedT lay_unk dep_unk, _, rfl, ifF (by rw [eqvT lay_unk]; rfl) ?_⟩
      exact ⟨s1.trans (s2.trans s3), rfl⟩
    rintro σ HL ⟨sL, rfl⟩
    have hg := sL _ _ hg
    have hPD := sL _ _ hPD
    have hts := hts.same sL
    have hp2 := sL _ _ hp2
    clear sL hM
    refine ⟨_, rfl, _, rfl, _, rfl, g, PD, p2, gs, ts, told, q2, rfl, hg, hPD, hts, hGs.g, hGs.nd, by omega, hGs.z8, tgd, tl, SqL.of hp2, l2, fun R HM sM hB => ?_⟩
    obtain ⟨bg, bp, bgs, bts, bps, pt, bi, hR, hbg, hbp, hbts, b1, b2, b3, b4, hbad⟩ := hB
    refine ⟨_, rfl, R, _, _, _, rfl, rfl, SqL.of hR, rfl, _, rfl, R, _, _, _, rfl, rfl, SqL.of hR, rfl, bg, bp, bgs, bts, bps, pt, bi, rfl, SqL.of hbg, SqL.of hbp, hbts, b1, b2, b3, b4, hbad, fun t l HN sN ht hl => ?_⟩
    have hR := sN _ _ hR
    refine ⟨_, rfl, t, _, _, _, rfl, rfl, SqT.of ht, rfl, _, rfl, R, _, _, _, rfl, rfl, SqL.of hR, rfl, rfl, _, rfl, ifT (decide_eq_true rfl) ?_⟩
    refine ⟨_, rfl, t, _, _, _, rfl, rfl, SqT.of ht, rfl, _, rfl, R, _, _, _, rfl, rfl, SqL.of hR, rfl, _, rfl, R, _, _, _, rfl, rfl, SqL.of hR, rfl, _, _, _, rfl, ?_⟩
    rw [decide_eq_true (by omega)]
    refine ⟨_, rfl, ifT rfl ?_⟩
    refine ⟨_, rfl, t, _, _, _, rfl, rfl, SqT.of ht, rfl, by show 3 ≤ sizeLine; decide, fun l4 n4 => ?_⟩
    generalize hG : upd HN l4 _ = HO5
    have s6 : Same HN HO5 := hG ▸ same_new n4
    have h6 := (congrFun hG l4).symm.trans upd_same
    clear hG
    refine ⟨.list ([true, false, false].map PyData.bool), .list ([true, false, false].map PyData.bool), .lst (xs := [true, false, false].map V.bl) (SqL.of (s6 _ _ hl)) (dpAll_bl _), .lst (xs := [true, false, false].map V.bl) (SqL.of h6) (dpAll_bl _), shapedL (by decide +kernel) (by decide +kernel), shapedL (by decide +kernel) (by decide +kernel), ?_⟩
    rw [show PyData.eqv (.list ([true, false, false].map PyData.bool)) (.list ([true, false, false].map PyData.bool)) = true from eqvL (by decide +kernel)]
    exact kk _
end
end My
set_option maxRecDepth 100000
set_option maxHeartbeats 4000000
set_option exponentiation.threshold 10000
namespace My
open PySem L2
theorem all_mk {l : PySem.W.OpenLaw} {w : World} {K : PySem.W.Frag} {h : Heap} {mg : Str → Option Value} {fa C_Table C_Meetings C_RowsError C_Unknown C_Impossible C_UnknownGuest C_BadMeetings C_TooMany a_UnknownGuest_init a_BadMeetings_init a_TooMany_init a_is_name a_first_bad_name a_first_stray a_numbers_in a_named a_check_columns a_check_rows a_Table_in_order a_Table_init a_Meetings_init a_Meetings_met a_Meetings_companies a_Meetings_known_by a_check_guests a_check_pairs a_is_full a_company_table a_companies_with a_law_cell a_law_pool a_law_names a_law_order a_law_is_number a_law_met a_law_is_company a_law_companies a_law_free_pairs a_law_group_sizes a_law_groups a_law_pairs_across a_law_one_of_each a_law_told_pairs a_law_bad a_law_refused a_law_unknown a_law_same_companies a_law_table_right a_law e_Table_init : Addr} (X : K.In h) (G : h.Ns mainGlobals mg) (hfa : mg "law" = some (.ref fa))
    {cd_UnknownGuest : ClassData}
    {oc_UnknownGuest_init kV_UnknownGuest_init dc_UnknownGuest_init pm_UnknownGuest_init ct_UnknownGuest_init oa_UnknownGuest_init ob_UnknownGuest_init : Value} {od_UnknownGuest_init an_UnknownGuest_init da_UnknownGuest_init db_UnknownGuest_init : Option Addr} {sl_UnknownGuest_init la_UnknownGuest_init lb_UnknownGuest_init : Array (Option Value)} {cda_UnknownGuest_init cc_UnknownGuest_init : Addr} {vs_UnknownGuest_init : Array Value} {fl_UnknownGuest_init : Str} {tf_UnknownGuest_init : Tok}
    {cd_BadMeetings : ClassData}
    {oc_BadMeetings_init kV_BadMeetings_init dc_BadMeetings_init pm_BadMeetings_init ct_BadMeetings_init oa_BadMeetings_init ob_BadMeetings_init : Value} {od_BadMeetings_init an_BadMeetings_init da_BadMeetings_init db_BadMeetings_init : Option Addr} {sl_BadMeetings_init la_BadMeetings_init lb_BadMeetings_init : Array (Option Value)} {cda_BadMeetings_init cc_BadMeetings_init : Addr} {vs_BadMeetings_init : Array Value} {fl_BadMeetings_init : Str} {tf_BadMeetings_init : Tok}
    {cd_TooMany : ClassData}
    {oc_TooMany_init kV_TooMany_init dc_TooMany_init pm_TooMany_init ct_TooMany_init oa_TooMany_init ob_TooMany_init : Value} {od_TooMany_init an_TooMany_init da_TooMany_init db_TooMany_init : Option Addr} {sl_TooMany_init la_TooMany_init lb_TooMany_init : Array (Option Value)} {cda_TooMany_init cc_TooMany_init : Addr} {vs_TooMany_init : Array Value} {fl_TooMany_init : Str} {tf_TooMany_init : Tok}
    {tk_COLUMN_NAMES : Tok}
    {tk_LONGEST_NAME : Tok}
    {tk_MOST_GUESTS : Tok}
    {tk_Table_MOST_COLUMNS : Tok}
    {tk_Table_MOST_ROWS : Tok}
    {oc_is_name kV_is_name dc_is_name pm_is_name cd_is_name ct_is_name : Value} {od_is_name an_is_name : Option Addr} {sl_is_name : Array (Option Value)}
    {oc_first_bad_name kV_first_bad_name dc_first_bad_name pm_first_bad_name cd_first_bad_name ct_first_bad_name : Value} {od_first_bad_name an_first_bad_name : Option Addr} {sl_first_bad_name : Array (Option Value)}
    {oc_first_stray kV_first_stray dc_first_stray pm_first_stray cd_first_stray ct_first_stray : Value} {od_first_stray an_first_stray : Option Addr} {sl_first_stray : Array (Option Value)}
    {oc_numbers_in kV_numbers_in dc_numbers_in pm_numbers_in cd_numbers_in ct_numbers_in : Value} {od_numbers_in an_numbers_in : Option Addr} {sl_numbers_in : Array (Option Value)}
    {oc_named kV_named dc_named pm_named cd_named ct_named : Value} {od_named an_named : Option Addr} {sl_named : Array (Option Value)}
    {oc_check_columns kV_check_columns dc_check_columns pm_check_columns cd_check_columns ct_check_columns : Value} {od_check_columns an_check_columns : Option Addr} {sl_check_columns : Array (Option Value)}
    {oc_check_rows kV_check_rows dc_check_rows pm_check_rows cd_check_rows ct_check_rows : Value} {od_check_rows an_check_rows : Option Addr} {sl_check_rows : Array (Option Value)}
    {oc_Table_in_order kV_Table_in_order dc_Table_in_order pm_Table_in_order cd_Table_in_order ct_Table_in_order : Value} {od_Table_in_order an_Table_in_order : Option Addr} {sl_Table_in_order : Array (Option Value)}
    {oc_Table_init kV_Table_init dc_Table_init pm_Table_init cd_Table_init ct_Table_init : Value} {od_Table_init an_Table_init : Option Addr} {sl_Table_init : Array (Option Value)}
    {TD_Table_init : Addr} {to_Table_init : Option Addr} {tn_Table_init : Nat} {ts_Table_init : Array (Option Value)}
    {oc_Meetings_init kV_Meetings_init dc_Meetings_init pm_Meetings_init cd_Meetings_init ct_Meetings_init : Value} {od_Meetings_init an_Meetings_init : Option Addr} {sl_Meetings_init : Array (Option Value)}
    {oc_Meetings_met kV_Meetings_met dc_Meetings_met pm_Meetings_met cd_Meetings_met ct_Meetings_met : Value} {od_Meetings_met an_Meetings_met : Option Addr} {sl_Meetings_met : Array (Option Value)}
    {oc_Meetings_companies kV_Meetings_companies dc_Meetings_companies pm_Meetings_companies cd_Meetings_companies ct_Meetings_companies : Value} {od_Meetings_companies an_Meetings_companies : Option Addr} {sl_Meetings_companies : Array (Option Value)}
    {oc_Meetings_known_by kV_Meetings_known_by dc_Meetings_known_by pm_Meetings_known_by cd_Meetings_known_by ct_Meetings_known_by : Value} {od_Meetings_known_by an_Meetings_known_by : Option Addr} {sl_Meetings_known_by : Array (Option Value)}
    {oc_check_guests kV_check_guests dc_check_guests pm_check_guests cd_check_guests ct_check_guests : Value} {od_check_guests an_check_guests : Option Addr} {sl_check_guests : Array (Option Value)}
    {oc_check_pairs kV_check_pairs dc_check_pairs pm_check_pairs cd_check_pairs ct_check_pairs : Value} {od_check_pairs an_check_pairs : Option Addr} {sl_check_pairs : Array (Option Value)}
    {oc_is_full kV_is_full dc_is_full pm_is_full cd_is_full ct_is_full : Value} {od_is_full an_is_full : Option Addr} {sl_is_full : Array (Option Value)}
    {oc_company_table kV_company_table dc_company_table pm_company_table cd_company_table ct_company_table : Value} {od_company_table an_company_table : Option Addr} {sl_company_table : Array (Option Value)}
    {oc_companies_with kV_companies_with dc_companies_with pm_companies_with cd_companies_with ct_companies_with : Value} {od_companies_with an_companies_with : Option Addr} {sl_companies_with : Array (Option Value)}
    {oc_law_cell kV_law_cell dc_law_cell pm_law_cell cd_law_cell ct_law_cell : Value} {od_law_cell an_law_cell : Option Addr} {sl_law_cell : Array (Option Value)}
    {oc_law_pool kV_law_pool dc_law_pool pm_law_pool cd_law_pool ct_law_pool : Value} {od_law_pool an_law_pool : Option Addr} {sl_law_pool : Array (Option Value)}
    {oc_law_names kV_law_names dc_law_names pm_law_names cd_law_names ct_law_names : Value} {od_law_names an_law_names : Option Addr} {sl_law_names : Array (Option Value)}
    {oc_law_order kV_law_order dc_law_order pm_law_order cd_law_order ct_law_order : Value} {od_law_order an_law_order : Option Addr} {sl_law_order : Array (Option Value)}
    {oc_law_is_number kV_law_is_number dc_law_is_number pm_law_is_number cd_law_is_number ct_law_is_number : Value} {od_law_is_number an_law_is_number : Option Addr} {sl_law_is_number : Array (Option Value)}
    {oc_law_met kV_law_met dc_law_met pm_law_met cd_law_met ct_law_met : Value} {od_law_met an_law_met : Option Addr} {sl_law_met : Array (Option Value)}
    {oc_law_is_company kV_law_is_company dc_law_is_company pm_law_is_company cd_law_is_company ct_law_is_company : Value} {od_law_is_company an_law_is_company : Option Addr} {sl_law_is_company : Array (Option Value)}
    {oc_law_companies kV_law_companies dc_law_companies pm_law_companies cd_law_companies ct_law_companies : Value} {od_law_companies an_law_companies : Option Addr} {sl_law_companies : Array (Option Value)}
    {oc_law_free_pairs kV_law_free_pairs dc_law_free_pairs pm_law_free_pairs cd_law_free_pairs ct_law_free_pairs : Value} {od_law_free_pairs an_law_free_pairs : Option Addr} {sl_law_free_pairs : Array (Option Value)}
    {oc_law_group_sizes kV_law_group_sizes dc_law_group_sizes pm_law_group_sizes cd_law_group_sizes ct_law_group_sizes : Value} {od_law_group_sizes an_law_group_sizes : Option Addr} {sl_law_group_sizes : Array (Option Value)}
    {oc_law_groups kV_law_groups dc_law_groups pm_law_groups cd_law_groups ct_law_groups : Value} {od_law_groups an_law_groups : Option Addr} {sl_law_groups : Array (Option Value)}
    {oc_law_pairs_across kV_law_pairs_across dc_law_pairs_across pm_law_pairs_across cd_law_pairs_across ct_law_pairs_across : Value} {od_law_pairs_across an_law_pairs_across : Option Addr} {sl_law_pairs_across : Array (Option Value)}
    {oc_law_one_of_each kV_law_one_of_each dc_law_one_of_each pm_law_one_of_each cd_law_one_of_each ct_law_one_of_each : Value} {od_law_one_of_each an_law_one_of_each : Option Addr} {sl_law_one_of_each : Array (Option Value)}
    {oc_law_told_pairs kV_law_told_pairs dc_law_told_pairs pm_law_told_pairs cd_law_told_pairs ct_law_told_pairs : Value} {od_law_told_pairs an_law_told_pairs : Option Addr} {sl_law_told_pairs : Array (Option Value)}
    {oc_law_bad kV_law_bad dc_law_bad pm_law_bad cd_law_bad ct_law_bad : Value} {od_law_bad an_law_bad : Option Addr} {sl_law_bad : Array (Option Value)}
    {oc_law_refused kV_law_refused dc_law_refused pm_law_refused cd_law_refused ct_law_refused : Value} {od_law_refused an_law_refused : Option Addr} {sl_law_refused : Array (Option Value)}
    {oc_law_unknown kV_law_unknown dc_law_unknown pm_law_unknown cd_law_unknown ct_law_unknown : Value} {od_law_unknown an_law_unknown : Option Addr} {sl_law_unknown : Array (Option Value)}
    {oc_law_same_companies kV_law_same_companies dc_law_same_companies pm_law_same_companies cd_law_same_companies ct_law_same_companies : Value} {od_law_same_companies an_law_same_companies : Option Addr} {sl_law_same_companies : Array (Option Value)}
    {oc_law_table_right kV_law_table_right dc_law_table_right pm_law_table_right cd_law_table_right ct_law_table_right : Value} {od_law_table_right an_law_table_right : Option Addr} {sl_law_table_right : Array (Option Value)}
    {oc_law kV_law dc_law pm_law cd_law ct_law : Value} {od_law an_law : Option Addr} {sl_law : Array (Option Value)}
    (xmg_Table : PySem.W.nsIn K mainGlobals "Table" = some (some (.ref C_Table)))
    (xmg_Meetings : PySem.W.nsIn K mainGlobals "Meetings" = some (some (.ref C_Meetings)))
    (xmg_RowsError : PySem.W.nsIn K mainGlobals "RowsError" = some (some (.ref C_RowsError)))
    (xmg_Unknown : PySem.W.nsIn K mainGlobals "Unknown" = some (some (.ref C_Unknown)))
    (xmg_Impossible : PySem.W.nsIn K mainGlobals "Impossible" = some (some (.ref C_Impossible)))
    (xmg_UnknownGuest : PySem.W.nsIn K mainGlobals "UnknownGuest" = some (some (.ref C_UnknownGuest)))
    (xmg_BadMeetings : PySem.W.nsIn K mainGlobals "BadMeetings" = some (some (.ref C_BadMeetings)))
    (xmg_TooMany : PySem.W.nsIn K mainGlobals "TooMany" = some (some (.ref C_TooMany)))
    (am_UnknownGuest_init : PySem.W.findIn K (.ref C_UnknownGuest) "__init__" = some (some (.ref a_UnknownGuest_init)))
    (am_BadMeetings_init : PySem.W.findIn K (.ref C_BadMeetings) "__init__" = some (some (.ref a_BadMeetings_init)))
    (am_TooMany_init : PySem.W.findIn K (.ref C_TooMany) "__init__" = some (some (.ref a_TooMany_init)))
    (xmg_COLUMN_NAMES : PySem.W.nsIn K mainGlobals "COLUMN_NAMES" = some (some (.str "abcdefghijkl" tk_COLUMN_NAMES)))
    (xmg_LONGEST_NAME : PySem.W.nsIn K mainGlobals "LONGEST_NAME" = some (some (.int 8 tk_LONGEST_NAME)))
    (xmg_MOST_GUESTS : PySem.W.nsIn K mainGlobals "MOST_GUESTS" = some (some (.int 10 tk_MOST_GUESTS)))
    (xmg_is_name : PySem.W.nsIn K mainGlobals "is_name" = some (some (.ref a_is_name)))
    (xmg_first_bad_name : PySem.W.nsIn K mainGlobals "first_bad_name" = some (some (.ref a_first_bad_name)))
    (xmg_first_stray : PySem.W.nsIn K mainGlobals "first_stray" = some (some (.ref a_first_stray)))
    (xmg_numbers_in : PySem.W.nsIn K mainGlobals "numbers_in" = some (some (.ref a_numbers_in)))
    (xmg_named : PySem.W.nsIn K mainGlobals "named" = some (some (.ref a_named)))
    (xmg_check_columns : PySem.W.nsIn K mainGlobals "check_columns" = some (some (.ref a_check_columns)))
    (xmg_check_rows : PySem.W.nsIn K mainGlobals "_check_rows" = some (some (.ref a_check_rows)))
    (am_Table_in_order : PySem.W.findIn K (.ref C_Table) "_in_order" = some (some (.ref a_Table_in_order)))
    (am_Table_init : PySem.W.findIn K (.ref C_Table) "__init__" = some (some (.ref a_Table_init)))
    (am_Meetings_init : PySem.W.findIn K (.ref C_Meetings) "__init__" = some (some (.ref a_Meetings_init)))
    (am_Meetings_met : PySem.W.findIn K (.ref C_Meetings) "met" = some (some (.ref a_Meetings_met)))
    (am_Meetings_companies : PySem.W.findIn K (.ref C_Meetings) "companies" = some (some (.ref a_Meetings_companies)))
    (am_Meetings_known_by : PySem.W.findIn K (.ref C_Meetings) "_known_by" = some (some (.ref a_Meetings_known_by)))
    (xmg_check_guests : PySem.W.nsIn K mainGlobals "_check_guests" = some (some (.ref a_check_guests)))
    (xmg_check_pairs : PySem.W.nsIn K mainGlobals "_check_pairs" = some (some (.ref a_check_pairs)))
    (xmg_is_full : PySem.W.nsIn K mainGlobals "_is_full" = some (some (.ref a_is_full)))
    (xmg_company_table : PySem.W.nsIn K mainGlobals "company_table" = some (some (.ref a_company_table)))
    (xmg_companies_with : PySem.W.nsIn K mainGlobals "_companies_with" = some (some (.ref a_companies_with)))
    (xmg_law_cell : PySem.W.nsIn K mainGlobals "_law_cell" = some (some (.ref a_law_cell)))
    (xmg_law_pool : PySem.W.nsIn K mainGlobals "_law_pool" = some (some (.ref a_law_pool)))
    (xmg_law_names : PySem.W.nsIn K mainGlobals "_law_names" = some (some (.ref a_law_names)))
    (xmg_law_order : PySem.W.nsIn K mainGlobals "_law_order" = some (some (.ref a_law_order)))
    (xmg_law_is_number : PySem.W.nsIn K mainGlobals "_law_is_number" = some (some (.ref a_law_is_number)))
    (xmg_law_met : PySem.W.nsIn K mainGlobals "_law_met" = some (some (.ref a_law_met)))
    (xmg_law_is_company : PySem.W.nsIn K mainGlobals "_law_is_company" = some (some (.ref a_law_is_company)))
    (xmg_law_companies : PySem.W.nsIn K mainGlobals "_law_companies" = some (some (.ref a_law_companies)))
    (xmg_law_free_pairs : PySem.W.nsIn K mainGlobals "_law_free_pairs" = some (some (.ref a_law_free_pairs)))
    (xmg_law_group_sizes : PySem.W.nsIn K mainGlobals "_law_group_sizes" = some (some (.ref a_law_group_sizes)))
    (xmg_law_groups : PySem.W.nsIn K mainGlobals "_law_groups" = some (some (.ref a_law_groups)))
    (xmg_law_pairs_across : PySem.W.nsIn K mainGlobals "_law_pairs_across" = some (some (.ref a_law_pairs_across)))
    (xmg_law_one_of_each : PySem.W.nsIn K mainGlobals "_law_one_of_each" = some (some (.ref a_law_one_of_each)))
    (xmg_law_told_pairs : PySem.W.nsIn K mainGlobals "_law_told_pairs" = some (some (.ref a_law_told_pairs)))
    (xmg_law_bad : PySem.W.nsIn K mainGlobals "_law_bad" = some (some (.ref a_law_bad)))
    (xmg_law_refused : PySem.W.nsIn K mainGlobals "_law_refused" = some (some (.ref a_law_refused)))
    (xmg_law_unknown : PySem.W.nsIn K mainGlobals "_law_unknown" = some (some (.ref a_law_unknown)))
    (xmg_law_same_companies : PySem.W.nsIn K mainGlobals "_law_same_companies" = some (some (.ref a_law_same_companies)))
    (xmg_law_table_right : PySem.W.nsIn K mainGlobals "_law_table_right" = some (some (.ref a_law_table_right)))
    (xmg_law : PySem.W.nsIn K mainGlobals "law" = some (some (.ref a_law)))
    (if_Table_in_order : PySem.W.isFn K (.ref a_Table_in_order) = true)
    (if_Table_init : PySem.W.isFn K (.ref a_Table_init) = true)
    (if_Meetings_init : PySem.W.isFn K (.ref a_Meetings_init) = true)
    (if_Meetings_met : PySem.W.isFn K (.ref a_Meetings_met) = true)
    (if_Meetings_companies : PySem.W.isFn K (.ref a_Meetings_companies) = true)
    (if_Meetings_known_by : PySem.W.isFn K (.ref a_Meetings_known_by) = true)
    (l_UnknownGuest_init : K.lookup a_UnknownGuest_init = some ⟨oc_UnknownGuest_init, od_UnknownGuest_init, .func (PySem.W.ksFn "__init__" "UnknownGuest.__init__" (defArgs s_UnknownGuest_init) (defBody s_UnknownGuest_init) (defScope s_UnknownGuest_init) .none kV_UnknownGuest_init dc_UnknownGuest_init pm_UnknownGuest_init an_UnknownGuest_init (.ref cda_UnknownGuest_init) ct_UnknownGuest_init cc_UnknownGuest_init), sl_UnknownGuest_init⟩)
    (l_BadMeetings_init : K.lookup a_BadMeetings_init = some ⟨oc_BadMeetings_init, od_BadMeetings_init, .func (PySem.W.ksFn "__init__" "BadMeetings.__init__" (defArgs s_BadMeetings_init) (defBody s_BadMeetings_init) (defScope s_BadMeetings_init) .none kV_BadMeetings_init dc_BadMeetings_init pm_BadMeetings_init an_BadMeetings_init (.ref cda_BadMeetings_init) ct_BadMeetings_init cc_BadMeetings_init), sl_BadMeetings_init⟩)
    (l_TooMany_init : K.lookup a_TooMany_init = some ⟨oc_TooMany_init, od_TooMany_init, .func (PySem.W.ksFn "__init__" "TooMany.__init__" (defArgs s_TooMany_init) (defBody s_TooMany_init) (defScope s_TooMany_init) .none kV_TooMany_init dc_TooMany_init pm_TooMany_init an_TooMany_init (.ref cda_TooMany_init) ct_TooMany_init cc_TooMany_init), sl_TooMany_init⟩)
    (l_is_name : K.lookup a_is_name = some ⟨oc_is_name, od_is_name, .func (PySem.W.fnOf "is_name" "is_name" (defArgs s_is_name) (defBody s_is_name) (defScope s_is_name) .none kV_is_name dc_is_name pm_is_name an_is_name cd_is_name ct_is_name), sl_is_name⟩)
    (l_first_bad_name : K.lookup a_first_bad_name = some ⟨oc_first_bad_name, od_first_bad_name, .func (PySem.W.fnOf "first_bad_name" "first_bad_name" (defArgs s_first_bad_name) (defBody s_first_bad_name) (defScope s_first_bad_name) .none kV_first_bad_name dc_first_bad_name pm_first_bad_name an_first_bad_name cd_first_bad_name ct_first_bad_name), sl_first_bad_name⟩)
    (l_first_stray : K.lookup a_first_stray = some ⟨oc_first_stray, od_first_stray, .func (PySem.W.fnOf "first_stray" "first_stray" (defArgs s_first_stray) (defBody s_first_stray) (defScope s_first_stray) .none kV_first_stray dc_first_stray pm_first_stray an_first_stray cd_first_stray ct_first_stray), sl_first_stray⟩)
    (l_numbers_in : K.lookup a_numbers_in = some ⟨oc_numbers_in, od_numbers_in, .func (PySem.W.fnOf "numbers_in" "numbers_in" (defArgs s_numbers_in) (defBody s_numbers_in) (defScope s_numbers_in) .none kV_numbers_in dc_numbers_in pm_numbers_in an_numbers_in cd_numbers_in ct_numbers_in), sl_numbers_in⟩)
    (l_named : K.lookup a_named = some ⟨oc_named, od_named, .func (PySem.W.fnOf "named" "named" (defArgs s_named) (defBody s_named) (defScope s_named) .none kV_named dc_named pm_named an_named cd_named ct_named), sl_named⟩)
    (l_check_columns : K.lookup a_check_columns = some ⟨oc_check_columns, od_check_columns, .func (PySem.W.fnOf "check_columns" "check_columns" (defArgs s_check_columns) (defBody s_check_columns) (defScope s_check_columns) .none kV_check_columns dc_check_columns pm_check_columns an_check_columns cd_check_columns ct_check_columns), sl_check_columns⟩)
    (l_check_rows : K.lookup a_check_rows = some ⟨oc_check_rows, od_check_rows, .func (PySem.W.fnOf "_check_rows" "_check_rows" (defArgs s_check_rows) (defBody s_check_rows) (defScope s_check_rows) .none kV_check_rows dc_check_rows pm_check_rows an_check_rows cd_check_rows ct_check_rows), sl_check_rows⟩)
    (l_Table_in_order : K.lookup a_Table_in_order = some ⟨oc_Table_in_order, od_Table_in_order, .func (PySem.W.fnOf "_in_order" "Table._in_order" (defArgs s_Table_in_order) (defBody s_Table_in_order) (defScope s_Table_in_order) .none kV_Table_in_order dc_Table_in_order pm_Table_in_order an_Table_in_order cd_Table_in_order ct_Table_in_order), sl_Table_in_order⟩)
    (l_Table_init : K.lookup a_Table_init = some ⟨oc_Table_init, od_Table_init, .func (PySem.W.fnOf "__init__" "Table.__init__" (defArgs s_Table_init) (defBody s_Table_init) (defScope s_Table_init) (.ref TD_Table_init) kV_Table_init dc_Table_init pm_Table_init an_Table_init cd_Table_init ct_Table_init), sl_Table_init⟩)
    (l_Meetings_init : K.lookup a_Meetings_init = some ⟨oc_Meetings_init, od_Meetings_init, .func (PySem.W.fnOf "__init__" "Meetings.__init__" (defArgs s_Meetings_init) (defBody s_Meetings_init) (defScope s_Meetings_init) .none kV_Meetings_init dc_Meetings_init pm_Meetings_init an_Meetings_init cd_Meetings_init ct_Meetings_init), sl_Meetings_init⟩)
    (l_Meetings_met : K.lookup a_Meetings_met = some ⟨oc_Meetings_met, od_Meetings_met, .func (PySem.W.fnOf "met" "Meetings.met" (defArgs s_Meetings_met) (defBody s_Meetings_met) (defScope s_Meetings_met) .none kV_Meetings_met dc_Meetings_met pm_Meetings_met an_Meetings_met cd_Meetings_met ct_Meetings_met), sl_Meetings_met⟩)
    (l_Meetings_companies : K.lookup a_Meetings_companies = some ⟨oc_Meetings_companies, od_Meetings_companies, .func (PySem.W.fnOf "companies" "Meetings.companies" (defArgs s_Meetings_companies) (defBody s_Meetings_companies) (defScope s_Meetings_companies) .none kV_Meetings_companies dc_Meetings_companies pm_Meetings_companies an_Meetings_companies cd_Meetings_companies ct_Meetings_companies), sl_Meetings_companies⟩)
    (l_Meetings_known_by : K.lookup a_Meetings_known_by = some ⟨oc_Meetings_known_by, od_Meetings_known_by, .func (PySem.W.fnOf "_known_by" "Meetings._known_by" (defArgs s_Meetings_known_by) (defBody s_Meetings_known_by) (defScope s_Meetings_known_by) .none kV_Meetings_known_by dc_Meetings_known_by pm_Meetings_known_by an_Meetings_known_by cd_Meetings_known_by ct_Meetings_known_by), sl_Meetings_known_by⟩)
    (l_check_guests : K.lookup a_check_guests = some ⟨oc_check_guests, od_check_guests, .func (PySem.W.fnOf "_check_guests" "_check_guests" (defArgs s_check_guests) (defBody s_check_guests) (defScope s_check_guests) .none kV_check_guests dc_check_guests pm_check_guests an_check_guests cd_check_guests ct_check_guests), sl_check_guests⟩)
    (l_check_pairs : K.lookup a_check_pairs = some ⟨oc_check_pairs, od_check_pairs, .func (PySem.W.fnOf "_check_pairs" "_check_pairs" (defArgs s_check_pairs) (defBody s_check_pairs) (defScope s_check_pairs) .none kV_check_pairs dc_check_pairs pm_check_pairs an_check_pairs cd_check_pairs ct_check_pairs), sl_check_pairs⟩)
    (l_is_full : K.lookup a_is_full = some ⟨oc_is_full, od_is_full, .func (PySem.W.fnOf "_is_full" "_is_full" (defArgs s_is_full) (defBody s_is_full) (defScope s_is_full) .none kV_is_full dc_is_full pm_is_full an_is_full cd_is_full ct_is_full), sl_is_full⟩)
    (l_company_table : K.lookup a_company_table = some ⟨oc_company_table, od_company_table, .func (PySem.W.fnOf "company_table" "company_table" (defArgs s_company_table) (defBody s_company_table) (defScope s_company_table) .none kV_company_table dc_company_table pm_company_table an_company_table cd_company_table ct_company_table), sl_company_table⟩)
    (l_companies_with : K.lookup a_companies_with = some ⟨oc_companies_with, od_companies_with, .func (PySem.W.fnOf "_companies_with" "_companies_with" (defArgs s_companies_with) (defBody s_companies_with) (defScope s_companies_with) .none kV_companies_with dc_companies_with pm_companies_with an_companies_with cd_companies_with ct_companies_with), sl_companies_with⟩)
    (l_law_cell : K.lookup a_law_cell = some ⟨oc_law_cell, od_law_cell, .func (PySem.W.fnOf "_law_cell" "_law_cell" (defArgs s_law_cell) (defBody s_law_cell) (defScope s_law_cell) .none kV_law_cell dc_law_cell pm_law_cell an_law_cell cd_law_cell ct_law_cell), sl_law_cell⟩)
    (l_law_pool : K.lookup a_law_pool = some ⟨oc_law_pool, od_law_pool, .func (PySem.W.fnOf "_law_pool" "_law_pool" (defArgs s_law_pool) (defBody s_law_pool) (defScope s_law_pool) .none kV_law_pool dc_law_pool pm_law_pool an_law_pool cd_law_pool ct_law_pool), sl_law_pool⟩)
    (l_law_names : K.lookup a_law_names = some ⟨oc_law_names, od_law_names, .func (PySem.W.fnOf "_law_names" "_law_names" (defArgs s_law_names) (defBody s_law_names) (defScope s_law_names) .none kV_law_names dc_law_names pm_law_names an_law_names cd_law_names ct_law_names), sl_law_names⟩)
    (l_law_order : K.lookup a_law_order = some ⟨oc_law_order, od_law_order, .func (PySem.W.fnOf "_law_order" "_law_order" (defArgs s_law_order) (defBody s_law_order) (defScope s_law_order) .none kV_law_order dc_law_order pm_law_order an_law_order cd_law_order ct_law_order), sl_law_order⟩)
    (l_law_is_number : K.lookup a_law_is_number = some ⟨oc_law_is_number, od_law_is_number, .func (PySem.W.fnOf "_law_is_number" "_law_is_number" (defArgs s_law_is_number) (defBody s_law_is_number) (defScope s_law_is_number) .none kV_law_is_number dc_law_is_number pm_law_is_number an_law_is_number cd_law_is_number ct_law_is_number), sl_law_is_number⟩)
    (l_law_met : K.lookup a_law_met = some ⟨oc_law_met, od_law_met, .func (PySem.W.fnOf "_law_met" "_law_met" (defArgs s_law_met) (defBody s_law_met) (defScope s_law_met) .none kV_law_met dc_law_met pm_law_met an_law_met cd_law_met ct_law_met), sl_law_met⟩)
    (l_law_is_company : K.lookup a_law_is_company = some ⟨oc_law_is_company, od_law_is_company, .func (PySem.W.fnOf "_law_is_company" "_law_is_company" (defArgs s_law_is_company) (defBody s_law_is_company) (defScope s_law_is_company) .none kV_law_is_company dc_law_is_company pm_law_is_company an_law_is_company cd_law_is_company ct_law_is_company), sl_law_is_company⟩)
    (l_law_companies : K.lookup a_law_companies = some ⟨oc_law_companies, od_law_companies, .func (PySem.W.fnOf "_law_companies" "_law_companies" (defArgs s_law_companies) (defBody s_law_companies) (defScope s_law_companies) .none kV_law_companies dc_law_companies pm_law_companies an_law_companies cd_law_companies ct_law_companies), sl_law_companies⟩)
    (l_law_free_pairs : K.lookup a_law_free_pairs = some ⟨oc_law_free_pairs, od_law_free_pairs, .func (PySem.W.fnOf "_law_free_pairs" "_law_free_pairs" (defArgs s_law_free_pairs) (defBody s_law_free_pairs) (defScope s_law_free_pairs) .none kV_law_free_pairs dc_law_free_pairs pm_law_free_pairs an_law_free_pairs cd_law_free_pairs ct_law_free_pairs), sl_law_free_pairs⟩)
    (l_law_group_sizes : K.lookup a_law_group_sizes = some ⟨oc_law_group_sizes, od_law_group_sizes, .func (PySem.W.fnOf "_law_group_sizes" "_law_group_sizes" (defArgs s_law_group_sizes) (defBody s_law_group_sizes) (defScope s_law_group_sizes) .none kV_law_group_sizes dc_law_group_sizes pm_law_group_sizes an_law_group_sizes cd_law_group_sizes ct_law_group_sizes), sl_law_group_sizes⟩)
    (l_law_groups : K.lookup a_law_groups = some ⟨oc_law_groups, od_law_groups, .func (PySem.W.fnOf "_law_groups" "_law_groups" (defArgs s_law_groups) (defBody s_law_groups) (defScope s_law_groups) .none kV_law_groups dc_law_groups pm_law_groups an_law_groups cd_law_groups ct_law_groups), sl_law_groups⟩)
    (l_law_pairs_across : K.lookup a_law_pairs_across = some ⟨oc_law_pairs_across, od_law_pairs_across, .func (PySem.W.fnOf "_law_pairs_across" "_law_pairs_across" (defArgs s_law_pairs_across) (defBody s_law_pairs_across) (defScope s_law_pairs_across) .none kV_law_pairs_across dc_law_pairs_across pm_law_pairs_across an_law_pairs_across cd_law_pairs_across ct_law_pairs_across), sl_law_pairs_across⟩)
    (l_law_one_of_each : K.lookup a_law_one_of_each = some ⟨oc_law_one_of_each, od_law_one_of_each, .func (PySem.W.fnOf "_law_one_of_each" "_law_one_of_each" (defArgs s_law_one_of_each) (defBody s_law_one_of_each) (defScope s_law_one_of_each) .none kV_law_one_of_each dc_law_one_of_each pm_law_one_of_each an_law_one_of_each cd_law_one_of_each ct_law_one_of_each), sl_law_one_of_each⟩)
    (l_law_told_pairs : K.lookup a_law_told_pairs = some ⟨oc_law_told_pairs, od_law_told_pairs, .func (PySem.W.fnOf "_law_told_pairs" "_law_told_pairs" (defArgs s_law_told_pairs) (defBody s_law_told_pairs) (defScope s_law_told_pairs) .none kV_law_told_pairs dc_law_told_pairs pm_law_told_pairs an_law_told_pairs cd_law_told_pairs ct_law_told_pairs), sl_law_told_pairs⟩)
    (l_law_bad : K.lookup a_law_bad = some ⟨oc_law_bad, od_law_bad, .func (PySem.W.fnOf "_law_bad" "_law_bad" (defArgs s_law_bad) (defBody s_law_bad) (defScope s_law_bad) .none kV_law_bad dc_law_bad pm_law_bad an_law_bad cd_law_bad ct_law_bad), sl_law_bad⟩)
    (l_law_refused : K.lookup a_law_refused = some ⟨oc_law_refused, od_law_refused, .func (PySem.W.fnOf "_law_refused" "_law_refused" (defArgs s_law_refused) (defBody s_law_refused) (defScope s_law_refused) .none kV_law_refused dc_law_refused pm_law_refused an_law_refused cd_law_refused ct_law_refused), sl_law_refused⟩)
    (l_law_unknown : K.lookup a_law_unknown = some ⟨oc_law_unknown, od_law_unknown, .func (PySem.W.fnOf "_law_unknown" "_law_unknown" (defArgs s_law_unknown) (defBody s_law_unknown) (defScope s_law_unknown) .none kV_law_unknown dc_law_unknown pm_law_unknown an_law_unknown cd_law_unknown ct_law_unknown), sl_law_unknown⟩)
    (l_law_same_companies : K.lookup a_law_same_companies = some ⟨oc_law_same_companies, od_law_same_companies, .func (PySem.W.fnOf "_law_same_companies" "_law_same_companies" (defArgs s_law_same_companies) (defBody s_law_same_companies) (defScope s_law_same_companies) .none kV_law_same_companies dc_law_same_companies pm_law_same_companies an_law_same_companies cd_law_same_companies ct_law_same_companies), sl_law_same_companies⟩)
    (l_law_table_right : K.lookup a_law_table_right = some ⟨oc_law_table_right, od_law_table_right, .func (PySem.W.fnOf "_law_table_right" "_law_table_right" (defArgs s_law_table_right) (defBody s_law_table_right) (defScope s_law_table_right) .none kV_law_table_right dc_law_table_right pm_law_table_right an_law_table_right cd_law_table_right ct_law_table_right), sl_law_table_right⟩)
    (l_law : K.lookup a_law = some ⟨oc_law, od_law, .func (PySem.W.fnOf "law" "law" (defArgs s_law) (defBody s_law) (defScope s_law) .none kV_law dc_law pm_law an_law cd_law ct_law), sl_law⟩)
    (lx_UnknownGuest_init : K.lookup cda_UnknownGuest_init = some ⟨oa_UnknownGuest_init, da_UnknownGuest_init, .fields vs_UnknownGuest_init, la_UnknownGuest_init⟩)
    (lq_UnknownGuest_init : K.lookup cc_UnknownGuest_init = some ⟨ob_UnknownGuest_init, db_UnknownGuest_init, .cell (some (.ref C_UnknownGuest)), lb_UnknownGuest_init⟩)
    (lx_BadMeetings_init : K.lookup cda_BadMeetings_init = some ⟨oa_BadMeetings_init, da_BadMeetings_init, .fields vs_BadMeetings_init, la_BadMeetings_init⟩)
    (lq_BadMeetings_init : K.lookup cc_BadMeetings_init = some ⟨ob_BadMeetings_init, db_BadMeetings_init, .cell (some (.ref C_BadMeetings)), lb_BadMeetings_init⟩)
    (lx_TooMany_init : K.lookup cda_TooMany_init = some ⟨oa_TooMany_init, da_TooMany_init, .fields vs_TooMany_init, la_TooMany_init⟩)
    (lq_TooMany_init : K.lookup cc_TooMany_init = some ⟨ob_TooMany_init, db_TooMany_init, .cell (some (.ref C_TooMany)), lb_TooMany_init⟩)
    (c_UnknownGuest_init : PySem.W.codeIn K (.ref cda_UnknownGuest_init) "UnknownGuest.__init__" = true)
    (c_BadMeetings_init : PySem.W.codeIn K (.ref cda_BadMeetings_init) "BadMeetings.__init__" = true)
    (c_TooMany_init : PySem.W.codeIn K (.ref cda_TooMany_init) "TooMany.__init__" = true)
    (c_is_name : PySem.W.codeIn K cd_is_name "is_name" = true)
    (k_is_name : PySem.W.keepIn K (.ref a_is_name) = true)
    (c_first_bad_name : PySem.W.codeIn K cd_first_bad_name "first_bad_name" = true)
    (k_first_bad_name : PySem.W.keepIn K (.ref a_first_bad_name) = true)
    (c_first_stray : PySem.W.codeIn K cd_first_stray "first_stray" = true)
    (k_first_stray : PySem.W.keepIn K (.ref a_first_stray) = true)
    (c_numbers_in : PySem.W.codeIn K cd_numbers_in "numbers_in" = true)
    (k_numbers_in : PySem.W.keepIn K (.ref a_numbers_in) = true)
    (c_named : PySem.W.codeIn K cd_named "named" = true)
    (k_named : PySem.W.keepIn K (.ref a_named) = true)
    (c_check_columns : PySem.W.codeIn K cd_check_columns "check_columns" = true)
    (k_check_columns : PySem.W.keepIn K (.ref a_check_columns) = true)
    (c_check_rows : PySem.W.codeIn K cd_check_rows "_check_rows" = true)
    (k_check_rows : PySem.W.keepIn K (.ref a_check_rows) = true)
    (c_Table_in_order : PySem.W.codeIn K cd_Table_in_order "Table._in_order" = true)
    (k_Table_in_order : PySem.W.keepIn K (.ref a_Table_in_order) = true)
    (c_Table_init : PySem.W.codeIn K cd_Table_init "Table.__init__" = true)
    (k_Table_init : PySem.W.keepIn K (.ref a_Table_init) = true)
    (lt_Table_init : K.lookup TD_Table_init = some ⟨.type "tuple", to_Table_init, .seq #[.ref e_Table_init] tn_Table_init, ts_Table_init⟩)
    (c_Meetings_init : PySem.W.codeIn K cd_Meetings_init "Meetings.__init__" = true)
    (k_Meetings_init : PySem.W.keepIn K (.ref a_Meetings_init) = true)
    (c_Meetings_met : PySem.W.codeIn K cd_Meetings_met "Meetings.met" = true)
    (k_Meetings_met : PySem.W.keepIn K (.ref a_Meetings_met) = true)
    (c_Meetings_companies : PySem.W.codeIn K cd_Meetings_companies "Meetings.companies" = true)
    (k_Meetings_companies : PySem.W.keepIn K (.ref a_Meetings_companies) = true)
    (c_Meetings_known_by : PySem.W.codeIn K cd_Meetings_known_by "Meetings._known_by" = true)
    (k_Meetings_known_by : PySem.W.keepIn K (.ref a_Meetings_known_by) = true)
    (c_check_guests : PySem.W.codeIn K cd_check_guests "_check_guests" = true)
    (k_check_guests : PySem.W.keepIn K (.ref a_check_guests) = true)
    (c_check_pairs : PySem.W.codeIn K cd_check_pairs "_check_pairs" = true)
    (k_check_pairs : PySem.W.keepIn K (.ref a_check_pairs) = true)
    (c_is_full : PySem.W.codeIn K cd_is_full "_is_full" = true)
    (k_is_full : PySem.W.keepIn K (.ref a_is_full) = true)
    (c_company_table : PySem.W.codeIn K cd_company_table "company_table" = true)
    (k_company_table : PySem.W.keepIn K (.ref a_company_table) = true)
    (c_companies_with : PySem.W.codeIn K cd_companies_with "_companies_with" = true)
    (k_companies_with : PySem.W.keepIn K (.ref a_companies_with) = true)
    (c_law_cell : PySem.W.codeIn K cd_law_cell "_law_cell" = true)
    (k_law_cell : PySem.W.keepIn K (.ref a_law_cell) = true)
    (c_law_pool : PySem.W.codeIn K cd_law_pool "_law_pool" = true)
    (k_law_pool : PySem.W.keepIn K (.ref a_law_pool) = true)
    (c_law_names : PySem.W.codeIn K cd_law_names "_law_names" = true)
    (k_law_names : PySem.W.keepIn K (.ref a_law_names) = true)
    (c_law_order : PySem.W.codeIn K cd_law_order "_law_order" = true)
    (k_law_order : PySem.W.keepIn K (.ref a_law_order) = true)
    (c_law_is_number : PySem.W.codeIn K cd_law_is_number "_law_is_number" = true)
    (k_law_is_number : PySem.W.keepIn K (.ref a_law_is_number) = true)
    (c_law_met : PySem.W.codeIn K cd_law_met "_law_met" = true)
    (k_law_met : PySem.W.keepIn K (.ref a_law_met) = true)
    (c_law_is_company : PySem.W.codeIn K cd_law_is_company "_law_is_company" = true)
    (k_law_is_company : PySem.W.keepIn K (.ref a_law_is_company) = true)
    (c_law_companies : PySem.W.codeIn K cd_law_companies "_law_companies" = true)
    (k_law_companies : PySem.W.keepIn K (.ref a_law_companies) = true)
    (c_law_free_pairs : PySem.W.codeIn K cd_law_free_pairs "_law_free_pairs" = true)
    (k_law_free_pairs : PySem.W.keepIn K (.ref a_law_free_pairs) = true)
    (c_law_group_sizes : PySem.W.codeIn K cd_law_group_sizes "_law_group_sizes" = true)
    (k_law_group_sizes : PySem.W.keepIn K (.ref a_law_group_sizes) = true)
    (c_law_groups : PySem.W.codeIn K cd_law_groups "_law_groups" = true)
    (k_law_groups : PySem.W.keepIn K (.ref a_law_groups) = true)
    (c_law_pairs_across : PySem.W.codeIn K cd_law_pairs_across "_law_pairs_across" = true)
    (k_law_pairs_across : PySem.W.keepIn K (.ref a_law_pairs_across) = true)
    (c_law_one_of_each : PySem.W.codeIn K cd_law_one_of_each "_law_one_of_each" = true)
    (k_law_one_of_each : PySem.W.keepIn K (.ref a_law_one_of_each) = true)
    (c_law_told_pairs : PySem.W.codeIn K cd_law_told_pairs "_law_told_pairs" = true)
    (k_law_told_pairs : PySem.W.keepIn K (.ref a_law_told_pairs) = true)
    (c_law_bad : PySem.W.codeIn K cd_law_bad "_law_bad" = true)
    (k_law_bad : PySem.W.keepIn K (.ref a_law_bad) = true)
    (c_law_refused : PySem.W.codeIn K cd_law_refused "_law_refused" = true)
    (k_law_refused : PySem.W.keepIn K (.ref a_law_refused) = true)
    (c_law_unknown : PySem.W.codeIn K cd_law_unknown "_law_unknown" = true)
    (k_law_unknown : PySem.W.keepIn K (.ref a_law_unknown) = true)
    (c_law_same_companies : PySem.W.codeIn K cd_law_same_companies "_law_same_companies" = true)
    (k_law_same_companies : PySem.W.keepIn K (.ref a_law_same_companies) = true)
    (c_law_table_right : PySem.W.codeIn K cd_law_table_right "_law_table_right" = true)
    (k_law_table_right : PySem.W.keepIn K (.ref a_law_table_right) = true)
    (c_law : PySem.W.codeIn K cd_law "law" = true)
    (k_law : PySem.W.keepIn K (.ref a_law) = true)
    (pgcl_Table : PySem.W.plainGet K C_Table Str.empty = true)
    (hdcl_Table : PySem.W.hasDictIn K C_Table = true)
    (pocl_Table : PySem.W.plainOver K C_Table = true)
    (sacl_Table : PySem.W.findIn K (.ref C_Table) "__setattr__" = some (some (.builtin "object.__setattr__")))
    (xsf_Table : PySem.W.selfFirst K C_Table = true)
    (kmk_Table : PySem.W.makesIn K C_Table = true)
    (kkmk_Table : PySem.W.keepIn K (.ref C_Table) = true)
    (xc1_Table : PySem.W.findIn K (.ref C_Table) "__class__" = some (some (.builtin "object.__class__")))
    (xc3_Table : PySem.W.mroIn K C_Table (.type "object") = some true)
    (xn_Table_columns : PySem.W.findIn K (.ref C_Table) "columns" = some none)
    (xn_Table_rows : PySem.W.findIn K (.ref C_Table) "rows" = some none)
    (pgcl_Meetings : PySem.W.plainGet K C_Meetings Str.empty = true)
    (hdcl_Meetings : PySem.W.hasDictIn K C_Meetings = true)
    (pocl_Meetings : PySem.W.plainOver K C_Meetings = true)
    (sacl_Meetings : PySem.W.findIn K (.ref C_Meetings) "__setattr__" = some (some (.builtin "object.__setattr__")))
    (xsf_Meetings : PySem.W.selfFirst K C_Meetings = true)
    (kmk_Meetings : PySem.W.makesIn K C_Meetings = true)
    (kkmk_Meetings : PySem.W.keepIn K (.ref C_Meetings) = true)
    (xc1_Meetings : PySem.W.findIn K (.ref C_Meetings) "__class__" = some (some (.builtin "object.__class__")))
    (xc3_Meetings : PySem.W.mroIn K C_Meetings (.type "object") = some true)
    (xn_Meetings_guests : PySem.W.findIn K (.ref C_Meetings) "guests" = some none)
    (xn_Meetings_pairs : PySem.W.findIn K (.ref C_Meetings) "pairs" = some none)
    (xc2 : PySem.W.specialIn K (.builtin "object.__class__") "__get__" = some (some (.builtin "getset_descriptor.__get__")))
    (xc4 : PySem.W.takesIn K (.builtin "object.__class__") = some true)
    (xtp_RowsError : PySem.W.typeIn K (.ref C_RowsError) = some (.type "type"))
    (xic_RowsError : PySem.W.isClsIn K C_RowsError = true)
    (xtp_Unknown : PySem.W.typeIn K (.ref C_Unknown) = some (.type "type"))
    (xic_Unknown : PySem.W.isClsIn K C_Unknown = true)
    (xtp_Impossible : PySem.W.typeIn K (.ref C_Impossible) = some (.type "type"))
    (xic_Impossible : PySem.W.isClsIn K C_Impossible = true)
    (xtp_UnknownGuest : PySem.W.typeIn K (.ref C_UnknownGuest) = some (.type "type"))
    (xic_UnknownGuest : PySem.W.isClsIn K C_UnknownGuest = true)
    (xtp_BadMeetings : PySem.W.typeIn K (.ref C_BadMeetings) = some (.type "type"))
    (xic_BadMeetings : PySem.W.isClsIn K C_BadMeetings = true)
    (xtp_TooMany : PySem.W.typeIn K (.ref C_TooMany) = some (.type "type"))
    (xic_TooMany : PySem.W.isClsIn K C_TooMany = true)
    (g1SC_UnknownGuest : PySem.W.clsIn K C_UnknownGuest = some cd_UnknownGuest)
    (g2SC_UnknownGuest : PySem.W.mroIn K C_UnknownGuest (.ref C_UnknownGuest) = some true)
    (ksSC_UnknownGuest : PySem.W.ks_superIn K C_UnknownGuest C_UnknownGuest "__init__" = some (some (.builtin "ValueError.__init__")))
    (g4SC_UnknownGuest : PySem.W.nsIn K PySem.cStatics "thirdparty.any" = some none)
    (g5SC_UnknownGuest : PySem.W.nsIn K mainGlobals "super" = some none)
    (rfSC_UnknownGuest : (l.prog.main.scope.names.lookup ("super" : Str)).isSome = false)
    (kxSC_UnknownGuest : PySem.W.excInitIn K C_UnknownGuest [.type "ValueError", .type "Exception", .type "BaseException", .type "object"] "ValueError.__new__" = true)
    (g6SC_UnknownGuest : PySem.W.findIn K (.ref C_UnknownGuest) "__setattr__" = some (some (.builtin "object.__setattr__")))
    (rv_UnknownGuest_init : vs_UnknownGuest_init[2]? = some (.str fl_UnknownGuest_init tf_UnknownGuest_init))
    (rg_UnknownGuest_init : ((l.prog.main.file : Str) == fl_UnknownGuest_init) = true)
    (xti_UnknownGuest : PySem.W.typeIn K (.ref a_UnknownGuest_init) = some (.type "function"))
    (xxn_UnknownGuest_name : PySem.W.findIn K (.ref C_UnknownGuest) "name" = some none)
    (xk_UnknownGuest : PySem.W.keepIn K (.ref C_UnknownGuest) = true)
    (xbp_UnknownGuest : PySem.W.subIn K (.ref C_UnknownGuest) (.type "BaseException") = some true)
    (xsv_UnknownGuest : PySem.W.subIn K (.ref C_UnknownGuest) (.type "ValueError") = some true)
    (xss_UnknownGuest : PySem.W.subIn K (.ref C_UnknownGuest) (.ref C_UnknownGuest) = some true)
    (xsu_UnknownGuest_RowsError : PySem.W.subIn K (.ref C_UnknownGuest) (.ref C_RowsError) = some true)
    (xsu_UnknownGuest_Unknown : PySem.W.subIn K (.ref C_UnknownGuest) (.ref C_Unknown) = some true)
    (xsu_UnknownGuest_Impossible : PySem.W.subIn K (.ref C_UnknownGuest) (.ref C_Impossible) = some false)
    (xe1_UnknownGuest : PySem.W.findIn K (.ref C_UnknownGuest) "__getattribute__" = some (some (.builtin "BaseException.__getattribute__")))
    (xe2_UnknownGuest : PySem.W.findIn K (.ref C_UnknownGuest) "__getattr__" = some none)
    (xe3_UnknownGuest : PySem.W.hasDictIn K C_UnknownGuest = true)
    (xe4_UnknownGuest : PySem.W.findIn K (.ref C_UnknownGuest) "__class__" = some (some (.builtin "object.__class__")))
    (xe5_UnknownGuest : PySem.W.mroIn K C_UnknownGuest (.type "object") = some true)
    (g1SC_BadMeetings : PySem.W.clsIn K C_BadMeetings = some cd_BadMeetings)
    (g2SC_BadMeetings : PySem.W.mroIn K C_BadMeetings (.ref C_BadMeetings) = some true)
    (ksSC_BadMeetings : PySem.W.ks_superIn K C_BadMeetings C_BadMeetings "__init__" = some (some (.builtin "ValueError.__init__")))
    (g4SC_BadMeetings : PySem.W.nsIn K PySem.cStatics "thirdparty.any" = some none)
    (g5SC_BadMeetings : PySem.W.nsIn K mainGlobals "super" = some none)
    (rfSC_BadMeetings : (l.prog.main.scope.names.lookup ("super" : Str)).isSome = false)
    (kxSC_BadMeetings : PySem.W.excInitIn K C_BadMeetings [.type "ValueError", .type "Exception", .type "BaseException", .type "object"] "ValueError.__new__" = true)
    (g6SC_BadMeetings : PySem.W.findIn K (.ref C_BadMeetings) "__setattr__" = some (some (.builtin "object.__setattr__")))
    (rv_BadMeetings_init : vs_BadMeetings_init[2]? = some (.str fl_BadMeetings_init tf_BadMeetings_init))
    (rg_BadMeetings_init : ((l.prog.main.file : Str) == fl_BadMeetings_init) = true)
    (xti_BadMeetings : PySem.W.typeIn K (.ref a_BadMeetings_init) = some (.type "function"))
    (xxn_BadMeetings_part : PySem.W.findIn K (.ref C_BadMeetings) "part" = some none)
    (xxn_BadMeetings_index : PySem.W.findIn K (.ref C_BadMeetings) "index" = some none)
    (xk_BadMeetings : PySem.W.keepIn K (.ref C_BadMeetings) = true)
    (xbp_BadMeetings : PySem.W.subIn K (.ref C_BadMeetings) (.type "BaseException") = some true)
    (xsv_BadMeetings : PySem.W.subIn K (.ref C_BadMeetings) (.type "ValueError") = some true)
    (xss_BadMeetings : PySem.W.subIn K (.ref C_BadMeetings) (.ref C_BadMeetings) = some true)
    (xsu_BadMeetings_RowsError : PySem.W.subIn K (.ref C_BadMeetings) (.ref C_RowsError) = some true)
    (xsu_BadMeetings_Unknown : PySem.W.subIn K (.ref C_BadMeetings) (.ref C_Unknown) = some false)
    (xsu_BadMeetings_Impossible : PySem.W.subIn K (.ref C_BadMeetings) (.ref C_Impossible) = some false)
    (xe1_BadMeetings : PySem.W.findIn K (.ref C_BadMeetings) "__getattribute__" = some (some (.builtin "BaseException.__getattribute__")))
    (xe2_BadMeetings : PySem.W.findIn K (.ref C_BadMeetings) "__getattr__" = some none)
    (xe3_BadMeetings : PySem.W.hasDictIn K C_BadMeetings = true)
    (xe4_BadMeetings : PySem.W.findIn K (.ref C_BadMeetings) "__class__" = some (some (.builtin "object.__class__")))
    (xe5_BadMeetings : PySem.W.mroIn K C_BadMeetings (.type "object") = some true)
    (g1SC_TooMany : PySem.W.clsIn K C_TooMany = some cd_TooMany)
    (g2SC_TooMany : PySem.W.mroIn K C_TooMany (.ref C_TooMany) = some true)
    (ksSC_TooMany : PySem.W.ks_superIn K C_TooMany C_TooMany "__init__" = some (some (.builtin "ValueError.__init__")))
    (g4SC_TooMany : PySem.W.nsIn K PySem.cStatics "thirdparty.any" = some none)
    (g5SC_TooMany : PySem.W.nsIn K mainGlobals "super" = some none)
    (rfSC_TooMany : (l.prog.main.scope.names.lookup ("super" : Str)).isSome = false)
    (kxSC_TooMany : PySem.W.excInitIn K C_TooMany [.type "ValueError", .type "Exception", .type "BaseException", .type "object"] "ValueError.__new__" = true)
    (g6SC_TooMany : PySem.W.findIn K (.ref C_TooMany) "__setattr__" = some (some (.builtin "object.__setattr__")))
    (rv_TooMany_init : vs_TooMany_init[2]? = some (.str fl_TooMany_init tf_TooMany_init))
    (rg_TooMany_init : ((l.prog.main.file : Str) == fl_TooMany_init) = true)
    (xti_TooMany : PySem.W.typeIn K (.ref a_TooMany_init) = some (.type "function"))
    (xxn_TooMany_many : PySem.W.findIn K (.ref C_TooMany) "many" = some none)
    (xk_TooMany : PySem.W.keepIn K (.ref C_TooMany) = true)
    (xbp_TooMany : PySem.W.subIn K (.ref C_TooMany) (.type "BaseException") = some true)
    (xsv_TooMany : PySem.W.subIn K (.ref C_TooMany) (.type "ValueError") = some true)
    (xss_TooMany : PySem.W.subIn K (.ref C_TooMany) (.ref C_TooMany) = some true)
    (xsu_TooMany_RowsError : PySem.W.subIn K (.ref C_TooMany) (.ref C_RowsError) = some true)
    (xsu_TooMany_Unknown : PySem.W.subIn K (.ref C_TooMany) (.ref C_Unknown) = some false)
    (xsu_TooMany_Impossible : PySem.W.subIn K (.ref C_TooMany) (.ref C_Impossible) = some false)
    (xe1_TooMany : PySem.W.findIn K (.ref C_TooMany) "__getattribute__" = some (some (.builtin "BaseException.__getattribute__")))
    (xe2_TooMany : PySem.W.findIn K (.ref C_TooMany) "__getattr__" = some none)
    (xe3_TooMany : PySem.W.hasDictIn K C_TooMany = true)
    (xe4_TooMany : PySem.W.findIn K (.ref C_TooMany) "__class__" = some (some (.builtin "object.__class__")))
    (xe5_TooMany : PySem.W.mroIn K C_TooMany (.type "object") = some true)
    (r1cr_Table : PySem.W.readsIn K C_Table (.type "type") = true)
    (r2cr_Table : PySem.W.specialIn K (.ref C_Table) "__getattribute__" = some (some (.builtin "type.__getattribute__")))
    (xcv_Table_MOST_COLUMNS : PySem.W.findCls K (.ref C_Table) (.type "type") "MOST_COLUMNS" = some (.val (.int 12 tk_Table_MOST_COLUMNS)))
    (xcv_Table_MOST_ROWS : PySem.W.findCls K (.ref C_Table) (.type "type") "MOST_ROWS" = some (.val (.int 48 tk_Table_MOST_ROWS)))
    (xn_abs : PySem.W.nsIn K mainGlobals "abs" = some none)
    (xn_int : PySem.W.nsIn K mainGlobals "int" = some none)
    (xn_isinstance : PySem.W.nsIn K mainGlobals "isinstance" = some none)
    (xn_range : PySem.W.nsIn K mainGlobals "range" = some none)
    (xn_len : PySem.W.nsIn K mainGlobals "len" = some none)
    (xn_str : PySem.W.nsIn K mainGlobals "str" = some none)
    (xn_tuple : PySem.W.nsIn K mainGlobals "tuple" = some none)
    (xn_list : PySem.W.nsIn K mainGlobals "list" = some none)
    (xn_ValueError : PySem.W.nsIn K mainGlobals "ValueError" = some none)
    (xn_all : PySem.W.nsIn K mainGlobals "all" = some none)
    (xn_min : PySem.W.nsIn K mainGlobals "min" = some none)
    (xn_enumerate : PySem.W.nsIn K mainGlobals "enumerate" = some none)
    (xn_bool : PySem.W.nsIn K mainGlobals "bool" = some none)
    (xn_sum : PySem.W.nsIn K mainGlobals "sum" = some none)
    (xn_sorted : PySem.W.nsIn K mainGlobals "sorted" = some none)
    (xn_zip : PySem.W.nsIn K mainGlobals "zip" = some none)
    : ∃ fd : FuncData, (∀ (s : Shared) (v : Value), BindsTo s fd ⟨[v], []⟩ [("script", v)]) ∧ ∀ base : Heap, K.In base → base.Ns mainGlobals mg → FnOk l.prog w K mg base CX0 22 fa fd ["script"] (spLaw K) := by
  have e := hfa.symm.trans (PySem.W.mg_of X G xmg_law)
  cases e
  have T : Txt l.prog K mg ⟨C_Table, C_Meetings, C_RowsError, C_Unknown, C_Impossible, C_UnknownGuest, C_BadMeetings, C_TooMany, a_UnknownGuest_init, _, a_BadMeetings_init, _, a_TooMany_init, _, a_is_name, _, a_first_bad_name, _, a_first_stray, _, a_numbers_in, _, a_named, _, a_check_columns, _, a_check_rows, _, a_Table_in_order, _, a_Table_init, _, a_Meetings_init, _, a_Meetings_met, _, a_Meetings_companies, _, a_Meetings_known_by, _, a_check_guests, _, a_check_pairs, _, a_is_full, _, a_company_table, _, a_companies_with, _, a_law_cell, _, a_law_pool, _, a_law_names, _, a_law_order, _, a_law_is_number, _, a_law_met, _, a_law_is_company, _, a_law_companies, _, a_law_free_pairs, _, a_law_group_sizes, _, a_law_groups, _, a_law_pairs_across, _, a_law_one_of_each, _, a_law_told_pairs, _, a_law_bad, _, a_law_refused, _, a_law_unknown, _, a_law_same_companies, _, a_law_table_right, _, fa, _, e_Table_init⟩ := {
    mg_Table := PySem.W.mg_of X G xmg_Table
    cl_Table := ⟨pgcl_Table, hdcl_Table, pocl_Table, sacl_Table⟩
    sf_Table := xsf_Table
    mk_Table := ⟨kmk_Table, am_Table_init, if_Table_init, kkmk_Table⟩
    c1_Table := xc1_Table
    c3_Table := xc3_Table
    n_Table_columns := xn_Table_columns
    n_Table_rows := xn_Table_rows
    mg_Meetings := PySem.W.mg_of X G xmg_Meetings
    cl_Meetings := ⟨pgcl_Meetings, hdcl_Meetings, pocl_Meetings, sacl_Meetings⟩
    sf_Meetings := xsf_Meetings
    mk_Meetings := ⟨kmk_Meetings, am_Meetings_init, if_Meetings_init, kkmk_Meetings⟩
    c1_Meetings := xc1_Meetings
    c3_Meetings := xc3_Meetings
    n_Meetings_guests := xn_Meetings_guests
    n_Meetings_pairs := xn_Meetings_pairs
    c2 := xc2
    c4 := xc4
    mg_RowsError := PySem.W.mg_of X G xmg_RowsError
    tp_RowsError := xtp_RowsError
    ic_RowsError := xic_RowsError
    mg_Unknown := PySem.W.mg_of X G xmg_Unknown
    tp_Unknown := xtp_Unknown
    ic_Unknown := xic_Unknown
    mg_Impossible := PySem.W.mg_of X G xmg_Impossible
    tp_Impossible := xtp_Impossible
    ic_Impossible := xic_Impossible
    mg_UnknownGuest := PySem.W.mg_of X G xmg_UnknownGuest
    tp_UnknownGuest := xtp_UnknownGuest
    ic_UnknownGuest := xic_UnknownGuest
    mg_BadMeetings := PySem.W.mg_of X G xmg_BadMeetings
    tp_BadMeetings := xtp_BadMeetings
    ic_BadMeetings := xic_BadMeetings
    mg_TooMany := PySem.W.mg_of X G xmg_TooMany
    tp_TooMany := xtp_TooMany
    ic_TooMany := xic_TooMany
    SC_UnknownGuest := ⟨⟨_, g1SC_UnknownGuest⟩, g2SC_UnknownGuest, ksSC_UnknownGuest, g4SC_UnknownGuest, xsv_UnknownGuest, PySem.W.mg_none_of X G g5SC_UnknownGuest, rfSC_UnknownGuest, oex_of kxSC_UnknownGuest xe3_UnknownGuest g6SC_UnknownGuest xbp_UnknownGuest xtp_UnknownGuest xk_UnknownGuest⟩
    SF_UnknownGuest := ⟨⟨_, _, _, _, _, _, _, _, _, _, rfl, l_UnknownGuest_init, c_UnknownGuest_init, ⟨_, _, _, _, _, _, lx_UnknownGuest_init, rv_UnknownGuest_init, rg_UnknownGuest_init⟩, _, _, _, lq_UnknownGuest_init⟩⟩
    ii_UnknownGuest := am_UnknownGuest_init
    ti_UnknownGuest := xti_UnknownGuest
    b_UnknownGuest_init := fun s us _ hl => by rw [List.append_nil] at hl ⊢; exact .of_eq (match us, hl with | [_, _], _ => rfl)
    xn_UnknownGuest_name := xxn_UnknownGuest_name
    xf_UnknownGuest := ⟨xe1_UnknownGuest, xe2_UnknownGuest, xbp_UnknownGuest, xe3_UnknownGuest⟩
    ec_UnknownGuest := ⟨xe1_UnknownGuest, xe2_UnknownGuest, xbp_UnknownGuest, xe3_UnknownGuest, xe4_UnknownGuest, xc2, xc4, xe5_UnknownGuest⟩
    k_UnknownGuest := xk_UnknownGuest
    bp_UnknownGuest := xbp_UnknownGuest
    sv_UnknownGuest := xsv_UnknownGuest
    ss_UnknownGuest := xss_UnknownGuest
    su_UnknownGuest_RowsError := xsu_UnknownGuest_RowsError
    su_UnknownGuest_Unknown := xsu_UnknownGuest_Unknown
    su_UnknownGuest_Impossible := xsu_UnknownGuest_Impossible
    e1_UnknownGuest := xe1_UnknownGuest
    e2_UnknownGuest := xe2_UnknownGuest
    e3_UnknownGuest := xe3_UnknownGuest
    e4_UnknownGuest := xe4_UnknownGuest
    e5_UnknownGuest := xe5_UnknownGuest
    SC_BadMeetings := ⟨⟨_, g1SC_BadMeetings⟩, g2SC_BadMeetings, ksSC_BadMeetings, g4SC_BadMeetings, xsv_BadMeetings, PySem.W.mg_none_of X G g5SC_BadMeetings, rfSC_BadMeetings, oex_of kxSC_BadMeetings xe3_BadMeetings g6SC_BadMeetings xbp_BadMeetings xtp_BadMeetings xk_BadMeetings⟩
    SF_BadMeetings := ⟨⟨_, _, _, _, _, _, _, _, _, _, rfl, l_BadMeetings_init, c_BadMeetings_init, ⟨_, _, _, _, _, _, lx_BadMeetings_init, rv_BadMeetings_init, rg_BadMeetings_init⟩, _, _, _, lq_BadMeetings_init⟩⟩
    ii_BadMeetings := am_BadMeetings_init
    ti_BadMeetings := xti_BadMeetings
    b_BadMeetings_init := fun s us _ hl => by rw [List.append_nil] at hl ⊢; exact .of_eq (match us, hl with | [_, _, _], _ => rfl)
    xn_BadMeetings_part := xxn_BadMeetings_part
    xn_BadMeetings_index := xxn_BadMeetings_index
    xf_BadMeetings := ⟨xe1_BadMeetings, xe2_BadMeetings, xbp_BadMeetings, xe3_BadMeetings⟩
    ec_BadMeetings := ⟨xe1_BadMeetings, xe2_BadMeetings, xbp_BadMeetings, xe3_BadMeetings, xe4_BadMeetings, xc2, xc4, xe5_BadMeetings⟩
    k_BadMeetings := xk_BadMeetings
    bp_BadMeetings := xbp_BadMeetings
    sv_BadMeetings := xsv_BadMeetings
    ss_BadMeetings := xss_BadMeetings
    su_BadMeetings_RowsError := xsu_BadMeetings_RowsError
    su_BadMeetings_Unknown := xsu_BadMeetings_Unknown
    su_BadMeetings_Impossible := xsu_BadMeetings_Impossible
    e1_BadMeetings := xe1_BadMeetings
    e2_BadMeetings := xe2_BadMeetings
    e3_BadMeetings := xe3_BadMeetings
    e4_BadMeetings := xe4_BadMeetings
    e5_BadMeetings := xe5_BadMeetings
    SC_TooMany := ⟨⟨_, g1SC_TooMany⟩, g2SC_TooMany, ksSC_TooMany, g4SC_TooMany, xsv_TooMany, PySem.W.mg_none_of X G g5SC_TooMany, rfSC_TooMany, oex_of kxSC_TooMany xe3_TooMany g6SC_TooMany xbp_TooMany xtp_TooMany xk_TooMany⟩
    SF_TooMany := ⟨⟨_, _, _, _, _, _, _, _, _, _, rfl, l_TooMany_init, c_TooMany_init, ⟨_, _, _, _, _, _, lx_TooMany_init, rv_TooMany_init, rg_TooMany_init⟩, _, _, _, lq_TooMany_init⟩⟩
    ii_TooMany := am_TooMany_init
    ti_TooMany := xti_TooMany
    b_TooMany_init := fun s us _ hl => by rw [List.append_nil] at hl ⊢; exact .of_eq (match us, hl with | [_, _], _ => rfl)
    xn_TooMany_many := xxn_TooMany_many
    xf_TooMany := ⟨xe1_TooMany, xe2_TooMany, xbp_TooMany, xe3_TooMany⟩
    ec_TooMany := ⟨xe1_TooMany, xe2_TooMany, xbp_TooMany, xe3_TooMany, xe4_TooMany, xc2, xc4, xe5_TooMany⟩
    k_TooMany := xk_TooMany
    bp_TooMany := xbp_TooMany
    sv_TooMany := xsv_TooMany
    ss_TooMany := xss_TooMany
    su_TooMany_RowsError := xsu_TooMany_RowsError
    su_TooMany_Unknown := xsu_TooMany_Unknown
    su_TooMany_Impossible := xsu_TooMany_Impossible
    e1_TooMany := xe1_TooMany
    e2_TooMany := xe2_TooMany
    e3_TooMany := xe3_TooMany
    e4_TooMany := xe4_TooMany
    e5_TooMany := xe5_TooMany
    mg_COLUMN_NAMES := ⟨_, PySem.W.mg_of X G xmg_COLUMN_NAMES⟩
    mg_LONGEST_NAME := ⟨_, PySem.W.mg_of X G xmg_LONGEST_NAME⟩
    mg_MOST_GUESTS := ⟨_, PySem.W.mg_of X G xmg_MOST_GUESTS⟩
    cr_Table := ⟨r1cr_Table, r2cr_Table⟩
    cv_Table_MOST_COLUMNS := ⟨_, ⟨xcv_Table_MOST_COLUMNS, ⟨_, rfl⟩⟩⟩
    cv_Table_MOST_ROWS := ⟨_, ⟨xcv_Table_MOST_ROWS, ⟨_, rfl⟩⟩⟩
    n_abs := PySem.W.mg_none_of X G xn_abs
    n_int := PySem.W.mg_none_of X G xn_int
    n_isinstance := PySem.W.mg_none_of X G xn_isinstance
    n_range := PySem.W.mg_none_of X G xn_range
    n_len := PySem.W.mg_none_of X G xn_len
    n_str := PySem.W.mg_none_of X G xn_str
    n_tuple := PySem.W.mg_none_of X G xn_tuple
    n_list := PySem.W.mg_none_of X G xn_list
    n_ValueError := PySem.W.mg_none_of X G xn_ValueError
    n_all := PySem.W.mg_none_of X G xn_all
    n_min := PySem.W.mg_none_of X G xn_min
    n_enumerate := PySem.W.mg_none_of X G xn_enumerate
    n_bool := PySem.W.mg_none_of X G xn_bool
    n_sum := PySem.W.mg_none_of X G xn_sum
    n_sorted := PySem.W.mg_none_of X G xn_sorted
    n_zip := PySem.W.mg_none_of X G xn_zip
    F_is_name := fun_mk (st := s_is_name) l_is_name c_is_name k_is_name
    b_is_name := (fun_mk (st := s_is_name) l_is_name c_is_name k_is_name).binds fun _ _ _ _ _ _ us hl => match us, hl with | [_], _ => rfl
    mg_is_name := PySem.W.mg_of X G xmg_is_name
    F_first_bad_name := fun_mk (st := s_first_bad_name) l_first_bad_name c_first_bad_name k_first_bad_name
    b_first_bad_name := (fun_mk (st := s_first_bad_name) l_first_bad_name c_first_bad_name k_first_bad_name).binds fun _ _ _ _ _ _ us hl => match us, hl with | [_], _ => rfl
    mg_first_bad_name := PySem.W.mg_of X G xmg_first_bad_name
    F_first_stray := fun_mk (st := s_first_stray) l_first_stray c_first_stray k_first_stray
    b_first_stray := (fun_mk (st := s_first_stray) l_first_stray c_first_stray k_first_stray).binds fun _ _ _ _ _ _ us hl => match us, hl with | [_, _], _ => rfl
    mg_first_stray := PySem.W.mg_of X G xmg_first_stray
    F_numbers_in := fun_mk (st := s_numbers_in) l_numbers_in c_numbers_in k_numbers_in
    b_numbers_in := (fun_mk (st := s_numbers_in) l_numbers_in c_numbers_in k_numbers_in).binds fun _ _ _ _ _ _ us hl => match us, hl with | [_], _ => rfl
    mg_numbers_in := PySem.W.mg_of X G xmg_numbers_in
    F_named := fun_mk (st := s_named) l_named c_named k_named
    b_named := (fun_mk (st := s_named) l_named c_named k_named).binds fun _ _ _ _ _ _ us hl => match us, hl with | [_, _], _ => rfl
    mg_named := PySem.W.mg_of X G xmg_named
    F_check_columns := fun_mk (st := s_check_columns) l_check_columns c_check_columns k_check_columns
    b_check_columns := (fun_mk (st := s_check_columns) l_check_columns c_check_columns k_check_columns).binds fun _ _ _ _ _ _ us hl => match us, hl with | [_], _ => rfl
    mg_check_columns := PySem.W.mg_of X G xmg_check_columns
    F_check_rows := fun_mk (st := s_check_rows) l_check_rows c_check_rows k_check_rows
    b_check_rows := (fun_mk (st := s_check_rows) l_check_rows c_check_rows k_check_rows).binds fun _ _ _ _ _ _ us hl => match us, hl with | [_, _], _ => rfl
    mg_check_rows := PySem.W.mg_of X G xmg_check_rows
    F_Table_in_order := fun_mk (st := s_Table_in_order) l_Table_in_order c_Table_in_order k_Table_in_order
    b_Table_in_order := (fun_mk (st := s_Table_in_order) l_Table_in_order c_Table_in_order k_Table_in_order).binds fun _ _ _ _ _ _ us hl => match us, hl with | [_, _], _ => rfl
    m_Table_in_order := ⟨am_Table_in_order, if_Table_in_order, k_Table_in_order⟩
    F_Table_init := ⟨⟨_, _, _, _, _, _, _, _, _, _, rfl, l_Table_init, c_Table_init, .inr ⟨by simp, TD_Table_init, _, [.ref e_Table_init], _, rfl, lt_Table_init, rfl, .cons rfl .nil⟩, .inl rfl⟩, k_Table_init⟩
    m_Table_init := ⟨am_Table_init, if_Table_init, k_Table_init⟩
    F_Meetings_init := fun_mk (st := s_Meetings_init) l_Meetings_init c_Meetings_init k_Meetings_init
    b_Meetings_init := (fun_mk (st := s_Meetings_init) l_Meetings_init c_Meetings_init k_Meetings_init).binds fun _ _ _ _ _ _ us hl => match us, hl with | [_, _, _], _ => rfl
    m_Meetings_init := ⟨am_Meetings_init, if_Meetings_init, k_Meetings_init⟩
    F_Meetings_met := fun_mk (st := s_Meetings_met) l_Meetings_met c_Meetings_met k_Meetings_met
    b_Meetings_met := (fun_mk (st := s_Meetings_met) l_Meetings_met c_Meetings_met k_Meetings_met).binds fun _ _ _ _ _ _ us hl => match us, hl with | [_, _, _], _ => rfl
    m_Meetings_met := ⟨am_Meetings_met, if_Meetings_met, k_Meetings_met⟩
    F_Meetings_companies := fun_mk (st := s_Meetings_companies) l_Meetings_companies c_Meetings_companies k_Meetings_companies
    b_Meetings_companies := (fun_mk (st := s_Meetings_companies) l_Meetings_companies c_Meetings_companies k_Meetings_companies).binds fun _ _ _ _ _ _ us hl => match us, hl with | [_], _ => rfl
    m_Meetings_companies := ⟨am_Meetings_companies, if_Meetings_companies, k_Meetings_companies⟩
    F_Meetings_known_by := fun_mk (st := s_Meetings_known_by) l_Meetings_known_by c_Meetings_known_by k_Meetings_known_by
    b_Meetings_known_by := (fun_mk (st := s_Meetings_known_by) l_Meetings_known_by c_Meetings_known_by k_Meetings_known_by).binds fun _ _ _ _ _ _ us hl => match us, hl with | [_, _], _ => rfl
    m_Meetings_known_by := ⟨am_Meetings_known_by, if_Meetings_known_by, k_Meetings_known_by⟩
    F_check_guests := fun_mk (st := s_check_guests) l_check_guests c_check_guests k_check_guests
    b_check_guests := (fun_mk (st := s_check_guests) l_check_guests c_check_guests k_check_guests).binds fun _ _ _ _ _ _ us hl => match us, hl with | [_], _ => rfl
    mg_check_guests := PySem.W.mg_of X G xmg_check_guests
    F_check_pairs := fun_mk (st := s_check_pairs) l_check_pairs c_check_pairs k_check_pairs
    b_check_pairs := (fun_mk (st := s_check_pairs) l_check_pairs c_check_pairs k_check_pairs).binds fun _ _ _ _ _ _ us hl => match us, hl with | [_, _], _ => rfl
    mg_check_pairs := PySem.W.mg_of X G xmg_check_pairs
    F_is_full := fun_mk (st := s_is_full) l_is_full c_is_full k_is_full
    b_is_full := (fun_mk (st := s_is_full) l_is_full c_is_full k_is_full).binds fun _ _ _ _ _ _ us hl => match us, hl with | [_, _], _ => rfl
    mg_is_full := PySem.W.mg_of X G xmg_is_full
    F_company_table := fun_mk (st := s_company_table) l_company_table c_company_table k_company_table
    b_company_table := (fun_mk (st := s_company_table) l_company_table c_company_table k_company_table).binds fun _ _ _ _ _ _ us hl => match us, hl with | [_], _ => rfl
    mg_company_table := PySem.W.mg_of X G xmg_company_table
    F_companies_with := fun_mk (st := s_companies_with) l_companies_with c_companies_with k_companies_with
    b_companies_with := (fun_mk (st := s_companies_with) l_companies_with c_companies_with k_companies_with).binds fun _ _ _ _ _ _ us hl => match us, hl with | [_, _, _], _ => rfl
    mg_companies_with := PySem.W.mg_of X G xmg_companies_with
    F_law_cell := fun_mk (st := s_law_cell) l_law_cell c_law_cell k_law_cell
    b_law_cell := (fun_mk (st := s_law_cell) l_law_cell c_law_cell k_law_cell).binds fun _ _ _ _ _ _ us hl => match us, hl with | [_, _], _ => rfl
    mg_law_cell := PySem.W.mg_of X G xmg_law_cell
    F_law_pool := fun_mk (st := s_law_pool) l_law_pool c_law_pool k_law_pool
    b_law_pool := (fun_mk (st := s_law_pool) l_law_pool c_law_pool k_law_pool).binds fun _ _ _ _ _ _ us hl => match us, hl with | [_, _, _], _ => rfl
    mg_law_pool := PySem.W.mg_of X G xmg_law_pool
    F_law_names := fun_mk (st := s_law_names) l_law_names c_law_names k_law_names
    b_law_names := (fun_mk (st := s_law_names) l_law_names c_law_names k_law_names).binds fun _ _ _ _ _ _ us hl => match us, hl with | [_, _], _ => rfl
    mg_law_names := PySem.W.mg_of X G xmg_law_names
    F_law_order := fun_mk (st := s_law_order) l_law_order c_law_order k_law_order
    b_law_order := (fun_mk (st := s_law_order) l_law_order c_law_order k_law_order).binds fun _ _ _ _ _ _ us hl => match us, hl with | [_, _, _], _ => rfl
    mg_law_order := PySem.W.mg_of X G xmg_law_order
    F_law_is_number := fun_mk (st := s_law_is_number) l_law_is_number c_law_is_number k_law_is_number
    b_law_is_number := (fun_mk (st := s_law_is_number) l_law_is_number c_law_is_number k_law_is_number).binds fun _ _ _ _ _ _ us hl => match us, hl with | [_, _, _], _ => rfl
    mg_law_is_number := PySem.W.mg_of X G xmg_law_is_number
    F_law_met := fun_mk (st := s_law_met) l_law_met c_law_met k_law_met
    b_law_met := (fun_mk (st := s_law_met) l_law_met c_law_met k_law_met).binds fun _ _ _ _ _ _ us hl => match us, hl with | [_, _, _], _ => rfl
    mg_law_met := PySem.W.mg_of X G xmg_law_met
    F_law_is_company := fun_mk (st := s_law_is_company) l_law_is_company c_law_is_company k_law_is_company
    b_law_is_company := (fun_mk (st := s_law_is_company) l_law_is_company c_law_is_company k_law_is_company).binds fun _ _ _ _ _ _ us hl => match us, hl with | [_, _, _], _ => rfl
    mg_law_is_company := PySem.W.mg_of X G xmg_law_is_company
    F_law_companies := fun_mk (st := s_law_companies) l_law_companies c_law_companies k_law_companies
    b_law_companies := (fun_mk (st := s_law_companies) l_law_companies c_law_companies k_law_companies).binds fun _ _ _ _ _ _ us hl => match us, hl with | [_, _], _ => rfl
    mg_law_companies := PySem.W.mg_of X G xmg_law_companies
    F_law_free_pairs := fun_mk (st := s_law_free_pairs) l_law_free_pairs c_law_free_pairs k_law_free_pairs
    b_law_free_pairs := (fun_mk (st := s_law_free_pairs) l_law_free_pairs c_law_free_pairs k_law_free_pairs).binds fun _ _ _ _ _ _ us hl => match us, hl with | [_, _, _], _ => rfl
    mg_law_free_pairs := PySem.W.mg_of X G xmg_law_free_pairs
    F_law_group_sizes := fun_mk (st := s_law_group_sizes) l_law_group_sizes c_law_group_sizes k_law_group_sizes
    b_law_group_sizes := (fun_mk (st := s_law_group_sizes) l_law_group_sizes c_law_group_sizes k_law_group_sizes).binds fun _ _ _ _ _ _ us hl => match us, hl with | [_], _ => rfl
    mg_law_group_sizes := PySem.W.mg_of X G xmg_law_group_sizes
    F_law_groups := fun_mk (st := s_law_groups) l_law_groups c_law_groups k_law_groups
    b_law_groups := (fun_mk (st := s_law_groups) l_law_groups c_law_groups k_law_groups).binds fun _ _ _ _ _ _ us hl => match us, hl with | [_, _], _ => rfl
    mg_law_groups := PySem.W.mg_of X G xmg_law_groups
    F_law_pairs_across := fun_mk (st := s_law_pairs_across) l_law_pairs_across c_law_pairs_across k_law_pairs_across
    b_law_pairs_across := (fun_mk (st := s_law_pairs_across) l_law_pairs_across c_law_pairs_across k_law_pairs_across).binds fun _ _ _ _ _ _ us hl => match us, hl with | [_, _], _ => rfl
    mg_law_pairs_across := PySem.W.mg_of X G xmg_law_pairs_across
    F_law_one_of_each := fun_mk (st := s_law_one_of_each) l_law_one_of_each c_law_one_of_each k_law_one_of_each
    b_law_one_of_each := (fun_mk (st := s_law_one_of_each) l_law_one_of_each c_law_one_of_each k_law_one_of_each).binds fun _ _ _ _ _ _ us hl => match us, hl with | [_, _], _ => rfl
    mg_law_one_of_each := PySem.W.mg_of X G xmg_law_one_of_each
    F_law_told_pairs := fun_mk (st := s_law_told_pairs) l_law_told_pairs c_law_told_pairs k_law_told_pairs
    b_law_told_pairs := (fun_mk (st := s_law_told_pairs) l_law_told_pairs c_law_told_pairs k_law_told_pairs).binds fun _ _ _ _ _ _ us hl => match us, hl with | [_, _, _], _ => rfl
    mg_law_told_pairs := PySem.W.mg_of X G xmg_law_told_pairs
    F_law_bad := fun_mk (st := s_law_bad) l_law_bad c_law_bad k_law_bad
    b_law_bad := (fun_mk (st := s_law_bad) l_law_bad c_law_bad k_law_bad).binds fun _ _ _ _ _ _ us hl => match us, hl with | [_, _, _], _ => rfl
    mg_law_bad := PySem.W.mg_of X G xmg_law_bad
    F_law_refused := fun_mk (st := s_law_refused) l_law_refused c_law_refused k_law_refused
    b_law_refused := (fun_mk (st := s_law_refused) l_law_refused c_law_refused k_law_refused).binds fun _ _ _ _ _ _ us hl => match us, hl with | [_, _], _ => rfl
    mg_law_refused := PySem.W.mg_of X G xmg_law_refused
    F_law_unknown := fun_mk (st := s_law_unknown) l_law_unknown c_law_unknown k_law_unknown
    b_law_unknown := (fun_mk (st := s_law_unknown) l_law_unknown c_law_unknown k_law_unknown).binds fun _ _ _ _ _ _ us hl => match us, hl with | [_, _, _], _ => rfl
    mg_law_unknown := PySem.W.mg_of X G xmg_law_unknown
    F_law_same_companies := fun_mk (st := s_law_same_companies) l_law_same_companies c_law_same_companies k_law_same_companies
    b_law_same_companies := (fun_mk (st := s_law_same_companies) l_law_same_companies c_law_same_companies k_law_same_companies).binds fun _ _ _ _ _ _ us hl => match us, hl with | [_, _], _ => rfl
    mg_law_same_companies := PySem.W.mg_of X G xmg_law_same_companies
    F_law_table_right := fun_mk (st := s_law_table_right) l_law_table_right c_law_table_right k_law_table_right
    b_law_table_right := (fun_mk (st := s_law_table_right) l_law_table_right c_law_table_right k_law_table_right).binds fun _ _ _ _ _ _ us hl => match us, hl with | [_, _, _], _ => rfl
    mg_law_table_right := PySem.W.mg_of X G xmg_law_table_right
    F_law := fun_mk (st := s_law) l_law c_law k_law
    b_law := (fun_mk (st := s_law) l_law c_law k_law).binds fun _ _ _ _ _ _ us hl => match us, hl with | [_], _ => rfl
    mg_law := PySem.W.mg_of X G xmg_law
  }
  exact ⟨_, fun s v => .of_eq rfl, fun base _ _ => ok_law T⟩
theorem walk {l : PySem.W.OpenLaw} {q : Program} {loose : List Str} {XP : (Str → Option Value) → Heap → Prop} {YP : World → Heap → Prop} {d : DefRec} {K : Params → PySem.W.Frag} (hn : l.most = some 63) (hdf : d.params.defaults = [])
    (hY : ∀ (w : World) (h : Heap), YP w h → (K w.params).In h)
    (F : ∀ (w : World) (mg : Str → Option Value) (fa : Addr) (h : Heap), (K w.params).In h → h.Ns mainGlobals mg → mg d.name = some (.ref fa) →
      ∃ fd : FuncData, (∀ (s : Shared) (u : Value), BindsTo s fd ⟨[u], []⟩ [("script", u)]) ∧ ∀ base : Heap, (K w.params).In base → base.Ns mainGlobals mg → FnOk l.prog w (K w.params) mg base CX0 22 fa fd ["script"] (spLaw (K w.params))) :
    PySem.W.WalkO q loose XP YP l.row.toRowW d [] (fun f vs => PySem.call f vs) :=
  L2.walk_of (n := 63) (k := 22) (x := "script") (CX := fun _ => CX0) (sp := fun w => spLaw (K w.params)) hn (by decide) hdf ⟨rfl, by decide, by decide⟩ hY F (fun _ _ a ns hl _ hS => ⟨a, ns, rfl, hS, hl, fun _ => rfl⟩) fun _ _ _ _ _ z => z
end My
open PySem PySem.W PyProof.Rows
set_option maxRecDepth 100000 in
set_option maxHeartbeats 0 in
theorem PySem.Challenge.cw_unbrokenrows_k34_meetings_and_companies_holds : PySem.Challenge.rw_unbrokenrows_k34_meetings_and_companies.Holds := by
  w_on; o_law; k_head; (case hw => w_witness2)
  k_fill
  refine My.walk (l := PySem.Challenge.rw_unbrokenrows_k34_meetings_and_companies) rfl rfl (fun w h Y => PySem.W.kIn_of Y) ?F
  case F =>
    intro w mg fa h KX G hmg
    refine' My.all_mk KX G hmg ?xmg_Table ?xmg_Meetings ?xmg_RowsError ?xmg_Unknown ?xmg_Impossible ?xmg_UnknownGuest ?xmg_BadMeetings ?xmg_TooMany ?am_UnknownGuest_init ?am_BadMeetings_init ?am_TooMany_init ?xmg_COLUMN_NAMES ?xmg_LONGEST_NAME ?xmg_MOST_GUESTS ?xmg_is_name ?xmg_first_bad_name ?xmg_first_stray ?xmg_numbers_in ?xmg_named ?xmg_check_columns ?xmg_check_rows ?am_Table_in_order ?am_Table_init ?am_Meetings_init ?am_Meetings_met ?am_Meetings_companies ?am_Meetings_known_by ?xmg_check_guests ?xmg_check_pairs ?xmg_is_full ?xmg_company_table ?xmg_companies_with ?xmg_law_cell ?xmg_law_pool ?xmg_law_names ?xmg_law_order ?xmg_law_is_number ?xmg_law_met ?xmg_law_is_company ?xmg_law_companies ?xmg_law_free_pairs ?xmg_law_group_sizes ?xmg_law_groups ?xmg_law_pairs_across ?xmg_law_one_of_each ?xmg_law_told_pairs ?xmg_law_bad ?xmg_law_refused ?xmg_law_unknown ?xmg_law_same_companies ?xmg_law_table_right ?xmg_law ?if_Table_in_order ?if_Table_init ?if_Meetings_init ?if_Meetings_met ?if_Meetings_companies ?if_Meetings_known_by ?l_UnknownGuest_init ?l_BadMeetings_init ?l_TooMany_init ?l_is_name ?l_first_bad_name ?l_first_stray ?l_numbers_in ?l_named ?l_check_columns ?l_check_rows ?l_Table_in_order ?l_Table_init ?l_Meetings_init ?l_Meetings_met ?l_Meetings_companies ?l_Meetings_known_by ?l_check_guests ?l_check_pairs ?l_is_full ?l_company_table ?l_companies_with ?l_law_cell ?l_law_pool ?l_law_names ?l_law_order ?l_law_is_number ?l_law_met ?l_law_is_company ?l_law_companies ?l_law_free_pairs ?l_law_group_sizes ?l_law_groups ?l_law_pairs_across ?l_law_one_of_each ?l_law_told_pairs ?l_law_bad ?l_law_refused ?l_law_unknown ?l_law_same_companies ?l_law_table_right ?l_law ?lx_UnknownGuest_init ?lq_UnknownGuest_init ?lx_BadMeetings_init ?lq_BadMeetings_init ?lx_TooMany_init ?lq_TooMany_init ?c_UnknownGuest_init ?c_BadMeetings_init ?c_TooMany_init ?c_is_name ?k_is_name ?c_first_bad_name ?k_first_bad_name ?c_first_stray ?k_first_stray ?c_numbers_in ?k_numbers_in ?c_named ?k_named ?c_check_columns ?k_check_columns ?c_check_rows ?k_check_rows ?c_Table_in_order ?k_Table_in_order ?c_Table_init ?k_Table_init ?lt_Table_init ?c_Meetings_init ?k_Meetings_init ?c_Meetings_met ?k_Meetings_met ?c_Meetings_companies ?k_Meetings_companies ?c_Meetings_known_by ?k_Meetings_known_by ?c_check_guests ?k_check_guests ?c_check_pairs ?k_check_pairs ?c_is_full ?k_is_full ?c_company_table ?k_company_table ?c_companies_with ?k_companies_with ?c_law_cell ?k_law_cell ?c_law_pool ?k_law_pool ?c_law_names ?k_law_names ?c_law_order ?k_law_order ?c_law_is_number ?k_law_is_number ?c_law_met ?k_law_met ?c_law_is_company ?k_law_is_company ?c_law_companies ?k_law_companies ?c_law_free_pairs ?k_law_free_pairs ?c_law_group_sizes ?k_law_group_sizes ?c_law_groups ?k_law_groups ?c_law_pairs_across ?k_law_pairs_across ?c_law_one_of_each ?k_law_one_of_each ?c_law_told_pairs ?k_law_told_pairs ?c_law_bad ?k_law_bad ?c_law_refused ?k_law_refused ?c_law_unknown ?k_law_unknown ?c_law_same_companies ?k_law_same_companies ?c_law_table_right ?k_law_table_right ?c_law ?k_law ?pgcl_Table ?hdcl_Table ?pocl_Table ?sacl_Table ?xsf_Table ?kmk_Table ?kkmk_Table ?xc1_Table ?xc3_Table ?xn_Table_columns ?xn_Table_rows ?pgcl_Meetings ?hdcl_Meetings ?pocl_Meetings ?sacl_Meetings ?xsf_Meetings ?kmk_Meetings ?kkmk_Meetings ?xc1_Meetings ?xc3_Meetings ?xn_Meetings_guests ?xn_Meetings_pairs ?xc2 ?xc4 ?xtp_RowsError ?xic_RowsError ?xtp_Unknown ?xic_Unknown ?xtp_Impossible ?xic_Impossible ?xtp_UnknownGuest ?xic_UnknownGuest ?xtp_BadMeetings ?xic_BadMeetings ?xtp_TooMany ?xic_TooMany ?g1SC_UnknownGuest ?g2SC_UnknownGuest ?ksSC_UnknownGuest ?g4SC_UnknownGuest ?g5SC_UnknownGuest ?rfSC_UnknownGuest ?kxSC_UnknownGuest ?g6SC_UnknownGuest ?rv_UnknownGuest_init ?rg_UnknownGuest_init ?xti_UnknownGuest ?xxn_UnknownGuest_name ?xk_UnknownGuest ?xbp_UnknownGuest ?xsv_UnknownGuest ?xss_UnknownGuest ?xsu_UnknownGuest_RowsError ?xsu_UnknownGuest_Unknown ?xsu_UnknownGuest_Impossible ?xe1_UnknownGuest ?xe2_UnknownGuest ?xe3_UnknownGuest ?xe4_UnknownGuest ?xe5_UnknownGuest ?g1SC_BadMeetings ?g2SC_BadMeetings ?ksSC_BadMeetings ?g4SC_BadMeetings ?g5SC_BadMeetings ?rfSC_BadMeetings ?kxSC_BadMeetings ?g6SC_BadMeetings ?rv_BadMeetings_init ?rg_BadMeetings_init ?xti_BadMeetings ?xxn_BadMeetings_part ?xxn_BadMeetings_index ?xk_BadMeetings ?xbp_BadMeetings ?xsv_BadMeetings ?xss_BadMeetings ?xsu_BadMeetings_RowsError ?xsu_BadMeetings_Unknown ?xsu_BadMeetings_Impossible ?xe1_BadMeetings ?xe2_BadMeetings ?xe3_BadMeetings ?xe4_BadMeetings ?xe5_BadMeetings ?g1SC_TooMany ?g2SC_TooMany ?ksSC_TooMany ?g4SC_TooMany ?g5SC_TooMany ?rfSC_TooMany ?kxSC_TooMany ?g6SC_TooMany ?rv_TooMany_init ?rg_TooMany_init ?xti_TooMany ?xxn_TooMany_many ?xk_TooMany ?xbp_TooMany ?xsv_TooMany ?xss_TooMany ?xsu_TooMany_RowsError ?xsu_TooMany_Unknown ?xsu_TooMany_Impossible ?xe1_TooMany ?xe2_TooMany ?xe3_TooMany ?xe4_TooMany ?xe5_TooMany ?r1cr_Table ?r2cr_Table ?xcv_Table_MOST_COLUMNS ?xcv_Table_MOST_ROWS ?xn_abs ?xn_int ?xn_isinstance ?xn_range ?xn_len ?xn_str ?xn_tuple ?xn_list ?xn_ValueError ?xn_all ?xn_min ?xn_enumerate ?xn_bool ?xn_sum ?xn_sorted ?xn_zip
    (case xmg_Table => k_is)
    (case xmg_Meetings => k_is)
    (case xmg_RowsError => k_is)
    (case xmg_Unknown => k_is)
    (case xmg_Impossible => k_is)
    (case xmg_UnknownGuest => k_is)
    (case xmg_BadMeetings => k_is)
    (case xmg_TooMany => k_is)
    (case am_UnknownGuest_init => k_is)
    (case am_BadMeetings_init => k_is)
    (case am_TooMany_init => k_is)
    (case xmg_COLUMN_NAMES => k_is)
    (case xmg_LONGEST_NAME => k_is)
    (case xmg_MOST_GUESTS => k_is)
    (case xmg_is_name => k_is)
    (case xmg_first_bad_name => k_is)
    (case xmg_first_stray => k_is)
    (case xmg_numbers_in => k_is)
    (case xmg_named => k_is)
    (case xmg_check_columns => k_is)
    (case xmg_check_rows => k_is)
    (case am_Table_in_order => k_is)
    (case am_Table_init => k_is)
    (case am_Meetings_init => k_is)
    (case am_Meetings_met => k_is)
    (case am_Meetings_companies => k_is)
    (case am_Meetings_known_by => k_is)
    (case xmg_check_guests => k_is)
    (case xmg_check_pairs => k_is)
    (case xmg_is_full => k_is)
    (case xmg_company_table => k_is)
    (case xmg_companies_with => k_is)
    (case xmg_law_cell => k_is)
    (case xmg_law_pool => k_is)
    (case xmg_law_names => k_is)
    (case xmg_law_order => k_is)
    (case xmg_law_is_number => k_is)
    (case xmg_law_met => k_is)
    (case xmg_law_is_company => k_is)
    (case xmg_law_companies => k_is)
    (case xmg_law_free_pairs => k_is)
    (case xmg_law_group_sizes => k_is)
    (case xmg_law_groups => k_is)
    (case xmg_law_pairs_across => k_is)
    (case xmg_law_one_of_each => k_is)
    (case xmg_law_told_pairs => k_is)
    (case xmg_law_bad => k_is)
    (case xmg_law_refused => k_is)
    (case xmg_law_unknown => k_is)
    (case xmg_law_same_companies => k_is)
    (case xmg_law_table_right => k_is)
    (case xmg_law => k_is)
    (case if_Table_in_order => k_is)
    (case if_Table_init => k_is)
    (case if_Meetings_init => k_is)
    (case if_Meetings_met => k_is)
    (case if_Meetings_companies => k_is)
    (case if_Meetings_known_by => k_is)
    (case l_UnknownGuest_init => k_is)
    (case l_BadMeetings_init => k_is)
    (case l_TooMany_init => k_is)
    (case l_is_name => k_is)
    (case l_first_bad_name => k_is)
    (case l_first_stray => k_is)
    (case l_numbers_in => k_is)
    (case l_named => k_is)
    (case l_check_columns => k_is)
    (case l_check_rows => k_is)
    (case l_Table_in_order => k_is)
    (case l_Table_init => k_is)
    (case l_Meetings_init => k_is)
    (case l_Meetings_met => k_is)
    (case l_Meetings_companies => k_is)
    (case l_Meetings_known_by => k_is)
    (case l_check_guests => k_is)
    (case l_check_pairs => k_is)
    (case l_is_full => k_is)
    (case l_company_table => k_is)
    (case l_companies_with => k_is)
    (case l_law_cell => k_is)
    (case l_law_pool => k_is)
    (case l_law_names => k_is)
    (case l_law_order => k_is)
    (case l_law_is_number => k_is)
    (case l_law_met => k_is)
    (case l_law_is_company => k_is)
    (case l_law_companies => k_is)
    (case l_law_free_pairs => k_is)
    (case l_law_group_sizes => k_is)
    (case l_law_groups => k_is)
    (case l_law_pairs_across => k_is)
    (case l_law_one_of_each => k_is)
    (case l_law_told_pairs => k_is)
    (case l_law_bad => k_is)
    (case l_law_refused => k_is)
    (case l_law_unknown => k_is)
    (case l_law_same_companies => k_is)
    (case l_law_table_right => k_is)
    (case l_law => k_is)
    (case lx_UnknownGuest_init => k_is)
    (case lq_UnknownGuest_init => k_is)
    (case lx_BadMeetings_init => k_is)
    (case lq_BadMeetings_init => k_is)
    (case lx_TooMany_init => k_is)
    (case lq_TooMany_init => k_is)
    (case c_UnknownGuest_init => k_is)
    (case c_BadMeetings_init => k_is)
    (case c_TooMany_init => k_is)
    (case c_is_name => k_is)
    (case k_is_name => k_is)
    (case c_first_bad_name => k_is)
    (case k_first_bad_name => k_is)
    (case c_first_stray => k_is)
    (case k_first_stray => k_is)
    (case c_numbers_in => k_is)
    (case k_numbers_in => k_is)
    (case c_named => k_is)
    (case k_named => k_is)
    (case c_check_columns => k_is)
    (case k_check_columns => k_is)
    (case c_check_rows => k_is)
    (case k_check_rows => k_is)
    (case c_Table_in_order => k_is)
    (case k_Table_in_order => k_is)
    (case c_Table_init => k_is)
    (case k_Table_init => k_is)
    (case lt_Table_init => k_is)
    (case c_Meetings_init => k_is)
    (case k_Meetings_init => k_is)
    (case c_Meetings_met => k_is)
    (case k_Meetings_met => k_is)
    (case c_Meetings_companies => k_is)
    (case k_Meetings_companies => k_is)
    (case c_Meetings_known_by => k_is)
    (case k_Meetings_known_by => k_is)
    (case c_check_guests => k_is)
    (case k_check_guests => k_is)
    (case c_check_pairs => k_is)
    (case k_check_pairs => k_is)
    (case c_is_full => k_is)
    (case k_is_full => k_is)
    (case c_company_table => k_is)
    (case k_company_table => k_is)
    (case c_companies_with => k_is)
    (case k_companies_with => k_is)
    (case c_law_cell => k_is)
    (case k_law_cell => k_is)
    (case c_law_pool => k_is)
    (case k_law_pool => k_is)
    (case c_law_names => k_is)
    (case k_law_names => k_is)
    (case c_law_order => k_is)
    (case k_law_order => k_is)
    (case c_law_is_number => k_is)
    (case k_law_is_number => k_is)
    (case c_law_met => k_is)
    (case k_law_met => k_is)
    (case c_law_is_company => k_is)
    (case k_law_is_company => k_is)
    (case c_law_companies => k_is)
    (case k_law_companies => k_is)
    (case c_law_free_pairs => k_is)
    (case k_law_free_pairs => k_is)
    (case c_law_group_sizes => k_is)
    (case k_law_group_sizes => k_is)
    (case c_law_groups => k_is)
    (case k_law_groups => k_is)
    (case c_law_pairs_across => k_is)
    (case k_law_pairs_across => k_is)
    (case c_law_one_of_each => k_is)
    (case k_law_one_of_each => k_is)
    (case c_law_told_pairs => k_is)
    (case k_law_told_pairs => k_is)
    (case c_law_bad => k_is)
    (case k_law_bad => k_is)
    (case c_law_refused => k_is)
    (case k_law_refused => k_is)
    (case c_law_unknown => k_is)
    (case k_law_unknown => k_is)
    (case c_law_same_companies => k_is)
    (case k_law_same_companies => k_is)
    (case c_law_table_right => k_is)
    (case k_law_table_right => k_is)
    (case c_law => k_is)
    (case k_law => k_is)
    (case pgcl_Table => k_is)
    (case hdcl_Table => k_is)
    (case pocl_Table => k_is)
    (case sacl_Table => k_is)
    (case xsf_Table => k_is)
    (case kmk_Table => k_is)
    (case kkmk_Table => k_is)
    (case xc1_Table => k_is)
    (case xc3_Table => k_is)
    (case xn_Table_columns => k_is)
    (case xn_Table_rows => k_is)
    (case pgcl_Meetings => k_is)
    (case hdcl_Meetings => k_is)
    (case pocl_Meetings => k_is)
    (case sacl_Meetings => k_is)
    (case xsf_Meetings => k_is)
    (case kmk_Meetings => k_is)
    (case kkmk_Meetings => k_is)
    (case xc1_Meetings => k_is)
    (case xc3_Meetings => k_is)
    (case xn_Meetings_guests => k_is)
    (case xn_Meetings_pairs => k_is)
    (case xc2 => k_is)
    (case xc4 => k_is)
    (case xtp_RowsError => k_is)
    (case xic_RowsError => k_is)
    (case xtp_Unknown => k_is)
    (case xic_Unknown => k_is)
    (case xtp_Impossible => k_is)
    (case xic_Impossible => k_is)
    (case xtp_UnknownGuest => k_is)
    (case xic_UnknownGuest => k_is)
    (case xtp_BadMeetings => k_is)
    (case xic_BadMeetings => k_is)
    (case xtp_TooMany => k_is)
    (case xic_TooMany => k_is)
    (case g1SC_UnknownGuest => k_is)
    (case g2SC_UnknownGuest => k_is)
    (case ksSC_UnknownGuest => ks_is)
    (case g4SC_UnknownGuest => k_is)
    (case g5SC_UnknownGuest => k_is)
    (case rfSC_UnknownGuest => first | rfl | decide +kernel)
    (case kxSC_UnknownGuest => kx_is)
    (case g6SC_UnknownGuest => k_is)
    (case rv_UnknownGuest_init => first | rfl | decide +kernel)
    (case rg_UnknownGuest_init => first | rfl | decide +kernel)
    (case xti_UnknownGuest => k_is)
    (case xxn_UnknownGuest_name => k_is)
    (case xk_UnknownGuest => k_is)
    (case xbp_UnknownGuest => k_is)
    (case xsv_UnknownGuest => k_is)
    (case xss_UnknownGuest => k_is)
    (case xsu_UnknownGuest_RowsError => k_is)
    (case xsu_UnknownGuest_Unknown => k_is)
    (case xsu_UnknownGuest_Impossible => k_is)
    (case xe1_UnknownGuest => k_is)
    (case xe2_UnknownGuest => k_is)
    (case xe3_UnknownGuest => k_is)
    (case xe4_UnknownGuest => k_is)
    (case xe5_UnknownGuest => k_is)
    (case g1SC_BadMeetings => k_is)
    (case g2SC_BadMeetings => k_is)
    (case ksSC_BadMeetings => ks_is)
    (case g4SC_BadMeetings => k_is)
    (case g5SC_BadMeetings => k_is)
    (case rfSC_BadMeetings => first | rfl | decide +kernel)
    (case kxSC_BadMeetings => kx_is)
    (case g6SC_BadMeetings => k_is)
    (case rv_BadMeetings_init => first | rfl | decide +kernel)
    (case rg_BadMeetings_init => first | rfl | decide +kernel)
    (case xti_BadMeetings => k_is)
    (case xxn_BadMeetings_part => k_is)
    (case xxn_BadMeetings_index => k_is)
    (case xk_BadMeetings => k_is)
    (case xbp_BadMeetings => k_is)
    (case xsv_BadMeetings => k_is)
    (case xss_BadMeetings => k_is)
    (case xsu_BadMeetings_RowsError => k_is)
    (case xsu_BadMeetings_Unknown => k_is)
    (case xsu_BadMeetings_Impossible => k_is)
    (case xe1_BadMeetings => k_is)
    (case xe2_BadMeetings => k_is)
    (case xe3_BadMeetings => k_is)
    (case xe4_BadMeetings => k_is)
    (case xe5_BadMeetings => k_is)
    (case g1SC_TooMany => k_is)
    (case g2SC_TooMany => k_is)
    (case ksSC_TooMany => ks_is)
    (case g4SC_TooMany => k_is)
    (case g5SC_TooMany => k_is)
    (case rfSC_TooMany => first | rfl | decide +kernel)
    (case kxSC_TooMany => kx_is)
    (case g6SC_TooMany => k_is)
    (case rv_TooMany_init => first | rfl | decide +kernel)
    (case rg_TooMany_init => first | rfl | decide +kernel)
    (case xti_TooMany => k_is)
    (case xxn_TooMany_many => k_is)
    (case xk_TooMany => k_is)
    (case xbp_TooMany => k_is)
    (case xsv_TooMany => k_is)
    (case xss_TooMany => k_is)
    (case xsu_TooMany_RowsError => k_is)
    (case xsu_TooMany_Unknown => k_is)
    (case xsu_TooMany_Impossible => k_is)
    (case xe1_TooMany => k_is)
    (case xe2_TooMany => k_is)
    (case xe3_TooMany => k_is)
    (case xe4_TooMany => k_is)
    (case xe5_TooMany => k_is)
    (case r1cr_Table => k_is)
    (case r2cr_Table => k_is)
    (case xcv_Table_MOST_COLUMNS => k_is)
    (case xcv_Table_MOST_ROWS => k_is)
    (case xn_abs => k_is)
    (case xn_int => k_is)
    (case xn_isinstance => k_is)
    (case xn_range => k_is)
    (case xn_len => k_is)
    (case xn_str => k_is)
    (case xn_tuple => k_is)
    (case xn_list => k_is)
    (case xn_ValueError => k_is)
    (case xn_all => k_is)
    (case xn_min => k_is)
    (case xn_enumerate => k_is)
    (case xn_bool => k_is)
    (case xn_sum => k_is)
    (case xn_sorted => k_is)
    (case xn_zip => k_is)
#print axioms PySem.Challenge.cw_unbrokenrows_k34_meetings_and_companies_holds
