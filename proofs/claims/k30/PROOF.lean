import PyProof.Rows.All
import Wide.All
import OpenK.AllK
import Wide.FinOn
import HandS.Base
import HandS.Call
import HandS.List
import HandS.OwnEq
import HandS.Ends
import HandS.ClsMeth
import HandS.ExcOwn
import HandS.ExcIs
import HandS.TryOnly
import KE.KExcSuper
import HandS.ExcInit
import HandS.ExcField
import HandS.Words
import HandS.SortKw
import HandS.IterNext
import KE.DataMinMax
import KE.KExcIs
import KE.KExcLine
import HandS.OwnIter
import HandS.Walk
import KE.GoesMore
import KE.SortData
import HandS.SortRule
import HandS.IsInst
import HandS.WideBits
import HandS.Exc
import HandS.TryMany
import HandS.Style
import HandS.Strs
import HandS.Deep
import PyProof.StrLawsChain
import HandS.Text
import PyProof.Rows.StrCut
import HandS.Wide
import HandS.TupAny
import HandS.Star
import HandS.More
import HandS.Defaults
import HandS.Codes
import HandS.ForMost
import HandS.FStr
import HandS.StrMore
import HandS.Replace
import HandS.WordsExc
import PyProof.StrBlock2
import HandS.Conv
import PySem.Challenge.RW_unbrokenrows_k30_recognized_tables
set_option Elab.async false
set_option linter.all false
set_option maxRecDepth 100000
namespace My
open PySem PySem.Spec PyProof.Rows L2
section
variable {X : Cx} {CX : CXT} {n : Nat} {f C : Addr} {fd : FuncData} {ps : List Str} {sp : Sp} {E : XK}
/-- a promise, called anywhere in the running body -/
theorem call_at (G0 : FnOk X.prog X.w X.K X.mg X.base CX n f fd ps sp) (hb : Binds X.K fd ps []) (hx : Passes CX X E) {A : Around} (hr : Room n A) (hA : A.frames = X.A.frames)
    {pins : List (Addr × Obj)} {s : Shared} {σ : L2.St} {H : Hp} (I : Inv X pins σ H s) {vs : List V} {us : List Value} (r : Vals vs us) {Q : VK} (h : sp vs H Q E) :
    wpAny (model X.prog X.w) A (call (.ref f) us) (EP X pins σ Q) X.xe s := by
  have e0 : Env0 X.prog X.w X.K X.mg X.base A X.stack s H := by
    have e := I.env0
    exact ⟨by rw [hA]; exact e.frames, e.mod, e.bs, e.bsz, e.funs, e.frf, e.hok, e.bare⟩
  have hl := G0.len _ _ _ _ h
  refine wpAny_call (codeAny_mono (G0.run A X.stack s H ⟨us, []⟩ us vs Q E hr e0 (by
    have := hb s us I.kIn (by rw [List.append_nil, ← r.length]; exact hl)
    simpa using this) r h) fun r s' hq => ?_)
  cases r with
  | error e => exact hx pins σ H s e s' I hq
  | ok fl =>
    cases fl with
    | ret w => exact I.after hq
    | next => exact False.elim hq
    | brk => exact False.elim hq
    | cont => exact False.elim hq
theorem relV_noNI {v : V} {u : Value} (r : RelV v u) : u ≠ .notImplemented := by
  intro e
  subst e
  cases v <;> first | (cases r; done) | (obtain ⟨_, z⟩ := r; cases z)
theorem cmpBack_of {pins : List (Addr × Obj)} {σ : L2.St} {Q : VK} {v : Value} {s : Shared} (h : EP X pins σ Q v s) : PySem.W.CmpBack (EP X pins σ Q) v s := by
  obtain ⟨x, H', I', r, q⟩ := id h
  cases v <;> first | exact h | exact absurd rfl (relV_noNI r)
/-- x op y, both instances of the class at C, by its own method -/
def rOwn2 (C : Addr) (sp : Sp) (E : XK) : R2 := fun x y H Q => ∃ a b dx dy fs gs, x = .ref a ∧ y = .ref b ∧ H a = some (.ins C dx fs) ∧ H b = some (.ins C dy gs) ∧ sp [.ref a, .ref b] H Q E
theorem op_own2 {op : Operator} (G0 : FnOk X.prog X.w X.K X.mg X.base CX n f fd ps sp) (hb : Binds X.K fd ps []) (hx : Passes CX X E) (hr : Room n X.A)
    (hs : PySem.W.findIn X.K (.ref C) (PySem.dunder op.info.2) = some (some (.ref f))) (hf : PySem.W.isFn X.K (.ref f) = true) (hc : PySem.W.selfFirst X.K C = true) : OpR X (binaryOp op) (rOwn2 C sp E) := by
  intro pins s σ H x y v u Q I rx ry h
  obtain ⟨a, b, dx, dy, fs, gs, rfl, rfl, ha, hb', q⟩ := h
  cases rx
  cases ry
  obtain ⟨mA, J, _⟩ := ins_get I.hok ha
  obtain ⟨mB, J', _⟩ := ins_get I.hok hb'
  obtain ⟨od, J, _⟩ := J.look
  obtain ⟨od', J', _⟩ := J'.look
  obtain ⟨m, hF⟩ := I.fr
  refine PySem.W.binop_K hF I.ok.mod.kin J J'.type hc hs hf ?_
  exact wpAny_mono (call_at G0 hb hx hr rfl I (vs := [.ref a, .ref b]) (.cons rfl (.cons rfl .nil)) q) (fun v s' z => cmpBack_of z) fun _ _ z => z
/-- x op k, x such an instance, k a whole number -/
def rOwnI (C : Addr) (sp : Sp) (E : XK) : R2 := fun x y H Q => ∃ a dx fs k, x = .ref a ∧ y = .int k ∧ H a = some (.ins C dx fs) ∧ sp [.ref a, .int k] H Q E
theorem op_ownI {op : Operator} {fo ro rc : Option Value} (G0 : FnOk X.prog X.w X.K X.mg X.base CX n f fd ps sp) (hb : Binds X.K fd ps []) (hx : Passes CX X E) (hr : Room n X.A)
    (hs : PySem.W.findIn X.K (.ref C) (PySem.dunder op.info.2) = some (some (.ref f))) (hf : PySem.W.isFn X.K (.ref f) = true) (hc : PySem.W.selfFirst X.K C = true)
    (hrr : PySem.W.findIn X.K (.ref C) (dunderR op.info.2) = some rc) (hp : rc = none ∨ ∃ g : Addr, rc = some (.ref g))
    (h1 : PySem.W.findIn X.K (.type "int") (PySem.dunder op.info.2) = some fo) (h2 : PySem.W.findIn X.K (.type "int") (dunderR op.info.2) = some ro) (hsub : PySem.W.subIn X.K (.type "int") (.ref C) = some false) :
    OpR X (binaryOp op) (rOwnI C sp E) := by
  intro pins s σ H x y v u Q I rx ry h
  obtain ⟨a, dx, fs, k, rfl, rfl, ha, q⟩ := h
  cases rx
  obtain ⟨t, rfl⟩ := ry
  obtain ⟨mA, J, _⟩ := ins_get I.hok ha
  obtain ⟨od, J, _⟩ := J.look
  obtain ⟨m, hF⟩ := I.fr
  refine PySem.W.ksp_binT (T := "int") hF I.ok.mod.kin J rfl hc hs hf hrr hp h1 h2 hsub ?_
  exact wpAny_mono (call_at G0 hb hx hr rfl I (vs := [.ref a, .int k]) (.cons rfl (.cons ⟨_, rfl⟩ .nil)) q) (fun v s' z => cmpBack_of z) fun _ _ z => z
/-- one-place operators of such an instance -/
def rOwn1 (C : Addr) (sp : Sp) (E : XK) : V → Hp → VK → Prop := fun x H Q => ∃ a dx fs, x = .ref a ∧ H a = some (.ins C dx fs) ∧ sp [.ref a] H Q E
theorem un_own (G0 : FnOk X.prog X.w X.K X.mg X.base CX n f fd ps sp) (hb : Binds X.K fd ps []) (hx : Passes CX X E) (hr : Room n X.A)
    (hs : PySem.W.findIn X.K (.ref C) "__neg__" = some (some (.ref f))) (hf : PySem.W.isFn X.K (.ref f) = true) : UnR X (unaryOp .USub) (rOwn1 C sp E) := by
  intro pins s σ H x v Q I rx h
  obtain ⟨a, dx, fs, rfl, ha, q⟩ := h
  cases rx
  obtain ⟨mA, J, _⟩ := ins_get I.hok ha
  obtain ⟨od, J, _⟩ := J.look
  obtain ⟨m, hF⟩ := I.fr
  exact PySem.W.ksp_neg hF I.ok.mod.kin J hs hf (call_at G0 hb hx hr rfl I (vs := [.ref a]) (.cons rfl .nil) q)
/-- abs(x), bool(x) of such an instance -/
theorem call_absOwn (G0 : FnOk X.prog X.w X.K X.mg X.base CX n f fd ps sp) (hb : Binds X.K fd ps []) (hx : Passes CX X E) (hr : Room (n + 1) X.A)
    (hs : PySem.W.findIn X.K (.ref C) "__abs__" = some (some (.ref f))) (hf : PySem.W.isFn X.K (.ref f) = true) :
    CallR X (.builtin "abs") (fun xs H Q => ∃ a dx fs, xs = [V.ref a] ∧ H a = some (.ins C dx fs) ∧ sp [.ref a] H Q E) := by
  intro pins s σ H xs us Q I r h
  obtain ⟨a, dx, fs, rfl, ha, q⟩ := h
  obtain ⟨u, rfl, r1⟩ := vals1 r
  cases r1
  obtain ⟨mA, J, _⟩ := ins_get I.hok ha
  obtain ⟨od, J, _⟩ := J.look
  refine PySem.Calls.call_function_entry kind_abs plain_abs entry_abs (args_abs _) ?_
  unfold Builtin.«abs»
  refine wpAny_bind (m := oneArg "abs" _) (wpAny_pure ?_)
  refine wpAny_bind (m := callSpecial? (.ref a) (Str.ofString "__abs__")) (PySem.W.special_fn I.kIn J hs (beq_iff_eq.mp hf) ?_)
  refine wpAny_mono (call_at G0 hb hx (A := X.A.in1) hr.in1 rfl I (vs := [.ref a]) (.cons rfl .nil) q) (fun v s' z => ?_) fun _ _ z => z
  exact wpAny_pure ⟨_, rfl, z⟩
theorem meets_bool_own (prog : Program) (w : World) (l : Addr) : MeetsIn prog w (Builtin.«bool.__new__» ⟨[.type "bool", .ref l], []⟩)
    (fun A R s => wpAny (model prog w) A.in1 (truthy (.ref l)) (fun b s' => R (.ok (.ret (.bool b))) s') (fun e s' => R (.error e) s') s) := by
  intro A R s hs
  have f1 := F.conv_sub_bool
  unfold Builtin.«bool.__new__»
  dsimp only
  repeat (any_goals (first | assumption | (with_reducible refine wpAny_mono hs (fun b s' z => ?_) (fun _ _ z => z)) | wp_step))
  all_goals first | exact z | skip
theorem call_boolOwn (G0 : FnOk X.prog X.w X.K X.mg X.base CX n f fd ps sp) (hb : Binds X.K fd ps []) (hx : Passes CX X E) (hr : Room (n + 2) X.A)
    (hs : PySem.W.findIn X.K (.ref C) "__bool__" = some (some (.ref f))) (hf : PySem.W.isFn X.K (.ref f) = true) :
    CallR X (.type "bool") (fun xs H Q => ∃ a dx fs, xs = [V.ref a] ∧ H a = some (.ins C dx fs) ∧ sp [.ref a] H (fun v H' => ∃ k, v = .bl k ∧ Q v H') E) := by
  intro pins s σ H xs us Q I r h
  obtain ⟨a, dx, fs, rfl, ha, q⟩ := h
  obtain ⟨u, rfl, r1⟩ := vals1 r
  cases r1
  obtain ⟨mA, J, _⟩ := ins_get I.hok ha
  obtain ⟨od, J, _⟩ := J.look
  obtain ⟨m, hF⟩ := I.fr
  refine callType_newIn F.called_bool F.newNe_bool (F.typeCall_bool_1 _) (F.newCall_bool_1 _) (fun obj => F.args_object_init_2 obj _) F.entry_bool_new (meets_bool_own X.prog X.w a) ?_
  refine PySem.W.truthy_K hF I.ok.mod.kin J hs hf ?_
  refine wpAny_mono (call_at G0 hb hx (A := X.A.in1.in1) hr.in1.in1 rfl I (vs := [.ref a]) (.cons rfl .nil) q) (fun v s' z => ?_) fun _ _ z => z
  obtain ⟨x, H', I', r, k, rfl, q'⟩ := z
  cases r
  exact ⟨PySem.typeIs_bool _ _, .bl k, H', I', rfl, q'⟩
/-- == of two such instances -/
def rOwnEq (C : Addr) (sp : Sp) (E : XK) : R2 := fun x y H Q => ∃ a b dx dy fs gs, x = .ref a ∧ y = .ref b ∧ H a = some (.ins C dx fs) ∧ H b = some (.ins C dy gs) ∧ sp [.ref a, .ref b] H Q E
theorem op_eqOwn (G0 : FnOk X.prog X.w X.K X.mg X.base CX n f fd ps sp) (hb : Binds X.K fd ps []) (hx : Passes CX X E) (hr : Room n X.A)
    (hs : PySem.W.findIn X.K (.ref C) "__eq__" = some (some (.ref f))) (hf : PySem.W.isFn X.K (.ref f) = true) : OpR X (compareOp .Eq) (rOwnEq C sp E) := by
  intro pins s σ H x y v u Q I rx ry h
  obtain ⟨a, b, dx, dy, fs, gs, rfl, rfl, ha, hb', q⟩ := h
  cases rx
  cases ry
  obtain ⟨mA, J, _⟩ := ins_get I.hok ha
  obtain ⟨mB, J', _⟩ := ins_get I.hok hb'
  obtain ⟨od, J, _⟩ := J.look
  obtain ⟨od', J', _⟩ := J'.look
  obtain ⟨m, hF⟩ := I.fr
  show wpAny (model X.prog X.w) X.A (richCompare .Eq (.ref a) (.ref b)) (EP X pins σ Q) X.xe s
  refine PySem.W.cmp_K (op := .Eq) (tb := .ref C) hr.units0 hF I.ok.mod.kin J J'.type (by simp [PySem.W.notFirst]) hs hf ?_
  exact wpAny_mono (call_at G0 hb hx hr rfl I (vs := [.ref a, .ref b]) (.cons rfl (.cons rfl .nil)) q) (fun v s' z => cmpBack_of z) fun _ _ z => z
end
end My
set_option maxRecDepth 100000
namespace My
open PySem PySem.Spec PyProof.Rows L2
open ClX (CRead)
section
variable {X : Cx} {CX : CXT} {n k : Nat} {f C : Addr} {fd : FuncData} {ps : List Str} {sp : Sp} {E : XK}
/-- str(x) of an instance with its own __str__ -/
theorem call_strOwn (G0 : FnOk X.prog X.w X.K X.mg X.base CX n f fd ps sp) (hb : Binds X.K fd ps []) (hx : Passes CX X E) (hr : Room (n + 2) X.A)
    (hs : PySem.W.findIn X.K (.ref C) "__str__" = some (some (.ref f))) (hf : PySem.W.isFn X.K (.ref f) = true) :
    CallR X (.type "str") (fun xs H Q => ∃ a dx fs, xs = [V.ref a] ∧ H a = some (.ins C dx fs) ∧ sp [.ref a] H (fun v H' => ∃ z, v = .str z ∧ Q v H') E) := by
  intro pins s σ H xs us Q I r h
  obtain ⟨a, dx, fs, rfl, ha, q⟩ := h
  obtain ⟨u, rfl, r1⟩ := vals1 r
  cases r1
  obtain ⟨mA, J, _⟩ := ins_get I.hok ha
  obtain ⟨od, J, _⟩ := J.look
  refine PySem.W.kso_call (hr.in1.in1.units0) I.kIn J hs hf ?_
  refine wpAny_mono (call_at G0 hb hx (A := X.A.in1.in1) hr.in1.in1 rfl I (vs := [.ref a]) (.cons rfl .nil) q) (fun v s' z => ?_) fun _ _ z => z
  obtain ⟨x, H', I', r, y, rfl, q'⟩ := z
  obtain ⟨t, rfl⟩ := r
  exact ⟨.str y, H', I', ⟨_, rfl⟩, q'⟩
/-- C.m is a staticmethod: its record at p, its def at g -/
structure SMet (K : PySem.W.Frag) (C : Addr) (mc : Value) (m : Str) (p g : Addr) : Prop where
  at_ : PySem.W.findCls K (.ref C) mc m = some (.get (.builtin "staticmethod.__get__") (.ref p) .none (.ref C))
  rc : ∃ rest, PySem.W.recIn K p "staticmethod" = some (.ref g :: rest)
  kp : PySem.W.keepIn K (.ref g) = true
theorem getmethsm_ok {pins : List (Addr × Obj)} {σ : L2.St} {H : Hp} {s : Shared} {p g : Addr} {mc : Value} {m : Str} {A : Around} {E : Value → Shared → Prop} {pl : Sem Bool} {Q : Value × List Value → Shared → Prop} (I : Inv X pins σ H s) (r : CRead X.K C mc) (k : SMet X.K C mc m p g)
    (h : ∀ s', Inv X pins σ H s' → Q (.ref g, []) s') : wpAny (model X.prog X.w) A (getMethod (.ref C) m pl) Q E s := by
  refine PySem.W.method_cls I.kIn r.ga ?_
  obtain ⟨rest, hp⟩ := k.rc
  refine PySem.W.cls_bind I.kIn r.rd k.at_ ?_
  refine wpAny_call (PySem.W.sm_get (s := { s with toks := s.toks + 1 }) I.kIn hp (PySem.W.handed_on rfl ?_))
  exact h _ (I.tok _)
/-- C.m(e, ..), m a staticmethod of the class at C -/
def tSMeth (C : Addr) (sp : Sp) (dvs : List V) (E : XK) (ta : TE) (t : TA) : TE := fun σ H Q => ta σ H fun x H1 => x = .ref C ∧ t σ H1 fun vs H2 => sp (vs ++ dvs) H2 Q E
theorem pe_smeth {o e : Expr} {es : List Expr} {p g : Addr} {mc : Value} {m : Str} {pos apos : Pos} {ta : TE} {t : TA} {pl : Sem Bool} {ds : List Value} {dvs : List V} (he : PE X o ta) (r : CRead X.K C mc) (c : SMet X.K C mc m p g)
    (G0 : FnOk X.prog X.w X.K X.mg X.base CX k g fd ps sp) (hr : Room k X.A) (hb : Binds X.K fd ps ds) (hd : Vals dvs ds) (hx : Passes CX X E) (ha : PA X (e :: es) t)
    (hst : starEach (e :: es) X.env = (false, eval e X.env) :: starEach es X.env := by rfl) (hpl : (backTo pos (starEach es X.env)).any (·.1) = false := by rfl)
    (ht : eval (.Call (.Attribute o m apos) (e :: es) [] pos) X.env = (do
      let ov ← eval o X.env
      standAt apos.atName
      let (f, first) ← holding [ov] (getMethod ov m pl)
      callWith pos f first (backTo pos (starEach (e :: es) X.env)) (backToKw pos (keywordEach [] X.env))) := by rfl) :
    PE X (.Call (.Attribute o m apos) (e :: es) [] pos) (tSMeth C sp dvs E ta t) := by
  refine ⟨fun pins s σ H Q I h => ?_⟩
  refine PySem.W.methodCall_KW (pl := pl) (thn (he.run pins s σ H _ I h) fun u s1 ⟨x, H1, I1, rx, ex, q⟩ => ?_) ht
  subst ex
  obtain rfl : u = Value.ref C := rx
  refine getmethsm_ok I1 r c fun s2 I2 => ?_
  refine PySem.W.callWith_K (h₀ := X.base) I2.ok.mod.kin c.kp (thn (ha.run pos pins s2 σ H1 _ I2 q) fun us s3 ⟨vs, H2, I3, r3, q3⟩ => ⟨I3.kIn, ?_⟩) hst hpl
  exact run_fn G0 hr hb hd hx I3 r3 q3
/-- C(e, ..) where what its __init__ raises is wished for -/
def tMakeS (C : Addr) (sp : Sp) (E : L2.St → XK) (t : TA) : TE := fun σ H Q => t σ H fun vs H1 => ∀ x dx, H1 x = none → H1 dx = none → dx ≠ x →
  sp (.ref x :: vs) (upd (upd H1 dx (.own x)) x (.ins C dx [])) (fun v H2 => v = .non ∧ Q (.ref x) H2) (E σ)
theorem run_makeS {E : L2.St → XK} {pins : List (Addr × Obj)} {σ : L2.St} {H : Hp} {s : Shared} {Q : VK} {us : List Value} {vs : List V} (M : Mk X.K C f) (G0 : FnOk X.prog X.w X.K X.mg X.base CX k f fd ps sp) (hr : Room (k + 1) X.A) (hb : Binds X.K fd ps [])
    (hx : PassesAt CX X σ (E σ)) (I : Inv X pins σ H s) (r : Vals vs us)
    (h : ∀ x dx, H x = none → H dx = none → dx ≠ x → sp (.ref x :: vs) (upd (upd H dx (.own x)) x (.ins C dx [])) (fun v H2 => v = .non ∧ Q (.ref x) H2) (E σ)) :
    wpAny (model X.prog X.w) X.A (call (.ref C) us) (EP X pins σ Q) X.xe s := by
  have hq := h (s.heap.objs.size + 1) s.heap.objs.size (I.hok.fresh (Nat.le_succ _)) (I.hok.fresh (Nat.le_refl _)) (Nat.ne_of_lt (Nat.lt_succ_self _))
  have I2 := Inv.made (C := C) I
  have r2 : Vals (V.ref (s.heap.objs.size + 1) :: vs) (Value.ref (s.heap.objs.size + 1) :: us) := .cons rfl r
  have hl : (Value.ref (s.heap.objs.size + 1) :: us).length = ps.length := by
    have e := r2.length
    rw [G0.len _ _ _ _ hq] at e
    exact e.symm
  have b := hb _ (Value.ref (s.heap.objs.size + 1) :: us) I2.kIn (by rw [List.append_nil]; exact hl)
  rw [List.append_nil] at b
  refine wpAny_call (make_map (f := f) I.kIn M.makes M.init (beq_iff_eq.mp M.fn) (codeAny_mono (G0.run _ X.stack _ _ ⟨Value.ref (s.heap.objs.size + 1) :: us, []⟩ (Value.ref (s.heap.objs.size + 1) :: us) _ _ (E σ) (hr.make C us [])
    (I2.env0.make C us []) b r2 hq) fun r s' hq' => ?_))
  cases r with
  | error e => exact hx pins _ _ e s' I2 hq'
  | ok fl =>
    cases fl with
    | ret u =>
      obtain ⟨v, H', I3, rv, ev, q3⟩ := I2.after hq'
      subst ev
      exact ⟨rv, ⟨V.ref (s.heap.objs.size + 1), H', I3, rfl, q3⟩⟩
    | next => exact False.elim hq'
    | brk => exact False.elim hq'
    | cont => exact False.elim hq'
theorem pe_makeS {E : L2.St → XK} {x : Str} {p pos : Pos} {e : Expr} {es : List Expr} {t : TA} (M : Mk X.K C f) (G0 : FnOk X.prog X.w X.K X.mg X.base CX k f fd ps sp) (hr : Room (k + 1) X.A) (hg : Gl X x) (hm : X.mg x = some (.ref C)) (hb : Binds X.K fd ps []) (hx : ∀ σ, PassesAt CX X σ (E σ))
    (ha : PA X (e :: es) t) (hdb : (x == ("__debug__" : Str)) = false := by decide) (he : starEach (e :: es) X.env = (false, eval e X.env) :: starEach es X.env := by rfl) (hpl : (backTo pos (starEach es X.env)).any (·.1) = false := by rfl) :
    PE X (.Call (.Name x p) (e :: es) [] pos) (tMakeS C sp E t) := by
  refine ⟨fun pins s σ H Q I h => ?_⟩
  refine wpAny_Call_Name_kw (ld_glob I hg hm ?_ hdb)
  refine PySem.W.callWith_K (h₀ := X.base) I.ok.mod.kin M.kp (thn (ha.run pos pins s σ H _ I h) fun us s1 ⟨vs, H1, I1, r, q⟩ => ⟨I1.kIn, ?_⟩) he hpl
  exact run_makeS M G0 hr hb (hx σ) I1 r q
end
/-- isinstance(e, c) in an except suite of any error -/
theorem call_isEx {X : Cx} {a : Addr} {oe : Obj} {cls : Value} {d : Option Addr} {pn : List (Addr × Obj)} (hz : Zc cls d oe) (hf : ∃ vs, oe.data = .fields vs) :
    CallR (X.suite a ((a, oe) :: pn)) (.builtin "isinstance") (fun xs H Q => ∃ D, cls = .ref D ∧ d = none ∧ ExcC X.K D ∧ rIsE X.K D a xs H Q) := by
  intro pins s σ H xs us Q I r h
  obtain ⟨D, rfl, rfl, c, q⟩ := h
  exact call_isE c hz hf pins s σ H xs us Q I r q
/-- an own class against an own class, against a built-in one -/
theorem kit_own {K : PySem.W.Frag} {C D : Addr} {b : Bool} (hi : PySem.W.isClsIn K D = true) (ht : PySem.W.typeIn K (.ref D) = some (.type "type")) (hs : PySem.W.subIn K (.ref C) (.ref D) = some b) (hne : C ≠ D ∨ b = true) : PySem.W.kitOne K (.ref C) (.ref D) = some b := by
  unfold PySem.W.kitOne
  by_cases e : C = D
  · rcases hne with h | h
    · exact absurd e h
    · rw [if_pos (by rw [e]; simp), h]
  · rw [if_neg (by simp [e])]
    show (if ((PySem.W.clsIn K D).isSome && PySem.W.typeIn K (.ref D) == some (.type "type")) = true then _ else _) = _
    rw [if_pos (by
      rw [ht]
      have : (PySem.W.clsIn K D).isSome = true := hi
      rw [this]; simp)]
    exact hs
theorem kit_ownT {K : PySem.W.Frag} {C : Addr} {T : String} {b : Bool} (hm : PySem.W.kitMeta T = true) (hs : PySem.W.subIn K (.ref C) (.type T) = some b) : PySem.W.kitOne K (.ref C) (.type T) = some b := by
  unfold PySem.W.kitOne PySem.W.kitCls
  rw [if_neg (by simp)]
  show (if PySem.W.kitMeta T = true then _ else _) = _
  rw [if_pos hm]
  exact hs
end My
set_option maxRecDepth 100000
set_option maxHeartbeats 1000000
/-! own exceptions whose __init__ says super().__init__(text) and then stores its fields -/
namespace My
open PySem PySem.Spec PyProof.Rows L2
/-- the names of such a def: its parameters are local, nothing is a cell, __class__ alone is free -/
structure SupScope (N ps : List Str) (sc : Scope) : Prop where
  kind : sc.kind = .function
  co : sc.isCoroutine = false
  gen : sc.isGenerator = false
  nd : ps.Nodup
  eqN : N = ps
  par : ∀ x ∈ ps, sc.names.lookup x = some .local
  nocell : ∀ y ∈ sc.names, y.2 ≠ .cell
  free : ∀ y ∈ sc.names, y.2 = .free → y.1 = "__class__"
  ks : sc.names.lookup ("super" : Str) = some .globalImplicit
  kc : sc.names.lookup ("__class__" : Str) = some .free
/-- the context of its body -/
def cxSup (CX : CXT) (P : Program) (w : World) (K : PySem.W.Frag) (mg : Str → Option Value) (base : Heap) (N : List Str) (qual : Str) (scope : Scope) (f : Addr) (cd : Value) (cc : Addr) (A : Around) (outer : List Env) (s : Shared) (H : Hp) (E : XK) : Cx where
  prog := P
  w := w
  K := K
  mg := mg
  base := base
  A := A.deeper (PySem.W.ksEnv qual scope s.heap.objs.size f cd cc)
  N := N
  s_0 := s
  H_0 := H
  env := PySem.W.ksEnv qual scope s.heap.objs.size f cd cc
  outer := outer
  stack := PySem.W.ksEnv qual scope s.heap.objs.size f cd cc :: outer
  ex := []
  calm := true
  fn := fun _ => false
  pn := []
  xe := fun e s' => wpAny (model P w) (A.deeper (PySem.W.ksEnv qual scope s.heap.objs.size f cd cc)) (leaving (PySem.W.ksEnv qual scope s.heap.objs.size f cd cc) e) (fun _ s'' => CX outer H s E e s'') (fun e' s'' => CX outer H s E e' s'') s'
theorem lookup_of_mem {l : List (Str × Value)} {y : Str} {u : Value} (nd : (l.map (·.1)).Nodup) (h : (y, u) ∈ l) : l.lookup y = some u := by
  induction l with
  | nil => cases h
  | cons p r ih =>
    obtain ⟨z, v⟩ := p
    rw [List.map_cons, List.nodup_cons] at nd
    rcases List.mem_cons.mp h with e | e
    · cases e; simp [List.lookup]
    · have hne : y ≠ z := fun q => nd.1 (by rw [← q]; exact List.mem_map.mpr ⟨_, e, rfl⟩)
      have : (y == z) = false := by simpa using hne
      simp only [List.lookup, this]
      exact ih nd.2 e
theorem map_fst_zip_sub : ∀ (ps : List Str) (us : List Value), ((ps.zip us).map (·.1)).Sublist ps
  | [], _ => by simp
  | _ :: _, [] => by simp
  | p :: ps, u :: us => by simpa using map_fst_zip_sub ps us
theorem nd_rev {l : List Str} (h : l.Nodup) : l.reverse.Nodup := by
  induction l with
  | nil => simp
  | cons a t ih =>
    rw [List.nodup_cons] at h
    rw [List.reverse_cons, List.nodup_append]
    exact ⟨ih h.2, by simp, fun x hx y hy e => h.1 (by simp at hy; rw [← hy, ← e]; simpa using hx)⟩
theorem zip_lookup {ps : List Str} {us : List Value} {i : Nat} {y : Str} {u : Value} (nd : ps.Nodup) (h1 : ps[i]? = some y) (h2 : us[i]? = some u) : (ps.zip us).reverse.lookup y = some u := by
  refine lookup_of_mem ?_ ?_
  · rw [List.map_reverse]
    have : ((ps.zip us).map (·.1)).Nodup := by
      exact nd.sublist (map_fst_zip_sub ps us)
    exact nd_rev this
  · rw [List.mem_reverse]
    have : (ps.zip us)[i]? = some (y, u) := by rw [List.getElem?_zip_eq_some]; exact ⟨h1, h2⟩
    exact List.mem_of_getElem? this
section
variable {CX : CXT} {P : Program} {w : World} {K : PySem.W.Frag} {mg : Str → Option Value} {base : Heap} {N ps : List Str} {qual : Str} {scope : Scope} {f cc : Addr} {cd : Value} {A : Around} {outer : List Env} {s : Shared} {H : Hp} {E : XK}
theorem env_cells {x : Str} {c : Addr} {L : Addr} (h : (PySem.W.ksEnv qual scope L f cd cc).cells.lookup x = some c) : x = "__class__" ∧ c = cc := by
  have h' : ([(("__class__" : Str), cc)] : List (Str × Addr)).lookup x = some c := h
  by_cases e : x = "__class__"
  · subst e
    simp [List.lookup] at h'
    exact ⟨rfl, h'.symm⟩
  · have : (x == ("__class__" : Str)) = false := by simpa using e
    simp [List.lookup, this] at h'
theorem inv_sup {us : List Value} {vs : List V} {h1 : Heap} {t : Nat} {cl : Value} {cld : Option Addr} {cv : Option Value} {csl : Array (Option Value)} (S : SupScope N ps scope) (hd : A.handled = none) (e0 : Env0 P w K mg base A outer s H) (hl : vs.length = ps.length) (r : Vals vs us)
    (hcell : K.lookup cc = some ⟨cl, cld, .cell cv, csl⟩)
    (hns : h1.Ns s.heap.objs.size (fun x => (ps.zip us).reverse.lookup x)) (hk : ∀ b o, s.heap.get? b = some o → h1.get? b = some o) :
    Inv (cxSup CX P w K mg base N qual scope f cd cc A outer s H E) [] (L2.start N vs) H { s with heap := h1, toks := t } := by
  have noA : ∀ b : Addr, b ∉ (cxSup CX P w K mg base N qual scope f cd cc A outer s H E).ex := fun b z => absurd (show b ∈ ([] : List Addr) from z) (by simp)
  have hcb := e0.mod.kin _ _ hcell
  refine ⟨⟨e0.mod, S.kind, rfl, rfl, Nat.le_refl _, fun y z c h1 h2 => (env_cells h1).1.trans (env_cells h2).1.symm, fun y hy => ?_, fun y c h _ => absurd h Bool.false_ne_true, fun _ => hd, Around.frames_deeper e0.frames, .inr ⟨rfl, rfl⟩, fun b z => absurd z (noA b), e0.bs, e0.bsz, fun b _ _ => noA b, fun b z => absurd z (noA b), e0.funs, e0.frf⟩,
    rfl, e0.bare, Un.kept hk, ⟨_, hns, fun i y v h1 h2 h3 => ?_⟩, fun y c h => ?_, e0.hok.fresh (Nat.le_refl _), fun y c h => ?_, fun p hp => absurd (show p ∈ ([] : List (Addr × Obj)) from hp) (by simp), e0.hok.kept hk, ?_⟩
  · have hy : scope.names.lookup y = some .cell ∨ scope.names.lookup y = some .free := hy
    rcases hy with hy | hy
    · exact absurd rfl (S.nocell _ (PySem.mem_of_lookup hy))
    · have e := S.free _ (PySem.mem_of_lookup hy) rfl
      refine ⟨cc, ?_⟩
      show ([(("__class__" : Str), cc)] : List (Str × Addr)).lookup y = some cc
      have e' : y = "__class__" := e
      rw [e']
      simp [List.lookup]
  · have hlen : N.length = vs.length := by rw [S.eqN, hl]
    have e2 : L2.start N vs = vs.map some := by unfold L2.start; rw [hlen, Nat.sub_self]; simp
    rw [e2, List.getElem?_map] at h2
    cases ea : vs[i]? with
    | none => rw [ea] at h2; cases h2
    | some a =>
      rw [ea] at h2
      cases h2
      obtain ⟨u, hu, rv⟩ := r.get ea
      have hp : ps[i]? = some y := by rw [← S.eqN]; exact h1
      exact ⟨u, rv, .inl ⟨S.par y (List.mem_of_getElem? hp), zip_lookup S.nd hp hu⟩⟩
  · obtain ⟨rfl, rfl⟩ := env_cells h
    exact ⟨cv, _, hk _ _ (e0.bs _ _ hcb).1, rfl⟩
  · obtain ⟨rfl, rfl⟩ := env_cells h
    exact (e0.bs _ _ hcb).2
  · unfold L2.start
    show _ = N.length
    rw [List.length_append, List.length_map, List.length_replicate, S.eqN]
    omega
end
open PySem.W (ksFn ksEnv)
/-- what the written part says of such a class -/
structure SupCls (P : Program) (K : PySem.W.Frag) (mg : Str → Option Value) (C : Addr) : Prop where
  cd : ∃ cd, PySem.W.clsIn K C = some cd
  mro : PySem.W.mroIn K C (.ref C) = some true
  sup : PySem.W.ks_superIn K C C "__init__" = some (some (.builtin "ValueError.__init__"))
  opq : PySem.W.nsIn K PySem.cStatics "thirdparty.any" = some none
  ve : PySem.W.subIn K (.ref C) (.type "ValueError") = some true
  mgs : mg "super" = none
  top : (P.main.scope.names.lookup ("super" : Str)).isSome = false
  ox : OexC K C
/-- and of its __init__ -/
structure SupFn (P : Program) (K : PySem.W.Frag) (st : Stmt) (qual : Str) (C f : Addr) (fd : FuncData) : Prop where
  ex : ∃ (oc : Value) (od : Option Addr) (kV doc pm : Value) (an : Option Addr) (cda : Addr) (ct : Value) (cc : Addr) (sl : Array (Option Value)),
    fd = ksFn "__init__" qual (defArgs st) (defBody st) (defScope st) .none kV doc pm an (.ref cda) ct cc ∧ K.lookup f = some ⟨oc, od, .func fd, sl⟩ ∧ PySem.W.codeIn K (.ref cda) qual = true ∧
    (∃ (a : Value) (b : Option Addr) (vs : Array Value) (d : Array (Option Value)) (file : Str) (tf : Tok), K.lookup cda = some ⟨a, b, .fields vs, d⟩ ∧ vs[2]? = some (.str file tf) ∧ ((P.main.file : Str) == file) = true) ∧
    ∃ (a : Value) (b : Option Addr) (d : Array (Option Value)), K.lookup cc = some ⟨a, b, .cell (some (.ref C)), d⟩
section
variable {CX : CXT} {P : Program} {w : World} {K : PySem.W.Frag} {mg : Str → Option Value} {base : Heap} {N ps : List Str} {qual : Str} {scope : Scope} {f cc cda C a : Addr} {A : Around} {outer : List Env} {s0 : Shared} {H0 : Hp} {E : XK}
variable {oc : Value} {od : Option Addr} {fd : FuncData} {sl : Array (Option Value)} {vs : Array Value} {file : Str} {tf : Tok}
theorem mw_call {X : Cx} {pins : List (Addr × Obj)} {σ : L2.St} {H : Hp} {s : Shared} {u : Addr} {us : List Value} {Q : Value → Shared → Prop} {B : Around} {EE : Value → Shared → Prop} (T : OexC X.K C) (I : Inv X ((u, PySem.W.kxs_mw "ValueError.__init__" a) :: pins) σ H s)
    (ea : H a = some (exo a C none)) (hz : us.length ≤ sizeLine) (q : ∀ s', Inv X ((u, PySem.W.kxs_mw "ValueError.__init__" a) :: pins) σ H s' → Q .none s') :
    wpAny (model X.prog X.w) B (call (.ref u) us) Q EE s := by
  obtain ⟨nm, q0, N0, bs, bm, sn, sub, ab, col, dd, k0, k1, k2, k3, k5, hC, hbm⟩ := T.cls
  obtain ⟨t1, ho⟩ := exo_at I.hok ea
  have hu := ClX.pin_at I
  have KX := I.kIn
  have eu : upd H a (exo a C none) = H := by
    funext b
    by_cases hb : b = a
    · rw [hb, upd_same, ea]
    · rw [upd_ne hb]
  have T1 : (Value.type "method-wrapper" == Value.type "method" || Value.type "method-wrapper" == Value.type "builtin_function_or_method" || Value.type "method-wrapper" == Value.type "method-wrapper") = true := by decide
  obtain ⟨hp, g, d, t, os⟩ := s
  refine wpAny_call (codeAny_of_tree ?_)
  show wpAny _ _ (callAny (.ref u) ⟨us, []⟩) _ _ _
  unfold callAny
  refine wpAny_bind (wpAny_load hu ?_)
  simp only [PySem.W.kxs_mw, T1, if_true]
  refine PySem.W.KFB.if_so (by decide) ?_
  refine wpAny_bind (PySem.W.check_bound_init F.excBase_ValueError.toExcCallFacts (KX _ _ hC) ho rfl ?_)
  refine wpAny_bind (wpAny_pure (wpAny_pure ⟨PySem.plainId_quiet F.excBase_ValueError.init.plain _, codeAny_builtin F.excBase_ValueError.initEntry ?_⟩))
  refine PySem.W.exc_init_tree (cls := .ref C) (t0 := t1) (dv := none) (c2 := .none) (c3 := .none) (b4 := .bool false) ho hz fun h' k e1 _ => ?_
  have J := I.write (t' := t) (x := a) (e := a) (o := exo a C none) (by rw [ea]; exact True.intro) (.inl rfl) k ⟨_, e1⟩ (exo_ok e1)
  rw [eu] at J
  exact q _ J

/-- super().__init__(e, ..) at the head of the body -/
theorem sup_run {an : Option Addr} {kV doc pm ct : Value} {body : List Stmt} {args : Arguments} {σ : L2.St} {H : Hp} {s : Shared} {ta : TA} {e : Expr} {es : List Expr} {p0 p1 p2 p3 p4 : Pos} {ar : Arg} {Q : Flow → Shared → Prop}
    (S : SupScope N ps scope) (D : SupCls P K mg C)
    (lk : K.lookup f = some ⟨oc, od, .func (ksFn "__init__" qual args body scope .none kV doc pm an (.ref cda) ct cc), sl⟩) (har : (args.posonlyargs ++ args.args).head? = some ar)
    (lc : ∃ (a : Value) (b : Option Addr) (vs : Array Value) (d : Array (Option Value)) (file : Str) (tf : Tok), K.lookup cda = some ⟨a, b, .fields vs, d⟩ ∧ vs[2]? = some (.str file tf) ∧ ((P.main.file : Str) == file) = true)
    (lq : ∃ (a : Value) (b : Option Addr) (d : Array (Option Value)), K.lookup cc = some ⟨a, b, .cell (some (.ref C)), d⟩)
    (I : Inv (cxSup CX P w K mg base N qual scope f (.ref cda) cc A outer s0 H0 E) [] σ H s) (h0 : σ[0]? = some (some (.ref a))) (hN : N[0]? = some ar.arg) (hloc : scope.names.lookup ar.arg = some .local)
    (ea : H a = some (exo a C none)) (hes : PA (cxSup CX P w K mg base N qual scope f (.ref cda) cc A outer s0 H0 E) (e :: es) ta)
    {R : Hp → Prop} (q : ta σ H fun us H1 => us.length ≤ 1000 ∧ H1 a = some (exo a C none) ∧ R H1)
    (cont : ∀ H1 s', R H1 → Inv (cxSup CX P w K mg base N qual scope f (.ref cda) cc A outer s0 H0 E) [] σ H1 s' → Q .next s')
    (he : starEach (e :: es) (ksEnv qual scope s0.heap.objs.size f (.ref cda) cc) = (false, eval e (ksEnv qual scope s0.heap.objs.size f (.ref cda) cc)) :: starEach es (ksEnv qual scope s0.heap.objs.size f (.ref cda) cc))
    (hpl : (backTo p3 (starEach es (ksEnv qual scope s0.heap.objs.size f (.ref cda) cc))).any (·.1) = false) 
    (hsw : swapsWith (.Call (.Attribute (.Call (.Name "super" p0) [] [] p1) "__init__" p2) (e :: es) [] p3) none p4.line (ksEnv qual scope s0.heap.objs.size f (.ref cda) cc) = pure false)
    {pl : Sem Bool} (hcall : eval (.Call (.Attribute (.Call (.Name "super" p0) [] [] p1) "__init__" p2) (e :: es) [] p3) (ksEnv qual scope s0.heap.objs.size f (.ref cda) cc) = (do
      let ov ← attributeBase (.Call (.Name "super" p0) [] [] p1) "__init__" (ksEnv qual scope s0.heap.objs.size f (.ref cda) cc) (eval (.Call (.Name "super" p0) [] [] p1) (ksEnv qual scope s0.heap.objs.size f (.ref cda) cc))
      standAt p2.atName
      let (fx, first) ← holding [ov] (getMethod ov "__init__" pl)
      callWith p3 fx first (backTo p3 (starEach (e :: es) (ksEnv qual scope s0.heap.objs.size f (.ref cda) cc))) []))
    (B : List Stmt) :
    PySem.wpAt (model P w) (A.deeper (ksEnv qual scope s0.heap.objs.size f (.ref cda) cc)) (.func B (ksEnv qual scope s0.heap.objs.size f (.ref cda) cc))
      (exec (.Expr (.Call (.Attribute (.Call (.Name "super" p0) [] [] p1) "__init__" p2) (e :: es) [] p3) p4) (ksEnv qual scope s0.heap.objs.size f (.ref cda) cc)) Q (cxSup CX P w K mg base N qual scope f (.ref cda) cc A outer s0 H0 E).xe s := by
  have KX : K.In s.heap := I.kIn
  obtain ⟨t1, hoe⟩ := exo_at I.hok ea
  obtain ⟨m, hn, hl⟩ := I.loc
  obtain ⟨u, ru, look⟩ := hl 0 ar.arg (.ref a) hN h0 (Or.inl hloc)
  obtain rfl : u = Value.ref a := ru
  have hm : m ar.arg = some (.ref a) := by
    rcases look with z | ⟨z, _⟩
    · exact z.2
    · have z : scope.names.lookup ar.arg = some .cell ∨ scope.names.lookup ar.arg = some .free := z
      rw [hloc] at z
      rcases z with z | z <;> cases z
  obtain ⟨c1, c2, vs, c3, file, tf, hcode, hvs, hfile⟩ := lc
  obtain ⟨c4, c5, c6, hcell⟩ := lq
  obtain ⟨cd, hcd⟩ := D.cd
  obtain ⟨mb, hb1, hb2⟩ := I.mod.blt
  obtain ⟨oD, hD1, hD2⟩ : ∃ oD, s.heap.get? C = some oD ∧ oD.data = .cls cd := by
    unfold PySem.W.clsIn at hcd
    split at hcd
    · rename_i ho
      cases hcd
      exact ⟨_, KX _ _ ho, rfl⟩
    · cases hcd
  obtain ⟨hh, g, d, t, os⟩ := s
  refine ks_wpAt_Expr_any ?_ I.quiet hsw
  refine ks_wpAt_MethodCall (he := hcall) ?_
  refine ks_wpAt_super_base (ar := ar) S.ks S.kc rfl rfl (KX _ _ lk) rfl har rfl (KX _ _ hcode) rfl hvs hfile D.top ?_
  refine PySem.W.ks_loadName_global S.kind S.ks (Calls.loadGlobal_builtin (I.mod.glob.keeps I.bk) D.mgs (hb1.keeps I.bk) ((hb2 _ (by decide)).trans PyProof.Rows.Boot.«super») ⟨rfl, ?_⟩)
  refine wpAny_loadName_free S.kind S.kc rfl ⟨_, KX _ _ hcell, rfl⟩ ?_
  refine wpAny_loadName_local S.kind hloc hn hm ?_
  refine ks_wpAny_isType_cls hD1 hD2 ⟨rfl, ?_⟩
  refine ks_wpAny_call_super hD1 hD2 hoe rfl (fun c z => by cases z) (PySem.W.looks_mroIn KX D.mro) (fun h' e1 k => ?_)
  have I1 := ClX.pin_new (t' := t) I k (Nat.le_refl _) e1 (fun v z => by cases z)
  have KX1 : K.In h' := I1.kIn
  have hca : a ≠ C := fun z => by
    subst z
    rw [hoe] at hD1
    cases hD1
    cases hD2
  have hsI : PySem.W.Looks (model P w) h' (isInstance (.ref a) (.type "ValueError")) true := by
    have II : PySem.W.InstAt h' a _ C none := ⟨k _ _ hoe, rfl, rfl, trivial⟩
    exact II.type.andThen (PySem.W.looks_subIn KX1 D.ve)
  have hsup := D.sup
  unfold PySem.W.ks_superIn at hsup
  rw [hcd] at hsup
  refine PySem.W.kxs_getMethod PySem.W.kxs_ValueError e1 (PySem.W.looks_opaque KX1 D.opq) (l₀ := cd.mro) (fun A Q E s k q => wpAny_bind ((PySem.W.looks_clsIn KX1 hcd) A _ E s k (wpAny_pure q))) rfl KX1 hsup hsI hca rfl ?_
  have I2 := ClX.pin_new (t' := t + 1) I1 (h' := h'.push (PySem.W.kxs_mw "ValueError.__init__" a)) (o := PySem.W.kxs_mw "ValueError.__init__" a) (fun b o z => Heap.get?_push_of_some _ z) (Nat.le_refl _) (Heap.get?_push_at rfl rfl) (fun v z => by cases z)
  dsimp only
  rw [he]
  refine PySem.W.kxs_callWith (i := "ValueError.__init__") (x := a) (by show (false || (backTo p3 (starEach es _)).any (·.1)) = false; rw [hpl]; rfl) (Calls.evalArgs_plain ?_)
  have run := hes.run p3 _ _ σ H _ I2 q
  rw [show starEach (e :: es) (cxSup CX P w K mg base N qual scope f (.ref cda) cc A outer s0 H0 E).env = _ from he] at run
  refine thn run fun us s1 ⟨xs, H1, I3, r1, hz, ea1, q1⟩ => ⟨ClX.pin_at I3, ?_⟩
  have hlen : us.length ≤ sizeLine := by
    rw [← Paired.length r1, sizeLine_eq]
    omega
  exact mw_call D.ox I3 ea1 hlen fun s' J => cont _ s' q1 (ClX.unpin (ClX.unpin J))

/-- such an __init__, by what it says behind super() -/
theorem sup_ok {st : Stmt} {fd : FuncData} {k : Nat} {sp : Sp} {body : List Stmt} {e : Expr} {p0 p1 p2 p3 p4 : Pos} {ar : Arg} {pl : Sem Bool} (F : SupFn P K st qual C f fd) (S : SupScope N ps (defScope st)) (D : SupCls P K mg C)
    (hb : defBody st = .Expr (.Call (.Attribute (.Call (.Name "super" p0) [] [] p1) "__init__" p2) [e] [] p3) p4 :: body) (har : ((defArgs st).posonlyargs ++ (defArgs st).args).head? = some ar) (hN : N[0]? = some ar.arg)
    (he : ∀ env : Env, starEach [e] env = [(false, eval e env)])
    (hsw : ∀ env : Env, swapsWith (.Call (.Attribute (.Call (.Name "super" p0) [] [] p1) "__init__" p2) [e] [] p3) none p4.line env = pure false)
    (hcall : ∀ env : Env, eval (.Call (.Attribute (.Call (.Name "super" p0) [] [] p1) "__init__" p2) [e] [] p3) env = (do
      let ov ← attributeBase (.Call (.Name "super" p0) [] [] p1) "__init__" env (eval (.Call (.Name "super" p0) [] [] p1) env)
      standAt p2.atName
      let (fx, first) ← holding [ov] (getMethod ov "__init__" pl)
      callWith p3 fx first (backTo p3 (starEach [e] env)) []))
    (len : ∀ vs H Q E, sp vs H Q E → vs.length = ps.length)
    (hbody : ∀ (cda : Value) (cc : Addr) (A : Around) (outer : List Env) (s : Shared) (H : Hp) (vs : List V) (Q : VK) (E : XK), Room k (A.deeper (ksEnv qual (defScope st) s.heap.objs.size f cda cc)) → sp vs H Q E →
      ∃ (a : Addr) (te : TE) (t : TS), vs[0]? = some (.ref a) ∧ H a = some (exo a C none) ∧ PE (cxSup CX P w K mg base N qual (defScope st) f cda cc A outer s H E) e te ∧ PSs (cxSup CX P w K mg base N qual (defScope st) f cda cc A outer s H E) body t ∧
        te (L2.start N vs) H fun x H1 => [x].length ≤ 1000 ∧ H1 a = some (exo a C none) ∧ t { nx := fun _ H' => Q .non H', rt := Q } (L2.start N vs) H1) : FnOk P w K mg base CX (k + 1) f fd ps sp := by
  obtain ⟨oc, od, kV, doc, pm, an, cda, ct, cc, sl, rfl, lk, hcd, lc, lq⟩ := F.ex
  refine ⟨len, fun A outer s H args us vs Q E hr e0 hbi r hsp => ?_⟩
  have hl := len _ _ _ _ hsp
  have KX : K.In s.heap := e0.mod.kin.keeps fun b o e => (e0.bs b o e).1
  have lim : s.heap.NoLimit := e0.mod.nolimit.keeps fun b o e => (e0.bs b o e).1
  obtain ⟨c4, c5, c6, hcell⟩ := lq
  refine ks_codeAny_call_defAt (body := defBody st) hr.depth (KX _ _ lk) rfl lim (PySem.W.codeRec_of KX hcd) rfl hbi S.nocell (fun ⟨n, v⟩ hy => S.par n (List.of_mem_zip hy).1) (fun h1 hns hk => ?_) S.co S.gen S.kind
  obtain ⟨a, te, t, hv, ea, pe, pss, q⟩ := hbody (.ref cda) cc A outer s H vs Q E (hr.deeper _) hsp
  have I : Inv (cxSup CX P w K mg base N qual (defScope st) f (.ref cda) cc A outer s H E) [] (L2.start N vs) H _ := inv_sup (t := s.toks + (ps.zip us).length) S hr.hd e0 hl r hcell hns hk
  have fin : ∀ {σ' : L2.St} {H' : Hp} {v : V} {u : Value} {s' : Shared}, Inv (cxSup CX P w K mg base N qual (defScope st) f (.ref cda) cc A outer s H E) [] σ' H' s' → RelV v u → Q v H' → CE outer P w H s Q u s' :=
    fun {σ' H' v u s'} J rv q => ⟨v, H', J.os, J.bare, J.base, J.hok, rv, q⟩
  have h0 : (L2.start N vs)[0]? = some (some (V.ref a)) := by
    unfold L2.start
    rw [List.getElem?_append_left (by rw [List.length_map]; exact (List.getElem?_eq_some_iff.mp hv).1), List.getElem?_map, hv]
    rfl
  have hloc : (defScope st).names.lookup ar.arg = some .local := S.par _ (by rw [← S.eqN]; exact List.mem_of_getElem? hN)
  show PySem.wpAt _ _ _ (execs (defBody st) _) _ _ _
  rw [hb]
  refine ks_wpAt_execs_cons ?_
  refine sup_run S D lk har lc ⟨c4, c5, c6, hcell⟩ I h0 hN hloc ea (pa_cons pe pa_nil (he _)) q (fun H1 s1 q1 J => ?_) (he _) rfl (hsw _) (hcall _) _
  refine wpAt_of_wpAny (wpAny_mono (pss.run [] s1 (L2.start N vs) H1 _ J q1) (fun fl s' hs => ?_) fun e s' hs => hs)
  cases fl with
  | ret u =>
    obtain ⟨v, σ', H', J, rv, q⟩ := hs
    exact fin J rv q
  | next =>
    obtain ⟨σ', H', J, q⟩ := hs
    exact fin (v := V.non) (u := Value.none) J rfl q
  | brk =>
    obtain ⟨_, _, _, q⟩ := hs
    exact False.elim q
  | cont =>
    obtain ⟨_, _, _, q⟩ := hs
    exact False.elim q
end
end My
set_option maxRecDepth 100000
set_option maxHeartbeats 1000000
namespace My
open PySem PySem.Spec PyProof.Rows L2
/-! ### max(x, default=d) of a list of whole numbers -/
theorem ints_reads {h : Heap} : ∀ {ns : List Int} {us : List Value}, Vals (ns.map V.int) us → ReadsAll h us (ns.map PyData.int) []
  | [], _, .nil => .nil
  | n :: ns, _, .cons r t => by
    obtain ⟨tk, rfl⟩ := r
    exact ReadsAll.cons (as := []) (bs := []) (.int n tk) (ints_reads t)
theorem alike_ints (ns : List Int) : PySem.W.AlikeAll (ns.map PyData.int) := by
  refine ⟨fun x hx y hy => ?_, fun x hx => ?_⟩
  · obtain ⟨i, _, rfl⟩ := List.mem_map.mp hx
    obtain ⟨j, _, rfl⟩ := List.mem_map.mp hy
    rfl
  · obtain ⟨i, _, rfl⟩ := List.mem_map.mp hx
    exact fun z => nomatch z
theorem depth_ints : ∀ ns : List Int, PyData.depthAll (ns.map PyData.int) ≤ 1
  | [] => by simp [PyData.depthAll]
  | n :: ns => by
    have := depth_ints ns
    simp only [List.map_cons, PyData.depthAll, PyData.depth]
    omega
theorem foldl_max (ns : List Int) : ∀ n : Int, (ns.foldl max n ∈ n :: ns) ∧ ∀ y ∈ n :: ns, y ≤ ns.foldl max n := by
  induction ns with
  | nil => intro n; simp
  | cons k r ih =>
    intro n
    obtain ⟨h1, h2⟩ := ih (max n k)
    rw [List.foldl_cons]
    refine ⟨?_, fun y hy => ?_⟩
    · rcases List.mem_cons.mp h1 with e | e
      · rw [e]
        rcases Int.le_total n k with z | z
        · rw [Int.max_eq_right z]; simp
        · rw [Int.max_eq_left z]; simp
      · exact List.mem_cons_of_mem _ (List.mem_cons_of_mem _ e)
    · have hm := h2 (max n k) List.mem_cons_self
      rcases List.mem_cons.mp hy with e | e
      · rw [e]; omega
      · rcases List.mem_cons.mp e with e | e
        · rw [e]; omega
        · exact h2 y (List.mem_cons_of_mem _ e)
section
variable {X : Cx}
def rMaxDf (K : PySem.W.Frag) : List V → List V → Hp → VK → Prop := fun xs zs H Q => ∃ (a : Addr) (ns : List Int) (d : Int), xs = [.ref a] ∧ zs = [.int d] ∧ SqL K H a (ns.map V.int) ∧
  (ns = [] → Q (.int d) H) ∧ ∀ m, m ∈ ns → (∀ y ∈ ns, y ≤ m) → Q (.int m) H
theorem call_maxDf (hc : X.calm = true) (hu : X.A.units + 10 < cLine) : CallRK X (.builtin "max") ["default"] (rMaxDf X.K) := by
  intro pins s σ H xs zs us ws Q I r rz h
  obtain ⟨a, ns, d, rfl, rfl, hq, h0, h1⟩ := h
  obtain rfl := Vals.ref1 r
  obtain ⟨w, rfl, rw'⟩ := rz.one
  obtain ⟨its, rv, pl, hz⟩ := I.list hq
  have hd := depth_ints ns
  refine PySem.W.max_list_default (I.ok.hd hc) pl.isList (xs := ns.map PyData.int) (as := []) (by rw [List.toList_toArray]; exact ints_reads rv) (alike_ints ns) (by show X.A.units + 1 + _ < _; omega) (fun e h' tk k => ?_) fun y ys i v h' tk bs e hv rd k => ?_
  · exact ⟨.int d, H, I.kept (t' := tk) k, rw', h0 (List.map_eq_nil_iff.mp e)⟩
  · cases ns with
    | nil => cases e
    | cons n ns =>
      rw [List.map_cons] at e
      obtain ⟨rfl, rfl⟩ := List.cons.inj e
      rw [PySem.W.maxD_ints] at rd
      obtain ⟨t0, rfl, _⟩ := reads_int_inv rd
      obtain ⟨m1, m2⟩ := foldl_max ns n
      exact ⟨.int (ns.foldl max n), H, I.kept (t' := tk) k, ⟨_, rfl⟩, h1 _ m1 m2⟩
/-! ### isinstance(e, c) of a caught error with fields -/
theorem call_isExD {a : Addr} {oe : Obj} {cls : Value} {d : Option Addr} {pn : List (Addr × Obj)} (hz : Zc cls d oe) (hf : ∃ vs, oe.data = .fields vs) :
    CallR (X.suite a ((a, oe) :: pn)) (.builtin "isinstance") (fun xs H Q => ∃ D dd fs, cls = .ref D ∧ d = some dd ∧ H dd = some (.xd fs) ∧ ExcC X.K D ∧ rIsE X.K D a xs H Q) := by
  intro pins s σ H xs us Q I r h
  obtain ⟨D, dd, fs, rfl, rfl, hd, C, c, cv, b, rfl, hcv, e, q⟩ := h
  cases r with
  | cons rx rr =>
    cases rr with
    | cons rt rr =>
      cases rr
      cases rx
      have ec := hcv _ rt
      subst ec
      obtain ⟨hget, _⟩ := I.pin (a, oe) (List.mem_append.mpr (.inl List.mem_cons_self))
      obtain ⟨vs, hv⟩ := hf
      have hx : ObjOk X.prog X.w H s.heap dd (.xd fs) := I.hok dd _ hd
      obtain ⟨mA, ⟨od, es, ep, ho, _⟩, _⟩ := hx
      have J : PySem.W.InstAt s.heap a oe D (some od) := ⟨hget, hz.1, by unfold PySem.W.notCls; rw [hv] <;> rfl, by rw [hz.2]; exact ho⟩
      obtain ⟨cdD, hcD, _⟩ := PySem.W.any_some C.hd
      refine PySem.W.kia_one (PySem.W.kitx_exc (od := some od) (by rw [hcD]; rfl) C.hg C.hk C.hs C.ha C.hn C.ht C.hm) I.kIn J e (fun z => nomatch z) fun tk => ⟨.bl b, H, I.kept (t' := tk) fun _ _ z => z, rfl, q⟩
end
/-! ### what such a class has, by a check -/
theorem tail_refs : ∀ {l : List Value}, PySem.W.excTail [.type "ValueError", .type "Exception", .type "BaseException", .type "object"] l = true → PySem.HandSPX.refsVE l = true := by
  intro l
  induction l with
  | nil => intro h; revert h; decide
  | cons a t ih =>
    intro h
    cases a <;> first | exact ih h | exact h
theorem oex_of {K : PySem.W.Frag} {C : Addr} (q : PySem.W.excInitIn K C [.type "ValueError", .type "Exception", .type "BaseException", .type "object"] "ValueError.__new__" = true) (hd : PySem.W.hasDictIn K C = true)
    (sa : PySem.W.findIn K (.ref C) "__setattr__" = some (some (.builtin "object.__setattr__"))) (bp : PySem.W.subIn K (.ref C) (.type "BaseException") = some true) (tp : PySem.W.typeIn K (.ref C) = some (.type "type")) (kp : PySem.W.keepIn K (.ref C) = true) : OexC K C := by
  refine ⟨?_, sa, bp, tp, kp⟩
  unfold PySem.W.excInitIn at q
  split at q
  · rename_i dd cd sl ho
    split at q
    · rename_i C' bm k0 k1 k2 k3 n k5 hm hs
      simp only [Bool.and_eq_true, beq_iff_eq, Bool.not_eq_true'] at q
      obtain ⟨⟨⟨e1, e2⟩, hdel⟩, ht⟩ := q
      subst e1
      subst e2
      obtain ⟨cd1, hc1, hd1⟩ := PySem.W.any_some hd
      have ec : PySem.W.clsIn K C' = some cd := by unfold PySem.W.clsIn; rw [ho]
      rw [ec] at hc1
      cases hc1
      obtain ⟨nm, bs, mro, ns, qn, hdc, sn, sub, ab, col, del⟩ := cd
      dsimp only at hm hdel hd1
      subst hm
      subst hdel
      subst hd1
      have hsl : sl = #[k0, k1, k2, k3, some (.builtin "ValueError.__new__"), k5] := by
        obtain ⟨l⟩ := sl
        simp only at hs
        rw [hs]
      subst hsl
      exact ⟨nm, qn, ns, bs, bm, sn, sub, ab, col, dd, k0, k1, k2, k3, k5, ho, tail_refs ht⟩
    · cases q
  · cases q
/-! ### the promises of such an __init__ -/
/-- one field -/
def spX1 (C : Addr) (f : Str) (P : V → Prop) : Sp := fun vs H Q _ => ∃ (a : Addr) (y : V), vs = [.ref a, y] ∧ P y ∧ H a = some (exo a C none) ∧ ∀ d, H d = none → d ≠ a → Q .non (upd (upd H d (exd d [(f, y)])) a (exo a C (some d)))
def smallI (y : V) : Prop := ∃ i : Int, y = .int i ∧ i.natAbs < 1000000
theorem small_log {i : Int} (h : i.natAbs < 1000000) : i.natAbs.log2 < 1920 := by
  rcases Nat.eq_zero_or_pos i.natAbs with e | e
  · rw [e]; decide
  · exact Nat.lt_of_lt_of_le ((Nat.log2_lt (by omega)).mpr (Nat.lt_of_lt_of_le h (by decide : 1000000 ≤ 2 ^ 20))) (by decide)
end My
set_option maxRecDepth 100000
set_option maxHeartbeats 1000000
namespace My
open PySem PySem.Spec PyProof.Rows L2
/-! ### iter(t) of a tuple; list(o), o's class with its own __iter__ (a tuple's iterator) and its own __len__ -/
/-- a tuple's iterator at it, over the tuple at l, the next place i -/
def TitO (l it : Addr) (i : Nat) : HO := .ext fun h => h.IsTupleIter it l i
/-- at it stands something -/
def AnyO (it : Addr) : HO := .ext fun h => ∃ o, h.get? it = some o
theorem titO_ok {P : Program} {w : World} {H : Hp} {h : Heap} {l it : Addr} {i : Nat} (e : h.IsTupleIter it l i) : ObjOk P w H h it (TitO l it i) :=
  ⟨e, ⟨_, e.choose_spec.1⟩, fun h1 h2 q k => let ⟨o, ho, r⟩ := q; ⟨o, k _ ho, r⟩⟩
theorem anyO_ok {P : Program} {w : World} {H : Hp} {h : Heap} {it : Addr} (e : ∃ o, h.get? it = some o) : ObjOk P w H h it (AnyO it) := ⟨e, e, fun h1 h2 q k => let ⟨o, ho⟩ := q; ⟨o, k _ ho⟩⟩
section
variable {X : Cx} {pins : List (Addr × Obj)} {σ : L2.St} {H : Hp} {s : Shared} {l it S : Addr} {i : Nat}
theorem titO_get (I : Inv X pins σ H s) (e : H it = some (TitO l it i)) : s.heap.IsTupleIter it l i := (I.hok it _ e).1
theorem call_iterT : CallR X (.builtin "iter") (fun xs H Q => ∃ (l : Addr) (zs : List V), xs = [.ref l] ∧ SqT X.K H l zs ∧ ∀ it, H it = none → Q (.ref it) (upd H it (TitO l it 0))) := by
  intro pins s σ H xs us Q I r h
  obtain ⟨l, zs, rfl, hq, q⟩ := h
  obtain rfl := Vals.ref1 r
  obtain ⟨its, rv, pl, hz⟩ := I.tuple hq
  refine Calls.call_function_entry (by decide +kernel) (by decide +kernel) PySem.W.kdk_entry_iter (PySem.W.kdk_args_iter _) ?_
  unfold Builtin.«iter»
  refine wpAny_bind (m := someArgs "iter" 1 2 _) (wpAny_of_eq (a := [Value.ref l]) (by first | rfl | kernel_rfl!) ?_)
  show wpAny _ _ (pyIter (.ref l) >>= _) _ _ _
  refine wpAny_bind (wpAny_pyIter_tuple (show s.heap.IsTuple l its.toArray from pl) (wpAny_pure ⟨_, rfl, ?_⟩))
  exact ⟨.ref s.heap.objs.size, _, I.laid (t' := s.toks) (fun b u e => Heap.get?_push_of_some _ e) (Nat.le_refl _) (titO_ok ⟨_, Heap.get?_push_size _ rfl, rfl, rfl⟩), rfl, q _ (I.hok.fresh (Nat.le_refl _))⟩
/-- the end of a tuple's iterator; its record stays -/
theorem tup_end {prog : Program} {w : World} {A : Around} {E : Value → Shared → Prop} {items : Array Value} {Q : Option Value → Shared → Prop} (hh : A.handled = none) (hit : s.heap.IsTupleIter it l i) (ht : s.heap.IsTuple l items) (hx : items[i]? = none)
    (hQ : ∀ h', (∀ b o, b ≠ it → s.heap.get? b = some o → h'.get? b = some o) → (∃ o, h'.get? it = some o) → Q none { s with heap := h' }) : wpAny (model prog w) A (pyNext (.ref it)) Q E s := by
  obtain ⟨o, ho, hc, hd⟩ := id hit
  obtain ⟨ol, hol, _, nl, hdl⟩ := ht
  have hup := Heap.get?_update_self (Obj.mapFields (·.setIfInBounds 0 Value.none)) ho (Obj.isFreed_of_fields (Obj.data_mapFields hd _))
  unfold pyNext
  refine wpAny_bind (wpAny_attempt (wpAny_callSpecial?_slot (name := Str.ofString "__next__") hit.typeIs PySem.F.slot_tuple_iterator_next (wpAny_call_entry PySem.F.slot_tuple_iterator_next hit.typeIs PySem.F.entry_tuple_iterator_next ?_ (PySem.F.args_tuple_iterator_next_1 _))))
  show wpAny _ _ (field (.ref it) 0 >>= _) _ _ s; refine wpAny_bind (wpAny_field ho hd (x := .ref l) rfl ?_); show wpAny _ _ (if (Value.ref l == Value.none) = true then _ else _) _ _ s
  rw [if_neg (fun z => by revert z; exact Bool.false_ne_true : ¬ ((Value.ref l == Value.none) = true))]; show wpAny _ _ (field (.ref it) 1 >>= _) _ _ s
  refine wpAny_bind (wpAny_field ho hd (x := .int i 0) rfl ?_); show wpAny _ _ (seqItems? (.ref l) >>= _) _ _ s
  refine wpAny_bind (wpAny_seqItems hol hdl ?_)
  simp only [Int.toNat_natCast, hx]
  refine wpAny_bind (wpAny_rule (wpAny_bind (wpAny_setField ho hd (by simp) ?_))); show wpAny _ _ (newExc (.type "StopIteration") [] >>= _) _ _ _
  refine wpAny_bind ?_
  simp only [newExc, newTuple]
  refine wpAny_bind (wpAny_newObj_type ?_ (by size_fits)); refine wpAny_bind (m := firstArgMember _ _) (wpAny_of_eq (a := Value.none) (by first | rfl | (simp only [firstArgMember]; rfl)) ?_)
  refine wpAny_newObj_type ?_ (by size_fits)
  simp only [raiseNew]
  refine wpAny_bind (wpAny_handled ?_)
  first | rw [show A.in1.handled = none from hh] | rw [hh]
  refine wpAny_bind (wpAny_pure (wpAny_throw ?_))
  refine wpAny_bind (wpAny_isInstance (T := "StopIteration") (b := true) ⟨_, Heap.get?_push_size _ rfl, rfl⟩ isSubtype_stop (wpAny_pure (hQ _ (fun b ob hb e => ?_) ⟨_, Heap.get?_push_of_some _ (Heap.get?_push_of_some _ hup)⟩)))
  exact Heap.get?_push_of_some _ (Heap.get?_push_of_some _ ((Heap.get?_update_other _ _ (Ne.symm hb)).trans e))
/-- list.extend over it -/
theorem tit_loop {A1 : Around} {ys : List V} {Rs : Result → Shared → Prop} (hh : A1.handled = none) :
    ∀ (k i : Nat) (H : Hp) (s : Shared), ys.length - i = k → i ≤ ys.length → Inv X pins σ H s → H it = some (TitO l it i) → H l = some (.tup ys) → H S = some (.lst (ys.take i)) → ys.length < sizeLine →
      (∀ H2 s2, Inv X pins σ H2 s2 → (∀ b, b ≠ it → b ≠ S → H2 b = H b) → H2 S = some (.lst ys) → Rs (.ok (.ret .none)) s2) → codeAny (model X.prog X.w) A1 (.builtin "list.extend.loop" ⟨[.ref S, .ref it, .none], []⟩) Rs s := by
  intro k
  induction k with
  | zero =>
    intro i H s hk hi I h1 h2 h3 hz hR
    have hne : S ≠ it := ne_of h3 h1 (fun z => nomatch z)
    obtain ⟨its, rv, pl, _⟩ := I.tuple (SqT.of h2)
    refine codeAny_builtin PySem.F.entry_extend_loop ?_
    rw [Around.under_plainId PySem.F.plain_extend_loop _]
    show wpAny _ A1.in1 (pyNext (.ref it) >>= _) _ _ s
    have hno : (its.toArray)[i]? = none := by
      have := rv.length
      rw [List.getElem?_toArray, List.getElem?_eq_none_iff]
      omega
    refine wpAny_bind (tup_end hh (titO_get I h1) (show s.heap.IsTuple l its.toArray from pl) hno fun h' k' e' => wpAny_pure ?_)
    have J := I.write (t' := s.toks) (x := it) (e := it) (o := AnyO it) (by rw [h1]; exact True.intro) (.inl rfl) k' e' (anyO_ok e')
    refine hR _ _ J (fun b hb _ => upd_ne hb) ?_
    rw [upd_ne hne, h3, List.take_of_length_le (by omega)]
  | succ k ih =>
    intro i H s hk hi I h1 h2 h3 hz hR
    have hne : S ≠ it := ne_of h3 h1 (fun z => nomatch z)
    have hln : l ≠ it := ne_of h2 h1 (fun z => nomatch z)
    have hlS : l ≠ S := ne_of h2 h3 (fun z => nomatch z)
    obtain ⟨its, rv, pl, _⟩ := I.tuple (SqT.of h2)
    have hlen := rv.length
    have hlt : i < ys.length := by omega
    obtain ⟨u, hu, ru⟩ := rv.get (i := i) (x := ys[i]) (by simp [hlt])
    refine codeAny_builtin PySem.F.entry_extend_loop ?_
    rw [Around.under_plainId PySem.F.plain_extend_loop _]
    show wpAny _ A1.in1 (pyNext (.ref it) >>= _) _ _ s
    refine wpAny_bind (wpAny_pyNext_tuple_item (titO_get I h1) (show s.heap.IsTuple l its.toArray from pl) (x := u) (by rw [List.getElem?_toArray]; exact hu) fun h' hit hs => ?_)
    have J := I.write (t' := s.toks) (x := it) (e := it) (o := TitO l it (i + 1)) (by rw [h1]; exact True.intro) (.inl rfl) (fun b o hb e => hs.extBut b o hb e) ⟨_, hit.choose_spec.1⟩ (titO_ok hit)
    have h3' : upd H it (TitO l it (i + 1)) S = some (.lst (ys.take i)) := by rw [upd_ne hne]; exact h3
    show wpAny _ A1.in1 (updateSeq S (·.push u) >>= _) _ _ _
    obtain ⟨z, its3, n3, r3, hl3, e3⟩ := J.lstM h3'
    have hl4 : its3.length = i := by rw [← hl3, List.length_take]; omega
    refine wpAny_bind (wpAny_updateSeq e3 rfl (wpAny_pure ⟨plainId_quiet PySem.F.plain_extend_loop _, ?_⟩) (by rw [List.size_toArray]; omega) (by show (its3.toArray.push u).size ≤ sizeLine + 1; rw [Array.size_push, List.size_toArray]; omega))
    have et : ys.take (i + 1) = ys.take i ++ [ys[i]] := by rw [List.take_succ]; simp [hlt]
    have J2 := J.lset (f := (·.push u)) (its' := its3 ++ [u]) (t' := s.toks) (ys := ys.take (i + 1)) h3' e3 (by simp) (by rw [et]; exact r3.append (.cons ru .nil)) (by rw [List.length_take]; omega)
    refine ih (i + 1) _ _ (by omega) hlt J2 ?_ ?_ upd_same hz fun H2 s2 I2 k2 e2 => hR H2 s2 I2 (fun b hb hc => ?_) e2
    · rw [upd_ne (Ne.symm hne), upd_same]
    · rw [upd_ne hlS, upd_ne hln]; exact h2
    · rw [k2 b hb hc, upd_ne hc, upd_ne hb]
/-- what such a class must have -/
structure ItL (K : PySem.W.Frag) (C fi fl : Addr) : Prop where
  it : PySem.W.findIn K (.ref C) "__iter__" = some (some (.ref fi))
  itF : PySem.W.isFn K (.ref fi) = true
  ln : PySem.W.findIn K (.ref C) "__len__" = some (some (.ref fl))
  lnF : PySem.W.isFn K (.ref fl) = true

/-- list(o): its __iter__ gives a tuple's iterator, its __len__ a number -/
def rLstIt (C : Addr) (spI spL : Sp) (EI EL : XK) : List V → Hp → VK → Prop := fun xs H Q => ∃ a dx fs, xs = [.ref a] ∧ H a = some (.ins C dx fs) ∧ ∀ q, H q = none → q ≠ a →
  spI [.ref a] (upd H q (.lst [])) (fun v H1 => ∃ it l ys, v = .ref it ∧ H1 it = some (TitO l it 0) ∧ H1 l = some (.tup ys) ∧ H1 q = some (.lst []) ∧ H1 a = some (.ins C dx fs) ∧ ys.length < sizeLine ∧
    spL [.ref a] H1 (fun n H2 => H2 = H1 ∧ ∃ k : Int, n = .int k ∧ 0 ≤ k ∧ k < 1000) EL ∧ ∀ H2, (∀ b, b ≠ it → b ≠ q → H2 b = H1 b) → H2 q = some (.lst ys) → Q (.ref q) H2) EI
section
variable {X : Cx} {CI : CXT} {n : Nat} {C fi fl : Addr} {fdI fdL : FuncData} {psI psL : List Str} {spI spL : Sp} {EI EL : XK}
theorem call_at0 {f : Addr} {fd : FuncData} {ps : List Str} {sp : Sp} {E : XK} (G0 : FnOk X.prog X.w X.K X.mg X.base CX0 n f fd ps sp) (hb : Binds X.K fd ps []) {A : Around} (hr : Room n A) (hA : A.frames = X.A.frames)
    {pins : List (Addr × Obj)} {s : Shared} {σ : L2.St} {H : Hp} (I : Inv X pins σ H s) {vs : List V} {us : List Value} (r : Vals vs us) {Q : VK} {EE : Value → Shared → Prop} (h : sp vs H Q E) :
    wpAny (model X.prog X.w) A (call (.ref f) us) (EP X pins σ Q) EE s := by
  have e0 : Env0 X.prog X.w X.K X.mg X.base A X.stack s H := by
    have e := I.env0
    exact ⟨by rw [hA]; exact e.frames, e.mod, e.bs, e.bsz, e.funs, e.frf, e.hok, e.bare⟩
  have hl := G0.len _ _ _ _ h
  refine wpAny_call (codeAny_mono (G0.run A X.stack s H ⟨us, []⟩ us vs Q E hr e0 (by
    have := hb s us I.kIn (by rw [List.append_nil, ← r.length]; exact hl)
    simpa using this) r h) fun r s' hq => ?_)
  cases r with
  | error e => exact False.elim hq
  | ok fl =>
    cases fl with
    | ret w => exact I.after hq
    | next => exact False.elim hq
    | brk => exact False.elim hq
    | cont => exact False.elim hq
theorem call_listIt (hc : ItL X.K C fi fl) (FI : FnOk X.prog X.w X.K X.mg X.base CI n fi fdI psI spI) (bI : Binds X.K fdI psI []) (xI : Passes CI X EI)
    (FL : FnOk X.prog X.w X.K X.mg X.base CX0 n fl fdL psL spL) (bL : Binds X.K fdL psL []) (hr : Room (n + 4) X.A) : CallR X (.type "list") (rLstIt C spI spL EI EL) := by
  intro pins s σ H xs us Q I rv h
  obtain ⟨a, dx, fs, rfl, ha, hq⟩ := h
  obtain ⟨u, rfl, ru⟩ := rv.one
  cases ru
  have sb : Sub X (n + 2) X.A.in1.in1 := (Sub.in1 (Sub.in1 (⟨hr, rfl⟩ : Sub X (n + 4) X.A)))
  refine callType_codes (Q₁ := fun obj s₁ => obj = .ref s.heap.objs.size ∧ s₁ = { s with heap := s.heap.push { cls := .type "list", data := .seq #[] } }) PySem.F.called_list (PySem.F.typeCall_list_1 _) PySem.F.entry_list_init (code_list_new _ ⟨rfl, rfl⟩) fun obj s₁ h₁ => ?_
  obtain ⟨rfl, rfl⟩ := h₁
  have hS : (s.heap.push { cls := .type "list", data := .seq #[] }).get? s.heap.objs.size = some { cls := .type "list", data := .seq #[] } := Heap.get?_push_size _ rfl
  refine ⟨⟨_, hS, rfl⟩, PySem.F.args_list_init_2 _ _, ?_⟩
  have fr : H s.heap.objs.size = none := I.hok.fresh (Nat.le_refl _)
  have sp0 := hq _ fr (fun z => by rw [z, ha] at fr; cases fr)
  have I1 : Inv X pins σ (upd H s.heap.objs.size (.lst [])) { s with heap := s.heap.push { cls := .type "list", data := .seq #[] } } := I.lnew (its := []) (t' := s.toks) .nil (Nat.zero_le _)
  show wpAny _ _ (do let old ← Builtin.List.listItems (.ref s.heap.objs.size); Builtin.List.listUpdate (.ref s.heap.objs.size) (fun _ => #[]); letGo old.toList.reverse; Builtin.List.listExtendWith (.ref s.heap.objs.size) (.ref a) .none) _ _ _
  refine wpAny_bind ?_
  unfold Builtin.List.listItems
  refine wpAny_bind (wpAny_seqItems hS rfl (wpAny_pure ?_))
  show wpAny _ _ (updateSeq s.heap.objs.size (fun _ => #[]) >>= fun _ => letGo (#[] : Array Value).toList.reverse >>= fun _ => Builtin.List.listExtendWith (.ref s.heap.objs.size) (.ref a) .none) _ _ _
  refine wpAny_bind (wpAny_updateSeq hS rfl ?_)
  have I2 := I1.lset (f := fun _ => #[]) (its := []) (its' := []) (ys := []) (t' := s.toks) upd_same hS rfl .nil (Nat.zero_le _)
  rw [upd_upd] at I2
  refine wpAny_bind (wpAny_letGo ?_)
  have ha2 : upd H s.heap.objs.size (.lst []) a = some (.ins C dx fs) := by rw [upd_ne (ne_of_none ha fr)]; exact ha
  have hne : s.heap.objs.size ≠ a := fun z => by rw [z, ha] at fr; cases fr
  generalize hq0 : s.heap.objs.size = q at *
  generalize hH0 : upd H q (.lst []) = H0 at *
  obtain ⟨mA, J, _⟩ := ins_get I2.hok ha2
  obtain ⟨od, J, _⟩ := J.look
  obtain ⟨m0, hF⟩ := I2.fr
  unfold Builtin.List.listExtendWith
  refine wpAny_bind (J.type.here ?_)
  have h1 : Builtin.List.listSameRef (.ref q) (.ref a) = false := by simp [Builtin.List.listSameRef, hne]
  simp only [h1, (rfl : (Value.ref C == Value.type "list") = false), (rfl : (Value.ref C == Value.type "tuple") = false), Bool.or_false, Bool.false_eq_true, if_false]
  refine wpAny_bind (PySem.W.owit_iter hF I2.ok.mod.kin J hc.it hc.itF ?_)
  refine wpAny_mono (call_at FI bI xI (A := X.A.in1.in1) (sb.mono (by omega)).room sb.fr I2 (vs := [.ref a]) (.cons rfl .nil) sp0) (fun v s3 z => ?_) fun _ _ z => z
  obtain ⟨x, H1, I3, r3, it, l, ys, ex, e1, e2, e3, e4, hz, q1, q2⟩ := z
  subst ex
  obtain rfl : v = Value.ref it := r3
  have hit := titO_get I3 e1
  unfold PySem.W.OwitIt
  refine wpAny_specialOf (show s3.TypeIs (.ref it) "tuple_iterator" from hit.typeIs) PySem.F.slot_tuple_iterator_next.lookup ?_
  show wpAny _ _ _ _ _ s3
  refine wpAny_bind (wpAny_holding ?_)
  obtain ⟨mB, J3, _⟩ := ins_get I3.hok e4
  obtain ⟨od3, J3, _⟩ := J3.look
  obtain ⟨m3, hF3⟩ := I3.fr
  unfold Builtin.List.listLengthHint
  refine wpAny_bind (wpAny_bind (J3.type.here ((PySem.W.looks_findIn I3.kIn hc.ln).here ?_)))
  refine PySem.W.KFB.if_not rfl ?_
  refine PySem.W.KFB.if_so rfl ?_
  refine wpAny_bind (wpAny_rule (wpAny_bind (wpAny_attempt ?_)))
  refine PySem.W.len_K hF3 I3.ok.mod.kin J3 hc.ln hc.lnF (wpAny_mono (call_at0 FL bL (A := X.A.in1.in1.in1) (Sub.in1 (sb.mono (show n + 1 ≤ n + 2 by omega))).room sb.fr I3 (vs := [.ref a]) (.cons rfl .nil) q1) (fun v s4 z => ?_) fun _ _ z => z)
  obtain ⟨x, H2, I4, r4, eH, k0, ek, hk0, hk1⟩ := z
  subst ek
  subst eH
  obtain ⟨tk4, rfl⟩ := r4
  refine ⟨⟨hk0, by omega⟩, ?_⟩
  refine wpAny_bind (wpAny_of_eq (a := some k0) rfl ?_)
  show wpAny _ _ (if Builtin.List.listTooLong k0.toNat = true then _ else _) _ _ _
  refine PySem.W.KFB.if_not (notLongL (by rw [sizeLine_eq]; omega)) (wpAny_pure ?_)
  have I5 := I4.tok (s4.toks + 1)
  have hne1 : q ≠ it := ne_of e3 e1 (fun z => nomatch z)
  have go : ∀ s5, Inv X pins σ H2 s5 → codeAny (model X.prog X.w) X.A.in1 (.builtin "list.extend.loop" ⟨[.ref q, .ref it, .none], []⟩) (wants (fun r s₂ => r = .none ∧ EP X pins σ Q (.ref q) s₂) X.xe) s5 := fun s5 I6 =>
    tit_loop (A1 := X.A.in1) (Rs := wants (fun r s₂ => r = .none ∧ EP X pins σ Q (.ref q) s₂) X.xe) (show X.A.in1.handled = none from hr.hd) ys.length 0 H2 s5 (by omega) (Nat.zero_le _) I6 e1 e2 (by rw [List.take_zero]; exact e3) hz fun H7 s7 I7 k7 e7 => ⟨rfl, .ref q, H7, I7, rfl, q2 H7 k7 e7⟩
  refine wpAny_ite_split (fun _ => ?_) (fun _ => wpAny_pure ⟨plainId_quiet PySem.F.plain_extend_loop _, go _ I5⟩)
  refine wpAny_bind (wpAny_rule (wpAny_bind ?_))
  show wpAny _ _ (updateSeq q (·.push .none) >>= fun _ => updateSeq q (·.pop)) _ _ _
  obtain ⟨z, its, n5, r5, hl5, e5⟩ := I5.lstM e3
  cases r5
  refine wpAny_bind (wpAny_updateSeq e5 rfl ?_)
  have I6 := I5.lset (f := (·.push Value.none)) (its' := [Value.none]) (ys := [.non]) (t' := s4.toks + 1) e3 e5 (by simp) (.cons rfl .nil) (by rw [List.length_singleton, sizeLine_eq]; decide)
  obtain ⟨z6, its6, n6, r6, hl6, e6⟩ := I6.lstM upd_same
  obtain ⟨u6, rfl, ru6⟩ := r6.one
  refine wpAny_updateSeq e6 rfl (wpAny_pure ⟨plainId_quiet PySem.F.plain_extend_loop _, go _ ?_⟩) (by show 1 ≤ sizeLine; rw [sizeLine_eq]; decide) (by show 0 ≤ sizeLine + 1; exact Nat.zero_le _)
  have I7 := I6.lset (f := (·.pop)) (its := [u6]) (its' := []) (ys := []) (t' := s4.toks + 1) upd_same e6 (by rfl) .nil (Nat.zero_le _)
  rw [upd_upd] at I7
  have hH : upd H2 q (.lst []) = H2 := by
    funext b
    by_cases hb : b = q
    · rw [hb, upd_same, e3]
    · rw [upd_ne hb]
  rw [hH] at I7
  exact I7
end
end
end My
set_option maxRecDepth 100000
set_option maxHeartbeats 2000000
namespace My
open PySem PySem.Spec PyProof.Rows L2
/-! ### enumerate(t), t a tuple -/
theorem enum_new1 {v : Value} {o : Obj} {G : Heap → Prop} (B : Begins v o G) :
    Meets (Builtin.«enumerate.__new__» ⟨[.type "enumerate", v], []⟩) (fun _ R s => G s.heap ∧
      R (.ok (.ret (.ref (s.heap.push o).objs.size))) { s with heap := (s.heap.push o).push { cls := .type "enumerate", data := .fields #[.none, .bool false, .ref s.heap.objs.size, rawInt 0, .none, .none] } }) := by
  refine .of_wp fun prog w A R s h => ?_
  obtain ⟨hp, g, d, tk, os⟩ := s
  obtain ⟨h1, h⟩ := h
  have hsub := sub_enumerate
  have goB : ∀ {A' : Around} {E Q : Value → Shared → Prop}, Q (.ref hp.objs.size) ⟨hp.push o, g, d, tk, os⟩ → wpAny (model prog w) A' (pyIter v) Q E ⟨hp, g, d, tk, os⟩ := fun q => B.iter prog w _ _ ⟨hp, g, d, tk, os⟩ _ h1 q
  wp_walk using goB
  refine wpAny_stack_any fun st => wpAny_pure ?_
  split
  · rename_i c _ _ _ _ _
    cases (c == Value.type "enumerate") <;> (wp_walk using goB; exact ⟨_, rfl, h⟩)
  · wp_walk using goB
    exact ⟨_, rfl, h⟩
theorem call_enum1 {prog : Program} {w : World} {A : Around} {E : Value → Shared → Prop} {s : Shared} {v : Value} {o : Obj} {G : Heap → Prop} {Q : Value → Shared → Prop} (B : Begins v o G) (h1 : G s.heap)
    (h : ∀ h', IsEnum h' (s.heap.objs.size + 1) s.heap.objs.size 0 .none → h'.get? s.heap.objs.size = some o → (∀ b o, s.heap.get? b = some o → h'.get? b = some o) → Q (.ref (s.heap.objs.size + 1)) { s with heap := h' }) :
    wpAny (model prog w) A (call (.type "enumerate") [v]) Q E s := by
  refine callType_new PySem.F.called_enumerate (by decide) (PySem.F.typeCall_enumerate_1 _) (PySem.F.newCall_enumerate_1 _) (fun obj => PySem.F.args_object_init_2 obj _) PySem.F.entry_enumerate_new (enum_new1 B) ⟨h1, ?_⟩
  have hz : (s.heap.push o).objs.size = s.heap.objs.size + 1 := Heap.size_push ..
  show _ ∧ _
  rw [hz]
  have he : IsEnum ((s.heap.push o).push { cls := .type "enumerate", data := .fields #[.none, .bool false, .ref s.heap.objs.size, rawInt 0, .none, .none] }) (s.heap.objs.size + 1) s.heap.objs.size 0 .none := by
    have q := Heap.get?_push_size (s.heap.push o) (o := { cls := .type "enumerate", data := .fields #[.none, .bool false, .ref s.heap.objs.size, rawInt 0, .none, .none] }) rfl
    rwa [hz] at q
  exact ⟨⟨_, he, rfl⟩, h _ he (Heap.get?_push_of_some _ (Heap.get?_push_size _ B.free)) fun b o x => Heap.get?_push_of_some _ (Heap.get?_push_of_some _ x)⟩
def IteT (K : PySem.W.Frag) (a : Addr) : It :=
  ⟨fun i H => ∃ (xs : List V) (x : V), SqT K H a xs ∧ xs[i]? = some x, fun i H v H' => ∃ T x, v = .ref T ∧ H T = none ∧ H' = upd H T (.tup [.int (i : Nat), x]) ∧ ∀ xs, SqT K H a xs → xs[i]? = some x, fun i H => ∃ xs : List V, SqT K H a xs ∧ xs.length ≤ i⟩
theorem turn_enumT {P : Program} {w : World} {K : PySem.W.Frag} {elts : List Expr} {kk : Nat} {tpos : Pos} (a e it : Addr) (hae : a ≠ e) (hai : a ≠ it) :
    Turn P w K (.Tuple elts kk tpos) (IteT K a) [e, it] e (fun i h => (∃ old, IsEnum h e it ((i : Nat) : Int) old) ∧ h.IsTupleIter it a i ∧ e ≠ it) where
  mem := by simp
  obj := fun i h st b hb => by
    obtain ⟨⟨old, he⟩, ⟨o, ho, hc, hd⟩, _⟩ := st
    have e' : b = e ∨ b = it := by simpa using hb
    rcases e' with z | z
    · rw [z]; exact ⟨_, he, fun v q => nomatch q⟩
    · rw [z]; exact ⟨o, ho, fun v q => by rw [hd] at q; cases q⟩
  keep := fun i h h' st k => let ⟨⟨old, he⟩, hi, hne⟩ := st; ⟨⟨old, k e (by simp) _ he⟩, hi.at fun o q => k it (by simp) o q, hne⟩
  item := by
    intro X hP hw hK hc i pins s σ H E I hf st hg
    subst hP hw hK
    obtain ⟨⟨old, he⟩, hit, hne⟩ := st
    obtain ⟨xs, x, hq, hx⟩ := hg
    obtain ⟨its, rv, p, hz⟩ := I.tuple hq
    obtain ⟨u, hu, ru⟩ := rv.get hx
    have hel : e < s.heap.objs.size := Heap.lt_size he
    have hil : it < s.heap.objs.size := by obtain ⟨_, q, _⟩ := hit; exact Heap.lt_size q
    have hlt : i < its.toArray.size := by rw [List.size_toArray]; exact (List.getElem?_eq_some_iff.mp hu).1
    refine wpAny_pyNext_enum_itemD (Draws.tuple (A := X.A.in1) (show X.A.in1.handled = none from I.ok.hd hc) it a hai its.toArray) he ⟨hit, p⟩ hlt hne (by simp [hne, Ne.symm hae]) fun x1 h' tk px ho st' hT hsz hk => ?_
    obtain ⟨hit', _⟩ := st'
    have ex1 : x1 = u := by
      rw [List.getElem?_toArray, hu] at px
      exact (Option.some.inj px).symm
    subst ex1
    refine ⟨_, rfl, wpAny_letOwnedTupleGo_enum (s := { s with heap := h', toks := tk + 1 }) ho fun h'' he' sb => ?_⟩
    have hT2 : h''.get? s.heap.objs.size = some { cls := .type "tuple", data := .seq #[.int i tk, x1] } := (sb.2 _ (Nat.ne_of_gt hel)).trans hT
    have new : ObjOk X.prog X.w (upd H s.heap.objs.size (.tup [.int (i : Nat), x])) h'' s.heap.objs.size (.tup [.int (i : Nat), x]) :=
      ⟨by show 2 ≤ sizeLine; decide, [.int i tk, x1], .cons ⟨_, rfl⟩ (.cons ru .nil), ⟨_, hT2, rfl, _, rfl⟩⟩
    have I1 : Inv X pins σ (upd H s.heap.objs.size (.tup [.int (i : Nat), x])) { s with heap := h'', toks := tk + 1 } :=
      I.turnedNew (ch := [e, it]) (fun b ob hb q => (sb.2 b (fun z => hb (by simp [z]))).trans (hk b ob (fun z => hb (by simp [z])) (fun z => hb (by simp [z])) q)) hf (Nat.le_refl _) new
    refine ⟨.ref s.heap.objs.size, _, I1, rfl, ⟨_, x, rfl, I.hok.fresh (Nat.le_refl _), rfl, fun ys hy => by rw [I.tuple_inj hy hq]; exact hx⟩, ⟨⟨x1, ?_⟩, hit'.at fun o q => (sb.2 it (Ne.symm hne)).trans q, hne⟩, fun b hb => ?_⟩
    · rw [show ((i + 1 : Nat) : Int) = (i : Int) + 1 by omega]; exact he'
    · have hb' : b < s.heap.objs.size := by
        rcases (by simpa using hb : b = e ∨ b = it) with z | z
        · rw [z]; exact hel
        · rw [z]; exact hil
      rw [upd_ne (Nat.ne_of_lt hb')]; exact (hf b hb).1
  done := by
    intro X hP hw hK hc i pins s σ H E I hf st hg
    subst hP hw hK
    obtain ⟨⟨old, he⟩, hit, hne⟩ := st
    obtain ⟨xs, hq, hx⟩ := hg
    obtain ⟨its, rv, p, hz⟩ := I.tuple hq
    obtain ⟨f0, f1, f2, f3, f4, f5⟩ := hf it (by simp)
    have hl := rv.length
    have hno : (its.toArray)[i]? = none := by rw [List.getElem?_toArray, List.getElem?_eq_none_iff]; omega
    have D : Draws X.prog X.w X.A.in1 it [it, a] i (fun _ _ => True) (fun j h => j = i ∧ h.IsTupleIter it a i ∧ h.IsTuple a its.toArray) :=
      ⟨fun _ _ st => ⟨_, st.2.1.choose_spec.1⟩, fun _ _ _ st hk => ⟨st.1, st.2.1.at fun o q => hk it (by simp) o q, st.2.2.at fun o q => hk a (by simp) o q⟩,
        fun j s Q E hj st _ => absurd st.1 (Nat.ne_of_lt hj), fun s Q E st hE => wpAny_nextOf_tuple_end (show X.A.in1.handled = none from I.ok.hd hc) st.2.1 st.2.2 hno hE⟩
    exact wpAny_pyNext_enum_endD D he ⟨rfl, hit, p⟩ fun h' eb => ⟨rfl, I.turned (t' := s.toks) (fun b o hb q => eb b o hb q) f0 f1 f3 f4 f5⟩
  self := fun A i s Q E st h => let ⟨⟨_, he⟩, _⟩ := st; wpAny_pyIter_enum he h
def iEnumT (K : PySem.W.Frag) (ta : TA) : TI := fun σ H R => ta σ H fun vs H1 => ∃ a xs, vs = [.ref a] ∧ SqT K H1 a xs ∧ R (IteT K a) H1
theorem pi_enumT {X : Cx} {e : Expr} {ta : TA} {p pos tpos : Pos} {elts : List Expr} {kk : Nat} (hg : Gl X "enumerate") (hm : X.mg "enumerate" = none) (ha : PA X [e] ta) (hs : starEach [e] X.env = [(false, eval e X.env)] := by rfl) :
    PI X (.Tuple elts kk tpos) (.Call (.Name "enumerate" p) [e] [] pos) (iEnumT X.K ta) := by
  refine ⟨fun pins s σ H R I h => ?_⟩
  refine Call_ (ld_blt I hg hm boot_enumerate (PyProof.Rows.callWith_type1 (thn (ha.run pos pins s σ H _ I h) fun us s1 ⟨vs, H1, I1, r1, a, xs, ex, hq, q⟩ => ?_) hs rfl))
  subst ex
  obtain rfl := Vals.ref1 r1
  obtain ⟨its, rv, p', hz⟩ := I1.tuple hq
  have hal : a < s1.heap.objs.size := by obtain ⟨_, z, _⟩ := p'; exact Heap.lt_size z
  refine call_enum1 (begins_tuple a its.toArray) (show s1.heap.IsTuple a its.toArray from p') fun h' he hit hk => wpAny_pyIter_enum he ?_
  have I2 : Inv X pins σ H1 { s1 with heap := h' } := I1.kept (t' := s1.toks) hk
  refine ⟨s1.heap.objs.size + 1, [s1.heap.objs.size + 1, s1.heap.objs.size], _, _, H1, rfl, I2, turn_enumT a (s1.heap.objs.size + 1) s1.heap.objs.size (Nat.ne_of_lt (Nat.lt_succ_of_lt hal)) (Nat.ne_of_lt hal), ⟨⟨.none, he⟩, ⟨_, hit, rfl, rfl⟩, Nat.succ_ne_self _⟩, fun b hb => ?_, q⟩
  have hle : s1.heap.objs.size ≤ b := by
    rcases (by simpa using hb : b = s1.heap.objs.size + 1 ∨ b = s1.heap.objs.size) with z | z
    · rw [z]; exact Nat.le_add_right _ _
    · rw [z]; exact Nat.le_refl _
  exact I1.fpOk hle (I1.hok.fresh hle)
theorem walk_enumT {K : PySem.W.Frag} {a : Addr} {xs : List V} : Walk (IteT K a) xs.length (fun H => SqT K H a xs) (YPair (fun i => some (.int (i : Nat))) (fun i => xs[i]?)) := by
  refine ⟨fun i _ hi q => ⟨xs, xs[i], q, by simp [hi]⟩, fun _ q => ⟨xs, q, Nat.le_refl _⟩, fun i H v H' _ q y => ?_⟩
  obtain ⟨T, x, h1, h2, h3, h4⟩ := y
  exact ⟨T, .int (i : Nat), x, h1, h2, h3, rfl, h4 xs q⟩
end My
set_option maxRecDepth 100000
set_option maxHeartbeats 4000000
namespace PySem.SeqAt
open PySem PySem.Spec PyProof.Rows
/-- tuple's own __lt__, called as sorting calls it -/
theorem call_tuple_lt {prog : Program} {w : World} {A : Around} {s : Shared} {E : Value → Shared → Prop} {Q : Value → Shared → Prop} {l b : Addr} {items items2 : Array Value} {e r : Nat → Bool} (hl : s.heap.IsTuple l items) (hb : s.heap.IsTuple b items2)
    (he : ∀ j (h1 : j < items.size) (h2 : j < items2.size), EqAt A.in1 s items[j] items2[j] (e j)) (hr : ∀ j (h1 : j < items.size) (h2 : j < items2.size), e j = false → RcLt A.in1 s items[j] items2[j] (r j))
    (h : Q (.bool (firstLt e r (decide (items.size < items2.size)) (List.range (min items.size items2.size)))) s) : wpAny (model prog w) A (call (.builtin "tuple.__lt__") [.ref l, .ref b]) Q E s := by
  obtain ⟨⟨cls, dd, data, sl⟩, ho, hc, n, hd⟩ := id hl
  obtain ⟨⟨cls2, dd2, data2, sl2⟩, ho2, hc2, n2, hd2⟩ := id hb
  simp only at hc hd hc2 hd2
  subst hc hd hc2 hd2
  exact call_meets F.slot_tuple_lt ⟨_, ho, rfl⟩ F.entry_tuple_lt (F.args_tuple_lt_2 _ _) (tuple_ltAt l b items items2 n n2 dd dd2 sl sl2 e r) ⟨ho, ho2, he, hr, h⟩
end PySem.SeqAt
namespace PySem.W
open PySem PySem.Calls PyProof.Rows PySem.SeqAt
abbrev encT (b : List Int) : PyData := .tuple (b.map .int)
abbrev encL (b : List Int) : PyData := .list (b.map .int)
section
variable {prog : Program} {w : World} {A : Around} {E : Value → Shared → Prop} {s : Shared}
theorem oneLt_tup {xs ys : List PyData} {a b : Value} {as bs : List Addr} {Q : Bool → Shared → Prop} (ra : Reads s.heap a (.tuple xs) as) (rb : Reads s.heap b (.tuple ys) bs) (hal : alikeAll xs ys = true)
    (hu : A.units + min (PyData.depth (.tuple xs)) (PyData.depth (.tuple ys)) < cLine) (hq : Q (dataLt (.tuple xs) (.tuple ys)) s) : wpAny (model prog w) A (oneLt' true a b) Q E s := by
  cases ra with
  | @tuple l o vs n _ as₁ h1 h2 h3 h4 =>
    cases rb with
    | @tuple l' o' vs' n' _ bs₁ k1 k2 k3 k4 =>
      have n1 : vs.size = xs.length := by simpa using ReadsAll.length _ _ _ h4
      have n2 : vs'.size = ys.length := by simpa using ReadsAll.length _ _ _ k4
      rw [dataLt_tuple, ← firstLt_toks xs ys hal, ← n1, ← n2] at hq
      rw [oneLt'_eq]
      simp only [if_true]
      refine wpAny_bind (wpAny_cRoomFor (room_here hu) ?_)
      refine wpAny_bind (wpAny_callSpecialIfBound?_slot (T := "tuple") ⟨_, h1, h2⟩ F.slot_tuple_lt (call_tuple_lt (e := pairEq xs ys) (r := fun j => dataLt (xs.getD j .none) (ys.getD j .none)) ⟨_, h1, h2, _, h3⟩ ⟨_, k1, k2, _, k3⟩ (fun j j1 j2 => ?_) (fun j j1 j2 hj => ?_) ?_))
      · have := eqAt_alikeAll xs ys A.in1 s vs.toList vs'.toList _ _ h4 k4 hal (room_in hu) j (by simpa using j1) (by simpa using j2)
        simpa using this
      · have := rcLt_alikeAll xs ys A.in1 s vs.toList vs'.toList _ _ h4 k4 hal (room_in hu) j (by simpa using j1) (by simpa using j2) hj
        simpa using this
      · exact wpAny_truthy_bool hq
end
/-! ### which kind of keys tuples of ints are -/
section
variable {M : Model} {A : Around} {E : Value → Shared → Prop} {s : Shared}
theorem tup_firsts : ∀ (vs : List Value) (bs : List (List Int)) {Q : List (Option Value) → Shared → Prop}, EachIs (fun v b => ∃ as, Reads s.heap v (encT b) as) vs bs → (∀ fs : List (Option Value), EachIs (fun f b => f.isSome = !b.isEmpty) fs bs → Q fs s) → wpAny M A (vs.mapM firstOfTuple') Q E s
  | [], [], _, _, h => by rw [List.mapM_nil]; exact wpAny_pure (h [] .nil)
  | [], _ :: _, _, e, _ => nomatch e
  | _ :: _, [], _, e, _ => nomatch e
  | v :: vs, b :: bs, Q, .cons ⟨as, r⟩ e, h => by
    rw [List.mapM_cons]
    refine wpAny_bind ?_
    rw [kas_first_eq]
    cases r with
    | @tuple a o xs n _ _ ho hc hd hr =>
      refine wpAny_bind (Looks.here (show Looks M s.heap (typeOf (.ref a)) o.cls from (Looks.ld ho).andThen .now) ?_)
      rw [hc, if_neg (by first | decide | simp)]
      refine wpAny_bind (listItems_at ho hd (wpAny_pure ?_))
      refine wpAny_bind (tup_firsts vs bs (Q := fun fs s' => wpAny M A (pure (xs[0]? :: fs)) Q E s') e fun fs hf => wpAny_pure (h _ (.cons ?_ hf)))
      have hl := SeqAt.ReadsAll.length _ _ _ hr
      rw [List.length_map] at hl
      have hl : xs.size = b.length := by simpa using hl
      cases b with
      | nil => rw [Array.getElem?_eq_none (by rw [hl]; exact Nat.zero_le _)]; rfl
      | cons x t => rw [Array.getElem?_eq_getElem (by rw [hl]; exact Nat.succ_pos _)]; rfl
theorem tup_kind {vs : List Value} {bs : List (List Int)} {Q : SortKind → Shared → Prop} (e : EachIs (fun v b => ∃ as, Reads s.heap v (encT b) as) vs bs) {b0 : List Int} {bt : List (List Int)} (hb : bs = b0 :: bt) (hne : [] ∈ bs)
    (h : Q (if b0.isEmpty then oneType' else general') s) : wpAny M A (keyKind' vs.toArray) Q E s := by
  rw [keyKind'_eq, List.mapM_toArray, map_eq_pure_bind]
  refine wpAny_bind (wpAny_bind (tup_firsts vs bs e fun fs hf => wpAny_pure ?_))
  have hall : ¬ (fs.toArray.all fun x => x.isSome) = true := fun z => by
    simp only [List.all_toArray, List.all_eq_true] at z
    have : ∀ {fs : List (Option Value)} {bs : List (List Int)}, EachIs (fun f b => f.isSome = !b.isEmpty) fs bs → (∀ f ∈ fs, f.isSome = true) → [] ∉ bs := by
      intro fs bs hf
      induction hf with
      | nil => intro _ h; cases h
      | cons h t ih =>
        intro z hm
        rcases List.mem_cons.mp hm with hm | hm
        · subst hm
          have := z _ List.mem_cons_self
          rw [h] at this
          cases this
        · exact ih (fun f hf => z f (List.mem_cons_of_mem _ hf)) hm
    exact this hf z hne
  rw [if_neg hall]
  subst hb
  cases hf with
  | @cons f _ ft _ h0 ht =>
  have e0 : ((f :: ft).toArray[0]?.bind id) = f := by simp
  rw [e0]
  cases b0 with
  | cons x t =>
    have h0 : f.isSome = true := h0
    rw [if_pos h0]
    exact wpAny_pure h
  | nil =>
    have h0 : f.isSome = false := h0
    rw [if_neg (by rw [h0]; decide)]
    rw [oneTypeOnly'_eq, List.mapM_toArray, map_eq_pure_bind]
    have tk : ∀ {vs : List Value} {bs : List (List Int)}, EachIs (fun v b => ∃ as, Reads s.heap v (encT b) as) vs bs → ∀ v ∈ vs, Looks M s.heap (typeOf v) (.type "tuple") := by
      intro vs bs e
      induction e with
      | nil => intro v hv; cases hv
      | cons h t ih =>
        intro v hv
        rcases List.mem_cons.mp hv with rfl | hv
        · obtain ⟨as, r⟩ := h
          exact looks_reads r
        · exact ih v hv
    refine wpAny_bind (wpAny_bind (wpAny_bind (kas_mapM (r := Value.type "tuple") _ (fun v hv Q' hq => (tk e v hv).here hq) (wpAny_pure ?_))))
    have hlen : 0 < vs.length := by rw [e.length]; exact Nat.succ_pos _
    have hall2 : ((List.map (fun _ => Value.type "tuple") vs).toArray.all fun x => x == Value.type "tuple") = true := by
      simp only [List.all_toArray, List.all_map, List.all_eq_true]
      intro _ _
      exact beq_self_eq_true _
    have h00 : (List.map (fun _ => Value.type "tuple") vs).toArray[0]? = some (Value.type "tuple") := by
      cases vs with
      | nil => cases hlen
      | cons a t => simp
    rw [h00]
    simp only [hall2, if_true]
    exact wpAny_pure (wpAny_pure h)
end
section
variable {prog : Program} {w : World} {A : Around} {E : Value → Shared → Prop} {s : Shared}
theorem alike_encT (b b' : List Int) : alike (encT b) (encT b') = true := by
  show alikeAll _ _ = true
  exact alike_ints b b'
theorem depth_encT (b : List Int) : (encT b).depth = 1 := by
  show PyData.depth (.tuple _) = 1
  simp only [PyData.depth]
  rw [depth_ints]
theorem SortsAt.tupI {vs : List Value} {bs : List (List Int)} (e : EachIs (fun v b => ∃ as, Reads s.heap v (encT b) as) vs bs) (hu : A.units + 2 < cLine) : SortsAt prog w A s (dataKind s.heap (bs.map encT)) vs := by
  have e' := each_map (R := fun v d => ∃ as, Reads s.heap v d as) encT e
  have hal : AllAlike (bs.map encT) := AllAlike.of fun b b' => alike_encT b b'
  have hd : ∀ d ∈ bs.map encT, A.units + d.depth < cLine := fun d hd => by
    obtain ⟨b, _, rfl⟩ := List.mem_map.mp hd
    rw [depth_encT]; omega
  by_cases hne : [] ∈ bs
  · cases bs with
    | nil => cases hne
    | cons b0 bt =>
    refine ⟨fun v hv => ?_, ⟨_, ?_, fun h2 E Q hq => tup_kind e rfl hne hq⟩⟩
    · obtain ⟨d, hd, as, r⟩ := e'.left v hv
      exact ⟨_, dataKind_some hal hd r⟩
    · intro E x y a b Q ha hb hq
      obtain ⟨d, as, hd1, ra, rfl⟩ := dataKind_inv ha
      obtain ⟨d', as', hd', rb, rfl⟩ := dataKind_inv hb
      have hq : Q (dataLt d d') s := hq
      obtain ⟨c, _, rfl⟩ := List.mem_map.mp hd1
      obtain ⟨c', _, rfl⟩ := List.mem_map.mp hd'
      have hroom : A.units + min (encT c).depth (encT c').depth < cLine := by rw [depth_encT, depth_encT]; omega
      split
      · rw [keyLt'_oneType]
        exact oneLt_tup ra rb (alike_ints c c') hroom hq
      · show wpAny _ _ (oneLt' false x y) _ _ _
        exact oneLt_alike (fun z => nomatch z) ra rb (alike_encT c c') (fun z => nomatch z) hroom hq
  · exact SortsAt.data e' hal (.inl fun d hd => by
      obtain ⟨b, hb, rfl⟩ := List.mem_map.mp hd
      cases b with
      | nil => exact absurd hb hne
      | cons x t => exact ⟨_, _, rfl⟩) hd
theorem dataLe_encT : dataLe false encT = fun p q : List Int => decide (p ≤ q) := by
  rw [← dataLe_rows (fun b : List Int => b)]
  funext p q
  show (!dataLt (encT q) (encT p)) = !dataLt (encL q) (encL p)
  rw [show dataLt (encT q) (encT p) = dataLt (encL q) (encL p) from (dataLt_tuple _ _).trans (dataLt_list _ _).symm]
/-- sorted of tuples of ints, empty ones among them -/
theorem sorted_tupsI {l : Addr} {vs : List Value} {bs : List (List Int)} {R : Value → List Int → Prop} {Q : Value → Shared → Prop} (hl : s.heap.IsList l vs.toArray) (e : EachIs R vs bs) (er : EachIs (fun v b => ∃ as, Reads s.heap v (encT b) as) vs bs) (hL : bs.length ≤ sizeLine)
    (hu : A.units + 4 < cLine) (h : ∀ out, out.length = bs.length → EachIs R out (bs.mergeSort fun p q => decide (p ≤ q)) → Q (.ref (s.heap.objs.size + 1)) { s with heap := sortedAll s.heap vs (List.toArray out) }) :
    wpAny (model prog w) A (call (.builtin "sorted") [.ref l]) Q E s := by
  have er' : EachIs (fun v b => ∃ as, Reads (sortingHeap (copyHeap s.heap vs) (s.heap.objs.size + 1) vs) v (encT b) as) vs bs := er.mono fun _ _ ⟨as, r⟩ => ⟨as, PyProof.Rows.Reads.keeps (fun _ _ => sorting_copy_old) r⟩
  refine sorted_vals hl (SortsAt.tupI (s := { s with heap := sortingHeap (copyHeap s.heap vs) (s.heap.objs.size + 1) vs }) er' (by show A.units + 1 + 1 + 2 < cLine; omega)) (by rw [e.length]; exact hL) ?_
  refine h _ (by rw [sortVals_length false rfl]; exact e.length) ?_
  have := sortVals_data false e er' (AllAlike.of fun b b' => alike_encT b b')
  rw [dataLe_encT] at this
  exact this
end
end PySem.W
namespace L2
open PySem PySem.Spec PyProof.Rows PySem.W
theorem vals_each {Rv : V → List Int → Prop} : ∀ {xs : List V} {us : List Value} {bs : List (List Int)}, Vals xs us → EachIs Rv xs bs → EachIs (fun v b => ∃ x, RelV x v ∧ Rv x b) us bs
  | _, _, _, .nil, .nil => .nil
  | _, _, _, .cons r t, .cons h e => .cons ⟨_, r, h⟩ (vals_each t e)
theorem each_vals {Rv : V → List Int → Prop} : ∀ {us : List Value} {bs : List (List Int)}, EachIs (fun v b => ∃ x, RelV x v ∧ Rv x b) us bs → ∃ ys, Vals ys us ∧ EachIs Rv ys bs
  | _, _, .nil => ⟨[], .nil, .nil⟩
  | _, _, .cons ⟨x, r, h⟩ e => let ⟨ys, a, b⟩ := each_vals e; ⟨x :: ys, .cons r a, .cons h b⟩
def rSortD (K : PySem.W.Frag) (enc : List Int → PyData) : List V → Hp → VK → Prop := fun vs H Q => ∃ (a : Addr) (xs : List V) (bs : List (List Int)) (Rv : V → List Int → Prop), vs = [.ref a] ∧ SqL K H a xs ∧ EachIs Rv xs bs ∧ (∀ x b, Rv x b → Dp K H x (enc b)) ∧
  ∀ ys p, EachIs Rv ys (bs.mergeSort fun p q => decide (p ≤ q)) → H p = none → Q (.ref p) (upd H p (.lst ys))
section
variable {X : Cx}
theorem cr_sortTI (hu : X.A.units + 10 < cLine) : CallR X (.builtin "sorted") (rSortD X.K encT) := by
  intro pins s σ H vs us Q I r h
  obtain ⟨a, xs, bs, Rv, rfl, hs, hx, hd, q⟩ := h
  obtain ⟨its, rv, hl, hz⟩ := I.list hs
  obtain ⟨u, rfl, ru⟩ := vals1 r
  obtain rfl : u = Value.ref a := ru
  have e := vals_each rv hx
  have er : EachIs (fun v b => ∃ as, Reads s.heap v (encT b) as) its bs := e.mono fun v b ⟨x, rx, hr⟩ => Dp.reads I _ _ _ (hd x b hr) rx
  have hbl : bs.length = its.length := e.length.symm
  refine sorted_tupsI hl.isList e er (by rw [hbl, ← rv.length]; exact hz) (by omega) fun out ho eo => ?_
  obtain ⟨ys, vy, ey⟩ := each_vals eo
  obtain ⟨ep, he'⟩ := PyProof.Rows.sortedAll_at s.heap its (List.toArray out)
  have hlen : ys.length ≤ sizeLine := by rw [vy.length, ho, hbl, ← rv.length]; exact hz
  exact ⟨.ref _, upd H (s.heap.objs.size + 1) (.lst ys), I.laid (t' := s.toks) (fun _ _ => PyProof.Rows.sortedAll_old) (Nat.le_succ _) ⟨hlen, out, ep, vy, he'⟩, rfl, q _ _ ey (I.hok.fresh (Nat.le_succ _))⟩
theorem cr_sortLI (hu : X.A.units + 10 < cLine) : CallR X (.builtin "sorted") (rSortD X.K encL) := by
  intro pins s σ H vs us Q I r h
  obtain ⟨a, xs, bs, Rv, rfl, hs, hx, hd, q⟩ := h
  obtain ⟨its, rv, hl, hz⟩ := I.list hs
  obtain ⟨u, rfl, ru⟩ := vals1 r
  obtain rfl : u = Value.ref a := ru
  have e := vals_each rv hx
  have er : EachIs (fun v b => ∃ as, Reads s.heap v (encL b) as) its bs := e.mono fun v b ⟨x, rx, hr⟩ => Dp.reads I _ _ _ (hd x b hr) rx
  have hbl : bs.length = its.length := e.length.symm
  refine sorted_data hl.isList e er (AllAlike.of fun b b' => by show alikeAll _ _ = true; exact alike_ints b b') (Sortable.others fun b => ⟨fun z => (nomatch z), fun _ z => (nomatch z)⟩) (by rw [hbl, ← rv.length]; exact hz) (fun b _ => ?_) fun out ho eo => ?_
  · have : (encL b).depth = 1 := by show PyData.depth (.list _) = 1; simp only [PyData.depth]; rw [depth_ints]
    omega
  rw [show dataLe false encL = fun p q : List Int => decide (p ≤ q) from dataLe_rows (fun b : List Int => b)] at eo
  obtain ⟨ys, vy, ey⟩ := each_vals eo
  obtain ⟨ep, he'⟩ := PyProof.Rows.sortedAll_at s.heap its (List.toArray out)
  have hlen : ys.length ≤ sizeLine := by rw [vy.length, ho, hbl, ← rv.length]; exact hz
  exact ⟨.ref _, upd H (s.heap.objs.size + 1) (.lst ys), I.laid (t' := s.toks) (fun _ _ => PyProof.Rows.sortedAll_old) (Nat.le_succ _) ⟨hlen, out, ep, vy, he'⟩, rfl, q _ _ ey (I.hok.fresh (Nat.le_succ _))⟩
end
end L2
set_option maxRecDepth 100000
set_option maxHeartbeats 4000000
namespace My
open PySem L2 PySem.Spec PyProof.Rows
section
variable {X : Cx} {CX : CXT} {n : Nat} {f C : Addr} {fd : FuncData} {ps : List Str} {sp : Sp}
/-- a promise that may raise, called anywhere in the running body -/
theorem call_atS {σ : L2.St} {E : XK} (G0 : FnOk X.prog X.w X.K X.mg X.base CX n f fd ps sp) (hb : Binds X.K fd ps []) (hx : PassesAt CX X σ E) {A : Around} (hr : Room n A) (hA : A.frames = X.A.frames)
    {pins : List (Addr × Obj)} {s : Shared} {H : Hp} (I : Inv X pins σ H s) {vs : List V} {us : List Value} (r : Vals vs us) {Q : VK} (h : sp vs H Q E) :
    wpAny (model X.prog X.w) A (call (.ref f) us) (EP X pins σ Q) X.xe s := by
  have e0 : Env0 X.prog X.w X.K X.mg X.base A X.stack s H := by
    have e := I.env0
    exact ⟨by rw [hA]; exact e.frames, e.mod, e.bs, e.bsz, e.funs, e.frf, e.hok, e.bare⟩
  have hl := G0.len _ _ _ _ h
  refine wpAny_call (codeAny_mono (G0.run A X.stack s H ⟨us, []⟩ us vs Q E hr e0 (by
    have := hb s us I.kIn (by rw [List.append_nil, ← r.length]; exact hl)
    simpa using this) r h) fun r s' hq => ?_)
  cases r with
  | error e => exact hx pins H s e s' I hq
  | ok fl =>
    cases fl with
    | ret w => exact I.after hq
    | next => exact False.elim hq
    | brk => exact False.elim hq
    | cont => exact False.elim hq
/-- a[b], a an instance of the class at C with its own __getitem__ -/
def tIxOwn (C : Addr) (sp : Sp) (E : L2.St → XK) (ta tb : TE) : TE := fun σ H Q => ta σ H fun x H1 => tb σ H1 fun y H2 => ∃ p dx fs, x = .ref p ∧ H2 p = some (.ins C dx fs) ∧ sp [.ref p, y] H2 Q (E σ)
theorem pe_ixOwn {a b : Expr} {ta tb : TE} {pos : Pos} {E : L2.St → XK} (G0 : FnOk X.prog X.w X.K X.mg X.base CX n f fd ps sp) (hb : Binds X.K fd ps []) (hx : ∀ σ, PassesAt CX X σ (E σ)) (hr : Room (n + 1) X.A)
    (hs : PySem.W.findIn X.K (.ref C) "__getitem__" = some (some (.ref f))) (hf : PySem.W.fnIn X.K f = true) (hfn : PySem.W.isFn X.K (.ref f) = true) (ha : PE X a ta) (hbb : PE X b tb)
    (hsl : ∀ x i, subscripted b true (.ref x) i = runValue (.builtin "lifetime.subscript" ⟨[.ref x, i], []⟩)) : PE X (.Subscript a b pos) (tIxOwn C sp E ta tb) := by
  refine ⟨fun pins s σ H Q I h => ?_⟩
  refine Subscript_ (binT ha hbb I h fun v u s2 x y H2 I2 rx ry q => ?_)
  obtain ⟨p, dx, fs, rfl, hp, q⟩ := q
  cases rx
  obtain ⟨mA, J, _⟩ := ins_get I2.hok hp
  obtain ⟨od, J, _⟩ := J.look
  obtain ⟨m, hF⟩ := I2.fr
  exact PySem.W.sub_K hF I2.ok.mod.kin J hs hf hfn (call_atS G0 hb (hx σ) (A := X.A.in1) hr.in1 rfl I2 (vs := [.ref p, y]) (.cons rfl (.cons ry .nil)) q) (hsl _ _)
end
end My
set_option maxRecDepth 100000
set_option maxHeartbeats 4000000
namespace My
open PySem L2 PySem.Spec PyProof.Rows
/-- the truth of a value, inside a comprehension -/
def tTruK (K : PySem.W.Frag) (ta : TE) : TT := fun σ H Q => ta σ H fun x H' => ∃ k, TruV K x H' k ∧ Q k H'
section
variable {X : Cx} {CX : CXT} {E : XK} {n : Nat} {f C : Addr} {fd : FuncData} {ps : List Str} {sp : Sp}
/-- len(x), x an instance of the class at C with its own __len__ -/
def rLenOwn (C : Addr) (sp : Sp) (E : XK) : List V → Hp → VK → Prop := fun xs H Q => ∃ a dx fs, xs = [V.ref a] ∧ H a = some (.ins C dx fs) ∧ sp [.ref a] H (fun v H' => ∃ k : Nat, v = .int (k : Int) ∧ k ≤ 1000000 ∧ Q (.int (k : Int)) H') E
theorem call_lenOwn (G0 : FnOk X.prog X.w X.K X.mg X.base CX n f fd ps sp) (hb : Binds X.K fd ps []) (hx : Passes CX X E) (hr : Room (n + 1) X.A)
    (hs : PySem.W.findIn X.K (.ref C) "__len__" = some (some (.ref f))) (hf : PySem.W.isFn X.K (.ref f) = true) :
    CallR X (.builtin "len") (rLenOwn C sp E) := by
  intro pins s σ H xs us Q I r h
  obtain ⟨a, dx, fs, rfl, ha, q⟩ := h
  obtain ⟨u, rfl, r1⟩ := vals1 r
  cases r1
  obtain ⟨mA, J, _⟩ := ins_get I.hok ha
  obtain ⟨od, J, _⟩ := J.look
  obtain ⟨m, hF⟩ := I.fr
  refine PySem.W.len_K hF I.ok.mod.kin J hs hf (wpAny_mono (call_at G0 hb hx (A := X.A.in1) hr.in1 rfl I (vs := [.ref a]) (.cons rfl .nil) q) (fun v s' z => ?_) fun _ _ z => z)
  obtain ⟨x, H1, I1, r1, k, rfl, hk, z⟩ := z
  obtain ⟨tk, rfl⟩ := r1
  exact ⟨⟨Int.natCast_nonneg _, by omega⟩, .int (k : Int), H1, by first | exact I1.tok _ | exact I1, ⟨_, rfl⟩, z⟩
/-- isinstance(e, (c1, c2)) of a caught error with fields -/
def rIsET (K : PySem.W.Frag) (a : Addr) (cls : Value) (d : Option Addr) : List V → Hp → VK → Prop := fun xs H Q => ∃ D dd fs, cls = .ref D ∧ d = some dd ∧ H dd = some (.xd fs) ∧ ExcC K D ∧
  ∃ (tp : Addr) (cs : List V) (us : List Value) (b : Bool), xs = [.ref a, .ref tp] ∧ H tp = some (.tup cs) ∧ Paired ClsV cs us ∧ PySem.W.kitAny K (.ref D) us = some b ∧ Q (.bl b) H
theorem call_isExT {a : Addr} {oe : Obj} {cls : Value} {d : Option Addr} {pn : List (Addr × Obj)} (hz : Zc cls d oe) (hf : ∃ vs, oe.data = .fields vs) :
    CallR (X.suite a ((a, oe) :: pn)) (.builtin "isinstance") (rIsET X.K a cls d) := by
  intro pins s σ H xs us Q I r h
  obtain ⟨D, dd, fs, rfl, rfl, hd, C, tp, cs, ws, b, rfl, hT, k, e, q⟩ := h
  obtain ⟨u1, u2, rfl, r1, r2⟩ := vals2 r
  cases (show u2 = Value.ref tp from r2)
  cases (show u1 = Value.ref a from r1)
  obtain ⟨hget, _⟩ := I.pin (a, oe) (List.mem_append.mpr (.inl List.mem_cons_self))
  obtain ⟨vs, hv⟩ := hf
  have hx : ObjOk X.prog X.w H s.heap dd (.xd fs) := I.hok dd _ hd
  obtain ⟨mA, ⟨od, es, ep, ho, _⟩, _⟩ := hx
  have J : PySem.W.InstAt s.heap a oe D (some od) := ⟨hget, hz.1, by unfold PySem.W.notCls; rw [hv] <;> rfl, by rw [hz.2]; exact ho⟩
  obtain ⟨cdD, hcD, _⟩ := PySem.W.any_some C.hd
  obtain ⟨_, its, rv, o, h1, h2, n, h3⟩ := (show ObjOk X.prog X.w H s.heap tp (.tup cs) from I.hok tp _ hT)
  have e3 := ClsV.all k rv
  subst e3
  obtain ⟨oc, od2, dt, sl⟩ := o
  simp only at h2 h3
  subst h2 h3
  exact PySem.W.kia_tup (PySem.W.kitx_exc (od := some od) (by rw [hcD]; rfl) C.hg C.hk C.hs C.ha C.hn C.ht C.hm) I.kIn J h1 e (fun z => nomatch z) fun tk => ⟨.bl b, H, I.tok tk, rfl, q⟩
theorem band (a b : Nat) : Builtin.bitAnd (a : Int) (b : Int) = ((a &&& b : Nat) : Int) := by
  unfold Builtin.bitAnd
  simp
theorem bor (a b : Nat) : Builtin.bitOr (a : Int) (b : Int) = ((a ||| b : Nat) : Int) := by
  rw [bitOr_nn (Int.natCast_nonneg _) (Int.natCast_nonneg _), Int.toNat_natCast, Int.toNat_natCast]
theorem op_andN {X : Cx} : OpR X (binaryOp .BitAnd) (fun x y H Q => ∃ a b : Nat, x = .int (a : Int) ∧ y = .int (b : Int) ∧ Q (.int ((a &&& b : Nat) : Int)) H) := by
  intro pins s σ H x y v u Q I rx ry h
  obtain ⟨a, b, rfl, rfl, q⟩ := h
  rw [← band] at q
  exact op_and pins s σ H _ _ v u Q I rx ry ⟨_, _, rfl, rfl, q⟩
theorem op_orN {X : Cx} : OpR X (binaryOp .BitOr) (fun x y H Q => ∃ a b : Nat, x = .int (a : Int) ∧ y = .int (b : Int) ∧ Q (.int ((a ||| b : Nat) : Int)) H) := by
  intro pins s σ H x y v u Q I rx ry h
  obtain ⟨a, b, rfl, rfl, q⟩ := h
  rw [← bor] at q
  exact op_or pins s σ H _ _ v u Q I rx ry ⟨_, _, rfl, rfl, q⟩
end
end My
set_option maxRecDepth 100000
set_option maxHeartbeats 4000000
namespace My
open PySem L2 PySem.Spec PyProof.Rows
section
variable {X : Cx} {CX : CXT} {E : XK} {n : Nat} {f C : Addr} {fd : FuncData} {ps : List Str} {sp : Sp}
/-- x in o, o's class with its own __contains__ that gives a truth value -/
def rInOwn (C : Addr) (sp : Sp) (E : XK) (neg : Bool) : R2 := fun x y H Q => ∃ a dx fs, y = .ref a ∧ H a = some (.ins C dx fs) ∧ sp [.ref a, x] H (fun v H' => ∃ k, v = .bl k ∧ Q (.bl (if neg = true then !k else k)) H') E
theorem op_inOwn (G0 : FnOk X.prog X.w X.K X.mg X.base CX n f fd ps sp) (hb : Binds X.K fd ps []) (hx : Passes CX X E) (hr : Room n X.A)
    (hs : PySem.W.findIn X.K (.ref C) "__contains__" = some (some (.ref f))) (hf : PySem.W.isFn X.K (.ref f) = true) : OpR X (compareOp .In) (rInOwn C sp E false) := by
  intro pins s σ H x y v u Q I rx ry h
  obtain ⟨a, dx, fs, rfl, ha, q⟩ := h
  cases ry
  obtain ⟨mA, J, _⟩ := ins_get I.hok ha
  obtain ⟨od, J, _⟩ := J.look
  obtain ⟨m, hF⟩ := I.fr
  refine PySem.W.in_K hF I.ok.mod.kin J hs hf ?_
  refine wpAny_mono (call_at G0 hb hx hr rfl I (vs := [.ref a, x]) (.cons rfl (.cons rx .nil)) q) (fun r s' z => ?_) fun _ _ z => z
  obtain ⟨z, H1, I1, r1, k, rfl, q1⟩ := z
  cases r1
  exact wpAny_truthy_bool ⟨.bl k, H1, I1, rfl, q1⟩
theorem op_notInOwn (G0 : FnOk X.prog X.w X.K X.mg X.base CX n f fd ps sp) (hb : Binds X.K fd ps []) (hx : Passes CX X E) (hr : Room n X.A)
    (hs : PySem.W.findIn X.K (.ref C) "__contains__" = some (some (.ref f))) (hf : PySem.W.isFn X.K (.ref f) = true) : OpR X (compareOp .NotIn) (rInOwn C sp E true) := by
  intro pins s σ H x y v u Q I rx ry h
  obtain ⟨a, dx, fs, rfl, ha, q⟩ := h
  cases ry
  obtain ⟨mA, J, _⟩ := ins_get I.hok ha
  obtain ⟨od, J, _⟩ := J.look
  obtain ⟨m, hF⟩ := I.fr
  refine PySem.W.notIn_K hF I.ok.mod.kin J hs hf ?_
  refine wpAny_mono (call_at G0 hb hx hr rfl I (vs := [.ref a, x]) (.cons rfl (.cons rx .nil)) q) (fun r s' z => ?_) fun _ _ z => z
  obtain ⟨z, H1, I1, r1, k, rfl, q1⟩ := z
  cases r1
  exact wpAny_truthy_bool ⟨.bl (!k), H1, I1, rfl, q1⟩
/-- ~o -/
theorem un_inv (G0 : FnOk X.prog X.w X.K X.mg X.base CX n f fd ps sp) (hb : Binds X.K fd ps []) (hx : Passes CX X E) (hr : Room n X.A)
    (hs : PySem.W.findIn X.K (.ref C) "__invert__" = some (some (.ref f))) (hf : PySem.W.isFn X.K (.ref f) = true) : UnR X (unaryOp .Invert) (rOwn1 C sp E) := by
  intro pins s σ H x v Q I rx h
  obtain ⟨a, dx, fs, rfl, ha, q⟩ := h
  cases rx
  obtain ⟨mA, J, _⟩ := ins_get I.hok ha
  obtain ⟨od, J, _⟩ := J.look
  obtain ⟨m, hF⟩ := I.fr
  exact PySem.W.ksp_inv hF I.ok.mod.kin J hs hf (call_at G0 hb hx hr rfl I (vs := [.ref a]) (.cons rfl .nil) q)
/-! ### a thing is forgotten -/
theorem hok_forget {P : Program} {w : World} {H : Hp} {h : Heap} {x : Addr} {φ : Heap → Prop} (hx : H x = none) (ok : HOk P w (upd H x (.ext φ)) h) : HOk P w H h := fun b u e => by
  have hb : b ≠ x := ne_of_none e hx
  refine (ok b u (by rw [upd_ne hb]; exact e)).stay (fun _ _ _ q => q) (fun c q => ?_) fun c xs q => ?_
  · by_cases hc : c = x
    · rw [hc, upd_same] at q; cases q
    · rw [upd_ne hc] at q; exact q
  · by_cases hc : c = x
    · rw [hc, upd_same] at q; cases q
    · rw [upd_ne hc] at q; exact q
theorem inv_forget {pins : List (Addr × Obj)} {σ : L2.St} {H : Hp} {s : Shared} {x : Addr} {φ : Heap → Prop} (hx : H x = none) (I : Inv X pins σ (upd H x (.ext φ)) s) : Inv X pins σ H s := by
  have no : ∀ {b : Addr} {o : HO}, upd H x (.ext φ) b = some o → (∀ ψ, o ≠ .ext ψ) → H b = some o := fun {b o} q hn => by
    by_cases hc : b = x
    · rw [hc, upd_same] at q; cases q; exact absurd rfl (hn φ)
    · rw [upd_ne hc] at q; exact q
  have nn : ∀ {b : Addr}, upd H x (.ext φ) b = none → H b = none := fun {b} q => by
    by_cases hc : b = x
    · rw [hc, upd_same] at q; cases q
    · rw [upd_ne hc] at q; exact q
  refine ⟨I.ok, I.os, I.bare, ⟨I.base.keep, I.base.slot, fun b o e n hx => nn (I.base.free b o e n hx), I.base.there, fun b xs q => no (I.base.tups b xs q) (fun _ => nofun), fun b o u q => no (I.base.frzs b o u q) (fun _ => nofun), fun b ps q => ?_⟩, I.loc, I.cell, nn I.free, fun y c e => nn (I.freeC y c e), fun p hp => ?_, hok_forget hx I.hok, I.len⟩
  · obtain ⟨m, e⟩ := I.base.tbls b ps q
    exact ⟨m, no e (fun _ => nofun)⟩
  · obtain ⟨e, n, ne, nf, d⟩ := I.pin p hp
    exact ⟨e, nn n, ne, nf, d⟩
end
/-! ### a promise that knows the state at the call -/
structure FnAt (P : Program) (w : World) (K : PySem.W.Frag) (mg : Str → Option Value) (base : Heap) (CX : CXT) (k : Nat) (f : Addr) (fd : FuncData) (ps : List Str) (sp : Shared → Sp) : Prop where
  len : ∀ s vs H Q E, sp s vs H Q E → vs.length = ps.length
  run : ∀ (A : Around) (outer : List Env) (s : Shared) (H : Hp) (args : Args) (us : List Value) (vs : List V) (Q : VK) (E : XK), Room k A → Env0 P w K mg base A outer s H → BindsTo s fd args (ps.zip us) → Vals vs us → sp s vs H Q E →
    codeAny (model P w) A (.call (.ref f) args) (CR CX outer P w H s Q E) s
theorem fun_okAt {P : Program} {w : World} {K : PySem.W.Frag} {mg : Str → Option Value} {base : Heap} {CX : CXT} {x qual : Str} {st : Stmt} {f : Addr} {fd : FuncData} {N ps : List Str} {k : Nat} {sp : Shared → Sp} (F : Fun K x qual st f fd) (S : FnScope N ps (defScope st)) (len : ∀ s vs H Q E, sp s vs H Q E → vs.length = ps.length)
    (hbody : ∀ (cdv : Value) (A : Around) (outer : List Env) (s : Shared) (H : Hp) (vs : List V) (Q : VK) (E : XK), Room k (A.deeper (PyProof.Rows.envOfC qual (defScope st) s.heap.objs.size f cdv)) → sp s vs H Q E →
      ∃ t, PSs (cxOf CX P w K mg base N qual (defScope st) f cdv A outer s H E) (defBody st) t ∧ t { nx := fun _ H' => Q .non H', rt := Q } (L2.start N vs) H) : FnAt P w K mg base CX (k + 1) f fd ps sp := by
  obtain ⟨oc, od, kV, doc, pm, an, cdv, ct, osl, rfl, lk, hcd⟩ := F.ex
  refine ⟨len, fun A outer s H args us vs Q E hr e0 hb r hsp => ?_⟩
  have hl := len _ _ _ _ _ hsp
  have KX : K.In s.heap := e0.mod.kin.keeps fun b o e => (e0.bs b o e).1
  have lim : s.heap.NoLimit := e0.mod.nolimit.keeps fun b o e => (e0.bs b o e).1
  have hkind : ∀ y ∈ ps.zip us, (defScope st).names.lookup y.1 = some .local ∨ ((defScope st).names.lookup y.1 = some .cell ∧ ((cellsFrom (s.heap.objs.size + 1) (defScope st).names []).lookup y.1).isSome = true) := fun ⟨n, v⟩ hy => by
    rcases S.par n (List.of_mem_zip hy).1 with q | q
    · exact .inl q
    · exact .inr ⟨q, PySem.W.cellsFrom_some _ _ _ (.inl q)⟩
  refine codeAny_call_function hr.depth (KX _ _ lk) rfl S.co S.gen rfl (PySem.W.codeRec_of KX hcd) (hb _ _ _ _ ?_)
  refine wpAny_newFunctionEnv_cells S.kind hkind fun env he s1 x => ?_
  subst he
  refine ⟨lim.keeps x.toInCall.keep, codeAny_func ?_⟩
  obtain ⟨t, ht, hq⟩ := hbody cdv A outer s H vs Q E (hr.deeper _) hsp
  have I : Inv (cxOf CX P w K mg base N qual (defScope st) f cdv A outer s H E) [] (L2.start N vs) H s1 := inv_start S hr.hd e0 hl r x
  refine wpAny_mono (ht.run [] s1 (L2.start N vs) H _ I hq) (fun fl s' hs => ?_) fun e s' hs => hs
  have fin : ∀ {σ' : L2.St} {H' : Hp} {v : V} {u : Value}, Inv (cxOf CX P w K mg base N qual (defScope st) f cdv A outer s H E) [] σ' H' s' → RelV v u → Q v H' → CE outer P w H s Q u s' :=
    fun {σ' H' v u} J rv q => ⟨v, H', J.os, J.bare, J.base, J.hok, rv, q⟩
  cases fl with
  | ret u =>
    obtain ⟨v, σ', H', J, rv, q⟩ := hs
    exact fin J rv q
  | next =>
    obtain ⟨σ', H', J, q⟩ := hs
    exact fin (v := V.non) (u := Value.none) J rfl q
  | brk =>
    obtain ⟨_, _, _, q⟩ := hs
    exact False.elim q
  | cont =>
    obtain ⟨_, _, _, q⟩ := hs
    exact False.elim q
section
variable {X : Cx}
/-- iter(t) of a tuple; the iterator is younger than the call -/
theorem call_iterTS : CallR X (.builtin "iter") (fun xs H Q => ∃ (l : Addr) (zs : List V), xs = [.ref l] ∧ SqT X.K H l zs ∧ ∀ it, H it = none → X.s_0.heap.objs.size ≤ it → Q (.ref it) (upd H it (TitO l it 0))) := by
  intro pins s σ H xs us Q I r h
  obtain ⟨l, zs, rfl, hq, q⟩ := h
  obtain rfl := Vals.ref1 r
  obtain ⟨its, rv, pl, hz⟩ := I.tuple hq
  refine Calls.call_function_entry (by decide +kernel) (by decide +kernel) PySem.W.kdk_entry_iter (PySem.W.kdk_args_iter _) ?_
  unfold Builtin.«iter»
  refine wpAny_bind (m := someArgs "iter" 1 2 _) (wpAny_of_eq (a := [Value.ref l]) (by first | rfl | kernel_rfl!) ?_)
  show wpAny _ _ (pyIter (.ref l) >>= _) _ _ _
  refine wpAny_bind (wpAny_pyIter_tuple (show s.heap.IsTuple l its.toArray from pl) (wpAny_pure ⟨_, rfl, ?_⟩))
  exact ⟨.ref s.heap.objs.size, _, I.laid (t' := s.toks) (fun b u e => Heap.get?_push_of_some _ e) (Nat.le_refl _) (titO_ok ⟨_, Heap.get?_push_size _ rfl, rfl, rfl⟩), rfl, q _ (I.hok.fresh (Nat.le_refl _)) I.sz⟩
/-- what such an __iter__ promises: an iterator over the tuple at l, at its beginning -/
def spItS (C : Addr) (L : Hp → Addr → List (Str × V) → Addr → Prop) : Shared → Sp := fun s vs H Q _ => ∃ p dx fs l, vs = [.ref p] ∧ H p = some (.ins C dx fs) ∧ L H p fs l ∧ ∀ it, H it = none → s.heap.objs.size ≤ it → Q (.ref it) (upd H it (TitO l it 0))
def iOwn (K : PySem.W.Frag) (C : Addr) (L : Hp → Addr → List (Str × V) → Addr → Prop) (tl : TE) : TI := fun σ H R => tl σ H fun x H1 => ∃ a dx fs l xs, x = .ref a ∧ H1 a = some (.ins C dx fs) ∧ L H1 a fs l ∧ SqT K H1 l xs ∧ R (Itt K l) H1
theorem pi_own {tg e : Expr} {tl : TE} {n : Nat} {f C : Addr} {fd : FuncData} {ps : List Str} {L : Hp → Addr → List (Str × V) → Addr → Prop} (he : PE X e tl) (G0 : FnAt X.prog X.w X.K X.mg X.base CX0 n f fd ps (spItS C L)) (hb : Binds X.K fd ps []) (hr : Room n X.A)
    (hs : PySem.W.findIn X.K (.ref C) "__iter__" = some (some (.ref f))) (hf : PySem.W.isFn X.K (.ref f) = true) : PI X tg e (iOwn X.K C L tl) := by
  refine ⟨fun pins s σ H R I h => ?_⟩
  refine thn (he.run pins s σ H _ I h) fun v s1 ⟨x, H1, I1, r1, q1⟩ => ?_
  obtain ⟨a, dx, fs, l, xs, rfl, ha, hL, hq, q⟩ := q1
  cases r1
  obtain ⟨mA, J, _⟩ := ins_get I1.hok ha
  obtain ⟨od, J, _⟩ := J.look
  obtain ⟨m, hF⟩ := I1.fr
  refine PySem.W.owit_iter hF I1.ok.mod.kin J hs hf ?_
  have hsp : spItS C L s1 [.ref a] H1 (fun v H2 => ∃ it, v = .ref it ∧ H1 it = none ∧ s1.heap.objs.size ≤ it ∧ H2 = upd H1 it (TitO l it 0)) (fun _ _ _ => False) := ⟨a, dx, fs, l, rfl, ha, hL, fun it h1 h2 => ⟨it, rfl, h1, h2, rfl⟩⟩
  have r : Vals [V.ref a] [Value.ref a] := .cons rfl .nil
  have e0 : Env0 X.prog X.w X.K X.mg X.base X.A X.stack s1 H1 := I1.env0
  have hl := G0.len _ _ _ _ _ hsp
  refine wpAny_call (codeAny_mono (G0.run X.A X.stack s1 H1 ⟨[.ref a], []⟩ [.ref a] [.ref a] _ _ hr e0 (by
    have := hb s1 [.ref a] I1.kIn (by rw [List.append_nil]; exact hl)
    simpa using this) r hsp) fun r s' hq' => ?_)
  cases r with
  | error e => exact False.elim hq'
  | ok fl =>
    cases fl with
    | ret u =>
      obtain ⟨v, H2, I2, rv, it, rfl, hn, hsz, rfl⟩ := I1.after hq'
      obtain rfl : u = Value.ref it := rv
      have hit := titO_get I2 upd_same
      unfold PySem.W.OwitIt
      refine wpAny_specialOf (show s'.TypeIs (.ref it) "tuple_iterator" from hit.typeIs) PySem.F.slot_tuple_iterator_next.lookup ?_
      have I3 := inv_forget hn I2
      refine ⟨it, [it], _, _, H1, rfl, I3, turn_tuple l it, hit, fun b hb => ?_, q⟩
      have e : b = it := by simpa using hb
      subst e
      exact I1.fpOk hsz hn
    | next => exact False.elim hq'
    | brk => exact False.elim hq'
    | cont => exact False.elim hq'
end
/-! ### several except clauses with a name -/
def wManyAs (K : PySem.W.Frag) (i : Nat) (Wout : WX) (D : Ends) : List (Value × (Addr → Value → Option Addr → TS)) → WX
  | [] => Wout
  | (c, ts) :: r => fun cls d σ H => ∃ b, PySem.W.exmOne K cls c = some b ∧ (b = true → ∀ a, H a = none → ts a cls d { nx := fun σ' H' => D.nx (σ'.set i none) H', rt := D.rt, bk := fun σ' H' => D.bk (σ'.set i none) H', ct := fun σ' H' => D.ct (σ'.set i none) H' } (σ.set i (some (.ref a))) H) ∧ (b = false → wManyAs K i Wout D r cls d σ H)
inductive HdsAs (X : Cx) (n : Str) : List ExceptHandler → List (Value × (Addr → Value → Option Addr → TS)) → Prop
  | nil : HdsAs X n [] []
  | cons {x : Str} {c : Value} {ts : Addr → Value → Option Addr → TS} {b₀ : Stmt} {suite : List Stmt} {np pos' : Pos} {hds : List ExceptHandler} {l : List (Value × (Addr → Value → Option Addr → TS))} (hc : Names X x c)
      (hsu : ∀ (a : Addr) (oe : Obj) (cls : Value) (d : Option Addr) (pn : List (Addr × Obj)), Zc cls d oe → (∃ vs, oe.data = .fields vs) → PSs (X.suite a ((a, oe) :: pn)) (b₀ :: suite) (ts a cls d)) (r : HdsAs X n hds l) :
      HdsAs X n (.ExceptHandler (some (.Name x np)) (some n) (b₀ :: suite) pos' :: hds) ((c, ts) :: l)
section
variable {X : Cx} {n : Str} {i : Nat} {body : List Stmt} {h₀ : ExceptHandler} {hds : List ExceptHandler} {l : List (Value × (Addr → Value → Option Addr → TS))} {pos : Pos} {tb : WX → TS} {Wout : WX}
theorem ps_try_as_many (hs : X.stack = X.env :: X.outer) (hf : X.env.frame = some X.env.locals) (hN : X.N.Nodup) (hi : X.N[i]? = some n) (hln : X.env.kindOf n = some .local) (tk : Takes X Wout)
    (hb : ∀ (W : WX) (pn : List (Addr × Obj)) (xe : Value → Shared → Prop), Takes (X.tr pn xe) W → PassesOwn (model X.prog X.w) X.A X.env xe → PSs (X.tr pn xe) body (tb W))
    (hh : HdsAs X n (h₀ :: hds) l) : PS X (.Try body (h₀ :: hds) [] [] pos) (fun D σ H => tb (wManyAs X.K i Wout D l) D σ H) := by
  refine ⟨fun pins s σ H D I h => ?_⟩
  have ok := I.ok
  have hloc : Loc X.env.scope n := .inl hln
  have hfr : X.A.frames = some (X.env :: X.outer) := by rw [ok.frames, hs]
  refine wpAny_Try_except ?_
  refine wpAny_mono ((hb (wManyAs X.K i Wout D l) (X.pn ++ pins) (fun e s₁ => wpAny (model X.prog X.w) X.A (noteFrame e X.env) (fun _ s₂ => wpAny (model X.prog X.w) X.A (setFlight e none) (fun _ s₃ =>
    wpAny (model X.prog X.w) X.A (handleBy e X.env (h₀ :: hds)) (SP X pins D) X.xe s₃) X.xe s₂) X.xe s₁) (fun u s' xx => ?_) PassesOwn.looking).run [] s σ H D (I.toTry _) h) (fun f s1 hsp => ?_) (fun e s1 he => he)
  · obtain ⟨a, B, sI, pins', σ', H', cls, d, rfl, J', nb, up, sky, na, os, ag, w⟩ := xx
    have J : Inv X pins σ' H' sI := J'.ofTry ok
    have sky' : Sky B (X.env :: X.outer) a (Zc cls d) X.env.locals s'.heap := by rw [← hs]; exact sky
    show wpAny (model X.prog X.w) X.A (noteFrame (.ref a) X.env) _ _ _
    refine Sky.land Zc.steady hfr hf sky' fun h3 fl3 up3 => ?_
    have J3 : Inv X pins σ' H' { s' with heap := h3 } := J.landed nb fl3.1 (up.trans up3) os ag
    obtain ⟨oe3, vs3, he3, hz3, hd3⟩ := fl3.there
    have notFr : ∀ {h : Heap} {o : Obj} {vs : Array Value}, h.FunFrames B (X.env :: X.outer) → h.get? a = some o → o.data = .fields vs → a ∉ frs (X.env :: X.outer) := fun {h o vs} ff e dd hm => by
      obtain ⟨_, o', e', hnf⟩ := ff.mem hm
      rw [e] at e'; cases e'
      exact hnf _ dd
    have nfr := notFr fl3.2.2.1 he3 hd3
    have nL : a ≠ X.env.locals := fun z => nfr (List.mem_filterMap.mpr ⟨X.env, List.mem_cons_self, by rw [hf, z]⟩)
    have nF : a ∉ X.fs := fun hm => by
      obtain ⟨e, he, q⟩ := List.mem_filterMap.mp hm
      exact nfr (List.mem_filterMap.mpr ⟨e, List.mem_cons_of_mem _ he, q⟩)
    have S3 := J3.suite he3 hd3 na nL nF
    have go : ∀ {hds' : List ExceptHandler} {l' : List (Value × (Addr → Value → Option Addr → TS))}, HdsAs X n hds' l' → wManyAs X.K i Wout D l' cls d σ' H' →
        wpAny (model X.prog X.w) X.A (handleBy (.ref a) X.env hds') (SP X pins D) X.xe { s' with heap := h3 } := by
      intro hds' l' hk
      induction hk with
      | nil =>
        intro w
        refine wpAny_handleBy_nil ?_
        obtain ⟨k1, k2, k3, oe, vs, T, oT, ts', he, hz, hd, h1, hr⟩ := id fl3
        unfold PySem.passOn
        refine wpAny_bind (wpAny_field he hd h1 ?_)
        rw [if_neg (show ¬ ((Value.ref T == Value.none) = true) from by simp)]
        have fin : wpAny (model X.prog X.w) X.A (setFlight (.ref a) X.env.frame) (fun _ s4 => wpAny (model X.prog X.w) X.A (throw (.ref a) : Sem Flow) (SP X pins D) X.xe s4) X.xe { s' with heap := h3 } := by
          rw [hf]
          refine HandSPX.setFlight_upZ fl3 fun h4 hh4 up4 => wpAny_throw (tk _ _ ?_)
          exact ⟨a, B, sI, pins, σ', H', cls, d, rfl, J, nb, (up.trans up3).trans up4, .inr (.inr (by rw [hs]; exact hh4)), na, os, ag, w⟩
        first
          | exact wpAny_bind (wpAny_pure (wpAny_bind fin))
          | exact wpAny_bind fin
      | @cons x c ts b₀ suite np pos' hds2 l2 hc hsu r ih =>
        intro w
        obtain ⟨b, hb1, hyes, hno⟩ := w
        refine wpAny_handleBy_cons (codeAny_handlers_test ?_) (by intro q; cases q)
        have LT : PySem.W.Looks (model X.prog X.w) h3 (typeOf (.ref a)) cls := fun A Q E s k q => wpAny_typeOf_ref (k _ _ he3) (by rw [hz3.1]; exact q)
        have LM := PySem.W.exm_one (M := model X.prog X.w) (J3.kIn) LT hb1
        have test : ∀ {Q : Value → Shared → Prop} {E : Value → Shared → Prop}, Q c { s' with heap := h3 } → wpAny (model X.prog X.w) (X.A.mark (some (.ref a))) (eval (.Name x np) X.env) Q E { s' with heap := h3 } := fun {Q E} q => by
          obtain ⟨hg, hdbg, hm | ⟨hm, hv, hnn⟩⟩ := hc
          · exact ld_glob (X := X.suite a ((a, oe3) :: (X.pn ++ pins))) S3 hg hm q hdbg
          · exact ld_blt (X := X.suite a ((a, oe3) :: (X.pn ++ pins))) S3 hg hm hv q hnn hdbg
        refine test (LM.here ?_)
        cases b with
        | true =>
          refine codeAny_handlers_suite_as ?_
          refine HandSPX.lands_againZ fl3 fun h4 fl4 up4 => ?_
          have J4 : Inv X pins σ' H' { s' with heap := h4 } := J.landed nb fl4.1 ((up.trans up3).trans up4) os ag
          obtain ⟨oe4, vs4, he4, hz4, hd4⟩ := fl4.there
          have S4 := J4.suite he4 hd4 na nL nF
          refine store_ok (X := X.suite a ((a, oe4) :: (X.pn ++ pins))) (v := .ref a) S4 hN hi hloc rfl (fun s5 S5 => ?_) (.inr hln)
          refine wpAny_mono ((hsu a oe4 cls d (X.pn ++ pins) hz4 ⟨_, hd4⟩).run [] s5 _ H' _ S5 (hyes rfl a na)) (fun f s6 hsp => ?_) (fun _ _ z => False.elim z)
          have end_ : ∀ {σ6 : L2.St} {H6 : Hp} {Q : Shared → Prop}, Inv (X.suite a ((a, oe4) :: (X.pn ++ pins))) [] σ6 H6 s6 → (∀ s7, Inv X pins (σ6.set i none) H6 s7 → Q s7) →
              wpAny (model X.prog X.w) X.A (do bindName X.env n .none; unbindBehindTheSuite X.env n pos') (fun _ s7 => Q s7) X.xe s6 := fun {σ6 H6 Q} S6 hq => gone_ok (S6.unsuite ok) hN hi hln hq
          cases f with
          | next =>
            obtain ⟨σ6, H6, S6, q6⟩ := hsp
            exact end_ S6 fun s7 J7 => ⟨_, _, J7, q6⟩
          | brk =>
            obtain ⟨σ6, H6, S6, q6⟩ := hsp
            exact end_ S6 fun s7 J7 => ⟨_, _, J7, q6⟩
          | cont =>
            obtain ⟨σ6, H6, S6, q6⟩ := hsp
            exact end_ S6 fun s7 J7 => ⟨_, _, J7, q6⟩
          | ret u =>
            obtain ⟨v6, σ6, H6, S6, r6, q6⟩ := hsp
            exact end_ S6 fun s7 J7 => ⟨_, _, _, J7, r6, q6⟩
        | false =>
          show wpAny _ X.A (handleBy (.ref a) X.env hds2) _ _ _
          exact ih (hno rfl)
    exact go hh w
  · cases f with
    | next =>
      obtain ⟨σ', H', J', q⟩ := hsp
      exact wpAny_execs_nil ⟨σ', H', J'.ofTry ok, q⟩
    | brk =>
      obtain ⟨σ', H', J', q⟩ := hsp
      exact ⟨σ', H', J'.ofTry ok, q⟩
    | cont =>
      obtain ⟨σ', H', J', q⟩ := hsp
      exact ⟨σ', H', J'.ofTry ok, q⟩
    | ret u =>
      obtain ⟨v, σ', H', J', r, q⟩ := hsp
      exact ⟨v, σ', H', J'.ofTry ok, r, q⟩
end
end My
set_option maxRecDepth 100000
set_option maxHeartbeats 4000000
namespace My
open PySem L2 PySem.Spec PyProof.Rows
/-! ### t[:0:-1], t a tuple -/
theorem fm_congr {α β : Type} {f g : α → Option β} : ∀ {l : List α}, (∀ x ∈ l, f x = g x) → l.filterMap f = l.filterMap g
  | [], _ => rfl
  | a :: l, h => by
    rw [List.filterMap_cons, List.filterMap_cons, h a List.mem_cons_self, fm_congr fun x hx => h x (List.mem_cons_of_mem _ hx)]
theorem back_pick (xs : Array Value) : ((List.range (xs.size - 1)).filterMap fun (m : Nat) => xs[(((xs.size : Nat) : Int) - 1 + (m : Int) * (-1)).toNat]?) = (xs.toList.drop 1).reverse := by
  obtain ⟨l⟩ := xs
  cases l with
  | nil => rfl
  | cons a t =>
    simp only [List.size_toArray, List.getElem?_toArray, List.length_cons, List.drop_succ_cons, List.drop_zero]
    rw [Nat.add_sub_cancel]
    have e : ∀ m ∈ List.range t.length, (a :: t)[((((t.length + 1 : Nat)) : Int) - 1 + (m : Int) * (-1)).toNat]? = t.reverse[m]? := fun m hm => by
      have hm := List.mem_range.mp hm
      have e1 : ((((t.length + 1 : Nat)) : Int) - 1 + (m : Int) * (-1)).toNat = (t.length - 1 - m) + 1 := by omega
      rw [e1, List.getElem?_cons_succ, List.getElem?_reverse hm]
    have e2 : (List.range t.length).filterMap (fun (m : Nat) => (a :: t)[((((t.length + 1 : Nat)) : Int) - 1 + (m : Int) * (-1)).toNat]?) = (List.range t.length).filterMap (fun m => t.reverse[m]?) :=
      fm_congr e
    rw [e2]
    have h := PySem.W.krv_all t.reverse.toArray
    simpa using h
theorem back_adjust (n : Nat) : Builtin.Slice.sliceAdjust none (some 0) (-1) (n : Int) = ((n : Int) - 1, if n = 0 then -1 else 0) := by
  by_cases h : n = 0
  · subst h; rfl
  · rw [if_neg h]
    have e : min (0 : Int) ((n : Int) - 1) = 0 := by omega
    show ((n : Int) - 1, min (0 : Int) ((n : Int) - 1)) = _
    rw [e]
theorem back_places (n : Nat) : Builtin.Slice.slicePlaces ((n : Int) - 1) (if n = 0 then -1 else 0) (-1) = n - 1 := by
  unfold Builtin.Slice.slicePlaces
  rw [if_neg (show ¬ ((-1 : Int) > 0) by decide)]
  by_cases h : n = 0
  · subst h; rfl
  · rw [if_neg h]
    by_cases h1 : n = 1
    · subst h1; rfl
    · rw [if_pos (by omega), show (- -1 : Int) = 1 by decide, Int.ediv_one]
      omega
section
variable {prog : Program} {w : World} {A : Around} {E : Value → Shared → Prop} {s : Shared}
theorem back_applied {sl : Addr} {vl vu vs : Value} {n : Nat} {Q : Int × Int × Nat → Shared → Prop} (hs : s.heap.IsSliceOf sl vl vu vs) (pl : IsPart vl none) (pu : IsPart vu (some 0)) (ps : IsPart vs (some (-1)))
    (h : Q ((n : Int) - 1, -1, n - 1) s) : wpAny (model prog w) A (Builtin.Slice.sliceApplied (.ref sl) (pure (n : Int))) Q E s := by
  obtain ⟨os, hos, hcs, hds⟩ := id hs
  unfold Builtin.Slice.sliceApplied Builtin.Slice.sliceFields
  refine wpAny_bind (wpAny_bind (wpAny_field hos hds (x := vl) rfl (wpAny_bind (wpAny_field hos hds (x := vu) rfl (wpAny_bind (wpAny_field hos hds (x := vs) rfl (wpAny_pure ?_)))))))
  refine wpAny_bind (HT.slicePart_ ps ?_)
  show wpAny _ _ (if ((-1 : Int) == 0) = true then _ else _) _ _ s
  rw [if_neg (by decide)]
  refine wpAny_bind (HT.slicePart_ pl (wpAny_bind (HT.slicePart_ pu (wpAny_bind (wpAny_pure ?_)))))
  show wpAny _ _ (match Builtin.Slice.sliceAdjust none (some 0) (-1) (n : Int) with | (lo, hi) => pure (lo, (-1 : Int), Builtin.Slice.slicePlaces lo hi (-1))) _ _ s
  rw [back_adjust n]
  show wpAny _ _ (pure ((n : Int) - 1, (-1 : Int), Builtin.Slice.slicePlaces ((n : Int) - 1) (if n = 0 then -1 else 0) (-1))) _ _ s
  rw [back_places]
  exact wpAny_pure h
theorem getItem_tuple_back {t sl : Addr} {items : Array Value} {vl vu vs : Value} {Q : Value → Shared → Prop} (ht : IsTup s.heap t items) (hs : s.heap.IsSliceOf sl vl vu vs) (pl : IsPart vl none) (pu : IsPart vu (some 0)) (ps : IsPart vs (some (-1)))
    (h : Q (.ref s.heap.objs.size) { s with heap := s.heap.push { cls := .type "tuple", data := .seq (items.toList.drop 1).reverse.toArray } })
    (hsz : items.size ≤ sizeLine) : wpAny (model prog w) A (getItem (.ref t) (.ref sl)) Q E s := by
  have htake : sizeOk (.seq (items.toList.drop 1).reverse.toArray) := by
    show (items.toList.drop 1).reverse.toArray.size ≤ sizeLine
    rw [List.size_toArray, List.length_reverse, List.length_drop, Array.length_toList]
    omega
  obtain ⟨os, hos, hcs, hds⟩ := id hs
  have hTs : s.TypeIs (.ref sl) "slice" := ⟨os, hos, hcs⟩
  unfold getItem
  try with_reducible refine wpAny_holding ?_
  first | refine wpAny_bind (wpAny_pure ?_) | skip
  refine wpAny_bind (wpAny_sequenceKey ht.typeIs (by decide) ?_)
  refine wpAny_bind (wpAny_callSpecial?_slot (name := Str.ofString "__getitem__") ht.typeIs PyProof.Rows.slot_tuple_getitem
    (wpAny_call_entry PyProof.Rows.slot_tuple_getitem ht.typeIs entry_tuple_getitem ?_ (args_tuple_getitem _ _)))
  show wpAny _ _ (Builtin.Tuple.tupleItemsOf (.ref t) >>= _) _ _ s
  refine wpAny_bind (tupleItemsOf_ ht ?_)
  refine wpAny_bind (wpAny_typeOf hTs ?_)
  rw [if_pos (by decide)]
  refine wpAny_bind (back_applied hs pl pu ps ?_)
  have hno : ¬ (((((items.size : Nat) : Int) - 1) == 0 && (-1 : Int) == 1 && (items.size - 1) == items.size) = true) := by
    intro q
    rw [Bool.and_eq_true, Bool.and_eq_true] at q
    exact absurd q.1.2 (by decide)
  show wpAny _ _ (if ((((items.size : Nat) : Int) - 1) == 0 && (-1 : Int) == 1 && (items.size - 1) == items.size) = true then _ else _) _ _ s
  rw [if_neg hno, back_pick]
  first
    | exact wpAny_bind (m := Builtin.Tuple.tupleExact _) (wpAny_newObj_type (wpAny_pure ⟨_, rfl, wpAny_pure h⟩) htake)
    | exact wpAny_bind (m := Builtin.Tuple.tupleExact _) (wpAny_newObj_type (wpAny_bind (wpAny_pure (wpAny_pure ⟨_, rfl, wpAny_pure h⟩))) htake)
    | exact wpAny_bind (wpAny_bind (m := Builtin.Tuple.tupleExact _) (wpAny_newObj_type (wpAny_pure (wpAny_pure ⟨_, rfl, wpAny_pure h⟩)) htake))
    | exact wpAny_bind (wpAny_bind (m := Builtin.Tuple.tupleExact _) (wpAny_newObj_type (wpAny_pure ⟨_, rfl, wpAny_pure h⟩) htake))
end
section
variable {X : Cx}
def tBackT (K : PySem.W.Frag) (te : TE) : TE := fun σ H Q => te σ H fun x H1 => ∃ a xs, x = .ref a ∧ SqT K H1 a xs ∧ ∀ p, H1 p = none → Q (.ref p) (upd H1 p (.tup (xs.drop 1).reverse))
theorem pe_backT {e : Expr} {te : TE} {k k0 : Nat} {p0 p1 p2 p3 pos : Pos} (he : PE X e te) : PE X (.Subscript e (.Slice none (some (.Constant (.int 0) k0 p0)) (some (.UnaryOp .USub (.Constant (.int 1) k p1) p2)) p3) pos) (tBackT X.K te) := by
  refine ⟨fun pins s σ H Q I h => ?_⟩
  refine Subscript_ (thn (he.run pins s σ H _ I h) fun v s1 ⟨x, H1, I1, r1, q1⟩ => ?_)
  obtain ⟨a, xs, ex, hx, q⟩ := q1
  subst ex
  cases r1
  have hst : PO X (some (.UnaryOp .USub (.Constant (.int 1) k p1) p2)) (tPart (tUn (rU fun i => .int (-i)) (tC (.int 1)))) := po_some (pe_un un_neg pe_int)
  have hup : PO X (some (.Constant (.int 0) k0 p0)) (tPart (tC (.int 0))) := po_some pe_int
  refine wpAny_Slice (thn (po_none.run pins s1 σ H1 (fun o H2 => o = none ∧ H2 = H1) I1 ⟨rfl, rfl⟩) fun vl s2 ⟨l, H2, I2, pl, el, e2⟩ => ?_)
  subst el e2
  refine thn (hup.run pins s2 σ H2 (fun o H3 => o = some 0 ∧ H3 = H2) I2 ⟨0, rfl, rfl, rfl⟩) fun vu s3 ⟨u, H3, I3, pu, eu, e3⟩ => ?_
  subst eu e3
  refine thn (hst.run pins s3 σ H3 (fun o H4 => o = some (-1) ∧ H4 = H3) I3 ⟨1, rfl, -1, rfl, rfl, rfl⟩) fun vs s4 ⟨o, H4, I4, ps, eo, e4⟩ => ?_
  subst eo e4
  have I5 : Inv X pins σ H4 { s4 with heap := s4.heap.push { cls := .type "slice", data := .fields #[vl, vu, vs] } } := I4.kept (t' := s4.toks) fun b ob q => Heap.get?_push_of_some _ q
  obtain ⟨its, r, ht, hz⟩ := I5.tuple hx
  have hlen := r.length
  show wpAny (model X.prog X.w) X.A (subscriptTail e (.Slice none (some (.Constant (.int 0) k0 p0)) (some (.UnaryOp .USub (.Constant (.int 1) k p1) p2)) p3) (.ref a) (.ref s4.heap.objs.size)) (EP X pins σ Q) X.xe { s4 with heap := s4.heap.push { cls := .type "slice", data := .fields #[vl, vu, vs] } }
  refine tail_any (ops := [.ref a, .ref s4.heap.objs.size]) ht.typeIs (PyProof.Rows.slot_tuple_getitem.lookup) ?_ (by with_unfolding_all rfl)
  refine getItem_tuple_back ht (Heap.IsSliceOf.new _ vl vu vs) pl pu ps ?_ (by rw [List.size_toArray]; omega)
  refine ⟨.ref _, _, I5.laid (t' := s4.toks) (o := .tup (xs.drop 1).reverse) (fun b ob q => Heap.get?_push_of_some _ q) (Nat.le_refl _) ?_, rfl, q _ (I5.hok.fresh (Nat.le_refl _))⟩
  exact ⟨by rw [List.length_reverse, List.length_drop]; omega, _, (r.drop 1).reverse, IsTup.new _ _⟩
end
end My
set_option maxRecDepth 100000
set_option maxHeartbeats 4000000
namespace My
open PySem L2 PySem.Spec PyProof.Rows
/-! ### tuples that are known to have no dict: their methods can be called -/
def DT (H : Hp) (a : Addr) (xs : List V) : Prop := ∃ o : Obj, o.dict = none ∧ H a = some (.frz o (.tup xs))
theorem DT.sq {K : PySem.W.Frag} {H : Hp} {a : Addr} {xs : List V} (h : DT H a xs) : SqT K H a xs := let ⟨o, _, e⟩ := h; .inl (.inr ⟨o, e⟩)
theorem DT.same {H H' : Hp} {a : Addr} {xs : List V} (h : DT H a xs) (s : Same H H') : DT H' a xs := let ⟨o, d, e⟩ := h; ⟨o, d, s _ _ e⟩
theorem DT.upd {H : Hp} {a b : Addr} {xs : List V} {u o : HO} (h : DT H a xs) (hb : H b = some u) (hu : ∀ o v, u ≠ .frz o v) : DT (L2.upd H b o) a xs := let ⟨w, d, e⟩ := h; ⟨w, d, by rw [upd_ne (ne_of e hb (fun z => hu _ _ z.symm))]; exact e⟩
section
variable {X : Cx}
/-- tuple(xs), a new one -/
def rTupD (K : PySem.W.Frag) : List V → Hp → VK → Prop := fun xs H Q => ∃ p ys, xs = [.ref p] ∧ ((SqL K H p ys ∧ ∀ (l : Addr) (o : Obj), H l = none → o.dict = none → Q (.ref l) (upd H l (.frz o (.tup ys)))) ∨ (SqT K H p ys ∧ Q (.ref p) H))
theorem call_tuple_ofD : CallR X (.type "tuple") (rTupD X.K) := by
  intro pins s σ H xs us Q I r h
  obtain ⟨p, ys, rfl, h⟩ := h
  obtain ⟨u, rfl, rx⟩ := vals1 r
  cases rx
  rcases h with ⟨hq, q⟩ | ⟨hq, q⟩
  · obtain ⟨its, r', pl, hz⟩ := I.list hq
    have hlen := r'.length
    refine call_tuple_list pl.isList (fun h' kp => ?_) (by simp only [List.size_toArray] <;> omega)
    have I1 : Inv X pins σ H { s with heap := h' } := I.kept (t' := s.toks) kp
    have I2 : Inv X pins σ (upd H h'.objs.size (.frz { cls := .type "tuple", data := .seq its.toArray } (.tup ys))) { s with heap := h'.push { cls := .type "tuple", data := .seq its.toArray } } :=
      I1.laid (t' := s.toks) (fun b o e => Heap.get?_push_of_some _ e) (Nat.le_refl _) (show ObjOk X.prog X.w _ _ _ (.frz _ (.tup ys)) from ⟨Heap.get?_push_size _ rfl, hz, its, r', IsTup.new _ _⟩)
    exact ⟨.ref h'.objs.size, _, I2, rfl, q _ _ (I1.hok.fresh (Nat.le_refl _)) rfl⟩
  · obtain ⟨its, r', pl, hz⟩ := I.tuple hq
    exact call_tuple_same pl ⟨.ref p, H, I, rfl, q⟩
def tTupD (t : TA) : TE := fun σ H Q => t σ H fun xs H1 => xs.length ≤ sizeLine ∧ ∀ (p : Addr) (o : Obj), H1 p = none → o.dict = none → Q (.ref p) (upd H1 p (.frz o (.tup xs)))
theorem pe_tupD {es : List Expr} {t : TA} {x1} {pos : Pos} (h : PA X es t) : PE X (.Tuple es x1 pos) (tTupD t) := by
  refine ⟨fun pins s σ H Q I hq => ?_⟩
  refine wpAny_Tuple_spliced (thn (h.run pos pins s σ H _ I hq) fun us s1 ⟨xs, H1, I1, r, z, q⟩ => ⟨by rw [← r.length]; exact z, ?_⟩)
  have hf : H1 s1.heap.objs.size = none := I1.hok.fresh (Nat.le_refl _)
  refine ⟨.ref s1.heap.objs.size, upd H1 s1.heap.objs.size (.frz { cls := .type "tuple", data := .seq us.toArray } (.tup xs)), I1.laid (t' := s1.toks) (fun b u e => Heap.get?_push_of_some _ e) (Nat.le_refl _) ?_, rfl, q _ _ hf rfl⟩
  exact ⟨Heap.get?_push_size _ rfl, z, us, r, ⟨_, Heap.get?_push_size _ rfl, rfl, _, rfl⟩⟩
/-- t.m(e, ..) -/
def tBMT (r : V → List V → Hp → VK → Prop) (to : TE) (t : TA) : TE := fun σ H Q => to σ H fun x H1 => (∃ p xs, x = .ref p ∧ DT H1 p xs) ∧ t σ H1 fun xs H2 => r x xs H2 Q
theorem pe_bmT {o e : Expr} {es : List Expr} {to : TE} {t : TA} {name : Str} {apos cpos : Pos} {id : String} {r : V → List V → Hp → VK → Prop} (pa : PlainAttrs "tuple") (slot : Slot "tuple" name id) (hty : typeOf (.builtin id) = pure (.type "method_descriptor")) (hm : MtR X id r) (ho : PE X o to) (ha : PA X (e :: es) t)
    (hbase : attributeBase o name X.env (eval o X.env) = eval o X.env := by rfl)
    (hfew : ((backTo cpos (starEach (e :: es) X.env)).all (fun x => !x.1) && (backToKw cpos (keywordEach [] X.env)).all (fun x => x.1.isSome)
      && decide ((e :: es).length + ([] : List Keyword).length + (if ([] : List Keyword).isEmpty then 0 else 1) < 30)) = true := by rfl)
    (hline : (apos.endLine == cpos.line) = true := by rfl) (hs : starEach (e :: es) X.env = (false, eval e X.env) :: starEach es X.env := by rfl) (hplain : (backTo cpos (starEach es X.env)).any (·.1) = false := by rfl) :
    PE X (.Call (.Attribute o name apos) (e :: es) [] cpos) (tBMT r to t) := by
  refine ⟨fun pins s σ H Q I h => ?_⟩
  refine wpAny_Call_method_late hbase hfew hline rfl (thn (ho.run pins s σ H _ I h) fun v s1 ⟨x, H1, I1, r1, ty, q1⟩ => ?_)
  obtain ⟨p, xs, rfl, ob, hd, hfz⟩ := ty
  obtain rfl : v = Value.ref p := r1
  obtain ⟨eo, _, its, _, ob', e', hc, _⟩ := (show ObjOk X.prog X.w H1 s1.heap p (.frz ob (.tup xs)) from I1.hok p _ hfz)
  rw [eo] at e'
  cases e'
  have h1 : s1.TypeIs (.ref p) "tuple" := ⟨ob, eo, hc⟩
  have h2 : ∀ a, Value.ref p = .ref a → ∃ ob, s1.heap.get? a = some ob ∧ ob.dict = none := fun a e => by cases e; exact ⟨ob, eo, hd⟩
  refine ⟨"tuple", id, pa, slot, hty, h1, h2, ?_⟩
  have hA := ha.run cpos pins s1 σ H1 _ I1 q1
  rw [hs] at hA ⊢
  refine Calls.callWith_builtin (by show (false || (backTo cpos (starEach es X.env)).any (·.1)) = false; rw [hplain] <;> rfl) (Calls.evalArgs_plain ?_)
  exact thn hA fun us s2 ⟨vs, H2, I2, r2, q2⟩ => hm pins s2 σ H2 (.ref p) vs (.ref p) us Q I2 rfl r2 q2
end
end My
set_option maxRecDepth 100000
set_option maxHeartbeats 4000000
namespace My
open PySem PySem.Spec PyProof.Rows L2
theorem rd_ne {H : Hp} {a b : Addr} {u v : HO} (h : L2.Rd H a u) (hb : H b = some v) (h1 : u ≠ v) (h2 : ∀ o, HO.frz o u ≠ v) : a ≠ b := by
  rcases h with h | ⟨o, h⟩
  · exact ne_of h hb h1
  · exact ne_of h hb (h2 o)
theorem rd_upd {H : Hp} {a b : Addr} {u o : HO} (h : L2.Rd H a u) (hne : a ≠ b) : L2.Rd (upd H b o) a u := by
  rcases h with h | ⟨w, h⟩
  · exact .inl (by rw [upd_ne hne]; exact h)
  · exact .inr ⟨w, by rw [upd_ne hne]; exact h⟩
theorem DT.rd {H : Hp} {a : Addr} {xs : List V} (h : DT H a xs) : L2.Rd H a (.tup xs) := let ⟨o, _, e⟩ := h; .inr ⟨o, e⟩
section
variable {X : Cx} {pins : List (Addr × Obj)} {σ : L2.St} {H : Hp} {s : Shared} {l it S : Addr} {i : Nat}
/-- list.extend over it -/
theorem tit_loopR {A1 : Around} {ys : List V} {Rs : Result → Shared → Prop} (hh : A1.handled = none) :
    ∀ (k i : Nat) (H : Hp) (s : Shared), ys.length - i = k → i ≤ ys.length → Inv X pins σ H s → H it = some (TitO l it i) → L2.Rd H l (.tup ys) → H S = some (.lst (ys.take i)) → ys.length < sizeLine →
      (∀ H2 s2, Inv X pins σ H2 s2 → (∀ b, b ≠ it → b ≠ S → H2 b = H b) → H2 S = some (.lst ys) → Rs (.ok (.ret .none)) s2) → codeAny (model X.prog X.w) A1 (.builtin "list.extend.loop" ⟨[.ref S, .ref it, .none], []⟩) Rs s := by
  intro k
  induction k with
  | zero =>
    intro i H s hk hi I h1 h2 h3 hz hR
    have hne : S ≠ it := ne_of h3 h1 (fun z => nomatch z)
    obtain ⟨its, rv, pl, _⟩ := I.tuple (.inl h2)
    refine codeAny_builtin PySem.F.entry_extend_loop ?_
    rw [Around.under_plainId PySem.F.plain_extend_loop _]
    show wpAny _ A1.in1 (pyNext (.ref it) >>= _) _ _ s
    have hno : (its.toArray)[i]? = none := by
      have := rv.length
      rw [List.getElem?_toArray, List.getElem?_eq_none_iff]
      omega
    refine wpAny_bind (tup_end hh (titO_get I h1) (show s.heap.IsTuple l its.toArray from pl) hno fun h' k' e' => wpAny_pure ?_)
    have J := I.write (t' := s.toks) (x := it) (e := it) (o := AnyO it) (by rw [h1]; exact True.intro) (.inl rfl) k' e' (anyO_ok e')
    refine hR _ _ J (fun b hb _ => upd_ne hb) ?_
    rw [upd_ne hne, h3, List.take_of_length_le (by omega)]
  | succ k ih =>
    intro i H s hk hi I h1 h2 h3 hz hR
    have hne : S ≠ it := ne_of h3 h1 (fun z => nomatch z)
    have hln : l ≠ it := rd_ne h2 h1 (fun z => nomatch z) (fun _ z => nomatch z)
    have hlS : l ≠ S := rd_ne h2 h3 (fun z => nomatch z) (fun _ z => nomatch z)
    obtain ⟨its, rv, pl, _⟩ := I.tuple (.inl h2)
    have hlen := rv.length
    have hlt : i < ys.length := by omega
    obtain ⟨u, hu, ru⟩ := rv.get (i := i) (x := ys[i]) (by simp [hlt])
    refine codeAny_builtin PySem.F.entry_extend_loop ?_
    rw [Around.under_plainId PySem.F.plain_extend_loop _]
    show wpAny _ A1.in1 (pyNext (.ref it) >>= _) _ _ s
    refine wpAny_bind (wpAny_pyNext_tuple_item (titO_get I h1) (show s.heap.IsTuple l its.toArray from pl) (x := u) (by rw [List.getElem?_toArray]; exact hu) fun h' hit hs => ?_)
    have J := I.write (t' := s.toks) (x := it) (e := it) (o := TitO l it (i + 1)) (by rw [h1]; exact True.intro) (.inl rfl) (fun b o hb e => hs.extBut b o hb e) ⟨_, hit.choose_spec.1⟩ (titO_ok hit)
    have h3' : upd H it (TitO l it (i + 1)) S = some (.lst (ys.take i)) := by rw [upd_ne hne]; exact h3
    show wpAny _ A1.in1 (updateSeq S (·.push u) >>= _) _ _ _
    obtain ⟨z, its3, n3, r3, hl3, e3⟩ := J.lstM h3'
    have hl4 : its3.length = i := by rw [← hl3, List.length_take]; omega
    refine wpAny_bind (wpAny_updateSeq e3 rfl (wpAny_pure ⟨plainId_quiet PySem.F.plain_extend_loop _, ?_⟩) (by rw [List.size_toArray]; omega) (by show (its3.toArray.push u).size ≤ sizeLine + 1; rw [Array.size_push, List.size_toArray]; omega))
    have et : ys.take (i + 1) = ys.take i ++ [ys[i]] := by rw [List.take_succ]; simp [hlt]
    have J2 := J.lset (f := (·.push u)) (its' := its3 ++ [u]) (t' := s.toks) (ys := ys.take (i + 1)) h3' e3 (by simp) (by rw [et]; exact r3.append (.cons ru .nil)) (by rw [List.length_take]; omega)
    refine ih (i + 1) _ _ (by omega) hlt J2 ?_ ?_ upd_same hz fun H2 s2 I2 k2 e2 => hR H2 s2 I2 (fun b hb hc => ?_) e2
    · rw [upd_ne (Ne.symm hne), upd_same]
    · exact rd_upd (rd_upd h2 hln) hlS
    · rw [k2 b hb hc, upd_ne hc, upd_ne hb]
end
/-- list(o): its __iter__ gives a tuple's iterator, its __len__ a number -/
def rLstItR (C : Addr) (spI spL : Sp) (EI EL : XK) : List V → Hp → VK → Prop := fun xs H Q => ∃ a dx fs, xs = [.ref a] ∧ H a = some (.ins C dx fs) ∧ ∀ q, H q = none → q ≠ a →
  spI [.ref a] (upd H q (.lst [])) (fun v H1 => ∃ it l ys, v = .ref it ∧ H1 it = some (TitO l it 0) ∧ L2.Rd H1 l (.tup ys) ∧ H1 q = some (.lst []) ∧ H1 a = some (.ins C dx fs) ∧ ys.length < sizeLine ∧
    spL [.ref a] H1 (fun n H2 => H2 = H1 ∧ ∃ k : Int, n = .int k ∧ 0 ≤ k ∧ k < 1000) EL ∧ ∀ H2, (∀ b, b ≠ it → b ≠ q → H2 b = H1 b) → H2 q = some (.lst ys) → Q (.ref q) H2) EI
section
variable {X : Cx} {CI : CXT} {n : Nat} {C fi fl : Addr} {fdI fdL : FuncData} {psI psL : List Str} {spI spL : Sp} {EI EL : XK}
theorem call_listItR (hc : ItL X.K C fi fl) (FI : FnOk X.prog X.w X.K X.mg X.base CI n fi fdI psI spI) (bI : Binds X.K fdI psI []) (xI : Passes CI X EI)
    (FL : FnOk X.prog X.w X.K X.mg X.base CX0 n fl fdL psL spL) (bL : Binds X.K fdL psL []) (hr : Room (n + 4) X.A) : CallR X (.type "list") (rLstItR C spI spL EI EL) := by
  intro pins s σ H xs us Q I rv h
  obtain ⟨a, dx, fs, rfl, ha, hq⟩ := h
  obtain ⟨u, rfl, ru⟩ := rv.one
  cases ru
  have sb : Sub X (n + 2) X.A.in1.in1 := (Sub.in1 (Sub.in1 (⟨hr, rfl⟩ : Sub X (n + 4) X.A)))
  refine callType_codes (Q₁ := fun obj s₁ => obj = .ref s.heap.objs.size ∧ s₁ = { s with heap := s.heap.push { cls := .type "list", data := .seq #[] } }) PySem.F.called_list (PySem.F.typeCall_list_1 _) PySem.F.entry_list_init (code_list_new _ ⟨rfl, rfl⟩) fun obj s₁ h₁ => ?_
  obtain ⟨rfl, rfl⟩ := h₁
  have hS : (s.heap.push { cls := .type "list", data := .seq #[] }).get? s.heap.objs.size = some { cls := .type "list", data := .seq #[] } := Heap.get?_push_size _ rfl
  refine ⟨⟨_, hS, rfl⟩, PySem.F.args_list_init_2 _ _, ?_⟩
  have fr : H s.heap.objs.size = none := I.hok.fresh (Nat.le_refl _)
  have sp0 := hq _ fr (fun z => by rw [z, ha] at fr; cases fr)
  have I1 : Inv X pins σ (upd H s.heap.objs.size (.lst [])) { s with heap := s.heap.push { cls := .type "list", data := .seq #[] } } := I.lnew (its := []) (t' := s.toks) .nil (Nat.zero_le _)
  show wpAny _ _ (do let old ← Builtin.List.listItems (.ref s.heap.objs.size); Builtin.List.listUpdate (.ref s.heap.objs.size) (fun _ => #[]); letGo old.toList.reverse; Builtin.List.listExtendWith (.ref s.heap.objs.size) (.ref a) .none) _ _ _
  refine wpAny_bind ?_
  unfold Builtin.List.listItems
  refine wpAny_bind (wpAny_seqItems hS rfl (wpAny_pure ?_))
  show wpAny _ _ (updateSeq s.heap.objs.size (fun _ => #[]) >>= fun _ => letGo (#[] : Array Value).toList.reverse >>= fun _ => Builtin.List.listExtendWith (.ref s.heap.objs.size) (.ref a) .none) _ _ _
  refine wpAny_bind (wpAny_updateSeq hS rfl ?_)
  have I2 := I1.lset (f := fun _ => #[]) (its := []) (its' := []) (ys := []) (t' := s.toks) upd_same hS rfl .nil (Nat.zero_le _)
  rw [upd_upd] at I2
  refine wpAny_bind (wpAny_letGo ?_)
  have ha2 : upd H s.heap.objs.size (.lst []) a = some (.ins C dx fs) := by rw [upd_ne (ne_of_none ha fr)]; exact ha
  have hne : s.heap.objs.size ≠ a := fun z => by rw [z, ha] at fr; cases fr
  generalize hq0 : s.heap.objs.size = q at *
  generalize hH0 : upd H q (.lst []) = H0 at *
  obtain ⟨mA, J, _⟩ := ins_get I2.hok ha2
  obtain ⟨od, J, _⟩ := J.look
  obtain ⟨m0, hF⟩ := I2.fr
  unfold Builtin.List.listExtendWith
  refine wpAny_bind (J.type.here ?_)
  have h1 : Builtin.List.listSameRef (.ref q) (.ref a) = false := by simp [Builtin.List.listSameRef, hne]
  simp only [h1, (rfl : (Value.ref C == Value.type "list") = false), (rfl : (Value.ref C == Value.type "tuple") = false), Bool.or_false, Bool.false_eq_true, if_false]
  refine wpAny_bind (PySem.W.owit_iter hF I2.ok.mod.kin J hc.it hc.itF ?_)
  refine wpAny_mono (call_at FI bI xI (A := X.A.in1.in1) (sb.mono (by omega)).room sb.fr I2 (vs := [.ref a]) (.cons rfl .nil) sp0) (fun v s3 z => ?_) fun _ _ z => z
  obtain ⟨x, H1, I3, r3, it, l, ys, ex, e1, e2, e3, e4, hz, q1, q2⟩ := z
  subst ex
  obtain rfl : v = Value.ref it := r3
  have hit := titO_get I3 e1
  unfold PySem.W.OwitIt
  refine wpAny_specialOf (show s3.TypeIs (.ref it) "tuple_iterator" from hit.typeIs) PySem.F.slot_tuple_iterator_next.lookup ?_
  show wpAny _ _ _ _ _ s3
  refine wpAny_bind (wpAny_holding ?_)
  obtain ⟨mB, J3, _⟩ := ins_get I3.hok e4
  obtain ⟨od3, J3, _⟩ := J3.look
  obtain ⟨m3, hF3⟩ := I3.fr
  unfold Builtin.List.listLengthHint
  refine wpAny_bind (wpAny_bind (J3.type.here ((PySem.W.looks_findIn I3.kIn hc.ln).here ?_)))
  refine PySem.W.KFB.if_not rfl ?_
  refine PySem.W.KFB.if_so rfl ?_
  refine wpAny_bind (wpAny_rule (wpAny_bind (wpAny_attempt ?_)))
  refine PySem.W.len_K hF3 I3.ok.mod.kin J3 hc.ln hc.lnF (wpAny_mono (call_at0 FL bL (A := X.A.in1.in1.in1) (Sub.in1 (sb.mono (show n + 1 ≤ n + 2 by omega))).room sb.fr I3 (vs := [.ref a]) (.cons rfl .nil) q1) (fun v s4 z => ?_) fun _ _ z => z)
  obtain ⟨x, H2, I4, r4, eH, k0, ek, hk0, hk1⟩ := z
  subst ek
  subst eH
  obtain ⟨tk4, rfl⟩ := r4
  refine ⟨⟨hk0, by omega⟩, ?_⟩
  refine wpAny_bind (wpAny_of_eq (a := some k0) rfl ?_)
  show wpAny _ _ (if Builtin.List.listTooLong k0.toNat = true then _ else _) _ _ _
  refine PySem.W.KFB.if_not (notLongL (by rw [sizeLine_eq]; omega)) (wpAny_pure ?_)
  have I5 := I4.tok (s4.toks + 1)
  have hne1 : q ≠ it := ne_of e3 e1 (fun z => nomatch z)
  have go : ∀ s5, Inv X pins σ H2 s5 → codeAny (model X.prog X.w) X.A.in1 (.builtin "list.extend.loop" ⟨[.ref q, .ref it, .none], []⟩) (wants (fun r s₂ => r = .none ∧ EP X pins σ Q (.ref q) s₂) X.xe) s5 := fun s5 I6 =>
    tit_loopR (A1 := X.A.in1) (Rs := wants (fun r s₂ => r = .none ∧ EP X pins σ Q (.ref q) s₂) X.xe) (show X.A.in1.handled = none from hr.hd) ys.length 0 H2 s5 (by omega) (Nat.zero_le _) I6 e1 e2 (by rw [List.take_zero]; exact e3) hz fun H7 s7 I7 k7 e7 => ⟨rfl, .ref q, H7, I7, rfl, q2 H7 k7 e7⟩
  refine wpAny_ite_split (fun _ => ?_) (fun _ => wpAny_pure ⟨plainId_quiet PySem.F.plain_extend_loop _, go _ I5⟩)
  refine wpAny_bind (wpAny_rule (wpAny_bind ?_))
  show wpAny _ _ (updateSeq q (·.push .none) >>= fun _ => updateSeq q (·.pop)) _ _ _
  obtain ⟨z, its, n5, r5, hl5, e5⟩ := I5.lstM e3
  cases r5
  refine wpAny_bind (wpAny_updateSeq e5 rfl ?_)
  have I6 := I5.lset (f := (·.push Value.none)) (its' := [Value.none]) (ys := [.non]) (t' := s4.toks + 1) e3 e5 (by simp) (.cons rfl .nil) (by rw [List.length_singleton, sizeLine_eq]; decide)
  obtain ⟨z6, its6, n6, r6, hl6, e6⟩ := I6.lstM upd_same
  obtain ⟨u6, rfl, ru6⟩ := r6.one
  refine wpAny_updateSeq e6 rfl (wpAny_pure ⟨plainId_quiet PySem.F.plain_extend_loop _, go _ ?_⟩) (by show 1 ≤ sizeLine; rw [sizeLine_eq]; decide) (by show 0 ≤ sizeLine + 1; exact Nat.zero_le _)
  have I7 := I6.lset (f := (·.pop)) (its := [u6]) (its' := []) (ys := []) (t' := s4.toks + 1) upd_same e6 (by rfl) .nil (Nat.zero_le _)
  rw [upd_upd] at I7
  have hH : upd H2 q (.lst []) = H2 := by
    funext b
    by_cases hb : b = q
    · rw [hb, upd_same, e3]
    · rw [upd_ne hb]
  rw [hH] at I7
  exact I7
end
end My
set_option maxRecDepth 100000
set_option maxHeartbeats 4000000
namespace My
open PySem L2 PySem.Spec PyProof.Rows
section
variable {X : Cx} {CX : CXT} {k : Nat} {f C : Addr} {fd : FuncData} {ps : List Str} {sp : Sp} {m : Str} {o e : Expr} {es : List Expr} {ta : TE} {t : TA} {apos pos : Pos}
/-- o.m(e, ..) that may raise, what is wished of the exception may speak of the slots -/
def tMethE (C : Addr) (m : Str) (sp : Sp) (E : L2.St → XK) (ta : TE) (t : TA) : TE := fun σ H Q => ta σ H fun x H1 => ∃ a dx fs, x = .ref a ∧ H1 a = some (.ins C dx fs) ∧ fs.lookup m = none ∧ t σ H1 fun vs H2 => sp (x :: vs) H2 Q (E σ)
theorem pe_methE {E : L2.St → XK} {pl : Sem Bool} (he : PE X o ta) (c : Cls X.K C) (hm : Meth X.K C m f) (F : FnOk X.prog X.w X.K X.mg X.base CX k f fd ps sp) (hr : Room k X.A) (hb : Binds X.K fd ps []) (hx : ∀ σ, PassesAt CX X σ (E σ)) (ha : PA X (e :: es) t)
    (hst : starEach (e :: es) X.env = (false, eval e X.env) :: starEach es X.env := by rfl) (hpl : (backTo pos (starEach es X.env)).any (·.1) = false := by rfl)
    (ht : eval (.Call (.Attribute o m apos) (e :: es) [] pos) X.env = (do
      let ov ← eval o X.env
      standAt apos.atName
      let (f, first) ← holding [ov] (getMethod ov m pl)
      callWith pos f first (backTo pos (starEach (e :: es) X.env)) (backToKw pos (keywordEach [] X.env))) := by rfl) :
    PE X (.Call (.Attribute o m apos) (e :: es) [] pos) (tMethE C m sp E ta t) := by
  refine ⟨fun pins s σ H Q I h => ?_⟩
  refine PySem.W.methodCall_KW (pl := pl) (thn (he.run pins s σ H _ I h) fun u s1 ⟨x, H1, I1, rx, a, dx, fs, ex, ea, l, q⟩ => ?_) ht
  subst ex
  obtain rfl : u = Value.ref a := rx
  refine getmeth_ok I1 ea c hm l ?_
  refine PySem.W.callWith_K (first := [.ref a]) (h₀ := X.base) I.ok.mod.kin hm.kp (thn (ha.run pos pins s1 σ H1 _ I1 q) fun us s2 ⟨vs, H2, I2, r, q2⟩ => ⟨I2.kIn, ?_⟩) hst hpl
  exact run_fnS (us := .ref a :: us) (vs := .ref a :: vs) F hr hb (hx σ) I2 (.cons rfl r) q2
theorem pe_methE0 {E : L2.St → XK} {pl : Sem Bool} (he : PE X o ta) (c : Cls X.K C) (hm : Meth X.K C m f) (F : FnOk X.prog X.w X.K X.mg X.base CX k f fd ps sp) (hr : Room k X.A) (hb : Binds X.K fd ps []) (hx : ∀ σ, PassesAt CX X σ (E σ))
    (ht : eval (.Call (.Attribute o m apos) [] [] pos) X.env = (do
      let ov ← eval o X.env
      standAt apos.atName
      let (f, first) ← holding [ov] (getMethod ov m pl)
      callWith pos f first (backTo pos (starEach [] X.env)) (backToKw pos (keywordEach [] X.env))) := by rfl) :
    PE X (.Call (.Attribute o m apos) [] [] pos) (tMethE C m sp E ta tNil) := by
  refine ⟨fun pins s σ H Q I h => ?_⟩
  refine PySem.W.methodCall_KW (pl := pl) (thn (he.run pins s σ H _ I h) fun u s1 ⟨x, H1, I1, rx, a, dx, fs, ex, ea, l, q⟩ => ?_) ht
  subst ex
  obtain rfl : u = Value.ref a := rx
  refine getmeth_ok I1 ea c hm l ?_
  exact PySem.W.callWith_K0 (first := [.ref a]) I1.kIn hm.kp (run_fnS (us := [.ref a]) (vs := [.ref a]) F hr hb (hx σ) I1 (.cons rfl .nil) q)
end
end My
set_option maxRecDepth 100000
set_option maxHeartbeats 4000000
set_option exponentiation.threshold 10000
namespace My
open PySem L2
theorem hu10 {A : Around} {k : Nat} (hr : Room k A) : A.units + 10 < cLine := by have := hr.un; omega
/-- text * int -/
theorem op_mulS {X : Cx} : OpR X (binaryOp .Mult) (fun x y H Q => ∃ (z : Str) (n : Int), x = .str z ∧ y = .int n ∧ MulOk z n ∧ Q (.str (Txt.mul z n)) H) := by
  intro pins s σ H x y v u Q I rx ry h
  obtain ⟨z, n, rfl, rfl, ok, q⟩ := h
  obtain ⟨t, rfl⟩ := rx
  obtain ⟨t', rfl⟩ := ry
  exact PySem.SB.mul ok fun t' k => ⟨.str (Txt.mul z n), H, I.tok _, ⟨_, rfl⟩, q⟩
def rLen2 (K : PySem.W.Frag) : List V → Hp → VK → Prop := fun xs H Q => ∃ p ys, xs = [.ref p] ∧ (SqL K H p ys ∨ SqT K H p ys) ∧ Q (.int ys.length) H
def rListOf (K : PySem.W.Frag) : List V → Hp → VK → Prop := fun xs H Q => ∃ p ys, xs = [.ref p] ∧ (SqL K H p ys ∨ SqT K H p ys) ∧ ∀ l, H l = none → Q (.ref l) (upd H l (.lst ys))
def rTupOf (K : PySem.W.Frag) : List V → Hp → VK → Prop := fun xs H Q => ∃ p ys, xs = [.ref p] ∧ ((SqL K H p ys ∧ ∀ l, H l = none → Q (.ref l) (upd H l (.tup ys))) ∨ (SqT K H p ys ∧ Q (.ref p) H))
/-! ### texts in lists -/
abbrev sv (ss : List Str) : List V := ss.map V.str
theorem len_sv (ss : List Str) : (sv ss).length = ss.length := List.length_map ..
theorem flat_sv (ss : List Str) : (sv ss).all flatV = true := by
  rw [List.all_eq_true]; intro x hx; obtain ⟨s, _, rfl⟩ := List.mem_map.mp hx; rfl
theorem eqV_str (a b : Str) : eqV (.str a) (.str b) = decide (a = b) := by
  first | rfl | (simp only [eqV]; by_cases h : a = b <;> simp [h])
theorem inV_str (x : Str) (ss : List Str) : inV (.str x) (sv ss) = decide (x ∈ ss) := by
  unfold inV
  rw [Bool.eq_iff_iff, List.any_eq_true, decide_eq_true_iff]
  constructor
  · rintro ⟨y, hy, e⟩
    obtain ⟨s, hs, rfl⟩ := List.mem_map.mp hy
    rw [eqV_str, decide_eq_true_iff] at e
    rw [← e]; exact hs
  · intro h
    exact ⟨.str x, List.mem_map.mpr ⟨x, h, rfl⟩, by rw [eqV_str]; simp⟩
theorem sv_get {ss : List Str} {i : Nat} {v : V} (h : (sv ss)[i]? = some v) : ∃ s, ss[i]? = some s ∧ v = .str s := by
  rw [List.getElem?_map] at h
  cases e : ss[i]? with
  | none => rw [e] at h; cases h
  | some t => rw [e] at h; exact ⟨t, rfl, (Option.some.inj h).symm⟩
theorem cut_take {xs : List V} {k : Nat} (h : k ≤ xs.length) : cutV xs none (some (k : Int)) = xs.take k := by
  unfold cutV
  rw [HT.sIx_none, HT.sIx_nat, Nat.min_eq_left h]
  simp
theorem cut_drop {xs : List V} {k : Nat} (h : k ≤ xs.length) : cutV xs (some (k : Int)) none = xs.drop k := by
  unfold cutV
  rw [HT.sIx_none, HT.sIx_nat, Nat.min_eq_left h]
  rw [List.take_of_length_le (by rw [List.length_drop]; exact Nat.le_refl _)]
theorem sv_take (ss : List Str) (k : Nat) : (sv ss).take k = sv (ss.take k) := List.map_take.symm
theorem sv_drop (ss : List Str) (k : Nat) : (sv ss).drop k = sv (ss.drop k) := List.map_drop.symm
/-! ### names -/
def Letters (l : List Nat) : Prop := ∀ c ∈ l, 97 ≤ c ∧ c ≤ 122
structure Good (z : Str) : Prop where
  pos : 1 ≤ z.length
  le : z.length ≤ 8
  let_ : Letters z.cps.toList
/-! ### the first stray of a list -/
def badAt (cs ns : List Str) (i : Nat) : Bool := match ns[i]? with | some x => !decide (x ∈ cs) || decide (x ∈ ns.take i) | none => false
def stray (cs ns : List Str) : Option Nat := (List.range ns.length).find? (badAt cs ns)
def fault (cs ns : List Str) : Option Nat := match stray cs ns with | some i => some i | none => if ns.length < cs.length then some ns.length else none
def optV : Option Nat → V
  | none => .non
  | some i => .int (i : Nat)
theorem stray_some {cs ns : List Str} {i : Nat} (hi : i < ns.length) (h1 : badAt cs ns i = true) (h2 : ∀ j, j < i → badAt cs ns j = false) : stray cs ns = some i := by
  unfold stray
  rw [List.find?_range_eq_some]
  exact ⟨h1, List.mem_range.mpr hi, fun j hj => by rw [h2 j hj]; rfl⟩
theorem stray_none {cs ns : List Str} (h2 : ∀ j, j < ns.length → badAt cs ns j = false) : stray cs ns = none := by
  unfold stray
  rw [List.find?_eq_none]
  intro j hj
  rw [h2 j (List.mem_range.mp hj)]
  exact Bool.false_ne_true
theorem stray_none_iff {cs ns : List Str} : stray cs ns = none ↔ (∀ x ∈ ns, x ∈ cs) ∧ ns.Nodup := by
  unfold stray
  rw [List.find?_eq_none]
  constructor
  · intro h
    have hb : ∀ i (hi : i < ns.length), ns[i] ∈ cs ∧ ns[i] ∉ ns.take i := fun i hi => by
      have := h i (List.mem_range.mpr hi)
      unfold badAt at this
      rw [List.getElem?_eq_getElem hi] at this
      simpa using this
    refine ⟨fun x hx => ?_, ?_⟩
    · obtain ⟨i, hi, rfl⟩ := List.getElem_of_mem hx
      exact (hb i hi).1
    · rw [List.nodup_iff_pairwise_ne, List.pairwise_iff_getElem]
      intro i j hi hj hij e
      refine (hb j hj).2 ?_
      rw [← e]
      exact List.mem_take_iff_getElem.mpr ⟨i, by omega, rfl⟩
  · rintro ⟨h1, h2⟩ i hi
    have hi := List.mem_range.mp hi
    unfold badAt
    rw [List.getElem?_eq_getElem hi]
    have a := h1 _ (List.getElem_mem hi)
    have b : ns[i] ∉ ns.take i := fun hm => by
      obtain ⟨j, hj, e⟩ := List.mem_take_iff_getElem.mp hm
      rw [List.nodup_iff_pairwise_ne, List.pairwise_iff_getElem] at h2
      exact h2 j i (by omega) hi (by omega) e
    simp [a, b]
theorem fault_none {cs ns : List Str} (h1 : ∀ x ∈ ns, x ∈ cs) (h2 : ns.Nodup) (h3 : cs.length ≤ ns.length) : fault cs ns = none := by
  unfold fault
  rw [stray_none_iff.mpr ⟨h1, h2⟩]
  show (if ns.length < cs.length then _ else _) = _
  rw [if_neg (by omega)]
/-- the law's list of what is wrong -/
def wrongs (cs ns : List Str) : List Nat := (List.range ns.length).filter (badAt cs ns) ++ if ns.length < cs.length then [ns.length] else []
theorem wrongs_head (cs ns : List Str) : (wrongs cs ns).head? = fault cs ns := by
  unfold wrongs fault stray
  rw [List.head?_append, List.head?_filter]
  cases (List.range ns.length).find? (badAt cs ns) with
  | some i => rfl
  | none =>
    show Option.or none _ = (if _ then _ else _)
    split <;> rfl
/-! ### runs -/
def runAt (fl : List Bool) (i : Nat) : Bool := fl.getD i false && !(decide (0 < i) && fl.getD (i - 1) false)
def runs (fl : List Bool) : Nat := ((List.range fl.length).filter (runAt fl)).length
theorem runs_le (fl : List Bool) : runs fl ≤ fl.length := by
  unfold runs
  have := List.length_filter_le (runAt fl) (List.range fl.length)
  rw [List.length_range] at this
  exact this
/-! ### the picture -/
theorem mul_len (n : Int) : (Txt.mul (" " : Str) n).length = n.toNat := by
  unfold Txt.mul
  have h1 : ((" " : Str).length == 0) = false := by decide
  split
  · rename_i h
    show 0 = n.toNat
    omega
  · rename_i h
    split
    · rename_i h'
      rw [h1, Bool.or_false, beq_iff_eq] at h'
      subst h'
      rfl
    · have e : ∀ (m : Nat) (acc : Array Nat), ((List.replicate m (" " : Str).cps).foldl (· ++ ·) acc).size = acc.size + m := by
        intro m
        induction m with
        | zero => intro acc; rfl
        | succ m ih =>
          intro acc
          rw [List.replicate_succ, List.foldl_cons, ih, Array.size_append]
          have : (" " : Str).cps.size = 1 := by decide
          rw [this]; omega
      show ((List.replicate n.toNat (" " : Str).cps).foldl (· ++ ·) #[]).size = n.toNat
      rw [e]
      show 0 + n.toNat = _
      omega
theorem mul_cps (n : Int) : (Txt.mul (" " : Str) n).cps = Array.replicate n.toNat 32 := by
  unfold Txt.mul
  have h1 : ((" " : Str).length == 0) = false := by decide
  split
  · rename_i h
    have : n.toNat = 0 := by omega
    rw [this]
    rfl
  · rename_i h
    split
    · rename_i h'
      rw [h1, Bool.or_false, beq_iff_eq] at h'
      subst h'
      decide
    · have e : ∀ (m : Nat) (acc : Array Nat), ((List.replicate m (" " : Str).cps).foldl (· ++ ·) acc) = acc ++ Array.replicate m 32 := by
        intro m
        induction m with
        | zero => intro acc; simp
        | succ m ih =>
          intro acc
          rw [List.replicate_succ, List.foldl_cons, ih]
          have : (" " : Str).cps = #[32] := by decide
          rw [this, Array.append_assoc]
          congr 1
          apply Array.toList_inj.mp
          simp [List.replicate_succ]
      show ((List.replicate n.toNat (" " : Str).cps).foldl (· ++ ·) #[]) = _
      rw [e]
      simp
theorem str_ext {a b : Str} (h : a.cps = b.cps) : a = b := by cases a; cases b; exact congrArg Str.mk h
theorem append_cps (a b : Str) : (a ++ b).cps = a.cps ++ b.cps := rfl
theorem ljust_eq (x : Str) (W : Int) : Txt.ljust x W = x ++ Txt.mul " " (W - x.length) := by
  apply str_ext
  rw [append_cps, mul_cps]
  unfold Txt.ljust
  split
  · rename_i h
    have : (W - (x.length : Int)).toNat = 0 := by omega
    rw [this]; simp
  · rename_i h
    have : W.toNat - x.length = (W - (x.length : Int)).toNat := by omega
    rw [this]
    show Array.replicate 0 32 ++ x.cps ++ Array.replicate _ 32 = _
    simp
theorem ljust_len (x : Str) (W : Int) : (Txt.ljust x W).length = x.length + (W - x.length).toNat := by
  rw [ljust_eq, Str.length_append, mul_len]
def fill (ws : List Str) (W : Int) : Str := Txt.join " " (ws.map fun x => Txt.ljust x W)
def marks (order row : List Str) : List Str := order.map fun x => if x ∈ row then ("x" : Str) else "."
def flags (order row : List Str) : List Bool := order.map fun x => decide (x ∈ row)
def num4 (n : Nat) : Str := Txt.rjust (Str.ofString (toString (n : Int))) 4
def line (order : List Str) (W : Int) (row : List Str) : Str := fill (marks order row) W ++ num4 (runs (flags order row))
def pic (order : List Str) (rows : List (List Str)) (W : Int) : Str := Txt.join "\n" (fill order W :: rows.map (line order W))
theorem num_small : ∀ n : Fin 13, (Str.ofString (toString ((n.val : Nat) : Int))).length ≤ 4 := by decide +kernel
theorem num4_len {n : Nat} (h : n ≤ 12) : (num4 n).length = 4 := by
  have hl : (Str.ofString (toString (n : Int))).length ≤ 4 := num_small ⟨n, by omega⟩
  unfold num4 Txt.rjust
  generalize Str.ofString (toString (n : Int)) = x at hl ⊢
  split
  · rename_i h4; omega
  · show (Array.replicate _ 32 ++ x.cps ++ Array.replicate 0 32).size = 4
    simp
    show (4 : Int).toNat - x.length + x.length = 4
    omega
theorem cut4 {s : Str} (h : s.length ≤ 4) : cutS (("    " : Str) ++ s) (some (-4)) none = Txt.rjust s 4 := by
  apply str_ext
  unfold cutS Txt.rjust
  have hl : (("    " : Str) ++ s).length = 4 + s.length := by rw [Str.length_append]; rfl
  have h1 : HT.sIx (("    " : Str) ++ s).length 0 (some (-4)) = s.length := by
    rw [hl]
    show (if (-4 : Int) < 0 then ((-4 : Int) + ((4 + s.length : Nat) : Int)).toNat else min (-4 : Int).toNat (4 + s.length)) = s.length
    rw [if_pos (by decide)]; omega
  rw [h1, HT.sIx_none, hl]
  have e4 : (("    " : Str)).cps.toList = List.replicate 4 32 := by decide
  apply Array.toList_inj.mp
  rw [append_cps, Array.toList_append, e4]
  have h5 : 4 + s.length - s.length = 4 := by omega
  rw [h5]
  have hs : s.cps.toList.length = s.length := by simp [Str.length]
  have e6 : (List.replicate 4 32 ++ s.cps.toList).drop s.length = List.replicate (4 - s.length) 32 ++ s.cps.toList := by
    rw [List.drop_append_of_le_length (by simp; exact h), List.drop_replicate]
  rw [e6, List.take_of_length_le (by rw [List.length_append, List.length_replicate, hs]; omega)]
  split
  · rename_i h4
    have : 4 - s.length = 0 := by omega
    rw [this]; rfl
  · show _ = (Array.replicate ((4 : Int).toNat - s.length) 32 ++ s.cps ++ Array.replicate 0 32).toList
    simp
/-! ### lengths -/
theorem sum_le {ys : List Nat} {B : Nat} (h : ∀ y ∈ ys, y ≤ B) : ys.sum ≤ ys.length * B := by
  induction ys with
  | nil => simp
  | cons y r ih =>
    have h1 := h y List.mem_cons_self
    have h2 := ih fun x hx => h x (List.mem_cons_of_mem _ hx)
    rw [List.sum_cons, List.length_cons, Nat.succ_mul]
    omega
theorem join_len (a : Str) : ∀ ys : List Str, (Txt.join a ys).length ≤ (ys.map (·.length)).sum + ys.length * a.length
  | [] => by
    show (Txt.join a []).length ≤ 0 + 0 * a.length
    have : (Txt.join a []).length = 0 := rfl
    omega
  | [x] => by
    have : Txt.join a [x] = x := by rw [TL.join_eq]; rfl
    rw [this]
    simp
  | x :: y :: r => by
    have e : Txt.join a (x :: y :: r) = x ++ a ++ Txt.join a (y :: r) := by rw [TL.join_eq, TL.join_eq]; rfl
    have ih := join_len a (y :: r)
    rw [e, Str.length_append, Str.length_append, List.map_cons, List.sum_cons, List.length_cons, Nat.succ_mul]
    omega
theorem fits_join {a : Str} {ys : List Str} {B n : Nat} (h : ∀ y ∈ ys, y.length ≤ B) (hn : ys.length ≤ n) (hs : n * (B + a.length) ≤ 16777216) : (ys.map (·.length)).sum + ys.length * a.length ≤ 16777216 ∧ (Txt.join a ys).length ≤ n * (B + a.length) := by
  have h1 : (ys.map (·.length)).sum ≤ (ys.map (·.length)).length * B := sum_le fun y hy => by
    obtain ⟨z, hz, rfl⟩ := List.mem_map.mp hy
    exact h z hz
  rw [List.length_map] at h1
  have h2 := join_len a ys
  have h3 : ys.length * (B + a.length) ≤ n * (B + a.length) := Nat.mul_le_mul_right _ hn
  rw [Nat.mul_add] at h3
  omega
/-! ### names, in general -/
def okName (z : Str) : Bool := decide (1 ≤ z.length) && (decide (z.length ≤ 8) && z.cps.toList.all fun c => decide (97 ≤ c ∧ c ≤ 122))
theorem okName_iff {z : Str} : okName z = true ↔ Good z := by
  unfold okName
  rw [Bool.and_eq_true, Bool.and_eq_true, decide_eq_true_iff, decide_eq_true_iff, List.all_eq_true]
  exact ⟨fun ⟨a, b, c⟩ => ⟨a, b, fun x hx => of_decide_eq_true (c x hx)⟩, fun h => ⟨h.pos, h.le, fun x hx => decide_eq_true (h.let_ x hx)⟩⟩
def badName (ns : List Str) (i : Nat) : Bool := match ns[i]? with | some x => !okName x || decide (x ∈ ns.take i) | none => false
def firstBad (ns : List Str) : Option Nat := (List.range ns.length).find? (badName ns)
theorem firstBad_some {ns : List Str} {i : Nat} (hi : i < ns.length) (h1 : badName ns i = true) (h2 : ∀ j, j < i → badName ns j = false) : firstBad ns = some i := by
  unfold firstBad
  rw [List.find?_range_eq_some]
  exact ⟨h1, List.mem_range.mpr hi, fun j hj => by rw [h2 j hj]; rfl⟩
theorem firstBad_none {ns : List Str} (h2 : ∀ j, j < ns.length → badName ns j = false) : firstBad ns = none := by
  unfold firstBad
  rw [List.find?_eq_none]
  intro j hj
  rw [h2 j (List.mem_range.mp hj)]
  exact Bool.false_ne_true
theorem firstBad_none_iff {ns : List Str} : firstBad ns = none ↔ (∀ x ∈ ns, Good x) ∧ ns.Nodup := by
  unfold firstBad
  rw [List.find?_eq_none]
  constructor
  · intro h
    have hb : ∀ i (hi : i < ns.length), Good ns[i] ∧ ns[i] ∉ ns.take i := fun i hi => by
      have := h i (List.mem_range.mpr hi)
      unfold badName at this
      rw [List.getElem?_eq_getElem hi] at this
      simp at this
      exact ⟨okName_iff.mp this.1, this.2⟩
    refine ⟨fun x hx => ?_, ?_⟩
    · obtain ⟨i, hi, rfl⟩ := List.getElem_of_mem hx
      exact (hb i hi).1
    · rw [List.nodup_iff_pairwise_ne, List.pairwise_iff_getElem]
      intro i j hi hj hij e
      refine (hb j hj).2 ?_
      rw [← e]
      exact List.mem_take_iff_getElem.mpr ⟨i, by omega, rfl⟩
  · rintro ⟨h1, h2⟩ i hi
    have hi := List.mem_range.mp hi
    unfold badName
    rw [List.getElem?_eq_getElem hi]
    have a := okName_iff.mpr (h1 _ (List.getElem_mem hi))
    have b : ns[i] ∉ ns.take i := fun hm => by
      obtain ⟨j, hj, e⟩ := List.mem_take_iff_getElem.mp hm
      rw [List.nodup_iff_pairwise_ne, List.pairwise_iff_getElem] at h2
      exact h2 j i (by omega) hi (by omega) e
    simp [a, b]
/-! ### strip -/
theorem strip_all {x y : Str} : Txt.stripChars x y = Str.empty ↔ ∀ c ∈ x.cps.toList, y.cps.contains c = true := by
  obtain ⟨a0, a1, a2⟩ := PyProof.Rows.lo_facts y.cps.contains x
  obtain ⟨b0, b1, b2, b3⟩ := PyProof.Rows.hi_facts y.cps.contains x (PySem.stripLo y.cps.contains true x) a0
  unfold Txt.stripChars
  rw [PyProof.Rows.stripBy_eq]
  generalize PySem.stripLo y.cps.contains true x = lo at *
  generalize PySem.stripHi y.cps.contains true x lo = hi at *
  have hl : (Builtin.Str.strSub x lo hi).length = hi - lo := by
    show (x.cps.extract lo hi).size = hi - lo
    rw [Array.size_extract]
    have : x.cps.size = x.length := rfl
    rw [this]
    have := b1
    omega
  have gd : ∀ k (hk : k < x.length), x.cps.getD k 0 = x.cps[k]'hk := fun k hk => by
    show x.cps.getD k 0 = _
    unfold Array.getD
    exact dif_pos hk
  constructor
  · intro e c hc
    rw [e] at hl
    have hl : 0 = hi - lo := hl
    rw [Array.mem_toList_iff] at hc
    obtain ⟨k, hk, rfl⟩ := Array.getElem_of_mem hc
    by_cases h : k < lo
    · have := a1 k h; rw [gd k hk] at this; exact this
    · have := b2 k (by omega) hk; rw [gd k hk] at this; exact this
  · intro h
    have lo_eq : lo = x.length := by
      rcases a2 with e | e
      · exact e
      · by_cases hlt : lo < x.length
        · rw [gd lo hlt, h _ (by rw [Array.mem_toList_iff]; exact Array.getElem_mem hlt)] at e; cases e
        · omega
    have : hi - lo = 0 := by omega
    rw [this] at hl
    apply str_ext
    exact Array.eq_empty_of_size_eq_zero hl
theorem alpha_has : ∀ c : Nat, (("abcdefghijklmnopqrstuvwxyz" : Str)).cps.contains c = true ↔ 97 ≤ c ∧ c ≤ 122 := by
  intro c
  rw [Array.contains_iff_mem]
  have e : (("abcdefghijklmnopqrstuvwxyz" : Str)).cps.toList = (List.range 26).map (97 + ·) := by decide +kernel
  rw [← Array.mem_toList_iff, e, List.mem_map]
  constructor
  · rintro ⟨a, ha, rfl⟩
    have := List.mem_range.mp ha
    omega
  · rintro ⟨h1, h2⟩
    exact ⟨c - 97, List.mem_range.mpr (by omega), by omega⟩
theorem strip_ok {z : Str} : Txt.stripChars z "abcdefghijklmnopqrstuvwxyz" = Str.empty ↔ Letters z.cps.toList := by
  rw [strip_all]
  exact ⟨fun h c hc => (alpha_has c).mp (h c hc), fun h c hc => (alpha_has c).mpr (h c hc)⟩
theorem empty_eq : ("" : Str) = Str.empty := by decide
theorem okName_and {z : Str} : okName z = true ↔ Txt.stripChars z "abcdefghijklmnopqrstuvwxyz" = ("" : Str) ∧ (0 < z.length ∧ z.length < 9) := by
  rw [okName_iff, empty_eq, strip_ok]
  exact ⟨fun g => ⟨g.let_, by have := g.pos; omega, by have := g.le; omega⟩, fun ⟨a, b, c⟩ => ⟨by omega, by omega, a⟩⟩
/-- // by any divisor but 0 below 2 ^ 9000 -/
def CDivX (_ j : Int) : Prop := j ≠ 0 ∧ j.natAbs < 2 ^ 9000
theorem op_fdivX {X : Cx} : OpR X (binaryOp .FloorDiv) (rI CDivX fun i j => .int (i.fdiv j)) := opI fun i j _ _ _ _ _ hc q =>
  PyProof.Rows.floordiv_int hc.1 q (.inl (PyProof.noPylong_of_log2 (PySem.Flt.log2_lt_of (by decide) hc.2)))
theorem itN {c A B : Prop} [Decidable c] (hc : ¬ c) (h : B) : if decide c = true then A else B := by
  rw [decide_eq_false hc]; exact iteF h
theorem itY {c A B : Prop} [Decidable c] (hc : c) (h : A) : if decide c = true then A else B := by
  rw [decide_eq_true hc]; exact iteT h
theorem ifT {b : Bool} {A B : Prop} (hb : b = true) (h : A) : if b = true then A else B := by rw [if_pos hb]; exact h
theorem ifF {b : Bool} {A B : Prop} (hb : b = false) (h : B) : if b = true then A else B := by rw [if_neg (by rw [hb]; decide)]; exact h
theorem same_new {H : Hp} {l : Addr} {o : HO} (h : H l = none) : Same H (upd H l o) := fun b u e => by rw [upd_ne (ne_of_none e h)]; exact e
theorem _root_.L2.Same.tup {K : PySem.W.Frag} {H H' : Hp} {a : Addr} {xs : List V} (e : Same H H') (h : SqT K H a xs) : SqT K H' a xs := by
  rcases h with (r | ⟨o, r⟩) | z
  · exact .inl (.inl (e _ _ r))
  · exact .inl (.inr ⟨o, e _ _ r⟩)
  · exact .inr z
/-! ### a comprehension's list -/
/-- the heap H1 has grown, at D stands fm i -/
def PvS (H1 : Hp) (D : Addr) (fm : Nat → List V) (i : Nat) (H : Hp) : Prop := Same H1 H ∧ H D = some (.lst (fm i))
theorem pv0 {H1 : Hp} {D : Addr} {fm : Nat → List V} (hD : H1 D = none) (h : fm 0 = []) : PvS H1 D fm 0 (upd H1 D (.lst [])) := ⟨same_new hD, by rw [h]; exact upd_same⟩
theorem PvS.more {H1 H H' : Hp} {D : Addr} {fm : Nat → List V} {i : Nat} (p : PvS H1 D fm i H) (s : Same H H') : PvS H1 D fm i H' := ⟨p.1.trans s, s _ _ p.2⟩
theorem PvS.push {H1 H : Hp} {D : Addr} {fm : Nat → List V} {i : Nat} {y : V} (p : PvS H1 D fm i H) (hD : H1 D = none) (h : fm (i + 1) = fm i ++ [y]) (hl : (fm i).length ≤ 1000000) :
    ∃ acc, H D = some (.lst acc) ∧ acc.length < sizeLine ∧ PvS H1 D fm (i + 1) (upd H D (.lst (acc ++ [y]))) := by
  refine ⟨fm i, p.2, Nat.lt_of_le_of_lt hl (by decide), fun b o e => ?_, ?_⟩
  · rw [upd_ne (ne_of_none e hD)]; exact p.1 _ _ e
  · rw [h]; exact upd_same
theorem PvS.skip {H1 H : Hp} {D : Addr} {fm : Nat → List V} {i : Nat} (p : PvS H1 D fm i H) (h : fm (i + 1) = fm i) : PvS H1 D fm (i + 1) H := ⟨p.1, by rw [h]; exact p.2⟩
theorem small_int {n : Nat} (h : n ≤ 1000000) : n < sizeLine := Nat.lt_of_le_of_lt h (by decide)
theorem take_succ {α : Type} {xs : List α} {i : Nat} {x : α} (h : xs[i]? = some x) : xs.take (i + 1) = xs.take i ++ [x] := by
  rw [List.take_succ, h]; rfl
theorem not_take {ns : List Str} {i : Nat} {z : Str} (nd : ns.Nodup) (hz : ns[i]? = some z) : z ∉ ns.take i := by
  intro hm
  obtain ⟨j, hj, e⟩ := List.mem_take_iff_getElem.mp hm
  obtain ⟨hi, e2⟩ := List.getElem?_eq_some_iff.mp hz
  rw [List.nodup_iff_pairwise_ne, List.pairwise_iff_getElem] at nd
  exact nd j i (by omega) hi (by omega) (e.trans e2.symm)
theorem itNe {A B : Prop} {x y : V} (h : x = y) (h2 : B) : if (!decide (x = y)) = true then A else B := by
  rw [decide_eq_true h]; exact iteF h2
theorem itNeN {A B : Prop} {x y : V} (h : x ≠ y) (h2 : A) : if (!decide (x = y)) = true then A else B := by
  rw [decide_eq_false h]; exact iteT h2
/-- a def that may raise -/
theorem funX {P : Program} {w : World} {K : PySem.W.Frag} {mg : Str → Option Value} {base : Heap} {CX : CXT} {x qual : Str} {st : Stmt} {f : Addr} {fd : FuncData} {N ps : List Str} {k : Nat} {sp : Sp} (F : Fun K x qual st f fd) (S : FnScope N ps (defScope st)) (len : ∀ vs H Q E, sp vs H Q E → vs.length = ps.length)
    (hbody : ∀ (cdv : Value) (A : Around) (outer : List Env) (s : Shared) (H : Hp) (vs : List V) (Q : VK) (E : XK), Room k (A.deeper (PyProof.Rows.envOfC qual (defScope st) s.heap.objs.size f cdv)) → sp vs H Q E →
      ∃ t, PSs (cxOf CX P w K mg base N qual (defScope st) f cdv A outer s H E) (defBody st) t ∧ t { nx := fun _ H' => Q .non H', rt := Q } (L2.start N vs) H) : FnOk P w K mg base CX (k + 1) f fd ps sp := by
  obtain ⟨oc, od, kV, doc, pm, an, cdv, ct, osl, rfl, lk, hcd⟩ := F.ex
  exact fn_of lk hcd S len fun A outer s H vs Q E hr hsp => hbody cdv A outer s H vs Q E hr hsp
theorem seq_upd {K : PySem.W.Frag} {H : Hp} {a b : Addr} {xs : List V} {u o : HO} (h : SqL K H a xs) (hb : H b = some u) (h1 : ∀ ys, u ≠ .lst ys) (h2 : ∀ c d, u ≠ .frz c d) : SqL K (upd H b o) a xs := by
  rcases h with (r | ⟨c, r⟩) | z
  · exact .inl (.inl (by rw [upd_ne (ne_of r hb (fun z => h1 _ z.symm))]; exact r))
  · exact .inl (.inr ⟨c, by rw [upd_ne (ne_of r hb (fun z => h2 _ _ z.symm))]; exact r⟩)
  · exact .inr z
/-! ### tables -/
theorem krc : ¬ (("columns" : Str) = "rows") := by decide +kernel
def fldsT (ct rt : Addr) : List (Str × V) := putF "rows" (.ref rt) (putF "columns" (.ref ct) [])
theorem fldsT_columns (ct rt : Addr) : (fldsT ct rt).lookup ("columns" : Str) = some (.ref ct) := by
  unfold fldsT; rw [lookup_putF, if_neg krc, lookup_putF, if_pos rfl]
theorem fldsT_rows (ct rt : Addr) : (fldsT ct rt).lookup ("rows" : Str) = some (.ref rt) := by
  unfold fldsT; rw [lookup_putF, if_pos rfl]
/-- at ts stand the lists (or tuples) of texts rs -/
structure Lss (f : List V → HO) (H : Hp) (ts : List Addr) (rs : List (List Str)) : Prop where
  len : ts.length = rs.length
  at_ : ∀ (i : Nat) (t : Addr) (r : List Str), ts[i]? = some t → rs[i]? = some r → H t = some (f (sv r))
theorem Lss.same {f : List V → HO} {H H' : Hp} {ts : List Addr} {rs : List (List Str)} (h : Lss f H ts rs) (e : Same H H') : Lss f H' ts rs := ⟨h.len, fun i t x a b => e _ _ (h.at_ i t x a b)⟩
theorem Lss.nil {f : List V → HO} {H : Hp} : Lss f H [] [] := ⟨rfl, fun i t x h => by simp at h⟩
theorem Lss.app {f : List V → HO} {H : Hp} {ts : List Addr} {rs : List (List Str)} {t : Addr} {r : List Str} (h : Lss f H ts rs) (ht : H t = some (f (sv r))) : Lss f H (ts ++ [t]) (rs ++ [r]) := by
  refine ⟨by rw [List.length_append, List.length_append, h.len]; rfl, fun i u y a b => ?_⟩
  rcases Nat.lt_trichotomy i ts.length with c | c | c
  · rw [List.getElem?_append_left c] at a
    rw [List.getElem?_append_left (by rw [← h.len]; exact c)] at b
    exact h.at_ i u y a b
  · rw [c, List.getElem?_append_right (Nat.le_refl _), Nat.sub_self] at a
    rw [c, h.len, List.getElem?_append_right (Nat.le_refl _), Nat.sub_self] at b
    cases a; cases b; exact ht
  · rw [List.getElem?_append_right (by omega), List.getElem?_eq_none (by simp; omega)] at a
    cases a
theorem Lss.get {f : List V → HO} {H : Hp} {ts : List Addr} {rs : List (List Str)} (h : Lss f H ts rs) {i : Nat} {t : Addr} (hi : ts[i]? = some t) : ∃ r, rs[i]? = some r ∧ H t = some (f (sv r)) := by
  have hx : i < rs.length := by rw [← h.len]; exact (List.getElem?_eq_some_iff.mp hi).1
  exact ⟨rs[i], List.getElem?_eq_getElem hx, h.at_ i _ _ hi (List.getElem?_eq_getElem hx)⟩
theorem refs_get {ts : List Addr} {i : Nat} {v : V} (h : (ts.map V.ref)[i]? = some v) : ∃ t, ts[i]? = some t ∧ v = .ref t := by
  rw [List.getElem?_map] at h
  cases e : ts[i]? with
  | none => rw [e] at h; cases h
  | some t => rw [e] at h; exact ⟨t, rfl, (Option.some.inj h).symm⟩
/-- the row in the columns' sequence -/
def canon (cs r : List Str) : List Str := cs.filter fun x => decide (x ∈ r)
theorem canon_T {l r : List Str} {z : Str} (hm : z ∈ r) : canon (l ++ [z]) r = canon l r ++ [z] := by
  unfold canon; rw [List.filter_append]; simp [hm]
theorem canon_F {l r : List Str} {z : Str} (hm : z ∉ r) : canon (l ++ [z]) r = canon l r := by
  unfold canon; rw [List.filter_append]; simp [hm]
theorem Lss.updT {H : Hp} {ts : List Addr} {rs : List (List Str)} {l : Addr} {u o : HO} (h : Lss .tup H ts rs) (hl : H l = some u) (hu : ∀ xs, u ≠ .tup xs) : Lss .tup (upd H l o) ts rs := ⟨h.len, fun i t x a b => by
  have := h.at_ i t x a b
  rw [upd_ne (ne_of this hl (fun z => hu _ z.symm))]
  exact this⟩
/-- the table with the columns cs and the rows rs stands at p -/
def Tb (C : Addr) (H : Hp) (p : Addr) (cs : List Str) (rs : List (List Str)) : Prop :=
  ∃ dx ct rt ts, H p = some (.ins C dx (fldsT ct rt)) ∧ H ct = some (.tup (sv cs)) ∧ H rt = some (.tup (ts.map V.ref)) ∧ Lss .tup H ts (rs.map (canon cs))
theorem Tb.same {C : Addr} {H H' : Hp} {p : Addr} {cs : List Str} {rs : List (List Str)} (h : Tb C H p cs rs) (e : Same H H') : Tb C H' p cs rs :=
  let ⟨dx, ct, rt, ts, h1, h2, h3, h4⟩ := h; ⟨dx, ct, rt, ts, e _ _ h1, e _ _ h2, e _ _ h3, h4.same e⟩
theorem exc_same {H : Hp} {a d : Addr} {o1 o2 o3 o4 : HO} (ha : H a = none) (hd : H d = none) : Same H (upd (L2.del (upd (upd (upd H a o1) d o2) a o3) a) d o4) := fun b o e => by
  rw [upd_ne (ne_of_none e hd), L2.del_ne (ne_of_none e ha), upd_ne (ne_of_none e ha), upd_ne (ne_of_none e hd), upd_ne (ne_of_none e ha)]
  exact e
theorem fault_lt {cs ns : List Str} {i : Nat} (h : fault cs ns = some i) : i ≤ ns.length := by
  unfold fault at h
  cases hs : stray cs ns with
  | some j =>
    rw [hs] at h
    cases h
    unfold stray at hs
    rw [List.find?_range_eq_some] at hs
    exact Nat.le_of_lt (List.mem_range.mp hs.2.1)
  | none =>
    rw [hs] at h
    have h : (if ns.length < cs.length then some ns.length else none) = some i := h
    split at h
    · cases h; exact Nat.le_refl _
    · cases h
section
variable {K : PySem.W.Frag}
theorem passS0 {X : Cx} : ∀ σ, PassesAt CX0 X σ ((fun _ => E0) σ) := fun _ _ _ _ _ _ _ h => h.elim
theorem fnIn_of {x qual : Str} {st : Stmt} {f : Addr} {fd : FuncData} (F : Fun K x qual st f fd) : PySem.W.fnIn K f = true := by
  obtain ⟨oc, od, kV, doc, pm, an, cdv, ct, osl, rfl, lk, hcd⟩ := F.ex
  unfold PySem.W.fnIn
  rw [lk]
end
section
variable {P : Program} {w : World} {K : PySem.W.Frag} {mg : Str → Option Value} {base : Heap}
/-- a promise under which nothing is raised -/
theorem quiet {k : Nat} {f : Addr} {fd : FuncData} {ps : List Str} {sp sp' : Sp} (F : FnOk P w K mg base (L2.CX P w) k f fd ps sp) (h : ∀ vs H Q E, sp' vs H Q E → sp vs H Q E0) : FnOk P w K mg base CX0 k f fd ps sp' :=
  ⟨fun vs H Q E q => F.len _ _ _ _ (h _ _ _ _ q), fun A outer s H args us vs Q E hr he hb hv hs => codeAny_mono (F.run A outer s H args us vs Q E0 hr he hb hv (h _ _ _ _ hs)) fun r s' g => by
    cases r with
    | ok fl => cases fl <;> exact g
    | error e => obtain ⟨_, _, _, _, _, _, _, _, _, _, _, _, z⟩ := g; exact z.elim⟩
/-- two promises of one def -/
theorem fnok_or {CX : CXT} {k : Nat} {f : Addr} {fd : FuncData} {ps : List Str} {sp sp' : Sp} (F : FnOk P w K mg base CX k f fd ps sp) (G : FnOk P w K mg base CX k f fd ps sp') : FnOk P w K mg base CX k f fd ps (fun vs H Q E => sp vs H Q E ∨ sp' vs H Q E) :=
  ⟨fun vs H Q E h => h.elim (F.len vs H Q E) (G.len vs H Q E), fun A outer s H args us vs Q E hr he hb hv hs => hs.elim (F.run A outer s H args us vs Q E hr he hb hv) (G.run A outer s H args us vs Q E hr he hb hv)⟩
end
theorem hu65 {A : Around} {k : Nat} (hr : Room k A) : A.units + 65 < cLine := by have := hr.un; omega
theorem cut_sv (os : List Str) (lo hi : Option Int) : ∃ ys : List Str, cutV (sv os) lo hi = sv ys ∧ ys.Sublist os := by
  unfold cutV
  rw [sv_drop, sv_take]
  exact ⟨_, rfl, (List.take_sublist _ _).trans (List.drop_sublist _ _)⟩
theorem sv_app (a b : List Str) : sv a ++ sv b = sv (a ++ b) := List.map_append.symm
/-- texts that can be laid -/
abbrev Okz (z : Str) : Prop := PyData.canLay0 (.str z) = true
theorem okz_good {z : Str} (h : Good z) : Okz z := by
  show PyData.canLay0 (.str z) = true
  unfold PyData.canLay0 PyData.strOk
  rw [Array.all_eq_true]
  intro i hi
  have := h.let_ z.cps[i] (by rw [Array.mem_toList_iff]; exact Array.getElem_mem hi)
  exact decide_eq_true (by omega)
abbrev pd (ss : List Str) : List PyData := ss.map PyData.str
theorem lay_all {ss : List Str} (h : ∀ z ∈ ss, Okz z) : PyData.canLayAll0 (pd ss) = true := by
  induction ss with
  | nil => rfl
  | cons a t ih =>
    show (PyData.canLay0 (.str a) && PyData.canLayAll0 (pd t)) = true
    rw [h a List.mem_cons_self, ih fun z hz => h z (List.mem_cons_of_mem _ hz)]; rfl
theorem depth_pd : ∀ ss : List Str, PyData.depthAll (pd ss) ≤ 1
  | [] => by simp [PyData.depthAll]
  | n :: r => by
    have e : PyData.depthAll (r.map PyData.str) ≤ 1 := depth_pd r
    simp only [List.map_cons, PyData.depthAll, PyData.depth]
    omega
theorem shaped_pd {ss : List Str} (h : ∀ z ∈ ss, Okz z) : SeqAt.shaped (.list (pd ss)) = true := by
  have h1 := depth_pd ss
  show (PyData.canLay0 (.list (pd ss)) && decide (PyData.depth (.list (pd ss)) ≤ 64)) = true
  rw [Bool.and_eq_true]
  exact ⟨by simp only [PyData.canLay0]; exact lay_all h, decide_eq_true (by simp only [PyData.depth]; omega)⟩
theorem dp_pd {K : PySem.W.Frag} {H : Hp} : ∀ ss : List Str, DpAll K H (sv ss) (pd ss)
  | [] => .nil
  | s :: r => .cons (.str s) (dp_pd r)
theorem eqv_pd {ss : List Str} (h : ∀ z ∈ ss, Okz z) : PyData.eqv (.list (pd ss)) (.list (pd ss)) = true := SeqAt.eqv_refl _ (by simp only [PyData.canLay0]; exact lay_all h)
theorem dpAll_bl {K : PySem.W.Frag} {H : Hp} : ∀ bs : List Bool, DpAll K H (bs.map V.bl) (bs.map PyData.bool)
  | [] => .nil
  | b :: bs => .cons (.bl b) (dpAll_bl bs)
theorem exm_self {K : PySem.W.Frag} {C : Addr} (hb : PySem.W.subIn K (.ref C) (.type "BaseException") = some true) (hi : PySem.W.isClsIn K C = true) (ht : PySem.W.typeIn K (.ref C) = some (.type "type")) (hs : PySem.W.subIn K (.ref C) (.ref C) = some true) :
    PySem.W.exmOne K (.ref C) (.ref C) = some true := by
  unfold PySem.W.exmOne
  rw [hb, if_pos (by rfl)]
  show (if ((PySem.W.clsIn K C).isSome && PySem.W.typeIn K (.ref C) == some (.type "type")) = true then _ else _) = _
  rw [if_pos (by
    rw [ht]
    have : (PySem.W.clsIn K C).isSome = true := hi
    rw [this]; simp)]
  exact hs
theorem nd_len : ∀ (x cs : List Str), x.Nodup → (∀ y ∈ x, y ∈ cs) → x.length ≤ cs.length
  | [], _, _, _ => Nat.zero_le _
  | a :: t, cs, nd, h => by
    have nd := List.nodup_cons.mp nd
    have hp := List.perm_cons_erase (h a List.mem_cons_self)
    have := nd_len t (cs.erase a) nd.2 fun y hy => by
      have hy' := h y (List.mem_cons_of_mem _ hy)
      exact (List.mem_erase_of_ne (fun e => nd.1 (by rw [← e]; exact hy))).mpr hy'
    have e := hp.length_eq
    rw [List.length_cons] at e ⊢
    omega
theorem at_sv {ss : List Str} {j : Int} (h0 : 0 ≤ j) (h1 : j < ss.length) : ∃ z, z ∈ ss ∧ atI (sv ss) j = some (V.str z) := by
  obtain ⟨n, rfl⟩ := Int.eq_ofNat_of_zero_le h0
  have hn : n < ss.length := by omega
  exact ⟨ss[n], List.getElem_mem hn, atI_nat (by rw [List.getElem?_map, List.getElem?_eq_getElem hn]; rfl)⟩
theorem sv3 (a b : List Str) (x : Str) : sv a ++ [V.str x] ++ sv b = sv (a ++ [x] ++ b) := by simp [sv]
theorem mulW {i j : Int} (hi : i.natAbs < 2 ^ 9000) (hj : j.natAbs < 2 ^ 9000) : CMulW i j := wide_mul hi hj (by decide) (by decide) (by decide)
theorem atI_ok {xs : List Int} {j : Int} (h0 : 0 ≤ j) (h1 : j < xs.length) : ∃ v, v ∈ xs ∧ atI (xs.map V.int) j = some (V.int v) := by
  have hj : j.toNat < xs.length := by omega
  refine ⟨xs[j.toNat], List.getElem_mem hj, ?_⟩
  have e : (xs.map V.int)[j.toNat]? = some (V.int xs[j.toNat]) := by rw [List.getElem?_map, List.getElem?_eq_getElem hj]; rfl
  have := atI_nat e
  rw [show ((j.toNat : Nat) : Int) = j by omega] at this
  exact this
theorem len_map_int (xs : List Int) : (xs.map V.int).length = xs.length := List.length_map ..
/-- a pool of draws -/
def Pool (ns : List Int) : Prop := ∀ x ∈ ns, 0 ≤ x ∧ x < 27720
theorem Pool.nil : Pool [] := fun x h => nomatch h
theorem Pool.app {ns : List Int} {x : Int} (h : Pool ns) (h0 : 0 ≤ x) (h1 : x < 27720) : Pool (ns ++ [x]) := fun y hy => by
  rcases List.mem_append.mp hy with hy | hy
  · exact h y hy
  · cases List.mem_singleton.mp hy; exact ⟨h0, h1⟩
theorem upd_app {H : Hp} {l : Addr} {ps : List Int} {x : Int} : upd (upd H l (.lst (ps.map V.int))) l (.lst (ps.map V.int ++ [V.int x])) = upd H l (.lst ((ps ++ [x]).map V.int)) := by
  rw [upd_upd, List.map_append]
  rfl
theorem mod_sz {x m : Int} {k : Nat} (h : 0 < m) (hk : m.natAbs < 2 ^ k) : (x % m).natAbs < 2 ^ k := by
  have h1 := Int.emod_nonneg x (Int.ne_of_gt h)
  have h2 := Int.emod_lt_of_pos x h
  omega
/-! ### drawn names -/
theorem alpha_at : ∀ k : Fin 26, atI (("abcdefghijklmnopqrstuvwxyz" : Str)).cps.toList ((k.val : Nat) : Int) = some (97 + k.val) := by decide +kernel
theorem alpha_ix : ∀ k : Fin 26, Builtin.Str.occurrences ("abcdefghijklmnopqrstuvwxyz" : Str) ⟨#[97 + k.val]⟩ 0 (("abcdefghijklmnopqrstuvwxyz" : Str)).length 1 = [k.val] := by decide +kernel
theorem alpha_len : (("abcdefghijklmnopqrstuvwxyz" : Str)).length ≤ sizeLine := by decide
theorem Letters.app {l m : List Nat} (h : Letters l) (k : Letters m) : Letters (l ++ m) := fun c hc => (List.mem_append.mp hc).elim (h c) (k c)
theorem Letters.one {c : Nat} (h0 : 97 ≤ c) (h1 : c ≤ 122) : Letters [c] := fun d hd => by rw [List.mem_singleton.mp hd]; exact ⟨h0, h1⟩
/-- the word whose last sign has gone t signs on -/
def wat (pre : List Nat) (c t : Nat) : Str := ⟨(pre ++ [97 + (c - 97 + t) % 26]).toArray⟩
theorem wat_len {pre : List Nat} {c t : Nat} : (wat pre c t).length = pre.length + 1 := by
  show ((pre ++ [97 + (c - 97 + t) % 26]).toArray).size = _
  rw [List.size_toArray, List.length_append]; rfl
theorem wat_last {pre : List Nat} {c t : Nat} : atI (wat pre c t).cps.toList (-1) = some (97 + (c - 97 + t) % 26) := by
  show atI (pre ++ [97 + (c - 97 + t) % 26]) (-1) = _
  unfold atI ixN
  rw [if_neg (by decide)]
  have h1 : ((pre ++ [97 + (c - 97 + t) % 26]).length : Int) = (pre.length : Int) + 1 := by rw [List.length_append]; rfl
  have e : (-1 + ((pre ++ [97 + (c - 97 + t) % 26]).length : Int)).toNat = pre.length := by omega
  rw [if_pos (by omega), e]
  simp
theorem wat_next {pre : List Nat} {c t : Nat} : wat pre c (t + 1) = cutS (wat pre c t) none (some (-1)) ++ (⟨#[97 + ((c - 97 + t) % 26 + 1) % 26]⟩ : Str) := by
  apply str_ext
  apply Array.toList_inj.mp
  rw [append_cps, Array.toList_append]
  show pre ++ [97 + (c - 97 + (t + 1)) % 26] = (((pre ++ [97 + (c - 97 + t) % 26]).drop 0).take _) ++ [97 + ((c - 97 + t) % 26 + 1) % 26]
  have h2 : HT.sIx (wat pre c t).length (wat pre c t).length (some (-1)) - HT.sIx (wat pre c t).length 0 none = pre.length := by
    rw [wat_len]
    unfold HT.sIx
    simp
    omega
  rw [h2, List.drop_zero, List.take_left]
  have : (c - 97 + (t + 1)) % 26 = ((c - 97 + t) % 26 + 1) % 26 := by omega
  rw [this]
theorem nodup_le {l : List Str} : ∀ {m : List Str}, l.Nodup → (∀ x ∈ l, x ∈ m) → l.length ≤ m.length := by
  induction l with
  | nil => intro m _ _; exact Nat.zero_le _
  | cons a t ih =>
    intro m nd h
    rw [List.nodup_cons] at nd
    have ha := h a List.mem_cons_self
    have := ih (m := m.erase a) nd.2 fun x hx => (List.mem_erase_of_ne (fun e => nd.1 (by rw [← e]; exact hx))).mpr (h x (List.mem_cons_of_mem _ hx))
    rw [List.length_erase_of_mem ha] at this
    have : 0 < m.length := List.length_pos_of_mem ha
    rw [List.length_cons]
    omega
theorem wat_many {pre : List Nat} {c : Nat} {ns : List Str} (h : ∀ t, t < 26 → wat pre c t ∈ ns) : 26 ≤ ns.length := by
  have nd : ((List.range 26).map (wat pre c)).Nodup := by
    rw [List.nodup_iff_pairwise_ne, List.pairwise_map]
    refine List.Pairwise.imp_of_mem (fun {a b} ha hb hab e => hab ?_) (List.nodup_iff_pairwise_ne.mp List.nodup_range)
    have e1 : pre ++ [97 + (c - 97 + a) % 26] = pre ++ [97 + (c - 97 + b) % 26] := congrArg (fun z : Str => z.cps.toList) e
    have e2 := List.append_cancel_left e1
    have e3 : 97 + (c - 97 + a) % 26 = 97 + (c - 97 + b) % 26 := List.head_eq_of_cons_eq e2
    have := List.mem_range.mp ha
    have := List.mem_range.mp hb
    omega
  have := nodup_le nd fun x hx => by
    obtain ⟨t, ht, rfl⟩ := List.mem_map.mp hx
    exact h t (List.mem_range.mp ht)
  rw [List.length_map, List.length_range] at this
  exact this
theorem sv_inj {a b : List Str} (h : sv a = sv b) : a = b := by
  have : ∀ {a b : List Str}, sv a = sv b → a = b := fun {a b} => by
    intro h
    induction a generalizing b with
    | nil => cases b with | nil => rfl | cons _ _ => cases h
    | cons x t ih =>
      cases b with
      | nil => cases h
      | cons y u =>
        have h1 := List.cons.inj h
        rw [V.str.inj h1.1, ih h1.2]
  exact this h
theorem sv_snoc (l : List Str) (x : Str) : sv (l ++ [x]) = sv l ++ [V.str x] := List.map_append
theorem sEq {a b : Str} (h : a = b) : decide (V.str a = V.str b) = true := by rw [h]; exact decide_eq_true rfl
theorem sNe {a b : Str} (h : a ≠ b) : decide (V.str a = V.str b) = false := decide_eq_false fun e => h (V.str.inj e)
theorem iEq {a b : Int} (h : a = b) : decide (V.int a = V.int b) = true := by rw [h]; exact decide_eq_true rfl
theorem iNe {a b : Int} (h : a ≠ b) : decide (V.int a = V.int b) = false := decide_eq_false fun e => h (V.int.inj e)
theorem atR_of {us : List Addr} {i : Nat} {u : Addr} (h : us[i]? = some u) : atI (us.map V.ref) (i : Int) = some (V.ref u) := atI_nat (by rw [List.getElem?_map, h]; rfl)
theorem Lss.ex {f : List V → HO} {H : Hp} {us : List Addr} {ls : List (List Str)} (h : Lss f H us ls) {i : Nat} (hi : i < ls.length) : ∃ u w, us[i]? = some u ∧ ls[i]? = some w ∧ H u = some (f (sv w)) := by
  have hi' : i < us.length := by rw [h.len]; exact hi
  exact ⟨us[i], ls[i], List.getElem?_eq_getElem hi', List.getElem?_eq_getElem hi, h.at_ i _ _ (List.getElem?_eq_getElem hi') (List.getElem?_eq_getElem hi)⟩
theorem kit_F {K : PySem.W.Frag} {C D : Addr} (hi : PySem.W.isClsIn K D = true) (ht : PySem.W.typeIn K (.ref D) = some (.type "type")) (hs : PySem.W.subIn K (.ref C) (.ref D) = some false) (hss : PySem.W.subIn K (.ref C) (.ref C) = some true) : PySem.W.kitOne K (.ref C) (.ref D) = some false :=
  kit_own hi ht hs (.inl fun e => by rw [← e, hss] at hs; cases hs)
theorem exm_F {K : PySem.W.Frag} {C D : Addr} (hb : PySem.W.subIn K (.ref D) (.type "BaseException") = some true) (hi : PySem.W.isClsIn K D = true) (ht : PySem.W.typeIn K (.ref D) = some (.type "type")) (hs : PySem.W.subIn K (.ref C) (.ref D) = some false) : PySem.W.exmOne K (.ref C) (.ref D) = some false := by
  unfold PySem.W.exmOne
  rw [hb, if_pos (by rfl)]
  show (if ((PySem.W.clsIn K D).isSome && PySem.W.typeIn K (.ref D) == some (.type "type")) = true then _ else _) = _
  rw [if_pos (by
    rw [ht]
    have : (PySem.W.clsIn K D).isSome = true := hi
    rw [this]; simp)]
  exact hs
theorem pEq {a b : Bool} (h : a = b) : decide (V.bl a = V.bl b) = true := by rw [h]; exact decide_eq_true rfl
theorem pNe {a b : Bool} (h : a ≠ b) : decide (V.bl a = V.bl b) = false := decide_eq_false fun e => h (V.bl.inj e)
theorem sIx_lo {n k : Nat} (h : k ≤ n) : HT.sIx n 0 (some (k : Int)) = k := by rw [HT.sIx_nat, Nat.min_eq_left h]
theorem sIx_hi {n k : Nat} (h : k ≤ n) : HT.sIx n n (some (k : Int)) = k := by rw [HT.sIx_nat, Nat.min_eq_left h]
theorem layc {a : PyData} {r : List PyData} (h : PyData.canLay0 a = true) (k : PyData.canLayAll0 r = true) : PyData.canLayAll0 (a :: r) = true := by
  show (PyData.canLay0 a && PyData.canLayAll0 r) = true
  rw [h, k]; rfl
theorem lay_int (i : Int) : PyData.canLay0 (.int i) = true := by simp [PyData.canLay0]
theorem shapedL {xs : List PyData} (h1 : PyData.canLayAll0 xs = true) (h2 : PyData.depthAll xs ≤ 20) : SeqAt.shaped (.list xs) = true := by
  show (PyData.canLay0 (.list xs) && decide (PyData.depth (.list xs) ≤ 64)) = true
  rw [Bool.and_eq_true]
  exact ⟨by simp only [PyData.canLay0]; exact h1, decide_eq_true (by simp only [PyData.depth]; omega)⟩
theorem shapedT {xs : List PyData} (h1 : PyData.canLayAll0 xs = true) (h2 : PyData.depthAll xs ≤ 20) : SeqAt.shaped (.tuple xs) = true := by
  show (PyData.canLay0 (.tuple xs) && decide (PyData.depth (.tuple xs) ≤ 64)) = true
  rw [Bool.and_eq_true]
  exact ⟨by simp only [PyData.canLay0]; exact h1, decide_eq_true (by simp only [PyData.depth]; omega)⟩
theorem eqvL {xs : List PyData} (h1 : PyData.canLayAll0 xs = true) : PyData.eqv (.list xs) (.list xs) = true := SeqAt.eqv_refl _ (by simp only [PyData.canLay0]; exact h1)
theorem eqvT {xs : List PyData} (h1 : PyData.canLayAll0 xs = true) : PyData.eqv (.tuple xs) (.tuple xs) = true := SeqAt.eqv_refl _ (by simp only [PyData.canLay0]; exact h1)
theorem layL {xs : List PyData} (h1 : PyData.canLayAll0 xs = true) : PyData.canLay0 (.list xs) = true := by simp only [PyData.canLay0]; exact h1
theorem layT {xs : List PyData} (h1 : PyData.canLayAll0 xs = true) : PyData.canLay0 (.tuple xs) = true := by simp only [PyData.canLay0]; exact h1
theorem none_of {H H' : Hp} (s : Same H H') {a : Addr} (h : H' a = none) : H a = none := by
  cases e : H a with
  | none => rfl
  | some o => rw [s _ _ e] at h; cases h
theorem Lss.updNe {f : List V → HO} {H : Hp} {ts : List Addr} {rs : List (List Str)} {l : Addr} {o : HO} (h : Lss f H ts rs) (hne : ∀ (i : Nat) (t : Addr), ts[i]? = some t → t ≠ l) : Lss f (upd H l o) ts rs :=
  ⟨h.len, fun i t x a b => by rw [upd_ne (hne i t a)]; exact h.at_ i t x a b⟩
theorem ne_app {ts : List Addr} {a l : Addr} (h : ∀ (i : Nat) (t : Addr), ts[i]? = some t → t ≠ l) (ha : a ≠ l) : ∀ (i : Nat) (t : Addr), (ts ++ [a])[i]? = some t → t ≠ l := fun i t e => by
  rcases List.mem_append.mp (List.mem_of_getElem? e) with hm | hm
  · obtain ⟨j, hj, rfl⟩ := List.getElem_of_mem hm
    exact h j _ (List.getElem?_eq_getElem hj)
  · rw [List.mem_singleton.mp hm]; exact ha
theorem noT {r : Addr} : ∀ (i : Nat) (t : Addr), ([] : List Addr)[i]? = some t → t ≠ r := fun i t h => by simp at h
/-- a comprehension's list of new lists -/
def LcL (H1 : Hp) (D : Addr) (lls : List (List Str)) (H : Hp) : Prop := Same H1 H ∧ ∃ us : List Addr, H D = some (.lst (us.map V.ref)) ∧ Lss .lst H us lls ∧ ∀ (i : Nat) (t : Addr), us[i]? = some t → t ≠ D
theorem lcl0 {H1 : Hp} {D : Addr} (hD : H1 D = none) : LcL H1 D [] (upd H1 D (.lst [])) := ⟨same_new hD, [], upd_same, Lss.nil, noT⟩
theorem LcL.push {H1 H H' : Hp} {D a : Addr} {lls : List (List Str)} {y : List Str} (q : LcL H1 D lls H) (hD : H1 D = none) (s : Same H H') (ha : H' a = some (.lst (sv y))) (hne : a ≠ D) (hl : lls.length ≤ 1000001) :
    ∃ acc, H' D = some (.lst acc) ∧ acc.length < sizeLine ∧ LcL H1 D (lls ++ [y]) (upd H' D (.lst (acc ++ [.ref a]))) := by
  obtain ⟨sm, us, hd, hls, hn⟩ := q
  refine ⟨us.map V.ref, s _ _ hd, Nat.lt_of_le_of_lt (by rw [List.length_map, hls.len]; exact hl) (by decide), fun b o e => ?_, us ++ [a], ?_, ?_, ne_app hn hne⟩
  · rw [upd_ne (ne_of_none e hD)]; exact s _ _ (sm _ _ e)
  · rw [List.map_append]; exact upd_same
  · exact ((hls.same s).app ha).updNe (ne_app hn hne)
theorem LcL.new {H1 H : Hp} {D a : Addr} {lls : List (List Str)} {y : List Str} (q : LcL H1 D lls H) (hD : H1 D = none) (ha : H a = none) (hl : lls.length ≤ 1000001) :
    ∃ acc, (upd H a (.lst (sv y))) D = some (.lst acc) ∧ acc.length < sizeLine ∧ LcL H1 D (lls ++ [y]) (upd (upd H a (.lst (sv y))) D (.lst (acc ++ [.ref a]))) :=
  q.push hD (same_new ha) upd_same (by obtain ⟨_, us, hd, _⟩ := q; exact (ne_of_none hd ha).symm) hl

theorem okz_low {z : Str} (h : ∀ c ∈ z.cps.toList, c ≤ 122) : Okz z := by
  show PyData.canLay0 (.str z) = true
  unfold PyData.canLay0 PyData.strOk
  rw [Array.all_eq_true]
  intro i hi
  have := h z.cps[i] (by rw [Array.mem_toList_iff]; exact Array.getElem_mem hi)
  exact decide_eq_true (by omega)
theorem okz_sp {z : Str} (g : Good z) : Okz (z ++ " ") := okz_low fun c hc => by
  rw [append_cps, Array.toList_append] at hc
  rcases List.mem_append.mp hc with hc | hc
  · exact (g.let_ c hc).2
  · rw [show (" " : Str).cps.toList = [32] by decide] at hc; rw [List.mem_singleton.mp hc]; decide
theorem okz_A {z : Str} (g : Good z) : Okz ("A" ++ z) := okz_low fun c hc => by
  rw [append_cps, Array.toList_append] at hc
  rcases List.mem_append.mp hc with hc | hc
  · rw [show ("A" : Str).cps.toList = [65] by decide] at hc; rw [List.mem_singleton.mp hc]; decide
  · exact (g.let_ c hc).2
/-- a list of tuples of names -/
abbrev pdd (rs : List (List Str)) : List PyData := rs.map fun r => PyData.tuple (pd r)
theorem lay_pdd {rs : List (List Str)} (h : ∀ r ∈ rs, ∀ z ∈ r, Okz z) : PyData.canLayAll0 (pdd rs) = true := by
  induction rs with
  | nil => rfl
  | cons a t ih =>
    show (PyData.canLay0 (.tuple (pd a)) && PyData.canLayAll0 (pdd t)) = true
    rw [ih fun z hz => h z (List.mem_cons_of_mem _ hz), show PyData.canLay0 (.tuple (pd a)) = true by simp only [PyData.canLay0]; exact lay_all (h a List.mem_cons_self)]; rfl
theorem depth_pdd : ∀ rs : List (List Str), PyData.depthAll (pdd rs) ≤ 3
  | [] => by simp [PyData.depthAll]
  | r :: t => by
    have h1 : PyData.depthAll (t.map fun r => PyData.tuple (pd r)) ≤ 3 := depth_pdd t
    have h2 := depth_pd r
    simp only [List.map_cons, PyData.depthAll, PyData.depth]
    omega
theorem shaped_pdd {rs : List (List Str)} (h : ∀ r ∈ rs, ∀ z ∈ r, Okz z) : SeqAt.shaped (.list (pdd rs)) = true := by
  have h1 := depth_pdd rs
  show (PyData.canLay0 (.list (pdd rs)) && decide (PyData.depth (.list (pdd rs)) ≤ 64)) = true
  rw [Bool.and_eq_true]
  exact ⟨by simp only [PyData.canLay0]; exact lay_pdd h, decide_eq_true (by simp only [PyData.depth]; omega)⟩
theorem eqv_pdd {rs : List (List Str)} (h : ∀ r ∈ rs, ∀ z ∈ r, Okz z) : PyData.eqv (.list (pdd rs)) (.list (pdd rs)) = true := SeqAt.eqv_refl _ (by simp only [PyData.canLay0]; exact lay_pdd h)
theorem dp_pdd {K : PySem.W.Frag} {H : Hp} : ∀ {ts : List Addr} {rs : List (List Str)}, Lss .tup H ts rs → DpAll K H (ts.map V.ref) (pdd rs)
  | [], [], _ => .nil
  | [], _ :: _, h => nomatch h.len
  | _ :: _, [], h => nomatch h.len
  | t :: ts, r :: rs, h => .cons (.tup (xs := sv r) (SqT.of (h.at_ 0 t r rfl rfl)) (dp_pd r)) (dp_pdd ⟨Nat.succ.inj h.len, fun i u x a b => h.at_ (i + 1) u x a b⟩)
/-! ### == of data -/
mutual
/-- no truth values, no dicts -/
def nb : PyData → Bool
  | .none => true
  | .int _ => true
  | .str _ => true
  | .bool _ => false
  | .dict _ => false
  | .list xs => nbAll xs
  | .tuple xs => nbAll xs
def nbAll : List PyData → Bool
  | [] => true
  | x :: xs => nb x && nbAll xs
end
mutual
theorem eqv_iff : ∀ (d e : PyData), nb d = true → nb e = true → (PyData.eqv d e = true ↔ d = e)
  | .none, e, _, h => by cases e <;> simp [PyData.eqv]
  | .int i, e, _, h => by
    cases e <;> first | (simp only [nb] at h; cases h; done) | simp [PyData.eqv]
  | .str i, e, _, h => by cases e <;> simp [PyData.eqv]
  | .bool _, _, h, _ => by simp [nb] at h
  | .dict _, _, h, _ => by simp [nb] at h
  | .list xs, e, h, h' => by
    cases e <;> first | (simp [PyData.eqv]; done) | skip
    rename_i ys
    simp only [PyData.eqv, PyData.list.injEq]
    exact eqvAll_iff xs ys (by simpa [nb] using h) (by simpa [nb] using h')
  | .tuple xs, e, h, h' => by
    cases e <;> first | (simp [PyData.eqv]; done) | skip
    rename_i ys
    simp only [PyData.eqv, PyData.tuple.injEq]
    exact eqvAll_iff xs ys (by simpa [nb] using h) (by simpa [nb] using h')
theorem eqvAll_iff : ∀ (xs ys : List PyData), nbAll xs = true → nbAll ys = true → (PyData.eqvAll xs ys = true ↔ xs = ys)
  | [], [], _, _ => by simp [PyData.eqvAll]
  | [], _ :: _, _, _ => by simp [PyData.eqvAll]
  | _ :: _, [], _, _ => by simp [PyData.eqvAll]
  | x :: xs, y :: ys, h, h' => by
    simp only [nbAll, Bool.and_eq_true] at h h'
    simp only [PyData.eqvAll, Bool.and_eq_true, eqv_iff x y h.1 h'.1, eqvAll_iff xs ys h.2 h'.2, List.cons.injEq]
end
theorem nb_pd (ss : List Str) : nbAll (pd ss) = true := by
  induction ss with
  | nil => rfl
  | cons a t ih => show (true && nbAll (pd t)) = true; rw [ih]; rfl
theorem pd_inj {a b : List Str} : pd a = pd b ↔ a = b := by
  constructor
  · intro h
    have := congrArg (List.map fun d : PyData => match d with | .str x => x | _ => ("" : Str)) h
    rw [List.map_map, List.map_map] at this
    simpa [Function.comp_def] using this
  · intro h; rw [h]
theorem eqv_L (a b : List Str) : PyData.eqv (.list (pd a)) (.list (pd b)) = decide (a = b) := by
  rw [Bool.eq_iff_iff, decide_eq_true_iff, eqv_iff (.list (pd a)) (.list (pd b)) (by simp only [nb]; exact nb_pd a) (by simp only [nb]; exact nb_pd b), PyData.list.injEq, pd_inj]
theorem eqv_T (a b : List Str) : PyData.eqv (.tuple (pd a)) (.tuple (pd b)) = decide (a = b) := by
  rw [Bool.eq_iff_iff, decide_eq_true_iff, eqv_iff (.tuple (pd a)) (.tuple (pd b)) (by simp only [nb]; exact nb_pd a) (by simp only [nb]; exact nb_pd b), PyData.tuple.injEq, pd_inj]
theorem shaped_pdT {ss : List Str} (h : ∀ z ∈ ss, Okz z) : SeqAt.shaped (.tuple (pd ss)) = true := shapedT (lay_all h) (Nat.le_trans (depth_pd ss) (by decide))
theorem any_pdd (rs : List (List Str)) (a : List Str) : ((pdd rs).any fun z => PyData.eqv z (.tuple (pd a))) = decide (a ∈ rs) := by
  rw [Bool.eq_iff_iff, List.any_eq_true, decide_eq_true_iff]
  constructor
  · rintro ⟨d, hd, e⟩
    obtain ⟨r, hr, rfl⟩ := List.mem_map.mp hd
    rw [eqv_T, decide_eq_true_iff] at e
    rw [← e]; exact hr
  · intro h
    exact ⟨_, List.mem_map.mpr ⟨a, h, rfl⟩, by rw [eqv_T]; exact decide_eq_true rfl⟩
theorem okz_low' {z : Str} (h : z.cps.toList.all (· < 256) = true) : Okz z := by
  show PyData.canLay0 (.str z) = true
  unfold PyData.canLay0 PyData.strOk
  rw [Array.all_eq_true]
  intro i hi
  have := List.all_eq_true.mp h z.cps[i] (by rw [Array.mem_toList_iff]; exact Array.getElem_mem hi)
  have := of_decide_eq_true this
  exact decide_eq_true (by omega)
end My
set_option maxRecDepth 100000
set_option maxHeartbeats 4000000
set_option exponentiation.threshold 10000
namespace My
open PySem L2
abbrev rn (ns cs r : List Str) : Nat := runs (flags ns (canon cs r))
def nums (f : List Str → Bool) (rs : List (List Str)) : List Nat := (List.range rs.length).filter fun i => f (rs.getD i [])
theorem nums_le (f : List Str → Bool) (rs : List (List Str)) : (nums f rs).length ≤ rs.length := by
  have := List.length_filter_le (fun i => f (rs.getD i [])) (List.range rs.length)
  rw [List.length_range] at this
  exact this
theorem numsT {f : List Str → Bool} {rs : List (List Str)} {i : Nat} {r : List Str} (h : rs[i]? = some r) (hf : f r = true) : (((List.range (i + 1)).filter fun i => f (rs.getD i [])).map fun n => V.int (n : Nat)) = (((List.range i).filter fun i => f (rs.getD i [])).map fun n => V.int (n : Nat)) ++ [V.int (i : Nat)] := by
  have hd : rs.getD i [] = r := by rw [List.getD_eq_getElem?_getD, h]; rfl
  rw [List.range_succ, List.filter_append, List.map_append, List.filter_cons_of_pos (by rw [hd]; exact hf)]; rfl
theorem numsF {f : List Str → Bool} {rs : List (List Str)} {i : Nat} {r : List Str} (h : rs[i]? = some r) (hf : f r = false) : (((List.range (i + 1)).filter fun i => f (rs.getD i [])).map fun n => V.int (n : Nat)) = (((List.range i).filter fun i => f (rs.getD i [])).map fun n => V.int (n : Nat)) := by
  have hd : rs.getD i [] = r := by rw [List.getD_eq_getElem?_getD, h]; rfl
  rw [List.range_succ, List.filter_append, List.map_append, List.filter_cons_of_neg (by rw [hd, hf]; decide)]; simp
theorem nums_len (f : List Str → Bool) (rs : List (List Str)) (i : Nat) (hi : i ≤ 1000) : (((List.range i).filter fun i => f (rs.getD i [])).map fun n => V.int (n : Nat)).length ≤ 1000000 := by
  have := List.length_filter_le (fun i => f (rs.getD i [])) (List.range i)
  rw [List.length_range] at this
  rw [List.length_map]; omega
theorem perm_of_fault {cs ns : List Str} (nc : cs.Nodup) (h : fault cs ns = none) : (∀ x ∈ ns, x ∈ cs) ∧ ns.Nodup ∧ ns.Perm cs := by
  unfold fault at h
  cases hs : stray cs ns with
  | some i => rw [hs] at h; cases h
  | none =>
    rw [hs] at h
    have h : (if ns.length < cs.length then some ns.length else none) = none := h
    have hl : cs.length ≤ ns.length := by
      by_cases z : ns.length < cs.length
      · rw [if_pos z] at h; cases h
      · omega
    obtain ⟨hsub, nd⟩ := stray_none_iff.mp hs
    refine ⟨hsub, nd, ?_⟩
    have hin : ∀ x ∈ cs, x ∈ ns := fun x hx => Classical.byContradiction fun hn => by
      have := nodup_le (l := x :: ns) (m := cs) (List.nodup_cons.mpr ⟨hn, nd⟩) fun y hy => by
        rcases List.mem_cons.mp hy with rfl | hy
        · exact hx
        · exact hsub y hy
      rw [List.length_cons] at this
      omega
    exact (List.perm_ext_iff_of_nodup nd nc).mpr fun x => ⟨hsub x, hin x⟩
theorem perm_pick {α : Type} {l : List α} {i : Nat} {x : α} (h : l[i]? = some x) : (x :: (l.take i ++ l.drop (i + 1))).Perm l := by
  have hi := (List.getElem?_eq_some_iff.mp h).1
  have e : l = l.take i ++ x :: l.drop (i + 1) := by
    conv => lhs; rw [← List.take_append_drop i l]
    rw [List.drop_eq_getElem_cons hi]
    rw [List.getElem?_eq_getElem hi] at h
    cases h; rfl
  conv => rhs; rw [e]
  exact List.perm_middle.symm
def szs : List Int := [3, 4, 5, 2, 4, 6, 3, 5, 1, 7, 0, 12, 4, 5, 3, 6, 8, 4, 5, 9, 10, 4, 7, 11]
theorem cut_takeG {xs : List V} {k : Nat} : cutV xs none (some (k : Int)) = xs.take k := by
  unfold cutV
  rw [HT.sIx_none, HT.sIx_nat]
  simp
theorem cut_dropG {xs : List V} {k : Nat} : cutV xs (some (k : Int)) none = xs.drop k := by
  unfold cutV
  rw [HT.sIx_none, HT.sIx_nat]
  rw [List.take_of_length_le (by rw [List.length_drop]; omega)]
  rcases Nat.le_total k xs.length with h | h
  · rw [Nat.min_eq_left h]
  · rw [Nat.min_eq_right h, List.drop_eq_nil_of_le (Nat.le_refl _), List.drop_eq_nil_of_le h]
theorem rot_perm {α : Type} (l : List α) (c : Nat) : (l.drop c ++ l.take c).Perm l := by
  have := List.perm_append_comm (l₁ := l.drop c) (l₂ := l.take c)
  rw [List.take_append_drop] at this
  exact this
def RowOk (cs x : List Str) : Prop := x.Nodup ∧ ∀ y ∈ x, y ∈ cs
theorem RowOk.len {cs x : List Str} (h : RowOk cs x) : x.length ≤ cs.length := nodup_le h.1 h.2
theorem RowOk.stray {cs x : List Str} (h : RowOk cs x) : stray cs x = none := stray_none_iff.mpr ⟨h.2, h.1⟩
def Rows (H : Hp) (D : Addr) (ts : List Addr) (cs : List Str) (rs : List (List Str)) : Prop := Lss .lst H ts rs ∧ (∀ t ∈ ts, t ≠ D) ∧ ∀ x ∈ rs, RowOk cs x
theorem Rows.push {H H' : Hp} {D t : Addr} {ts : List Addr} {cs ms : List Str} {rs : List (List Str)} {o : HO} (h : Rows H D ts cs rs) (s : Same H H') (ht : H' t = some (.lst (sv ms))) (hD : t ≠ D) (ok : RowOk cs ms) : Rows (upd H' D o) D (ts ++ [t]) cs (rs ++ [ms]) := by
  have h1 := (h.1.same s).app ht
  have hn : ∀ u ∈ ts ++ [t], u ≠ D := fun u hu => (List.mem_append.mp hu).elim (h.2.1 u) fun hu => by rw [List.mem_singleton.mp hu]; exact hD
  refine ⟨⟨h1.len, fun i u x a b => ?_⟩, hn, fun x hx => (List.mem_append.mp hx).elim (h.2.2 x) fun hx => by rw [List.mem_singleton.mp hx]; exact ok⟩
  rw [upd_ne (hn u (List.mem_of_getElem? a))]
  exact h1.at_ i u x a b
/-- names of the law: different, good, at most 7 signs -/
def Nms (ns : List Str) : Prop := ns.Nodup ∧ ∀ z ∈ ns, Good z ∧ z.length ≤ 7
theorem Nms.sub {a b c : List Str} (h : Nms a) (p : b.Perm a) (s : c.Sublist b) : Nms c := ⟨s.nodup (p.nodup_iff.mpr h.1), fun z hz => h.2 z (p.mem_iff.mp (s.subset hz))⟩
def W1 : List Str := ["ab", "a", "abc", "aa", "b", "ba", "aab", "bb", "abcdefg", "abcdefh", "aba", "bab"]
def W2 : List Str := ["first", "row", "end", "near", "span", "last", "before", "window", "over", "column", "not", "ask"]
theorem nms_of {ns : List Str} (h : (decide ns.Nodup && ns.all fun z => okName z && decide (z.length ≤ 7)) = true) : Nms ns := by
  rw [Bool.and_eq_true, decide_eq_true_iff, List.all_eq_true] at h
  refine ⟨h.1, fun z hz => ?_⟩
  have := h.2 z hz
  rw [Bool.and_eq_true, decide_eq_true_iff] at this
  exact ⟨okName_iff.mp this.1, this.2⟩
theorem w1_ok : Nms W1 := nms_of (by decide +kernel)
theorem w2_ok : Nms W2 := nms_of (by decide +kernel)
/-! ### words about one letter -/
def l1 (c : Nat) : Str := ⟨#[c]⟩
theorem mul1 (c : Nat) (n : Int) : (Txt.mul (l1 c) n).cps = Array.replicate n.toNat c := by
  unfold Txt.mul
  have h1 : ((l1 c).length == 0) = false := rfl
  split
  · rename_i h
    have : n.toNat = 0 := by omega
    rw [this]
    rfl
  · rename_i h
    split
    · rename_i h'
      rw [h1, Bool.or_false, beq_iff_eq] at h'
      subst h'
      rfl
    · have e : ∀ (m : Nat) (acc : Array Nat), ((List.replicate m (l1 c).cps).foldl (· ++ ·) acc) = acc ++ Array.replicate m c := by
        intro m
        induction m with
        | zero => intro acc; simp
        | succ m ih =>
          intro acc
          rw [List.replicate_succ, List.foldl_cons, ih]
          have : (l1 c).cps = #[c] := rfl
          rw [this, Array.append_assoc]
          congr 1
          apply Array.toList_inj.mp
          simp [List.replicate_succ]
      show ((List.replicate n.toNat (l1 c).cps).foldl (· ++ ·) #[]) = _
      rw [e]
      simp
theorem mulOk1 (c : Nat) {n : Int} (h0 : 0 ≤ n) (h3 : n ≤ 3) : MulOk (l1 c) n := by
  unfold MulOk
  have e : (l1 c).length = 1 := rfl
  rw [e]
  rcases (show n = 0 ∨ n = 1 ∨ n = 2 ∨ n = 3 by omega) with rfl | rfl | rfl | rfl <;> decide
/-- a side of a name: letters behind l -/
def Side (x : Str) : Prop := (∀ c ∈ x.cps.toList, 109 ≤ c ∧ c ≤ 122) ∧ x.length ≤ 3
theorem side1 {c : Nat} {n : Int} (h1 : 109 ≤ c) (h2 : c ≤ 122) (h0 : 0 ≤ n) (h3 : n ≤ 3) : Side (Txt.mul (l1 c) n) := by
  have e := mul1 c n
  refine ⟨fun d hd => ?_, ?_⟩
  · rw [e, Array.toList_replicate, List.mem_replicate] at hd
    rw [hd.2]; exact ⟨h1, h2⟩
  · show (Txt.mul (l1 c) n).cps.size ≤ 3
    rw [e, Array.size_replicate]; omega
theorem em : ("m" : Str) = l1 109 := str_ext (by decide)
theorem ez : ("z" : Str) = l1 122 := str_ext (by decide)
theorem coreT : ∀ k : Fin 12, atI (("abcdefghijkl" : Str)).cps.toList ((k.val : Nat) : Int) = some (97 + k.val) := by decide +kernel
theorem leftT : ∀ k : Fin 14, atI (("mnopqrstuvwxyz" : Str)).cps.toList ((k.val : Nat) : Int) = some (109 + k.val) := by decide +kernel
theorem rightT : ∀ k : Fin 14, atI (("zyxwvutsrqponm" : Str)).cps.toList ((k.val : Nat) : Int) = some (122 - k.val) := by decide +kernel
theorem core_at {j : Int} (h0 : 0 ≤ j) (h1 : j < 12) : atI (("abcdefghijkl" : Str)).cps.toList j = some (97 + j.toNat) := by
  have := coreT ⟨j.toNat, by omega⟩
  rw [show (((⟨j.toNat, by omega⟩ : Fin 12).val : Nat) : Int) = j from by show ((j.toNat : Nat) : Int) = j; omega] at this
  exact this
theorem left_at {j : Int} (h0 : 0 ≤ j) (h1 : j < 14) : atI (("mnopqrstuvwxyz" : Str)).cps.toList j = some (109 + j.toNat) := by
  have := leftT ⟨j.toNat, by omega⟩
  rw [show (((⟨j.toNat, by omega⟩ : Fin 14).val : Nat) : Int) = j from by show ((j.toNat : Nat) : Int) = j; omega] at this
  exact this
theorem right_at {j : Int} (h0 : 0 ≤ j) (h1 : j < 14) : atI (("zyxwvutsrqponm" : Str)).cps.toList j = some (122 - j.toNat) := by
  have := rightT ⟨j.toNat, by omega⟩
  rw [show (((⟨j.toNat, by omega⟩ : Fin 14).val : Nat) : Int) = j from by show ((j.toNat : Nat) : Int) = j; omega] at this
  exact this
theorem core_len : (("abcdefghijkl" : Str)).length ≤ sizeLine := by decide
theorem left_len : (("mnopqrstuvwxyz" : Str)).length ≤ sizeLine := by decide
theorem right_len : (("zyxwvutsrqponm" : Str)).length ≤ sizeLine := by decide
/-- a made name with the letter c -/
def Made (c : Nat) (z : Str) : Prop := Good z ∧ z.length ≤ 7 ∧ z.cps.toList.filter (fun d => decide (d < 109)) = [c]
theorem made_of {l r : Str} {c : Nat} (hl : Side l) (hr : Side r) (h1 : 97 ≤ c) (h2 : c < 109) : Made c (l ++ l1 c ++ r) := by
  have el : (l ++ l1 c ++ r).length = l.length + 1 + r.length := by rw [Str.length_append, Str.length_append]; rfl
  have ec : (l ++ l1 c ++ r).cps.toList = l.cps.toList ++ [c] ++ r.cps.toList := by
    rw [append_cps, append_cps, Array.toList_append, Array.toList_append]; rfl
  have hl2 := hl.2
  have hr2 := hr.2
  refine ⟨⟨by omega, by omega, fun d hd => ?_⟩, by omega, ?_⟩
  · rw [ec] at hd
    rcases List.mem_append.mp hd with hd | hd
    · rcases List.mem_append.mp hd with hd | hd
      · have := hl.1 d hd; omega
      · rw [List.mem_singleton] at hd; omega
    · have := hr.1 d hd; omega
  · have no : ∀ x : Str, Side x → x.cps.toList.filter (fun d => decide (d < 109)) = [] := fun x hx => by
      rw [List.filter_eq_nil_iff]
      intro d hd h
      have := hx.1 d hd
      rw [decide_eq_true_iff] at h
      omega
    have ec2 : [c].filter (fun d => decide (d < 109)) = [c] := by simp [h2]
    rw [ec, List.filter_append, List.filter_append, no l hl, no r hr, ec2]; rfl
/-- the first i made names -/
def Mades (s : Int) (ns : List Str) : Prop := ∀ (t : Nat) z, ns[t]? = some z → Made (97 + (((t : Int) * 5 + s) % 12).toNat) z
theorem Mades.app {s : Int} {ns : List Str} {z : Str} (h : Mades s ns) (hz : Made (97 + (((ns.length : Int) * 5 + s) % 12).toNat) z) : Mades s (ns ++ [z]) := fun t y e => by
  rcases Nat.lt_trichotomy t ns.length with c | c | c
  · rw [List.getElem?_append_left c] at e; exact h t y e
  · rw [c, List.getElem?_append_right (Nat.le_refl _), Nat.sub_self] at e
    cases e; rw [c]; exact hz
  · rw [List.getElem?_append_right (by omega), List.getElem?_eq_none (by simp; omega)] at e
    cases e
theorem Mades.nms {s : Int} {ns : List Str} (h : Mades s ns) (hl : ns.length ≤ 12) : Nms ns := by
  refine ⟨?_, fun z hz => ?_⟩
  · rw [List.nodup_iff_pairwise_ne, List.pairwise_iff_getElem]
    intro i j hi hj hij e
    have h1 := h i _ (List.getElem?_eq_getElem hi)
    have h2 := h j _ (List.getElem?_eq_getElem hj)
    have e1 := h1.2.2
    rw [e, h2.2.2] at e1
    have e2 := (List.cons.inj e1).1
    omega
  · obtain ⟨i, hi, e⟩ := List.getElem_of_mem hz
    have h1 := h i _ (List.getElem?_eq_getElem hi)
    rw [e] at h1
    exact ⟨h1.1, h1.2.1⟩
def unk (cs ns : List Str) : Option Str := ns.find? fun x => !decide (x ∈ cs)
theorem unk_some {cs ns : List Str} {i : Nat} {z : Str} (hz : ns[i]? = some z) (h1 : z ∉ cs) (h2 : ∀ (j : Nat) y, j < i → ns[j]? = some y → y ∈ cs) : unk cs ns = some z := by
  unfold unk
  rw [List.find?_eq_some_iff_getElem]
  obtain ⟨hi, e⟩ := List.getElem?_eq_some_iff.mp hz
  refine ⟨by simp [h1], i, hi, e, fun j hj => ?_⟩
  have := h2 j ns[j] hj (List.getElem?_eq_getElem _)
  simp [this]
theorem unk_none {cs ns : List Str} : unk cs ns = none ↔ ∀ x ∈ ns, x ∈ cs := by
  unfold unk
  rw [List.find?_eq_none]
  exact ⟨fun h x hx => by have := h x hx; simpa using this, fun h x hx => by simp [h x hx]⟩
theorem unk_mem {cs ns : List Str} {z : Str} (h : unk cs ns = some z) : z ∈ ns ∧ z ∉ cs := by
  unfold unk at h
  exact ⟨List.mem_of_find?_eq_some h, by have := List.find?_some h; simpa using this⟩
def fldsR (nt : Addr) : List (Str × V) := putF "names" (.ref nt) []
theorem fldsR_names (nt : Addr) : (fldsR nt).lookup ("names" : Str) = some (.ref nt) := by unfold fldsR; rw [lookup_putF, if_pos rfl]
def Rd (C : Addr) (H : Hp) (p : Addr) (ns : List Str) : Prop := ∃ dx nt, H p = some (.ins C dx (fldsR nt)) ∧ DT H nt (sv ns)
theorem Rd.same {C : Addr} {H H' : Hp} {p : Addr} {ns : List Str} (h : Rd C H p ns) (e : Same H H') : Rd C H' p ns := let ⟨dx, nt, h1, h2⟩ := h; ⟨dx, nt, e _ _ h1, h2.same e⟩
def ringFault (ns : List Str) : Option Nat := match firstBad ns with | some i => some i | none => if 12 < ns.length then some 12 else none
structure RingOk (ns : List Str) : Prop where
  g : ∀ z ∈ ns, Good z
  nd : ns.Nodup
  n : ns.length ≤ 12
theorem ringFault_none {ns : List Str} : ringFault ns = none ↔ RingOk ns := by
  unfold ringFault
  cases hf : firstBad ns with
  | some i =>
    constructor
    · intro h; cases h
    · intro h
      rw [firstBad_none_iff.mpr ⟨h.g, h.nd⟩] at hf; cases hf
  | none =>
    obtain ⟨a, b⟩ := firstBad_none_iff.mp hf
    constructor
    · intro h
      have h : (if 12 < ns.length then some 12 else none) = none := h
      refine ⟨a, b, ?_⟩
      by_cases q : 12 < ns.length
      · rw [if_pos q] at h; cases h
      · omega
    · intro h
      show (if 12 < ns.length then some 12 else none) = none
      rw [if_neg (by have := h.n; omega)]
theorem RingOk.perm {ns ms : List Str} (h : RingOk ns) (p : ms.Perm ns) : RingOk ms := ⟨fun z hz => h.g z (p.mem_iff.mp hz), p.nodup_iff.mpr h.nd, by rw [p.length_eq]; exact h.n⟩
def aft (ns : List Str) (i : Nat) : List Str := ns.drop (i + 1) ++ ns.take i
theorem first_ix {ns : List Str} {z : Str} (h : z ∈ ns) : ∃ i : Nat, ns[i]? = some z ∧ ∀ m, m < i → ns[m]? ≠ some z := by
  induction ns with
  | nil => cases h
  | cons a t ih =>
    by_cases e : a = z
    · exact ⟨0, by rw [e]; rfl, fun m hm => absurd hm (Nat.not_lt_zero _)⟩
    · rcases List.mem_cons.mp h with q | q
      · exact absurd q.symm e
      · obtain ⟨i, h1, h2⟩ := ih q
        refine ⟨i + 1, h1, fun m hm => ?_⟩
        cases m with
        | zero => intro z; exact e (Option.some.inj z)
        | succ m => exact h2 m (by omega)
abbrev SqA (K : PySem.W.Frag) : Hp → Addr → List V → Prop := fun H a xs => SqL K H a xs ∨ SqT K H a xs
theorem _root_.L2.Same.sqa {K : PySem.W.Frag} {H H' : Hp} {a : Addr} {xs : List V} (e : Same H H') (h : SqA K H a xs) : SqA K H' a xs := h.imp (fun z => e.seq z) fun z => e.tup z
/-! ### slices and tuple(..), whichever way the object comes -/
theorem slOT {K : PySem.W.Frag} {H : Hp} {c : Addr} {xs : List V} {lo hi : Option Int} {Q : VK} (hc : SqT K H c xs) (h : ∀ a H', Same H H' → SqT K H' a (cutV xs lo hi) → Q (.ref a) H') : rSlA K (.ref c) lo hi H Q := by
  refine ⟨c, xs, rfl, hc, fun hw => ?_, fun _ p hp => h p _ (same_new hp) (SqT.of upd_same)⟩
  have e : cutV xs lo hi = xs := by
    unfold cutV
    rw [hw.1, hw.2, Nat.sub_zero, List.drop_zero, List.take_length]
  have := h c H (Same.refl _)
  rw [e] at this
  exact this hc
theorem slO {K : PySem.W.Frag} {H : Hp} {c : Addr} {xs : List V} {lo hi : Option Int} {Q : VK} (hc : SqL K H c xs) (h : ∀ a H', Same H H' → H a = none → H' a = some (.lst (cutV xs lo hi)) → Q (.ref a) H') : rSlL K (.ref c) lo hi H Q :=
  ⟨c, xs, rfl, hc, fun p hp => h p _ (same_new hp) hp upd_same⟩
theorem tupO {K : PySem.W.Frag} {H : Hp} {p : Addr} {ys : List V} {Q : VK} (h : SqA K H p ys) (k : ∀ a H', Same H H' → SqT K H' a ys → Q (.ref a) H') : rTupOf K [.ref p] H Q := by
  refine ⟨p, ys, rfl, ?_⟩
  rcases h with h | h
  · exact .inl ⟨h, fun l hl => k l _ (same_new hl) (SqT.of upd_same)⟩
  · exact .inr ⟨h, k p H (Same.refl _) h⟩
end My
set_option maxRecDepth 100000
set_option maxHeartbeats 4000000
/-! the mathematics of matching masks by columns -/
namespace My
/-- the mask of the places below n where P holds -/
def bm (P : Nat → Bool) : Nat → Nat
  | 0 => 0
  | n + 1 => bm P n + if P n then 2 ^ n else 0
theorem bm_lt (P : Nat → Bool) (n : Nat) : bm P n < 2 ^ n := by
  induction n with
  | zero => exact Nat.one_pos
  | succ n ih =>
    rw [Nat.pow_succ]
    unfold bm
    split <;> omega
theorem bm_bit (P : Nat → Bool) (n i : Nat) : (bm P n).testBit i = (decide (i < n) && P i) := by
  induction n with
  | zero => unfold bm; simp
  | succ n ih =>
    unfold bm
    have hl := bm_lt P n
    by_cases hp : P n = true
    · rw [if_pos hp, Nat.add_comm]
      by_cases hi : i = n
      · subst hi
        rw [Nat.testBit_two_pow_add_eq, ih]
        simp [hp]
      · rcases Nat.lt_or_gt_of_ne hi with l | l
        · rw [Nat.testBit_two_pow_add_gt l, ih, decide_eq_true l, decide_eq_true (Nat.lt_succ_of_lt l)]
        · rw [Nat.testBit_lt_two_pow (by have : 2 ^ n * 2 ≤ 2 ^ i := by rw [← Nat.pow_succ]; exact Nat.pow_le_pow_right (by decide) l
                                         omega), decide_eq_false (by omega)]; rfl
    · rw [if_neg hp, Nat.add_zero, ih]
      by_cases hi : i = n
      · subst hi; simp at hp; simp [hp]
      · have : decide (i < n) = decide (i < n + 1) := decide_eq_decide.mpr (by omega)
        rw [this]
theorem bit_ext {a b : Nat} (h : ∀ i, a.testBit i = b.testBit i) : a = b := Nat.eq_of_testBit_eq h
/-- a mask seen through chosen columns -/
def seeM (m : Nat) (ch : List Nat) : Nat := bm (fun p => m.testBit (ch.getD p 0)) ch.length
theorem seeM_bit (m : Nat) (ch : List Nat) (p : Nat) : (seeM m ch).testBit p = (match ch[p]? with | some c => m.testBit c | none => false) := by
  unfold seeM
  rw [bm_bit]
  by_cases h : p < ch.length
  · rw [decide_eq_true h, List.getElem?_eq_getElem h, List.getD_eq_getElem?_getD, List.getElem?_eq_getElem h]; rfl
  · rw [decide_eq_false h, List.getElem?_eq_none (by omega)]; rfl
theorem seeM_take (m : Nat) (ch : List Nat) {k : Nat} (h : k ≤ ch.length) : seeM m ch % 2 ^ k = seeM m (ch.take k) := by
  refine bit_ext fun i => ?_
  rw [Nat.testBit_mod_two_pow, seeM_bit, seeM_bit, List.getElem?_take]
  by_cases hi : i < k
  · rw [decide_eq_true hi, if_pos hi]; simp
  · rw [decide_eq_false hi, if_neg hi]; rfl
def fitsB (W M : List Nat) (ch : List Nat) : Bool := (W.map (· % 2 ^ ch.length)).isPerm (M.map (seeM · ch))
theorem fits_iff {W M ch : List Nat} : fitsB W M ch = true ↔ (W.map (· % 2 ^ ch.length)).Perm (M.map (seeM · ch)) := List.isPerm_iff
/-- the depth-first choice of columns -/
def extB (W M : List Nat) (width : Nat) : Nat → List Nat → Option (List Nat)
  | 0, ch => some ch
  | f + 1, ch => (List.range width).findSome? fun c => if decide (c ∉ ch) && fitsB W M (ch ++ [c]) then extB W M width f (ch ++ [c]) else none
structure Cols (width : Nat) (ch : List Nat) : Prop where
  nd : ch.Nodup
  lt : ∀ c ∈ ch, c < width
theorem Cols.snoc {width : Nat} {ch : List Nat} {c : Nat} (h : Cols width ch) (hc : c < width) (hn : c ∉ ch) : Cols width (ch ++ [c]) :=
  ⟨by rw [List.nodup_append]; exact ⟨h.nd, by simp, fun a ha b hb e => hn (by rw [List.mem_singleton.mp hb] at e; rw [← e]; exact ha)⟩, fun x hx => by
    rcases List.mem_append.mp hx with q | q
    · exact h.lt x q
    · rw [List.mem_singleton.mp q]; exact hc⟩
theorem ext_sound {W M : List Nat} {width : Nat} : ∀ (f : Nat) (ch r : List Nat), Cols width ch → ch.length + f = width → (f = 0 → fitsB W M ch = true) → extB W M width f ch = some r → Cols width r ∧ r.length = width ∧ fitsB W M r = true
  | 0, ch, r, hc, hl, hf, h => by
    unfold extB at h
    cases h
    exact ⟨hc, by omega, hf rfl⟩
  | f + 1, ch, r, hc, hl, hf, h => by
    unfold extB at h
    obtain ⟨c, hm, hs⟩ := List.exists_of_findSome?_eq_some h
    split at hs
    · rename_i hb
      rw [Bool.and_eq_true, decide_eq_true_iff] at hb
      exact ext_sound f _ r (hc.snoc (List.mem_range.mp hm) hb.1) (by rw [List.length_append]; show ch.length + 1 + f = width; omega) (fun _ => hb.2) hs
    · cases hs
theorem ext_complete {W M : List Nat} {width : Nat} {σ : List Nat} (hσ : Cols width σ) (hl : σ.length = width) (hp : W.Perm (M.map (seeM · σ))) : ∀ (f k : Nat), k + f = width → extB W M width f (σ.take k) ≠ none
  | 0, k, _ => by unfold extB; exact fun h => nomatch h
  | f + 1, k, hk => by
    unfold extB
    intro h
    rw [List.findSome?_eq_none_iff] at h
    have hkl : k < σ.length := by omega
    have hs : σ[k]? = some σ[k] := List.getElem?_eq_getElem hkl
    have := h σ[k] (List.mem_range.mpr (hσ.lt _ (List.getElem_mem hkl)))
    have e : σ.take k ++ [σ[k]] = σ.take (k + 1) := by rw [List.take_succ, hs]; rfl
    have n1 : σ[k] ∉ σ.take k := fun hm => by
      obtain ⟨j, hj, e2⟩ := List.getElem_of_mem hm
      rw [List.length_take] at hj
      rw [List.getElem_take] at e2
      have nd := hσ.nd
      rw [List.nodup_iff_pairwise_ne, List.pairwise_iff_getElem] at nd
      exact nd j k (by omega) hkl (by omega) e2
    have ft : fitsB W M (σ.take (k + 1)) = true := by
      rw [fits_iff, List.length_take, Nat.min_eq_left (by omega)]
      have := hp.map (· % 2 ^ (k + 1))
      rw [List.map_map] at this
      refine this.trans (List.Perm.of_eq (List.map_congr_left fun m _ => ?_))
      exact seeM_take m σ (by omega)
    rw [e, decide_eq_true n1, ft] at this
    exact ext_complete hσ hl hp f (k + 1) (by omega) this
/-- how many places of a mask are set -/
def pcM (m width : Nat) : Nat := ((List.range width).filter fun i => m.testBit i).length
def sizesB (W M : List Nat) (width : Nat) : Bool := (W.map (pcM · width)).isPerm (M.map (pcM · width))
theorem nodup_leG {α : Type} [DecidableEq α] : ∀ {l m : List α}, l.Nodup → (∀ x ∈ l, x ∈ m) → l.length ≤ m.length
  | [], _, _, _ => Nat.zero_le _
  | a :: t, m, h, hs => by
    obtain ⟨h1, h2⟩ := List.nodup_cons.mp h
    have ha := hs a List.mem_cons_self
    have := nodup_leG (l := t) (m := m.erase a) h2 fun x hx => (List.mem_erase_of_ne (fun e => h1 (by rw [← e]; exact hx))).mpr (hs x (List.mem_cons_of_mem _ hx))
    rw [List.length_erase_of_mem ha] at this
    have : 0 < m.length := List.length_pos_of_mem ha
    rw [List.length_cons]; omega
theorem cols_perm {width : Nat} {σ : List Nat} (h : Cols width σ) (hl : σ.length = width) : σ.Perm (List.range width) := by
  refine (List.perm_ext_iff_of_nodup h.nd List.nodup_range).mpr fun x => ⟨fun hx => List.mem_range.mpr (h.lt x hx), fun hx => Classical.byContradiction fun hn => ?_⟩
  have := nodup_leG (l := x :: σ) (m := List.range width) (List.nodup_cons.mpr ⟨hn, h.nd⟩) fun y hy => by
    rcases List.mem_cons.mp hy with rfl | hy
    · exact hx
    · exact List.mem_range.mpr (h.lt y hy)
  rw [List.length_cons, List.length_range] at this
  omega
theorem pc_see {m width : Nat} {σ : List Nat} (h : Cols width σ) (hl : σ.length = width) : pcM (seeM m σ) width = pcM m width := by
  have p := cols_perm h hl
  unfold pcM
  rw [← (p.filter fun i => m.testBit i).length_eq]
  have e : σ = (List.range width).map fun p => σ.getD p 0 := by
    refine List.ext_getElem (by rw [List.length_map, List.length_range, hl]) fun i h1 h2 => ?_
    rw [List.getElem_map, List.getElem_range, List.getD_eq_getElem?_getD, List.getElem?_eq_getElem h1]; rfl
  have e2 : (σ.filter fun i => m.testBit i).length = ((List.range width).filter ((fun i => m.testBit i) ∘ fun p => σ.getD p 0)).length := by
    conv => lhs; rw [e]
    rw [List.filter_map, List.length_map]
  rw [e2]
  congr 1
  refine List.filter_congr fun i hi => ?_
  have hl2 : i < σ.length := by rw [hl]; exact List.mem_range.mp hi
  rw [seeM_bit, List.getElem?_eq_getElem hl2]
  show m.testBit σ[i] = m.testBit (σ.getD i 0)
  rw [List.getD_eq_getElem?_getD, List.getElem?_eq_getElem hl2]; rfl
/-- the matching: the numbers of the rows and the columns -/
def matchB (W M : List Nat) (width : Nat) : Option (List Nat × List Nat) :=
  if sizesB W M width then (extB W M width width []).map fun cols => (W.map fun w => (M.map (seeM · cols)).idxOf w, cols) else none
theorem match_sound {W M : List Nat} {width : Nat} {ns cols : List Nat} (hw : 0 < width) (hlt : ∀ w ∈ W, w < 2 ^ width) (h : matchB W M width = some (ns, cols)) :
    Cols width cols ∧ cols.length = width ∧ W.Perm (M.map (seeM · cols)) ∧ ns = W.map fun w => (M.map (seeM · cols)).idxOf w := by
  unfold matchB at h
  split at h
  · cases he : extB W M width width [] with
    | none => rw [he] at h; cases h
    | some r =>
      rw [he] at h
      cases h
      obtain ⟨a, b, c⟩ := ext_sound width [] cols ⟨List.nodup_nil, fun c h => nomatch h⟩ (Nat.zero_add _) (fun e => by omega) he
      refine ⟨a, b, ?_, rfl⟩
      rw [fits_iff, b] at c
      have : W.map (· % 2 ^ width) = W := by
        conv => rhs; rw [← List.map_id W]
        exact List.map_congr_left fun w hw => Nat.mod_eq_of_lt (hlt w hw)
      rw [this] at c
      exact c
  · cases h
theorem match_complete {W M : List Nat} {width : Nat} {σ : List Nat} (hσ : Cols width σ) (hl : σ.length = width) (hp : W.Perm (M.map (seeM · σ))) : matchB W M width ≠ none := by
  unfold matchB
  have hs : sizesB W M width = true := by
    unfold sizesB
    rw [List.isPerm_iff]
    have := hp.map (pcM · width)
    rw [List.map_map] at this
    exact this.trans (List.Perm.of_eq (List.map_congr_left fun m _ => pc_see hσ hl))
  rw [if_pos hs]
  have := ext_complete hσ hl hp width 0 (by omega)
  rw [List.take_zero] at this
  intro h
  cases he : extB W M width width [] with
  | none => exact this he
  | some r => rw [he] at h; cases h
end My
set_option maxRecDepth 100000
set_option maxHeartbeats 4000000
/-! a dict that the module has written, its keys whole numbers; tuples that the module has written -/
namespace My
open PySem L2 PySem.Spec PyProof.Rows
/-- the written entries are these -/
def KeysI : List DictEntry → List (Int × V) → Prop
  | [], [] => True
  | e :: r, p :: q => ((∃ t, e.key = .int p.1 t) ∧ e.hash = hashInt p.1 ∧ RelV p.2 e.val) ∧ KeysI r q
  | _, _ => False
structure IDict (K : PySem.W.Frag) (d : Addr) (kvs : List (Int × V)) : Prop where
  low : (d == sysModules) = false
  at_ : ∃ es n, K.lookup d = some ⟨.type "dict", none, .dict es n, #[]⟩ ∧ KeysI es.toList kvs
theorem KeysI.keys : ∀ {es : List DictEntry} {kvs : List (Int × V)}, KeysI es kvs → ∀ e ∈ es, ∃ k t, e.key = .int k t ∧ e.hash = hashInt k
  | [], [], _, e, h => nomatch h
  | _ :: _, [], h, _, _ => h.elim
  | [], _ :: _, h, _, _ => h.elim
  | e0 :: r, p :: q, h, e, hm => by
    obtain ⟨⟨⟨t, a⟩, b, _⟩, h2⟩ := h
    rcases List.mem_cons.mp hm with rfl | hm
    · exact ⟨_, _, a, b⟩
    · exact h2.keys e hm
theorem KeysI.find : ∀ {es : List DictEntry} {kvs : List (Int × V)}, KeysI es kvs → ∀ k, match kvs.lookup k with | none => es.find? (fun e => Value.isInt k e.key) = none | some v => ∃ e, es.find? (fun e => Value.isInt k e.key) = some e ∧ RelV v e.val
  | [], [], _, k => rfl
  | _ :: _, [], h, _ => h.elim
  | [], _ :: _, h, _ => h.elim
  | e0 :: r, p :: q, h, k => by
    obtain ⟨⟨⟨t, a⟩, b, c⟩, h2⟩ := h
    obtain ⟨pk, pv⟩ := p
    have ih := h2.find k
    by_cases e : k = pk
    · subst e
      have l : List.lookup k ((k, pv) :: q) = some pv := by simp [List.lookup]
      rw [l]
      refine ⟨e0, ?_, c⟩
      rw [List.find?_cons, a]
      simp [Value.isInt]
    · have l : List.lookup k ((pk, pv) :: q) = q.lookup k := by
        rw [List.lookup_cons]
        have : (k == pk) = false := beq_eq_false_iff_ne.mpr e
        rw [this]
      have f : (e0 :: r).find? (fun e => Value.isInt k e.key) = r.find? (fun e => Value.isInt k e.key) := by
        rw [List.find?_cons, a]
        have : Value.isInt k (Value.int pk t) = false := by simp [Value.isInt]; exact fun h => e h.symm
        rw [this]
      rw [l, f]
      exact ih
section
variable {X : Cx}
theorem IDict.map {K : PySem.W.Frag} {prog : Program} {w : World} {h : Heap} {d : Addr} {kvs : List (Int × V)} (D : IDict K d kvs) (I : K.In h) : ∃ es : Array DictEntry, h.MapOf (intKind prog w) d (findBy Value.isInt es) ∧ KeysI es.toList kvs := by
  obtain ⟨es, n, hl, hk⟩ := D.at_
  refine ⟨es, ⟨_, es, n, I _ _ hl, ⟨rfl, rfl, rfl⟩, rfl, fun e he => ?_, fun _ => rfl⟩, hk⟩
  obtain ⟨k, t, e1, e2⟩ := hk.keys e (Array.mem_toList_iff.mpr he)
  exact ⟨k, by rw [e1]; exact intKind_is prog w k t, e2⟩
theorem find_is {es : Array DictEntry} {kvs : List (Int × V)} (h : KeysI es.toList kvs) (k : Int) : (findBy Value.isInt es k).isSome = (kvs.lookup k).isSome := by
  obtain ⟨l⟩ := es
  have := h.find k
  unfold findBy
  rw [List.find?_toArray]
  cases e : kvs.lookup k with
  | none => rw [e] at this; rw [show l.find? (fun e => Value.isInt k e.key) = none from this]; rfl
  | some v => rw [e] at this; obtain ⟨x, e2, _⟩ := this; rw [show l.find? (fun e => Value.isInt k e.key) = some x from e2]; rfl
theorem find_some {es : Array DictEntry} {kvs : List (Int × V)} (h : KeysI es.toList kvs) {k : Int} {v : V} (e : kvs.lookup k = some v) : ∃ u, findBy Value.isInt es k = some u ∧ RelV v u := by
  obtain ⟨l⟩ := es
  have := h.find k
  rw [e] at this
  obtain ⟨x, e2, r⟩ := this
  refine ⟨x.val, ?_, r⟩
  unfold findBy
  rw [List.find?_toArray, show l.find? (fun e => Value.isInt k e.key) = some x from e2]
  rfl
/-- k in d, of a written dict -/
def rInI (K : PySem.W.Frag) : R2 := fun x y H Q => ∃ k d kvs, x = .int k ∧ y = .ref d ∧ IDict K d kvs ∧ Q (.bl (kvs.lookup k).isSome) H
theorem op_inI : OpR X (compareOp .In) (rInI X.K) := by
  intro pins s σ H x y v u Q I rx ry h
  obtain ⟨k, d, kvs, rfl, rfl, D, q⟩ := h
  obtain ⟨t, rfl⟩ := rx
  cases ry
  obtain ⟨es, hm, hk⟩ := D.map (prog := X.prog) (w := X.w) I.kIn
  refine wpAny_in_of (intKind_is X.prog X.w k t) D.low hm ?_
  rw [find_is hk]
  exact ⟨.bl (kvs.lookup k).isSome, H, I.tok _, rfl, q⟩
/-- d[k], of a written dict -/
def rIxI (K : PySem.W.Frag) : R2 := fun x y H Q => ∃ d k kvs v, x = .ref d ∧ y = .int k ∧ IDict K d kvs ∧ kvs.lookup k = some v ∧ Q v H
theorem ix_idict : IxR X (rIxI X.K) := by
  intro value slice pins s σ H x y v u Q I rx ry h hs
  obtain ⟨d, k, kvs, r, rfl, rfl, D, e, q⟩ := h
  obtain rfl : v = Value.ref d := rx
  obtain ⟨t, rfl⟩ := ry
  obtain ⟨es, hm, hk⟩ := D.map (prog := X.prog) (w := X.w) I.kIn
  obtain ⟨u0, e0, r0⟩ := find_some hk e
  exact tail_any hm.typeIs slot_dict_getitem.lookup (wpAny_getItem_of (intKind_is X.prog X.w k t) hm e0 ⟨r, H, I.tok _, r0, q⟩) hs
end
/-- a tuple that the module has written -/
def WTup (K : PySem.W.Frag) (t : Addr) (xs : List V) : Prop := ∃ (od : Option Addr) (its : Array Value) (n : Nat) (sl : Array (Option Value)), K.lookup t = some ⟨.type "tuple", od, .seq its n, sl⟩ ∧ its.size ≤ sizeLine ∧ Vals xs its.toList
theorem WTup.sq {K : PySem.W.Frag} {H : Hp} {t : Addr} {xs : List V} (h : WTup K t xs) : SqT K H t xs :=
  let ⟨_, its, n, _, e, l, v⟩ := h; .inr ⟨_, its, n, e, rfl, rfl, l, v⟩
end My
set_option maxRecDepth 100000
set_option maxHeartbeats 4000000
set_option exponentiation.threshold 10000
namespace My
open PySem L2
def top (i : Nat) : Stmt := PySem.Challenge.pw_unbrokenrows_k30_recognized_tables.main.body.getD i (.Pass ⟨0, 0, 0, 0⟩)
abbrev s_BadKind_init : Stmt := inClass (top 6) 0
abbrev s_is_name : Stmt := top 15
abbrev s_first_bad_name : Stmt := top 16
abbrev s_first_stray : Stmt := top 17
abbrev s_check_columns : Stmt := top 21
abbrev s_check_rows : Stmt := top 22
abbrev s_Table_in_order : Stmt := inClass (top 23) 3
abbrev s_Table_init : Stmt := inClass (top 23) 2
abbrev s_mask_of : Stmt := top 19
abbrev s_seen : Stmt := top 12
abbrev s_fits : Stmt := top 11
abbrev s_extended : Stmt := top 10
abbrev s_sizes : Stmt := top 9
abbrev s_matching : Stmt := top 8
abbrev s_standard_width : Stmt := top 30
abbrev s_standard_rows : Stmt := top 29
abbrev s_Pattern_init : Stmt := inClass (top 31) 0
abbrev s_matched : Stmt := top 33
abbrev s_recognized : Stmt := top 32
abbrev s_law_cell : Stmt := top 35
abbrev s_law_pool : Stmt := top 36
abbrev s_law_names : Stmt := top 37
abbrev s_law_order : Stmt := top 38
abbrev s_law_row : Stmt := top 39
abbrev s_law_is_number : Stmt := top 40
abbrev s_law_standard : Stmt := top 41
abbrev s_law_width : Stmt := top 42
abbrev s_law_is_pattern : Stmt := top 43
abbrev s_law_mixed : Stmt := top 44
abbrev s_law_recognized : Stmt := top 45
abbrev s_law_turned : Stmt := top 46
abbrev s_law : Stmt := top 47
theorem ss_BadKind_init : SupScope ["self", "kind", "size"] ["self", "kind", "size"] (defScope s_BadKind_init) := ⟨rfl, rfl, rfl, by decide +kernel, rfl, by decide +kernel, by decide +kernel, by decide +kernel, rfl, rfl⟩
theorem sc_is_name : FnScope ["text", "sign"] ["text"] (defScope s_is_name) := ⟨rfl, rfl, rfl, by decide +kernel, rfl, by decide +kernel, by decide +kernel⟩
theorem sc_first_bad_name : FnScope ["names", "index", "name"] ["names"] (defScope s_first_bad_name) := ⟨rfl, rfl, rfl, by decide +kernel, rfl, by decide +kernel, by decide +kernel⟩
theorem sc_first_stray : FnScope ["columns", "names", "index", "name"] ["columns", "names"] (defScope s_first_stray) := ⟨rfl, rfl, rfl, by decide +kernel, rfl, by decide +kernel, by decide +kernel⟩
theorem sc_check_columns : FnScope ["columns", "index"] ["columns"] (defScope s_check_columns) := ⟨rfl, rfl, rfl, by decide +kernel, rfl, by decide +kernel, by decide +kernel⟩
theorem sc_check_rows : FnScope ["columns", "rows", "index", "row"] ["columns", "rows"] (defScope s_check_rows) := ⟨rfl, rfl, rfl, by decide +kernel, rfl, by decide +kernel, by decide +kernel⟩
theorem sc_Table_in_order : FnScope ["self", "names", "name"] ["self", "names"] (defScope s_Table_in_order) := ⟨rfl, rfl, rfl, by decide +kernel, rfl, by decide +kernel, by decide +kernel⟩
theorem sc_Table_init : FnScope ["self", "columns", "rows", "row"] ["self", "columns", "rows"] (defScope s_Table_init) := ⟨rfl, rfl, rfl, by decide +kernel, rfl, by decide +kernel, by decide +kernel⟩
theorem sc_mask_of : FnScope ["names", "columns", "number", "name"] ["names", "columns"] (defScope s_mask_of) := ⟨rfl, rfl, rfl, by decide +kernel, rfl, by decide +kernel, by decide +kernel⟩
theorem sc_seen : FnScope ["mask", "chosen", "place", "column"] ["mask", "chosen"] (defScope s_seen) := ⟨rfl, rfl, rfl, by decide +kernel, rfl, by decide +kernel, by decide +kernel⟩
theorem sc_fits : FnScope ["wanted", "masks", "chosen", "low", "mask"] ["wanted", "masks", "chosen"] (defScope s_fits) := ⟨rfl, rfl, rfl, by decide +kernel, rfl, by decide +kernel, by decide +kernel⟩
theorem sc_extended : FnScope ["wanted", "masks", "width", "chosen", "column", "longer", "columns"] ["wanted", "masks", "width", "chosen"] (defScope s_extended) := ⟨rfl, rfl, rfl, by decide +kernel, rfl, by decide +kernel, by decide +kernel⟩
theorem sc_sizes : FnScope ["masks", "width", "mask", "place"] ["masks", "width"] (defScope s_sizes) := ⟨rfl, rfl, rfl, by decide +kernel, rfl, by decide +kernel, by decide +kernel⟩
theorem sc_matching : FnScope ["rows", "masks", "width", "wanted", "columns", "seen", "row", "mask", "place"] ["rows", "masks", "width"] (defScope s_matching) := ⟨rfl, rfl, rfl, by decide +kernel, rfl, by decide +kernel, by decide +kernel⟩
theorem sc_standard_width : FnScope ["kind", "size", "width"] ["kind", "size"] (defScope s_standard_width) := ⟨rfl, rfl, rfl, by decide +kernel, rfl, by decide +kernel, by decide +kernel⟩
theorem sc_standard_rows : FnScope ["kind", "size", "last", "rows", "inner", "at"] ["kind", "size"] (defScope s_standard_rows) := ⟨rfl, rfl, rfl, by decide +kernel, rfl, by decide +kernel, by decide +kernel⟩
theorem sc_Pattern_init : FnScope ["self", "kind", "size", "rows", "columns"] ["self", "kind", "size", "rows", "columns"] (defScope s_Pattern_init) := ⟨rfl, rfl, rfl, by decide +kernel, rfl, by decide +kernel, by decide +kernel⟩
theorem sc_matched : FnScope ["kind", "size", "masks", "width", "rows"] ["kind", "size", "masks", "width"] (defScope s_matched) := ⟨rfl, rfl, rfl, by decide +kernel, rfl, by decide +kernel, by decide +kernel⟩
theorem sc_recognized : FnScope ["table", "masks", "kind", "size", "found", "numbers", "columns", "row", "column"] ["table"] (defScope s_recognized) := ⟨rfl, rfl, rfl, by decide +kernel, rfl, by decide +kernel, by decide +kernel⟩
theorem sc_law_cell : FnScope ["script", "k"] ["script", "k"] (defScope s_law_cell) := ⟨rfl, rfl, rfl, by decide +kernel, rfl, by decide +kernel, by decide +kernel⟩
theorem sc_law_pool : FnScope ["script", "k", "count", "value", "pool", "i", "first", "second", "third"] ["script", "k", "count"] (defScope s_law_pool) := ⟨rfl, rfl, rfl, by decide +kernel, rfl, by decide +kernel, by decide +kernel⟩
theorem sc_law_names : FnScope ["count", "seed", "words", "cut", "names", "k", "core", "left", "right"] ["count", "seed"] (defScope s_law_names) := ⟨rfl, rfl, rfl, by decide +kernel, rfl, by decide +kernel, by decide +kernel⟩
theorem sc_law_order : FnScope ["names", "pool", "start", "left", "order", "k", "pick"] ["names", "pool", "start"] (defScope s_law_order) := ⟨rfl, rfl, rfl, by decide +kernel, rfl, by decide +kernel, by decide +kernel⟩
theorem sc_law_row : FnScope ["names", "hidden", "draw", "free", "row", "name", "size", "first", "width", "cut"] ["names", "hidden", "draw", "free"] (defScope s_law_row) := ⟨rfl, rfl, rfl, by decide +kernel, rfl, by decide +kernel, by decide +kernel⟩
theorem sc_law_is_number : FnScope ["value", "least", "most"] ["value", "least", "most"] (defScope s_law_is_number) := ⟨rfl, rfl, rfl, by decide +kernel, rfl, by decide +kernel, by decide +kernel⟩
theorem sc_law_standard : FnScope ["kind", "size", "rows", "i"] ["kind", "size"] (defScope s_law_standard) := ⟨rfl, rfl, rfl, by decide +kernel, rfl, by decide +kernel, by decide +kernel⟩
theorem sc_law_width : FnScope ["kind", "size"] ["kind", "size"] (defScope s_law_width) := ⟨rfl, rfl, rfl, by decide +kernel, rfl, by decide +kernel, by decide +kernel⟩
theorem sc_law_is_pattern : FnScope ["found", "names", "rows", "due", "width", "i", "j"] ["found", "names", "rows"] (defScope s_law_is_pattern) := ⟨rfl, rfl, rfl, by decide +kernel, rfl, by decide +kernel, by decide +kernel⟩
theorem sc_law_mixed : FnScope ["order", "pool", "kind", "size", "rows", "row", "cut", "laid", "i", "j"] ["order", "pool", "kind", "size"] (defScope s_law_mixed) := ⟨rfl, rfl, rfl, by decide +kernel, rfl, by decide +kernel, by decide +kernel⟩
theorem sc_law_recognized : FnScope ["names", "rows", "handed", "found", "row"] ["names", "rows"] (defScope s_law_recognized) := ⟨rfl, rfl, rfl, by decide +kernel, rfl, by decide +kernel, by decide +kernel⟩
theorem sc_law_turned : FnScope ["rows", "at", "name", "row", "other"] ["rows", "at", "name"] (defScope s_law_turned) := ⟨rfl, rfl, rfl, by decide +kernel, rfl, by decide +kernel, by decide +kernel⟩
theorem sc_law : FnScope ["script", "p0", "p1", "kind", "size", "names", "order", "rows", "at", "name", "more", "fewer", "tried", "other", "row", "word"] ["script"] (defScope s_law) := ⟨rfl, rfl, rfl, by decide +kernel, rfl, by decide +kernel, by decide +kernel⟩
/-- where the defs and classes stand -/
structure Ad where
  C_Table : Addr
  C_Pattern : Addr
  C_BadKind : Addr
  a_BadKind_init : Addr
  d_BadKind_init : FuncData
  a_is_name : Addr
  d_is_name : FuncData
  a_first_bad_name : Addr
  d_first_bad_name : FuncData
  a_first_stray : Addr
  d_first_stray : FuncData
  a_check_columns : Addr
  d_check_columns : FuncData
  a_check_rows : Addr
  d_check_rows : FuncData
  a_Table_in_order : Addr
  d_Table_in_order : FuncData
  a_Table_init : Addr
  d_Table_init : FuncData
  a_mask_of : Addr
  d_mask_of : FuncData
  a_seen : Addr
  d_seen : FuncData
  a_fits : Addr
  d_fits : FuncData
  a_extended : Addr
  d_extended : FuncData
  a_sizes : Addr
  d_sizes : FuncData
  a_matching : Addr
  d_matching : FuncData
  a_standard_width : Addr
  d_standard_width : FuncData
  a_standard_rows : Addr
  d_standard_rows : FuncData
  a_Pattern_init : Addr
  d_Pattern_init : FuncData
  a_matched : Addr
  d_matched : FuncData
  a_recognized : Addr
  d_recognized : FuncData
  a_law_cell : Addr
  d_law_cell : FuncData
  a_law_pool : Addr
  d_law_pool : FuncData
  a_law_names : Addr
  d_law_names : FuncData
  a_law_order : Addr
  d_law_order : FuncData
  a_law_row : Addr
  d_law_row : FuncData
  a_law_is_number : Addr
  d_law_is_number : FuncData
  a_law_standard : Addr
  d_law_standard : FuncData
  a_law_width : Addr
  d_law_width : FuncData
  a_law_is_pattern : Addr
  d_law_is_pattern : FuncData
  a_law_mixed : Addr
  d_law_mixed : FuncData
  a_law_recognized : Addr
  d_law_recognized : FuncData
  a_law_turned : Addr
  d_law_turned : FuncData
  a_law : Addr
  d_law : FuncData
  e_Table_init : Addr
  e_MORE_COLUMNS : Addr
  e_FIXED_COLUMNS : Addr
  e_FIXED_ROWS : Addr
  e_w4 : Addr
  e_w5 : Addr
  e_w40 : Addr
  e_w41 : Addr
  e_w42 : Addr
  e_w43 : Addr
  e_w50 : Addr
  e_w51 : Addr
  e_w52 : Addr
  e_w53 : Addr
  e_KINDS : Addr
/-- what the top has written -/
structure Txt (P : Program) (K : PySem.W.Frag) (mg : Str → Option Value) (A : Ad) : Prop where
  mg_Table : mg "Table" = some (.ref A.C_Table)
  cl_Table : Cls K A.C_Table
  sf_Table : PySem.W.selfFirst K A.C_Table = true
  mk_Table : Mk K A.C_Table A.a_Table_init
  c1_Table : PySem.W.findIn K (.ref A.C_Table) "__class__" = some (some (.builtin "object.__class__"))
  c3_Table : PySem.W.mroIn K A.C_Table (.type "object") = some true
  n_Table_columns : NoAttr K A.C_Table "columns"
  n_Table_rows : NoAttr K A.C_Table "rows"
  mg_Pattern : mg "Pattern" = some (.ref A.C_Pattern)
  cl_Pattern : Cls K A.C_Pattern
  sf_Pattern : PySem.W.selfFirst K A.C_Pattern = true
  mk_Pattern : Mk K A.C_Pattern A.a_Pattern_init
  c1_Pattern : PySem.W.findIn K (.ref A.C_Pattern) "__class__" = some (some (.builtin "object.__class__"))
  c3_Pattern : PySem.W.mroIn K A.C_Pattern (.type "object") = some true
  n_Pattern_kind : NoAttr K A.C_Pattern "kind"
  n_Pattern_size : NoAttr K A.C_Pattern "size"
  n_Pattern_rows : NoAttr K A.C_Pattern "rows"
  n_Pattern_columns : NoAttr K A.C_Pattern "columns"
  c2 : PySem.W.specialIn K (.builtin "object.__class__") "__get__" = some (some (.builtin "getset_descriptor.__get__"))
  c4 : PySem.W.takesIn K (.builtin "object.__class__") = some true
  mg_BadKind : mg "BadKind" = some (.ref A.C_BadKind)
  tp_BadKind : PySem.W.typeIn K (.ref A.C_BadKind) = some (.type "type")
  ic_BadKind : PySem.W.isClsIn K A.C_BadKind = true
  SC_BadKind : SupCls P K mg A.C_BadKind
  SF_BadKind : SupFn P K s_BadKind_init "BadKind.__init__" A.C_BadKind A.a_BadKind_init A.d_BadKind_init
  ii_BadKind : PySem.W.findIn K (.ref A.C_BadKind) "__init__" = some (some (.ref A.a_BadKind_init))
  ti_BadKind : PySem.W.typeIn K (.ref A.a_BadKind_init) = some (.type "function")
  b_BadKind_init : Binds K A.d_BadKind_init ["self", "kind", "size"] []
  xn_BadKind_kind : PySem.W.findIn K (.ref A.C_BadKind) "kind" = some none
  xn_BadKind_size : PySem.W.findIn K (.ref A.C_BadKind) "size" = some none
  xf_BadKind : XfC K A.C_BadKind
  ec_BadKind : ExcC K A.C_BadKind
  k_BadKind : PySem.W.keepIn K (.ref A.C_BadKind) = true
  bp_BadKind : PySem.W.subIn K (.ref A.C_BadKind) (.type "BaseException") = some true
  sv_BadKind : PySem.W.subIn K (.ref A.C_BadKind) (.type "ValueError") = some true
  ss_BadKind : PySem.W.subIn K (.ref A.C_BadKind) (.ref A.C_BadKind) = some true
  e1_BadKind : PySem.W.findIn K (.ref A.C_BadKind) "__getattribute__" = some (some (.builtin "BaseException.__getattribute__"))
  e2_BadKind : PySem.W.findIn K (.ref A.C_BadKind) "__getattr__" = some none
  e3_BadKind : PySem.W.hasDictIn K A.C_BadKind = true
  e4_BadKind : PySem.W.findIn K (.ref A.C_BadKind) "__class__" = some (some (.builtin "object.__class__"))
  e5_BadKind : PySem.W.mroIn K A.C_BadKind (.type "object") = some true
  mg_LONGEST_NAME : ∃ t : Tok, mg "LONGEST_NAME" = some (.int 8 t)
  cr_Table : ClX.CRead K A.C_Table (.type "type")
  cv_Table_MOST_COLUMNS : ∃ u, ClX.CVal K A.C_Table (.type "type") "MOST_COLUMNS" (.int 12) u
  cv_Table_MOST_ROWS : ∃ u, ClX.CVal K A.C_Table (.type "type") "MOST_ROWS" (.int 48) u
  n_abs : mg "abs" = none
  n_int : mg "int" = none
  n_isinstance : mg "isinstance" = none
  n_range : mg "range" = none
  n_len : mg "len" = none
  n_str : mg "str" = none
  n_tuple : mg "tuple" = none
  n_list : mg "list" = none
  n_ValueError : mg "ValueError" = none
  n_all : mg "all" = none
  n_min : mg "min" = none
  n_max : mg "max" = none
  n_enumerate : mg "enumerate" = none
  n_bool : mg "bool" = none
  n_sum : mg "sum" = none
  n_sorted : mg "sorted" = none
  mg_MORE_COLUMNS : mg "MORE_COLUMNS" = some (.ref A.e_MORE_COLUMNS)
  id_MORE_COLUMNS : IDict K A.e_MORE_COLUMNS [(1, .int 2), (2, .int 3), (3, .int 3)]
  mg_FIXED_COLUMNS : mg "FIXED_COLUMNS" = some (.ref A.e_FIXED_COLUMNS)
  id_FIXED_COLUMNS : IDict K A.e_FIXED_COLUMNS [(4, .int 6), (5, .int 5)]
  mg_FIXED_ROWS : mg "FIXED_ROWS" = some (.ref A.e_FIXED_ROWS)
  id_FIXED_ROWS : IDict K A.e_FIXED_ROWS [(4, .ref A.e_w4), (5, .ref A.e_w5)]
  mg_KINDS : mg "KINDS" = some (.ref A.e_KINDS)
  wt_w4 : WTup K A.e_w4 [.ref A.e_w40, .ref A.e_w41, .ref A.e_w42, .ref A.e_w43]
  wt_w5 : WTup K A.e_w5 [.ref A.e_w50, .ref A.e_w51, .ref A.e_w52, .ref A.e_w53]
  wt_w40 : WTup K A.e_w40 [.int 0, .int 1]
  wt_w41 : WTup K A.e_w41 [.int 2, .int 3]
  wt_w42 : WTup K A.e_w42 [.int 4, .int 5]
  wt_w43 : WTup K A.e_w43 [.int 1, .int 3, .int 5]
  wt_w50 : WTup K A.e_w50 [.int 0, .int 1]
  wt_w51 : WTup K A.e_w51 [.int 2, .int 3]
  wt_w52 : WTup K A.e_w52 [.int 0, .int 1, .int 2, .int 3]
  wt_w53 : WTup K A.e_w53 [.int 1, .int 2, .int 4]
  wt_KINDS : WTup K A.e_KINDS [.int 1, .int 2, .int 3, .int 4, .int 5]
  F_is_name : Fun K "is_name" "is_name" s_is_name A.a_is_name A.d_is_name
  b_is_name : Binds K A.d_is_name ["text"] []
  mg_is_name : mg "is_name" = some (.ref A.a_is_name)
  F_first_bad_name : Fun K "first_bad_name" "first_bad_name" s_first_bad_name A.a_first_bad_name A.d_first_bad_name
  b_first_bad_name : Binds K A.d_first_bad_name ["names"] []
  mg_first_bad_name : mg "first_bad_name" = some (.ref A.a_first_bad_name)
  F_first_stray : Fun K "first_stray" "first_stray" s_first_stray A.a_first_stray A.d_first_stray
  b_first_stray : Binds K A.d_first_stray ["columns", "names"] []
  mg_first_stray : mg "first_stray" = some (.ref A.a_first_stray)
  F_check_columns : Fun K "check_columns" "check_columns" s_check_columns A.a_check_columns A.d_check_columns
  b_check_columns : Binds K A.d_check_columns ["columns"] []
  mg_check_columns : mg "check_columns" = some (.ref A.a_check_columns)
  F_check_rows : Fun K "_check_rows" "_check_rows" s_check_rows A.a_check_rows A.d_check_rows
  b_check_rows : Binds K A.d_check_rows ["columns", "rows"] []
  mg_check_rows : mg "_check_rows" = some (.ref A.a_check_rows)
  F_Table_in_order : Fun K "_in_order" "Table._in_order" s_Table_in_order A.a_Table_in_order A.d_Table_in_order
  b_Table_in_order : Binds K A.d_Table_in_order ["self", "names"] []
  m_Table_in_order : Meth K A.C_Table "_in_order" A.a_Table_in_order
  F_Table_init : FunD K "__init__" "Table.__init__" (defArgs s_Table_init) (defBody s_Table_init) (defScope s_Table_init) [.ref A.e_Table_init] [] A.a_Table_init A.d_Table_init
  m_Table_init : Meth K A.C_Table "__init__" A.a_Table_init
  F_mask_of : Fun K "mask_of" "mask_of" s_mask_of A.a_mask_of A.d_mask_of
  b_mask_of : Binds K A.d_mask_of ["names", "columns"] []
  mg_mask_of : mg "mask_of" = some (.ref A.a_mask_of)
  F_seen : Fun K "_seen" "_seen" s_seen A.a_seen A.d_seen
  b_seen : Binds K A.d_seen ["mask", "chosen"] []
  mg_seen : mg "_seen" = some (.ref A.a_seen)
  F_fits : Fun K "_fits" "_fits" s_fits A.a_fits A.d_fits
  b_fits : Binds K A.d_fits ["wanted", "masks", "chosen"] []
  mg_fits : mg "_fits" = some (.ref A.a_fits)
  F_extended : Fun K "_extended" "_extended" s_extended A.a_extended A.d_extended
  b_extended : Binds K A.d_extended ["wanted", "masks", "width", "chosen"] []
  mg_extended : mg "_extended" = some (.ref A.a_extended)
  F_sizes : Fun K "_sizes" "_sizes" s_sizes A.a_sizes A.d_sizes
  b_sizes : Binds K A.d_sizes ["masks", "width"] []
  mg_sizes : mg "_sizes" = some (.ref A.a_sizes)
  F_matching : Fun K "matching" "matching" s_matching A.a_matching A.d_matching
  b_matching : Binds K A.d_matching ["rows", "masks", "width"] []
  mg_matching : mg "matching" = some (.ref A.a_matching)
  F_standard_width : Fun K "standard_width" "standard_width" s_standard_width A.a_standard_width A.d_standard_width
  b_standard_width : Binds K A.d_standard_width ["kind", "size"] []
  mg_standard_width : mg "standard_width" = some (.ref A.a_standard_width)
  F_standard_rows : Fun K "standard_rows" "standard_rows" s_standard_rows A.a_standard_rows A.d_standard_rows
  b_standard_rows : Binds K A.d_standard_rows ["kind", "size"] []
  mg_standard_rows : mg "standard_rows" = some (.ref A.a_standard_rows)
  F_Pattern_init : Fun K "__init__" "Pattern.__init__" s_Pattern_init A.a_Pattern_init A.d_Pattern_init
  b_Pattern_init : Binds K A.d_Pattern_init ["self", "kind", "size", "rows", "columns"] []
  m_Pattern_init : Meth K A.C_Pattern "__init__" A.a_Pattern_init
  F_matched : Fun K "_matched" "_matched" s_matched A.a_matched A.d_matched
  b_matched : Binds K A.d_matched ["kind", "size", "masks", "width"] []
  mg_matched : mg "_matched" = some (.ref A.a_matched)
  F_recognized : Fun K "recognized" "recognized" s_recognized A.a_recognized A.d_recognized
  b_recognized : Binds K A.d_recognized ["table"] []
  mg_recognized : mg "recognized" = some (.ref A.a_recognized)
  F_law_cell : Fun K "_law_cell" "_law_cell" s_law_cell A.a_law_cell A.d_law_cell
  b_law_cell : Binds K A.d_law_cell ["script", "k"] []
  mg_law_cell : mg "_law_cell" = some (.ref A.a_law_cell)
  F_law_pool : Fun K "_law_pool" "_law_pool" s_law_pool A.a_law_pool A.d_law_pool
  b_law_pool : Binds K A.d_law_pool ["script", "k", "count"] []
  mg_law_pool : mg "_law_pool" = some (.ref A.a_law_pool)
  F_law_names : Fun K "_law_names" "_law_names" s_law_names A.a_law_names A.d_law_names
  b_law_names : Binds K A.d_law_names ["count", "seed"] []
  mg_law_names : mg "_law_names" = some (.ref A.a_law_names)
  F_law_order : Fun K "_law_order" "_law_order" s_law_order A.a_law_order A.d_law_order
  b_law_order : Binds K A.d_law_order ["names", "pool", "start"] []
  mg_law_order : mg "_law_order" = some (.ref A.a_law_order)
  F_law_row : Fun K "_law_row" "_law_row" s_law_row A.a_law_row A.d_law_row
  b_law_row : Binds K A.d_law_row ["names", "hidden", "draw", "free"] []
  mg_law_row : mg "_law_row" = some (.ref A.a_law_row)
  F_law_is_number : Fun K "_law_is_number" "_law_is_number" s_law_is_number A.a_law_is_number A.d_law_is_number
  b_law_is_number : Binds K A.d_law_is_number ["value", "least", "most"] []
  mg_law_is_number : mg "_law_is_number" = some (.ref A.a_law_is_number)
  F_law_standard : Fun K "_law_standard" "_law_standard" s_law_standard A.a_law_standard A.d_law_standard
  b_law_standard : Binds K A.d_law_standard ["kind", "size"] []
  mg_law_standard : mg "_law_standard" = some (.ref A.a_law_standard)
  F_law_width : Fun K "_law_width" "_law_width" s_law_width A.a_law_width A.d_law_width
  b_law_width : Binds K A.d_law_width ["kind", "size"] []
  mg_law_width : mg "_law_width" = some (.ref A.a_law_width)
  F_law_is_pattern : Fun K "_law_is_pattern" "_law_is_pattern" s_law_is_pattern A.a_law_is_pattern A.d_law_is_pattern
  b_law_is_pattern : Binds K A.d_law_is_pattern ["found", "names", "rows"] []
  mg_law_is_pattern : mg "_law_is_pattern" = some (.ref A.a_law_is_pattern)
  F_law_mixed : Fun K "_law_mixed" "_law_mixed" s_law_mixed A.a_law_mixed A.d_law_mixed
  b_law_mixed : Binds K A.d_law_mixed ["order", "pool", "kind", "size"] []
  mg_law_mixed : mg "_law_mixed" = some (.ref A.a_law_mixed)
  F_law_recognized : Fun K "_law_recognized" "_law_recognized" s_law_recognized A.a_law_recognized A.d_law_recognized
  b_law_recognized : Binds K A.d_law_recognized ["names", "rows"] []
  mg_law_recognized : mg "_law_recognized" = some (.ref A.a_law_recognized)
  F_law_turned : Fun K "_law_turned" "_law_turned" s_law_turned A.a_law_turned A.d_law_turned
  b_law_turned : Binds K A.d_law_turned ["rows", "at", "name"] []
  mg_law_turned : mg "_law_turned" = some (.ref A.a_law_turned)
  F_law : Fun K "law" "law" s_law A.a_law A.d_law
  b_law : Binds K A.d_law ["script"] []
  mg_law : mg "law" = some (.ref A.a_law)
end My
set_option maxRecDepth 100000
set_option maxHeartbeats 4000000
set_option exponentiation.threshold 10000
namespace My
open PySem L2
section
variable {P : Program} {w : World} {K : PySem.W.Frag} {mg : Str → Option Value} {base : Heap} {A : Ad}
def midI (i : Int) : Prop := i.natAbs < 4611686018427387904
theorem mid_log {i : Int} (h : midI i) : i.natAbs.log2 < 1920 := by
  rcases Nat.eq_zero_or_pos i.natAbs with e | e
  · rw [e]; decide
  · have : i.natAbs.log2 < 62 := (Nat.log2_lt (Nat.pos_iff_ne_zero.mp e)).mpr h
    omega
/-- an error with two numbers -/
def spX2I (C : Addr) (f g : Str) : Sp := fun vs H Q _ => ∃ (a : Addr) (y z : Int), vs = [.ref a, .int y, .int z] ∧ midI y ∧ midI z ∧ H a = some (exo a C none) ∧ ∀ d, H d = none → d ≠ a → Q .non (upd (upd (upd H d (exd d [(f, .int y)])) a (exo a C (some d))) d (exd d [(g, .int z), (f, .int y)]))
theorem lk1 : Str.length ("no standard table has kind " : Str) = 27 := by decide
theorem lk2 : Str.length (" and size " : Str) = 10 := by decide
theorem ok_BadKind (T : Txt P K mg A) : FnOk P w K mg base CX0 1 A.a_BadKind_init A.d_BadKind_init ["self", "kind", "size"] (spX2I A.C_BadKind "kind" "size") := by
  refine sup_ok T.SF_BadKind ss_BadKind_init T.SC_BadKind rfl rfl rfl (fun _ => rfl) (fun _ => rfl) (fun _ => rfl) (fun vs H Q E h => ?_) (fun cda cc A' outer s H vs Q E hr h => ?_)
  · obtain ⟨a, y, z, rfl, _⟩ := h
    rfl
  · obtain ⟨a, y, z, rfl, hy, hz, ha, k⟩ := h
    have l1 := PyProof.Rows.int_text_len_1921 (mid_log hy)
    have l2 := PyProof.Rows.int_text_len_1921 (mid_log hz)
    refine ⟨a, _, _, rfl, ha, (pe_joined (PJ.cons pe_str (PJ.cons (pe_fmt (pv 1)) (PJ.cons pe_str (PJ.cons (pe_fmt (pv 2)) PJ.nil))))), (pss_cons (ps_ost (pv 0) (pv 1)) (pss_one (ps_ost (pv 0) (pv 2)))), ?_⟩
    have big : (8000 : Nat) ≤ sizeLine := by decide
    refine ⟨_, rfl, by rw [Str.empty_append, lk1]; decide, _, rfl, .inr ⟨y, rfl, mid_log hy, _, rfl, ?_, _, rfl, ?_, _, rfl, .inr ⟨z, rfl, mid_log hz, _, rfl, ?_, (by decide : 1 ≤ 1000), ha, _, rfl, _, rfl, a, _, rfl, T.SC_BadKind.ox, T.xn_BadKind_kind, .inl ⟨ha, fun d hd hne => ⟨_, rfl, _, rfl, a, _, rfl, T.SC_BadKind.ox, T.xn_BadKind_size, .inr ⟨d, _, upd_same, by rw [upd_ne hne]; exact upd_same, by show 1 ≤ 900; decide, k d hd hne⟩⟩⟩⟩⟩⟩
    · rw [Str.empty_append, Str.length_append, lk1]; omega
    · rw [Str.empty_append, Str.length_append, Str.length_append, lk1, lk2]; omega
    · rw [Str.empty_append, Str.length_append, Str.length_append, Str.length_append, lk1, lk2]; omega
/-! ### names -/
def spName : Sp := fun vs H Q _ => ∃ z, vs = [.str z] ∧ z.length ≤ 16000000 ∧ ∀ H', Same H H' → Q (.bl (okName z)) H'
theorem ok_name (T : Txt P K mg A) : FnOk P w K mg base CX0 1 A.a_is_name A.d_is_name ["text"] spName := by
  refine T.F_is_name.ok sc_is_name (fun vs H Q E h => ?_) (fun cdv A' outer s H vs Q E hr h => ?_)
  · obtain ⟨z, rfl, _⟩ := h
    rfl
  · obtain ⟨z, rfl, g, k⟩ := h
    refine ⟨_, (pss_one (ps_ret (pe_and (pe_chain op_le op_le pe_int (pe_callB call_len_str (by rfl) T.n_len (by decide +kernel) (pa_cons (pv 0) pa_nil)) (pe_glob (v := .int 8) rfl T.mg_LONGEST_NAME.choose_spec ⟨_, rfl⟩)) (pe_one (pe_callB (cr_all rfl) (by rfl) T.n_all (by decide +kernel) (pa_cons (pe_lc (own := [("sign", 1)]) (g := gName 1) (tt := tYes) rfl sc_is_name.nd (pi_str (pv 0)) (blkOk_by (N := ["text", "sign"]) (sc := defScope s_is_name) (by decide +kernel)) (fun _ _ _ _ _ => (pg_name (i := 1) sc_is_name.nd rfl (Or.inl rfl))) (fun _ _ _ _ _ => pts_nil) (fun _ _ _ _ _ => (pe_chain op_le_str op_le_str pe_str (pv 1) pe_str))) pa_nil)))))), ?_⟩
    have hz : z.length ≤ sizeLine := Nat.le_trans g (by decide)
    refine ⟨_, rfl, z, rfl, hz, _, _, rfl, rfl, _, rfl, ?_⟩
    by_cases h1 : 1 ≤ z.length
    · refine itY (by omega) ⟨_, _, rfl, rfl, _, rfl, ?_⟩
      by_cases h8 : z.length ≤ 8
      · refine itY (by omega) ?_
        refine ⟨_, rfl, z, rfl, fun D hD => lc_it walk_str (PvS H D fun i => (z.cps.toList.take i).map fun c => V.bl (decide (97 ≤ c ∧ c ≤ 122))) (pv0 hD rfl) (fun _ _ _ _ => trivial) ?_ ?_⟩
        · rintro i x H30 H3 hi p ⟨rfl, c, hc, rfl⟩
          have hc' : z.cps.toList[i]? = some c := by rw [Array.getElem?_toList]; exact hc
          have push : ∀ b : Bool, b = decide (97 ≤ c ∧ c ≤ 122) → ∃ acc, H3 D = some (.lst acc) ∧ acc.length < sizeLine ∧ PvS H D (fun i => (z.cps.toList.take i).map fun c => V.bl (decide (97 ≤ c ∧ c ≤ 122))) (i + 1) (upd H3 D (.lst (acc ++ [V.bl b]))) := fun b hb => by
            refine p.push hD ?_ ?_
            · show (z.cps.toList.take (i + 1)).map _ = _
              rw [take_succ hc', List.map_append, hb]; rfl
            · show ((z.cps.toList.take i).map _).length ≤ 1000000
              rw [List.length_map, List.length_take]
              have h2 : z.cps.size = z.length := rfl
              rw [Array.length_toList]; omega
          refine ⟨rfl, ?_⟩
          refine ⟨_, rfl, _, _, rfl, rfl, _, rfl, ?_⟩
          by_cases ha : 97 ≤ c
          · refine ifT (by
              show (!decide ([c] < [97])) = true
              have : ¬ c < 97 := by omega
              simp [List.cons_lt_cons_iff] <;> omega) ⟨_, _, rfl, rfl, push _ ?_⟩
            show (!decide ([122] < [c])) = decide (97 ≤ c ∧ c ≤ 122)
            by_cases hb : c ≤ 122
            · rw [decide_eq_true (⟨ha, hb⟩ : 97 ≤ c ∧ c ≤ 122)]
              simp [List.cons_lt_cons_iff] <;> omega
            · rw [decide_eq_false (fun h : 97 ≤ c ∧ c ≤ 122 => hb h.2)]
              simp [List.cons_lt_cons_iff] <;> omega
          · refine ifF (by
              show (!decide ([c] < [97])) = false
              simp [List.cons_lt_cons_iff] <;> omega) (push _ ?_)
            rw [decide_eq_false (fun h : 97 ≤ c ∧ c ≤ 122 => ha h.1)]
            first | done | (show (!decide ([c] < [97])) = false; simp [List.cons_lt_cons_iff] <;> omega)
        · rintro H3 ⟨sm, h3⟩
          have h3 : H3 D = some (.lst ((z.cps.toList.take z.cps.size).map fun c => V.bl (decide (97 ≤ c ∧ c ≤ 122)))) := h3
          rw [List.take_of_length_le (by rw [Array.length_toList]; exact Nat.le_refl _)] at h3
          refine ⟨D, z.cps.toList.map fun c => decide (97 ≤ c ∧ c ≤ 122), rfl, SqL.of (by rw [List.map_map]; exact h3), ?_⟩
          have e : (z.cps.toList.map fun c => decide (97 ≤ c ∧ c ≤ 122)).all id = okName z := by
            unfold okName
            rw [decide_eq_true h1, decide_eq_true h8, List.all_map]; rfl
          rw [e]
          exact k H3 sm
      · refine itN (by omega) ?_
        have e : okName z = false := by unfold okName; rw [decide_eq_false h8]; simp
        rw [e] at k
        exact k H (Same.refl _)
    · refine itN (by omega) ?_
      have e : okName z = false := by unfold okName; rw [decide_eq_false h1]; rfl
      rw [e] at k
      exact ⟨_, rfl, iteF (k H (Same.refl _))⟩
def spFirstBad (sq : Hp → Addr → List V → Prop) : Sp := fun vs H Q _ => ∃ l ns, vs = [.ref l] ∧ sq H l (sv ns) ∧ (∀ z ∈ ns, z.length ≤ 16000000) ∧ ∀ H', Same H H' → Q (optV (firstBad ns)) H'
theorem ok_firstBad (T : Txt P K mg A) : FnOk P w K mg base CX0 2 A.a_first_bad_name A.d_first_bad_name ["names"] (spFirstBad (SqL K)) := by
  have G_is_name := ok_name (P := P) (w := w) (base := base) T
  refine T.F_first_bad_name.ok sc_first_bad_name (fun vs H Q E h => ?_) (fun cdv A' outer s H vs Q E hr h => ?_)
  · obtain ⟨l, ns, rfl, _⟩ := h
    rfl
  · obtain ⟨l, ns, rfl, hS, g, k⟩ := h
    refine ⟨_, (pss_cons (ps_for PassesOwn.never rfl (pi_enum (by rfl) T.n_enumerate (pa_cons (pv 0) pa_nil)) (pg_tup (by rfl) (pgs_cons (pg_name (i := 1) sc_first_bad_name.nd rfl (Or.inl rfl)) (pgs_cons (pg_name (i := 2) sc_first_bad_name.nd rfl (Or.inl rfl)) pgs_nil)))
        (pss_one (ps_if (PW.pt (pw_or (pt_not (pt_val (pe_call G_is_name (hr.mono (by decide)) rfl T.mg_is_name T.F_is_name.kp T.b_is_name .nil pass0 (pa_cons (pv 2) pa_nil)))) (pw_or1 (pt_cmpR op_in_seq (pv 2) (pe_slice sl_list (pv 0) po_none (po_some (pv 1))) (by with_unfolding_all rfl))))) (pss_one (ps_ret (pv 1))) pss_nil)))
      (pss_one (ps_ret pe_non))), ?_⟩
    refine ⟨_, rfl, l, _, rfl, hS, for_it walk_enum (fun i σ H2 => Same H H2 ∧ (∀ j, j < i → badName ns j = false) ∧ ∃ u1 u2 : Option V, σ = [some (.ref l), u1, u2]) ⟨Same.refl _, fun j hj => absurd hj (Nat.not_lt_zero _), none, none, rfl⟩ (fun i σ H2 _ p => p.1.seq hS) ?_ ?_⟩
    · rintro i x σ H2 H3 hi ⟨sm, hb, u1, u2, rfl⟩ ⟨t, _, _, rfl, ht, rfl, ⟨⟩, hx⟩
      obtain ⟨z, hz, rfl⟩ := sv_get hx
      have hil : i < ns.length := by rw [len_sv] at hi; exact hi
      have bad : badName ns i = (!okName z || decide (z ∈ ns.take i)) := by unfold badName; rw [hz]
      refine ⟨t, _, rfl, SqT.of upd_same, rfl, _, _, rfl, _, _, rfl, rfl, ?_⟩
      refine ⟨_, rfl, z, rfl, g z (List.mem_of_getElem? hz), fun H4 sm4 => ⟨_, rfl, ?_⟩⟩
      have s4 : Same H H4 := sm.trans ((same_new ht).trans sm4)
      cases ok : okName z with
      | false =>
        refine ifT rfl (ifT rfl ⟨_, rfl, ?_⟩)
        have e := firstBad_some hil (by rw [bad, ok]; rfl) hb
        rw [e] at k
        exact k _ s4
      | true =>
        refine ifF rfl ⟨_, rfl, _, rfl, _, rfl, _, rfl, l, _, rfl, s4.seq hS, fun p hp => ⟨p, _, rfl, .inl (SqL.of upd_same), rfl, by rw [cut_take (by omega), sv_take]; exact flat_sv _, _, rfl, ?_⟩⟩
        rw [if_neg Bool.false_ne_true, cut_take (by omega), sv_take, inV_str]
        have s5 := s4.trans (same_new (o := .lst (cutV (sv ns) none (some ((i : Nat) : Int)))) hp)
        rw [cut_take (by omega), sv_take] at s5
        by_cases hp2 : z ∈ ns.take i
        · refine ifT (decide_eq_true hp2) ⟨_, rfl, ?_⟩
          have e := firstBad_some hil (by rw [bad, decide_eq_true hp2, Bool.or_true]) hb
          rw [e] at k
          exact k _ s5
        · refine ifF (decide_eq_false hp2) ⟨s5, fun j hj => ?_, _, _, rfl⟩
          rcases Nat.lt_succ_iff_lt_or_eq.mp hj with q | q
          · exact hb j q
          · rw [q, bad, ok, decide_eq_false hp2]; rfl
    · rintro σ H2 ⟨sm, hb, u1, u2, rfl⟩
      have e := firstBad_none (ns := ns) fun j hj => hb j (by rw [len_sv]; exact hj)
      rw [e] at k
      exact k H2 sm
theorem ok_firstBadT (T : Txt P K mg A) : FnOk P w K mg base CX0 2 A.a_first_bad_name A.d_first_bad_name ["names"] (spFirstBad (SqT K)) := by
  have G_is_name := ok_name (P := P) (w := w) (base := base) T
  refine T.F_first_bad_name.ok sc_first_bad_name (fun vs H Q E h => ?_) (fun cdv A' outer s H vs Q E hr h => ?_)
  · obtain ⟨l, ns, rfl, _⟩ := h
    rfl
  · obtain ⟨l, ns, rfl, hS, g, k⟩ := h
    refine ⟨_, (pss_cons (ps_for PassesOwn.never rfl (pi_enumT (by rfl) T.n_enumerate (pa_cons (pv 0) pa_nil)) (pg_tup (by rfl) (pgs_cons (pg_name (i := 1) sc_first_bad_name.nd rfl (Or.inl rfl)) (pgs_cons (pg_name (i := 2) sc_first_bad_name.nd rfl (Or.inl rfl)) pgs_nil)))
        (pss_one (ps_if (PW.pt (pw_or (pt_not (pt_val (pe_call G_is_name (hr.mono (by decide)) rfl T.mg_is_name T.F_is_name.kp T.b_is_name .nil pass0 (pa_cons (pv 2) pa_nil)))) (pw_or1 (pt_cmpR op_in_seq (pv 2) (pe_slice sl_tupA (pv 0) po_none (po_some (pv 1))) (by with_unfolding_all rfl))))) (pss_one (ps_ret (pv 1))) pss_nil)))
      (pss_one (ps_ret pe_non))), ?_⟩
    refine ⟨_, rfl, l, _, rfl, hS, for_it walk_enumT (fun i σ H2 => Same H H2 ∧ (∀ j, j < i → badName ns j = false) ∧ ∃ u1 u2 : Option V, σ = [some (.ref l), u1, u2]) ⟨Same.refl _, fun j hj => absurd hj (Nat.not_lt_zero _), none, none, rfl⟩ (fun i σ H2 _ p => p.1.tup hS) ?_ ?_⟩
    · rintro i x σ H2 H3 hi ⟨sm, hb, u1, u2, rfl⟩ ⟨t, _, _, rfl, ht, rfl, ⟨⟩, hx⟩
      obtain ⟨z, hz, rfl⟩ := sv_get hx
      have hil : i < ns.length := by rw [len_sv] at hi; exact hi
      have bad : badName ns i = (!okName z || decide (z ∈ ns.take i)) := by unfold badName; rw [hz]
      refine ⟨t, _, rfl, SqT.of upd_same, rfl, _, _, rfl, _, _, rfl, rfl, ?_⟩
      refine ⟨_, rfl, z, rfl, g z (List.mem_of_getElem? hz), fun H4 sm4 => ⟨_, rfl, ?_⟩⟩
      have s4 : Same H H4 := sm.trans ((same_new ht).trans sm4)
      cases ok : okName z with
      | false =>
        refine ifT rfl (ifT rfl ⟨_, rfl, ?_⟩)
        have e := firstBad_some hil (by rw [bad, ok]; rfl) hb
        rw [e] at k
        exact k _ s4
      | true =>
        refine ifF rfl ⟨_, rfl, _, rfl, _, rfl, _, rfl, l, _, rfl, s4.tup hS, fun z => absurd z.2 (by rw [HT.sIx_nat, len_sv]; omega), fun _ p hp => ⟨p, _, rfl, .inr (SqT.of upd_same), rfl, by rw [cut_take (by omega), sv_take]; exact flat_sv _, _, rfl, ?_⟩⟩
        rw [if_neg Bool.false_ne_true, cut_take (by omega), sv_take, inV_str]
        have s5 := s4.trans (same_new (o := .tup (cutV (sv ns) none (some ((i : Nat) : Int)))) hp)
        rw [cut_take (by omega), sv_take] at s5
        by_cases hp2 : z ∈ ns.take i
        · refine ifT (decide_eq_true hp2) ⟨_, rfl, ?_⟩
          have e := firstBad_some hil (by rw [bad, decide_eq_true hp2, Bool.or_true]) hb
          rw [e] at k
          exact k _ s5
        · refine ifF (decide_eq_false hp2) ⟨s5, fun j hj => ?_, _, _, rfl⟩
          rcases Nat.lt_succ_iff_lt_or_eq.mp hj with q | q
          · exact hb j q
          · rw [q, bad, ok, decide_eq_false hp2]; rfl
    · rintro σ H2 ⟨sm, hb, u1, u2, rfl⟩
      have e := firstBad_none (ns := ns) fun j hj => hb j (by rw [len_sv]; exact hj)
      rw [e] at k
      exact k H2 sm
theorem ok_firstBadO (T : Txt P K mg A) : FnOk P w K mg base CX0 2 A.a_first_bad_name A.d_first_bad_name ["names"] (spFirstBad (SqA K)) :=
  (fnok_or (ok_firstBad T) (ok_firstBadT T)).imp fun vs H Q E ⟨l, ns, e, hs, r⟩ => hs.elim (fun h => .inl ⟨l, ns, e, h, r⟩) (fun h => .inr ⟨l, ns, e, h, r⟩)
def spStray (sq1 sq2 : Hp → Addr → List V → Prop) : Sp := fun vs H Q _ => ∃ c l cs ns, vs = [.ref c, .ref l] ∧ sq1 H c (sv cs) ∧ sq2 H l (sv ns) ∧ ns.length ≤ 1000 ∧ ∀ H', Same H H' → Q (optV (stray cs ns)) H'
theorem ok_stray (T : Txt P K mg A) : FnOk P w K mg base CX0 1 A.a_first_stray A.d_first_stray ["columns", "names"] (spStray (SqA K) (SqL K)) := by
  refine T.F_first_stray.ok sc_first_stray (fun vs H Q E h => ?_) (fun cdv A' outer s H vs Q E hr h => ?_)
  · obtain ⟨c, l, cs, ns, rfl, _⟩ := h
    rfl
  · obtain ⟨c, l, cs, ns, rfl, h1, h2, hl, k⟩ := h
    refine ⟨_, (pss_cons (ps_for PassesOwn.never rfl (pi_enum (by rfl) T.n_enumerate (pa_cons (pv 1) pa_nil)) (pg_tup (by rfl) (pgs_cons (pg_name (i := 2) sc_first_stray.nd rfl (Or.inl rfl)) (pgs_cons (pg_name (i := 3) sc_first_stray.nd rfl (Or.inl rfl)) pgs_nil)))
        (pss_one (ps_if (PW.pt (pw_or (pt_cmpR op_notIn_seq (pv 3) (pv 0) (by with_unfolding_all rfl)) (pw_or1 (pt_cmpR op_in_seq (pv 3) (pe_slice sl_list (pv 1) po_none (po_some (pv 2))) (by with_unfolding_all rfl))))) (pss_one (ps_ret (pv 2))) pss_nil)))
      (pss_one (ps_ret pe_non))), ?_⟩
    refine ⟨_, rfl, l, _, rfl, h2, for_it walk_enum (fun i σ H2 => Same H H2 ∧ (∀ j, j < i → badAt cs ns j = false) ∧ ∃ u1 u2 : Option V, σ = [some (.ref c), some (.ref l), u1, u2]) ⟨Same.refl _, fun j hj => absurd hj (Nat.not_lt_zero _), none, none, rfl⟩ (fun i σ H2 _ p => p.1.seq h2) ?_ ?_⟩
    · rintro i x σ H2 H3 hi ⟨sm, hb, u1, u2, rfl⟩ ⟨t, _, _, rfl, ht, rfl, ⟨⟩, hx⟩
      obtain ⟨z, hz, rfl⟩ := sv_get hx
      have hil : i < ns.length := by rw [len_sv] at hi; exact hi
      have bad : badAt cs ns i = (!decide (z ∈ cs) || decide (z ∈ ns.take i)) := by unfold badAt; rw [hz]
      refine ⟨t, _, rfl, SqT.of upd_same, rfl, _, _, rfl, _, _, rfl, rfl, ?_⟩
      have s3 : Same H (upd H2 t (.tup [.int (i : Nat), .str z])) := sm.trans (same_new ht)
      refine ⟨_, rfl, _, rfl, c, _, rfl, s3.sqa h1, rfl, flat_sv _, _, rfl, ?_⟩
      rw [if_pos (rfl : true = true), inV_str]
      by_cases hc : z ∈ cs
      · refine ifF (by rw [decide_eq_true hc]; rfl) ?_
        refine ⟨_, rfl, _, rfl, _, rfl, _, rfl, l, _, rfl, s3.seq h2, fun p hp => ⟨p, _, rfl, .inl (SqL.of upd_same), rfl, by rw [cut_take (by omega), sv_take]; exact flat_sv _, _, rfl, ?_⟩⟩
        rw [if_neg Bool.false_ne_true, cut_take (by omega), sv_take, inV_str]
        have s4 := s3.trans (same_new (o := .lst (cutV (sv ns) none (some ((i : Nat) : Int)))) hp)
        rw [cut_take (by omega), sv_take] at s4
        by_cases hp2 : z ∈ ns.take i
        · refine ifT (decide_eq_true hp2) ⟨_, rfl, ?_⟩
          have e := stray_some (cs := cs) hil (by rw [bad, decide_eq_true hp2, Bool.or_true]) hb
          rw [e] at k
          exact k _ s4
        · refine ifF (decide_eq_false hp2) ⟨s4, fun j hj => ?_, _, _, rfl⟩
          rcases Nat.lt_succ_iff_lt_or_eq.mp hj with q | q
          · exact hb j q
          · rw [q, bad, decide_eq_true hc, decide_eq_false hp2]; rfl
      · refine ifT (by rw [decide_eq_false hc]; rfl) (ifT rfl ⟨_, rfl, ?_⟩)
        have e := stray_some (cs := cs) hil (by rw [bad, decide_eq_false hc]; rfl) hb
        rw [e] at k
        exact k _ s3
    · rintro σ H2 ⟨sm, hb, u1, u2, rfl⟩
      have e := stray_none (cs := cs) (ns := ns) fun j hj => hb j (by rw [len_sv]; exact hj)
      rw [e] at k
      exact k H2 sm
theorem ok_strayT (T : Txt P K mg A) : FnOk P w K mg base CX0 1 A.a_first_stray A.d_first_stray ["columns", "names"] (spStray (SqA K) (SqT K)) := by
  refine T.F_first_stray.ok sc_first_stray (fun vs H Q E h => ?_) (fun cdv A' outer s H vs Q E hr h => ?_)
  · obtain ⟨c, l, cs, ns, rfl, _⟩ := h
    rfl
  · obtain ⟨c, l, cs, ns, rfl, h1, h2, hl, k⟩ := h
    refine ⟨_, (pss_cons (ps_for PassesOwn.never rfl (pi_enumT (by rfl) T.n_enumerate (pa_cons (pv 1) pa_nil)) (pg_tup (by rfl) (pgs_cons (pg_name (i := 2) sc_first_stray.nd rfl (Or.inl rfl)) (pgs_cons (pg_name (i := 3) sc_first_stray.nd rfl (Or.inl rfl)) pgs_nil)))
        (pss_one (ps_if (PW.pt (pw_or (pt_cmpR op_notIn_seq (pv 3) (pv 0) (by with_unfolding_all rfl)) (pw_or1 (pt_cmpR op_in_seq (pv 3) (pe_slice sl_tupA (pv 1) po_none (po_some (pv 2))) (by with_unfolding_all rfl))))) (pss_one (ps_ret (pv 2))) pss_nil)))
      (pss_one (ps_ret pe_non))), ?_⟩
    refine ⟨_, rfl, l, _, rfl, h2, for_it walk_enumT (fun i σ H2 => Same H H2 ∧ (∀ j, j < i → badAt cs ns j = false) ∧ ∃ u1 u2 : Option V, σ = [some (.ref c), some (.ref l), u1, u2]) ⟨Same.refl _, fun j hj => absurd hj (Nat.not_lt_zero _), none, none, rfl⟩ (fun i σ H2 _ p => p.1.tup h2) ?_ ?_⟩
    · rintro i x σ H2 H3 hi ⟨sm, hb, u1, u2, rfl⟩ ⟨t, _, _, rfl, ht, rfl, ⟨⟩, hx⟩
      obtain ⟨z, hz, rfl⟩ := sv_get hx
      have hil : i < ns.length := by rw [len_sv] at hi; exact hi
      have bad : badAt cs ns i = (!decide (z ∈ cs) || decide (z ∈ ns.take i)) := by unfold badAt; rw [hz]
      refine ⟨t, _, rfl, SqT.of upd_same, rfl, _, _, rfl, _, _, rfl, rfl, ?_⟩
      have s3 : Same H (upd H2 t (.tup [.int (i : Nat), .str z])) := sm.trans (same_new ht)
      refine ⟨_, rfl, _, rfl, c, _, rfl, s3.sqa h1, rfl, flat_sv _, _, rfl, ?_⟩
      rw [if_pos (rfl : true = true), inV_str]
      by_cases hc : z ∈ cs
      · refine ifF (by rw [decide_eq_true hc]; rfl) ?_
        refine ⟨_, rfl, _, rfl, _, rfl, _, rfl, l, _, rfl, s3.tup h2, fun z => absurd z.2 (by rw [HT.sIx_nat, len_sv]; omega), fun _ p hp => ⟨p, _, rfl, .inr (SqT.of upd_same), rfl, by rw [cut_take (by omega), sv_take]; exact flat_sv _, _, rfl, ?_⟩⟩
        rw [if_neg Bool.false_ne_true, cut_take (by omega), sv_take, inV_str]
        have s4 := s3.trans (same_new (o := .tup (cutV (sv ns) none (some ((i : Nat) : Int)))) hp)
        rw [cut_take (by omega), sv_take] at s4
        by_cases hp2 : z ∈ ns.take i
        · refine ifT (decide_eq_true hp2) ⟨_, rfl, ?_⟩
          have e := stray_some (cs := cs) hil (by rw [bad, decide_eq_true hp2, Bool.or_true]) hb
          rw [e] at k
          exact k _ s4
        · refine ifF (decide_eq_false hp2) ⟨s4, fun j hj => ?_, _, _, rfl⟩
          rcases Nat.lt_succ_iff_lt_or_eq.mp hj with q | q
          · exact hb j q
          · rw [q, bad, decide_eq_true hc, decide_eq_false hp2]; rfl
      · refine ifT (by rw [decide_eq_false hc]; rfl) (ifT rfl ⟨_, rfl, ?_⟩)
        have e := stray_some (cs := cs) hil (by rw [bad, decide_eq_false hc]; rfl) hb
        rw [e] at k
        exact k _ s3
    · rintro σ H2 ⟨sm, hb, u1, u2, rfl⟩
      have e := stray_none (cs := cs) (ns := ns) fun j hj => hb j (by rw [len_sv]; exact hj)
      rw [e] at k
      exact k H2 sm
theorem ok_strayA (T : Txt P K mg A) : FnOk P w K mg base CX0 1 A.a_first_stray A.d_first_stray ["columns", "names"] (spStray (SqA K) (SqA K)) :=
  (fnok_or (ok_stray T) (ok_strayT T)).imp fun vs H Q E ⟨c, l, cs, ns, e, h1, h2, r⟩ => h2.elim (fun h => .inl ⟨c, l, cs, ns, e, h1, h, r⟩) (fun h => .inr ⟨c, l, cs, ns, e, h1, h, r⟩)
/-! ### the same with whole numbers -/
abbrev ivs (b : List Int) : List V := b.map V.int
theorem ivs_len (b : List Int) : (ivs b).length = b.length := List.length_map ..
theorem ivs_get {b : List Int} {i : Nat} {x : V} (h : (ivs b)[i]? = some x) : ∃ z, b[i]? = some z ∧ x = .int z := by
  rw [List.getElem?_map] at h
  cases e : b[i]? with
  | none => rw [e] at h; cases h
  | some z => rw [e] at h; exact ⟨z, rfl, (Option.some.inj h).symm⟩
theorem flat_iv (ss : List Int) : (ivs ss).all flatV = true := by
  rw [List.all_eq_true]; intro x hx; obtain ⟨s, _, rfl⟩ := List.mem_map.mp hx; rfl
theorem eqV_int (a b : Int) : eqV (.int a) (.int b) = decide (a = b) := by
  first | rfl | (simp only [eqV]; by_cases h : a = b <;> simp [h])
theorem inV_int (x : Int) (ss : List Int) : inV (.int x) (ivs ss) = decide (x ∈ ss) := by
  unfold inV
  rw [Bool.eq_iff_iff, List.any_eq_true, decide_eq_true_iff]
  constructor
  · rintro ⟨y, hy, e⟩
    obtain ⟨s, hs, rfl⟩ := List.mem_map.mp hy
    rw [eqV_int, decide_eq_true_iff] at e
    rw [← e]; exact hs
  · intro h
    exact ⟨.int x, List.mem_map.mpr ⟨x, h, rfl⟩, by rw [eqV_int]; simp⟩
theorem ivs_take (b : List Int) (k : Nat) : (ivs b).take k = ivs (b.take k) := List.map_take.symm
theorem ivs_drop (b : List Int) (k : Nat) : (ivs b).drop k = ivs (b.drop k) := List.map_drop.symm
theorem ivs_app (a b : List Int) : ivs a ++ ivs b = ivs (a ++ b) := List.map_append.symm
/-- the numbers are places of cs, each once -/
def okNums (cs ns : List Int) : Bool := decide (∀ x ∈ ns, x ∈ cs) && decide ns.Nodup
def okNumAt (cs ns : List Int) (i : Nat) : Prop := ∀ z, ns[i]? = some z → z ∈ cs ∧ z ∉ ns.take i
theorem okNums_of {cs ns : List Int} (h : ∀ i, i < ns.length → okNumAt cs ns i) : okNums cs ns = true := by
  have a : ∀ x ∈ ns, x ∈ cs := fun x hx => by
    obtain ⟨i, hi, e⟩ := List.getElem_of_mem hx
    exact (h i hi x (by rw [List.getElem?_eq_getElem hi, e])).1
  have b : ns.Nodup := by
    rw [List.nodup_iff_pairwise_ne, List.pairwise_iff_getElem]
    intro i j hi hj hij e
    refine (h j hj ns[j] (List.getElem?_eq_getElem hj)).2 ?_
    rw [List.mem_iff_getElem]
    exact ⟨i, by rw [List.length_take]; omega, by rw [List.getElem_take]; exact e⟩
  unfold okNums
  rw [decide_eq_true a, decide_eq_true b]; rfl
theorem okNums_no {cs ns : List Int} {i : Nat} {z : Int} (h : ns[i]? = some z) (hz : z ∉ cs ∨ z ∈ ns.take i) : okNums cs ns = false := by
  rw [Bool.eq_false_iff]
  intro t
  unfold okNums at t
  rw [Bool.and_eq_true, decide_eq_true_iff, decide_eq_true_iff] at t
  obtain ⟨a, b⟩ := t
  rcases hz with hz | hz
  · exact hz (a z (List.mem_of_getElem? h))
  · obtain ⟨k, hk, e⟩ := List.getElem_of_mem hz
    rw [List.length_take] at hk
    obtain ⟨h9, e4⟩ := List.getElem?_eq_some_iff.mp h
    rw [List.nodup_iff_pairwise_ne, List.pairwise_iff_getElem] at b
    refine b k i (by omega) h9 (by omega) ?_
    rw [List.getElem_take] at e
    rw [e, e4]
def spStrayI (K : PySem.W.Frag) : Sp := fun vs H Q _ => ∃ c l, ∃ cs ns : List Int, vs = [.ref c, .ref l] ∧ SqL K H c (ivs cs) ∧ SqT K H l (ivs ns) ∧ ns.length ≤ 1000 ∧ (okNums cs ns = true → ∀ H', Same H H' → Q .non H') ∧ (okNums cs ns = false → ∀ (i : Nat) H', Same H H' → Q (.int (i : Nat)) H')
theorem ok_strayI (T : Txt P K mg A) : FnOk P w K mg base CX0 1 A.a_first_stray A.d_first_stray ["columns", "names"] (spStrayI K) := by
  refine T.F_first_stray.ok sc_first_stray (fun vs H Q E h => ?_) (fun cdv A' outer s H vs Q E hr h => ?_)
  · obtain ⟨c, l, cs, ns, rfl, _⟩ := h
    rfl
  · obtain ⟨c, l, cs, ns, rfl, h1, h2, hl, k1, k2⟩ := h
    refine ⟨_, (pss_cons (ps_for PassesOwn.never rfl (pi_enumT (by rfl) T.n_enumerate (pa_cons (pv 1) pa_nil)) (pg_tup (by rfl) (pgs_cons (pg_name (i := 2) sc_first_stray.nd rfl (Or.inl rfl)) (pgs_cons (pg_name (i := 3) sc_first_stray.nd rfl (Or.inl rfl)) pgs_nil)))
        (pss_one (ps_if (PW.pt (pw_or (pt_cmpR op_notIn_seq (pv 3) (pv 0) (by with_unfolding_all rfl)) (pw_or1 (pt_cmpR op_in_seq (pv 3) (pe_slice sl_tupA (pv 1) po_none (po_some (pv 2))) (by with_unfolding_all rfl))))) (pss_one (ps_ret (pv 2))) pss_nil)))
      (pss_one (ps_ret pe_non))), ?_⟩
    refine ⟨_, rfl, l, _, rfl, h2, for_it walk_enumT (fun i σ H2 => Same H H2 ∧ (∀ j, j < i → okNumAt cs ns j) ∧ ∃ u1 u2 : Option V, σ = [some (.ref c), some (.ref l), u1, u2]) ⟨Same.refl _, fun j hj => absurd hj (Nat.not_lt_zero _), none, none, rfl⟩ (fun i σ H2 _ p => p.1.tup h2) ?_ ?_⟩
    · rintro i x σ H2 H3 hi ⟨sm, hb, u1, u2, rfl⟩ ⟨t, _, _, rfl, ht, rfl, ⟨⟩, hx⟩
      obtain ⟨z, hz, rfl⟩ := ivs_get hx
      have hil : i < ns.length := by rw [ivs_len] at hi; exact hi
      refine ⟨t, _, rfl, SqT.of upd_same, rfl, _, _, rfl, _, _, rfl, rfl, ?_⟩
      have s3 : Same H (upd H2 t (.tup [.int (i : Nat), .int z])) := sm.trans (same_new ht)
      refine ⟨_, rfl, _, rfl, c, _, rfl, .inl (s3.seq h1), rfl, flat_iv _, _, rfl, ?_⟩
      rw [if_pos (rfl : true = true), inV_int]
      by_cases hc : z ∈ cs
      · refine ifF (by rw [decide_eq_true hc]; rfl) ?_
        refine ⟨_, rfl, _, rfl, _, rfl, _, rfl, ?_⟩
        dsimp only [tNoPart]
        refine slOT (s3.tup h2) fun p H4 q4 hp => ⟨p, _, rfl, .inr hp, rfl, by rw [cut_takeG, ivs_take]; exact flat_iv _, _, rfl, ?_⟩
        rw [if_neg Bool.false_ne_true, cut_takeG, ivs_take, inV_int]
        have s4 := s3.trans q4
        by_cases hp2 : z ∈ ns.take i
        · exact ifT (decide_eq_true hp2) ⟨_, rfl, k2 (okNums_no hz (.inr hp2)) _ _ s4⟩
        · refine ifF (decide_eq_false hp2) ⟨s4, fun j hj => ?_, _, _, rfl⟩
          rcases Nat.lt_succ_iff_lt_or_eq.mp hj with q | q
          · exact hb j q
          · rw [q]; intro y hy; rw [hz] at hy; cases hy; exact ⟨hc, hp2⟩
      · exact ifT (by rw [decide_eq_false hc]; rfl) (ifT rfl ⟨_, rfl, k2 (okNums_no hz (.inl hc)) _ _ s3⟩)
    · rintro σ H2 ⟨sm, hb, u1, u2, rfl⟩
      exact k1 (okNums_of fun j hj => hb j (by rw [ivs_len]; exact hj)) H2 sm
end
end My
set_option maxRecDepth 100000
set_option maxHeartbeats 4000000
set_option exponentiation.threshold 10000
namespace My
open PySem L2
/-- at ts stand the lists or tuples of texts rs -/
structure LsA (K : PySem.W.Frag) (H : Hp) (ts : List Addr) (rs : List (List Str)) : Prop where
  len : ts.length = rs.length
  at_ : ∀ (i : Nat) (t : Addr) (r : List Str), ts[i]? = some t → rs[i]? = some r → SqA K H t (sv r)
theorem LsA.same {K : PySem.W.Frag} {H H' : Hp} {ts : List Addr} {rs : List (List Str)} (h : LsA K H ts rs) (e : Same H H') : LsA K H' ts rs := ⟨h.len, fun i t x a b => e.sqa (h.at_ i t x a b)⟩
theorem LsA.get {K : PySem.W.Frag} {H : Hp} {ts : List Addr} {rs : List (List Str)} (h : LsA K H ts rs) {i : Nat} {t : Addr} (hi : ts[i]? = some t) : ∃ r, rs[i]? = some r ∧ SqA K H t (sv r) := by
  have hx : i < rs.length := by rw [← h.len]; exact (List.getElem?_eq_some_iff.mp hi).1
  exact ⟨rs[i], List.getElem?_eq_getElem hx, h.at_ i _ _ hi (List.getElem?_eq_getElem hx)⟩
theorem Lss.lsa {K : PySem.W.Frag} {H : Hp} {ts : List Addr} {rs : List (List Str)} (h : Lss .lst H ts rs) : LsA K H ts rs := ⟨h.len, fun i t r a b => .inl (SqL.of (h.at_ i t r a b))⟩
theorem Lss.lsaT {K : PySem.W.Frag} {H : Hp} {ts : List Addr} {rs : List (List Str)} (h : Lss .tup H ts rs) : LsA K H ts rs := ⟨h.len, fun i t r a b => .inr (SqT.of (h.at_ i t r a b))⟩
theorem sqa_upd {K : PySem.W.Frag} {H : Hp} {a b C dx : Addr} {xs : List V} {f g : List (Str × V)} (h : SqA K H a xs) (hb : H b = some (.ins C dx f)) : SqA K (upd H b (.ins C dx g)) a xs := by
  rcases h with h | h
  · exact .inl (seq_upd h hb (fun ys z => nomatch z) (fun c d z => nomatch z))
  · refine .inr ?_
    rcases h with (r | ⟨c, r⟩) | z
    · exact .inl (.inl (by rw [upd_ne (ne_of r hb (fun z => nomatch z))]; exact r))
    · exact .inl (.inr ⟨c, by rw [upd_ne (ne_of r hb (fun z => nomatch z))]; exact r⟩)
    · exact .inr z
section
variable {P : Program} {w : World} {K : PySem.W.Frag} {mg : Str → Option Value} {base : Heap} {A : Ad}
theorem Txt.bi (T : Txt P K mg A) : Binds K A.d_Table_init ["self", "columns", "rows"] [] := by
  obtain ⟨ds, hv, hb⟩ := T.F_Table_init.binds1 (ps := ["self", "columns", "rows"]) 3 1 (by simp) rfl (fun T kV dc pm an cd ct us its hl hi => by
    match us, hl, its, hi with
    | [_, _, _], _, [_], _ => exact ⟨_, rfl, rfl⟩)
  cases hv
  exact hb
def spCols (K : PySem.W.Frag) : Sp := fun vs H Q _ => ∃ l cs, vs = [.ref l] ∧ SqA K H l (sv cs) ∧ (∀ z ∈ cs, Good z) ∧ cs.Nodup ∧ cs.length ≤ 12 ∧ ∀ H', Same H H' → Q .non H'
theorem ok_cols (T : Txt P K mg A) : FnOk P w K mg base CX0 3 A.a_check_columns A.d_check_columns ["columns"] (spCols K) := by
  have G_first_bad_name := ok_firstBadO (P := P) (w := w) (base := base) T
  refine T.F_check_columns.ok sc_check_columns (fun vs H Q E h => ?_) (fun cdv A' outer s H vs Q E hr h => ?_)
  · obtain ⟨l, cs, rfl, _⟩ := h
    rfl
  · obtain ⟨l, cs, rfl, h1, g, nd, hl, k⟩ := h
    refine ⟨_, (pss_cons (ps_if (pt_cmpR op_gt (pe_callB call_len_seq (by rfl) T.n_len (by decide +kernel) (pa_cons (pv 0) pa_nil)) (ClX.pe_cval (pe_glob (v := .ref A.C_Table) rfl T.mg_Table rfl)) (nomark _)) (pss_one ps_never) pss_nil)
      (pss_cons (ps_set (i := 1) sc_check_columns.nd rfl (Or.inl rfl) (pe_call G_first_bad_name (hr.mono (by decide)) rfl T.mg_first_bad_name T.F_first_bad_name.kp T.b_first_bad_name .nil pass0 (pa_cons (pv 0) pa_nil)))
      (pss_one (ps_if (pt_cmpR op_notN (pv 1) pe_non (nomark _)) (pss_one ps_never) pss_nil)))), ?_⟩
    obtain ⟨u, hu⟩ := T.cv_Table_MOST_COLUMNS
    refine ⟨_, rfl, l, _, rfl, h1, _, _, _, _, rfl, T.cr_Table, hu, _, _, rfl, rfl, _, rfl, itN (by rw [len_sv]; omega) ?_⟩
    exact ⟨_, rfl, l, cs, rfl, h1, (fun z hz => Nat.le_trans (g z hz).le (by decide)), fun H2 sm => by
      rw [firstBad_none_iff.mpr ⟨g, nd⟩]
      exact ⟨_, rfl, rfl, _, rfl, itNe rfl (k _ sm)⟩⟩
def spChRows (K : PySem.W.Frag) : Sp := fun vs H Q _ => ∃ l r cs ts rs, vs = [.ref l, .ref r] ∧ SqA K H l (sv cs) ∧ SqL K H r (ts.map V.ref) ∧ LsA K H ts rs ∧ rs.length ≤ 48 ∧ (∀ x ∈ rs, stray cs x = none ∧ x.length ≤ 1000) ∧ ∀ H', Same H H' → Q .non H'
theorem ok_chRows (T : Txt P K mg A) : FnOk P w K mg base CX0 2 A.a_check_rows A.d_check_rows ["columns", "rows"] (spChRows K) := by
  have G_first_stray := ok_strayA (P := P) (w := w) (base := base) T
  refine T.F_check_rows.ok sc_check_rows (fun vs H Q E h => ?_) (fun cdv A' outer s H vs Q E hr h => ?_)
  · obtain ⟨l, r, cs, ts, rs, rfl, _⟩ := h
    rfl
  · obtain ⟨l, r, cs, ts, rs, rfl, h1, h2, hs, hl, hg, k⟩ := h
    refine ⟨_, (pss_cons (ps_if (pt_cmpR op_gt (pe_callB call_len_seq (by rfl) T.n_len (by decide +kernel) (pa_cons (pv 1) pa_nil)) (ClX.pe_cval (pe_glob (v := .ref A.C_Table) rfl T.mg_Table rfl)) (nomark _)) (pss_one ps_never) pss_nil)
      (pss_one (ps_for PassesOwn.never rfl (pi_enum (by rfl) T.n_enumerate (pa_cons (pv 1) pa_nil)) (pg_tup (by rfl) (pgs_cons (pg_name (i := 2) sc_check_rows.nd rfl (Or.inl rfl)) (pgs_cons (pg_name (i := 3) sc_check_rows.nd rfl (Or.inl rfl)) pgs_nil)))
        (pss_one (ps_if (pt_cmpR op_notN (pe_call G_first_stray (hr.mono (by decide)) rfl T.mg_first_stray T.F_first_stray.kp T.b_first_stray .nil pass0 (pa_cons (pv 0) (pa_cons (pv 3) pa_nil))) pe_non (nomark _)) (pss_one ps_never) pss_nil))))), ?_⟩
    obtain ⟨u, hu⟩ := T.cv_Table_MOST_ROWS
    refine ⟨_, rfl, r, _, rfl, .inl h2, _, _, _, _, rfl, T.cr_Table, hu, _, _, rfl, rfl, _, rfl, itN (by rw [List.length_map, hs.len]; omega) ?_⟩
    refine ⟨_, rfl, r, _, rfl, h2, for_it walk_enum (fun i σ H2 => Same H H2 ∧ ∃ u1 u2 : Option V, σ = [some (.ref l), some (.ref r), u1, u2]) ⟨Same.refl _, none, none, rfl⟩ (fun i σ H2 _ p => p.1.seq h2) ?_ ?_⟩
    · rintro i x σ H2 H3 hi ⟨sm, u1, u2, rfl⟩ ⟨t, _, _, rfl, ht, rfl, ⟨⟩, hx⟩
      obtain ⟨b, hb, rfl⟩ := refs_get hx
      obtain ⟨y, hy, ho⟩ := hs.get hb
      have g := hg y (List.mem_of_getElem? hy)
      have s3 : Same H (upd H2 t (.tup [.int (i : Nat), .ref b])) := sm.trans (same_new ht)
      refine ⟨t, _, rfl, SqT.of upd_same, rfl, _, _, rfl, _, _, rfl, rfl, ?_⟩
      refine ⟨_, rfl, _, rfl, l, b, cs, y, rfl, s3.sqa h1, s3.sqa ho, g.2, fun H4 sm4 => ?_⟩
      rw [g.1]
      exact ⟨rfl, _, rfl, itNe rfl ⟨s3.trans sm4, _, _, rfl⟩⟩
    · rintro σ H2 ⟨sm, u1, u2, rfl⟩
      exact k H2 sm
def spInOrder (C : Addr) (K : PySem.W.Frag) : Sp := fun vs H Q _ => ∃ p l dx ct cs r fs, vs = [.ref p, .ref l] ∧ H p = some (.ins C dx fs) ∧ fs.lookup ("columns" : Str) = some (.ref ct) ∧ H ct = some (.tup (sv cs)) ∧ SqA K H l (sv r) ∧ cs.length ≤ 1000 ∧
  ∀ t H', Same H H' → H' t = some (.tup (sv (canon cs r))) → Q (.ref t) H'
theorem ok_inOrder (T : Txt P K mg A) : FnOk P w K mg base CX0 1 A.a_Table_in_order A.d_Table_in_order ["self", "names"] (spInOrder A.C_Table K) := by
  refine T.F_Table_in_order.ok sc_Table_in_order (fun vs H Q E h => ?_) (fun cdv A' outer s H vs Q E hr h => ?_)
  · obtain ⟨p, l, dx, ct, cs, r, fs, rfl, _⟩ := h
    rfl
  · obtain ⟨p, l, dx, ct, cs, r, fs, rfl, h1, hct, hc, h2, hl, k⟩ := h
    refine ⟨_, (pss_one (ps_ret (pe_callTy (show CallR _ _ (rTupOf K) from call_tuple_of) (by rfl) T.n_tuple (by decide +kernel) (pa_cons (pe_lc (own := [("name", 2)]) (g := gName 2) (tt := _) rfl sc_Table_in_order.nd (pi_tup (pe_fld (pv 0) rfl)) (blkOk_by (N := ["self", "names", "name"]) (sc := defScope s_Table_in_order) (by decide +kernel)) (fun _ _ _ _ _ => (pg_name (i := 2) sc_Table_in_order.nd rfl (Or.inl rfl))) (fun _ _ _ _ _ => (pts_one (pt_cmpR (show OpR _ _ (rIn K false) from op_in_seq) (pv 2) (pv 1) (by with_unfolding_all rfl)))) (fun _ _ _ _ _ => (pv 2))) pa_nil)))), ?_⟩
    have stepT : ∀ i z, cs[i]? = some z → z ∈ r → sv (canon (cs.take (i + 1)) r) = sv (canon (cs.take i) r) ++ [V.str z] := fun i z hz hm => by
      rw [take_succ hz, canon_T hm]; exact List.map_append
    have stepF : ∀ i z, cs[i]? = some z → z ∉ r → sv (canon (cs.take (i + 1)) r) = sv (canon (cs.take i) r) := fun i z hz hm => by
      rw [take_succ hz, canon_F hm]
    refine ⟨_, rfl, p, _, dx, fs, _, rfl, h1, T.cl_Table, T.n_Table_columns, hct, ct, rfl, ⟨_, SqT.of hc⟩, fun D hD => lc_it walk_tup (PvS H D fun i => sv (canon (cs.take i) r)) (pv0 hD rfl) (fun i H2 _ q => q.1.tup (SqT.of hc)) ?_ ?_⟩
    · rintro i x H3 H4 hi q ⟨rfl, hx⟩
      obtain ⟨z, hz, rfl⟩ := sv_get hx
      refine ⟨rfl, _, rfl, _, rfl, l, _, rfl, q.1.sqa h2, rfl, flat_sv _, _, rfl, ?_⟩
      rw [if_neg Bool.false_ne_true, inV_str]
      have hlen : (sv (canon (cs.take i) r)).length ≤ 1000000 := by
        have := List.length_filter_le (fun x => decide (x ∈ r)) (cs.take i)
        rw [List.length_take] at this
        rw [len_sv]; unfold canon; omega
      by_cases hm : z ∈ r
      · exact ifT (decide_eq_true hm) ⟨_, rfl, q.push hD (stepT i z hz hm) hlen⟩
      · exact ifF (decide_eq_false hm) (q.skip (stepF i z hz hm))
    · rintro H3 ⟨sm, h3⟩
      have h3 : H3 D = some (.lst (sv (canon (cs.take (sv cs).length) r))) := h3
      rw [len_sv, List.take_length] at h3
      exact ⟨D, _, rfl, .inl ⟨SqL.of h3, fun t ht => k t _ (sm.trans (same_new ht)) upd_same⟩⟩
def spTable (C : Addr) (K : PySem.W.Frag) : Sp := fun vs H Q _ => ∃ p l r dx cs ts rs, vs = [.ref p, .ref l, .ref r] ∧ H p = some (.ins C dx []) ∧ (SqL K H l (sv cs) ∨ H l = some (.tup (sv cs))) ∧ SqL K H r (ts.map V.ref) ∧ LsA K H ts rs ∧
  (∀ z ∈ cs, Good z) ∧ cs.Nodup ∧ cs.length ≤ 12 ∧ rs.length ≤ 48 ∧ (∀ x ∈ rs, stray cs x = none ∧ x.length ≤ 1000) ∧ ∀ H', (∀ b o, b ≠ p → H b = some o → H' b = some o) → Tb C H' p cs rs → Q .non H'
theorem ok_table (T : Txt P K mg A) : FnOk P w K mg base CX0 4 A.a_Table_init A.d_Table_init ["self", "columns", "rows"] (spTable A.C_Table K) := by
  have G_check_columns := ok_cols (P := P) (w := w) (base := base) T
  have G_check_rows := ok_chRows (P := P) (w := w) (base := base) T
  have G_Table_in_order := ok_inOrder (P := P) (w := w) (base := base) T
  refine T.F_Table_init.ok sc_Table_init (fun vs H Q E h => ?_) (fun cdv A' outer s H vs Q E hr h => ?_)
  · obtain ⟨p, l, r, dx, cs, ts, rs, rfl, _⟩ := h
    rfl
  · obtain ⟨p, l, r, dx, cs, ts, rs, rfl, hp, h1, h2, hs, g, nd, hc, hrs, hst, k⟩ := h
    refine ⟨_, (pss_cons (ps_expr (pe_call G_check_columns (hr.mono (by decide)) rfl T.mg_check_columns T.F_check_columns.kp T.b_check_columns .nil pass0 (pa_cons (pv 1) pa_nil)))
      (pss_cons (ps_expr (pe_call G_check_rows (hr.mono (by decide)) rfl T.mg_check_rows T.F_check_rows.kp T.b_check_rows .nil pass0 (pa_cons (pv 1) (pa_cons (pv 2) pa_nil))))
      (pss_cons (ps_fld (pv 0) (pe_callTy (show CallR _ _ (rTupOf K) from call_tuple_of) (by rfl) T.n_tuple (by decide +kernel) (pa_cons (pv 1) pa_nil)) rfl)
      (pss_one (ps_fld (pv 0) (pe_callTy (show CallR _ _ (rTupOf K) from call_tuple_of) (by rfl) T.n_tuple (by decide +kernel) (pa_cons (pe_lc (own := [("row", 3)]) (g := gName 3) (tt := tYes) rfl sc_Table_init.nd (pi_list (pv 2)) (blkOk_by (N := ["self", "columns", "rows", "row"]) (sc := defScope s_Table_init) (by decide +kernel)) (fun _ _ _ _ _ => (pg_name (i := 3) sc_Table_init.nd rfl (Or.inl rfl))) (fun _ _ _ _ _ => pts_nil) (fun _ _ _ _ _ => (pe_meth (pv 0) T.cl_Table T.m_Table_in_order G_Table_in_order (hr.mono (by decide)) T.b_Table_in_order .nil pass0 (pa_cons (pv 3) pa_nil)))) pa_nil)) rfl))))), ?_⟩
    have h1a : SqA K H l (sv cs) := h1.imp id SqT.of
    refine ⟨_, rfl, l, cs, rfl, h1a, g, nd, hc, fun H1 s1 => ?_⟩
    refine ⟨_, rfl, _, rfl, l, r, cs, ts, rs, rfl, s1.sqa h1a, s1.seq h2, hs.same s1, hrs, hst, fun H2 s2 => ?_⟩
    have s2 := s1.trans s2
    refine ⟨_, rfl, l, sv cs, rfl, ?_⟩
    have hpS := s2 _ _ hp
    have fin : ∀ (ct : Addr) (H2' : Hp), Same H H2' → H2' ct = some (.tup (sv cs)) → ct ≠ p → H2' p = some (.ins A.C_Table dx []) ∧ H2' ct = some (.tup (sv cs)) ∧ ct ≠ p ∧ Same H H2' := fun ct H2' s h n => ⟨s _ _ hp, h, n, s⟩
    rcases h1 with h1 | h1
    · refine .inl ⟨s2.seq h1, fun ct hct => ?_⟩
      have npc : ct ≠ p := fun z => by rw [z] at hct; rw [hpS] at hct; cases hct
      have F := fin ct (upd H2 ct (.tup (sv cs))) (s2.trans (same_new hct)) upd_same npc
      generalize upd H2 ct (.tup (sv cs)) = H2' at F ⊢
      clear hct npc
      obtain ⟨hp2, hc2, npc, s2'⟩ := F
      refine ⟨_, rfl, p, _, dx, [], rfl, hp2, T.cl_Table, T.n_Table_columns, (by show 0 < 1000; decide), ?_⟩
      generalize hX : upd H2' p _ = H3
      have hp3 : H3 p = some (.ins A.C_Table dx (putF "columns" (.ref ct) [])) := by rw [← hX]; exact upd_same
      have hc3 : H3 ct = some (.tup (sv cs)) := by rw [← hX, upd_ne npc]; exact hc2
      have sm3 : ∀ b o, b ≠ p → H b = some o → H3 b = some o := fun b o hb e => by
        rw [← hX, upd_ne hb]; exact s2' _ _ e
      have h23 : SqL K H3 r (ts.map V.ref) := by
        rw [← hX]; exact seq_upd (s2'.seq h2) hp2 (fun xs z => nomatch z) (fun o u z => nomatch z)
      have hs3 : LsA K H3 ts rs := ⟨hs.len, fun i t x a b => by rw [← hX]; exact sqa_upd (s2'.sqa (hs.at_ i t x a b)) hp2⟩
      clear hX
      have hlk : (putF "columns" (.ref ct) ([] : List (Str × V))).lookup ("columns" : Str) = some (.ref ct) := by rw [lookup_putF, if_pos rfl]
      have hlm : (putF "columns" (.ref ct) ([] : List (Str × V))).lookup ("_in_order" : Str) = none := by rw [lookup_putF, if_neg (by decide +kernel)]; rfl
      refine ⟨_, rfl, r, rfl, ⟨_, h23⟩, fun D hD => lc_it walk_list (fun i H4 => Same H3 H4 ∧ ∃ us : List Addr, H4 D = some (.lst (us.map V.ref)) ∧ Lss .tup H4 us ((rs.take i).map (canon cs))) ⟨same_new hD, [], upd_same, Lss.nil⟩ (fun i H4 _ q => q.1.seq h23) ?_ ?_⟩
      · rintro i x H4 H5 hi ⟨s4, us, hd4, hl4⟩ ⟨rfl, hx⟩
        obtain ⟨b, hb, rfl⟩ := refs_get hx
        obtain ⟨y, hy, ho⟩ := (hs3.same s4).get hb
        refine ⟨rfl, _, rfl, p, dx, _, rfl, s4 _ _ hp3, hlm, _, rfl, p, b, dx, ct, cs, y, _, rfl, s4 _ _ hp3, hlk, s4 _ _ hc3, ho, by omega, fun t H6 s6 ht => ?_⟩
        have hd6 := s6 _ _ hd4
        refine ⟨_, hd6, small_int (by rw [List.length_map, hl4.len, List.length_map, List.length_take]; omega), ?_, us ++ [t], ?_, ?_⟩
        · intro c o e
          rw [upd_ne (ne_of_none e hD)]
          exact s6 _ _ (s4 _ _ e)
        · rw [List.map_append]; exact upd_same
        · rw [take_succ hy, List.map_append]
          exact ((hl4.same s6).app ht).updT hd6 (fun xs z => nomatch z)
      · rintro H4 ⟨s4, us, hd4, hl4⟩
        rw [List.length_map, hs.len, List.take_length] at hl4
        refine ⟨D, _, rfl, .inl ⟨SqL.of hd4, fun rt hrt => ?_⟩⟩
        have hp5 : upd H4 rt (.tup (us.map V.ref)) p = some (.ins A.C_Table dx (putF "columns" (.ref ct) [])) := by rw [upd_ne (ne_of_none (s4 _ _ hp3) hrt)]; exact s4 _ _ hp3
        refine ⟨_, rfl, p, _, dx, _, rfl, hp5, T.cl_Table, T.n_Table_rows, (by show 1 < 1000; decide), ?_⟩
        have nrp : rt ≠ p := fun z => by rw [z] at hrt; rw [s4 _ _ hp3] at hrt; cases hrt
        have nrc : ct ≠ rt := ne_of_none (s4 _ _ hc3) hrt
        refine k _ (fun b o hb e => ?_) ⟨dx, ct, rt, us, upd_same, ?_, ?_, ?_⟩
        · have z := s4 _ _ (sm3 b o hb e)
          rw [upd_ne hb, upd_ne (ne_of_none z hrt)]
          exact z
        · rw [upd_ne npc, upd_ne nrc]; exact s4 _ _ hc3
        · rw [upd_ne nrp]; exact upd_same
        · exact (hl4.same (same_new (o := .tup (us.map V.ref)) hrt)).updT hp5 (fun xs z => nomatch z)
    · have F := fin l H2 s2 (s2 _ _ h1) (ne_of h1 hp (fun z => nomatch z))
      refine .inr ⟨SqT.of (s2 _ _ h1), ?_⟩
      generalize hlc : l = ct at F ⊢
      generalize hHH : H2 = H2' at F ⊢
      obtain ⟨hp2, hc2, npc, s2'⟩ := F
      refine ⟨_, rfl, p, _, dx, [], rfl, hp2, T.cl_Table, T.n_Table_columns, (by show 0 < 1000; decide), ?_⟩
      generalize hX : upd H2' p _ = H3
      have hp3 : H3 p = some (.ins A.C_Table dx (putF "columns" (.ref ct) [])) := by rw [← hX]; exact upd_same
      have hc3 : H3 ct = some (.tup (sv cs)) := by rw [← hX, upd_ne npc]; exact hc2
      have sm3 : ∀ b o, b ≠ p → H b = some o → H3 b = some o := fun b o hb e => by
        rw [← hX, upd_ne hb]; exact s2' _ _ e
      have h23 : SqL K H3 r (ts.map V.ref) := by
        rw [← hX]; exact seq_upd (s2'.seq h2) hp2 (fun xs z => nomatch z) (fun o u z => nomatch z)
      have hs3 : LsA K H3 ts rs := ⟨hs.len, fun i t x a b => by rw [← hX]; exact sqa_upd (s2'.sqa (hs.at_ i t x a b)) hp2⟩
      clear hX
      have hlk : (putF "columns" (.ref ct) ([] : List (Str × V))).lookup ("columns" : Str) = some (.ref ct) := by rw [lookup_putF, if_pos rfl]
      have hlm : (putF "columns" (.ref ct) ([] : List (Str × V))).lookup ("_in_order" : Str) = none := by rw [lookup_putF, if_neg (by decide +kernel)]; rfl
      refine ⟨_, rfl, r, rfl, ⟨_, h23⟩, fun D hD => lc_it walk_list (fun i H4 => Same H3 H4 ∧ ∃ us : List Addr, H4 D = some (.lst (us.map V.ref)) ∧ Lss .tup H4 us ((rs.take i).map (canon cs))) ⟨same_new hD, [], upd_same, Lss.nil⟩ (fun i H4 _ q => q.1.seq h23) ?_ ?_⟩
      · rintro i x H4 H5 hi ⟨s4, us, hd4, hl4⟩ ⟨rfl, hx⟩
        obtain ⟨b, hb, rfl⟩ := refs_get hx
        obtain ⟨y, hy, ho⟩ := (hs3.same s4).get hb
        refine ⟨rfl, _, rfl, p, dx, _, rfl, s4 _ _ hp3, hlm, _, rfl, p, b, dx, ct, cs, y, _, rfl, s4 _ _ hp3, hlk, s4 _ _ hc3, ho, by omega, fun t H6 s6 ht => ?_⟩
        have hd6 := s6 _ _ hd4
        refine ⟨_, hd6, small_int (by rw [List.length_map, hl4.len, List.length_map, List.length_take]; omega), ?_, us ++ [t], ?_, ?_⟩
        · intro c o e
          rw [upd_ne (ne_of_none e hD)]
          exact s6 _ _ (s4 _ _ e)
        · rw [List.map_append]; exact upd_same
        · rw [take_succ hy, List.map_append]
          exact ((hl4.same s6).app ht).updT hd6 (fun xs z => nomatch z)
      · rintro H4 ⟨s4, us, hd4, hl4⟩
        rw [List.length_map, hs.len, List.take_length] at hl4
        refine ⟨D, _, rfl, .inl ⟨SqL.of hd4, fun rt hrt => ?_⟩⟩
        have hp5 : upd H4 rt (.tup (us.map V.ref)) p = some (.ins A.C_Table dx (putF "columns" (.ref ct) [])) := by rw [upd_ne (ne_of_none (s4 _ _ hp3) hrt)]; exact s4 _ _ hp3
        refine ⟨_, rfl, p, _, dx, _, rfl, hp5, T.cl_Table, T.n_Table_rows, (by show 1 < 1000; decide), ?_⟩
        have nrp : rt ≠ p := fun z => by rw [z] at hrt; rw [s4 _ _ hp3] at hrt; cases hrt
        have nrc : ct ≠ rt := ne_of_none (s4 _ _ hc3) hrt
        refine k _ (fun b o hb e => ?_) ⟨dx, ct, rt, us, upd_same, ?_, ?_, ?_⟩
        · have z := s4 _ _ (sm3 b o hb e)
          rw [upd_ne hb, upd_ne (ne_of_none z hrt)]
          exact z
        · rw [upd_ne npc, upd_ne nrc]; exact s4 _ _ hc3
        · rw [upd_ne nrp]; exact upd_same
        · exact (hl4.same (same_new (o := .tup (us.map V.ref)) hrt)).updT hp5 (fun xs z => nomatch z)
end
end My
set_option maxRecDepth 100000
set_option maxHeartbeats 4000000
set_option exponentiation.threshold 10000
namespace My
open PySem L2
/-- the columns outside a row -/
def outs (cs r : List Str) : List Str := cs.filter fun x => decide (x ∉ r)
theorem outs_T {l r : List Str} {z : Str} (hm : z ∉ r) : outs (l ++ [z]) r = outs l r ++ [z] := by
  unfold outs; rw [List.filter_append]; simp [hm]
theorem outs_F {l r : List Str} {z : Str} (hm : z ∈ r) : outs (l ++ [z]) r = outs l r := by
  unfold outs; rw [List.filter_append]; simp [hm]
def turnRow (cs : List Str) (z : Str) (r : List Str) : List Str := if z ∈ canon cs r then outs cs (canon cs r) else canon cs r
theorem fldsT_in_order (ct rt : Addr) : (fldsT ct rt).lookup ("_in_order" : Str) = none := by
  unfold fldsT; rw [lookup_putF, if_neg (by decide +kernel), lookup_putF, if_neg (by decide +kernel)]; rfl
theorem fldsT_inside (ct rt : Addr) : (fldsT ct rt).lookup ("_inside_out" : Str) = none := by
  unfold fldsT; rw [lookup_putF, if_neg (by decide +kernel), lookup_putF, if_neg (by decide +kernel)]; rfl
structure ColsOk (cs : List Str) : Prop where
  g : ∀ z ∈ cs, Good z
  nd : cs.Nodup
  n : cs.length ≤ 12
theorem ColsOk.sub {cs ds : List Str} (h : ColsOk cs) (s : ds.Sublist cs) : ColsOk ds := ⟨fun z hz => h.g z (s.subset hz), s.nodup h.nd, Nat.le_trans s.length_le h.n⟩
theorem canon_sub (cs r : List Str) : (canon cs r).Sublist cs := List.filter_sublist
theorem outs_sub (cs r : List Str) : (outs cs r).Sublist cs := List.filter_sublist
theorem turn_sub (cs : List Str) (z : Str) (r : List Str) : (turnRow cs z r).Sublist cs := by
  unfold turnRow; split
  · exact outs_sub _ _
  · exact canon_sub _ _
theorem sub_row {cs r : List Str} (h : ColsOk cs) (s : r.Sublist cs) : stray cs r = none ∧ r.length ≤ 1000 := ⟨stray_none_iff.mpr ⟨fun x hx => s.subset hx, s.nodup h.nd⟩, by have := s.length_le; have := h.n; omega⟩
theorem mem_canon {cs r : List Str} {x : Str} : x ∈ canon cs r ↔ x ∈ cs ∧ x ∈ r := by unfold canon; rw [List.mem_filter, decide_eq_true_iff]
theorem mem_outs {cs r : List Str} {x : Str} : x ∈ outs cs r ↔ x ∈ cs ∧ x ∉ r := by unfold outs; rw [List.mem_filter, decide_eq_true_iff]
theorem canon_row {cs r ns : List Str} (h : ColsOk cs) (hn : ∀ x ∈ ns, x ∈ cs) : stray (canon cs ns) (canon (canon cs r) ns) = none ∧ (canon (canon cs r) ns).length ≤ 1000 :=
  ⟨stray_none_iff.mpr ⟨fun x hx => mem_canon.mpr ⟨(mem_canon.mp (mem_canon.mp hx).1).1, (mem_canon.mp hx).2⟩, ((canon_sub _ _).trans (canon_sub _ _)).nodup h.nd⟩, by have := ((canon_sub (canon cs r) ns).trans (canon_sub _ _)).length_le; have := h.n; omega⟩
theorem mk_table {C : Addr} {K : PySem.W.Frag} {H : Hp} {l r : Addr} {cs : List Str} {ts : List Addr} {rs : List (List Str)} {Q : VK} (hL : SqL K H l (sv cs) ∨ H l = some (.tup (sv cs))) (hR : SqL K H r (ts.map V.ref)) (hs : LsA K H ts rs) (ok : ColsOk cs) (hr : rs.length ≤ 48)
    (st : ∀ x ∈ rs, stray cs x = none ∧ x.length ≤ 1000) (k : ∀ q H', Same H H' → H q = none → Tb C H' q cs rs → Q (.ref q) H') :
    ∀ x dx, H x = none → H dx = none → dx ≠ x → spTable C K (.ref x :: ([.ref l, .ref r] ++ [])) (upd (upd H dx (.own x)) x (.ins C dx [])) (fun v H2 => v = .non ∧ Q (.ref x) H2) E0 := fun x dx hx hdx hne => by
  have s1 := same_new (o := .own x) hdx
  have hx1 : upd H dx (.own x) x = none := by rw [upd_ne hne.symm]; exact hx
  have s2 : Same H (upd (upd H dx (.own x)) x (.ins C dx [])) := s1.trans (same_new hx1)
  exact ⟨x, l, r, dx, cs, ts, rs, rfl, upd_same, hL.imp (fun q => s2.seq q) (fun q => s2 _ _ q), s2.seq hR, hs.same s2, ok.g, ok.nd, ok.n, hr, st, fun H' hk hT => ⟨rfl, k x H' (fun b o e => hk b o (ne_of_none e hx) (s2 _ _ e)) hx hT⟩⟩
end My
set_option maxRecDepth 100000
set_option maxHeartbeats 4000000
set_option exponentiation.threshold 10000
namespace My
open PySem L2
open C8 (pss_cut)
theorem sqt_updL {K : PySem.W.Frag} {H : Hp} {a b : Addr} {xs ys : List V} {o : HO} (h : SqT K H a xs) (hb : H b = some (.lst ys)) : SqT K (upd H b o) a xs := by
  rcases h with (r | ⟨c, r⟩) | z
  · exact .inl (.inl (by rw [upd_ne (ne_of r hb (fun z => nomatch z))]; exact r))
  · exact .inl (.inr ⟨c, by rw [upd_ne (ne_of r hb (fun z => nomatch z))]; exact r⟩)
  · exact .inr z
/-- at ts stand sequences of the numbers rs -/
structure Lz (sq : Hp → Addr → List V → Prop) (H : Hp) (ts : List Addr) (rs : List (List Int)) : Prop where
  len : ts.length = rs.length
  at_ : ∀ (i : Nat) (t : Addr) (x : List Int), ts[i]? = some t → rs[i]? = some x → sq H t (ivs x)
section
variable {sq sq' : Hp → Addr → List V → Prop} {H H' : Hp} {ts us : List Addr} {rs qs : List (List Int)}
theorem Lz.imp (h : Lz sq H ts rs) (f : ∀ t x, sq H t (ivs x) → sq' H' t (ivs x)) : Lz sq' H' ts rs := ⟨h.len, fun i t x a b => f t x (h.at_ i t x a b)⟩
theorem Lz.nil : Lz sq H [] [] := ⟨rfl, fun i t s a => by simp at a⟩
theorem Lz.get (h : Lz sq H ts rs) {i : Nat} {t : Addr} (hi : ts[i]? = some t) : ∃ s, rs[i]? = some s ∧ sq H t (ivs s) := by
  have hx : i < rs.length := by rw [← h.len]; exact (List.getElem?_eq_some_iff.mp hi).1
  exact ⟨rs[i], List.getElem?_eq_getElem hx, h.at_ i _ _ hi (List.getElem?_eq_getElem hx)⟩
theorem Lz.ex (h : Lz sq H ts rs) {i : Nat} {x : List Int} (hi : rs[i]? = some x) : ∃ t, ts[i]? = some t ∧ sq H t (ivs x) := by
  have hx : i < ts.length := by rw [h.len]; exact (List.getElem?_eq_some_iff.mp hi).1
  exact ⟨ts[i], List.getElem?_eq_getElem hx, h.at_ i _ _ (List.getElem?_eq_getElem hx) hi⟩
theorem Lz.app (h : Lz sq H ts rs) (g : Lz sq H us qs) : Lz sq H (ts ++ us) (rs ++ qs) := by
  refine ⟨by rw [List.length_append, List.length_append, h.len, g.len], fun i t x a b => ?_⟩
  by_cases hi : i < ts.length
  · rw [List.getElem?_append_left hi] at a
    rw [List.getElem?_append_left (by rw [← h.len]; exact hi)] at b
    exact h.at_ i t x a b
  · rw [List.getElem?_append_right (by omega)] at a
    rw [List.getElem?_append_right (by rw [← h.len]; omega), ← h.len] at b
    exact g.at_ _ t x a b
theorem Lz.one {t : Addr} {x : List Int} (h : sq H t (ivs x)) : Lz sq H [t] [x] := ⟨rfl, fun i u y a b => by
  cases i with
  | zero => cases a; cases b; exact h
  | succ i => simp at a⟩
theorem Lz.cons {t : Addr} {x : List Int} (h : sq H t (ivs x)) (g : Lz sq H us qs) : Lz sq H (t :: us) (x :: qs) := (Lz.one h).app g
end
/-! ### the standard tables -/
def rg (n : Nat) : List Int := (List.range n).map fun i => 1 + ((i : Nat) : Int)
def path (n : Nat) : List (List Int) := (List.range n).map fun i => [((i : Nat) : Int), ((i : Nat) : Int) + 1]
/-- the rows of the standard table of a kind and a size -/
def stdR (k s : Int) : List (List Int) :=
  if k = 4 then [[0, 1], [2, 3], [4, 5], [1, 3, 5]] else if k = 5 then [[0, 1], [2, 3], [0, 1, 2, 3], [1, 2, 4]]
  else if k = 1 then path (s + 1).toNat ++ [[0, s + 1]]
  else if k = 2 then path (s + 1).toNat ++ [0 :: rg s.toNat ++ [s + 2], rg s.toNat ++ [s + 1, s + 2]]
  else path (s + 1).toNat ++ [rg s.toNat ++ [s + 2]]
def moreI (k : Int) : Option Int := if k = 1 then some 2 else if k = 2 then some 3 else if k = 3 then some 3 else none
def fixI (k : Int) : Option Int := if k = 4 then some 6 else if k = 5 then some 5 else none
theorem more_at (k : Int) : ([(1, V.int 2), (2, V.int 3), (3, V.int 3)] : List (Int × V)).lookup k = (moreI k).map V.int := by
  unfold moreI
  by_cases h1 : k = 1
  · subst h1; rfl
  by_cases h2 : k = 2
  · subst h2; rfl
  by_cases h3 : k = 3
  · subst h3; rfl
  rw [if_neg h1, if_neg h2, if_neg h3]
  simp [List.lookup_cons, beq_eq_false_iff_ne.mpr h1, beq_eq_false_iff_ne.mpr h2, beq_eq_false_iff_ne.mpr h3]
theorem fix_at (k : Int) : ([(4, V.int 6), (5, V.int 5)] : List (Int × V)).lookup k = (fixI k).map V.int := by
  unfold fixI
  by_cases h1 : k = 4
  · subst h1; rfl
  by_cases h2 : k = 5
  · subst h2; rfl
  rw [if_neg h1, if_neg h2]
  simp [List.lookup_cons, beq_eq_false_iff_ne.mpr h1, beq_eq_false_iff_ne.mpr h2]
theorem fixR_at (k : Int) (a b : Addr) : ([(4, V.ref a), (5, V.ref b)] : List (Int × V)).lookup k = if k = 4 then some (V.ref a) else if k = 5 then some (V.ref b) else none := by
  by_cases h1 : k = 4
  · subst h1; rfl
  by_cases h2 : k = 5
  · subst h2; rfl
  rw [if_neg h1, if_neg h2]
  simp [List.lookup_cons, beq_eq_false_iff_ne.mpr h1, beq_eq_false_iff_ne.mpr h2]
def w1 (k s : Int) : Int := if (k = 1 ∨ k = 2 ∨ k = 3) ∧ 1 ≤ s then s + (if k = 1 then 2 else 3) else 0
def w2 (k s : Int) : Int := if (k = 4 ∨ k = 5) ∧ s = 1 then (if k = 4 then 6 else 5) else w1 k s
def okKS (k s : Int) : Bool := decide (0 < w2 k s ∧ w2 k s ≤ 12)
theorem okKS_iff {k s : Int} : okKS k s = true ↔ ((k = 1 ∧ 1 ≤ s ∧ s ≤ 10) ∨ ((k = 2 ∨ k = 3) ∧ 1 ≤ s ∧ s ≤ 9) ∨ ((k = 4 ∨ k = 5) ∧ s = 1)) := by
  unfold okKS
  rw [decide_eq_true_iff]
  unfold w2 w1
  by_cases h1 : k = 1
  · subst h1; simp; omega
  by_cases h2 : k = 2
  · subst h2; simp; omega
  by_cases h3 : k = 3
  · subst h3; simp; omega
  by_cases h4 : k = 4
  · subst h4; simp; split <;> omega
  by_cases h5 : k = 5
  · subst h5; simp; split <;> omega
  simp [h1, h2, h3, h4, h5]
theorem w2_is {k s : Int} (h : okKS k s = true) : w2 k s = if k = 1 then s + 2 else if k = 2 ∨ k = 3 then s + 3 else if k = 4 then 6 else 5 := by
  rcases okKS_iff.mp h with ⟨rfl, a, b⟩ | ⟨rfl | rfl, a, b⟩ | ⟨rfl | rfl, rfl⟩
  · unfold w2 w1; simp [a]
  · unfold w2 w1; simp [a]
  · unfold w2 w1; simp [a]
  · rfl
  · rfl
theorem path_len (n : Nat) : (path n).length = n := by unfold path; rw [List.length_map, List.length_range]
theorem rg_len (n : Nat) : (rg n).length = n := by unfold rg; rw [List.length_map, List.length_range]
theorem path_take {n i : Nat} (h : i < n) : (path n).take (i + 1) = (path n).take i ++ [[((i : Nat) : Int), ((i : Nat) : Int) + 1]] := by
  refine take_succ ?_
  unfold path
  rw [List.getElem?_map, List.getElem?_range h]; rfl
theorem stdR_len {k s : Int} (h : okKS k s = true) : 1 ≤ (stdR k s).length ∧ (stdR k s).length ≤ 12 := by
  rcases okKS_iff.mp h with ⟨rfl, a, b⟩ | ⟨rfl | rfl, a, b⟩ | ⟨rfl | rfl, rfl⟩
  · unfold stdR; simp [path_len]; omega
  · unfold stdR; simp [path_len]; omega
  · unfold stdR; simp [path_len]; omega
  · unfold stdR; simp
  · unfold stdR; simp
end My
set_option maxRecDepth 100000
set_option maxHeartbeats 4000000
set_option exponentiation.threshold 10000
namespace My
open PySem L2
open C8 (pss_cut)
theorem exc_same5 {H : Hp} {a d : Addr} {o1 o2 o3 o4 o5 : HO} (ha : H a = none) (hd : H d = none) : Same H (upd (L2.del (upd (upd (upd (upd H a o1) d o2) a o3) d o4) a) d o5) := fun b o e => by
  have na := ne_of_none e ha
  have ndd := ne_of_none e hd
  rw [upd_ne ndd, L2.del_ne na, upd_ne ndd, upd_ne na, upd_ne ndd, upd_ne na]
  exact e
section
variable {P : Program} {w : World} {K : PySem.W.Frag} {mg : Str → Option Value} {base : Heap} {A : Ad}
def spWidth (B : Addr) : Sp := fun vs H Q E => ∃ k s, vs = [.int k, .int s] ∧ midI k ∧ midI s ∧ (okKS k s = true → ∀ H', Same H H' → Q (.int (w2 k s)) H') ∧ (okKS k s = false → ∀ d H', Same H H' → E (.ref B) (some d) H')
theorem ok_width (T : Txt P K mg A) : FnOk P w K mg base (L2.CX P w) 3 A.a_standard_width A.d_standard_width ["kind", "size"] (spWidth A.C_BadKind) := by
  have G_BadKind_init := ok_BadKind (P := P) (w := w) (base := base) T
  refine funX T.F_standard_width sc_standard_width (fun vs H Q E h => ?_) (fun cdv A' outer s0 H vs Q E hr h => ?_)
  · obtain ⟨k, s, rfl, _⟩ := h
    rfl
  · obtain ⟨k, s, rfl, mk, ms, kq, ke⟩ := h
    refine ⟨_, (pss_cons (ps_set (i := 2) sc_standard_width.nd rfl (Or.inl rfl) pe_int)
      (pss_cut (ps_if (PW.pt (pw_and (pt_cmpR op_inI (pv 0) (pe_glob (v := .ref A.e_MORE_COLUMNS) rfl T.mg_MORE_COLUMNS rfl) (by with_unfolding_all rfl)) (pw_and1 (pt_cmpR op_ge (pv 1) pe_int (nomark _))))) (pss_one (ps_set (i := 2) sc_standard_width.nd rfl (Or.inl rfl) (pe_op op_add (pv 1) (pe_ix ix_idict (pe_glob (v := .ref A.e_MORE_COLUMNS) rfl T.mg_MORE_COLUMNS rfl) (pv 0) (fun _ _ => rfl))))) pss_nil)
      (pss_cut (ps_if (PW.pt (pw_and (pt_cmpR op_inI (pv 0) (pe_glob (v := .ref A.e_FIXED_COLUMNS) rfl T.mg_FIXED_COLUMNS rfl) (by with_unfolding_all rfl)) (pw_and1 (pt_cmpR op_eq (pv 1) pe_int (nomark _))))) (pss_one (ps_set (i := 2) sc_standard_width.nd rfl (Or.inl rfl) (pe_ix ix_idict (pe_glob (v := .ref A.e_FIXED_COLUMNS) rfl T.mg_FIXED_COLUMNS rfl) (pv 0) (fun _ _ => rfl)))) pss_nil)
      (pss_cons (ps_if (pt_not (pt_chain op_lt op_le pe_int (pv 2) (ClX.pe_cval (pe_glob (v := .ref A.C_Table) rfl T.mg_Table rfl)))) (pss_one (ps_raise rfl (takes_of rfl rfl rfl rfl) (pmk_oex T.SC_BadKind.ox T.ii_BadKind T.ti_BadKind G_BadKind_init (hr.mono (by decide)) T.b_BadKind_init .nil pass0 rfl T.mg_BadKind (pa_cons (pv 0) (pa_cons (pv 1) pa_nil))))) pss_nil)
      (pss_one (ps_ret (pv 2))))))), ?_⟩
    refine ⟨fun σ G => H = G ∧ σ = [some (.int k), some (.int s), some (.int (w1 k s))], ?_, ?_⟩
    · refine ⟨_, rfl, k, _, _, rfl, rfl, T.id_MORE_COLUMNS, ?_⟩
      rw [more_at]
      have e1 : w1 k s = match moreI k with | some m => if 1 ≤ s then s + m else 0 | none => 0 := by
        unfold w1 moreI
        by_cases h1 : k = 1
        · subst h1; simp
        by_cases h2 : k = 2
        · subst h2; simp
        by_cases h3 : k = 3
        · subst h3; simp
        simp [h1, h2, h3]
      cases hm : moreI k with
      | none =>
        rw [hm] at e1
        refine ⟨_, rfl, ifF rfl (ifF rfl ⟨rfl, ?_⟩)⟩
        rw [e1]; rfl
      | some m =>
        rw [hm] at e1
        refine ⟨_, rfl, ifT rfl ⟨_, rfl, _, _, rfl, rfl, _, rfl, ?_⟩⟩
        by_cases hs : 1 ≤ s
        · refine ifT (decide_eq_true hs) ⟨_, rfl, _, rfl, _, k, _, _, rfl, rfl, T.id_MORE_COLUMNS, by rw [more_at, hm]; rfl, _, _, rfl, rfl, rfl, ?_⟩
          rw [e1]; show _ = [_, _, some (V.int (if 1 ≤ s then s + m else 0))]; rw [if_pos hs]; rfl
        · refine ifF (decide_eq_false hs) ⟨rfl, ?_⟩
          rw [e1]; show _ = [_, _, some (V.int (if 1 ≤ s then s + m else 0))]; rw [if_neg hs]; rfl
    rintro σ G ⟨rfl, rfl⟩
    refine ⟨fun σ G => H = G ∧ σ = [some (.int k), some (.int s), some (.int (w2 k s))], ?_, ?_⟩
    · refine ⟨_, rfl, k, _, _, rfl, rfl, T.id_FIXED_COLUMNS, ?_⟩
      rw [fix_at]
      have e1 : w2 k s = match fixI k with | some m => if s = 1 then m else w1 k s | none => w1 k s := by
        unfold w2 fixI
        by_cases h1 : k = 4
        · subst h1; simp
        by_cases h2 : k = 5
        · subst h2; simp
        simp [h1, h2]
      cases hm : fixI k with
      | none =>
        rw [hm] at e1
        refine ⟨_, rfl, ifF rfl (ifF rfl ⟨rfl, ?_⟩)⟩
        rw [e1]
      | some m =>
        rw [hm] at e1
        refine ⟨_, rfl, ifT rfl ⟨_, rfl, rfl, _, rfl, ?_⟩⟩
        by_cases hs : s = 1
        · refine ifT (decide_eq_true (by rw [hs])) ⟨_, rfl, _, k, _, _, rfl, rfl, T.id_FIXED_COLUMNS, by rw [fix_at, hm]; rfl, rfl, ?_⟩
          rw [e1]; show _ = [_, _, some (V.int (if s = 1 then m else w1 k s))]; rw [if_pos hs]; rfl
        · refine ifF (decide_eq_false fun z => hs (V.int.inj z)) ⟨rfl, ?_⟩
          rw [e1]; show _ = [_, _, some (V.int (if s = 1 then m else w1 k s))]; rw [if_neg hs]
    rintro σ G ⟨rfl, rfl⟩
    obtain ⟨u, hu⟩ := T.cv_Table_MOST_COLUMNS
    refine ⟨_, rfl, _, _, rfl, rfl, _, rfl, ?_⟩
    by_cases h0 : 0 < w2 k s
    · refine itY h0 ⟨_, _, _, _, rfl, T.cr_Table, hu, _, _, rfl, rfl, _, rfl, ?_⟩
      by_cases h1 : w2 k s ≤ 12
      · exact ifF (by rw [decide_eq_true h1]; rfl) (⟨_, rfl, kq (decide_eq_true ⟨h0, h1⟩) _ (Same.refl _)⟩)
      · refine ifT (by rw [decide_eq_false h1]; rfl) (⟨_, rfl, _, rfl, by show 2 ≤ 1000; decide, fun aa ha => ⟨aa, k, s, rfl, mk, ms, upd_same, fun d hd hne => ⟨rfl, d, _, by rw [upd_ne hne.symm]; exact upd_same, upd_same, by rw [upd_ne hne] at hd; exact hd, by rw [upd_ne hne] at hd; exact ke (decide_eq_false fun z => h1 z.2) d _ (exc_same5 ha hd)⟩⟩⟩)
    · refine itN h0 ⟨_, rfl, ifT rfl ⟨_, rfl, _, rfl, by show 2 ≤ 1000; decide, fun aa ha => ⟨aa, k, s, rfl, mk, ms, upd_same, fun d hd hne => ⟨rfl, d, _, by rw [upd_ne hne.symm]; exact upd_same, upd_same, by rw [upd_ne hne] at hd; exact hd, by rw [upd_ne hne] at hd; exact ke (decide_eq_false fun z => h0 z.1) d _ (exc_same5 ha hd)⟩⟩⟩⟩
end
end My
set_option maxRecDepth 100000
set_option maxHeartbeats 4000000
set_option exponentiation.threshold 10000
namespace My
open PySem L2
open C8 (pss_cut)
theorem rgV_is {s : Int} (h : 0 ≤ s) : rgV 1 (s + 1) = ivs (rg s.toNat) := by
  unfold rgV rg ivs
  rw [show (s + 1 - 1).toNat = s.toNat by omega, List.map_map]
  rfl
section
variable {P : Program} {w : World} {K : PySem.W.Frag} {mg : Str → Option Value} {base : Heap} {A : Ad}
def spStdR (B : Addr) (K : PySem.W.Frag) : Sp := fun vs H Q E => ∃ k s, vs = [.int k, .int s] ∧ midI k ∧ midI s ∧ (okKS k s = true → ∀ D ts H', Same H H' → H' D = some (.lst (ts.map V.ref)) → Lz (SqT K) H' ts (stdR k s) → Q (.ref D) H') ∧ (okKS k s = false → ∀ d H', Same H H' → E (.ref B) (some d) H')
theorem ok_stdR (T : Txt P K mg A) : FnOk P w K mg base (L2.CX P w) 5 A.a_standard_rows A.d_standard_rows ["kind", "size"] (spStdR A.C_BadKind K) := by
  have GX_standard_width := ok_width (P := P) (w := w) (base := base) T
  refine funX T.F_standard_rows sc_standard_rows (fun vs H Q E h => ?_) (fun cdv A' outer s0 H vs Q E hr h => ?_)
  · obtain ⟨k, s, rfl, _⟩ := h
    rfl
  · obtain ⟨k, s, rfl, mk, ms, kq, ke⟩ := h
    refine ⟨_, (pss_cons (ps_set (i := 2) sc_standard_rows.nd rfl (Or.inl rfl) (pe_op op_sub (pe_callS GX_standard_width (hr.mono (by decide)) rfl T.mg_standard_width T.F_standard_width.kp T.b_standard_width (fun σ => passAt (takes_of rfl rfl rfl rfl) σ) (pa_cons (pv 0) (pa_cons (pv 1) pa_nil))) pe_int))
      (pss_cons (ps_if (pt_cmpR op_inI (pv 0) (pe_glob (v := .ref A.e_FIXED_ROWS) rfl T.mg_FIXED_ROWS rfl) (by with_unfolding_all rfl)) (pss_one (ps_ret (pe_callTy (show CallR _ _ (rListOf K) from call_list_of) (by rfl) T.n_list (by decide +kernel) (pa_cons (pe_ix ix_idict (pe_glob (v := .ref A.e_FIXED_ROWS) rfl T.mg_FIXED_ROWS rfl) (pv 0) (fun _ _ => rfl)) pa_nil)))) pss_nil)
      (pss_cons (ps_setLc (i := 3) (own := [("at", 5)]) (g := gName 5) (tt := tYes) rfl sc_standard_rows.nd rfl rfl (sw_true rfl rfl rfl (by decide +kernel)) (pi_range1 (by rfl) T.n_range (pa_cons (pe_op op_add (pv 1) pe_int) pa_nil)) (blkOk_by (N := ["kind", "size", "last", "rows", "inner", "at"]) (sc := defScope s_standard_rows) (by decide +kernel)) (fun _ _ _ _ _ => (pg_name (i := 5) sc_standard_rows.nd rfl (Or.inl rfl))) (fun _ _ _ _ _ => pts_nil) (fun _ _ _ _ _ => (pe_tup (pa_cons (pv 5) (pa_cons (pe_op op_add (pv 5) pe_int) pa_nil)))))
      (pss_cons (ps_if (pt_cmpR op_eq (pv 0) pe_int (nomark _)) (pss_one (ps_ret (pe_lst (StX.pa_star (pv 3) (pa_cons (pe_tup (pa_cons pe_int (pa_cons (pv 2) pa_nil))) pa_nil))))) pss_nil)
      (pss_cons (ps_set (i := 4) sc_standard_rows.nd rfl (Or.inl rfl) (pe_tupRg rfl (by rfl) T.n_tuple (prg_2 (by rfl) T.n_range pe_int (pe_op op_add (pv 1) pe_int))))
      (pss_cons (ps_if (pt_cmpR op_eq (pv 0) pe_int (nomark _)) (pss_one (ps_ret (pe_lst (StX.pa_star (pv 3) (pa_cons (pe_tup (pa_cons pe_int (StX.pa_star (pv 4) (pa_cons (pv 2) pa_nil)))) (pa_cons (pe_tup (StX.pa_star (pv 4) (pa_cons (pe_op op_add (pv 1) pe_int) (pa_cons (pv 2) pa_nil)))) pa_nil)))))) pss_nil)
      (pss_one (ps_ret (pe_lst (StX.pa_star (pv 3) (pa_cons (pe_tup (StX.pa_star (pv 4) (pa_cons (pv 2) pa_nil))) pa_nil))))))))))), ?_⟩
    refine ⟨_, rfl, _, rfl, k, s, rfl, mk, ms, fun hok H1 s1 => ?_, ke⟩
    have kq := kq hok
    refine ⟨_, _, rfl, rfl, _, rfl, k, _, _, rfl, rfl, T.id_FIXED_ROWS, ?_⟩
    rw [fixR_at]
    have hk := okKS_iff.mp hok
    by_cases h4 : k = 4
    · subst h4
      refine ⟨_, rfl, ifT rfl ⟨_, rfl, _, 4, _, _, rfl, rfl, T.id_FIXED_ROWS, by rw [fixR_at]; rfl, _, _, rfl, .inr T.wt_w4.sq, fun l hl => ?_⟩⟩
      refine kq l [A.e_w40, A.e_w41, A.e_w42, A.e_w43] _ (s1.trans (same_new hl)) upd_same ?_
      exact .cons T.wt_w40.sq (.cons T.wt_w41.sq (.cons T.wt_w42.sq (.cons T.wt_w43.sq .nil)))
    by_cases h5 : k = 5
    · subst h5
      refine ⟨_, rfl, ifT rfl ⟨_, rfl, _, 5, _, _, rfl, rfl, T.id_FIXED_ROWS, by rw [fixR_at]; rfl, _, _, rfl, .inr T.wt_w5.sq, fun l hl => ?_⟩⟩
      refine kq l [A.e_w50, A.e_w51, A.e_w52, A.e_w53] _ (s1.trans (same_new hl)) upd_same ?_
      exact .cons T.wt_w50.sq (.cons T.wt_w51.sq (.cons T.wt_w52.sq (.cons T.wt_w53.sq .nil)))
    rw [if_neg h4, if_neg h5]
    have sz : 1 ≤ s ∧ s ≤ 10 := by omega
    refine ⟨_, rfl, ifF rfl ?_⟩
    refine ⟨_, rfl, _, _, rfl, rfl, _, rfl, by omega, by omega, fun D nD => lc_it walk_range (fun i G => Same H1 G ∧ ∃ us : List Addr, G D = some (.lst (us.map V.ref)) ∧ Lz (SqT K) G us ((path (s + 1).toNat).take i)) ⟨same_new nD, [], upd_same, Lz.nil⟩ (fun i G _ q => trivial) ?_ ?_⟩
    · rintro i x G0 G hi ⟨sG, us, hD, hus⟩ ⟨rfl, rfl⟩
      refine ⟨rfl, _, rfl, _, rfl, _, _, rfl, rfl, by show 2 ≤ sizeLine; decide, fun t n3 => ?_⟩
      generalize hG : upd G t _ = G2
      have q3 : Same G G2 := hG ▸ same_new n3
      have x3 := (congrFun hG t).symm.trans upd_same
      clear hG
      have x3 : G2 t = some (.tup [V.int (0 + ((i : Nat) : Int)), V.int (0 + ((i : Nat) : Int) + 1)]) := x3
      rw [Int.zero_add] at x3
      have hD2 := q3 _ _ hD
      have hil : i < (s + 1).toNat := hi
      refine ⟨_, hD2, small_int (by rw [List.length_map, hus.len, List.length_take, path_len]; omega), fun b o e => by rw [upd_ne (ne_of_none e nD)]; exact q3 _ _ (sG _ _ e), us ++ [t], by rw [List.map_append]; exact upd_same, ?_⟩
      rw [path_take hil]
      exact (hus.imp fun u x q => sqt_updL (q3.tup q) hD2).app (Lz.one (sqt_updL (SqT.of x3) hD2))
    rintro G ⟨sG, ts, hD, hts⟩
    have hts : Lz (SqT K) G ts (path (s + 1).toNat) := by
      have e : (path (s + 1).toNat).take (s + 1).toNat = path (s + 1).toNat := List.take_of_length_le (by rw [path_len]; exact Nat.le_refl _)
      rw [← e]; exact hts
    have tl : ts.length ≤ 11 := by rw [hts.len, path_len]; omega
    have s1G := s1.trans sG
    by_cases k1 : k = 1
    · subst k1
      have hw : w2 1 s - 1 = s + 1 := by rw [w2_is hok]; simp; omega
      refine ⟨_, rfl, rfl, _, rfl, ifT (decide_eq_true rfl) ⟨_, rfl, D, _, rfl, .inr (SqL.of hD), _, rfl, by show 2 ≤ sizeLine; decide, fun t n3 => ?_⟩⟩
      generalize hG : upd G t _ = G2
      have q3 : Same G G2 := hG ▸ same_new n3
      have x3 := (congrFun hG t).symm.trans upd_same
      clear hG
      have x3 : G2 t = some (.tup [V.int 0, V.int (w2 1 s - 1)]) := x3
      rw [hw] at x3
      refine ⟨by rw [List.length_append, List.length_map]; show ts.length + 1 ≤ sizeLine; exact Nat.le_trans (show ts.length + 1 ≤ 12 by omega) (by decide), fun l nl => ?_⟩
      refine kq l (ts ++ [t]) _ (s1G.trans (q3.trans (same_new nl))) (by rw [List.map_append]; exact upd_same) ?_
      have sn := q3.trans (same_new (o := .lst (ts.map V.ref ++ [V.ref t])) nl)
      exact (hts.imp fun u x q => sn.tup q).app (Lz.one (SqT.of (same_new nl _ _ x3)))
    refine ⟨_, rfl, rfl, _, rfl, ifF (decide_eq_false fun z => k1 (V.int.inj z)) ?_⟩
    have hw : w2 k s - 1 = s + 2 := by rw [w2_is hok, if_neg k1, if_pos (by omega)]; omega
    refine ⟨_, rfl, _, _, rfl, rfl, _, _, rfl, rfl, RgOk.of_le (by omega) (by omega) (by omega) (by omega), fun IN nIN => ?_⟩
    generalize hG : upd G IN _ = G2
    have q2 : Same G G2 := hG ▸ same_new nIN
    have x2 := (congrFun hG IN).symm.trans upd_same
    clear hG
    have x2 : G2 IN = some (.tup (ivs (rg s.toNat))) := by rw [← rgV_is (by omega)]; exact x2
    have hD := q2 _ _ hD
    have hts := hts.imp fun u x q => q2.tup q
    have s2 := s1G.trans q2
    have rl : (rg s.toNat).length ≤ 10 := by rw [rg_len]; omega
    have big : (100 : Nat) ≤ sizeLine := by decide
    by_cases k2 : k = 2
    · subst k2
      refine ⟨_, rfl, rfl, _, rfl, ifT (decide_eq_true rfl) ⟨_, rfl, D, _, rfl, .inr (SqL.of hD), _, rfl, IN, _, rfl, .inl (SqT.of x2), _, rfl, by rw [List.length_cons, List.length_append, ivs_len]; show (rg s.toNat).length + 1 + 1 ≤ sizeLine; omega, fun t n3 => ?_⟩⟩
      generalize hG : upd G2 t _ = G3
      have q3 : Same G2 G3 := hG ▸ same_new n3
      have x3 := (congrFun hG t).symm.trans upd_same
      clear hG
      have x3 : G3 t = some (.tup (V.int 0 :: (ivs (rg s.toNat) ++ [V.int (w2 2 s - 1)]))) := x3
      rw [hw] at x3
      have x3 : G3 t = some (.tup (ivs (0 :: rg s.toNat ++ [s + 2]))) := by rw [x3]; simp [ivs]
      refine ⟨_, rfl, IN, _, rfl, .inl (SqT.of (q3 _ _ x2)), _, rfl, _, _, rfl, rfl, _, rfl, by rw [List.length_append, ivs_len]; show (rg s.toNat).length + 2 ≤ sizeLine; omega, fun t2 n4 => ?_⟩
      generalize hG : upd G3 t2 _ = G4
      have q4 : Same G3 G4 := hG ▸ same_new n4
      have x4 := (congrFun hG t2).symm.trans upd_same
      clear hG
      have x4 : G4 t2 = some (.tup (ivs (rg s.toNat) ++ [V.int (s + 1), V.int (w2 2 s - 1)])) := x4
      rw [hw] at x4
      have x4 : G4 t2 = some (.tup (ivs (rg s.toNat ++ [s + 1, s + 2]))) := by rw [x4]; simp [ivs]
      refine ⟨by rw [List.length_append, List.length_map]; show ts.length + 2 ≤ sizeLine; omega, fun l nl => ?_⟩
      have sn := (same_new (o := .lst (ts.map V.ref ++ [V.ref t, V.ref t2])) nl)
      have s4 := q3.trans (q4.trans sn)
      refine kq l (ts ++ [t, t2]) _ (s2.trans s4) (by rw [List.map_append]; exact upd_same) ?_
      exact (hts.imp fun u x q => s4.tup q).app (.cons (SqT.of ((q4.trans sn) _ _ x3)) (.one (SqT.of (sn _ _ x4))))
    have k3 : k = 3 := by omega
    subst k3
    refine ⟨_, rfl, rfl, _, rfl, ifF (decide_eq_false fun z => k2 (V.int.inj z)) ⟨_, rfl, D, _, rfl, .inr (SqL.of hD), _, rfl, IN, _, rfl, .inl (SqT.of x2), _, rfl, by rw [List.length_append, ivs_len]; show (rg s.toNat).length + 1 ≤ sizeLine; omega, fun t n3 => ?_⟩⟩
    generalize hG : upd G2 t _ = G3
    have q3 : Same G2 G3 := hG ▸ same_new n3
    have x3 := (congrFun hG t).symm.trans upd_same
    clear hG
    have x3 : G3 t = some (.tup (ivs (rg s.toNat) ++ [V.int (w2 3 s - 1)])) := x3
    rw [hw] at x3
    have x3 : G3 t = some (.tup (ivs (rg s.toNat ++ [s + 2]))) := by rw [x3]; simp [ivs]
    refine ⟨by rw [List.length_append, List.length_map]; show ts.length + 1 ≤ sizeLine; omega, fun l nl => ?_⟩
    have sn := (same_new (o := .lst (ts.map V.ref ++ [V.ref t])) nl)
    have s4 := q3.trans sn
    refine kq l (ts ++ [t]) _ (s2.trans s4) (by rw [List.map_append]; exact upd_same) ?_
    exact (hts.imp fun u x q => s4.tup q).app (.one (SqT.of (sn _ _ x3)))
end
end My
set_option maxRecDepth 100000
set_option maxHeartbeats 4000000
set_option exponentiation.threshold 10000
namespace My
open PySem L2
open C8 (pss_cut)
abbrev pdi (l : List Int) : List PyData := l.map PyData.int
theorem dp_ivs {K : PySem.W.Frag} {H : Hp} : ∀ l : List Int, DpAll K H (ivs l) (pdi l)
  | [] => .nil
  | a :: l => .cons (.int a) (dp_ivs l)
theorem lay_pdi : ∀ l : List Int, PyData.canLayAll0 (pdi l) = true
  | [] => by simp [PyData.canLayAll0]
  | a :: l => layc (lay_int a) (lay_pdi l)
theorem depth_pdi : ∀ l : List Int, PyData.depthAll (pdi l) ≤ 1
  | [] => by simp [PyData.depthAll]
  | a :: l => by
    have h : PyData.depthAll (l.map PyData.int) ≤ 1 := depth_pdi l
    simp only [List.map_cons, PyData.depthAll, PyData.depth]
    omega
theorem sh_pdi (l : List Int) : SeqAt.shaped (.list (pdi l)) = true := shapedL (lay_pdi l) (Nat.le_trans (depth_pdi l) (by decide))
theorem shT_pdi (l : List Int) : SeqAt.shaped (.tuple (pdi l)) = true := shapedT (lay_pdi l) (Nat.le_trans (depth_pdi l) (by decide))
theorem nb_pdi (ss : List Int) : nbAll (pdi ss) = true := by
  induction ss with
  | nil => rfl
  | cons a t ih => show (true && nbAll (pdi t)) = true; rw [ih]; rfl
theorem pdi_inj {a b : List Int} : pdi a = pdi b ↔ a = b := by
  constructor
  · intro h
    have := congrArg (List.map fun d : PyData => match d with | .int x => x | _ => (0 : Int)) h
    rw [List.map_map, List.map_map] at this
    simpa [Function.comp_def] using this
  · intro h; rw [h]
theorem eqv_LI (a b : List Int) : PyData.eqv (.list (pdi a)) (.list (pdi b)) = decide (a = b) := by
  rw [Bool.eq_iff_iff, decide_eq_true_iff, eqv_iff (.list (pdi a)) (.list (pdi b)) (by simp only [nb]; exact nb_pdi a) (by simp only [nb]; exact nb_pdi b), PyData.list.injEq, pdi_inj]
theorem eqv_TI (a b : List Int) : PyData.eqv (.tuple (pdi a)) (.tuple (pdi b)) = decide (a = b) := by
  rw [Bool.eq_iff_iff, decide_eq_true_iff, eqv_iff (.tuple (pdi a)) (.tuple (pdi b)) (by simp only [nb]; exact nb_pdi a) (by simp only [nb]; exact nb_pdi b), PyData.tuple.injEq, pdi_inj]
/-! ### patterns -/
def fldsP (k s : Int) (rt ct : Addr) : List (Str × V) := [("kind", .int k), ("size", .int s), ("rows", .ref rt), ("columns", .ref ct)]
theorem fldsP_kind (k s : Int) (rt ct : Addr) : (fldsP k s rt ct).lookup ("kind" : Str) = some (.int k) := by unfold fldsP; simp [List.lookup]
theorem fldsP_size (k s : Int) (rt ct : Addr) : (fldsP k s rt ct).lookup ("size" : Str) = some (.int s) := by
  unfold fldsP
  rw [List.lookup_cons, show (("size" : Str) == "kind") = false by decide +kernel]
  simp [List.lookup]
theorem fldsP_rows (k s : Int) (rt ct : Addr) : (fldsP k s rt ct).lookup ("rows" : Str) = some (.ref rt) := by
  unfold fldsP
  rw [List.lookup_cons, show (("rows" : Str) == "kind") = false by decide +kernel, List.lookup_cons, show (("rows" : Str) == "size") = false by decide +kernel]
  simp [List.lookup]
theorem fldsP_columns (k s : Int) (rt ct : Addr) : (fldsP k s rt ct).lookup ("columns" : Str) = some (.ref ct) := by
  unfold fldsP
  rw [List.lookup_cons, show (("columns" : Str) == "kind") = false by decide +kernel, List.lookup_cons, show (("columns" : Str) == "size") = false by decide +kernel, List.lookup_cons, show (("columns" : Str) == "rows") = false by decide +kernel]
  simp [List.lookup]
theorem fldsP_put (k s : Int) (rt ct : Addr) : putF "columns" (.ref ct) (putF "rows" (.ref rt) (putF "size" (.int s) (putF "kind" (.int k) []))) = fldsP k s rt ct := by
  unfold fldsP
  simp [putF, show ¬ (("kind" : Str) = "size") by decide +kernel, show ¬ (("kind" : Str) = "rows") by decide +kernel, show ¬ (("size" : Str) = "rows") by decide +kernel, show ¬ (("kind" : Str) = "columns") by decide +kernel, show ¬ (("size" : Str) = "columns") by decide +kernel, show ¬ (("rows" : Str) = "columns") by decide +kernel]
/-- a pattern: its kind, size, rows and columns -/
def Pat (C : Addr) (H : Hp) (p : Addr) (k s : Int) (xs : List Int) (ys : List Str) : Prop :=
  ∃ dx rt ct, H p = some (.ins C dx (fldsP k s rt ct)) ∧ H rt = some (.tup (ivs xs)) ∧ H ct = some (.tup (sv ys))
theorem Pat.same {C : Addr} {H H' : Hp} {p : Addr} {k s : Int} {xs : List Int} {ys : List Str} (h : Pat C H p k s xs ys) (e : Same H H') : Pat C H' p k s xs ys :=
  let ⟨dx, rt, ct, a, b, c⟩ := h; ⟨dx, rt, ct, e _ _ a, e _ _ b, e _ _ c⟩
theorem Pat.updL {C : Addr} {H : Hp} {p b : Addr} {k s : Int} {xs : List Int} {ys : List Str} {zs : List V} {o : HO} (h : Pat C H p k s xs ys) (hb : H b = some (.lst zs)) : Pat C (upd H b o) p k s xs ys := by
  obtain ⟨dx, rt, ct, h1, h2, h3⟩ := h
  have nb : ∀ a u, H a = some u → (∀ zs, u ≠ .lst zs) → upd H b o a = some u := fun a u e hne => by
    rw [upd_ne (fun z => hne zs (by rw [z, hb] at e; exact (Option.some.inj e).symm))]; exact e
  exact ⟨dx, rt, ct, nb _ _ h1 (fun _ z => nomatch z), nb _ _ h2 (fun _ z => nomatch z), nb _ _ h3 (fun _ z => nomatch z)⟩
/-- a list, or a tuple laid here -/
def LT (H : Hp) (a : Addr) (xs : List V) : Prop := H a = some (.lst xs) ∨ H a = some (.tup xs)
theorem LT.same {H H' : Hp} {a : Addr} {xs : List V} (h : LT H a xs) (e : Same H H') : LT H' a xs := h.imp (e _ _) (e _ _)
theorem LT.updI {H : Hp} {a p C dx : Addr} {xs : List V} {f : List (Str × V)} {o : HO} (h : LT H a xs) (hp : H p = some (.ins C dx f)) : LT (upd H p o) a xs :=
  h.imp (fun e => by rw [upd_ne (fun z => by rw [z, hp] at e; cases e)]; exact e) (fun e => by rw [upd_ne (fun z => by rw [z, hp] at e; cases e)]; exact e)
theorem tupP {K : PySem.W.Frag} {H : Hp} {p : Addr} {ys : List V} {Q : VK} (h : LT H p ys) (k : ∀ a H', Same H H' → H' a = some (.tup ys) → Q (.ref a) H') : rTupOf K [.ref p] H Q := by
  refine ⟨p, ys, rfl, ?_⟩
  rcases h with h | h
  · exact .inl ⟨SqL.of h, fun l hl => k l _ (same_new hl) upd_same⟩
  · exact .inr ⟨SqT.of h, k p H (Same.refl _) h⟩
section
variable {P : Program} {w : World} {K : PySem.W.Frag} {mg : Str → Option Value} {base : Heap} {A : Ad}
def spPatI (C : Addr) : Sp := fun vs H Q _ => ∃ (p : Addr) (k s : Int) (r c dx : Addr) (xs : List Int) (ys : List Str), vs = [.ref p, .int k, .int s, .ref r, .ref c] ∧ H p = some (.ins C dx []) ∧ LT H r (ivs xs) ∧ LT H c (sv ys) ∧ ∀ H', (∀ b o, b ≠ p → H b = some o → H' b = some o) → Pat C H' p k s xs ys → Q .non H'
theorem ok_patI (T : Txt P K mg A) : FnOk P w K mg base CX0 1 A.a_Pattern_init A.d_Pattern_init ["self", "kind", "size", "rows", "columns"] (spPatI A.C_Pattern) := by
  refine T.F_Pattern_init.ok sc_Pattern_init (fun vs H Q E h => ?_) (fun cdv A' outer s0 H vs Q E hr h => ?_)
  · obtain ⟨p, k, s, r, c, dx, xs, ys, rfl, _⟩ := h
    rfl
  · obtain ⟨p, k, s, r, c, dx, xs, ys, rfl, hp, hR, hC, kk⟩ := h
    refine ⟨_, (pss_cons (ps_fld (pv 0) (pv 1) rfl)
      (pss_cons (ps_fld (pv 0) (pv 2) rfl)
      (pss_cons (ps_fld (pv 0) (pe_callTy (show CallR _ _ (rTupOf K) from call_tuple_of) (by rfl) T.n_tuple (by decide +kernel) (pa_cons (pv 3) pa_nil)) rfl)
      (pss_one (ps_fld (pv 0) (pe_callTy (show CallR _ _ (rTupOf K) from call_tuple_of) (by rfl) T.n_tuple (by decide +kernel) (pa_cons (pv 4) pa_nil)) rfl))))), ?_⟩
    have put : ∀ {G : Hp} {f g : List (Str × V)}, G p = some (.ins A.C_Pattern dx f) → (∀ b o, b ≠ p → H b = some o → G b = some o) → ∀ b o, b ≠ p → H b = some o → upd G p (.ins A.C_Pattern dx g) b = some o := fun hg h b o hb e => by rw [upd_ne hb]; exact h b o hb e
    refine ⟨_, rfl, _, rfl, p, _, dx, [], rfl, hp, T.cl_Pattern, T.n_Pattern_kind, (by show 0 < 1000; decide), ?_⟩
    have hR := hR.updI (o := .ins A.C_Pattern dx (putF "kind" (.int k) [])) hp
    have hC := hC.updI (o := .ins A.C_Pattern dx (putF "kind" (.int k) [])) hp
    have k1 := put (g := putF "kind" (.int k) []) hp (fun b o _ e => e)
    have hp1 := upd_same (H := H) (a := p) (o := .ins A.C_Pattern dx (putF "kind" (.int k) []))
    generalize upd H p _ = H1 at hR hC k1 hp1 ⊢
    refine ⟨_, rfl, _, rfl, p, _, dx, _, rfl, hp1, T.cl_Pattern, T.n_Pattern_size, (by show 1 < 1000; decide), ?_⟩
    have hR := hR.updI (o := .ins A.C_Pattern dx (putF "size" (.int s) (putF "kind" (.int k) []))) hp1
    have hC := hC.updI (o := .ins A.C_Pattern dx (putF "size" (.int s) (putF "kind" (.int k) []))) hp1
    have k2 := put (g := putF "size" (.int s) (putF "kind" (.int k) [])) hp1 k1
    have hp2 := upd_same (H := H1) (a := p) (o := .ins A.C_Pattern dx (putF "size" (.int s) (putF "kind" (.int k) [])))
    generalize upd H1 p _ = H2 at hR hC k2 hp2 ⊢
    refine ⟨_, rfl, ?_⟩
    dsimp only [tNil]
    refine tupP (K := K) hR fun rt H3 s3 hrt => ?_
    have hp3 := s3 _ _ hp2
    have hC := hC.same s3
    refine ⟨_, rfl, p, _, dx, _, rfl, hp3, T.cl_Pattern, T.n_Pattern_rows, (by show 2 < 1000; decide), ?_⟩
    have hC := hC.updI (o := .ins A.C_Pattern dx (putF "rows" (.ref rt) (putF "size" (.int s) (putF "kind" (.int k) [])))) hp3
    have k3 := put (g := putF "rows" (.ref rt) (putF "size" (.int s) (putF "kind" (.int k) []))) hp3 (fun b o hb e => s3 _ _ (k2 b o hb e))
    have hp4 := upd_same (H := H3) (a := p) (o := .ins A.C_Pattern dx (putF "rows" (.ref rt) (putF "size" (.int s) (putF "kind" (.int k) []))))
    have hrt : upd H3 p (.ins A.C_Pattern dx (putF "rows" (.ref rt) (putF "size" (.int s) (putF "kind" (.int k) [])))) rt = some (.tup (ivs xs)) := by rw [upd_ne (fun z => by rw [z, hp3] at hrt; cases hrt)]; exact hrt
    generalize upd H3 p _ = H4 at hC k3 hp4 hrt ⊢
    refine ⟨_, rfl, ?_⟩
    dsimp only [tNil]
    refine tupP (K := K) hC fun ct H5 s5 hct => ?_
    have hp5 := s5 _ _ hp4
    have hrt := s5 _ _ hrt
    refine ⟨_, rfl, p, _, dx, _, rfl, hp5, T.cl_Pattern, T.n_Pattern_columns, (by show 3 < 1000; decide), ?_⟩
    have k5 := put (g := putF "columns" (.ref ct) (putF "rows" (.ref rt) (putF "size" (.int s) (putF "kind" (.int k) [])))) hp5 (fun b o hb e => s5 _ _ (k3 b o hb e))
    refine kk _ k5 ⟨dx, rt, ct, by rw [← fldsP_put]; exact upd_same, ?_, ?_⟩
    · rw [upd_ne (fun z => by rw [z, hp5] at hrt; cases hrt)]; exact hrt
    · rw [upd_ne (fun z => by rw [z, hp5] at hct; cases hct)]; exact hct
end
end My
set_option maxRecDepth 100000
set_option maxHeartbeats 4000000
set_option exponentiation.threshold 10000
namespace My
open PySem L2
open C8 (pss_cut)
def niv (l : List Nat) : List V := l.map fun n => V.int (n : Nat)
theorem niv_len (l : List Nat) : (niv l).length = l.length := List.length_map ..
theorem niv_get {l : List Nat} {i : Nat} {v : V} (h : (niv l)[i]? = some v) : ∃ n, l[i]? = some n ∧ v = .int (n : Nat) := by
  unfold niv at h
  rw [List.getElem?_map] at h
  cases e : l[i]? with
  | none => rw [e] at h; cases h
  | some n => rw [e] at h; exact ⟨n, rfl, (Option.some.inj h).symm⟩
theorem niv_ivs (l : List Nat) : niv l = ivs (l.map fun n => ((n : Nat) : Int)) := by unfold niv ivs; rw [List.map_map]; rfl
theorem bit_odd (m i : Nat) : (m : Int) / 2 ^ i = ((m / 2 ^ i : Nat) : Int) := by push_cast; rfl
theorem bit_dec (m i : Nat) : m.testBit i = decide (m / 2 ^ i % 2 = 1) := Nat.testBit_eq_decide_div_mod_eq
/-- the powers of two of the places where P holds -/
def pwl (P : Nat → Bool) (n : Nat) : List Int := ((List.range n).filter P).map fun p => (2 : Int) ^ p
theorem pwl_T {P : Nat → Bool} {n : Nat} (h : P n = true) : ivs (pwl P (n + 1)) = ivs (pwl P n) ++ [V.int (2 ^ n)] := by
  unfold pwl ivs
  rw [List.range_succ, List.filter_append, List.map_append, List.map_append, List.filter_cons_of_pos h]; rfl
theorem pwl_F {P : Nat → Bool} {n : Nat} (h : P n = false) : ivs (pwl P (n + 1)) = ivs (pwl P n) := by
  unfold pwl
  rw [List.range_succ, List.filter_append, List.filter_cons_of_neg (by rw [h]; decide)]; simp
theorem pwl_len (P : Nat → Bool) (n : Nat) : (ivs (pwl P n)).length ≤ n := by
  have := List.length_filter_le P (List.range n)
  rw [List.length_range] at this
  unfold pwl; rw [ivs_len, List.length_map]; exact this
theorem pwl_sum (P : Nat → Bool) (n : Nat) : (pwl P n).sum = ((bm P n : Nat) : Int) := by
  induction n with
  | zero => rfl
  | succ n ih =>
    have e : bm P (n + 1) = bm P n + if P n then 2 ^ n else 0 := rfl
    rw [e]
    unfold pwl at *
    rw [List.range_succ, List.filter_append, List.map_append, List.sum_append, ih]
    by_cases h : P n = true
    · rw [List.filter_cons_of_pos h, if_pos h]; simp
    · rw [List.filter_cons_of_neg (by simpa using h), if_neg h]; simp
/-- the mask of a row -/
def msk (cs S : List Str) : Nat := bm (fun i => decide (cs.getD i "" ∈ S)) cs.length
section
variable {P : Program} {w : World} {K : PySem.W.Frag} {mg : Str → Option Value} {base : Heap} {A : Ad}
def spMaskOf (K : PySem.W.Frag) : Sp := fun vs H Q _ => ∃ (n c : Addr) (cs S : List Str), vs = [.ref n, .ref c] ∧ SqT K H n (sv S) ∧ SqT K H c (sv cs) ∧ cs.length ≤ 12 ∧ ∀ H', Same H H' → Q (.int (msk cs S : Nat)) H'
theorem ok_maskOf (T : Txt P K mg A) : FnOk P w K mg base CX0 1 A.a_mask_of A.d_mask_of ["names", "columns"] (spMaskOf K) := by
  refine T.F_mask_of.ok sc_mask_of (fun vs H Q E h => ?_) (fun cdv A' outer s H vs Q E hr h => ?_)
  · obtain ⟨n, c, cs, S, rfl, _⟩ := h
    rfl
  · obtain ⟨n, c, cs, S, rfl, h1, h2, hl, k⟩ := h
    refine ⟨_, (pss_one (ps_ret (pe_callB (cr_sum rfl) (by rfl) T.n_sum (by decide +kernel) (pa_cons (pe_lc (own := [("number", 2), ("name", 3)]) (g := gTup K 2 (gCons (gName 2) (gCons (gName 3) gNil))) (tt := _) rfl sc_mask_of.nd (pi_enumT (by rfl) T.n_enumerate (pa_cons (pv 1) pa_nil)) (blkOk_by (N := ["names", "columns", "number", "name"]) (sc := defScope s_mask_of) (by decide +kernel)) (fun _ _ _ _ _ => (pg_tup (by rfl) (pgs_cons (pg_name (i := 2) sc_mask_of.nd rfl (Or.inl rfl)) (pgs_cons (pg_name (i := 3) sc_mask_of.nd rfl (Or.inl rfl)) pgs_nil)))) (fun _ _ _ _ _ => (pts_one (pt_cmpR (show OpR _ _ (rIn K false) from op_in_seq) (pv 3) (pv 0) (by with_unfolding_all rfl)))) (fun _ _ _ _ _ => (pe_op op_shlN pe_int (pv 2)))) pa_nil)))), ?_⟩
    refine ⟨_, rfl, c, _, rfl, h2, fun D hD => lc_it walk_enumT (PvS H D fun i => ivs (pwl (fun i => decide (cs.getD i "" ∈ S)) i)) (pv0 hD rfl) (fun i H2 _ p => p.1.tup h2) ?_ ?_⟩
    · rintro i x H3 H4 hi q ⟨t, _, _, rfl, ht, rfl, ⟨⟩, hx⟩
      obtain ⟨z, hz, rfl⟩ := sv_get hx
      have hi' : i < cs.length := by rw [len_sv] at hi; exact hi
      have q' := q.more (same_new (o := .tup [.int (i : Nat), .str z]) ht)
      have hb : cs.getD i "" = z := by rw [List.getD_eq_getElem?_getD, hz]; rfl
      have hl2 := pwl_len (fun i => decide (cs.getD i "" ∈ S)) i
      refine ⟨t, _, rfl, SqT.of upd_same, rfl, _, _, rfl, _, _, rfl, rfl, rfl, ?_⟩
      refine ⟨_, rfl, _, rfl, n, _, rfl, .inr (q'.1.tup h1), rfl, flat_sv _, _, rfl, ?_⟩
      rw [if_neg Bool.false_ne_true, inV_str]
      by_cases hm : z ∈ S
      · refine ifT (decide_eq_true hm) ⟨_, rfl, 1, i, rfl, rfl, ⟨by omega, ?_⟩, ?_⟩
        · have : Builtin.Int.intBits 1 ≤ 1 := PyProof.Rows.intBits_le (by decide)
          omega
        · rw [Int.one_mul]; exact q'.push hD (pwl_T (by rw [hb]; exact decide_eq_true hm)) (by omega)
      · exact ifF (decide_eq_false hm) (q'.skip (pwl_F (by rw [hb]; exact decide_eq_false hm)))
    · rintro H3 ⟨sm, h3⟩
      have h3 : H3 D = some (.lst (ivs (pwl (fun i => decide (cs.getD i "" ∈ S)) (sv cs).length))) := h3
      rw [len_sv] at h3
      refine ⟨D, _, rfl, SqL.of h3, ?_⟩
      rw [pwl_sum]
      exact k H3 sm
def spSeen (K : PySem.W.Frag) : Sp := fun vs H Q _ => ∃ (m : Nat) (l : Addr) (ch : List Nat), vs = [.int (m : Nat), .ref l] ∧ SqL K H l (niv ch) ∧ ch.length ≤ 12 ∧ ∀ H', Same H H' → Q (.int (seeM m ch : Nat)) H'
theorem ok_seen (T : Txt P K mg A) : FnOk P w K mg base CX0 1 A.a_seen A.d_seen ["mask", "chosen"] (spSeen K) := by
  refine T.F_seen.ok sc_seen (fun vs H Q E h => ?_) (fun cdv A' outer s H vs Q E hr h => ?_)
  · obtain ⟨m, l, ch, rfl, _⟩ := h
    rfl
  · obtain ⟨m, l, ch, rfl, h1, hl, k⟩ := h
    refine ⟨_, (pss_one (ps_ret (pe_callB (cr_sum rfl) (by rfl) T.n_sum (by decide +kernel) (pa_cons (pe_lc (own := [("place", 2), ("column", 3)]) (g := gTup K 2 (gCons (gName 2) (gCons (gName 3) gNil))) (tt := _) rfl sc_seen.nd (pi_enum (by rfl) T.n_enumerate (pa_cons (pv 1) pa_nil)) (blkOk_by (N := ["mask", "chosen", "place", "column"]) (sc := defScope s_seen) (by decide +kernel)) (fun _ _ _ _ _ => (pg_tup (by rfl) (pgs_cons (pg_name (i := 2) sc_seen.nd rfl (Or.inl rfl)) (pgs_cons (pg_name (i := 3) sc_seen.nd rfl (Or.inl rfl)) pgs_nil)))) (fun _ _ _ _ _ => (pts_one (show PT _ _ (tTruK K _) from pt_truth (pe_op op_odd (pe_op op_shrN (pv 0) (pv 3)) pe_int) (by intro _; rfl)))) (fun _ _ _ _ _ => (pe_op op_shlN pe_int (pv 2)))) pa_nil)))), ?_⟩
    refine ⟨_, rfl, l, _, rfl, h1, fun D hD => lc_it walk_enum (PvS H D fun i => ivs (pwl (fun p => m.testBit (ch.getD p 0)) i)) (pv0 hD rfl) (fun i H2 _ p => p.1.seq h1) ?_ ?_⟩
    · rintro i x H3 H4 hi q ⟨t, _, _, rfl, ht, rfl, ⟨⟩, hx⟩
      obtain ⟨c, hc, rfl⟩ := niv_get hx
      have hi' : i < ch.length := by rw [niv_len] at hi; exact hi
      have q' := q.more (same_new (o := .tup [.int (i : Nat), .int (c : Nat)]) ht)
      have hb : ch.getD i 0 = c := by rw [List.getD_eq_getElem?_getD, hc]; rfl
      have hl2 := pwl_len (fun p => m.testBit (ch.getD p 0)) i
      refine ⟨t, _, rfl, SqT.of upd_same, rfl, _, _, rfl, _, _, rfl, rfl, rfl, ?_⟩
      refine ⟨_, rfl, _, rfl, _, c, rfl, rfl, m / 2 ^ c, by rw [bit_odd], rfl, ?_⟩
      by_cases h : m / 2 ^ c % 2 = 1
      · rw [h]
        refine ⟨_, rfl, ifT rfl ⟨_, rfl, 1, i, rfl, rfl, ⟨by omega, ?_⟩, ?_⟩⟩
        · have : Builtin.Int.intBits 1 ≤ 1 := PyProof.Rows.intBits_le (by decide)
          omega
        · rw [Int.one_mul]; exact q'.push hD (pwl_T (by rw [hb, bit_dec]; exact decide_eq_true h)) (by omega)
      · have h0 : m / 2 ^ c % 2 = 0 := by omega
        rw [h0]
        exact ⟨_, rfl, ifF rfl (q'.skip (pwl_F (by rw [hb, bit_dec]; exact decide_eq_false h)))⟩
    · rintro H3 ⟨sm, h3⟩
      have h3 : H3 D = some (.lst (ivs (pwl (fun p => m.testBit (ch.getD p 0)) (niv ch).length))) := h3
      rw [niv_len] at h3
      refine ⟨D, _, rfl, SqL.of h3, ?_⟩
      rw [pwl_sum]
      exact k H3 sm
end
end My
set_option maxRecDepth 100000
set_option maxHeartbeats 4000000
set_option exponentiation.threshold 10000
namespace My
open PySem L2
open C8 (pss_cut)
abbrev nsc_sizes : Scope := { kind := ScopeKind.function, names := [(".0", NameKind.local), ("mask", NameKind.cell), ("len", NameKind.globalImplicit), ("range", NameKind.globalImplicit), ("width", NameKind.cell)], isGenerator := false, isCoroutine := false }
theorem sorted_eq {a b : List Int} (ha : a.Pairwise (· ≤ ·)) (hb : b.Pairwise (· ≤ ·)) : a = b ↔ a.Perm b :=
  ⟨fun e => e ▸ List.Perm.refl _, fun p => List.Perm.eq_of_pairwise (fun x y _ _ h1 h2 => by omega) ha hb p⟩
theorem perm_natI {a b : List Nat} : (a.map fun n => ((n : Nat) : Int)).Perm (b.map fun n => ((n : Nat) : Int)) ↔ a.Perm b := by
  constructor
  · intro h
    have := h.map Int.toNat
    rw [List.map_map, List.map_map] at this
    have e : (Int.toNat ∘ fun n : Nat => ((n : Nat) : Int)) = id := funext fun n => Int.toNat_natCast n
    rw [e, List.map_id, List.map_id] at this
    exact this
  · intro h; exact h.map _
section
variable {P : Program} {w : World} {K : PySem.W.Frag} {mg : Str → Option Value} {base : Heap} {A : Ad}
def spFits (K : PySem.W.Frag) : Sp := fun vs H Q _ => ∃ (a b c : Addr) (W M ch : List Nat), vs = [.ref a, .ref b, .ref c] ∧ SqL K H a (niv W) ∧ SqL K H b (niv M) ∧ SqL K H c (niv ch) ∧ W.length ≤ 60 ∧ M.length ≤ 60 ∧ ch.length ≤ 12 ∧ ∀ H', Same H H' → Q (.bl (fitsB W M ch)) H'
theorem ok_fits (T : Txt P K mg A) : FnOk P w K mg base CX0 2 A.a_fits A.d_fits ["wanted", "masks", "chosen"] (spFits K) := by
  have G_seen := ok_seen (P := P) (w := w) (base := base) T
  refine T.F_fits.ok sc_fits (fun vs H Q E h => ?_) (fun cdv A' outer s H vs Q E hr h => ?_)
  · obtain ⟨a, b, c, W, M, ch, rfl, _⟩ := h
    rfl
  · obtain ⟨a, b, c, W, M, ch, rfl, ha, hb, hc, wl, ml, cl, kk⟩ := h
    refine ⟨_, (pss_cons (ps_set (i := 3) sc_fits.nd rfl (Or.inr rfl) (pe_op op_sub (pe_op op_shlN pe_int (pe_callB call_len_seq (by rfl) T.n_len (by decide +kernel) (pa_cons (pv 2) pa_nil))) pe_int))
      (pss_one (ps_ret (pe_cmpR (op_eqD hr.units) (pe_callB cr_sortedI (by rfl) T.n_sorted (by decide +kernel) (pa_cons (pe_lc (own := [("mask", 4)]) (g := gName 4) (tt := tYes) rfl sc_fits.nd (pi_list (pv 0)) (blkOk_by (N := ["wanted", "masks", "chosen", "low", "mask"]) (sc := defScope s_fits) (by decide +kernel)) (fun _ _ _ _ _ => (pg_name (i := 4) sc_fits.nd rfl (Or.inl rfl))) (fun _ _ _ _ _ => pts_nil) (fun _ _ _ _ _ => (pe_op op_andM (pv 4) (pv 3)))) pa_nil)) (pe_callB cr_sortedI (by rfl) T.n_sorted (by decide +kernel) (pa_cons (pe_lc (own := [("mask", 4)]) (g := gName 4) (tt := tYes) rfl sc_fits.nd (pi_list (pv 1)) (blkOk_by (N := ["wanted", "masks", "chosen", "low", "mask"]) (sc := defScope s_fits) (by decide +kernel)) (fun _ _ _ _ _ => (pg_name (i := 4) sc_fits.nd rfl (Or.inl rfl))) (fun _ _ _ _ _ => pts_nil) (fun _ _ _ _ _ => (pe_call G_seen (hr.mono (by decide)) rfl T.mg_seen T.F_seen.kp T.b_seen .nil pass0 (pa_cons (pv 4) (pa_cons (pv 2) pa_nil))))) pa_nil)) (nomark _))))), ?_⟩
    have one : Builtin.Int.intBits 1 ≤ 1 := PyProof.Rows.intBits_le (by decide)
    refine ⟨_, rfl, c, _, rfl, .inl hc, 1, (niv ch).length, rfl, rfl, ⟨by omega, by rw [niv_len]; omega⟩, _, _, rfl, rfl, ?_⟩
    refine ⟨_, rfl, a, rfl, ⟨_, ha⟩, fun D nD => lc_it walk_list (PvS H D fun i => niv ((W.take i).map (· % 2 ^ ch.length))) (pv0 nD rfl) (fun i H2 _ q => q.1.seq ha) ?_ ?_⟩
    · rintro i x H3 H4 hi q ⟨rfl, hx⟩
      obtain ⟨z, hz, rfl⟩ := niv_get hx
      refine ⟨rfl, _, rfl, _, rfl, ((z : Nat) : Int), (niv ch).length, rfl, by rw [Int.one_mul], ?_⟩
      have e : ((z : Nat) : Int) % 2 ^ (niv ch).length = ((z % 2 ^ ch.length : Nat) : Int) := by rw [niv_len]; push_cast; rfl
      rw [e]
      refine q.push nD ?_ ?_
      · show niv ((W.take (i + 1)).map (· % 2 ^ ch.length)) = _
        rw [take_succ hz, List.map_append]; unfold niv; rw [List.map_append]; rfl
      · show (niv ((W.take i).map (· % 2 ^ ch.length))).length ≤ 1000000
        rw [niv_len, List.length_map, List.length_take]; omega
    rintro H1 ⟨s1, h1⟩
    have h1 : H1 D = some (.lst (niv ((W.take (niv W).length).map (· % 2 ^ ch.length)))) := h1
    rw [niv_len, List.take_length, niv_ivs] at h1
    refine ⟨D, _, rfl, SqL.of h1, fun ns1 p1 hp1 ho1 np1 => ?_⟩
    generalize hG : upd H1 p1 _ = H2
    have q2 : Same H1 H2 := hG ▸ same_new np1
    have x2 := (congrFun hG p1).symm.trans upd_same
    clear hG
    have s2 := s1.trans q2
    refine ⟨_, rfl, b, rfl, ⟨_, s2.seq hb⟩, fun D2 nD2 => lc_it walk_list (PvS H2 D2 fun i => niv ((M.take i).map (seeM · ch))) (pv0 nD2 rfl) (fun i H2 _ q => (s2.trans q.1).seq hb) ?_ ?_⟩
    · rintro i x H3 H4 hi q ⟨rfl, hx⟩
      obtain ⟨z, hz, rfl⟩ := niv_get hx
      refine ⟨rfl, _, rfl, _, rfl, z, c, ch, rfl, (s2.trans q.1).seq hc, cl, fun H5 s5 => ?_⟩
      refine (q.more s5).push nD2 ?_ ?_
      · show niv ((M.take (i + 1)).map (seeM · ch)) = _
        rw [take_succ hz, List.map_append]; unfold niv; rw [List.map_append]; rfl
      · show (niv ((M.take i).map (seeM · ch))).length ≤ 1000000
        rw [niv_len, List.length_map, List.length_take]; omega
    rintro H3 ⟨s3, h3⟩
    have h3 : H3 D2 = some (.lst (niv ((M.take (niv M).length).map (seeM · ch)))) := h3
    rw [niv_len, List.take_length, niv_ivs] at h3
    refine ⟨D2, _, rfl, SqL.of h3, fun ns2 p2 hp2 ho2 np2 => ?_⟩
    generalize hG : upd H3 p2 _ = H4
    have q4 : Same H3 H4 := hG ▸ same_new np2
    have x4 := (congrFun hG p2).symm.trans upd_same
    clear hG
    refine ⟨.list (pdi ns1), .list (pdi ns2), .lst (SqL.of ((s3.trans q4) _ _ x2)) (dp_ivs _), .lst (SqL.of x4) (dp_ivs _), sh_pdi _, sh_pdi _, ?_⟩
    rw [eqv_LI]
    have e : decide (ns1 = ns2) = fitsB W M ch := by
      rw [Bool.eq_iff_iff, decide_eq_true_iff, fits_iff, sorted_eq ho1 ho2]
      constructor
      · intro h; exact perm_natI.mp (hp1.symm.trans (h.trans hp2))
      · intro h; exact hp1.trans ((perm_natI.mpr h).trans hp2.symm)
    rw [e]
    exact kk _ (s2.trans (s3.trans q4))
def spSizes (K : PySem.W.Frag) : Sp := fun vs H Q _ => ∃ (a : Addr) (M : List Nat) (wd : Nat), vs = [.ref a, .int (wd : Nat)] ∧ SqL K H a (niv M) ∧ M.length ≤ 60 ∧ wd ≤ 12 ∧ ∀ D ns H', Same H H' → H' D = some (.lst (ivs ns)) → ns.Perm ((M.map (pcM · wd)).map fun n => ((n : Nat) : Int)) → ns.Pairwise (· ≤ ·) → Q (.ref D) H'
theorem ok_sizes (T : Txt P K mg A) : FnOk P w K mg base CX0 1 A.a_sizes A.d_sizes ["masks", "width"] (spSizes K) := by
  refine T.F_sizes.ok sc_sizes (fun vs H Q E h => ?_) (fun cdv A' outer s H vs Q E hr h => ?_)
  · obtain ⟨a, M, wd, rfl, _⟩ := h
    rfl
  · obtain ⟨a, M, wd, rfl, ha, ml, wl, kk⟩ := h
    refine ⟨_, (pss_one (ps_ret (pe_callB cr_sortedI (by rfl) T.n_sorted (by decide +kernel) (pa_cons (pe_lc (own := [("mask", 2)]) (g := gName 2) (tt := tYes) rfl sc_sizes.nd (pi_list (pv 0)) (blkOk_by (N := ["masks", "width", "mask", "place"]) (sc := defScope s_sizes) (by decide +kernel)) (fun _ _ _ _ _ => (pg_name (i := 2) sc_sizes.nd rfl (Or.inr rfl))) (fun _ _ _ _ _ => pts_nil) (fun _ _ _ _ _ => (pe_callB (show CallR _ _ (rLen2 K) from call_len_seq) (by rfl) T.n_len (by decide +kernel) (pa_cons (pe_lc (own := [("place", 3)]) (g := gName 3) (tt := _) rfl sc_sizes.nd (pi_range1 (by rfl) T.n_range (pa_cons (pv 1) pa_nil)) (blkOk_by (N := ["masks", "width", "mask", "place"]) (sc := nsc_sizes) (by decide +kernel)) (fun _ _ _ _ _ => (pg_name (i := 3) sc_sizes.nd rfl (Or.inl rfl))) (fun _ _ _ _ _ => (pts_one (show PT _ _ (tTruK K _) from pt_truth (pe_op op_odd (pe_op op_shrN (pv 2) (pv 3)) pe_int) (by intro _; rfl)))) (fun _ _ _ _ _ => (pv 3))) pa_nil)))) pa_nil)))), ?_⟩
    refine ⟨_, rfl, a, rfl, ⟨_, ha⟩, fun D nD => lc_it walk_list (PvS H D fun i => niv ((M.take i).map (pcM · wd))) (pv0 nD rfl) (fun i H2 _ q => q.1.seq ha) ?_ ?_⟩
    · rintro i x H3 H4 hi q ⟨rfl, hx⟩
      obtain ⟨m, hm, rfl⟩ := niv_get hx
      refine ⟨rfl, _, rfl, _, rfl, by omega, by omega, fun D2 nD2 => lc_it walk_range (PvS H4 D2 fun p => niv ((List.range p).filter fun i => m.testBit i)) (pv0 nD2 rfl) (fun _ _ _ _ => trivial) ?_ ?_⟩
      · rintro p x H5 H6 hp q2 ⟨rfl, rfl⟩
        rw [Int.toNat_natCast] at hp
        have hl : (niv ((List.range p).filter fun i => m.testBit i)).length ≤ 1000000 := by
          have := List.length_filter_le (fun i => m.testBit i) (List.range p)
          rw [List.length_range] at this
          rw [niv_len]; omega
        refine ⟨rfl, _, rfl, _, rfl, _, p, rfl, by show V.int (0 + ((p : Nat) : Int)) = _; rw [Int.zero_add], m / 2 ^ p, by rw [bit_odd], rfl, ?_⟩
        by_cases h : m / 2 ^ p % 2 = 1
        · rw [h]
          refine ⟨_, rfl, ifT rfl ⟨_, rfl, q2.push nD2 ?_ hl⟩⟩
          show niv ((List.range (p + 1)).filter fun i => m.testBit i) = _
          rw [List.range_succ, List.filter_append, List.filter_cons_of_pos (by rw [bit_dec]; exact decide_eq_true h)]
          unfold niv
          rw [List.map_append]
          show _ = _ ++ [V.int (0 + ((p : Nat) : Int))]
          rw [Int.zero_add]; rfl
        · have h0 : m / 2 ^ p % 2 = 0 := by omega
          rw [h0]
          refine ⟨_, rfl, ifF rfl (q2.skip ?_)⟩
          show niv ((List.range (p + 1)).filter fun i => m.testBit i) = _
          rw [List.range_succ, List.filter_append, List.filter_cons_of_neg (by rw [bit_dec, decide_eq_false h]; exact Bool.false_ne_true)]; simp
      rintro H5 ⟨s5, h5⟩
      have h5 : H5 D2 = some (.lst (niv ((List.range (((wd : Nat) : Int).toNat)).filter fun i => m.testBit i))) := h5
      rw [Int.toNat_natCast] at h5
      refine ⟨D2, _, rfl, .inl (SqL.of h5), ?_⟩
      rw [niv_len]
      refine (q.more s5).push nD ?_ ?_
      · show niv ((M.take (i + 1)).map (pcM · wd)) = _
        rw [take_succ hm, List.map_append]; unfold niv; rw [List.map_append]; rfl
      · show (niv ((M.take i).map (pcM · wd))).length ≤ 1000000
        rw [niv_len, List.length_map, List.length_take]; omega
    rintro H1 ⟨s1, h1⟩
    have h1 : H1 D = some (.lst (niv ((M.take (niv M).length).map (pcM · wd)))) := h1
    rw [niv_len, List.take_length, niv_ivs] at h1
    refine ⟨D, _, rfl, SqL.of h1, fun ns1 p1 hp1 ho1 np1 => ?_⟩
    exact kk p1 ns1 _ (s1.trans (same_new np1)) upd_same hp1 ho1
end
end My
set_option maxRecDepth 100000
set_option maxHeartbeats 4000000
set_option exponentiation.threshold 10000
namespace My
open PySem L2
open C8 (pss_cut)
/-- what a column at this place leads to -/
def candB (W M : List Nat) (width f : Nat) (ch : List Nat) (c : Nat) : Option (List Nat) := if decide (c ∉ ch) && fitsB W M (ch ++ [c]) then extB W M width f (ch ++ [c]) else none
theorem ext_some {W M : List Nat} {width f : Nat} {ch r : List Nat} {i : Nat} (hi : i < width) (hb : ∀ c, c < i → candB W M width f ch c = none) (h : candB W M width f ch i = some r) : extB W M width (f + 1) ch = some r := by
  show (List.range width).findSome? (candB W M width f ch) = some r
  have e : List.range width = List.range i ++ i :: (List.range (width - i - 1)).map (· + (i + 1)) := by
    refine List.ext_getElem? fun n => ?_
    by_cases h1 : n < i
    · rw [List.getElem?_range (by omega), List.getElem?_append_left (by rw [List.length_range]; exact h1), List.getElem?_range h1]
    · rw [List.getElem?_append_right (by rw [List.length_range]; omega), List.length_range]
      by_cases h2 : n < width
      · rw [List.getElem?_range h2]
        cases hn : n - i with
        | zero => simp; omega
        | succ m => rw [List.getElem?_cons_succ, List.getElem?_map, List.getElem?_range (by omega)]; simp; omega
      · rw [List.getElem?_eq_none (by rw [List.length_range]; omega), List.getElem?_eq_none (by rw [List.length_cons, List.length_map, List.length_range]; omega)]
  rw [e, List.findSome?_append]
  have n : (List.range i).findSome? (candB W M width f ch) = none := List.findSome?_eq_none_iff.mpr fun c hc => hb c (List.mem_range.mp hc)
  rw [n]
  show (i :: _).findSome? (candB W M width f ch) = some r
  rw [List.findSome?_cons, h]
theorem ext_none {W M : List Nat} {width f : Nat} {ch : List Nat} (hb : ∀ c, c < width → candB W M width f ch c = none) : extB W M width (f + 1) ch = none :=
  List.findSome?_eq_none_iff.mpr fun c hc => hb c (List.mem_range.mp hc)
theorem flat_niv (l : List Nat) : (niv l).all flatV = true := by rw [niv_ivs]; exact flat_iv _
theorem inV_niv (i : Nat) (l : List Nat) : inV (.int ((i : Nat) : Int)) (niv l) = decide (i ∈ l) := by
  rw [niv_ivs, inV_int]
  refine decide_eq_decide.mpr ⟨fun h => ?_, fun h => List.mem_map.mpr ⟨i, h, rfl⟩⟩
  obtain ⟨n, hn, e⟩ := List.mem_map.mp h
  rw [show i = n by omega]; exact hn
section
variable {P : Program} {w : World} {K : PySem.W.Frag} {mg : Str → Option Value} {base : Heap} {A : Ad}
def spExt (K : PySem.W.Frag) (f : Nat) : Sp := fun vs H Q _ => ∃ (a b c : Addr) (wd : Nat) (W M ch : List Nat), vs = [.ref a, .ref b, .int (wd : Nat), .ref c] ∧ SqL K H a (niv W) ∧ SqL K H b (niv M) ∧ H c = some (.lst (niv ch)) ∧ W.length ≤ 60 ∧ M.length ≤ 60 ∧ wd ≤ 12 ∧ ch.length + f = wd ∧
  (∀ r q H', Same H H' → extB W M wd f ch = some r → H' q = some (.lst (niv r)) → Q (.ref q) H') ∧ (extB W M wd f ch = none → ∀ H', Same H H' → Q .non H')
theorem ext_len4 {K : PySem.W.Frag} {n : Nat} {vs : List V} {H : Hp} {Q : VK} {E : XK} (h : spExt K n vs H Q E) : vs.length = 4 := by
  obtain ⟨a, b, c, wd, W, M, ch, rfl, _⟩ := h
  rfl
theorem ok_ext (T : Txt P K mg A) : ∀ f, FnOk P w K mg base CX0 (f + 4) A.a_extended A.d_extended ["wanted", "masks", "width", "chosen"] (spExt K f)
  | 0 => by
    refine T.F_extended.ok sc_extended (fun vs H Q E h => ext_len4 h) (fun cdv A' outer s H vs Q E hr h => ?_)
    obtain ⟨a, b, c, wd, W, M, ch, rfl, ha, hb, hc, wl, ml, hw, hl, kq, kn⟩ := h
    refine ⟨_, (pss_cons (ps_if (pt_cmpR op_eq (pe_callB call_len_seq (by rfl) T.n_len (by decide +kernel) (pa_cons (pv 3) pa_nil)) (pv 2) (nomark _)) (pss_one (ps_ret (pv 3))) pss_nil)
      (pss_cons ps_never (pss_one ps_never))), ?_⟩
    refine ⟨_, rfl, c, _, rfl, .inl (SqL.of hc), _, rfl, rfl, _, rfl, ifT (decide_eq_true (by rw [niv_len, ← hl]; rfl)) ⟨_, rfl, kq ch c H (Same.refl _) rfl hc⟩⟩
  | f + 1 => by
    have G_extended := ok_ext T f
    have G_fits := ok_fits (P := P) (w := w) (base := base) T
    refine T.F_extended.ok sc_extended (fun vs H Q E h => ext_len4 h) (fun cdv A' outer s H vs Q E hr h => ?_)
    obtain ⟨a, b, c, wd, W, M, ch, rfl, ha, hb, hc, wl, ml, hw, hl, kq, kn⟩ := h
    refine ⟨_, (pss_cons (ps_if (pt_cmpR op_eq (pe_callB call_len_seq (by rfl) T.n_len (by decide +kernel) (pa_cons (pv 3) pa_nil)) (pv 2) (nomark _)) (pss_one (ps_ret (pv 3))) pss_nil)
      (pss_cons (ps_for PassesOwn.never rfl (pi_range1 (by rfl) T.n_range (pa_cons (pv 2) pa_nil)) (pg_name (i := 4) sc_extended.nd rfl (Or.inl rfl))
        (pss_cons (ps_set (i := 5) sc_extended.nd rfl (Or.inl rfl) (pe_lst (StX.pa_star (pv 3) (pa_cons (pv 4) pa_nil))))
      (pss_one (ps_if (PW.pt (pw_and (pt_cmpR op_notIn_seq (pv 4) (pv 3) (by with_unfolding_all rfl)) (pw_and1 (pt_val (pe_call G_fits (hr.mono (by omega)) rfl T.mg_fits T.F_fits.kp T.b_fits .nil pass0 (pa_cons (pv 0) (pa_cons (pv 1) (pa_cons (pv 5) pa_nil)))))))) (pss_cons (ps_set (i := 6) sc_extended.nd rfl (Or.inl rfl) (pe_call G_extended (hr.mono (by omega)) rfl T.mg_extended T.F_extended.kp T.b_extended .nil pass0 (pa_cons (pv 0) (pa_cons (pv 1) (pa_cons (pv 2) (pa_cons (pv 5) pa_nil))))))
      (pss_one (ps_if (pt_cmpR op_notN (pv 6) pe_non (nomark _)) (pss_one (ps_ret (pv 6))) pss_nil))) pss_nil))))
      (pss_one (ps_ret pe_non)))), ?_⟩
    refine ⟨_, rfl, c, _, rfl, .inl (SqL.of hc), _, rfl, rfl, _, rfl, ifF (decide_eq_false fun z => by have := V.int.inj z; rw [niv_len] at this; omega) ?_⟩
    refine ⟨_, rfl, _, rfl, by omega, by omega, ?_⟩
    refine for_range (n := ((wd : Nat) : Int).toNat) (fun i σ G => Same H G ∧ (∀ x, x < i → candB W M wd f ch x = none) ∧ ∃ u4 u5 u6 : Option V, σ = [some (.ref a), some (.ref b), some (.int (wd : Nat)), some (.ref c), u4, u5, u6]) ⟨Same.refl _, fun x hx => absurd hx (Nat.not_lt_zero _), _, _, _, rfl⟩ ?_ ?_
    · rintro i σ G hi ⟨sG, hbn, u4, u5, u6, rfl⟩
      rw [Int.toNat_natCast] at hi
      refine ⟨_, rfl, c, _, rfl, .inr (SqL.of (sG _ _ hc)), _, rfl, by rw [List.length_append, niv_len]; show ch.length + 1 ≤ sizeLine; exact Nat.le_trans (show ch.length + 1 ≤ 13 by omega) (by decide), fun l nl => ?_⟩
      generalize hG : upd G l _ = G1
      have q1 : Same G G1 := hG ▸ same_new nl
      have x1 := (congrFun hG l).symm.trans upd_same
      clear hG
      have x1 : G1 l = some (.lst (niv ch ++ [V.int (0 + ((i : Nat) : Int))])) := x1
      rw [Int.zero_add] at x1
      have x1 : G1 l = some (.lst (niv (ch ++ [i]))) := by rw [x1]; unfold niv; rw [List.map_append]; rfl
      have s1 := sG.trans q1
      refine ⟨_, rfl, _, rfl, c, _, rfl, .inl (SqL.of (s1 _ _ hc)), rfl, flat_niv _, _, rfl, ?_⟩
      rw [if_pos (rfl : true = true), Int.zero_add, inV_niv]
      have more : candB W M wd f ch i = none → ∀ x, x < i + 1 → candB W M wd f ch x = none := fun h x hx => by
        rcases Nat.lt_succ_iff_lt_or_eq.mp hx with q | q
        · exact hbn x q
        · rw [q]; exact h
      by_cases hm : i ∈ ch
      · refine ifF (by rw [decide_eq_true hm]; rfl) (ifF rfl ⟨s1, more ?_, _, _, _, rfl⟩)
        unfold candB
        rw [decide_eq_false (fun h => h hm)]; rfl
      · refine ifT (by rw [decide_eq_false hm]; rfl) ⟨_, rfl, _, rfl, _, rfl, a, b, l, W, M, ch ++ [i], rfl, s1.seq ha, s1.seq hb, SqL.of x1, wl, ml, by rw [List.length_append]; show ch.length + 1 ≤ 12; omega, fun G2 s2 => ⟨_, rfl, ?_⟩⟩
        have s12 := s1.trans s2
        cases hf : fitsB W M (ch ++ [i]) with
        | false =>
          refine ifF rfl ⟨s12, more ?_, _, _, _, rfl⟩
          unfold candB
          rw [hf, Bool.and_false]; rfl
        | true =>
          have ec : candB W M wd f ch i = extB W M wd f (ch ++ [i]) := by
            unfold candB
            rw [hf, decide_eq_true hm]; rfl
          refine ifT rfl ⟨_, rfl, _, rfl, _, rfl, _, rfl, a, b, l, wd, W, M, ch ++ [i], rfl, s12.seq ha, s12.seq hb, s2 _ _ x1, wl, ml, hw, by rw [List.length_append]; show ch.length + 1 + f = wd; omega, fun r q G3 s3 hr3 hq => ?_, fun hn G3 s3 => ?_⟩
          · exact ⟨_, rfl, rfl, _, rfl, ifT rfl ⟨_, rfl, kq r q G3 (s12.trans s3) (ext_some hi hbn (by rw [ec]; exact hr3)) hq⟩⟩
          · exact ⟨_, rfl, rfl, _, rfl, itNe rfl ⟨s12.trans s3, more (by rw [ec]; exact hn), _, _, _, rfl⟩⟩
    · rintro σ G ⟨sG, hbn, u4, u5, u6, rfl⟩
      rw [Int.toNat_natCast] at hbn
      exact kn (ext_none hbn) G sG
end
end My
set_option maxRecDepth 100000
set_option maxHeartbeats 4000000
set_option exponentiation.threshold 10000
namespace My
open PySem L2
open C8 (pss_cut)
abbrev nsc_matching : Scope := { kind := ScopeKind.function, names := [(".0", NameKind.local), ("row", NameKind.local), ("sum", NameKind.globalImplicit)], isGenerator := false, isCoroutine := false }
/-- the mask of a row of places -/
def wantN (row : List Int) : Nat := (row.map fun j => 2 ^ j.toNat).sum
theorem want_sum (row : List Int) : (row.map fun j => (2 : Int) ^ j.toNat).sum = ((wantN row : Nat) : Int) := by
  unfold wantN
  induction row with
  | nil => rfl
  | cons a t ih => rw [List.map_cons, List.sum_cons, ih, List.map_cons, List.sum_cons]; push_cast; rfl
section
variable {P : Program} {w : World} {K : PySem.W.Frag} {mg : Str → Option Value} {base : Heap} {A : Ad}
def spMatch (K : PySem.W.Frag) : Sp := fun vs H Q _ => ∃ (r m : Addr) (wd : Nat) (ts : List Addr) (R : List (List Int)) (M : List Nat), vs = [.ref r, .ref m, .int (wd : Nat)] ∧ SqL K H r (ts.map V.ref) ∧ Lz (SqT K) H ts R ∧ SqL K H m (niv M) ∧ R.length ≤ 60 ∧ M.length ≤ 60 ∧ 0 < wd ∧ wd ≤ 12 ∧ (∀ row ∈ R, row.length ≤ 20 ∧ (∀ j ∈ row, 0 ≤ j ∧ j < 20) ∧ wantN row < 2 ^ wd) ∧
  (∀ ns cols q a b H', Same H H' → matchB (R.map wantN) M wd = some (ns, cols) → H' q = some (.tup [.ref a, .ref b]) → H' a = some (.lst (niv ns)) → H' b = some (.lst (niv cols)) → Q (.ref q) H') ∧ (matchB (R.map wantN) M wd = none → ∀ H', Same H H' → Q .non H')
theorem ok_match (T : Txt P K mg A) : FnOk P w K mg base CX0 18 A.a_matching A.d_matching ["rows", "masks", "width"] (spMatch K) := by
  refine T.F_matching.ok sc_matching (fun vs H Q E h => ?_) (fun cdv A' outer s H vs Q E hr h => ?_)
  · obtain ⟨r, m, wd, ts, R, M, rfl, _⟩ := h
    rfl
  · obtain ⟨r, m, wd, ts, R, M, rfl, hR, hts, hM, rl, ml, w0, wl, hrow, kq, kn⟩ := h
    have G_sizes := ok_sizes (P := P) (w := w) (base := base) T
    have G_seen := ok_seen (P := P) (w := w) (base := base) T
    have G_extended := (ok_ext (P := P) (w := w) (base := base) T wd).mono (show wd + 4 ≤ 16 by omega)
    refine ⟨_, (pss_cons (ps_setLc (i := 3) (own := [("row", 6)]) (g := gName 6) (tt := tYes) rfl sc_matching.nd rfl rfl (sw_true rfl rfl rfl (by decide +kernel)) (pi_list (pv 0)) (blkOk_by (N := ["rows", "masks", "width", "wanted", "columns", "seen", "row", "mask", "place"]) (sc := defScope s_matching) (by decide +kernel)) (fun _ _ _ _ _ => (pg_name (i := 6) sc_matching.nd rfl (Or.inl rfl))) (fun _ _ _ _ _ => pts_nil) (fun _ _ _ _ _ => (pe_callB (show CallR _ _ (rSum K) from cr_sum rfl) (by rfl) T.n_sum (by decide +kernel) (pa_cons (pe_lc (own := [("place", 8)]) (g := gName 8) (tt := tYes) rfl sc_matching.nd (show PI _ _ _ (iTup K _) from (pi_tup (pv 6))) (blkOk_by (N := ["rows", "masks", "width", "wanted", "columns", "seen", "row", "mask", "place"]) (sc := nsc_matching) (by decide +kernel)) (fun _ _ _ _ _ => (pg_name (i := 8) sc_matching.nd rfl (Or.inl rfl))) (fun _ _ _ _ _ => pts_nil) (fun _ _ _ _ _ => (pe_op op_shlN pe_int (pv 8)))) pa_nil))))
      (pss_cons (ps_if (pt_cmpR (op_neD hr.units) (pe_call G_sizes (hr.mono (by decide)) rfl T.mg_sizes T.F_sizes.kp T.b_sizes .nil pass0 (pa_cons (pv 3) (pa_cons (pv 2) pa_nil))) (pe_call G_sizes (hr.mono (by decide)) rfl T.mg_sizes T.F_sizes.kp T.b_sizes .nil pass0 (pa_cons (pv 1) (pa_cons (pv 2) pa_nil))) (nomark _)) (pss_one (ps_ret pe_non)) pss_nil)
      (pss_cons (ps_set (i := 4) sc_matching.nd rfl (Or.inr rfl) (pe_call G_extended (hr.mono (by decide)) rfl T.mg_extended T.F_extended.kp T.b_extended .nil pass0 (pa_cons (pv 3) (pa_cons (pv 1) (pa_cons (pv 2) (pa_cons (pe_lst pa_nil) pa_nil))))))
      (pss_cons (ps_if (pt_cmpR op_isN (pv 4) pe_non (nomark _)) (pss_one (ps_ret pe_non)) pss_nil)
      (pss_cons (ps_set (i := 5) sc_matching.nd rfl (Or.inr rfl) (pe_lc (own := [("mask", 7)]) (g := gName 7) (tt := tYes) rfl sc_matching.nd (pi_list (pv 1)) (blkOk_by (N := ["rows", "masks", "width", "wanted", "columns", "seen", "row", "mask", "place"]) (sc := defScope s_matching) (by decide +kernel)) (fun _ _ _ _ _ => (pg_name (i := 7) sc_matching.nd rfl (Or.inl rfl))) (fun _ _ _ _ _ => pts_nil) (fun _ _ _ _ _ => (pe_call G_seen (hr.mono (by decide)) rfl T.mg_seen T.F_seen.kp T.b_seen .nil pass0 (pa_cons (pv 7) (pa_cons (pv 4) pa_nil))))))
      (pss_one (ps_ret (pe_tup (pa_cons (pe_lc (own := [("mask", 7)]) (g := gName 7) (tt := tYes) rfl sc_matching.nd (pi_list (pv 3)) (blkOk_by (N := ["rows", "masks", "width", "wanted", "columns", "seen", "row", "mask", "place"]) (sc := defScope s_matching) (by decide +kernel)) (fun _ _ _ _ _ => (pg_name (i := 7) sc_matching.nd rfl (Or.inl rfl))) (fun _ _ _ _ _ => pts_nil) (fun _ _ _ _ _ => (show PE _ _ (tBM K "list" (rIndex K) _ _) from (pe_bm PySem.F.plainAttrs_list PySem.F.slot_list_index PySem.F.type_list_index mt_index (pv 5) (pa_cons (pv 7) pa_nil))))) (pa_cons (pv 4) pa_nil)))))))))), ?_⟩
    have lt : (ts.map V.ref).length = R.length := by rw [List.length_map, hts.len]
    refine ⟨_, rfl, r, rfl, ⟨_, hR⟩, fun D nD => lc_it walk_list (PvS H D fun i => niv ((R.take i).map wantN)) (pv0 nD rfl) (fun i H2 _ q => q.1.seq hR) ?_ ?_⟩
    · rintro i x H3 H4 hi q ⟨rfl, hx⟩
      obtain ⟨t, ht, rfl⟩ := refs_get hx
      obtain ⟨row, hrw, htx⟩ := hts.get ht
      obtain ⟨rowl, rowb, roww⟩ := hrow row (List.mem_of_getElem? hrw)
      have htx' : SqT K H4 t (ivs row) := q.1.tup htx
      have one : Builtin.Int.intBits 1 ≤ 1 := PyProof.Rows.intBits_le (by decide)
      refine ⟨rfl, _, rfl, t, rfl, ⟨_, htx'⟩, fun D2 nD2 => lc_it walk_tup (PvS H4 D2 fun p => ivs ((row.map fun j => (2 : Int) ^ j.toNat).take p)) (pv0 nD2 rfl) (fun _ _ _ q2 => q2.1.tup htx') ?_ ?_⟩
      · rintro p x H5 H6 hp q2 ⟨rfl, hx2⟩
        obtain ⟨j, hj, rfl⟩ := ivs_get hx2
        obtain ⟨j0, j1⟩ := rowb j (List.mem_of_getElem? hj)
        refine ⟨rfl, _, rfl, 1, j.toNat, rfl, by rw [Int.toNat_of_nonneg j0], ⟨by omega, by omega⟩, ?_⟩
        rw [Int.one_mul]
        refine q2.push nD2 ?_ ?_
        · rw [take_succ (show (row.map fun j => (2 : Int) ^ j.toNat)[p]? = some (2 ^ j.toNat) by rw [List.getElem?_map, hj]; rfl)]
          unfold ivs; rw [List.map_append]; rfl
        · rw [ivs_len, List.length_take, List.length_map]; omega
      rintro H5 ⟨s5, h5⟩
      have h5 : H5 D2 = some (.lst (ivs ((row.map fun j => (2 : Int) ^ j.toNat).take (ivs row).length))) := h5
      rw [ivs_len, show (row.map fun j => (2 : Int) ^ j.toNat).take row.length = row.map fun j => (2 : Int) ^ j.toNat from List.take_of_length_le (by rw [List.length_map]; exact Nat.le_refl _)] at h5
      refine ⟨D2, _, rfl, SqL.of h5, ?_⟩
      rw [want_sum]
      refine (q.more s5).push nD ?_ ?_
      · show niv ((R.take (i + 1)).map wantN) = _
        rw [take_succ hrw, List.map_append]; unfold niv; rw [List.map_append]; rfl
      · show (niv ((R.take i).map wantN)).length ≤ 1000000
        rw [niv_len, List.length_map, List.length_take]; omega
    rintro H1 ⟨s1, h1⟩
    have h1 : H1 D = some (.lst (niv ((R.take (ts.map V.ref).length).map wantN))) := h1
    rw [lt, List.take_length] at h1
    have hW : (R.map wantN).length ≤ 60 := by rw [List.length_map]; exact rl
    refine ⟨_, rfl, _, rfl, D, R.map wantN, wd, rfl, SqL.of h1, hW, wl, fun a1 ns1 H2 s2 x1 p1 o1 => ?_⟩
    refine ⟨_, rfl, _, rfl, m, M, wd, rfl, (s1.trans s2).seq hM, ml, wl, fun a2 ns2 H3 s3 x2 p2 o2 => ?_⟩
    have s13 := s1.trans (s2.trans s3)
    have h3 := s3 _ _ (s2 _ _ h1)
    have e : decide (ns1 = ns2) = sizesB (R.map wantN) M wd := by
      rw [Bool.eq_iff_iff, decide_eq_true_iff, sorted_eq o1 o2]
      unfold sizesB
      rw [List.isPerm_iff]
      constructor
      · intro h; exact perm_natI.mp (p1.symm.trans (h.trans p2))
      · intro h; exact p1.trans ((perm_natI.mpr h).trans p2.symm)
    refine ⟨.list (pdi ns1), .list (pdi ns2), .lst (SqL.of (s3 _ _ x1)) (dp_ivs _), .lst (SqL.of x2) (dp_ivs _), sh_pdi _, sh_pdi _, ?_⟩
    rw [eqv_LI, e]
    cases hs : sizesB (R.map wantN) M wd with
    | false =>
      refine ⟨_, rfl, ifT rfl ?_⟩
      exact kn (by unfold matchB; rw [hs]; rfl) H3 s13
    | true =>
      refine ⟨_, rfl, ifF rfl ?_⟩
      refine ⟨_, rfl, _, rfl, _, rfl, by show 0 ≤ sizeLine; decide, fun l nl => ?_⟩
      generalize hG : upd H3 l _ = H4
      have q4 : Same H3 H4 := hG ▸ same_new nl
      have x4 := (congrFun hG l).symm.trans upd_same
      clear hG
      have s14 := s13.trans q4
      have h4 := q4 _ _ h3
      have em : matchB (R.map wantN) M wd = (extB (R.map wantN) M wd wd []).map fun cols => ((R.map wantN).map fun w => (M.map (seeM · cols)).idxOf w, cols) := by unfold matchB; rw [if_pos hs]
      refine ⟨D, m, l, wd, R.map wantN, M, [], rfl, SqL.of h4, s14.seq hM, x4, hW, ml, wl, by rw [List.length_nil, Nat.zero_add], fun cols q G s5 hx hq => ?_, fun hn G s5 => ?_⟩
      · have s15 := s14.trans s5
        have h5 := s5 _ _ h4
        obtain ⟨cc, cl, cp⟩ := ext_sound wd [] cols ⟨List.nodup_nil, fun c h => nomatch h⟩ (Nat.zero_add _) (fun e => by omega) hx
        have hM2 : matchB (R.map wantN) M wd = some ((R.map wantN).map (fun w => (M.map (seeM · cols)).idxOf w), cols) := by rw [em, hx]; rfl
        obtain ⟨_, _, pw, _⟩ := match_sound w0 (fun x hx => by
          obtain ⟨row, hr2, rfl⟩ := List.mem_map.mp hx
          exact (hrow row hr2).2.2) hM2
        refine ⟨_, rfl, rfl, _, rfl, ifF rfl ?_⟩
        refine ⟨_, rfl, m, rfl, ⟨_, s15.seq hM⟩, fun D2 nD2 => lc_it walk_list (PvS G D2 fun i => niv ((M.take i).map (seeM · cols))) (pv0 nD2 rfl) (fun i H2 _ q => (s15.trans q.1).seq hM) ?_ ?_⟩
        · rintro i x H5 H6 hi q6 ⟨rfl, hx6⟩
          obtain ⟨z, hz, rfl⟩ := niv_get hx6
          refine ⟨rfl, _, rfl, _, rfl, z, q, cols, rfl, SqL.of (q6.1 _ _ hq), by omega, fun H7 s7 => ?_⟩
          refine (q6.more s7).push nD2 ?_ ?_
          · show niv ((M.take (i + 1)).map (seeM · cols)) = _
            rw [take_succ hz, List.map_append]; unfold niv; rw [List.map_append]; rfl
          · show (niv ((M.take i).map (seeM · cols))).length ≤ 1000000
            rw [niv_len, List.length_map, List.length_take]; omega
        rintro H5 ⟨s6, h6⟩
        have h6 : H5 D2 = some (.lst (niv ((M.take (niv M).length).map (seeM · cols)))) := h6
        rw [niv_len, List.take_length] at h6
        have h7 := s6 _ _ h5
        refine ⟨_, rfl, D, rfl, ⟨_, SqL.of h7⟩, fun D3 nD3 => lc_it walk_list (PvS H5 D3 fun i => niv (((R.map wantN).take i).map fun w => (M.map (seeM · cols)).idxOf w)) (pv0 nD3 rfl) (fun i H2 _ q => SqL.of (q.1 _ _ h7)) ?_ ?_⟩
        · rintro i x H6 H7 hi q6 ⟨rfl, hx6⟩
          obtain ⟨z, hz, rfl⟩ := niv_get hx6
          have zm : z ∈ M.map (seeM · cols) := pw.subset (List.mem_of_getElem? hz)
          have zl := List.idxOf_lt_length_iff.mpr zm
          refine ⟨rfl, _, rfl, .inl ⟨rfl, _, SqL.of (q6.1 _ _ h6)⟩, _, rfl, D2, niv (M.map (seeM · cols)), .int (z : Nat), (M.map (seeM · cols)).idxOf z, .int (z : Nat), rfl, rfl, SqL.of (q6.1 _ _ h6), rfl, flat_niv _, ?_, beq_self_eq_true _, fun m2 z2 h1 h2 => ?_, ?_⟩
          · unfold niv
            rw [List.getElem?_map, List.getElem?_eq_getElem zl, List.getElem_idxOf zl]; rfl
          · obtain ⟨n2, hn2, rfl⟩ := niv_get h2
            refine beq_false_of_ne fun e => ?_
            have e2 : n2 = z := by omega
            rw [e2] at hn2
            obtain ⟨hl, e3⟩ := List.getElem?_eq_some_iff.mp hn2
            have := List.not_of_lt_findIdx (p := (· == z)) h1
            rw [e3] at this
            rw [beq_self_eq_true] at this; cases this
          · refine q6.push nD3 ?_ ?_
            · show niv (((R.map wantN).take (i + 1)).map fun w => (M.map (seeM · cols)).idxOf w) = _
              rw [take_succ hz, List.map_append]; unfold niv; rw [List.map_append]; rfl
            · show (niv (((R.map wantN).take i).map fun w => (M.map (seeM · cols)).idxOf w)).length ≤ 1000000
              rw [niv_len, List.length_map, List.length_take]; omega
        rintro H6 ⟨s7, h8⟩
        have h8 : H6 D3 = some (.lst (niv (((R.map wantN).take (niv (R.map wantN)).length).map fun w => (M.map (seeM · cols)).idxOf w))) := h8
        rw [niv_len, List.take_length] at h8
        have h9 := s7 _ _ (s6 _ _ hq)
        refine ⟨_, rfl, by show 2 ≤ sizeLine; decide, fun t nt => ?_⟩
        generalize hG : upd H6 t _ = H7
        have q7 : Same H6 H7 := hG ▸ same_new nt
        have x7 := (congrFun hG t).symm.trans upd_same
        clear hG
        exact kq _ _ t D3 q H7 (s15.trans (s6.trans (s7.trans q7))) hM2 x7 (q7 _ _ h8) (q7 _ _ h9)
      · exact ⟨_, rfl, rfl, _, rfl, ifT rfl (kn (by rw [em, hn]; rfl) G (s14.trans s5))⟩
end
end My
set_option maxRecDepth 100000
set_option maxHeartbeats 4000000
set_option exponentiation.threshold 10000
namespace My
open PySem L2
open C8 (pss_cut)
/-- the masks of the rows of a standard table -/
def stdM (k s : Int) : List Nat := (stdR k s).map wantN
/-- the matching with one standard table -/
def recK (k s : Int) (M : List Nat) (wd : Nat) : Option (List Nat × List Nat) := if okKS k s = true ∧ w2 k s = (wd : Nat) then matchB (stdM k s) M wd else none
theorem ks_nat {k s : Int} (h : okKS k s = true) : ∃ i j : Nat, k = i ∧ s = j ∧ i < 6 ∧ j < 11 := by
  rw [okKS_iff] at h
  exact ⟨k.toNat, s.toNat, by omega, by omega, by omega, by omega⟩
theorem ks_all (f : Int → Int → Bool) (h : ∀ i < 6, ∀ j < 11, okKS ((i : Nat) : Int) ((j : Nat) : Int) = true → f i j = true) {k s : Int} (hk : okKS k s = true) : f k s = true := by
  obtain ⟨i, j, rfl, rfl, hi, hj⟩ := ks_nat hk
  exact h i hi j hj hk
def stdChk (k s : Int) : Bool := (stdR k s).all fun row => decide (row.length ≤ 20) && row.all (fun j => decide (0 ≤ j ∧ j < 20)) && decide (wantN row < 2 ^ (w2 k s).toNat)
theorem std_chk {k s : Int} (hk : okKS k s = true) : ∀ row ∈ stdR k s, row.length ≤ 20 ∧ (∀ j ∈ row, 0 ≤ j ∧ j < 20) ∧ wantN row < 2 ^ (w2 k s).toNat := fun row hr => by
  have := ks_all stdChk (by decide +kernel) hk
  have := List.all_eq_true.mp this row hr
  rw [Bool.and_eq_true, Bool.and_eq_true, decide_eq_true_iff, decide_eq_true_iff, List.all_eq_true] at this
  exact ⟨this.1.1, fun j hj => decide_eq_true_iff.mp (this.1.2 j hj), this.2⟩
section
variable {P : Program} {w : World} {K : PySem.W.Frag} {mg : Str → Option Value} {base : Heap} {A : Ad}
def spMatched (K : PySem.W.Frag) : Sp := fun vs H Q _ => ∃ (k s : Int) (m : Addr) (wd : Nat) (M : List Nat), vs = [.int k, .int s, .ref m, .int (wd : Nat)] ∧ midI k ∧ midI s ∧ SqL K H m (niv M) ∧ M.length ≤ 60 ∧
  (∀ ns cols q a b H', Same H H' → recK k s M wd = some (ns, cols) → H' q = some (.tup [.ref a, .ref b]) → H' a = some (.lst (niv ns)) → H' b = some (.lst (niv cols)) → Q (.ref q) H') ∧ (recK k s M wd = none → ∀ H', Same H H' → Q .non H')
def spWidthQ : Sp := fun vs H Q _ => ∃ k s, vs = [.int k, .int s] ∧ midI k ∧ midI s ∧ okKS k s = true ∧ ∀ H', Same H H' → Q (.int (w2 k s)) H'
theorem ok_widthQ (T : Txt P K mg A) : FnOk P w K mg base CX0 3 A.a_standard_width A.d_standard_width ["kind", "size"] spWidthQ :=
  quiet (ok_width (P := P) (w := w) (base := base) T) fun vs H Q E ⟨k, s, e, a, b, c, d⟩ => ⟨k, s, e, a, b, fun _ => d, fun h => by rw [c] at h; cases h⟩
theorem ok_matched (T : Txt P K mg A) : FnOk P w K mg base CX0 19 A.a_matched A.d_matched ["kind", "size", "masks", "width"] (spMatched K) := by
  refine T.F_matched.ok sc_matched (fun vs H Q E h => ?_) (fun cdv A' outer s0 H vs Q E hr h => ?_)
  · obtain ⟨k, s, m, wd, M, rfl, _⟩ := h
    rfl
  · obtain ⟨k, s, m, wd, M, rfl, mk, ms, hM, ml, kq, kn⟩ := h
    have GX_standard_rows := ok_stdR (P := P) (w := w) (base := base) T
    have G_standard_width := ok_widthQ (P := P) (w := w) (base := base) T
    have G_matching := ok_match (P := P) (w := w) (base := base) T
    refine ⟨_, (pss_cons (ps_try_only (Wout := fun _ _ _ _ => False) rfl rfl ⟨rfl, by decide, .inl T.mg_BadKind⟩ takes0 (fun W pn xe tk _ => (pss_one (ps_set (i := 4) sc_matched.nd rfl (Or.inl rfl) (pe_callS GX_standard_rows (hr.mono (by decide)) rfl T.mg_standard_rows T.F_standard_rows.kp T.b_standard_rows (fun σ => passAt tk σ) (pa_cons (pv 0) (pa_cons (pv 1) pa_nil)))))) (fun a oe cls d pn hz hf => (pss_one (ps_ret pe_non))))
      (pss_one (ps_ret (pe_ifExp (pt_cmpR op_eq (pe_call G_standard_width (hr.mono (by decide)) rfl T.mg_standard_width T.F_standard_width.kp T.b_standard_width .nil pass0 (pa_cons (pv 0) (pa_cons (pv 1) pa_nil))) (pv 3) (nomark _)) (pe_call G_matching (hr.mono (by decide)) rfl T.mg_matching T.F_matching.kp T.b_matching .nil pass0 (pa_cons (pv 4) (pa_cons (pv 2) (pa_cons (pv 3) pa_nil)))) pe_non)))), ?_⟩
    refine ⟨_, rfl, _, rfl, k, s, rfl, mk, ms, fun hok D ts H1 s1 hD hts => ?_, fun hf d H' s' => ?_⟩
    · have key : recK k s M wd = if w2 k s = (wd : Nat) then matchB (stdM k s) M wd else none := by
        unfold recK
        by_cases e : w2 k s = (wd : Nat)
        · rw [if_pos ⟨hok, e⟩, if_pos e]
        · rw [if_neg (fun h => e h.2), if_neg e]
      have hb := okKS_iff.mp hok
      have hw2 : 0 < w2 k s ∧ w2 k s ≤ 12 := of_decide_eq_true hok
      refine ⟨_, rfl, _, rfl, k, s, rfl, mk, ms, hok, fun H2 s2 => ⟨_, rfl, rfl, _, rfl, ?_⟩⟩
      have s12 := s1.trans s2
      by_cases e : w2 k s = (wd : Nat)
      · rw [if_pos e] at key
        refine ifT (decide_eq_true (congrArg V.int e)) ⟨_, rfl, _, rfl, _, rfl, D, m, wd, ts, stdR k s, M, rfl, SqL.of (s2 _ _ hD), hts.imp fun u x q => s2.tup q, s12.seq hM, by have := (stdR_len hok).2; omega, ml, by omega, by omega, fun row hr2 => ?_, fun ns cols q a b H3 s3 hm hq ha hb2 => ?_, fun hm H3 s3 => ?_⟩
        · obtain ⟨a, b, c⟩ := std_chk hok row hr2
          refine ⟨a, b, ?_⟩
          rw [show wd = (w2 k s).toNat by omega]; exact c
        · exact kq ns cols q a b H3 (s12.trans s3) (by rw [key]; exact hm) hq ha hb2
        · exact kn (by rw [key]; exact hm) H3 (s12.trans s3)
      · rw [if_neg e] at key
        exact ifF (decide_eq_false fun z => e (V.int.inj z)) (kn key H2 s12)
    · refine ⟨true, exm_self T.bp_BadKind T.ic_BadKind T.tp_BadKind T.ss_BadKind, fun _ e he => ?_, fun q => nomatch q⟩
      exact kn (by unfold recK; rw [if_neg (fun h => by rw [hf] at h; exact nomatch h.1)]) _ s'
end
end My
set_option maxRecDepth 100000
set_option maxHeartbeats 4000000
set_option exponentiation.threshold 10000
namespace My
open PySem L2
open C8 (pss_cut)
theorem mk_pat {C : Addr} {H : Hp} {r c x dx : Addr} {k s : Int} {xs : List Int} {ys : List Str} {Q2 : VK} (hR : LT H r (ivs xs)) (hC : LT H c (sv ys)) (hx : H x = none) (hdx : H dx = none) (hne : dx ≠ x) (kk : ∀ H', Same H H' → Pat C H' x k s xs ys → Q2 .non H') :
    spPatI C (.ref x :: ([.int k, .int s, .ref r, .ref c] ++ [])) (upd (upd H dx (.own x)) x (.ins C dx [])) Q2 E0 := by
  have s1 := same_new (o := .own x) hdx
  have hx1 : upd H dx (.own x) x = none := by rw [upd_ne hne.symm]; exact hx
  have s2 : Same H (upd (upd H dx (.own x)) x (.ins C dx [])) := s1.trans (same_new hx1)
  exact ⟨x, k, s, r, c, dx, xs, ys, rfl, upd_same, hR.same s2, hC.same s2, fun H' hk hT => kk H' (fun b o e => hk b o (ne_of_none e hx) (s2 _ _ e)) hT⟩
/-- the size that a kind would have -/
def sizeOf2 (w : Nat) (k : Int) : Int := match moreI k with
  | some m => (w : Int) - m
  | none => 1
def recAt (w : Nat) (M : List Nat) (k : Int) : Option (Int × List Nat × List Nat) := (recK k (sizeOf2 w k) M w).map fun p => (k, p)
def recB (w : Nat) (M : List Nat) : Option (Int × List Nat × List Nat) := ([1, 2, 3, 4, 5] : List Int).findSome? (recAt w M)
theorem find_first {α β : Type} {f : α → Option β} : ∀ {l : List α} {i : Nat} {x : α} {y : β}, l[i]? = some x → (∀ j z, j < i → l[j]? = some z → f z = none) → f x = some y → l.findSome? f = some y
  | [], _, _, _, h, _, _ => by simp at h
  | a :: t, 0, x, y, h, _, hy => by
    cases h
    rw [List.findSome?_cons, hy]
  | a :: t, i + 1, x, y, h, hb, hy => by
    rw [List.findSome?_cons, hb 0 a (Nat.succ_pos i) rfl]
    exact find_first (l := t) (i := i) h (fun j z hj hz => hb (j + 1) z (Nat.succ_lt_succ hj) hz) hy
/-- the masks of the rows of a table -/
def tabM (cs : List Str) (rs : List (List Str)) : List Nat := rs.map fun r => msk cs (canon cs r)
section
variable {P : Program} {w : World} {K : PySem.W.Frag} {mg : Str → Option Value} {base : Heap} {A : Ad}
def spRec (A : Ad) (K : PySem.W.Frag) : Sp := fun vs H Q _ => ∃ (t : Addr) (cs : List Str) (rs : List (List Str)), vs = [.ref t] ∧ Tb A.C_Table H t cs rs ∧ rs.length ≤ 48 ∧ 0 < cs.length ∧ cs.length ≤ 12 ∧
  (∀ k ns cols p H', Same H H' → recB cs.length (tabM cs rs) = some (k, ns, cols) → Pat A.C_Pattern H' p k (sizeOf2 cs.length k) (ns.map fun n => ((n : Nat) : Int)) (cols.map fun c => cs.getD c "") → Q (.ref p) H') ∧ (recB cs.length (tabM cs rs) = none → ∀ H', Same H H' → Q .non H')
theorem ok_rec (T : Txt P K mg A) : FnOk P w K mg base CX0 20 A.a_recognized A.d_recognized ["table"] (spRec A K) := by
  have G_mask_of := ok_maskOf (P := P) (w := w) (base := base) T
  have G_matched := ok_matched (P := P) (w := w) (base := base) T
  have G_Pattern_init := ok_patI (P := P) (w := w) (base := base) T
  refine T.F_recognized.ok sc_recognized (fun vs H Q E h => ?_) (fun cdv A' outer s0 H vs Q E hr h => ?_)
  · obtain ⟨t, cs, rs, rfl, _⟩ := h
    rfl
  · obtain ⟨t, cs, rs, rfl, hT, hrl, c0, cl, kq, kn⟩ := h
    refine ⟨_, (pss_cons (ps_setLc (i := 1) (own := [("row", 7)]) (g := gName 7) (tt := tYes) rfl sc_recognized.nd rfl rfl (sw_true rfl rfl rfl (by decide +kernel)) (pi_tup (pe_fld (pv 0) rfl)) (blkOk_by (N := ["table", "masks", "kind", "size", "found", "numbers", "columns", "row", "column"]) (sc := defScope s_recognized) (by decide +kernel)) (fun _ _ _ _ _ => (pg_name (i := 7) sc_recognized.nd rfl (Or.inl rfl))) (fun _ _ _ _ _ => pts_nil) (fun _ _ _ _ _ => (pe_call G_mask_of (hr.mono (by decide)) rfl T.mg_mask_of T.F_mask_of.kp T.b_mask_of .nil pass0 (pa_cons (pv 7) (pa_cons (show PE _ _ (tFld K _ "columns") from pe_fld (pv 0) rfl) pa_nil)))))
      (pss_cons (ps_for PassesOwn.never rfl (pi_tup (pe_glob (v := .ref A.e_KINDS) rfl T.mg_KINDS rfl)) (pg_name (i := 2) sc_recognized.nd rfl (Or.inl rfl))
        (pss_cut (ps_set (i := 3) sc_recognized.nd rfl (Or.inl rfl) (pe_ifExp (pt_cmpR op_inI (pv 2) (pe_glob (v := .ref A.e_MORE_COLUMNS) rfl T.mg_MORE_COLUMNS rfl) (by with_unfolding_all rfl)) (pe_op op_sub (pe_callB call_len_seq (by rfl) T.n_len (by decide +kernel) (pa_cons (pe_fld (pv 0) rfl) pa_nil)) (pe_ix ix_idict (pe_glob (v := .ref A.e_MORE_COLUMNS) rfl T.mg_MORE_COLUMNS rfl) (pv 2) (fun _ _ => rfl))) pe_int))
      (pss_cons (ps_set (i := 4) sc_recognized.nd rfl (Or.inl rfl) (pe_call G_matched (hr.mono (by decide)) rfl T.mg_matched T.F_matched.kp T.b_matched .nil pass0 (pa_cons (pv 2) (pa_cons (pv 3) (pa_cons (pv 1) (pa_cons (pe_callB call_len_seq (by rfl) T.n_len (by decide +kernel) (pa_cons (pe_fld (pv 0) rfl) pa_nil)) pa_nil))))))
      (pss_one (ps_if (pt_cmpR op_notN (pv 4) pe_non (nomark _)) (pss_cons (ps_asg (pv 4) (pg_tup (by rfl) (pgs_cons (pg_name (i := 5) sc_recognized.nd rfl (Or.inl rfl)) (pgs_cons (pg_name (i := 6) sc_recognized.nd rfl (Or.inl rfl)) pgs_nil))))
      (pss_one (ps_ret (pe_make T.mk_Pattern G_Pattern_init (hr.mono (by decide)) rfl T.mg_Pattern T.b_Pattern_init .nil pass0 (pa_cons (pv 2) (pa_cons (pv 3) (pa_cons (pv 5) (pa_cons (pe_lc (own := [("column", 8)]) (g := gName 8) (tt := tYes) rfl sc_recognized.nd (pi_list (pv 6)) (blkOk_by (N := ["table", "masks", "kind", "size", "found", "numbers", "columns", "row", "column"]) (sc := defScope s_recognized) (by decide +kernel)) (fun _ _ _ _ _ => (pg_name (i := 8) sc_recognized.nd rfl (Or.inl rfl))) (fun _ _ _ _ _ => pts_nil) (fun _ _ _ _ _ => (pe_ix (show IxR _ (rIxT K) from ix_tup) (show PE _ _ (tFld K _ "columns") from pe_fld (pv 0) rfl) (pv 8) (fun _ _ => rfl)))) pa_nil)))))))) pss_nil)))))
      (pss_one (ps_ret pe_non)))), ?_⟩
    obtain ⟨dx, ct, rt, ts, h1, hct, hrt, hts⟩ := id hT
    have tl : (ts.map V.ref).length = rs.length := by rw [List.length_map, hts.len, List.length_map]
    refine ⟨_, rfl, _, _, _, _, _, rfl, h1, T.cl_Table, T.n_Table_rows, fldsT_rows _ _, rt, rfl, ⟨_, SqT.of hrt⟩, fun D nD => lc_it walk_tup (PvS H D fun i => niv ((tabM cs rs).take i)) (pv0 nD rfl) (fun i H2 _ q => SqT.of (q.1 _ _ hrt)) ?_ ?_⟩
    · rintro i x H3 H4 hi q ⟨rfl, hx⟩
      obtain ⟨u, hu, rfl⟩ := refs_get hx
      obtain ⟨r, hr2, hur⟩ := hts.get hu
      rw [List.getElem?_map] at hr2
      cases hr3 : rs[i]? with
      | none => rw [hr3] at hr2; cases hr2
      | some r0 =>
      rw [hr3] at hr2
      cases Option.some.inj hr2
      have h1 := q.1 _ _ h1
      refine ⟨rfl, _, rfl, _, rfl, _, _, _, _, _, rfl, h1, T.cl_Table, T.n_Table_columns, fldsT_columns _ _, u, ct, cs, canon cs r0, rfl, SqT.of (q.1 _ _ hur), SqT.of (q.1 _ _ hct), cl, fun H5 s5 => ?_⟩
      refine (q.more s5).push nD ?_ ?_
      · rw [take_succ (show (tabM cs rs)[i]? = some (msk cs (canon cs r0)) by unfold tabM; rw [List.getElem?_map, hr3]; rfl)]
        unfold niv; rw [List.map_append]; rfl
      · rw [niv_len, List.length_take]; unfold tabM; rw [List.length_map]; omega
    rintro H1 ⟨s1, hD⟩
    have hD : H1 D = some (.lst (niv ((tabM cs rs).take (ts.map V.ref).length))) := hD
    rw [tl, show (tabM cs rs).take rs.length = tabM cs rs from List.take_of_length_le (by unfold tabM; rw [List.length_map]; exact Nat.le_refl _)] at hD
    have ml : (tabM cs rs).length ≤ 60 := by unfold tabM; rw [List.length_map]; omega
    refine ⟨A.e_KINDS, rfl, ⟨_, T.wt_KINDS.sq⟩, for_it walk_tup (fun i σ G => Same H1 G ∧ (∀ j k, j < i → ([1, 2, 3, 4, 5] : List Int)[j]? = some k → recAt cs.length (tabM cs rs) k = none) ∧ ∃ u2 u3 u4 : Option V, σ = [some (.ref t), some (.ref D), u2, u3, u4, none, none, none, none]) ⟨.refl _, fun j k h => absurd h (Nat.not_lt_zero _), none, none, none, rfl⟩ (fun i σ G _ q => T.wt_KINDS.sq) ?_ ?_⟩
    · rintro i x σ G0 G hi ⟨sG, hno, u2, u3, u4, rfl⟩ ⟨rfl, hx⟩
      have hi : i < 5 := hi
      obtain ⟨k, hk, rfl⟩ : ∃ k : Int, ([1, 2, 3, 4, 5] : List Int)[i]? = some k ∧ x = .int k := by
        have e : ([.int 1, .int 2, .int 3, .int 4, .int 5] : List V) = ([1, 2, 3, 4, 5] : List Int).map V.int := rfl
        rw [e, List.getElem?_map] at hx
        cases e2 : ([1, 2, 3, 4, 5] : List Int)[i]? with
        | none => rw [e2] at hx; cases hx
        | some k => rw [e2] at hx; exact ⟨k, rfl, (Option.some.inj hx).symm⟩
      have hkm : k = 1 ∨ k = 2 ∨ k = 3 ∨ k = 4 ∨ k = 5 := by
        have := List.mem_of_getElem? hk
        simpa using this
      have h1 := sG _ _ (s1 _ _ h1)
      have hct := sG _ _ (s1 _ _ hct)
      have hD := sG _ _ hD
      refine ⟨fun σ' G' => G' = G ∧ σ' = [some (.ref t), some (.ref D), some (.int k), some (.int (sizeOf2 cs.length k)), u4, none, none, none, none], ?_, ?_⟩
      · refine ⟨_, rfl, k, _, _, rfl, rfl, T.id_MORE_COLUMNS, ?_⟩
        rw [more_at]
        cases hm : moreI k with
        | none => exact ⟨_, rfl, ifF rfl ⟨rfl, by unfold sizeOf2; rw [hm]; rfl⟩⟩
        | some m =>
          exact ⟨_, rfl, ifT rfl ⟨_, rfl, _, _, _, _, _, rfl, h1, T.cl_Table, T.n_Table_columns, fldsT_columns _ _, ct, _, rfl, .inr (SqT.of hct), _, rfl, _, k, _, _, rfl, rfl, T.id_MORE_COLUMNS, by rw [more_at, hm]; rfl, _, _, rfl, rfl, rfl, by unfold sizeOf2; rw [hm, len_sv]; rfl⟩⟩
      rintro σ' G' ⟨rfl, rfl⟩
      have hsz : midI (sizeOf2 cs.length k) := by
        unfold sizeOf2 moreI midI
        rcases hkm with rfl | rfl | rfl | rfl | rfl <;> simp <;> omega
      have s1G := s1.trans sG
      have fin : recK k (sizeOf2 cs.length k) (tabM cs rs) cs.length = none → ∀ j k', j < i + 1 → ([1, 2, 3, 4, 5] : List Int)[j]? = some k' → recAt cs.length (tabM cs rs) k' = none := fun h j k' hj hk' => by
        rcases Nat.lt_succ_iff_lt_or_eq.mp hj with q | q
        · exact hno j k' q hk'
        · rw [q, hk] at hk'
          cases hk'
          unfold recAt; rw [h]; rfl
      refine ⟨_, rfl, _, rfl, _, rfl, _, rfl, _, _, _, _, _, rfl, h1, T.cl_Table, T.n_Table_columns, fldsT_columns _ _, ct, _, rfl, .inr (SqT.of hct), k, sizeOf2 cs.length k, D, cs.length, tabM cs rs, by rw [len_sv]; rfl, by unfold midI; omega, hsz, SqL.of hD, ml, fun ns cols q a b G2 s2 hm hq ha hb => ?_, fun hm G2 s2 => ?_⟩
      · have h1 := s2 _ _ h1
        have hct := s2 _ _ hct
        have hcols : cols.length = cs.length ∧ ∀ c ∈ cols, c < cs.length := by
          unfold recK at hm
          split at hm
          · rename_i hb2
            obtain ⟨c1, c2, _, _⟩ := match_sound c0 (fun x hx => by
              obtain ⟨row, hr2, rfl⟩ := List.mem_map.mp hx
              have := (std_chk hb2.1 row hr2).2.2
              rw [hb2.2] at this
              exact this) hm
            exact ⟨c2, fun c hc => c1.lt c hc⟩
          · cases hm
        have hcolsl := hcols.1
        have hcols := hcols.2
        refine ⟨_, rfl, rfl, _, rfl, itNeN (fun z => nomatch z) ?_⟩
        refine ⟨_, rfl, q, _, rfl, SqT.of hq, rfl, _, _, rfl, _, _, rfl, rfl, _, rfl, _, rfl, _, rfl, _, rfl, b, rfl, ⟨_, SqL.of hb⟩, fun D2 nD2 => lc_it walk_list (PvS G2 D2 fun j => sv ((cols.map fun c => cs.getD c "").take j)) (pv0 nD2 rfl) (fun j H2 _ q => SqL.of (q.1 _ _ hb)) ?_ ?_⟩
        · rintro j x H3 H4 hj q4 ⟨rfl, hx⟩
          obtain ⟨c, hc, rfl⟩ := niv_get hx
          have h1 := q4.1 _ _ h1
          have hct := q4.1 _ _ hct
          have hcl : c < cs.length := hcols c (List.mem_of_getElem? hc)
          have hcs : cs[c]? = some (cs.getD c "") := by rw [List.getD_eq_getElem?_getD, List.getElem?_eq_getElem hcl]; rfl
          refine ⟨rfl, _, rfl, _, _, _, _, _, rfl, h1, T.cl_Table, T.n_Table_columns, fldsT_columns _ _, _, rfl, ct, _, _, _, rfl, rfl, SqT.of hct, atI_nat (j := c) (v := .str (cs.getD c "")) (by unfold sv; rw [List.getElem?_map, hcs]; rfl), ?_⟩
          refine q4.push nD2 ?_ ?_
          · rw [take_succ (show (cols.map fun c => cs.getD c "")[j]? = some (cs.getD c "") by rw [List.getElem?_map, hc]; rfl)]
            unfold sv; rw [List.map_append]; rfl
          · rw [len_sv, List.length_take, List.length_map]; omega
        · rintro H3 ⟨s3, h3⟩
          have h3 : H3 D2 = some (.lst (sv ((cols.map fun c => cs.getD c "").take (niv cols).length))) := h3
          rw [niv_len, show (cols.map fun c => cs.getD c "").take cols.length = cols.map fun c => cs.getD c "" from List.take_of_length_le (by rw [List.length_map]; exact Nat.le_refl _)] at h3
          have ha3 := s3 _ _ ha
          rw [niv_ivs] at ha3
          refine fun x dx hx hdx hne => mk_pat (.inl ha3) (.inl h3) hx hdx hne fun H4 s4 hP => ?_
          refine ⟨rfl, kq k ns cols x H4 (s1G.trans (s2.trans (s3.trans s4))) ?_ hP⟩
          unfold recB
          exact find_first hk (fun j k' hj hk' => hno j k' hj hk') (by unfold recAt; rw [hm]; rfl)
      · exact ⟨_, rfl, rfl, _, rfl, itNe rfl ⟨sG.trans s2, fin hm, _, _, _, rfl⟩⟩
    · rintro σ G ⟨sG, hno, u2, u3, u4, rfl⟩
      refine kn ?_ G (s1.trans sG)
      unfold recB
      exact List.findSome?_eq_none_iff.mpr fun k hk => by
        obtain ⟨j, hj⟩ := List.getElem?_of_mem hk
        exact hno j k (by have := (List.getElem?_eq_some_iff.mp hj).1; exact this) hj
end
end My
set_option maxRecDepth 100000
set_option maxHeartbeats 4000000
set_option exponentiation.threshold 10000
namespace My
open PySem L2
abbrev fv {α : Type} (f : α → V) (l : List α) : List V := l.map f
section
variable {α : Type} {f : α → V}
theorem fv_len (l : List α) : (fv f l).length = l.length := List.length_map ..
theorem fv_take (l : List α) (k : Nat) : (fv f l).take k = fv f (l.take k) := List.map_take.symm
theorem fv_drop (l : List α) (k : Nat) : (fv f l).drop k = fv f (l.drop k) := List.map_drop.symm
theorem fv_app (a b : List α) : fv f a ++ fv f b = fv f (a ++ b) := List.map_append.symm
theorem fv_snoc (l : List α) (x : α) : fv f (l ++ [x]) = fv f l ++ [f x] := List.map_append
end
theorem sv_snoc' (l : List Str) (x : Str) : sv (l ++ [x]) = sv l ++ [V.str x] := List.map_append
def spCell (K : PySem.W.Frag) : Sp := fun vs H Q _ => ∃ (a : Addr) (ns : List Int) (k : Int), vs = [.ref a, .int k] ∧ SqL K H a (ns.map V.int) ∧ 0 ≤ k ∧ ∀ z, Q (.int z) H
def spPool (K : PySem.W.Frag) : Sp := fun vs H Q _ => ∃ (a : Addr) (ns : List Int) (k c : Int), vs = [.ref a, .int k, .int c] ∧ SqL K H a (ns.map V.int) ∧ 0 ≤ k ∧ 0 ≤ c ∧ c ≤ 1000 ∧
  ∀ p ps H', Same H H' → H' p = some (.lst (ps.map V.int)) → (ps.length : Int) = c → Pool ps → Q (.ref p) H'
section
variable {P : Program} {w : World} {K : PySem.W.Frag} {mg : Str → Option Value} {base : Heap} {A : Ad}
theorem ok_cell (T : Txt P K mg A) : FnOk P w K mg base CX0 1 A.a_law_cell A.d_law_cell ["script", "k"] (spCell K) := by
  refine T.F_law_cell.ok sc_law_cell (fun vs H Q E h => ?_) (fun cdv A' outer s H vs Q E hr h => ?_)
  · obtain ⟨a, ns, k, rfl, _⟩ := h
    rfl
  · obtain ⟨a, ns, i, rfl, hS, h0, k⟩ := h
    refine ⟨_, (pss_cons (ps_if (pt_cmpR op_lt (pv 1) (pe_callB call_len_seq (by rfl) T.n_len (by decide +kernel) (pa_cons (pv 0) pa_nil)) (nomark _)) (pss_one (ps_ret (pe_ix ix_list (pv 0) (pv 1) (fun _ _ => rfl)))) pss_nil)
      (pss_one (ps_ret pe_int))), ?_⟩
    refine ⟨_, rfl, _, rfl, _, _, rfl, .inl hS, _, _, rfl, rfl, _, rfl, ?_⟩
    by_cases hi : i < ((ns.map V.int).length : Int)
    · refine itY hi ?_
      obtain ⟨v, hv, e⟩ := atI_ok (xs := ns) h0 (by rw [len_map_int] at hi; exact hi)
      exact ⟨_, rfl, _, rfl, _, _, _, _, rfl, rfl, hS, e, k v⟩
    · refine itN hi ?_
      exact k 0
theorem ok_pool (T : Txt P K mg A) : FnOk P w K mg base CX0 2 A.a_law_pool A.d_law_pool ["script", "k", "count"] (spPool K) := by
  have G_law_cell : FnOk P w K mg base CX0 1 A.a_law_cell A.d_law_cell ["script", "k"] (spCell K) := ok_cell T
  refine T.F_law_pool.ok sc_law_pool (fun vs H Q E h => ?_) (fun cdv A' outer s H vs Q E hr h => ?_)
  · obtain ⟨a, ns, k, c, rfl, _⟩ := h
    rfl
  · obtain ⟨a, ns, i, c, rfl, hS, h0, hc0, hc, k⟩ := h
    refine ⟨_, (pss_cons (ps_set (i := 3) sc_law_pool.nd rfl (Or.inl rfl) (pe_callB call_abs (by rfl) T.n_abs (by decide +kernel) (pa_cons (pe_call G_law_cell (hr.mono (by decide)) rfl T.mg_law_cell T.F_law_cell.kp T.b_law_cell .nil pass0 (pa_cons (pv 0) (pa_cons (pv 1) pa_nil))) pa_nil)))
      (pss_cons (ps_set (i := 4) sc_law_pool.nd rfl (Or.inl rfl) (pe_lst pa_nil))
      (pss_cons (ps_if (pt_cmpR op_ge (pv 3) (pe_op op_pow pe_int pe_int) (nomark _)) (pss_cons (ps_set (i := 3) sc_law_pool.nd rfl (Or.inl rfl) (pe_op op_sub (pv 3) (pe_op op_pow pe_int pe_int)))
      (pss_cons (ps_for PassesOwn.never rfl (pi_range1 (by rfl) T.n_range (pa_cons (pv 2) pa_nil)) (pg_name (i := 5) sc_law_pool.nd rfl (Or.inl rfl))
        (pss_cons (ps_expr (pe_bm PySem.F.plainAttrs_list PySem.F.slot_list_append PySem.F.type_list_append mt_append (pv 4) (pa_cons (pe_op op_mod (pe_callTy call_int1 (by rfl) T.n_int (by decide +kernel) (pa_cons (pv 3) pa_nil)) pe_int) pa_nil)))
      (pss_one (ps_set (i := 3) sc_law_pool.nd rfl (Or.inl rfl) (pe_op op_fdiv (pv 3) pe_int)))))
      (pss_one (ps_ret (pv 4))))) pss_nil)
      (pss_cons (ps_for PassesOwn.never rfl (pi_range1 (by rfl) T.n_range (pa_cons (pv 2) pa_nil)) (pg_name (i := 5) sc_law_pool.nd rfl (Or.inl rfl))
        (pss_cons (ps_set (i := 6) sc_law_pool.nd rfl (Or.inl rfl) (pe_op op_mod (pe_callTy call_int1 (by rfl) T.n_int (by decide +kernel) (pa_cons (pe_op op_add (pe_op op_add (pe_op op_add (pe_op op_mul (pv 3) pe_int) (pe_op op_mul (pe_op op_add (pv 5) pe_int) pe_int)) (pe_op op_mul (pv 1) pe_int)) pe_int) pa_nil)) pe_int))
      (pss_cons (ps_set (i := 7) sc_law_pool.nd rfl (Or.inl rfl) (pe_op op_mod (pe_callTy call_int1 (by rfl) T.n_int (by decide +kernel) (pa_cons (pe_op op_add (pe_op op_add (pe_op op_mulW (pv 6) (pv 6)) (pe_op op_mul (pv 3) pe_int)) (pv 5)) pa_nil)) pe_int))
      (pss_cons (ps_set (i := 8) sc_law_pool.nd rfl (Or.inl rfl) (pe_op op_mod (pe_callTy call_int1 (by rfl) T.n_int (by decide +kernel) (pa_cons (pe_op op_add (pe_op op_mulW (pv 7) (pv 7)) (pv 6)) pa_nil)) pe_int))
      (pss_one (ps_expr (pe_bm PySem.F.plainAttrs_list PySem.F.slot_list_append PySem.F.type_list_append mt_append (pv 4) (pa_cons (pe_op op_mod (pe_callTy call_int1 (by rfl) T.n_int (by decide +kernel) (pa_cons (pe_op op_fdiv (pv 8) pe_int) pa_nil)) pe_int) pa_nil))))))))
      (pss_one (ps_ret (pv 4))))))), ?_⟩
    refine ⟨_, rfl, _, rfl, a, ns, i, rfl, hS, h0, fun z => ⟨_, rfl, ?_⟩⟩
    refine ⟨by show 0 ≤ sizeLine; decide, fun l hl => ?_⟩
    refine ⟨_, rfl, _, _, rfl, rfl, ⟨by decide, by decide, by decide⟩, _, _, rfl, rfl, _, rfl, ?_⟩
    have fin : ∀ ps : List Int, ps.length = c.toNat → Pool ps → Q (.ref l) (upd H l (.lst (ps.map V.int))) := fun ps h1 h2 => k l ps _ (same_new hl) upd_same (by omega) h2
    refine ite2 (fun hb => ?_) (fun hb => ?_)
    · refine ⟨_, rfl, _, _, rfl, rfl, ⟨by decide, by decide, by decide⟩, _, _, rfl, rfl, ?_⟩
      refine ⟨_, rfl, c, rfl, by omega, by omega, for_range (n := c.toNat) (fun j σ H2 => ∃ (v : Int) (ps : List Int) (u : Option V), σ = [some (.ref a), some (.int i), some (.int c), some (.int v), some (.ref l), u, none, none, none] ∧
        H2 = upd H l (.lst (ps.map V.int)) ∧ ps.length = j ∧ Pool ps) ⟨_, [], none, rfl, rfl, rfl, Pool.nil⟩ ?_ ?_⟩
      · rintro j σ H2 hj ⟨v, ps, u, rfl, rfl, hl2, hp⟩
        refine ⟨_, rfl, .inl ⟨rfl, _, SqL.of upd_same⟩, _, rfl, .inl ⟨_, rfl, ?_⟩⟩
        refine ⟨_, _, rfl, rfl, by show (0 : Int) < 27720; decide, l, _, _, rfl, rfl, upd_same, small_int (by rw [len_map_int]; omega), ?_⟩
        refine ⟨_, rfl, _, _, rfl, rfl, ⟨by decide, by decide⟩, ?_⟩
        refine ⟨_, ps ++ [v % 27720], _, rfl, ?_, by simp [hl2], hp.app (Int.emod_nonneg _ (by decide)) (Int.emod_lt_of_pos _ (by decide))⟩
        rw [upd_upd, List.map_append]
        rfl
      · rintro σ H2 ⟨v, ps, u, rfl, rfl, hl2, hp⟩
        exact ⟨_, rfl, fin ps hl2 hp⟩
    · refine ⟨_, rfl, c, rfl, by omega, by omega, for_range (n := c.toNat) (fun j σ H2 => ∃ (v : Int) (ps : List Int) (u u1 u2 u3 : Option V), σ = [some (.ref a), some (.int i), some (.int c), some (.int v), some (.ref l), u, u1, u2, u3] ∧
        H2 = upd H l (.lst (ps.map V.int)) ∧ ps.length = j ∧ Pool ps) ⟨_, [], none, none, none, none, rfl, rfl, rfl, Pool.nil⟩ ?_ ?_⟩
      · rintro j σ H2 hj ⟨v, ps, u, u1, u2, u3, rfl, rfl, hl2, hp⟩
        refine ⟨_, rfl, _, _, rfl, rfl, .inr (by decide), _, rfl, _, _, rfl, rfl, _, _, rfl, rfl, .inr (by decide), _, _, rfl, rfl, _, rfl, _, _, rfl, rfl, .inr (by decide), _, _, rfl, rfl, _, _, rfl, rfl, .inl ⟨_, rfl, _, _, rfl, rfl, by show (0 : Int) < 2147483647; decide, ?_⟩⟩
        refine ⟨_, rfl, _, rfl, _, _, rfl, rfl, mulW (mod_sz (by decide) (by decide)) (mod_sz (by decide) (by decide)), _, rfl, _, _, rfl, rfl, .inr (by decide), _, _, rfl, rfl, _, rfl, _, _, rfl, rfl, .inl ⟨_, rfl, _, _, rfl, rfl, by show (0 : Int) < 2147483629; decide, ?_⟩⟩
        refine ⟨_, rfl, _, rfl, _, _, rfl, rfl, mulW (mod_sz (by decide) (by decide)) (mod_sz (by decide) (by decide)), _, rfl, _, _, rfl, rfl, .inl ⟨_, rfl, _, _, rfl, rfl, by show (0 : Int) < 2147483587; decide, ?_⟩⟩
        refine ⟨_, rfl, .inl ⟨rfl, _, SqL.of upd_same⟩, _, rfl, _, _, rfl, rfl, ⟨by decide, by decide⟩, .inl ⟨_, rfl, ?_⟩⟩
        refine ⟨_, _, rfl, rfl, by show (0 : Int) < 27720; decide, l, _, _, rfl, rfl, upd_same, small_int (by rw [len_map_int]; omega), ?_⟩
        exact ⟨_, ps ++ [_], _, _, _, _, rfl, upd_app, by simp [hl2], hp.app (Int.emod_nonneg _ (by decide)) (Int.emod_lt_of_pos _ (by decide))⟩
      · rintro σ H2 ⟨v, ps, u, u1, u2, u3, rfl, rfl, hl2, hp⟩
        exact ⟨_, rfl, fin ps hl2 hp⟩
def spOrderF {α : Type} (f : α → V) (K : PySem.W.Frag) : Sp := fun vs H Q _ => ∃ (n p : Addr) (ns : List α) (ps : List Int) (st : Int), vs = [.ref n, .ref p, .int st] ∧ SqL K H n (fv f ns) ∧ SqL K H p (ps.map V.int) ∧ ns.length ≤ 30 ∧ 0 ≤ st ∧ st + ns.length ≤ ps.length ∧ ∀ a os H', Same H H' → H a = none → H' a = some (.lst (fv f os)) → os.Perm ns → Q (.ref a) H'
theorem ok_orderF {α : Type} (f : α → V) (T : Txt P K mg A) : FnOk P w K mg base CX0 1 A.a_law_order A.d_law_order ["names", "pool", "start"] (spOrderF f K) := by
  refine T.F_law_order.ok sc_law_order (fun vs H Q E h => ?_) (fun cdv A' outer s H vs Q E hr h => ?_)
  · obtain ⟨n, p, ns, ps, st, rfl, _⟩ := h
    rfl
  · obtain ⟨n, p, ns, ps, st, rfl, hN, hP, hnl, hst, hpl, k⟩ := h
    refine ⟨_, (pss_cons (ps_set (i := 3) sc_law_order.nd rfl (Or.inl rfl) (pe_callTy (show CallR _ _ (rListOf K) from call_list_of) (by rfl) T.n_list (by decide +kernel) (pa_cons (pv 0) pa_nil)))
      (pss_cons (ps_set (i := 4) sc_law_order.nd rfl (Or.inl rfl) (pe_lst pa_nil))
      (pss_cons (ps_for PassesOwn.never rfl (pi_range1 (by rfl) T.n_range (pa_cons (pe_callB call_len_seq (by rfl) T.n_len (by decide +kernel) (pa_cons (pv 0) pa_nil)) pa_nil)) (pg_name (i := 5) sc_law_order.nd rfl (Or.inl rfl))
        (pss_cons (ps_set (i := 6) sc_law_order.nd rfl (Or.inl rfl) (pe_op op_mod (pe_callTy call_int1 (by rfl) T.n_int (by decide +kernel) (pa_cons (pe_ix ix_list (pv 1) (pe_op op_add (pv 2) (pv 5)) (fun _ _ => rfl)) pa_nil)) (pe_callB call_len_seq (by rfl) T.n_len (by decide +kernel) (pa_cons (pv 3) pa_nil))))
      (pss_cons (ps_expr (pe_bm PySem.F.plainAttrs_list PySem.F.slot_list_append PySem.F.type_list_append mt_append (pv 4) (pa_cons (pe_ix ix_list (pv 3) (pv 6) (fun _ _ => rfl)) pa_nil)))
      (pss_one (ps_set (i := 3) sc_law_order.nd rfl (Or.inl rfl) (pe_op op_cat (pe_slice sl_list (pv 3) po_none (po_some (pv 6))) (pe_slice sl_list (pv 3) (po_some (pe_op op_add (pv 6) pe_int)) po_none)))))))
      (pss_one (ps_ret (pv 4)))))), ?_⟩
    refine ⟨_, rfl, n, _, rfl, .inl hN, fun l0 hl0 => ?_⟩
    have s1 := same_new (o := .lst (fv f ns)) hl0
    refine ⟨by show 0 ≤ sizeLine; decide, fun o ho => ?_⟩
    have s2 := s1.trans (same_new (o := .lst []) ho)
    have ho' : H o = none := none_of s1 ho
    have hl1 : upd (upd H l0 (.lst (fv f ns))) o (.lst []) l0 = some (.lst (fv f ns)) := by rw [upd_ne (ne_of_none upd_same ho)]; exact upd_same
    refine ⟨_, rfl, n, _, rfl, .inl (s2.seq hN), _, rfl, by rw [fv_len]; omega, by rw [fv_len]; omega, ?_⟩
    have e1 : (((fv f ns).length : Nat) : Int).toNat = ns.length := by rw [fv_len, Int.toNat_natCast]
    refine for_range (n := (((fv f ns).length : Nat) : Int).toNat) (fun i σ H2 => Same H H2 ∧ ∃ (l : Addr) (ls os : List α) (u1 u2 : Option V), σ = [some (.ref n), some (.ref p), some (.int st), some (.ref l), some (.ref o), u1, u2] ∧ H l = none ∧ l ≠ o ∧ H2 l = some (.lst (fv f ls)) ∧ H2 o = some (.lst (fv f os)) ∧ (os ++ ls).Perm ns ∧ os.length = i)
      ⟨s2, l0, ns, [], none, none, rfl, hl0, ne_of_none upd_same ho, hl1, upd_same, .refl _, rfl⟩ ?_ ?_
    · rintro i σ H2 hi ⟨sm, l, ls, os, u1, u2, rfl, hl, hlo, h2, h3, hp, hi2⟩
      rw [e1] at hi
      have hlen := hp.length_eq
      rw [List.length_append] at hlen
      have hls : 0 < ls.length := by omega
      obtain ⟨v, hv, e⟩ := atI_ok (xs := ps) (j := st + (0 + (i : Int))) (by omega) (by omega)
      have hd : (0 : Int) < ((fv f ls).length : Nat) := by rw [fv_len]; omega
      have m0 := Int.emod_nonneg v (Int.ne_of_gt hd)
      have m1 := Int.emod_lt_of_pos v hd
      refine ⟨_, rfl, _, rfl, _, rfl, _, _, rfl, rfl, p, _, _, _, rfl, rfl, sm.seq hP, e, .inl ⟨_, rfl, _, rfl, l, _, rfl, .inl (SqL.of h2), _, _, rfl, rfl, hd, ?_⟩⟩
      obtain ⟨j, hj⟩ := Int.eq_ofNat_of_zero_le m0
      rw [hj] at m1
      rw [fv_len] at m1
      have hj2 : j < ls.length := by omega
      have hz : ls[j]? = some ls[j] := List.getElem?_eq_getElem hj2
      have ej : atI (fv f ls) (j : Int) = some (f ls[j]) := atI_nat (by rw [List.getElem?_map, hz]; rfl)
      refine ⟨_, rfl, .inl ⟨rfl, _, SqL.of h3⟩, _, rfl, _, rfl, l, _, _, _, rfl, rfl, SqL.of h2, by rw [hj]; exact ej, o, _, _, rfl, rfl, h3, small_int (by rw [fv_len]; omega), ?_⟩
      have hlo2 : upd H2 o (.lst (fv f os ++ [f ls[j]])) l = some (.lst (fv f ls)) := by rw [upd_ne hlo]; exact h2
      refine ⟨_, rfl, _, rfl, _, rfl, l, _, rfl, SqL.of hlo2, fun a ha => ?_⟩
      have hla : l ≠ a := ne_of_none hlo2 ha
      refine ⟨_, rfl, _, rfl, _, _, rfl, rfl, _, rfl, l, _, rfl, SqL.of (by rw [upd_ne hla]; exact hlo2), fun b hb => ?_⟩
      have ha2 : a ≠ b := ne_of_none upd_same hb
      refine ⟨a, b, _, _, rfl, rfl, by rw [upd_ne ha2]; exact upd_same, upd_same, ?_, fun c hc => ?_⟩
      · rw [hj, show ((j : Int) + 1) = ((j + 1 : Nat) : Int) by omega, cut_take (by rw [fv_len]; omega), cut_drop (by rw [fv_len]; omega)]
        have := fv_len (f := f) ls
        refine Nat.le_trans (m := 80) ?_ (by decide)
        rw [List.length_take, List.length_drop]; omega
      · rw [hj, cut_take (by rw [fv_len]; omega), fv_take] at hb
        rw [hj, show ((j : Int) + 1) = ((j + 1 : Nat) : Int) by omega] at hc ⊢
        rw [cut_take (by rw [fv_len]; omega), cut_drop (by rw [fv_len]; omega), fv_take, fv_drop] at hc ⊢
        rw [fv_app]
        have ob : o ≠ b := ne_of_none (show upd (upd H2 o _) a _ o = some _ by rw [upd_ne (ne_of_none upd_same ha)]; exact upd_same) hb
        have oa : o ≠ a := ne_of_none upd_same ha
        have oc : o ≠ c := ne_of_none (show upd (upd (upd H2 o _) a _) b _ o = some _ by rw [upd_ne ob, upd_ne oa]; exact upd_same) hc
        have sX : ∀ (x : Addr) (u : HO), H x = some u → upd (upd (upd H2 o (.lst (fv f os ++ [f ls[j]]))) a (.lst (fv f (ls.take j)))) b (.lst (fv f (ls.drop (j + 1)))) x = some u := fun x u hx => by
          have e2 := sm x u hx
          have e3 : upd H2 o (.lst (fv f os ++ [f ls[j]])) x = some u := by
            rw [upd_ne (fun z => by rw [z, ho'] at hx; cases hx)]; exact e2
          have e4 : upd (upd H2 o (.lst (fv f os ++ [f ls[j]]))) a (.lst (fv f (ls.take j))) x = some u := by rw [upd_ne (ne_of_none e3 ha)]; exact e3
          rw [upd_ne (ne_of_none e4 hb)]; exact e4
        refine ⟨fun x u hx => ?_, c, ls.take j ++ ls.drop (j + 1), os ++ [ls[j]], _, _, rfl, ?_, oc.symm, upd_same, ?_, ?_, ?_⟩
        · rw [upd_ne (ne_of_none (sX x u hx) hc)]; exact sX x u hx
        · cases e : H c with
          | none => rfl
          | some u => rw [sX _ _ e] at hc; cases hc
        · rw [upd_ne oc, upd_ne ob, upd_ne oa, upd_same, fv_snoc]
        · have := perm_pick hz
          rw [List.append_assoc, List.singleton_append]
          exact ((this.append_left os)).trans hp
        · rw [List.length_append, hi2]; rfl
    · rintro σ H2 ⟨sm, l, ls, os, u1, u2, rfl, hl, hlo, h2, h3, hp, hi2⟩
      rw [e1] at hi2
      have hlen := hp.length_eq
      rw [List.length_append] at hlen
      have : ls = [] := List.length_eq_zero_iff.mp (by omega)
      rw [this, List.append_nil] at hp
      exact ⟨_, rfl, k o os H2 sm ho' h3 hp⟩
def spRow (K : PySem.W.Frag) : Sp := fun vs H Q _ => ∃ (n h : Addr) (cs hs : List Str) (d : Int) (free : Bool), vs = [.ref n, .ref h, .int d, .bl free] ∧ SqL K H n (sv cs) ∧ SqL K H h (sv hs) ∧ cs.Nodup ∧ cs.length ≤ 12 ∧ hs.Perm cs ∧
  ∀ r ms H', Same H H' → H r = none → H' r = some (.lst (sv ms)) → RowOk cs ms → Q (.ref r) H'
theorem ok_row (T : Txt P K mg A) : FnOk P w K mg base CX0 1 A.a_law_row A.d_law_row ["names", "hidden", "draw", "free"] (spRow K) := by
  refine T.F_law_row.ok sc_law_row (fun vs H Q E h => ?_) (fun cdv A' outer s H vs Q E hr h => ?_)
  · obtain ⟨n, h, cs, hs, d, free, rfl, _⟩ := h
    rfl
  · obtain ⟨n, h, cs, hs, d, free, rfl, hN, hH, nd, hcl, hp, k⟩ := h
    refine ⟨_, (pss_cons (ps_set (i := 4) sc_law_row.nd rfl (Or.inl rfl) (pe_lst pa_nil))
      (pss_cons (ps_if (pt_val (pv 3)) (pss_cons (ps_for PassesOwn.never rfl (pi_list (pv 0)) (pg_name (i := 5) sc_law_row.nd rfl (Or.inl rfl))
        (pss_cons (ps_if (pt_cmpR op_eq (pe_op op_mod (pe_callTy call_int1 (by rfl) T.n_int (by decide +kernel) (pa_cons (pv 2) pa_nil)) pe_int) pe_int (nomark _)) (pss_one (ps_expr (pe_bm PySem.F.plainAttrs_list PySem.F.slot_list_append PySem.F.type_list_append mt_append (pv 4) (pa_cons (pv 5) pa_nil)))) pss_nil)
      (pss_one (ps_set (i := 2) sc_law_row.nd rfl (Or.inl rfl) (pe_op op_fdiv (pv 2) pe_int)))))
      (pss_one (ps_ret (pv 4)))) pss_nil)
      (pss_cons (ps_set (i := 6) sc_law_row.nd rfl (Or.inl rfl) (pe_op op_add (pe_callB call_len_seq (by rfl) T.n_len (by decide +kernel) (pa_cons (pv 1) pa_nil)) pe_int))
      (pss_cons (ps_set (i := 7) sc_law_row.nd rfl (Or.inl rfl) (pe_op op_mod (pe_callTy call_int1 (by rfl) T.n_int (by decide +kernel) (pa_cons (pv 2) pa_nil)) (pv 6)))
      (pss_cons (ps_set (i := 8) sc_law_row.nd rfl (Or.inl rfl) (pe_op op_mod (pe_callTy call_int1 (by rfl) T.n_int (by decide +kernel) (pa_cons (pe_op op_fdiv (pv 2) pe_int) pa_nil)) (pv 6)))
      (pss_cons (ps_set (i := 4) sc_law_row.nd rfl (Or.inl rfl) (pe_slice sl_list (pv 1) (po_some (pv 7)) (po_some (pe_op op_add (pv 7) (pv 8)))))
      (pss_cons (ps_set (i := 9) sc_law_row.nd rfl (Or.inl rfl) (pe_op op_mod (pe_callTy call_int1 (by rfl) T.n_int (by decide +kernel) (pa_cons (pe_op op_fdiv (pv 2) pe_int) pa_nil)) (pv 6)))
      (pss_one (ps_ret (pe_op op_cat (pe_slice sl_list (pv 4) (po_some (pv 9)) po_none) (pe_slice sl_list (pv 4) po_none (po_some (pv 9))))))))))))), ?_⟩
    have hhl : hs.length ≤ 12 := by rw [hp.length_eq]; exact hcl
    refine ⟨by show 0 ≤ sizeLine; decide, fun a ha => ?_⟩
    have sa := same_new (o := .lst []) ha
    refine ⟨_, rfl, _, rfl, ?_⟩
    cases free with
    | true =>
      refine ifT rfl ?_
      refine ⟨_, rfl, n, rfl, ⟨_, sa.seq hN⟩, for_it walk_list (fun j σ H4 => Same H H4 ∧ ∃ (ys : List Str) (lf : Int) (u u1 u2 u3 u4 : Option V), σ = [some (.ref n), some (.ref h), some (.int lf), some (.bl true), some (.ref a), u, u1, u2, u3, u4] ∧ H4 a = some (.lst (sv ys)) ∧ ys.Sublist (cs.take j))
        ⟨sa, [], d, none, none, none, none, none, rfl, upd_same, List.nil_sublist _⟩ (fun j σ H4 _ q => q.1.seq hN) ?_ ?_⟩
      · rintro j x σ H40 H4 hi ⟨s4, ys, lf, u, u1, u2, u3, u4, rfl, h4, hys⟩ ⟨rfl, hx⟩
        obtain ⟨z, hz, rfl⟩ := sv_get hx
        have hyl := hys.length_le
        rw [List.length_take] at hyl
        refine ⟨_, rfl, .inl ⟨_, rfl, _, _, rfl, rfl, by show (0 : Int) < 2; decide, rfl, _, rfl, ite2 (fun hb => ?_) (fun hb => ?_)⟩⟩
        · refine ⟨_, rfl, .inl ⟨rfl, _, SqL.of h4⟩, _, rfl, a, _, _, rfl, rfl, h4, small_int (by rw [len_sv]; omega), ?_⟩
          refine ⟨_, rfl, _, _, rfl, rfl, ⟨by decide, by decide⟩, fun c' o' e => ?_, ys ++ [z], _, _, _, _, _, _, rfl, ?_, ?_⟩
          · rw [upd_ne (ne_of_none e ha)]; exact s4 _ _ e
          · rw [sv_snoc']; exact upd_same
          · rw [take_succ hz]; exact hys.append (List.Sublist.refl _)
        · refine ⟨_, rfl, _, _, rfl, rfl, ⟨by decide, by decide⟩, s4, ys, _, _, _, _, _, _, rfl, h4, ?_⟩
          rw [take_succ hz]; exact hys.trans (List.sublist_append_left _ _)
      rintro σ H4 ⟨s4, ys, lf, u, u1, u2, u3, u4, rfl, h4, hys⟩
      rw [len_sv, List.take_length] at hys
      exact ⟨_, rfl, k a ys H4 s4 ha h4 ⟨hys.nodup nd, fun y hy => hys.subset hy⟩⟩
    | false =>
      refine ifF rfl ?_
      have lp : (0 : Int) < ((sv hs).length : Int) + 1 := by omega
      refine ⟨_, rfl, h, _, rfl, .inl (sa.seq hH), _, _, rfl, rfl, ?_⟩
      refine ⟨_, rfl, .inl ⟨_, rfl, _, rfl, _, _, rfl, rfl, lp, ?_⟩⟩
      refine ⟨_, rfl, _, _, rfl, rfl, ⟨by decide, by decide⟩, .inl ⟨_, rfl, _, rfl, _, _, rfl, rfl, lp, ?_⟩⟩
      obtain ⟨zs, e, hzs⟩ := cut_sv hs (some (d % (((sv hs).length : Int) + 1))) (some (d % (((sv hs).length : Int) + 1) + d / 13 % (((sv hs).length : Int) + 1)))
      refine ⟨_, rfl, _, rfl, _, rfl, _, rfl, _, rfl, _, _, rfl, rfl, _, rfl, h, _, rfl, sa.seq hH, fun b hb => ?_⟩
      have s2 := sa.trans (same_new (o := .lst (cutV (sv hs) (some (d % (((sv hs).length : Int) + 1))) (some (d % (((sv hs).length : Int) + 1) + d / 13 % (((sv hs).length : Int) + 1))))) hb)
      rw [e] at s2
      refine ⟨_, rfl, _, _, rfl, rfl, ⟨by decide, by decide⟩, .inl ⟨_, rfl, _, rfl, _, _, rfl, rfl, lp, ?_⟩⟩
      obtain ⟨c, hc⟩ := Int.eq_ofNat_of_zero_le (Int.emod_nonneg (d / 169) (Int.ne_of_gt lp))
      have hb2 : upd (upd H a (.lst [])) b (.lst (sv zs)) b = some (.lst (sv zs)) := upd_same
      refine ⟨_, rfl, _, rfl, _, rfl, b, _, rfl, SqL.of (by rw [e]; exact hb2), fun p hp2 => ?_⟩
      have hbp : b ≠ p := ne_of_none upd_same hp2
      rw [e] at hp2
      have s3 := s2.trans (same_new (o := .lst (sv (zs.drop c))) hp2)
      refine ⟨_, rfl, _, rfl, _, rfl, b, _, rfl, SqL.of (by rw [upd_ne hbp, e]; exact hb2), fun q hq => ?_⟩
      have hpq : p ≠ q := ne_of_none upd_same hq
      rw [e, hc, cut_dropG, sv_drop] at hq
      have s4 := s3.trans (same_new (o := .lst (sv (zs.take c))) hq)
      refine ⟨p, q, _, _, rfl, rfl, by rw [upd_ne hpq]; exact upd_same, upd_same, ?_, fun t ht => ?_⟩
      · rw [hc, cut_dropG, cut_takeG]
        have := hzs.length_le
        refine Nat.le_trans (m := 24) ?_ (by decide)
        rw [List.length_drop, List.length_take, len_sv]; omega
      · rw [e, hc, cut_dropG, cut_takeG, sv_drop, sv_take] at ht ⊢
        have s5 := s4.trans (same_new (o := .lst (sv (zs.drop c ++ zs.take c))) ht)
        rw [sv_app]
        have pr := rot_perm zs c
        refine k t _ _ s5 (none_of s4 ht) upd_same ⟨pr.nodup_iff.mpr (hzs.nodup (hp.nodup_iff.mpr nd)), fun y hy => hp.mem_iff.mp (hzs.subset (pr.mem_iff.mp hy))⟩
def spNames : Sp := fun vs H Q _ => ∃ (n : Nat) (sd : Int), vs = [.int (n : Nat), .int sd] ∧ n ≤ 12 ∧ ∀ D ns H', Same H H' → H' D = some (.lst (sv ns)) → ns.length = n → Nms ns → Q (.ref D) H'
theorem ok_names (T : Txt P K mg A) : FnOk P w K mg base CX0 1 A.a_law_names A.d_law_names ["count", "seed"] spNames := by
  refine T.F_law_names.ok sc_law_names (fun vs H Q E h => ?_) (fun cdv A' outer s H vs Q E hr h => ?_)
  · obtain ⟨n, sd, rfl, _⟩ := h
    rfl
  · obtain ⟨n, sd, rfl, hn, k⟩ := h
    refine ⟨_, (pss_cons (ps_if (pt_cmpR op_gt (pe_op op_mod (pe_callTy call_int1 (by rfl) T.n_int (by decide +kernel) (pa_cons (pv 1) pa_nil)) pe_int) pe_int (nomark _)) (pss_cons (ps_set (i := 2) sc_law_names.nd rfl (Or.inl rfl) (pe_lst (pa_cons pe_str (pa_cons pe_str (pa_cons pe_str (pa_cons pe_str (pa_cons pe_str (pa_cons pe_str (pa_cons pe_str (pa_cons pe_str (pa_cons pe_str (pa_cons pe_str (pa_cons pe_str (pa_cons pe_str pa_nil))))))))))))))
      (pss_cons (ps_if (pt_cmpR op_eq (pe_op op_mod (pe_callTy call_int1 (by rfl) T.n_int (by decide +kernel) (pa_cons (pv 1) pa_nil)) pe_int) pe_int (nomark _)) (pss_one (ps_set (i := 2) sc_law_names.nd rfl (Or.inl rfl) (pe_lst (pa_cons pe_str (pa_cons pe_str (pa_cons pe_str (pa_cons pe_str (pa_cons pe_str (pa_cons pe_str (pa_cons pe_str (pa_cons pe_str (pa_cons pe_str (pa_cons pe_str (pa_cons pe_str (pa_cons pe_str pa_nil))))))))))))))) pss_nil)
      (pss_cons (ps_set (i := 3) sc_law_names.nd rfl (Or.inl rfl) (pe_op op_mod (pe_callTy call_int1 (by rfl) T.n_int (by decide +kernel) (pa_cons (pe_op op_fdiv (pv 1) pe_int) pa_nil)) pe_int))
      (pss_one (ps_ret (pe_slice sl_list (pe_op op_cat (pe_slice sl_list (pv 2) (po_some (pv 3)) po_none) (pe_slice sl_list (pv 2) po_none (po_some (pv 3)))) po_none (po_some (pv 0)))))))) pss_nil)
      (pss_cons (ps_set (i := 4) sc_law_names.nd rfl (Or.inl rfl) (pe_lst pa_nil))
      (pss_cons (ps_for PassesOwn.never rfl (pi_range1 (by rfl) T.n_range (pa_cons (pv 0) pa_nil)) (pg_name (i := 5) sc_law_names.nd rfl (Or.inl rfl))
        (pss_cons (ps_set (i := 6) sc_law_names.nd rfl (Or.inl rfl) (pe_ix ix_str pe_str (pe_op op_mod (pe_callTy call_int1 (by rfl) T.n_int (by decide +kernel) (pa_cons (pe_op op_add (pe_op op_mul (pv 5) pe_int) (pv 1)) pa_nil)) pe_int) (fun _ _ => rfl)))
      (pss_cons (ps_set (i := 7) sc_law_names.nd rfl (Or.inl rfl) (pe_op op_mulS (pe_ix ix_str pe_str (pe_op op_mod (pe_callTy call_int1 (by rfl) T.n_int (by decide +kernel) (pa_cons (pe_op op_add (pe_op op_fdiv (pv 1) pe_int) (pv 5)) pa_nil)) pe_int) (fun _ _ => rfl)) (pe_op op_mod (pe_callTy call_int1 (by rfl) T.n_int (by decide +kernel) (pa_cons (pe_op op_add (pe_op op_fdiv (pv 1) pe_int) (pe_op op_mul (pv 5) pe_int)) pa_nil)) pe_int)))
      (pss_cons (ps_set (i := 8) sc_law_names.nd rfl (Or.inl rfl) (pe_op op_mulS (pe_ix ix_str pe_str (pe_op op_mod (pe_callTy call_int1 (by rfl) T.n_int (by decide +kernel) (pa_cons (pe_op op_add (pe_op op_fdiv (pv 1) pe_int) (pe_op op_mul (pv 5) pe_int)) pa_nil)) pe_int) (fun _ _ => rfl)) (pe_op op_mod (pe_callTy call_int1 (by rfl) T.n_int (by decide +kernel) (pa_cons (pe_op op_add (pe_op op_fdiv (pv 1) pe_int) (pv 5)) pa_nil)) pe_int)))
      (pss_cons (ps_if (pt_cmpR op_eq (pe_op op_mod (pe_callTy call_int1 (by rfl) T.n_int (by decide +kernel) (pa_cons (pv 1) pa_nil)) pe_int) pe_int (nomark _)) (pss_cons (ps_set (i := 7) sc_law_names.nd rfl (Or.inl rfl) (pe_op op_mulS pe_str (pe_op op_mod (pe_callTy call_int1 (by rfl) T.n_int (by decide +kernel) (pa_cons (pe_op op_fdiv (pv 1) pe_int) pa_nil)) pe_int)))
      (pss_one (ps_set (i := 8) sc_law_names.nd rfl (Or.inl rfl) (pe_op op_mulS pe_str (pe_op op_mod (pe_callTy call_int1 (by rfl) T.n_int (by decide +kernel) (pa_cons (pe_op op_fdiv (pv 1) pe_int) pa_nil)) pe_int))))) pss_nil)
      (pss_one (ps_expr (pe_bm PySem.F.plainAttrs_list PySem.F.slot_list_append PySem.F.type_list_append mt_append (pv 4) (pa_cons (pe_op op_add_str (pe_op op_add_str (pv 7) (pv 6)) (pv 8)) pa_nil)))))))))
      (pss_one (ps_ret (pv 4)))))), ?_⟩
    refine ⟨_, rfl, .inl ⟨_, rfl, _, _, rfl, rfl, by show (0 : Int) < 6; decide, _, _, rfl, rfl, _, rfl, ite2 (fun hb => ?_) (fun hb => ?_)⟩⟩
    · refine ⟨by show 12 ≤ sizeLine; decide, fun a0 ha0 => ?_⟩
      have s1 := same_new (o := .lst (sv W1)) ha0
      refine ⟨_, rfl, .inl ⟨_, rfl, _, _, rfl, rfl, by show (0 : Int) < 6; decide, rfl, _, rfl, ite2 (fun hb2 => ?_) (fun hb2 => ?_)⟩⟩
      · refine ⟨by show 12 ≤ sizeLine; decide, fun a ha => ?_⟩
        have s2 := s1.trans (same_new (o := .lst (sv W2)) ha)
        refine ⟨_, rfl, _, _, rfl, rfl, ⟨by decide, by decide⟩, .inl ⟨_, rfl, _, _, rfl, rfl, by show (0 : Int) < 12; decide, ?_⟩⟩
        obtain ⟨c, hc⟩ := Int.eq_ofNat_of_zero_le (Int.emod_nonneg (sd / 6) (show (12 : Int) ≠ 0 by decide))
        refine ⟨_, rfl, _, rfl, _, rfl, a, _, rfl, SqL.of upd_same, fun p hp2 => ?_⟩
        have hbp : a ≠ p := ne_of_none upd_same hp2
        have hp3 := hp2
        have s3 := s2.trans (same_new (o := .lst (cutV (sv W2) (some (sd / 6 % 12)) none)) hp2)
        refine ⟨_, rfl, _, rfl, _, rfl, a, _, rfl, SqL.of (by rw [upd_ne hbp]; exact upd_same), fun q hq => ?_⟩
        have hpq : p ≠ q := ne_of_none upd_same hq
        have s4 := s3.trans (same_new (o := .lst (cutV (sv W2) none (some (sd / 6 % 12)))) hq)
        refine ⟨p, q, _, _, rfl, rfl, by rw [upd_ne hpq]; exact upd_same, upd_same, ?_, fun t ht => ?_⟩
        · rw [hc, cut_dropG, cut_takeG]
          refine Nat.le_trans (m := 24) ?_ (by decide)
          rw [List.length_drop, List.length_take]
          show 12 - c + min c 12 ≤ 24
          omega
        · have s5 := s4.trans (same_new (o := .lst (cutV (sv W2) (some (sd / 6 % 12)) none ++ cutV (sv W2) none (some (sd / 6 % 12)))) ht)
          refine ⟨_, rfl, _, rfl, t, _, rfl, SqL.of upd_same, fun r hr2 => ?_⟩
          have s6 := s5.trans (same_new (o := .lst (cutV (cutV (sv W2) (some (sd / 6 % 12)) none ++ cutV (sv W2) none (some (sd / 6 % 12))) none (some (n : Int)))) hr2)
          have eL : cutV (cutV (sv W2) (some (sd / 6 % 12)) none ++ cutV (sv W2) none (some (sd / 6 % 12))) none (some (n : Int)) = sv ((((W2).drop c) ++ (W2).take c).take n) := by
            rw [hc, cut_dropG, cut_takeG, cut_takeG, sv_drop, sv_take, sv_app, sv_take]
          have pr := rot_perm W2 c
          refine k r _ _ s6 (by rw [← eL]; exact upd_same) ?_ ?_
          · rw [List.length_take, pr.length_eq, show (W2).length = 12 from rfl]; omega
          · exact w2_ok.sub pr (List.take_sublist _ _)
      · have a := a0
        have s2 := s1
        refine ⟨_, rfl, _, _, rfl, rfl, ⟨by decide, by decide⟩, .inl ⟨_, rfl, _, _, rfl, rfl, by show (0 : Int) < 12; decide, ?_⟩⟩
        obtain ⟨c, hc⟩ := Int.eq_ofNat_of_zero_le (Int.emod_nonneg (sd / 6) (show (12 : Int) ≠ 0 by decide))
        refine ⟨_, rfl, _, rfl, _, rfl, a0, _, rfl, SqL.of upd_same, fun p hp2 => ?_⟩
        have hbp : a0 ≠ p := ne_of_none upd_same hp2
        have hp3 := hp2
        have s3 := s2.trans (same_new (o := .lst (cutV (sv W1) (some (sd / 6 % 12)) none)) hp2)
        refine ⟨_, rfl, _, rfl, _, rfl, a0, _, rfl, SqL.of (by rw [upd_ne hbp]; exact upd_same), fun q hq => ?_⟩
        have hpq : p ≠ q := ne_of_none upd_same hq
        have s4 := s3.trans (same_new (o := .lst (cutV (sv W1) none (some (sd / 6 % 12)))) hq)
        refine ⟨p, q, _, _, rfl, rfl, by rw [upd_ne hpq]; exact upd_same, upd_same, ?_, fun t ht => ?_⟩
        · rw [hc, cut_dropG, cut_takeG]
          refine Nat.le_trans (m := 24) ?_ (by decide)
          rw [List.length_drop, List.length_take]
          show 12 - c + min c 12 ≤ 24
          omega
        · have s5 := s4.trans (same_new (o := .lst (cutV (sv W1) (some (sd / 6 % 12)) none ++ cutV (sv W1) none (some (sd / 6 % 12)))) ht)
          refine ⟨_, rfl, _, rfl, t, _, rfl, SqL.of upd_same, fun r hr2 => ?_⟩
          have s6 := s5.trans (same_new (o := .lst (cutV (cutV (sv W1) (some (sd / 6 % 12)) none ++ cutV (sv W1) none (some (sd / 6 % 12))) none (some (n : Int)))) hr2)
          have eL : cutV (cutV (sv W1) (some (sd / 6 % 12)) none ++ cutV (sv W1) none (some (sd / 6 % 12))) none (some (n : Int)) = sv ((((W1).drop c) ++ (W1).take c).take n) := by
            rw [hc, cut_dropG, cut_takeG, cut_takeG, sv_drop, sv_take, sv_app, sv_take]
          have pr := rot_perm W1 c
          refine k r _ _ s6 (by rw [← eL]; exact upd_same) ?_ ?_
          · rw [List.length_take, pr.length_eq, show (W1).length = 12 from rfl]; omega
          · exact w1_ok.sub pr (List.take_sublist _ _)
    · refine ⟨by show 0 ≤ sizeLine; decide, fun D hD => ?_⟩
      have s0 := same_new (o := .lst []) hD
      refine ⟨_, rfl, _, rfl, by omega, by omega, for_range (n := ((n : Nat) : Int).toNat) (fun i σ H2 => Same H H2 ∧ ∃ (ns : List Str) (u1 u2 u3 u4 : Option V), σ = [some (.int (n : Nat)), some (.int sd), none, none, some (.ref D), u1, u2, u3, u4] ∧ H2 D = some (.lst (sv ns)) ∧ Mades sd ns ∧ ns.length = i)
        ⟨s0, [], none, none, none, none, rfl, upd_same, (fun t z e => by simp at e), rfl⟩ ?_ ?_⟩
      · rintro i σ H2 hi ⟨sm, ns, u1, u2, u3, u4, rfl, hd2, hM, hl⟩
        have c0 := Int.emod_nonneg ((0 + (i : Int)) * 5 + sd) (show (12 : Int) ≠ 0 by decide)
        have c1 := Int.emod_lt_of_pos ((0 + (i : Int)) * 5 + sd) (show (0 : Int) < 12 by decide)
        have a0 := Int.emod_nonneg (sd / 12 + (0 + (i : Int))) (show (14 : Int) ≠ 0 by decide)
        have a1 := Int.emod_lt_of_pos (sd / 12 + (0 + (i : Int))) (show (0 : Int) < 14 by decide)
        have b0 := Int.emod_nonneg (sd / 7 + (0 + (i : Int)) * 3) (show (14 : Int) ≠ 0 by decide)
        have b1 := Int.emod_lt_of_pos (sd / 7 + (0 + (i : Int)) * 3) (show (0 : Int) < 14 by decide)
        have m0 := Int.emod_nonneg (sd / 5 + (0 + (i : Int)) * 2) (show (3 : Int) ≠ 0 by decide)
        have m1 := Int.emod_lt_of_pos (sd / 5 + (0 + (i : Int)) * 2) (show (0 : Int) < 3 by decide)
        have n0 := Int.emod_nonneg (sd / 11 + (0 + (i : Int))) (show (4 : Int) ≠ 0 by decide)
        have n1 := Int.emod_lt_of_pos (sd / 11 + (0 + (i : Int))) (show (0 : Int) < 4 by decide)
        have p0 := Int.emod_nonneg (sd / 2) (show (3 : Int) ≠ 0 by decide)
        have p1 := Int.emod_lt_of_pos (sd / 2) (show (0 : Int) < 3 by decide)
        have q0 := Int.emod_nonneg (sd / 6) (show (3 : Int) ≠ 0 by decide)
        have q1 := Int.emod_lt_of_pos (sd / 6) (show (0 : Int) < 3 by decide)
        refine ⟨_, rfl, _, _, rfl, rfl, .inr (by decide), _, rfl, _, _, rfl, rfl, .inl ⟨_, rfl, _, _, rfl, rfl, by show (0 : Int) < 12; decide, _, _, _, rfl, rfl, core_len, core_at c0 c1, ?_⟩⟩
        refine ⟨_, rfl, _, _, rfl, rfl, ⟨by decide, by decide⟩, _, rfl, _, _, rfl, rfl, .inl ⟨_, rfl, _, _, rfl, rfl, by show (0 : Int) < 14; decide, _, _, _, rfl, rfl, left_len, left_at a0 a1, ?_⟩⟩
        refine ⟨_, rfl, _, _, rfl, rfl, ⟨by decide, by decide⟩, _, rfl, _, _, rfl, rfl, .inr (by decide), _, _, rfl, rfl, .inl ⟨_, rfl, _, _, rfl, rfl, by show (0 : Int) < 3; decide, _, _, rfl, rfl, mulOk1 _ m0 (by omega), ?_⟩⟩
        refine ⟨_, rfl, _, _, rfl, rfl, ⟨by decide, by decide⟩, _, rfl, _, _, rfl, rfl, .inr (by decide), _, _, rfl, rfl, .inl ⟨_, rfl, _, _, rfl, rfl, by show (0 : Int) < 14; decide, _, _, _, rfl, rfl, right_len, right_at b0 b1, ?_⟩⟩
        refine ⟨_, rfl, _, _, rfl, rfl, ⟨by decide, by decide⟩, _, rfl, _, _, rfl, rfl, .inl ⟨_, rfl, _, _, rfl, rfl, by show (0 : Int) < 4; decide, _, _, rfl, rfl, mulOk1 _ n0 (by omega), ?_⟩⟩
        have sl := side1 (c := 109 + ((sd / 12 + (0 + (i : Int))) % 14).toNat) (n := (sd / 5 + (0 + (i : Int)) * 2) % 3) (by omega) (by omega) m0 (by omega)
        have sr := side1 (c := 122 - ((sd / 7 + (0 + (i : Int)) * 3) % 14).toNat) (n := (sd / 11 + (0 + (i : Int))) % 4) (by omega) (by omega) n0 (by omega)
        have ecore : ((0 + (i : Int)) * 5 + sd) % 12 = ((ns.length : Int) * 5 + sd) % 12 := by rw [hl, Int.zero_add]
        have fin : ∀ (l r : Str), Side l → Side r → l.length + 1 ≤ sizeLine ∧ (l ++ l1 (97 + (((0 + (i : Int)) * 5 + sd) % 12).toNat)).length + r.length ≤ sizeLine ∧ Mades sd (ns ++ [l ++ l1 (97 + (((0 + (i : Int)) * 5 + sd) % 12).toNat) ++ r]) := fun l r hl2 hr2 => by
          have x1 := hl2.2
          have x2 := hr2.2
          refine ⟨Nat.le_trans (m := 24) (by omega) (by decide), Nat.le_trans (m := 24) ?_ (by decide), hM.app ?_⟩
          · rw [Str.length_append, show (l1 (97 + (((0 + (i : Int)) * 5 + sd) % 12).toNat)).length = 1 from rfl]; omega
          · rw [← ecore]; exact made_of hl2 hr2 (by omega) (by omega)
        refine ⟨_, rfl, .inl ⟨_, rfl, _, _, rfl, rfl, by show (0 : Int) < 2; decide, rfl, _, rfl, ite2 (fun hb2 => ?_) (fun hb2 => ?_)⟩⟩
        · refine ⟨_, rfl, _, _, rfl, rfl, ⟨by decide, by decide⟩, .inl ⟨_, rfl, _, _, rfl, rfl, by show (0 : Int) < 3; decide, _, _, rfl, rfl, by rw [em]; exact mulOk1 _ p0 (by omega), ?_⟩⟩
          refine ⟨_, rfl, _, _, rfl, rfl, ⟨by decide, by decide⟩, .inl ⟨_, rfl, _, _, rfl, rfl, by show (0 : Int) < 3; decide, _, _, rfl, rfl, by rw [ez]; exact mulOk1 _ q0 (by omega), ?_⟩⟩
          have sl2 := side1 (c := 109) (n := sd / 2 % 3) (by omega) (by omega) p0 (by omega)
          have sr2 := side1 (c := 122) (n := sd / 6 % 3) (by omega) (by omega) q0 (by omega)
          rw [← em] at sl2
          rw [← ez] at sr2
          obtain ⟨f1, f2, f3⟩ := fin _ _ sl2 sr2
          refine ⟨_, rfl, .inl ⟨rfl, _, SqL.of hd2⟩, _, rfl, _, rfl, _, _, rfl, rfl, f1, _, rfl, _, _, rfl, rfl, f2, D, _, _, rfl, rfl, hd2, small_int (by rw [len_sv]; omega), ?_⟩
          refine ⟨fun x u e => ?_, _, _, _, _, _, rfl, ?_, f3, by rw [List.length_append, hl]; rfl⟩
          · rw [upd_ne (ne_of_none e hD)]; exact sm _ _ e
          · rw [sv_snoc']; exact upd_same
        · obtain ⟨f1, f2, f3⟩ := fin _ _ sl sr
          refine ⟨_, rfl, .inl ⟨rfl, _, SqL.of hd2⟩, _, rfl, _, rfl, _, _, rfl, rfl, f1, _, rfl, _, _, rfl, rfl, f2, D, _, _, rfl, rfl, hd2, small_int (by rw [len_sv]; omega), ?_⟩
          refine ⟨fun x u e => ?_, _, _, _, _, _, rfl, ?_, f3, by rw [List.length_append, hl]; rfl⟩
          · rw [upd_ne (ne_of_none e hD)]; exact sm _ _ e
          · rw [sv_snoc']; exact upd_same
      · rintro σ H2 ⟨sm, ns, u1, u2, u3, u4, rfl, hd2, hM, hl⟩
        rw [Int.toNat_natCast] at hl
        exact ⟨_, rfl, k D ns H2 sm hd2 hl (hM.nms (by omega))⟩
def spIsNum : Sp := fun vs H Q _ => ∃ (v a b : Int), vs = [.int v, .int a, .int b] ∧ Q (.bl (decide (a ≤ v ∧ v ≤ b))) H
theorem ok_isNum (T : Txt P K mg A) : FnOk P w K mg base CX0 1 A.a_law_is_number A.d_law_is_number ["value", "least", "most"] spIsNum := by
  refine T.F_law_is_number.ok sc_law_is_number (fun vs H Q E h => ?_) (fun cdv A' outer s H vs Q E hr h => ?_)
  · obtain ⟨v, a, b, rfl, _⟩ := h
    rfl
  · obtain ⟨v, a, b, rfl, k⟩ := h
    refine ⟨_, (pss_one (ps_ret (pe_and (pe_callB call_isi (by rfl) T.n_isinstance (by decide +kernel) (pa_cons (pv 0) (pa_cons (pe_bltn (v := .ty "int") (by rfl) T.n_int (by decide +kernel) rfl) pa_nil))) (pe_and (pe_not (pe_callB call_isi (by rfl) T.n_isinstance (by decide +kernel) (pa_cons (pv 0) (pa_cons (pe_bltn (v := .ty "bool") (by rfl) T.n_bool (by decide +kernel) rfl) pa_nil)))) (pe_and (pe_cmpR op_le (pv 1) (pv 0) (nomark _)) (pe_one (pe_cmpR op_le (pv 0) (pv 2) (nomark _)))))))), ?_⟩
    refine ⟨_, rfl, _, _, _, _, true, rfl, .ty _, .base (.int _), kit_ty (by decide +kernel), true, rfl, iteT ?_⟩
    refine ⟨_, rfl, _, _, _, _, false, rfl, .ty _, .base (.int _), kit_ty (by decide +kernel), false, rfl, true, rfl, iteT ?_⟩
    refine ⟨_, rfl, _, rfl, _, _, rfl, rfl, _, rfl, ?_⟩
    by_cases h1 : a ≤ v
    · refine itY h1 ⟨_, rfl, _, rfl, _, _, rfl, rfl, ?_⟩
      rw [show decide (a ≤ v ∧ v ≤ b) = decide (v ≤ b) from decide_eq_decide.mpr ⟨fun h => h.2, fun h => ⟨h1, h⟩⟩] at k
      exact k
    · refine itN h1 ?_
      rw [decide_eq_false (fun h => h1 h.1)] at k
      exact k
end
end My
set_option maxRecDepth 100000
set_option maxHeartbeats 4000000
set_option exponentiation.threshold 10000
namespace My
open PySem L2
open C8 (pss_cut)
/-- a list laid here -/
abbrev Ll (H : Hp) (t : Addr) (xs : List V) : Prop := H t = some (.lst xs)
theorem Lz.same {H H' : Hp} {ts : List Addr} {rs : List (List Int)} (h : Lz Ll H ts rs) (s : Same H H') : Lz Ll H' ts rs := h.imp fun t x q => s _ _ q
theorem catO {H : Hp} {a b : Addr} {xs ys : List V} {Q : VK} (ha : H a = some (.lst xs)) (hb : H b = some (.lst ys)) (hl : xs.length + ys.length ≤ 1000000) (h : ∀ c H', Same H H' → H c = none → H' c = some (.lst (xs ++ ys)) → Q (.ref c) H') : rCat (.ref a) (.ref b) H Q :=
  ⟨a, b, xs, ys, rfl, rfl, ha, hb, Nat.le_trans hl (by decide), fun t ht => h t _ (same_new ht) ht upd_same⟩
def lw (k s : Int) : Int := if k = 1 then s + 2 else if k = 2 ∨ k = 3 then s + 3 else if k = 4 then 6 else 5
theorem lw_ok {k s : Int} (h : okKS k s = true) : w2 k s = lw k s := w2_is h
theorem rgV_0 {s : Int} (h : 0 ≤ s) : rgV 0 (s + 1) = ivs (0 :: rg s.toNat) := by
  unfold rgV rg ivs
  rw [show (s + 1 - 0).toNat = s.toNat + 1 by omega, List.range_succ_eq_map, List.map_cons, List.map_map, List.map_cons, List.map_map]
  congr 1
  refine List.map_congr_left fun i _ => ?_
  show V.int (0 + ((i + 1 : Nat) : Int)) = V.int (1 + ((i : Nat) : Int))
  congr 1; omega
theorem rgV_13 {s : Int} (h : 0 ≤ s) : rgV 1 (s + 3) = ivs (rg s.toNat ++ [s + 1, s + 2]) := by
  unfold rgV rg ivs
  rw [show (s + 3 - 1).toNat = s.toNat + 1 + 1 by omega, List.range_succ, List.range_succ, List.map_append, List.map_append, List.map_append, List.map_map]
  have e : ((s.toNat : Nat) : Int) = s := by omega
  simp [e]
  rw [show 1 + s = s + 1 by omega, show 1 + (s + 1) = s + 2 by omega]
  rfl
section
variable {P : Program} {w : World} {K : PySem.W.Frag} {mg : Str → Option Value} {base : Heap} {A : Ad}
def spLWidth : Sp := fun vs H Q _ => ∃ k s, vs = [.int k, .int s] ∧ 1 ≤ k ∧ k ≤ 5 ∧ ∀ H', Same H H' → Q (.int (lw k s)) H'
theorem ok_lwidth (T : Txt P K mg A) : FnOk P w K mg base CX0 1 A.a_law_width A.d_law_width ["kind", "size"] spLWidth := by
  refine T.F_law_width.ok sc_law_width (fun vs H Q E h => ?_) (fun cdv A' outer s0 H vs Q E hr h => ?_)
  · obtain ⟨k, s, rfl, _⟩ := h
    rfl
  · obtain ⟨k, s, rfl, h1, h5, kk⟩ := h
    refine ⟨_, (pss_one (ps_ret (pe_ix ix_list (pe_lst (pa_cons pe_int (pa_cons (pe_op op_add (pv 1) pe_int) (pa_cons (pe_op op_add (pv 1) pe_int) (pa_cons (pe_op op_add (pv 1) pe_int) (pa_cons pe_int (pa_cons pe_int pa_nil))))))) (pv 0) (fun _ _ => rfl)))), ?_⟩
    refine ⟨_, rfl, _, _, rfl, rfl, _, rfl, _, _, rfl, rfl, _, rfl, _, _, rfl, rfl, by show 6 ≤ sizeLine; decide, fun l hl => ?_⟩
    generalize hG : upd H l _ = H1
    have q1 : Same H H1 := hG ▸ same_new hl
    have x1 := (congrFun hG l).symm.trans upd_same
    clear hG
    obtain ⟨n, rfl⟩ := Int.eq_ofNat_of_zero_le (show (0 : Int) ≤ k by omega)
    have kk := kk H1 q1
    have hn : n = 1 ∨ n = 2 ∨ n = 3 ∨ n = 4 ∨ n = 5 := by omega
    refine ⟨_, rfl, l, _, _, _, rfl, rfl, SqL.of x1, atI_nat (j := n) (v := .int (lw (n : Nat) s)) ?_, kk⟩
    rcases hn with rfl | rfl | rfl | rfl | rfl <;> rfl
def spLStd : Sp := fun vs H Q _ => ∃ k s, vs = [.int k, .int s] ∧ 1 ≤ k ∧ k ≤ 5 ∧ 0 ≤ s ∧ s ≤ 10 ∧ ∀ D ts H', Same H H' → H D = none → H' D = some (.lst (ts.map V.ref)) → Lz Ll H' ts (stdR k s) → Q (.ref D) H'
theorem ok_lstd (T : Txt P K mg A) : FnOk P w K mg base CX0 1 A.a_law_standard A.d_law_standard ["kind", "size"] spLStd := by
  refine T.F_law_standard.ok sc_law_standard (fun vs H Q E h => ?_) (fun cdv A' outer s0 H vs Q E hr h => ?_)
  · obtain ⟨k, s, rfl, _⟩ := h
    rfl
  · obtain ⟨k, s, rfl, h1, h5, hs0, hs1, kq⟩ := h
    refine ⟨_, (pss_cons (ps_setLc (i := 2) (own := [("i", 3)]) (g := gName 3) (tt := tYes) rfl sc_law_standard.nd rfl rfl (sw_true rfl rfl rfl (by decide +kernel)) (pi_range1 (by rfl) T.n_range (pa_cons (pe_op op_add (pv 1) pe_int) pa_nil)) (blkOk_by (N := ["kind", "size", "rows", "i"]) (sc := defScope s_law_standard) (by decide +kernel)) (fun _ _ _ _ _ => (pg_name (i := 3) sc_law_standard.nd rfl (Or.inl rfl))) (fun _ _ _ _ _ => pts_nil) (fun _ _ _ _ _ => (pe_lst (pa_cons (pv 3) (pa_cons (pe_op op_add (pv 3) pe_int) pa_nil)))))
      (pss_cons (ps_if (pt_cmpR op_eq (pv 0) pe_int (nomark _)) (pss_one (ps_ret (pe_op op_cat (pv 2) (pe_lst (pa_cons (pe_lst (pa_cons pe_int (pa_cons (pe_op op_add (pv 1) pe_int) pa_nil))) pa_nil))))) pss_nil)
      (pss_cons (ps_if (pt_cmpR op_eq (pv 0) pe_int (nomark _)) (pss_one (ps_ret (pe_op op_cat (pv 2) (pe_lst (pa_cons (pe_op op_cat (pe_listRg rfl (by rfl) T.n_list (prg_1 (by rfl) T.n_range (pe_op op_add (pv 1) pe_int))) (pe_lst (pa_cons (pe_op op_add (pv 1) pe_int) pa_nil))) (pa_cons (pe_listRg rfl (by rfl) T.n_list (prg_2 (by rfl) T.n_range pe_int (pe_op op_add (pv 1) pe_int))) pa_nil)))))) pss_nil)
      (pss_cons (ps_if (pt_cmpR op_eq (pv 0) pe_int (nomark _)) (pss_one (ps_ret (pe_op op_cat (pv 2) (pe_lst (pa_cons (pe_op op_cat (pe_listRg rfl (by rfl) T.n_list (prg_2 (by rfl) T.n_range pe_int (pe_op op_add (pv 1) pe_int))) (pe_lst (pa_cons (pe_op op_add (pv 1) pe_int) pa_nil))) pa_nil))))) pss_nil)
      (pss_cons (ps_if (pt_cmpR op_eq (pv 0) pe_int (nomark _)) (pss_one (ps_ret (pe_lst (pa_cons (pe_lst (pa_cons pe_int (pa_cons pe_int pa_nil))) (pa_cons (pe_lst (pa_cons pe_int (pa_cons pe_int pa_nil))) (pa_cons (pe_lst (pa_cons pe_int (pa_cons pe_int pa_nil))) (pa_cons (pe_lst (pa_cons pe_int (pa_cons pe_int (pa_cons pe_int pa_nil)))) pa_nil))))))) pss_nil)
      (pss_one (ps_ret (pe_lst (pa_cons (pe_lst (pa_cons pe_int (pa_cons pe_int pa_nil))) (pa_cons (pe_lst (pa_cons pe_int (pa_cons pe_int pa_nil))) (pa_cons (pe_lst (pa_cons pe_int (pa_cons pe_int (pa_cons pe_int (pa_cons pe_int pa_nil))))) (pa_cons (pe_lst (pa_cons pe_int (pa_cons pe_int (pa_cons pe_int pa_nil)))) pa_nil)))))))))))), ?_⟩
    refine ⟨_, rfl, _, _, rfl, rfl, _, rfl, by omega, by omega, fun D nD => lc_it walk_range (fun i G => Same H G ∧ ∃ us : List Addr, G D = some (.lst (us.map V.ref)) ∧ (∀ u ∈ us, u ≠ D) ∧ Lz Ll G us ((path (s + 1).toNat).take i)) ⟨same_new nD, [], upd_same, fun u hu => (nomatch hu), Lz.nil⟩ (fun i G _ q => trivial) ?_ ?_⟩
    · rintro i x G0 G hi ⟨sG, us, hD, hne, hus⟩ ⟨rfl, rfl⟩
      refine ⟨rfl, _, rfl, _, rfl, _, _, rfl, rfl, by show 2 ≤ sizeLine; decide, fun t n3 => ?_⟩
      generalize hG : upd G t _ = G2
      have q3 : Same G G2 := hG ▸ same_new n3
      have x3 := (congrFun hG t).symm.trans upd_same
      clear hG
      have x3 : G2 t = some (.lst [V.int (0 + ((i : Nat) : Int)), V.int (0 + ((i : Nat) : Int) + 1)]) := x3
      rw [Int.zero_add] at x3
      have hD2 := q3 _ _ hD
      have tne : t ≠ D := fun z => by rw [z, hD] at n3; cases n3
      have hil : i < (s + 1).toNat := hi
      have hl : us.length ≤ 100 := by rw [hus.len, List.length_take, path_len]; omega
      refine ⟨_, hD2, small_int (by rw [List.length_map]; omega), fun b o e => by rw [upd_ne (ne_of_none e nD)]; exact q3 _ _ (sG _ _ e), us ++ [t], by rw [List.map_append]; exact upd_same, fun u hu => ?_, ?_⟩
      · rcases List.mem_append.mp hu with h | h
        · exact hne u h
        · rw [List.mem_singleton.mp h]; exact tne
      · rw [path_take hil]
        have up : ∀ u x, u ≠ D → Ll G2 u x → Ll (upd G2 D (.lst (us.map V.ref ++ [V.ref t]))) u x := fun u x hn h => by show upd G2 D _ u = _; rw [upd_ne hn]; exact h
        have a : Lz Ll (upd G2 D (.lst (us.map V.ref ++ [V.ref t]))) us ((path (s + 1).toNat).take i) := ⟨hus.len, fun j u x a b => up u _ (hne u (List.mem_of_getElem? a)) (q3 _ _ (hus.at_ j u x a b))⟩
        exact a.app (Lz.one (up t _ tne x3))
    rintro G ⟨sG, ts, hD, hne, hts⟩
    have hts : Lz Ll G ts (path (s + 1).toNat) := by
      have e : (path (s + 1).toNat).take (s + 1).toNat = path (s + 1).toNat := List.take_of_length_le (by rw [path_len]; exact Nat.le_refl _)
      rw [← e]; exact hts
    have tl : ts.length ≤ 11 := by rw [hts.len, path_len]; omega
    have big : (100 : Nat) ≤ sizeLine := by decide
    refine ⟨_, rfl, rfl, _, rfl, ?_⟩
    by_cases k1 : k = 1
    · subst k1
      refine ifT (decide_eq_true rfl) ?_
      refine ⟨_, rfl, _, rfl, _, _, rfl, rfl, by show 2 ≤ sizeLine; decide, fun t n1 => ?_⟩
      generalize hG : upd G t _ = G1
      have q1 : Same G G1 := hG ▸ same_new n1
      have x1 := (congrFun hG t).symm.trans upd_same
      clear hG
      refine ⟨by show 1 ≤ sizeLine; decide, fun l n2 => ?_⟩
      generalize hG : upd G1 l _ = G2
      have q2 : Same G1 G2 := hG ▸ same_new n2
      have x2 := (congrFun hG l).symm.trans upd_same
      clear hG
      have s2 := q1.trans q2
      refine catO (s2 _ _ hD) x2 (by rw [List.length_map]; show ts.length + 1 ≤ 1000000; omega) fun c G3 s3 n3 x3 => ?_
      have s23 := s2.trans s3
      refine kq c (ts ++ [t]) G3 (sG.trans s23) (none_of (sG.trans s2) n3) (by rw [x3, List.map_append]; rfl) ((hts.same s23).app (.one ?_))
      exact (q2.trans s3) _ _ x1
    refine ifF (decide_eq_false fun z => k1 (V.int.inj z)) ?_
    refine ⟨_, rfl, rfl, _, rfl, ?_⟩
    by_cases k2 : k = 2
    · subst k2
      refine ifT (decide_eq_true rfl) ?_
      refine ⟨_, rfl, _, rfl, _, _, rfl, rfl, _, rfl, RgOk.of_le (by omega) (by omega) (by omega) (by omega), fun a n1 => ?_⟩
      generalize hG : upd G a _ = G1
      have q1 : Same G G1 := hG ▸ same_new n1
      have x1 := (congrFun hG a).symm.trans upd_same
      clear hG
      have x1 : G1 a = some (.lst (ivs (0 :: rg s.toNat))) := by rw [← rgV_0 hs0]; exact x1
      refine ⟨_, rfl, _, _, rfl, rfl, by show 1 ≤ sizeLine; decide, fun b n2 => ?_⟩
      generalize hG : upd G1 b _ = G2
      have q2 : Same G1 G2 := hG ▸ same_new n2
      have x2 := (congrFun hG b).symm.trans upd_same
      clear hG
      refine catO (q2 _ _ x1) x2 (by rw [ivs_len, List.length_cons, rg_len]; show s.toNat + 1 + 1 ≤ 1000000; omega) fun c G3 s3 n3 x3 => ?_
      have x3 : G3 c = some (.lst (ivs (0 :: rg s.toNat ++ [s + 2]))) := by rw [x3]; simp [ivs]
      refine ⟨_, rfl, _, _, rfl, rfl, _, _, rfl, rfl, RgOk.of_le (by omega) (by omega) (by omega) (by omega), fun d n4 => ?_⟩
      generalize hG : upd G3 d _ = G4
      have q4 : Same G3 G4 := hG ▸ same_new n4
      have x4 := (congrFun hG d).symm.trans upd_same
      clear hG
      have x4 : G4 d = some (.lst (ivs (rg s.toNat ++ [s + 1, s + 2]))) := by rw [← rgV_13 hs0]; exact x4
      refine ⟨by show 2 ≤ sizeLine; decide, fun l n5 => ?_⟩
      generalize hG : upd G4 l _ = G5
      have q5 : Same G4 G5 := hG ▸ same_new n5
      have x5 := (congrFun hG l).symm.trans upd_same
      clear hG
      have s5 := q1.trans (q2.trans (s3.trans (q4.trans q5)))
      refine catO (s5 _ _ hD) x5 (by rw [List.length_map]; show ts.length + 2 ≤ 1000000; omega) fun e G6 s6 n6 x6 => ?_
      have s56 := s5.trans s6
      refine kq e (ts ++ [c, d]) G6 (sG.trans s56) (none_of (sG.trans s5) n6) (by rw [x6, List.map_append]; rfl) ((hts.same s56).app (.cons ?_ (.one ?_)))
      · exact (q4.trans (q5.trans s6)) _ _ x3
      · exact (q5.trans s6) _ _ x4
    refine ifF (decide_eq_false fun z => k2 (V.int.inj z)) ?_
    refine ⟨_, rfl, rfl, _, rfl, ?_⟩
    by_cases k3 : k = 3
    · subst k3
      refine ifT (decide_eq_true rfl) ?_
      refine ⟨_, rfl, _, rfl, _, _, rfl, rfl, _, _, rfl, rfl, RgOk.of_le (by omega) (by omega) (by omega) (by omega), fun a n1 => ?_⟩
      generalize hG : upd G a _ = G1
      have q1 : Same G G1 := hG ▸ same_new n1
      have x1 := (congrFun hG a).symm.trans upd_same
      clear hG
      have x1 : G1 a = some (.lst (ivs (rg s.toNat))) := by rw [← rgV_is hs0]; exact x1
      refine ⟨_, rfl, _, _, rfl, rfl, by show 1 ≤ sizeLine; decide, fun b n2 => ?_⟩
      generalize hG : upd G1 b _ = G2
      have q2 : Same G1 G2 := hG ▸ same_new n2
      have x2 := (congrFun hG b).symm.trans upd_same
      clear hG
      refine catO (q2 _ _ x1) x2 (by rw [ivs_len, rg_len]; show s.toNat + 1 ≤ 1000000; omega) fun c G3 s3 n3 x3 => ?_
      have x3 : G3 c = some (.lst (ivs (rg s.toNat ++ [s + 2]))) := by rw [x3]; simp [ivs]
      refine ⟨by show 1 ≤ sizeLine; decide, fun l n5 => ?_⟩
      generalize hG : upd G3 l _ = G5
      have q5 : Same G3 G5 := hG ▸ same_new n5
      have x5 := (congrFun hG l).symm.trans upd_same
      clear hG
      have s5 := q1.trans (q2.trans (s3.trans q5))
      refine catO (s5 _ _ hD) x5 (by rw [List.length_map]; show ts.length + 1 ≤ 1000000; omega) fun e G6 s6 n6 x6 => ?_
      have s56 := s5.trans s6
      refine kq e (ts ++ [c]) G6 (sG.trans s56) (none_of (sG.trans s5) n6) (by rw [x6, List.map_append]; rfl) ((hts.same s56).app (.one ?_))
      exact (q5.trans s6) _ _ x3
    refine ifF (decide_eq_false fun z => k3 (V.int.inj z)) ?_
    refine ⟨_, rfl, rfl, _, rfl, ?_⟩
    have four : ∀ (a b c d : List Int), stdR k s = [a, b, c, d] → ∀ (ta tb tc td l : Addr) (G9 : Hp), Same G G9 → G9 ta = some (.lst (ivs a)) → G9 tb = some (.lst (ivs b)) → G9 tc = some (.lst (ivs c)) → G9 td = some (.lst (ivs d)) → G9 l = none → Q (.ref l) (upd G9 l (.lst [.ref ta, .ref tb, .ref tc, .ref td])) := fun a b c d e ta tb tc td l G9 s9 ea eb ec ed nl => by
      have sl := same_new (o := .lst [V.ref ta, .ref tb, .ref tc, .ref td]) nl
      refine kq l [ta, tb, tc, td] _ (sG.trans (s9.trans sl)) (none_of (sG.trans s9) nl) upd_same ?_
      rw [e]
      exact .cons (sl _ _ ea) (.cons (sl _ _ eb) (.cons (sl _ _ ec) (.one (sl _ _ ed))))
    by_cases k4 : k = 4
    · refine ifT (decide_eq_true (by rw [k4])) ?_
      refine ⟨by show 2 ≤ sizeLine; decide, fun ta na => ?_⟩
      generalize hG : upd G ta _ = G1
      have q1 : Same G G1 := hG ▸ same_new na
      have x1 := (congrFun hG ta).symm.trans upd_same
      clear hG
      refine ⟨by show 2 ≤ sizeLine; decide, fun tb nb => ?_⟩
      generalize hG : upd G1 tb _ = G2
      have q2 : Same G1 G2 := hG ▸ same_new nb
      have x2 := (congrFun hG tb).symm.trans upd_same
      clear hG
      refine ⟨by show 2 ≤ sizeLine; decide, fun tc nc => ?_⟩
      generalize hG : upd G2 tc _ = G3
      have q3 : Same G2 G3 := hG ▸ same_new nc
      have x3 := (congrFun hG tc).symm.trans upd_same
      clear hG
      refine ⟨by show 3 ≤ sizeLine; decide, fun td nd => ?_⟩
      generalize hG : upd G3 td _ = G4
      have q4 : Same G3 G4 := hG ▸ same_new nd
      have x4 := (congrFun hG td).symm.trans upd_same
      clear hG
      refine ⟨by show 4 ≤ sizeLine; decide, fun l nl => ?_⟩
      exact four [0, 1] [2, 3] [4, 5] [1, 3, 5] (by rw [k4]; rfl) ta tb tc td l G4 (q1.trans (q2.trans (q3.trans q4))) ((q2.trans (q3.trans q4)) _ _ x1) ((q3.trans q4) _ _ x2) (q4 _ _ x3) x4 nl
    · have k5 : k = 5 := by omega
      refine ifF (decide_eq_false fun z => k4 (V.int.inj z)) ?_
      refine ⟨by show 2 ≤ sizeLine; decide, fun ta na => ?_⟩
      generalize hG : upd G ta _ = G1
      have q1 : Same G G1 := hG ▸ same_new na
      have x1 := (congrFun hG ta).symm.trans upd_same
      clear hG
      refine ⟨by show 2 ≤ sizeLine; decide, fun tb nb => ?_⟩
      generalize hG : upd G1 tb _ = G2
      have q2 : Same G1 G2 := hG ▸ same_new nb
      have x2 := (congrFun hG tb).symm.trans upd_same
      clear hG
      refine ⟨by show 4 ≤ sizeLine; decide, fun tc nc => ?_⟩
      generalize hG : upd G2 tc _ = G3
      have q3 : Same G2 G3 := hG ▸ same_new nc
      have x3 := (congrFun hG tc).symm.trans upd_same
      clear hG
      refine ⟨by show 3 ≤ sizeLine; decide, fun td nd => ?_⟩
      generalize hG : upd G3 td _ = G4
      have q4 : Same G3 G4 := hG ▸ same_new nd
      have x4 := (congrFun hG td).symm.trans upd_same
      clear hG
      refine ⟨by show 4 ≤ sizeLine; decide, fun l nl => ?_⟩
      exact four [0, 1] [2, 3] [0, 1, 2, 3] [1, 2, 4] (by rw [k5]; rfl) ta tb tc td l G4 (q1.trans (q2.trans (q3.trans q4))) ((q2.trans (q3.trans q4)) _ _ x1) ((q3.trans q4) _ _ x2) (q4 _ _ x3) x4 nl
end
end My
set_option maxRecDepth 100000
set_option maxHeartbeats 4000000
set_option exponentiation.threshold 10000
namespace My
open PySem L2
open C8 (pss_cut)
/-- what the columns say of a row, and what the standard row says of its places -/
def hasC (ns cs : List Str) : List Bool := cs.map fun z => decide (z ∈ ns)
def hasP (n : Nat) (xs : List Int) : List Bool := (List.range n).map fun i => decide (((i : Nat) : Int) ∈ xs)
def alike (ns cs : List Str) (xs : List Int) : Bool := decide (hasC ns cs = hasP cs.length xs)
def places (n : Nat) : List Int := (List.range n).map fun i => ((i : Nat) : Int)
theorem rgV_places (n : Nat) : rgV 0 ((n : Nat) : Int) = ivs (places n) := by
  unfold rgV places ivs
  rw [List.map_map, show (((n : Nat) : Int) - 0).toNat = n by omega]
  refine List.map_congr_left fun i _ => ?_
  show V.int (0 + ((i : Nat) : Int)) = V.int ((i : Nat) : Int)
  rw [Int.zero_add]
theorem mem_places {n : Nat} {x : Int} : x ∈ places n ↔ 0 ≤ x ∧ x < n := by
  unfold places
  rw [List.mem_map]
  constructor
  · rintro ⟨i, hi, rfl⟩
    have := List.mem_range.mp hi
    omega
  · intro h
    exact ⟨x.toNat, List.mem_range.mpr (by omega), by omega⟩
def rowAlike (cs : List Str) (rs : List (List Str)) (k s : Int) (xs : List Int) (ys : List Str) (i : Nat) : Bool := alike (canon cs (rs.getD (xs.getD i 0).toNat [])) ys ((stdR k s).getD i [])
/-- the program's answer -/
def liesB (cs : List Str) (rs : List (List Str)) (k s : Int) (xs : List Int) (ys : List Str) : Bool :=
  okKS k s && (decide (xs.length = (stdR k s).length ∧ (ys.length : Int) = w2 k s) && (okNums (places rs.length) xs && ((stray cs ys).isNone && (List.range xs.length).all (rowAlike cs rs k s xs ys))))
theorem alike_iff {ns ys : List Str} {row : List Int} : alike ns ys row = true ↔ ∀ (j : Nat) z, ys[j]? = some z → decide (z ∈ ns) = decide (((j : Nat) : Int) ∈ row) := by
  unfold alike hasC hasP
  rw [decide_eq_true_iff]
  constructor
  · intro h j z hz
    have e := congrArg (fun l : List Bool => l[j]?) h
    have hj := (List.getElem?_eq_some_iff.mp hz).1
    simp only [List.getElem?_map, hz, List.getElem?_range hj, Option.map_some] at e
    exact Option.some.inj e
  · intro h
    refine List.ext_getElem? fun j => ?_
    rw [List.getElem?_map, List.getElem?_map]
    by_cases hj : j < ys.length
    · rw [List.getElem?_eq_getElem hj, List.getElem?_range hj, Option.map_some, Option.map_some, h j _ (List.getElem?_eq_getElem hj)]
    · rw [List.getElem?_eq_none (by omega), List.getElem?_eq_none (by rw [List.length_range]; omega)]; rfl
section
variable {cs : List Str} {rs : List (List Str)} {k s : Int} {xs : List Int} {ys : List Str}
theorem lies_ks (h : okKS k s = false) : liesB cs rs k s xs ys = false := by unfold liesB; rw [h]; rfl
theorem lies_len (h : ¬ (xs.length = (stdR k s).length ∧ (ys.length : Int) = w2 k s)) : liesB cs rs k s xs ys = false := by unfold liesB; rw [decide_eq_false h]; simp
theorem lies_num {i : Nat} {z : Int} (h : xs[i]? = some z) (hz : z ∉ places rs.length ∨ z ∈ xs.take i) : liesB cs rs k s xs ys = false := by unfold liesB; rw [okNums_no h hz]; simp
theorem stray_ne {j : Nat} {z : Str} (h : ys[j]? = some z) (hz : z ∉ cs ∨ z ∈ ys.take j) : (stray cs ys).isNone = false := by
  cases e : stray cs ys with
  | some i => rfl
  | none =>
    obtain ⟨a, b⟩ := stray_none_iff.mp e
    exfalso
    rcases hz with hz | hz
    · exact hz (a z (List.mem_of_getElem? h))
    · obtain ⟨m, hm, e2⟩ := List.getElem_of_mem hz
      rw [List.length_take] at hm
      obtain ⟨h9, e4⟩ := List.getElem?_eq_some_iff.mp h
      rw [List.nodup_iff_pairwise_ne, List.pairwise_iff_getElem] at b
      refine b m j (by omega) h9 (by omega) ?_
      rw [List.getElem_take] at e2
      rw [e2, e4]
theorem lies_col {j : Nat} {z : Str} (h : ys[j]? = some z) (hz : z ∉ cs ∨ z ∈ ys.take j) : liesB cs rs k s xs ys = false := by unfold liesB; rw [stray_ne h hz]; simp
theorem mem_canon_in {r : List Str} {z : Str} (hr : ∀ z ∈ r, z ∈ cs) : decide (z ∈ canon cs r) = decide (z ∈ r) := decide_eq_decide.mpr ⟨fun h => (mem_canon.mp h).2, fun h => mem_canon.mpr ⟨hr z h, h⟩⟩
theorem lies_pair {i j : Nat} {u : Int} {z : Str} {r : List Str} {row : List Int} (hi : xs[i]? = some u) (hj : ys[j]? = some z) (hr : rs[u.toNat]? = some r) (hin : ∀ z ∈ r, z ∈ cs) (hrow : (stdR k s)[i]? = some row) (h : decide (z ∈ r) ≠ decide (((j : Nat) : Int) ∈ row)) : liesB cs rs k s xs ys = false := by
  have hil := (List.getElem?_eq_some_iff.mp hi).1
  have e : (List.range xs.length).all (rowAlike cs rs k s xs ys) = false := by
    rw [List.all_eq_false]
    refine ⟨i, List.mem_range.mpr hil, ?_⟩
    intro t
    unfold rowAlike at t
    rw [show xs.getD i 0 = u by rw [List.getD_eq_getElem?_getD, hi]; rfl, show rs.getD u.toNat [] = r by rw [List.getD_eq_getElem?_getD, hr]; rfl, show (stdR k s).getD i [] = row by rw [List.getD_eq_getElem?_getD, hrow]; rfl] at t
    have := alike_iff.mp t j z hj
    rw [mem_canon_in hin] at this
    exact h this
  unfold liesB
  rw [e]; simp
theorem lies_yes (h1 : okKS k s = true) (h2 : xs.length = (stdR k s).length ∧ (ys.length : Int) = w2 k s) (h3 : okNums (places rs.length) xs = true) (h4 : stray cs ys = none) (hin : ∀ r ∈ rs, ∀ z ∈ r, z ∈ cs)
    (h5 : ∀ (i j : Nat) u z r row, xs[i]? = some u → ys[j]? = some z → rs[u.toNat]? = some r → (stdR k s)[i]? = some row → decide (z ∈ r) = decide (((j : Nat) : Int) ∈ row)) : liesB cs rs k s xs ys = true := by
  unfold liesB
  rw [h1, decide_eq_true h2, h3, h4]
  show (List.range xs.length).all (rowAlike cs rs k s xs ys) = true
  rw [List.all_eq_true]
  intro i hi
  have hi := List.mem_range.mp hi
  have hu : xs[i]? = some xs[i] := List.getElem?_eq_getElem hi
  have hp : xs[i] ∈ places rs.length := by
    unfold okNums at h3
    rw [Bool.and_eq_true, decide_eq_true_iff] at h3
    exact h3.1 _ (List.getElem_mem hi)
  obtain ⟨p0, p1⟩ := mem_places.mp hp
  have hr : rs[xs[i].toNat]? = some rs[xs[i].toNat] := List.getElem?_eq_getElem (by omega)
  have hrow : (stdR k s)[i]? = some (stdR k s)[i] := List.getElem?_eq_getElem (by omega)
  unfold rowAlike
  rw [show xs.getD i 0 = xs[i] by rw [List.getD_eq_getElem?_getD, hu]; rfl, show rs.getD xs[i].toNat [] = rs[xs[i].toNat] by rw [List.getD_eq_getElem?_getD, hr]; rfl, show (stdR k s).getD i [] = (stdR k s)[i] by rw [List.getD_eq_getElem?_getD, hrow]; rfl]
  rw [alike_iff]
  intro j z hz
  rw [mem_canon_in (hin _ (List.getElem_mem _))]
  exact h5 i j _ z _ _ hu hz hr hrow
end
section
variable {P : Program} {w : World} {K : PySem.W.Frag} {mg : Str → Option Value} {base : Heap} {A : Ad}
theorem Txt.ko_selfP (T : Txt P K mg A) : PySem.W.kitOne K (.ref A.C_Pattern) (.ref A.C_Pattern) = some true := by
  unfold PySem.W.kitOne
  rw [if_pos (by simp)]
theorem Txt.tyP (T : Txt P K mg A) {H : Hp} {p dx : Addr} {fs : List (Str × V)} (h : H p = some (.ins A.C_Pattern dx fs)) : TyX K H (.ref p) (.ref A.C_Pattern) :=
  .base (.ins h T.cl_Pattern T.c1_Pattern T.c2 T.c4 T.c3_Pattern)
def spIsPat (A : Ad) (K : PySem.W.Frag) : Sp := fun vs H Q _ => ∃ (p n r : Addr) (k s : Int) (xs : List Int) (ys cs : List Str) (rts : List Addr) (rs : List (List Str)), vs = [.ref p, .ref n, .ref r] ∧ Pat A.C_Pattern H p k s xs ys ∧ SqL K H n (sv cs) ∧ SqL K H r (rts.map V.ref) ∧ Lss .lst H rts rs ∧ (∀ r ∈ rs, ∀ z ∈ r, z ∈ cs) ∧ rs.length ≤ 48 ∧ xs.length ≤ 1000 ∧ ys.length ≤ 1000 ∧ ∀ H', Same H H' → Q (.bl (liesB cs rs k s xs ys)) H'
theorem ok_isPat (T : Txt P K mg A) : FnOk P w K mg base CX0 2 A.a_law_is_pattern A.d_law_is_pattern ["found", "names", "rows"] (spIsPat A K) := by
  have G_law_is_number := ok_isNum (P := P) (w := w) (base := base) T
  have G_law_width := ok_lwidth (P := P) (w := w) (base := base) T
  have G_law_standard := ok_lstd (P := P) (w := w) (base := base) T
  refine T.F_law_is_pattern.ok sc_law_is_pattern (fun vs H Q E h => ?_) (fun cdv A' outer s0 H vs Q E hr h => ?_)
  · obtain ⟨p, n, r, k, s, xs, ys, cs, rts, rs, rfl, _⟩ := h
    rfl
  · obtain ⟨p, n, r, k, s, xs, ys, cs, rts, rs, rfl, hP, hN, hR, hL, hin, hrl, hxl, hyl, kk⟩ := h
    refine ⟨_, (pss_cons (ps_if (PW.pt (pw_or (pt_not (pt_val (pe_call G_law_is_number (hr.mono (by decide)) rfl T.mg_law_is_number T.F_law_is_number.kp T.b_law_is_number .nil pass0 (pa_cons (pe_fld (pv 0) rfl) (pa_cons pe_int (pa_cons pe_int pa_nil)))))) (pw_or1 (pt_not (pt_val (pe_call G_law_is_number (hr.mono (by decide)) rfl T.mg_law_is_number T.F_law_is_number.kp T.b_law_is_number .nil pass0 (pa_cons (pe_fld (pv 0) rfl) (pa_cons pe_int (pa_cons pe_int pa_nil))))))))) (pss_one (ps_ret pe_bl)) pss_nil)
      (pss_cut (ps_if (PW.pt (pw_or (PW.pt (pw_and (pt_cmpR op_gt (pe_fld (pv 0) rfl) pe_int (nomark _)) (pw_and1 (pt_cmpR op_gt (pe_fld (pv 0) rfl) pe_int (nomark _))))) (pw_or1 (pt_cmpR op_gt (pe_call G_law_width (hr.mono (by decide)) rfl T.mg_law_width T.F_law_width.kp T.b_law_width .nil pass0 (pa_cons (pe_fld (pv 0) rfl) (pa_cons (pe_fld (pv 0) rfl) pa_nil))) pe_int (nomark _))))) (pss_one (ps_ret pe_bl)) pss_nil)
      (pss_cons (ps_set (i := 3) sc_law_is_pattern.nd rfl (Or.inl rfl) (pe_call G_law_standard (hr.mono (by decide)) rfl T.mg_law_standard T.F_law_standard.kp T.b_law_standard .nil pass0 (pa_cons (pe_fld (pv 0) rfl) (pa_cons (pe_fld (pv 0) rfl) pa_nil))))
      (pss_cons (ps_set (i := 4) sc_law_is_pattern.nd rfl (Or.inl rfl) (pe_call G_law_width (hr.mono (by decide)) rfl T.mg_law_width T.F_law_width.kp T.b_law_width .nil pass0 (pa_cons (pe_fld (pv 0) rfl) (pa_cons (pe_fld (pv 0) rfl) pa_nil))))
      (pss_cons (ps_if (PW.pt (pw_or (pt_not (pt_val (pe_callB call_isi (by rfl) T.n_isinstance (by decide +kernel) (pa_cons (pe_fld (pv 0) rfl) (pa_cons (pe_bltn (v := .ty "tuple") (by rfl) T.n_tuple (by decide +kernel) rfl) pa_nil))))) (pw_or1 (pt_not (pt_val (pe_callB call_isi (by rfl) T.n_isinstance (by decide +kernel) (pa_cons (pe_fld (pv 0) rfl) (pa_cons (pe_bltn (v := .ty "tuple") (by rfl) T.n_tuple (by decide +kernel) rfl) pa_nil)))))))) (pss_one (ps_ret pe_bl)) pss_nil)
      (pss_cons (ps_if (PW.pt (pw_or (pt_cmpR op_ne (pe_callB call_len_seq (by rfl) T.n_len (by decide +kernel) (pa_cons (pe_fld (pv 0) rfl) pa_nil)) (pe_callB call_len_seq (by rfl) T.n_len (by decide +kernel) (pa_cons (pv 3) pa_nil)) (nomark _)) (pw_or1 (pt_cmpR op_ne (pe_callB call_len_seq (by rfl) T.n_len (by decide +kernel) (pa_cons (pe_fld (pv 0) rfl) pa_nil)) (pv 4) (nomark _))))) (pss_one (ps_ret pe_bl)) pss_nil)
      (pss_cons (ps_for PassesOwn.never rfl (pi_range1 (by rfl) T.n_range (pa_cons (pe_callB call_len_seq (by rfl) T.n_len (by decide +kernel) (pa_cons (pv 3) pa_nil)) pa_nil)) (pg_name (i := 5) sc_law_is_pattern.nd rfl (Or.inl rfl))
        (pss_one (ps_if (PW.pt (pw_or (pt_not (pt_val (pe_call G_law_is_number (hr.mono (by decide)) rfl T.mg_law_is_number T.F_law_is_number.kp T.b_law_is_number .nil pass0 (pa_cons (pe_ix ix_tup (pe_fld (pv 0) rfl) (pv 5) (fun _ _ => rfl)) (pa_cons pe_int (pa_cons (pe_op op_sub (pe_callB call_len_seq (by rfl) T.n_len (by decide +kernel) (pa_cons (pv 2) pa_nil)) pe_int) pa_nil)))))) (pw_or1 (pt_cmpR op_in_seq (pe_ix ix_tup (pe_fld (pv 0) rfl) (pv 5) (fun _ _ => rfl)) (pe_slice sl_tupA (pe_fld (pv 0) rfl) po_none (po_some (pv 5))) (by with_unfolding_all rfl))))) (pss_one (ps_ret pe_bl)) pss_nil)))
      (pss_cons (ps_for PassesOwn.never rfl (pi_range1 (by rfl) T.n_range (pa_cons (pv 4) pa_nil)) (pg_name (i := 6) sc_law_is_pattern.nd rfl (Or.inl rfl))
        (pss_one (ps_if (PW.pt (pw_or (pt_cmpR op_notIn_seq (pe_ix ix_tup (pe_fld (pv 0) rfl) (pv 6) (fun _ _ => rfl)) (pv 1) (by with_unfolding_all rfl)) (pw_or1 (pt_cmpR op_in_seq (pe_ix ix_tup (pe_fld (pv 0) rfl) (pv 6) (fun _ _ => rfl)) (pe_slice sl_tupA (pe_fld (pv 0) rfl) po_none (po_some (pv 6))) (by with_unfolding_all rfl))))) (pss_one (ps_ret pe_bl)) pss_nil)))
      (pss_cons (ps_for PassesOwn.never rfl (pi_range1 (by rfl) T.n_range (pa_cons (pe_callB call_len_seq (by rfl) T.n_len (by decide +kernel) (pa_cons (pv 3) pa_nil)) pa_nil)) (pg_name (i := 5) sc_law_is_pattern.nd rfl (Or.inl rfl))
        (pss_one (ps_for PassesOwn.never rfl (pi_range1 (by rfl) T.n_range (pa_cons (pv 4) pa_nil)) (pg_name (i := 6) sc_law_is_pattern.nd rfl (Or.inl rfl))
        (pss_one (ps_if (pt_cmpR op_ne (pe_cmpR op_in_seq (pe_ix ix_tup (pe_fld (pv 0) rfl) (pv 6) (fun _ _ => rfl)) (pe_ix ix_list (pv 2) (pe_ix ix_tup (pe_fld (pv 0) rfl) (pv 5) (fun _ _ => rfl)) (fun _ _ => rfl)) (by with_unfolding_all rfl)) (pe_cmpR op_in_seq (pv 6) (pe_ix ix_list (pv 3) (pv 5) (fun _ _ => rfl)) (by with_unfolding_all rfl)) (nomark _)) (pss_one (ps_ret pe_bl)) pss_nil)))))
      (pss_one (ps_ret pe_bl))))))))))), ?_⟩
    obtain ⟨dp, rt, ct, h1, hrt, hct⟩ := id hP
    have no : liesB cs rs k s xs ys = false → ∀ H', Same H H' → Q (.bl false) H' := fun h H' s' => by rw [← h]; exact kk H' s'
    refine ⟨_, rfl, _, _, _, _, _, rfl, h1, T.cl_Pattern, T.n_Pattern_kind, fldsP_kind _ _ _ _, k, 1, 5, rfl, _, rfl, ?_⟩
    by_cases a1 : 1 ≤ k ∧ k ≤ 5
    · refine ifF (by rw [decide_eq_true a1]; rfl) ⟨_, rfl, _, _, _, _, _, rfl, h1, T.cl_Pattern, T.n_Pattern_size, fldsP_size _ _ _ _, s, 1, 10, rfl, _, rfl, ?_⟩
      by_cases a2 : 1 ≤ s ∧ s ≤ 10
      · refine ifF (by rw [decide_eq_true a2]; rfl) ?_
        refine ⟨fun σ G => Same H G ∧ okKS k s = true ∧ σ = [some (.ref p), some (.ref n), some (.ref r), none, none, none, none], ?_, ?_⟩
        · have third : ∀ {G : Hp}, Same H G → lw k s ≤ 12 → ¬ (3 < k ∧ 1 < s) → okKS k s = true := fun _ hw hn => by
            refine okKS_iff.mpr ?_
            unfold lw at hw
            split at hw
            · omega
            · split at hw
              · omega
              · omega
          have noB : 3 < k ∧ 1 < s → okKS k s = false := fun hb => by
            rw [Bool.eq_false_iff]; intro t; have := okKS_iff.mp t; omega
          have noW : 12 < lw k s → okKS k s = false := fun hw => by
            rw [Bool.eq_false_iff]; intro t
            have e := w2_is t
            have := okKS_iff.mp t
            unfold lw at hw
            unfold okKS at t
            rw [decide_eq_true_iff, e] at t
            omega
          refine ⟨_, rfl, _, _, _, _, _, rfl, h1, T.cl_Pattern, T.n_Pattern_kind, fldsP_kind _ _ _ _, _, _, rfl, rfl, _, rfl, ?_⟩
          by_cases b1 : 3 < k
          · refine ifT (decide_eq_true b1) ⟨_, rfl, _, _, _, _, _, rfl, h1, T.cl_Pattern, T.n_Pattern_size, fldsP_size _ _ _ _, _, _, rfl, rfl, _, rfl, ?_⟩
            by_cases b2 : 1 < s
            · exact ifT (decide_eq_true b2) (ifT rfl (no (lies_ks (noB ⟨b1, b2⟩)) _ (Same.refl _)))
            · refine ifF (decide_eq_false b2) ⟨_, rfl, _, _, _, _, _, rfl, h1, T.cl_Pattern, T.n_Pattern_kind, fldsP_kind _ _ _ _, _, rfl, _, _, _, _, _, rfl, h1, T.cl_Pattern, T.n_Pattern_size, fldsP_size _ _ _ _, k, s, rfl, a1.1, a1.2, fun G sG => ⟨_, _, rfl, rfl, _, rfl, ?_⟩⟩
              by_cases b3 : 12 < lw k s
              · exact ifT (decide_eq_true b3) (no (lies_ks (noW b3)) _ sG)
              · exact ifF (decide_eq_false b3) ⟨sG, third sG (by omega) (fun z => b2 z.2), rfl⟩
          · refine ifF (decide_eq_false b1) (ifF rfl ⟨_, rfl, _, _, _, _, _, rfl, h1, T.cl_Pattern, T.n_Pattern_kind, fldsP_kind _ _ _ _, _, rfl, _, _, _, _, _, rfl, h1, T.cl_Pattern, T.n_Pattern_size, fldsP_size _ _ _ _, k, s, rfl, a1.1, a1.2, fun G sG => ⟨_, _, rfl, rfl, _, rfl, ?_⟩⟩)
            by_cases b3 : 12 < lw k s
            · exact ifT (decide_eq_true b3) (no (lies_ks (noW b3)) _ sG)
            · exact ifF (decide_eq_false b3) ⟨sG, third sG (by omega) (fun z => b1 z.1), rfl⟩
        rintro σ G ⟨sG, hok, rfl⟩
        have h1 := sG _ _ h1
        refine ⟨_, rfl, _, _, _, _, _, rfl, h1, T.cl_Pattern, T.n_Pattern_kind, fldsP_kind _ _ _ _, _, rfl, _, _, _, _, _, rfl, h1, T.cl_Pattern, T.n_Pattern_size, fldsP_size _ _ _ _, k, s, rfl, a1.1, a1.2, by omega, a2.2, fun D ts G1 s1 nD hD hts => ?_⟩
        have h1 := s1 _ _ h1
        refine ⟨_, rfl, _, _, _, _, _, rfl, h1, T.cl_Pattern, T.n_Pattern_kind, fldsP_kind _ _ _ _, _, rfl, _, _, _, _, _, rfl, h1, T.cl_Pattern, T.n_Pattern_size, fldsP_size _ _ _ _, k, s, rfl, a1.1, a1.2, fun G2 s2 => ?_⟩
        have s02 := sG.trans (s1.trans s2)
        have h1 := s2 _ _ h1
        have hrt := s02 _ _ hrt
        have hct := s02 _ _ hct
        have hD := s2 _ _ hD
        have hts := hts.same s2
        have hL := hL.same s02
        have hN := s02.seq hN
        have hR := s02.seq hR
        have lt : (ts.map V.ref).length = (stdR k s).length := by rw [List.length_map, hts.len]
        have lr : (rts.map V.ref).length = rs.length := by rw [List.length_map, hL.len]
        have ew := lw_ok hok
        have okb := okKS_iff.mp hok
        have wb : 0 ≤ lw k s ∧ lw k s ≤ 12 := by
          have := hok
          unfold okKS at this
          rw [decide_eq_true_iff, ew] at this
          omega
        clear hP nD s1 s2 sG
        refine ⟨_, rfl, _, _, _, _, _, rfl, h1, T.cl_Pattern, T.n_Pattern_rows, fldsP_rows _ _ _ _, _, _, _, _, true, rfl, .ty _, .base (.tup hrt), kit_ty (by decide +kernel), true, rfl, ifF rfl ?_⟩
        refine ⟨_, rfl, _, _, _, _, _, rfl, h1, T.cl_Pattern, T.n_Pattern_columns, fldsP_columns _ _ _ _, _, _, _, _, true, rfl, .ty _, .base (.tup hct), kit_ty (by decide +kernel), true, rfl, ifF rfl ?_⟩
        refine ⟨_, rfl, _, _, _, _, _, rfl, h1, T.cl_Pattern, T.n_Pattern_rows, fldsP_rows _ _ _ _, rt, _, rfl, .inr (SqT.of hrt), _, rfl, D, _, rfl, .inl (SqL.of hD), rfl, _, rfl, ?_⟩
        by_cases hl1 : xs.length = (stdR k s).length
        · refine ifF (by rw [decide_eq_true (by rw [ivs_len, lt, hl1])]; rfl) ⟨_, rfl, _, _, _, _, _, rfl, h1, T.cl_Pattern, T.n_Pattern_columns, fldsP_columns _ _ _ _, ct, _, rfl, .inr (SqT.of hct), _, rfl, rfl, _, rfl, ?_⟩
          by_cases hl2 : (ys.length : Int) = lw k s
          · refine ifF (by rw [decide_eq_true (by rw [len_sv, hl2])]; rfl) ?_
            have dl := stdR_len hok
            have nl : (((ts.map V.ref).length : Nat) : Int).toNat = xs.length := by rw [lt, Int.toNat_natCast, hl1]
            have wl : (lw k s).toNat = ys.length := by omega
            refine ⟨_, rfl, D, _, rfl, .inl (SqL.of hD), _, rfl, by rw [lt]; omega, by rw [lt]; omega, ?_⟩
            refine for_range (n := (((ts.map V.ref).length : Nat) : Int).toNat) (fun i σ G => Same G2 G ∧ (∀ j, j < i → okNumAt (places rs.length) xs j) ∧ ∃ u5 : Option V, σ = [some (.ref p), some (.ref n), some (.ref r), some (.ref D), some (.int (lw k s)), u5, none]) ⟨Same.refl _, fun j hj => absurd hj (Nat.not_lt_zero _), none, rfl⟩ ?_ ?_
            · rintro i σ G hi ⟨sG, hb, u5, rfl⟩
              rw [nl] at hi
              have hz : xs[i]? = some xs[i] := List.getElem?_eq_getElem hi
              have at1 : atI (ivs xs) (0 + ((i : Nat) : Int)) = some (.int xs[i]) := by rw [Int.zero_add]; exact atI_nat (by rw [List.getElem?_map, hz]; rfl)
              have h1 := sG _ _ h1
              have hrt := sG _ _ hrt
              refine ⟨_, rfl, _, _, _, _, _, rfl, h1, T.cl_Pattern, T.n_Pattern_rows, fldsP_rows _ _ _ _, _, rfl, rt, _, _, _, rfl, rfl, SqT.of hrt, at1, _, rfl, r, _, rfl, .inl (sG.seq hR), _, _, rfl, rfl, xs[i], 0, _, rfl, _, rfl, ?_⟩
              by_cases c1 : 0 ≤ xs[i] ∧ xs[i] ≤ (((rts.map V.ref).length : Nat) : Int) - 1
              · have c1' : xs[i] ∈ places rs.length := mem_places.mpr (by rw [lr] at c1; omega)
                refine ifF (by rw [decide_eq_true c1]; rfl) ⟨_, rfl, _, _, _, _, _, rfl, h1, T.cl_Pattern, T.n_Pattern_rows, fldsP_rows _ _ _ _, _, rfl, rt, _, _, _, rfl, rfl, SqT.of hrt, at1, _, rfl, _, _, _, _, _, rfl, h1, T.cl_Pattern, T.n_Pattern_rows, fldsP_rows _ _ _ _, ?_⟩
                dsimp only [tNoPart]
                refine ⟨_, rfl, _, rfl, slOT (SqT.of hrt) fun q G3 s3 hq => ⟨q, _, rfl, .inr hq, rfl, ?_, _, rfl, ?_⟩⟩
                · rw [Int.zero_add, cut_takeG, ivs_take]; exact flat_iv _
                · rw [if_neg Bool.false_ne_true, Int.zero_add, cut_takeG, ivs_take, inV_int]
                  by_cases c2 : xs[i] ∈ xs.take i
                  · exact ifT (decide_eq_true c2) (no (lies_num hz (.inr c2)) _ (s02.trans (sG.trans s3)))
                  · refine ifF (decide_eq_false c2) ⟨sG.trans s3, fun j hj => ?_, _, rfl⟩
                    rcases Nat.lt_succ_iff_lt_or_eq.mp hj with q2 | q2
                    · exact hb j q2
                    · rw [q2]; intro y hy; rw [hz] at hy; cases hy; exact ⟨c1', c2⟩
              · refine ifT (by rw [decide_eq_false c1]; rfl) (ifT rfl (no (lies_num hz (.inl fun q => c1 ?_)) _ (s02.trans sG)))
                have := mem_places.mp q
                rw [lr]; omega
            rintro σ G ⟨sG, hb, u5, rfl⟩
            have honum : okNums (places rs.length) xs = true := okNums_of fun j hj => hb j (by rw [nl]; exact hj)
            have s03 := s02.trans sG
            have h1 := sG _ _ h1
            have hrt := sG _ _ hrt
            have hct := sG _ _ hct
            have hD := sG _ _ hD
            have hts := hts.same sG
            have hL := hL.same sG
            have hN := sG.seq hN
            have hR := sG.seq hR
            clear hb
            refine ⟨_, rfl, _, rfl, by omega, by omega, ?_⟩
            refine for_range (n := (lw k s).toNat) (fun j σ G9 => Same G G9 ∧ (∀ m, m < j → badAt cs ys m = false) ∧ ∃ u6 : Option V, σ = [some (.ref p), some (.ref n), some (.ref r), some (.ref D), some (.int (lw k s)), u5, u6]) ⟨Same.refl _, fun j hj => absurd hj (Nat.not_lt_zero _), none, rfl⟩ ?_ ?_
            · rintro j σ G9 hj ⟨s9, hb, u6, rfl⟩
              rw [wl] at hj
              have hz : ys[j]? = some ys[j] := List.getElem?_eq_getElem hj
              have at1 : atI (sv ys) (0 + ((j : Nat) : Int)) = some (.str ys[j]) := by rw [Int.zero_add]; exact atI_nat (by rw [List.getElem?_map, hz]; rfl)
              have h1 := s9 _ _ h1
              have hct := s9 _ _ hct
              have bad : badAt cs ys j = (!decide (ys[j] ∈ cs) || decide (ys[j] ∈ ys.take j)) := by unfold badAt; rw [hz]
              refine ⟨_, rfl, _, _, _, _, _, rfl, h1, T.cl_Pattern, T.n_Pattern_columns, fldsP_columns _ _ _ _, _, rfl, ct, _, _, _, rfl, rfl, SqT.of hct, at1, _, rfl, n, _, rfl, .inl (s9.seq hN), rfl, flat_sv _, _, rfl, ?_⟩
              rw [if_pos (rfl : true = true), inV_str]
              by_cases c1 : ys[j] ∈ cs
              · refine ifF (by rw [decide_eq_true c1]; rfl) ⟨_, rfl, _, _, _, _, _, rfl, h1, T.cl_Pattern, T.n_Pattern_columns, fldsP_columns _ _ _ _, _, rfl, ct, _, _, _, rfl, rfl, SqT.of hct, at1, _, rfl, _, _, _, _, _, rfl, h1, T.cl_Pattern, T.n_Pattern_columns, fldsP_columns _ _ _ _, ?_⟩
                dsimp only [tNoPart]
                refine ⟨_, rfl, _, rfl, slOT (SqT.of hct) fun q G3 s3 hq => ⟨q, _, rfl, .inr hq, rfl, ?_, _, rfl, ?_⟩⟩
                · rw [Int.zero_add, cut_takeG, sv_take]; exact flat_sv _
                · rw [if_neg Bool.false_ne_true, Int.zero_add, cut_takeG, sv_take, inV_str]
                  by_cases c2 : ys[j] ∈ ys.take j
                  · exact ifT (decide_eq_true c2) (no (lies_col hz (.inr c2)) _ (s03.trans (s9.trans s3)))
                  · refine ifF (decide_eq_false c2) ⟨s9.trans s3, fun m hm => ?_, _, rfl⟩
                    rcases Nat.lt_succ_iff_lt_or_eq.mp hm with q2 | q2
                    · exact hb m q2
                    · rw [q2, bad, decide_eq_true c1, decide_eq_false c2]; rfl
              · exact ifT (by rw [decide_eq_false c1]; rfl) (ifT rfl (no (lies_col hz (.inl c1)) _ (s03.trans s9)))
            rintro σ G9 ⟨s9, hb, u6, rfl⟩
            have hst : stray cs ys = none := stray_none fun j hj => hb j (by rw [wl]; exact hj)
            have s04 := s03.trans s9
            have h1 := s9 _ _ h1
            have hrt := s9 _ _ hrt
            have hct := s9 _ _ hct
            have hD := s9 _ _ hD
            have hts := hts.same s9
            have hL := hL.same s9
            have hR := s9.seq hR
            clear hb
            refine ⟨_, rfl, D, _, rfl, .inl (SqL.of hD), _, rfl, by rw [lt]; omega, by rw [lt]; omega, ?_⟩
            refine for_range (n := (((ts.map V.ref).length : Nat) : Int).toNat) (fun i σ G8 => G8 = G9 ∧ (∀ (i' j : Nat) u z r row, i' < i → xs[i']? = some u → ys[j]? = some z → rs[u.toNat]? = some r → (stdR k s)[i']? = some row → decide (z ∈ r) = decide (((j : Nat) : Int) ∈ row)) ∧ ∃ u5 u6 : Option V, σ = [some (.ref p), some (.ref n), some (.ref r), some (.ref D), some (.int (lw k s)), u5, u6]) ⟨rfl, fun i' j u z r row hi => absurd hi (Nat.not_lt_zero _), _, _, rfl⟩ ?_ ?_
            · rintro i σ G8 hi ⟨rfl, hall, u5, u6, rfl⟩
              rw [nl] at hi
              have hu : xs[i]? = some xs[i] := List.getElem?_eq_getElem hi
              have hp : xs[i] ∈ places rs.length := by
                unfold okNums at honum
                rw [Bool.and_eq_true, decide_eq_true_iff] at honum
                exact honum.1 _ (List.getElem_mem hi)
              obtain ⟨p0, p1⟩ := mem_places.mp hp
              have hrow : (stdR k s)[i]? = some (stdR k s)[i] := List.getElem?_eq_getElem (by omega)
              obtain ⟨td, htd, htx⟩ := hts.ex hrow
              have hrr : rs[xs[i].toNat]? = some rs[xs[i].toNat] := List.getElem?_eq_getElem (by omega)
              obtain ⟨tr, rr, etr, err, htr⟩ := hL.ex (show xs[i].toNat < rs.length by omega)
              have atx : atI (ivs xs) (0 + ((i : Nat) : Int)) = some (.int xs[i]) := by rw [Int.zero_add]; exact atI_nat (by rw [List.getElem?_map, hu]; rfl)
              have atr : atI (rts.map V.ref) xs[i] = some (.ref tr) := by
                rw [show xs[i] = ((xs[i].toNat : Nat) : Int) by omega]; exact atI_nat (by rw [List.getElem?_map, etr]; rfl)
              have atd : atI (ts.map V.ref) (0 + ((i : Nat) : Int)) = some (.ref td) := by rw [Int.zero_add]; exact atI_nat (by rw [List.getElem?_map, htd]; rfl)
              refine ⟨_, rfl, _, rfl, by omega, by omega, ?_⟩
              refine for_range (n := (lw k s).toNat) (fun j σ G7 => G7 = G8 ∧ (∀ (m : Nat) z, m < j → ys[m]? = some z → decide (z ∈ rr) = decide (((m : Nat) : Int) ∈ (stdR k s)[i])) ∧ ∃ u6 : Option V, σ = [some (.ref p), some (.ref n), some (.ref r), some (.ref D), some (.int (lw k s)), some (.int (0 + ((i : Nat) : Int))), u6]) ⟨rfl, fun m z hm => absurd hm (Nat.not_lt_zero _), _, rfl⟩ ?_ ?_
              · rintro j σ G7 hj ⟨rfl, hb, u6, rfl⟩
                rw [wl] at hj
                have hz : ys[j]? = some ys[j] := List.getElem?_eq_getElem hj
                have aty : atI (sv ys) (0 + ((j : Nat) : Int)) = some (.str ys[j]) := by rw [Int.zero_add]; exact atI_nat (by rw [List.getElem?_map, hz]; rfl)
                refine ⟨_, rfl, _, _, _, _, _, rfl, h1, T.cl_Pattern, T.n_Pattern_columns, fldsP_columns _ _ _ _, _, rfl, ct, _, _, _, rfl, rfl, SqT.of hct, aty, _, rfl, _, rfl, _, _, _, _, _, rfl, h1, T.cl_Pattern, T.n_Pattern_rows, fldsP_rows _ _ _ _, _, rfl, rt, _, _, _, rfl, rfl, SqT.of hrt, atx, r, _, _, _, rfl, rfl, hR, atr, tr, _, rfl, .inl (SqL.of htr), rfl, flat_sv _, ?_⟩
                rw [if_neg Bool.false_ne_true, inV_str]
                refine ⟨_, rfl, _, rfl, _, rfl, D, _, _, _, rfl, rfl, SqL.of hD, atd, td, _, rfl, .inl (SqL.of htx), rfl, flat_iv _, ?_⟩
                rw [if_neg Bool.false_ne_true, Int.zero_add, inV_int, Int.zero_add]
                refine ⟨rfl, _, rfl, ?_⟩
                by_cases e : decide (ys[j] ∈ rr) = decide (((j : Nat) : Int) ∈ (stdR k s)[i])
                · refine ifF (by rw [decide_eq_true (by rw [e])]; rfl) ⟨rfl, fun m z hm hz2 => ?_, _, rfl⟩
                  rcases Nat.lt_succ_iff_lt_or_eq.mp hm with q2 | q2
                  · exact hb m z q2 hz2
                  · subst q2
                    rw [hz] at hz2; cases hz2
                    exact e
                · exact ifT (by rw [decide_eq_false (fun z => e (by injection z))]; rfl) (no (lies_pair hu hz err (hin _ (List.mem_of_getElem? err)) hrow e) _ s04)
              · rintro σ G7 ⟨rfl, hb, u6, rfl⟩
                refine ⟨rfl, fun i' j u z r row hlt e1 e2 e3 e4 => ?_, _, _, rfl⟩
                rcases Nat.lt_succ_iff_lt_or_eq.mp hlt with q2 | q2
                · exact hall i' j u z r row q2 e1 e2 e3 e4
                · subst q2
                  rw [hu] at e1; cases e1
                  rw [err] at e3; cases e3
                  rw [hrow] at e4; cases e4
                  exact hb j z (by rw [wl]; exact (List.getElem?_eq_some_iff.mp e2).1) e2
            rintro σ G8 ⟨rfl, hall, u5, u6, rfl⟩
            have yes := lies_yes (cs := cs) hok ⟨hl1, by rw [ew]; exact hl2⟩ honum hst hin fun i j u z r row e1 e2 e3 e4 => hall i j u z r row (by rw [nl]; exact (List.getElem?_eq_some_iff.mp e1).1) e1 e2 e3 e4
            have := kk _ s04
            rw [yes] at this
            exact this
          · exact ifT (by rw [decide_eq_false (by rw [len_sv]; exact fun z => hl2 (V.int.inj z))]; rfl) (no (lies_len (by rw [ew]; exact fun z => hl2 z.2)) _ s02)
        · exact ifT (by rw [decide_eq_false (by rw [ivs_len, lt]; exact fun z => hl1 (by have := V.int.inj z; omega))]; rfl) (ifT rfl (no (lies_len fun z => hl1 z.1) _ s02))
      · refine ifT (by rw [decide_eq_false a2]; rfl) (no (lies_ks ?_) _ (Same.refl _))
        rw [Bool.eq_false_iff]; intro t; have := okKS_iff.mp t; omega
    · refine ifT (by rw [decide_eq_false a1]; rfl) (ifT rfl (no (lies_ks ?_) _ (Same.refl _)))
      rw [Bool.eq_false_iff]; intro t; have := okKS_iff.mp t; omega
end
end My
set_option maxRecDepth 100000
set_option maxHeartbeats 4000000
set_option exponentiation.threshold 10000
namespace My
open PySem L2
open C8 (pss_cut)
/-- each row of a standard table: places of the table, each once -/
def goodR (k s : Int) : Bool := (stdR k s).all fun row => decide (row ≠ [] ∧ row.Nodup) && row.all fun j => decide (0 ≤ j ∧ j < lw k s)
theorem goodR_all : ∀ k ∈ ([1, 2, 3, 4, 5] : List Int), ∀ s ∈ ([1, 2, 3, 4, 5, 6, 7, 8, 9, 10] : List Int), goodR k s = true := by decide +kernel
theorem stdR_row {k s : Int} (h : okKS k s = true) {row : List Int} (hr : row ∈ stdR k s) : (row ≠ [] ∧ row.Nodup) ∧ ∀ j ∈ row, 0 ≤ j ∧ j < lw k s := by
  have hk := okKS_iff.mp h
  have a : k ∈ ([1, 2, 3, 4, 5] : List Int) := by
    have : k = 1 ∨ k = 2 ∨ k = 3 ∨ k = 4 ∨ k = 5 := by omega
    rcases this with rfl | rfl | rfl | rfl | rfl <;> simp
  have b : s ∈ ([1, 2, 3, 4, 5, 6, 7, 8, 9, 10] : List Int) := by
    have : s = 1 ∨ s = 2 ∨ s = 3 ∨ s = 4 ∨ s = 5 ∨ s = 6 ∨ s = 7 ∨ s = 8 ∨ s = 9 ∨ s = 10 := by omega
    rcases this with rfl | rfl | rfl | rfl | rfl | rfl | rfl | rfl | rfl | rfl <;> simp
  have g := goodR_all k a s b
  unfold goodR at g
  rw [List.all_eq_true] at g
  have := g row hr
  rw [Bool.and_eq_true, decide_eq_true_iff, List.all_eq_true] at this
  exact ⟨this.1, fun j hj => decide_eq_true_iff.mp (this.2 j hj)⟩
/-- the names at these places -/
def pickN (os : List Str) (x : List Int) : List Str := x.map fun j => os.getD j.toNat ""
theorem pickN_nodup {os : List Str} {x : List Int} {n : Int} (h : os.Nodup) (hx : x.Nodup) (hb : ∀ j ∈ x, 0 ≤ j ∧ j < n) (hn : n ≤ os.length) : (pickN os x).Nodup ∧ ∀ z ∈ pickN os x, z ∈ os.take n.toNat := by
  have at_ : ∀ j ∈ x, os[j.toNat]? = some (os.getD j.toNat "") := fun j hj => by
    have := hb j hj
    rw [List.getD_eq_getElem?_getD, List.getElem?_eq_getElem (show j.toNat < os.length by omega)]; rfl
  constructor
  · unfold pickN
    rw [List.nodup_iff_pairwise_ne] at hx ⊢
    rw [List.pairwise_map]
    refine hx.imp_of_mem fun {a b} ha hb2 hne e => ?_
    have ea := at_ a ha
    have eb := at_ b hb2
    rw [e] at ea
    obtain ⟨h1, e1⟩ := List.getElem?_eq_some_iff.mp ea
    obtain ⟨h2, e2⟩ := List.getElem?_eq_some_iff.mp eb
    have ba := hb a ha
    have bb := hb b hb2
    by_cases c : a.toNat = b.toNat
    · exact hne (by omega)
    · rw [List.nodup_iff_pairwise_ne, List.pairwise_iff_getElem] at h
      rcases Nat.lt_or_gt_of_ne c with l | l
      · exact h _ _ h1 h2 l (by rw [e1, e2])
      · exact h _ _ h2 h1 l (by rw [e1, e2])
  · intro z hz
    obtain ⟨j, hj, rfl⟩ := List.mem_map.mp hz
    have b := hb j hj
    obtain ⟨h1, e1⟩ := List.getElem?_eq_some_iff.mp (at_ j hj)
    rw [← e1]
    rw [List.mem_iff_getElem]
    exact ⟨j.toNat, by rw [List.length_take]; omega, by rw [List.getElem_take]⟩
/-- of the first names, a laid row holds just those that the row tells -/
def LaidOk (os : List Str) (wd : Int) (row : List Int) (ms : List Str) : Prop := ∀ (j : Nat) (z : Str), ((j : Nat) : Int) < wd → os[j]? = some z → (z ∈ ms ↔ ((j : Nat) : Int) ∈ row)
theorem nodup_at {os : List Str} (h : os.Nodup) {i j : Nat} {z : Str} (e1 : os[i]? = some z) (e2 : os[j]? = some z) : i = j := by
  obtain ⟨h1, a1⟩ := List.getElem?_eq_some_iff.mp e1
  obtain ⟨h2, a2⟩ := List.getElem?_eq_some_iff.mp e2
  rw [List.nodup_iff_pairwise_ne, List.pairwise_iff_getElem] at h
  rcases Nat.lt_trichotomy i j with l | l | l
  · exact absurd (a1.trans a2.symm) (h _ _ h1 h2 l)
  · exact l
  · exact absurd (a2.trans a1.symm) (h _ _ h2 h1 l)
theorem laid_of {os ms : List Str} {wd : Int} {row : List Int} (nd : os.Nodup) (hb : ∀ j ∈ row, 0 ≤ j ∧ j < wd) (hn : wd ≤ os.length) (h1 : ∀ z ∈ ms, z ∈ pickN os row ∨ z ∈ os.drop wd.toNat) (h2 : ∀ z ∈ pickN os row, z ∈ ms) : LaidOk os wd row ms := by
  have at_ : ∀ j ∈ row, os[j.toNat]? = some (os.getD j.toNat "") := fun j hj => by
    have := hb j hj
    rw [List.getD_eq_getElem?_getD, List.getElem?_eq_getElem (show j.toNat < os.length by omega)]; rfl
  intro j z hj hz
  constructor
  · intro hm
    rcases h1 z hm with h | h
    · obtain ⟨j', hj', e⟩ := List.mem_map.mp h
      have a := at_ j' hj'
      rw [e] at a
      have b := hb j' hj'
      have := nodup_at nd hz a
      rw [show ((j : Nat) : Int) = j' by omega]; exact hj'
    · obtain ⟨m, hm2, e⟩ := List.getElem_of_mem h
      rw [List.length_drop] at hm2
      have a : os[wd.toNat + m]? = some z := by rw [← List.getElem?_drop, List.getElem?_eq_getElem (by rw [List.length_drop]; exact hm2), e]
      have := nodup_at nd hz a
      omega
  · intro hr
    refine h2 z ?_
    have a := at_ _ hr
    rw [Int.toNat_natCast, hz] at a
    exact List.mem_map.mpr ⟨_, hr, by rw [Int.toNat_natCast]; exact (Option.some.inj a).symm⟩
theorem places_nodup (n : Nat) : (places n).Nodup := by
  unfold places
  rw [List.nodup_iff_pairwise_ne, List.pairwise_map]
  have := List.nodup_range (n := n)
  rw [List.nodup_iff_pairwise_ne] at this
  exact this.imp fun {a b} h e => h (by omega)
theorem places_len (n : Nat) : (places n).length = n := by unfold places; rw [List.length_map, List.length_range]
def laidR (mrs : List (List Str)) (pls : List Int) : List (List Str) := pls.map fun z => mrs.getD z.toNat []
theorem laidR_perm {mrs : List (List Str)} {pls : List Int} (h : pls.Perm (places mrs.length)) : (laidR mrs pls).Perm mrs := by
  have := h.map fun z => mrs.getD z.toNat []
  refine this.trans (List.Perm.of_eq ?_)
  unfold places
  rw [List.map_map]
  refine List.ext_getElem (by rw [List.length_map, List.length_range]) fun i h1 h2 => ?_
  rw [List.getElem_map, List.getElem_range]
  show mrs.getD (((i : Nat) : Int)).toNat [] = mrs[i]
  rw [Int.toNat_natCast, List.getD_eq_getElem?_getD, List.getElem?_eq_getElem h2]; rfl
/-- rows that are laid of a standard table, in some sequence -/
def Mixed (os : List Str) (k s : Int) (rs : List (List Str)) : Prop := ∃ L : List (List Str), rs.Perm L ∧ L.length = (stdR k s).length ∧ ∀ (i : Nat) row ms, (stdR k s)[i]? = some row → L[i]? = some ms → LaidOk os (lw k s) row ms
section
variable {P : Program} {w : World} {K : PySem.W.Frag} {mg : Str → Option Value} {base : Heap} {A : Ad}
def spMixed (K : PySem.W.Frag) : Sp := fun vs H Q _ => ∃ (o p : Addr) (k s : Int) (os cs : List Str) (ps : List Int), vs = [.ref o, .ref p, .int k, .int s] ∧ SqL K H o (sv os) ∧ SqL K H p (ps.map V.int) ∧ ps.length = 60 ∧ okKS k s = true ∧ os.Perm cs ∧ cs.Nodup ∧ lw k s = cs.length ∧
  ∀ D ts rs H', Same H H' → H' D = some (.lst (ts.map V.ref)) → Lss .lst H' ts rs → (∀ x ∈ rs, RowOk cs x) → Mixed os k s rs → Q (.ref D) H'
theorem ok_mixed (T : Txt P K mg A) : FnOk P w K mg base CX0 3 A.a_law_mixed A.d_law_mixed ["order", "pool", "kind", "size"] (spMixed K) := by
  have G_law_standard := ok_lstd (P := P) (w := w) (base := base) T
  have G_law_order := ok_orderF V.int (P := P) (w := w) (base := base) T
  refine T.F_law_mixed.ok sc_law_mixed (fun vs H Q E h => ?_) (fun cdv A' outer s0 H vs Q E hr h => ?_)
  · obtain ⟨o, p, k, s, os, cs, ps, rfl, _⟩ := h
    rfl
  · obtain ⟨o, p, k, s, os, cs, ps, rfl, hO, hP, hpl, hok, hop, nd, hwl, kk⟩ := h
    refine ⟨_, (pss_cons (ps_set (i := 4) sc_law_mixed.nd rfl (Or.inr rfl) (pe_lst pa_nil))
      (pss_cons (ps_for PassesOwn.never rfl (pi_list (pe_call G_law_standard (hr.mono (by decide)) rfl T.mg_law_standard T.F_law_standard.kp T.b_law_standard .nil pass0 (pa_cons (pv 2) (pa_cons (pv 3) pa_nil)))) (pg_name (i := 5) sc_law_mixed.nd rfl (Or.inl rfl))
        (pss_cons (ps_set (i := 6) sc_law_mixed.nd rfl (Or.inl rfl) (pe_op op_mod (pe_callTy call_int1 (by rfl) T.n_int (by decide +kernel) (pa_cons (pe_ix ix_list (pv 1) (pe_op op_add pe_int (pe_callB call_len_seq (by rfl) T.n_len (by decide +kernel) (pa_cons (pv 4) pa_nil))) (fun _ _ => rfl)) pa_nil)) (pe_callB call_len_seq (by rfl) T.n_len (by decide +kernel) (pa_cons (pv 5) pa_nil))))
      (pss_cons (ps_setLc (i := 7) (own := [("j", 9)]) (g := gName 9) (tt := tYes) rfl sc_law_mixed.nd rfl rfl (sw_true rfl rfl rfl (by decide +kernel)) (pi_list (pv 5)) (blkOk_by (N := ["order", "pool", "kind", "size", "rows", "row", "cut", "laid", "i", "j"]) (sc := defScope s_law_mixed) (by decide +kernel)) (fun _ _ _ _ _ => (pg_name (i := 9) sc_law_mixed.nd rfl (Or.inl rfl))) (fun _ _ _ _ _ => pts_nil) (fun _ _ _ _ _ => (pe_ix (show IxR _ (rIxL K) from ix_list) (pv 0) (pv 9) (fun _ _ => rfl))))
      (pss_one (ps_expr (pe_bm PySem.F.plainAttrs_list PySem.F.slot_list_append PySem.F.type_list_append mt_append (pv 4) (pa_cons (pe_op op_cat (pe_slice sl_list (pv 7) (po_some (pv 6)) po_none) (pe_slice sl_list (pv 7) po_none (po_some (pv 6)))) pa_nil)))))))
      (pss_one (ps_ret (pe_lc (own := [("i", 8)]) (g := gName 8) (tt := tYes) rfl sc_law_mixed.nd (pi_list (pe_call G_law_order (hr.mono (by decide)) rfl T.mg_law_order T.F_law_order.kp T.b_law_order .nil pass0 (pa_cons (pe_listRg rfl (by rfl) T.n_list (prg_1 (by rfl) T.n_range (pe_callB call_len_seq (by rfl) T.n_len (by decide +kernel) (pa_cons (pv 4) pa_nil)))) (pa_cons (pv 1) (pa_cons pe_int pa_nil))))) (blkOk_by (N := ["order", "pool", "kind", "size", "rows", "row", "cut", "laid", "i", "j"]) (sc := defScope s_law_mixed) (by decide +kernel)) (fun _ _ _ _ _ => (pg_name (i := 8) sc_law_mixed.nd rfl (Or.inl rfl))) (fun _ _ _ _ _ => pts_nil) (fun _ _ _ _ _ => (pe_ix (show IxR _ (rIxL K) from ix_list) (pv 4) (pv 8) (fun _ _ => rfl)))))))), ?_⟩
    have okb := okKS_iff.mp hok
    have dl := stdR_len hok
    have s1 : Same H H := Same.refl _
    refine ⟨by show 0 ≤ sizeLine; decide, fun D nD => ?_⟩
    have q2 := same_new (o := .lst []) nD
    refine ⟨_, rfl, _, rfl, k, s, rfl, by omega, by omega, by omega, by omega, fun SD ts H3 s3 nSD hSD hts => ?_⟩
    have hD3 := s3 _ _ (upd_same (H := H) (a := D) (o := .lst []))
    have nSD2 : SD ≠ D := fun z => by rw [z, upd_same] at nSD; cases nSD
    have ndo : os.Nodup := hop.nodup_iff.mpr nd
    have ol : os.length = cs.length := hop.length_eq
    have wk : lw k s ≤ os.length := by omega
    have w0 : 0 ≤ lw k s := by omega
    have w12 : os.length ≤ 12 := by
      have := hok
      unfold okKS at this
      rw [decide_eq_true_iff, lw_ok hok] at this
      omega
    have htn : ∀ t ∈ ts, t ≠ D := fun t ht z => by
      obtain ⟨i, hi, e⟩ := List.getElem_of_mem ht
      obtain ⟨row, hrow, hx⟩ := hts.get (show ts[i]? = some t by rw [List.getElem?_eq_getElem hi, e])
      have hx : H3 t = some (.lst (ivs row)) := hx
      rw [z, hD3] at hx
      have : ivs row = [] := by injection hx with hx; injection hx with hx; exact hx.symm
      exact (stdR_row hok (List.mem_of_getElem? hrow)).1.1 (List.map_eq_nil_iff.mp this)
    have s13 : Same H H3 := q2.trans s3
    refine ⟨SD, rfl, ⟨_, SqL.of hSD⟩, for_it walk_list (fun i σ G => Same H G ∧ G SD = some (.lst (ts.map V.ref)) ∧ Lz Ll G ts (stdR k s) ∧ ∃ (us : List Addr) (rs : List (List Str)) (u5 u6 u7 : Option V), σ = [some (.ref o), some (.ref p), some (.int k), some (.int s), some (.ref D), u5, u6, u7, none, none] ∧ G D = some (.lst (us.map V.ref)) ∧ Rows G D us cs rs ∧ rs.length = i ∧ ∀ (i' : Nat) row ms, i' < i → (stdR k s)[i']? = some row → rs[i']? = some ms → LaidOk os (lw k s) row ms) ⟨s13, hSD, hts, [], [], none, none, none, rfl, hD3, ⟨Lss.nil, (fun t h => nomatch h), (fun t h => nomatch h)⟩, rfl, fun i' row ms h => absurd h (Nat.not_lt_zero _)⟩ (fun i σ G _ q => SqL.of q.2.1) ?_ ?_⟩
    · rintro i x σ G0 G hi ⟨sG, hSG, htG, us, rs, u5, u6, u7, rfl, hDG, hRw, hrl, hld⟩ ⟨rfl, hx⟩
      obtain ⟨t, ht, rfl⟩ := refs_get hx
      obtain ⟨row, hrow, htx⟩ := htG.get ht
      have htx : G t = some (.lst (ivs row)) := htx
      obtain ⟨⟨rne, rnd⟩, rb⟩ := stdR_row hok (List.mem_of_getElem? hrow)
      have hil : i < (stdR k s).length := (List.getElem?_eq_some_iff.mp hrow).1
      have ul : us.length = i := by rw [hRw.1.len, hrl]
      obtain ⟨dv, hdv, edv⟩ := atI_ok (xs := ps) (j := 20 + ((us.map V.ref).length : Nat)) (by omega) (by rw [List.length_map]; omega)
      have sg := s1.trans sG
      obtain ⟨pnd, psub⟩ := pickN_nodup ndo rnd rb wk
      have rle : row.length ≤ 12 := by
        have := rnd
        have e1 : (pickN os row).length = row.length := by unfold pickN; rw [List.length_map]
        have e2 := nodup_le pnd psub
        rw [List.length_take] at e2
        omega
      have rpos : (0 : Int) < ((ivs row).length : Nat) := by
        rw [ivs_len]
        have := List.length_pos_iff.mpr rne
        omega
      obtain ⟨cn, hcn⟩ := Int.eq_ofNat_of_zero_le (Int.emod_nonneg dv (Int.ne_of_gt rpos))
      refine ⟨_, rfl, _, rfl, D, _, rfl, .inl (SqL.of hDG), _, _, rfl, rfl, p, _, _, _, rfl, rfl, sg.seq hP, edv, .inl ⟨_, rfl, ?_⟩⟩
      refine ⟨_, rfl, t, _, rfl, .inl (SqL.of htx), _, _, rfl, rfl, rpos, ?_⟩
      refine ⟨_, rfl, t, rfl, ⟨_, SqL.of htx⟩, fun L nL => lc_it walk_list (PvS G L fun m => sv (pickN os (row.take m))) (pv0 nL rfl) (fun m G2 _ q => q.1.seq (SqL.of htx)) ?_ ?_⟩
      · rintro m x G3 G4 hm q ⟨rfl, hx2⟩
        obtain ⟨z, hz, rfl⟩ := ivs_get hx2
        have zb := rb z (List.mem_of_getElem? hz)
        have az : atI (sv os) z = some (.str (os.getD z.toNat "")) := by
          rw [show z = ((z.toNat : Nat) : Int) by omega]
          refine atI_nat ?_
          rw [List.getElem?_map, Int.toNat_natCast, List.getD_eq_getElem?_getD, List.getElem?_eq_getElem (show z.toNat < os.length by omega)]; rfl
        refine ⟨rfl, _, rfl, _, rfl, o, _, _, _, rfl, rfl, (sg.trans q.1).seq hO, az, ?_⟩
        refine q.push nL ?_ ?_
        · show sv (pickN os (row.take (m + 1))) = _
          rw [take_succ hz]; unfold pickN; rw [List.map_append]; exact sv_snoc' _ _
        · show (sv (pickN os (row.take m))).length ≤ 1000000
          rw [len_sv]; unfold pickN; rw [List.length_map, List.length_take]; omega
      rintro G2 ⟨s2, hL2⟩
      have hL2 : G2 L = some (.lst (sv (pickN os (row.take (ivs row).length)))) := hL2
      rw [ivs_len, List.take_length] at hL2
      have hDG2 := s2 _ _ hDG
      have pl : (pickN os row).length ≤ 12 := by unfold pickN; rw [List.length_map]; exact rle
      refine ⟨_, rfl, .inl ⟨rfl, _, SqL.of hDG2⟩, _, rfl, _, rfl, _, rfl, ?_⟩
      delta tNoPart
      refine slO (SqL.of hL2) fun LA G3 s3 n3 x3 => ?_
      rw [hcn, cut_dropG, sv_drop] at x3
      refine ⟨_, rfl, _, rfl, _, rfl, slO (SqL.of (s3 _ _ hL2)) fun LB G4 s4 n4 x4 => ?_⟩
      rw [hcn, cut_takeG, sv_take] at x4
      refine catO (s4 _ _ x3) x4 (by rw [len_sv, len_sv, List.length_drop, List.length_take]; omega) fun LC G5 s5 n5 x5 => ?_
      rw [sv_app] at x5
      have rp := rot_perm (pickN os row) cn
      generalize hms : (pickN os row).drop cn ++ (pickN os row).take cn = ms at x5 rp
      have mok : RowOk cs ms := ⟨rp.nodup_iff.mpr pnd, fun y hy => hop.mem_iff.mp (List.mem_of_mem_take (psub y (rp.mem_iff.mp hy)))⟩
      have mlaid : LaidOk os (lw k s) row ms := laid_of ndo rb wk (fun z hz => .inl (rp.mem_iff.mp hz)) fun z hz => rp.mem_iff.mpr hz
      have sG5 := s2.trans (s3.trans (s4.trans s5))
      have hDG5 := sG5 _ _ hDG
      have nG : G LC = none := none_of (s2.trans (s3.trans s4)) n5
      have lD : LC ≠ D := fun z => by rw [z, hDG] at nG; cases nG
      refine ⟨D, _, _, rfl, rfl, hDG5, small_int (by rw [List.length_map]; omega), ?_⟩
      refine ⟨fun b o e => by rw [upd_ne (ne_of_none e nD)]; exact sG5 _ _ (sG _ _ e), ?_, ?_, us ++ [LC], rs ++ [ms], _, _, _, rfl, by rw [List.map_append]; exact upd_same, hRw.push sG5 x5 lD mok, by rw [List.length_append, hrl]; rfl, fun i' row' ms' hlt e1 e2 => ?_⟩
      rotate_right
      · rcases Nat.lt_succ_iff_lt_or_eq.mp hlt with q2 | q2
        · rw [List.getElem?_append_left (by omega)] at e2; exact hld i' row' ms' q2 e1 e2
        · subst q2
          rw [List.getElem?_append_right (by omega), hrl, Nat.sub_self] at e2
          rw [hrow] at e1; cases e1; cases e2; exact mlaid
      · rw [upd_ne nSD2]; exact sG5 _ _ hSG
      · exact ⟨htG.len, fun a u x ea eb => by
          show upd G5 D _ u = _
          rw [upd_ne (htn u (List.mem_of_getElem? ea))]; exact sG5 _ _ (htG.at_ a u x ea eb)⟩
    · rintro σ G ⟨sG, hSG, htG, us, mrs, u5, u6, u7, rfl, hDG, hRm, hrl, hld⟩
      have tl : (ts.map V.ref).length = (stdR k s).length := by rw [List.length_map, hts.len]
      have ml : mrs.length ≤ 12 := by omega
      have mtl : (us.map V.ref).length = mrs.length := by rw [List.length_map, hRm.1.len]
      have hPG := sG.seq hP
      refine ⟨_, rfl, D, _, rfl, .inl (SqL.of hDG), _, rfl, RgOk.of_le (by omega) (by rw [mtl]; omega) (by omega) (by omega), fun RL nRL => ?_⟩
      generalize hG : upd G RL _ = H9
      have q9 : Same G H9 := hG ▸ same_new nRL
      have x9 := (congrFun hG RL).symm.trans upd_same
      clear hG
      have x9 : H9 RL = some (.lst (ivs (places mrs.length))) := by rw [← rgV_places, ← mtl]; exact x9
      refine ⟨_, rfl, RL, p, places mrs.length, ps, 0, rfl, SqL.of x9, q9.seq hPG, by rw [places_len]; omega, by decide, by rw [places_len]; omega, fun PL pls H10 s10 nPL hPL hpp => ?_⟩
      have hPL : H10 PL = some (.lst (ivs pls)) := hPL
      have q10 := q9.trans s10
      have hDm := q10 _ _ hDG
      have hRs := hRm.1.same q10
      have pl : pls.length = mrs.length := by rw [hpp.length_eq, places_len]
      refine ⟨PL, rfl, ⟨_, SqL.of hPL⟩, fun RD nRD => lc_it walk_list (fun i G => LcL H10 RD ((laidR mrs pls).take i) G) (lcl0 nRD) (fun i G _ q => q.1.seq (SqL.of hPL)) ?_ ?_⟩
      · rintro i x G0 G hi q ⟨rfl, hx⟩
        obtain ⟨z, hz, rfl⟩ := ivs_get hx
        have zb := mem_places.mp (hpp.mem_iff.mp (List.mem_of_getElem? hz))
        obtain ⟨t, ms, et, em, ht⟩ := (hRs.same q.1).ex (show z.toNat < mrs.length by omega)
        have az : atI (us.map V.ref) z = some (.ref t) := by rw [show z = ((z.toNat : Nat) : Int) by omega]; exact atI_nat (by rw [List.getElem?_map, et]; rfl)
        have tne : t ≠ RD := fun e => by
          have := hRs.at_ _ _ _ et em
          rw [e, nRD] at this; cases this
        have hy : (laidR mrs pls)[i]? = some ms := by
          unfold laidR
          rw [List.getElem?_map, hz]
          show some (mrs.getD z.toNat []) = some ms
          rw [List.getD_eq_getElem?_getD, em]; rfl
        refine ⟨rfl, _, rfl, _, rfl, D, _, _, _, rfl, rfl, SqL.of (q.1 _ _ hDm), az, ?_⟩
        rw [take_succ hy]
        exact q.push nRD (Same.refl _) ht tne (by rw [List.length_take]; unfold laidR; rw [List.length_map]; omega)
      rintro H11 ⟨s11, rts, hRD, hRt, _⟩
      have rl : (laidR mrs pls).length = mrs.length := by unfold laidR; rw [List.length_map, pl]
      have hRt : Lss .lst H11 rts (laidR mrs pls) := by
        have e : (laidR mrs pls).take (ivs pls).length = laidR mrs pls := List.take_of_length_le (by rw [rl, ivs_len, pl]; exact Nat.le_refl _)
        rw [← e]; exact hRt
      have lp := laidR_perm hpp
      refine kk RD rts (laidR mrs pls) H11 (sG.trans (q10.trans s11)) hRD hRt (fun x hx => hRm.2.2 x (lp.mem_iff.mp hx)) ⟨mrs, lp, by rw [hrl, tl], fun i row ms e1 e2 => hld i row ms ?_ e1 e2⟩
      rw [tl]; exact (List.getElem?_eq_some_iff.mp e1).1
end
end My
set_option maxRecDepth 100000
set_option maxHeartbeats 4000000
set_option exponentiation.threshold 10000
namespace My
open PySem L2
def stdBit (k s : Int) : Bool := (stdR k s).all fun row => (List.range 12).all fun j => (wantN row).testBit j == decide (((j : Nat) : Int) ∈ row)
theorem std_bit {k s : Int} (hk : okKS k s = true) {row : List Int} (hr : row ∈ stdR k s) {j : Nat} (hj : j < 12) : (wantN row).testBit j = decide (((j : Nat) : Int) ∈ row) := by
  have := ks_all stdBit (by decide +kernel) hk
  have := List.all_eq_true.mp this row hr
  exact eq_of_beq (List.all_eq_true.mp this j (List.mem_range.mpr hj))
theorem std_nodup {k s : Int} (hk : okKS k s = true) : (stdM k s).Nodup :=
  of_decide_eq_true (ks_all (fun k s => decide (stdM k s).Nodup) (by decide +kernel) hk)
theorem msk_bit {cs S : List Str} {i : Nat} : (msk cs S).testBit i = (decide (i < cs.length) && decide (cs.getD i "" ∈ S)) := bm_bit _ _ _
/-- what a recognition says -/
structure RecOk (cs : List Str) (rs : List (List Str)) (k : Int) (ns cols : List Nat) : Prop where
  ok : okKS k (sizeOf2 cs.length k) = true
  wd : w2 k (sizeOf2 cs.length k) = (cs.length : Nat)
  cl : Cols cs.length cols
  cn : cols.length = cs.length
  pm : (stdM k (sizeOf2 cs.length k)).Perm ((tabM cs rs).map (seeM · cols))
  nn : ns = (stdM k (sizeOf2 cs.length k)).map fun w => ((tabM cs rs).map (seeM · cols)).idxOf w
  kk : k ∈ ([1, 2, 3, 4, 5] : List Int)
theorem rec_ok {cs : List Str} {rs : List (List Str)} {k : Int} {ns cols : List Nat} (c0 : 0 < cs.length) (h : recB cs.length (tabM cs rs) = some (k, ns, cols)) : RecOk cs rs k ns cols := by
  unfold recB at h
  obtain ⟨k', hk', h⟩ := List.exists_of_findSome?_eq_some h
  unfold recAt at h
  cases hm : recK k' (sizeOf2 cs.length k') (tabM cs rs) cs.length with
  | none => rw [hm] at h; cases h
  | some q =>
    rw [hm] at h
    obtain ⟨rfl, rfl⟩ : k' = k ∧ q = (ns, cols) := by
      have := Option.some.inj h
      exact ⟨congrArg (·.1) this, congrArg (·.2) this⟩
    unfold recK at hm
    split at hm
    · rename_i hb
      obtain ⟨a, b, c, d⟩ := match_sound c0 (fun x hx => by
        obtain ⟨row, hr2, rfl⟩ := List.mem_map.mp hx
        have := (std_chk hb.1 row hr2).2.2
        rw [hb.2] at this
        exact this) hm
      exact ⟨hb.1, hb.2, a, b, c, d, hk'⟩
    · cases hm
theorem nodup_mapI {α β : Type} {f : α → β} {l : List α} (h : l.Nodup) (hf : ∀ a ∈ l, ∀ b ∈ l, f a = f b → a = b) : (l.map f).Nodup := by
  rw [List.nodup_iff_pairwise_ne] at h ⊢
  rw [List.pairwise_map]
  exact h.imp_of_mem fun {a b} ha hb hne e => hne (hf a ha b hb e)
section
variable {cs : List Str} {rs : List (List Str)} {k : Int} {ns cols : List Nat}
theorem RecOk.rl (R : RecOk cs rs k ns cols) : (stdR k (sizeOf2 cs.length k)).length = rs.length := by
  have := R.pm.length_eq
  unfold stdM tabM at this
  rw [List.length_map, List.length_map, List.length_map] at this
  exact this
theorem RecOk.nl (R : RecOk cs rs k ns cols) : ns.length = rs.length := by
  rw [R.nn, List.length_map, ← R.rl]; unfold stdM; rw [List.length_map]
theorem rec_lies (R : RecOk cs rs k ns cols) (nd : cs.Nodup) (hrow : ∀ r ∈ rs, ∀ z ∈ r, z ∈ cs) : liesB cs rs k (sizeOf2 cs.length k) (ns.map fun n => ((n : Nat) : Int)) (cols.map fun c => cs.getD c "") = true := by
  have hmem : ∀ x ∈ stdM k (sizeOf2 cs.length k), x ∈ (tabM cs rs).map (seeM · cols) := fun x hx => R.pm.mem_iff.mp hx
  have hlt : ∀ x ∈ stdM k (sizeOf2 cs.length k), ((tabM cs rs).map (seeM · cols)).idxOf x < rs.length := fun x hx => by
    have := List.idxOf_lt_length_iff.mpr (hmem x hx)
    unfold tabM at this ⊢
    rw [List.length_map, List.length_map] at this
    exact this
  have hsl : (stdM k (sizeOf2 cs.length k)).length = rs.length := by unfold stdM; rw [List.length_map]; exact R.rl
  have hcs : ∀ c, c < cs.length → cs[c]? = some (cs.getD c "") := fun c hc => by rw [List.getD_eq_getElem?_getD, List.getElem?_eq_getElem hc]; rfl
  refine lies_yes R.ok ⟨by rw [List.length_map, R.nl, R.rl], by rw [List.length_map, R.cn, R.wd]⟩ ?_ ?_ hrow ?_
  · unfold okNums
    rw [Bool.and_eq_true, decide_eq_true_iff, decide_eq_true_iff]
    constructor
    · intro x hx
      obtain ⟨n, hn, rfl⟩ := List.mem_map.mp hx
      rw [R.nn] at hn
      obtain ⟨y, hy, rfl⟩ := List.mem_map.mp hn
      have := hlt y hy
      exact mem_places.mpr (by omega)
    · refine nodup_mapI ?_ (fun a _ b _ e => by omega)
      rw [R.nn]
      refine nodup_mapI (std_nodup R.ok) fun a ha b hb e => ?_
      have la := List.idxOf_lt_length_iff.mpr (hmem a ha)
      have lb := List.idxOf_lt_length_iff.mpr (hmem b hb)
      have ea := List.getElem_idxOf la
      have eb := List.getElem_idxOf lb
      rw [← ea, ← eb]
      congr 1
  · rw [stray_none_iff]
    constructor
    · intro x hx
      obtain ⟨c, hc, rfl⟩ := List.mem_map.mp hx
      exact List.mem_of_getElem? (hcs c (R.cl.lt c hc))
    · refine nodup_mapI R.cl.nd fun a ha b hb e => ?_
      have ea := hcs a (R.cl.lt a ha)
      have eb := hcs b (R.cl.lt b hb)
      rw [e] at ea
      exact nodup_at nd ea eb
  · intro i j u z r row hu hz hr hrw
    rw [List.getElem?_map] at hu hz
    cases hcj : cols[j]? with
    | none => rw [hcj] at hz; cases hz
    | some c =>
    rw [hcj] at hz
    cases Option.some.inj hz
    cases hni : ns[i]? with
    | none => rw [hni] at hu; cases hu
    | some n =>
    rw [hni] at hu
    cases Option.some.inj hu
    rw [Int.toNat_natCast] at hr
    have hcl := R.cl.lt c (List.mem_of_getElem? hcj)
    have hjl : j < 12 := by
      have := (List.getElem?_eq_some_iff.mp hcj).1
      have h2 := R.ok
      unfold okKS at h2
      rw [decide_eq_true_iff, R.wd] at h2
      have h3 := R.cn
      omega
    have hwm : (stdM k (sizeOf2 cs.length k))[i]? = some (wantN row) := by unfold stdM; rw [List.getElem?_map, hrw]; rfl
    have hnn : n = ((tabM cs rs).map (seeM · cols)).idxOf (wantN row) := by
      have e := hni
      rw [R.nn, List.getElem?_map, hwm] at e
      exact (Option.some.inj e).symm
    have hin := hmem _ (List.mem_of_getElem? hwm)
    have hat : ((tabM cs rs).map (seeM · cols))[n]? = some (wantN row) := by
      have := List.idxOf_lt_length_iff.mpr hin
      rw [hnn, List.getElem?_eq_getElem this, List.getElem_idxOf this]
    have hat2 : ((tabM cs rs).map (seeM · cols))[n]? = some (seeM (msk cs (canon cs r)) cols) := by
      unfold tabM
      rw [List.getElem?_map, List.getElem?_map, hr]; rfl
    rw [hat] at hat2
    have hb : (wantN row).testBit j = (seeM (msk cs (canon cs r)) cols).testBit j := congrArg (fun m => Nat.testBit m j) (Option.some.inj hat2)
    rw [std_bit R.ok (List.mem_of_getElem? hrw) hjl, seeM_bit, hcj] at hb
    have hb : decide (((j : Nat) : Int) ∈ row) = (msk cs (canon cs r)).testBit c := hb
    rw [hb, msk_bit, decide_eq_true hcl, Bool.true_and]
    exact decide_eq_decide.mpr ⟨fun h => mem_canon.mpr ⟨List.mem_of_getElem? (hcs c hcl), h⟩, fun h => (mem_canon.mp h).2⟩
end
end My
set_option maxRecDepth 100000
set_option maxHeartbeats 16000000
set_option exponentiation.threshold 10000
namespace My
open PySem L2
open C8 (pss_cut)
/-- rows as data -/
abbrev pdr (rs : List (List Str)) : List PyData := rs.map fun r => PyData.list (pd r)
theorem lay_pdr {rs : List (List Str)} (h : ∀ r ∈ rs, ∀ z ∈ r, Good z) : PyData.canLayAll0 (pdr rs) = true := by
  induction rs with
  | nil => rfl
  | cons a t ih => exact layc (layL (lay_all fun z hz => okz_good (h a List.mem_cons_self z hz))) (ih fun s hs => h s (List.mem_cons_of_mem _ hs))
theorem depth_pdr : ∀ rs : List (List Str), PyData.depthAll (pdr rs) ≤ 3
  | [] => by simp [PyData.depthAll]
  | r :: t => by
    have h1 : PyData.depthAll (t.map fun r => PyData.list (pd r)) ≤ 3 := depth_pdr t
    have h2 := depth_pd r
    simp only [List.map_cons, PyData.depthAll, PyData.depth]
    omega
theorem dp_pdr {K : PySem.W.Frag} {H : Hp} : ∀ {ts : List Addr} {rs : List (List Str)}, Lss .lst H ts rs → DpAll K H (ts.map V.ref) (pdr rs)
  | [], [], _ => .nil
  | [], _ :: _, h => nomatch h.len
  | _ :: _, [], h => nomatch h.len
  | t :: ts, r :: rs, h => .cons (.lst (xs := sv r) (SqL.of (h.at_ 0 t r rfl rfl)) (dp_pd r)) (dp_pdr ⟨Nat.succ.inj h.len, fun i u x a b => h.at_ (i + 1) u x a b⟩)
theorem mk_table2 {C : Addr} {K : PySem.W.Frag} {H : Hp} {l r x dx : Addr} {cs : List Str} {ts : List Addr} {rs : List (List Str)} {Q2 : VK} (hL : SqL K H l (sv cs) ∨ H l = some (.tup (sv cs))) (hR : SqL K H r (ts.map V.ref)) (hs : LsA K H ts rs) (ok : ColsOk cs) (hr : rs.length ≤ 48)
    (st : ∀ x ∈ rs, stray cs x = none ∧ x.length ≤ 1000) (hx : H x = none) (hdx : H dx = none) (hne : dx ≠ x) (k : ∀ H', Same H H' → Tb C H' x cs rs → Q2 .non H') :
    spTable C K (.ref x :: ([.ref l, .ref r] ++ [])) (upd (upd H dx (.own x)) x (.ins C dx [])) Q2 E0 := by
  have s1 := same_new (o := .own x) hdx
  have hx1 : upd H dx (.own x) x = none := by rw [upd_ne hne.symm]; exact hx
  have s2 : Same H (upd (upd H dx (.own x)) x (.ins C dx [])) := s1.trans (same_new hx1)
  exact ⟨x, l, r, dx, cs, ts, rs, rfl, upd_same, hL.imp (fun q => s2.seq q) (fun q => s2 _ _ q), s2.seq hR, hs.same s2, ok.g, ok.nd, ok.n, hr, st, fun H' hk hT => k H' (fun b o e => hk b o (ne_of_none e hx) (s2 _ _ e)) hT⟩
section
variable {P : Program} {w : World} {K : PySem.W.Frag} {mg : Str → Option Value} {base : Heap} {A : Ad}
def spLRec (K : PySem.W.Frag) : Sp := fun vs H Q _ => ∃ (n r : Addr) (cs : List Str) (rts : List Addr) (rs : List (List Str)), vs = [.ref n, .ref r] ∧ H n = some (.lst (sv cs)) ∧ ColsOk cs ∧ 0 < cs.length ∧ H r = some (.lst (rts.map V.ref)) ∧ Lss .lst H rts rs ∧ (∀ x ∈ rs, RowOk cs x) ∧ rs.length ≤ 40 ∧
  (∀ k ns cols q H', recB cs.length (tabM cs rs) = some (k, ns, cols) → Same H H' → H' q = some (.tup [.int k, .int (sizeOf2 cs.length k)]) → Q (.ref q) H') ∧ (recB cs.length (tabM cs rs) = none → ∀ H', Same H H' → Q .non H')
theorem ok_lrec (T : Txt P K mg A) : FnOk P w K mg base CX0 21 A.a_law_recognized A.d_law_recognized ["names", "rows"] (spLRec K) := by
  have G_Table_init := ok_table (P := P) (w := w) (base := base) T
  have G_recognized := ok_rec (P := P) (w := w) (base := base) T
  have G_law_is_pattern := ok_isPat (P := P) (w := w) (base := base) T
  refine T.F_law_recognized.ok sc_law_recognized (fun vs H Q E h => ?_) (fun cdv A' outer s0 H vs Q E hr h => ?_)
  · obtain ⟨n, r, cs, rts, rs, rfl, _⟩ := h
    rfl
  · obtain ⟨n, r, cs, rts, rs, rfl, hn, ok, c0, hr8, hR, hRow, hrl, kq, kn⟩ := h
    refine ⟨_, (pss_cons (ps_set (i := 2) sc_law_recognized.nd rfl (Or.inl rfl) (pe_lst (pa_cons (pe_callTy (show CallR _ _ (rListOf K) from call_list_of) (by rfl) T.n_list (by decide +kernel) (pa_cons (pv 0) pa_nil)) (pa_cons (pe_lc (own := [("row", 4)]) (g := gName 4) (tt := tYes) rfl sc_law_recognized.nd (pi_list (pv 1)) (blkOk_by (N := ["names", "rows", "handed", "found", "row"]) (sc := defScope s_law_recognized) (by decide +kernel)) (fun _ _ _ _ _ => (pg_name (i := 4) sc_law_recognized.nd rfl (Or.inl rfl))) (fun _ _ _ _ _ => pts_nil) (fun _ _ _ _ _ => (pe_callTy (show CallR _ _ (rListOf K) from call_list_of) (by rfl) T.n_list (by decide +kernel) (pa_cons (pv 4) pa_nil)))) pa_nil))))
      (pss_cons (ps_set (i := 3) sc_law_recognized.nd rfl (Or.inl rfl) (pe_call G_recognized (hr.mono (by decide)) rfl T.mg_recognized T.F_recognized.kp T.b_recognized .nil pass0 (pa_cons (pe_make T.mk_Table G_Table_init (hr.mono (by decide)) rfl T.mg_Table T.bi .nil pass0 (pa_cons (pe_ix ix_list (pv 2) pe_int (fun _ _ => rfl)) (pa_cons (pe_ix ix_list (pv 2) pe_int (fun _ _ => rfl)) pa_nil))) pa_nil)))
      (pss_cons (ps_if (pt_cmpR (op_neD hr.units) (pv 2) (pe_lst (pa_cons (pv 0) (pa_cons (pv 1) pa_nil))) (nomark _)) (pss_one (ps_ret (pe_tup (pa_cons pe_int (pa_cons pe_int pa_nil))))) pss_nil)
      (pss_cons (ps_if (pt_cmpR op_isN (pv 3) pe_non (nomark _)) (pss_one (ps_ret pe_non)) pss_nil)
      (pss_cons (ps_if (PW.pt (pw_or (pt_not (pt_val (pe_callB call_isi (by rfl) T.n_isinstance (by decide +kernel) (pa_cons (pv 3) (pa_cons (pe_glob (v := .ref A.C_Pattern) rfl T.mg_Pattern rfl) pa_nil))))) (pw_or1 (pt_not (pt_val (pe_call G_law_is_pattern (hr.mono (by decide)) rfl T.mg_law_is_pattern T.F_law_is_pattern.kp T.b_law_is_pattern .nil pass0 (pa_cons (pv 3) (pa_cons (pv 0) (pa_cons (pv 1) pa_nil))))))))) (pss_one (ps_ret (pe_tup (pa_cons pe_int (pa_cons pe_int pa_nil))))) pss_nil)
      (pss_cons (ps_if (PW.pt (pw_or (pt_cmpR op_ne (pe_callB call_len_seq (by rfl) T.n_len (by decide +kernel) (pa_cons (pe_fld (pv 3) rfl) pa_nil)) (pe_callB call_len_seq (by rfl) T.n_len (by decide +kernel) (pa_cons (pv 1) pa_nil)) (nomark _)) (pw_or1 (pt_cmpR op_ne (pe_callB call_len_seq (by rfl) T.n_len (by decide +kernel) (pa_cons (pe_fld (pv 3) rfl) pa_nil)) (pe_callB call_len_seq (by rfl) T.n_len (by decide +kernel) (pa_cons (pv 0) pa_nil)) (nomark _))))) (pss_one (ps_ret (pe_tup (pa_cons pe_int (pa_cons pe_int pa_nil))))) pss_nil)
      (pss_one (ps_ret (pe_tup (pa_cons (pe_fld (pv 3) rfl) (pa_cons (pe_fld (pv 3) rfl) pa_nil))))))))))), ?_⟩
    have hg := ok.g
    have a0 : Same H H := Same.refl _
    refine ⟨_, rfl, n, _, rfl, .inl (SqL.of hn), fun d1 n1 => ?_⟩
    generalize hG : upd H d1 _ = F1
    have a1 : Same H F1 := hG ▸ same_new n1
    have b1 := (congrFun hG d1).symm.trans upd_same
    clear hG
    refine ⟨_, rfl, r, rfl, ⟨_, SqL.of (a1 _ _ hr8)⟩, fun D hD => lc_it walk_list (fun i H8 => LcL F1 D (rs.take i) H8) (lcl0 hD) (fun i H8 _ q => (a1.trans q.1).seq (SqL.of hr8)) ?_ ?_⟩
    · rintro i x H80 H8 hi q8 ⟨rfl, hx⟩
      obtain ⟨c, hc, rfl⟩ := refs_get hx
      obtain ⟨y, hy, ho8⟩ := ((hR.same a1).same q8.1).get hc
      refine ⟨rfl, _, rfl, c, _, rfl, .inl (SqL.of ho8), fun a' ha' => ?_⟩
      rw [take_succ hy]
      exact q8.new hD ha' (by rw [List.length_take]; omega)
    rintro F2 ⟨a2, dts, b2, hDl, _⟩
    rw [List.length_map, hR.len, List.take_length] at hDl
    refine ⟨by show 2 ≤ sizeLine; decide, fun hd n7 => ?_⟩
    generalize hG : upd F2 hd _ = F7
    have a7 : Same F2 F7 := hG ▸ same_new n7
    have b7 := (congrFun hG hd).symm.trans upd_same
    clear hG
    have a27 := a2.trans a7
    have b1 := a27 _ _ b1
    have b2 := a7 _ _ b2
    have hDl := hDl.same a7
    have a17 := a1.trans a27
    have c0' : atI ([V.ref d1, .ref D] : List V) 0 = some (V.ref d1) := atI_nat (j := 0) rfl
    have c1' : atI ([V.ref d1, .ref D] : List V) 1 = some (V.ref D) := atI_nat (j := 1) rfl
    refine ⟨_, rfl, hd, _, _, _, rfl, rfl, SqL.of b7, c0', _, rfl, hd, _, _, _, rfl, rfl, SqL.of b7, c1', ?_⟩
    dsimp only [tNil]
    refine fun tb dx hx hdx hne => mk_table2 (.inl (SqL.of b1)) (SqL.of b2) hDl.lsa ok (by omega) (fun x hx => ⟨(hRow x hx).stray, by have := (hRow x hx).len; have := ok.n; omega⟩) hx hdx hne fun F8 s8 hT => ⟨rfl, ?_⟩
    have a18 := a17.trans s8
    have gcs : PyData.canLayAll0 (pd cs) = true := lay_all fun z hz => okz_good (hg z hz)
    have grs : PyData.canLayAll0 (pdr rs) = true := lay_pdr fun x hx z hz => hg z ((hRow x hx).2 z hz)
    have lay : PyData.canLayAll0 [.list (pd cs), .list (pdr rs)] = true := layc (layL gcs) (layc (layL grs) (by simp [PyData.canLayAll0]))
    have dep : PyData.depthAll [.list (pd cs), .list (pdr rs)] ≤ 20 := by
      have e1 := depth_pd cs
      have e2 := depth_pdr rs
      simp only [PyData.depthAll, PyData.depth] at e1 e2 ⊢
      omega
    refine ⟨tb, cs, rs, rfl, hT, by omega, c0, ok.n, fun k ns cols p F9 s9 hrec hP => ?_, fun hnone F9 s9 => ?_⟩
    · have hP := hP
      refine ⟨_, rfl, _, rfl, _, rfl, by show 2 ≤ sizeLine; decide, fun l9 m9 => ?_⟩
      generalize hG : upd F9 l9 _ = V4
      have v4 : Same F9 V4 := hG ▸ same_new m9
      have u4 := (congrFun hG l9).symm.trans upd_same
      clear hG
      have v14 := (a18.trans s9).trans v4
      have v74 := (s8.trans s9).trans v4
      refine ⟨.list [.list (pd cs), .list (pdr rs)], .list [.list (pd cs), .list (pdr rs)],
        .lst (SqL.of (v74 _ _ b7)) (.cons (.lst (SqL.of (v74 _ _ b1)) (dp_pd cs)) (.cons (.lst (SqL.of (v74 _ _ b2)) (dp_pdr (hDl.same v74))) .nil)),
        .lst (SqL.of u4) (.cons (.lst (SqL.of (v14 _ _ hn)) (dp_pd cs)) (.cons (.lst (SqL.of (v14 _ _ hr8)) (dp_pdr (hR.same v14))) .nil)), shapedL lay dep, shapedL lay dep, _, rfl, ifF (by rw [eqvL lay]; rfl) ?_⟩
      have hP := hP.same v4
      obtain ⟨dp, rt, ct, h1, hrt, hct⟩ := id hP
      have R := rec_ok c0 hrec
      have hin : ∀ r ∈ rs, ∀ z ∈ r, z ∈ cs := fun x hx => (hRow x hx).2
      have hL := rec_lies R ok.nd hin
      have nl := R.nl
      have cnl := R.cn
      have cl12 := ok.n
      refine ⟨_, rfl, rfl, _, rfl, ifF rfl ?_⟩
      refine ⟨_, rfl, _, _, _, _, true, rfl, .own _, T.tyP h1, T.ko_selfP, true, rfl, ifF rfl ?_⟩
      refine ⟨_, rfl, _, rfl, _, rfl, p, n, r, k, _, _, _, cs, rts, rs, rfl, hP, SqL.of (v14 _ _ hn), SqL.of (v14 _ _ hr8), hR.same v14, hin, by omega, by rw [List.length_map]; omega, by rw [List.length_map]; omega, fun F10 s10 => ?_⟩
      rw [hL]
      have h1 := s10 _ _ h1
      have hrt := s10 _ _ hrt
      have hct := s10 _ _ hct
      have v15 := v14.trans s10
      refine ⟨_, rfl, ifF rfl ?_⟩
      refine ⟨_, rfl, _, _, _, _, _, rfl, h1, T.cl_Pattern, T.n_Pattern_rows, fldsP_rows _ _ _ _, rt, _, rfl, .inr (SqT.of hrt), _, rfl, r, _, rfl, .inl (SqL.of (v15 _ _ hr8)), rfl, _, rfl, ?_⟩
      refine ifF (by rw [decide_eq_true (by rw [ivs_len, List.length_map, List.length_map, nl, hR.len])]; rfl) ?_
      refine ⟨_, rfl, _, _, _, _, _, rfl, h1, T.cl_Pattern, T.n_Pattern_columns, fldsP_columns _ _ _ _, ct, _, rfl, .inr (SqT.of hct), _, rfl, n, _, rfl, .inl (SqL.of (v15 _ _ hn)), rfl, _, rfl, ?_⟩
      refine ifF (by rw [decide_eq_true (by rw [len_sv, len_sv, List.length_map, cnl])]; rfl) ?_
      refine ⟨_, rfl, _, _, _, _, _, rfl, h1, T.cl_Pattern, T.n_Pattern_kind, fldsP_kind _ _ _ _, _, rfl, _, _, _, _, _, rfl, h1, T.cl_Pattern, T.n_Pattern_size, fldsP_size _ _ _ _, by show 2 ≤ sizeLine; decide, fun q nq => ?_⟩
      generalize hG : upd F10 q _ = V5
      have v5 : Same F10 V5 := hG ▸ same_new nq
      have u5 := (congrFun hG q).symm.trans upd_same
      clear hG
      exact kq k ns cols q V5 hrec (v15.trans v5) u5
    · have hnone := hnone
      refine ⟨_, rfl, _, rfl, _, rfl, by show 2 ≤ sizeLine; decide, fun l9 m9 => ?_⟩
      generalize hG : upd F9 l9 _ = V4
      have v4 : Same F9 V4 := hG ▸ same_new m9
      have u4 := (congrFun hG l9).symm.trans upd_same
      clear hG
      have v14 := (a18.trans s9).trans v4
      have v74 := (s8.trans s9).trans v4
      refine ⟨.list [.list (pd cs), .list (pdr rs)], .list [.list (pd cs), .list (pdr rs)],
        .lst (SqL.of (v74 _ _ b7)) (.cons (.lst (SqL.of (v74 _ _ b1)) (dp_pd cs)) (.cons (.lst (SqL.of (v74 _ _ b2)) (dp_pdr (hDl.same v74))) .nil)),
        .lst (SqL.of u4) (.cons (.lst (SqL.of (v14 _ _ hn)) (dp_pd cs)) (.cons (.lst (SqL.of (v14 _ _ hr8)) (dp_pdr (hR.same v14))) .nil)), shapedL lay dep, shapedL lay dep, _, rfl, ifF (by rw [eqvL lay]; rfl) ?_⟩
      exact ⟨_, rfl, rfl, _, rfl, ifT rfl (kn hnone _ v14)⟩
end
end My
set_option maxRecDepth 100000
set_option maxHeartbeats 16000000
set_option exponentiation.threshold 10000
namespace My
open PySem L2
open C8 (pss_cut)
/-- without this name -/
def offN (z : Str) (r : List Str) : List Str := r.filter fun x => !decide (x = z)
def turnR (z : Str) (r : List Str) : List Str := offN z r ++ if z ∈ r then [] else [z]
section
variable {P : Program} {w : World} {K : PySem.W.Frag} {mg : Str → Option Value} {base : Heap} {A : Ad}
def spTurn (K : PySem.W.Frag) : Sp := fun vs H Q _ => ∃ (r : Addr) (i : Nat) (z : Str) (rts : List Addr) (rs : List (List Str)) (row : List Str), vs = [.ref r, .int (i : Nat), .str z] ∧ H r = some (.lst (rts.map V.ref)) ∧ Lss .lst H rts rs ∧ rs[i]? = some row ∧ rs.length ≤ 40 ∧ row.length ≤ 40 ∧
  (∀ D c H', Same H H' → H D = none → H' D = some (.lst ((rts.take i ++ [c] ++ rts.drop (i + 1)).map V.ref)) → H' c = some (.lst (sv (turnR z row))) → Q (.ref D) H')
theorem ok_turn (T : Txt P K mg A) : FnOk P w K mg base CX0 1 A.a_law_turned A.d_law_turned ["rows", "at", "name"] (spTurn K) := by
  refine T.F_law_turned.ok sc_law_turned (fun vs H Q E h => ?_) (fun cdv A' outer s0 H vs Q E hr h => ?_)
  · obtain ⟨r, i, z, rts, rs, row, rfl, _⟩ := h
    rfl
  · obtain ⟨r, i, z, rts, rs, row, rfl, hr8, hR, hrow, hrl, hwl, kk⟩ := h
    refine ⟨_, (pss_cons (ps_setLc (i := 3) (own := [("other", 4)]) (g := gName 4) (tt := _) rfl sc_law_turned.nd rfl rfl (sw_true rfl rfl rfl (by decide +kernel)) (pi_list (pe_ix ix_list (pv 0) (pv 1) (fun _ _ => rfl))) (blkOk_by (N := ["rows", "at", "name", "row", "other"]) (sc := defScope s_law_turned) (by decide +kernel)) (fun _ _ _ _ _ => (pg_name (i := 4) sc_law_turned.nd rfl (Or.inl rfl))) (fun _ _ _ _ _ => (pts_one (pt_cmpR op_ne (pv 4) (pv 2) (nomark _)))) (fun _ _ _ _ _ => (pv 4)))
      (pss_cut (ps_if (pt_cmpR op_notIn_seq (pv 2) (pe_ix ix_list (pv 0) (pv 1) (fun _ _ => rfl)) (by with_unfolding_all rfl)) (pss_one (ps_set (i := 3) sc_law_turned.nd rfl (Or.inl rfl) (pe_op op_cat (pv 3) (pe_lst (pa_cons (pv 2) pa_nil))))) pss_nil)
      (pss_one (ps_ret (pe_op op_cat (pe_op op_cat (pe_slice sl_list (pv 0) po_none (po_some (pv 1))) (pe_lst (pa_cons (pv 3) pa_nil))) (pe_slice sl_list (pv 0) (po_some (pe_op op_add (pv 1) pe_int)) po_none)))))), ?_⟩
    have hil : i < rts.length := by rw [hR.len]; exact (List.getElem?_eq_some_iff.mp hrow).1
    obtain ⟨t, row', et, ew, ht⟩ := hR.ex (i := i) (by rw [← hR.len]; exact hil)
    rw [hrow] at ew; cases ew
    have at1 : atI (rts.map V.ref) ((i : Nat) : Int) = some (.ref t) := atI_nat (by rw [List.getElem?_map, et]; rfl)
    have rl : rts.length ≤ 40 := by rw [hR.len]; exact hrl
    refine ⟨_, rfl, _, rfl, r, _, _, _, rfl, rfl, SqL.of hr8, at1, t, rfl, ⟨_, SqL.of ht⟩, fun D nD => lc_it walk_list (PvS H D fun j => sv (offN z (row.take j))) (pv0 nD rfl) (fun j G _ q => q.1.seq (SqL.of ht)) ?_ ?_⟩
    · rintro j x H3 H4 hj q ⟨rfl, hx⟩
      obtain ⟨y, hy, rfl⟩ := sv_get hx
      have hl : (sv (offN z (row.take j))).length ≤ 1000000 := by
        have := List.length_filter_le (fun x => !decide (x = z)) (row.take j)
        rw [List.length_take] at this
        rw [len_sv]; unfold offN; omega
      refine ⟨rfl, _, rfl, _, rfl, rfl, _, rfl, ?_⟩
      by_cases e : y = z
      · refine ifF (by rw [e, decide_eq_true rfl]; rfl) (q.skip ?_)
        rw [take_succ hy]; unfold offN
        rw [List.filter_append, List.filter_cons_of_neg (by rw [decide_eq_true e]; decide)]; simp
      · refine ifT (by rw [decide_eq_false (fun h => e (V.str.inj h))]; rfl) ⟨_, rfl, q.push nD ?_ hl⟩
        rw [take_succ hy]; unfold offN
        rw [List.filter_append, List.filter_cons_of_pos (by rw [decide_eq_false e]; rfl)]; exact sv_snoc' _ _
    rintro H1 ⟨s1, h1⟩
    have h1 : H1 D = some (.lst (sv (offN z (row.take (sv row).length)))) := h1
    rw [len_sv, List.take_length] at h1
    have ol : (offN z row).length ≤ 40 := Nat.le_trans (List.length_filter_le _ _) hwl
    refine ⟨fun σ G => Same H G ∧ ∃ c : Addr, σ = [some (.ref r), some (.int (i : Nat)), some (.str z), some (.ref c), none] ∧ H c = none ∧ G c = some (.lst (sv (turnR z row))), ?_, ?_⟩
    · refine ⟨_, rfl, _, rfl, _, rfl, r, _, _, _, rfl, rfl, s1.seq (SqL.of hr8), at1, t, _, rfl, .inl (SqL.of (s1 _ _ ht)), rfl, flat_sv _, _, rfl, ?_⟩
      rw [if_pos (rfl : true = true), inV_str]
      by_cases hm : z ∈ row
      · refine ifF (by rw [decide_eq_true hm]; rfl) ⟨s1, D, rfl, nD, ?_⟩
        unfold turnR
        rw [if_pos hm, List.append_nil]; exact h1
      · refine ifT (by rw [decide_eq_false hm]; rfl) ⟨_, rfl, _, rfl, by show 1 ≤ sizeLine; decide, fun l nl => ?_⟩
        generalize hG : upd H1 l _ = H2
        have q2 : Same H1 H2 := hG ▸ same_new nl
        have x2 := (congrFun hG l).symm.trans upd_same
        clear hG
        refine catO (q2 _ _ h1) x2 (by rw [len_sv]; show (offN z row).length + 1 ≤ 1000000; omega) fun c H3 s3 n3 x3 => ?_
        have s13 := s1.trans (q2.trans s3)
        refine ⟨s13, c, rfl, none_of (s1.trans q2) n3, ?_⟩
        unfold turnR
        rw [if_neg hm, sv_snoc']; exact x3
    rintro σ G ⟨sG, c, rfl, nc, hc⟩
    have hX : SqL K G r (rts.map V.ref) := sG.seq (SqL.of hr8)
    refine ⟨_, rfl, ?_⟩
    dsimp only [tNoPart]
    refine ⟨_, rfl, _, rfl, slO hX fun b H1 s1 n1 x1 => ?_⟩
    rw [cut_takeG] at x1
    refine ⟨_, rfl, by show 1 ≤ sizeLine; decide, fun l n2 => ?_⟩
    generalize hG : upd H1 l _ = H2
    have q2 : Same H1 H2 := hG ▸ same_new n2
    have x2 := (congrFun hG l).symm.trans upd_same
    clear hG
    refine catO (q2 _ _ x1) x2 (by rw [List.length_take, List.length_map]; show min i rts.length + 1 ≤ 1000000; omega) fun d H3 s3 n3 x3 => ?_
    have s13 := s1.trans (q2.trans s3)
    refine ⟨_, rfl, _, rfl, _, _, rfl, rfl, _, rfl, ?_⟩
    dsimp only [tNoPart]
    refine slO (s13.seq hX) fun e H4 s4 n4 x4 => ?_
    rw [show ((i : Nat) : Int) + 1 = ((i + 1 : Nat) : Int) by omega, cut_dropG] at x4
    refine catO (s4 _ _ x3) x4 (by rw [List.length_append, List.length_take, List.length_drop, List.length_map]; show min i rts.length + 1 + (rts.length - (i + 1)) ≤ 1000000; omega) fun f H5 s5 n5 x5 => ?_
    refine kk f c H5 (sG.trans (s13.trans (s4.trans s5))) (none_of (sG.trans (s13.trans s4)) n5) ?_ (s5 _ _ (s4 _ _ (s13 _ _ hc)))
    rw [List.map_append, List.map_append, List.map_take, List.map_drop]; exact x5
end
end My
set_option maxRecDepth 100000
set_option maxHeartbeats 4000000
set_option exponentiation.threshold 10000
namespace My
open PySem L2
/-! what two recognitions of alike tables would have in common -/
def degM (M : List Nat) (c : Nat) : Nat := (M.filter fun m => m.testBit c).length
def ssz (k s : Int) : List Nat := (stdM k s).map (pcM · (w2 k s).toNat)
def sbig (k s : Int) : Bool := (List.range (w2 k s).toNat).any fun j => decide (3 ≤ degM (stdM k s) j)
def sbigX (k s : Int) (j : Nat) : Bool := (List.range (w2 k s).toNat).any fun i => !decide (i = j) && decide (3 ≤ degM (stdM k s) i)
def sszX (k s : Int) (j : Nat) : List Nat := (stdM k s).map fun x => pcM x (w2 k s).toNat - if x.testBit j then 1 else 0
def szr (cs r : List Str) : Nat := (cs.filter fun z => decide (z ∈ r)).length
def rowSz (cs : List Str) (rs : List (List Str)) : List Nat := rs.map (szr cs)
def degR (rs : List (List Str)) (z : Str) : Nat := (rs.filter fun r => decide (z ∈ r)).length
def big (cs : List Str) (rs : List (List Str)) : Bool := cs.any fun z => decide (3 ≤ degR rs z)
structure Iso (cs : List Str) (rs : List (List Str)) (k s : Int) (σ : List Nat) : Prop where
  ok : okKS k s = true
  wd : w2 k s = (cs.length : Nat)
  cl : Cols cs.length σ
  cn : σ.length = cs.length
  pm : (stdM k s).Perm ((tabM cs rs).map (seeM · σ))
theorem RecOk.iso {cs : List Str} {rs : List (List Str)} {k : Int} {ns cols : List Nat} (R : RecOk cs rs k ns cols) : Iso cs rs k (sizeOf2 cs.length k) cols := ⟨R.ok, R.wd, R.cl, R.cn, R.pm⟩
theorem cs_map (cs : List Str) : cs = (List.range cs.length).map fun i => cs.getD i "" := by
  refine List.ext_getElem (by rw [List.length_map, List.length_range]) fun i h1 h2 => ?_
  rw [List.getElem_map, List.getElem_range, List.getD_eq_getElem?_getD, List.getElem?_eq_getElem h1]; rfl
theorem getD_some {cs : List Str} {c : Nat} (h : c < cs.length) : cs[c]? = some (cs.getD c "") := by rw [List.getD_eq_getElem?_getD, List.getElem?_eq_getElem h]; rfl
theorem mskc_bit {cs r : List Str} {i : Nat} (h : i < cs.length) : (msk cs (canon cs r)).testBit i = decide (cs.getD i "" ∈ r) := by
  rw [msk_bit, decide_eq_true h, Bool.true_and]
  exact decide_eq_decide.mpr ⟨fun h => (mem_canon.mp h).2, fun q => mem_canon.mpr ⟨List.mem_of_getElem? (getD_some h), q⟩⟩
theorem filter_cs (cs : List Str) (p : Str → Bool) : (cs.filter p).length = ((List.range cs.length).filter fun i => p (cs.getD i "")).length := by
  conv => lhs; rw [cs_map cs]
  rw [List.filter_map, List.length_map]; rfl
theorem pc_msk (cs r : List Str) : pcM (msk cs (canon cs r)) cs.length = szr cs r := by
  unfold pcM szr
  rw [filter_cs cs]
  congr 1
  exact List.filter_congr fun i hi => mskc_bit (List.mem_range.mp hi)
theorem deg_tab {cs : List Str} {rs : List (List Str)} {c : Nat} (h : c < cs.length) : degM (tabM cs rs) c = degR rs (cs.getD c "") := by
  unfold degM degR tabM
  rw [List.filter_map, List.length_map]
  congr 1
  exact List.filter_congr fun r _ => mskc_bit h
section
variable {cs : List Str} {rs : List (List Str)} {k s : Int} {σ : List Nat}
theorem Iso.wn (I : Iso cs rs k s σ) : (w2 k s).toNat = cs.length := by rw [I.wd]; exact Int.toNat_natCast _
theorem Iso.sz (I : Iso cs rs k s σ) : (ssz k s).Perm (rowSz cs rs) := by
  have := I.pm.map (pcM · cs.length)
  unfold ssz
  rw [I.wn]
  refine this.trans (List.Perm.of_eq ?_)
  unfold rowSz tabM
  rw [List.map_map, List.map_map]
  exact List.map_congr_left fun r _ => (pc_see I.cl I.cn).trans (pc_msk cs r)
theorem Iso.len (I : Iso cs rs k s σ) : (stdM k s).length = rs.length := by
  have := I.pm.length_eq
  rw [this]; unfold tabM; rw [List.length_map, List.length_map]
theorem Iso.see (I : Iso cs rs k s σ) {j : Nat} (hj : j < cs.length) (m : Nat) : (seeM m σ).testBit j = m.testBit (σ.getD j 0) := by
  have hl : j < σ.length := by rw [I.cn]; exact hj
  rw [seeM_bit, List.getElem?_eq_getElem hl, List.getD_eq_getElem?_getD, List.getElem?_eq_getElem hl]; rfl
theorem Iso.at (I : Iso cs rs k s σ) {j : Nat} (hj : j < cs.length) : σ.getD j 0 < cs.length := by
  have hl : j < σ.length := by rw [I.cn]; exact hj
  rw [List.getD_eq_getElem?_getD, List.getElem?_eq_getElem hl]
  exact I.cl.lt _ (List.getElem_mem hl)
theorem Iso.deg (I : Iso cs rs k s σ) {j : Nat} (hj : j < cs.length) : degM (stdM k s) j = degR rs (cs.getD (σ.getD j 0) "") := by
  rw [← deg_tab (I.at hj)]
  unfold degM
  rw [(I.pm.filter fun m => m.testBit j).length_eq, List.filter_map, List.length_map]
  congr 1
  exact List.filter_congr fun m _ => I.see hj m
theorem Iso.on (I : Iso cs rs k s σ) {c : Nat} (hc : c < cs.length) : ∃ j, j < cs.length ∧ σ.getD j 0 = c := by
  have hm : c ∈ σ := (cols_perm I.cl I.cn).mem_iff.mpr (List.mem_range.mpr hc)
  obtain ⟨j, hj, e⟩ := List.getElem_of_mem hm
  exact ⟨j, by rw [← I.cn]; exact hj, by rw [List.getD_eq_getElem?_getD, List.getElem?_eq_getElem hj]; exact e⟩
theorem Iso.big (I : Iso cs rs k s σ) : sbig k s = My.big cs rs := by
  unfold sbig My.big
  rw [I.wn, Bool.eq_iff_iff, List.any_eq_true, List.any_eq_true]
  constructor
  · rintro ⟨j, hj, h⟩
    have hj := List.mem_range.mp hj
    rw [I.deg hj] at h
    exact ⟨_, List.mem_of_getElem? (getD_some (I.at hj)), h⟩
  · rintro ⟨z, hz, h⟩
    obtain ⟨c, hc, e⟩ := List.getElem_of_mem hz
    obtain ⟨j, hj, e2⟩ := I.on hc
    refine ⟨j, List.mem_range.mpr hj, ?_⟩
    rw [I.deg hj, e2, show cs.getD c "" = z by rw [List.getD_eq_getElem?_getD, List.getElem?_eq_getElem hc, e]; rfl]
    exact h
end
/-! checks over all kinds and sizes -/
def all2 (f : Int → Int → Int → Int → Bool) : Bool := (List.range 6).all fun i => (List.range 11).all fun j => !okKS ((i : Nat) : Int) ((j : Nat) : Int) || (List.range 6).all fun i' => (List.range 11).all fun j' => !okKS ((i' : Nat) : Int) ((j' : Nat) : Int) || f i j i' j'
theorem ks_all2 {f : Int → Int → Int → Int → Bool} (h : all2 f = true) {k s k' s' : Int} (hk : okKS k s = true) (hk' : okKS k' s' = true) : f k s k' s' = true := by
  obtain ⟨i, j, rfl, rfl, hi, hj⟩ := ks_nat hk
  obtain ⟨i', j', rfl, rfl, hi', hj'⟩ := ks_nat hk'
  unfold all2 at h
  have h := List.all_eq_true.mp (List.all_eq_true.mp h i (List.mem_range.mpr hi)) j (List.mem_range.mpr hj)
  rw [hk] at h
  have h := List.all_eq_true.mp (List.all_eq_true.mp h i' (List.mem_range.mpr hi')) j' (List.mem_range.mpr hj')
  rw [hk'] at h
  exact h
def chk1 (k s k' s' : Int) : Bool := if w2 k s = w2 k' s' then (List.range 13).all fun a => !(a :: ssz k s).isPerm (ssz k' s') || (sbig k s && !sbig k' s') else true
def chk3 (k s k' s' : Int) : Bool := if w2 k s = w2 k' s' + 1 then (List.range 12).all fun j => !decide (j < (w2 k s).toNat) || !(sszX k s j).isPerm (ssz k' s') || (sbigX k s j != sbig k' s') else true
def chk4 (k s k' s' : Int) : Bool := if w2 k s = w2 k' s' then !decide ((stdM k s).length = (stdM k' s').length) || decide ((ssz k s).sum % 2 = (ssz k' s').sum % 2) else true
def chk5 (k s k' s' : Int) : Bool := if w2 k s + 1 = w2 k' s' then !(ssz k s).isPerm (ssz k' s') || (sbig k s != sbig k' s') else true
def chk6 (k s k' s' : Int) : Bool := if w2 k s = w2 k' s' then !(ssz k s).isPerm (ssz k' s') || decide (k = k' ∧ s = s') else true
theorem all1 : all2 chk1 = true := by decide +kernel
theorem all3 : all2 chk3 = true := by decide +kernel
theorem all4 : all2 chk4 = true := by decide +kernel
theorem all5 : all2 chk5 = true := by decide +kernel
theorem all6 : all2 chk6 = true := by decide +kernel
end My
set_option maxRecDepth 100000
set_option maxHeartbeats 4000000
set_option exponentiation.threshold 10000
namespace My
open PySem L2
theorem iso_mixed {os cs : List Str} {k s : Int} {rs : List (List Str)} (hok : okKS k s = true) (hw : w2 k s = (cs.length : Nat)) (hop : os.Perm cs) (nd : cs.Nodup) (h : Mixed os k s rs) : ∃ σ, Iso cs rs k s σ := by
  obtain ⟨L, hL, hl, hld⟩ := h
  have ol : os.length = cs.length := hop.length_eq
  have ndo : os.Nodup := hop.nodup_iff.mpr nd
  have hin : ∀ z ∈ os, z ∈ cs := fun z hz => hop.mem_iff.mp hz
  have w12 : cs.length ≤ 12 := by
    have := hok
    unfold okKS at this
    rw [decide_eq_true_iff, hw] at this
    omega
  refine ⟨os.map (cs.idxOf ·), hok, hw, ⟨nodup_mapI ndo fun a ha b hb e => ?_, fun c hc => ?_⟩, by rw [List.length_map, ol], ?_⟩
  · have la := List.idxOf_lt_length_iff.mpr (hin a ha)
    have lb := List.idxOf_lt_length_iff.mpr (hin b hb)
    have ea := List.getElem_idxOf la
    have eb := List.getElem_idxOf lb
    rw [← ea, ← eb]
    congr 1
  · obtain ⟨z, hz, rfl⟩ := List.mem_map.mp hc
    exact List.idxOf_lt_length_iff.mpr (hin z hz)
  · have pT : (tabM cs L).Perm (tabM cs rs) := (hL.symm).map _
    refine List.Perm.trans (List.Perm.of_eq ?_) (pT.map (seeM · (os.map (cs.idxOf ·))))
    have l1 : (stdM k s).length = (stdR k s).length := by unfold stdM; rw [List.length_map]
    refine List.ext_getElem (by rw [l1, List.length_map]; unfold tabM; rw [List.length_map, hl]) fun i h1 h2 => ?_
    have hir : i < (stdR k s).length := by rw [← l1]; exact h1
    have hil : i < L.length := by rw [hl]; exact hir
    have e1 : (stdM k s)[i] = wantN (stdR k s)[i] := List.getElem_map _
    have e2 : ((tabM cs L).map (seeM · (os.map (cs.idxOf ·))))[i] = seeM (msk cs (canon cs L[i])) (os.map (cs.idxOf ·)) := (List.getElem_map _).trans (congrArg (seeM · (os.map (cs.idxOf ·))) (List.getElem_map _))
    rw [e1, e2]
    have lo := hld i _ _ (List.getElem?_eq_getElem hir) (List.getElem?_eq_getElem hil)
    refine bit_ext fun p => ?_
    rw [seeM_bit, List.getElem?_map]
    by_cases hp : p < os.length
    · rw [List.getElem?_eq_getElem hp]
      have hm := List.idxOf_lt_length_iff.mpr (hin os[p] (List.getElem_mem hp))
      show _ = (msk cs (canon cs L[i])).testBit (cs.idxOf os[p])
      rw [mskc_bit hm, std_bit hok (List.getElem_mem hir) (by omega), List.getD_eq_getElem?_getD, List.getElem?_eq_getElem hm, List.getElem_idxOf hm]
      have := lo p os[p] (by rw [← lw_ok hok, hw]; omega) (List.getElem?_eq_getElem hp)
      exact decide_eq_decide.mpr this.symm
    · rw [List.getElem?_eq_none (by omega)]
      have := (std_chk hok _ (List.getElem_mem hir)).2.2
      rw [hw, Int.toNat_natCast] at this
      exact Nat.testBit_lt_two_pow (Nat.lt_of_lt_of_le this (Nat.pow_le_pow_right (by decide) (by omega)))
theorem size_of {cs : List Str} {k s : Int} (hok : okKS k s = true) (hw : w2 k s = (cs.length : Nat)) : sizeOf2 cs.length k = s ∧ k ∈ ([1, 2, 3, 4, 5] : List Int) := by
  have e := w2_is hok
  have hk := okKS_iff.mp hok
  rw [hw] at e
  have : k = 1 ∨ k = 2 ∨ k = 3 ∨ k = 4 ∨ k = 5 := by omega
  unfold sizeOf2 moreI
  rcases this with rfl | rfl | rfl | rfl | rfl <;> simp at e hk ⊢ <;> omega
section
variable {cs : List Str} {rs : List (List Str)} {k s : Int} {σ : List Nat}
theorem Iso.pos (I : Iso cs rs k s σ) : 0 < cs.length ∧ cs.length ≤ 12 := by
  have := I.ok
  unfold okKS at this
  rw [decide_eq_true_iff, I.wd] at this
  omega
theorem rec_mixed (I : Iso cs rs k s σ) : sizeOf2 cs.length k = s ∧ ∃ ns cols, recB cs.length (tabM cs rs) = some (k, ns, cols) := by
  obtain ⟨hs, hk⟩ := size_of I.ok I.wd
  refine ⟨hs, ?_⟩
  cases e : recB cs.length (tabM cs rs) with
  | none =>
    exfalso
    unfold recB at e
    have := List.findSome?_eq_none_iff.mp e k hk
    unfold recAt at this
    rw [Option.map_eq_none_iff] at this
    unfold recK at this
    rw [hs, if_pos ⟨I.ok, I.wd⟩] at this
    exact match_complete I.cl I.cn I.pm this
  | some q =>
    obtain ⟨k', ns, cols⟩ := q
    have I' := (rec_ok I.pos.1 e).iso
    have c := ks_all2 all6 I.ok I'.ok
    unfold chk6 at c
    rw [if_pos (by rw [I.wd, I'.wd]), List.isPerm_iff.mpr (I.sz.trans I'.sz.symm)] at c
    have c := of_decide_eq_true (show decide (k = k' ∧ s = sizeOf2 cs.length k') = true from c)
    exact ⟨ns, cols, by rw [c.1]⟩
theorem rec_none {cs : List Str} {rs : List (List Str)} (c0 : 0 < cs.length) (h : ∀ k s σ, Iso cs rs k s σ → False) : recB cs.length (tabM cs rs) = none := by
  cases e : recB cs.length (tabM cs rs) with
  | none => rfl
  | some q => obtain ⟨k, ns, cols⟩ := q; exact (h _ _ _ (rec_ok c0 e).iso).elim
theorem deg_perm {a b : List (List Str)} (p : a.Perm b) (z : Str) : degR a z = degR b z := (p.filter _).length_eq
theorem deg_cons (x : List Str) (b : List (List Str)) (z : Str) : degR b z ≤ degR (x :: b) z := by
  unfold degR
  exact ((List.sublist_cons_self x b).filter _).length_le
theorem big_mono {a b : List (List Str)} (h : ∀ z, degR a z ≤ degR b z) (e : big cs a = true) : big cs b = true := by
  unfold big at e ⊢
  rw [List.any_eq_true] at e ⊢
  obtain ⟨z, hz, q⟩ := e
  exact ⟨z, hz, decide_eq_true (Nat.le_trans (of_decide_eq_true q) (h z))⟩
theorem szr_le (cs x : List Str) : szr cs x ≤ cs.length := List.length_filter_le _ _
theorem two_more {rs' : List (List Str)} {x : List Str} {k' s' : Int} {σ' : List Nat} (I : Iso cs rs k s σ) (I' : Iso cs rs' k' s' σ') (p : rs'.Perm (x :: rs)) : False := by
  have c := ks_all2 all1 I.ok I'.ok
  unfold chk1 at c
  rw [if_pos (by rw [I.wd, I'.wd])] at c
  have xl := szr_le cs x
  have := I.pos
  have c := List.all_eq_true.mp c (szr cs x) (List.mem_range.mpr (by omega))
  have pr : (szr cs x :: ssz k s).Perm (ssz k' s') := ((I.sz.cons _).trans (p.map (szr cs)).symm).trans I'.sz.symm
  rw [List.isPerm_iff.mpr pr, I.big, I'.big] at c
  have c : (big cs rs && !big cs rs') = true := c
  rw [Bool.and_eq_true] at c
  have := big_mono (cs := cs) (a := rs) (b := rs') (fun z => by rw [deg_perm p]; exact deg_cons x rs z) c.1
  rw [this] at c
  exact nomatch c.2
theorem none_more {rs' : List (List Str)} {x : List Str} (I : Iso cs rs k s σ) (p : rs'.Perm (x :: rs)) : recB cs.length (tabM cs rs') = none := rec_none I.pos.1 fun _ _ _ I' => two_more I I' p
theorem none_less {rs' : List (List Str)} {x : List Str} (I : Iso cs rs k s σ) (p : rs.Perm (x :: rs')) : recB cs.length (tabM cs rs') = none := rec_none I.pos.1 fun _ _ _ I' => two_more I' I p
/-! one column more -/
theorem none_new {cs' : List Str} {z : Str} (I : Iso cs rs k s σ) (p : cs'.Perm (z :: cs)) (hz : ∀ r ∈ rs, z ∉ r) : recB cs'.length (tabM cs' rs) = none := by
  have l := p.length_eq
  rw [List.length_cons] at l
  refine rec_none (by omega) fun k' s' σ' I' => ?_
  have c := ks_all2 all5 I.ok I'.ok
  unfold chk5 at c
  rw [if_pos (by rw [I.wd, I'.wd, l]; push_cast; rfl)] at c
  have e : rowSz cs' rs = rowSz cs rs := by
    unfold rowSz
    refine List.map_congr_left fun r hr => ?_
    unfold szr
    rw [(p.filter fun y => decide (y ∈ r)).length_eq, List.filter_cons_of_neg (by rw [decide_eq_false (hz r hr)]; decide)]
  rw [List.isPerm_iff.mpr (I.sz.trans ((List.Perm.of_eq e.symm).trans I'.sz.symm)), I.big, I'.big] at c
  have c : (big cs rs != big cs' rs) = true := c
  have eb : big cs' rs = big cs rs := by
    unfold big
    rw [p.any_eq, List.any_cons]
    have : degR rs z = 0 := by
      unfold degR
      rw [List.filter_eq_nil_iff.mpr (fun r hr => by rw [decide_eq_false (hz r hr)]; decide)]; rfl
    rw [this]; rfl
  rw [eb] at c
  simp at c
/-! a mark turned over -/
theorem szr_off {cs : List Str} {z : Str} (nd : cs.Nodup) (hz : z ∈ cs) (r : List Str) : szr cs (offN z r) + (if z ∈ r then 1 else 0) = szr cs r := by
  unfold szr
  induction cs with
  | nil => exact absurd hz (by simp)
  | cons a t ih =>
    obtain ⟨n1, n2⟩ := List.nodup_cons.mp nd
    by_cases e : a = z
    · subst e
      have o : ∀ y ∈ t, decide (y ∈ offN a r) = decide (y ∈ r) := fun y hy => decide_eq_decide.mpr (by
        unfold offN
        rw [List.mem_filter]
        have : y ≠ a := fun e => n1 (e ▸ hy)
        simp [this])
      have h0 : ¬ (decide (a ∈ offN a r) = true) := by
        unfold offN
        simp
      rw [List.filter_cons, if_neg h0, List.filter_cons, List.filter_congr o]
      by_cases hm : a ∈ r
      · rw [if_pos hm, if_pos (decide_eq_true hm), List.length_cons]
      · rw [if_neg hm, if_neg (by rw [decide_eq_false hm]; decide)]; rfl
    · have ih := ih n2 ((List.mem_cons.mp hz).resolve_left fun h => e h.symm)
      have o : decide (a ∈ offN z r) = decide (a ∈ r) := decide_eq_decide.mpr (by
        unfold offN
        rw [List.mem_filter]
        simp [e])
      rw [List.filter_cons, List.filter_cons, o]
      split
      · rw [List.length_cons, List.length_cons]; omega
      · exact ih
theorem szr_turn {cs : List Str} {z : Str} (nd : cs.Nodup) (hz : z ∈ cs) (r : List Str) : (szr cs (turnR z r) + szr cs r) % 2 = 1 := by
  have h1 := szr_off nd hz r
  have h2 := szr_off nd hz (turnR z r)
  have e : offN z (turnR z r) = offN z r := by
    unfold turnR offN
    rw [List.filter_append, List.filter_filter]
    have : (List.filter (fun x => !decide (x = z)) (if z ∈ r then [] else [z])) = [] := by
      split <;> simp
    rw [this, List.append_nil]
    exact List.filter_congr fun x _ => Bool.and_self _
  rw [e] at h2
  by_cases hm : z ∈ r
  · have : z ∉ turnR z r := by
      unfold turnR offN
      rw [if_pos hm, List.append_nil, List.mem_filter]
      simp
    rw [if_neg this] at h2
    rw [if_pos hm] at h1
    omega
  · have : z ∈ turnR z r := by
      unfold turnR
      rw [if_neg hm]; simp
    rw [if_pos this] at h2
    rw [if_neg hm] at h1
    omega
theorem none_turn {z : Str} {i : Nat} {row : List Str} (I : Iso cs rs k s σ) (nd : cs.Nodup) (hz : z ∈ cs) (hi : rs[i]? = some row) : recB cs.length (tabM cs (rs.take i ++ [turnR z row] ++ rs.drop (i + 1))) = none := by
  refine rec_none I.pos.1 fun k' s' σ' I' => ?_
  have hil := (List.getElem?_eq_some_iff.mp hi).1
  have c := ks_all2 all4 I.ok I'.ok
  unfold chk4 at c
  have l : (stdM k s).length = (stdM k' s').length := by
    rw [I.len, I'.len, List.length_append, List.length_append, List.length_take, List.length_drop]
    show rs.length = min i rs.length + 1 + (rs.length - (i + 1))
    omega
  rw [if_pos (by rw [I.wd, I'.wd]), decide_eq_true l] at c
  have c := of_decide_eq_true (show decide ((ssz k s).sum % 2 = (ssz k' s').sum % 2) = true from c)
  rw [I.sz.sum_nat, I'.sz.sum_nat] at c
  have er : rs = rs.take i ++ [row] ++ rs.drop (i + 1) := by
    rw [← take_succ hi, List.take_append_drop]
  have t := szr_turn nd hz row
  have a : (rowSz cs rs).sum = ((rs.take i).map (szr cs)).sum + szr cs row + ((rs.drop (i + 1)).map (szr cs)).sum := by
    unfold rowSz
    conv => lhs; rw [er]
    rw [List.map_append, List.map_append, List.sum_append, List.sum_append]
    simp
  have b : (rowSz cs (rs.take i ++ [turnR z row] ++ rs.drop (i + 1))).sum = ((rs.take i).map (szr cs)).sum + szr cs (turnR z row) + ((rs.drop (i + 1)).map (szr cs)).sum := by
    unfold rowSz
    rw [List.map_append, List.map_append, List.sum_append, List.sum_append]
    simp
  omega
end
end My
set_option maxRecDepth 100000
set_option maxHeartbeats 4000000
set_option exponentiation.threshold 10000
namespace My
open PySem L2
theorem mem_off {z y : Str} {r : List Str} : y ∈ offN z r ↔ y ∈ r ∧ y ≠ z := by
  unfold offN
  rw [List.mem_filter]
  constructor
  · rintro ⟨a, b⟩
    exact ⟨a, fun e => by rw [e, decide_eq_true rfl] at b; exact nomatch b⟩
  · rintro ⟨a, b⟩
    exact ⟨a, by rw [decide_eq_false b]; rfl⟩
theorem off_len {cs : List Str} {z : Str} (nd : cs.Nodup) (hz : z ∈ cs) : (offN z cs).length + 1 = cs.length := by
  have h := szr_off nd hz cs
  rw [if_pos hz] at h
  have a : szr cs cs = cs.length := by
    unfold szr
    rw [List.filter_eq_self.mpr fun y hy => decide_eq_true hy]
  have b : szr cs (offN z cs) = (offN z cs).length := by
    unfold szr
    conv => rhs; unfold offN
    congr 1
    refine List.filter_congr fun y hy => ?_
    by_cases e : y = z
    · rw [decide_eq_true e, decide_eq_false (fun h => (mem_off.mp h).2 e)]; rfl
    · rw [decide_eq_false e, decide_eq_true (mem_off.mpr ⟨hy, e⟩)]; rfl
  omega
section
variable {cs : List Str} {rs : List (List Str)} {k s : Int} {σ : List Nat}
theorem Iso.three (I : Iso cs rs k s σ) : 3 ≤ cs.length := by
  have e := w2_is I.ok
  have hk := okKS_iff.mp I.ok
  rw [I.wd] at e
  have : k = 1 ∨ k = 2 ∨ k = 3 ∨ k = 4 ∨ k = 5 := by omega
  rcases this with rfl | rfl | rfl | rfl | rfl <;> simp at e hk <;> omega
theorem none_col {z : Str} (I : Iso cs rs k s σ) (nd : cs.Nodup) (hz : z ∈ cs) : recB (offN z cs).length (tabM (offN z cs) (rs.map (offN z))) = none := by
  have l := off_len nd hz
  have w3 := I.three
  have w12 := I.pos.2
  refine rec_none (by omega) fun k' s' σ' I' => ?_
  obtain ⟨c0, hc0, ez⟩ := List.getElem_of_mem hz
  have ez : cs.getD c0 "" = z := by rw [List.getD_eq_getElem?_getD, List.getElem?_eq_getElem hc0, ez]; rfl
  obtain ⟨j, hj, ej⟩ := I.on hc0
  have c := ks_all2 all3 I.ok I'.ok
  unfold chk3 at c
  rw [if_pos (by rw [I.wd, I'.wd]; omega)] at c
  have c := List.all_eq_true.mp c j (List.mem_range.mpr (by omega))
  rw [decide_eq_true (show j < (w2 k s).toNat by rw [I.wn]; exact hj)] at c
  have p1 : (sszX k s j).Perm (rowSz (offN z cs) (rs.map (offN z))) := by
    unfold sszX
    rw [I.wn]
    refine (I.pm.map _).trans (List.Perm.of_eq ?_)
    unfold rowSz tabM
    rw [List.map_map, List.map_map, List.map_map]
    refine List.map_congr_left fun r _ => ?_
    show pcM (seeM (msk cs (canon cs r)) σ) cs.length - (if (seeM (msk cs (canon cs r)) σ).testBit j then 1 else 0) = szr (offN z cs) (offN z r)
    rw [pc_see I.cl I.cn, pc_msk, I.see hj, ej, mskc_bit hc0, ez]
    have h := szr_off nd hz r
    have e : szr (offN z cs) (offN z r) = szr cs (offN z r) := by
      show ((cs.filter fun x => !decide (x = z)).filter fun y => decide (y ∈ offN z r)).length = (cs.filter fun y => decide (y ∈ offN z r)).length
      rw [List.filter_filter]
      congr 1
      refine List.filter_congr fun y _ => ?_
      by_cases e : y = z
      · have : y ∉ offN z r := fun h => (mem_off.mp h).2 e
        have t : decide (y ∈ offN z r) = false := decide_eq_false this
        rw [t, decide_eq_true e]; rfl
      · rw [decide_eq_false e]; exact Bool.and_true _
    rw [e]
    by_cases hm : z ∈ r
    · rw [decide_eq_true hm, if_pos rfl]
      rw [if_pos hm] at h
      omega
    · rw [decide_eq_false hm, if_neg Bool.false_ne_true]
      rw [if_neg hm] at h
      omega
  rw [List.isPerm_iff.mpr (p1.trans I'.sz.symm), I'.big] at c
  have c : (sbigX k s j != big (offN z cs) (rs.map (offN z))) = true := c
  have dg : ∀ y, y ≠ z → degR (rs.map (offN z)) y = degR rs y := fun y hy => by
    unfold degR
    rw [List.filter_map, List.length_map]
    congr 1
    exact List.filter_congr fun r _ => decide_eq_decide.mpr ⟨fun h => (mem_off.mp h).1, fun h => mem_off.mpr ⟨h, hy⟩⟩
  have eb : sbigX k s j = big (offN z cs) (rs.map (offN z)) := by
    unfold sbigX big
    rw [I.wn, Bool.eq_iff_iff, List.any_eq_true, List.any_eq_true]
    constructor
    · rintro ⟨i, hi, h⟩
      have hi := List.mem_range.mp hi
      rw [Bool.and_eq_true, I.deg hi] at h
      obtain ⟨h1, h2⟩ := h
      have hy := getD_some (I.at hi)
      have ne : cs.getD (σ.getD i 0) "" ≠ z := fun e => by
        rw [e] at hy
        have hz2 := getD_some hc0
        rw [ez] at hz2
        have e2 := nodup_at nd hy hz2
        rw [← ej] at e2
        have a1 : σ[i]? = some (σ.getD i 0) := by rw [List.getD_eq_getElem?_getD, List.getElem?_eq_getElem (by rw [I.cn]; exact hi)]; rfl
        have a2 : σ[j]? = some (σ.getD j 0) := by rw [List.getD_eq_getElem?_getD, List.getElem?_eq_getElem (by rw [I.cn]; exact hj)]; rfl
        rw [e2] at a1
        have e3 : i = j := by
          have n := I.cl.nd
          rw [List.nodup_iff_pairwise_ne, List.pairwise_iff_getElem] at n
          obtain ⟨q1, b1⟩ := List.getElem?_eq_some_iff.mp a1
          obtain ⟨q2, b2⟩ := List.getElem?_eq_some_iff.mp a2
          rcases Nat.lt_trichotomy i j with l | l | l
          · exact absurd (b1.trans b2.symm) (n _ _ q1 q2 l)
          · exact l
          · exact absurd (b2.trans b1.symm) (n _ _ q2 q1 l)
        rw [decide_eq_true e3] at h1
        exact nomatch h1
      exact ⟨_, mem_off.mpr ⟨List.mem_of_getElem? hy, ne⟩, by rw [dg _ ne]; exact h2⟩
    · rintro ⟨y, hy, h⟩
      obtain ⟨hy1, hy2⟩ := mem_off.mp hy
      rw [dg _ hy2] at h
      obtain ⟨c1, hc1, e1⟩ := List.getElem_of_mem hy1
      have e1 : cs.getD c1 "" = y := by rw [List.getD_eq_getElem?_getD, List.getElem?_eq_getElem hc1, e1]; rfl
      obtain ⟨i, hi, ei⟩ := I.on hc1
      refine ⟨i, List.mem_range.mpr hi, ?_⟩
      rw [I.deg hi, ei, e1, h, Bool.and_true]
      rw [decide_eq_false (fun e => hy2 ?_)]; rfl
      rw [← e1, ← ez, ← ei, ← ej, e]
  rw [eb] at c
  simp at c
end
end My
set_option maxRecDepth 100000
set_option maxHeartbeats 16000000
set_option exponentiation.threshold 10000
namespace My
open PySem L2
open C8 (pss_cut)
abbrev nsc_law : Scope := { kind := ScopeKind.function, names := [(".0", NameKind.local), ("row", NameKind.local), ("name", NameKind.cell)], isGenerator := false, isCoroutine := false }
theorem Lss.cat {k : List V → HO} {H : Hp} {ts us : List Addr} {rs qs : List (List Str)} (h : Lss k H ts rs) (g : Lss k H us qs) : Lss k H (ts ++ us) (rs ++ qs) := by
  refine ⟨by rw [List.length_append, List.length_append, h.len, g.len], fun i t x a b => ?_⟩
  by_cases hi : i < ts.length
  · rw [List.getElem?_append_left hi] at a
    rw [List.getElem?_append_left (by rw [← h.len]; exact hi)] at b
    exact h.at_ i t x a b
  · rw [List.getElem?_append_right (by omega)] at a
    rw [List.getElem?_append_right (by rw [← h.len]; omega), ← h.len] at b
    exact g.at_ _ t x a b
theorem Lss.tk {k : List V → HO} {H : Hp} {ts : List Addr} {rs : List (List Str)} (h : Lss k H ts rs) (n : Nat) : Lss k H (ts.take n) (rs.take n) := ⟨by rw [List.length_take, List.length_take, h.len], fun i t x a b => by
  rw [List.getElem?_take] at a b
  split at a
  · rename_i hi; rw [if_pos hi] at b; exact h.at_ i t x a b
  · cases a⟩
theorem Lss.dp {k : List V → HO} {H : Hp} {ts : List Addr} {rs : List (List Str)} (h : Lss k H ts rs) (n : Nat) : Lss k H (ts.drop n) (rs.drop n) := ⟨by rw [List.length_drop, List.length_drop, h.len], fun i t x a b => by
  rw [List.getElem?_drop] at a b
  exact h.at_ _ t x a b⟩
theorem ins_perm {α : Type} (rs : List α) (x : α) (i : Nat) : (rs.take i ++ [x] ++ rs.drop i).Perm (x :: rs) := by
  rw [List.append_assoc, List.singleton_append]
  refine List.perm_middle.trans ?_
  rw [List.take_append_drop]
theorem del_perm {α : Type} {rs : List α} {x : α} {i : Nat} (h : rs[i]? = some x) : rs.Perm (x :: (rs.take i ++ rs.drop (i + 1))) := by
  have e : rs = rs.take i ++ x :: rs.drop (i + 1) := by
    rw [← List.singleton_append, ← List.append_assoc, ← take_succ h, List.take_append_drop]
  exact (List.Perm.of_eq e).trans List.perm_middle
theorem app_same {G0 G : Hp} {D : Addr} {o : HO} (nD : G0 D = none) (s : Same G0 G) : Same G0 (upd G D o) := fun b u e => by rw [upd_ne (ne_of_none e nD)]; exact s _ _ e
theorem Lss.one {k : List V → HO} {H : Hp} {t : Addr} {r : List Str} (h : H t = some (k (sv r))) : Lss k H [t] [r] := (Lss.nil (f := k) (H := H)).app h
theorem not_in_cs {cs : List Str} (h : Nms cs) : ("stranger" : Str) ∉ cs := fun hm => by
  have := (h.2 _ hm).2
  have e : ("stranger" : Str).length = 8 := by decide
  omega
theorem good_stranger : Good ("stranger" : Str) := by
  have : (okName ("stranger" : Str)) = true := by decide +kernel
  exact okName_iff.mp this
def spLaw (K : PySem.W.Frag) : Sp := fun vs H Q _ => ∃ (a : Addr) (ns : List Int), vs = [.ref a] ∧ SqL K H a (ns.map V.int) ∧ ns.length ≤ 63 ∧ ∀ H', Q (.bl true) H'
section
variable {P : Program} {w : World} {K : PySem.W.Frag} {mg : Str → Option Value} {base : Heap} {A : Ad}
theorem ok_law (T : Txt P K mg A) : FnOk P w K mg base CX0 22 A.a_law A.d_law ["script"] (spLaw K) := by
  have G_law_pool := ok_pool (P := P) (w := w) (base := base) T
  have G_law_width := ok_lwidth (P := P) (w := w) (base := base) T
  have G_law_names := ok_names (P := P) (w := w) (base := base) T
  have G_law_order := ok_orderF V.str (P := P) (w := w) (base := base) T
  have G_law_mixed := ok_mixed (P := P) (w := w) (base := base) T
  have G_law_row := ok_row (P := P) (w := w) (base := base) T
  have G_law_recognized := ok_lrec (P := P) (w := w) (base := base) T
  have G_law_turned := ok_turn (P := P) (w := w) (base := base) T
  refine T.F_law.ok sc_law (fun vs H Q E h => ?_) (fun cdv A' outer s0 H vs Q E hr h => ?_)
  · obtain ⟨a, ns, rfl, _⟩ := h
    rfl
  · obtain ⟨a, ns, rfl, hS, hnl, kk⟩ := h
    refine ⟨_, (pss_cons (ps_set (i := 1) sc_law.nd rfl (Or.inl rfl) (pe_call G_law_pool (hr.mono (by decide)) rfl T.mg_law_pool T.F_law_pool.kp T.b_law_pool .nil pass0 (pa_cons (pv 0) (pa_cons pe_int (pa_cons pe_int pa_nil)))))
      (pss_cons (ps_set (i := 2) sc_law.nd rfl (Or.inl rfl) (pe_call G_law_pool (hr.mono (by decide)) rfl T.mg_law_pool T.F_law_pool.kp T.b_law_pool .nil pass0 (pa_cons (pv 0) (pa_cons pe_int (pa_cons pe_int pa_nil)))))
      (pss_cons (ps_set (i := 3) sc_law.nd rfl (Or.inl rfl) (pe_op op_add pe_int (pe_op op_mod (pe_callTy call_int1 (by rfl) T.n_int (by decide +kernel) (pa_cons (pe_ix ix_list (pv 1) pe_int (fun _ _ => rfl)) pa_nil)) pe_int)))
      (pss_cons (ps_set (i := 4) sc_law.nd rfl (Or.inl rfl) pe_int)
      (pss_cut (ps_if (pt_cmpR op_eq (pv 3) pe_int (nomark _)) (pss_one (ps_set (i := 4) sc_law.nd rfl (Or.inl rfl) (pe_op op_add pe_int (pe_op op_mod (pe_callTy call_int1 (by rfl) T.n_int (by decide +kernel) (pa_cons (pe_ix ix_list (pv 1) pe_int (fun _ _ => rfl)) pa_nil)) pe_int)))) pss_nil)
      (pss_cut (ps_if (PW.pt (pw_or (pt_cmpR op_eq (pv 3) pe_int (nomark _)) (pw_or1 (pt_cmpR op_eq (pv 3) pe_int (nomark _))))) (pss_one (ps_set (i := 4) sc_law.nd rfl (Or.inl rfl) (pe_op op_add pe_int (pe_op op_mod (pe_callTy call_int1 (by rfl) T.n_int (by decide +kernel) (pa_cons (pe_ix ix_list (pv 1) pe_int (fun _ _ => rfl)) pa_nil)) pe_int)))) pss_nil)
      (pss_cons (ps_set (i := 5) sc_law.nd rfl (Or.inl rfl) (pe_call G_law_names (hr.mono (by decide)) rfl T.mg_law_names T.F_law_names.kp T.b_law_names .nil pass0 (pa_cons (pe_call G_law_width (hr.mono (by decide)) rfl T.mg_law_width T.F_law_width.kp T.b_law_width .nil pass0 (pa_cons (pv 3) (pa_cons (pv 4) pa_nil))) (pa_cons (pe_ix ix_list (pv 1) pe_int (fun _ _ => rfl)) pa_nil))))
      (pss_cons (ps_set (i := 6) sc_law.nd rfl (Or.inl rfl) (pe_call G_law_order (hr.mono (by decide)) rfl T.mg_law_order T.F_law_order.kp T.b_law_order .nil pass0 (pa_cons (pv 5) (pa_cons (pv 1) (pa_cons pe_int pa_nil)))))
      (pss_cons (ps_set (i := 7) sc_law.nd rfl (Or.inl rfl) (pe_call G_law_mixed (hr.mono (by decide)) rfl T.mg_law_mixed T.F_law_mixed.kp T.b_law_mixed .nil pass0 (pa_cons (pv 6) (pa_cons (pv 2) (pa_cons (pv 3) (pa_cons (pv 4) pa_nil))))))
      (pss_cons (ps_if (pt_cmpR (op_neD hr.units) (pe_call G_law_recognized (hr.mono (by decide)) rfl T.mg_law_recognized T.F_law_recognized.kp T.b_law_recognized .nil pass0 (pa_cons (pv 5) (pa_cons (pv 7) pa_nil))) (pe_tup (pa_cons (pv 3) (pa_cons (pv 4) pa_nil))) (nomark _)) (pss_one (ps_ret pe_bl)) pss_nil)
      (pss_cons (ps_set (i := 8) sc_law.nd rfl (Or.inl rfl) (pe_op op_mod (pe_callTy call_int1 (by rfl) T.n_int (by decide +kernel) (pa_cons (pe_ix ix_list (pv 2) pe_int (fun _ _ => rfl)) pa_nil)) (pe_callB call_len_seq (by rfl) T.n_len (by decide +kernel) (pa_cons (pv 7) pa_nil))))
      (pss_cut (ps_set (i := 9) sc_law.nd rfl (Or.inr rfl) (pe_ix ix_list (pv 5) (pe_op op_mod (pe_callTy call_int1 (by rfl) T.n_int (by decide +kernel) (pa_cons (pe_ix ix_list (pv 2) pe_int (fun _ _ => rfl)) pa_nil)) (pe_callB call_len_seq (by rfl) T.n_len (by decide +kernel) (pa_cons (pv 5) pa_nil))) (fun _ _ => rfl)))
      (pss_cons (ps_set (i := 10) sc_law.nd rfl (Or.inl rfl) (pe_call G_law_row (hr.mono (by decide)) rfl T.mg_law_row T.F_law_row.kp T.b_law_row .nil pass0 (pa_cons (pv 5) (pa_cons (pv 6) (pa_cons (pe_ix ix_list (pv 2) pe_int (fun _ _ => rfl)) (pa_cons pe_bl pa_nil))))))
      (pss_cons (ps_setLc (i := 11) (own := [("other", 13)]) (g := gName 13) (tt := _) rfl sc_law.nd rfl rfl (sw_true rfl rfl rfl (by decide +kernel)) (pi_list (pv 5)) (blkOk_by (N := ["script", "p0", "p1", "kind", "size", "names", "order", "rows", "at", "name", "more", "fewer", "tried", "other", "row", "word"]) (sc := defScope s_law) (by decide +kernel)) (fun _ _ _ _ _ => (pg_name (i := 13) sc_law.nd rfl (Or.inl rfl))) (fun _ _ _ _ _ => (pts_one (pt_cmpR op_ne (pv 13) (pv 9) (nomark _)))) (fun _ _ _ _ _ => (pv 13)))
      (pss_cons (ps_set (i := 12) sc_law.nd rfl (Or.inl rfl) (pe_lst (pa_cons (pe_call G_law_recognized (hr.mono (by decide)) rfl T.mg_law_recognized T.F_law_recognized.kp T.b_law_recognized .nil pass0 (pa_cons (pv 5) (pa_cons (pe_op op_cat (pe_op op_cat (pe_slice sl_list (pv 7) po_none (po_some (pv 8))) (pe_lst (pa_cons (pv 10) pa_nil))) (pe_slice sl_list (pv 7) (po_some (pv 8)) po_none)) pa_nil))) pa_nil)))
      (pss_cons (ps_expr (pe_bm PySem.F.plainAttrs_list PySem.F.slot_list_append PySem.F.type_list_append mt_append (pv 12) (pa_cons (pe_call G_law_recognized (hr.mono (by decide)) rfl T.mg_law_recognized T.F_law_recognized.kp T.b_law_recognized .nil pass0 (pa_cons (pv 5) (pa_cons (pe_op op_cat (pe_op op_cat (pe_slice sl_list (pv 7) po_none (po_some (pv 8))) (pe_lst (pa_cons (pe_ix ix_list (pv 7) (pv 8) (fun _ _ => rfl)) pa_nil))) (pe_slice sl_list (pv 7) (po_some (pv 8)) po_none)) pa_nil))) pa_nil)))
      (pss_cons (ps_expr (pe_bm PySem.F.plainAttrs_list PySem.F.slot_list_append PySem.F.type_list_append mt_append (pv 12) (pa_cons (pe_call G_law_recognized (hr.mono (by decide)) rfl T.mg_law_recognized T.F_law_recognized.kp T.b_law_recognized .nil pass0 (pa_cons (pv 5) (pa_cons (pe_op op_cat (pe_slice sl_list (pv 7) po_none (po_some (pv 8))) (pe_slice sl_list (pv 7) (po_some (pe_op op_add (pv 8) pe_int)) po_none)) pa_nil))) pa_nil)))
      (pss_cons (ps_expr (pe_bm PySem.F.plainAttrs_list PySem.F.slot_list_append PySem.F.type_list_append mt_append (pv 12) (pa_cons (pe_call G_law_recognized (hr.mono (by decide)) rfl T.mg_law_recognized T.F_law_recognized.kp T.b_law_recognized .nil pass0 (pa_cons (pv 11) (pa_cons (pe_lc (own := [("row", 14)]) (g := gName 14) (tt := tYes) rfl sc_law.nd (pi_list (pv 7)) (blkOk_by (N := ["script", "p0", "p1", "kind", "size", "names", "order", "rows", "at", "name", "more", "fewer", "tried", "other", "row", "word"]) (sc := defScope s_law) (by decide +kernel)) (fun _ _ _ _ _ => (pg_name (i := 14) sc_law.nd rfl (Or.inl rfl))) (fun _ _ _ _ _ => pts_nil) (fun _ _ _ _ _ => (pe_lc (own := [("other", 13)]) (g := gName 13) (tt := _) rfl sc_law.nd (show PI _ _ _ (iList K _) from (pi_list (pv 14))) (blkOk_by (N := ["script", "p0", "p1", "kind", "size", "names", "order", "rows", "at", "name", "more", "fewer", "tried", "other", "row", "word"]) (sc := nsc_law) (by decide +kernel)) (fun _ _ _ _ _ => (pg_name (i := 13) sc_law.nd rfl (Or.inl rfl))) (fun _ _ _ _ _ => (pts_one (pt_cmpR op_ne (pv 13) (pv 9) (nomark _)))) (fun _ _ _ _ _ => (pv 13))))) pa_nil))) pa_nil)))
      (pss_cons (ps_expr (pe_bm PySem.F.plainAttrs_list PySem.F.slot_list_append PySem.F.type_list_append mt_append (pv 12) (pa_cons (pe_call G_law_recognized (hr.mono (by decide)) rfl T.mg_law_recognized T.F_law_recognized.kp T.b_law_recognized .nil pass0 (pa_cons (pv 5) (pa_cons (pe_call G_law_turned (hr.mono (by decide)) rfl T.mg_law_turned T.F_law_turned.kp T.b_law_turned .nil pass0 (pa_cons (pv 7) (pa_cons (pv 8) (pa_cons (pv 9) pa_nil)))) pa_nil))) pa_nil)))
      (pss_cut (ps_if (pt_cmpR op_lt (pe_callB call_len_seq (by rfl) T.n_len (by decide +kernel) (pa_cons (pv 5) pa_nil)) pe_int (nomark _)) (pss_cons (ps_expr (pe_bm PySem.F.plainAttrs_list PySem.F.slot_list_append PySem.F.type_list_append mt_append (pv 12) (pa_cons (pe_call G_law_recognized (hr.mono (by decide)) rfl T.mg_law_recognized T.F_law_recognized.kp T.b_law_recognized .nil pass0 (pa_cons (pe_op op_cat (pe_lst (pa_cons pe_str pa_nil)) (pv 5)) (pa_cons (pv 7) pa_nil))) pa_nil)))
      (pss_one (ps_expr (pe_bm PySem.F.plainAttrs_list PySem.F.slot_list_append PySem.F.type_list_append mt_append (pv 12) (pa_cons (pe_call G_law_recognized (hr.mono (by decide)) rfl T.mg_law_recognized T.F_law_recognized.kp T.b_law_recognized .nil pass0 (pa_cons (pe_op op_cat (pv 5) (pe_lst (pa_cons pe_str pa_nil))) (pa_cons (pv 7) pa_nil))) pa_nil))))) pss_nil)
      (pss_one (ps_ret (pe_cmpR op_eq (pe_callB call_len_seq (by rfl) T.n_len (by decide +kernel) (pa_cons (pe_lc (own := [("word", 15)]) (g := gName 15) (tt := _) rfl sc_law.nd (pi_list (pv 12)) (blkOk_by (N := ["script", "p0", "p1", "kind", "size", "names", "order", "rows", "at", "name", "more", "fewer", "tried", "other", "row", "word"]) (sc := defScope s_law) (by decide +kernel)) (fun _ _ _ _ _ => (pg_name (i := 15) sc_law.nd rfl (Or.inl rfl))) (fun _ _ _ _ _ => (pts_one (pt_cmpR op_notN (pv 15) pe_non (nomark _)))) (fun _ _ _ _ _ => (pv 15))) pa_nil)) pe_int (nomark _)))))))))))))))))))))))), ?_⟩
    refine ⟨_, rfl, a, ns, 0, 60, rfl, hS, by decide, by decide, by decide, fun p0 q0 H1 s1 hp0 l0 P0 => ?_⟩
    refine ⟨_, rfl, a, ns, 1, 60, rfl, s1.seq hS, by decide, by decide, by decide, fun p1 q1 H3 s3 hp1 l1 P1 => ?_⟩
    have hp0 := s3 _ _ hp0
    obtain ⟨x0, hx0, e0⟩ := atI_ok (xs := q0) (j := 0) (by omega) (by omega)
    obtain ⟨x1, hx1, e1⟩ := atI_ok (xs := q0) (j := 1) (by omega) (by omega)
    obtain ⟨x2, hx2, e2⟩ := atI_ok (xs := q0) (j := 2) (by omega) (by omega)
    obtain ⟨y40, hy40, f40⟩ := atI_ok (xs := q1) (j := 40) (by omega) (by omega)
    obtain ⟨y41, hy41, f41⟩ := atI_ok (xs := q1) (j := 41) (by omega) (by omega)
    obtain ⟨y42, hy42, f42⟩ := atI_ok (xs := q1) (j := 42) (by omega) (by omega)
    clear s1 s3 hS
    have mm : ∀ a q : Int, (0 : Int) < q → 0 ≤ a % q ∧ a % q < q := fun a q hq => ⟨Int.emod_nonneg _ (by omega), Int.emod_lt_of_pos _ hq⟩
    have mK := mm x0 5 (by decide)
    have mS := mm x1 9 (by decide)
    have mS1 := mm x1 10 (by decide)
    refine ⟨_, rfl, p0, _, _, _, rfl, rfl, SqL.of hp0, e0, .inl ⟨_, rfl, _, _, rfl, rfl, by show (0 : Int) < 5; decide, _, _, rfl, rfl, ?_⟩⟩
    have hk : 1 ≤ 1 + x0 % 5 ∧ 1 + x0 % 5 ≤ 5 := by omega
    refine ⟨fun σ G => H3 = G ∧ ∃ s : Int, σ = [some (.ref a), some (.ref p0), some (.ref p1), some (.int (1 + x0 % 5)), some (.int s), none, none, none, none, none, none, none, none, none, none, none] ∧ 1 ≤ s ∧ (1 + x0 % 5 = 1 → s ≤ 10) ∧ (1 + x0 % 5 ≠ 1 → s = 1), ?_, ?_⟩
    · refine ⟨_, rfl, rfl, _, rfl, ?_⟩
      by_cases c1 : 1 + x0 % 5 = 1
      · exact ifT (decide_eq_true (show V.int (1 + x0 % 5) = V.int 1 by rw [c1])) ⟨_, rfl, p0, _, _, _, rfl, rfl, SqL.of hp0, e1, .inl ⟨_, rfl, _, _, rfl, rfl, by show (0 : Int) < 10; decide, _, _, rfl, rfl, rfl, _, rfl, by omega, fun _ => by omega, fun h => absurd c1 h⟩⟩
      · exact ifF (decide_eq_false fun z => c1 (V.int.inj z)) ⟨rfl, 1, rfl, by omega, fun h => absurd h c1, fun _ => rfl⟩
    rintro σ G ⟨rfl, s, rfl, sa, sb, sc⟩
    refine ⟨fun σ G => H3 = G ∧ ∃ s : Int, σ = [some (.ref a), some (.ref p0), some (.ref p1), some (.int (1 + x0 % 5)), some (.int s), none, none, none, none, none, none, none, none, none, none, none] ∧ okKS (1 + x0 % 5) s = true, ?_, ?_⟩
    · have no : ¬ (1 + x0 % 5 = 2 ∨ 1 + x0 % 5 = 3) → okKS (1 + x0 % 5) s = true := fun h => okKS_iff.mpr (by
        by_cases h1 : 1 + x0 % 5 = 1
        · have := sb h1; omega
        · have := sc h1; omega)
      have ye : (1 + x0 % 5 = 2 ∨ 1 + x0 % 5 = 3) → okKS (1 + x0 % 5) (1 + x1 % 9) = true := fun h => okKS_iff.mpr (by omega)
      refine ⟨_, rfl, rfl, _, rfl, ?_⟩
      by_cases c2 : 1 + x0 % 5 = 2
      · exact ifT (decide_eq_true (show V.int (1 + x0 % 5) = V.int 2 by rw [c2])) (ifT rfl ⟨_, rfl, p0, _, _, _, rfl, rfl, SqL.of hp0, e1, .inl ⟨_, rfl, _, _, rfl, rfl, by show (0 : Int) < 9; decide, _, _, rfl, rfl, rfl, _, rfl, ye (.inl c2)⟩⟩)
      · refine ifF (decide_eq_false fun z => c2 (V.int.inj z)) ⟨_, rfl, rfl, _, rfl, ?_⟩
        by_cases c3 : 1 + x0 % 5 = 3
        · exact ifT (decide_eq_true (show V.int (1 + x0 % 5) = V.int 3 by rw [c3])) ⟨_, rfl, p0, _, _, _, rfl, rfl, SqL.of hp0, e1, .inl ⟨_, rfl, _, _, rfl, rfl, by show (0 : Int) < 9; decide, _, _, rfl, rfl, rfl, _, rfl, ye (.inr c3)⟩⟩
        · exact ifF (decide_eq_false fun z => c3 (V.int.inj z)) ⟨rfl, s, rfl, no (by omega)⟩
    clear sa sb sc s
    rintro σ G ⟨rfl, s, rfl, hok⟩
    have okb := okKS_iff.mp hok
    have dl := stdR_len hok
    obtain ⟨k, hkk⟩ : ∃ k, 1 + x0 % 5 = k := ⟨_, rfl⟩
    rw [hkk] at hok okb dl hk ⊢
    have wl : 3 ≤ lw k s ∧ lw k s ≤ 12 := by
      unfold lw; split
      · omega
      · split
        · omega
        · split <;> omega
    refine ⟨_, rfl, _, rfl, k, s, rfl, hk.1, hk.2, fun H4 s4 => ?_⟩
    have hp0 := s4 _ _ hp0
    have hp1 := s4 _ _ hp1
    obtain ⟨cn, hcn⟩ := Int.eq_ofNat_of_zero_le (show 0 ≤ lw k s by omega)
    refine ⟨_, rfl, p0, _, _, _, rfl, rfl, SqL.of hp0, e2, cn, x2, by rw [hcn]; rfl, by omega, fun n cs H5 s5 hn hcl hN => ?_⟩
    have hp0 := s5 _ _ hp0
    have hp1 := s5 _ _ hp1
    have cl : cs.length ≤ 12 := by omega
    have cl3 : 3 ≤ cs.length := by omega
    have nd := hN.1
    have hg : ∀ z ∈ cs, Good z := fun z hz => (hN.2 z hz).1
    have cok : ColsOk cs := ⟨hg, nd, cl⟩
    have hwl : lw k s = (cs.length : Nat) := by omega
    have hw2 : w2 k s = (cs.length : Nat) := by rw [lw_ok hok]; exact hwl
    refine ⟨_, rfl, _, rfl, n, p0, cs, q0, 3, rfl, SqL.of hn, SqL.of hp0, by omega, by decide, by omega, fun o os H6 s6 no ho hop => ?_⟩
    have hn := s6 _ _ hn
    have hp1 := s6 _ _ hp1
    have ho : H6 o = some (.lst (sv os)) := ho
    refine ⟨_, rfl, _, rfl, _, rfl, _, rfl, o, p1, k, s, os, cs, q1, rfl, SqL.of ho, SqL.of hp1, by omega, hok, hop, nd, hwl, fun D rts rs H7 s7 hD hR hRow hmix => ?_⟩
    obtain ⟨σ0, I⟩ := iso_mixed hok hw2 hop nd hmix
    have hn := s7 _ _ hn
    have hp1 := s7 _ _ hp1
    have ho := s7 _ _ ho
    clear s4 s5 s6 s7 hp0
    have rl1 := I.len
    have rl2 : (stdM k s).length = (stdR k s).length := by unfold stdM; rw [List.length_map]
    have rl : 1 ≤ rs.length ∧ rs.length ≤ 12 := by omega
    obtain ⟨hsz, ns0, cols0, hrec⟩ := rec_mixed I
    refine ⟨_, rfl, _, rfl, n, D, cs, rts, rs, rfl, hn, cok, by omega, hD, hR, hRow, by omega, fun k' ns cols q H8 hrec' s8 hq => ?_, fun h => absurd (hrec.symm.trans h) (fun z => nomatch z)⟩
    rw [hrec] at hrec'
    cases hrec'
    rw [hsz] at hq
    have hn := s8 _ _ hn
    have hp1 := s8 _ _ hp1
    have ho := s8 _ _ ho
    have hD := s8 _ _ hD
    have hR := hR.same s8
    refine ⟨_, rfl, _, rfl, by show 2 ≤ sizeLine; decide, fun t9 n9 => ?_⟩
    generalize hG : upd H8 t9 _ = H9
    have q9 : Same H8 H9 := hG ▸ same_new n9
    have x9 := (congrFun hG t9).symm.trans upd_same
    clear hG
    refine ⟨.tuple (pdi [k, s]), .tuple (pdi [k, s]), .tup (SqT.of (q9 _ _ hq)) (dp_ivs [k, s]), .tup (SqT.of x9) (dp_ivs [k, s]), shT_pdi _, shT_pdi _, _, rfl, ifF (by rw [eqv_TI, decide_eq_true rfl]; rfl) ?_⟩
    have hn := q9 _ _ hn
    have hp1 := q9 _ _ hp1
    have ho := q9 _ _ ho
    have hD := q9 _ _ hD
    have hR := hR.same q9
    clear s8 q9 x9 hq n9
    have rtl : (rts.map V.ref).length = rs.length := by rw [List.length_map, hR.len]
    have rpos : (0 : Int) < ((rts.map V.ref).length : Nat) := by omega
    have cpos : (0 : Int) < ((sv cs).length : Nat) := by rw [len_sv]; omega
    obtain ⟨at0, hat⟩ := Int.eq_ofNat_of_zero_le (Int.emod_nonneg y40 (Int.ne_of_gt rpos))
    obtain ⟨nm0, hnm⟩ := Int.eq_ofNat_of_zero_le (Int.emod_nonneg y41 (Int.ne_of_gt cpos))
    have hal : at0 < rs.length := by
      have := Int.emod_lt_of_pos y40 rpos
      omega
    have hml : nm0 < cs.length := by
      have := Int.emod_lt_of_pos y41 cpos
      rw [len_sv] at this hnm
      omega
    refine ⟨_, rfl, p1, _, _, _, rfl, rfl, SqL.of hp1, f40, .inl ⟨_, rfl, _, rfl, D, _, rfl, .inl (SqL.of hD), _, _, rfl, rfl, rpos, ?_⟩⟩
    have hz : cs[nm0]? = some cs[nm0] := List.getElem?_eq_getElem hml
    have hzm : cs[nm0] ∈ cs := List.getElem_mem hml
    have atz : atI (sv cs) (y41 % (((sv cs).length : Nat) : Int)) = some (.str cs[nm0]) := by
      rw [hnm]; exact atI_nat (by rw [List.getElem?_map, hz]; rfl)
    refine ⟨fun σ G => G = H9 ∧ σ = [some (.ref a), some (.ref p0), some (.ref p1), some (.int k), some (.int s), some (.ref n), some (.ref o), some (.ref D), some (.int (at0 : Nat)), some (.str cs[nm0]), none, none, none, none, none, none], ?_, ?_⟩
    · refine ⟨_, rfl, _, rfl, p1, _, _, _, rfl, rfl, SqL.of hp1, f41, .inl ⟨_, rfl, _, rfl, n, _, rfl, .inl (SqL.of hn), _, _, rfl, rfl, cpos, n, _, _, _, rfl, rfl, SqL.of hn, atz, rfl, by rw [← hat]; rfl⟩⟩
    generalize cs[nm0] = z at hzm ⊢
    clear hz atz hnm hml cpos
    rintro σ G ⟨rfl, rfl⟩
    have hrow0 : rs[at0]? = some rs[at0] := List.getElem?_eq_getElem hal
    refine ⟨_, rfl, _, rfl, _, rfl, p1, _, _, _, rfl, rfl, SqL.of hp1, f42, n, o, cs, os, y42, true, rfl, SqL.of hn, SqL.of ho, nd, cl, hop, fun mr ms H10 s10 nmr hmr mok => ?_⟩
    have hn := s10 _ _ hn
    have hD := s10 _ _ hD
    have hR := hR.same s10
    clear hp1 ho s10
    refine ⟨_, rfl, n, rfl, ⟨_, SqL.of hn⟩, fun FL nFL => lc_it walk_list (PvS H10 FL fun j => sv (offN z (cs.take j))) (pv0 nFL rfl) (fun j G _ q => q.1.seq (SqL.of hn)) ?_ ?_⟩
    · rintro j x H3' H4' hj q ⟨rfl, hx⟩
      obtain ⟨y, hy, rfl⟩ := sv_get hx
      have hl : (sv (offN z (cs.take j))).length ≤ 1000000 := by
        have := List.length_filter_le (fun x => !decide (x = z)) (cs.take j)
        rw [List.length_take] at this
        rw [len_sv]; unfold offN; omega
      refine ⟨rfl, _, rfl, _, rfl, rfl, _, rfl, ?_⟩
      by_cases e : y = z
      · refine ifF (by rw [e, decide_eq_true rfl]; rfl) (q.skip ?_)
        rw [take_succ hy]; unfold offN
        rw [List.filter_append, List.filter_cons_of_neg (by rw [decide_eq_true e]; decide)]; simp
      · refine ifT (by rw [decide_eq_false (fun h => e (V.str.inj h))]; rfl) ⟨_, rfl, q.push nFL ?_ hl⟩
        rw [take_succ hy]; unfold offN
        rw [List.filter_append, List.filter_cons_of_pos (by rw [decide_eq_false e]; rfl)]; exact sv_snoc' _ _
    rintro H11 ⟨s11, hFL⟩
    have hFL : H11 FL = some (.lst (sv (offN z (cs.take (sv cs).length)))) := hFL
    rw [len_sv, List.take_length] at hFL
    have hn := s11 _ _ hn
    have hD := s11 _ _ hD
    have hR := hR.same s11
    have hmr := s11 _ _ hmr
    clear s11 nFL
    have rle : rts.length ≤ 12 := by rw [hR.len]; omega
    have hrr : ∀ x ∈ rs, RowOk cs x := hRow
    refine ⟨_, rfl, _, rfl, ?_⟩
    delta tNoPart
    refine ⟨_, rfl, _, rfl, slO (SqL.of hD) fun b1 H12 t1 n1 z1 => ?_⟩
    rw [cut_takeG] at z1
    refine ⟨_, rfl, by show 1 ≤ sizeLine; decide, fun l1 n2 => ?_⟩
    generalize hG : upd H12 l1 _ = H13
    have u2 : Same H12 H13 := hG ▸ same_new n2
    have z2 := (congrFun hG l1).symm.trans upd_same
    clear hG
    refine catO (u2 _ _ z1) z2 (by rw [List.length_take, List.length_map]; show min at0 rts.length + 1 ≤ 1000000; omega) fun d1 H14 t3 n3 z3 => ?_
    have t13 := t1.trans (u2.trans t3)
    refine ⟨_, rfl, _, rfl, _, rfl, ?_⟩
    refine slO (SqL.of (t13 _ _ hD)) fun e1 H15 t4 n4 z4 => ?_
    rw [cut_dropG] at z4
    refine catO (t4 _ _ z3) z4 (by rw [List.length_append, List.length_take, List.length_drop, List.length_map]; show min at0 rts.length + 1 + (rts.length - at0) ≤ 1000000; omega) fun f1 H16 t5 n5 z5 => ?_
    have t15 := t13.trans (t4.trans t5)
    have z5 : H16 f1 = some (.lst ((rts.take at0 ++ [mr] ++ rts.drop at0).map V.ref)) := by
      rw [List.map_append, List.map_append, List.map_take, List.map_drop]; exact z5
    have LA : Lss .lst H16 (rts.take at0 ++ [mr] ++ rts.drop at0) (rs.take at0 ++ [ms] ++ rs.drop at0) := ((((hR.same t15).tk at0).cat (Lss.one (t15 _ _ hmr))).cat ((hR.same t15).dp at0))
    have pA := ins_perm rs ms at0
    have noA := none_more I pA
    refine ⟨n, f1, cs, _, _, rfl, t15 _ _ hn, cok, by omega, z5, LA, fun x hx => (List.mem_cons.mp (pA.mem_iff.mp hx)).elim (fun e => e ▸ mok) (hrr x), by rw [pA.length_eq, List.length_cons]; omega, fun k' ns cols q H' e => absurd (noA.symm.trans e) (fun z => nomatch z), fun _ H17 t6 => ?_⟩
    have t16 := t15.trans t6
    refine ⟨by show 1 ≤ sizeLine; decide, fun TL nTL0 => ?_⟩
    have nTL := none_of t16 nTL0
    generalize hG : upd H17 TL _ = H18
    have t7 : Same H17 H18 := hG ▸ same_new nTL0
    have hTL := (congrFun hG TL).symm.trans upd_same
    clear hG
    have tA := t16.trans t7
    clear t1 u2 t3 t13 t4 t5 t15 t6 t16 t7 z1 z2 z3 z4 z5 LA noA pA n1 n2 n3 n4 n5
    obtain ⟨ra, rx, era, erx, hra⟩ := hR.ex hal
    have atr : atI (rts.map V.ref) ((at0 : Nat) : Int) = some (.ref ra) := atI_nat (by rw [List.getElem?_map, era]; rfl)
    have rxok : RowOk cs rx := hrr rx (List.mem_of_getElem? erx)
    refine ⟨_, rfl, .inl ⟨rfl, _, SqL.of hTL⟩, _, rfl, _, rfl, _, rfl, _, rfl, slO (SqL.of (tA _ _ hD)) fun b1 H12 t1 n1 z1 => ?_⟩
    rw [cut_takeG] at z1
    have tA1 := tA.trans t1
    refine ⟨_, rfl, _, rfl, D, _, _, _, rfl, rfl, SqL.of (tA1 _ _ hD), atr, by show 1 ≤ sizeLine; decide, fun l1 n2 => ?_⟩
    generalize hG : upd H12 l1 _ = H13
    have u2 : Same H12 H13 := hG ▸ same_new n2
    have z2 := (congrFun hG l1).symm.trans upd_same
    clear hG
    refine catO (u2 _ _ z1) z2 (by rw [List.length_take, List.length_map]; show min at0 rts.length + 1 ≤ 1000000; omega) fun d1 H14 t3 n3 z3 => ?_
    have t13 := t1.trans (u2.trans t3)
    refine ⟨_, rfl, _, rfl, _, rfl, slO (SqL.of (t13 _ _ (tA _ _ hD))) fun e1 H15 t4 n4 z4 => ?_⟩
    rw [cut_dropG] at z4
    refine catO (t4 _ _ z3) z4 (by rw [List.length_append, List.length_take, List.length_drop, List.length_map]; show min at0 rts.length + 1 + (rts.length - at0) ≤ 1000000; omega) fun f1 H16 t5 n5 z5 => ?_
    have t15 := t13.trans (t4.trans t5)
    have tA5 := tA.trans t15
    have z5 : H16 f1 = some (.lst ((rts.take at0 ++ [ra] ++ rts.drop at0).map V.ref)) := by
      rw [List.map_append, List.map_append, List.map_take, List.map_drop]; exact z5
    have LA : Lss .lst H16 (rts.take at0 ++ [ra] ++ rts.drop at0) (rs.take at0 ++ [rx] ++ rs.drop at0) := ((((hR.same tA5).tk at0).cat (Lss.one (tA5 _ _ hra))).cat ((hR.same tA5).dp at0))
    have pA := ins_perm rs rx at0
    have noA := none_more I pA
    refine ⟨n, f1, cs, _, _, rfl, tA5 _ _ hn, cok, by omega, z5, LA, fun x hx => (List.mem_cons.mp (pA.mem_iff.mp hx)).elim (fun e => e ▸ rxok) (hrr x), by rw [pA.length_eq, List.length_cons]; omega, fun k' ns cols q H' e => absurd (noA.symm.trans e) (fun z => nomatch z), fun _ H17 t6 => ?_⟩
    have t16 := t15.trans t6
    refine ⟨TL, _, _, rfl, rfl, t16 _ _ hTL, by show 1 < sizeLine; decide, ?_⟩
    have tB := app_same (o := .lst ([V.non] ++ [V.non])) nTL (tA.trans t16)
    have hTL2 : upd H17 TL (.lst ([V.non] ++ [V.non])) TL = some (.lst [V.non, V.non]) := upd_same
    generalize upd H17 TL (.lst ([V.non] ++ [V.non])) = G2 at tB hTL2 ⊢
    clear t1 u2 t3 t13 t4 t5 t15 t6 t16 z1 z2 z3 z4 z5 LA noA pA n1 n2 n3 n4 n5 hTL tA tA1 tA5
    refine ⟨_, rfl, .inl ⟨rfl, _, SqL.of hTL2⟩, _, rfl, _, rfl, _, rfl, _, rfl, slO (SqL.of (tB _ _ hD)) fun b1 H12 t1 n1 z1 => ?_⟩
    rw [cut_takeG] at z1
    have tA1 := tB.trans t1
    refine ⟨_, rfl, _, rfl, _, _, rfl, rfl, _, rfl, slO (SqL.of (tA1 _ _ hD)) fun e1 H15 t4 n4 z4 => ?_⟩
    rw [show ((at0 : Nat) : Int) + 1 = ((at0 + 1 : Nat) : Int) by omega, cut_dropG] at z4
    refine catO (t4 _ _ z1) z4 (by rw [List.length_take, List.length_drop, List.length_map]; omega) fun f1 H16 t5 n5 z5 => ?_
    have t15 := t1.trans (t4.trans t5)
    have tA5 := tB.trans t15
    have z5 : H16 f1 = some (.lst ((rts.take at0 ++ rts.drop (at0 + 1)).map V.ref)) := by
      rw [List.map_append, List.map_take, List.map_drop]; exact z5
    have LA : Lss .lst H16 (rts.take at0 ++ rts.drop (at0 + 1)) (rs.take at0 ++ rs.drop (at0 + 1)) := ((hR.same tA5).tk at0).cat ((hR.same tA5).dp (at0 + 1))
    have pA := del_perm erx
    have noA := none_less I pA
    refine ⟨n, f1, cs, _, _, rfl, tA5 _ _ hn, cok, by omega, z5, LA, fun x hx => hrr x (pA.mem_iff.mpr (List.mem_cons_of_mem _ hx)), by have := pA.length_eq; rw [List.length_cons] at this; omega, fun k' ns cols q H' e => absurd (noA.symm.trans e) (fun z => nomatch z), fun _ H17 t6 => ?_⟩
    have t16 := t15.trans t6
    refine ⟨TL, _, _, rfl, rfl, t16 _ _ hTL2, by show 2 < sizeLine; decide, ?_⟩
    have tC := app_same (o := .lst ([V.non, V.non] ++ [V.non])) nTL (tB.trans t16)
    have hTL3 : upd H17 TL (.lst ([V.non, V.non] ++ [V.non])) TL = some (.lst [V.non, V.non, V.non]) := upd_same
    generalize upd H17 TL (.lst ([V.non, V.non] ++ [V.non])) = G3 at tC hTL3 ⊢
    clear t1 t4 t5 t15 t6 t16 z1 z4 z5 LA noA pA n1 n4 n5 hTL2 tB tA1 tA5
    have ofl : (offN z cs).length + 1 = cs.length := off_len nd hzm
    have ofs : (offN z cs).Sublist cs := List.filter_sublist
    have rlen : ∀ r ∈ rs, r.length ≤ 12 := fun r hr => Nat.le_trans (hrr r hr).len cl
    refine ⟨_, rfl, .inl ⟨rfl, _, SqL.of hTL3⟩, _, rfl, _, rfl, D, rfl, ⟨_, SqL.of (tC _ _ hD)⟩, fun RD nRD => lc_it walk_list (fun i G => LcL G3 RD ((rs.map (offN z)).take i) G) (lcl0 nRD) (fun i G _ q => SqL.of (q.1 _ _ (tC _ _ hD))) ?_ ?_⟩
    · rintro i x Ga Gb hi q ⟨rfl, hx⟩
      obtain ⟨c, hc, rfl⟩ := refs_get hx
      obtain ⟨y, hy, hoy⟩ := ((hR.same tC).same q.1).get hc
      have hyl := rlen y (List.mem_of_getElem? hy)
      refine ⟨rfl, _, rfl, c, rfl, ⟨_, SqL.of hoy⟩, fun D2 nD2 => lc_it walk_list (PvS Gb D2 fun j => sv (offN z (y.take j))) (pv0 nD2 rfl) (fun j G _ q2 => q2.1.seq (SqL.of hoy)) ?_ ?_⟩
      · rintro j x2 Gc Gd hj q2 ⟨rfl, hx2⟩
        obtain ⟨u, hu, rfl⟩ := sv_get hx2
        have hl : (sv (offN z (y.take j))).length ≤ 1000000 := by
          have := List.length_filter_le (fun x => !decide (x = z)) (y.take j)
          rw [List.length_take] at this
          rw [len_sv]; unfold offN; omega
        refine ⟨rfl, _, rfl, _, rfl, rfl, _, rfl, ?_⟩
        by_cases e : u = z
        · refine ifF (by rw [e, decide_eq_true rfl]; rfl) (q2.skip ?_)
          rw [take_succ hu]; unfold offN
          rw [List.filter_append, List.filter_cons_of_neg (by rw [decide_eq_true e]; decide)]; simp
        · refine ifT (by rw [decide_eq_false (fun h => e (V.str.inj h))]; rfl) ⟨_, rfl, q2.push nD2 ?_ hl⟩
          rw [take_succ hu]; unfold offN
          rw [List.filter_append, List.filter_cons_of_pos (by rw [decide_eq_false e]; rfl)]; exact sv_snoc' _ _
      rintro Gc ⟨s5, h5⟩
      have h5 : Gc D2 = some (.lst (sv (offN z (y.take (sv y).length)))) := h5
      rw [len_sv, List.take_length] at h5
      have hne : D2 ≠ RD := fun e => by
        obtain ⟨_, us, hd, _⟩ := q
        rw [e, hd] at nD2; cases nD2
      have hy2 : (rs.map (offN z))[i]? = some (offN z y) := by rw [List.getElem?_map, hy]; rfl
      rw [take_succ hy2]
      exact q.push nRD s5 h5 hne (by rw [List.length_take, List.length_map]; omega)
    rintro H12 ⟨t1, us, hRD, hRt, _⟩
    have hRt : Lss .lst H12 us (rs.map (offN z)) := by
      have e : (rs.map (offN z)).take (rts.map V.ref).length = rs.map (offN z) := List.take_of_length_le (by rw [List.length_map, List.length_map, hR.len]; exact Nat.le_refl _)
      rw [← e]; exact hRt
    have noA := none_col I nd hzm
    refine ⟨FL, RD, offN z cs, us, rs.map (offN z), rfl, t1 _ _ (tC _ _ hFL), cok.sub ofs, by omega, hRD, hRt, fun x hx => ?_, by rw [List.length_map]; omega, fun k' ns cols q H' e => absurd (noA.symm.trans e) (fun z => nomatch z), fun _ H17 t6 => ?_⟩
    · obtain ⟨r, hr, rfl⟩ := List.mem_map.mp hx
      exact ⟨List.filter_sublist.nodup (hrr r hr).1, fun y hy => mem_off.mpr ⟨(hrr r hr).2 y (mem_off.mp hy).1, (mem_off.mp hy).2⟩⟩
    have t16 := t1.trans t6
    refine ⟨TL, _, _, rfl, rfl, t16 _ _ hTL3, by show 3 < sizeLine; decide, ?_⟩
    have tD := app_same (o := .lst ([V.non, V.non, V.non] ++ [V.non])) nTL (tC.trans t16)
    have hTL4 : upd H17 TL (.lst ([V.non, V.non, V.non] ++ [V.non])) TL = some (.lst [V.non, V.non, V.non, V.non]) := upd_same
    generalize upd H17 TL (.lst ([V.non, V.non, V.non] ++ [V.non])) = G4 at tD hTL4 ⊢
    clear t1 t6 t16 noA hTL3 tC nRD hRD hRt
    refine ⟨_, rfl, .inl ⟨rfl, _, SqL.of hTL4⟩, _, rfl, _, rfl, _, rfl, _, rfl, D, at0, z, rts, rs, rx, rfl, tD _ _ hD, hR.same tD, erx, by omega, by have := rlen rx (List.mem_of_getElem? erx); omega, fun f1 c1 H16 t5 nf z5 hc1 => ?_⟩
    have tA5 := tD.trans t5
    have LA : Lss .lst H16 (rts.take at0 ++ [c1] ++ rts.drop (at0 + 1)) (rs.take at0 ++ [turnR z rx] ++ rs.drop (at0 + 1)) := ((((hR.same tA5).tk at0).cat (Lss.one hc1)).cat ((hR.same tA5).dp (at0 + 1)))
    have noA := none_turn I nd hzm erx
    have trok : RowOk cs (turnR z rx) := by
      unfold turnR
      split
      · rw [List.append_nil]
        exact ⟨List.filter_sublist.nodup rxok.1, fun y hy => rxok.2 y (mem_off.mp hy).1⟩
      · refine ⟨?_, fun y hy => (List.mem_append.mp hy).elim (fun h => rxok.2 y (mem_off.mp h).1) fun h => by rw [List.mem_singleton.mp h]; exact hzm⟩
        rw [List.nodup_append]
        exact ⟨List.filter_sublist.nodup rxok.1, by simp, fun a ha b hb e => (mem_off.mp ha).2 (by rw [e]; exact List.mem_singleton.mp hb)⟩
    have tlen : (rs.take at0 ++ [turnR z rx] ++ rs.drop (at0 + 1)).length ≤ 40 := by
      rw [List.length_append, List.length_append, List.length_take, List.length_drop]
      show min at0 rs.length + 1 + (rs.length - (at0 + 1)) ≤ 40
      omega
    refine ⟨n, f1, cs, _, _, rfl, tA5 _ _ hn, cok, by omega, z5, LA, fun x hx => ?_, tlen, fun k' ns cols q H' e => absurd (noA.symm.trans e) (fun z => nomatch z), fun _ H17 t6 => ?_⟩
    · rcases List.mem_append.mp hx with h | h
      · rcases List.mem_append.mp h with h | h
        · exact hrr x (List.mem_of_mem_take h)
        · rw [List.mem_singleton.mp h]; exact trok
      · exact hrr x (List.mem_of_mem_drop h)
    have t16 := t5.trans t6
    refine ⟨TL, _, _, rfl, rfl, t16 _ _ hTL4, by show 4 < sizeLine; decide, ?_⟩
    have tE := app_same (o := .lst ([V.non, V.non, V.non, V.non] ++ [V.non])) nTL (tD.trans t16)
    have hTL5 : upd H17 TL (.lst ([V.non, V.non, V.non, V.non] ++ [V.non])) TL = some (.lst [V.non, V.non, V.non, V.non, V.non]) := upd_same
    generalize upd H17 TL (.lst ([V.non, V.non, V.non, V.non] ++ [V.non])) = G5 at tE hTL5 ⊢
    clear t5 t6 t16 noA hTL4 tD z5 hc1 LA nf tA5 tlen
    have nst : ("stranger" : Str) ∉ cs := not_in_cs hN
    have nsr : ∀ r ∈ rs, ("stranger" : Str) ∉ r := fun r hr h => nst ((hrr r hr).2 _ h)
    refine ⟨fun σ G => ∃ m, G TL = some (.lst (List.replicate m V.non)) ∧ m ≤ 8 ∧ σ = [some (.ref a), some (.ref p0), some (.ref p1), some (.int k), some (.int s), some (.ref n), some (.ref o), some (.ref D), some (.int (at0 : Nat)), some (.str z), some (.ref mr), some (.ref FL), some (.ref TL), none, none, none], ?_, ?_⟩
    · refine ⟨_, rfl, n, _, rfl, .inl (SqL.of (tE _ _ hn)), _, _, rfl, rfl, _, rfl, ?_⟩
      by_cases c12 : (((sv cs).length : Nat) : Int) < 12
      · refine ifT (decide_eq_true c12) ?_
        rw [len_sv] at c12
        refine ⟨_, rfl, .inl ⟨rfl, _, SqL.of hTL5⟩, by show 1 ≤ sizeLine; decide, fun l1 n2 => ?_⟩
        generalize hG : upd G5 l1 _ = H13
        have u2 : Same G5 H13 := hG ▸ same_new n2
        have z2 := (congrFun hG l1).symm.trans upd_same
        clear hG
        refine ⟨_, rfl, catO z2 (u2 _ _ (tE _ _ hn)) (by rw [len_sv]; show 1 + cs.length ≤ 1000000; omega) fun d1 H14 t3 n3 z3 => ?_⟩
        have tE3 := tE.trans (u2.trans t3)
        have z3 : H14 d1 = some (.lst (sv (("stranger" : Str) :: cs))) := z3
        have cok2 : ColsOk (("stranger" : Str) :: cs) := ⟨fun y hy => (List.mem_cons.mp hy).elim (fun e => e ▸ good_stranger) (hg y), List.nodup_cons.mpr ⟨nst, nd⟩, by rw [List.length_cons]; omega⟩
        have pA : (("stranger" : Str) :: cs).Perm (("stranger" : Str) :: cs) := .refl _
        have noA := none_new I pA nsr
        refine ⟨_, rfl, d1, D, _, rts, rs, rfl, z3, cok2, by rw [List.length_cons]; omega, tE3 _ _ hD, hR.same tE3, fun x hx => ⟨(hrr x hx).1, fun y hy => List.mem_cons_of_mem _ ((hrr x hx).2 y hy)⟩, by omega, fun k' ns cols q H' e => absurd (noA.symm.trans e) (fun z => nomatch z), fun _ H17 t6 => ?_⟩
        have t16 := u2.trans (t3.trans t6)
        refine ⟨TL, _, _, rfl, rfl, t16 _ _ hTL5, by show 5 < sizeLine; decide, ?_⟩
        have tF := app_same (o := .lst ([V.non, V.non, V.non, V.non, V.non] ++ [V.non])) nTL (tE.trans t16)
        have hTL6 : upd H17 TL (.lst ([V.non, V.non, V.non, V.non, V.non] ++ [V.non])) TL = some (.lst [V.non, V.non, V.non, V.non, V.non, V.non]) := upd_same
        generalize upd H17 TL (.lst ([V.non, V.non, V.non, V.non, V.non] ++ [V.non])) = G6 at tF hTL6 ⊢
        clear u2 t3 t6 t16 noA hTL5 tE z3 z2 n2 n3 tE3 pA cok2
        refine ⟨_, rfl, .inl ⟨rfl, _, SqL.of hTL6⟩, _, rfl, by show 1 ≤ sizeLine; decide, fun l1 n2 => ?_⟩
        generalize hG : upd G6 l1 _ = H13
        have u2 : Same G6 H13 := hG ▸ same_new n2
        have z2 := (congrFun hG l1).symm.trans upd_same
        clear hG
        refine catO (u2 _ _ (tF _ _ hn)) z2 (by rw [len_sv]; show cs.length + 1 ≤ 1000000; omega) fun d1 H14 t3 n3 z3 => ?_
        have tE3 := tF.trans (u2.trans t3)
        have z3 : H14 d1 = some (.lst (sv (cs ++ [("stranger" : Str)]))) := by rw [sv_snoc']; exact z3
        have pA : (cs ++ [("stranger" : Str)]).Perm (("stranger" : Str) :: cs) := List.perm_append_comm
        have cok2 : ColsOk (cs ++ [("stranger" : Str)]) := ⟨fun y hy => (List.mem_cons.mp (pA.mem_iff.mp hy)).elim (fun e => e ▸ good_stranger) (hg y), pA.nodup_iff.mpr (List.nodup_cons.mpr ⟨nst, nd⟩), by rw [pA.length_eq, List.length_cons]; omega⟩
        have noA := none_new I pA nsr
        refine ⟨_, rfl, d1, D, _, rts, rs, rfl, z3, cok2, by rw [pA.length_eq, List.length_cons]; omega, tE3 _ _ hD, hR.same tE3, fun x hx => ⟨(hrr x hx).1, fun y hy => List.mem_append_left _ ((hrr x hx).2 y hy)⟩, by omega, fun k' ns cols q H' e => absurd (noA.symm.trans e) (fun z => nomatch z), fun _ H17 t6 => ?_⟩
        have t16 := u2.trans (t3.trans t6)
        exact ⟨TL, _, _, rfl, rfl, t16 _ _ hTL6, by show 6 < sizeLine; decide, 7, upd_same, by decide, rfl⟩
      · refine ifF (decide_eq_false c12) ⟨5, hTL5, by decide, rfl⟩
    rintro σ G ⟨m, hm, ml, rfl⟩
    refine ⟨_, rfl, TL, rfl, ⟨_, SqL.of hm⟩, fun D2 nD2 => lc_it walk_list (PvS G D2 fun _ => []) (pv0 nD2 rfl) (fun j G2 _ q2 => q2.1.seq (SqL.of hm)) ?_ ?_⟩
    · rintro j x2 Gc Gd hj q2 ⟨rfl, hx2⟩
      have e : x2 = .non := List.eq_of_mem_replicate (List.mem_of_getElem? hx2)
      subst e
      exact ⟨rfl, _, rfl, rfl, _, rfl, itNe rfl (q2.skip rfl)⟩
    rintro Gc ⟨s5, h5⟩
    refine ⟨D2, _, rfl, .inl (SqL.of h5), rfl, ?_⟩
    exact kk Gc
end
end My
set_option maxRecDepth 100000
set_option maxHeartbeats 4000000
set_option exponentiation.threshold 10000
namespace My
open PySem L2
theorem all_mk {l : PySem.W.OpenLaw} {w : World} {K : PySem.W.Frag} {h : Heap} {mg : Str → Option Value} {fa C_Table C_Pattern C_BadKind a_BadKind_init a_is_name a_first_bad_name a_first_stray a_check_columns a_check_rows a_Table_in_order a_Table_init a_mask_of a_seen a_fits a_extended a_sizes a_matching a_standard_width a_standard_rows a_Pattern_init a_matched a_recognized a_law_cell a_law_pool a_law_names a_law_order a_law_row a_law_is_number a_law_standard a_law_width a_law_is_pattern a_law_mixed a_law_recognized a_law_turned a_law e_Table_init e_MORE_COLUMNS e_FIXED_COLUMNS e_FIXED_ROWS e_w4 e_w5 e_w40 e_w41 e_w42 e_w43 e_w50 e_w51 e_w52 e_w53 e_KINDS : Addr} (X : K.In h) (G : h.Ns mainGlobals mg) (hfa : mg "law" = some (.ref fa))
    {cd_BadKind : ClassData}
    {oc_BadKind_init kV_BadKind_init dc_BadKind_init pm_BadKind_init ct_BadKind_init oa_BadKind_init ob_BadKind_init : Value} {od_BadKind_init an_BadKind_init da_BadKind_init db_BadKind_init : Option Addr} {sl_BadKind_init la_BadKind_init lb_BadKind_init : Array (Option Value)} {cda_BadKind_init cc_BadKind_init : Addr} {vs_BadKind_init : Array Value} {fl_BadKind_init : Str} {tf_BadKind_init : Tok}
    {tk_LONGEST_NAME : Tok}
    {tk_Table_MOST_COLUMNS : Tok}
    {tk_Table_MOST_ROWS : Tok}
    {es_MORE_COLUMNS : Array DictEntry} {dn_MORE_COLUMNS : Nat}
    {es_FIXED_COLUMNS : Array DictEntry} {dn_FIXED_COLUMNS : Nat}
    {es_FIXED_ROWS : Array DictEntry} {dn_FIXED_ROWS : Nat}
    {wo_w4 : Option Addr} {wi_w4 : Array Value} {wn_w4 : Nat} {ws_w4 : Array (Option Value)}
    {wo_w5 : Option Addr} {wi_w5 : Array Value} {wn_w5 : Nat} {ws_w5 : Array (Option Value)}
    {wo_w40 : Option Addr} {wi_w40 : Array Value} {wn_w40 : Nat} {ws_w40 : Array (Option Value)}
    {wo_w41 : Option Addr} {wi_w41 : Array Value} {wn_w41 : Nat} {ws_w41 : Array (Option Value)}
    {wo_w42 : Option Addr} {wi_w42 : Array Value} {wn_w42 : Nat} {ws_w42 : Array (Option Value)}
    {wo_w43 : Option Addr} {wi_w43 : Array Value} {wn_w43 : Nat} {ws_w43 : Array (Option Value)}
    {wo_w50 : Option Addr} {wi_w50 : Array Value} {wn_w50 : Nat} {ws_w50 : Array (Option Value)}
    {wo_w51 : Option Addr} {wi_w51 : Array Value} {wn_w51 : Nat} {ws_w51 : Array (Option Value)}
    {wo_w52 : Option Addr} {wi_w52 : Array Value} {wn_w52 : Nat} {ws_w52 : Array (Option Value)}
    {wo_w53 : Option Addr} {wi_w53 : Array Value} {wn_w53 : Nat} {ws_w53 : Array (Option Value)}
    {wo_KINDS : Option Addr} {wi_KINDS : Array Value} {wn_KINDS : Nat} {ws_KINDS : Array (Option Value)}
    {oc_is_name kV_is_name dc_is_name pm_is_name cd_is_name ct_is_name : Value} {od_is_name an_is_name : Option Addr} {sl_is_name : Array (Option Value)}
    {oc_first_bad_name kV_first_bad_name dc_first_bad_name pm_first_bad_name cd_first_bad_name ct_first_bad_name : Value} {od_first_bad_name an_first_bad_name : Option Addr} {sl_first_bad_name : Array (Option Value)}
    {oc_first_stray kV_first_stray dc_first_stray pm_first_stray cd_first_stray ct_first_stray : Value} {od_first_stray an_first_stray : Option Addr} {sl_first_stray : Array (Option Value)}
    {oc_check_columns kV_check_columns dc_check_columns pm_check_columns cd_check_columns ct_check_columns : Value} {od_check_columns an_check_columns : Option Addr} {sl_check_columns : Array (Option Value)}
    {oc_check_rows kV_check_rows dc_check_rows pm_check_rows cd_check_rows ct_check_rows : Value} {od_check_rows an_check_rows : Option Addr} {sl_check_rows : Array (Option Value)}
    {oc_Table_in_order kV_Table_in_order dc_Table_in_order pm_Table_in_order cd_Table_in_order ct_Table_in_order : Value} {od_Table_in_order an_Table_in_order : Option Addr} {sl_Table_in_order : Array (Option Value)}
    {oc_Table_init kV_Table_init dc_Table_init pm_Table_init cd_Table_init ct_Table_init : Value} {od_Table_init an_Table_init : Option Addr} {sl_Table_init : Array (Option Value)}
    {TD_Table_init : Addr} {to_Table_init : Option Addr} {tn_Table_init : Nat} {ts_Table_init : Array (Option Value)}
    {oc_mask_of kV_mask_of dc_mask_of pm_mask_of cd_mask_of ct_mask_of : Value} {od_mask_of an_mask_of : Option Addr} {sl_mask_of : Array (Option Value)}
    {oc_seen kV_seen dc_seen pm_seen cd_seen ct_seen : Value} {od_seen an_seen : Option Addr} {sl_seen : Array (Option Value)}
    {oc_fits kV_fits dc_fits pm_fits cd_fits ct_fits : Value} {od_fits an_fits : Option Addr} {sl_fits : Array (Option Value)}
    {oc_extended kV_extended dc_extended pm_extended cd_extended ct_extended : Value} {od_extended an_extended : Option Addr} {sl_extended : Array (Option Value)}
    {oc_sizes kV_sizes dc_sizes pm_sizes cd_sizes ct_sizes : Value} {od_sizes an_sizes : Option Addr} {sl_sizes : Array (Option Value)}
    {oc_matching kV_matching dc_matching pm_matching cd_matching ct_matching : Value} {od_matching an_matching : Option Addr} {sl_matching : Array (Option Value)}
    {oc_standard_width kV_standard_width dc_standard_width pm_standard_width cd_standard_width ct_standard_width : Value} {od_standard_width an_standard_width : Option Addr} {sl_standard_width : Array (Option Value)}
    {oc_standard_rows kV_standard_rows dc_standard_rows pm_standard_rows cd_standard_rows ct_standard_rows : Value} {od_standard_rows an_standard_rows : Option Addr} {sl_standard_rows : Array (Option Value)}
    {oc_Pattern_init kV_Pattern_init dc_Pattern_init pm_Pattern_init cd_Pattern_init ct_Pattern_init : Value} {od_Pattern_init an_Pattern_init : Option Addr} {sl_Pattern_init : Array (Option Value)}
    {oc_matched kV_matched dc_matched pm_matched cd_matched ct_matched : Value} {od_matched an_matched : Option Addr} {sl_matched : Array (Option Value)}
    {oc_recognized kV_recognized dc_recognized pm_recognized cd_recognized ct_recognized : Value} {od_recognized an_recognized : Option Addr} {sl_recognized : Array (Option Value)}
    {oc_law_cell kV_law_cell dc_law_cell pm_law_cell cd_law_cell ct_law_cell : Value} {od_law_cell an_law_cell : Option Addr} {sl_law_cell : Array (Option Value)}
    {oc_law_pool kV_law_pool dc_law_pool pm_law_pool cd_law_pool ct_law_pool : Value} {od_law_pool an_law_pool : Option Addr} {sl_law_pool : Array (Option Value)}
    {oc_law_names kV_law_names dc_law_names pm_law_names cd_law_names ct_law_names : Value} {od_law_names an_law_names : Option Addr} {sl_law_names : Array (Option Value)}
    {oc_law_order kV_law_order dc_law_order pm_law_order cd_law_order ct_law_order : Value} {od_law_order an_law_order : Option Addr} {sl_law_order : Array (Option Value)}
    {oc_law_row kV_law_row dc_law_row pm_law_row cd_law_row ct_law_row : Value} {od_law_row an_law_row : Option Addr} {sl_law_row : Array (Option Value)}
    {oc_law_is_number kV_law_is_number dc_law_is_number pm_law_is_number cd_law_is_number ct_law_is_number : Value} {od_law_is_number an_law_is_number : Option Addr} {sl_law_is_number : Array (Option Value)}
    {oc_law_standard kV_law_standard dc_law_standard pm_law_standard cd_law_standard ct_law_standard : Value} {od_law_standard an_law_standard : Option Addr} {sl_law_standard : Array (Option Value)}
    {oc_law_width kV_law_width dc_law_width pm_law_width cd_law_width ct_law_width : Value} {od_law_width an_law_width : Option Addr} {sl_law_width : Array (Option Value)}
    {oc_law_is_pattern kV_law_is_pattern dc_law_is_pattern pm_law_is_pattern cd_law_is_pattern ct_law_is_pattern : Value} {od_law_is_pattern an_law_is_pattern : Option Addr} {sl_law_is_pattern : Array (Option Value)}
    {oc_law_mixed kV_law_mixed dc_law_mixed pm_law_mixed cd_law_mixed ct_law_mixed : Value} {od_law_mixed an_law_mixed : Option Addr} {sl_law_mixed : Array (Option Value)}
    {oc_law_recognized kV_law_recognized dc_law_recognized pm_law_recognized cd_law_recognized ct_law_recognized : Value} {od_law_recognized an_law_recognized : Option Addr} {sl_law_recognized : Array (Option Value)}
    {oc_law_turned kV_law_turned dc_law_turned pm_law_turned cd_law_turned ct_law_turned : Value} {od_law_turned an_law_turned : Option Addr} {sl_law_turned : Array (Option Value)}
    {oc_law kV_law dc_law pm_law cd_law ct_law : Value} {od_law an_law : Option Addr} {sl_law : Array (Option Value)}
    (xmg_Table : PySem.W.nsIn K mainGlobals "Table" = some (some (.ref C_Table)))
    (xmg_Pattern : PySem.W.nsIn K mainGlobals "Pattern" = some (some (.ref C_Pattern)))
    (xmg_BadKind : PySem.W.nsIn K mainGlobals "BadKind" = some (some (.ref C_BadKind)))
    (am_BadKind_init : PySem.W.findIn K (.ref C_BadKind) "__init__" = some (some (.ref a_BadKind_init)))
    (xmg_LONGEST_NAME : PySem.W.nsIn K mainGlobals "LONGEST_NAME" = some (some (.int 8 tk_LONGEST_NAME)))
    (xmg_MORE_COLUMNS : PySem.W.nsIn K mainGlobals "MORE_COLUMNS" = some (some (.ref e_MORE_COLUMNS)))
    (xmg_FIXED_COLUMNS : PySem.W.nsIn K mainGlobals "FIXED_COLUMNS" = some (some (.ref e_FIXED_COLUMNS)))
    (xmg_FIXED_ROWS : PySem.W.nsIn K mainGlobals "FIXED_ROWS" = some (some (.ref e_FIXED_ROWS)))
    (xmg_KINDS : PySem.W.nsIn K mainGlobals "KINDS" = some (some (.ref e_KINDS)))
    (xmg_is_name : PySem.W.nsIn K mainGlobals "is_name" = some (some (.ref a_is_name)))
    (xmg_first_bad_name : PySem.W.nsIn K mainGlobals "first_bad_name" = some (some (.ref a_first_bad_name)))
    (xmg_first_stray : PySem.W.nsIn K mainGlobals "first_stray" = some (some (.ref a_first_stray)))
    (xmg_check_columns : PySem.W.nsIn K mainGlobals "check_columns" = some (some (.ref a_check_columns)))
    (xmg_check_rows : PySem.W.nsIn K mainGlobals "_check_rows" = some (some (.ref a_check_rows)))
    (am_Table_in_order : PySem.W.findIn K (.ref C_Table) "_in_order" = some (some (.ref a_Table_in_order)))
    (am_Table_init : PySem.W.findIn K (.ref C_Table) "__init__" = some (some (.ref a_Table_init)))
    (xmg_mask_of : PySem.W.nsIn K mainGlobals "mask_of" = some (some (.ref a_mask_of)))
    (xmg_seen : PySem.W.nsIn K mainGlobals "_seen" = some (some (.ref a_seen)))
    (xmg_fits : PySem.W.nsIn K mainGlobals "_fits" = some (some (.ref a_fits)))
    (xmg_extended : PySem.W.nsIn K mainGlobals "_extended" = some (some (.ref a_extended)))
    (xmg_sizes : PySem.W.nsIn K mainGlobals "_sizes" = some (some (.ref a_sizes)))
    (xmg_matching : PySem.W.nsIn K mainGlobals "matching" = some (some (.ref a_matching)))
    (xmg_standard_width : PySem.W.nsIn K mainGlobals "standard_width" = some (some (.ref a_standard_width)))
    (xmg_standard_rows : PySem.W.nsIn K mainGlobals "standard_rows" = some (some (.ref a_standard_rows)))
    (am_Pattern_init : PySem.W.findIn K (.ref C_Pattern) "__init__" = some (some (.ref a_Pattern_init)))
    (xmg_matched : PySem.W.nsIn K mainGlobals "_matched" = some (some (.ref a_matched)))
    (xmg_recognized : PySem.W.nsIn K mainGlobals "recognized" = some (some (.ref a_recognized)))
    (xmg_law_cell : PySem.W.nsIn K mainGlobals "_law_cell" = some (some (.ref a_law_cell)))
    (xmg_law_pool : PySem.W.nsIn K mainGlobals "_law_pool" = some (some (.ref a_law_pool)))
    (xmg_law_names : PySem.W.nsIn K mainGlobals "_law_names" = some (some (.ref a_law_names)))
    (xmg_law_order : PySem.W.nsIn K mainGlobals "_law_order" = some (some (.ref a_law_order)))
    (xmg_law_row : PySem.W.nsIn K mainGlobals "_law_row" = some (some (.ref a_law_row)))
    (xmg_law_is_number : PySem.W.nsIn K mainGlobals "_law_is_number" = some (some (.ref a_law_is_number)))
    (xmg_law_standard : PySem.W.nsIn K mainGlobals "_law_standard" = some (some (.ref a_law_standard)))
    (xmg_law_width : PySem.W.nsIn K mainGlobals "_law_width" = some (some (.ref a_law_width)))
    (xmg_law_is_pattern : PySem.W.nsIn K mainGlobals "_law_is_pattern" = some (some (.ref a_law_is_pattern)))
    (xmg_law_mixed : PySem.W.nsIn K mainGlobals "_law_mixed" = some (some (.ref a_law_mixed)))
    (xmg_law_recognized : PySem.W.nsIn K mainGlobals "_law_recognized" = some (some (.ref a_law_recognized)))
    (xmg_law_turned : PySem.W.nsIn K mainGlobals "_law_turned" = some (some (.ref a_law_turned)))
    (xmg_law : PySem.W.nsIn K mainGlobals "law" = some (some (.ref a_law)))
    (if_Table_in_order : PySem.W.isFn K (.ref a_Table_in_order) = true)
    (if_Table_init : PySem.W.isFn K (.ref a_Table_init) = true)
    (if_Pattern_init : PySem.W.isFn K (.ref a_Pattern_init) = true)
    (l_BadKind_init : K.lookup a_BadKind_init = some ⟨oc_BadKind_init, od_BadKind_init, .func (PySem.W.ksFn "__init__" "BadKind.__init__" (defArgs s_BadKind_init) (defBody s_BadKind_init) (defScope s_BadKind_init) .none kV_BadKind_init dc_BadKind_init pm_BadKind_init an_BadKind_init (.ref cda_BadKind_init) ct_BadKind_init cc_BadKind_init), sl_BadKind_init⟩)
    (l_MORE_COLUMNS : K.lookup e_MORE_COLUMNS = some ⟨.type "dict", none, .dict es_MORE_COLUMNS dn_MORE_COLUMNS, #[]⟩)
    (l_FIXED_COLUMNS : K.lookup e_FIXED_COLUMNS = some ⟨.type "dict", none, .dict es_FIXED_COLUMNS dn_FIXED_COLUMNS, #[]⟩)
    (l_FIXED_ROWS : K.lookup e_FIXED_ROWS = some ⟨.type "dict", none, .dict es_FIXED_ROWS dn_FIXED_ROWS, #[]⟩)
    (l_is_name : K.lookup a_is_name = some ⟨oc_is_name, od_is_name, .func (PySem.W.fnOf "is_name" "is_name" (defArgs s_is_name) (defBody s_is_name) (defScope s_is_name) .none kV_is_name dc_is_name pm_is_name an_is_name cd_is_name ct_is_name), sl_is_name⟩)
    (l_first_bad_name : K.lookup a_first_bad_name = some ⟨oc_first_bad_name, od_first_bad_name, .func (PySem.W.fnOf "first_bad_name" "first_bad_name" (defArgs s_first_bad_name) (defBody s_first_bad_name) (defScope s_first_bad_name) .none kV_first_bad_name dc_first_bad_name pm_first_bad_name an_first_bad_name cd_first_bad_name ct_first_bad_name), sl_first_bad_name⟩)
    (l_first_stray : K.lookup a_first_stray = some ⟨oc_first_stray, od_first_stray, .func (PySem.W.fnOf "first_stray" "first_stray" (defArgs s_first_stray) (defBody s_first_stray) (defScope s_first_stray) .none kV_first_stray dc_first_stray pm_first_stray an_first_stray cd_first_stray ct_first_stray), sl_first_stray⟩)
    (l_check_columns : K.lookup a_check_columns = some ⟨oc_check_columns, od_check_columns, .func (PySem.W.fnOf "check_columns" "check_columns" (defArgs s_check_columns) (defBody s_check_columns) (defScope s_check_columns) .none kV_check_columns dc_check_columns pm_check_columns an_check_columns cd_check_columns ct_check_columns), sl_check_columns⟩)
    (l_check_rows : K.lookup a_check_rows = some ⟨oc_check_rows, od_check_rows, .func (PySem.W.fnOf "_check_rows" "_check_rows" (defArgs s_check_rows) (defBody s_check_rows) (defScope s_check_rows) .none kV_check_rows dc_check_rows pm_check_rows an_check_rows cd_check_rows ct_check_rows), sl_check_rows⟩)
    (l_Table_in_order : K.lookup a_Table_in_order = some ⟨oc_Table_in_order, od_Table_in_order, .func (PySem.W.fnOf "_in_order" "Table._in_order" (defArgs s_Table_in_order) (defBody s_Table_in_order) (defScope s_Table_in_order) .none kV_Table_in_order dc_Table_in_order pm_Table_in_order an_Table_in_order cd_Table_in_order ct_Table_in_order), sl_Table_in_order⟩)
    (l_Table_init : K.lookup a_Table_init = some ⟨oc_Table_init, od_Table_init, .func (PySem.W.fnOf "__init__" "Table.__init__" (defArgs s_Table_init) (defBody s_Table_init) (defScope s_Table_init) (.ref TD_Table_init) kV_Table_init dc_Table_init pm_Table_init an_Table_init cd_Table_init ct_Table_init), sl_Table_init⟩)
    (l_mask_of : K.lookup a_mask_of = some ⟨oc_mask_of, od_mask_of, .func (PySem.W.fnOf "mask_of" "mask_of" (defArgs s_mask_of) (defBody s_mask_of) (defScope s_mask_of) .none kV_mask_of dc_mask_of pm_mask_of an_mask_of cd_mask_of ct_mask_of), sl_mask_of⟩)
    (l_seen : K.lookup a_seen = some ⟨oc_seen, od_seen, .func (PySem.W.fnOf "_seen" "_seen" (defArgs s_seen) (defBody s_seen) (defScope s_seen) .none kV_seen dc_seen pm_seen an_seen cd_seen ct_seen), sl_seen⟩)
    (l_fits : K.lookup a_fits = some ⟨oc_fits, od_fits, .func (PySem.W.fnOf "_fits" "_fits" (defArgs s_fits) (defBody s_fits) (defScope s_fits) .none kV_fits dc_fits pm_fits an_fits cd_fits ct_fits), sl_fits⟩)
    (l_extended : K.lookup a_extended = some ⟨oc_extended, od_extended, .func (PySem.W.fnOf "_extended" "_extended" (defArgs s_extended) (defBody s_extended) (defScope s_extended) .none kV_extended dc_extended pm_extended an_extended cd_extended ct_extended), sl_extended⟩)
    (l_sizes : K.lookup a_sizes = some ⟨oc_sizes, od_sizes, .func (PySem.W.fnOf "_sizes" "_sizes" (defArgs s_sizes) (defBody s_sizes) (defScope s_sizes) .none kV_sizes dc_sizes pm_sizes an_sizes cd_sizes ct_sizes), sl_sizes⟩)
    (l_matching : K.lookup a_matching = some ⟨oc_matching, od_matching, .func (PySem.W.fnOf "matching" "matching" (defArgs s_matching) (defBody s_matching) (defScope s_matching) .none kV_matching dc_matching pm_matching an_matching cd_matching ct_matching), sl_matching⟩)
    (l_standard_width : K.lookup a_standard_width = some ⟨oc_standard_width, od_standard_width, .func (PySem.W.fnOf "standard_width" "standard_width" (defArgs s_standard_width) (defBody s_standard_width) (defScope s_standard_width) .none kV_standard_width dc_standard_width pm_standard_width an_standard_width cd_standard_width ct_standard_width), sl_standard_width⟩)
    (l_standard_rows : K.lookup a_standard_rows = some ⟨oc_standard_rows, od_standard_rows, .func (PySem.W.fnOf "standard_rows" "standard_rows" (defArgs s_standard_rows) (defBody s_standard_rows) (defScope s_standard_rows) .none kV_standard_rows dc_standard_rows pm_standard_rows an_standard_rows cd_standard_rows ct_standard_rows), sl_standard_rows⟩)
    (l_Pattern_init : K.lookup a_Pattern_init = some ⟨oc_Pattern_init, od_Pattern_init, .func (PySem.W.fnOf "__init__" "Pattern.__init__" (defArgs s_Pattern_init) (defBody s_Pattern_init) (defScope s_Pattern_init) .none kV_Pattern_init dc_Pattern_init pm_Pattern_init an_Pattern_init cd_Pattern_init ct_Pattern_init), sl_Pattern_init⟩)
    (l_matched : K.lookup a_matched = some ⟨oc_matched, od_matched, .func (PySem.W.fnOf "_matched" "_matched" (defArgs s_matched) (defBody s_matched) (defScope s_matched) .none kV_matched dc_matched pm_matched an_matched cd_matched ct_matched), sl_matched⟩)
    (l_recognized : K.lookup a_recognized = some ⟨oc_recognized, od_recognized, .func (PySem.W.fnOf "recognized" "recognized" (defArgs s_recognized) (defBody s_recognized) (defScope s_recognized) .none kV_recognized dc_recognized pm_recognized an_recognized cd_recognized ct_recognized), sl_recognized⟩)
    (l_law_cell : K.lookup a_law_cell = some ⟨oc_law_cell, od_law_cell, .func (PySem.W.fnOf "_law_cell" "_law_cell" (defArgs s_law_cell) (defBody s_law_cell) (defScope s_law_cell) .none kV_law_cell dc_law_cell pm_law_cell an_law_cell cd_law_cell ct_law_cell), sl_law_cell⟩)
    (l_law_pool : K.lookup a_law_pool = some ⟨oc_law_pool, od_law_pool, .func (PySem.W.fnOf "_law_pool" "_law_pool" (defArgs s_law_pool) (defBody s_law_pool) (defScope s_law_pool) .none kV_law_pool dc_law_pool pm_law_pool an_law_pool cd_law_pool ct_law_pool), sl_law_pool⟩)
    (l_law_names : K.lookup a_law_names = some ⟨oc_law_names, od_law_names, .func (PySem.W.fnOf "_law_names" "_law_names" (defArgs s_law_names) (defBody s_law_names) (defScope s_law_names) .none kV_law_names dc_law_names pm_law_names an_law_names cd_law_names ct_law_names), sl_law_names⟩)
    (l_law_order : K.lookup a_law_order = some ⟨oc_law_order, od_law_order, .func (PySem.W.fnOf "_law_order" "_law_order" (defArgs s_law_order) (defBody s_law_order) (defScope s_law_order) .none kV_law_order dc_law_order pm_law_order an_law_order cd_law_order ct_law_order), sl_law_order⟩)
    (l_law_row : K.lookup a_law_row = some ⟨oc_law_row, od_law_row, .func (PySem.W.fnOf "_law_row" "_law_row" (defArgs s_law_row) (defBody s_law_row) (defScope s_law_row) .none kV_law_row dc_law_row pm_law_row an_law_row cd_law_row ct_law_row), sl_law_row⟩)
    (l_law_is_number : K.lookup a_law_is_number = some ⟨oc_law_is_number, od_law_is_number, .func (PySem.W.fnOf "_law_is_number" "_law_is_number" (defArgs s_law_is_number) (defBody s_law_is_number) (defScope s_law_is_number) .none kV_law_is_number dc_law_is_number pm_law_is_number an_law_is_number cd_law_is_number ct_law_is_number), sl_law_is_number⟩)
    (l_law_standard : K.lookup a_law_standard = some ⟨oc_law_standard, od_law_standard, .func (PySem.W.fnOf "_law_standard" "_law_standard" (defArgs s_law_standard) (defBody s_law_standard) (defScope s_law_standard) .none kV_law_standard dc_law_standard pm_law_standard an_law_standard cd_law_standard ct_law_standard), sl_law_standard⟩)
    (l_law_width : K.lookup a_law_width = some ⟨oc_law_width, od_law_width, .func (PySem.W.fnOf "_law_width" "_law_width" (defArgs s_law_width) (defBody s_law_width) (defScope s_law_width) .none kV_law_width dc_law_width pm_law_width an_law_width cd_law_width ct_law_width), sl_law_width⟩)
    (l_law_is_pattern : K.lookup a_law_is_pattern = some ⟨oc_law_is_pattern, od_law_is_pattern, .func (PySem.W.fnOf "_law_is_pattern" "_law_is_pattern" (defArgs s_law_is_pattern) (defBody s_law_is_pattern) (defScope s_law_is_pattern) .none kV_law_is_pattern dc_law_is_pattern pm_law_is_pattern an_law_is_pattern cd_law_is_pattern ct_law_is_pattern), sl_law_is_pattern⟩)
    (l_law_mixed : K.lookup a_law_mixed = some ⟨oc_law_mixed, od_law_mixed, .func (PySem.W.fnOf "_law_mixed" "_law_mixed" (defArgs s_law_mixed) (defBody s_law_mixed) (defScope s_law_mixed) .none kV_law_mixed dc_law_mixed pm_law_mixed an_law_mixed cd_law_mixed ct_law_mixed), sl_law_mixed⟩)
    (l_law_recognized : K.lookup a_law_recognized = some ⟨oc_law_recognized, od_law_recognized, .func (PySem.W.fnOf "_law_recognized" "_law_recognized" (defArgs s_law_recognized) (defBody s_law_recognized) (defScope s_law_recognized) .none kV_law_recognized dc_law_recognized pm_law_recognized an_law_recognized cd_law_recognized ct_law_recognized), sl_law_recognized⟩)
    (l_law_turned : K.lookup a_law_turned = some ⟨oc_law_turned, od_law_turned, .func (PySem.W.fnOf "_law_turned" "_law_turned" (defArgs s_law_turned) (defBody s_law_turned) (defScope s_law_turned) .none kV_law_turned dc_law_turned pm_law_turned an_law_turned cd_law_turned ct_law_turned), sl_law_turned⟩)
    (l_law : K.lookup a_law = some ⟨oc_law, od_law, .func (PySem.W.fnOf "law" "law" (defArgs s_law) (defBody s_law) (defScope s_law) .none kV_law dc_law pm_law an_law cd_law ct_law), sl_law⟩)
    (lx_BadKind_init : K.lookup cda_BadKind_init = some ⟨oa_BadKind_init, da_BadKind_init, .fields vs_BadKind_init, la_BadKind_init⟩)
    (lq_BadKind_init : K.lookup cc_BadKind_init = some ⟨ob_BadKind_init, db_BadKind_init, .cell (some (.ref C_BadKind)), lb_BadKind_init⟩)
    (ki_MORE_COLUMNS : KeysI es_MORE_COLUMNS.toList [(1, .int 2), (2, .int 3), (3, .int 3)])
    (ki_FIXED_COLUMNS : KeysI es_FIXED_COLUMNS.toList [(4, .int 6), (5, .int 5)])
    (ki_FIXED_ROWS : KeysI es_FIXED_ROWS.toList [(4, .ref e_w4), (5, .ref e_w5)])
    (wl_w4 : K.lookup e_w4 = some ⟨.type "tuple", wo_w4, .seq wi_w4 wn_w4, ws_w4⟩)
    (wv_w4 : Vals ([.ref e_w40, .ref e_w41, .ref e_w42, .ref e_w43] : List V) wi_w4.toList)
    (wl_w5 : K.lookup e_w5 = some ⟨.type "tuple", wo_w5, .seq wi_w5 wn_w5, ws_w5⟩)
    (wv_w5 : Vals ([.ref e_w50, .ref e_w51, .ref e_w52, .ref e_w53] : List V) wi_w5.toList)
    (wl_w40 : K.lookup e_w40 = some ⟨.type "tuple", wo_w40, .seq wi_w40 wn_w40, ws_w40⟩)
    (wv_w40 : Vals ([.int 0, .int 1] : List V) wi_w40.toList)
    (wl_w41 : K.lookup e_w41 = some ⟨.type "tuple", wo_w41, .seq wi_w41 wn_w41, ws_w41⟩)
    (wv_w41 : Vals ([.int 2, .int 3] : List V) wi_w41.toList)
    (wl_w42 : K.lookup e_w42 = some ⟨.type "tuple", wo_w42, .seq wi_w42 wn_w42, ws_w42⟩)
    (wv_w42 : Vals ([.int 4, .int 5] : List V) wi_w42.toList)
    (wl_w43 : K.lookup e_w43 = some ⟨.type "tuple", wo_w43, .seq wi_w43 wn_w43, ws_w43⟩)
    (wv_w43 : Vals ([.int 1, .int 3, .int 5] : List V) wi_w43.toList)
    (wl_w50 : K.lookup e_w50 = some ⟨.type "tuple", wo_w50, .seq wi_w50 wn_w50, ws_w50⟩)
    (wv_w50 : Vals ([.int 0, .int 1] : List V) wi_w50.toList)
    (wl_w51 : K.lookup e_w51 = some ⟨.type "tuple", wo_w51, .seq wi_w51 wn_w51, ws_w51⟩)
    (wv_w51 : Vals ([.int 2, .int 3] : List V) wi_w51.toList)
    (wl_w52 : K.lookup e_w52 = some ⟨.type "tuple", wo_w52, .seq wi_w52 wn_w52, ws_w52⟩)
    (wv_w52 : Vals ([.int 0, .int 1, .int 2, .int 3] : List V) wi_w52.toList)
    (wl_w53 : K.lookup e_w53 = some ⟨.type "tuple", wo_w53, .seq wi_w53 wn_w53, ws_w53⟩)
    (wv_w53 : Vals ([.int 1, .int 2, .int 4] : List V) wi_w53.toList)
    (wl_KINDS : K.lookup e_KINDS = some ⟨.type "tuple", wo_KINDS, .seq wi_KINDS wn_KINDS, ws_KINDS⟩)
    (wv_KINDS : Vals ([.int 1, .int 2, .int 3, .int 4, .int 5] : List V) wi_KINDS.toList)
    (c_BadKind_init : PySem.W.codeIn K (.ref cda_BadKind_init) "BadKind.__init__" = true)
    (c_is_name : PySem.W.codeIn K cd_is_name "is_name" = true)
    (k_is_name : PySem.W.keepIn K (.ref a_is_name) = true)
    (c_first_bad_name : PySem.W.codeIn K cd_first_bad_name "first_bad_name" = true)
    (k_first_bad_name : PySem.W.keepIn K (.ref a_first_bad_name) = true)
    (c_first_stray : PySem.W.codeIn K cd_first_stray "first_stray" = true)
    (k_first_stray : PySem.W.keepIn K (.ref a_first_stray) = true)
    (c_check_columns : PySem.W.codeIn K cd_check_columns "check_columns" = true)
    (k_check_columns : PySem.W.keepIn K (.ref a_check_columns) = true)
    (c_check_rows : PySem.W.codeIn K cd_check_rows "_check_rows" = true)
    (k_check_rows : PySem.W.keepIn K (.ref a_check_rows) = true)
    (c_Table_in_order : PySem.W.codeIn K cd_Table_in_order "Table._in_order" = true)
    (k_Table_in_order : PySem.W.keepIn K (.ref a_Table_in_order) = true)
    (c_Table_init : PySem.W.codeIn K cd_Table_init "Table.__init__" = true)
    (k_Table_init : PySem.W.keepIn K (.ref a_Table_init) = true)
    (lt_Table_init : K.lookup TD_Table_init = some ⟨.type "tuple", to_Table_init, .seq #[.ref e_Table_init] tn_Table_init, ts_Table_init⟩)
    (c_mask_of : PySem.W.codeIn K cd_mask_of "mask_of" = true)
    (k_mask_of : PySem.W.keepIn K (.ref a_mask_of) = true)
    (c_seen : PySem.W.codeIn K cd_seen "_seen" = true)
    (k_seen : PySem.W.keepIn K (.ref a_seen) = true)
    (c_fits : PySem.W.codeIn K cd_fits "_fits" = true)
    (k_fits : PySem.W.keepIn K (.ref a_fits) = true)
    (c_extended : PySem.W.codeIn K cd_extended "_extended" = true)
    (k_extended : PySem.W.keepIn K (.ref a_extended) = true)
    (c_sizes : PySem.W.codeIn K cd_sizes "_sizes" = true)
    (k_sizes : PySem.W.keepIn K (.ref a_sizes) = true)
    (c_matching : PySem.W.codeIn K cd_matching "matching" = true)
    (k_matching : PySem.W.keepIn K (.ref a_matching) = true)
    (c_standard_width : PySem.W.codeIn K cd_standard_width "standard_width" = true)
    (k_standard_width : PySem.W.keepIn K (.ref a_standard_width) = true)
    (c_standard_rows : PySem.W.codeIn K cd_standard_rows "standard_rows" = true)
    (k_standard_rows : PySem.W.keepIn K (.ref a_standard_rows) = true)
    (c_Pattern_init : PySem.W.codeIn K cd_Pattern_init "Pattern.__init__" = true)
    (k_Pattern_init : PySem.W.keepIn K (.ref a_Pattern_init) = true)
    (c_matched : PySem.W.codeIn K cd_matched "_matched" = true)
    (k_matched : PySem.W.keepIn K (.ref a_matched) = true)
    (c_recognized : PySem.W.codeIn K cd_recognized "recognized" = true)
    (k_recognized : PySem.W.keepIn K (.ref a_recognized) = true)
    (c_law_cell : PySem.W.codeIn K cd_law_cell "_law_cell" = true)
    (k_law_cell : PySem.W.keepIn K (.ref a_law_cell) = true)
    (c_law_pool : PySem.W.codeIn K cd_law_pool "_law_pool" = true)
    (k_law_pool : PySem.W.keepIn K (.ref a_law_pool) = true)
    (c_law_names : PySem.W.codeIn K cd_law_names "_law_names" = true)
    (k_law_names : PySem.W.keepIn K (.ref a_law_names) = true)
    (c_law_order : PySem.W.codeIn K cd_law_order "_law_order" = true)
    (k_law_order : PySem.W.keepIn K (.ref a_law_order) = true)
    (c_law_row : PySem.W.codeIn K cd_law_row "_law_row" = true)
    (k_law_row : PySem.W.keepIn K (.ref a_law_row) = true)
    (c_law_is_number : PySem.W.codeIn K cd_law_is_number "_law_is_number" = true)
    (k_law_is_number : PySem.W.keepIn K (.ref a_law_is_number) = true)
    (c_law_standard : PySem.W.codeIn K cd_law_standard "_law_standard" = true)
    (k_law_standard : PySem.W.keepIn K (.ref a_law_standard) = true)
    (c_law_width : PySem.W.codeIn K cd_law_width "_law_width" = true)
    (k_law_width : PySem.W.keepIn K (.ref a_law_width) = true)
    (c_law_is_pattern : PySem.W.codeIn K cd_law_is_pattern "_law_is_pattern" = true)
    (k_law_is_pattern : PySem.W.keepIn K (.ref a_law_is_pattern) = true)
    (c_law_mixed : PySem.W.codeIn K cd_law_mixed "_law_mixed" = true)
    (k_law_mixed : PySem.W.keepIn K (.ref a_law_mixed) = true)
    (c_law_recognized : PySem.W.codeIn K cd_law_recognized "_law_recognized" = true)
    (k_law_recognized : PySem.W.keepIn K (.ref a_law_recognized) = true)
    (c_law_turned : PySem.W.codeIn K cd_law_turned "_law_turned" = true)
    (k_law_turned : PySem.W.keepIn K (.ref a_law_turned) = true)
    (c_law : PySem.W.codeIn K cd_law "law" = true)
    (k_law : PySem.W.keepIn K (.ref a_law) = true)
    (pgcl_Table : PySem.W.plainGet K C_Table Str.empty = true)
    (hdcl_Table : PySem.W.hasDictIn K C_Table = true)
    (pocl_Table : PySem.W.plainOver K C_Table = true)
    (sacl_Table : PySem.W.findIn K (.ref C_Table) "__setattr__" = some (some (.builtin "object.__setattr__")))
    (xsf_Table : PySem.W.selfFirst K C_Table = true)
    (kmk_Table : PySem.W.makesIn K C_Table = true)
    (kkmk_Table : PySem.W.keepIn K (.ref C_Table) = true)
    (xc1_Table : PySem.W.findIn K (.ref C_Table) "__class__" = some (some (.builtin "object.__class__")))
    (xc3_Table : PySem.W.mroIn K C_Table (.type "object") = some true)
    (xn_Table_columns : PySem.W.findIn K (.ref C_Table) "columns" = some none)
    (xn_Table_rows : PySem.W.findIn K (.ref C_Table) "rows" = some none)
    (pgcl_Pattern : PySem.W.plainGet K C_Pattern Str.empty = true)
    (hdcl_Pattern : PySem.W.hasDictIn K C_Pattern = true)
    (pocl_Pattern : PySem.W.plainOver K C_Pattern = true)
    (sacl_Pattern : PySem.W.findIn K (.ref C_Pattern) "__setattr__" = some (some (.builtin "object.__setattr__")))
    (xsf_Pattern : PySem.W.selfFirst K C_Pattern = true)
    (kmk_Pattern : PySem.W.makesIn K C_Pattern = true)
    (kkmk_Pattern : PySem.W.keepIn K (.ref C_Pattern) = true)
    (xc1_Pattern : PySem.W.findIn K (.ref C_Pattern) "__class__" = some (some (.builtin "object.__class__")))
    (xc3_Pattern : PySem.W.mroIn K C_Pattern (.type "object") = some true)
    (xn_Pattern_kind : PySem.W.findIn K (.ref C_Pattern) "kind" = some none)
    (xn_Pattern_size : PySem.W.findIn K (.ref C_Pattern) "size" = some none)
    (xn_Pattern_rows : PySem.W.findIn K (.ref C_Pattern) "rows" = some none)
    (xn_Pattern_columns : PySem.W.findIn K (.ref C_Pattern) "columns" = some none)
    (xc2 : PySem.W.specialIn K (.builtin "object.__class__") "__get__" = some (some (.builtin "getset_descriptor.__get__")))
    (xc4 : PySem.W.takesIn K (.builtin "object.__class__") = some true)
    (xtp_BadKind : PySem.W.typeIn K (.ref C_BadKind) = some (.type "type"))
    (xic_BadKind : PySem.W.isClsIn K C_BadKind = true)
    (g1SC_BadKind : PySem.W.clsIn K C_BadKind = some cd_BadKind)
    (g2SC_BadKind : PySem.W.mroIn K C_BadKind (.ref C_BadKind) = some true)
    (ksSC_BadKind : PySem.W.ks_superIn K C_BadKind C_BadKind "__init__" = some (some (.builtin "ValueError.__init__")))
    (g4SC_BadKind : PySem.W.nsIn K PySem.cStatics "thirdparty.any" = some none)
    (g5SC_BadKind : PySem.W.nsIn K mainGlobals "super" = some none)
    (rfSC_BadKind : (l.prog.main.scope.names.lookup ("super" : Str)).isSome = false)
    (kxSC_BadKind : PySem.W.excInitIn K C_BadKind [.type "ValueError", .type "Exception", .type "BaseException", .type "object"] "ValueError.__new__" = true)
    (g6SC_BadKind : PySem.W.findIn K (.ref C_BadKind) "__setattr__" = some (some (.builtin "object.__setattr__")))
    (rv_BadKind_init : vs_BadKind_init[2]? = some (.str fl_BadKind_init tf_BadKind_init))
    (rg_BadKind_init : ((l.prog.main.file : Str) == fl_BadKind_init) = true)
    (xti_BadKind : PySem.W.typeIn K (.ref a_BadKind_init) = some (.type "function"))
    (xxn_BadKind_kind : PySem.W.findIn K (.ref C_BadKind) "kind" = some none)
    (xxn_BadKind_size : PySem.W.findIn K (.ref C_BadKind) "size" = some none)
    (xk_BadKind : PySem.W.keepIn K (.ref C_BadKind) = true)
    (xbp_BadKind : PySem.W.subIn K (.ref C_BadKind) (.type "BaseException") = some true)
    (xsv_BadKind : PySem.W.subIn K (.ref C_BadKind) (.type "ValueError") = some true)
    (xss_BadKind : PySem.W.subIn K (.ref C_BadKind) (.ref C_BadKind) = some true)
    (xe1_BadKind : PySem.W.findIn K (.ref C_BadKind) "__getattribute__" = some (some (.builtin "BaseException.__getattribute__")))
    (xe2_BadKind : PySem.W.findIn K (.ref C_BadKind) "__getattr__" = some none)
    (xe3_BadKind : PySem.W.hasDictIn K C_BadKind = true)
    (xe4_BadKind : PySem.W.findIn K (.ref C_BadKind) "__class__" = some (some (.builtin "object.__class__")))
    (xe5_BadKind : PySem.W.mroIn K C_BadKind (.type "object") = some true)
    (r1cr_Table : PySem.W.readsIn K C_Table (.type "type") = true)
    (r2cr_Table : PySem.W.specialIn K (.ref C_Table) "__getattribute__" = some (some (.builtin "type.__getattribute__")))
    (xcv_Table_MOST_COLUMNS : PySem.W.findCls K (.ref C_Table) (.type "type") "MOST_COLUMNS" = some (.val (.int 12 tk_Table_MOST_COLUMNS)))
    (xcv_Table_MOST_ROWS : PySem.W.findCls K (.ref C_Table) (.type "type") "MOST_ROWS" = some (.val (.int 48 tk_Table_MOST_ROWS)))
    (xn_abs : PySem.W.nsIn K mainGlobals "abs" = some none)
    (xn_int : PySem.W.nsIn K mainGlobals "int" = some none)
    (xn_isinstance : PySem.W.nsIn K mainGlobals "isinstance" = some none)
    (xn_range : PySem.W.nsIn K mainGlobals "range" = some none)
    (xn_len : PySem.W.nsIn K mainGlobals "len" = some none)
    (xn_str : PySem.W.nsIn K mainGlobals "str" = some none)
    (xn_tuple : PySem.W.nsIn K mainGlobals "tuple" = some none)
    (xn_list : PySem.W.nsIn K mainGlobals "list" = some none)
    (xn_ValueError : PySem.W.nsIn K mainGlobals "ValueError" = some none)
    (xn_all : PySem.W.nsIn K mainGlobals "all" = some none)
    (xn_min : PySem.W.nsIn K mainGlobals "min" = some none)
    (xn_max : PySem.W.nsIn K mainGlobals "max" = some none)
    (xn_enumerate : PySem.W.nsIn K mainGlobals "enumerate" = some none)
    (xn_bool : PySem.W.nsIn K mainGlobals "bool" = some none)
    (xn_sum : PySem.W.nsIn K mainGlobals "sum" = some none)
    (xn_sorted : PySem.W.nsIn K mainGlobals "sorted" = some none)
    (lw_MORE_COLUMNS : (e_MORE_COLUMNS == sysModules) = false)
    (lw_FIXED_COLUMNS : (e_FIXED_COLUMNS == sysModules) = false)
    (lw_FIXED_ROWS : (e_FIXED_ROWS == sysModules) = false)
    (wz_w4 : wi_w4.size ≤ sizeLine)
    (wz_w5 : wi_w5.size ≤ sizeLine)
    (wz_w40 : wi_w40.size ≤ sizeLine)
    (wz_w41 : wi_w41.size ≤ sizeLine)
    (wz_w42 : wi_w42.size ≤ sizeLine)
    (wz_w43 : wi_w43.size ≤ sizeLine)
    (wz_w50 : wi_w50.size ≤ sizeLine)
    (wz_w51 : wi_w51.size ≤ sizeLine)
    (wz_w52 : wi_w52.size ≤ sizeLine)
    (wz_w53 : wi_w53.size ≤ sizeLine)
    (wz_KINDS : wi_KINDS.size ≤ sizeLine)
    : ∃ fd : FuncData, (∀ (s : Shared) (v : Value), BindsTo s fd ⟨[v], []⟩ [("script", v)]) ∧ ∀ base : Heap, K.In base → base.Ns mainGlobals mg → FnOk l.prog w K mg base CX0 22 fa fd ["script"] (spLaw K) := by
  have e := hfa.symm.trans (PySem.W.mg_of X G xmg_law)
  cases e
  have T : Txt l.prog K mg ⟨C_Table, C_Pattern, C_BadKind, a_BadKind_init, _, a_is_name, _, a_first_bad_name, _, a_first_stray, _, a_check_columns, _, a_check_rows, _, a_Table_in_order, _, a_Table_init, _, a_mask_of, _, a_seen, _, a_fits, _, a_extended, _, a_sizes, _, a_matching, _, a_standard_width, _, a_standard_rows, _, a_Pattern_init, _, a_matched, _, a_recognized, _, a_law_cell, _, a_law_pool, _, a_law_names, _, a_law_order, _, a_law_row, _, a_law_is_number, _, a_law_standard, _, a_law_width, _, a_law_is_pattern, _, a_law_mixed, _, a_law_recognized, _, a_law_turned, _, fa, _, e_Table_init, e_MORE_COLUMNS, e_FIXED_COLUMNS, e_FIXED_ROWS, e_w4, e_w5, e_w40, e_w41, e_w42, e_w43, e_w50, e_w51, e_w52, e_w53, e_KINDS⟩ := {
    mg_Table := PySem.W.mg_of X G xmg_Table
    cl_Table := ⟨pgcl_Table, hdcl_Table, pocl_Table, sacl_Table⟩
    sf_Table := xsf_Table
    mk_Table := ⟨kmk_Table, am_Table_init, if_Table_init, kkmk_Table⟩
    c1_Table := xc1_Table
    c3_Table := xc3_Table
    n_Table_columns := xn_Table_columns
    n_Table_rows := xn_Table_rows
    mg_Pattern := PySem.W.mg_of X G xmg_Pattern
    cl_Pattern := ⟨pgcl_Pattern, hdcl_Pattern, pocl_Pattern, sacl_Pattern⟩
    sf_Pattern := xsf_Pattern
    mk_Pattern := ⟨kmk_Pattern, am_Pattern_init, if_Pattern_init, kkmk_Pattern⟩
    c1_Pattern := xc1_Pattern
    c3_Pattern := xc3_Pattern
    n_Pattern_kind := xn_Pattern_kind
    n_Pattern_size := xn_Pattern_size
    n_Pattern_rows := xn_Pattern_rows
    n_Pattern_columns := xn_Pattern_columns
    c2 := xc2
    c4 := xc4
    mg_BadKind := PySem.W.mg_of X G xmg_BadKind
    tp_BadKind := xtp_BadKind
    ic_BadKind := xic_BadKind
    SC_BadKind := ⟨⟨_, g1SC_BadKind⟩, g2SC_BadKind, ksSC_BadKind, g4SC_BadKind, xsv_BadKind, PySem.W.mg_none_of X G g5SC_BadKind, rfSC_BadKind, oex_of kxSC_BadKind xe3_BadKind g6SC_BadKind xbp_BadKind xtp_BadKind xk_BadKind⟩
    SF_BadKind := ⟨⟨_, _, _, _, _, _, _, _, _, _, rfl, l_BadKind_init, c_BadKind_init, ⟨_, _, _, _, _, _, lx_BadKind_init, rv_BadKind_init, rg_BadKind_init⟩, _, _, _, lq_BadKind_init⟩⟩
    ii_BadKind := am_BadKind_init
    ti_BadKind := xti_BadKind
    b_BadKind_init := fun s us _ hl => by rw [List.append_nil] at hl ⊢; exact .of_eq (match us, hl with | [_, _, _], _ => rfl)
    xn_BadKind_kind := xxn_BadKind_kind
    xn_BadKind_size := xxn_BadKind_size
    xf_BadKind := ⟨xe1_BadKind, xe2_BadKind, xbp_BadKind, xe3_BadKind⟩
    ec_BadKind := ⟨xe1_BadKind, xe2_BadKind, xbp_BadKind, xe3_BadKind, xe4_BadKind, xc2, xc4, xe5_BadKind⟩
    k_BadKind := xk_BadKind
    bp_BadKind := xbp_BadKind
    sv_BadKind := xsv_BadKind
    ss_BadKind := xss_BadKind
    e1_BadKind := xe1_BadKind
    e2_BadKind := xe2_BadKind
    e3_BadKind := xe3_BadKind
    e4_BadKind := xe4_BadKind
    e5_BadKind := xe5_BadKind
    mg_LONGEST_NAME := ⟨_, PySem.W.mg_of X G xmg_LONGEST_NAME⟩
    cr_Table := ⟨r1cr_Table, r2cr_Table⟩
    cv_Table_MOST_COLUMNS := ⟨_, ⟨xcv_Table_MOST_COLUMNS, ⟨_, rfl⟩⟩⟩
    cv_Table_MOST_ROWS := ⟨_, ⟨xcv_Table_MOST_ROWS, ⟨_, rfl⟩⟩⟩
    n_abs := PySem.W.mg_none_of X G xn_abs
    n_int := PySem.W.mg_none_of X G xn_int
    n_isinstance := PySem.W.mg_none_of X G xn_isinstance
    n_range := PySem.W.mg_none_of X G xn_range
    n_len := PySem.W.mg_none_of X G xn_len
    n_str := PySem.W.mg_none_of X G xn_str
    n_tuple := PySem.W.mg_none_of X G xn_tuple
    n_list := PySem.W.mg_none_of X G xn_list
    n_ValueError := PySem.W.mg_none_of X G xn_ValueError
    n_all := PySem.W.mg_none_of X G xn_all
    n_min := PySem.W.mg_none_of X G xn_min
    n_max := PySem.W.mg_none_of X G xn_max
    n_enumerate := PySem.W.mg_none_of X G xn_enumerate
    n_bool := PySem.W.mg_none_of X G xn_bool
    n_sum := PySem.W.mg_none_of X G xn_sum
    n_sorted := PySem.W.mg_none_of X G xn_sorted
    mg_MORE_COLUMNS := PySem.W.mg_of X G xmg_MORE_COLUMNS
    id_MORE_COLUMNS := ⟨lw_MORE_COLUMNS, _, _, l_MORE_COLUMNS, ki_MORE_COLUMNS⟩
    mg_FIXED_COLUMNS := PySem.W.mg_of X G xmg_FIXED_COLUMNS
    id_FIXED_COLUMNS := ⟨lw_FIXED_COLUMNS, _, _, l_FIXED_COLUMNS, ki_FIXED_COLUMNS⟩
    mg_FIXED_ROWS := PySem.W.mg_of X G xmg_FIXED_ROWS
    id_FIXED_ROWS := ⟨lw_FIXED_ROWS, _, _, l_FIXED_ROWS, ki_FIXED_ROWS⟩
    mg_KINDS := PySem.W.mg_of X G xmg_KINDS
    wt_w4 := ⟨_, _, _, _, wl_w4, wz_w4, wv_w4⟩
    wt_w5 := ⟨_, _, _, _, wl_w5, wz_w5, wv_w5⟩
    wt_w40 := ⟨_, _, _, _, wl_w40, wz_w40, wv_w40⟩
    wt_w41 := ⟨_, _, _, _, wl_w41, wz_w41, wv_w41⟩
    wt_w42 := ⟨_, _, _, _, wl_w42, wz_w42, wv_w42⟩
    wt_w43 := ⟨_, _, _, _, wl_w43, wz_w43, wv_w43⟩
    wt_w50 := ⟨_, _, _, _, wl_w50, wz_w50, wv_w50⟩
    wt_w51 := ⟨_, _, _, _, wl_w51, wz_w51, wv_w51⟩
    wt_w52 := ⟨_, _, _, _, wl_w52, wz_w52, wv_w52⟩
    wt_w53 := ⟨_, _, _, _, wl_w53, wz_w53, wv_w53⟩
    wt_KINDS := ⟨_, _, _, _, wl_KINDS, wz_KINDS, wv_KINDS⟩
    F_is_name := fun_mk (st := s_is_name) l_is_name c_is_name k_is_name
    b_is_name := (fun_mk (st := s_is_name) l_is_name c_is_name k_is_name).binds fun _ _ _ _ _ _ us hl => match us, hl with | [_], _ => rfl
    mg_is_name := PySem.W.mg_of X G xmg_is_name
    F_first_bad_name := fun_mk (st := s_first_bad_name) l_first_bad_name c_first_bad_name k_first_bad_name
    b_first_bad_name := (fun_mk (st := s_first_bad_name) l_first_bad_name c_first_bad_name k_first_bad_name).binds fun _ _ _ _ _ _ us hl => match us, hl with | [_], _ => rfl
    mg_first_bad_name := PySem.W.mg_of X G xmg_first_bad_name
    F_first_stray := fun_mk (st := s_first_stray) l_first_stray c_first_stray k_first_stray
    b_first_stray := (fun_mk (st := s_first_stray) l_first_stray c_first_stray k_first_stray).binds fun _ _ _ _ _ _ us hl => match us, hl with | [_, _], _ => rfl
    mg_first_stray := PySem.W.mg_of X G xmg_first_stray
    F_check_columns := fun_mk (st := s_check_columns) l_check_columns c_check_columns k_check_columns
    b_check_columns := (fun_mk (st := s_check_columns) l_check_columns c_check_columns k_check_columns).binds fun _ _ _ _ _ _ us hl => match us, hl with | [_], _ => rfl
    mg_check_columns := PySem.W.mg_of X G xmg_check_columns
    F_check_rows := fun_mk (st := s_check_rows) l_check_rows c_check_rows k_check_rows
    b_check_rows := (fun_mk (st := s_check_rows) l_check_rows c_check_rows k_check_rows).binds fun _ _ _ _ _ _ us hl => match us, hl with | [_, _], _ => rfl
    mg_check_rows := PySem.W.mg_of X G xmg_check_rows
    F_Table_in_order := fun_mk (st := s_Table_in_order) l_Table_in_order c_Table_in_order k_Table_in_order
    b_Table_in_order := (fun_mk (st := s_Table_in_order) l_Table_in_order c_Table_in_order k_Table_in_order).binds fun _ _ _ _ _ _ us hl => match us, hl with | [_, _], _ => rfl
    m_Table_in_order := ⟨am_Table_in_order, if_Table_in_order, k_Table_in_order⟩
    F_Table_init := ⟨⟨_, _, _, _, _, _, _, _, _, _, rfl, l_Table_init, c_Table_init, .inr ⟨by simp, TD_Table_init, _, [.ref e_Table_init], _, rfl, lt_Table_init, rfl, .cons rfl .nil⟩, .inl rfl⟩, k_Table_init⟩
    m_Table_init := ⟨am_Table_init, if_Table_init, k_Table_init⟩
    F_mask_of := fun_mk (st := s_mask_of) l_mask_of c_mask_of k_mask_of
    b_mask_of := (fun_mk (st := s_mask_of) l_mask_of c_mask_of k_mask_of).binds fun _ _ _ _ _ _ us hl => match us, hl with | [_, _], _ => rfl
    mg_mask_of := PySem.W.mg_of X G xmg_mask_of
    F_seen := fun_mk (st := s_seen) l_seen c_seen k_seen
    b_seen := (fun_mk (st := s_seen) l_seen c_seen k_seen).binds fun _ _ _ _ _ _ us hl => match us, hl with | [_, _], _ => rfl
    mg_seen := PySem.W.mg_of X G xmg_seen
    F_fits := fun_mk (st := s_fits) l_fits c_fits k_fits
    b_fits := (fun_mk (st := s_fits) l_fits c_fits k_fits).binds fun _ _ _ _ _ _ us hl => match us, hl with | [_, _, _], _ => rfl
    mg_fits := PySem.W.mg_of X G xmg_fits
    F_extended := fun_mk (st := s_extended) l_extended c_extended k_extended
    b_extended := (fun_mk (st := s_extended) l_extended c_extended k_extended).binds fun _ _ _ _ _ _ us hl => match us, hl with | [_, _, _, _], _ => rfl
    mg_extended := PySem.W.mg_of X G xmg_extended
    F_sizes := fun_mk (st := s_sizes) l_sizes c_sizes k_sizes
    b_sizes := (fun_mk (st := s_sizes) l_sizes c_sizes k_sizes).binds fun _ _ _ _ _ _ us hl => match us, hl with | [_, _], _ => rfl
    mg_sizes := PySem.W.mg_of X G xmg_sizes
    F_matching := fun_mk (st := s_matching) l_matching c_matching k_matching
    b_matching := (fun_mk (st := s_matching) l_matching c_matching k_matching).binds fun _ _ _ _ _ _ us hl => match us, hl with | [_, _, _], _ => rfl
    mg_matching := PySem.W.mg_of X G xmg_matching
    F_standard_width := fun_mk (st := s_standard_width) l_standard_width c_standard_width k_standard_width
    b_standard_width := (fun_mk (st := s_standard_width) l_standard_width c_standard_width k_standard_width).binds fun _ _ _ _ _ _ us hl => match us, hl with | [_, _], _ => rfl
    mg_standard_width := PySem.W.mg_of X G xmg_standard_width
    F_standard_rows := fun_mk (st := s_standard_rows) l_standard_rows c_standard_rows k_standard_rows
    b_standard_rows := (fun_mk (st := s_standard_rows) l_standard_rows c_standard_rows k_standard_rows).binds fun _ _ _ _ _ _ us hl => match us, hl with | [_, _], _ => rfl
    mg_standard_rows := PySem.W.mg_of X G xmg_standard_rows
    F_Pattern_init := fun_mk (st := s_Pattern_init) l_Pattern_init c_Pattern_init k_Pattern_init
    b_Pattern_init := (fun_mk (st := s_Pattern_init) l_Pattern_init c_Pattern_init k_Pattern_init).binds fun _ _ _ _ _ _ us hl => match us, hl with | [_, _, _, _, _], _ => rfl
    m_Pattern_init := ⟨am_Pattern_init, if_Pattern_init, k_Pattern_init⟩
    F_matched := fun_mk (st := s_matched) l_matched c_matched k_matched
    b_matched := (fun_mk (st := s_matched) l_matched c_matched k_matched).binds fun _ _ _ _ _ _ us hl => match us, hl with | [_, _, _, _], _ => rfl
    mg_matched := PySem.W.mg_of X G xmg_matched
    F_recognized := fun_mk (st := s_recognized) l_recognized c_recognized k_recognized
    b_recognized := (fun_mk (st := s_recognized) l_recognized c_recognized k_recognized).binds fun _ _ _ _ _ _ us hl => match us, hl with | [_], _ => rfl
    mg_recognized := PySem.W.mg_of X G xmg_recognized
    F_law_cell := fun_mk (st := s_law_cell) l_law_cell c_law_cell k_law_cell
    b_law_cell := (fun_mk (st := s_law_cell) l_law_cell c_law_cell k_law_cell).binds fun _ _ _ _ _ _ us hl => match us, hl with | [_, _], _ => rfl
    mg_law_cell := PySem.W.mg_of X G xmg_law_cell
    F_law_pool := fun_mk (st := s_law_pool) l_law_pool c_law_pool k_law_pool
    b_law_pool := (fun_mk (st := s_law_pool) l_law_pool c_law_pool k_law_pool).binds fun _ _ _ _ _ _ us hl => match us, hl with | [_, _, _], _ => rfl
    mg_law_pool := PySem.W.mg_of X G xmg_law_pool
    F_law_names := fun_mk (st := s_law_names) l_law_names c_law_names k_law_names
    b_law_names := (fun_mk (st := s_law_names) l_law_names c_law_names k_law_names).binds fun _ _ _ _ _ _ us hl => match us, hl with | [_, _], _ => rfl
    mg_law_names := PySem.W.mg_of X G xmg_law_names
    F_law_order := fun_mk (st := s_law_order) l_law_order c_law_order k_law_order
    b_law_order := (fun_mk (st := s_law_order) l_law_order c_law_order k_law_order).binds fun _ _ _ _ _ _ us hl => match us, hl with | [_, _, _], _ => rfl
    mg_law_order := PySem.W.mg_of X G xmg_law_order
    F_law_row := fun_mk (st := s_law_row) l_law_row c_law_row k_law_row
    b_law_row := (fun_mk (st := s_law_row) l_law_row c_law_row k_law_row).binds fun _ _ _ _ _ _ us hl => match us, hl with | [_, _, _, _], _ => rfl
    mg_law_row := PySem.W.mg_of X G xmg_law_row
    F_law_is_number := fun_mk (st := s_law_is_number) l_law_is_number c_law_is_number k_law_is_number
    b_law_is_number := (fun_mk (st := s_law_is_number) l_law_is_number c_law_is_number k_law_is_number).binds fun _ _ _ _ _ _ us hl => match us, hl with | [_, _, _], _ => rfl
    mg_law_is_number := PySem.W.mg_of X G xmg_law_is_number
    F_law_standard := fun_mk (st := s_law_standard) l_law_standard c_law_standard k_law_standard
    b_law_standard := (fun_mk (st := s_law_standard) l_law_standard c_law_standard k_law_standard).binds fun _ _ _ _ _ _ us hl => match us, hl with | [_, _], _ => rfl
    mg_law_standard := PySem.W.mg_of X G xmg_law_standard
    F_law_width := fun_mk (st := s_law_width) l_law_width c_law_width k_law_width
    b_law_width := (fun_mk (st := s_law_width) l_law_width c_law_width k_law_width).binds fun _ _ _ _ _ _ us hl => match us, hl with | [_, _], _ => rfl
    mg_law_width := PySem.W.mg_of X G xmg_law_width
    F_law_is_pattern := fun_mk (st := s_law_is_pattern) l_law_is_pattern c_law_is_pattern k_law_is_pattern
    b_law_is_pattern := (fun_mk (st := s_law_is_pattern) l_law_is_pattern c_law_is_pattern k_law_is_pattern).binds fun _ _ _ _ _ _ us hl => match us, hl with | [_, _, _], _ => rfl
    mg_law_is_pattern := PySem.W.mg_of X G xmg_law_is_pattern
    F_law_mixed := fun_mk (st := s_law_mixed) l_law_mixed c_law_mixed k_law_mixed
    b_law_mixed := (fun_mk (st := s_law_mixed) l_law_mixed c_law_mixed k_law_mixed).binds fun _ _ _ _ _ _ us hl => match us, hl with | [_, _, _, _], _ => rfl
    mg_law_mixed := PySem.W.mg_of X G xmg_law_mixed
    F_law_recognized := fun_mk (st := s_law_recognized) l_law_recognized c_law_recognized k_law_recognized
    b_law_recognized := (fun_mk (st := s_law_recognized) l_law_recognized c_law_recognized k_law_recognized).binds fun _ _ _ _ _ _ us hl => match us, hl with | [_, _], _ => rfl
    mg_law_recognized := PySem.W.mg_of X G xmg_law_recognized
    F_law_turned := fun_mk (st := s_law_turned) l_law_turned c_law_turned k_law_turned
    b_law_turned := (fun_mk (st := s_law_turned) l_law_turned c_law_turned k_law_turned).binds fun _ _ _ _ _ _ us hl => match us, hl with | [_, _, _], _ => rfl
    mg_law_turned := PySem.W.mg_of X G xmg_law_turned
    F_law := fun_mk (st := s_law) l_law c_law k_law
    b_law := (fun_mk (st := s_law) l_law c_law k_law).binds fun _ _ _ _ _ _ us hl => match us, hl with | [_], _ => rfl
    mg_law := PySem.W.mg_of X G xmg_law
  }
  exact ⟨_, fun s v => .of_eq rfl, fun base _ _ => ok_law T⟩
theorem walk {l : PySem.W.OpenLaw} {q : Program} {loose : List Str} {XP : (Str → Option Value) → Heap → Prop} {YP : World → Heap → Prop} {d : DefRec} {K : Params → PySem.W.Frag} (hn : l.most = some 63) (hdf : d.params.defaults = [])
    (hY : ∀ (w : World) (h : Heap), YP w h → (K w.params).In h)
    (F : ∀ (w : World) (mg : Str → Option Value) (fa : Addr) (h : Heap), (K w.params).In h → h.Ns mainGlobals mg → mg d.name = some (.ref fa) →
      ∃ fd : FuncData, (∀ (s : Shared) (u : Value), BindsTo s fd ⟨[u], []⟩ [("script", u)]) ∧ ∀ base : Heap, (K w.params).In base → base.Ns mainGlobals mg → FnOk l.prog w (K w.params) mg base CX0 22 fa fd ["script"] (spLaw (K w.params))) :
    PySem.W.WalkO q loose XP YP l.row.toRowW d [] (fun f vs => PySem.call f vs) :=
  L2.walk_of (n := 63) (k := 22) (x := "script") (CX := fun _ => CX0) (sp := fun w => spLaw (K w.params)) hn (by decide) hdf ⟨rfl, by decide, by decide⟩ hY F (fun _ _ a ns hl _ hS => ⟨a, ns, rfl, hS, hl, fun _ => rfl⟩) fun _ _ _ _ _ z => z
end My
open PySem PySem.W PyProof.Rows
set_option maxRecDepth 100000 in
set_option maxHeartbeats 0 in
theorem PySem.Challenge.cw_unbrokenrows_k30_recognized_tables_holds : PySem.Challenge.rw_unbrokenrows_k30_recognized_tables.Holds := by
  w_on; o_law; k_head; (case hw => w_witness2)
  k_fill
  refine My.walk (l := PySem.Challenge.rw_unbrokenrows_k30_recognized_tables) rfl rfl (fun w h Y => PySem.W.kIn_of Y) ?F
  case F =>
    intro w mg fa h KX G hmg
    refine' My.all_mk KX G hmg ?xmg_Table ?xmg_Pattern ?xmg_BadKind ?am_BadKind_init ?xmg_LONGEST_NAME ?xmg_MORE_COLUMNS ?xmg_FIXED_COLUMNS ?xmg_FIXED_ROWS ?xmg_KINDS ?xmg_is_name ?xmg_first_bad_name ?xmg_first_stray ?xmg_check_columns ?xmg_check_rows ?am_Table_in_order ?am_Table_init ?xmg_mask_of ?xmg_seen ?xmg_fits ?xmg_extended ?xmg_sizes ?xmg_matching ?xmg_standard_width ?xmg_standard_rows ?am_Pattern_init ?xmg_matched ?xmg_recognized ?xmg_law_cell ?xmg_law_pool ?xmg_law_names ?xmg_law_order ?xmg_law_row ?xmg_law_is_number ?xmg_law_standard ?xmg_law_width ?xmg_law_is_pattern ?xmg_law_mixed ?xmg_law_recognized ?xmg_law_turned ?xmg_law ?if_Table_in_order ?if_Table_init ?if_Pattern_init ?l_BadKind_init ?l_MORE_COLUMNS ?l_FIXED_COLUMNS ?l_FIXED_ROWS ?l_is_name ?l_first_bad_name ?l_first_stray ?l_check_columns ?l_check_rows ?l_Table_in_order ?l_Table_init ?l_mask_of ?l_seen ?l_fits ?l_extended ?l_sizes ?l_matching ?l_standard_width ?l_standard_rows ?l_Pattern_init ?l_matched ?l_recognized ?l_law_cell ?l_law_pool ?l_law_names ?l_law_order ?l_law_row ?l_law_is_number ?l_law_standard ?l_law_width ?l_law_is_pattern ?l_law_mixed ?l_law_recognized ?l_law_turned ?l_law ?lx_BadKind_init ?lq_BadKind_init ?ki_MORE_COLUMNS ?ki_FIXED_COLUMNS ?ki_FIXED_ROWS ?wl_w4 ?wv_w4 ?wl_w5 ?wv_w5 ?wl_w40 ?wv_w40 ?wl_w41 ?wv_w41 ?wl_w42 ?wv_w42 ?wl_w43 ?wv_w43 ?wl_w50 ?wv_w50 ?wl_w51 ?wv_w51 ?wl_w52 ?wv_w52 ?wl_w53 ?wv_w53 ?wl_KINDS ?wv_KINDS ?c_BadKind_init ?c_is_name ?k_is_name ?c_first_bad_name ?k_first_bad_name ?c_first_stray ?k_first_stray ?c_check_columns ?k_check_columns ?c_check_rows ?k_check_rows ?c_Table_in_order ?k_Table_in_order ?c_Table_init ?k_Table_init ?lt_Table_init ?c_mask_of ?k_mask_of ?c_seen ?k_seen ?c_fits ?k_fits ?c_extended ?k_extended ?c_sizes ?k_sizes ?c_matching ?k_matching ?c_standard_width ?k_standard_width ?c_standard_rows ?k_standard_rows ?c_Pattern_init ?k_Pattern_init ?c_matched ?k_matched ?c_recognized ?k_recognized ?c_law_cell ?k_law_cell ?c_law_pool ?k_law_pool ?c_law_names ?k_law_names ?c_law_order ?k_law_order ?c_law_row ?k_law_row ?c_law_is_number ?k_law_is_number ?c_law_standard ?k_law_standard ?c_law_width ?k_law_width ?c_law_is_pattern ?k_law_is_pattern ?c_law_mixed ?k_law_mixed ?c_law_recognized ?k_law_recognized ?c_law_turned ?k_law_turned ?c_law ?k_law ?pgcl_Table ?hdcl_Table ?pocl_Table ?sacl_Table ?xsf_Table ?kmk_Table ?kkmk_Table ?xc1_Table ?xc3_Table ?xn_Table_columns ?xn_Table_rows ?pgcl_Pattern ?hdcl_Pattern ?pocl_Pattern ?sacl_Pattern ?xsf_Pattern ?kmk_Pattern ?kkmk_Pattern ?xc1_Pattern ?xc3_Pattern ?xn_Pattern_kind ?xn_Pattern_size ?xn_Pattern_rows ?xn_Pattern_columns ?xc2 ?xc4 ?xtp_BadKind ?xic_BadKind ?g1SC_BadKind ?g2SC_BadKind ?ksSC_BadKind ?g4SC_BadKind ?g5SC_BadKind ?rfSC_BadKind ?kxSC_BadKind ?g6SC_BadKind ?rv_BadKind_init ?rg_BadKind_init ?xti_BadKind ?xxn_BadKind_kind ?xxn_BadKind_size ?xk_BadKind ?xbp_BadKind ?xsv_BadKind ?xss_BadKind ?xe1_BadKind ?xe2_BadKind ?xe3_BadKind ?xe4_BadKind ?xe5_BadKind ?r1cr_Table ?r2cr_Table ?xcv_Table_MOST_COLUMNS ?xcv_Table_MOST_ROWS ?xn_abs ?xn_int ?xn_isinstance ?xn_range ?xn_len ?xn_str ?xn_tuple ?xn_list ?xn_ValueError ?xn_all ?xn_min ?xn_max ?xn_enumerate ?xn_bool ?xn_sum ?xn_sorted ?lw_MORE_COLUMNS ?lw_FIXED_COLUMNS ?lw_FIXED_ROWS ?wz_w4 ?wz_w5 ?wz_w40 ?wz_w41 ?wz_w42 ?wz_w43 ?wz_w50 ?wz_w51 ?wz_w52 ?wz_w53 ?wz_KINDS
    (case xmg_Table => k_is)
    (case xmg_Pattern => k_is)
    (case xmg_BadKind => k_is)
    (case am_BadKind_init => k_is)
    (case xmg_LONGEST_NAME => k_is)
    (case xmg_MORE_COLUMNS => k_is)
    (case xmg_FIXED_COLUMNS => k_is)
    (case xmg_FIXED_ROWS => k_is)
    (case xmg_KINDS => k_is)
    (case xmg_is_name => k_is)
    (case xmg_first_bad_name => k_is)
    (case xmg_first_stray => k_is)
    (case xmg_check_columns => k_is)
    (case xmg_check_rows => k_is)
    (case am_Table_in_order => k_is)
    (case am_Table_init => k_is)
    (case xmg_mask_of => k_is)
    (case xmg_seen => k_is)
    (case xmg_fits => k_is)
    (case xmg_extended => k_is)
    (case xmg_sizes => k_is)
    (case xmg_matching => k_is)
    (case xmg_standard_width => k_is)
    (case xmg_standard_rows => k_is)
    (case am_Pattern_init => k_is)
    (case xmg_matched => k_is)
    (case xmg_recognized => k_is)
    (case xmg_law_cell => k_is)
    (case xmg_law_pool => k_is)
    (case xmg_law_names => k_is)
    (case xmg_law_order => k_is)
    (case xmg_law_row => k_is)
    (case xmg_law_is_number => k_is)
    (case xmg_law_standard => k_is)
    (case xmg_law_width => k_is)
    (case xmg_law_is_pattern => k_is)
    (case xmg_law_mixed => k_is)
    (case xmg_law_recognized => k_is)
    (case xmg_law_turned => k_is)
    (case xmg_law => k_is)
    (case if_Table_in_order => k_is)
    (case if_Table_init => k_is)
    (case if_Pattern_init => k_is)
    (case l_BadKind_init => k_is)
    (case l_MORE_COLUMNS => k_is)
    (case l_FIXED_COLUMNS => k_is)
    (case l_FIXED_ROWS => k_is)
    (case l_is_name => k_is)
    (case l_first_bad_name => k_is)
    (case l_first_stray => k_is)
    (case l_check_columns => k_is)
    (case l_check_rows => k_is)
    (case l_Table_in_order => k_is)
    (case l_Table_init => k_is)
    (case l_mask_of => k_is)
    (case l_seen => k_is)
    (case l_fits => k_is)
    (case l_extended => k_is)
    (case l_sizes => k_is)
    (case l_matching => k_is)
    (case l_standard_width => k_is)
    (case l_standard_rows => k_is)
    (case l_Pattern_init => k_is)
    (case l_matched => k_is)
    (case l_recognized => k_is)
    (case l_law_cell => k_is)
    (case l_law_pool => k_is)
    (case l_law_names => k_is)
    (case l_law_order => k_is)
    (case l_law_row => k_is)
    (case l_law_is_number => k_is)
    (case l_law_standard => k_is)
    (case l_law_width => k_is)
    (case l_law_is_pattern => k_is)
    (case l_law_mixed => k_is)
    (case l_law_recognized => k_is)
    (case l_law_turned => k_is)
    (case l_law => k_is)
    (case lx_BadKind_init => k_is)
    (case lq_BadKind_init => k_is)
    (case ki_MORE_COLUMNS => exact ⟨⟨⟨_, rfl⟩, by first | rfl | decide +kernel, ⟨_, rfl⟩⟩, ⟨⟨⟨_, rfl⟩, by first | rfl | decide +kernel, ⟨_, rfl⟩⟩, ⟨⟨⟨_, rfl⟩, by first | rfl | decide +kernel, ⟨_, rfl⟩⟩, trivial⟩⟩⟩)
    (case ki_FIXED_COLUMNS => exact ⟨⟨⟨_, rfl⟩, by first | rfl | decide +kernel, ⟨_, rfl⟩⟩, ⟨⟨⟨_, rfl⟩, by first | rfl | decide +kernel, ⟨_, rfl⟩⟩, trivial⟩⟩)
    (case ki_FIXED_ROWS => exact ⟨⟨⟨_, rfl⟩, by first | rfl | decide +kernel, rfl⟩, ⟨⟨⟨_, rfl⟩, by first | rfl | decide +kernel, rfl⟩, trivial⟩⟩)
    (case wl_w4 => k_is)
    (case wv_w4 => exact .cons rfl (.cons rfl (.cons rfl (.cons rfl (.nil)))))
    (case wl_w5 => k_is)
    (case wv_w5 => exact .cons rfl (.cons rfl (.cons rfl (.cons rfl (.nil)))))
    (case wl_w40 => k_is)
    (case wv_w40 => exact .cons ⟨_, rfl⟩ (.cons ⟨_, rfl⟩ (.nil)))
    (case wl_w41 => k_is)
    (case wv_w41 => exact .cons ⟨_, rfl⟩ (.cons ⟨_, rfl⟩ (.nil)))
    (case wl_w42 => k_is)
    (case wv_w42 => exact .cons ⟨_, rfl⟩ (.cons ⟨_, rfl⟩ (.nil)))
    (case wl_w43 => k_is)
    (case wv_w43 => exact .cons ⟨_, rfl⟩ (.cons ⟨_, rfl⟩ (.cons ⟨_, rfl⟩ (.nil))))
    (case wl_w50 => k_is)
    (case wv_w50 => exact .cons ⟨_, rfl⟩ (.cons ⟨_, rfl⟩ (.nil)))
    (case wl_w51 => k_is)
    (case wv_w51 => exact .cons ⟨_, rfl⟩ (.cons ⟨_, rfl⟩ (.nil)))
    (case wl_w52 => k_is)
    (case wv_w52 => exact .cons ⟨_, rfl⟩ (.cons ⟨_, rfl⟩ (.cons ⟨_, rfl⟩ (.cons ⟨_, rfl⟩ (.nil)))))
    (case wl_w53 => k_is)
    (case wv_w53 => exact .cons ⟨_, rfl⟩ (.cons ⟨_, rfl⟩ (.cons ⟨_, rfl⟩ (.nil))))
    (case wl_KINDS => k_is)
    (case wv_KINDS => exact .cons ⟨_, rfl⟩ (.cons ⟨_, rfl⟩ (.cons ⟨_, rfl⟩ (.cons ⟨_, rfl⟩ (.cons ⟨_, rfl⟩ (.nil))))))
    (case c_BadKind_init => k_is)
    (case c_is_name => k_is)
    (case k_is_name => k_is)
    (case c_first_bad_name => k_is)
    (case k_first_bad_name => k_is)
    (case c_first_stray => k_is)
    (case k_first_stray => k_is)
    (case c_check_columns => k_is)
    (case k_check_columns => k_is)
    (case c_check_rows => k_is)
    (case k_check_rows => k_is)
    (case c_Table_in_order => k_is)
    (case k_Table_in_order => k_is)
    (case c_Table_init => k_is)
    (case k_Table_init => k_is)
    (case lt_Table_init => k_is)
    (case c_mask_of => k_is)
    (case k_mask_of => k_is)
    (case c_seen => k_is)
    (case k_seen => k_is)
    (case c_fits => k_is)
    (case k_fits => k_is)
    (case c_extended => k_is)
    (case k_extended => k_is)
    (case c_sizes => k_is)
    (case k_sizes => k_is)
    (case c_matching => k_is)
    (case k_matching => k_is)
    (case c_standard_width => k_is)
    (case k_standard_width => k_is)
    (case c_standard_rows => k_is)
    (case k_standard_rows => k_is)
    (case c_Pattern_init => k_is)
    (case k_Pattern_init => k_is)
    (case c_matched => k_is)
    (case k_matched => k_is)
    (case c_recognized => k_is)
    (case k_recognized => k_is)
    (case c_law_cell => k_is)
    (case k_law_cell => k_is)
    (case c_law_pool => k_is)
    (case k_law_pool => k_is)
    (case c_law_names => k_is)
    (case k_law_names => k_is)
    (case c_law_order => k_is)
    (case k_law_order => k_is)
    (case c_law_row => k_is)
    (case k_law_row => k_is)
    (case c_law_is_number => k_is)
    (case k_law_is_number => k_is)
    (case c_law_standard => k_is)
    (case k_law_standard => k_is)
    (case c_law_width => k_is)
    (case k_law_width => k_is)
    (case c_law_is_pattern => k_is)
    (case k_law_is_pattern => k_is)
    (case c_law_mixed => k_is)
    (case k_law_mixed => k_is)
    (case c_law_recognized => k_is)
    (case k_law_recognized => k_is)
    (case c_law_turned => k_is)
    (case k_law_turned => k_is)
    (case c_law => k_is)
    (case k_law => k_is)
    (case pgcl_Table => k_is)
    (case hdcl_Table => k_is)
    (case pocl_Table => k_is)
    (case sacl_Table => k_is)
    (case xsf_Table => k_is)
    (case kmk_Table => k_is)
    (case kkmk_Table => k_is)
    (case xc1_Table => k_is)
    (case xc3_Table => k_is)
    (case xn_Table_columns => k_is)
    (case xn_Table_rows => k_is)
    (case pgcl_Pattern => k_is)
    (case hdcl_Pattern => k_is)
    (case pocl_Pattern => k_is)
    (case sacl_Pattern => k_is)
    (case xsf_Pattern => k_is)
    (case kmk_Pattern => k_is)
    (case kkmk_Pattern => k_is)
    (case xc1_Pattern => k_is)
    (case xc3_Pattern => k_is)
    (case xn_Pattern_kind => k_is)
    (case xn_Pattern_size => k_is)
    (case xn_Pattern_rows => k_is)
    (case xn_Pattern_columns => k_is)
    (case xc2 => k_is)
    (case xc4 => k_is)
    (case xtp_BadKind => k_is)
    (case xic_BadKind => k_is)
    (case g1SC_BadKind => k_is)
    (case g2SC_BadKind => k_is)
    (case ksSC_BadKind => ks_is)
    (case g4SC_BadKind => k_is)
    (case g5SC_BadKind => k_is)
    (case rfSC_BadKind => first | rfl | decide +kernel)
    (case kxSC_BadKind => kx_is)
    (case g6SC_BadKind => k_is)
    (case rv_BadKind_init => first | rfl | decide +kernel)
    (case rg_BadKind_init => first | rfl | decide +kernel)
    (case xti_BadKind => k_is)
    (case xxn_BadKind_kind => k_is)
    (case xxn_BadKind_size => k_is)
    (case xk_BadKind => k_is)
    (case xbp_BadKind => k_is)
    (case xsv_BadKind => k_is)
    (case xss_BadKind => k_is)
    (case xe1_BadKind => k_is)
    (case xe2_BadKind => k_is)
    (case xe3_BadKind => k_is)
    (case xe4_BadKind => k_is)
    (case xe5_BadKind => k_is)
    (case r1cr_Table => k_is)
    (case r2cr_Table => k_is)
    (case xcv_Table_MOST_COLUMNS => k_is)
    (case xcv_Table_MOST_ROWS => k_is)
    (case xn_abs => k_is)
    (case xn_int => k_is)
    (case xn_isinstance => k_is)
    (case xn_range => k_is)
    (case xn_len => k_is)
    (case xn_str => k_is)
    (case xn_tuple => k_is)
    (case xn_list => k_is)
    (case xn_ValueError => k_is)
    (case xn_all => k_is)
    (case xn_min => k_is)
    (case xn_max => k_is)
    (case xn_enumerate => k_is)
    (case xn_bool => k_is)
    (case xn_sum => k_is)
    (case xn_sorted => k_is)
    (case lw_MORE_COLUMNS => first | rfl | decide +kernel)
    (case lw_FIXED_COLUMNS => first | rfl | decide +kernel)
    (case lw_FIXED_ROWS => first | rfl | decide +kernel)
    (case wz_w4 => first | rfl | decide +kernel)
    (case wz_w5 => first | rfl | decide +kernel)
    (case wz_w40 => first | rfl | decide +kernel)
    (case wz_w41 => first | rfl | decide +kernel)
    (case wz_w42 => first | rfl | decide +kernel)
    (case wz_w43 => first | rfl | decide +kernel)
    (case wz_w50 => first | rfl | decide +kernel)
    (case wz_w51 => first | rfl | decide +kernel)
    (case wz_w52 => first | rfl | decide +kernel)
    (case wz_w53 => first | rfl | decide +kernel)
    (case wz_KINDS => first | rfl | decide +kernel)
#print axioms PySem.Challenge.cw_unbrokenrows_k30_recognized_tables_holds
