import PyProof.Rows.All
import Wide.All
import OpenK.AllK
import Wide.FinOn
import HandS.Base
import HandS.Call
import HandS.List
import HandS.OwnEq
import HandS.Ends
import HandS.ClsMeth
import HandS.ExcOwn
import HandS.ExcIs
import HandS.TryOnly
import KE.KExcSuper
import HandS.ExcInit
import HandS.ExcField
import HandS.Words
import HandS.SortKw
import HandS.IterNext
import KE.DataMinMax
import KE.KExcIs
import KE.KExcLine
import HandS.OwnIter
import HandS.Walk
import KE.GoesMore
import KE.SortData
import HandS.SortRule
import HandS.IsInst
import HandS.WideBits
import HandS.Exc
import HandS.TryMany
import HandS.Style
import HandS.Strs
import HandS.Deep
import PyProof.StrLawsChain
import HandS.Text
import PyProof.Rows.StrCut
import HandS.Wide
import HandS.TupAny
import HandS.Star
import HandS.More
import HandS.Defaults
import HandS.Codes
import HandS.ForMost
import HandS.FStr
import HandS.StrMore
import HandS.Replace
import HandS.WordsExc
import PyProof.StrBlock2
import KE.KDictList
import HandS.DictComp
import HandS.Conv
import PySem.Challenge.RW_unbrokenrows_k32_windows_along_orders
set_option Elab.async false
set_option linter.all false
set_option maxRecDepth 100000
namespace My
open PySem PySem.Spec PyProof.Rows L2
section
variable {X : Cx} {CX : CXT} {n : Nat} {f C : Addr} {fd : FuncData} {ps : List Str} {sp : Sp} {E : XK}
/-- a promise, called anywhere in the running body -/
theorem call_at (G0 : FnOk X.prog X.w X.K X.mg X.base CX n f fd ps sp) (hb : Binds X.K fd ps []) (hx : Passes CX X E) {A : Around} (hr : Room n A) (hA : A.frames = X.A.frames)
    {pins : List (Addr × Obj)} {s : Shared} {σ : L2.St} {H : Hp} (I : Inv X pins σ H s) {vs : List V} {us : List Value} (r : Vals vs us) {Q : VK} (h : sp vs H Q E) :
    wpAny (model X.prog X.w) A (call (.ref f) us) (EP X pins σ Q) X.xe s := by
  have e0 : Env0 X.prog X.w X.K X.mg X.base A X.stack s H := by
    have e := I.env0
    exact ⟨by rw [hA]; exact e.frames, e.mod, e.bs, e.bsz, e.funs, e.frf, e.hok, e.bare⟩
  have hl := G0.len _ _ _ _ h
  refine wpAny_call (codeAny_mono (G0.run A X.stack s H ⟨us, []⟩ us vs Q E hr e0 (by
    have := hb s us I.kIn (by rw [List.append_nil, ← r.length]; exact hl)
    simpa using this) r h) fun r s' hq => ?_)
  cases r with
  | error e => exact hx pins σ H s e s' I hq
  | ok fl =>
    cases fl with
    | ret w => exact I.after hq
    | next => exact False.elim hq
    | brk => exact False.elim hq
    | cont => exact False.elim hq
theorem relV_noNI {v : V} {u : Value} (r : RelV v u) : u ≠ .notImplemented := by
  intro e
  subst e
  cases v <;> first | (cases r; done) | (obtain ⟨_, z⟩ := r; cases z)
theorem cmpBack_of {pins : List (Addr × Obj)} {σ : L2.St} {Q : VK} {v : Value} {s : Shared} (h : EP X pins σ Q v s) : PySem.W.CmpBack (EP X pins σ Q) v s := by
  obtain ⟨x, H', I', r, q⟩ := id h
  cases v <;> first | exact h | exact absurd rfl (relV_noNI r)
/-- x op y, both instances of the class at C, by its own method -/
def rOwn2 (C : Addr) (sp : Sp) (E : XK) : R2 := fun x y H Q => ∃ a b dx dy fs gs, x = .ref a ∧ y = .ref b ∧ H a = some (.ins C dx fs) ∧ H b = some (.ins C dy gs) ∧ sp [.ref a, .ref b] H Q E
theorem op_own2 {op : Operator} (G0 : FnOk X.prog X.w X.K X.mg X.base CX n f fd ps sp) (hb : Binds X.K fd ps []) (hx : Passes CX X E) (hr : Room n X.A)
    (hs : PySem.W.findIn X.K (.ref C) (PySem.dunder op.info.2) = some (some (.ref f))) (hf : PySem.W.isFn X.K (.ref f) = true) (hc : PySem.W.selfFirst X.K C = true) : OpR X (binaryOp op) (rOwn2 C sp E) := by
  intro pins s σ H x y v u Q I rx ry h
  obtain ⟨a, b, dx, dy, fs, gs, rfl, rfl, ha, hb', q⟩ := h
  cases rx
  cases ry
  obtain ⟨mA, J, _⟩ := ins_get I.hok ha
  obtain ⟨mB, J', _⟩ := ins_get I.hok hb'
  obtain ⟨od, J, _⟩ := J.look
  obtain ⟨od', J', _⟩ := J'.look
  obtain ⟨m, hF⟩ := I.fr
  refine PySem.W.binop_K hF I.ok.mod.kin J J'.type hc hs hf ?_
  exact wpAny_mono (call_at G0 hb hx hr rfl I (vs := [.ref a, .ref b]) (.cons rfl (.cons rfl .nil)) q) (fun v s' z => cmpBack_of z) fun _ _ z => z
/-- x op k, x such an instance, k a whole number -/
def rOwnI (C : Addr) (sp : Sp) (E : XK) : R2 := fun x y H Q => ∃ a dx fs k, x = .ref a ∧ y = .int k ∧ H a = some (.ins C dx fs) ∧ sp [.ref a, .int k] H Q E
theorem op_ownI {op : Operator} {fo ro rc : Option Value} (G0 : FnOk X.prog X.w X.K X.mg X.base CX n f fd ps sp) (hb : Binds X.K fd ps []) (hx : Passes CX X E) (hr : Room n X.A)
    (hs : PySem.W.findIn X.K (.ref C) (PySem.dunder op.info.2) = some (some (.ref f))) (hf : PySem.W.isFn X.K (.ref f) = true) (hc : PySem.W.selfFirst X.K C = true)
    (hrr : PySem.W.findIn X.K (.ref C) (dunderR op.info.2) = some rc) (hp : rc = none ∨ ∃ g : Addr, rc = some (.ref g))
    (h1 : PySem.W.findIn X.K (.type "int") (PySem.dunder op.info.2) = some fo) (h2 : PySem.W.findIn X.K (.type "int") (dunderR op.info.2) = some ro) (hsub : PySem.W.subIn X.K (.type "int") (.ref C) = some false) :
    OpR X (binaryOp op) (rOwnI C sp E) := by
  intro pins s σ H x y v u Q I rx ry h
  obtain ⟨a, dx, fs, k, rfl, rfl, ha, q⟩ := h
  cases rx
  obtain ⟨t, rfl⟩ := ry
  obtain ⟨mA, J, _⟩ := ins_get I.hok ha
  obtain ⟨od, J, _⟩ := J.look
  obtain ⟨m, hF⟩ := I.fr
  refine PySem.W.ksp_binT (T := "int") hF I.ok.mod.kin J rfl hc hs hf hrr hp h1 h2 hsub ?_
  exact wpAny_mono (call_at G0 hb hx hr rfl I (vs := [.ref a, .int k]) (.cons rfl (.cons ⟨_, rfl⟩ .nil)) q) (fun v s' z => cmpBack_of z) fun _ _ z => z
/-- one-place operators of such an instance -/
def rOwn1 (C : Addr) (sp : Sp) (E : XK) : V → Hp → VK → Prop := fun x H Q => ∃ a dx fs, x = .ref a ∧ H a = some (.ins C dx fs) ∧ sp [.ref a] H Q E
theorem un_own (G0 : FnOk X.prog X.w X.K X.mg X.base CX n f fd ps sp) (hb : Binds X.K fd ps []) (hx : Passes CX X E) (hr : Room n X.A)
    (hs : PySem.W.findIn X.K (.ref C) "__neg__" = some (some (.ref f))) (hf : PySem.W.isFn X.K (.ref f) = true) : UnR X (unaryOp .USub) (rOwn1 C sp E) := by
  intro pins s σ H x v Q I rx h
  obtain ⟨a, dx, fs, rfl, ha, q⟩ := h
  cases rx
  obtain ⟨mA, J, _⟩ := ins_get I.hok ha
  obtain ⟨od, J, _⟩ := J.look
  obtain ⟨m, hF⟩ := I.fr
  exact PySem.W.ksp_neg hF I.ok.mod.kin J hs hf (call_at G0 hb hx hr rfl I (vs := [.ref a]) (.cons rfl .nil) q)
/-- abs(x), bool(x) of such an instance -/
theorem call_absOwn (G0 : FnOk X.prog X.w X.K X.mg X.base CX n f fd ps sp) (hb : Binds X.K fd ps []) (hx : Passes CX X E) (hr : Room (n + 1) X.A)
    (hs : PySem.W.findIn X.K (.ref C) "__abs__" = some (some (.ref f))) (hf : PySem.W.isFn X.K (.ref f) = true) :
    CallR X (.builtin "abs") (fun xs H Q => ∃ a dx fs, xs = [V.ref a] ∧ H a = some (.ins C dx fs) ∧ sp [.ref a] H Q E) := by
  intro pins s σ H xs us Q I r h
  obtain ⟨a, dx, fs, rfl, ha, q⟩ := h
  obtain ⟨u, rfl, r1⟩ := vals1 r
  cases r1
  obtain ⟨mA, J, _⟩ := ins_get I.hok ha
  obtain ⟨od, J, _⟩ := J.look
  refine PySem.Calls.call_function_entry kind_abs plain_abs entry_abs (args_abs _) ?_
  unfold Builtin.«abs»
  refine wpAny_bind (m := oneArg "abs" _) (wpAny_pure ?_)
  refine wpAny_bind (m := callSpecial? (.ref a) (Str.ofString "__abs__")) (PySem.W.special_fn I.kIn J hs (beq_iff_eq.mp hf) ?_)
  refine wpAny_mono (call_at G0 hb hx (A := X.A.in1) hr.in1 rfl I (vs := [.ref a]) (.cons rfl .nil) q) (fun v s' z => ?_) fun _ _ z => z
  exact wpAny_pure ⟨_, rfl, z⟩
theorem meets_bool_own (prog : Program) (w : World) (l : Addr) : MeetsIn prog w (Builtin.«bool.__new__» ⟨[.type "bool", .ref l], []⟩)
    (fun A R s => wpAny (model prog w) A.in1 (truthy (.ref l)) (fun b s' => R (.ok (.ret (.bool b))) s') (fun e s' => R (.error e) s') s) := by
  intro A R s hs
  have f1 := F.conv_sub_bool
  unfold Builtin.«bool.__new__»
  dsimp only
  repeat (any_goals (first | assumption | (with_reducible refine wpAny_mono hs (fun b s' z => ?_) (fun _ _ z => z)) | wp_step))
  all_goals first | exact z | skip
theorem call_boolOwn (G0 : FnOk X.prog X.w X.K X.mg X.base CX n f fd ps sp) (hb : Binds X.K fd ps []) (hx : Passes CX X E) (hr : Room (n + 2) X.A)
    (hs : PySem.W.findIn X.K (.ref C) "__bool__" = some (some (.ref f))) (hf : PySem.W.isFn X.K (.ref f) = true) :
    CallR X (.type "bool") (fun xs H Q => ∃ a dx fs, xs = [V.ref a] ∧ H a = some (.ins C dx fs) ∧ sp [.ref a] H (fun v H' => ∃ k, v = .bl k ∧ Q v H') E) := by
  intro pins s σ H xs us Q I r h
  obtain ⟨a, dx, fs, rfl, ha, q⟩ := h
  obtain ⟨u, rfl, r1⟩ := vals1 r
  cases r1
  obtain ⟨mA, J, _⟩ := ins_get I.hok ha
  obtain ⟨od, J, _⟩ := J.look
  obtain ⟨m, hF⟩ := I.fr
  refine callType_newIn F.called_bool F.newNe_bool (F.typeCall_bool_1 _) (F.newCall_bool_1 _) (fun obj => F.args_object_init_2 obj _) F.entry_bool_new (meets_bool_own X.prog X.w a) ?_
  refine PySem.W.truthy_K hF I.ok.mod.kin J hs hf ?_
  refine wpAny_mono (call_at G0 hb hx (A := X.A.in1.in1) hr.in1.in1 rfl I (vs := [.ref a]) (.cons rfl .nil) q) (fun v s' z => ?_) fun _ _ z => z
  obtain ⟨x, H', I', r, k, rfl, q'⟩ := z
  cases r
  exact ⟨PySem.typeIs_bool _ _, .bl k, H', I', rfl, q'⟩
/-- == of two such instances -/
def rOwnEq (C : Addr) (sp : Sp) (E : XK) : R2 := fun x y H Q => ∃ a b dx dy fs gs, x = .ref a ∧ y = .ref b ∧ H a = some (.ins C dx fs) ∧ H b = some (.ins C dy gs) ∧ sp [.ref a, .ref b] H Q E
theorem op_eqOwn (G0 : FnOk X.prog X.w X.K X.mg X.base CX n f fd ps sp) (hb : Binds X.K fd ps []) (hx : Passes CX X E) (hr : Room n X.A)
    (hs : PySem.W.findIn X.K (.ref C) "__eq__" = some (some (.ref f))) (hf : PySem.W.isFn X.K (.ref f) = true) : OpR X (compareOp .Eq) (rOwnEq C sp E) := by
  intro pins s σ H x y v u Q I rx ry h
  obtain ⟨a, b, dx, dy, fs, gs, rfl, rfl, ha, hb', q⟩ := h
  cases rx
  cases ry
  obtain ⟨mA, J, _⟩ := ins_get I.hok ha
  obtain ⟨mB, J', _⟩ := ins_get I.hok hb'
  obtain ⟨od, J, _⟩ := J.look
  obtain ⟨od', J', _⟩ := J'.look
  obtain ⟨m, hF⟩ := I.fr
  show wpAny (model X.prog X.w) X.A (richCompare .Eq (.ref a) (.ref b)) (EP X pins σ Q) X.xe s
  refine PySem.W.cmp_K (op := .Eq) (tb := .ref C) hr.units0 hF I.ok.mod.kin J J'.type (by simp [PySem.W.notFirst]) hs hf ?_
  exact wpAny_mono (call_at G0 hb hx hr rfl I (vs := [.ref a, .ref b]) (.cons rfl (.cons rfl .nil)) q) (fun v s' z => cmpBack_of z) fun _ _ z => z
end
end My
set_option maxRecDepth 100000
namespace My
open PySem PySem.Spec PyProof.Rows L2
open ClX (CRead)
section
variable {X : Cx} {CX : CXT} {n k : Nat} {f C : Addr} {fd : FuncData} {ps : List Str} {sp : Sp} {E : XK}
/-- str(x) of an instance with its own __str__ -/
theorem call_strOwn (G0 : FnOk X.prog X.w X.K X.mg X.base CX n f fd ps sp) (hb : Binds X.K fd ps []) (hx : Passes CX X E) (hr : Room (n + 2) X.A)
    (hs : PySem.W.findIn X.K (.ref C) "__str__" = some (some (.ref f))) (hf : PySem.W.isFn X.K (.ref f) = true) :
    CallR X (.type "str") (fun xs H Q => ∃ a dx fs, xs = [V.ref a] ∧ H a = some (.ins C dx fs) ∧ sp [.ref a] H (fun v H' => ∃ z, v = .str z ∧ Q v H') E) := by
  intro pins s σ H xs us Q I r h
  obtain ⟨a, dx, fs, rfl, ha, q⟩ := h
  obtain ⟨u, rfl, r1⟩ := vals1 r
  cases r1
  obtain ⟨mA, J, _⟩ := ins_get I.hok ha
  obtain ⟨od, J, _⟩ := J.look
  refine PySem.W.kso_call (hr.in1.in1.units0) I.kIn J hs hf ?_
  refine wpAny_mono (call_at G0 hb hx (A := X.A.in1.in1) hr.in1.in1 rfl I (vs := [.ref a]) (.cons rfl .nil) q) (fun v s' z => ?_) fun _ _ z => z
  obtain ⟨x, H', I', r, y, rfl, q'⟩ := z
  obtain ⟨t, rfl⟩ := r
  exact ⟨.str y, H', I', ⟨_, rfl⟩, q'⟩
/-- C.m is a staticmethod: its record at p, its def at g -/
structure SMet (K : PySem.W.Frag) (C : Addr) (mc : Value) (m : Str) (p g : Addr) : Prop where
  at_ : PySem.W.findCls K (.ref C) mc m = some (.get (.builtin "staticmethod.__get__") (.ref p) .none (.ref C))
  rc : ∃ rest, PySem.W.recIn K p "staticmethod" = some (.ref g :: rest)
  kp : PySem.W.keepIn K (.ref g) = true
theorem getmethsm_ok {pins : List (Addr × Obj)} {σ : L2.St} {H : Hp} {s : Shared} {p g : Addr} {mc : Value} {m : Str} {A : Around} {E : Value → Shared → Prop} {pl : Sem Bool} {Q : Value × List Value → Shared → Prop} (I : Inv X pins σ H s) (r : CRead X.K C mc) (k : SMet X.K C mc m p g)
    (h : ∀ s', Inv X pins σ H s' → Q (.ref g, []) s') : wpAny (model X.prog X.w) A (getMethod (.ref C) m pl) Q E s := by
  refine PySem.W.method_cls I.kIn r.ga ?_
  obtain ⟨rest, hp⟩ := k.rc
  refine PySem.W.cls_bind I.kIn r.rd k.at_ ?_
  refine wpAny_call (PySem.W.sm_get (s := { s with toks := s.toks + 1 }) I.kIn hp (PySem.W.handed_on rfl ?_))
  exact h _ (I.tok _)
/-- C.m(e, ..), m a staticmethod of the class at C -/
def tSMeth (C : Addr) (sp : Sp) (dvs : List V) (E : XK) (ta : TE) (t : TA) : TE := fun σ H Q => ta σ H fun x H1 => x = .ref C ∧ t σ H1 fun vs H2 => sp (vs ++ dvs) H2 Q E
theorem pe_smeth {o e : Expr} {es : List Expr} {p g : Addr} {mc : Value} {m : Str} {pos apos : Pos} {ta : TE} {t : TA} {pl : Sem Bool} {ds : List Value} {dvs : List V} (he : PE X o ta) (r : CRead X.K C mc) (c : SMet X.K C mc m p g)
    (G0 : FnOk X.prog X.w X.K X.mg X.base CX k g fd ps sp) (hr : Room k X.A) (hb : Binds X.K fd ps ds) (hd : Vals dvs ds) (hx : Passes CX X E) (ha : PA X (e :: es) t)
    (hst : starEach (e :: es) X.env = (false, eval e X.env) :: starEach es X.env := by rfl) (hpl : (backTo pos (starEach es X.env)).any (·.1) = false := by rfl)
    (ht : eval (.Call (.Attribute o m apos) (e :: es) [] pos) X.env = (do
      let ov ← eval o X.env
      standAt apos.atName
      let (f, first) ← holding [ov] (getMethod ov m pl)
      callWith pos f first (backTo pos (starEach (e :: es) X.env)) (backToKw pos (keywordEach [] X.env))) := by rfl) :
    PE X (.Call (.Attribute o m apos) (e :: es) [] pos) (tSMeth C sp dvs E ta t) := by
  refine ⟨fun pins s σ H Q I h => ?_⟩
  refine PySem.W.methodCall_KW (pl := pl) (thn (he.run pins s σ H _ I h) fun u s1 ⟨x, H1, I1, rx, ex, q⟩ => ?_) ht
  subst ex
  obtain rfl : u = Value.ref C := rx
  refine getmethsm_ok I1 r c fun s2 I2 => ?_
  refine PySem.W.callWith_K (h₀ := X.base) I2.ok.mod.kin c.kp (thn (ha.run pos pins s2 σ H1 _ I2 q) fun us s3 ⟨vs, H2, I3, r3, q3⟩ => ⟨I3.kIn, ?_⟩) hst hpl
  exact run_fn G0 hr hb hd hx I3 r3 q3
/-- C(e, ..) where what its __init__ raises is wished for -/
def tMakeS (C : Addr) (sp : Sp) (E : L2.St → XK) (t : TA) : TE := fun σ H Q => t σ H fun vs H1 => ∀ x dx, H1 x = none → H1 dx = none → dx ≠ x →
  sp (.ref x :: vs) (upd (upd H1 dx (.own x)) x (.ins C dx [])) (fun v H2 => v = .non ∧ Q (.ref x) H2) (E σ)
theorem run_makeS {E : L2.St → XK} {pins : List (Addr × Obj)} {σ : L2.St} {H : Hp} {s : Shared} {Q : VK} {us : List Value} {vs : List V} (M : Mk X.K C f) (G0 : FnOk X.prog X.w X.K X.mg X.base CX k f fd ps sp) (hr : Room (k + 1) X.A) (hb : Binds X.K fd ps [])
    (hx : PassesAt CX X σ (E σ)) (I : Inv X pins σ H s) (r : Vals vs us)
    (h : ∀ x dx, H x = none → H dx = none → dx ≠ x → sp (.ref x :: vs) (upd (upd H dx (.own x)) x (.ins C dx [])) (fun v H2 => v = .non ∧ Q (.ref x) H2) (E σ)) :
    wpAny (model X.prog X.w) X.A (call (.ref C) us) (EP X pins σ Q) X.xe s := by
  have hq := h (s.heap.objs.size + 1) s.heap.objs.size (I.hok.fresh (Nat.le_succ _)) (I.hok.fresh (Nat.le_refl _)) (Nat.ne_of_lt (Nat.lt_succ_self _))
  have I2 := Inv.made (C := C) I
  have r2 : Vals (V.ref (s.heap.objs.size + 1) :: vs) (Value.ref (s.heap.objs.size + 1) :: us) := .cons rfl r
  have hl : (Value.ref (s.heap.objs.size + 1) :: us).length = ps.length := by
    have e := r2.length
    rw [G0.len _ _ _ _ hq] at e
    exact e.symm
  have b := hb _ (Value.ref (s.heap.objs.size + 1) :: us) I2.kIn (by rw [List.append_nil]; exact hl)
  rw [List.append_nil] at b
  refine wpAny_call (make_map (f := f) I.kIn M.makes M.init (beq_iff_eq.mp M.fn) (codeAny_mono (G0.run _ X.stack _ _ ⟨Value.ref (s.heap.objs.size + 1) :: us, []⟩ (Value.ref (s.heap.objs.size + 1) :: us) _ _ (E σ) (hr.make C us [])
    (I2.env0.make C us []) b r2 hq) fun r s' hq' => ?_))
  cases r with
  | error e => exact hx pins _ _ e s' I2 hq'
  | ok fl =>
    cases fl with
    | ret u =>
      obtain ⟨v, H', I3, rv, ev, q3⟩ := I2.after hq'
      subst ev
      exact ⟨rv, ⟨V.ref (s.heap.objs.size + 1), H', I3, rfl, q3⟩⟩
    | next => exact False.elim hq'
    | brk => exact False.elim hq'
    | cont => exact False.elim hq'
theorem pe_makeS {E : L2.St → XK} {x : Str} {p pos : Pos} {e : Expr} {es : List Expr} {t : TA} (M : Mk X.K C f) (G0 : FnOk X.prog X.w X.K X.mg X.base CX k f fd ps sp) (hr : Room (k + 1) X.A) (hg : Gl X x) (hm : X.mg x = some (.ref C)) (hb : Binds X.K fd ps []) (hx : ∀ σ, PassesAt CX X σ (E σ))
    (ha : PA X (e :: es) t) (hdb : (x == ("__debug__" : Str)) = false := by decide) (he : starEach (e :: es) X.env = (false, eval e X.env) :: starEach es X.env := by rfl) (hpl : (backTo pos (starEach es X.env)).any (·.1) = false := by rfl) :
    PE X (.Call (.Name x p) (e :: es) [] pos) (tMakeS C sp E t) := by
  refine ⟨fun pins s σ H Q I h => ?_⟩
  refine wpAny_Call_Name_kw (ld_glob I hg hm ?_ hdb)
  refine PySem.W.callWith_K (h₀ := X.base) I.ok.mod.kin M.kp (thn (ha.run pos pins s σ H _ I h) fun us s1 ⟨vs, H1, I1, r, q⟩ => ⟨I1.kIn, ?_⟩) he hpl
  exact run_makeS M G0 hr hb (hx σ) I1 r q
end
/-- isinstance(e, c) in an except suite of any error -/
theorem call_isEx {X : Cx} {a : Addr} {oe : Obj} {cls : Value} {d : Option Addr} {pn : List (Addr × Obj)} (hz : Zc cls d oe) (hf : ∃ vs, oe.data = .fields vs) :
    CallR (X.suite a ((a, oe) :: pn)) (.builtin "isinstance") (fun xs H Q => ∃ D, cls = .ref D ∧ d = none ∧ ExcC X.K D ∧ rIsE X.K D a xs H Q) := by
  intro pins s σ H xs us Q I r h
  obtain ⟨D, rfl, rfl, c, q⟩ := h
  exact call_isE c hz hf pins s σ H xs us Q I r q
/-- an own class against an own class, against a built-in one -/
theorem kit_own {K : PySem.W.Frag} {C D : Addr} {b : Bool} (hi : PySem.W.isClsIn K D = true) (ht : PySem.W.typeIn K (.ref D) = some (.type "type")) (hs : PySem.W.subIn K (.ref C) (.ref D) = some b) (hne : C ≠ D ∨ b = true) : PySem.W.kitOne K (.ref C) (.ref D) = some b := by
  unfold PySem.W.kitOne
  by_cases e : C = D
  · rcases hne with h | h
    · exact absurd e h
    · rw [if_pos (by rw [e]; simp), h]
  · rw [if_neg (by simp [e])]
    show (if ((PySem.W.clsIn K D).isSome && PySem.W.typeIn K (.ref D) == some (.type "type")) = true then _ else _) = _
    rw [if_pos (by
      rw [ht]
      have : (PySem.W.clsIn K D).isSome = true := hi
      rw [this]; simp)]
    exact hs
theorem kit_ownT {K : PySem.W.Frag} {C : Addr} {T : String} {b : Bool} (hm : PySem.W.kitMeta T = true) (hs : PySem.W.subIn K (.ref C) (.type T) = some b) : PySem.W.kitOne K (.ref C) (.type T) = some b := by
  unfold PySem.W.kitOne PySem.W.kitCls
  rw [if_neg (by simp)]
  show (if PySem.W.kitMeta T = true then _ else _) = _
  rw [if_pos hm]
  exact hs
end My
set_option maxRecDepth 100000
set_option maxHeartbeats 1000000
/-! own exceptions whose __init__ says super().__init__(text) and then stores its fields -/
namespace My
open PySem PySem.Spec PyProof.Rows L2
/-- the names of such a def: its parameters are local, nothing is a cell, __class__ alone is free -/
structure SupScope (N ps : List Str) (sc : Scope) : Prop where
  kind : sc.kind = .function
  co : sc.isCoroutine = false
  gen : sc.isGenerator = false
  nd : ps.Nodup
  eqN : N = ps
  par : ∀ x ∈ ps, sc.names.lookup x = some .local
  nocell : ∀ y ∈ sc.names, y.2 ≠ .cell
  free : ∀ y ∈ sc.names, y.2 = .free → y.1 = "__class__"
  ks : sc.names.lookup ("super" : Str) = some .globalImplicit
  kc : sc.names.lookup ("__class__" : Str) = some .free
/-- the context of its body -/
def cxSup (CX : CXT) (P : Program) (w : World) (K : PySem.W.Frag) (mg : Str → Option Value) (base : Heap) (N : List Str) (qual : Str) (scope : Scope) (f : Addr) (cd : Value) (cc : Addr) (A : Around) (outer : List Env) (s : Shared) (H : Hp) (E : XK) : Cx where
  prog := P
  w := w
  K := K
  mg := mg
  base := base
  A := A.deeper (PySem.W.ksEnv qual scope s.heap.objs.size f cd cc)
  N := N
  s_0 := s
  H_0 := H
  env := PySem.W.ksEnv qual scope s.heap.objs.size f cd cc
  outer := outer
  stack := PySem.W.ksEnv qual scope s.heap.objs.size f cd cc :: outer
  ex := []
  calm := true
  fn := fun _ => false
  pn := []
  xe := fun e s' => wpAny (model P w) (A.deeper (PySem.W.ksEnv qual scope s.heap.objs.size f cd cc)) (leaving (PySem.W.ksEnv qual scope s.heap.objs.size f cd cc) e) (fun _ s'' => CX outer H s E e s'') (fun e' s'' => CX outer H s E e' s'') s'
theorem lookup_of_mem {l : List (Str × Value)} {y : Str} {u : Value} (nd : (l.map (·.1)).Nodup) (h : (y, u) ∈ l) : l.lookup y = some u := by
  induction l with
  | nil => cases h
  | cons p r ih =>
    obtain ⟨z, v⟩ := p
    rw [List.map_cons, List.nodup_cons] at nd
    rcases List.mem_cons.mp h with e | e
    · cases e; simp [List.lookup]
    · have hne : y ≠ z := fun q => nd.1 (by rw [← q]; exact List.mem_map.mpr ⟨_, e, rfl⟩)
      have : (y == z) = false := by simpa using hne
      simp only [List.lookup, this]
      exact ih nd.2 e
theorem map_fst_zip_sub : ∀ (ps : List Str) (us : List Value), ((ps.zip us).map (·.1)).Sublist ps
  | [], _ => by simp
  | _ :: _, [] => by simp
  | p :: ps, u :: us => by simpa using map_fst_zip_sub ps us
theorem nd_rev {l : List Str} (h : l.Nodup) : l.reverse.Nodup := by
  induction l with
  | nil => simp
  | cons a t ih =>
    rw [List.nodup_cons] at h
    rw [List.reverse_cons, List.nodup_append]
    exact ⟨ih h.2, by simp, fun x hx y hy e => h.1 (by simp at hy; rw [← hy, ← e]; simpa using hx)⟩
theorem zip_lookup {ps : List Str} {us : List Value} {i : Nat} {y : Str} {u : Value} (nd : ps.Nodup) (h1 : ps[i]? = some y) (h2 : us[i]? = some u) : (ps.zip us).reverse.lookup y = some u := by
  refine lookup_of_mem ?_ ?_
  · rw [List.map_reverse]
    have : ((ps.zip us).map (·.1)).Nodup := by
      exact nd.sublist (map_fst_zip_sub ps us)
    exact nd_rev this
  · rw [List.mem_reverse]
    have : (ps.zip us)[i]? = some (y, u) := by rw [List.getElem?_zip_eq_some]; exact ⟨h1, h2⟩
    exact List.mem_of_getElem? this
section
variable {CX : CXT} {P : Program} {w : World} {K : PySem.W.Frag} {mg : Str → Option Value} {base : Heap} {N ps : List Str} {qual : Str} {scope : Scope} {f cc : Addr} {cd : Value} {A : Around} {outer : List Env} {s : Shared} {H : Hp} {E : XK}
theorem env_cells {x : Str} {c : Addr} {L : Addr} (h : (PySem.W.ksEnv qual scope L f cd cc).cells.lookup x = some c) : x = "__class__" ∧ c = cc := by
  have h' : ([(("__class__" : Str), cc)] : List (Str × Addr)).lookup x = some c := h
  by_cases e : x = "__class__"
  · subst e
    simp [List.lookup] at h'
    exact ⟨rfl, h'.symm⟩
  · have : (x == ("__class__" : Str)) = false := by simpa using e
    simp [List.lookup, this] at h'
theorem inv_sup {us : List Value} {vs : List V} {h1 : Heap} {t : Nat} {cl : Value} {cld : Option Addr} {cv : Option Value} {csl : Array (Option Value)} (S : SupScope N ps scope) (hd : A.handled = none) (e0 : Env0 P w K mg base A outer s H) (hl : vs.length = ps.length) (r : Vals vs us)
    (hcell : K.lookup cc = some ⟨cl, cld, .cell cv, csl⟩)
    (hns : h1.Ns s.heap.objs.size (fun x => (ps.zip us).reverse.lookup x)) (hk : ∀ b o, s.heap.get? b = some o → h1.get? b = some o) :
    Inv (cxSup CX P w K mg base N qual scope f cd cc A outer s H E) [] (L2.start N vs) H { s with heap := h1, toks := t } := by
  have noA : ∀ b : Addr, b ∉ (cxSup CX P w K mg base N qual scope f cd cc A outer s H E).ex := fun b z => absurd (show b ∈ ([] : List Addr) from z) (by simp)
  have hcb := e0.mod.kin _ _ hcell
  refine ⟨⟨e0.mod, S.kind, rfl, rfl, Nat.le_refl _, fun y z c h1 h2 => (env_cells h1).1.trans (env_cells h2).1.symm, fun y hy => ?_, fun y c h _ => absurd h Bool.false_ne_true, fun _ => hd, Around.frames_deeper e0.frames, .inr ⟨rfl, rfl⟩, fun b z => absurd z (noA b), e0.bs, e0.bsz, fun b _ _ => noA b, fun b z => absurd z (noA b), e0.funs, e0.frf⟩,
    rfl, e0.bare, Un.kept hk, ⟨_, hns, fun i y v h1 h2 h3 => ?_⟩, fun y c h => ?_, e0.hok.fresh (Nat.le_refl _), fun y c h => ?_, fun p hp => absurd (show p ∈ ([] : List (Addr × Obj)) from hp) (by simp), e0.hok.kept hk, ?_⟩
  · have hy : scope.names.lookup y = some .cell ∨ scope.names.lookup y = some .free := hy
    rcases hy with hy | hy
    · exact absurd rfl (S.nocell _ (PySem.mem_of_lookup hy))
    · have e := S.free _ (PySem.mem_of_lookup hy) rfl
      refine ⟨cc, ?_⟩
      show ([(("__class__" : Str), cc)] : List (Str × Addr)).lookup y = some cc
      have e' : y = "__class__" := e
      rw [e']
      simp [List.lookup]
  · have hlen : N.length = vs.length := by rw [S.eqN, hl]
    have e2 : L2.start N vs = vs.map some := by unfold L2.start; rw [hlen, Nat.sub_self]; simp
    rw [e2, List.getElem?_map] at h2
    cases ea : vs[i]? with
    | none => rw [ea] at h2; cases h2
    | some a =>
      rw [ea] at h2
      cases h2
      obtain ⟨u, hu, rv⟩ := r.get ea
      have hp : ps[i]? = some y := by rw [← S.eqN]; exact h1
      exact ⟨u, rv, .inl ⟨S.par y (List.mem_of_getElem? hp), zip_lookup S.nd hp hu⟩⟩
  · obtain ⟨rfl, rfl⟩ := env_cells h
    exact ⟨cv, _, hk _ _ (e0.bs _ _ hcb).1, rfl⟩
  · obtain ⟨rfl, rfl⟩ := env_cells h
    exact (e0.bs _ _ hcb).2
  · unfold L2.start
    show _ = N.length
    rw [List.length_append, List.length_map, List.length_replicate, S.eqN]
    omega
end
open PySem.W (ksFn ksEnv)
/-- what the written part says of such a class -/
structure SupCls (P : Program) (K : PySem.W.Frag) (mg : Str → Option Value) (C : Addr) : Prop where
  cd : ∃ cd, PySem.W.clsIn K C = some cd
  mro : PySem.W.mroIn K C (.ref C) = some true
  sup : PySem.W.ks_superIn K C C "__init__" = some (some (.builtin "ValueError.__init__"))
  opq : PySem.W.nsIn K PySem.cStatics "thirdparty.any" = some none
  ve : PySem.W.subIn K (.ref C) (.type "ValueError") = some true
  mgs : mg "super" = none
  top : (P.main.scope.names.lookup ("super" : Str)).isSome = false
  ox : OexC K C
/-- and of its __init__ -/
structure SupFn (P : Program) (K : PySem.W.Frag) (st : Stmt) (qual : Str) (C f : Addr) (fd : FuncData) : Prop where
  ex : ∃ (oc : Value) (od : Option Addr) (kV doc pm : Value) (an : Option Addr) (cda : Addr) (ct : Value) (cc : Addr) (sl : Array (Option Value)),
    fd = ksFn "__init__" qual (defArgs st) (defBody st) (defScope st) .none kV doc pm an (.ref cda) ct cc ∧ K.lookup f = some ⟨oc, od, .func fd, sl⟩ ∧ PySem.W.codeIn K (.ref cda) qual = true ∧
    (∃ (a : Value) (b : Option Addr) (vs : Array Value) (d : Array (Option Value)) (file : Str) (tf : Tok), K.lookup cda = some ⟨a, b, .fields vs, d⟩ ∧ vs[2]? = some (.str file tf) ∧ ((P.main.file : Str) == file) = true) ∧
    ∃ (a : Value) (b : Option Addr) (d : Array (Option Value)), K.lookup cc = some ⟨a, b, .cell (some (.ref C)), d⟩
section
variable {CX : CXT} {P : Program} {w : World} {K : PySem.W.Frag} {mg : Str → Option Value} {base : Heap} {N ps : List Str} {qual : Str} {scope : Scope} {f cc cda C a : Addr} {A : Around} {outer : List Env} {s0 : Shared} {H0 : Hp} {E : XK}
variable {oc : Value} {od : Option Addr} {fd : FuncData} {sl : Array (Option Value)} {vs : Array Value} {file : Str} {tf : Tok}
theorem mw_call {X : Cx} {pins : List (Addr × Obj)} {σ : L2.St} {H : Hp} {s : Shared} {u : Addr} {us : List Value} {Q : Value → Shared → Prop} {B : Around} {EE : Value → Shared → Prop} (T : OexC X.K C) (I : Inv X ((u, PySem.W.kxs_mw "ValueError.__init__" a) :: pins) σ H s)
    (ea : H a = some (exo a C none)) (hz : us.length ≤ sizeLine) (q : ∀ s', Inv X ((u, PySem.W.kxs_mw "ValueError.__init__" a) :: pins) σ H s' → Q .none s') :
    wpAny (model X.prog X.w) B (call (.ref u) us) Q EE s := by
  obtain ⟨nm, q0, N0, bs, bm, sn, sub, ab, col, dd, k0, k1, k2, k3, k5, hC, hbm⟩ := T.cls
  obtain ⟨t1, ho⟩ := exo_at I.hok ea
  have hu := ClX.pin_at I
  have KX := I.kIn
  have eu : upd H a (exo a C none) = H := by
    funext b
    by_cases hb : b = a
    · rw [hb, upd_same, ea]
    · rw [upd_ne hb]
  have T1 : (Value.type "method-wrapper" == Value.type "method" || Value.type "method-wrapper" == Value.type "builtin_function_or_method" || Value.type "method-wrapper" == Value.type "method-wrapper") = true := by decide
  obtain ⟨hp, g, d, t, os⟩ := s
  refine wpAny_call (codeAny_of_tree ?_)
  show wpAny _ _ (callAny (.ref u) ⟨us, []⟩) _ _ _
  unfold callAny
  refine wpAny_bind (wpAny_load hu ?_)
  simp only [PySem.W.kxs_mw, T1, if_true]
  refine PySem.W.KFB.if_so (by decide) ?_
  refine wpAny_bind (PySem.W.check_bound_init F.excBase_ValueError.toExcCallFacts (KX _ _ hC) ho rfl ?_)
  refine wpAny_bind (wpAny_pure (wpAny_pure ⟨PySem.plainId_quiet F.excBase_ValueError.init.plain _, codeAny_builtin F.excBase_ValueError.initEntry ?_⟩))
  refine PySem.W.exc_init_tree (cls := .ref C) (t0 := t1) (dv := none) (c2 := .none) (c3 := .none) (b4 := .bool false) ho hz fun h' k e1 _ => ?_
  have J := I.write (t' := t) (x := a) (e := a) (o := exo a C none) (by rw [ea]; exact True.intro) (.inl rfl) k ⟨_, e1⟩ (exo_ok e1)
  rw [eu] at J
  exact q _ J

/-- super().__init__(e, ..) at the head of the body -/
theorem sup_run {an : Option Addr} {kV doc pm ct : Value} {body : List Stmt} {args : Arguments} {σ : L2.St} {H : Hp} {s : Shared} {ta : TA} {e : Expr} {es : List Expr} {p0 p1 p2 p3 p4 : Pos} {ar : Arg} {Q : Flow → Shared → Prop}
    (S : SupScope N ps scope) (D : SupCls P K mg C)
    (lk : K.lookup f = some ⟨oc, od, .func (ksFn "__init__" qual args body scope .none kV doc pm an (.ref cda) ct cc), sl⟩) (har : (args.posonlyargs ++ args.args).head? = some ar)
    (lc : ∃ (a : Value) (b : Option Addr) (vs : Array Value) (d : Array (Option Value)) (file : Str) (tf : Tok), K.lookup cda = some ⟨a, b, .fields vs, d⟩ ∧ vs[2]? = some (.str file tf) ∧ ((P.main.file : Str) == file) = true)
    (lq : ∃ (a : Value) (b : Option Addr) (d : Array (Option Value)), K.lookup cc = some ⟨a, b, .cell (some (.ref C)), d⟩)
    (I : Inv (cxSup CX P w K mg base N qual scope f (.ref cda) cc A outer s0 H0 E) [] σ H s) (h0 : σ[0]? = some (some (.ref a))) (hN : N[0]? = some ar.arg) (hloc : scope.names.lookup ar.arg = some .local)
    (ea : H a = some (exo a C none)) (hes : PA (cxSup CX P w K mg base N qual scope f (.ref cda) cc A outer s0 H0 E) (e :: es) ta)
    {R : Hp → Prop} (q : ta σ H fun us H1 => us.length ≤ 1000 ∧ H1 a = some (exo a C none) ∧ R H1)
    (cont : ∀ H1 s', R H1 → Inv (cxSup CX P w K mg base N qual scope f (.ref cda) cc A outer s0 H0 E) [] σ H1 s' → Q .next s')
    (he : starEach (e :: es) (ksEnv qual scope s0.heap.objs.size f (.ref cda) cc) = (false, eval e (ksEnv qual scope s0.heap.objs.size f (.ref cda) cc)) :: starEach es (ksEnv qual scope s0.heap.objs.size f (.ref cda) cc))
    (hpl : (backTo p3 (starEach es (ksEnv qual scope s0.heap.objs.size f (.ref cda) cc))).any (·.1) = false) 
    (hsw : swapsWith (.Call (.Attribute (.Call (.Name "super" p0) [] [] p1) "__init__" p2) (e :: es) [] p3) none p4.line (ksEnv qual scope s0.heap.objs.size f (.ref cda) cc) = pure false)
    {pl : Sem Bool} (hcall : eval (.Call (.Attribute (.Call (.Name "super" p0) [] [] p1) "__init__" p2) (e :: es) [] p3) (ksEnv qual scope s0.heap.objs.size f (.ref cda) cc) = (do
      let ov ← attributeBase (.Call (.Name "super" p0) [] [] p1) "__init__" (ksEnv qual scope s0.heap.objs.size f (.ref cda) cc) (eval (.Call (.Name "super" p0) [] [] p1) (ksEnv qual scope s0.heap.objs.size f (.ref cda) cc))
      standAt p2.atName
      let (fx, first) ← holding [ov] (getMethod ov "__init__" pl)
      callWith p3 fx first (backTo p3 (starEach (e :: es) (ksEnv qual scope s0.heap.objs.size f (.ref cda) cc))) []))
    (B : List Stmt) :
    PySem.wpAt (model P w) (A.deeper (ksEnv qual scope s0.heap.objs.size f (.ref cda) cc)) (.func B (ksEnv qual scope s0.heap.objs.size f (.ref cda) cc))
      (exec (.Expr (.Call (.Attribute (.Call (.Name "super" p0) [] [] p1) "__init__" p2) (e :: es) [] p3) p4) (ksEnv qual scope s0.heap.objs.size f (.ref cda) cc)) Q (cxSup CX P w K mg base N qual scope f (.ref cda) cc A outer s0 H0 E).xe s := by
  have KX : K.In s.heap := I.kIn
  obtain ⟨t1, hoe⟩ := exo_at I.hok ea
  obtain ⟨m, hn, hl⟩ := I.loc
  obtain ⟨u, ru, look⟩ := hl 0 ar.arg (.ref a) hN h0 (Or.inl hloc)
  obtain rfl : u = Value.ref a := ru
  have hm : m ar.arg = some (.ref a) := by
    rcases look with z | ⟨z, _⟩
    · exact z.2
    · have z : scope.names.lookup ar.arg = some .cell ∨ scope.names.lookup ar.arg = some .free := z
      rw [hloc] at z
      rcases z with z | z <;> cases z
  obtain ⟨c1, c2, vs, c3, file, tf, hcode, hvs, hfile⟩ := lc
  obtain ⟨c4, c5, c6, hcell⟩ := lq
  obtain ⟨cd, hcd⟩ := D.cd
  obtain ⟨mb, hb1, hb2⟩ := I.mod.blt
  obtain ⟨oD, hD1, hD2⟩ : ∃ oD, s.heap.get? C = some oD ∧ oD.data = .cls cd := by
    unfold PySem.W.clsIn at hcd
    split at hcd
    · rename_i ho
      cases hcd
      exact ⟨_, KX _ _ ho, rfl⟩
    · cases hcd
  obtain ⟨hh, g, d, t, os⟩ := s
  refine ks_wpAt_Expr_any ?_ I.quiet hsw
  refine ks_wpAt_MethodCall (he := hcall) ?_
  refine ks_wpAt_super_base (ar := ar) S.ks S.kc rfl rfl (KX _ _ lk) rfl har rfl (KX _ _ hcode) rfl hvs hfile D.top ?_
  refine PySem.W.ks_loadName_global S.kind S.ks (Calls.loadGlobal_builtin (I.mod.glob.keeps I.bk) D.mgs (hb1.keeps I.bk) ((hb2 _ (by decide)).trans PyProof.Rows.Boot.«super») ⟨rfl, ?_⟩)
  refine wpAny_loadName_free S.kind S.kc rfl ⟨_, KX _ _ hcell, rfl⟩ ?_
  refine wpAny_loadName_local S.kind hloc hn hm ?_
  refine ks_wpAny_isType_cls hD1 hD2 ⟨rfl, ?_⟩
  refine ks_wpAny_call_super hD1 hD2 hoe rfl (fun c z => by cases z) (PySem.W.looks_mroIn KX D.mro) (fun h' e1 k => ?_)
  have I1 := ClX.pin_new (t' := t) I k (Nat.le_refl _) e1 (fun v z => by cases z)
  have KX1 : K.In h' := I1.kIn
  have hca : a ≠ C := fun z => by
    subst z
    rw [hoe] at hD1
    cases hD1
    cases hD2
  have hsI : PySem.W.Looks (model P w) h' (isInstance (.ref a) (.type "ValueError")) true := by
    have II : PySem.W.InstAt h' a _ C none := ⟨k _ _ hoe, rfl, rfl, trivial⟩
    exact II.type.andThen (PySem.W.looks_subIn KX1 D.ve)
  have hsup := D.sup
  unfold PySem.W.ks_superIn at hsup
  rw [hcd] at hsup
  refine PySem.W.kxs_getMethod PySem.W.kxs_ValueError e1 (PySem.W.looks_opaque KX1 D.opq) (l₀ := cd.mro) (fun A Q E s k q => wpAny_bind ((PySem.W.looks_clsIn KX1 hcd) A _ E s k (wpAny_pure q))) rfl KX1 hsup hsI hca rfl ?_
  have I2 := ClX.pin_new (t' := t + 1) I1 (h' := h'.push (PySem.W.kxs_mw "ValueError.__init__" a)) (o := PySem.W.kxs_mw "ValueError.__init__" a) (fun b o z => Heap.get?_push_of_some _ z) (Nat.le_refl _) (Heap.get?_push_at rfl rfl) (fun v z => by cases z)
  dsimp only
  rw [he]
  refine PySem.W.kxs_callWith (i := "ValueError.__init__") (x := a) (by show (false || (backTo p3 (starEach es _)).any (·.1)) = false; rw [hpl]; rfl) (Calls.evalArgs_plain ?_)
  have run := hes.run p3 _ _ σ H _ I2 q
  rw [show starEach (e :: es) (cxSup CX P w K mg base N qual scope f (.ref cda) cc A outer s0 H0 E).env = _ from he] at run
  refine thn run fun us s1 ⟨xs, H1, I3, r1, hz, ea1, q1⟩ => ⟨ClX.pin_at I3, ?_⟩
  have hlen : us.length ≤ sizeLine := by
    rw [← Paired.length r1, sizeLine_eq]
    omega
  exact mw_call D.ox I3 ea1 hlen fun s' J => cont _ s' q1 (ClX.unpin (ClX.unpin J))

/-- such an __init__, by what it says behind super() -/
theorem sup_ok {st : Stmt} {fd : FuncData} {k : Nat} {sp : Sp} {body : List Stmt} {e : Expr} {p0 p1 p2 p3 p4 : Pos} {ar : Arg} {pl : Sem Bool} (F : SupFn P K st qual C f fd) (S : SupScope N ps (defScope st)) (D : SupCls P K mg C)
    (hb : defBody st = .Expr (.Call (.Attribute (.Call (.Name "super" p0) [] [] p1) "__init__" p2) [e] [] p3) p4 :: body) (har : ((defArgs st).posonlyargs ++ (defArgs st).args).head? = some ar) (hN : N[0]? = some ar.arg)
    (he : ∀ env : Env, starEach [e] env = [(false, eval e env)])
    (hsw : ∀ env : Env, swapsWith (.Call (.Attribute (.Call (.Name "super" p0) [] [] p1) "__init__" p2) [e] [] p3) none p4.line env = pure false)
    (hcall : ∀ env : Env, eval (.Call (.Attribute (.Call (.Name "super" p0) [] [] p1) "__init__" p2) [e] [] p3) env = (do
      let ov ← attributeBase (.Call (.Name "super" p0) [] [] p1) "__init__" env (eval (.Call (.Name "super" p0) [] [] p1) env)
      standAt p2.atName
      let (fx, first) ← holding [ov] (getMethod ov "__init__" pl)
      callWith p3 fx first (backTo p3 (starEach [e] env)) []))
    (len : ∀ vs H Q E, sp vs H Q E → vs.length = ps.length)
    (hbody : ∀ (cda : Value) (cc : Addr) (A : Around) (outer : List Env) (s : Shared) (H : Hp) (vs : List V) (Q : VK) (E : XK), Room k (A.deeper (ksEnv qual (defScope st) s.heap.objs.size f cda cc)) → sp vs H Q E →
      ∃ (a : Addr) (te : TE) (t : TS), vs[0]? = some (.ref a) ∧ H a = some (exo a C none) ∧ PE (cxSup CX P w K mg base N qual (defScope st) f cda cc A outer s H E) e te ∧ PSs (cxSup CX P w K mg base N qual (defScope st) f cda cc A outer s H E) body t ∧
        te (L2.start N vs) H fun x H1 => [x].length ≤ 1000 ∧ H1 a = some (exo a C none) ∧ t { nx := fun _ H' => Q .non H', rt := Q } (L2.start N vs) H1) : FnOk P w K mg base CX (k + 1) f fd ps sp := by
  obtain ⟨oc, od, kV, doc, pm, an, cda, ct, cc, sl, rfl, lk, hcd, lc, lq⟩ := F.ex
  refine ⟨len, fun A outer s H args us vs Q E hr e0 hbi r hsp => ?_⟩
  have hl := len _ _ _ _ hsp
  have KX : K.In s.heap := e0.mod.kin.keeps fun b o e => (e0.bs b o e).1
  have lim : s.heap.NoLimit := e0.mod.nolimit.keeps fun b o e => (e0.bs b o e).1
  obtain ⟨c4, c5, c6, hcell⟩ := lq
  refine ks_codeAny_call_defAt (body := defBody st) hr.depth (KX _ _ lk) rfl lim (PySem.W.codeRec_of KX hcd) rfl hbi S.nocell (fun ⟨n, v⟩ hy => S.par n (List.of_mem_zip hy).1) (fun h1 hns hk => ?_) S.co S.gen S.kind
  obtain ⟨a, te, t, hv, ea, pe, pss, q⟩ := hbody (.ref cda) cc A outer s H vs Q E (hr.deeper _) hsp
  have I : Inv (cxSup CX P w K mg base N qual (defScope st) f (.ref cda) cc A outer s H E) [] (L2.start N vs) H _ := inv_sup (t := s.toks + (ps.zip us).length) S hr.hd e0 hl r hcell hns hk
  have fin : ∀ {σ' : L2.St} {H' : Hp} {v : V} {u : Value} {s' : Shared}, Inv (cxSup CX P w K mg base N qual (defScope st) f (.ref cda) cc A outer s H E) [] σ' H' s' → RelV v u → Q v H' → CE outer P w H s Q u s' :=
    fun {σ' H' v u s'} J rv q => ⟨v, H', J.os, J.bare, J.base, J.hok, rv, q⟩
  have h0 : (L2.start N vs)[0]? = some (some (V.ref a)) := by
    unfold L2.start
    rw [List.getElem?_append_left (by rw [List.length_map]; exact (List.getElem?_eq_some_iff.mp hv).1), List.getElem?_map, hv]
    rfl
  have hloc : (defScope st).names.lookup ar.arg = some .local := S.par _ (by rw [← S.eqN]; exact List.mem_of_getElem? hN)
  show PySem.wpAt _ _ _ (execs (defBody st) _) _ _ _
  rw [hb]
  refine ks_wpAt_execs_cons ?_
  refine sup_run S D lk har lc ⟨c4, c5, c6, hcell⟩ I h0 hN hloc ea (pa_cons pe pa_nil (he _)) q (fun H1 s1 q1 J => ?_) (he _) rfl (hsw _) (hcall _) _
  refine wpAt_of_wpAny (wpAny_mono (pss.run [] s1 (L2.start N vs) H1 _ J q1) (fun fl s' hs => ?_) fun e s' hs => hs)
  cases fl with
  | ret u =>
    obtain ⟨v, σ', H', J, rv, q⟩ := hs
    exact fin J rv q
  | next =>
    obtain ⟨σ', H', J, q⟩ := hs
    exact fin (v := V.non) (u := Value.none) J rfl q
  | brk =>
    obtain ⟨_, _, _, q⟩ := hs
    exact False.elim q
  | cont =>
    obtain ⟨_, _, _, q⟩ := hs
    exact False.elim q
end
end My
set_option maxRecDepth 100000
set_option maxHeartbeats 1000000
namespace My
open PySem PySem.Spec PyProof.Rows L2
/-! ### max(x, default=d) of a list of whole numbers -/
theorem ints_reads {h : Heap} : ∀ {ns : List Int} {us : List Value}, Vals (ns.map V.int) us → ReadsAll h us (ns.map PyData.int) []
  | [], _, .nil => .nil
  | n :: ns, _, .cons r t => by
    obtain ⟨tk, rfl⟩ := r
    exact ReadsAll.cons (as := []) (bs := []) (.int n tk) (ints_reads t)
theorem alike_ints (ns : List Int) : PySem.W.AlikeAll (ns.map PyData.int) := by
  refine ⟨fun x hx y hy => ?_, fun x hx => ?_⟩
  · obtain ⟨i, _, rfl⟩ := List.mem_map.mp hx
    obtain ⟨j, _, rfl⟩ := List.mem_map.mp hy
    rfl
  · obtain ⟨i, _, rfl⟩ := List.mem_map.mp hx
    exact fun z => nomatch z
theorem depth_ints : ∀ ns : List Int, PyData.depthAll (ns.map PyData.int) ≤ 1
  | [] => by simp [PyData.depthAll]
  | n :: ns => by
    have := depth_ints ns
    simp only [List.map_cons, PyData.depthAll, PyData.depth]
    omega
theorem foldl_max (ns : List Int) : ∀ n : Int, (ns.foldl max n ∈ n :: ns) ∧ ∀ y ∈ n :: ns, y ≤ ns.foldl max n := by
  induction ns with
  | nil => intro n; simp
  | cons k r ih =>
    intro n
    obtain ⟨h1, h2⟩ := ih (max n k)
    rw [List.foldl_cons]
    refine ⟨?_, fun y hy => ?_⟩
    · rcases List.mem_cons.mp h1 with e | e
      · rw [e]
        rcases Int.le_total n k with z | z
        · rw [Int.max_eq_right z]; simp
        · rw [Int.max_eq_left z]; simp
      · exact List.mem_cons_of_mem _ (List.mem_cons_of_mem _ e)
    · have hm := h2 (max n k) List.mem_cons_self
      rcases List.mem_cons.mp hy with e | e
      · rw [e]; omega
      · rcases List.mem_cons.mp e with e | e
        · rw [e]; omega
        · exact h2 y (List.mem_cons_of_mem _ e)
section
variable {X : Cx}
def rMaxDf (K : PySem.W.Frag) : List V → List V → Hp → VK → Prop := fun xs zs H Q => ∃ (a : Addr) (ns : List Int) (d : Int), xs = [.ref a] ∧ zs = [.int d] ∧ SqL K H a (ns.map V.int) ∧
  (ns = [] → Q (.int d) H) ∧ ∀ m, m ∈ ns → (∀ y ∈ ns, y ≤ m) → Q (.int m) H
theorem call_maxDf (hc : X.calm = true) (hu : X.A.units + 10 < cLine) : CallRK X (.builtin "max") ["default"] (rMaxDf X.K) := by
  intro pins s σ H xs zs us ws Q I r rz h
  obtain ⟨a, ns, d, rfl, rfl, hq, h0, h1⟩ := h
  obtain rfl := Vals.ref1 r
  obtain ⟨w, rfl, rw'⟩ := rz.one
  obtain ⟨its, rv, pl, hz⟩ := I.list hq
  have hd := depth_ints ns
  refine PySem.W.max_list_default (I.ok.hd hc) pl.isList (xs := ns.map PyData.int) (as := []) (by rw [List.toList_toArray]; exact ints_reads rv) (alike_ints ns) (by show X.A.units + 1 + _ < _; omega) (fun e h' tk k => ?_) fun y ys i v h' tk bs e hv rd k => ?_
  · exact ⟨.int d, H, I.kept (t' := tk) k, rw', h0 (List.map_eq_nil_iff.mp e)⟩
  · cases ns with
    | nil => cases e
    | cons n ns =>
      rw [List.map_cons] at e
      obtain ⟨rfl, rfl⟩ := List.cons.inj e
      rw [PySem.W.maxD_ints] at rd
      obtain ⟨t0, rfl, _⟩ := reads_int_inv rd
      obtain ⟨m1, m2⟩ := foldl_max ns n
      exact ⟨.int (ns.foldl max n), H, I.kept (t' := tk) k, ⟨_, rfl⟩, h1 _ m1 m2⟩
/-! ### isinstance(e, c) of a caught error with fields -/
theorem call_isExD {a : Addr} {oe : Obj} {cls : Value} {d : Option Addr} {pn : List (Addr × Obj)} (hz : Zc cls d oe) (hf : ∃ vs, oe.data = .fields vs) :
    CallR (X.suite a ((a, oe) :: pn)) (.builtin "isinstance") (fun xs H Q => ∃ D dd fs, cls = .ref D ∧ d = some dd ∧ H dd = some (.xd fs) ∧ ExcC X.K D ∧ rIsE X.K D a xs H Q) := by
  intro pins s σ H xs us Q I r h
  obtain ⟨D, dd, fs, rfl, rfl, hd, C, c, cv, b, rfl, hcv, e, q⟩ := h
  cases r with
  | cons rx rr =>
    cases rr with
    | cons rt rr =>
      cases rr
      cases rx
      have ec := hcv _ rt
      subst ec
      obtain ⟨hget, _⟩ := I.pin (a, oe) (List.mem_append.mpr (.inl List.mem_cons_self))
      obtain ⟨vs, hv⟩ := hf
      have hx : ObjOk X.prog X.w H s.heap dd (.xd fs) := I.hok dd _ hd
      obtain ⟨mA, ⟨od, es, ep, ho, _⟩, _⟩ := hx
      have J : PySem.W.InstAt s.heap a oe D (some od) := ⟨hget, hz.1, by unfold PySem.W.notCls; rw [hv] <;> rfl, by rw [hz.2]; exact ho⟩
      obtain ⟨cdD, hcD, _⟩ := PySem.W.any_some C.hd
      refine PySem.W.kia_one (PySem.W.kitx_exc (od := some od) (by rw [hcD]; rfl) C.hg C.hk C.hs C.ha C.hn C.ht C.hm) I.kIn J e (fun z => nomatch z) fun tk => ⟨.bl b, H, I.kept (t' := tk) fun _ _ z => z, rfl, q⟩
end
/-! ### what such a class has, by a check -/
theorem tail_refs : ∀ {l : List Value}, PySem.W.excTail [.type "ValueError", .type "Exception", .type "BaseException", .type "object"] l = true → PySem.HandSPX.refsVE l = true := by
  intro l
  induction l with
  | nil => intro h; revert h; decide
  | cons a t ih =>
    intro h
    cases a <;> first | exact ih h | exact h
theorem oex_of {K : PySem.W.Frag} {C : Addr} (q : PySem.W.excInitIn K C [.type "ValueError", .type "Exception", .type "BaseException", .type "object"] "ValueError.__new__" = true) (hd : PySem.W.hasDictIn K C = true)
    (sa : PySem.W.findIn K (.ref C) "__setattr__" = some (some (.builtin "object.__setattr__"))) (bp : PySem.W.subIn K (.ref C) (.type "BaseException") = some true) (tp : PySem.W.typeIn K (.ref C) = some (.type "type")) (kp : PySem.W.keepIn K (.ref C) = true) : OexC K C := by
  refine ⟨?_, sa, bp, tp, kp⟩
  unfold PySem.W.excInitIn at q
  split at q
  · rename_i dd cd sl ho
    split at q
    · rename_i C' bm k0 k1 k2 k3 n k5 hm hs
      simp only [Bool.and_eq_true, beq_iff_eq, Bool.not_eq_true'] at q
      obtain ⟨⟨⟨e1, e2⟩, hdel⟩, ht⟩ := q
      subst e1
      subst e2
      obtain ⟨cd1, hc1, hd1⟩ := PySem.W.any_some hd
      have ec : PySem.W.clsIn K C' = some cd := by unfold PySem.W.clsIn; rw [ho]
      rw [ec] at hc1
      cases hc1
      obtain ⟨nm, bs, mro, ns, qn, hdc, sn, sub, ab, col, del⟩ := cd
      dsimp only at hm hdel hd1
      subst hm
      subst hdel
      subst hd1
      have hsl : sl = #[k0, k1, k2, k3, some (.builtin "ValueError.__new__"), k5] := by
        obtain ⟨l⟩ := sl
        simp only at hs
        rw [hs]
      subst hsl
      exact ⟨nm, qn, ns, bs, bm, sn, sub, ab, col, dd, k0, k1, k2, k3, k5, ho, tail_refs ht⟩
    · cases q
  · cases q
/-! ### the promises of such an __init__ -/
/-- one field -/
def spX1 (C : Addr) (f : Str) (P : V → Prop) : Sp := fun vs H Q _ => ∃ (a : Addr) (y : V), vs = [.ref a, y] ∧ P y ∧ H a = some (exo a C none) ∧ ∀ d, H d = none → d ≠ a → Q .non (upd (upd H d (exd d [(f, y)])) a (exo a C (some d)))
def smallI (y : V) : Prop := ∃ i : Int, y = .int i ∧ i.natAbs < 1000000
theorem small_log {i : Int} (h : i.natAbs < 1000000) : i.natAbs.log2 < 1920 := by
  rcases Nat.eq_zero_or_pos i.natAbs with e | e
  · rw [e]; decide
  · exact Nat.lt_of_lt_of_le ((Nat.log2_lt (by omega)).mpr (Nat.lt_of_lt_of_le h (by decide : 1000000 ≤ 2 ^ 20))) (by decide)
end My
set_option maxRecDepth 100000
set_option maxHeartbeats 1000000
namespace My
open PySem PySem.Spec PyProof.Rows L2
/-! ### iter(t) of a tuple; list(o), o's class with its own __iter__ (a tuple's iterator) and its own __len__ -/
/-- a tuple's iterator at it, over the tuple at l, the next place i -/
def TitO (l it : Addr) (i : Nat) : HO := .ext fun h => h.IsTupleIter it l i
/-- at it stands something -/
def AnyO (it : Addr) : HO := .ext fun h => ∃ o, h.get? it = some o
theorem titO_ok {P : Program} {w : World} {H : Hp} {h : Heap} {l it : Addr} {i : Nat} (e : h.IsTupleIter it l i) : ObjOk P w H h it (TitO l it i) :=
  ⟨e, ⟨_, e.choose_spec.1⟩, fun h1 h2 q k => let ⟨o, ho, r⟩ := q; ⟨o, k _ ho, r⟩⟩
theorem anyO_ok {P : Program} {w : World} {H : Hp} {h : Heap} {it : Addr} (e : ∃ o, h.get? it = some o) : ObjOk P w H h it (AnyO it) := ⟨e, e, fun h1 h2 q k => let ⟨o, ho⟩ := q; ⟨o, k _ ho⟩⟩
section
variable {X : Cx} {pins : List (Addr × Obj)} {σ : L2.St} {H : Hp} {s : Shared} {l it S : Addr} {i : Nat}
theorem titO_get (I : Inv X pins σ H s) (e : H it = some (TitO l it i)) : s.heap.IsTupleIter it l i := (I.hok it _ e).1
theorem call_iterT : CallR X (.builtin "iter") (fun xs H Q => ∃ (l : Addr) (zs : List V), xs = [.ref l] ∧ SqT X.K H l zs ∧ ∀ it, H it = none → Q (.ref it) (upd H it (TitO l it 0))) := by
  intro pins s σ H xs us Q I r h
  obtain ⟨l, zs, rfl, hq, q⟩ := h
  obtain rfl := Vals.ref1 r
  obtain ⟨its, rv, pl, hz⟩ := I.tuple hq
  refine Calls.call_function_entry (by decide +kernel) (by decide +kernel) PySem.W.kdk_entry_iter (PySem.W.kdk_args_iter _) ?_
  unfold Builtin.«iter»
  refine wpAny_bind (m := someArgs "iter" 1 2 _) (wpAny_of_eq (a := [Value.ref l]) (by first | rfl | kernel_rfl!) ?_)
  show wpAny _ _ (pyIter (.ref l) >>= _) _ _ _
  refine wpAny_bind (wpAny_pyIter_tuple (show s.heap.IsTuple l its.toArray from pl) (wpAny_pure ⟨_, rfl, ?_⟩))
  exact ⟨.ref s.heap.objs.size, _, I.laid (t' := s.toks) (fun b u e => Heap.get?_push_of_some _ e) (Nat.le_refl _) (titO_ok ⟨_, Heap.get?_push_size _ rfl, rfl, rfl⟩), rfl, q _ (I.hok.fresh (Nat.le_refl _))⟩
/-- the end of a tuple's iterator; its record stays -/
theorem tup_end {prog : Program} {w : World} {A : Around} {E : Value → Shared → Prop} {items : Array Value} {Q : Option Value → Shared → Prop} (hh : A.handled = none) (hit : s.heap.IsTupleIter it l i) (ht : s.heap.IsTuple l items) (hx : items[i]? = none)
    (hQ : ∀ h', (∀ b o, b ≠ it → s.heap.get? b = some o → h'.get? b = some o) → (∃ o, h'.get? it = some o) → Q none { s with heap := h' }) : wpAny (model prog w) A (pyNext (.ref it)) Q E s := by
  obtain ⟨o, ho, hc, hd⟩ := id hit
  obtain ⟨ol, hol, _, nl, hdl⟩ := ht
  have hup := Heap.get?_update_self (Obj.mapFields (·.setIfInBounds 0 Value.none)) ho (Obj.isFreed_of_fields (Obj.data_mapFields hd _))
  unfold pyNext
  refine wpAny_bind (wpAny_attempt (wpAny_callSpecial?_slot (name := Str.ofString "__next__") hit.typeIs PySem.F.slot_tuple_iterator_next (wpAny_call_entry PySem.F.slot_tuple_iterator_next hit.typeIs PySem.F.entry_tuple_iterator_next ?_ (PySem.F.args_tuple_iterator_next_1 _))))
  show wpAny _ _ (field (.ref it) 0 >>= _) _ _ s; refine wpAny_bind (wpAny_field ho hd (x := .ref l) rfl ?_); show wpAny _ _ (if (Value.ref l == Value.none) = true then _ else _) _ _ s
  rw [if_neg (fun z => by revert z; exact Bool.false_ne_true : ¬ ((Value.ref l == Value.none) = true))]; show wpAny _ _ (field (.ref it) 1 >>= _) _ _ s
  refine wpAny_bind (wpAny_field ho hd (x := .int i 0) rfl ?_); show wpAny _ _ (seqItems? (.ref l) >>= _) _ _ s
  refine wpAny_bind (wpAny_seqItems hol hdl ?_)
  simp only [Int.toNat_natCast, hx]
  refine wpAny_bind (wpAny_rule (wpAny_bind (wpAny_setField ho hd (by simp) ?_))); show wpAny _ _ (newExc (.type "StopIteration") [] >>= _) _ _ _
  refine wpAny_bind ?_
  simp only [newExc, newTuple]
  refine wpAny_bind (wpAny_newObj_type ?_ (by size_fits)); refine wpAny_bind (m := firstArgMember _ _) (wpAny_of_eq (a := Value.none) (by first | rfl | (simp only [firstArgMember]; rfl)) ?_)
  refine wpAny_newObj_type ?_ (by size_fits)
  simp only [raiseNew]
  refine wpAny_bind (wpAny_handled ?_)
  first | rw [show A.in1.handled = none from hh] | rw [hh]
  refine wpAny_bind (wpAny_pure (wpAny_throw ?_))
  refine wpAny_bind (wpAny_isInstance (T := "StopIteration") (b := true) ⟨_, Heap.get?_push_size _ rfl, rfl⟩ isSubtype_stop (wpAny_pure (hQ _ (fun b ob hb e => ?_) ⟨_, Heap.get?_push_of_some _ (Heap.get?_push_of_some _ hup)⟩)))
  exact Heap.get?_push_of_some _ (Heap.get?_push_of_some _ ((Heap.get?_update_other _ _ (Ne.symm hb)).trans e))
/-- list.extend over it -/
theorem tit_loop {A1 : Around} {ys : List V} {Rs : Result → Shared → Prop} (hh : A1.handled = none) :
    ∀ (k i : Nat) (H : Hp) (s : Shared), ys.length - i = k → i ≤ ys.length → Inv X pins σ H s → H it = some (TitO l it i) → H l = some (.tup ys) → H S = some (.lst (ys.take i)) → ys.length < sizeLine →
      (∀ H2 s2, Inv X pins σ H2 s2 → (∀ b, b ≠ it → b ≠ S → H2 b = H b) → H2 S = some (.lst ys) → Rs (.ok (.ret .none)) s2) → codeAny (model X.prog X.w) A1 (.builtin "list.extend.loop" ⟨[.ref S, .ref it, .none], []⟩) Rs s := by
  intro k
  induction k with
  | zero =>
    intro i H s hk hi I h1 h2 h3 hz hR
    have hne : S ≠ it := ne_of h3 h1 (fun z => nomatch z)
    obtain ⟨its, rv, pl, _⟩ := I.tuple (SqT.of h2)
    refine codeAny_builtin PySem.F.entry_extend_loop ?_
    rw [Around.under_plainId PySem.F.plain_extend_loop _]
    show wpAny _ A1.in1 (pyNext (.ref it) >>= _) _ _ s
    have hno : (its.toArray)[i]? = none := by
      have := rv.length
      rw [List.getElem?_toArray, List.getElem?_eq_none_iff]
      omega
    refine wpAny_bind (tup_end hh (titO_get I h1) (show s.heap.IsTuple l its.toArray from pl) hno fun h' k' e' => wpAny_pure ?_)
    have J := I.write (t' := s.toks) (x := it) (e := it) (o := AnyO it) (by rw [h1]; exact True.intro) (.inl rfl) k' e' (anyO_ok e')
    refine hR _ _ J (fun b hb _ => upd_ne hb) ?_
    rw [upd_ne hne, h3, List.take_of_length_le (by omega)]
  | succ k ih =>
    intro i H s hk hi I h1 h2 h3 hz hR
    have hne : S ≠ it := ne_of h3 h1 (fun z => nomatch z)
    have hln : l ≠ it := ne_of h2 h1 (fun z => nomatch z)
    have hlS : l ≠ S := ne_of h2 h3 (fun z => nomatch z)
    obtain ⟨its, rv, pl, _⟩ := I.tuple (SqT.of h2)
    have hlen := rv.length
    have hlt : i < ys.length := by omega
    obtain ⟨u, hu, ru⟩ := rv.get (i := i) (x := ys[i]) (by simp [hlt])
    refine codeAny_builtin PySem.F.entry_extend_loop ?_
    rw [Around.under_plainId PySem.F.plain_extend_loop _]
    show wpAny _ A1.in1 (pyNext (.ref it) >>= _) _ _ s
    refine wpAny_bind (wpAny_pyNext_tuple_item (titO_get I h1) (show s.heap.IsTuple l its.toArray from pl) (x := u) (by rw [List.getElem?_toArray]; exact hu) fun h' hit hs => ?_)
    have J := I.write (t' := s.toks) (x := it) (e := it) (o := TitO l it (i + 1)) (by rw [h1]; exact True.intro) (.inl rfl) (fun b o hb e => hs.extBut b o hb e) ⟨_, hit.choose_spec.1⟩ (titO_ok hit)
    have h3' : upd H it (TitO l it (i + 1)) S = some (.lst (ys.take i)) := by rw [upd_ne hne]; exact h3
    show wpAny _ A1.in1 (updateSeq S (·.push u) >>= _) _ _ _
    obtain ⟨z, its3, n3, r3, hl3, e3⟩ := J.lstM h3'
    have hl4 : its3.length = i := by rw [← hl3, List.length_take]; omega
    refine wpAny_bind (wpAny_updateSeq e3 rfl (wpAny_pure ⟨plainId_quiet PySem.F.plain_extend_loop _, ?_⟩) (by rw [List.size_toArray]; omega) (by show (its3.toArray.push u).size ≤ sizeLine + 1; rw [Array.size_push, List.size_toArray]; omega))
    have et : ys.take (i + 1) = ys.take i ++ [ys[i]] := by rw [List.take_succ]; simp [hlt]
    have J2 := J.lset (f := (·.push u)) (its' := its3 ++ [u]) (t' := s.toks) (ys := ys.take (i + 1)) h3' e3 (by simp) (by rw [et]; exact r3.append (.cons ru .nil)) (by rw [List.length_take]; omega)
    refine ih (i + 1) _ _ (by omega) hlt J2 ?_ ?_ upd_same hz fun H2 s2 I2 k2 e2 => hR H2 s2 I2 (fun b hb hc => ?_) e2
    · rw [upd_ne (Ne.symm hne), upd_same]
    · rw [upd_ne hlS, upd_ne hln]; exact h2
    · rw [k2 b hb hc, upd_ne hc, upd_ne hb]
/-- what such a class must have -/
structure ItL (K : PySem.W.Frag) (C fi fl : Addr) : Prop where
  it : PySem.W.findIn K (.ref C) "__iter__" = some (some (.ref fi))
  itF : PySem.W.isFn K (.ref fi) = true
  ln : PySem.W.findIn K (.ref C) "__len__" = some (some (.ref fl))
  lnF : PySem.W.isFn K (.ref fl) = true

/-- list(o): its __iter__ gives a tuple's iterator, its __len__ a number -/
def rLstIt (C : Addr) (spI spL : Sp) (EI EL : XK) : List V → Hp → VK → Prop := fun xs H Q => ∃ a dx fs, xs = [.ref a] ∧ H a = some (.ins C dx fs) ∧ ∀ q, H q = none → q ≠ a →
  spI [.ref a] (upd H q (.lst [])) (fun v H1 => ∃ it l ys, v = .ref it ∧ H1 it = some (TitO l it 0) ∧ H1 l = some (.tup ys) ∧ H1 q = some (.lst []) ∧ H1 a = some (.ins C dx fs) ∧ ys.length < sizeLine ∧
    spL [.ref a] H1 (fun n H2 => H2 = H1 ∧ ∃ k : Int, n = .int k ∧ 0 ≤ k ∧ k < 1000) EL ∧ ∀ H2, (∀ b, b ≠ it → b ≠ q → H2 b = H1 b) → H2 q = some (.lst ys) → Q (.ref q) H2) EI
section
variable {X : Cx} {CI : CXT} {n : Nat} {C fi fl : Addr} {fdI fdL : FuncData} {psI psL : List Str} {spI spL : Sp} {EI EL : XK}
theorem call_at0 {f : Addr} {fd : FuncData} {ps : List Str} {sp : Sp} {E : XK} (G0 : FnOk X.prog X.w X.K X.mg X.base CX0 n f fd ps sp) (hb : Binds X.K fd ps []) {A : Around} (hr : Room n A) (hA : A.frames = X.A.frames)
    {pins : List (Addr × Obj)} {s : Shared} {σ : L2.St} {H : Hp} (I : Inv X pins σ H s) {vs : List V} {us : List Value} (r : Vals vs us) {Q : VK} {EE : Value → Shared → Prop} (h : sp vs H Q E) :
    wpAny (model X.prog X.w) A (call (.ref f) us) (EP X pins σ Q) EE s := by
  have e0 : Env0 X.prog X.w X.K X.mg X.base A X.stack s H := by
    have e := I.env0
    exact ⟨by rw [hA]; exact e.frames, e.mod, e.bs, e.bsz, e.funs, e.frf, e.hok, e.bare⟩
  have hl := G0.len _ _ _ _ h
  refine wpAny_call (codeAny_mono (G0.run A X.stack s H ⟨us, []⟩ us vs Q E hr e0 (by
    have := hb s us I.kIn (by rw [List.append_nil, ← r.length]; exact hl)
    simpa using this) r h) fun r s' hq => ?_)
  cases r with
  | error e => exact False.elim hq
  | ok fl =>
    cases fl with
    | ret w => exact I.after hq
    | next => exact False.elim hq
    | brk => exact False.elim hq
    | cont => exact False.elim hq
theorem call_listIt (hc : ItL X.K C fi fl) (FI : FnOk X.prog X.w X.K X.mg X.base CI n fi fdI psI spI) (bI : Binds X.K fdI psI []) (xI : Passes CI X EI)
    (FL : FnOk X.prog X.w X.K X.mg X.base CX0 n fl fdL psL spL) (bL : Binds X.K fdL psL []) (hr : Room (n + 4) X.A) : CallR X (.type "list") (rLstIt C spI spL EI EL) := by
  intro pins s σ H xs us Q I rv h
  obtain ⟨a, dx, fs, rfl, ha, hq⟩ := h
  obtain ⟨u, rfl, ru⟩ := rv.one
  cases ru
  have sb : Sub X (n + 2) X.A.in1.in1 := (Sub.in1 (Sub.in1 (⟨hr, rfl⟩ : Sub X (n + 4) X.A)))
  refine callType_codes (Q₁ := fun obj s₁ => obj = .ref s.heap.objs.size ∧ s₁ = { s with heap := s.heap.push { cls := .type "list", data := .seq #[] } }) PySem.F.called_list (PySem.F.typeCall_list_1 _) PySem.F.entry_list_init (code_list_new _ ⟨rfl, rfl⟩) fun obj s₁ h₁ => ?_
  obtain ⟨rfl, rfl⟩ := h₁
  have hS : (s.heap.push { cls := .type "list", data := .seq #[] }).get? s.heap.objs.size = some { cls := .type "list", data := .seq #[] } := Heap.get?_push_size _ rfl
  refine ⟨⟨_, hS, rfl⟩, PySem.F.args_list_init_2 _ _, ?_⟩
  have fr : H s.heap.objs.size = none := I.hok.fresh (Nat.le_refl _)
  have sp0 := hq _ fr (fun z => by rw [z, ha] at fr; cases fr)
  have I1 : Inv X pins σ (upd H s.heap.objs.size (.lst [])) { s with heap := s.heap.push { cls := .type "list", data := .seq #[] } } := I.lnew (its := []) (t' := s.toks) .nil (Nat.zero_le _)
  show wpAny _ _ (do let old ← Builtin.List.listItems (.ref s.heap.objs.size); Builtin.List.listUpdate (.ref s.heap.objs.size) (fun _ => #[]); letGo old.toList.reverse; Builtin.List.listExtendWith (.ref s.heap.objs.size) (.ref a) .none) _ _ _
  refine wpAny_bind ?_
  unfold Builtin.List.listItems
  refine wpAny_bind (wpAny_seqItems hS rfl (wpAny_pure ?_))
  show wpAny _ _ (updateSeq s.heap.objs.size (fun _ => #[]) >>= fun _ => letGo (#[] : Array Value).toList.reverse >>= fun _ => Builtin.List.listExtendWith (.ref s.heap.objs.size) (.ref a) .none) _ _ _
  refine wpAny_bind (wpAny_updateSeq hS rfl ?_)
  have I2 := I1.lset (f := fun _ => #[]) (its := []) (its' := []) (ys := []) (t' := s.toks) upd_same hS rfl .nil (Nat.zero_le _)
  rw [upd_upd] at I2
  refine wpAny_bind (wpAny_letGo ?_)
  have ha2 : upd H s.heap.objs.size (.lst []) a = some (.ins C dx fs) := by rw [upd_ne (ne_of_none ha fr)]; exact ha
  have hne : s.heap.objs.size ≠ a := fun z => by rw [z, ha] at fr; cases fr
  generalize hq0 : s.heap.objs.size = q at *
  generalize hH0 : upd H q (.lst []) = H0 at *
  obtain ⟨mA, J, _⟩ := ins_get I2.hok ha2
  obtain ⟨od, J, _⟩ := J.look
  obtain ⟨m0, hF⟩ := I2.fr
  unfold Builtin.List.listExtendWith
  refine wpAny_bind (J.type.here ?_)
  have h1 : Builtin.List.listSameRef (.ref q) (.ref a) = false := by simp [Builtin.List.listSameRef, hne]
  simp only [h1, (rfl : (Value.ref C == Value.type "list") = false), (rfl : (Value.ref C == Value.type "tuple") = false), Bool.or_false, Bool.false_eq_true, if_false]
  refine wpAny_bind (PySem.W.owit_iter hF I2.ok.mod.kin J hc.it hc.itF ?_)
  refine wpAny_mono (call_at FI bI xI (A := X.A.in1.in1) (sb.mono (by omega)).room sb.fr I2 (vs := [.ref a]) (.cons rfl .nil) sp0) (fun v s3 z => ?_) fun _ _ z => z
  obtain ⟨x, H1, I3, r3, it, l, ys, ex, e1, e2, e3, e4, hz, q1, q2⟩ := z
  subst ex
  obtain rfl : v = Value.ref it := r3
  have hit := titO_get I3 e1
  unfold PySem.W.OwitIt
  refine wpAny_specialOf (show s3.TypeIs (.ref it) "tuple_iterator" from hit.typeIs) PySem.F.slot_tuple_iterator_next.lookup ?_
  show wpAny _ _ _ _ _ s3
  refine wpAny_bind (wpAny_holding ?_)
  obtain ⟨mB, J3, _⟩ := ins_get I3.hok e4
  obtain ⟨od3, J3, _⟩ := J3.look
  obtain ⟨m3, hF3⟩ := I3.fr
  unfold Builtin.List.listLengthHint
  refine wpAny_bind (wpAny_bind (J3.type.here ((PySem.W.looks_findIn I3.kIn hc.ln).here ?_)))
  refine PySem.W.KFB.if_not rfl ?_
  refine PySem.W.KFB.if_so rfl ?_
  refine wpAny_bind (wpAny_rule (wpAny_bind (wpAny_attempt ?_)))
  refine PySem.W.len_K hF3 I3.ok.mod.kin J3 hc.ln hc.lnF (wpAny_mono (call_at0 FL bL (A := X.A.in1.in1.in1) (Sub.in1 (sb.mono (show n + 1 ≤ n + 2 by omega))).room sb.fr I3 (vs := [.ref a]) (.cons rfl .nil) q1) (fun v s4 z => ?_) fun _ _ z => z)
  obtain ⟨x, H2, I4, r4, eH, k0, ek, hk0, hk1⟩ := z
  subst ek
  subst eH
  obtain ⟨tk4, rfl⟩ := r4
  refine ⟨⟨hk0, by omega⟩, ?_⟩
  refine wpAny_bind (wpAny_of_eq (a := some k0) rfl ?_)
  show wpAny _ _ (if Builtin.List.listTooLong k0.toNat = true then _ else _) _ _ _
  refine PySem.W.KFB.if_not (notLongL (by rw [sizeLine_eq]; omega)) (wpAny_pure ?_)
  have I5 := I4.tok (s4.toks + 1)
  have hne1 : q ≠ it := ne_of e3 e1 (fun z => nomatch z)
  have go : ∀ s5, Inv X pins σ H2 s5 → codeAny (model X.prog X.w) X.A.in1 (.builtin "list.extend.loop" ⟨[.ref q, .ref it, .none], []⟩) (wants (fun r s₂ => r = .none ∧ EP X pins σ Q (.ref q) s₂) X.xe) s5 := fun s5 I6 =>
    tit_loop (A1 := X.A.in1) (Rs := wants (fun r s₂ => r = .none ∧ EP X pins σ Q (.ref q) s₂) X.xe) (show X.A.in1.handled = none from hr.hd) ys.length 0 H2 s5 (by omega) (Nat.zero_le _) I6 e1 e2 (by rw [List.take_zero]; exact e3) hz fun H7 s7 I7 k7 e7 => ⟨rfl, .ref q, H7, I7, rfl, q2 H7 k7 e7⟩
  refine wpAny_ite_split (fun _ => ?_) (fun _ => wpAny_pure ⟨plainId_quiet PySem.F.plain_extend_loop _, go _ I5⟩)
  refine wpAny_bind (wpAny_rule (wpAny_bind ?_))
  show wpAny _ _ (updateSeq q (·.push .none) >>= fun _ => updateSeq q (·.pop)) _ _ _
  obtain ⟨z, its, n5, r5, hl5, e5⟩ := I5.lstM e3
  cases r5
  refine wpAny_bind (wpAny_updateSeq e5 rfl ?_)
  have I6 := I5.lset (f := (·.push Value.none)) (its' := [Value.none]) (ys := [.non]) (t' := s4.toks + 1) e3 e5 (by simp) (.cons rfl .nil) (by rw [List.length_singleton, sizeLine_eq]; decide)
  obtain ⟨z6, its6, n6, r6, hl6, e6⟩ := I6.lstM upd_same
  obtain ⟨u6, rfl, ru6⟩ := r6.one
  refine wpAny_updateSeq e6 rfl (wpAny_pure ⟨plainId_quiet PySem.F.plain_extend_loop _, go _ ?_⟩) (by show 1 ≤ sizeLine; rw [sizeLine_eq]; decide) (by show 0 ≤ sizeLine + 1; exact Nat.zero_le _)
  have I7 := I6.lset (f := (·.pop)) (its := [u6]) (its' := []) (ys := []) (t' := s4.toks + 1) upd_same e6 (by rfl) .nil (Nat.zero_le _)
  rw [upd_upd] at I7
  have hH : upd H2 q (.lst []) = H2 := by
    funext b
    by_cases hb : b = q
    · rw [hb, upd_same, e3]
    · rw [upd_ne hb]
  rw [hH] at I7
  exact I7
end
end
end My
set_option maxRecDepth 100000
set_option maxHeartbeats 2000000
namespace My
open PySem PySem.Spec PyProof.Rows L2
/-! ### enumerate(t), t a tuple -/
theorem enum_new1 {v : Value} {o : Obj} {G : Heap → Prop} (B : Begins v o G) :
    Meets (Builtin.«enumerate.__new__» ⟨[.type "enumerate", v], []⟩) (fun _ R s => G s.heap ∧
      R (.ok (.ret (.ref (s.heap.push o).objs.size))) { s with heap := (s.heap.push o).push { cls := .type "enumerate", data := .fields #[.none, .bool false, .ref s.heap.objs.size, rawInt 0, .none, .none] } }) := by
  refine .of_wp fun prog w A R s h => ?_
  obtain ⟨hp, g, d, tk, os⟩ := s
  obtain ⟨h1, h⟩ := h
  have hsub := sub_enumerate
  have goB : ∀ {A' : Around} {E Q : Value → Shared → Prop}, Q (.ref hp.objs.size) ⟨hp.push o, g, d, tk, os⟩ → wpAny (model prog w) A' (pyIter v) Q E ⟨hp, g, d, tk, os⟩ := fun q => B.iter prog w _ _ ⟨hp, g, d, tk, os⟩ _ h1 q
  wp_walk using goB
  refine wpAny_stack_any fun st => wpAny_pure ?_
  split
  · rename_i c _ _ _ _ _
    cases (c == Value.type "enumerate") <;> (wp_walk using goB; exact ⟨_, rfl, h⟩)
  · wp_walk using goB
    exact ⟨_, rfl, h⟩
theorem call_enum1 {prog : Program} {w : World} {A : Around} {E : Value → Shared → Prop} {s : Shared} {v : Value} {o : Obj} {G : Heap → Prop} {Q : Value → Shared → Prop} (B : Begins v o G) (h1 : G s.heap)
    (h : ∀ h', IsEnum h' (s.heap.objs.size + 1) s.heap.objs.size 0 .none → h'.get? s.heap.objs.size = some o → (∀ b o, s.heap.get? b = some o → h'.get? b = some o) → Q (.ref (s.heap.objs.size + 1)) { s with heap := h' }) :
    wpAny (model prog w) A (call (.type "enumerate") [v]) Q E s := by
  refine callType_new PySem.F.called_enumerate (by decide) (PySem.F.typeCall_enumerate_1 _) (PySem.F.newCall_enumerate_1 _) (fun obj => PySem.F.args_object_init_2 obj _) PySem.F.entry_enumerate_new (enum_new1 B) ⟨h1, ?_⟩
  have hz : (s.heap.push o).objs.size = s.heap.objs.size + 1 := Heap.size_push ..
  show _ ∧ _
  rw [hz]
  have he : IsEnum ((s.heap.push o).push { cls := .type "enumerate", data := .fields #[.none, .bool false, .ref s.heap.objs.size, rawInt 0, .none, .none] }) (s.heap.objs.size + 1) s.heap.objs.size 0 .none := by
    have q := Heap.get?_push_size (s.heap.push o) (o := { cls := .type "enumerate", data := .fields #[.none, .bool false, .ref s.heap.objs.size, rawInt 0, .none, .none] }) rfl
    rwa [hz] at q
  exact ⟨⟨_, he, rfl⟩, h _ he (Heap.get?_push_of_some _ (Heap.get?_push_size _ B.free)) fun b o x => Heap.get?_push_of_some _ (Heap.get?_push_of_some _ x)⟩
def IteT (K : PySem.W.Frag) (a : Addr) : It :=
  ⟨fun i H => ∃ (xs : List V) (x : V), SqT K H a xs ∧ xs[i]? = some x, fun i H v H' => ∃ T x, v = .ref T ∧ H T = none ∧ H' = upd H T (.tup [.int (i : Nat), x]) ∧ ∀ xs, SqT K H a xs → xs[i]? = some x, fun i H => ∃ xs : List V, SqT K H a xs ∧ xs.length ≤ i⟩
theorem turn_enumT {P : Program} {w : World} {K : PySem.W.Frag} {elts : List Expr} {kk : Nat} {tpos : Pos} (a e it : Addr) (hae : a ≠ e) (hai : a ≠ it) :
    Turn P w K (.Tuple elts kk tpos) (IteT K a) [e, it] e (fun i h => (∃ old, IsEnum h e it ((i : Nat) : Int) old) ∧ h.IsTupleIter it a i ∧ e ≠ it) where
  mem := by simp
  obj := fun i h st b hb => by
    obtain ⟨⟨old, he⟩, ⟨o, ho, hc, hd⟩, _⟩ := st
    have e' : b = e ∨ b = it := by simpa using hb
    rcases e' with z | z
    · rw [z]; exact ⟨_, he, fun v q => nomatch q⟩
    · rw [z]; exact ⟨o, ho, fun v q => by rw [hd] at q; cases q⟩
  keep := fun i h h' st k => let ⟨⟨old, he⟩, hi, hne⟩ := st; ⟨⟨old, k e (by simp) _ he⟩, hi.at fun o q => k it (by simp) o q, hne⟩
  item := by
    intro X hP hw hK hc i pins s σ H E I hf st hg
    subst hP hw hK
    obtain ⟨⟨old, he⟩, hit, hne⟩ := st
    obtain ⟨xs, x, hq, hx⟩ := hg
    obtain ⟨its, rv, p, hz⟩ := I.tuple hq
    obtain ⟨u, hu, ru⟩ := rv.get hx
    have hel : e < s.heap.objs.size := Heap.lt_size he
    have hil : it < s.heap.objs.size := by obtain ⟨_, q, _⟩ := hit; exact Heap.lt_size q
    have hlt : i < its.toArray.size := by rw [List.size_toArray]; exact (List.getElem?_eq_some_iff.mp hu).1
    refine wpAny_pyNext_enum_itemD (Draws.tuple (A := X.A.in1) (show X.A.in1.handled = none from I.ok.hd hc) it a hai its.toArray) he ⟨hit, p⟩ hlt hne (by simp [hne, Ne.symm hae]) fun x1 h' tk px ho st' hT hsz hk => ?_
    obtain ⟨hit', _⟩ := st'
    have ex1 : x1 = u := by
      rw [List.getElem?_toArray, hu] at px
      exact (Option.some.inj px).symm
    subst ex1
    refine ⟨_, rfl, wpAny_letOwnedTupleGo_enum (s := { s with heap := h', toks := tk + 1 }) ho fun h'' he' sb => ?_⟩
    have hT2 : h''.get? s.heap.objs.size = some { cls := .type "tuple", data := .seq #[.int i tk, x1] } := (sb.2 _ (Nat.ne_of_gt hel)).trans hT
    have new : ObjOk X.prog X.w (upd H s.heap.objs.size (.tup [.int (i : Nat), x])) h'' s.heap.objs.size (.tup [.int (i : Nat), x]) :=
      ⟨by show 2 ≤ sizeLine; decide, [.int i tk, x1], .cons ⟨_, rfl⟩ (.cons ru .nil), ⟨_, hT2, rfl, _, rfl⟩⟩
    have I1 : Inv X pins σ (upd H s.heap.objs.size (.tup [.int (i : Nat), x])) { s with heap := h'', toks := tk + 1 } :=
      I.turnedNew (ch := [e, it]) (fun b ob hb q => (sb.2 b (fun z => hb (by simp [z]))).trans (hk b ob (fun z => hb (by simp [z])) (fun z => hb (by simp [z])) q)) hf (Nat.le_refl _) new
    refine ⟨.ref s.heap.objs.size, _, I1, rfl, ⟨_, x, rfl, I.hok.fresh (Nat.le_refl _), rfl, fun ys hy => by rw [I.tuple_inj hy hq]; exact hx⟩, ⟨⟨x1, ?_⟩, hit'.at fun o q => (sb.2 it (Ne.symm hne)).trans q, hne⟩, fun b hb => ?_⟩
    · rw [show ((i + 1 : Nat) : Int) = (i : Int) + 1 by omega]; exact he'
    · have hb' : b < s.heap.objs.size := by
        rcases (by simpa using hb : b = e ∨ b = it) with z | z
        · rw [z]; exact hel
        · rw [z]; exact hil
      rw [upd_ne (Nat.ne_of_lt hb')]; exact (hf b hb).1
  done := by
    intro X hP hw hK hc i pins s σ H E I hf st hg
    subst hP hw hK
    obtain ⟨⟨old, he⟩, hit, hne⟩ := st
    obtain ⟨xs, hq, hx⟩ := hg
    obtain ⟨its, rv, p, hz⟩ := I.tuple hq
    obtain ⟨f0, f1, f2, f3, f4, f5⟩ := hf it (by simp)
    have hl := rv.length
    have hno : (its.toArray)[i]? = none := by rw [List.getElem?_toArray, List.getElem?_eq_none_iff]; omega
    have D : Draws X.prog X.w X.A.in1 it [it, a] i (fun _ _ => True) (fun j h => j = i ∧ h.IsTupleIter it a i ∧ h.IsTuple a its.toArray) :=
      ⟨fun _ _ st => ⟨_, st.2.1.choose_spec.1⟩, fun _ _ _ st hk => ⟨st.1, st.2.1.at fun o q => hk it (by simp) o q, st.2.2.at fun o q => hk a (by simp) o q⟩,
        fun j s Q E hj st _ => absurd st.1 (Nat.ne_of_lt hj), fun s Q E st hE => wpAny_nextOf_tuple_end (show X.A.in1.handled = none from I.ok.hd hc) st.2.1 st.2.2 hno hE⟩
    exact wpAny_pyNext_enum_endD D he ⟨rfl, hit, p⟩ fun h' eb => ⟨rfl, I.turned (t' := s.toks) (fun b o hb q => eb b o hb q) f0 f1 f3 f4 f5⟩
  self := fun A i s Q E st h => let ⟨⟨_, he⟩, _⟩ := st; wpAny_pyIter_enum he h
def iEnumT (K : PySem.W.Frag) (ta : TA) : TI := fun σ H R => ta σ H fun vs H1 => ∃ a xs, vs = [.ref a] ∧ SqT K H1 a xs ∧ R (IteT K a) H1
theorem pi_enumT {X : Cx} {e : Expr} {ta : TA} {p pos tpos : Pos} {elts : List Expr} {kk : Nat} (hg : Gl X "enumerate") (hm : X.mg "enumerate" = none) (ha : PA X [e] ta) (hs : starEach [e] X.env = [(false, eval e X.env)] := by rfl) :
    PI X (.Tuple elts kk tpos) (.Call (.Name "enumerate" p) [e] [] pos) (iEnumT X.K ta) := by
  refine ⟨fun pins s σ H R I h => ?_⟩
  refine Call_ (ld_blt I hg hm boot_enumerate (PyProof.Rows.callWith_type1 (thn (ha.run pos pins s σ H _ I h) fun us s1 ⟨vs, H1, I1, r1, a, xs, ex, hq, q⟩ => ?_) hs rfl))
  subst ex
  obtain rfl := Vals.ref1 r1
  obtain ⟨its, rv, p', hz⟩ := I1.tuple hq
  have hal : a < s1.heap.objs.size := by obtain ⟨_, z, _⟩ := p'; exact Heap.lt_size z
  refine call_enum1 (begins_tuple a its.toArray) (show s1.heap.IsTuple a its.toArray from p') fun h' he hit hk => wpAny_pyIter_enum he ?_
  have I2 : Inv X pins σ H1 { s1 with heap := h' } := I1.kept (t' := s1.toks) hk
  refine ⟨s1.heap.objs.size + 1, [s1.heap.objs.size + 1, s1.heap.objs.size], _, _, H1, rfl, I2, turn_enumT a (s1.heap.objs.size + 1) s1.heap.objs.size (Nat.ne_of_lt (Nat.lt_succ_of_lt hal)) (Nat.ne_of_lt hal), ⟨⟨.none, he⟩, ⟨_, hit, rfl, rfl⟩, Nat.succ_ne_self _⟩, fun b hb => ?_, q⟩
  have hle : s1.heap.objs.size ≤ b := by
    rcases (by simpa using hb : b = s1.heap.objs.size + 1 ∨ b = s1.heap.objs.size) with z | z
    · rw [z]; exact Nat.le_add_right _ _
    · rw [z]; exact Nat.le_refl _
  exact I1.fpOk hle (I1.hok.fresh hle)
theorem walk_enumT {K : PySem.W.Frag} {a : Addr} {xs : List V} : Walk (IteT K a) xs.length (fun H => SqT K H a xs) (YPair (fun i => some (.int (i : Nat))) (fun i => xs[i]?)) := by
  refine ⟨fun i _ hi q => ⟨xs, xs[i], q, by simp [hi]⟩, fun _ q => ⟨xs, q, Nat.le_refl _⟩, fun i H v H' _ q y => ?_⟩
  obtain ⟨T, x, h1, h2, h3, h4⟩ := y
  exact ⟨T, .int (i : Nat), x, h1, h2, h3, rfl, h4 xs q⟩
end My
set_option maxRecDepth 100000
set_option maxHeartbeats 4000000
namespace PySem.SeqAt
open PySem PySem.Spec PyProof.Rows
/-- tuple's own __lt__, called as sorting calls it -/
theorem call_tuple_lt {prog : Program} {w : World} {A : Around} {s : Shared} {E : Value → Shared → Prop} {Q : Value → Shared → Prop} {l b : Addr} {items items2 : Array Value} {e r : Nat → Bool} (hl : s.heap.IsTuple l items) (hb : s.heap.IsTuple b items2)
    (he : ∀ j (h1 : j < items.size) (h2 : j < items2.size), EqAt A.in1 s items[j] items2[j] (e j)) (hr : ∀ j (h1 : j < items.size) (h2 : j < items2.size), e j = false → RcLt A.in1 s items[j] items2[j] (r j))
    (h : Q (.bool (firstLt e r (decide (items.size < items2.size)) (List.range (min items.size items2.size)))) s) : wpAny (model prog w) A (call (.builtin "tuple.__lt__") [.ref l, .ref b]) Q E s := by
  obtain ⟨⟨cls, dd, data, sl⟩, ho, hc, n, hd⟩ := id hl
  obtain ⟨⟨cls2, dd2, data2, sl2⟩, ho2, hc2, n2, hd2⟩ := id hb
  simp only at hc hd hc2 hd2
  subst hc hd hc2 hd2
  exact call_meets F.slot_tuple_lt ⟨_, ho, rfl⟩ F.entry_tuple_lt (F.args_tuple_lt_2 _ _) (tuple_ltAt l b items items2 n n2 dd dd2 sl sl2 e r) ⟨ho, ho2, he, hr, h⟩
end PySem.SeqAt
namespace PySem.W
open PySem PySem.Calls PyProof.Rows PySem.SeqAt
abbrev encT (b : List Int) : PyData := .tuple (b.map .int)
abbrev encL (b : List Int) : PyData := .list (b.map .int)
section
variable {prog : Program} {w : World} {A : Around} {E : Value → Shared → Prop} {s : Shared}
theorem oneLt_tup {xs ys : List PyData} {a b : Value} {as bs : List Addr} {Q : Bool → Shared → Prop} (ra : Reads s.heap a (.tuple xs) as) (rb : Reads s.heap b (.tuple ys) bs) (hal : alikeAll xs ys = true)
    (hu : A.units + min (PyData.depth (.tuple xs)) (PyData.depth (.tuple ys)) < cLine) (hq : Q (dataLt (.tuple xs) (.tuple ys)) s) : wpAny (model prog w) A (oneLt' true a b) Q E s := by
  cases ra with
  | @tuple l o vs n _ as₁ h1 h2 h3 h4 =>
    cases rb with
    | @tuple l' o' vs' n' _ bs₁ k1 k2 k3 k4 =>
      have n1 : vs.size = xs.length := by simpa using ReadsAll.length _ _ _ h4
      have n2 : vs'.size = ys.length := by simpa using ReadsAll.length _ _ _ k4
      rw [dataLt_tuple, ← firstLt_toks xs ys hal, ← n1, ← n2] at hq
      rw [oneLt'_eq]
      simp only [if_true]
      refine wpAny_bind (wpAny_cRoomFor (room_here hu) ?_)
      refine wpAny_bind (wpAny_callSpecialIfBound?_slot (T := "tuple") ⟨_, h1, h2⟩ F.slot_tuple_lt (call_tuple_lt (e := pairEq xs ys) (r := fun j => dataLt (xs.getD j .none) (ys.getD j .none)) ⟨_, h1, h2, _, h3⟩ ⟨_, k1, k2, _, k3⟩ (fun j j1 j2 => ?_) (fun j j1 j2 hj => ?_) ?_))
      · have := eqAt_alikeAll xs ys A.in1 s vs.toList vs'.toList _ _ h4 k4 hal (room_in hu) j (by simpa using j1) (by simpa using j2)
        simpa using this
      · have := rcLt_alikeAll xs ys A.in1 s vs.toList vs'.toList _ _ h4 k4 hal (room_in hu) j (by simpa using j1) (by simpa using j2) hj
        simpa using this
      · exact wpAny_truthy_bool hq
end
/-! ### which kind of keys tuples of ints are -/
section
variable {M : Model} {A : Around} {E : Value → Shared → Prop} {s : Shared}
theorem tup_firsts : ∀ (vs : List Value) (bs : List (List Int)) {Q : List (Option Value) → Shared → Prop}, EachIs (fun v b => ∃ as, Reads s.heap v (encT b) as) vs bs → (∀ fs : List (Option Value), EachIs (fun f b => f.isSome = !b.isEmpty) fs bs → Q fs s) → wpAny M A (vs.mapM firstOfTuple') Q E s
  | [], [], _, _, h => by rw [List.mapM_nil]; exact wpAny_pure (h [] .nil)
  | [], _ :: _, _, e, _ => nomatch e
  | _ :: _, [], _, e, _ => nomatch e
  | v :: vs, b :: bs, Q, .cons ⟨as, r⟩ e, h => by
    rw [List.mapM_cons]
    refine wpAny_bind ?_
    rw [kas_first_eq]
    cases r with
    | @tuple a o xs n _ _ ho hc hd hr =>
      refine wpAny_bind (Looks.here (show Looks M s.heap (typeOf (.ref a)) o.cls from (Looks.ld ho).andThen .now) ?_)
      rw [hc, if_neg (by first | decide | simp)]
      refine wpAny_bind (listItems_at ho hd (wpAny_pure ?_))
      refine wpAny_bind (tup_firsts vs bs (Q := fun fs s' => wpAny M A (pure (xs[0]? :: fs)) Q E s') e fun fs hf => wpAny_pure (h _ (.cons ?_ hf)))
      have hl := SeqAt.ReadsAll.length _ _ _ hr
      rw [List.length_map] at hl
      have hl : xs.size = b.length := by simpa using hl
      cases b with
      | nil => rw [Array.getElem?_eq_none (by rw [hl]; exact Nat.zero_le _)]; rfl
      | cons x t => rw [Array.getElem?_eq_getElem (by rw [hl]; exact Nat.succ_pos _)]; rfl
theorem tup_kind {vs : List Value} {bs : List (List Int)} {Q : SortKind → Shared → Prop} (e : EachIs (fun v b => ∃ as, Reads s.heap v (encT b) as) vs bs) {b0 : List Int} {bt : List (List Int)} (hb : bs = b0 :: bt) (hne : [] ∈ bs)
    (h : Q (if b0.isEmpty then oneType' else general') s) : wpAny M A (keyKind' vs.toArray) Q E s := by
  rw [keyKind'_eq, List.mapM_toArray, map_eq_pure_bind]
  refine wpAny_bind (wpAny_bind (tup_firsts vs bs e fun fs hf => wpAny_pure ?_))
  have hall : ¬ (fs.toArray.all fun x => x.isSome) = true := fun z => by
    simp only [List.all_toArray, List.all_eq_true] at z
    have : ∀ {fs : List (Option Value)} {bs : List (List Int)}, EachIs (fun f b => f.isSome = !b.isEmpty) fs bs → (∀ f ∈ fs, f.isSome = true) → [] ∉ bs := by
      intro fs bs hf
      induction hf with
      | nil => intro _ h; cases h
      | cons h t ih =>
        intro z hm
        rcases List.mem_cons.mp hm with hm | hm
        · subst hm
          have := z _ List.mem_cons_self
          rw [h] at this
          cases this
        · exact ih (fun f hf => z f (List.mem_cons_of_mem _ hf)) hm
    exact this hf z hne
  rw [if_neg hall]
  subst hb
  cases hf with
  | @cons f _ ft _ h0 ht =>
  have e0 : ((f :: ft).toArray[0]?.bind id) = f := by simp
  rw [e0]
  cases b0 with
  | cons x t =>
    have h0 : f.isSome = true := h0
    rw [if_pos h0]
    exact wpAny_pure h
  | nil =>
    have h0 : f.isSome = false := h0
    rw [if_neg (by rw [h0]; decide)]
    rw [oneTypeOnly'_eq, List.mapM_toArray, map_eq_pure_bind]
    have tk : ∀ {vs : List Value} {bs : List (List Int)}, EachIs (fun v b => ∃ as, Reads s.heap v (encT b) as) vs bs → ∀ v ∈ vs, Looks M s.heap (typeOf v) (.type "tuple") := by
      intro vs bs e
      induction e with
      | nil => intro v hv; cases hv
      | cons h t ih =>
        intro v hv
        rcases List.mem_cons.mp hv with rfl | hv
        · obtain ⟨as, r⟩ := h
          exact looks_reads r
        · exact ih v hv
    refine wpAny_bind (wpAny_bind (wpAny_bind (kas_mapM (r := Value.type "tuple") _ (fun v hv Q' hq => (tk e v hv).here hq) (wpAny_pure ?_))))
    have hlen : 0 < vs.length := by rw [e.length]; exact Nat.succ_pos _
    have hall2 : ((List.map (fun _ => Value.type "tuple") vs).toArray.all fun x => x == Value.type "tuple") = true := by
      simp only [List.all_toArray, List.all_map, List.all_eq_true]
      intro _ _
      exact beq_self_eq_true _
    have h00 : (List.map (fun _ => Value.type "tuple") vs).toArray[0]? = some (Value.type "tuple") := by
      cases vs with
      | nil => cases hlen
      | cons a t => simp
    rw [h00]
    simp only [hall2, if_true]
    exact wpAny_pure (wpAny_pure h)
end
section
variable {prog : Program} {w : World} {A : Around} {E : Value → Shared → Prop} {s : Shared}
theorem alike_encT (b b' : List Int) : alike (encT b) (encT b') = true := by
  show alikeAll _ _ = true
  exact alike_ints b b'
theorem depth_encT (b : List Int) : (encT b).depth = 1 := by
  show PyData.depth (.tuple _) = 1
  simp only [PyData.depth]
  rw [depth_ints]
theorem SortsAt.tupI {vs : List Value} {bs : List (List Int)} (e : EachIs (fun v b => ∃ as, Reads s.heap v (encT b) as) vs bs) (hu : A.units + 2 < cLine) : SortsAt prog w A s (dataKind s.heap (bs.map encT)) vs := by
  have e' := each_map (R := fun v d => ∃ as, Reads s.heap v d as) encT e
  have hal : AllAlike (bs.map encT) := AllAlike.of fun b b' => alike_encT b b'
  have hd : ∀ d ∈ bs.map encT, A.units + d.depth < cLine := fun d hd => by
    obtain ⟨b, _, rfl⟩ := List.mem_map.mp hd
    rw [depth_encT]; omega
  by_cases hne : [] ∈ bs
  · cases bs with
    | nil => cases hne
    | cons b0 bt =>
    refine ⟨fun v hv => ?_, ⟨_, ?_, fun h2 E Q hq => tup_kind e rfl hne hq⟩⟩
    · obtain ⟨d, hd, as, r⟩ := e'.left v hv
      exact ⟨_, dataKind_some hal hd r⟩
    · intro E x y a b Q ha hb hq
      obtain ⟨d, as, hd1, ra, rfl⟩ := dataKind_inv ha
      obtain ⟨d', as', hd', rb, rfl⟩ := dataKind_inv hb
      have hq : Q (dataLt d d') s := hq
      obtain ⟨c, _, rfl⟩ := List.mem_map.mp hd1
      obtain ⟨c', _, rfl⟩ := List.mem_map.mp hd'
      have hroom : A.units + min (encT c).depth (encT c').depth < cLine := by rw [depth_encT, depth_encT]; omega
      split
      · rw [keyLt'_oneType]
        exact oneLt_tup ra rb (alike_ints c c') hroom hq
      · show wpAny _ _ (oneLt' false x y) _ _ _
        exact oneLt_alike (fun z => nomatch z) ra rb (alike_encT c c') (fun z => nomatch z) hroom hq
  · exact SortsAt.data e' hal (.inl fun d hd => by
      obtain ⟨b, hb, rfl⟩ := List.mem_map.mp hd
      cases b with
      | nil => exact absurd hb hne
      | cons x t => exact ⟨_, _, rfl⟩) hd
theorem dataLe_encT : dataLe false encT = fun p q : List Int => decide (p ≤ q) := by
  rw [← dataLe_rows (fun b : List Int => b)]
  funext p q
  show (!dataLt (encT q) (encT p)) = !dataLt (encL q) (encL p)
  rw [show dataLt (encT q) (encT p) = dataLt (encL q) (encL p) from (dataLt_tuple _ _).trans (dataLt_list _ _).symm]
/-- sorted of tuples of ints, empty ones among them -/
theorem sorted_tupsI {l : Addr} {vs : List Value} {bs : List (List Int)} {R : Value → List Int → Prop} {Q : Value → Shared → Prop} (hl : s.heap.IsList l vs.toArray) (e : EachIs R vs bs) (er : EachIs (fun v b => ∃ as, Reads s.heap v (encT b) as) vs bs) (hL : bs.length ≤ sizeLine)
    (hu : A.units + 4 < cLine) (h : ∀ out, out.length = bs.length → EachIs R out (bs.mergeSort fun p q => decide (p ≤ q)) → Q (.ref (s.heap.objs.size + 1)) { s with heap := sortedAll s.heap vs (List.toArray out) }) :
    wpAny (model prog w) A (call (.builtin "sorted") [.ref l]) Q E s := by
  have er' : EachIs (fun v b => ∃ as, Reads (sortingHeap (copyHeap s.heap vs) (s.heap.objs.size + 1) vs) v (encT b) as) vs bs := er.mono fun _ _ ⟨as, r⟩ => ⟨as, PyProof.Rows.Reads.keeps (fun _ _ => sorting_copy_old) r⟩
  refine sorted_vals hl (SortsAt.tupI (s := { s with heap := sortingHeap (copyHeap s.heap vs) (s.heap.objs.size + 1) vs }) er' (by show A.units + 1 + 1 + 2 < cLine; omega)) (by rw [e.length]; exact hL) ?_
  refine h _ (by rw [sortVals_length false rfl]; exact e.length) ?_
  have := sortVals_data false e er' (AllAlike.of fun b b' => alike_encT b b')
  rw [dataLe_encT] at this
  exact this
end
end PySem.W
namespace L2
open PySem PySem.Spec PyProof.Rows PySem.W
theorem vals_each {Rv : V → List Int → Prop} : ∀ {xs : List V} {us : List Value} {bs : List (List Int)}, Vals xs us → EachIs Rv xs bs → EachIs (fun v b => ∃ x, RelV x v ∧ Rv x b) us bs
  | _, _, _, .nil, .nil => .nil
  | _, _, _, .cons r t, .cons h e => .cons ⟨_, r, h⟩ (vals_each t e)
theorem each_vals {Rv : V → List Int → Prop} : ∀ {us : List Value} {bs : List (List Int)}, EachIs (fun v b => ∃ x, RelV x v ∧ Rv x b) us bs → ∃ ys, Vals ys us ∧ EachIs Rv ys bs
  | _, _, .nil => ⟨[], .nil, .nil⟩
  | _, _, .cons ⟨x, r, h⟩ e => let ⟨ys, a, b⟩ := each_vals e; ⟨x :: ys, .cons r a, .cons h b⟩
def rSortD (K : PySem.W.Frag) (enc : List Int → PyData) : List V → Hp → VK → Prop := fun vs H Q => ∃ (a : Addr) (xs : List V) (bs : List (List Int)) (Rv : V → List Int → Prop), vs = [.ref a] ∧ SqL K H a xs ∧ EachIs Rv xs bs ∧ (∀ x b, Rv x b → Dp K H x (enc b)) ∧
  ∀ ys p, EachIs Rv ys (bs.mergeSort fun p q => decide (p ≤ q)) → H p = none → Q (.ref p) (upd H p (.lst ys))
section
variable {X : Cx}
theorem cr_sortTI (hu : X.A.units + 10 < cLine) : CallR X (.builtin "sorted") (rSortD X.K encT) := by
  intro pins s σ H vs us Q I r h
  obtain ⟨a, xs, bs, Rv, rfl, hs, hx, hd, q⟩ := h
  obtain ⟨its, rv, hl, hz⟩ := I.list hs
  obtain ⟨u, rfl, ru⟩ := vals1 r
  obtain rfl : u = Value.ref a := ru
  have e := vals_each rv hx
  have er : EachIs (fun v b => ∃ as, Reads s.heap v (encT b) as) its bs := e.mono fun v b ⟨x, rx, hr⟩ => Dp.reads I _ _ _ (hd x b hr) rx
  have hbl : bs.length = its.length := e.length.symm
  refine sorted_tupsI hl.isList e er (by rw [hbl, ← rv.length]; exact hz) (by omega) fun out ho eo => ?_
  obtain ⟨ys, vy, ey⟩ := each_vals eo
  obtain ⟨ep, he'⟩ := PyProof.Rows.sortedAll_at s.heap its (List.toArray out)
  have hlen : ys.length ≤ sizeLine := by rw [vy.length, ho, hbl, ← rv.length]; exact hz
  exact ⟨.ref _, upd H (s.heap.objs.size + 1) (.lst ys), I.laid (t' := s.toks) (fun _ _ => PyProof.Rows.sortedAll_old) (Nat.le_succ _) ⟨hlen, out, ep, vy, he'⟩, rfl, q _ _ ey (I.hok.fresh (Nat.le_succ _))⟩
theorem cr_sortLI (hu : X.A.units + 10 < cLine) : CallR X (.builtin "sorted") (rSortD X.K encL) := by
  intro pins s σ H vs us Q I r h
  obtain ⟨a, xs, bs, Rv, rfl, hs, hx, hd, q⟩ := h
  obtain ⟨its, rv, hl, hz⟩ := I.list hs
  obtain ⟨u, rfl, ru⟩ := vals1 r
  obtain rfl : u = Value.ref a := ru
  have e := vals_each rv hx
  have er : EachIs (fun v b => ∃ as, Reads s.heap v (encL b) as) its bs := e.mono fun v b ⟨x, rx, hr⟩ => Dp.reads I _ _ _ (hd x b hr) rx
  have hbl : bs.length = its.length := e.length.symm
  refine sorted_data hl.isList e er (AllAlike.of fun b b' => by show alikeAll _ _ = true; exact alike_ints b b') (Sortable.others fun b => ⟨fun z => (nomatch z), fun _ z => (nomatch z)⟩) (by rw [hbl, ← rv.length]; exact hz) (fun b _ => ?_) fun out ho eo => ?_
  · have : (encL b).depth = 1 := by show PyData.depth (.list _) = 1; simp only [PyData.depth]; rw [depth_ints]
    omega
  rw [show dataLe false encL = fun p q : List Int => decide (p ≤ q) from dataLe_rows (fun b : List Int => b)] at eo
  obtain ⟨ys, vy, ey⟩ := each_vals eo
  obtain ⟨ep, he'⟩ := PyProof.Rows.sortedAll_at s.heap its (List.toArray out)
  have hlen : ys.length ≤ sizeLine := by rw [vy.length, ho, hbl, ← rv.length]; exact hz
  exact ⟨.ref _, upd H (s.heap.objs.size + 1) (.lst ys), I.laid (t' := s.toks) (fun _ _ => PyProof.Rows.sortedAll_old) (Nat.le_succ _) ⟨hlen, out, ep, vy, he'⟩, rfl, q _ _ ey (I.hok.fresh (Nat.le_succ _))⟩
end
end L2
set_option maxRecDepth 100000
set_option maxHeartbeats 4000000
namespace My
open PySem L2 PySem.Spec PyProof.Rows
section
variable {X : Cx} {CX : CXT} {n : Nat} {f C : Addr} {fd : FuncData} {ps : List Str} {sp : Sp}
/-- a promise that may raise, called anywhere in the running body -/
theorem call_atS {σ : L2.St} {E : XK} (G0 : FnOk X.prog X.w X.K X.mg X.base CX n f fd ps sp) (hb : Binds X.K fd ps []) (hx : PassesAt CX X σ E) {A : Around} (hr : Room n A) (hA : A.frames = X.A.frames)
    {pins : List (Addr × Obj)} {s : Shared} {H : Hp} (I : Inv X pins σ H s) {vs : List V} {us : List Value} (r : Vals vs us) {Q : VK} (h : sp vs H Q E) :
    wpAny (model X.prog X.w) A (call (.ref f) us) (EP X pins σ Q) X.xe s := by
  have e0 : Env0 X.prog X.w X.K X.mg X.base A X.stack s H := by
    have e := I.env0
    exact ⟨by rw [hA]; exact e.frames, e.mod, e.bs, e.bsz, e.funs, e.frf, e.hok, e.bare⟩
  have hl := G0.len _ _ _ _ h
  refine wpAny_call (codeAny_mono (G0.run A X.stack s H ⟨us, []⟩ us vs Q E hr e0 (by
    have := hb s us I.kIn (by rw [List.append_nil, ← r.length]; exact hl)
    simpa using this) r h) fun r s' hq => ?_)
  cases r with
  | error e => exact hx pins H s e s' I hq
  | ok fl =>
    cases fl with
    | ret w => exact I.after hq
    | next => exact False.elim hq
    | brk => exact False.elim hq
    | cont => exact False.elim hq
/-- a[b], a an instance of the class at C with its own __getitem__ -/
def tIxOwn (C : Addr) (sp : Sp) (E : L2.St → XK) (ta tb : TE) : TE := fun σ H Q => ta σ H fun x H1 => tb σ H1 fun y H2 => ∃ p dx fs, x = .ref p ∧ H2 p = some (.ins C dx fs) ∧ sp [.ref p, y] H2 Q (E σ)
theorem pe_ixOwn {a b : Expr} {ta tb : TE} {pos : Pos} {E : L2.St → XK} (G0 : FnOk X.prog X.w X.K X.mg X.base CX n f fd ps sp) (hb : Binds X.K fd ps []) (hx : ∀ σ, PassesAt CX X σ (E σ)) (hr : Room (n + 1) X.A)
    (hs : PySem.W.findIn X.K (.ref C) "__getitem__" = some (some (.ref f))) (hf : PySem.W.fnIn X.K f = true) (hfn : PySem.W.isFn X.K (.ref f) = true) (ha : PE X a ta) (hbb : PE X b tb)
    (hsl : ∀ x i, subscripted b true (.ref x) i = runValue (.builtin "lifetime.subscript" ⟨[.ref x, i], []⟩)) : PE X (.Subscript a b pos) (tIxOwn C sp E ta tb) := by
  refine ⟨fun pins s σ H Q I h => ?_⟩
  refine Subscript_ (binT ha hbb I h fun v u s2 x y H2 I2 rx ry q => ?_)
  obtain ⟨p, dx, fs, rfl, hp, q⟩ := q
  cases rx
  obtain ⟨mA, J, _⟩ := ins_get I2.hok hp
  obtain ⟨od, J, _⟩ := J.look
  obtain ⟨m, hF⟩ := I2.fr
  exact PySem.W.sub_K hF I2.ok.mod.kin J hs hf hfn (call_atS G0 hb (hx σ) (A := X.A.in1) hr.in1 rfl I2 (vs := [.ref p, y]) (.cons rfl (.cons ry .nil)) q) (hsl _ _)
end
end My
set_option maxRecDepth 100000
set_option maxHeartbeats 4000000
namespace My
open PySem L2 PySem.Spec PyProof.Rows
/-- the truth of a value, inside a comprehension -/
def tTruK (K : PySem.W.Frag) (ta : TE) : TT := fun σ H Q => ta σ H fun x H' => ∃ k, TruV K x H' k ∧ Q k H'
section
variable {X : Cx} {CX : CXT} {E : XK} {n : Nat} {f C : Addr} {fd : FuncData} {ps : List Str} {sp : Sp}
/-- len(x), x an instance of the class at C with its own __len__ -/
def rLenOwn (C : Addr) (sp : Sp) (E : XK) : List V → Hp → VK → Prop := fun xs H Q => ∃ a dx fs, xs = [V.ref a] ∧ H a = some (.ins C dx fs) ∧ sp [.ref a] H (fun v H' => ∃ k : Nat, v = .int (k : Int) ∧ k ≤ 1000000 ∧ Q (.int (k : Int)) H') E
theorem call_lenOwn (G0 : FnOk X.prog X.w X.K X.mg X.base CX n f fd ps sp) (hb : Binds X.K fd ps []) (hx : Passes CX X E) (hr : Room (n + 1) X.A)
    (hs : PySem.W.findIn X.K (.ref C) "__len__" = some (some (.ref f))) (hf : PySem.W.isFn X.K (.ref f) = true) :
    CallR X (.builtin "len") (rLenOwn C sp E) := by
  intro pins s σ H xs us Q I r h
  obtain ⟨a, dx, fs, rfl, ha, q⟩ := h
  obtain ⟨u, rfl, r1⟩ := vals1 r
  cases r1
  obtain ⟨mA, J, _⟩ := ins_get I.hok ha
  obtain ⟨od, J, _⟩ := J.look
  obtain ⟨m, hF⟩ := I.fr
  refine PySem.W.len_K hF I.ok.mod.kin J hs hf (wpAny_mono (call_at G0 hb hx (A := X.A.in1) hr.in1 rfl I (vs := [.ref a]) (.cons rfl .nil) q) (fun v s' z => ?_) fun _ _ z => z)
  obtain ⟨x, H1, I1, r1, k, rfl, hk, z⟩ := z
  obtain ⟨tk, rfl⟩ := r1
  exact ⟨⟨Int.natCast_nonneg _, by omega⟩, .int (k : Int), H1, by first | exact I1.tok _ | exact I1, ⟨_, rfl⟩, z⟩
/-- isinstance(e, (c1, c2)) of a caught error with fields -/
def rIsET (K : PySem.W.Frag) (a : Addr) (cls : Value) (d : Option Addr) : List V → Hp → VK → Prop := fun xs H Q => ∃ D dd fs, cls = .ref D ∧ d = some dd ∧ H dd = some (.xd fs) ∧ ExcC K D ∧
  ∃ (tp : Addr) (cs : List V) (us : List Value) (b : Bool), xs = [.ref a, .ref tp] ∧ H tp = some (.tup cs) ∧ Paired ClsV cs us ∧ PySem.W.kitAny K (.ref D) us = some b ∧ Q (.bl b) H
theorem call_isExT {a : Addr} {oe : Obj} {cls : Value} {d : Option Addr} {pn : List (Addr × Obj)} (hz : Zc cls d oe) (hf : ∃ vs, oe.data = .fields vs) :
    CallR (X.suite a ((a, oe) :: pn)) (.builtin "isinstance") (rIsET X.K a cls d) := by
  intro pins s σ H xs us Q I r h
  obtain ⟨D, dd, fs, rfl, rfl, hd, C, tp, cs, ws, b, rfl, hT, k, e, q⟩ := h
  obtain ⟨u1, u2, rfl, r1, r2⟩ := vals2 r
  cases (show u2 = Value.ref tp from r2)
  cases (show u1 = Value.ref a from r1)
  obtain ⟨hget, _⟩ := I.pin (a, oe) (List.mem_append.mpr (.inl List.mem_cons_self))
  obtain ⟨vs, hv⟩ := hf
  have hx : ObjOk X.prog X.w H s.heap dd (.xd fs) := I.hok dd _ hd
  obtain ⟨mA, ⟨od, es, ep, ho, _⟩, _⟩ := hx
  have J : PySem.W.InstAt s.heap a oe D (some od) := ⟨hget, hz.1, by unfold PySem.W.notCls; rw [hv] <;> rfl, by rw [hz.2]; exact ho⟩
  obtain ⟨cdD, hcD, _⟩ := PySem.W.any_some C.hd
  obtain ⟨_, its, rv, o, h1, h2, n, h3⟩ := (show ObjOk X.prog X.w H s.heap tp (.tup cs) from I.hok tp _ hT)
  have e3 := ClsV.all k rv
  subst e3
  obtain ⟨oc, od2, dt, sl⟩ := o
  simp only at h2 h3
  subst h2 h3
  exact PySem.W.kia_tup (PySem.W.kitx_exc (od := some od) (by rw [hcD]; rfl) C.hg C.hk C.hs C.ha C.hn C.ht C.hm) I.kIn J h1 e (fun z => nomatch z) fun tk => ⟨.bl b, H, I.tok tk, rfl, q⟩
theorem band (a b : Nat) : Builtin.bitAnd (a : Int) (b : Int) = ((a &&& b : Nat) : Int) := by
  unfold Builtin.bitAnd
  simp
theorem bor (a b : Nat) : Builtin.bitOr (a : Int) (b : Int) = ((a ||| b : Nat) : Int) := by
  rw [bitOr_nn (Int.natCast_nonneg _) (Int.natCast_nonneg _), Int.toNat_natCast, Int.toNat_natCast]
theorem op_andN {X : Cx} : OpR X (binaryOp .BitAnd) (fun x y H Q => ∃ a b : Nat, x = .int (a : Int) ∧ y = .int (b : Int) ∧ Q (.int ((a &&& b : Nat) : Int)) H) := by
  intro pins s σ H x y v u Q I rx ry h
  obtain ⟨a, b, rfl, rfl, q⟩ := h
  rw [← band] at q
  exact op_and pins s σ H _ _ v u Q I rx ry ⟨_, _, rfl, rfl, q⟩
theorem op_orN {X : Cx} : OpR X (binaryOp .BitOr) (fun x y H Q => ∃ a b : Nat, x = .int (a : Int) ∧ y = .int (b : Int) ∧ Q (.int ((a ||| b : Nat) : Int)) H) := by
  intro pins s σ H x y v u Q I rx ry h
  obtain ⟨a, b, rfl, rfl, q⟩ := h
  rw [← bor] at q
  exact op_or pins s σ H _ _ v u Q I rx ry ⟨_, _, rfl, rfl, q⟩
end
end My
set_option maxRecDepth 100000
set_option maxHeartbeats 4000000
namespace My
open PySem L2 PySem.Spec PyProof.Rows
section
variable {X : Cx} {CX : CXT} {E : XK} {n : Nat} {f C : Addr} {fd : FuncData} {ps : List Str} {sp : Sp}
/-- x in o, o's class with its own __contains__ that gives a truth value -/
def rInOwn (C : Addr) (sp : Sp) (E : XK) (neg : Bool) : R2 := fun x y H Q => ∃ a dx fs, y = .ref a ∧ H a = some (.ins C dx fs) ∧ sp [.ref a, x] H (fun v H' => ∃ k, v = .bl k ∧ Q (.bl (if neg = true then !k else k)) H') E
theorem op_inOwn (G0 : FnOk X.prog X.w X.K X.mg X.base CX n f fd ps sp) (hb : Binds X.K fd ps []) (hx : Passes CX X E) (hr : Room n X.A)
    (hs : PySem.W.findIn X.K (.ref C) "__contains__" = some (some (.ref f))) (hf : PySem.W.isFn X.K (.ref f) = true) : OpR X (compareOp .In) (rInOwn C sp E false) := by
  intro pins s σ H x y v u Q I rx ry h
  obtain ⟨a, dx, fs, rfl, ha, q⟩ := h
  cases ry
  obtain ⟨mA, J, _⟩ := ins_get I.hok ha
  obtain ⟨od, J, _⟩ := J.look
  obtain ⟨m, hF⟩ := I.fr
  refine PySem.W.in_K hF I.ok.mod.kin J hs hf ?_
  refine wpAny_mono (call_at G0 hb hx hr rfl I (vs := [.ref a, x]) (.cons rfl (.cons rx .nil)) q) (fun r s' z => ?_) fun _ _ z => z
  obtain ⟨z, H1, I1, r1, k, rfl, q1⟩ := z
  cases r1
  exact wpAny_truthy_bool ⟨.bl k, H1, I1, rfl, q1⟩
theorem op_notInOwn (G0 : FnOk X.prog X.w X.K X.mg X.base CX n f fd ps sp) (hb : Binds X.K fd ps []) (hx : Passes CX X E) (hr : Room n X.A)
    (hs : PySem.W.findIn X.K (.ref C) "__contains__" = some (some (.ref f))) (hf : PySem.W.isFn X.K (.ref f) = true) : OpR X (compareOp .NotIn) (rInOwn C sp E true) := by
  intro pins s σ H x y v u Q I rx ry h
  obtain ⟨a, dx, fs, rfl, ha, q⟩ := h
  cases ry
  obtain ⟨mA, J, _⟩ := ins_get I.hok ha
  obtain ⟨od, J, _⟩ := J.look
  obtain ⟨m, hF⟩ := I.fr
  refine PySem.W.notIn_K hF I.ok.mod.kin J hs hf ?_
  refine wpAny_mono (call_at G0 hb hx hr rfl I (vs := [.ref a, x]) (.cons rfl (.cons rx .nil)) q) (fun r s' z => ?_) fun _ _ z => z
  obtain ⟨z, H1, I1, r1, k, rfl, q1⟩ := z
  cases r1
  exact wpAny_truthy_bool ⟨.bl (!k), H1, I1, rfl, q1⟩
/-- ~o -/
theorem un_inv (G0 : FnOk X.prog X.w X.K X.mg X.base CX n f fd ps sp) (hb : Binds X.K fd ps []) (hx : Passes CX X E) (hr : Room n X.A)
    (hs : PySem.W.findIn X.K (.ref C) "__invert__" = some (some (.ref f))) (hf : PySem.W.isFn X.K (.ref f) = true) : UnR X (unaryOp .Invert) (rOwn1 C sp E) := by
  intro pins s σ H x v Q I rx h
  obtain ⟨a, dx, fs, rfl, ha, q⟩ := h
  cases rx
  obtain ⟨mA, J, _⟩ := ins_get I.hok ha
  obtain ⟨od, J, _⟩ := J.look
  obtain ⟨m, hF⟩ := I.fr
  exact PySem.W.ksp_inv hF I.ok.mod.kin J hs hf (call_at G0 hb hx hr rfl I (vs := [.ref a]) (.cons rfl .nil) q)
/-! ### a thing is forgotten -/
theorem hok_forget {P : Program} {w : World} {H : Hp} {h : Heap} {x : Addr} {φ : Heap → Prop} (hx : H x = none) (ok : HOk P w (upd H x (.ext φ)) h) : HOk P w H h := fun b u e => by
  have hb : b ≠ x := ne_of_none e hx
  refine (ok b u (by rw [upd_ne hb]; exact e)).stay (fun _ _ _ q => q) (fun c q => ?_) fun c xs q => ?_
  · by_cases hc : c = x
    · rw [hc, upd_same] at q; cases q
    · rw [upd_ne hc] at q; exact q
  · by_cases hc : c = x
    · rw [hc, upd_same] at q; cases q
    · rw [upd_ne hc] at q; exact q
theorem inv_forget {pins : List (Addr × Obj)} {σ : L2.St} {H : Hp} {s : Shared} {x : Addr} {φ : Heap → Prop} (hx : H x = none) (I : Inv X pins σ (upd H x (.ext φ)) s) : Inv X pins σ H s := by
  have no : ∀ {b : Addr} {o : HO}, upd H x (.ext φ) b = some o → (∀ ψ, o ≠ .ext ψ) → H b = some o := fun {b o} q hn => by
    by_cases hc : b = x
    · rw [hc, upd_same] at q; cases q; exact absurd rfl (hn φ)
    · rw [upd_ne hc] at q; exact q
  have nn : ∀ {b : Addr}, upd H x (.ext φ) b = none → H b = none := fun {b} q => by
    by_cases hc : b = x
    · rw [hc, upd_same] at q; cases q
    · rw [upd_ne hc] at q; exact q
  refine ⟨I.ok, I.os, I.bare, ⟨I.base.keep, I.base.slot, fun b o e n hx => nn (I.base.free b o e n hx), I.base.there, fun b xs q => no (I.base.tups b xs q) (fun _ => nofun), fun b o u q => no (I.base.frzs b o u q) (fun _ => nofun), fun b ps q => ?_⟩, I.loc, I.cell, nn I.free, fun y c e => nn (I.freeC y c e), fun p hp => ?_, hok_forget hx I.hok, I.len⟩
  · obtain ⟨m, e⟩ := I.base.tbls b ps q
    exact ⟨m, no e (fun _ => nofun)⟩
  · obtain ⟨e, n, ne, nf, d⟩ := I.pin p hp
    exact ⟨e, nn n, ne, nf, d⟩
end
/-! ### a promise that knows the state at the call -/
structure FnAt (P : Program) (w : World) (K : PySem.W.Frag) (mg : Str → Option Value) (base : Heap) (CX : CXT) (k : Nat) (f : Addr) (fd : FuncData) (ps : List Str) (sp : Shared → Sp) : Prop where
  len : ∀ s vs H Q E, sp s vs H Q E → vs.length = ps.length
  run : ∀ (A : Around) (outer : List Env) (s : Shared) (H : Hp) (args : Args) (us : List Value) (vs : List V) (Q : VK) (E : XK), Room k A → Env0 P w K mg base A outer s H → BindsTo s fd args (ps.zip us) → Vals vs us → sp s vs H Q E →
    codeAny (model P w) A (.call (.ref f) args) (CR CX outer P w H s Q E) s
theorem fun_okAt {P : Program} {w : World} {K : PySem.W.Frag} {mg : Str → Option Value} {base : Heap} {CX : CXT} {x qual : Str} {st : Stmt} {f : Addr} {fd : FuncData} {N ps : List Str} {k : Nat} {sp : Shared → Sp} (F : Fun K x qual st f fd) (S : FnScope N ps (defScope st)) (len : ∀ s vs H Q E, sp s vs H Q E → vs.length = ps.length)
    (hbody : ∀ (cdv : Value) (A : Around) (outer : List Env) (s : Shared) (H : Hp) (vs : List V) (Q : VK) (E : XK), Room k (A.deeper (PyProof.Rows.envOfC qual (defScope st) s.heap.objs.size f cdv)) → sp s vs H Q E →
      ∃ t, PSs (cxOf CX P w K mg base N qual (defScope st) f cdv A outer s H E) (defBody st) t ∧ t { nx := fun _ H' => Q .non H', rt := Q } (L2.start N vs) H) : FnAt P w K mg base CX (k + 1) f fd ps sp := by
  obtain ⟨oc, od, kV, doc, pm, an, cdv, ct, osl, rfl, lk, hcd⟩ := F.ex
  refine ⟨len, fun A outer s H args us vs Q E hr e0 hb r hsp => ?_⟩
  have hl := len _ _ _ _ _ hsp
  have KX : K.In s.heap := e0.mod.kin.keeps fun b o e => (e0.bs b o e).1
  have lim : s.heap.NoLimit := e0.mod.nolimit.keeps fun b o e => (e0.bs b o e).1
  have hkind : ∀ y ∈ ps.zip us, (defScope st).names.lookup y.1 = some .local ∨ ((defScope st).names.lookup y.1 = some .cell ∧ ((cellsFrom (s.heap.objs.size + 1) (defScope st).names []).lookup y.1).isSome = true) := fun ⟨n, v⟩ hy => by
    rcases S.par n (List.of_mem_zip hy).1 with q | q
    · exact .inl q
    · exact .inr ⟨q, PySem.W.cellsFrom_some _ _ _ (.inl q)⟩
  refine codeAny_call_function hr.depth (KX _ _ lk) rfl S.co S.gen rfl (PySem.W.codeRec_of KX hcd) (hb _ _ _ _ ?_)
  refine wpAny_newFunctionEnv_cells S.kind hkind fun env he s1 x => ?_
  subst he
  refine ⟨lim.keeps x.toInCall.keep, codeAny_func ?_⟩
  obtain ⟨t, ht, hq⟩ := hbody cdv A outer s H vs Q E (hr.deeper _) hsp
  have I : Inv (cxOf CX P w K mg base N qual (defScope st) f cdv A outer s H E) [] (L2.start N vs) H s1 := inv_start S hr.hd e0 hl r x
  refine wpAny_mono (ht.run [] s1 (L2.start N vs) H _ I hq) (fun fl s' hs => ?_) fun e s' hs => hs
  have fin : ∀ {σ' : L2.St} {H' : Hp} {v : V} {u : Value}, Inv (cxOf CX P w K mg base N qual (defScope st) f cdv A outer s H E) [] σ' H' s' → RelV v u → Q v H' → CE outer P w H s Q u s' :=
    fun {σ' H' v u} J rv q => ⟨v, H', J.os, J.bare, J.base, J.hok, rv, q⟩
  cases fl with
  | ret u =>
    obtain ⟨v, σ', H', J, rv, q⟩ := hs
    exact fin J rv q
  | next =>
    obtain ⟨σ', H', J, q⟩ := hs
    exact fin (v := V.non) (u := Value.none) J rfl q
  | brk =>
    obtain ⟨_, _, _, q⟩ := hs
    exact False.elim q
  | cont =>
    obtain ⟨_, _, _, q⟩ := hs
    exact False.elim q
section
variable {X : Cx}
/-- iter(t) of a tuple; the iterator is younger than the call -/
theorem call_iterTS : CallR X (.builtin "iter") (fun xs H Q => ∃ (l : Addr) (zs : List V), xs = [.ref l] ∧ SqT X.K H l zs ∧ ∀ it, H it = none → X.s_0.heap.objs.size ≤ it → Q (.ref it) (upd H it (TitO l it 0))) := by
  intro pins s σ H xs us Q I r h
  obtain ⟨l, zs, rfl, hq, q⟩ := h
  obtain rfl := Vals.ref1 r
  obtain ⟨its, rv, pl, hz⟩ := I.tuple hq
  refine Calls.call_function_entry (by decide +kernel) (by decide +kernel) PySem.W.kdk_entry_iter (PySem.W.kdk_args_iter _) ?_
  unfold Builtin.«iter»
  refine wpAny_bind (m := someArgs "iter" 1 2 _) (wpAny_of_eq (a := [Value.ref l]) (by first | rfl | kernel_rfl!) ?_)
  show wpAny _ _ (pyIter (.ref l) >>= _) _ _ _
  refine wpAny_bind (wpAny_pyIter_tuple (show s.heap.IsTuple l its.toArray from pl) (wpAny_pure ⟨_, rfl, ?_⟩))
  exact ⟨.ref s.heap.objs.size, _, I.laid (t' := s.toks) (fun b u e => Heap.get?_push_of_some _ e) (Nat.le_refl _) (titO_ok ⟨_, Heap.get?_push_size _ rfl, rfl, rfl⟩), rfl, q _ (I.hok.fresh (Nat.le_refl _)) I.sz⟩
/-- what such an __iter__ promises: an iterator over the tuple at l, at its beginning -/
def spItS (C : Addr) (L : Hp → Addr → List (Str × V) → Addr → Prop) : Shared → Sp := fun s vs H Q _ => ∃ p dx fs l, vs = [.ref p] ∧ H p = some (.ins C dx fs) ∧ L H p fs l ∧ ∀ it, H it = none → s.heap.objs.size ≤ it → Q (.ref it) (upd H it (TitO l it 0))
def iOwn (K : PySem.W.Frag) (C : Addr) (L : Hp → Addr → List (Str × V) → Addr → Prop) (tl : TE) : TI := fun σ H R => tl σ H fun x H1 => ∃ a dx fs l xs, x = .ref a ∧ H1 a = some (.ins C dx fs) ∧ L H1 a fs l ∧ SqT K H1 l xs ∧ R (Itt K l) H1
theorem pi_own {tg e : Expr} {tl : TE} {n : Nat} {f C : Addr} {fd : FuncData} {ps : List Str} {L : Hp → Addr → List (Str × V) → Addr → Prop} (he : PE X e tl) (G0 : FnAt X.prog X.w X.K X.mg X.base CX0 n f fd ps (spItS C L)) (hb : Binds X.K fd ps []) (hr : Room n X.A)
    (hs : PySem.W.findIn X.K (.ref C) "__iter__" = some (some (.ref f))) (hf : PySem.W.isFn X.K (.ref f) = true) : PI X tg e (iOwn X.K C L tl) := by
  refine ⟨fun pins s σ H R I h => ?_⟩
  refine thn (he.run pins s σ H _ I h) fun v s1 ⟨x, H1, I1, r1, q1⟩ => ?_
  obtain ⟨a, dx, fs, l, xs, rfl, ha, hL, hq, q⟩ := q1
  cases r1
  obtain ⟨mA, J, _⟩ := ins_get I1.hok ha
  obtain ⟨od, J, _⟩ := J.look
  obtain ⟨m, hF⟩ := I1.fr
  refine PySem.W.owit_iter hF I1.ok.mod.kin J hs hf ?_
  have hsp : spItS C L s1 [.ref a] H1 (fun v H2 => ∃ it, v = .ref it ∧ H1 it = none ∧ s1.heap.objs.size ≤ it ∧ H2 = upd H1 it (TitO l it 0)) (fun _ _ _ => False) := ⟨a, dx, fs, l, rfl, ha, hL, fun it h1 h2 => ⟨it, rfl, h1, h2, rfl⟩⟩
  have r : Vals [V.ref a] [Value.ref a] := .cons rfl .nil
  have e0 : Env0 X.prog X.w X.K X.mg X.base X.A X.stack s1 H1 := I1.env0
  have hl := G0.len _ _ _ _ _ hsp
  refine wpAny_call (codeAny_mono (G0.run X.A X.stack s1 H1 ⟨[.ref a], []⟩ [.ref a] [.ref a] _ _ hr e0 (by
    have := hb s1 [.ref a] I1.kIn (by rw [List.append_nil]; exact hl)
    simpa using this) r hsp) fun r s' hq' => ?_)
  cases r with
  | error e => exact False.elim hq'
  | ok fl =>
    cases fl with
    | ret u =>
      obtain ⟨v, H2, I2, rv, it, rfl, hn, hsz, rfl⟩ := I1.after hq'
      obtain rfl : u = Value.ref it := rv
      have hit := titO_get I2 upd_same
      unfold PySem.W.OwitIt
      refine wpAny_specialOf (show s'.TypeIs (.ref it) "tuple_iterator" from hit.typeIs) PySem.F.slot_tuple_iterator_next.lookup ?_
      have I3 := inv_forget hn I2
      refine ⟨it, [it], _, _, H1, rfl, I3, turn_tuple l it, hit, fun b hb => ?_, q⟩
      have e : b = it := by simpa using hb
      subst e
      exact I1.fpOk hsz hn
    | next => exact False.elim hq'
    | brk => exact False.elim hq'
    | cont => exact False.elim hq'
end
/-! ### several except clauses with a name -/
def wManyAs (K : PySem.W.Frag) (i : Nat) (Wout : WX) (D : Ends) : List (Value × (Addr → Value → Option Addr → TS)) → WX
  | [] => Wout
  | (c, ts) :: r => fun cls d σ H => ∃ b, PySem.W.exmOne K cls c = some b ∧ (b = true → ∀ a, H a = none → ts a cls d { nx := fun σ' H' => D.nx (σ'.set i none) H', rt := D.rt, bk := fun σ' H' => D.bk (σ'.set i none) H', ct := fun σ' H' => D.ct (σ'.set i none) H' } (σ.set i (some (.ref a))) H) ∧ (b = false → wManyAs K i Wout D r cls d σ H)
inductive HdsAs (X : Cx) (n : Str) : List ExceptHandler → List (Value × (Addr → Value → Option Addr → TS)) → Prop
  | nil : HdsAs X n [] []
  | cons {x : Str} {c : Value} {ts : Addr → Value → Option Addr → TS} {b₀ : Stmt} {suite : List Stmt} {np pos' : Pos} {hds : List ExceptHandler} {l : List (Value × (Addr → Value → Option Addr → TS))} (hc : Names X x c)
      (hsu : ∀ (a : Addr) (oe : Obj) (cls : Value) (d : Option Addr) (pn : List (Addr × Obj)), Zc cls d oe → (∃ vs, oe.data = .fields vs) → PSs (X.suite a ((a, oe) :: pn)) (b₀ :: suite) (ts a cls d)) (r : HdsAs X n hds l) :
      HdsAs X n (.ExceptHandler (some (.Name x np)) (some n) (b₀ :: suite) pos' :: hds) ((c, ts) :: l)
section
variable {X : Cx} {n : Str} {i : Nat} {body : List Stmt} {h₀ : ExceptHandler} {hds : List ExceptHandler} {l : List (Value × (Addr → Value → Option Addr → TS))} {pos : Pos} {tb : WX → TS} {Wout : WX}
theorem ps_try_as_many (hs : X.stack = X.env :: X.outer) (hf : X.env.frame = some X.env.locals) (hN : X.N.Nodup) (hi : X.N[i]? = some n) (hln : X.env.kindOf n = some .local) (tk : Takes X Wout)
    (hb : ∀ (W : WX) (pn : List (Addr × Obj)) (xe : Value → Shared → Prop), Takes (X.tr pn xe) W → PassesOwn (model X.prog X.w) X.A X.env xe → PSs (X.tr pn xe) body (tb W))
    (hh : HdsAs X n (h₀ :: hds) l) : PS X (.Try body (h₀ :: hds) [] [] pos) (fun D σ H => tb (wManyAs X.K i Wout D l) D σ H) := by
  refine ⟨fun pins s σ H D I h => ?_⟩
  have ok := I.ok
  have hloc : Loc X.env.scope n := .inl hln
  have hfr : X.A.frames = some (X.env :: X.outer) := by rw [ok.frames, hs]
  refine wpAny_Try_except ?_
  refine wpAny_mono ((hb (wManyAs X.K i Wout D l) (X.pn ++ pins) (fun e s₁ => wpAny (model X.prog X.w) X.A (noteFrame e X.env) (fun _ s₂ => wpAny (model X.prog X.w) X.A (setFlight e none) (fun _ s₃ =>
    wpAny (model X.prog X.w) X.A (handleBy e X.env (h₀ :: hds)) (SP X pins D) X.xe s₃) X.xe s₂) X.xe s₁) (fun u s' xx => ?_) PassesOwn.looking).run [] s σ H D (I.toTry _) h) (fun f s1 hsp => ?_) (fun e s1 he => he)
  · obtain ⟨a, B, sI, pins', σ', H', cls, d, rfl, J', nb, up, sky, na, os, ag, w⟩ := xx
    have J : Inv X pins σ' H' sI := J'.ofTry ok
    have sky' : Sky B (X.env :: X.outer) a (Zc cls d) X.env.locals s'.heap := by rw [← hs]; exact sky
    show wpAny (model X.prog X.w) X.A (noteFrame (.ref a) X.env) _ _ _
    refine Sky.land Zc.steady hfr hf sky' fun h3 fl3 up3 => ?_
    have J3 : Inv X pins σ' H' { s' with heap := h3 } := J.landed nb fl3.1 (up.trans up3) os ag
    obtain ⟨oe3, vs3, he3, hz3, hd3⟩ := fl3.there
    have notFr : ∀ {h : Heap} {o : Obj} {vs : Array Value}, h.FunFrames B (X.env :: X.outer) → h.get? a = some o → o.data = .fields vs → a ∉ frs (X.env :: X.outer) := fun {h o vs} ff e dd hm => by
      obtain ⟨_, o', e', hnf⟩ := ff.mem hm
      rw [e] at e'; cases e'
      exact hnf _ dd
    have nfr := notFr fl3.2.2.1 he3 hd3
    have nL : a ≠ X.env.locals := fun z => nfr (List.mem_filterMap.mpr ⟨X.env, List.mem_cons_self, by rw [hf, z]⟩)
    have nF : a ∉ X.fs := fun hm => by
      obtain ⟨e, he, q⟩ := List.mem_filterMap.mp hm
      exact nfr (List.mem_filterMap.mpr ⟨e, List.mem_cons_of_mem _ he, q⟩)
    have S3 := J3.suite he3 hd3 na nL nF
    have go : ∀ {hds' : List ExceptHandler} {l' : List (Value × (Addr → Value → Option Addr → TS))}, HdsAs X n hds' l' → wManyAs X.K i Wout D l' cls d σ' H' →
        wpAny (model X.prog X.w) X.A (handleBy (.ref a) X.env hds') (SP X pins D) X.xe { s' with heap := h3 } := by
      intro hds' l' hk
      induction hk with
      | nil =>
        intro w
        refine wpAny_handleBy_nil ?_
        obtain ⟨k1, k2, k3, oe, vs, T, oT, ts', he, hz, hd, h1, hr⟩ := id fl3
        unfold PySem.passOn
        refine wpAny_bind (wpAny_field he hd h1 ?_)
        rw [if_neg (show ¬ ((Value.ref T == Value.none) = true) from by simp)]
        have fin : wpAny (model X.prog X.w) X.A (setFlight (.ref a) X.env.frame) (fun _ s4 => wpAny (model X.prog X.w) X.A (throw (.ref a) : Sem Flow) (SP X pins D) X.xe s4) X.xe { s' with heap := h3 } := by
          rw [hf]
          refine HandSPX.setFlight_upZ fl3 fun h4 hh4 up4 => wpAny_throw (tk _ _ ?_)
          exact ⟨a, B, sI, pins, σ', H', cls, d, rfl, J, nb, (up.trans up3).trans up4, .inr (.inr (by rw [hs]; exact hh4)), na, os, ag, w⟩
        first
          | exact wpAny_bind (wpAny_pure (wpAny_bind fin))
          | exact wpAny_bind fin
      | @cons x c ts b₀ suite np pos' hds2 l2 hc hsu r ih =>
        intro w
        obtain ⟨b, hb1, hyes, hno⟩ := w
        refine wpAny_handleBy_cons (codeAny_handlers_test ?_) (by intro q; cases q)
        have LT : PySem.W.Looks (model X.prog X.w) h3 (typeOf (.ref a)) cls := fun A Q E s k q => wpAny_typeOf_ref (k _ _ he3) (by rw [hz3.1]; exact q)
        have LM := PySem.W.exm_one (M := model X.prog X.w) (J3.kIn) LT hb1
        have test : ∀ {Q : Value → Shared → Prop} {E : Value → Shared → Prop}, Q c { s' with heap := h3 } → wpAny (model X.prog X.w) (X.A.mark (some (.ref a))) (eval (.Name x np) X.env) Q E { s' with heap := h3 } := fun {Q E} q => by
          obtain ⟨hg, hdbg, hm | ⟨hm, hv, hnn⟩⟩ := hc
          · exact ld_glob (X := X.suite a ((a, oe3) :: (X.pn ++ pins))) S3 hg hm q hdbg
          · exact ld_blt (X := X.suite a ((a, oe3) :: (X.pn ++ pins))) S3 hg hm hv q hnn hdbg
        refine test (LM.here ?_)
        cases b with
        | true =>
          refine codeAny_handlers_suite_as ?_
          refine HandSPX.lands_againZ fl3 fun h4 fl4 up4 => ?_
          have J4 : Inv X pins σ' H' { s' with heap := h4 } := J.landed nb fl4.1 ((up.trans up3).trans up4) os ag
          obtain ⟨oe4, vs4, he4, hz4, hd4⟩ := fl4.there
          have S4 := J4.suite he4 hd4 na nL nF
          refine store_ok (X := X.suite a ((a, oe4) :: (X.pn ++ pins))) (v := .ref a) S4 hN hi hloc rfl (fun s5 S5 => ?_) (.inr hln)
          refine wpAny_mono ((hsu a oe4 cls d (X.pn ++ pins) hz4 ⟨_, hd4⟩).run [] s5 _ H' _ S5 (hyes rfl a na)) (fun f s6 hsp => ?_) (fun _ _ z => False.elim z)
          have end_ : ∀ {σ6 : L2.St} {H6 : Hp} {Q : Shared → Prop}, Inv (X.suite a ((a, oe4) :: (X.pn ++ pins))) [] σ6 H6 s6 → (∀ s7, Inv X pins (σ6.set i none) H6 s7 → Q s7) →
              wpAny (model X.prog X.w) X.A (do bindName X.env n .none; unbindBehindTheSuite X.env n pos') (fun _ s7 => Q s7) X.xe s6 := fun {σ6 H6 Q} S6 hq => gone_ok (S6.unsuite ok) hN hi hln hq
          cases f with
          | next =>
            obtain ⟨σ6, H6, S6, q6⟩ := hsp
            exact end_ S6 fun s7 J7 => ⟨_, _, J7, q6⟩
          | brk =>
            obtain ⟨σ6, H6, S6, q6⟩ := hsp
            exact end_ S6 fun s7 J7 => ⟨_, _, J7, q6⟩
          | cont =>
            obtain ⟨σ6, H6, S6, q6⟩ := hsp
            exact end_ S6 fun s7 J7 => ⟨_, _, J7, q6⟩
          | ret u =>
            obtain ⟨v6, σ6, H6, S6, r6, q6⟩ := hsp
            exact end_ S6 fun s7 J7 => ⟨_, _, _, J7, r6, q6⟩
        | false =>
          show wpAny _ X.A (handleBy (.ref a) X.env hds2) _ _ _
          exact ih (hno rfl)
    exact go hh w
  · cases f with
    | next =>
      obtain ⟨σ', H', J', q⟩ := hsp
      exact wpAny_execs_nil ⟨σ', H', J'.ofTry ok, q⟩
    | brk =>
      obtain ⟨σ', H', J', q⟩ := hsp
      exact ⟨σ', H', J'.ofTry ok, q⟩
    | cont =>
      obtain ⟨σ', H', J', q⟩ := hsp
      exact ⟨σ', H', J'.ofTry ok, q⟩
    | ret u =>
      obtain ⟨v, σ', H', J', r, q⟩ := hsp
      exact ⟨v, σ', H', J'.ofTry ok, r, q⟩
end
end My
set_option maxRecDepth 100000
set_option maxHeartbeats 4000000
namespace My
open PySem L2 PySem.Spec PyProof.Rows
/-! ### t[:0:-1], t a tuple -/
theorem fm_congr {α β : Type} {f g : α → Option β} : ∀ {l : List α}, (∀ x ∈ l, f x = g x) → l.filterMap f = l.filterMap g
  | [], _ => rfl
  | a :: l, h => by
    rw [List.filterMap_cons, List.filterMap_cons, h a List.mem_cons_self, fm_congr fun x hx => h x (List.mem_cons_of_mem _ hx)]
theorem back_pick (xs : Array Value) : ((List.range (xs.size - 1)).filterMap fun (m : Nat) => xs[(((xs.size : Nat) : Int) - 1 + (m : Int) * (-1)).toNat]?) = (xs.toList.drop 1).reverse := by
  obtain ⟨l⟩ := xs
  cases l with
  | nil => rfl
  | cons a t =>
    simp only [List.size_toArray, List.getElem?_toArray, List.length_cons, List.drop_succ_cons, List.drop_zero]
    rw [Nat.add_sub_cancel]
    have e : ∀ m ∈ List.range t.length, (a :: t)[((((t.length + 1 : Nat)) : Int) - 1 + (m : Int) * (-1)).toNat]? = t.reverse[m]? := fun m hm => by
      have hm := List.mem_range.mp hm
      have e1 : ((((t.length + 1 : Nat)) : Int) - 1 + (m : Int) * (-1)).toNat = (t.length - 1 - m) + 1 := by omega
      rw [e1, List.getElem?_cons_succ, List.getElem?_reverse hm]
    have e2 : (List.range t.length).filterMap (fun (m : Nat) => (a :: t)[((((t.length + 1 : Nat)) : Int) - 1 + (m : Int) * (-1)).toNat]?) = (List.range t.length).filterMap (fun m => t.reverse[m]?) :=
      fm_congr e
    rw [e2]
    have h := PySem.W.krv_all t.reverse.toArray
    simpa using h
theorem back_adjust (n : Nat) : Builtin.Slice.sliceAdjust none (some 0) (-1) (n : Int) = ((n : Int) - 1, if n = 0 then -1 else 0) := by
  by_cases h : n = 0
  · subst h; rfl
  · rw [if_neg h]
    have e : min (0 : Int) ((n : Int) - 1) = 0 := by omega
    show ((n : Int) - 1, min (0 : Int) ((n : Int) - 1)) = _
    rw [e]
theorem back_places (n : Nat) : Builtin.Slice.slicePlaces ((n : Int) - 1) (if n = 0 then -1 else 0) (-1) = n - 1 := by
  unfold Builtin.Slice.slicePlaces
  rw [if_neg (show ¬ ((-1 : Int) > 0) by decide)]
  by_cases h : n = 0
  · subst h; rfl
  · rw [if_neg h]
    by_cases h1 : n = 1
    · subst h1; rfl
    · rw [if_pos (by omega), show (- -1 : Int) = 1 by decide, Int.ediv_one]
      omega
section
variable {prog : Program} {w : World} {A : Around} {E : Value → Shared → Prop} {s : Shared}
theorem back_applied {sl : Addr} {vl vu vs : Value} {n : Nat} {Q : Int × Int × Nat → Shared → Prop} (hs : s.heap.IsSliceOf sl vl vu vs) (pl : IsPart vl none) (pu : IsPart vu (some 0)) (ps : IsPart vs (some (-1)))
    (h : Q ((n : Int) - 1, -1, n - 1) s) : wpAny (model prog w) A (Builtin.Slice.sliceApplied (.ref sl) (pure (n : Int))) Q E s := by
  obtain ⟨os, hos, hcs, hds⟩ := id hs
  unfold Builtin.Slice.sliceApplied Builtin.Slice.sliceFields
  refine wpAny_bind (wpAny_bind (wpAny_field hos hds (x := vl) rfl (wpAny_bind (wpAny_field hos hds (x := vu) rfl (wpAny_bind (wpAny_field hos hds (x := vs) rfl (wpAny_pure ?_)))))))
  refine wpAny_bind (HT.slicePart_ ps ?_)
  show wpAny _ _ (if ((-1 : Int) == 0) = true then _ else _) _ _ s
  rw [if_neg (by decide)]
  refine wpAny_bind (HT.slicePart_ pl (wpAny_bind (HT.slicePart_ pu (wpAny_bind (wpAny_pure ?_)))))
  show wpAny _ _ (match Builtin.Slice.sliceAdjust none (some 0) (-1) (n : Int) with | (lo, hi) => pure (lo, (-1 : Int), Builtin.Slice.slicePlaces lo hi (-1))) _ _ s
  rw [back_adjust n]
  show wpAny _ _ (pure ((n : Int) - 1, (-1 : Int), Builtin.Slice.slicePlaces ((n : Int) - 1) (if n = 0 then -1 else 0) (-1))) _ _ s
  rw [back_places]
  exact wpAny_pure h
theorem getItem_tuple_back {t sl : Addr} {items : Array Value} {vl vu vs : Value} {Q : Value → Shared → Prop} (ht : IsTup s.heap t items) (hs : s.heap.IsSliceOf sl vl vu vs) (pl : IsPart vl none) (pu : IsPart vu (some 0)) (ps : IsPart vs (some (-1)))
    (h : Q (.ref s.heap.objs.size) { s with heap := s.heap.push { cls := .type "tuple", data := .seq (items.toList.drop 1).reverse.toArray } })
    (hsz : items.size ≤ sizeLine) : wpAny (model prog w) A (getItem (.ref t) (.ref sl)) Q E s := by
  have htake : sizeOk (.seq (items.toList.drop 1).reverse.toArray) := by
    show (items.toList.drop 1).reverse.toArray.size ≤ sizeLine
    rw [List.size_toArray, List.length_reverse, List.length_drop, Array.length_toList]
    omega
  obtain ⟨os, hos, hcs, hds⟩ := id hs
  have hTs : s.TypeIs (.ref sl) "slice" := ⟨os, hos, hcs⟩
  unfold getItem
  try with_reducible refine wpAny_holding ?_
  first | refine wpAny_bind (wpAny_pure ?_) | skip
  refine wpAny_bind (wpAny_sequenceKey ht.typeIs (by decide) ?_)
  refine wpAny_bind (wpAny_callSpecial?_slot (name := Str.ofString "__getitem__") ht.typeIs PyProof.Rows.slot_tuple_getitem
    (wpAny_call_entry PyProof.Rows.slot_tuple_getitem ht.typeIs entry_tuple_getitem ?_ (args_tuple_getitem _ _)))
  show wpAny _ _ (Builtin.Tuple.tupleItemsOf (.ref t) >>= _) _ _ s
  refine wpAny_bind (tupleItemsOf_ ht ?_)
  refine wpAny_bind (wpAny_typeOf hTs ?_)
  rw [if_pos (by decide)]
  refine wpAny_bind (back_applied hs pl pu ps ?_)
  have hno : ¬ (((((items.size : Nat) : Int) - 1) == 0 && (-1 : Int) == 1 && (items.size - 1) == items.size) = true) := by
    intro q
    rw [Bool.and_eq_true, Bool.and_eq_true] at q
    exact absurd q.1.2 (by decide)
  show wpAny _ _ (if ((((items.size : Nat) : Int) - 1) == 0 && (-1 : Int) == 1 && (items.size - 1) == items.size) = true then _ else _) _ _ s
  rw [if_neg hno, back_pick]
  first
    | exact wpAny_bind (m := Builtin.Tuple.tupleExact _) (wpAny_newObj_type (wpAny_pure ⟨_, rfl, wpAny_pure h⟩) htake)
    | exact wpAny_bind (m := Builtin.Tuple.tupleExact _) (wpAny_newObj_type (wpAny_bind (wpAny_pure (wpAny_pure ⟨_, rfl, wpAny_pure h⟩))) htake)
    | exact wpAny_bind (wpAny_bind (m := Builtin.Tuple.tupleExact _) (wpAny_newObj_type (wpAny_pure (wpAny_pure ⟨_, rfl, wpAny_pure h⟩)) htake))
    | exact wpAny_bind (wpAny_bind (m := Builtin.Tuple.tupleExact _) (wpAny_newObj_type (wpAny_pure ⟨_, rfl, wpAny_pure h⟩) htake))
end
section
variable {X : Cx}
def tBackT (K : PySem.W.Frag) (te : TE) : TE := fun σ H Q => te σ H fun x H1 => ∃ a xs, x = .ref a ∧ SqT K H1 a xs ∧ ∀ p, H1 p = none → Q (.ref p) (upd H1 p (.tup (xs.drop 1).reverse))
theorem pe_backT {e : Expr} {te : TE} {k k0 : Nat} {p0 p1 p2 p3 pos : Pos} (he : PE X e te) : PE X (.Subscript e (.Slice none (some (.Constant (.int 0) k0 p0)) (some (.UnaryOp .USub (.Constant (.int 1) k p1) p2)) p3) pos) (tBackT X.K te) := by
  refine ⟨fun pins s σ H Q I h => ?_⟩
  refine Subscript_ (thn (he.run pins s σ H _ I h) fun v s1 ⟨x, H1, I1, r1, q1⟩ => ?_)
  obtain ⟨a, xs, ex, hx, q⟩ := q1
  subst ex
  cases r1
  have hst : PO X (some (.UnaryOp .USub (.Constant (.int 1) k p1) p2)) (tPart (tUn (rU fun i => .int (-i)) (tC (.int 1)))) := po_some (pe_un un_neg pe_int)
  have hup : PO X (some (.Constant (.int 0) k0 p0)) (tPart (tC (.int 0))) := po_some pe_int
  refine wpAny_Slice (thn (po_none.run pins s1 σ H1 (fun o H2 => o = none ∧ H2 = H1) I1 ⟨rfl, rfl⟩) fun vl s2 ⟨l, H2, I2, pl, el, e2⟩ => ?_)
  subst el e2
  refine thn (hup.run pins s2 σ H2 (fun o H3 => o = some 0 ∧ H3 = H2) I2 ⟨0, rfl, rfl, rfl⟩) fun vu s3 ⟨u, H3, I3, pu, eu, e3⟩ => ?_
  subst eu e3
  refine thn (hst.run pins s3 σ H3 (fun o H4 => o = some (-1) ∧ H4 = H3) I3 ⟨1, rfl, -1, rfl, rfl, rfl⟩) fun vs s4 ⟨o, H4, I4, ps, eo, e4⟩ => ?_
  subst eo e4
  have I5 : Inv X pins σ H4 { s4 with heap := s4.heap.push { cls := .type "slice", data := .fields #[vl, vu, vs] } } := I4.kept (t' := s4.toks) fun b ob q => Heap.get?_push_of_some _ q
  obtain ⟨its, r, ht, hz⟩ := I5.tuple hx
  have hlen := r.length
  show wpAny (model X.prog X.w) X.A (subscriptTail e (.Slice none (some (.Constant (.int 0) k0 p0)) (some (.UnaryOp .USub (.Constant (.int 1) k p1) p2)) p3) (.ref a) (.ref s4.heap.objs.size)) (EP X pins σ Q) X.xe { s4 with heap := s4.heap.push { cls := .type "slice", data := .fields #[vl, vu, vs] } }
  refine tail_any (ops := [.ref a, .ref s4.heap.objs.size]) ht.typeIs (PyProof.Rows.slot_tuple_getitem.lookup) ?_ (by with_unfolding_all rfl)
  refine getItem_tuple_back ht (Heap.IsSliceOf.new _ vl vu vs) pl pu ps ?_ (by rw [List.size_toArray]; omega)
  refine ⟨.ref _, _, I5.laid (t' := s4.toks) (o := .tup (xs.drop 1).reverse) (fun b ob q => Heap.get?_push_of_some _ q) (Nat.le_refl _) ?_, rfl, q _ (I5.hok.fresh (Nat.le_refl _))⟩
  exact ⟨by rw [List.length_reverse, List.length_drop]; omega, _, (r.drop 1).reverse, IsTup.new _ _⟩
end
end My
set_option maxRecDepth 100000
set_option maxHeartbeats 4000000
namespace My
open PySem L2 PySem.Spec PyProof.Rows
/-! ### tuples that are known to have no dict: their methods can be called -/
def DT (H : Hp) (a : Addr) (xs : List V) : Prop := ∃ o : Obj, o.dict = none ∧ H a = some (.frz o (.tup xs))
theorem DT.sq {K : PySem.W.Frag} {H : Hp} {a : Addr} {xs : List V} (h : DT H a xs) : SqT K H a xs := let ⟨o, _, e⟩ := h; .inl (.inr ⟨o, e⟩)
theorem DT.same {H H' : Hp} {a : Addr} {xs : List V} (h : DT H a xs) (s : Same H H') : DT H' a xs := let ⟨o, d, e⟩ := h; ⟨o, d, s _ _ e⟩
theorem DT.upd {H : Hp} {a b : Addr} {xs : List V} {u o : HO} (h : DT H a xs) (hb : H b = some u) (hu : ∀ o v, u ≠ .frz o v) : DT (L2.upd H b o) a xs := let ⟨w, d, e⟩ := h; ⟨w, d, by rw [upd_ne (ne_of e hb (fun z => hu _ _ z.symm))]; exact e⟩
section
variable {X : Cx}
/-- tuple(xs), a new one -/
def rTupD (K : PySem.W.Frag) : List V → Hp → VK → Prop := fun xs H Q => ∃ p ys, xs = [.ref p] ∧ ((SqL K H p ys ∧ ∀ (l : Addr) (o : Obj), H l = none → o.dict = none → Q (.ref l) (upd H l (.frz o (.tup ys)))) ∨ (SqT K H p ys ∧ Q (.ref p) H))
theorem call_tuple_ofD : CallR X (.type "tuple") (rTupD X.K) := by
  intro pins s σ H xs us Q I r h
  obtain ⟨p, ys, rfl, h⟩ := h
  obtain ⟨u, rfl, rx⟩ := vals1 r
  cases rx
  rcases h with ⟨hq, q⟩ | ⟨hq, q⟩
  · obtain ⟨its, r', pl, hz⟩ := I.list hq
    have hlen := r'.length
    refine call_tuple_list pl.isList (fun h' kp => ?_) (by simp only [List.size_toArray] <;> omega)
    have I1 : Inv X pins σ H { s with heap := h' } := I.kept (t' := s.toks) kp
    have I2 : Inv X pins σ (upd H h'.objs.size (.frz { cls := .type "tuple", data := .seq its.toArray } (.tup ys))) { s with heap := h'.push { cls := .type "tuple", data := .seq its.toArray } } :=
      I1.laid (t' := s.toks) (fun b o e => Heap.get?_push_of_some _ e) (Nat.le_refl _) (show ObjOk X.prog X.w _ _ _ (.frz _ (.tup ys)) from ⟨Heap.get?_push_size _ rfl, hz, its, r', IsTup.new _ _⟩)
    exact ⟨.ref h'.objs.size, _, I2, rfl, q _ _ (I1.hok.fresh (Nat.le_refl _)) rfl⟩
  · obtain ⟨its, r', pl, hz⟩ := I.tuple hq
    exact call_tuple_same pl ⟨.ref p, H, I, rfl, q⟩
def tTupD (t : TA) : TE := fun σ H Q => t σ H fun xs H1 => xs.length ≤ sizeLine ∧ ∀ (p : Addr) (o : Obj), H1 p = none → o.dict = none → Q (.ref p) (upd H1 p (.frz o (.tup xs)))
theorem pe_tupD {es : List Expr} {t : TA} {x1} {pos : Pos} (h : PA X es t) : PE X (.Tuple es x1 pos) (tTupD t) := by
  refine ⟨fun pins s σ H Q I hq => ?_⟩
  refine wpAny_Tuple_spliced (thn (h.run pos pins s σ H _ I hq) fun us s1 ⟨xs, H1, I1, r, z, q⟩ => ⟨by rw [← r.length]; exact z, ?_⟩)
  have hf : H1 s1.heap.objs.size = none := I1.hok.fresh (Nat.le_refl _)
  refine ⟨.ref s1.heap.objs.size, upd H1 s1.heap.objs.size (.frz { cls := .type "tuple", data := .seq us.toArray } (.tup xs)), I1.laid (t' := s1.toks) (fun b u e => Heap.get?_push_of_some _ e) (Nat.le_refl _) ?_, rfl, q _ _ hf rfl⟩
  exact ⟨Heap.get?_push_size _ rfl, z, us, r, ⟨_, Heap.get?_push_size _ rfl, rfl, _, rfl⟩⟩
/-- t.m(e, ..) -/
def tBMT (r : V → List V → Hp → VK → Prop) (to : TE) (t : TA) : TE := fun σ H Q => to σ H fun x H1 => (∃ p xs, x = .ref p ∧ DT H1 p xs) ∧ t σ H1 fun xs H2 => r x xs H2 Q
theorem pe_bmT {o e : Expr} {es : List Expr} {to : TE} {t : TA} {name : Str} {apos cpos : Pos} {id : String} {r : V → List V → Hp → VK → Prop} (pa : PlainAttrs "tuple") (slot : Slot "tuple" name id) (hty : typeOf (.builtin id) = pure (.type "method_descriptor")) (hm : MtR X id r) (ho : PE X o to) (ha : PA X (e :: es) t)
    (hbase : attributeBase o name X.env (eval o X.env) = eval o X.env := by rfl)
    (hfew : ((backTo cpos (starEach (e :: es) X.env)).all (fun x => !x.1) && (backToKw cpos (keywordEach [] X.env)).all (fun x => x.1.isSome)
      && decide ((e :: es).length + ([] : List Keyword).length + (if ([] : List Keyword).isEmpty then 0 else 1) < 30)) = true := by rfl)
    (hline : (apos.endLine == cpos.line) = true := by rfl) (hs : starEach (e :: es) X.env = (false, eval e X.env) :: starEach es X.env := by rfl) (hplain : (backTo cpos (starEach es X.env)).any (·.1) = false := by rfl) :
    PE X (.Call (.Attribute o name apos) (e :: es) [] cpos) (tBMT r to t) := by
  refine ⟨fun pins s σ H Q I h => ?_⟩
  refine wpAny_Call_method_late hbase hfew hline rfl (thn (ho.run pins s σ H _ I h) fun v s1 ⟨x, H1, I1, r1, ty, q1⟩ => ?_)
  obtain ⟨p, xs, rfl, ob, hd, hfz⟩ := ty
  obtain rfl : v = Value.ref p := r1
  obtain ⟨eo, _, its, _, ob', e', hc, _⟩ := (show ObjOk X.prog X.w H1 s1.heap p (.frz ob (.tup xs)) from I1.hok p _ hfz)
  rw [eo] at e'
  cases e'
  have h1 : s1.TypeIs (.ref p) "tuple" := ⟨ob, eo, hc⟩
  have h2 : ∀ a, Value.ref p = .ref a → ∃ ob, s1.heap.get? a = some ob ∧ ob.dict = none := fun a e => by cases e; exact ⟨ob, eo, hd⟩
  refine ⟨"tuple", id, pa, slot, hty, h1, h2, ?_⟩
  have hA := ha.run cpos pins s1 σ H1 _ I1 q1
  rw [hs] at hA ⊢
  refine Calls.callWith_builtin (by show (false || (backTo cpos (starEach es X.env)).any (·.1)) = false; rw [hplain] <;> rfl) (Calls.evalArgs_plain ?_)
  exact thn hA fun us s2 ⟨vs, H2, I2, r2, q2⟩ => hm pins s2 σ H2 (.ref p) vs (.ref p) us Q I2 rfl r2 q2
end
end My
set_option maxRecDepth 100000
set_option maxHeartbeats 4000000
namespace My
open PySem PySem.Spec PyProof.Rows L2
theorem rd_ne {H : Hp} {a b : Addr} {u v : HO} (h : L2.Rd H a u) (hb : H b = some v) (h1 : u ≠ v) (h2 : ∀ o, HO.frz o u ≠ v) : a ≠ b := by
  rcases h with h | ⟨o, h⟩
  · exact ne_of h hb h1
  · exact ne_of h hb (h2 o)
theorem rd_upd {H : Hp} {a b : Addr} {u o : HO} (h : L2.Rd H a u) (hne : a ≠ b) : L2.Rd (upd H b o) a u := by
  rcases h with h | ⟨w, h⟩
  · exact .inl (by rw [upd_ne hne]; exact h)
  · exact .inr ⟨w, by rw [upd_ne hne]; exact h⟩
theorem DT.rd {H : Hp} {a : Addr} {xs : List V} (h : DT H a xs) : L2.Rd H a (.tup xs) := let ⟨o, _, e⟩ := h; .inr ⟨o, e⟩
section
variable {X : Cx} {pins : List (Addr × Obj)} {σ : L2.St} {H : Hp} {s : Shared} {l it S : Addr} {i : Nat}
/-- list.extend over it -/
theorem tit_loopR {A1 : Around} {ys : List V} {Rs : Result → Shared → Prop} (hh : A1.handled = none) :
    ∀ (k i : Nat) (H : Hp) (s : Shared), ys.length - i = k → i ≤ ys.length → Inv X pins σ H s → H it = some (TitO l it i) → L2.Rd H l (.tup ys) → H S = some (.lst (ys.take i)) → ys.length < sizeLine →
      (∀ H2 s2, Inv X pins σ H2 s2 → (∀ b, b ≠ it → b ≠ S → H2 b = H b) → H2 S = some (.lst ys) → Rs (.ok (.ret .none)) s2) → codeAny (model X.prog X.w) A1 (.builtin "list.extend.loop" ⟨[.ref S, .ref it, .none], []⟩) Rs s := by
  intro k
  induction k with
  | zero =>
    intro i H s hk hi I h1 h2 h3 hz hR
    have hne : S ≠ it := ne_of h3 h1 (fun z => nomatch z)
    obtain ⟨its, rv, pl, _⟩ := I.tuple (.inl h2)
    refine codeAny_builtin PySem.F.entry_extend_loop ?_
    rw [Around.under_plainId PySem.F.plain_extend_loop _]
    show wpAny _ A1.in1 (pyNext (.ref it) >>= _) _ _ s
    have hno : (its.toArray)[i]? = none := by
      have := rv.length
      rw [List.getElem?_toArray, List.getElem?_eq_none_iff]
      omega
    refine wpAny_bind (tup_end hh (titO_get I h1) (show s.heap.IsTuple l its.toArray from pl) hno fun h' k' e' => wpAny_pure ?_)
    have J := I.write (t' := s.toks) (x := it) (e := it) (o := AnyO it) (by rw [h1]; exact True.intro) (.inl rfl) k' e' (anyO_ok e')
    refine hR _ _ J (fun b hb _ => upd_ne hb) ?_
    rw [upd_ne hne, h3, List.take_of_length_le (by omega)]
  | succ k ih =>
    intro i H s hk hi I h1 h2 h3 hz hR
    have hne : S ≠ it := ne_of h3 h1 (fun z => nomatch z)
    have hln : l ≠ it := rd_ne h2 h1 (fun z => nomatch z) (fun _ z => nomatch z)
    have hlS : l ≠ S := rd_ne h2 h3 (fun z => nomatch z) (fun _ z => nomatch z)
    obtain ⟨its, rv, pl, _⟩ := I.tuple (.inl h2)
    have hlen := rv.length
    have hlt : i < ys.length := by omega
    obtain ⟨u, hu, ru⟩ := rv.get (i := i) (x := ys[i]) (by simp [hlt])
    refine codeAny_builtin PySem.F.entry_extend_loop ?_
    rw [Around.under_plainId PySem.F.plain_extend_loop _]
    show wpAny _ A1.in1 (pyNext (.ref it) >>= _) _ _ s
    refine wpAny_bind (wpAny_pyNext_tuple_item (titO_get I h1) (show s.heap.IsTuple l its.toArray from pl) (x := u) (by rw [List.getElem?_toArray]; exact hu) fun h' hit hs => ?_)
    have J := I.write (t' := s.toks) (x := it) (e := it) (o := TitO l it (i + 1)) (by rw [h1]; exact True.intro) (.inl rfl) (fun b o hb e => hs.extBut b o hb e) ⟨_, hit.choose_spec.1⟩ (titO_ok hit)
    have h3' : upd H it (TitO l it (i + 1)) S = some (.lst (ys.take i)) := by rw [upd_ne hne]; exact h3
    show wpAny _ A1.in1 (updateSeq S (·.push u) >>= _) _ _ _
    obtain ⟨z, its3, n3, r3, hl3, e3⟩ := J.lstM h3'
    have hl4 : its3.length = i := by rw [← hl3, List.length_take]; omega
    refine wpAny_bind (wpAny_updateSeq e3 rfl (wpAny_pure ⟨plainId_quiet PySem.F.plain_extend_loop _, ?_⟩) (by rw [List.size_toArray]; omega) (by show (its3.toArray.push u).size ≤ sizeLine + 1; rw [Array.size_push, List.size_toArray]; omega))
    have et : ys.take (i + 1) = ys.take i ++ [ys[i]] := by rw [List.take_succ]; simp [hlt]
    have J2 := J.lset (f := (·.push u)) (its' := its3 ++ [u]) (t' := s.toks) (ys := ys.take (i + 1)) h3' e3 (by simp) (by rw [et]; exact r3.append (.cons ru .nil)) (by rw [List.length_take]; omega)
    refine ih (i + 1) _ _ (by omega) hlt J2 ?_ ?_ upd_same hz fun H2 s2 I2 k2 e2 => hR H2 s2 I2 (fun b hb hc => ?_) e2
    · rw [upd_ne (Ne.symm hne), upd_same]
    · exact rd_upd (rd_upd h2 hln) hlS
    · rw [k2 b hb hc, upd_ne hc, upd_ne hb]
end
/-- list(o): its __iter__ gives a tuple's iterator, its __len__ a number -/
def rLstItR (C : Addr) (spI spL : Sp) (EI EL : XK) : List V → Hp → VK → Prop := fun xs H Q => ∃ a dx fs, xs = [.ref a] ∧ H a = some (.ins C dx fs) ∧ ∀ q, H q = none → q ≠ a →
  spI [.ref a] (upd H q (.lst [])) (fun v H1 => ∃ it l ys, v = .ref it ∧ H1 it = some (TitO l it 0) ∧ L2.Rd H1 l (.tup ys) ∧ H1 q = some (.lst []) ∧ H1 a = some (.ins C dx fs) ∧ ys.length < sizeLine ∧
    spL [.ref a] H1 (fun n H2 => H2 = H1 ∧ ∃ k : Int, n = .int k ∧ 0 ≤ k ∧ k < 1000) EL ∧ ∀ H2, (∀ b, b ≠ it → b ≠ q → H2 b = H1 b) → H2 q = some (.lst ys) → Q (.ref q) H2) EI
section
variable {X : Cx} {CI : CXT} {n : Nat} {C fi fl : Addr} {fdI fdL : FuncData} {psI psL : List Str} {spI spL : Sp} {EI EL : XK}
theorem call_listItR (hc : ItL X.K C fi fl) (FI : FnOk X.prog X.w X.K X.mg X.base CI n fi fdI psI spI) (bI : Binds X.K fdI psI []) (xI : Passes CI X EI)
    (FL : FnOk X.prog X.w X.K X.mg X.base CX0 n fl fdL psL spL) (bL : Binds X.K fdL psL []) (hr : Room (n + 4) X.A) : CallR X (.type "list") (rLstItR C spI spL EI EL) := by
  intro pins s σ H xs us Q I rv h
  obtain ⟨a, dx, fs, rfl, ha, hq⟩ := h
  obtain ⟨u, rfl, ru⟩ := rv.one
  cases ru
  have sb : Sub X (n + 2) X.A.in1.in1 := (Sub.in1 (Sub.in1 (⟨hr, rfl⟩ : Sub X (n + 4) X.A)))
  refine callType_codes (Q₁ := fun obj s₁ => obj = .ref s.heap.objs.size ∧ s₁ = { s with heap := s.heap.push { cls := .type "list", data := .seq #[] } }) PySem.F.called_list (PySem.F.typeCall_list_1 _) PySem.F.entry_list_init (code_list_new _ ⟨rfl, rfl⟩) fun obj s₁ h₁ => ?_
  obtain ⟨rfl, rfl⟩ := h₁
  have hS : (s.heap.push { cls := .type "list", data := .seq #[] }).get? s.heap.objs.size = some { cls := .type "list", data := .seq #[] } := Heap.get?_push_size _ rfl
  refine ⟨⟨_, hS, rfl⟩, PySem.F.args_list_init_2 _ _, ?_⟩
  have fr : H s.heap.objs.size = none := I.hok.fresh (Nat.le_refl _)
  have sp0 := hq _ fr (fun z => by rw [z, ha] at fr; cases fr)
  have I1 : Inv X pins σ (upd H s.heap.objs.size (.lst [])) { s with heap := s.heap.push { cls := .type "list", data := .seq #[] } } := I.lnew (its := []) (t' := s.toks) .nil (Nat.zero_le _)
  show wpAny _ _ (do let old ← Builtin.List.listItems (.ref s.heap.objs.size); Builtin.List.listUpdate (.ref s.heap.objs.size) (fun _ => #[]); letGo old.toList.reverse; Builtin.List.listExtendWith (.ref s.heap.objs.size) (.ref a) .none) _ _ _
  refine wpAny_bind ?_
  unfold Builtin.List.listItems
  refine wpAny_bind (wpAny_seqItems hS rfl (wpAny_pure ?_))
  show wpAny _ _ (updateSeq s.heap.objs.size (fun _ => #[]) >>= fun _ => letGo (#[] : Array Value).toList.reverse >>= fun _ => Builtin.List.listExtendWith (.ref s.heap.objs.size) (.ref a) .none) _ _ _
  refine wpAny_bind (wpAny_updateSeq hS rfl ?_)
  have I2 := I1.lset (f := fun _ => #[]) (its := []) (its' := []) (ys := []) (t' := s.toks) upd_same hS rfl .nil (Nat.zero_le _)
  rw [upd_upd] at I2
  refine wpAny_bind (wpAny_letGo ?_)
  have ha2 : upd H s.heap.objs.size (.lst []) a = some (.ins C dx fs) := by rw [upd_ne (ne_of_none ha fr)]; exact ha
  have hne : s.heap.objs.size ≠ a := fun z => by rw [z, ha] at fr; cases fr
  generalize hq0 : s.heap.objs.size = q at *
  generalize hH0 : upd H q (.lst []) = H0 at *
  obtain ⟨mA, J, _⟩ := ins_get I2.hok ha2
  obtain ⟨od, J, _⟩ := J.look
  obtain ⟨m0, hF⟩ := I2.fr
  unfold Builtin.List.listExtendWith
  refine wpAny_bind (J.type.here ?_)
  have h1 : Builtin.List.listSameRef (.ref q) (.ref a) = false := by simp [Builtin.List.listSameRef, hne]
  simp only [h1, (rfl : (Value.ref C == Value.type "list") = false), (rfl : (Value.ref C == Value.type "tuple") = false), Bool.or_false, Bool.false_eq_true, if_false]
  refine wpAny_bind (PySem.W.owit_iter hF I2.ok.mod.kin J hc.it hc.itF ?_)
  refine wpAny_mono (call_at FI bI xI (A := X.A.in1.in1) (sb.mono (by omega)).room sb.fr I2 (vs := [.ref a]) (.cons rfl .nil) sp0) (fun v s3 z => ?_) fun _ _ z => z
  obtain ⟨x, H1, I3, r3, it, l, ys, ex, e1, e2, e3, e4, hz, q1, q2⟩ := z
  subst ex
  obtain rfl : v = Value.ref it := r3
  have hit := titO_get I3 e1
  unfold PySem.W.OwitIt
  refine wpAny_specialOf (show s3.TypeIs (.ref it) "tuple_iterator" from hit.typeIs) PySem.F.slot_tuple_iterator_next.lookup ?_
  show wpAny _ _ _ _ _ s3
  refine wpAny_bind (wpAny_holding ?_)
  obtain ⟨mB, J3, _⟩ := ins_get I3.hok e4
  obtain ⟨od3, J3, _⟩ := J3.look
  obtain ⟨m3, hF3⟩ := I3.fr
  unfold Builtin.List.listLengthHint
  refine wpAny_bind (wpAny_bind (J3.type.here ((PySem.W.looks_findIn I3.kIn hc.ln).here ?_)))
  refine PySem.W.KFB.if_not rfl ?_
  refine PySem.W.KFB.if_so rfl ?_
  refine wpAny_bind (wpAny_rule (wpAny_bind (wpAny_attempt ?_)))
  refine PySem.W.len_K hF3 I3.ok.mod.kin J3 hc.ln hc.lnF (wpAny_mono (call_at0 FL bL (A := X.A.in1.in1.in1) (Sub.in1 (sb.mono (show n + 1 ≤ n + 2 by omega))).room sb.fr I3 (vs := [.ref a]) (.cons rfl .nil) q1) (fun v s4 z => ?_) fun _ _ z => z)
  obtain ⟨x, H2, I4, r4, eH, k0, ek, hk0, hk1⟩ := z
  subst ek
  subst eH
  obtain ⟨tk4, rfl⟩ := r4
  refine ⟨⟨hk0, by omega⟩, ?_⟩
  refine wpAny_bind (wpAny_of_eq (a := some k0) rfl ?_)
  show wpAny _ _ (if Builtin.List.listTooLong k0.toNat = true then _ else _) _ _ _
  refine PySem.W.KFB.if_not (notLongL (by rw [sizeLine_eq]; omega)) (wpAny_pure ?_)
  have I5 := I4.tok (s4.toks + 1)
  have hne1 : q ≠ it := ne_of e3 e1 (fun z => nomatch z)
  have go : ∀ s5, Inv X pins σ H2 s5 → codeAny (model X.prog X.w) X.A.in1 (.builtin "list.extend.loop" ⟨[.ref q, .ref it, .none], []⟩) (wants (fun r s₂ => r = .none ∧ EP X pins σ Q (.ref q) s₂) X.xe) s5 := fun s5 I6 =>
    tit_loopR (A1 := X.A.in1) (Rs := wants (fun r s₂ => r = .none ∧ EP X pins σ Q (.ref q) s₂) X.xe) (show X.A.in1.handled = none from hr.hd) ys.length 0 H2 s5 (by omega) (Nat.zero_le _) I6 e1 e2 (by rw [List.take_zero]; exact e3) hz fun H7 s7 I7 k7 e7 => ⟨rfl, .ref q, H7, I7, rfl, q2 H7 k7 e7⟩
  refine wpAny_ite_split (fun _ => ?_) (fun _ => wpAny_pure ⟨plainId_quiet PySem.F.plain_extend_loop _, go _ I5⟩)
  refine wpAny_bind (wpAny_rule (wpAny_bind ?_))
  show wpAny _ _ (updateSeq q (·.push .none) >>= fun _ => updateSeq q (·.pop)) _ _ _
  obtain ⟨z, its, n5, r5, hl5, e5⟩ := I5.lstM e3
  cases r5
  refine wpAny_bind (wpAny_updateSeq e5 rfl ?_)
  have I6 := I5.lset (f := (·.push Value.none)) (its' := [Value.none]) (ys := [.non]) (t' := s4.toks + 1) e3 e5 (by simp) (.cons rfl .nil) (by rw [List.length_singleton, sizeLine_eq]; decide)
  obtain ⟨z6, its6, n6, r6, hl6, e6⟩ := I6.lstM upd_same
  obtain ⟨u6, rfl, ru6⟩ := r6.one
  refine wpAny_updateSeq e6 rfl (wpAny_pure ⟨plainId_quiet PySem.F.plain_extend_loop _, go _ ?_⟩) (by show 1 ≤ sizeLine; rw [sizeLine_eq]; decide) (by show 0 ≤ sizeLine + 1; exact Nat.zero_le _)
  have I7 := I6.lset (f := (·.pop)) (its := [u6]) (its' := []) (ys := []) (t' := s4.toks + 1) upd_same e6 (by rfl) .nil (Nat.zero_le _)
  rw [upd_upd] at I7
  have hH : upd H2 q (.lst []) = H2 := by
    funext b
    by_cases hb : b = q
    · rw [hb, upd_same, e3]
    · rw [upd_ne hb]
  rw [hH] at I7
  exact I7
end
end My
set_option maxRecDepth 100000
set_option maxHeartbeats 4000000
namespace My
open PySem L2 PySem.Spec PyProof.Rows
section
variable {X : Cx} {CX : CXT} {k : Nat} {f C : Addr} {fd : FuncData} {ps : List Str} {sp : Sp} {m : Str} {o e : Expr} {es : List Expr} {ta : TE} {t : TA} {apos pos : Pos}
/-- o.m(e, ..) that may raise, what is wished of the exception may speak of the slots -/
def tMethE (C : Addr) (m : Str) (sp : Sp) (E : L2.St → XK) (ta : TE) (t : TA) : TE := fun σ H Q => ta σ H fun x H1 => ∃ a dx fs, x = .ref a ∧ H1 a = some (.ins C dx fs) ∧ fs.lookup m = none ∧ t σ H1 fun vs H2 => sp (x :: vs) H2 Q (E σ)
theorem pe_methE {E : L2.St → XK} {pl : Sem Bool} (he : PE X o ta) (c : Cls X.K C) (hm : Meth X.K C m f) (F : FnOk X.prog X.w X.K X.mg X.base CX k f fd ps sp) (hr : Room k X.A) (hb : Binds X.K fd ps []) (hx : ∀ σ, PassesAt CX X σ (E σ)) (ha : PA X (e :: es) t)
    (hst : starEach (e :: es) X.env = (false, eval e X.env) :: starEach es X.env := by rfl) (hpl : (backTo pos (starEach es X.env)).any (·.1) = false := by rfl)
    (ht : eval (.Call (.Attribute o m apos) (e :: es) [] pos) X.env = (do
      let ov ← eval o X.env
      standAt apos.atName
      let (f, first) ← holding [ov] (getMethod ov m pl)
      callWith pos f first (backTo pos (starEach (e :: es) X.env)) (backToKw pos (keywordEach [] X.env))) := by rfl) :
    PE X (.Call (.Attribute o m apos) (e :: es) [] pos) (tMethE C m sp E ta t) := by
  refine ⟨fun pins s σ H Q I h => ?_⟩
  refine PySem.W.methodCall_KW (pl := pl) (thn (he.run pins s σ H _ I h) fun u s1 ⟨x, H1, I1, rx, a, dx, fs, ex, ea, l, q⟩ => ?_) ht
  subst ex
  obtain rfl : u = Value.ref a := rx
  refine getmeth_ok I1 ea c hm l ?_
  refine PySem.W.callWith_K (first := [.ref a]) (h₀ := X.base) I.ok.mod.kin hm.kp (thn (ha.run pos pins s1 σ H1 _ I1 q) fun us s2 ⟨vs, H2, I2, r, q2⟩ => ⟨I2.kIn, ?_⟩) hst hpl
  exact run_fnS (us := .ref a :: us) (vs := .ref a :: vs) F hr hb (hx σ) I2 (.cons rfl r) q2
theorem pe_methE0 {E : L2.St → XK} {pl : Sem Bool} (he : PE X o ta) (c : Cls X.K C) (hm : Meth X.K C m f) (F : FnOk X.prog X.w X.K X.mg X.base CX k f fd ps sp) (hr : Room k X.A) (hb : Binds X.K fd ps []) (hx : ∀ σ, PassesAt CX X σ (E σ))
    (ht : eval (.Call (.Attribute o m apos) [] [] pos) X.env = (do
      let ov ← eval o X.env
      standAt apos.atName
      let (f, first) ← holding [ov] (getMethod ov m pl)
      callWith pos f first (backTo pos (starEach [] X.env)) (backToKw pos (keywordEach [] X.env))) := by rfl) :
    PE X (.Call (.Attribute o m apos) [] [] pos) (tMethE C m sp E ta tNil) := by
  refine ⟨fun pins s σ H Q I h => ?_⟩
  refine PySem.W.methodCall_KW (pl := pl) (thn (he.run pins s σ H _ I h) fun u s1 ⟨x, H1, I1, rx, a, dx, fs, ex, ea, l, q⟩ => ?_) ht
  subst ex
  obtain rfl : u = Value.ref a := rx
  refine getmeth_ok I1 ea c hm l ?_
  exact PySem.W.callWith_K0 (first := [.ref a]) I1.kIn hm.kp (run_fnS (us := [.ref a]) (vs := [.ref a]) F hr hb (hx σ) I1 (.cons rfl .nil) q)
end
end My
set_option maxRecDepth 100000
set_option maxHeartbeats 4000000
set_option exponentiation.threshold 10000
namespace My
open PySem L2
theorem hu10 {A : Around} {k : Nat} (hr : Room k A) : A.units + 10 < cLine := by have := hr.un; omega
/-- text * int -/
theorem op_mulS {X : Cx} : OpR X (binaryOp .Mult) (fun x y H Q => ∃ (z : Str) (n : Int), x = .str z ∧ y = .int n ∧ MulOk z n ∧ Q (.str (Txt.mul z n)) H) := by
  intro pins s σ H x y v u Q I rx ry h
  obtain ⟨z, n, rfl, rfl, ok, q⟩ := h
  obtain ⟨t, rfl⟩ := rx
  obtain ⟨t', rfl⟩ := ry
  exact PySem.SB.mul ok fun t' k => ⟨.str (Txt.mul z n), H, I.tok _, ⟨_, rfl⟩, q⟩
def rLen2 (K : PySem.W.Frag) : List V → Hp → VK → Prop := fun xs H Q => ∃ p ys, xs = [.ref p] ∧ (SqL K H p ys ∨ SqT K H p ys) ∧ Q (.int ys.length) H
def rListOf (K : PySem.W.Frag) : List V → Hp → VK → Prop := fun xs H Q => ∃ p ys, xs = [.ref p] ∧ (SqL K H p ys ∨ SqT K H p ys) ∧ ∀ l, H l = none → Q (.ref l) (upd H l (.lst ys))
def rTupOf (K : PySem.W.Frag) : List V → Hp → VK → Prop := fun xs H Q => ∃ p ys, xs = [.ref p] ∧ ((SqL K H p ys ∧ ∀ l, H l = none → Q (.ref l) (upd H l (.tup ys))) ∨ (SqT K H p ys ∧ Q (.ref p) H))
/-! ### texts in lists -/
abbrev sv (ss : List Str) : List V := ss.map V.str
theorem len_sv (ss : List Str) : (sv ss).length = ss.length := List.length_map ..
theorem flat_sv (ss : List Str) : (sv ss).all flatV = true := by
  rw [List.all_eq_true]; intro x hx; obtain ⟨s, _, rfl⟩ := List.mem_map.mp hx; rfl
theorem eqV_str (a b : Str) : eqV (.str a) (.str b) = decide (a = b) := by
  first | rfl | (simp only [eqV]; by_cases h : a = b <;> simp [h])
theorem inV_str (x : Str) (ss : List Str) : inV (.str x) (sv ss) = decide (x ∈ ss) := by
  unfold inV
  rw [Bool.eq_iff_iff, List.any_eq_true, decide_eq_true_iff]
  constructor
  · rintro ⟨y, hy, e⟩
    obtain ⟨s, hs, rfl⟩ := List.mem_map.mp hy
    rw [eqV_str, decide_eq_true_iff] at e
    rw [← e]; exact hs
  · intro h
    exact ⟨.str x, List.mem_map.mpr ⟨x, h, rfl⟩, by rw [eqV_str]; simp⟩
theorem sv_get {ss : List Str} {i : Nat} {v : V} (h : (sv ss)[i]? = some v) : ∃ s, ss[i]? = some s ∧ v = .str s := by
  rw [List.getElem?_map] at h
  cases e : ss[i]? with
  | none => rw [e] at h; cases h
  | some t => rw [e] at h; exact ⟨t, rfl, (Option.some.inj h).symm⟩
theorem cut_take {xs : List V} {k : Nat} (h : k ≤ xs.length) : cutV xs none (some (k : Int)) = xs.take k := by
  unfold cutV
  rw [HT.sIx_none, HT.sIx_nat, Nat.min_eq_left h]
  simp
theorem cut_drop {xs : List V} {k : Nat} (h : k ≤ xs.length) : cutV xs (some (k : Int)) none = xs.drop k := by
  unfold cutV
  rw [HT.sIx_none, HT.sIx_nat, Nat.min_eq_left h]
  rw [List.take_of_length_le (by rw [List.length_drop]; exact Nat.le_refl _)]
theorem sv_take (ss : List Str) (k : Nat) : (sv ss).take k = sv (ss.take k) := List.map_take.symm
theorem sv_drop (ss : List Str) (k : Nat) : (sv ss).drop k = sv (ss.drop k) := List.map_drop.symm
/-! ### names -/
def Letters (l : List Nat) : Prop := ∀ c ∈ l, 97 ≤ c ∧ c ≤ 122
structure Good (z : Str) : Prop where
  pos : 1 ≤ z.length
  le : z.length ≤ 8
  let_ : Letters z.cps.toList
/-! ### the first stray of a list -/
def badAt (cs ns : List Str) (i : Nat) : Bool := match ns[i]? with | some x => !decide (x ∈ cs) || decide (x ∈ ns.take i) | none => false
def stray (cs ns : List Str) : Option Nat := (List.range ns.length).find? (badAt cs ns)
def fault (cs ns : List Str) : Option Nat := match stray cs ns with | some i => some i | none => if ns.length < cs.length then some ns.length else none
def optV : Option Nat → V
  | none => .non
  | some i => .int (i : Nat)
theorem stray_some {cs ns : List Str} {i : Nat} (hi : i < ns.length) (h1 : badAt cs ns i = true) (h2 : ∀ j, j < i → badAt cs ns j = false) : stray cs ns = some i := by
  unfold stray
  rw [List.find?_range_eq_some]
  exact ⟨h1, List.mem_range.mpr hi, fun j hj => by rw [h2 j hj]; rfl⟩
theorem stray_none {cs ns : List Str} (h2 : ∀ j, j < ns.length → badAt cs ns j = false) : stray cs ns = none := by
  unfold stray
  rw [List.find?_eq_none]
  intro j hj
  rw [h2 j (List.mem_range.mp hj)]
  exact Bool.false_ne_true
theorem stray_none_iff {cs ns : List Str} : stray cs ns = none ↔ (∀ x ∈ ns, x ∈ cs) ∧ ns.Nodup := by
  unfold stray
  rw [List.find?_eq_none]
  constructor
  · intro h
    have hb : ∀ i (hi : i < ns.length), ns[i] ∈ cs ∧ ns[i] ∉ ns.take i := fun i hi => by
      have := h i (List.mem_range.mpr hi)
      unfold badAt at this
      rw [List.getElem?_eq_getElem hi] at this
      simpa using this
    refine ⟨fun x hx => ?_, ?_⟩
    · obtain ⟨i, hi, rfl⟩ := List.getElem_of_mem hx
      exact (hb i hi).1
    · rw [List.nodup_iff_pairwise_ne, List.pairwise_iff_getElem]
      intro i j hi hj hij e
      refine (hb j hj).2 ?_
      rw [← e]
      exact List.mem_take_iff_getElem.mpr ⟨i, by omega, rfl⟩
  · rintro ⟨h1, h2⟩ i hi
    have hi := List.mem_range.mp hi
    unfold badAt
    rw [List.getElem?_eq_getElem hi]
    have a := h1 _ (List.getElem_mem hi)
    have b : ns[i] ∉ ns.take i := fun hm => by
      obtain ⟨j, hj, e⟩ := List.mem_take_iff_getElem.mp hm
      rw [List.nodup_iff_pairwise_ne, List.pairwise_iff_getElem] at h2
      exact h2 j i (by omega) hi (by omega) e
    simp [a, b]
theorem fault_none {cs ns : List Str} (h1 : ∀ x ∈ ns, x ∈ cs) (h2 : ns.Nodup) (h3 : cs.length ≤ ns.length) : fault cs ns = none := by
  unfold fault
  rw [stray_none_iff.mpr ⟨h1, h2⟩]
  show (if ns.length < cs.length then _ else _) = _
  rw [if_neg (by omega)]
/-- the law's list of what is wrong -/
def wrongs (cs ns : List Str) : List Nat := (List.range ns.length).filter (badAt cs ns) ++ if ns.length < cs.length then [ns.length] else []
theorem wrongs_head (cs ns : List Str) : (wrongs cs ns).head? = fault cs ns := by
  unfold wrongs fault stray
  rw [List.head?_append, List.head?_filter]
  cases (List.range ns.length).find? (badAt cs ns) with
  | some i => rfl
  | none =>
    show Option.or none _ = (if _ then _ else _)
    split <;> rfl
/-! ### runs -/
def runAt (fl : List Bool) (i : Nat) : Bool := fl.getD i false && !(decide (0 < i) && fl.getD (i - 1) false)
def runs (fl : List Bool) : Nat := ((List.range fl.length).filter (runAt fl)).length
theorem runs_le (fl : List Bool) : runs fl ≤ fl.length := by
  unfold runs
  have := List.length_filter_le (runAt fl) (List.range fl.length)
  rw [List.length_range] at this
  exact this
/-! ### the picture -/
theorem mul_len (n : Int) : (Txt.mul (" " : Str) n).length = n.toNat := by
  unfold Txt.mul
  have h1 : ((" " : Str).length == 0) = false := by decide
  split
  · rename_i h
    show 0 = n.toNat
    omega
  · rename_i h
    split
    · rename_i h'
      rw [h1, Bool.or_false, beq_iff_eq] at h'
      subst h'
      rfl
    · have e : ∀ (m : Nat) (acc : Array Nat), ((List.replicate m (" " : Str).cps).foldl (· ++ ·) acc).size = acc.size + m := by
        intro m
        induction m with
        | zero => intro acc; rfl
        | succ m ih =>
          intro acc
          rw [List.replicate_succ, List.foldl_cons, ih, Array.size_append]
          have : (" " : Str).cps.size = 1 := by decide
          rw [this]; omega
      show ((List.replicate n.toNat (" " : Str).cps).foldl (· ++ ·) #[]).size = n.toNat
      rw [e]
      show 0 + n.toNat = _
      omega
theorem mul_cps (n : Int) : (Txt.mul (" " : Str) n).cps = Array.replicate n.toNat 32 := by
  unfold Txt.mul
  have h1 : ((" " : Str).length == 0) = false := by decide
  split
  · rename_i h
    have : n.toNat = 0 := by omega
    rw [this]
    rfl
  · rename_i h
    split
    · rename_i h'
      rw [h1, Bool.or_false, beq_iff_eq] at h'
      subst h'
      decide
    · have e : ∀ (m : Nat) (acc : Array Nat), ((List.replicate m (" " : Str).cps).foldl (· ++ ·) acc) = acc ++ Array.replicate m 32 := by
        intro m
        induction m with
        | zero => intro acc; simp
        | succ m ih =>
          intro acc
          rw [List.replicate_succ, List.foldl_cons, ih]
          have : (" " : Str).cps = #[32] := by decide
          rw [this, Array.append_assoc]
          congr 1
          apply Array.toList_inj.mp
          simp [List.replicate_succ]
      show ((List.replicate n.toNat (" " : Str).cps).foldl (· ++ ·) #[]) = _
      rw [e]
      simp
theorem str_ext {a b : Str} (h : a.cps = b.cps) : a = b := by cases a; cases b; exact congrArg Str.mk h
theorem append_cps (a b : Str) : (a ++ b).cps = a.cps ++ b.cps := rfl
theorem ljust_eq (x : Str) (W : Int) : Txt.ljust x W = x ++ Txt.mul " " (W - x.length) := by
  apply str_ext
  rw [append_cps, mul_cps]
  unfold Txt.ljust
  split
  · rename_i h
    have : (W - (x.length : Int)).toNat = 0 := by omega
    rw [this]; simp
  · rename_i h
    have : W.toNat - x.length = (W - (x.length : Int)).toNat := by omega
    rw [this]
    show Array.replicate 0 32 ++ x.cps ++ Array.replicate _ 32 = _
    simp
theorem ljust_len (x : Str) (W : Int) : (Txt.ljust x W).length = x.length + (W - x.length).toNat := by
  rw [ljust_eq, Str.length_append, mul_len]
def fill (ws : List Str) (W : Int) : Str := Txt.join " " (ws.map fun x => Txt.ljust x W)
def marks (order row : List Str) : List Str := order.map fun x => if x ∈ row then ("x" : Str) else "."
def flags (order row : List Str) : List Bool := order.map fun x => decide (x ∈ row)
def num4 (n : Nat) : Str := Txt.rjust (Str.ofString (toString (n : Int))) 4
def line (order : List Str) (W : Int) (row : List Str) : Str := fill (marks order row) W ++ num4 (runs (flags order row))
def pic (order : List Str) (rows : List (List Str)) (W : Int) : Str := Txt.join "\n" (fill order W :: rows.map (line order W))
theorem num_small : ∀ n : Fin 13, (Str.ofString (toString ((n.val : Nat) : Int))).length ≤ 4 := by decide +kernel
theorem num4_len {n : Nat} (h : n ≤ 12) : (num4 n).length = 4 := by
  have hl : (Str.ofString (toString (n : Int))).length ≤ 4 := num_small ⟨n, by omega⟩
  unfold num4 Txt.rjust
  generalize Str.ofString (toString (n : Int)) = x at hl ⊢
  split
  · rename_i h4; omega
  · show (Array.replicate _ 32 ++ x.cps ++ Array.replicate 0 32).size = 4
    simp
    show (4 : Int).toNat - x.length + x.length = 4
    omega
theorem cut4 {s : Str} (h : s.length ≤ 4) : cutS (("    " : Str) ++ s) (some (-4)) none = Txt.rjust s 4 := by
  apply str_ext
  unfold cutS Txt.rjust
  have hl : (("    " : Str) ++ s).length = 4 + s.length := by rw [Str.length_append]; rfl
  have h1 : HT.sIx (("    " : Str) ++ s).length 0 (some (-4)) = s.length := by
    rw [hl]
    show (if (-4 : Int) < 0 then ((-4 : Int) + ((4 + s.length : Nat) : Int)).toNat else min (-4 : Int).toNat (4 + s.length)) = s.length
    rw [if_pos (by decide)]; omega
  rw [h1, HT.sIx_none, hl]
  have e4 : (("    " : Str)).cps.toList = List.replicate 4 32 := by decide
  apply Array.toList_inj.mp
  rw [append_cps, Array.toList_append, e4]
  have h5 : 4 + s.length - s.length = 4 := by omega
  rw [h5]
  have hs : s.cps.toList.length = s.length := by simp [Str.length]
  have e6 : (List.replicate 4 32 ++ s.cps.toList).drop s.length = List.replicate (4 - s.length) 32 ++ s.cps.toList := by
    rw [List.drop_append_of_le_length (by simp; exact h), List.drop_replicate]
  rw [e6, List.take_of_length_le (by rw [List.length_append, List.length_replicate, hs]; omega)]
  split
  · rename_i h4
    have : 4 - s.length = 0 := by omega
    rw [this]; rfl
  · show _ = (Array.replicate ((4 : Int).toNat - s.length) 32 ++ s.cps ++ Array.replicate 0 32).toList
    simp
/-! ### lengths -/
theorem sum_le {ys : List Nat} {B : Nat} (h : ∀ y ∈ ys, y ≤ B) : ys.sum ≤ ys.length * B := by
  induction ys with
  | nil => simp
  | cons y r ih =>
    have h1 := h y List.mem_cons_self
    have h2 := ih fun x hx => h x (List.mem_cons_of_mem _ hx)
    rw [List.sum_cons, List.length_cons, Nat.succ_mul]
    omega
theorem join_len (a : Str) : ∀ ys : List Str, (Txt.join a ys).length ≤ (ys.map (·.length)).sum + ys.length * a.length
  | [] => by
    show (Txt.join a []).length ≤ 0 + 0 * a.length
    have : (Txt.join a []).length = 0 := rfl
    omega
  | [x] => by
    have : Txt.join a [x] = x := by rw [TL.join_eq]; rfl
    rw [this]
    simp
  | x :: y :: r => by
    have e : Txt.join a (x :: y :: r) = x ++ a ++ Txt.join a (y :: r) := by rw [TL.join_eq, TL.join_eq]; rfl
    have ih := join_len a (y :: r)
    rw [e, Str.length_append, Str.length_append, List.map_cons, List.sum_cons, List.length_cons, Nat.succ_mul]
    omega
theorem fits_join {a : Str} {ys : List Str} {B n : Nat} (h : ∀ y ∈ ys, y.length ≤ B) (hn : ys.length ≤ n) (hs : n * (B + a.length) ≤ 16777216) : (ys.map (·.length)).sum + ys.length * a.length ≤ 16777216 ∧ (Txt.join a ys).length ≤ n * (B + a.length) := by
  have h1 : (ys.map (·.length)).sum ≤ (ys.map (·.length)).length * B := sum_le fun y hy => by
    obtain ⟨z, hz, rfl⟩ := List.mem_map.mp hy
    exact h z hz
  rw [List.length_map] at h1
  have h2 := join_len a ys
  have h3 : ys.length * (B + a.length) ≤ n * (B + a.length) := Nat.mul_le_mul_right _ hn
  rw [Nat.mul_add] at h3
  omega
/-! ### names, in general -/
def okName (z : Str) : Bool := decide (1 ≤ z.length) && (decide (z.length ≤ 8) && z.cps.toList.all fun c => decide (97 ≤ c ∧ c ≤ 122))
theorem okName_iff {z : Str} : okName z = true ↔ Good z := by
  unfold okName
  rw [Bool.and_eq_true, Bool.and_eq_true, decide_eq_true_iff, decide_eq_true_iff, List.all_eq_true]
  exact ⟨fun ⟨a, b, c⟩ => ⟨a, b, fun x hx => of_decide_eq_true (c x hx)⟩, fun h => ⟨h.pos, h.le, fun x hx => decide_eq_true (h.let_ x hx)⟩⟩
def badName (ns : List Str) (i : Nat) : Bool := match ns[i]? with | some x => !okName x || decide (x ∈ ns.take i) | none => false
def firstBad (ns : List Str) : Option Nat := (List.range ns.length).find? (badName ns)
theorem firstBad_some {ns : List Str} {i : Nat} (hi : i < ns.length) (h1 : badName ns i = true) (h2 : ∀ j, j < i → badName ns j = false) : firstBad ns = some i := by
  unfold firstBad
  rw [List.find?_range_eq_some]
  exact ⟨h1, List.mem_range.mpr hi, fun j hj => by rw [h2 j hj]; rfl⟩
theorem firstBad_none {ns : List Str} (h2 : ∀ j, j < ns.length → badName ns j = false) : firstBad ns = none := by
  unfold firstBad
  rw [List.find?_eq_none]
  intro j hj
  rw [h2 j (List.mem_range.mp hj)]
  exact Bool.false_ne_true
theorem firstBad_none_iff {ns : List Str} : firstBad ns = none ↔ (∀ x ∈ ns, Good x) ∧ ns.Nodup := by
  unfold firstBad
  rw [List.find?_eq_none]
  constructor
  · intro h
    have hb : ∀ i (hi : i < ns.length), Good ns[i] ∧ ns[i] ∉ ns.take i := fun i hi => by
      have := h i (List.mem_range.mpr hi)
      unfold badName at this
      rw [List.getElem?_eq_getElem hi] at this
      simp at this
      exact ⟨okName_iff.mp this.1, this.2⟩
    refine ⟨fun x hx => ?_, ?_⟩
    · obtain ⟨i, hi, rfl⟩ := List.getElem_of_mem hx
      exact (hb i hi).1
    · rw [List.nodup_iff_pairwise_ne, List.pairwise_iff_getElem]
      intro i j hi hj hij e
      refine (hb j hj).2 ?_
      rw [← e]
      exact List.mem_take_iff_getElem.mpr ⟨i, by omega, rfl⟩
  · rintro ⟨h1, h2⟩ i hi
    have hi := List.mem_range.mp hi
    unfold badName
    rw [List.getElem?_eq_getElem hi]
    have a := okName_iff.mpr (h1 _ (List.getElem_mem hi))
    have b : ns[i] ∉ ns.take i := fun hm => by
      obtain ⟨j, hj, e⟩ := List.mem_take_iff_getElem.mp hm
      rw [List.nodup_iff_pairwise_ne, List.pairwise_iff_getElem] at h2
      exact h2 j i (by omega) hi (by omega) e
    simp [a, b]
/-! ### strip -/
theorem strip_all {x y : Str} : Txt.stripChars x y = Str.empty ↔ ∀ c ∈ x.cps.toList, y.cps.contains c = true := by
  obtain ⟨a0, a1, a2⟩ := PyProof.Rows.lo_facts y.cps.contains x
  obtain ⟨b0, b1, b2, b3⟩ := PyProof.Rows.hi_facts y.cps.contains x (PySem.stripLo y.cps.contains true x) a0
  unfold Txt.stripChars
  rw [PyProof.Rows.stripBy_eq]
  generalize PySem.stripLo y.cps.contains true x = lo at *
  generalize PySem.stripHi y.cps.contains true x lo = hi at *
  have hl : (Builtin.Str.strSub x lo hi).length = hi - lo := by
    show (x.cps.extract lo hi).size = hi - lo
    rw [Array.size_extract]
    have : x.cps.size = x.length := rfl
    rw [this]
    have := b1
    omega
  have gd : ∀ k (hk : k < x.length), x.cps.getD k 0 = x.cps[k]'hk := fun k hk => by
    show x.cps.getD k 0 = _
    unfold Array.getD
    exact dif_pos hk
  constructor
  · intro e c hc
    rw [e] at hl
    have hl : 0 = hi - lo := hl
    rw [Array.mem_toList_iff] at hc
    obtain ⟨k, hk, rfl⟩ := Array.getElem_of_mem hc
    by_cases h : k < lo
    · have := a1 k h; rw [gd k hk] at this; exact this
    · have := b2 k (by omega) hk; rw [gd k hk] at this; exact this
  · intro h
    have lo_eq : lo = x.length := by
      rcases a2 with e | e
      · exact e
      · by_cases hlt : lo < x.length
        · rw [gd lo hlt, h _ (by rw [Array.mem_toList_iff]; exact Array.getElem_mem hlt)] at e; cases e
        · omega
    have : hi - lo = 0 := by omega
    rw [this] at hl
    apply str_ext
    exact Array.eq_empty_of_size_eq_zero hl
theorem alpha_has : ∀ c : Nat, (("abcdefghijklmnopqrstuvwxyz" : Str)).cps.contains c = true ↔ 97 ≤ c ∧ c ≤ 122 := by
  intro c
  rw [Array.contains_iff_mem]
  have e : (("abcdefghijklmnopqrstuvwxyz" : Str)).cps.toList = (List.range 26).map (97 + ·) := by decide +kernel
  rw [← Array.mem_toList_iff, e, List.mem_map]
  constructor
  · rintro ⟨a, ha, rfl⟩
    have := List.mem_range.mp ha
    omega
  · rintro ⟨h1, h2⟩
    exact ⟨c - 97, List.mem_range.mpr (by omega), by omega⟩
theorem strip_ok {z : Str} : Txt.stripChars z "abcdefghijklmnopqrstuvwxyz" = Str.empty ↔ Letters z.cps.toList := by
  rw [strip_all]
  exact ⟨fun h c hc => (alpha_has c).mp (h c hc), fun h c hc => (alpha_has c).mpr (h c hc)⟩
theorem empty_eq : ("" : Str) = Str.empty := by decide
theorem okName_and {z : Str} : okName z = true ↔ Txt.stripChars z "abcdefghijklmnopqrstuvwxyz" = ("" : Str) ∧ (0 < z.length ∧ z.length < 9) := by
  rw [okName_iff, empty_eq, strip_ok]
  exact ⟨fun g => ⟨g.let_, by have := g.pos; omega, by have := g.le; omega⟩, fun ⟨a, b, c⟩ => ⟨by omega, by omega, a⟩⟩
/-- // by any divisor but 0 below 2 ^ 9000 -/
def CDivX (_ j : Int) : Prop := j ≠ 0 ∧ j.natAbs < 2 ^ 9000
theorem op_fdivX {X : Cx} : OpR X (binaryOp .FloorDiv) (rI CDivX fun i j => .int (i.fdiv j)) := opI fun i j _ _ _ _ _ hc q =>
  PyProof.Rows.floordiv_int hc.1 q (.inl (PyProof.noPylong_of_log2 (PySem.Flt.log2_lt_of (by decide) hc.2)))
theorem itN {c A B : Prop} [Decidable c] (hc : ¬ c) (h : B) : if decide c = true then A else B := by
  rw [decide_eq_false hc]; exact iteF h
theorem itY {c A B : Prop} [Decidable c] (hc : c) (h : A) : if decide c = true then A else B := by
  rw [decide_eq_true hc]; exact iteT h
theorem ifT {b : Bool} {A B : Prop} (hb : b = true) (h : A) : if b = true then A else B := by rw [if_pos hb]; exact h
theorem ifF {b : Bool} {A B : Prop} (hb : b = false) (h : B) : if b = true then A else B := by rw [if_neg (by rw [hb]; decide)]; exact h
theorem same_new {H : Hp} {l : Addr} {o : HO} (h : H l = none) : Same H (upd H l o) := fun b u e => by rw [upd_ne (ne_of_none e h)]; exact e
theorem _root_.L2.Same.tup {K : PySem.W.Frag} {H H' : Hp} {a : Addr} {xs : List V} (e : Same H H') (h : SqT K H a xs) : SqT K H' a xs := by
  rcases h with (r | ⟨o, r⟩) | z
  · exact .inl (.inl (e _ _ r))
  · exact .inl (.inr ⟨o, e _ _ r⟩)
  · exact .inr z
/-! ### a comprehension's list -/
/-- the heap H1 has grown, at D stands fm i -/
def PvS (H1 : Hp) (D : Addr) (fm : Nat → List V) (i : Nat) (H : Hp) : Prop := Same H1 H ∧ H D = some (.lst (fm i))
theorem pv0 {H1 : Hp} {D : Addr} {fm : Nat → List V} (hD : H1 D = none) (h : fm 0 = []) : PvS H1 D fm 0 (upd H1 D (.lst [])) := ⟨same_new hD, by rw [h]; exact upd_same⟩
theorem PvS.more {H1 H H' : Hp} {D : Addr} {fm : Nat → List V} {i : Nat} (p : PvS H1 D fm i H) (s : Same H H') : PvS H1 D fm i H' := ⟨p.1.trans s, s _ _ p.2⟩
theorem PvS.push {H1 H : Hp} {D : Addr} {fm : Nat → List V} {i : Nat} {y : V} (p : PvS H1 D fm i H) (hD : H1 D = none) (h : fm (i + 1) = fm i ++ [y]) (hl : (fm i).length ≤ 1000000) :
    ∃ acc, H D = some (.lst acc) ∧ acc.length < sizeLine ∧ PvS H1 D fm (i + 1) (upd H D (.lst (acc ++ [y]))) := by
  refine ⟨fm i, p.2, Nat.lt_of_le_of_lt hl (by decide), fun b o e => ?_, ?_⟩
  · rw [upd_ne (ne_of_none e hD)]; exact p.1 _ _ e
  · rw [h]; exact upd_same
theorem PvS.skip {H1 H : Hp} {D : Addr} {fm : Nat → List V} {i : Nat} (p : PvS H1 D fm i H) (h : fm (i + 1) = fm i) : PvS H1 D fm (i + 1) H := ⟨p.1, by rw [h]; exact p.2⟩
theorem small_int {n : Nat} (h : n ≤ 1000000) : n < sizeLine := Nat.lt_of_le_of_lt h (by decide)
theorem take_succ {α : Type} {xs : List α} {i : Nat} {x : α} (h : xs[i]? = some x) : xs.take (i + 1) = xs.take i ++ [x] := by
  rw [List.take_succ, h]; rfl
theorem not_take {ns : List Str} {i : Nat} {z : Str} (nd : ns.Nodup) (hz : ns[i]? = some z) : z ∉ ns.take i := by
  intro hm
  obtain ⟨j, hj, e⟩ := List.mem_take_iff_getElem.mp hm
  obtain ⟨hi, e2⟩ := List.getElem?_eq_some_iff.mp hz
  rw [List.nodup_iff_pairwise_ne, List.pairwise_iff_getElem] at nd
  exact nd j i (by omega) hi (by omega) (e.trans e2.symm)
theorem itNe {A B : Prop} {x y : V} (h : x = y) (h2 : B) : if (!decide (x = y)) = true then A else B := by
  rw [decide_eq_true h]; exact iteF h2
theorem itNeN {A B : Prop} {x y : V} (h : x ≠ y) (h2 : A) : if (!decide (x = y)) = true then A else B := by
  rw [decide_eq_false h]; exact iteT h2
/-- a def that may raise -/
theorem funX {P : Program} {w : World} {K : PySem.W.Frag} {mg : Str → Option Value} {base : Heap} {CX : CXT} {x qual : Str} {st : Stmt} {f : Addr} {fd : FuncData} {N ps : List Str} {k : Nat} {sp : Sp} (F : Fun K x qual st f fd) (S : FnScope N ps (defScope st)) (len : ∀ vs H Q E, sp vs H Q E → vs.length = ps.length)
    (hbody : ∀ (cdv : Value) (A : Around) (outer : List Env) (s : Shared) (H : Hp) (vs : List V) (Q : VK) (E : XK), Room k (A.deeper (PyProof.Rows.envOfC qual (defScope st) s.heap.objs.size f cdv)) → sp vs H Q E →
      ∃ t, PSs (cxOf CX P w K mg base N qual (defScope st) f cdv A outer s H E) (defBody st) t ∧ t { nx := fun _ H' => Q .non H', rt := Q } (L2.start N vs) H) : FnOk P w K mg base CX (k + 1) f fd ps sp := by
  obtain ⟨oc, od, kV, doc, pm, an, cdv, ct, osl, rfl, lk, hcd⟩ := F.ex
  exact fn_of lk hcd S len fun A outer s H vs Q E hr hsp => hbody cdv A outer s H vs Q E hr hsp
theorem seq_upd {K : PySem.W.Frag} {H : Hp} {a b : Addr} {xs : List V} {u o : HO} (h : SqL K H a xs) (hb : H b = some u) (h1 : ∀ ys, u ≠ .lst ys) (h2 : ∀ c d, u ≠ .frz c d) : SqL K (upd H b o) a xs := by
  rcases h with (r | ⟨c, r⟩) | z
  · exact .inl (.inl (by rw [upd_ne (ne_of r hb (fun z => h1 _ z.symm))]; exact r))
  · exact .inl (.inr ⟨c, by rw [upd_ne (ne_of r hb (fun z => h2 _ _ z.symm))]; exact r⟩)
  · exact .inr z
/-! ### tables -/
theorem krc : ¬ (("columns" : Str) = "rows") := by decide +kernel
def fldsT (ct rt : Addr) : List (Str × V) := putF "rows" (.ref rt) (putF "columns" (.ref ct) [])
theorem fldsT_columns (ct rt : Addr) : (fldsT ct rt).lookup ("columns" : Str) = some (.ref ct) := by
  unfold fldsT; rw [lookup_putF, if_neg krc, lookup_putF, if_pos rfl]
theorem fldsT_rows (ct rt : Addr) : (fldsT ct rt).lookup ("rows" : Str) = some (.ref rt) := by
  unfold fldsT; rw [lookup_putF, if_pos rfl]
/-- at ts stand the lists (or tuples) of texts rs -/
structure Lss (f : List V → HO) (H : Hp) (ts : List Addr) (rs : List (List Str)) : Prop where
  len : ts.length = rs.length
  at_ : ∀ (i : Nat) (t : Addr) (r : List Str), ts[i]? = some t → rs[i]? = some r → H t = some (f (sv r))
theorem Lss.same {f : List V → HO} {H H' : Hp} {ts : List Addr} {rs : List (List Str)} (h : Lss f H ts rs) (e : Same H H') : Lss f H' ts rs := ⟨h.len, fun i t x a b => e _ _ (h.at_ i t x a b)⟩
theorem Lss.nil {f : List V → HO} {H : Hp} : Lss f H [] [] := ⟨rfl, fun i t x h => by simp at h⟩
theorem Lss.app {f : List V → HO} {H : Hp} {ts : List Addr} {rs : List (List Str)} {t : Addr} {r : List Str} (h : Lss f H ts rs) (ht : H t = some (f (sv r))) : Lss f H (ts ++ [t]) (rs ++ [r]) := by
  refine ⟨by rw [List.length_append, List.length_append, h.len]; rfl, fun i u y a b => ?_⟩
  rcases Nat.lt_trichotomy i ts.length with c | c | c
  · rw [List.getElem?_append_left c] at a
    rw [List.getElem?_append_left (by rw [← h.len]; exact c)] at b
    exact h.at_ i u y a b
  · rw [c, List.getElem?_append_right (Nat.le_refl _), Nat.sub_self] at a
    rw [c, h.len, List.getElem?_append_right (Nat.le_refl _), Nat.sub_self] at b
    cases a; cases b; exact ht
  · rw [List.getElem?_append_right (by omega), List.getElem?_eq_none (by simp; omega)] at a
    cases a
theorem Lss.get {f : List V → HO} {H : Hp} {ts : List Addr} {rs : List (List Str)} (h : Lss f H ts rs) {i : Nat} {t : Addr} (hi : ts[i]? = some t) : ∃ r, rs[i]? = some r ∧ H t = some (f (sv r)) := by
  have hx : i < rs.length := by rw [← h.len]; exact (List.getElem?_eq_some_iff.mp hi).1
  exact ⟨rs[i], List.getElem?_eq_getElem hx, h.at_ i _ _ hi (List.getElem?_eq_getElem hx)⟩
theorem refs_get {ts : List Addr} {i : Nat} {v : V} (h : (ts.map V.ref)[i]? = some v) : ∃ t, ts[i]? = some t ∧ v = .ref t := by
  rw [List.getElem?_map] at h
  cases e : ts[i]? with
  | none => rw [e] at h; cases h
  | some t => rw [e] at h; exact ⟨t, rfl, (Option.some.inj h).symm⟩
/-- the row in the columns' sequence -/
def canon (cs r : List Str) : List Str := cs.filter fun x => decide (x ∈ r)
theorem canon_T {l r : List Str} {z : Str} (hm : z ∈ r) : canon (l ++ [z]) r = canon l r ++ [z] := by
  unfold canon; rw [List.filter_append]; simp [hm]
theorem canon_F {l r : List Str} {z : Str} (hm : z ∉ r) : canon (l ++ [z]) r = canon l r := by
  unfold canon; rw [List.filter_append]; simp [hm]
theorem Lss.updT {H : Hp} {ts : List Addr} {rs : List (List Str)} {l : Addr} {u o : HO} (h : Lss .tup H ts rs) (hl : H l = some u) (hu : ∀ xs, u ≠ .tup xs) : Lss .tup (upd H l o) ts rs := ⟨h.len, fun i t x a b => by
  have := h.at_ i t x a b
  rw [upd_ne (ne_of this hl (fun z => hu _ z.symm))]
  exact this⟩
/-- the table with the columns cs and the rows rs stands at p -/
def Tb (C : Addr) (H : Hp) (p : Addr) (cs : List Str) (rs : List (List Str)) : Prop :=
  ∃ dx ct rt ts, H p = some (.ins C dx (fldsT ct rt)) ∧ H ct = some (.tup (sv cs)) ∧ H rt = some (.tup (ts.map V.ref)) ∧ Lss .tup H ts (rs.map (canon cs))
theorem Tb.same {C : Addr} {H H' : Hp} {p : Addr} {cs : List Str} {rs : List (List Str)} (h : Tb C H p cs rs) (e : Same H H') : Tb C H' p cs rs :=
  let ⟨dx, ct, rt, ts, h1, h2, h3, h4⟩ := h; ⟨dx, ct, rt, ts, e _ _ h1, e _ _ h2, e _ _ h3, h4.same e⟩
theorem exc_same {H : Hp} {a d : Addr} {o1 o2 o3 o4 : HO} (ha : H a = none) (hd : H d = none) : Same H (upd (L2.del (upd (upd (upd H a o1) d o2) a o3) a) d o4) := fun b o e => by
  rw [upd_ne (ne_of_none e hd), L2.del_ne (ne_of_none e ha), upd_ne (ne_of_none e ha), upd_ne (ne_of_none e hd), upd_ne (ne_of_none e ha)]
  exact e
theorem fault_lt {cs ns : List Str} {i : Nat} (h : fault cs ns = some i) : i ≤ ns.length := by
  unfold fault at h
  cases hs : stray cs ns with
  | some j =>
    rw [hs] at h
    cases h
    unfold stray at hs
    rw [List.find?_range_eq_some] at hs
    exact Nat.le_of_lt (List.mem_range.mp hs.2.1)
  | none =>
    rw [hs] at h
    have h : (if ns.length < cs.length then some ns.length else none) = some i := h
    split at h
    · cases h; exact Nat.le_refl _
    · cases h
section
variable {K : PySem.W.Frag}
theorem passS0 {X : Cx} : ∀ σ, PassesAt CX0 X σ ((fun _ => E0) σ) := fun _ _ _ _ _ _ _ h => h.elim
theorem fnIn_of {x qual : Str} {st : Stmt} {f : Addr} {fd : FuncData} (F : Fun K x qual st f fd) : PySem.W.fnIn K f = true := by
  obtain ⟨oc, od, kV, doc, pm, an, cdv, ct, osl, rfl, lk, hcd⟩ := F.ex
  unfold PySem.W.fnIn
  rw [lk]
end
section
variable {P : Program} {w : World} {K : PySem.W.Frag} {mg : Str → Option Value} {base : Heap}
/-- a promise under which nothing is raised -/
theorem quiet {k : Nat} {f : Addr} {fd : FuncData} {ps : List Str} {sp sp' : Sp} (F : FnOk P w K mg base (L2.CX P w) k f fd ps sp) (h : ∀ vs H Q E, sp' vs H Q E → sp vs H Q E0) : FnOk P w K mg base CX0 k f fd ps sp' :=
  ⟨fun vs H Q E q => F.len _ _ _ _ (h _ _ _ _ q), fun A outer s H args us vs Q E hr he hb hv hs => codeAny_mono (F.run A outer s H args us vs Q E0 hr he hb hv (h _ _ _ _ hs)) fun r s' g => by
    cases r with
    | ok fl => cases fl <;> exact g
    | error e => obtain ⟨_, _, _, _, _, _, _, _, _, _, _, _, z⟩ := g; exact z.elim⟩
/-- two promises of one def -/
theorem fnok_or {CX : CXT} {k : Nat} {f : Addr} {fd : FuncData} {ps : List Str} {sp sp' : Sp} (F : FnOk P w K mg base CX k f fd ps sp) (G : FnOk P w K mg base CX k f fd ps sp') : FnOk P w K mg base CX k f fd ps (fun vs H Q E => sp vs H Q E ∨ sp' vs H Q E) :=
  ⟨fun vs H Q E h => h.elim (F.len vs H Q E) (G.len vs H Q E), fun A outer s H args us vs Q E hr he hb hv hs => hs.elim (F.run A outer s H args us vs Q E hr he hb hv) (G.run A outer s H args us vs Q E hr he hb hv)⟩
end
theorem hu65 {A : Around} {k : Nat} (hr : Room k A) : A.units + 65 < cLine := by have := hr.un; omega
theorem cut_sv (os : List Str) (lo hi : Option Int) : ∃ ys : List Str, cutV (sv os) lo hi = sv ys ∧ ys.Sublist os := by
  unfold cutV
  rw [sv_drop, sv_take]
  exact ⟨_, rfl, (List.take_sublist _ _).trans (List.drop_sublist _ _)⟩
theorem sv_app (a b : List Str) : sv a ++ sv b = sv (a ++ b) := List.map_append.symm
/-- texts that can be laid -/
abbrev Okz (z : Str) : Prop := PyData.canLay0 (.str z) = true
theorem okz_good {z : Str} (h : Good z) : Okz z := by
  show PyData.canLay0 (.str z) = true
  unfold PyData.canLay0 PyData.strOk
  rw [Array.all_eq_true]
  intro i hi
  have := h.let_ z.cps[i] (by rw [Array.mem_toList_iff]; exact Array.getElem_mem hi)
  exact decide_eq_true (by omega)
abbrev pd (ss : List Str) : List PyData := ss.map PyData.str
theorem lay_all {ss : List Str} (h : ∀ z ∈ ss, Okz z) : PyData.canLayAll0 (pd ss) = true := by
  induction ss with
  | nil => rfl
  | cons a t ih =>
    show (PyData.canLay0 (.str a) && PyData.canLayAll0 (pd t)) = true
    rw [h a List.mem_cons_self, ih fun z hz => h z (List.mem_cons_of_mem _ hz)]; rfl
theorem depth_pd : ∀ ss : List Str, PyData.depthAll (pd ss) ≤ 1
  | [] => by simp [PyData.depthAll]
  | n :: r => by
    have e : PyData.depthAll (r.map PyData.str) ≤ 1 := depth_pd r
    simp only [List.map_cons, PyData.depthAll, PyData.depth]
    omega
theorem shaped_pd {ss : List Str} (h : ∀ z ∈ ss, Okz z) : SeqAt.shaped (.list (pd ss)) = true := by
  have h1 := depth_pd ss
  show (PyData.canLay0 (.list (pd ss)) && decide (PyData.depth (.list (pd ss)) ≤ 64)) = true
  rw [Bool.and_eq_true]
  exact ⟨by simp only [PyData.canLay0]; exact lay_all h, decide_eq_true (by simp only [PyData.depth]; omega)⟩
theorem dp_pd {K : PySem.W.Frag} {H : Hp} : ∀ ss : List Str, DpAll K H (sv ss) (pd ss)
  | [] => .nil
  | s :: r => .cons (.str s) (dp_pd r)
theorem eqv_pd {ss : List Str} (h : ∀ z ∈ ss, Okz z) : PyData.eqv (.list (pd ss)) (.list (pd ss)) = true := SeqAt.eqv_refl _ (by simp only [PyData.canLay0]; exact lay_all h)
theorem dpAll_bl {K : PySem.W.Frag} {H : Hp} : ∀ bs : List Bool, DpAll K H (bs.map V.bl) (bs.map PyData.bool)
  | [] => .nil
  | b :: bs => .cons (.bl b) (dpAll_bl bs)
theorem exm_self {K : PySem.W.Frag} {C : Addr} (hb : PySem.W.subIn K (.ref C) (.type "BaseException") = some true) (hi : PySem.W.isClsIn K C = true) (ht : PySem.W.typeIn K (.ref C) = some (.type "type")) (hs : PySem.W.subIn K (.ref C) (.ref C) = some true) :
    PySem.W.exmOne K (.ref C) (.ref C) = some true := by
  unfold PySem.W.exmOne
  rw [hb, if_pos (by rfl)]
  show (if ((PySem.W.clsIn K C).isSome && PySem.W.typeIn K (.ref C) == some (.type "type")) = true then _ else _) = _
  rw [if_pos (by
    rw [ht]
    have : (PySem.W.clsIn K C).isSome = true := hi
    rw [this]; simp)]
  exact hs
theorem nd_len : ∀ (x cs : List Str), x.Nodup → (∀ y ∈ x, y ∈ cs) → x.length ≤ cs.length
  | [], _, _, _ => Nat.zero_le _
  | a :: t, cs, nd, h => by
    have nd := List.nodup_cons.mp nd
    have hp := List.perm_cons_erase (h a List.mem_cons_self)
    have := nd_len t (cs.erase a) nd.2 fun y hy => by
      have hy' := h y (List.mem_cons_of_mem _ hy)
      exact (List.mem_erase_of_ne (fun e => nd.1 (by rw [← e]; exact hy))).mpr hy'
    have e := hp.length_eq
    rw [List.length_cons] at e ⊢
    omega
theorem at_sv {ss : List Str} {j : Int} (h0 : 0 ≤ j) (h1 : j < ss.length) : ∃ z, z ∈ ss ∧ atI (sv ss) j = some (V.str z) := by
  obtain ⟨n, rfl⟩ := Int.eq_ofNat_of_zero_le h0
  have hn : n < ss.length := by omega
  exact ⟨ss[n], List.getElem_mem hn, atI_nat (by rw [List.getElem?_map, List.getElem?_eq_getElem hn]; rfl)⟩
theorem sv3 (a b : List Str) (x : Str) : sv a ++ [V.str x] ++ sv b = sv (a ++ [x] ++ b) := by simp [sv]
theorem mulW {i j : Int} (hi : i.natAbs < 2 ^ 9000) (hj : j.natAbs < 2 ^ 9000) : CMulW i j := wide_mul hi hj (by decide) (by decide) (by decide)
theorem atI_ok {xs : List Int} {j : Int} (h0 : 0 ≤ j) (h1 : j < xs.length) : ∃ v, v ∈ xs ∧ atI (xs.map V.int) j = some (V.int v) := by
  have hj : j.toNat < xs.length := by omega
  refine ⟨xs[j.toNat], List.getElem_mem hj, ?_⟩
  have e : (xs.map V.int)[j.toNat]? = some (V.int xs[j.toNat]) := by rw [List.getElem?_map, List.getElem?_eq_getElem hj]; rfl
  have := atI_nat e
  rw [show ((j.toNat : Nat) : Int) = j by omega] at this
  exact this
theorem len_map_int (xs : List Int) : (xs.map V.int).length = xs.length := List.length_map ..
/-- a pool of draws -/
def Pool (ns : List Int) : Prop := ∀ x ∈ ns, 0 ≤ x ∧ x < 27720
theorem Pool.nil : Pool [] := fun x h => nomatch h
theorem Pool.app {ns : List Int} {x : Int} (h : Pool ns) (h0 : 0 ≤ x) (h1 : x < 27720) : Pool (ns ++ [x]) := fun y hy => by
  rcases List.mem_append.mp hy with hy | hy
  · exact h y hy
  · cases List.mem_singleton.mp hy; exact ⟨h0, h1⟩
theorem upd_app {H : Hp} {l : Addr} {ps : List Int} {x : Int} : upd (upd H l (.lst (ps.map V.int))) l (.lst (ps.map V.int ++ [V.int x])) = upd H l (.lst ((ps ++ [x]).map V.int)) := by
  rw [upd_upd, List.map_append]
  rfl
theorem mod_sz {x m : Int} {k : Nat} (h : 0 < m) (hk : m.natAbs < 2 ^ k) : (x % m).natAbs < 2 ^ k := by
  have h1 := Int.emod_nonneg x (Int.ne_of_gt h)
  have h2 := Int.emod_lt_of_pos x h
  omega
/-! ### drawn names -/
theorem alpha_at : ∀ k : Fin 26, atI (("abcdefghijklmnopqrstuvwxyz" : Str)).cps.toList ((k.val : Nat) : Int) = some (97 + k.val) := by decide +kernel
theorem alpha_ix : ∀ k : Fin 26, Builtin.Str.occurrences ("abcdefghijklmnopqrstuvwxyz" : Str) ⟨#[97 + k.val]⟩ 0 (("abcdefghijklmnopqrstuvwxyz" : Str)).length 1 = [k.val] := by decide +kernel
theorem alpha_len : (("abcdefghijklmnopqrstuvwxyz" : Str)).length ≤ sizeLine := by decide
theorem Letters.app {l m : List Nat} (h : Letters l) (k : Letters m) : Letters (l ++ m) := fun c hc => (List.mem_append.mp hc).elim (h c) (k c)
theorem Letters.one {c : Nat} (h0 : 97 ≤ c) (h1 : c ≤ 122) : Letters [c] := fun d hd => by rw [List.mem_singleton.mp hd]; exact ⟨h0, h1⟩
/-- the word whose last sign has gone t signs on -/
def wat (pre : List Nat) (c t : Nat) : Str := ⟨(pre ++ [97 + (c - 97 + t) % 26]).toArray⟩
theorem wat_len {pre : List Nat} {c t : Nat} : (wat pre c t).length = pre.length + 1 := by
  show ((pre ++ [97 + (c - 97 + t) % 26]).toArray).size = _
  rw [List.size_toArray, List.length_append]; rfl
theorem wat_last {pre : List Nat} {c t : Nat} : atI (wat pre c t).cps.toList (-1) = some (97 + (c - 97 + t) % 26) := by
  show atI (pre ++ [97 + (c - 97 + t) % 26]) (-1) = _
  unfold atI ixN
  rw [if_neg (by decide)]
  have h1 : ((pre ++ [97 + (c - 97 + t) % 26]).length : Int) = (pre.length : Int) + 1 := by rw [List.length_append]; rfl
  have e : (-1 + ((pre ++ [97 + (c - 97 + t) % 26]).length : Int)).toNat = pre.length := by omega
  rw [if_pos (by omega), e]
  simp
theorem wat_next {pre : List Nat} {c t : Nat} : wat pre c (t + 1) = cutS (wat pre c t) none (some (-1)) ++ (⟨#[97 + ((c - 97 + t) % 26 + 1) % 26]⟩ : Str) := by
  apply str_ext
  apply Array.toList_inj.mp
  rw [append_cps, Array.toList_append]
  show pre ++ [97 + (c - 97 + (t + 1)) % 26] = (((pre ++ [97 + (c - 97 + t) % 26]).drop 0).take _) ++ [97 + ((c - 97 + t) % 26 + 1) % 26]
  have h2 : HT.sIx (wat pre c t).length (wat pre c t).length (some (-1)) - HT.sIx (wat pre c t).length 0 none = pre.length := by
    rw [wat_len]
    unfold HT.sIx
    simp
    omega
  rw [h2, List.drop_zero, List.take_left]
  have : (c - 97 + (t + 1)) % 26 = ((c - 97 + t) % 26 + 1) % 26 := by omega
  rw [this]
theorem nodup_le {l : List Str} : ∀ {m : List Str}, l.Nodup → (∀ x ∈ l, x ∈ m) → l.length ≤ m.length := by
  induction l with
  | nil => intro m _ _; exact Nat.zero_le _
  | cons a t ih =>
    intro m nd h
    rw [List.nodup_cons] at nd
    have ha := h a List.mem_cons_self
    have := ih (m := m.erase a) nd.2 fun x hx => (List.mem_erase_of_ne (fun e => nd.1 (by rw [← e]; exact hx))).mpr (h x (List.mem_cons_of_mem _ hx))
    rw [List.length_erase_of_mem ha] at this
    have : 0 < m.length := List.length_pos_of_mem ha
    rw [List.length_cons]
    omega
theorem wat_many {pre : List Nat} {c : Nat} {ns : List Str} (h : ∀ t, t < 26 → wat pre c t ∈ ns) : 26 ≤ ns.length := by
  have nd : ((List.range 26).map (wat pre c)).Nodup := by
    rw [List.nodup_iff_pairwise_ne, List.pairwise_map]
    refine List.Pairwise.imp_of_mem (fun {a b} ha hb hab e => hab ?_) (List.nodup_iff_pairwise_ne.mp List.nodup_range)
    have e1 : pre ++ [97 + (c - 97 + a) % 26] = pre ++ [97 + (c - 97 + b) % 26] := congrArg (fun z : Str => z.cps.toList) e
    have e2 := List.append_cancel_left e1
    have e3 : 97 + (c - 97 + a) % 26 = 97 + (c - 97 + b) % 26 := List.head_eq_of_cons_eq e2
    have := List.mem_range.mp ha
    have := List.mem_range.mp hb
    omega
  have := nodup_le nd fun x hx => by
    obtain ⟨t, ht, rfl⟩ := List.mem_map.mp hx
    exact h t (List.mem_range.mp ht)
  rw [List.length_map, List.length_range] at this
  exact this
theorem sv_inj {a b : List Str} (h : sv a = sv b) : a = b := by
  have : ∀ {a b : List Str}, sv a = sv b → a = b := fun {a b} => by
    intro h
    induction a generalizing b with
    | nil => cases b with | nil => rfl | cons _ _ => cases h
    | cons x t ih =>
      cases b with
      | nil => cases h
      | cons y u =>
        have h1 := List.cons.inj h
        rw [V.str.inj h1.1, ih h1.2]
  exact this h
theorem sv_snoc (l : List Str) (x : Str) : sv (l ++ [x]) = sv l ++ [V.str x] := List.map_append
theorem sEq {a b : Str} (h : a = b) : decide (V.str a = V.str b) = true := by rw [h]; exact decide_eq_true rfl
theorem sNe {a b : Str} (h : a ≠ b) : decide (V.str a = V.str b) = false := decide_eq_false fun e => h (V.str.inj e)
theorem iEq {a b : Int} (h : a = b) : decide (V.int a = V.int b) = true := by rw [h]; exact decide_eq_true rfl
theorem iNe {a b : Int} (h : a ≠ b) : decide (V.int a = V.int b) = false := decide_eq_false fun e => h (V.int.inj e)
theorem atR_of {us : List Addr} {i : Nat} {u : Addr} (h : us[i]? = some u) : atI (us.map V.ref) (i : Int) = some (V.ref u) := atI_nat (by rw [List.getElem?_map, h]; rfl)
theorem Lss.ex {f : List V → HO} {H : Hp} {us : List Addr} {ls : List (List Str)} (h : Lss f H us ls) {i : Nat} (hi : i < ls.length) : ∃ u w, us[i]? = some u ∧ ls[i]? = some w ∧ H u = some (f (sv w)) := by
  have hi' : i < us.length := by rw [h.len]; exact hi
  exact ⟨us[i], ls[i], List.getElem?_eq_getElem hi', List.getElem?_eq_getElem hi, h.at_ i _ _ (List.getElem?_eq_getElem hi') (List.getElem?_eq_getElem hi)⟩
theorem kit_F {K : PySem.W.Frag} {C D : Addr} (hi : PySem.W.isClsIn K D = true) (ht : PySem.W.typeIn K (.ref D) = some (.type "type")) (hs : PySem.W.subIn K (.ref C) (.ref D) = some false) (hss : PySem.W.subIn K (.ref C) (.ref C) = some true) : PySem.W.kitOne K (.ref C) (.ref D) = some false :=
  kit_own hi ht hs (.inl fun e => by rw [← e, hss] at hs; cases hs)
theorem exm_F {K : PySem.W.Frag} {C D : Addr} (hb : PySem.W.subIn K (.ref D) (.type "BaseException") = some true) (hi : PySem.W.isClsIn K D = true) (ht : PySem.W.typeIn K (.ref D) = some (.type "type")) (hs : PySem.W.subIn K (.ref C) (.ref D) = some false) : PySem.W.exmOne K (.ref C) (.ref D) = some false := by
  unfold PySem.W.exmOne
  rw [hb, if_pos (by rfl)]
  show (if ((PySem.W.clsIn K D).isSome && PySem.W.typeIn K (.ref D) == some (.type "type")) = true then _ else _) = _
  rw [if_pos (by
    rw [ht]
    have : (PySem.W.clsIn K D).isSome = true := hi
    rw [this]; simp)]
  exact hs
theorem pEq {a b : Bool} (h : a = b) : decide (V.bl a = V.bl b) = true := by rw [h]; exact decide_eq_true rfl
theorem pNe {a b : Bool} (h : a ≠ b) : decide (V.bl a = V.bl b) = false := decide_eq_false fun e => h (V.bl.inj e)
theorem sIx_lo {n k : Nat} (h : k ≤ n) : HT.sIx n 0 (some (k : Int)) = k := by rw [HT.sIx_nat, Nat.min_eq_left h]
theorem sIx_hi {n k : Nat} (h : k ≤ n) : HT.sIx n n (some (k : Int)) = k := by rw [HT.sIx_nat, Nat.min_eq_left h]
theorem layc {a : PyData} {r : List PyData} (h : PyData.canLay0 a = true) (k : PyData.canLayAll0 r = true) : PyData.canLayAll0 (a :: r) = true := by
  show (PyData.canLay0 a && PyData.canLayAll0 r) = true
  rw [h, k]; rfl
theorem lay_int (i : Int) : PyData.canLay0 (.int i) = true := by simp [PyData.canLay0]
theorem shapedL {xs : List PyData} (h1 : PyData.canLayAll0 xs = true) (h2 : PyData.depthAll xs ≤ 20) : SeqAt.shaped (.list xs) = true := by
  show (PyData.canLay0 (.list xs) && decide (PyData.depth (.list xs) ≤ 64)) = true
  rw [Bool.and_eq_true]
  exact ⟨by simp only [PyData.canLay0]; exact h1, decide_eq_true (by simp only [PyData.depth]; omega)⟩
theorem shapedT {xs : List PyData} (h1 : PyData.canLayAll0 xs = true) (h2 : PyData.depthAll xs ≤ 20) : SeqAt.shaped (.tuple xs) = true := by
  show (PyData.canLay0 (.tuple xs) && decide (PyData.depth (.tuple xs) ≤ 64)) = true
  rw [Bool.and_eq_true]
  exact ⟨by simp only [PyData.canLay0]; exact h1, decide_eq_true (by simp only [PyData.depth]; omega)⟩
theorem eqvL {xs : List PyData} (h1 : PyData.canLayAll0 xs = true) : PyData.eqv (.list xs) (.list xs) = true := SeqAt.eqv_refl _ (by simp only [PyData.canLay0]; exact h1)
theorem eqvT {xs : List PyData} (h1 : PyData.canLayAll0 xs = true) : PyData.eqv (.tuple xs) (.tuple xs) = true := SeqAt.eqv_refl _ (by simp only [PyData.canLay0]; exact h1)
theorem layL {xs : List PyData} (h1 : PyData.canLayAll0 xs = true) : PyData.canLay0 (.list xs) = true := by simp only [PyData.canLay0]; exact h1
theorem layT {xs : List PyData} (h1 : PyData.canLayAll0 xs = true) : PyData.canLay0 (.tuple xs) = true := by simp only [PyData.canLay0]; exact h1
theorem none_of {H H' : Hp} (s : Same H H') {a : Addr} (h : H' a = none) : H a = none := by
  cases e : H a with
  | none => rfl
  | some o => rw [s _ _ e] at h; cases h
theorem Lss.updNe {f : List V → HO} {H : Hp} {ts : List Addr} {rs : List (List Str)} {l : Addr} {o : HO} (h : Lss f H ts rs) (hne : ∀ (i : Nat) (t : Addr), ts[i]? = some t → t ≠ l) : Lss f (upd H l o) ts rs :=
  ⟨h.len, fun i t x a b => by rw [upd_ne (hne i t a)]; exact h.at_ i t x a b⟩
theorem ne_app {ts : List Addr} {a l : Addr} (h : ∀ (i : Nat) (t : Addr), ts[i]? = some t → t ≠ l) (ha : a ≠ l) : ∀ (i : Nat) (t : Addr), (ts ++ [a])[i]? = some t → t ≠ l := fun i t e => by
  rcases List.mem_append.mp (List.mem_of_getElem? e) with hm | hm
  · obtain ⟨j, hj, rfl⟩ := List.getElem_of_mem hm
    exact h j _ (List.getElem?_eq_getElem hj)
  · rw [List.mem_singleton.mp hm]; exact ha
theorem noT {r : Addr} : ∀ (i : Nat) (t : Addr), ([] : List Addr)[i]? = some t → t ≠ r := fun i t h => by simp at h
/-- a comprehension's list of new lists -/
def LcL (H1 : Hp) (D : Addr) (lls : List (List Str)) (H : Hp) : Prop := Same H1 H ∧ ∃ us : List Addr, H D = some (.lst (us.map V.ref)) ∧ Lss .lst H us lls ∧ ∀ (i : Nat) (t : Addr), us[i]? = some t → t ≠ D
theorem lcl0 {H1 : Hp} {D : Addr} (hD : H1 D = none) : LcL H1 D [] (upd H1 D (.lst [])) := ⟨same_new hD, [], upd_same, Lss.nil, noT⟩
theorem LcL.push {H1 H H' : Hp} {D a : Addr} {lls : List (List Str)} {y : List Str} (q : LcL H1 D lls H) (hD : H1 D = none) (s : Same H H') (ha : H' a = some (.lst (sv y))) (hne : a ≠ D) (hl : lls.length ≤ 1000001) :
    ∃ acc, H' D = some (.lst acc) ∧ acc.length < sizeLine ∧ LcL H1 D (lls ++ [y]) (upd H' D (.lst (acc ++ [.ref a]))) := by
  obtain ⟨sm, us, hd, hls, hn⟩ := q
  refine ⟨us.map V.ref, s _ _ hd, Nat.lt_of_le_of_lt (by rw [List.length_map, hls.len]; exact hl) (by decide), fun b o e => ?_, us ++ [a], ?_, ?_, ne_app hn hne⟩
  · rw [upd_ne (ne_of_none e hD)]; exact s _ _ (sm _ _ e)
  · rw [List.map_append]; exact upd_same
  · exact ((hls.same s).app ha).updNe (ne_app hn hne)
theorem LcL.new {H1 H : Hp} {D a : Addr} {lls : List (List Str)} {y : List Str} (q : LcL H1 D lls H) (hD : H1 D = none) (ha : H a = none) (hl : lls.length ≤ 1000001) :
    ∃ acc, (upd H a (.lst (sv y))) D = some (.lst acc) ∧ acc.length < sizeLine ∧ LcL H1 D (lls ++ [y]) (upd (upd H a (.lst (sv y))) D (.lst (acc ++ [.ref a]))) :=
  q.push hD (same_new ha) upd_same (by obtain ⟨_, us, hd, _⟩ := q; exact (ne_of_none hd ha).symm) hl

theorem okz_low {z : Str} (h : ∀ c ∈ z.cps.toList, c ≤ 122) : Okz z := by
  show PyData.canLay0 (.str z) = true
  unfold PyData.canLay0 PyData.strOk
  rw [Array.all_eq_true]
  intro i hi
  have := h z.cps[i] (by rw [Array.mem_toList_iff]; exact Array.getElem_mem hi)
  exact decide_eq_true (by omega)
theorem okz_sp {z : Str} (g : Good z) : Okz (z ++ " ") := okz_low fun c hc => by
  rw [append_cps, Array.toList_append] at hc
  rcases List.mem_append.mp hc with hc | hc
  · exact (g.let_ c hc).2
  · rw [show (" " : Str).cps.toList = [32] by decide] at hc; rw [List.mem_singleton.mp hc]; decide
theorem okz_A {z : Str} (g : Good z) : Okz ("A" ++ z) := okz_low fun c hc => by
  rw [append_cps, Array.toList_append] at hc
  rcases List.mem_append.mp hc with hc | hc
  · rw [show ("A" : Str).cps.toList = [65] by decide] at hc; rw [List.mem_singleton.mp hc]; decide
  · exact (g.let_ c hc).2
/-- a list of tuples of names -/
abbrev pdd (rs : List (List Str)) : List PyData := rs.map fun r => PyData.tuple (pd r)
theorem lay_pdd {rs : List (List Str)} (h : ∀ r ∈ rs, ∀ z ∈ r, Okz z) : PyData.canLayAll0 (pdd rs) = true := by
  induction rs with
  | nil => rfl
  | cons a t ih =>
    show (PyData.canLay0 (.tuple (pd a)) && PyData.canLayAll0 (pdd t)) = true
    rw [ih fun z hz => h z (List.mem_cons_of_mem _ hz), show PyData.canLay0 (.tuple (pd a)) = true by simp only [PyData.canLay0]; exact lay_all (h a List.mem_cons_self)]; rfl
theorem depth_pdd : ∀ rs : List (List Str), PyData.depthAll (pdd rs) ≤ 3
  | [] => by simp [PyData.depthAll]
  | r :: t => by
    have h1 : PyData.depthAll (t.map fun r => PyData.tuple (pd r)) ≤ 3 := depth_pdd t
    have h2 := depth_pd r
    simp only [List.map_cons, PyData.depthAll, PyData.depth]
    omega
theorem shaped_pdd {rs : List (List Str)} (h : ∀ r ∈ rs, ∀ z ∈ r, Okz z) : SeqAt.shaped (.list (pdd rs)) = true := by
  have h1 := depth_pdd rs
  show (PyData.canLay0 (.list (pdd rs)) && decide (PyData.depth (.list (pdd rs)) ≤ 64)) = true
  rw [Bool.and_eq_true]
  exact ⟨by simp only [PyData.canLay0]; exact lay_pdd h, decide_eq_true (by simp only [PyData.depth]; omega)⟩
theorem eqv_pdd {rs : List (List Str)} (h : ∀ r ∈ rs, ∀ z ∈ r, Okz z) : PyData.eqv (.list (pdd rs)) (.list (pdd rs)) = true := SeqAt.eqv_refl _ (by simp only [PyData.canLay0]; exact lay_pdd h)
theorem dp_pdd {K : PySem.W.Frag} {H : Hp} : ∀ {ts : List Addr} {rs : List (List Str)}, Lss .tup H ts rs → DpAll K H (ts.map V.ref) (pdd rs)
  | [], [], _ => .nil
  | [], _ :: _, h => nomatch h.len
  | _ :: _, [], h => nomatch h.len
  | t :: ts, r :: rs, h => .cons (.tup (xs := sv r) (SqT.of (h.at_ 0 t r rfl rfl)) (dp_pd r)) (dp_pdd ⟨Nat.succ.inj h.len, fun i u x a b => h.at_ (i + 1) u x a b⟩)
/-! ### == of data -/
mutual
/-- no truth values, no dicts -/
def nb : PyData → Bool
  | .none => true
  | .int _ => true
  | .str _ => true
  | .bool _ => false
  | .dict _ => false
  | .list xs => nbAll xs
  | .tuple xs => nbAll xs
def nbAll : List PyData → Bool
  | [] => true
  | x :: xs => nb x && nbAll xs
end
mutual
theorem eqv_iff : ∀ (d e : PyData), nb d = true → nb e = true → (PyData.eqv d e = true ↔ d = e)
  | .none, e, _, h => by cases e <;> simp [PyData.eqv]
  | .int i, e, _, h => by
    cases e <;> first | (simp only [nb] at h; cases h; done) | simp [PyData.eqv]
  | .str i, e, _, h => by cases e <;> simp [PyData.eqv]
  | .bool _, _, h, _ => by simp [nb] at h
  | .dict _, _, h, _ => by simp [nb] at h
  | .list xs, e, h, h' => by
    cases e <;> first | (simp [PyData.eqv]; done) | skip
    rename_i ys
    simp only [PyData.eqv, PyData.list.injEq]
    exact eqvAll_iff xs ys (by simpa [nb] using h) (by simpa [nb] using h')
  | .tuple xs, e, h, h' => by
    cases e <;> first | (simp [PyData.eqv]; done) | skip
    rename_i ys
    simp only [PyData.eqv, PyData.tuple.injEq]
    exact eqvAll_iff xs ys (by simpa [nb] using h) (by simpa [nb] using h')
theorem eqvAll_iff : ∀ (xs ys : List PyData), nbAll xs = true → nbAll ys = true → (PyData.eqvAll xs ys = true ↔ xs = ys)
  | [], [], _, _ => by simp [PyData.eqvAll]
  | [], _ :: _, _, _ => by simp [PyData.eqvAll]
  | _ :: _, [], _, _ => by simp [PyData.eqvAll]
  | x :: xs, y :: ys, h, h' => by
    simp only [nbAll, Bool.and_eq_true] at h h'
    simp only [PyData.eqvAll, Bool.and_eq_true, eqv_iff x y h.1 h'.1, eqvAll_iff xs ys h.2 h'.2, List.cons.injEq]
end
theorem nb_pd (ss : List Str) : nbAll (pd ss) = true := by
  induction ss with
  | nil => rfl
  | cons a t ih => show (true && nbAll (pd t)) = true; rw [ih]; rfl
theorem pd_inj {a b : List Str} : pd a = pd b ↔ a = b := by
  constructor
  · intro h
    have := congrArg (List.map fun d : PyData => match d with | .str x => x | _ => ("" : Str)) h
    rw [List.map_map, List.map_map] at this
    simpa [Function.comp_def] using this
  · intro h; rw [h]
theorem eqv_L (a b : List Str) : PyData.eqv (.list (pd a)) (.list (pd b)) = decide (a = b) := by
  rw [Bool.eq_iff_iff, decide_eq_true_iff, eqv_iff (.list (pd a)) (.list (pd b)) (by simp only [nb]; exact nb_pd a) (by simp only [nb]; exact nb_pd b), PyData.list.injEq, pd_inj]
theorem eqv_T (a b : List Str) : PyData.eqv (.tuple (pd a)) (.tuple (pd b)) = decide (a = b) := by
  rw [Bool.eq_iff_iff, decide_eq_true_iff, eqv_iff (.tuple (pd a)) (.tuple (pd b)) (by simp only [nb]; exact nb_pd a) (by simp only [nb]; exact nb_pd b), PyData.tuple.injEq, pd_inj]
theorem shaped_pdT {ss : List Str} (h : ∀ z ∈ ss, Okz z) : SeqAt.shaped (.tuple (pd ss)) = true := shapedT (lay_all h) (Nat.le_trans (depth_pd ss) (by decide))
theorem any_pdd (rs : List (List Str)) (a : List Str) : ((pdd rs).any fun z => PyData.eqv z (.tuple (pd a))) = decide (a ∈ rs) := by
  rw [Bool.eq_iff_iff, List.any_eq_true, decide_eq_true_iff]
  constructor
  · rintro ⟨d, hd, e⟩
    obtain ⟨r, hr, rfl⟩ := List.mem_map.mp hd
    rw [eqv_T, decide_eq_true_iff] at e
    rw [← e]; exact hr
  · intro h
    exact ⟨_, List.mem_map.mpr ⟨a, h, rfl⟩, by rw [eqv_T]; exact decide_eq_true rfl⟩
theorem okz_low' {z : Str} (h : z.cps.toList.all (· < 256) = true) : Okz z := by
  show PyData.canLay0 (.str z) = true
  unfold PyData.canLay0 PyData.strOk
  rw [Array.all_eq_true]
  intro i hi
  have := List.all_eq_true.mp h z.cps[i] (by rw [Array.mem_toList_iff]; exact Array.getElem_mem hi)
  have := of_decide_eq_true this
  exact decide_eq_true (by omega)
end My
set_option maxRecDepth 100000
set_option maxHeartbeats 4000000
set_option exponentiation.threshold 10000
namespace My
open PySem L2
abbrev rn (ns cs r : List Str) : Nat := runs (flags ns (canon cs r))
def nums (f : List Str → Bool) (rs : List (List Str)) : List Nat := (List.range rs.length).filter fun i => f (rs.getD i [])
theorem nums_le (f : List Str → Bool) (rs : List (List Str)) : (nums f rs).length ≤ rs.length := by
  have := List.length_filter_le (fun i => f (rs.getD i [])) (List.range rs.length)
  rw [List.length_range] at this
  exact this
theorem numsT {f : List Str → Bool} {rs : List (List Str)} {i : Nat} {r : List Str} (h : rs[i]? = some r) (hf : f r = true) : (((List.range (i + 1)).filter fun i => f (rs.getD i [])).map fun n => V.int (n : Nat)) = (((List.range i).filter fun i => f (rs.getD i [])).map fun n => V.int (n : Nat)) ++ [V.int (i : Nat)] := by
  have hd : rs.getD i [] = r := by rw [List.getD_eq_getElem?_getD, h]; rfl
  rw [List.range_succ, List.filter_append, List.map_append, List.filter_cons_of_pos (by rw [hd]; exact hf)]; rfl
theorem numsF {f : List Str → Bool} {rs : List (List Str)} {i : Nat} {r : List Str} (h : rs[i]? = some r) (hf : f r = false) : (((List.range (i + 1)).filter fun i => f (rs.getD i [])).map fun n => V.int (n : Nat)) = (((List.range i).filter fun i => f (rs.getD i [])).map fun n => V.int (n : Nat)) := by
  have hd : rs.getD i [] = r := by rw [List.getD_eq_getElem?_getD, h]; rfl
  rw [List.range_succ, List.filter_append, List.map_append, List.filter_cons_of_neg (by rw [hd, hf]; decide)]; simp
theorem nums_len (f : List Str → Bool) (rs : List (List Str)) (i : Nat) (hi : i ≤ 1000) : (((List.range i).filter fun i => f (rs.getD i [])).map fun n => V.int (n : Nat)).length ≤ 1000000 := by
  have := List.length_filter_le (fun i => f (rs.getD i [])) (List.range i)
  rw [List.length_range] at this
  rw [List.length_map]; omega
theorem perm_of_fault {cs ns : List Str} (nc : cs.Nodup) (h : fault cs ns = none) : (∀ x ∈ ns, x ∈ cs) ∧ ns.Nodup ∧ ns.Perm cs := by
  unfold fault at h
  cases hs : stray cs ns with
  | some i => rw [hs] at h; cases h
  | none =>
    rw [hs] at h
    have h : (if ns.length < cs.length then some ns.length else none) = none := h
    have hl : cs.length ≤ ns.length := by
      by_cases z : ns.length < cs.length
      · rw [if_pos z] at h; cases h
      · omega
    obtain ⟨hsub, nd⟩ := stray_none_iff.mp hs
    refine ⟨hsub, nd, ?_⟩
    have hin : ∀ x ∈ cs, x ∈ ns := fun x hx => Classical.byContradiction fun hn => by
      have := nodup_le (l := x :: ns) (m := cs) (List.nodup_cons.mpr ⟨hn, nd⟩) fun y hy => by
        rcases List.mem_cons.mp hy with rfl | hy
        · exact hx
        · exact hsub y hy
      rw [List.length_cons] at this
      omega
    exact (List.perm_ext_iff_of_nodup nd nc).mpr fun x => ⟨hsub x, hin x⟩
theorem perm_pick {α : Type} {l : List α} {i : Nat} {x : α} (h : l[i]? = some x) : (x :: (l.take i ++ l.drop (i + 1))).Perm l := by
  have hi := (List.getElem?_eq_some_iff.mp h).1
  have e : l = l.take i ++ x :: l.drop (i + 1) := by
    conv => lhs; rw [← List.take_append_drop i l]
    rw [List.drop_eq_getElem_cons hi]
    rw [List.getElem?_eq_getElem hi] at h
    cases h; rfl
  conv => rhs; rw [e]
  exact List.perm_middle.symm
def szs : List Int := [3, 4, 5, 2, 4, 6, 3, 5, 1, 7, 0, 12, 4, 5, 3, 6, 8, 4, 5, 9, 10, 4, 7, 11]
theorem cut_takeG {xs : List V} {k : Nat} : cutV xs none (some (k : Int)) = xs.take k := by
  unfold cutV
  rw [HT.sIx_none, HT.sIx_nat]
  simp
theorem cut_dropG {xs : List V} {k : Nat} : cutV xs (some (k : Int)) none = xs.drop k := by
  unfold cutV
  rw [HT.sIx_none, HT.sIx_nat]
  rw [List.take_of_length_le (by rw [List.length_drop]; omega)]
  rcases Nat.le_total k xs.length with h | h
  · rw [Nat.min_eq_left h]
  · rw [Nat.min_eq_right h, List.drop_eq_nil_of_le (Nat.le_refl _), List.drop_eq_nil_of_le h]
theorem rot_perm {α : Type} (l : List α) (c : Nat) : (l.drop c ++ l.take c).Perm l := by
  have := List.perm_append_comm (l₁ := l.drop c) (l₂ := l.take c)
  rw [List.take_append_drop] at this
  exact this
def RowOk (cs x : List Str) : Prop := x.Nodup ∧ ∀ y ∈ x, y ∈ cs
theorem RowOk.len {cs x : List Str} (h : RowOk cs x) : x.length ≤ cs.length := nodup_le h.1 h.2
theorem RowOk.stray {cs x : List Str} (h : RowOk cs x) : stray cs x = none := stray_none_iff.mpr ⟨h.2, h.1⟩
def Rows (H : Hp) (D : Addr) (ts : List Addr) (cs : List Str) (rs : List (List Str)) : Prop := Lss .lst H ts rs ∧ (∀ t ∈ ts, t ≠ D) ∧ ∀ x ∈ rs, RowOk cs x
theorem Rows.push {H H' : Hp} {D t : Addr} {ts : List Addr} {cs ms : List Str} {rs : List (List Str)} {o : HO} (h : Rows H D ts cs rs) (s : Same H H') (ht : H' t = some (.lst (sv ms))) (hD : t ≠ D) (ok : RowOk cs ms) : Rows (upd H' D o) D (ts ++ [t]) cs (rs ++ [ms]) := by
  have h1 := (h.1.same s).app ht
  have hn : ∀ u ∈ ts ++ [t], u ≠ D := fun u hu => (List.mem_append.mp hu).elim (h.2.1 u) fun hu => by rw [List.mem_singleton.mp hu]; exact hD
  refine ⟨⟨h1.len, fun i u x a b => ?_⟩, hn, fun x hx => (List.mem_append.mp hx).elim (h.2.2 x) fun hx => by rw [List.mem_singleton.mp hx]; exact ok⟩
  rw [upd_ne (hn u (List.mem_of_getElem? a))]
  exact h1.at_ i u x a b
/-- names of the law: different, good, at most 7 signs -/
def Nms (ns : List Str) : Prop := ns.Nodup ∧ ∀ z ∈ ns, Good z ∧ z.length ≤ 7
theorem Nms.sub {a b c : List Str} (h : Nms a) (p : b.Perm a) (s : c.Sublist b) : Nms c := ⟨s.nodup (p.nodup_iff.mpr h.1), fun z hz => h.2 z (p.mem_iff.mp (s.subset hz))⟩
def W1 : List Str := ["ab", "a", "abc", "aa", "b", "ba", "aab", "bb", "abcdefg", "abcdefh", "aba", "bab"]
def W2 : List Str := ["first", "row", "end", "near", "span", "last", "before", "window", "over", "column", "not", "ask"]
theorem nms_of {ns : List Str} (h : (decide ns.Nodup && ns.all fun z => okName z && decide (z.length ≤ 7)) = true) : Nms ns := by
  rw [Bool.and_eq_true, decide_eq_true_iff, List.all_eq_true] at h
  refine ⟨h.1, fun z hz => ?_⟩
  have := h.2 z hz
  rw [Bool.and_eq_true, decide_eq_true_iff] at this
  exact ⟨okName_iff.mp this.1, this.2⟩
theorem w1_ok : Nms W1 := nms_of (by decide +kernel)
theorem w2_ok : Nms W2 := nms_of (by decide +kernel)
/-! ### words about one letter -/
def l1 (c : Nat) : Str := ⟨#[c]⟩
theorem mul1 (c : Nat) (n : Int) : (Txt.mul (l1 c) n).cps = Array.replicate n.toNat c := by
  unfold Txt.mul
  have h1 : ((l1 c).length == 0) = false := rfl
  split
  · rename_i h
    have : n.toNat = 0 := by omega
    rw [this]
    rfl
  · rename_i h
    split
    · rename_i h'
      rw [h1, Bool.or_false, beq_iff_eq] at h'
      subst h'
      rfl
    · have e : ∀ (m : Nat) (acc : Array Nat), ((List.replicate m (l1 c).cps).foldl (· ++ ·) acc) = acc ++ Array.replicate m c := by
        intro m
        induction m with
        | zero => intro acc; simp
        | succ m ih =>
          intro acc
          rw [List.replicate_succ, List.foldl_cons, ih]
          have : (l1 c).cps = #[c] := rfl
          rw [this, Array.append_assoc]
          congr 1
          apply Array.toList_inj.mp
          simp [List.replicate_succ]
      show ((List.replicate n.toNat (l1 c).cps).foldl (· ++ ·) #[]) = _
      rw [e]
      simp
theorem mulOk1 (c : Nat) {n : Int} (h0 : 0 ≤ n) (h3 : n ≤ 3) : MulOk (l1 c) n := by
  unfold MulOk
  have e : (l1 c).length = 1 := rfl
  rw [e]
  rcases (show n = 0 ∨ n = 1 ∨ n = 2 ∨ n = 3 by omega) with rfl | rfl | rfl | rfl <;> decide
/-- a side of a name: letters behind l -/
def Side (x : Str) : Prop := (∀ c ∈ x.cps.toList, 109 ≤ c ∧ c ≤ 122) ∧ x.length ≤ 3
theorem side1 {c : Nat} {n : Int} (h1 : 109 ≤ c) (h2 : c ≤ 122) (h0 : 0 ≤ n) (h3 : n ≤ 3) : Side (Txt.mul (l1 c) n) := by
  have e := mul1 c n
  refine ⟨fun d hd => ?_, ?_⟩
  · rw [e, Array.toList_replicate, List.mem_replicate] at hd
    rw [hd.2]; exact ⟨h1, h2⟩
  · show (Txt.mul (l1 c) n).cps.size ≤ 3
    rw [e, Array.size_replicate]; omega
theorem em : ("m" : Str) = l1 109 := str_ext (by decide)
theorem ez : ("z" : Str) = l1 122 := str_ext (by decide)
theorem coreT : ∀ k : Fin 12, atI (("abcdefghijkl" : Str)).cps.toList ((k.val : Nat) : Int) = some (97 + k.val) := by decide +kernel
theorem leftT : ∀ k : Fin 14, atI (("mnopqrstuvwxyz" : Str)).cps.toList ((k.val : Nat) : Int) = some (109 + k.val) := by decide +kernel
theorem rightT : ∀ k : Fin 14, atI (("zyxwvutsrqponm" : Str)).cps.toList ((k.val : Nat) : Int) = some (122 - k.val) := by decide +kernel
theorem core_at {j : Int} (h0 : 0 ≤ j) (h1 : j < 12) : atI (("abcdefghijkl" : Str)).cps.toList j = some (97 + j.toNat) := by
  have := coreT ⟨j.toNat, by omega⟩
  rw [show (((⟨j.toNat, by omega⟩ : Fin 12).val : Nat) : Int) = j from by show ((j.toNat : Nat) : Int) = j; omega] at this
  exact this
theorem left_at {j : Int} (h0 : 0 ≤ j) (h1 : j < 14) : atI (("mnopqrstuvwxyz" : Str)).cps.toList j = some (109 + j.toNat) := by
  have := leftT ⟨j.toNat, by omega⟩
  rw [show (((⟨j.toNat, by omega⟩ : Fin 14).val : Nat) : Int) = j from by show ((j.toNat : Nat) : Int) = j; omega] at this
  exact this
theorem right_at {j : Int} (h0 : 0 ≤ j) (h1 : j < 14) : atI (("zyxwvutsrqponm" : Str)).cps.toList j = some (122 - j.toNat) := by
  have := rightT ⟨j.toNat, by omega⟩
  rw [show (((⟨j.toNat, by omega⟩ : Fin 14).val : Nat) : Int) = j from by show ((j.toNat : Nat) : Int) = j; omega] at this
  exact this
theorem core_len : (("abcdefghijkl" : Str)).length ≤ sizeLine := by decide
theorem left_len : (("mnopqrstuvwxyz" : Str)).length ≤ sizeLine := by decide
theorem right_len : (("zyxwvutsrqponm" : Str)).length ≤ sizeLine := by decide
/-- a made name with the letter c -/
def Made (c : Nat) (z : Str) : Prop := Good z ∧ z.length ≤ 7 ∧ z.cps.toList.filter (fun d => decide (d < 109)) = [c]
theorem made_of {l r : Str} {c : Nat} (hl : Side l) (hr : Side r) (h1 : 97 ≤ c) (h2 : c < 109) : Made c (l ++ l1 c ++ r) := by
  have el : (l ++ l1 c ++ r).length = l.length + 1 + r.length := by rw [Str.length_append, Str.length_append]; rfl
  have ec : (l ++ l1 c ++ r).cps.toList = l.cps.toList ++ [c] ++ r.cps.toList := by
    rw [append_cps, append_cps, Array.toList_append, Array.toList_append]; rfl
  have hl2 := hl.2
  have hr2 := hr.2
  refine ⟨⟨by omega, by omega, fun d hd => ?_⟩, by omega, ?_⟩
  · rw [ec] at hd
    rcases List.mem_append.mp hd with hd | hd
    · rcases List.mem_append.mp hd with hd | hd
      · have := hl.1 d hd; omega
      · rw [List.mem_singleton] at hd; omega
    · have := hr.1 d hd; omega
  · have no : ∀ x : Str, Side x → x.cps.toList.filter (fun d => decide (d < 109)) = [] := fun x hx => by
      rw [List.filter_eq_nil_iff]
      intro d hd h
      have := hx.1 d hd
      rw [decide_eq_true_iff] at h
      omega
    have ec2 : [c].filter (fun d => decide (d < 109)) = [c] := by simp [h2]
    rw [ec, List.filter_append, List.filter_append, no l hl, no r hr, ec2]; rfl
/-- the first i made names -/
def Mades (s : Int) (ns : List Str) : Prop := ∀ (t : Nat) z, ns[t]? = some z → Made (97 + (((t : Int) * 5 + s) % 12).toNat) z
theorem Mades.app {s : Int} {ns : List Str} {z : Str} (h : Mades s ns) (hz : Made (97 + (((ns.length : Int) * 5 + s) % 12).toNat) z) : Mades s (ns ++ [z]) := fun t y e => by
  rcases Nat.lt_trichotomy t ns.length with c | c | c
  · rw [List.getElem?_append_left c] at e; exact h t y e
  · rw [c, List.getElem?_append_right (Nat.le_refl _), Nat.sub_self] at e
    cases e; rw [c]; exact hz
  · rw [List.getElem?_append_right (by omega), List.getElem?_eq_none (by simp; omega)] at e
    cases e
theorem Mades.nms {s : Int} {ns : List Str} (h : Mades s ns) (hl : ns.length ≤ 12) : Nms ns := by
  refine ⟨?_, fun z hz => ?_⟩
  · rw [List.nodup_iff_pairwise_ne, List.pairwise_iff_getElem]
    intro i j hi hj hij e
    have h1 := h i _ (List.getElem?_eq_getElem hi)
    have h2 := h j _ (List.getElem?_eq_getElem hj)
    have e1 := h1.2.2
    rw [e, h2.2.2] at e1
    have e2 := (List.cons.inj e1).1
    omega
  · obtain ⟨i, hi, e⟩ := List.getElem_of_mem hz
    have h1 := h i _ (List.getElem?_eq_getElem hi)
    rw [e] at h1
    exact ⟨h1.1, h1.2.1⟩
def unk (cs ns : List Str) : Option Str := ns.find? fun x => !decide (x ∈ cs)
theorem unk_some {cs ns : List Str} {i : Nat} {z : Str} (hz : ns[i]? = some z) (h1 : z ∉ cs) (h2 : ∀ (j : Nat) y, j < i → ns[j]? = some y → y ∈ cs) : unk cs ns = some z := by
  unfold unk
  rw [List.find?_eq_some_iff_getElem]
  obtain ⟨hi, e⟩ := List.getElem?_eq_some_iff.mp hz
  refine ⟨by simp [h1], i, hi, e, fun j hj => ?_⟩
  have := h2 j ns[j] hj (List.getElem?_eq_getElem _)
  simp [this]
theorem unk_none {cs ns : List Str} : unk cs ns = none ↔ ∀ x ∈ ns, x ∈ cs := by
  unfold unk
  rw [List.find?_eq_none]
  exact ⟨fun h x hx => by have := h x hx; simpa using this, fun h x hx => by simp [h x hx]⟩
theorem unk_mem {cs ns : List Str} {z : Str} (h : unk cs ns = some z) : z ∈ ns ∧ z ∉ cs := by
  unfold unk at h
  exact ⟨List.mem_of_find?_eq_some h, by have := List.find?_some h; simpa using this⟩
def fldsR (nt : Addr) : List (Str × V) := putF "names" (.ref nt) []
theorem fldsR_names (nt : Addr) : (fldsR nt).lookup ("names" : Str) = some (.ref nt) := by unfold fldsR; rw [lookup_putF, if_pos rfl]
def Rd (C : Addr) (H : Hp) (p : Addr) (ns : List Str) : Prop := ∃ dx nt, H p = some (.ins C dx (fldsR nt)) ∧ DT H nt (sv ns)
theorem Rd.same {C : Addr} {H H' : Hp} {p : Addr} {ns : List Str} (h : Rd C H p ns) (e : Same H H') : Rd C H' p ns := let ⟨dx, nt, h1, h2⟩ := h; ⟨dx, nt, e _ _ h1, h2.same e⟩
def ringFault (ns : List Str) : Option Nat := match firstBad ns with | some i => some i | none => if 12 < ns.length then some 12 else none
structure RingOk (ns : List Str) : Prop where
  g : ∀ z ∈ ns, Good z
  nd : ns.Nodup
  n : ns.length ≤ 12
theorem ringFault_none {ns : List Str} : ringFault ns = none ↔ RingOk ns := by
  unfold ringFault
  cases hf : firstBad ns with
  | some i =>
    constructor
    · intro h; cases h
    · intro h
      rw [firstBad_none_iff.mpr ⟨h.g, h.nd⟩] at hf; cases hf
  | none =>
    obtain ⟨a, b⟩ := firstBad_none_iff.mp hf
    constructor
    · intro h
      have h : (if 12 < ns.length then some 12 else none) = none := h
      refine ⟨a, b, ?_⟩
      by_cases q : 12 < ns.length
      · rw [if_pos q] at h; cases h
      · omega
    · intro h
      show (if 12 < ns.length then some 12 else none) = none
      rw [if_neg (by have := h.n; omega)]
theorem RingOk.perm {ns ms : List Str} (h : RingOk ns) (p : ms.Perm ns) : RingOk ms := ⟨fun z hz => h.g z (p.mem_iff.mp hz), p.nodup_iff.mpr h.nd, by rw [p.length_eq]; exact h.n⟩
def aft (ns : List Str) (i : Nat) : List Str := ns.drop (i + 1) ++ ns.take i
theorem first_ix {ns : List Str} {z : Str} (h : z ∈ ns) : ∃ i : Nat, ns[i]? = some z ∧ ∀ m, m < i → ns[m]? ≠ some z := by
  induction ns with
  | nil => cases h
  | cons a t ih =>
    by_cases e : a = z
    · exact ⟨0, by rw [e]; rfl, fun m hm => absurd hm (Nat.not_lt_zero _)⟩
    · rcases List.mem_cons.mp h with q | q
      · exact absurd q.symm e
      · obtain ⟨i, h1, h2⟩ := ih q
        refine ⟨i + 1, h1, fun m hm => ?_⟩
        cases m with
        | zero => intro z; exact e (Option.some.inj z)
        | succ m => exact h2 m (by omega)
abbrev SqA (K : PySem.W.Frag) : Hp → Addr → List V → Prop := fun H a xs => SqL K H a xs ∨ SqT K H a xs
theorem _root_.L2.Same.sqa {K : PySem.W.Frag} {H H' : Hp} {a : Addr} {xs : List V} (e : Same H H') (h : SqA K H a xs) : SqA K H' a xs := h.imp (fun z => e.seq z) fun z => e.tup z
/-! ### slices and tuple(..), whichever way the object comes -/
theorem slOT {K : PySem.W.Frag} {H : Hp} {c : Addr} {xs : List V} {lo hi : Option Int} {Q : VK} (hc : SqT K H c xs) (h : ∀ a H', Same H H' → SqT K H' a (cutV xs lo hi) → Q (.ref a) H') : rSlA K (.ref c) lo hi H Q := by
  refine ⟨c, xs, rfl, hc, fun hw => ?_, fun _ p hp => h p _ (same_new hp) (SqT.of upd_same)⟩
  have e : cutV xs lo hi = xs := by
    unfold cutV
    rw [hw.1, hw.2, Nat.sub_zero, List.drop_zero, List.take_length]
  have := h c H (Same.refl _)
  rw [e] at this
  exact this hc
theorem slO {K : PySem.W.Frag} {H : Hp} {c : Addr} {xs : List V} {lo hi : Option Int} {Q : VK} (hc : SqL K H c xs) (h : ∀ a H', Same H H' → H a = none → H' a = some (.lst (cutV xs lo hi)) → Q (.ref a) H') : rSlL K (.ref c) lo hi H Q :=
  ⟨c, xs, rfl, hc, fun p hp => h p _ (same_new hp) hp upd_same⟩
theorem tupO {K : PySem.W.Frag} {H : Hp} {p : Addr} {ys : List V} {Q : VK} (h : SqA K H p ys) (k : ∀ a H', Same H H' → SqT K H' a ys → Q (.ref a) H') : rTupOf K [.ref p] H Q := by
  refine ⟨p, ys, rfl, ?_⟩
  rcases h with h | h
  · exact .inl ⟨h, fun l hl => k l _ (same_new hl) (SqT.of upd_same)⟩
  · exact .inr ⟨h, k p H (Same.refl _) h⟩
end My
set_option maxRecDepth 100000
set_option maxHeartbeats 4000000
namespace My
open PySem L2 PySem.Spec PyProof.Rows
section
variable {X : Cx} {pos : Pos}
/-- a, b, .. = a tuple or a list of that length -/
def gSqA (K : PySem.W.Frag) (n : Nat) (t : TGs) : TG := fun v σ H Q => ∃ a xs, v = .ref a ∧ (SqL K H a xs ∨ SqT K H a xs) ∧ xs.length = n ∧ t xs σ H Q
theorem pg_sqA {es : List Expr} {k : Nat} {t : TGs} {n : Nat} (hc : X.calm = true) (h : PGs X es t)
    (hn : (assignEach es X.env).length = n := by rfl) (hst : (assignEach es X.env).findIdx? (·.1) = none := by rfl) : PG X (.Tuple es k pos) (gSqA X.K n t) :=
  ⟨fun pins s σ H v u Q I r ⟨a, xs, e, hq, hl, hw⟩ => hq.elim (fun q => (pg_lst hc h hn hst).run pins s σ H v u Q I r ⟨a, xs, e, q, hl, hw⟩) (fun q => (pg_tup hc h hn hst).run pins s σ H v u Q I r ⟨a, xs, e, q, hl, hw⟩)⟩
/-- t.index(z), texts -/
def rTIx (K : PySem.W.Frag) : V → List V → Hp → VK → Prop := fun x xs H Q => ∃ p, ∃ ys : List Str, ∃ z j, x = .ref p ∧ xs = [.str z] ∧ SqT K H p (ys.map V.str) ∧ ys[j]? = some z ∧ (∀ m, m < j → ys[m]? ≠ some z) ∧ Q (.int (j : Nat)) H
theorem mt_tIx : MtR X "tuple.index" (rTIx X.K) := mt_tup_index
end
end My
set_option maxRecDepth 100000
set_option maxHeartbeats 4000000
namespace My
open PySem L2 PySem.Spec PyProof.Rows
/-- what a comparison in the middle of a row of them asks, and the last one -/
abbrev TLk := V → L2.St → Hp → (Bool → Hp → Prop) → Prop
def tLkZ (r : R2) (tb : TE) : TLk := fun x σ H Q => tb σ H fun y G => r x y G fun z G1 => ∃ k, z = .bl k ∧ Q k G1
def tLkS (r : R2) (tb : TE) (more : TLk) : TLk := fun x σ H Q => tb σ H fun y G => r x y G fun z G1 => ∃ k, z = .bl k ∧ (if k = true then more y σ G1 Q else Q false G1)
/-- a op b op c op d, as a test -/
def tCh3 (r1 r2 r3 : R2) (ta tb tc td : TE) : TT := fun σ H Q => ta σ H fun x G => tLkS r1 tb (tLkS r2 tc (tLkZ r3 td)) x σ G Q
section
variable {X : Cx} {pos : Pos} {a b c d : Expr} {ta tb tc td : TE} {o1 o2 o3 : CmpOp} {r1 r2 r3 : R2}
theorem pt_chain3 (h1 : OpR X (compareOp o1) r1) (h2 : OpR X (compareOp o2) r2) (h3 : OpR X (compareOp o3) r3) (ha : PE X a ta) (hb : PE X b tb) (hc : PE X c tc) (hd : PE X d td)
    (hm : lastMarks [o1, o2, o3] [b, c, d] = false := by with_unfolding_all rfl) : PT X (.Compare a [o1, o2, o3] [b, c, d] pos) (tCh3 r1 r2 r3 ta tb tc td) := by
  constructor
  intro pins s σ H Q I q0
  apply isTrue_chain (hm := hm)
  refine thn (ha.run pins s σ H _ I q0) ?_
  rintro va sa ⟨xa, Ga, Ia, ra, qa⟩
  apply test_link
  refine thn (hb.run pins sa σ Ga _ Ia qa) ?_
  rintro vb sb ⟨xb, Gb, Ib, rb, qb⟩
  refine thn (h1 pins sb σ Gb xa xb va vb _ Ib ra rb qb) ?_
  rintro e1 s1 ⟨z1, G1, J1, y1, k1, rfl, w1⟩
  cases y1
  apply wpAny_truthy_bool
  cases k1
  · exact ite_ff ⟨G1, J1, w1⟩
  apply ite_tt
  apply test_link
  refine thn (hc.run pins s1 σ G1 _ J1 w1) ?_
  rintro vc sc ⟨xc, Gc, Ic, rc, qc⟩
  refine thn (h2 pins sc σ Gc xb xc vb vc _ Ic rb rc qc) ?_
  rintro e2 s2 ⟨z2, G2, J2, y2, k2, rfl, w2⟩
  cases y2
  apply wpAny_truthy_bool
  cases k2
  · exact ite_ff ⟨G2, J2, w2⟩
  apply ite_tt
  apply test_last
  refine thn (hd.run pins s2 σ G2 _ J2 w2) ?_
  rintro vd sd ⟨xd, Gd, Id, rd, qd⟩
  refine thn (h3 pins sd σ Gd xc xd vc vd _ Id rc rd qd) ?_
  rintro e3 s3 ⟨z3, G3, J3, y3, k3, rfl, w3⟩
  cases y3
  exact wpAny_truthy_bool ⟨G3, J3, w3⟩
theorem sw_trueD {kx vx : Expr} {gs : List Comprehension} {scope : Scope} {ps py : Pos} {y : Str} {l : Nat} {env : Env} (hk : env.scope.kind = .function) (hy : env.scope.names.lookup y = some .local) (hl : (py.line == ps.line) = true)
    (ha : (scope.names.any fun (n, k) => n == y && (k == .local || k == .cell)) = false) : swapsWith (.DictComp kx vx gs scope ps) (some (.Name y py)) l env = pure true := by
  have k1 : env.kindOf y = some .local := hy
  have k2 : env.blockKind = .function := by
    unfold Env.blockKind
    rw [hk] <;> rfl
  unfold swapsWith
  simp only [k2, k1, ha, Expr.pos, hl]
  rfl
/-- y = {k: v for ..} -/
theorem ps_setDc {i : Nat} {y : Str} {py ps sp : Pos} {kx vx tg iter : Expr} {ifs : List Expr} {scope : Scope} {own : List (Str × Nat)} {wi : TI} {g : TG} {tt : TT} {tk tv : TE} (hc : X.calm = true) (hN : X.N.Nodup) (hy : X.N[i]? = some y) (hyl : X.env.scope.names.lookup y = some .local)
    (hsw : swapsWith (.DictComp kx vx [⟨tg, iter, ifs, 0⟩] scope ps) (some (.Name y py)) sp.line X.env = pure true) (hi : PI X tg iter wi) (ok : BlkOk X.N X.env.scope scope own)
    (hg : ∀ (s : Shared) (H : Hp) (C : Addr) (cl : List (Str × Addr)) (fp : List Addr), PG (X.blk s H scope (compEnvC scope cl C X.env) fp) tg g)
    (ht : ∀ (s : Shared) (H : Hp) (C : Addr) (cl : List (Str × Addr)) (fp : List Addr), PTs (X.blk s H scope (compEnvC scope cl C X.env) fp) ifs tt)
    (hk : ∀ (s : Shared) (H : Hp) (C : Addr) (cl : List (Str × Addr)) (fp : List Addr), PE (X.blk s H scope (compEnvC scope cl C X.env) fp) kx tk)
    (hv : ∀ (s : Shared) (H : Hp) (C : Addr) (cl : List (Str × Addr)) (fp : List Addr), PE (X.blk s H scope (compEnvC scope cl C X.env) fp) vx tv) (hs : ∀ x, foldedSetIterable iter X.env x = pure x := by intro _; rfl) :
    PS X (.Assign [.Name y py] (.DictComp kx vx [⟨tg, iter, ifs, 0⟩] scope ps) sp) (tAsg (tDc wi g tt tk tv (own.map (·.2))) (gName i)) := by
  constructor
  intro pins s σ H D I q0
  rw [exec_Assign_Name_used _ _ _ _ hsw]
  apply wpAny_bind
  apply wpAny_standAt
  apply wpAny_bind
  show wpAny _ X.A (do let _ ← comprehension (.DictComp kx vx [⟨tg, iter, ifs, 0⟩] scope ps) scope X.env (firstIterPos [⟨tg, iter, ifs, 0⟩] ps) newDict false (eval iter X.env) (some (assign (.Name y py) X.env))) _ _ s
  have q1 : tDc wi g tt tk tv (own.map (·.2)) σ H (fun x G => gName i x σ G D.nx) := q0
  apply wpAny_bind
  refine thn (dc_core (Qf := fun _ s9 => SP X pins D .next s9) hc hN I hi ok hg ht hk hv hs q1 ?_) (fun _ s9 z => wpAny_pure (wpAny_pure z))
  intro L C s9 m G J q2 hn f
  show wpAny _ _ (assign (.Name y py) X.env (.ref L)) _ _ _
  apply wpAny_assign_Name
  refine store_ok2 (v := V.ref L) J hN hy (.inl hyl) rfl ?_ (.inr hyl)
  rintro s8 J8 ⟨a, sb, ha⟩
  have ne : C ≠ a := by
    rcases ha with z | z
    · rw [z]; exact f.2.1
    · exact fun e => f.2.2.2.2.1 y a z e.symm
  exact ⟨m, hn.sameBut sb ne, fun h3 sb3 => ⟨_, G, J8.turned (t' := s8.toks) (fun b o hb e => (sb3.2 b hb).trans e) f.1 f.2.1 f.2.2.2.1 f.2.2.2.2.1 f.2.2.2.2.2, q2⟩⟩
theorem foldl_min : ∀ (ns : List Int) (n : Int), ns.foldl min n ∈ n :: ns ∧ ∀ y ∈ n :: ns, ns.foldl min n ≤ y
  | [], n => ⟨List.mem_cons_self, fun y hy => by rw [List.mem_singleton.mp hy]; exact Int.le_refl _⟩
  | k :: ns, n => by
    obtain ⟨h1, h2⟩ := foldl_min ns (min n k)
    have hm := h2 (min n k) List.mem_cons_self
    refine ⟨?_, fun y hy => ?_⟩
    · rcases List.mem_cons.mp h1 with e | e
      · show ns.foldl min (min n k) ∈ _
        rw [e]
        rcases Int.le_total n k with z | z
        · rw [Int.min_eq_left z]; exact List.mem_cons_self
        · rw [Int.min_eq_right z]; exact List.mem_cons_of_mem _ List.mem_cons_self
      · exact List.mem_cons_of_mem _ (List.mem_cons_of_mem _ e)
    · show ns.foldl min (min n k) ≤ y
      rcases List.mem_cons.mp hy with e | e
      · rw [e]; omega
      · rcases List.mem_cons.mp e with e | e
        · rw [e]; omega
        · exact h2 y (List.mem_cons_of_mem _ e)
/-- min(xs, default=d), ints -/
def rMinDf (K : PySem.W.Frag) : List V → List V → Hp → VK → Prop := fun xs zs H Q => ∃ (a : Addr) (ns : List Int) (d : Int), xs = [.ref a] ∧ zs = [.int d] ∧ SqL K H a (ns.map V.int) ∧
  ∀ m, ((ns = [] ∧ m = d) ∨ (m ∈ ns ∧ ∀ y ∈ ns, m ≤ y)) → Q (.int m) H
theorem call_minDf (hc : X.calm = true) (hu : X.A.units + 10 < cLine) : CallRK X (.builtin "min") ["default"] (rMinDf X.K) := by
  rintro pins s σ H xs zs us ws Q I r rz ⟨a, ns, d, rfl, rfl, hq, h1⟩
  obtain rfl := Vals.ref1 r
  obtain ⟨w, rfl, rw'⟩ := rz.one
  obtain ⟨its, rv, pl, hz⟩ := I.list hq
  have dp := depth_ints ns
  apply PySem.W.min_list_default (xs := ns.map PyData.int) (as := []) (I.ok.hd hc) pl.isList
  · rw [List.toList_toArray]; exact ints_reads rv
  · exact alike_ints ns
  · show X.A.units + 1 + _ < _
    omega
  · intro e h' tk k
    exact ⟨.int d, H, I.kept (t' := tk) k, rw', h1 d (.inl ⟨List.map_eq_nil_iff.mp e, rfl⟩)⟩
  · intro y ys i v h' tk bs e hv rd k
    match ns, e with
    | n :: ms, e =>
      rw [List.map_cons] at e
      obtain ⟨e1, e2⟩ := List.cons.inj e
      subst e1; subst e2
      rw [PySem.W.minD_ints] at rd
      obtain ⟨t0, rfl, _⟩ := reads_int_inv rd
      have fm := foldl_min ms n
      exact ⟨.int (ms.foldl min n), H, I.kept (t' := tk) k, ⟨_, rfl⟩, h1 _ (.inr fm)⟩
/-- list(d.values()) -/
def tLVals (td : TE) : TE := fun σ H Q => td σ H fun x H1 => ∃ p kvs, x = .ref p ∧ H1 p = some (.dK kvs) ∧ ∀ q, H1 q = none → Q (.ref q) (upd H1 q (.lst (kvs.map (·.2))))
theorem kv_at {κ : Type} : ∀ {ks : List (κ × V)} {vs : List (κ × Value)}, KV ks vs → ∀ {j : Nat} {x : κ × V} {y : κ × Value}, ks[j]? = some x → vs[j]? = some y → RelV x.2 y.2
  | _, _, .nil, _, _, _, h, _ => by simp at h
  | _, _, .cons a r, 0, _, _, h, g => by cases h; cases g; exact a.2
  | _, _, .cons a r, j + 1, _, _, h, g => kv_at r (j := j) h g
theorem pe_listVals {e : Expr} {td : TE} {p apos cpos : Pos} (hc : X.calm = true) (hg : Gl X "list") (hm : X.mg "list" = none) (he : PE X e td) (hbase : attributeBase e "values" X.env (eval e X.env) = eval e X.env := by rfl) (hline : (apos.endLine == cpos.line) = true := by rfl)
    (na : starEach [.Call (.Attribute e "values" apos) [] [] cpos] X.env = (false, eval (.Call (.Attribute e "values" apos) [] [] cpos) X.env) :: starEach [] X.env := by rfl) :
    PE X (.Call (.Name "list" p) [.Call (.Attribute e "values" apos) [] [] cpos] [] pos) (tLVals td) := by
  constructor
  intro pins s σ H Q I h
  refine Call_ (ld_blt I hg hm boot_list (PyProof.Rows.callWith_type1 (args_cons ?_ na) na))
  refine wpAny_Call_method (T := "dict") (id := "dict.values") hbase rfl hline F.plainAttrs_dict F.slot_dict_values F.type_dict_values (thn (he.run pins s σ H _ I h) ?_)
  rintro u s1 ⟨x, H1, I1, rx, a, kvs, rfl, hk, q⟩
  have eu : u = Value.ref a := rx
  subst eu
  obtain ⟨z, lo, vs, rk, hd⟩ := (show ObjOk X.prog X.w H1 s1.heap a (.dK kvs) from I1.hok a _ hk)
  obtain ⟨ep, hat⟩ := hd.dictAt
  have hl : kvs.length = vs.length := Paired.length rk
  refine ⟨hd.typeIs, hd.mapOf.noDict, ?_⟩
  have I2 : Inv X pins σ H1 { s1 with heap := s1.heap.push { cls := .type "dict_values", data := .fields #[.ref a] } } := I1.kept (t' := s1.toks) fun b ob e2 => Heap.get?_push_of_some _ e2
  refine method_meetsIn F.slot_dict_values F.entry_dict_values rfl (PySem.evalArgs_none ⟨rfl, hd.typeIs, F.args_dict_values_1 _, _, meets_dict_values (mixKind X.prog X.w) a lo, ⟨vs, hd⟩, ?_⟩)
  refine args_nil ?_
  refine PySem.W.kdl_call (PySem.W.kdl_values (knd := mixKind X.prog X.w) (r := s1.heap.objs.size) (d := a) (kvs := vs) (ep := ep)) (I2.ok.hd hc) ⟨⟨_, Heap.get?_push_size _ rfl, rfl, rfl⟩, hat.push _⟩ (by rw [← hl]; exact z) ?_
  intro h' tk acc c' hkeep hS hacc
  refine ⟨.ref _, upd H1 _ (.lst (kvs.map (·.2))), I2.laid hkeep (Nat.le_refl _) ⟨?_, acc.toList, c', ?_, ?_⟩, rfl, q _ (I2.hok.fresh (Nat.le_refl _))⟩
  · rw [List.length_map]; exact z
  · have el : acc.toList.length = acc.size := by simp
    refine vals_of_at (by rw [List.length_map, el, hacc.1, hl]) fun j x w h1 h2 => ?_
    obtain ⟨k, hky⟩ := hacc.2 j w (by rw [← Array.getElem?_toList]; exact h2)
    rw [List.getElem?_map] at h1
    match e3 : kvs[j]?, h1 with
    | some kv, h1 =>
      cases h1
      exact kv_at rk e3 hky
  · rw [Array.toArray_toList]; exact hS
end
end My
set_option maxRecDepth 100000
namespace My
open PySem L2
theorem fault_at {cs ns : List Str} {i : Nat} (hi : i < ns.length) (h1 : badAt cs ns i = true) (h2 : ∀ j, j < i → badAt cs ns j = false) : fault cs ns = some i := by
  unfold fault
  rw [stray_some hi h1 h2]
theorem fault_short {cs ns : List Str} (h2 : ∀ j, j < ns.length → badAt cs ns j = false) (hl : ns.length < cs.length) : fault cs ns = some ns.length := by
  unfold fault
  rw [stray_none h2]
  exact if_pos hl
theorem good_pre {cs hs ns : List Str} {i : Nat} (hp : hs.Perm cs) (nd : cs.Nodup) (e : ns.take i = hs.take i) : ∀ j, j < i → badAt cs ns j = false := by
  intro j hj
  have e1 : ns[j]? = hs[j]? := by
    have a : (ns.take i)[j]? = ns[j]? := by rw [List.getElem?_take]; exact if_pos hj
    have b : (hs.take i)[j]? = hs[j]? := by rw [List.getElem?_take]; exact if_pos hj
    rw [← a, ← b, e]
  have e2 : ns.take j = hs.take j := by
    have a : (ns.take i).take j = ns.take j := by rw [List.take_take, Nat.min_eq_left (Nat.le_of_lt hj)]
    have b : (hs.take i).take j = hs.take j := by rw [List.take_take, Nat.min_eq_left (Nat.le_of_lt hj)]
    rw [← a, ← b, e]
  unfold badAt
  rw [e1, e2]
  cases hx : hs[j]? with
  | none => rfl
  | some x =>
    have hm : x ∈ cs := hp.mem_iff.mp (List.mem_of_getElem? hx)
    have hn : x ∉ hs.take j := by
      have ndh : hs.Nodup := hp.nodup_iff.mpr nd
      intro hm2
      obtain ⟨k, hk, e3⟩ := List.getElem_of_mem hm2
      rw [List.length_take] at hk
      obtain ⟨h9, e4⟩ := List.getElem?_eq_some_iff.mp hx
      rw [List.nodup_iff_pairwise_ne, List.pairwise_iff_getElem] at ndh
      refine ndh k j (by omega) h9 (by omega) ?_
      rw [List.getElem_take] at e3
      rw [e3, e4]
    show (!decide (x ∈ cs) || decide (x ∈ hs.take j)) = false
    rw [decide_eq_true hm, decide_eq_false hn]; rfl
theorem bo_end {cs hs : List Str} {z : Str} (hp : hs.Perm cs) (nd : cs.Nodup) (hz : z ∉ cs) : fault cs (hs ++ [z]) = some cs.length := by
  have e := hp.length_eq
  refine fault_at (by rw [List.length_append, e]; simp) ?_ (good_pre hp nd (by rw [List.take_append_of_le_length (by omega)]))
  unfold badAt
  rw [← e, List.getElem?_append_right (Nat.le_refl _), Nat.sub_self]
  show (!decide (z ∈ cs) || _) = true
  rw [decide_eq_false hz]; rfl
theorem bo_short {cs hs : List Str} {i : Nat} (hp : hs.Perm cs) (nd : cs.Nodup) (hi : i < cs.length) : fault cs (hs.take i) = some i := by
  have e := hp.length_eq
  have l : (hs.take i).length = i := by rw [List.length_take]; omega
  have := fault_short (cs := cs) (ns := hs.take i) (by rw [l]; exact good_pre hp nd (by rw [List.take_take, Nat.min_self])) (by omega)
  rw [l] at this; exact this
theorem bo_put {cs hs : List Str} {i : Nat} {z : Str} {tl : List Str} (hp : hs.Perm cs) (nd : cs.Nodup) (hi : i < cs.length) (hz : z ∉ cs ∨ z ∈ hs.take i) : fault cs (hs.take i ++ [z] ++ tl) = some i := by
  have e := hp.length_eq
  have l : (hs.take i).length = i := by rw [List.length_take]; omega
  refine fault_at (by rw [List.length_append, List.length_append, l]; simp; omega) ?_ (good_pre hp nd (by
    rw [List.append_assoc, List.take_append_of_le_length (by omega), List.take_take, Nat.min_self]))
  unfold badAt
  have e1 : (hs.take i ++ [z] ++ tl)[i]? = some z := by
    rw [List.append_assoc, List.getElem?_append_right (by omega), l, Nat.sub_self]; rfl
  have e2 : (hs.take i ++ [z] ++ tl).take i = hs.take i := by
    rw [List.append_assoc, List.take_append_of_le_length (by omega), List.take_take, Nat.min_self]
  rw [e1, e2]
  show (!decide (z ∈ cs) || decide (z ∈ hs.take i)) = true
  rcases hz with h | h
  · rw [decide_eq_false h]; rfl
  · rw [decide_eq_true h, Bool.or_true]
end My
set_option maxRecDepth 100000
set_option maxHeartbeats 4000000
set_option exponentiation.threshold 10000
namespace My
open PySem L2
def top (i : Nat) : Stmt := PySem.Challenge.pw_unbrokenrows_k32_windows_along_orders.main.body.getD i (.Pass ⟨0, 0, 0, 0⟩)
abbrev s_BadOrder_init : Stmt := inClass (top 8) 0
abbrev s_NoDates_init : Stmt := inClass (top 6) 0
abbrev s_BadWindow_init : Stmt := inClass (top 9) 0
abbrev s_is_name : Stmt := top 12
abbrev s_first_bad_name : Stmt := top 13
abbrev s_first_stray : Stmt := top 14
abbrev s_order_fault : Stmt := top 16
abbrev s_check_order : Stmt := top 17
abbrev s_check_columns : Stmt := top 22
abbrev s_check_rows : Stmt := top 23
abbrev s_Table_in_order : Stmt := inClass (top 24) 3
abbrev s_Table_init : Stmt := inClass (top 24) 2
abbrev s_Table_has : Stmt := inClass (top 24) 6
abbrev s_Table_eq : Stmt := inClass (top 24) 21
abbrev s_Windows_init : Stmt := inClass (top 20) 0
abbrev s_Windows_forced : Stmt := inClass (top 20) 1
abbrev s_Windows_keeps : Stmt := inClass (top 20) 2
abbrev s_Windows_dates : Stmt := inClass (top 20) 3
abbrev s_law_cell : Stmt := top 26
abbrev s_law_pool : Stmt := top 27
abbrev s_law_size : Stmt := top 28
abbrev s_law_names : Stmt := top 29
abbrev s_law_order : Stmt := top 30
abbrev s_law_row : Stmt := top 31
abbrev s_law_rows : Stmt := top 32
abbrev s_law_steps : Stmt := top 33
abbrev s_law_windows : Stmt := top 34
abbrev s_law_is_number : Stmt := top 35
abbrev s_law_windows_kept : Stmt := top 36
abbrev s_law_forced : Stmt := top 37
abbrev s_law_same_pairs : Stmt := top 38
abbrev s_law_free_windows : Stmt := top 39
abbrev s_law_due_years : Stmt := top 40
abbrev s_law_rise : Stmt := top 41
abbrev s_law_other_years : Stmt := top 42
abbrev s_law_bad_windows : Stmt := top 43
abbrev s_law_refused_windows : Stmt := top 44
abbrev s_law_dated : Stmt := top 45
abbrev s_law_kept : Stmt := top 46
abbrev s_law_dates_right : Stmt := top 47
abbrev s_law_keeps_right : Stmt := top 48
abbrev s_law_lots_right : Stmt := top 49
abbrev s_law_bad_order : Stmt := top 50
abbrev s_law_bounds_right : Stmt := top 51
abbrev s_law : Stmt := top 52
theorem ss_BadOrder_init : SupScope ["self", "index"] ["self", "index"] (defScope s_BadOrder_init) := ⟨rfl, rfl, rfl, by decide +kernel, rfl, by decide +kernel, by decide +kernel, by decide +kernel, rfl, rfl⟩
theorem ss_NoDates_init : SupScope ["self", "one", "other"] ["self", "one", "other"] (defScope s_NoDates_init) := ⟨rfl, rfl, rfl, by decide +kernel, rfl, by decide +kernel, by decide +kernel, by decide +kernel, rfl, rfl⟩
theorem ss_BadWindow_init : SupScope ["self", "index"] ["self", "index"] (defScope s_BadWindow_init) := ⟨rfl, rfl, rfl, by decide +kernel, rfl, by decide +kernel, by decide +kernel, by decide +kernel, rfl, rfl⟩
theorem sc_is_name : FnScope ["text", "sign"] ["text"] (defScope s_is_name) := ⟨rfl, rfl, rfl, by decide +kernel, rfl, by decide +kernel, by decide +kernel⟩
theorem sc_first_bad_name : FnScope ["names", "index", "name"] ["names"] (defScope s_first_bad_name) := ⟨rfl, rfl, rfl, by decide +kernel, rfl, by decide +kernel, by decide +kernel⟩
theorem sc_first_stray : FnScope ["columns", "names", "index", "name"] ["columns", "names"] (defScope s_first_stray) := ⟨rfl, rfl, rfl, by decide +kernel, rfl, by decide +kernel, by decide +kernel⟩
theorem sc_order_fault : FnScope ["columns", "order", "index"] ["columns", "order"] (defScope s_order_fault) := ⟨rfl, rfl, rfl, by decide +kernel, rfl, by decide +kernel, by decide +kernel⟩
theorem sc_check_order : FnScope ["table", "order", "index"] ["table", "order"] (defScope s_check_order) := ⟨rfl, rfl, rfl, by decide +kernel, rfl, by decide +kernel, by decide +kernel⟩
theorem sc_check_columns : FnScope ["columns", "index"] ["columns"] (defScope s_check_columns) := ⟨rfl, rfl, rfl, by decide +kernel, rfl, by decide +kernel, by decide +kernel⟩
theorem sc_check_rows : FnScope ["columns", "rows", "index", "row"] ["columns", "rows"] (defScope s_check_rows) := ⟨rfl, rfl, rfl, by decide +kernel, rfl, by decide +kernel, by decide +kernel⟩
theorem sc_Table_in_order : FnScope ["self", "names", "name"] ["self", "names"] (defScope s_Table_in_order) := ⟨rfl, rfl, rfl, by decide +kernel, rfl, by decide +kernel, by decide +kernel⟩
theorem sc_Table_init : FnScope ["self", "columns", "rows", "row"] ["self", "columns", "rows"] (defScope s_Table_init) := ⟨rfl, rfl, rfl, by decide +kernel, rfl, by decide +kernel, by decide +kernel⟩
theorem sc_Table_has : FnScope ["self", "name"] ["self", "name"] (defScope s_Table_has) := ⟨rfl, rfl, rfl, by decide +kernel, rfl, by decide +kernel, by decide +kernel⟩
theorem sc_Table_eq : FnScope ["self", "other"] ["self", "other"] (defScope s_Table_eq) := ⟨rfl, rfl, rfl, by decide +kernel, rfl, by decide +kernel, by decide +kernel⟩
theorem sc_Windows_init : FnScope ["self", "table", "told", "seen", "index", "name", "low", "high", "window"] ["self", "table", "told"] (defScope s_Windows_init) := ⟨rfl, rfl, rfl, by decide +kernel, rfl, by decide +kernel, by decide +kernel⟩
theorem sc_Windows_forced : FnScope ["self", "columns", "pairs", "a", "_", "high", "b", "low", "one", "other"] ["self"] (defScope s_Windows_forced) := ⟨rfl, rfl, rfl, by decide +kernel, rfl, by decide +kernel, by decide +kernel⟩
theorem sc_Windows_keeps : FnScope ["self", "order", "years", "name", "low", "high", "at"] ["self", "order", "years"] (defScope s_Windows_keeps) := ⟨rfl, rfl, rfl, by decide +kernel, rfl, by decide +kernel, by decide +kernel⟩
theorem sc_Windows_dates : FnScope ["self", "order", "a", "b", "lows", "year", "years", "name", "low", "_"] ["self", "order"] (defScope s_Windows_dates) := ⟨rfl, rfl, rfl, by decide +kernel, rfl, by decide +kernel, by decide +kernel⟩
theorem sc_law_cell : FnScope ["script", "k"] ["script", "k"] (defScope s_law_cell) := ⟨rfl, rfl, rfl, by decide +kernel, rfl, by decide +kernel, by decide +kernel⟩
theorem sc_law_pool : FnScope ["script", "k", "count", "value", "pool", "i", "first", "second", "third"] ["script", "k", "count"] (defScope s_law_pool) := ⟨rfl, rfl, rfl, by decide +kernel, rfl, by decide +kernel, by decide +kernel⟩
theorem sc_law_size : FnScope ["draw", "most", "sizes"] ["draw", "most"] (defScope s_law_size) := ⟨rfl, rfl, rfl, by decide +kernel, rfl, by decide +kernel, by decide +kernel⟩
theorem sc_law_names : FnScope ["count", "seed", "words", "cut", "names", "k", "core", "left", "right"] ["count", "seed"] (defScope s_law_names) := ⟨rfl, rfl, rfl, by decide +kernel, rfl, by decide +kernel, by decide +kernel⟩
theorem sc_law_order : FnScope ["names", "pool", "start", "left", "order", "k", "pick"] ["names", "pool", "start"] (defScope s_law_order) := ⟨rfl, rfl, rfl, by decide +kernel, rfl, by decide +kernel, by decide +kernel⟩
theorem sc_law_row : FnScope ["names", "hidden", "draw", "free", "row", "name", "size", "first", "width", "cut"] ["names", "hidden", "draw", "free"] (defScope s_law_row) := ⟨rfl, rfl, rfl, by decide +kernel, rfl, by decide +kernel, by decide +kernel⟩
theorem sc_law_rows : FnScope ["names", "hidden", "pool", "start", "count", "mode", "rows", "k", "free"] ["names", "hidden", "pool", "start", "count", "mode"] (defScope s_law_rows) := ⟨rfl, rfl, rfl, by decide +kernel, rfl, by decide +kernel, by decide +kernel⟩
theorem sc_law_steps : FnScope ["pool", "start", "count", "menu", "years", "now", "k"] ["pool", "start", "count"] (defScope s_law_steps) := ⟨rfl, rfl, rfl, by decide +kernel, rfl, by decide +kernel, by decide +kernel⟩
theorem sc_law_windows : FnScope ["order", "years", "pool", "start", "wild", "told", "k", "draw", "low", "high", "cut"] ["order", "years", "pool", "start", "wild"] (defScope s_law_windows) := ⟨rfl, rfl, rfl, by decide +kernel, rfl, by decide +kernel, by decide +kernel⟩
theorem sc_law_is_number : FnScope ["value", "least", "most"] ["value", "least", "most"] (defScope s_law_is_number) := ⟨rfl, rfl, rfl, by decide +kernel, rfl, by decide +kernel, by decide +kernel⟩
theorem sc_law_windows_kept : FnScope ["order", "years", "windows", "told", "year"] ["order", "years", "windows"] (defScope s_law_windows_kept) := ⟨rfl, rfl, rfl, by decide +kernel, rfl, by decide +kernel, by decide +kernel⟩
theorem sc_law_forced : FnScope ["names", "windows", "told", "a", "b", "pairs", "one", "other"] ["names", "windows"] (defScope s_law_forced) := ⟨rfl, rfl, rfl, by decide +kernel, rfl, by decide +kernel, by decide +kernel⟩
theorem sc_law_same_pairs : FnScope ["found", "due", "k"] ["found", "due"] (defScope s_law_same_pairs) := ⟨rfl, rfl, rfl, by decide +kernel, rfl, by decide +kernel, by decide +kernel⟩
theorem sc_law_free_windows : FnScope ["names", "one", "two", "told", "unit", "k", "low", "width", "cut"] ["names", "one", "two"] (defScope s_law_free_windows) := ⟨rfl, rfl, rfl, by decide +kernel, rfl, by decide +kernel, by decide +kernel⟩
theorem sc_law_due_years : FnScope ["order", "windows", "years", "k", "lows", "window"] ["order", "windows"] (defScope s_law_due_years) := ⟨rfl, rfl, rfl, by decide +kernel, rfl, by decide +kernel, by decide +kernel⟩
theorem sc_law_rise : FnScope ["years", "k"] ["years"] (defScope s_law_rise) := ⟨rfl, rfl, rfl, by decide +kernel, rfl, by decide +kernel, by decide +kernel⟩
theorem sc_law_other_years : FnScope ["years", "draw", "word", "at", "change", "year"] ["years", "draw"] (defScope s_law_other_years) := ⟨rfl, rfl, rfl, by decide +kernel, rfl, by decide +kernel, by decide +kernel⟩
theorem sc_law_bad_windows : FnScope ["names", "windows", "pool", "at", "low", "one", "word", "free", "name", "window"] ["names", "windows", "pool"] (defScope s_law_bad_windows) := ⟨rfl, rfl, rfl, by decide +kernel, rfl, by decide +kernel, by decide +kernel⟩
theorem sc_law_refused_windows : FnScope ["table", "windows", "told", "e"] ["table", "windows"] (defScope s_law_refused_windows) := ⟨rfl, rfl, rfl, by decide +kernel, rfl, by decide +kernel, by decide +kernel⟩
theorem sc_law_dated : FnScope ["windows", "order", "told", "e"] ["windows", "order"] (defScope s_law_dated) := ⟨rfl, rfl, rfl, by decide +kernel, rfl, by decide +kernel, by decide +kernel⟩
theorem sc_law_kept : FnScope ["windows", "order", "years", "told", "e"] ["windows", "order", "years"] (defScope s_law_kept) := ⟨rfl, rfl, rfl, by decide +kernel, rfl, by decide +kernel, by decide +kernel⟩
theorem sc_law_dates_right : FnScope ["windows", "order", "told", "forced", "found", "against", "due", "changed", "pair", "year"] ["windows", "order", "told", "forced"] (defScope s_law_dates_right) := ⟨rfl, rfl, rfl, by decide +kernel, rfl, by decide +kernel, by decide +kernel⟩
theorem sc_law_keeps_right : FnScope ["windows", "order", "years", "told", "handed", "found", "again", "due"] ["windows", "order", "years", "told"] (defScope s_law_keeps_right) := ⟨rfl, rfl, rfl, by decide +kernel, rfl, by decide +kernel, by decide +kernel⟩
theorem sc_law_lots_right : FnScope ["windows", "order", "lot", "told", "draws", "years", "draw"] ["windows", "order", "lot", "told", "draws"] (defScope s_law_lots_right) := ⟨rfl, rfl, rfl, by decide +kernel, rfl, by decide +kernel, by decide +kernel⟩
theorem sc_law_bad_order : FnScope ["windows", "order", "index", "first", "second", "third", "name"] ["windows", "order", "index"] (defScope s_law_bad_order) := ⟨rfl, rfl, rfl, by decide +kernel, rfl, by decide +kernel, by decide +kernel⟩
theorem sc_law_bounds_right : FnScope ["table", "names", "other", "wide", "year", "narrow", "years", "name"] ["table", "names", "other"] (defScope s_law_bounds_right) := ⟨rfl, rfl, rfl, by decide +kernel, rfl, by decide +kernel, by decide +kernel⟩
theorem sc_law : FnScope ["script", "p0", "p1", "p2", "size", "names", "hidden", "rows", "years", "told", "other", "handed", "table", "passed", "windows", "window", "forced", "again", "order", "lot", "at", "bad", "more", "refusal", "row"] ["script"] (defScope s_law) := ⟨rfl, rfl, rfl, by decide +kernel, rfl, by decide +kernel, by decide +kernel⟩
/-- where the defs and classes stand -/
structure Ad where
  C_Table : Addr
  C_Windows : Addr
  C_RowsError : Addr
  C_Unknown : Addr
  C_Impossible : Addr
  C_BadOrder : Addr
  C_NoDates : Addr
  C_BadWindow : Addr
  a_BadOrder_init : Addr
  d_BadOrder_init : FuncData
  a_NoDates_init : Addr
  d_NoDates_init : FuncData
  a_BadWindow_init : Addr
  d_BadWindow_init : FuncData
  a_is_name : Addr
  d_is_name : FuncData
  a_first_bad_name : Addr
  d_first_bad_name : FuncData
  a_first_stray : Addr
  d_first_stray : FuncData
  a_order_fault : Addr
  d_order_fault : FuncData
  a_check_order : Addr
  d_check_order : FuncData
  a_check_columns : Addr
  d_check_columns : FuncData
  a_check_rows : Addr
  d_check_rows : FuncData
  a_Table_in_order : Addr
  d_Table_in_order : FuncData
  a_Table_init : Addr
  d_Table_init : FuncData
  a_Table_has : Addr
  d_Table_has : FuncData
  a_Table_eq : Addr
  d_Table_eq : FuncData
  a_Windows_init : Addr
  d_Windows_init : FuncData
  a_Windows_forced : Addr
  d_Windows_forced : FuncData
  a_Windows_keeps : Addr
  d_Windows_keeps : FuncData
  a_Windows_dates : Addr
  d_Windows_dates : FuncData
  a_law_cell : Addr
  d_law_cell : FuncData
  a_law_pool : Addr
  d_law_pool : FuncData
  a_law_size : Addr
  d_law_size : FuncData
  a_law_names : Addr
  d_law_names : FuncData
  a_law_order : Addr
  d_law_order : FuncData
  a_law_row : Addr
  d_law_row : FuncData
  a_law_rows : Addr
  d_law_rows : FuncData
  a_law_steps : Addr
  d_law_steps : FuncData
  a_law_windows : Addr
  d_law_windows : FuncData
  a_law_is_number : Addr
  d_law_is_number : FuncData
  a_law_windows_kept : Addr
  d_law_windows_kept : FuncData
  a_law_forced : Addr
  d_law_forced : FuncData
  a_law_same_pairs : Addr
  d_law_same_pairs : FuncData
  a_law_free_windows : Addr
  d_law_free_windows : FuncData
  a_law_due_years : Addr
  d_law_due_years : FuncData
  a_law_rise : Addr
  d_law_rise : FuncData
  a_law_other_years : Addr
  d_law_other_years : FuncData
  a_law_bad_windows : Addr
  d_law_bad_windows : FuncData
  a_law_refused_windows : Addr
  d_law_refused_windows : FuncData
  a_law_dated : Addr
  d_law_dated : FuncData
  a_law_kept : Addr
  d_law_kept : FuncData
  a_law_dates_right : Addr
  d_law_dates_right : FuncData
  a_law_keeps_right : Addr
  d_law_keeps_right : FuncData
  a_law_lots_right : Addr
  d_law_lots_right : FuncData
  a_law_bad_order : Addr
  d_law_bad_order : FuncData
  a_law_bounds_right : Addr
  d_law_bounds_right : FuncData
  a_law : Addr
  d_law : FuncData
  e_Table_init : Addr
/-- what the top has written -/
structure Txt (P : Program) (K : PySem.W.Frag) (mg : Str → Option Value) (A : Ad) : Prop where
  mg_Table : mg "Table" = some (.ref A.C_Table)
  cl_Table : Cls K A.C_Table
  sf_Table : PySem.W.selfFirst K A.C_Table = true
  mk_Table : Mk K A.C_Table A.a_Table_init
  c1_Table : PySem.W.findIn K (.ref A.C_Table) "__class__" = some (some (.builtin "object.__class__"))
  c3_Table : PySem.W.mroIn K A.C_Table (.type "object") = some true
  n_Table_columns : NoAttr K A.C_Table "columns"
  n_Table_rows : NoAttr K A.C_Table "rows"
  mg_Windows : mg "Windows" = some (.ref A.C_Windows)
  cl_Windows : Cls K A.C_Windows
  sf_Windows : PySem.W.selfFirst K A.C_Windows = true
  mk_Windows : Mk K A.C_Windows A.a_Windows_init
  c1_Windows : PySem.W.findIn K (.ref A.C_Windows) "__class__" = some (some (.builtin "object.__class__"))
  c3_Windows : PySem.W.mroIn K A.C_Windows (.type "object") = some true
  n_Windows_table : NoAttr K A.C_Windows "table"
  n_Windows_told : NoAttr K A.C_Windows "told"
  c2 : PySem.W.specialIn K (.builtin "object.__class__") "__get__" = some (some (.builtin "getset_descriptor.__get__"))
  c4 : PySem.W.takesIn K (.builtin "object.__class__") = some true
  mg_RowsError : mg "RowsError" = some (.ref A.C_RowsError)
  tp_RowsError : PySem.W.typeIn K (.ref A.C_RowsError) = some (.type "type")
  ic_RowsError : PySem.W.isClsIn K A.C_RowsError = true
  mg_Unknown : mg "Unknown" = some (.ref A.C_Unknown)
  tp_Unknown : PySem.W.typeIn K (.ref A.C_Unknown) = some (.type "type")
  ic_Unknown : PySem.W.isClsIn K A.C_Unknown = true
  mg_Impossible : mg "Impossible" = some (.ref A.C_Impossible)
  tp_Impossible : PySem.W.typeIn K (.ref A.C_Impossible) = some (.type "type")
  ic_Impossible : PySem.W.isClsIn K A.C_Impossible = true
  mg_BadOrder : mg "BadOrder" = some (.ref A.C_BadOrder)
  tp_BadOrder : PySem.W.typeIn K (.ref A.C_BadOrder) = some (.type "type")
  ic_BadOrder : PySem.W.isClsIn K A.C_BadOrder = true
  mg_NoDates : mg "NoDates" = some (.ref A.C_NoDates)
  tp_NoDates : PySem.W.typeIn K (.ref A.C_NoDates) = some (.type "type")
  ic_NoDates : PySem.W.isClsIn K A.C_NoDates = true
  mg_BadWindow : mg "BadWindow" = some (.ref A.C_BadWindow)
  tp_BadWindow : PySem.W.typeIn K (.ref A.C_BadWindow) = some (.type "type")
  ic_BadWindow : PySem.W.isClsIn K A.C_BadWindow = true
  SC_BadOrder : SupCls P K mg A.C_BadOrder
  SF_BadOrder : SupFn P K s_BadOrder_init "BadOrder.__init__" A.C_BadOrder A.a_BadOrder_init A.d_BadOrder_init
  ii_BadOrder : PySem.W.findIn K (.ref A.C_BadOrder) "__init__" = some (some (.ref A.a_BadOrder_init))
  ti_BadOrder : PySem.W.typeIn K (.ref A.a_BadOrder_init) = some (.type "function")
  b_BadOrder_init : Binds K A.d_BadOrder_init ["self", "index"] []
  xn_BadOrder_index : PySem.W.findIn K (.ref A.C_BadOrder) "index" = some none
  xf_BadOrder : XfC K A.C_BadOrder
  ec_BadOrder : ExcC K A.C_BadOrder
  k_BadOrder : PySem.W.keepIn K (.ref A.C_BadOrder) = true
  bp_BadOrder : PySem.W.subIn K (.ref A.C_BadOrder) (.type "BaseException") = some true
  sv_BadOrder : PySem.W.subIn K (.ref A.C_BadOrder) (.type "ValueError") = some true
  ss_BadOrder : PySem.W.subIn K (.ref A.C_BadOrder) (.ref A.C_BadOrder) = some true
  su_BadOrder_RowsError : PySem.W.subIn K (.ref A.C_BadOrder) (.ref A.C_RowsError) = some true
  su_BadOrder_Unknown : PySem.W.subIn K (.ref A.C_BadOrder) (.ref A.C_Unknown) = some false
  su_BadOrder_Impossible : PySem.W.subIn K (.ref A.C_BadOrder) (.ref A.C_Impossible) = some false
  su_BadOrder_NoDates : PySem.W.subIn K (.ref A.C_BadOrder) (.ref A.C_NoDates) = some false
  e1_BadOrder : PySem.W.findIn K (.ref A.C_BadOrder) "__getattribute__" = some (some (.builtin "BaseException.__getattribute__"))
  e2_BadOrder : PySem.W.findIn K (.ref A.C_BadOrder) "__getattr__" = some none
  e3_BadOrder : PySem.W.hasDictIn K A.C_BadOrder = true
  e4_BadOrder : PySem.W.findIn K (.ref A.C_BadOrder) "__class__" = some (some (.builtin "object.__class__"))
  e5_BadOrder : PySem.W.mroIn K A.C_BadOrder (.type "object") = some true
  SC_NoDates : SupCls P K mg A.C_NoDates
  SF_NoDates : SupFn P K s_NoDates_init "NoDates.__init__" A.C_NoDates A.a_NoDates_init A.d_NoDates_init
  ii_NoDates : PySem.W.findIn K (.ref A.C_NoDates) "__init__" = some (some (.ref A.a_NoDates_init))
  ti_NoDates : PySem.W.typeIn K (.ref A.a_NoDates_init) = some (.type "function")
  b_NoDates_init : Binds K A.d_NoDates_init ["self", "one", "other"] []
  xn_NoDates_one : PySem.W.findIn K (.ref A.C_NoDates) "one" = some none
  xn_NoDates_other : PySem.W.findIn K (.ref A.C_NoDates) "other" = some none
  xf_NoDates : XfC K A.C_NoDates
  ec_NoDates : ExcC K A.C_NoDates
  k_NoDates : PySem.W.keepIn K (.ref A.C_NoDates) = true
  bp_NoDates : PySem.W.subIn K (.ref A.C_NoDates) (.type "BaseException") = some true
  sv_NoDates : PySem.W.subIn K (.ref A.C_NoDates) (.type "ValueError") = some true
  ss_NoDates : PySem.W.subIn K (.ref A.C_NoDates) (.ref A.C_NoDates) = some true
  su_NoDates_RowsError : PySem.W.subIn K (.ref A.C_NoDates) (.ref A.C_RowsError) = some true
  su_NoDates_Unknown : PySem.W.subIn K (.ref A.C_NoDates) (.ref A.C_Unknown) = some false
  su_NoDates_Impossible : PySem.W.subIn K (.ref A.C_NoDates) (.ref A.C_Impossible) = some true
  e1_NoDates : PySem.W.findIn K (.ref A.C_NoDates) "__getattribute__" = some (some (.builtin "BaseException.__getattribute__"))
  e2_NoDates : PySem.W.findIn K (.ref A.C_NoDates) "__getattr__" = some none
  e3_NoDates : PySem.W.hasDictIn K A.C_NoDates = true
  e4_NoDates : PySem.W.findIn K (.ref A.C_NoDates) "__class__" = some (some (.builtin "object.__class__"))
  e5_NoDates : PySem.W.mroIn K A.C_NoDates (.type "object") = some true
  SC_BadWindow : SupCls P K mg A.C_BadWindow
  SF_BadWindow : SupFn P K s_BadWindow_init "BadWindow.__init__" A.C_BadWindow A.a_BadWindow_init A.d_BadWindow_init
  ii_BadWindow : PySem.W.findIn K (.ref A.C_BadWindow) "__init__" = some (some (.ref A.a_BadWindow_init))
  ti_BadWindow : PySem.W.typeIn K (.ref A.a_BadWindow_init) = some (.type "function")
  b_BadWindow_init : Binds K A.d_BadWindow_init ["self", "index"] []
  xn_BadWindow_index : PySem.W.findIn K (.ref A.C_BadWindow) "index" = some none
  xf_BadWindow : XfC K A.C_BadWindow
  ec_BadWindow : ExcC K A.C_BadWindow
  k_BadWindow : PySem.W.keepIn K (.ref A.C_BadWindow) = true
  bp_BadWindow : PySem.W.subIn K (.ref A.C_BadWindow) (.type "BaseException") = some true
  sv_BadWindow : PySem.W.subIn K (.ref A.C_BadWindow) (.type "ValueError") = some true
  ss_BadWindow : PySem.W.subIn K (.ref A.C_BadWindow) (.ref A.C_BadWindow) = some true
  su_BadWindow_RowsError : PySem.W.subIn K (.ref A.C_BadWindow) (.ref A.C_RowsError) = some true
  su_BadWindow_Unknown : PySem.W.subIn K (.ref A.C_BadWindow) (.ref A.C_Unknown) = some false
  su_BadWindow_Impossible : PySem.W.subIn K (.ref A.C_BadWindow) (.ref A.C_Impossible) = some false
  e1_BadWindow : PySem.W.findIn K (.ref A.C_BadWindow) "__getattribute__" = some (some (.builtin "BaseException.__getattribute__"))
  e2_BadWindow : PySem.W.findIn K (.ref A.C_BadWindow) "__getattr__" = some none
  e3_BadWindow : PySem.W.hasDictIn K A.C_BadWindow = true
  e4_BadWindow : PySem.W.findIn K (.ref A.C_BadWindow) "__class__" = some (some (.builtin "object.__class__"))
  e5_BadWindow : PySem.W.mroIn K A.C_BadWindow (.type "object") = some true
  mg_LONGEST_NAME : ∃ t : Tok, mg "LONGEST_NAME" = some (.int 8 t)
  mg_MOST_YEAR : ∃ t : Tok, mg "MOST_YEAR" = some (.int 1000000 t)
  cr_Table : ClX.CRead K A.C_Table (.type "type")
  cv_Table_MOST_COLUMNS : ∃ u, ClX.CVal K A.C_Table (.type "type") "MOST_COLUMNS" (.int 12) u
  cv_Table_MOST_ROWS : ∃ u, ClX.CVal K A.C_Table (.type "type") "MOST_ROWS" (.int 48) u
  n_abs : mg "abs" = none
  n_int : mg "int" = none
  n_isinstance : mg "isinstance" = none
  n_range : mg "range" = none
  n_len : mg "len" = none
  n_str : mg "str" = none
  n_tuple : mg "tuple" = none
  n_list : mg "list" = none
  n_ValueError : mg "ValueError" = none
  n_all : mg "all" = none
  n_any : mg "any" = none
  n_min : mg "min" = none
  n_max : mg "max" = none
  n_enumerate : mg "enumerate" = none
  n_bool : mg "bool" = none
  n_sorted : mg "sorted" = none
  F_is_name : Fun K "is_name" "is_name" s_is_name A.a_is_name A.d_is_name
  b_is_name : Binds K A.d_is_name ["text"] []
  mg_is_name : mg "is_name" = some (.ref A.a_is_name)
  F_first_bad_name : Fun K "first_bad_name" "first_bad_name" s_first_bad_name A.a_first_bad_name A.d_first_bad_name
  b_first_bad_name : Binds K A.d_first_bad_name ["names"] []
  mg_first_bad_name : mg "first_bad_name" = some (.ref A.a_first_bad_name)
  F_first_stray : Fun K "first_stray" "first_stray" s_first_stray A.a_first_stray A.d_first_stray
  b_first_stray : Binds K A.d_first_stray ["columns", "names"] []
  mg_first_stray : mg "first_stray" = some (.ref A.a_first_stray)
  F_order_fault : Fun K "order_fault" "order_fault" s_order_fault A.a_order_fault A.d_order_fault
  b_order_fault : Binds K A.d_order_fault ["columns", "order"] []
  mg_order_fault : mg "order_fault" = some (.ref A.a_order_fault)
  F_check_order : Fun K "check_order" "check_order" s_check_order A.a_check_order A.d_check_order
  b_check_order : Binds K A.d_check_order ["table", "order"] []
  mg_check_order : mg "check_order" = some (.ref A.a_check_order)
  F_check_columns : Fun K "check_columns" "check_columns" s_check_columns A.a_check_columns A.d_check_columns
  b_check_columns : Binds K A.d_check_columns ["columns"] []
  mg_check_columns : mg "check_columns" = some (.ref A.a_check_columns)
  F_check_rows : Fun K "_check_rows" "_check_rows" s_check_rows A.a_check_rows A.d_check_rows
  b_check_rows : Binds K A.d_check_rows ["columns", "rows"] []
  mg_check_rows : mg "_check_rows" = some (.ref A.a_check_rows)
  F_Table_in_order : Fun K "_in_order" "Table._in_order" s_Table_in_order A.a_Table_in_order A.d_Table_in_order
  b_Table_in_order : Binds K A.d_Table_in_order ["self", "names"] []
  m_Table_in_order : Meth K A.C_Table "_in_order" A.a_Table_in_order
  F_Table_init : FunD K "__init__" "Table.__init__" (defArgs s_Table_init) (defBody s_Table_init) (defScope s_Table_init) [.ref A.e_Table_init] [] A.a_Table_init A.d_Table_init
  m_Table_init : Meth K A.C_Table "__init__" A.a_Table_init
  F_Table_has : Fun K "has" "Table.has" s_Table_has A.a_Table_has A.d_Table_has
  b_Table_has : Binds K A.d_Table_has ["self", "name"] []
  m_Table_has : Meth K A.C_Table "has" A.a_Table_has
  F_Table_eq : Fun K "__eq__" "Table.__eq__" s_Table_eq A.a_Table_eq A.d_Table_eq
  b_Table_eq : Binds K A.d_Table_eq ["self", "other"] []
  m_Table_eq : Meth K A.C_Table "__eq__" A.a_Table_eq
  F_Windows_init : Fun K "__init__" "Windows.__init__" s_Windows_init A.a_Windows_init A.d_Windows_init
  b_Windows_init : Binds K A.d_Windows_init ["self", "table", "told"] []
  m_Windows_init : Meth K A.C_Windows "__init__" A.a_Windows_init
  F_Windows_forced : Fun K "forced" "Windows.forced" s_Windows_forced A.a_Windows_forced A.d_Windows_forced
  b_Windows_forced : Binds K A.d_Windows_forced ["self"] []
  m_Windows_forced : Meth K A.C_Windows "forced" A.a_Windows_forced
  F_Windows_keeps : Fun K "keeps" "Windows.keeps" s_Windows_keeps A.a_Windows_keeps A.d_Windows_keeps
  b_Windows_keeps : Binds K A.d_Windows_keeps ["self", "order", "years"] []
  m_Windows_keeps : Meth K A.C_Windows "keeps" A.a_Windows_keeps
  F_Windows_dates : Fun K "dates" "Windows.dates" s_Windows_dates A.a_Windows_dates A.d_Windows_dates
  b_Windows_dates : Binds K A.d_Windows_dates ["self", "order"] []
  m_Windows_dates : Meth K A.C_Windows "dates" A.a_Windows_dates
  F_law_cell : Fun K "_law_cell" "_law_cell" s_law_cell A.a_law_cell A.d_law_cell
  b_law_cell : Binds K A.d_law_cell ["script", "k"] []
  mg_law_cell : mg "_law_cell" = some (.ref A.a_law_cell)
  F_law_pool : Fun K "_law_pool" "_law_pool" s_law_pool A.a_law_pool A.d_law_pool
  b_law_pool : Binds K A.d_law_pool ["script", "k", "count"] []
  mg_law_pool : mg "_law_pool" = some (.ref A.a_law_pool)
  F_law_size : Fun K "_law_size" "_law_size" s_law_size A.a_law_size A.d_law_size
  b_law_size : Binds K A.d_law_size ["draw", "most"] []
  mg_law_size : mg "_law_size" = some (.ref A.a_law_size)
  F_law_names : Fun K "_law_names" "_law_names" s_law_names A.a_law_names A.d_law_names
  b_law_names : Binds K A.d_law_names ["count", "seed"] []
  mg_law_names : mg "_law_names" = some (.ref A.a_law_names)
  F_law_order : Fun K "_law_order" "_law_order" s_law_order A.a_law_order A.d_law_order
  b_law_order : Binds K A.d_law_order ["names", "pool", "start"] []
  mg_law_order : mg "_law_order" = some (.ref A.a_law_order)
  F_law_row : Fun K "_law_row" "_law_row" s_law_row A.a_law_row A.d_law_row
  b_law_row : Binds K A.d_law_row ["names", "hidden", "draw", "free"] []
  mg_law_row : mg "_law_row" = some (.ref A.a_law_row)
  F_law_rows : Fun K "_law_rows" "_law_rows" s_law_rows A.a_law_rows A.d_law_rows
  b_law_rows : Binds K A.d_law_rows ["names", "hidden", "pool", "start", "count", "mode"] []
  mg_law_rows : mg "_law_rows" = some (.ref A.a_law_rows)
  F_law_steps : Fun K "_law_steps" "_law_steps" s_law_steps A.a_law_steps A.d_law_steps
  b_law_steps : Binds K A.d_law_steps ["pool", "start", "count"] []
  mg_law_steps : mg "_law_steps" = some (.ref A.a_law_steps)
  F_law_windows : Fun K "_law_windows" "_law_windows" s_law_windows A.a_law_windows A.d_law_windows
  b_law_windows : Binds K A.d_law_windows ["order", "years", "pool", "start", "wild"] []
  mg_law_windows : mg "_law_windows" = some (.ref A.a_law_windows)
  F_law_is_number : Fun K "_law_is_number" "_law_is_number" s_law_is_number A.a_law_is_number A.d_law_is_number
  b_law_is_number : Binds K A.d_law_is_number ["value", "least", "most"] []
  mg_law_is_number : mg "_law_is_number" = some (.ref A.a_law_is_number)
  F_law_windows_kept : Fun K "_law_windows_kept" "_law_windows_kept" s_law_windows_kept A.a_law_windows_kept A.d_law_windows_kept
  b_law_windows_kept : Binds K A.d_law_windows_kept ["order", "years", "windows"] []
  mg_law_windows_kept : mg "_law_windows_kept" = some (.ref A.a_law_windows_kept)
  F_law_forced : Fun K "_law_forced" "_law_forced" s_law_forced A.a_law_forced A.d_law_forced
  b_law_forced : Binds K A.d_law_forced ["names", "windows"] []
  mg_law_forced : mg "_law_forced" = some (.ref A.a_law_forced)
  F_law_same_pairs : Fun K "_law_same_pairs" "_law_same_pairs" s_law_same_pairs A.a_law_same_pairs A.d_law_same_pairs
  b_law_same_pairs : Binds K A.d_law_same_pairs ["found", "due"] []
  mg_law_same_pairs : mg "_law_same_pairs" = some (.ref A.a_law_same_pairs)
  F_law_free_windows : Fun K "_law_free_windows" "_law_free_windows" s_law_free_windows A.a_law_free_windows A.d_law_free_windows
  b_law_free_windows : Binds K A.d_law_free_windows ["names", "one", "two"] []
  mg_law_free_windows : mg "_law_free_windows" = some (.ref A.a_law_free_windows)
  F_law_due_years : Fun K "_law_due_years" "_law_due_years" s_law_due_years A.a_law_due_years A.d_law_due_years
  b_law_due_years : Binds K A.d_law_due_years ["order", "windows"] []
  mg_law_due_years : mg "_law_due_years" = some (.ref A.a_law_due_years)
  F_law_rise : Fun K "_law_rise" "_law_rise" s_law_rise A.a_law_rise A.d_law_rise
  b_law_rise : Binds K A.d_law_rise ["years"] []
  mg_law_rise : mg "_law_rise" = some (.ref A.a_law_rise)
  F_law_other_years : Fun K "_law_other_years" "_law_other_years" s_law_other_years A.a_law_other_years A.d_law_other_years
  b_law_other_years : Binds K A.d_law_other_years ["years", "draw"] []
  mg_law_other_years : mg "_law_other_years" = some (.ref A.a_law_other_years)
  F_law_bad_windows : Fun K "_law_bad_windows" "_law_bad_windows" s_law_bad_windows A.a_law_bad_windows A.d_law_bad_windows
  b_law_bad_windows : Binds K A.d_law_bad_windows ["names", "windows", "pool"] []
  mg_law_bad_windows : mg "_law_bad_windows" = some (.ref A.a_law_bad_windows)
  F_law_refused_windows : Fun K "_law_refused_windows" "_law_refused_windows" s_law_refused_windows A.a_law_refused_windows A.d_law_refused_windows
  b_law_refused_windows : Binds K A.d_law_refused_windows ["table", "windows"] []
  mg_law_refused_windows : mg "_law_refused_windows" = some (.ref A.a_law_refused_windows)
  F_law_dated : Fun K "_law_dated" "_law_dated" s_law_dated A.a_law_dated A.d_law_dated
  b_law_dated : Binds K A.d_law_dated ["windows", "order"] []
  mg_law_dated : mg "_law_dated" = some (.ref A.a_law_dated)
  F_law_kept : Fun K "_law_kept" "_law_kept" s_law_kept A.a_law_kept A.d_law_kept
  b_law_kept : Binds K A.d_law_kept ["windows", "order", "years"] []
  mg_law_kept : mg "_law_kept" = some (.ref A.a_law_kept)
  F_law_dates_right : Fun K "_law_dates_right" "_law_dates_right" s_law_dates_right A.a_law_dates_right A.d_law_dates_right
  b_law_dates_right : Binds K A.d_law_dates_right ["windows", "order", "told", "forced"] []
  mg_law_dates_right : mg "_law_dates_right" = some (.ref A.a_law_dates_right)
  F_law_keeps_right : Fun K "_law_keeps_right" "_law_keeps_right" s_law_keeps_right A.a_law_keeps_right A.d_law_keeps_right
  b_law_keeps_right : Binds K A.d_law_keeps_right ["windows", "order", "years", "told"] []
  mg_law_keeps_right : mg "_law_keeps_right" = some (.ref A.a_law_keeps_right)
  F_law_lots_right : Fun K "_law_lots_right" "_law_lots_right" s_law_lots_right A.a_law_lots_right A.d_law_lots_right
  b_law_lots_right : Binds K A.d_law_lots_right ["windows", "order", "lot", "told", "draws"] []
  mg_law_lots_right : mg "_law_lots_right" = some (.ref A.a_law_lots_right)
  F_law_bad_order : Fun K "_law_bad_order" "_law_bad_order" s_law_bad_order A.a_law_bad_order A.d_law_bad_order
  b_law_bad_order : Binds K A.d_law_bad_order ["windows", "order", "index"] []
  mg_law_bad_order : mg "_law_bad_order" = some (.ref A.a_law_bad_order)
  F_law_bounds_right : Fun K "_law_bounds_right" "_law_bounds_right" s_law_bounds_right A.a_law_bounds_right A.d_law_bounds_right
  b_law_bounds_right : Binds K A.d_law_bounds_right ["table", "names", "other"] []
  mg_law_bounds_right : mg "_law_bounds_right" = some (.ref A.a_law_bounds_right)
  F_law : Fun K "law" "law" s_law A.a_law A.d_law
  b_law : Binds K A.d_law ["script"] []
  mg_law : mg "law" = some (.ref A.a_law)
end My
set_option maxRecDepth 100000
set_option maxHeartbeats 4000000
set_option exponentiation.threshold 10000
namespace My
open PySem L2
section
variable {P : Program} {w : World} {K : PySem.W.Frag} {mg : Str → Option Value} {base : Heap} {A : Ad}
theorem lp1 : Str.length ("wrong in an order: place " : Str) = 25 := by decide
theorem ok_BadOrder (T : Txt P K mg A) : FnOk P w K mg base CX0 1 A.a_BadOrder_init A.d_BadOrder_init ["self", "index"] (spX1 A.C_BadOrder "index" smallI) := by
  refine sup_ok T.SF_BadOrder ss_BadOrder_init T.SC_BadOrder rfl rfl rfl (fun _ => rfl) (fun _ => rfl) (fun _ => rfl) (fun vs H Q E h => ?_) (fun cda cc A' outer s H vs Q E hr h => ?_)
  · obtain ⟨a, y, rfl, _⟩ := h
    rfl
  · obtain ⟨a, y, rfl, ⟨i, rfl, hi⟩, ha, k⟩ := h
    have l1 := PyProof.Rows.int_text_len_1921 (small_log hi)
    refine ⟨a, _, _, rfl, ha, (pe_joined (PJ.cons pe_str (PJ.cons (pe_fmt (pv 1)) PJ.nil))), (pss_one (ps_ost (pv 0) (pv 1))), ?_⟩
    refine ⟨_, rfl, by rw [Str.empty_append, lp1]; decide, _, rfl, .inr ⟨i, rfl, small_log hi, _, rfl, ?_, (by decide : 1 ≤ 1000), ha, _, rfl, _, rfl, a, _, rfl, T.SC_BadOrder.ox, T.xn_BadOrder_index, .inl ⟨ha, fun d hd hne => k d hd hne⟩⟩⟩
    rw [Str.empty_append, Str.length_append, lp1]
    exact Nat.le_trans (Nat.add_le_add_left l1 25) (by decide)
theorem lp2 : Str.length ("window " : Str) = 7 := by decide
theorem lq2 : Str.length (" is wrong" : Str) = 9 := by decide
theorem ok_BadWindow (T : Txt P K mg A) : FnOk P w K mg base CX0 1 A.a_BadWindow_init A.d_BadWindow_init ["self", "index"] (spX1 A.C_BadWindow "index" smallI) := by
  refine sup_ok T.SF_BadWindow ss_BadWindow_init T.SC_BadWindow rfl rfl rfl (fun _ => rfl) (fun _ => rfl) (fun _ => rfl) (fun vs H Q E h => ?_) (fun cda cc A' outer s H vs Q E hr h => ?_)
  · obtain ⟨a, y, rfl, _⟩ := h
    rfl
  · obtain ⟨a, y, rfl, ⟨i, rfl, hi⟩, ha, k⟩ := h
    have l1 := PyProof.Rows.int_text_len_1921 (small_log hi)
    refine ⟨a, _, _, rfl, ha, (pe_joined (PJ.cons pe_str (PJ.cons (pe_fmt (pv 1)) (PJ.cons pe_str PJ.nil)))), (pss_one (ps_ost (pv 0) (pv 1))), ?_⟩
    refine ⟨_, rfl, by rw [Str.empty_append, lp2]; decide, _, rfl, .inr ⟨i, rfl, small_log hi, _, rfl, ?_, _, rfl, ?_, (by decide : 1 ≤ 1000), ha, _, rfl, _, rfl, a, _, rfl, T.SC_BadWindow.ox, T.xn_BadWindow_index, .inl ⟨ha, fun d hd hne => k d hd hne⟩⟩⟩
    · rw [Str.empty_append, Str.length_append, lp2]
      exact Nat.le_trans (Nat.add_le_add_left l1 7) (by decide)
    · rw [Str.empty_append, Str.length_append, Str.length_append, lp2, lq2]
      exact Nat.le_trans (Nat.add_le_add_right (Nat.add_le_add_left l1 7) 9) (by decide)
/-- an error with two names -/
def spX2 (C : Addr) (f g : Str) : Sp := fun vs H Q _ => ∃ (a : Addr) (y z : Str), vs = [.ref a, .str y, .str z] ∧ y.length ≤ 1000 ∧ z.length ≤ 1000 ∧ H a = some (exo a C none) ∧ ∀ d, H d = none → d ≠ a → Q .non (upd (upd (upd H d (exd d [(f, .str y)])) a (exo a C (some d))) d (exd d [(g, .str z), (f, .str y)]))
theorem ln1 : Str.length (" stands before " : Str) = 15 := by decide
theorem ln2 : Str.length (", but its window is later" : Str) = 25 := by decide
theorem ok_NoDates (T : Txt P K mg A) : FnOk P w K mg base CX0 1 A.a_NoDates_init A.d_NoDates_init ["self", "one", "other"] (spX2 A.C_NoDates "one" "other") := by
  refine sup_ok T.SF_NoDates ss_NoDates_init T.SC_NoDates rfl rfl rfl (fun _ => rfl) (fun _ => rfl) (fun _ => rfl) (fun vs H Q E h => ?_) (fun cda cc A' outer s H vs Q E hr h => ?_)
  · obtain ⟨a, y, z, rfl, _⟩ := h
    rfl
  · obtain ⟨a, y, z, rfl, hy, hz, ha, k⟩ := h
    refine ⟨a, _, _, rfl, ha, (pe_joined (PJ.cons (pe_fmt (pv 1)) (PJ.cons pe_str (PJ.cons (pe_fmt (pv 2)) (PJ.cons pe_str PJ.nil))))), (pss_cons (ps_ost (pv 0) (pv 1)) (pss_one (ps_ost (pv 0) (pv 2)))), ?_⟩
    have big : (3000 : Nat) ≤ sizeLine := by decide
    refine ⟨_, rfl, .inl ⟨y, rfl, Nat.le_trans hy (by decide), _, rfl, ?_, _, rfl, ?_, _, rfl, .inl ⟨z, rfl, Nat.le_trans hz (by decide), _, rfl, ?_, _, rfl, ?_, (by decide : 1 ≤ 1000), ha, _, rfl, _, rfl, a, _, rfl, T.SC_NoDates.ox, T.xn_NoDates_one, .inl ⟨ha, fun d hd hne => ⟨_, rfl, _, rfl, a, _, rfl, T.SC_NoDates.ox, T.xn_NoDates_other, .inr ⟨d, _, upd_same, by rw [upd_ne hne]; exact upd_same, by show 1 ≤ 900; decide, k d hd hne⟩⟩⟩⟩⟩⟩
    · rw [Str.empty_append]; omega
    · rw [Str.empty_append, Str.length_append, ln1]; omega
    · rw [Str.empty_append, Str.length_append, Str.length_append, ln1]; omega
    · rw [Str.empty_append, Str.length_append, Str.length_append, Str.length_append, ln1, ln2]; omega
/-! ### names -/
def spName : Sp := fun vs H Q _ => ∃ z, vs = [.str z] ∧ z.length ≤ 16000000 ∧ ∀ H', Same H H' → Q (.bl (okName z)) H'
theorem ok_name (T : Txt P K mg A) : FnOk P w K mg base CX0 1 A.a_is_name A.d_is_name ["text"] spName := by
  refine T.F_is_name.ok sc_is_name (fun vs H Q E h => ?_) (fun cdv A' outer s H vs Q E hr h => ?_)
  · obtain ⟨z, rfl, _⟩ := h
    rfl
  · obtain ⟨z, rfl, g, k⟩ := h
    refine ⟨_, (pss_one (ps_ret (pe_and (pe_chain op_le op_le pe_int (pe_callB call_len_str (by rfl) T.n_len (by decide +kernel) (pa_cons (pv 0) pa_nil)) (pe_glob (v := .int 8) rfl T.mg_LONGEST_NAME.choose_spec ⟨_, rfl⟩)) (pe_one (pe_callB (cr_all rfl) (by rfl) T.n_all (by decide +kernel) (pa_cons (pe_lc (own := [("sign", 1)]) (g := gName 1) (tt := tYes) rfl sc_is_name.nd (pi_str (pv 0)) (blkOk_by (N := ["text", "sign"]) (sc := defScope s_is_name) (by decide +kernel)) (fun _ _ _ _ _ => (pg_name (i := 1) sc_is_name.nd rfl (Or.inl rfl))) (fun _ _ _ _ _ => pts_nil) (fun _ _ _ _ _ => (pe_chain op_le_str op_le_str pe_str (pv 1) pe_str))) pa_nil)))))), ?_⟩
    have hz : z.length ≤ sizeLine := Nat.le_trans g (by decide)
    refine ⟨_, rfl, z, rfl, hz, _, _, rfl, rfl, _, rfl, ?_⟩
    by_cases h1 : 1 ≤ z.length
    · refine itY (by omega) ⟨_, _, rfl, rfl, _, rfl, ?_⟩
      by_cases h8 : z.length ≤ 8
      · refine itY (by omega) ?_
        refine ⟨_, rfl, z, rfl, fun D hD => lc_it walk_str (PvS H D fun i => (z.cps.toList.take i).map fun c => V.bl (decide (97 ≤ c ∧ c ≤ 122))) (pv0 hD rfl) (fun _ _ _ _ => trivial) ?_ ?_⟩
        · rintro i x H30 H3 hi p ⟨rfl, c, hc, rfl⟩
          have hc' : z.cps.toList[i]? = some c := by rw [Array.getElem?_toList]; exact hc
          have push : ∀ b : Bool, b = decide (97 ≤ c ∧ c ≤ 122) → ∃ acc, H3 D = some (.lst acc) ∧ acc.length < sizeLine ∧ PvS H D (fun i => (z.cps.toList.take i).map fun c => V.bl (decide (97 ≤ c ∧ c ≤ 122))) (i + 1) (upd H3 D (.lst (acc ++ [V.bl b]))) := fun b hb => by
            refine p.push hD ?_ ?_
            · show (z.cps.toList.take (i + 1)).map _ = _
              rw [take_succ hc', List.map_append, hb]; rfl
            · show ((z.cps.toList.take i).map _).length ≤ 1000000
              rw [List.length_map, List.length_take]
              have h2 : z.cps.size = z.length := rfl
              rw [Array.length_toList]; omega
          refine ⟨rfl, ?_⟩
          refine ⟨_, rfl, _, _, rfl, rfl, _, rfl, ?_⟩
          by_cases ha : 97 ≤ c
          · refine ifT (by
              show (!decide ([c] < [97])) = true
              have : ¬ c < 97 := by omega
              simp [List.cons_lt_cons_iff] <;> omega) ⟨_, _, rfl, rfl, push _ ?_⟩
            show (!decide ([122] < [c])) = decide (97 ≤ c ∧ c ≤ 122)
            by_cases hb : c ≤ 122
            · rw [decide_eq_true (⟨ha, hb⟩ : 97 ≤ c ∧ c ≤ 122)]
              simp [List.cons_lt_cons_iff] <;> omega
            · rw [decide_eq_false (fun h : 97 ≤ c ∧ c ≤ 122 => hb h.2)]
              simp [List.cons_lt_cons_iff] <;> omega
          · refine ifF (by
              show (!decide ([c] < [97])) = false
              simp [List.cons_lt_cons_iff] <;> omega) (push _ ?_)
            rw [decide_eq_false (fun h : 97 ≤ c ∧ c ≤ 122 => ha h.1)]
            first | done | (show (!decide ([c] < [97])) = false; simp [List.cons_lt_cons_iff] <;> omega)
        · rintro H3 ⟨sm, h3⟩
          have h3 : H3 D = some (.lst ((z.cps.toList.take z.cps.size).map fun c => V.bl (decide (97 ≤ c ∧ c ≤ 122)))) := h3
          rw [List.take_of_length_le (by rw [Array.length_toList]; exact Nat.le_refl _)] at h3
          refine ⟨D, z.cps.toList.map fun c => decide (97 ≤ c ∧ c ≤ 122), rfl, SqL.of (by rw [List.map_map]; exact h3), ?_⟩
          have e : (z.cps.toList.map fun c => decide (97 ≤ c ∧ c ≤ 122)).all id = okName z := by
            unfold okName
            rw [decide_eq_true h1, decide_eq_true h8, List.all_map]; rfl
          rw [e]
          exact k H3 sm
      · refine itN (by omega) ?_
        have e : okName z = false := by unfold okName; rw [decide_eq_false h8]; simp
        rw [e] at k
        exact k H (Same.refl _)
    · refine itN (by omega) ?_
      have e : okName z = false := by unfold okName; rw [decide_eq_false h1]; rfl
      rw [e] at k
      exact ⟨_, rfl, iteF (k H (Same.refl _))⟩
def spFirstBad (sq : Hp → Addr → List V → Prop) : Sp := fun vs H Q _ => ∃ l ns, vs = [.ref l] ∧ sq H l (sv ns) ∧ (∀ z ∈ ns, z.length ≤ 16000000) ∧ ∀ H', Same H H' → Q (optV (firstBad ns)) H'
theorem ok_firstBad (T : Txt P K mg A) : FnOk P w K mg base CX0 2 A.a_first_bad_name A.d_first_bad_name ["names"] (spFirstBad (SqL K)) := by
  have G_is_name := ok_name (P := P) (w := w) (base := base) T
  refine T.F_first_bad_name.ok sc_first_bad_name (fun vs H Q E h => ?_) (fun cdv A' outer s H vs Q E hr h => ?_)
  · obtain ⟨l, ns, rfl, _⟩ := h
    rfl
  · obtain ⟨l, ns, rfl, hS, g, k⟩ := h
    refine ⟨_, (pss_cons (ps_for PassesOwn.never rfl (pi_enum (by rfl) T.n_enumerate (pa_cons (pv 0) pa_nil)) (pg_tup (by rfl) (pgs_cons (pg_name (i := 1) sc_first_bad_name.nd rfl (Or.inl rfl)) (pgs_cons (pg_name (i := 2) sc_first_bad_name.nd rfl (Or.inl rfl)) pgs_nil)))
        (pss_one (ps_if (PW.pt (pw_or (pt_not (pt_val (pe_call G_is_name (hr.mono (by decide)) rfl T.mg_is_name T.F_is_name.kp T.b_is_name .nil pass0 (pa_cons (pv 2) pa_nil)))) (pw_or1 (pt_cmpR op_in_seq (pv 2) (pe_slice sl_list (pv 0) po_none (po_some (pv 1))) (by with_unfolding_all rfl))))) (pss_one (ps_ret (pv 1))) pss_nil)))
      (pss_one (ps_ret pe_non))), ?_⟩
    refine ⟨_, rfl, l, _, rfl, hS, for_it walk_enum (fun i σ H2 => Same H H2 ∧ (∀ j, j < i → badName ns j = false) ∧ ∃ u1 u2 : Option V, σ = [some (.ref l), u1, u2]) ⟨Same.refl _, fun j hj => absurd hj (Nat.not_lt_zero _), none, none, rfl⟩ (fun i σ H2 _ p => p.1.seq hS) ?_ ?_⟩
    · rintro i x σ H2 H3 hi ⟨sm, hb, u1, u2, rfl⟩ ⟨t, _, _, rfl, ht, rfl, ⟨⟩, hx⟩
      obtain ⟨z, hz, rfl⟩ := sv_get hx
      have hil : i < ns.length := by rw [len_sv] at hi; exact hi
      have bad : badName ns i = (!okName z || decide (z ∈ ns.take i)) := by unfold badName; rw [hz]
      refine ⟨t, _, rfl, SqT.of upd_same, rfl, _, _, rfl, _, _, rfl, rfl, ?_⟩
      refine ⟨_, rfl, z, rfl, g z (List.mem_of_getElem? hz), fun H4 sm4 => ⟨_, rfl, ?_⟩⟩
      have s4 : Same H H4 := sm.trans ((same_new ht).trans sm4)
      cases ok : okName z with
      | false =>
        refine ifT rfl (ifT rfl ⟨_, rfl, ?_⟩)
        have e := firstBad_some hil (by rw [bad, ok]; rfl) hb
        rw [e] at k
        exact k _ s4
      | true =>
        refine ifF rfl ⟨_, rfl, _, rfl, _, rfl, _, rfl, l, _, rfl, s4.seq hS, fun p hp => ⟨p, _, rfl, .inl (SqL.of upd_same), rfl, by rw [cut_take (by omega), sv_take]; exact flat_sv _, _, rfl, ?_⟩⟩
        rw [if_neg Bool.false_ne_true, cut_take (by omega), sv_take, inV_str]
        have s5 := s4.trans (same_new (o := .lst (cutV (sv ns) none (some ((i : Nat) : Int)))) hp)
        rw [cut_take (by omega), sv_take] at s5
        by_cases hp2 : z ∈ ns.take i
        · refine ifT (decide_eq_true hp2) ⟨_, rfl, ?_⟩
          have e := firstBad_some hil (by rw [bad, decide_eq_true hp2, Bool.or_true]) hb
          rw [e] at k
          exact k _ s5
        · refine ifF (decide_eq_false hp2) ⟨s5, fun j hj => ?_, _, _, rfl⟩
          rcases Nat.lt_succ_iff_lt_or_eq.mp hj with q | q
          · exact hb j q
          · rw [q, bad, ok, decide_eq_false hp2]; rfl
    · rintro σ H2 ⟨sm, hb, u1, u2, rfl⟩
      have e := firstBad_none (ns := ns) fun j hj => hb j (by rw [len_sv]; exact hj)
      rw [e] at k
      exact k H2 sm
theorem ok_firstBadT (T : Txt P K mg A) : FnOk P w K mg base CX0 2 A.a_first_bad_name A.d_first_bad_name ["names"] (spFirstBad (SqT K)) := by
  have G_is_name := ok_name (P := P) (w := w) (base := base) T
  refine T.F_first_bad_name.ok sc_first_bad_name (fun vs H Q E h => ?_) (fun cdv A' outer s H vs Q E hr h => ?_)
  · obtain ⟨l, ns, rfl, _⟩ := h
    rfl
  · obtain ⟨l, ns, rfl, hS, g, k⟩ := h
    refine ⟨_, (pss_cons (ps_for PassesOwn.never rfl (pi_enumT (by rfl) T.n_enumerate (pa_cons (pv 0) pa_nil)) (pg_tup (by rfl) (pgs_cons (pg_name (i := 1) sc_first_bad_name.nd rfl (Or.inl rfl)) (pgs_cons (pg_name (i := 2) sc_first_bad_name.nd rfl (Or.inl rfl)) pgs_nil)))
        (pss_one (ps_if (PW.pt (pw_or (pt_not (pt_val (pe_call G_is_name (hr.mono (by decide)) rfl T.mg_is_name T.F_is_name.kp T.b_is_name .nil pass0 (pa_cons (pv 2) pa_nil)))) (pw_or1 (pt_cmpR op_in_seq (pv 2) (pe_slice sl_tupA (pv 0) po_none (po_some (pv 1))) (by with_unfolding_all rfl))))) (pss_one (ps_ret (pv 1))) pss_nil)))
      (pss_one (ps_ret pe_non))), ?_⟩
    refine ⟨_, rfl, l, _, rfl, hS, for_it walk_enumT (fun i σ H2 => Same H H2 ∧ (∀ j, j < i → badName ns j = false) ∧ ∃ u1 u2 : Option V, σ = [some (.ref l), u1, u2]) ⟨Same.refl _, fun j hj => absurd hj (Nat.not_lt_zero _), none, none, rfl⟩ (fun i σ H2 _ p => p.1.tup hS) ?_ ?_⟩
    · rintro i x σ H2 H3 hi ⟨sm, hb, u1, u2, rfl⟩ ⟨t, _, _, rfl, ht, rfl, ⟨⟩, hx⟩
      obtain ⟨z, hz, rfl⟩ := sv_get hx
      have hil : i < ns.length := by rw [len_sv] at hi; exact hi
      have bad : badName ns i = (!okName z || decide (z ∈ ns.take i)) := by unfold badName; rw [hz]
      refine ⟨t, _, rfl, SqT.of upd_same, rfl, _, _, rfl, _, _, rfl, rfl, ?_⟩
      refine ⟨_, rfl, z, rfl, g z (List.mem_of_getElem? hz), fun H4 sm4 => ⟨_, rfl, ?_⟩⟩
      have s4 : Same H H4 := sm.trans ((same_new ht).trans sm4)
      cases ok : okName z with
      | false =>
        refine ifT rfl (ifT rfl ⟨_, rfl, ?_⟩)
        have e := firstBad_some hil (by rw [bad, ok]; rfl) hb
        rw [e] at k
        exact k _ s4
      | true =>
        refine ifF rfl ⟨_, rfl, _, rfl, _, rfl, _, rfl, l, _, rfl, s4.tup hS, fun z => absurd z.2 (by rw [HT.sIx_nat, len_sv]; omega), fun _ p hp => ⟨p, _, rfl, .inr (SqT.of upd_same), rfl, by rw [cut_take (by omega), sv_take]; exact flat_sv _, _, rfl, ?_⟩⟩
        rw [if_neg Bool.false_ne_true, cut_take (by omega), sv_take, inV_str]
        have s5 := s4.trans (same_new (o := .tup (cutV (sv ns) none (some ((i : Nat) : Int)))) hp)
        rw [cut_take (by omega), sv_take] at s5
        by_cases hp2 : z ∈ ns.take i
        · refine ifT (decide_eq_true hp2) ⟨_, rfl, ?_⟩
          have e := firstBad_some hil (by rw [bad, decide_eq_true hp2, Bool.or_true]) hb
          rw [e] at k
          exact k _ s5
        · refine ifF (decide_eq_false hp2) ⟨s5, fun j hj => ?_, _, _, rfl⟩
          rcases Nat.lt_succ_iff_lt_or_eq.mp hj with q | q
          · exact hb j q
          · rw [q, bad, ok, decide_eq_false hp2]; rfl
    · rintro σ H2 ⟨sm, hb, u1, u2, rfl⟩
      have e := firstBad_none (ns := ns) fun j hj => hb j (by rw [len_sv]; exact hj)
      rw [e] at k
      exact k H2 sm
theorem ok_firstBadO (T : Txt P K mg A) : FnOk P w K mg base CX0 2 A.a_first_bad_name A.d_first_bad_name ["names"] (spFirstBad (SqA K)) :=
  (fnok_or (ok_firstBad T) (ok_firstBadT T)).imp fun vs H Q E ⟨l, ns, e, hs, r⟩ => hs.elim (fun h => .inl ⟨l, ns, e, h, r⟩) (fun h => .inr ⟨l, ns, e, h, r⟩)
def spStray (sq1 sq2 : Hp → Addr → List V → Prop) : Sp := fun vs H Q _ => ∃ c l cs ns, vs = [.ref c, .ref l] ∧ sq1 H c (sv cs) ∧ sq2 H l (sv ns) ∧ ns.length ≤ 1000 ∧ ∀ H', Same H H' → Q (optV (stray cs ns)) H'
theorem ok_stray (T : Txt P K mg A) : FnOk P w K mg base CX0 1 A.a_first_stray A.d_first_stray ["columns", "names"] (spStray (SqA K) (SqL K)) := by
  refine T.F_first_stray.ok sc_first_stray (fun vs H Q E h => ?_) (fun cdv A' outer s H vs Q E hr h => ?_)
  · obtain ⟨c, l, cs, ns, rfl, _⟩ := h
    rfl
  · obtain ⟨c, l, cs, ns, rfl, h1, h2, hl, k⟩ := h
    refine ⟨_, (pss_cons (ps_for PassesOwn.never rfl (pi_enum (by rfl) T.n_enumerate (pa_cons (pv 1) pa_nil)) (pg_tup (by rfl) (pgs_cons (pg_name (i := 2) sc_first_stray.nd rfl (Or.inl rfl)) (pgs_cons (pg_name (i := 3) sc_first_stray.nd rfl (Or.inl rfl)) pgs_nil)))
        (pss_one (ps_if (PW.pt (pw_or (pt_cmpR op_notIn_seq (pv 3) (pv 0) (by with_unfolding_all rfl)) (pw_or1 (pt_cmpR op_in_seq (pv 3) (pe_slice sl_list (pv 1) po_none (po_some (pv 2))) (by with_unfolding_all rfl))))) (pss_one (ps_ret (pv 2))) pss_nil)))
      (pss_one (ps_ret pe_non))), ?_⟩
    refine ⟨_, rfl, l, _, rfl, h2, for_it walk_enum (fun i σ H2 => Same H H2 ∧ (∀ j, j < i → badAt cs ns j = false) ∧ ∃ u1 u2 : Option V, σ = [some (.ref c), some (.ref l), u1, u2]) ⟨Same.refl _, fun j hj => absurd hj (Nat.not_lt_zero _), none, none, rfl⟩ (fun i σ H2 _ p => p.1.seq h2) ?_ ?_⟩
    · rintro i x σ H2 H3 hi ⟨sm, hb, u1, u2, rfl⟩ ⟨t, _, _, rfl, ht, rfl, ⟨⟩, hx⟩
      obtain ⟨z, hz, rfl⟩ := sv_get hx
      have hil : i < ns.length := by rw [len_sv] at hi; exact hi
      have bad : badAt cs ns i = (!decide (z ∈ cs) || decide (z ∈ ns.take i)) := by unfold badAt; rw [hz]
      refine ⟨t, _, rfl, SqT.of upd_same, rfl, _, _, rfl, _, _, rfl, rfl, ?_⟩
      have s3 : Same H (upd H2 t (.tup [.int (i : Nat), .str z])) := sm.trans (same_new ht)
      refine ⟨_, rfl, _, rfl, c, _, rfl, s3.sqa h1, rfl, flat_sv _, _, rfl, ?_⟩
      rw [if_pos (rfl : true = true), inV_str]
      by_cases hc : z ∈ cs
      · refine ifF (by rw [decide_eq_true hc]; rfl) ?_
        refine ⟨_, rfl, _, rfl, _, rfl, _, rfl, l, _, rfl, s3.seq h2, fun p hp => ⟨p, _, rfl, .inl (SqL.of upd_same), rfl, by rw [cut_take (by omega), sv_take]; exact flat_sv _, _, rfl, ?_⟩⟩
        rw [if_neg Bool.false_ne_true, cut_take (by omega), sv_take, inV_str]
        have s4 := s3.trans (same_new (o := .lst (cutV (sv ns) none (some ((i : Nat) : Int)))) hp)
        rw [cut_take (by omega), sv_take] at s4
        by_cases hp2 : z ∈ ns.take i
        · refine ifT (decide_eq_true hp2) ⟨_, rfl, ?_⟩
          have e := stray_some (cs := cs) hil (by rw [bad, decide_eq_true hp2, Bool.or_true]) hb
          rw [e] at k
          exact k _ s4
        · refine ifF (decide_eq_false hp2) ⟨s4, fun j hj => ?_, _, _, rfl⟩
          rcases Nat.lt_succ_iff_lt_or_eq.mp hj with q | q
          · exact hb j q
          · rw [q, bad, decide_eq_true hc, decide_eq_false hp2]; rfl
      · refine ifT (by rw [decide_eq_false hc]; rfl) (ifT rfl ⟨_, rfl, ?_⟩)
        have e := stray_some (cs := cs) hil (by rw [bad, decide_eq_false hc]; rfl) hb
        rw [e] at k
        exact k _ s3
    · rintro σ H2 ⟨sm, hb, u1, u2, rfl⟩
      have e := stray_none (cs := cs) (ns := ns) fun j hj => hb j (by rw [len_sv]; exact hj)
      rw [e] at k
      exact k H2 sm
theorem ok_strayT (T : Txt P K mg A) : FnOk P w K mg base CX0 1 A.a_first_stray A.d_first_stray ["columns", "names"] (spStray (SqA K) (SqT K)) := by
  refine T.F_first_stray.ok sc_first_stray (fun vs H Q E h => ?_) (fun cdv A' outer s H vs Q E hr h => ?_)
  · obtain ⟨c, l, cs, ns, rfl, _⟩ := h
    rfl
  · obtain ⟨c, l, cs, ns, rfl, h1, h2, hl, k⟩ := h
    refine ⟨_, (pss_cons (ps_for PassesOwn.never rfl (pi_enumT (by rfl) T.n_enumerate (pa_cons (pv 1) pa_nil)) (pg_tup (by rfl) (pgs_cons (pg_name (i := 2) sc_first_stray.nd rfl (Or.inl rfl)) (pgs_cons (pg_name (i := 3) sc_first_stray.nd rfl (Or.inl rfl)) pgs_nil)))
        (pss_one (ps_if (PW.pt (pw_or (pt_cmpR op_notIn_seq (pv 3) (pv 0) (by with_unfolding_all rfl)) (pw_or1 (pt_cmpR op_in_seq (pv 3) (pe_slice sl_tupA (pv 1) po_none (po_some (pv 2))) (by with_unfolding_all rfl))))) (pss_one (ps_ret (pv 2))) pss_nil)))
      (pss_one (ps_ret pe_non))), ?_⟩
    refine ⟨_, rfl, l, _, rfl, h2, for_it walk_enumT (fun i σ H2 => Same H H2 ∧ (∀ j, j < i → badAt cs ns j = false) ∧ ∃ u1 u2 : Option V, σ = [some (.ref c), some (.ref l), u1, u2]) ⟨Same.refl _, fun j hj => absurd hj (Nat.not_lt_zero _), none, none, rfl⟩ (fun i σ H2 _ p => p.1.tup h2) ?_ ?_⟩
    · rintro i x σ H2 H3 hi ⟨sm, hb, u1, u2, rfl⟩ ⟨t, _, _, rfl, ht, rfl, ⟨⟩, hx⟩
      obtain ⟨z, hz, rfl⟩ := sv_get hx
      have hil : i < ns.length := by rw [len_sv] at hi; exact hi
      have bad : badAt cs ns i = (!decide (z ∈ cs) || decide (z ∈ ns.take i)) := by unfold badAt; rw [hz]
      refine ⟨t, _, rfl, SqT.of upd_same, rfl, _, _, rfl, _, _, rfl, rfl, ?_⟩
      have s3 : Same H (upd H2 t (.tup [.int (i : Nat), .str z])) := sm.trans (same_new ht)
      refine ⟨_, rfl, _, rfl, c, _, rfl, s3.sqa h1, rfl, flat_sv _, _, rfl, ?_⟩
      rw [if_pos (rfl : true = true), inV_str]
      by_cases hc : z ∈ cs
      · refine ifF (by rw [decide_eq_true hc]; rfl) ?_
        refine ⟨_, rfl, _, rfl, _, rfl, _, rfl, l, _, rfl, s3.tup h2, fun z => absurd z.2 (by rw [HT.sIx_nat, len_sv]; omega), fun _ p hp => ⟨p, _, rfl, .inr (SqT.of upd_same), rfl, by rw [cut_take (by omega), sv_take]; exact flat_sv _, _, rfl, ?_⟩⟩
        rw [if_neg Bool.false_ne_true, cut_take (by omega), sv_take, inV_str]
        have s4 := s3.trans (same_new (o := .tup (cutV (sv ns) none (some ((i : Nat) : Int)))) hp)
        rw [cut_take (by omega), sv_take] at s4
        by_cases hp2 : z ∈ ns.take i
        · refine ifT (decide_eq_true hp2) ⟨_, rfl, ?_⟩
          have e := stray_some (cs := cs) hil (by rw [bad, decide_eq_true hp2, Bool.or_true]) hb
          rw [e] at k
          exact k _ s4
        · refine ifF (decide_eq_false hp2) ⟨s4, fun j hj => ?_, _, _, rfl⟩
          rcases Nat.lt_succ_iff_lt_or_eq.mp hj with q | q
          · exact hb j q
          · rw [q, bad, decide_eq_true hc, decide_eq_false hp2]; rfl
      · refine ifT (by rw [decide_eq_false hc]; rfl) (ifT rfl ⟨_, rfl, ?_⟩)
        have e := stray_some (cs := cs) hil (by rw [bad, decide_eq_false hc]; rfl) hb
        rw [e] at k
        exact k _ s3
    · rintro σ H2 ⟨sm, hb, u1, u2, rfl⟩
      have e := stray_none (cs := cs) (ns := ns) fun j hj => hb j (by rw [len_sv]; exact hj)
      rw [e] at k
      exact k H2 sm
theorem ok_strayA (T : Txt P K mg A) : FnOk P w K mg base CX0 1 A.a_first_stray A.d_first_stray ["columns", "names"] (spStray (SqA K) (SqA K)) :=
  (fnok_or (ok_stray T) (ok_strayT T)).imp fun vs H Q E ⟨c, l, cs, ns, e, h1, h2, r⟩ => h2.elim (fun h => .inl ⟨c, l, cs, ns, e, h1, h, r⟩) (fun h => .inr ⟨c, l, cs, ns, e, h1, h, r⟩)
def spFault (K : PySem.W.Frag) (sq2 : Hp → Addr → List V → Prop) : Sp := fun vs H Q _ => ∃ c l cs ns, vs = [.ref c, .ref l] ∧ SqT K H c (sv cs) ∧ sq2 H l (sv ns) ∧ ns.length ≤ 1000 ∧ ∀ H', Same H H' → Q (optV (fault cs ns)) H'
theorem ok_fault (T : Txt P K mg A) : FnOk P w K mg base CX0 2 A.a_order_fault A.d_order_fault ["columns", "order"] (spFault K (SqL K)) := by
  have G_first_stray := ok_stray (P := P) (w := w) (base := base) T
  refine T.F_order_fault.ok sc_order_fault (fun vs H Q E h => ?_) (fun cdv A' outer s H vs Q E hr h => ?_)
  · obtain ⟨c, l, cs, ns, rfl, _⟩ := h
    rfl
  · obtain ⟨c, l, cs, ns, rfl, h1, h2, hl, k⟩ := h
    refine ⟨_, (pss_cons (ps_set (i := 2) sc_order_fault.nd rfl (Or.inl rfl) (pe_call G_first_stray (hr.mono (by decide)) rfl T.mg_first_stray T.F_first_stray.kp T.b_first_stray .nil pass0 (pa_cons (pv 0) (pa_cons (pv 1) pa_nil))))
      (pss_cons (ps_if (PW.pt (pw_and (pt_cmpR op_isN (pv 2) pe_non (nomark _)) (pw_and1 (pt_cmpR op_lt (pe_callB call_len_seq (by rfl) T.n_len (by decide +kernel) (pa_cons (pv 1) pa_nil)) (pe_callB call_len_seq (by rfl) T.n_len (by decide +kernel) (pa_cons (pv 0) pa_nil)) (nomark _))))) (pss_one (ps_ret (pe_callB call_len_seq (by rfl) T.n_len (by decide +kernel) (pa_cons (pv 1) pa_nil)))) pss_nil)
      (pss_one (ps_ret (pv 2))))), ?_⟩
    refine ⟨_, rfl, _, rfl, c, l, cs, ns, rfl, .inr h1, h2, hl, fun H2 sm => ?_⟩
    refine ⟨_, rfl, rfl, _, rfl, ?_⟩
    unfold fault at k
    cases hs : stray cs ns with
    | some i =>
      rw [hs] at k
      refine itN (fun z => nomatch z) (iteF ⟨_, rfl, ?_⟩)
      exact k _ sm
    | none =>
      rw [hs] at k
      refine itY rfl ⟨_, rfl, l, _, rfl, .inl (sm.seq h2), _, rfl, c, _, rfl, .inr (sm.tup h1), _, _, rfl, rfl, _, rfl, ?_⟩
      by_cases hlt : ns.length < cs.length
      · refine itY (by rw [len_sv, len_sv]; omega) ⟨_, rfl, l, _, rfl, .inl (sm.seq h2), ?_⟩
        have k : ∀ H', Same H H' → Q (optV (if ns.length < cs.length then some ns.length else none)) H' := k
        rw [if_pos hlt] at k
        rw [len_sv]
        exact k _ sm
      · refine itN (by rw [len_sv, len_sv]; omega) ⟨_, rfl, ?_⟩
        have k : ∀ H', Same H H' → Q (optV (if ns.length < cs.length then some ns.length else none)) H' := k
        rw [if_neg hlt] at k
        exact k _ sm
theorem ok_faultT (T : Txt P K mg A) : FnOk P w K mg base CX0 2 A.a_order_fault A.d_order_fault ["columns", "order"] (spFault K (SqT K)) := by
  have G_first_strayT := ok_strayT (P := P) (w := w) (base := base) T
  refine T.F_order_fault.ok sc_order_fault (fun vs H Q E h => ?_) (fun cdv A' outer s H vs Q E hr h => ?_)
  · obtain ⟨c, l, cs, ns, rfl, _⟩ := h
    rfl
  · obtain ⟨c, l, cs, ns, rfl, h1, h2, hl, k⟩ := h
    refine ⟨_, (pss_cons (ps_set (i := 2) sc_order_fault.nd rfl (Or.inl rfl) (pe_call G_first_strayT (hr.mono (by decide)) rfl T.mg_first_stray T.F_first_stray.kp T.b_first_stray .nil pass0 (pa_cons (pv 0) (pa_cons (pv 1) pa_nil))))
      (pss_cons (ps_if (PW.pt (pw_and (pt_cmpR op_isN (pv 2) pe_non (nomark _)) (pw_and1 (pt_cmpR op_lt (pe_callB call_len_seq (by rfl) T.n_len (by decide +kernel) (pa_cons (pv 1) pa_nil)) (pe_callB call_len_seq (by rfl) T.n_len (by decide +kernel) (pa_cons (pv 0) pa_nil)) (nomark _))))) (pss_one (ps_ret (pe_callB call_len_seq (by rfl) T.n_len (by decide +kernel) (pa_cons (pv 1) pa_nil)))) pss_nil)
      (pss_one (ps_ret (pv 2))))), ?_⟩
    refine ⟨_, rfl, _, rfl, c, l, cs, ns, rfl, .inr h1, h2, hl, fun H2 sm => ?_⟩
    refine ⟨_, rfl, rfl, _, rfl, ?_⟩
    unfold fault at k
    cases hs : stray cs ns with
    | some i =>
      rw [hs] at k
      refine itN (fun z => nomatch z) (iteF ⟨_, rfl, ?_⟩)
      exact k _ sm
    | none =>
      rw [hs] at k
      refine itY rfl ⟨_, rfl, l, _, rfl, .inr (sm.tup h2), _, rfl, c, _, rfl, .inr (sm.tup h1), _, _, rfl, rfl, _, rfl, ?_⟩
      by_cases hlt : ns.length < cs.length
      · refine itY (by rw [len_sv, len_sv]; omega) ⟨_, rfl, l, _, rfl, .inr (sm.tup h2), ?_⟩
        have k : ∀ H', Same H H' → Q (optV (if ns.length < cs.length then some ns.length else none)) H' := k
        rw [if_pos hlt] at k
        rw [len_sv]
        exact k _ sm
      · refine itN (by rw [len_sv, len_sv]; omega) ⟨_, rfl, ?_⟩
        have k : ∀ H', Same H H' → Q (optV (if ns.length < cs.length then some ns.length else none)) H' := k
        rw [if_neg hlt] at k
        exact k _ sm
end
end My
set_option maxRecDepth 100000
set_option maxHeartbeats 4000000
set_option exponentiation.threshold 10000
namespace My
open PySem L2
/-- at ts stand the lists or tuples of texts rs -/
structure LsA (K : PySem.W.Frag) (H : Hp) (ts : List Addr) (rs : List (List Str)) : Prop where
  len : ts.length = rs.length
  at_ : ∀ (i : Nat) (t : Addr) (r : List Str), ts[i]? = some t → rs[i]? = some r → SqA K H t (sv r)
theorem LsA.same {K : PySem.W.Frag} {H H' : Hp} {ts : List Addr} {rs : List (List Str)} (h : LsA K H ts rs) (e : Same H H') : LsA K H' ts rs := ⟨h.len, fun i t x a b => e.sqa (h.at_ i t x a b)⟩
theorem LsA.get {K : PySem.W.Frag} {H : Hp} {ts : List Addr} {rs : List (List Str)} (h : LsA K H ts rs) {i : Nat} {t : Addr} (hi : ts[i]? = some t) : ∃ r, rs[i]? = some r ∧ SqA K H t (sv r) := by
  have hx : i < rs.length := by rw [← h.len]; exact (List.getElem?_eq_some_iff.mp hi).1
  exact ⟨rs[i], List.getElem?_eq_getElem hx, h.at_ i _ _ hi (List.getElem?_eq_getElem hx)⟩
theorem Lss.lsa {K : PySem.W.Frag} {H : Hp} {ts : List Addr} {rs : List (List Str)} (h : Lss .lst H ts rs) : LsA K H ts rs := ⟨h.len, fun i t r a b => .inl (SqL.of (h.at_ i t r a b))⟩
theorem Lss.lsaT {K : PySem.W.Frag} {H : Hp} {ts : List Addr} {rs : List (List Str)} (h : Lss .tup H ts rs) : LsA K H ts rs := ⟨h.len, fun i t r a b => .inr (SqT.of (h.at_ i t r a b))⟩
theorem sqa_upd {K : PySem.W.Frag} {H : Hp} {a b C dx : Addr} {xs : List V} {f g : List (Str × V)} (h : SqA K H a xs) (hb : H b = some (.ins C dx f)) : SqA K (upd H b (.ins C dx g)) a xs := by
  rcases h with h | h
  · exact .inl (seq_upd h hb (fun ys z => nomatch z) (fun c d z => nomatch z))
  · refine .inr ?_
    rcases h with (r | ⟨c, r⟩) | z
    · exact .inl (.inl (by rw [upd_ne (ne_of r hb (fun z => nomatch z))]; exact r))
    · exact .inl (.inr ⟨c, by rw [upd_ne (ne_of r hb (fun z => nomatch z))]; exact r⟩)
    · exact .inr z
/-- a table whose two tuples have no dict -/
def TbD (C : Addr) (H : Hp) (p : Addr) (cs : List Str) (rs : List (List Str)) : Prop :=
  ∃ dx ct rt ts, H p = some (.ins C dx (fldsT ct rt)) ∧ DT H ct (sv cs) ∧ DT H rt (ts.map V.ref) ∧ Lss .tup H ts (rs.map (canon cs))
theorem TbD.same {C : Addr} {H H' : Hp} {p : Addr} {cs : List Str} {rs : List (List Str)} (h : TbD C H p cs rs) (e : Same H H') : TbD C H' p cs rs :=
  let ⟨dx, ct, rt, ts, h1, h2, h3, h4⟩ := h; ⟨dx, ct, rt, ts, e _ _ h1, h2.same e, h3.same e, h4.same e⟩
section
variable {P : Program} {w : World} {K : PySem.W.Frag} {mg : Str → Option Value} {base : Heap} {A : Ad}
theorem Txt.bi (T : Txt P K mg A) : Binds K A.d_Table_init ["self", "columns", "rows"] [] := by
  obtain ⟨ds, hv, hb⟩ := T.F_Table_init.binds1 (ps := ["self", "columns", "rows"]) 3 1 (by simp) rfl (fun T kV dc pm an cd ct us its hl hi => by
    match us, hl, its, hi with
    | [_, _, _], _, [_], _ => exact ⟨_, rfl, rfl⟩)
  cases hv
  exact hb
def spCols (K : PySem.W.Frag) : Sp := fun vs H Q _ => ∃ l cs, vs = [.ref l] ∧ SqA K H l (sv cs) ∧ (∀ z ∈ cs, Good z) ∧ cs.Nodup ∧ cs.length ≤ 12 ∧ ∀ H', Same H H' → Q .non H'
theorem ok_cols (T : Txt P K mg A) : FnOk P w K mg base CX0 3 A.a_check_columns A.d_check_columns ["columns"] (spCols K) := by
  have G_first_bad_name := ok_firstBadO (P := P) (w := w) (base := base) T
  refine T.F_check_columns.ok sc_check_columns (fun vs H Q E h => ?_) (fun cdv A' outer s H vs Q E hr h => ?_)
  · obtain ⟨l, cs, rfl, _⟩ := h
    rfl
  · obtain ⟨l, cs, rfl, h1, g, nd, hl, k⟩ := h
    refine ⟨_, (pss_cons (ps_if (pt_cmpR op_gt (pe_callB call_len_seq (by rfl) T.n_len (by decide +kernel) (pa_cons (pv 0) pa_nil)) (ClX.pe_cval (pe_glob (v := .ref A.C_Table) rfl T.mg_Table rfl)) (nomark _)) (pss_one ps_never) pss_nil)
      (pss_cons (ps_set (i := 1) sc_check_columns.nd rfl (Or.inl rfl) (pe_call G_first_bad_name (hr.mono (by decide)) rfl T.mg_first_bad_name T.F_first_bad_name.kp T.b_first_bad_name .nil pass0 (pa_cons (pv 0) pa_nil)))
      (pss_one (ps_if (pt_cmpR op_notN (pv 1) pe_non (nomark _)) (pss_one ps_never) pss_nil)))), ?_⟩
    obtain ⟨u, hu⟩ := T.cv_Table_MOST_COLUMNS
    refine ⟨_, rfl, l, _, rfl, h1, _, _, _, _, rfl, T.cr_Table, hu, _, _, rfl, rfl, _, rfl, itN (by rw [len_sv]; omega) ?_⟩
    exact ⟨_, rfl, l, cs, rfl, h1, (fun z hz => Nat.le_trans (g z hz).le (by decide)), fun H2 sm => by
      rw [firstBad_none_iff.mpr ⟨g, nd⟩]
      exact ⟨_, rfl, rfl, _, rfl, itNe rfl (k _ sm)⟩⟩
def spChRows (K : PySem.W.Frag) : Sp := fun vs H Q _ => ∃ l r cs ts rs, vs = [.ref l, .ref r] ∧ SqA K H l (sv cs) ∧ SqL K H r (ts.map V.ref) ∧ LsA K H ts rs ∧ rs.length ≤ 48 ∧ (∀ x ∈ rs, stray cs x = none ∧ x.length ≤ 1000) ∧ ∀ H', Same H H' → Q .non H'
theorem ok_chRows (T : Txt P K mg A) : FnOk P w K mg base CX0 2 A.a_check_rows A.d_check_rows ["columns", "rows"] (spChRows K) := by
  have G_first_stray := ok_strayA (P := P) (w := w) (base := base) T
  refine T.F_check_rows.ok sc_check_rows (fun vs H Q E h => ?_) (fun cdv A' outer s H vs Q E hr h => ?_)
  · obtain ⟨l, r, cs, ts, rs, rfl, _⟩ := h
    rfl
  · obtain ⟨l, r, cs, ts, rs, rfl, h1, h2, hs, hl, hg, k⟩ := h
    refine ⟨_, (pss_cons (ps_if (pt_cmpR op_gt (pe_callB call_len_seq (by rfl) T.n_len (by decide +kernel) (pa_cons (pv 1) pa_nil)) (ClX.pe_cval (pe_glob (v := .ref A.C_Table) rfl T.mg_Table rfl)) (nomark _)) (pss_one ps_never) pss_nil)
      (pss_one (ps_for PassesOwn.never rfl (pi_enum (by rfl) T.n_enumerate (pa_cons (pv 1) pa_nil)) (pg_tup (by rfl) (pgs_cons (pg_name (i := 2) sc_check_rows.nd rfl (Or.inl rfl)) (pgs_cons (pg_name (i := 3) sc_check_rows.nd rfl (Or.inl rfl)) pgs_nil)))
        (pss_one (ps_if (pt_cmpR op_notN (pe_call G_first_stray (hr.mono (by decide)) rfl T.mg_first_stray T.F_first_stray.kp T.b_first_stray .nil pass0 (pa_cons (pv 0) (pa_cons (pv 3) pa_nil))) pe_non (nomark _)) (pss_one ps_never) pss_nil))))), ?_⟩
    obtain ⟨u, hu⟩ := T.cv_Table_MOST_ROWS
    refine ⟨_, rfl, r, _, rfl, .inl h2, _, _, _, _, rfl, T.cr_Table, hu, _, _, rfl, rfl, _, rfl, itN (by rw [List.length_map, hs.len]; omega) ?_⟩
    refine ⟨_, rfl, r, _, rfl, h2, for_it walk_enum (fun i σ H2 => Same H H2 ∧ ∃ u1 u2 : Option V, σ = [some (.ref l), some (.ref r), u1, u2]) ⟨Same.refl _, none, none, rfl⟩ (fun i σ H2 _ p => p.1.seq h2) ?_ ?_⟩
    · rintro i x σ H2 H3 hi ⟨sm, u1, u2, rfl⟩ ⟨t, _, _, rfl, ht, rfl, ⟨⟩, hx⟩
      obtain ⟨b, hb, rfl⟩ := refs_get hx
      obtain ⟨y, hy, ho⟩ := hs.get hb
      have g := hg y (List.mem_of_getElem? hy)
      have s3 : Same H (upd H2 t (.tup [.int (i : Nat), .ref b])) := sm.trans (same_new ht)
      refine ⟨t, _, rfl, SqT.of upd_same, rfl, _, _, rfl, _, _, rfl, rfl, ?_⟩
      refine ⟨_, rfl, _, rfl, l, b, cs, y, rfl, s3.sqa h1, s3.sqa ho, g.2, fun H4 sm4 => ?_⟩
      rw [g.1]
      exact ⟨rfl, _, rfl, itNe rfl ⟨s3.trans sm4, _, _, rfl⟩⟩
    · rintro σ H2 ⟨sm, u1, u2, rfl⟩
      exact k H2 sm
def spInOrder (C : Addr) (K : PySem.W.Frag) : Sp := fun vs H Q _ => ∃ p l dx ct cs r fs, vs = [.ref p, .ref l] ∧ H p = some (.ins C dx fs) ∧ fs.lookup ("columns" : Str) = some (.ref ct) ∧ DT H ct (sv cs) ∧ SqA K H l (sv r) ∧ cs.length ≤ 1000 ∧
  ∀ t H', Same H H' → H' t = some (.tup (sv (canon cs r))) → Q (.ref t) H'
theorem ok_inOrder (T : Txt P K mg A) : FnOk P w K mg base CX0 1 A.a_Table_in_order A.d_Table_in_order ["self", "names"] (spInOrder A.C_Table K) := by
  refine T.F_Table_in_order.ok sc_Table_in_order (fun vs H Q E h => ?_) (fun cdv A' outer s H vs Q E hr h => ?_)
  · obtain ⟨p, l, dx, ct, cs, r, fs, rfl, _⟩ := h
    rfl
  · obtain ⟨p, l, dx, ct, cs, r, fs, rfl, h1, hct, hc, h2, hl, k⟩ := h
    refine ⟨_, (pss_one (ps_ret (pe_callTy (show CallR _ _ (rTupOf K) from call_tuple_of) (by rfl) T.n_tuple (by decide +kernel) (pa_cons (pe_lc (own := [("name", 2)]) (g := gName 2) (tt := _) rfl sc_Table_in_order.nd (pi_tup (pe_fld (pv 0) rfl)) (blkOk_by (N := ["self", "names", "name"]) (sc := defScope s_Table_in_order) (by decide +kernel)) (fun _ _ _ _ _ => (pg_name (i := 2) sc_Table_in_order.nd rfl (Or.inl rfl))) (fun _ _ _ _ _ => (pts_one (pt_cmpR (show OpR _ _ (rIn K false) from op_in_seq) (pv 2) (pv 1) (by with_unfolding_all rfl)))) (fun _ _ _ _ _ => (pv 2))) pa_nil)))), ?_⟩
    have stepT : ∀ i z, cs[i]? = some z → z ∈ r → sv (canon (cs.take (i + 1)) r) = sv (canon (cs.take i) r) ++ [V.str z] := fun i z hz hm => by
      rw [take_succ hz, canon_T hm]; exact List.map_append
    have stepF : ∀ i z, cs[i]? = some z → z ∉ r → sv (canon (cs.take (i + 1)) r) = sv (canon (cs.take i) r) := fun i z hz hm => by
      rw [take_succ hz, canon_F hm]
    refine ⟨_, rfl, p, _, dx, fs, _, rfl, h1, T.cl_Table, T.n_Table_columns, hct, ct, rfl, ⟨_, hc.sq⟩, fun D hD => lc_it walk_tup (PvS H D fun i => sv (canon (cs.take i) r)) (pv0 hD rfl) (fun i H2 _ q => q.1.tup (hc.sq)) ?_ ?_⟩
    · rintro i x H3 H4 hi q ⟨rfl, hx⟩
      obtain ⟨z, hz, rfl⟩ := sv_get hx
      refine ⟨rfl, _, rfl, _, rfl, l, _, rfl, q.1.sqa h2, rfl, flat_sv _, _, rfl, ?_⟩
      rw [if_neg Bool.false_ne_true, inV_str]
      have hlen : (sv (canon (cs.take i) r)).length ≤ 1000000 := by
        have := List.length_filter_le (fun x => decide (x ∈ r)) (cs.take i)
        rw [List.length_take] at this
        rw [len_sv]; unfold canon; omega
      by_cases hm : z ∈ r
      · exact ifT (decide_eq_true hm) ⟨_, rfl, q.push hD (stepT i z hz hm) hlen⟩
      · exact ifF (decide_eq_false hm) (q.skip (stepF i z hz hm))
    · rintro H3 ⟨sm, h3⟩
      have h3 : H3 D = some (.lst (sv (canon (cs.take (sv cs).length) r))) := h3
      rw [len_sv, List.take_length] at h3
      exact ⟨D, _, rfl, .inl ⟨SqL.of h3, fun t ht => k t _ (sm.trans (same_new ht)) upd_same⟩⟩
def spTable (C : Addr) (K : PySem.W.Frag) : Sp := fun vs H Q _ => ∃ p l r dx cs ts rs, vs = [.ref p, .ref l, .ref r] ∧ H p = some (.ins C dx []) ∧ SqL K H l (sv cs) ∧ SqL K H r (ts.map V.ref) ∧ LsA K H ts rs ∧
  (∀ z ∈ cs, Good z) ∧ cs.Nodup ∧ cs.length ≤ 12 ∧ rs.length ≤ 48 ∧ (∀ x ∈ rs, stray cs x = none ∧ x.length ≤ 1000) ∧ ∀ H', (∀ b o, b ≠ p → H b = some o → H' b = some o) → TbD C H' p cs rs → Q .non H'
theorem ok_table (T : Txt P K mg A) : FnOk P w K mg base CX0 4 A.a_Table_init A.d_Table_init ["self", "columns", "rows"] (spTable A.C_Table K) := by
  have G_check_columns := ok_cols (P := P) (w := w) (base := base) T
  have G_check_rows := ok_chRows (P := P) (w := w) (base := base) T
  have G_Table_in_order := ok_inOrder (P := P) (w := w) (base := base) T
  refine T.F_Table_init.ok sc_Table_init (fun vs H Q E h => ?_) (fun cdv A' outer s H vs Q E hr h => ?_)
  · obtain ⟨p, l, r, dx, cs, ts, rs, rfl, _⟩ := h
    rfl
  · obtain ⟨p, l, r, dx, cs, ts, rs, rfl, hp, h1, h2, hs, g, nd, hc, hrs, hst, k⟩ := h
    refine ⟨_, (pss_cons (ps_expr (pe_call G_check_columns (hr.mono (by decide)) rfl T.mg_check_columns T.F_check_columns.kp T.b_check_columns .nil pass0 (pa_cons (pv 1) pa_nil)))
      (pss_cons (ps_expr (pe_call G_check_rows (hr.mono (by decide)) rfl T.mg_check_rows T.F_check_rows.kp T.b_check_rows .nil pass0 (pa_cons (pv 1) (pa_cons (pv 2) pa_nil))))
      (pss_cons (ps_fld (pv 0) (pe_callTy (show CallR _ _ (rTupD K) from call_tuple_ofD) (by rfl) T.n_tuple (by decide +kernel) (pa_cons (pv 1) pa_nil)) rfl)
      (pss_one (ps_fld (pv 0) (pe_callTy (show CallR _ _ (rTupD K) from call_tuple_ofD) (by rfl) T.n_tuple (by decide +kernel) (pa_cons (pe_lc (own := [("row", 3)]) (g := gName 3) (tt := tYes) rfl sc_Table_init.nd (pi_list (pv 2)) (blkOk_by (N := ["self", "columns", "rows", "row"]) (sc := defScope s_Table_init) (by decide +kernel)) (fun _ _ _ _ _ => (pg_name (i := 3) sc_Table_init.nd rfl (Or.inl rfl))) (fun _ _ _ _ _ => pts_nil) (fun _ _ _ _ _ => (pe_meth (pv 0) T.cl_Table T.m_Table_in_order G_Table_in_order (hr.mono (by decide)) T.b_Table_in_order .nil pass0 (pa_cons (pv 3) pa_nil)))) pa_nil)) rfl))))), ?_⟩
    refine ⟨_, rfl, l, cs, rfl, .inl h1, g, nd, hc, fun H1 s1 => ?_⟩
    refine ⟨_, rfl, _, rfl, l, r, cs, ts, rs, rfl, .inl (s1.seq h1), s1.seq h2, hs.same s1, hrs, hst, fun H2 s2 => ?_⟩
    have s2 := s1.trans s2
    have hpS := s2 _ _ hp
    refine ⟨_, rfl, l, sv cs, rfl, .inl ⟨s2.seq h1, fun ct o1 hct o1d => ?_⟩⟩
    have npc : ct ≠ p := fun z => by rw [z] at hct; rw [hpS] at hct; cases hct
    generalize hG : upd H2 ct _ = H3
    have q3 : Same H2 H3 := hG ▸ same_new hct
    have x3 := (congrFun hG ct).symm.trans upd_same
    clear hG
    have hc3 : DT H3 ct (sv cs) := ⟨o1, o1d, x3⟩
    have hp3 := q3 _ _ hpS
    have s3 := s2.trans q3
    refine ⟨_, rfl, p, _, dx, [], rfl, hp3, T.cl_Table, T.n_Table_columns, (by show 0 < 1000; decide), ?_⟩
    generalize hX : upd H3 p _ = H4
    have hp4 : H4 p = some (.ins A.C_Table dx (putF "columns" (.ref ct) [])) := by rw [← hX]; exact upd_same
    have hc4 : DT H4 ct (sv cs) := by rw [← hX]; exact hc3.upd hp3 (fun _ _ z => nomatch z)
    have sm4 : ∀ b o, b ≠ p → H b = some o → H4 b = some o := fun b o hb e => by
      rw [← hX, upd_ne hb]; exact s3 _ _ e
    have h24 : SqL K H4 r (ts.map V.ref) := by
      rw [← hX]; exact seq_upd (s3.seq h2) hp3 (fun xs z => nomatch z) (fun o u z => nomatch z)
    have hs4 : LsA K H4 ts rs := ⟨hs.len, fun i t x a b => by rw [← hX]; exact sqa_upd (s3.sqa (hs.at_ i t x a b)) hp3⟩
    clear hX q3 x3 hct
    have hlk : (putF "columns" (.ref ct) ([] : List (Str × V))).lookup ("columns" : Str) = some (.ref ct) := by rw [lookup_putF, if_pos rfl]
    have hlm : (putF "columns" (.ref ct) ([] : List (Str × V))).lookup ("_in_order" : Str) = none := by rw [lookup_putF, if_neg (by decide +kernel)]; rfl
    refine ⟨_, rfl, r, rfl, ⟨_, h24⟩, fun D hD => lc_it walk_list (fun i H5 => Same H4 H5 ∧ ∃ us : List Addr, H5 D = some (.lst (us.map V.ref)) ∧ Lss .tup H5 us ((rs.take i).map (canon cs))) ⟨same_new hD, [], upd_same, Lss.nil⟩ (fun i H5 _ q => q.1.seq h24) ?_ ?_⟩
    · rintro i x H5 H6 hi ⟨s5, us, hd5, hl5⟩ ⟨rfl, hx⟩
      obtain ⟨b, hb, rfl⟩ := refs_get hx
      obtain ⟨y, hy, ho⟩ := (hs4.same s5).get hb
      refine ⟨rfl, _, rfl, p, dx, _, rfl, s5 _ _ hp4, hlm, _, rfl, p, b, dx, ct, cs, y, _, rfl, s5 _ _ hp4, hlk, hc4.same s5, ho, by omega, fun t H6 s6 ht => ?_⟩
      have hd6 := s6 _ _ hd5
      refine ⟨_, hd6, small_int (by rw [List.length_map, hl5.len, List.length_map, List.length_take]; omega), ?_, us ++ [t], ?_, ?_⟩
      · intro c o e
        rw [upd_ne (ne_of_none e hD)]
        exact s6 _ _ (s5 _ _ e)
      · rw [List.map_append]; exact upd_same
      · rw [take_succ hy, List.map_append]
        exact ((hl5.same s6).app ht).updT hd6 (fun xs z => nomatch z)
    · rintro H5 ⟨s5, us, hd5, hl5⟩
      rw [List.length_map, hs.len, List.take_length] at hl5
      refine ⟨D, _, rfl, .inl ⟨SqL.of hd5, fun rt o2 hrt o2d => ?_⟩⟩
      have hp5 := s5 _ _ hp4
      have nrp : rt ≠ p := fun z => by rw [z] at hrt; rw [hp5] at hrt; cases hrt
      generalize hG : upd H5 rt _ = H6
      have q6 : Same H5 H6 := hG ▸ same_new hrt
      have x6 := (congrFun hG rt).symm.trans upd_same
      clear hG
      have hp6 := q6 _ _ hp5
      refine ⟨_, rfl, p, _, dx, _, rfl, hp6, T.cl_Table, T.n_Table_rows, (by show 1 < 1000; decide), ?_⟩
      have hr6 : DT H6 rt (us.map V.ref) := ⟨o2, o2d, x6⟩
      refine k _ (fun b o hb e => ?_) ⟨dx, ct, rt, us, upd_same, ?_, ?_, ?_⟩
      · rw [upd_ne hb]
        exact q6 _ _ (s5 _ _ (sm4 b o hb e))
      · exact ((hc4.same s5).same q6).upd hp6 (fun _ _ z => nomatch z)
      · exact hr6.upd hp6 (fun _ _ z => nomatch z)
      · exact (hl5.same q6).updT hp6 (fun xs z => nomatch z)
end
end My
set_option maxRecDepth 100000
set_option maxHeartbeats 4000000
set_option exponentiation.threshold 10000
namespace My
open PySem L2
/-- the columns outside a row -/
def outs (cs r : List Str) : List Str := cs.filter fun x => decide (x ∉ r)
theorem outs_T {l r : List Str} {z : Str} (hm : z ∉ r) : outs (l ++ [z]) r = outs l r ++ [z] := by
  unfold outs; rw [List.filter_append]; simp [hm]
theorem outs_F {l r : List Str} {z : Str} (hm : z ∈ r) : outs (l ++ [z]) r = outs l r := by
  unfold outs; rw [List.filter_append]; simp [hm]
def turnRow (cs : List Str) (z : Str) (r : List Str) : List Str := if z ∈ canon cs r then outs cs (canon cs r) else canon cs r
theorem fldsT_in_order (ct rt : Addr) : (fldsT ct rt).lookup ("_in_order" : Str) = none := by
  unfold fldsT; rw [lookup_putF, if_neg (by decide +kernel), lookup_putF, if_neg (by decide +kernel)]; rfl
theorem fldsT_inside (ct rt : Addr) : (fldsT ct rt).lookup ("_inside_out" : Str) = none := by
  unfold fldsT; rw [lookup_putF, if_neg (by decide +kernel), lookup_putF, if_neg (by decide +kernel)]; rfl
structure ColsOk (cs : List Str) : Prop where
  g : ∀ z ∈ cs, Good z
  nd : cs.Nodup
  n : cs.length ≤ 12
theorem ColsOk.sub {cs ds : List Str} (h : ColsOk cs) (s : ds.Sublist cs) : ColsOk ds := ⟨fun z hz => h.g z (s.subset hz), s.nodup h.nd, Nat.le_trans s.length_le h.n⟩
theorem canon_sub (cs r : List Str) : (canon cs r).Sublist cs := List.filter_sublist
theorem outs_sub (cs r : List Str) : (outs cs r).Sublist cs := List.filter_sublist
theorem turn_sub (cs : List Str) (z : Str) (r : List Str) : (turnRow cs z r).Sublist cs := by
  unfold turnRow; split
  · exact outs_sub _ _
  · exact canon_sub _ _
theorem sub_row {cs r : List Str} (h : ColsOk cs) (s : r.Sublist cs) : stray cs r = none ∧ r.length ≤ 1000 := ⟨stray_none_iff.mpr ⟨fun x hx => s.subset hx, s.nodup h.nd⟩, by have := s.length_le; have := h.n; omega⟩
theorem mem_canon {cs r : List Str} {x : Str} : x ∈ canon cs r ↔ x ∈ cs ∧ x ∈ r := by unfold canon; rw [List.mem_filter, decide_eq_true_iff]
theorem mem_outs {cs r : List Str} {x : Str} : x ∈ outs cs r ↔ x ∈ cs ∧ x ∉ r := by unfold outs; rw [List.mem_filter, decide_eq_true_iff]
theorem canon_row {cs r ns : List Str} (h : ColsOk cs) (hn : ∀ x ∈ ns, x ∈ cs) : stray (canon cs ns) (canon (canon cs r) ns) = none ∧ (canon (canon cs r) ns).length ≤ 1000 :=
  ⟨stray_none_iff.mpr ⟨fun x hx => mem_canon.mpr ⟨(mem_canon.mp (mem_canon.mp hx).1).1, (mem_canon.mp hx).2⟩, ((canon_sub _ _).trans (canon_sub _ _)).nodup h.nd⟩, by have := ((canon_sub (canon cs r) ns).trans (canon_sub _ _)).length_le; have := h.n; omega⟩
theorem mk_tableD {C : Addr} {K : PySem.W.Frag} {H : Hp} {l r x dx : Addr} {cs : List Str} {ts : List Addr} {rs : List (List Str)} {Q2 : VK} (hL : SqL K H l (sv cs)) (hR : SqL K H r (ts.map V.ref)) (hs : LsA K H ts rs) (ok : ColsOk cs) (hr : rs.length ≤ 48)
    (st : ∀ x ∈ rs, stray cs x = none ∧ x.length ≤ 1000) (hx : H x = none) (hdx : H dx = none) (hne : dx ≠ x) (k : ∀ H', Same H H' → TbD C H' x cs rs → Q2 .non H') :
    spTable C K (.ref x :: ([.ref l, .ref r] ++ [])) (upd (upd H dx (.own x)) x (.ins C dx [])) Q2 E0 := by
  have s1 := same_new (o := .own x) hdx
  have hx1 : upd H dx (.own x) x = none := by rw [upd_ne hne.symm]; exact hx
  have s2 : Same H (upd (upd H dx (.own x)) x (.ins C dx [])) := s1.trans (same_new hx1)
  exact ⟨x, l, r, dx, cs, ts, rs, rfl, upd_same, s2.seq hL, s2.seq hR, hs.same s2, ok.g, ok.nd, ok.n, hr, st, fun H' hk hT => k H' (fun b o e => hk b o (ne_of_none e hx) (s2 _ _ e)) hT⟩
section
variable {P : Program} {w : World} {K : PySem.W.Frag} {mg : Str → Option Value} {base : Heap} {A : Ad}
/-- check_order, both ways -/
def spCheckZ (sq2 : Hp → Addr → List V → Prop) (C B : Addr) : Sp := fun vs H Q E => ∃ p l cs rs ns, vs = [.ref p, .ref l] ∧ TbD C H p cs rs ∧ sq2 H l (sv ns) ∧ ns.length ≤ 1000 ∧
  (∀ i, fault cs ns = some i → ∀ d H', Same H H' → H' d = some (.xd [("index", .int (i : Nat))]) → E (.ref B) (some d) H') ∧ (fault cs ns = none → ∀ H', Same H H' → Q .non H')
theorem ok_checkZ (T : Txt P K mg A) : FnOk P w K mg base (L2.CX P w) 3 A.a_check_order A.d_check_order ["table", "order"] (spCheckZ (SqL K) A.C_Table A.C_BadOrder) := by
  have G_order_fault := ok_fault (P := P) (w := w) (base := base) T
  have G_BadOrder_init := ok_BadOrder (P := P) (w := w) (base := base) T
  refine funX T.F_check_order sc_check_order (fun vs H Q E h => ?_) (fun cdv A' outer s H vs Q E hr h => ?_)
  · obtain ⟨p, l, cs, rs, ns, rfl, _⟩ := h
    rfl
  · obtain ⟨p, l, cs, rs, ns, rfl, ht, h2, hl, k, kn⟩ := h
    obtain ⟨dx, ct, rt, ts, h1, hc, _, _⟩ := ht
    refine ⟨_, (pss_cons (ps_set (i := 2) sc_check_order.nd rfl (Or.inl rfl) (pe_call G_order_fault (hr.mono (by decide)) rfl T.mg_order_fault T.F_order_fault.kp T.b_order_fault .nil pass0 (pa_cons (pe_fld (pv 0) rfl) (pa_cons (pv 1) pa_nil))))
      (pss_one (ps_if (pt_cmpR op_notN (pv 2) pe_non (nomark _)) (pss_one (ps_raise rfl (takes_of rfl rfl rfl rfl) (pmk_oex T.SC_BadOrder.ox T.ii_BadOrder T.ti_BadOrder G_BadOrder_init (hr.mono (by decide)) T.b_BadOrder_init .nil pass0 rfl T.mg_BadOrder (pa_cons (pv 2) pa_nil)))) pss_nil))), ?_⟩
    refine ⟨_, rfl, _, _, _, _, _, rfl, h1, T.cl_Table, T.n_Table_columns, fldsT_columns _ _, _, rfl, ct, l, cs, ns, rfl, hc.sq, h2, hl, fun H2 sm => ?_⟩
    cases hf : fault cs ns with
    | none => exact ⟨_, rfl, rfl, _, rfl, itNe rfl (kn hf H2 sm)⟩
    | some i =>
      have hi := fault_lt hf
      refine ⟨_, rfl, rfl, _, rfl, itNeN (fun z => nomatch z) ⟨_, rfl, (by decide : 1 ≤ 1000), fun a ha => ⟨a, _, rfl, ⟨_, rfl, by rw [Int.natAbs_natCast]; omega⟩, upd_same, fun d hd hne => ⟨rfl, d, _, upd_same, by rw [upd_ne hne, upd_same], by rw [upd_ne hne] at hd; exact hd, ?_⟩⟩⟩⟩
      rw [upd_ne hne] at hd
      exact k i hf d _ (sm.trans (exc_same ha hd)) upd_same
theorem ok_checkZT (T : Txt P K mg A) : FnOk P w K mg base (L2.CX P w) 3 A.a_check_order A.d_check_order ["table", "order"] (spCheckZ (SqT K) A.C_Table A.C_BadOrder) := by
  have G_order_faultT := ok_faultT (P := P) (w := w) (base := base) T
  have G_BadOrder_init := ok_BadOrder (P := P) (w := w) (base := base) T
  refine funX T.F_check_order sc_check_order (fun vs H Q E h => ?_) (fun cdv A' outer s H vs Q E hr h => ?_)
  · obtain ⟨p, l, cs, rs, ns, rfl, _⟩ := h
    rfl
  · obtain ⟨p, l, cs, rs, ns, rfl, ht, h2, hl, k, kn⟩ := h
    obtain ⟨dx, ct, rt, ts, h1, hc, _, _⟩ := ht
    refine ⟨_, (pss_cons (ps_set (i := 2) sc_check_order.nd rfl (Or.inl rfl) (pe_call G_order_faultT (hr.mono (by decide)) rfl T.mg_order_fault T.F_order_fault.kp T.b_order_fault .nil pass0 (pa_cons (pe_fld (pv 0) rfl) (pa_cons (pv 1) pa_nil))))
      (pss_one (ps_if (pt_cmpR op_notN (pv 2) pe_non (nomark _)) (pss_one (ps_raise rfl (takes_of rfl rfl rfl rfl) (pmk_oex T.SC_BadOrder.ox T.ii_BadOrder T.ti_BadOrder G_BadOrder_init (hr.mono (by decide)) T.b_BadOrder_init .nil pass0 rfl T.mg_BadOrder (pa_cons (pv 2) pa_nil)))) pss_nil))), ?_⟩
    refine ⟨_, rfl, _, _, _, _, _, rfl, h1, T.cl_Table, T.n_Table_columns, fldsT_columns _ _, _, rfl, ct, l, cs, ns, rfl, hc.sq, h2, hl, fun H2 sm => ?_⟩
    cases hf : fault cs ns with
    | none => exact ⟨_, rfl, rfl, _, rfl, itNe rfl (kn hf H2 sm)⟩
    | some i =>
      have hi := fault_lt hf
      refine ⟨_, rfl, rfl, _, rfl, itNeN (fun z => nomatch z) ⟨_, rfl, (by decide : 1 ≤ 1000), fun a ha => ⟨a, _, rfl, ⟨_, rfl, by rw [Int.natAbs_natCast]; omega⟩, upd_same, fun d hd hne => ⟨rfl, d, _, upd_same, by rw [upd_ne hne, upd_same], by rw [upd_ne hne] at hd; exact hd, ?_⟩⟩⟩⟩
      rw [upd_ne hne] at hd
      exact k i hf d _ (sm.trans (exc_same ha hd)) upd_same
end
end My
set_option maxRecDepth 100000
set_option maxHeartbeats 4000000
set_option exponentiation.threshold 10000
namespace My
open PySem L2
theorem sv_snoc' (l : List Str) (x : Str) : sv (l ++ [x]) = sv l ++ [V.str x] := List.map_append
def spCell (K : PySem.W.Frag) : Sp := fun vs H Q _ => ∃ (a : Addr) (ns : List Int) (k : Int), vs = [.ref a, .int k] ∧ SqL K H a (ns.map V.int) ∧ 0 ≤ k ∧ ∀ z, Q (.int z) H
def spPool (K : PySem.W.Frag) : Sp := fun vs H Q _ => ∃ (a : Addr) (ns : List Int) (k c : Int), vs = [.ref a, .int k, .int c] ∧ SqL K H a (ns.map V.int) ∧ 0 ≤ k ∧ 0 ≤ c ∧ c ≤ 1000 ∧
  ∀ p ps H', Same H H' → H' p = some (.lst (ps.map V.int)) → (ps.length : Int) = c → Pool ps → Q (.ref p) H'
section
variable {P : Program} {w : World} {K : PySem.W.Frag} {mg : Str → Option Value} {base : Heap} {A : Ad}
theorem ok_cell (T : Txt P K mg A) : FnOk P w K mg base CX0 1 A.a_law_cell A.d_law_cell ["script", "k"] (spCell K) := by
  refine T.F_law_cell.ok sc_law_cell (fun vs H Q E h => ?_) (fun cdv A' outer s H vs Q E hr h => ?_)
  · obtain ⟨a, ns, k, rfl, _⟩ := h
    rfl
  · obtain ⟨a, ns, i, rfl, hS, h0, k⟩ := h
    refine ⟨_, (pss_cons (ps_if (pt_cmpR op_lt (pv 1) (pe_callB call_len_seq (by rfl) T.n_len (by decide +kernel) (pa_cons (pv 0) pa_nil)) (nomark _)) (pss_one (ps_ret (pe_ix ix_list (pv 0) (pv 1) (fun _ _ => rfl)))) pss_nil)
      (pss_one (ps_ret pe_int))), ?_⟩
    refine ⟨_, rfl, _, rfl, _, _, rfl, .inl hS, _, _, rfl, rfl, _, rfl, ?_⟩
    by_cases hi : i < ((ns.map V.int).length : Int)
    · refine itY hi ?_
      obtain ⟨v, hv, e⟩ := atI_ok (xs := ns) h0 (by rw [len_map_int] at hi; exact hi)
      exact ⟨_, rfl, _, rfl, _, _, _, _, rfl, rfl, hS, e, k v⟩
    · refine itN hi ?_
      exact k 0
theorem ok_pool (T : Txt P K mg A) : FnOk P w K mg base CX0 2 A.a_law_pool A.d_law_pool ["script", "k", "count"] (spPool K) := by
  have G_law_cell : FnOk P w K mg base CX0 1 A.a_law_cell A.d_law_cell ["script", "k"] (spCell K) := ok_cell T
  refine T.F_law_pool.ok sc_law_pool (fun vs H Q E h => ?_) (fun cdv A' outer s H vs Q E hr h => ?_)
  · obtain ⟨a, ns, k, c, rfl, _⟩ := h
    rfl
  · obtain ⟨a, ns, i, c, rfl, hS, h0, hc0, hc, k⟩ := h
    refine ⟨_, (pss_cons (ps_set (i := 3) sc_law_pool.nd rfl (Or.inl rfl) (pe_callB call_abs (by rfl) T.n_abs (by decide +kernel) (pa_cons (pe_call G_law_cell (hr.mono (by decide)) rfl T.mg_law_cell T.F_law_cell.kp T.b_law_cell .nil pass0 (pa_cons (pv 0) (pa_cons (pv 1) pa_nil))) pa_nil)))
      (pss_cons (ps_set (i := 4) sc_law_pool.nd rfl (Or.inl rfl) (pe_lst pa_nil))
      (pss_cons (ps_if (pt_cmpR op_ge (pv 3) (pe_op op_pow pe_int pe_int) (nomark _)) (pss_cons (ps_set (i := 3) sc_law_pool.nd rfl (Or.inl rfl) (pe_op op_sub (pv 3) (pe_op op_pow pe_int pe_int)))
      (pss_cons (ps_for PassesOwn.never rfl (pi_range1 (by rfl) T.n_range (pa_cons (pv 2) pa_nil)) (pg_name (i := 5) sc_law_pool.nd rfl (Or.inl rfl))
        (pss_cons (ps_expr (pe_bm PySem.F.plainAttrs_list PySem.F.slot_list_append PySem.F.type_list_append mt_append (pv 4) (pa_cons (pe_op op_mod (pe_callTy call_int1 (by rfl) T.n_int (by decide +kernel) (pa_cons (pv 3) pa_nil)) pe_int) pa_nil)))
      (pss_one (ps_set (i := 3) sc_law_pool.nd rfl (Or.inl rfl) (pe_op op_fdiv (pv 3) pe_int)))))
      (pss_one (ps_ret (pv 4))))) pss_nil)
      (pss_cons (ps_for PassesOwn.never rfl (pi_range1 (by rfl) T.n_range (pa_cons (pv 2) pa_nil)) (pg_name (i := 5) sc_law_pool.nd rfl (Or.inl rfl))
        (pss_cons (ps_set (i := 6) sc_law_pool.nd rfl (Or.inl rfl) (pe_op op_mod (pe_callTy call_int1 (by rfl) T.n_int (by decide +kernel) (pa_cons (pe_op op_add (pe_op op_add (pe_op op_add (pe_op op_mul (pv 3) pe_int) (pe_op op_mul (pe_op op_add (pv 5) pe_int) pe_int)) (pe_op op_mul (pv 1) pe_int)) pe_int) pa_nil)) pe_int))
      (pss_cons (ps_set (i := 7) sc_law_pool.nd rfl (Or.inl rfl) (pe_op op_mod (pe_callTy call_int1 (by rfl) T.n_int (by decide +kernel) (pa_cons (pe_op op_add (pe_op op_add (pe_op op_mulW (pv 6) (pv 6)) (pe_op op_mul (pv 3) pe_int)) (pv 5)) pa_nil)) pe_int))
      (pss_cons (ps_set (i := 8) sc_law_pool.nd rfl (Or.inl rfl) (pe_op op_mod (pe_callTy call_int1 (by rfl) T.n_int (by decide +kernel) (pa_cons (pe_op op_add (pe_op op_mulW (pv 7) (pv 7)) (pv 6)) pa_nil)) pe_int))
      (pss_one (ps_expr (pe_bm PySem.F.plainAttrs_list PySem.F.slot_list_append PySem.F.type_list_append mt_append (pv 4) (pa_cons (pe_op op_mod (pe_callTy call_int1 (by rfl) T.n_int (by decide +kernel) (pa_cons (pe_op op_fdiv (pv 8) pe_int) pa_nil)) pe_int) pa_nil))))))))
      (pss_one (ps_ret (pv 4))))))), ?_⟩
    refine ⟨_, rfl, _, rfl, a, ns, i, rfl, hS, h0, fun z => ⟨_, rfl, ?_⟩⟩
    refine ⟨by show 0 ≤ sizeLine; decide, fun l hl => ?_⟩
    refine ⟨_, rfl, _, _, rfl, rfl, ⟨by decide, by decide, by decide⟩, _, _, rfl, rfl, _, rfl, ?_⟩
    have fin : ∀ ps : List Int, ps.length = c.toNat → Pool ps → Q (.ref l) (upd H l (.lst (ps.map V.int))) := fun ps h1 h2 => k l ps _ (same_new hl) upd_same (by omega) h2
    refine ite2 (fun hb => ?_) (fun hb => ?_)
    · refine ⟨_, rfl, _, _, rfl, rfl, ⟨by decide, by decide, by decide⟩, _, _, rfl, rfl, ?_⟩
      refine ⟨_, rfl, c, rfl, by omega, by omega, for_range (n := c.toNat) (fun j σ H2 => ∃ (v : Int) (ps : List Int) (u : Option V), σ = [some (.ref a), some (.int i), some (.int c), some (.int v), some (.ref l), u, none, none, none] ∧
        H2 = upd H l (.lst (ps.map V.int)) ∧ ps.length = j ∧ Pool ps) ⟨_, [], none, rfl, rfl, rfl, Pool.nil⟩ ?_ ?_⟩
      · rintro j σ H2 hj ⟨v, ps, u, rfl, rfl, hl2, hp⟩
        refine ⟨_, rfl, .inl ⟨rfl, _, SqL.of upd_same⟩, _, rfl, .inl ⟨_, rfl, ?_⟩⟩
        refine ⟨_, _, rfl, rfl, by show (0 : Int) < 27720; decide, l, _, _, rfl, rfl, upd_same, small_int (by rw [len_map_int]; omega), ?_⟩
        refine ⟨_, rfl, _, _, rfl, rfl, ⟨by decide, by decide⟩, ?_⟩
        refine ⟨_, ps ++ [v % 27720], _, rfl, ?_, by simp [hl2], hp.app (Int.emod_nonneg _ (by decide)) (Int.emod_lt_of_pos _ (by decide))⟩
        rw [upd_upd, List.map_append]
        rfl
      · rintro σ H2 ⟨v, ps, u, rfl, rfl, hl2, hp⟩
        exact ⟨_, rfl, fin ps hl2 hp⟩
    · refine ⟨_, rfl, c, rfl, by omega, by omega, for_range (n := c.toNat) (fun j σ H2 => ∃ (v : Int) (ps : List Int) (u u1 u2 u3 : Option V), σ = [some (.ref a), some (.int i), some (.int c), some (.int v), some (.ref l), u, u1, u2, u3] ∧
        H2 = upd H l (.lst (ps.map V.int)) ∧ ps.length = j ∧ Pool ps) ⟨_, [], none, none, none, none, rfl, rfl, rfl, Pool.nil⟩ ?_ ?_⟩
      · rintro j σ H2 hj ⟨v, ps, u, u1, u2, u3, rfl, rfl, hl2, hp⟩
        refine ⟨_, rfl, _, _, rfl, rfl, .inr (by decide), _, rfl, _, _, rfl, rfl, _, _, rfl, rfl, .inr (by decide), _, _, rfl, rfl, _, rfl, _, _, rfl, rfl, .inr (by decide), _, _, rfl, rfl, _, _, rfl, rfl, .inl ⟨_, rfl, _, _, rfl, rfl, by show (0 : Int) < 2147483647; decide, ?_⟩⟩
        refine ⟨_, rfl, _, rfl, _, _, rfl, rfl, mulW (mod_sz (by decide) (by decide)) (mod_sz (by decide) (by decide)), _, rfl, _, _, rfl, rfl, .inr (by decide), _, _, rfl, rfl, _, rfl, _, _, rfl, rfl, .inl ⟨_, rfl, _, _, rfl, rfl, by show (0 : Int) < 2147483629; decide, ?_⟩⟩
        refine ⟨_, rfl, _, rfl, _, _, rfl, rfl, mulW (mod_sz (by decide) (by decide)) (mod_sz (by decide) (by decide)), _, rfl, _, _, rfl, rfl, .inl ⟨_, rfl, _, _, rfl, rfl, by show (0 : Int) < 2147483587; decide, ?_⟩⟩
        refine ⟨_, rfl, .inl ⟨rfl, _, SqL.of upd_same⟩, _, rfl, _, _, rfl, rfl, ⟨by decide, by decide⟩, .inl ⟨_, rfl, ?_⟩⟩
        refine ⟨_, _, rfl, rfl, by show (0 : Int) < 27720; decide, l, _, _, rfl, rfl, upd_same, small_int (by rw [len_map_int]; omega), ?_⟩
        exact ⟨_, ps ++ [_], _, _, _, _, rfl, upd_app, by simp [hl2], hp.app (Int.emod_nonneg _ (by decide)) (Int.emod_lt_of_pos _ (by decide))⟩
      · rintro σ H2 ⟨v, ps, u, u1, u2, u3, rfl, rfl, hl2, hp⟩
        exact ⟨_, rfl, fin ps hl2 hp⟩
def spSize : Sp := fun vs H Q _ => ∃ (d : Int), vs = [.int d, .int 12] ∧ ∀ (n : Nat) H', Same H H' → n ≤ 12 → Q (.int (n : Nat)) H'
theorem ok_size (T : Txt P K mg A) : FnOk P w K mg base CX0 1 A.a_law_size A.d_law_size ["draw", "most"] spSize := by
  refine T.F_law_size.ok sc_law_size (fun vs H Q E h => ?_) (fun cdv A' outer s H vs Q E hr h => ?_)
  · obtain ⟨d, rfl, _⟩ := h
    rfl
  · obtain ⟨d, rfl, k⟩ := h
    refine ⟨_, (pss_cons (ps_set (i := 2) sc_law_size.nd rfl (Or.inl rfl) (pe_lst (pa_cons pe_int (pa_cons pe_int (pa_cons pe_int (pa_cons pe_int (pa_cons pe_int (pa_cons pe_int (pa_cons pe_int (pa_cons pe_int (pa_cons pe_int (pa_cons pe_int (pa_cons pe_int (pa_cons pe_int (pa_cons pe_int (pa_cons pe_int (pa_cons pe_int (pa_cons pe_int (pa_cons pe_int (pa_cons pe_int (pa_cons pe_int (pa_cons pe_int (pa_cons pe_int (pa_cons pe_int (pa_cons pe_int (pa_cons pe_int pa_nil))))))))))))))))))))))))))
      (pss_one (ps_ret (pe_callB (call_min2 rfl) (by rfl) T.n_min (by decide +kernel) (pa_cons (pv 1) (pa_cons (pe_ix ix_list (pv 2) (pe_op op_mod (pe_callTy call_int1 (by rfl) T.n_int (by decide +kernel) (pa_cons (pv 0) pa_nil)) pe_int) (fun _ _ => rfl)) pa_nil)))))), ?_⟩
    refine ⟨by show 24 ≤ sizeLine; decide, fun l hl => ?_⟩
    have h0 := Int.emod_nonneg d (show (24 : Int) ≠ 0 by decide)
    have h1 := Int.emod_lt_of_pos d (show (0 : Int) < 24 by decide)
    obtain ⟨v, hv, e⟩ := atI_ok (xs := szs) (j := d % 24) h0 (by show _ < (24 : Int); exact h1)
    have hb : ∀ v ∈ szs, 0 ≤ v ∧ v ≤ 12 := by decide
    have hv2 := hb v hv
    refine ⟨_, rfl, _, rfl, _, rfl, .inl ⟨_, rfl, _, _, rfl, rfl, by show (0 : Int) < 24; decide, l, _, _, _, rfl, rfl, SqL.of upd_same, e, _, _, rfl, ?_⟩⟩
    have := k v.toNat _ (same_new (o := .lst (szs.map V.int)) hl) (by omega)
    rw [show ((v.toNat : Nat) : Int) = v by omega] at this
    rw [show (if v < 12 then v else 12) = v by split <;> omega]
    exact this
def spOrder (K : PySem.W.Frag) : Sp := fun vs H Q _ => ∃ (n p : Addr) (ns : List Str) (ps : List Int) (st : Int), vs = [.ref n, .ref p, .int st] ∧ SqL K H n (sv ns) ∧ SqL K H p (ps.map V.int) ∧ ns.length ≤ 12 ∧ 0 ≤ st ∧ st + ns.length ≤ ps.length ∧ ∀ a os H', Same H H' → H a = none → H' a = some (.lst (sv os)) → os.Perm ns → Q (.ref a) H'
theorem ok_order (T : Txt P K mg A) : FnOk P w K mg base CX0 1 A.a_law_order A.d_law_order ["names", "pool", "start"] (spOrder K) := by
  refine T.F_law_order.ok sc_law_order (fun vs H Q E h => ?_) (fun cdv A' outer s H vs Q E hr h => ?_)
  · obtain ⟨n, p, ns, ps, st, rfl, _⟩ := h
    rfl
  · obtain ⟨n, p, ns, ps, st, rfl, hN, hP, hnl, hst, hpl, k⟩ := h
    refine ⟨_, (pss_cons (ps_set (i := 3) sc_law_order.nd rfl (Or.inl rfl) (pe_callTy (show CallR _ _ (rListOf K) from call_list_of) (by rfl) T.n_list (by decide +kernel) (pa_cons (pv 0) pa_nil)))
      (pss_cons (ps_set (i := 4) sc_law_order.nd rfl (Or.inl rfl) (pe_lst pa_nil))
      (pss_cons (ps_for PassesOwn.never rfl (pi_range1 (by rfl) T.n_range (pa_cons (pe_callB call_len_seq (by rfl) T.n_len (by decide +kernel) (pa_cons (pv 0) pa_nil)) pa_nil)) (pg_name (i := 5) sc_law_order.nd rfl (Or.inl rfl))
        (pss_cons (ps_set (i := 6) sc_law_order.nd rfl (Or.inl rfl) (pe_op op_mod (pe_callTy call_int1 (by rfl) T.n_int (by decide +kernel) (pa_cons (pe_ix ix_list (pv 1) (pe_op op_add (pv 2) (pv 5)) (fun _ _ => rfl)) pa_nil)) (pe_callB call_len_seq (by rfl) T.n_len (by decide +kernel) (pa_cons (pv 3) pa_nil))))
      (pss_cons (ps_expr (pe_bm PySem.F.plainAttrs_list PySem.F.slot_list_append PySem.F.type_list_append mt_append (pv 4) (pa_cons (pe_ix ix_list (pv 3) (pv 6) (fun _ _ => rfl)) pa_nil)))
      (pss_one (ps_set (i := 3) sc_law_order.nd rfl (Or.inl rfl) (pe_op op_cat (pe_slice sl_list (pv 3) po_none (po_some (pv 6))) (pe_slice sl_list (pv 3) (po_some (pe_op op_add (pv 6) pe_int)) po_none)))))))
      (pss_one (ps_ret (pv 4)))))), ?_⟩
    refine ⟨_, rfl, n, _, rfl, .inl hN, fun l0 hl0 => ?_⟩
    have s1 := same_new (o := .lst (sv ns)) hl0
    refine ⟨by show 0 ≤ sizeLine; decide, fun o ho => ?_⟩
    have s2 := s1.trans (same_new (o := .lst []) ho)
    have ho' : H o = none := none_of s1 ho
    have hl1 : upd (upd H l0 (.lst (sv ns))) o (.lst []) l0 = some (.lst (sv ns)) := by rw [upd_ne (ne_of_none upd_same ho)]; exact upd_same
    refine ⟨_, rfl, n, _, rfl, .inl (s2.seq hN), _, rfl, by rw [len_sv]; omega, by rw [len_sv]; omega, ?_⟩
    have e1 : (((sv ns).length : Nat) : Int).toNat = ns.length := by rw [len_sv, Int.toNat_natCast]
    refine for_range (n := (((sv ns).length : Nat) : Int).toNat) (fun i σ H2 => Same H H2 ∧ ∃ (l : Addr) (ls os : List Str) (u1 u2 : Option V), σ = [some (.ref n), some (.ref p), some (.int st), some (.ref l), some (.ref o), u1, u2] ∧ H l = none ∧ l ≠ o ∧ H2 l = some (.lst (sv ls)) ∧ H2 o = some (.lst (sv os)) ∧ (os ++ ls).Perm ns ∧ os.length = i)
      ⟨s2, l0, ns, [], none, none, rfl, hl0, ne_of_none upd_same ho, hl1, upd_same, .refl _, rfl⟩ ?_ ?_
    · rintro i σ H2 hi ⟨sm, l, ls, os, u1, u2, rfl, hl, hlo, h2, h3, hp, hi2⟩
      rw [e1] at hi
      have hlen := hp.length_eq
      rw [List.length_append] at hlen
      have hls : 0 < ls.length := by omega
      obtain ⟨v, hv, e⟩ := atI_ok (xs := ps) (j := st + (0 + (i : Int))) (by omega) (by omega)
      have hd : (0 : Int) < ((sv ls).length : Nat) := by rw [len_sv]; omega
      have m0 := Int.emod_nonneg v (Int.ne_of_gt hd)
      have m1 := Int.emod_lt_of_pos v hd
      refine ⟨_, rfl, _, rfl, _, rfl, _, _, rfl, rfl, p, _, _, _, rfl, rfl, sm.seq hP, e, .inl ⟨_, rfl, _, rfl, l, _, rfl, .inl (SqL.of h2), _, _, rfl, rfl, hd, ?_⟩⟩
      obtain ⟨j, hj⟩ := Int.eq_ofNat_of_zero_le m0
      rw [hj] at m1
      rw [len_sv] at m1
      have hj2 : j < ls.length := by omega
      have hz : ls[j]? = some ls[j] := List.getElem?_eq_getElem hj2
      have ej : atI (sv ls) (j : Int) = some (V.str ls[j]) := atI_nat (by rw [List.getElem?_map, hz]; rfl)
      refine ⟨_, rfl, .inl ⟨rfl, _, SqL.of h3⟩, _, rfl, _, rfl, l, _, _, _, rfl, rfl, SqL.of h2, by rw [hj]; exact ej, o, _, _, rfl, rfl, h3, small_int (by rw [len_sv]; omega), ?_⟩
      have hlo2 : upd H2 o (.lst (sv os ++ [V.str ls[j]])) l = some (.lst (sv ls)) := by rw [upd_ne hlo]; exact h2
      refine ⟨_, rfl, _, rfl, _, rfl, l, _, rfl, SqL.of hlo2, fun a ha => ?_⟩
      have hla : l ≠ a := ne_of_none hlo2 ha
      refine ⟨_, rfl, _, rfl, _, _, rfl, rfl, _, rfl, l, _, rfl, SqL.of (by rw [upd_ne hla]; exact hlo2), fun b hb => ?_⟩
      have ha2 : a ≠ b := ne_of_none upd_same hb
      refine ⟨a, b, _, _, rfl, rfl, by rw [upd_ne ha2]; exact upd_same, upd_same, ?_, fun c hc => ?_⟩
      · rw [hj, show ((j : Int) + 1) = ((j + 1 : Nat) : Int) by omega, cut_take (by rw [len_sv]; omega), cut_drop (by rw [len_sv]; omega)]
        have := len_sv ls
        refine Nat.le_trans (m := 24) ?_ (by decide)
        rw [List.length_take, List.length_drop]; omega
      · rw [hj, cut_take (by rw [len_sv]; omega), sv_take] at hb
        rw [hj, show ((j : Int) + 1) = ((j + 1 : Nat) : Int) by omega] at hc ⊢
        rw [cut_take (by rw [len_sv]; omega), cut_drop (by rw [len_sv]; omega), sv_take, sv_drop] at hc ⊢
        rw [sv_app]
        have ob : o ≠ b := ne_of_none (show upd (upd H2 o _) a _ o = some _ by rw [upd_ne (ne_of_none upd_same ha)]; exact upd_same) hb
        have oa : o ≠ a := ne_of_none upd_same ha
        have oc : o ≠ c := ne_of_none (show upd (upd (upd H2 o _) a _) b _ o = some _ by rw [upd_ne ob, upd_ne oa]; exact upd_same) hc
        have sX : ∀ (x : Addr) (u : HO), H x = some u → upd (upd (upd H2 o (.lst (sv os ++ [V.str ls[j]]))) a (.lst (sv (ls.take j)))) b (.lst (sv (ls.drop (j + 1)))) x = some u := fun x u hx => by
          have e2 := sm x u hx
          have e3 : upd H2 o (.lst (sv os ++ [V.str ls[j]])) x = some u := by
            rw [upd_ne (fun z => by rw [z, ho'] at hx; cases hx)]; exact e2
          have e4 : upd (upd H2 o (.lst (sv os ++ [V.str ls[j]]))) a (.lst (sv (ls.take j))) x = some u := by rw [upd_ne (ne_of_none e3 ha)]; exact e3
          rw [upd_ne (ne_of_none e4 hb)]; exact e4
        refine ⟨fun x u hx => ?_, c, ls.take j ++ ls.drop (j + 1), os ++ [ls[j]], _, _, rfl, ?_, oc.symm, upd_same, ?_, ?_, ?_⟩
        · rw [upd_ne (ne_of_none (sX x u hx) hc)]; exact sX x u hx
        · cases e : H c with
          | none => rfl
          | some u => rw [sX _ _ e] at hc; cases hc
        · rw [upd_ne oc, upd_ne ob, upd_ne oa, upd_same, sv_snoc']
        · have := perm_pick hz
          rw [List.append_assoc, List.singleton_append]
          exact ((this.append_left os)).trans hp
        · rw [List.length_append, hi2]; rfl
    · rintro σ H2 ⟨sm, l, ls, os, u1, u2, rfl, hl, hlo, h2, h3, hp, hi2⟩
      rw [e1] at hi2
      have hlen := hp.length_eq
      rw [List.length_append] at hlen
      have : ls = [] := List.length_eq_zero_iff.mp (by omega)
      rw [this, List.append_nil] at hp
      exact ⟨_, rfl, k o os H2 sm ho' h3 hp⟩
def spRow (K : PySem.W.Frag) : Sp := fun vs H Q _ => ∃ (n h : Addr) (cs hs : List Str) (d : Int) (free : Bool), vs = [.ref n, .ref h, .int d, .bl free] ∧ SqL K H n (sv cs) ∧ SqL K H h (sv hs) ∧ cs.Nodup ∧ cs.length ≤ 12 ∧ hs.Perm cs ∧
  ∀ r ms H', Same H H' → H r = none → H' r = some (.lst (sv ms)) → RowOk cs ms → Q (.ref r) H'
theorem ok_row (T : Txt P K mg A) : FnOk P w K mg base CX0 1 A.a_law_row A.d_law_row ["names", "hidden", "draw", "free"] (spRow K) := by
  refine T.F_law_row.ok sc_law_row (fun vs H Q E h => ?_) (fun cdv A' outer s H vs Q E hr h => ?_)
  · obtain ⟨n, h, cs, hs, d, free, rfl, _⟩ := h
    rfl
  · obtain ⟨n, h, cs, hs, d, free, rfl, hN, hH, nd, hcl, hp, k⟩ := h
    refine ⟨_, (pss_cons (ps_set (i := 4) sc_law_row.nd rfl (Or.inl rfl) (pe_lst pa_nil))
      (pss_cons (ps_if (pt_val (pv 3)) (pss_cons (ps_for PassesOwn.never rfl (pi_list (pv 0)) (pg_name (i := 5) sc_law_row.nd rfl (Or.inl rfl))
        (pss_cons (ps_if (pt_cmpR op_eq (pe_op op_mod (pe_callTy call_int1 (by rfl) T.n_int (by decide +kernel) (pa_cons (pv 2) pa_nil)) pe_int) pe_int (nomark _)) (pss_one (ps_expr (pe_bm PySem.F.plainAttrs_list PySem.F.slot_list_append PySem.F.type_list_append mt_append (pv 4) (pa_cons (pv 5) pa_nil)))) pss_nil)
      (pss_one (ps_set (i := 2) sc_law_row.nd rfl (Or.inl rfl) (pe_op op_fdiv (pv 2) pe_int)))))
      (pss_one (ps_ret (pv 4)))) pss_nil)
      (pss_cons (ps_set (i := 6) sc_law_row.nd rfl (Or.inl rfl) (pe_op op_add (pe_callB call_len_seq (by rfl) T.n_len (by decide +kernel) (pa_cons (pv 1) pa_nil)) pe_int))
      (pss_cons (ps_set (i := 7) sc_law_row.nd rfl (Or.inl rfl) (pe_op op_mod (pe_callTy call_int1 (by rfl) T.n_int (by decide +kernel) (pa_cons (pv 2) pa_nil)) (pv 6)))
      (pss_cons (ps_set (i := 8) sc_law_row.nd rfl (Or.inl rfl) (pe_op op_mod (pe_callTy call_int1 (by rfl) T.n_int (by decide +kernel) (pa_cons (pe_op op_fdiv (pv 2) pe_int) pa_nil)) (pv 6)))
      (pss_cons (ps_set (i := 4) sc_law_row.nd rfl (Or.inl rfl) (pe_slice sl_list (pv 1) (po_some (pv 7)) (po_some (pe_op op_add (pv 7) (pv 8)))))
      (pss_cons (ps_set (i := 9) sc_law_row.nd rfl (Or.inl rfl) (pe_op op_mod (pe_callTy call_int1 (by rfl) T.n_int (by decide +kernel) (pa_cons (pe_op op_fdiv (pv 2) pe_int) pa_nil)) (pv 6)))
      (pss_one (ps_ret (pe_op op_cat (pe_slice sl_list (pv 4) (po_some (pv 9)) po_none) (pe_slice sl_list (pv 4) po_none (po_some (pv 9))))))))))))), ?_⟩
    have hhl : hs.length ≤ 12 := by rw [hp.length_eq]; exact hcl
    refine ⟨by show 0 ≤ sizeLine; decide, fun a ha => ?_⟩
    have sa := same_new (o := .lst []) ha
    refine ⟨_, rfl, _, rfl, ?_⟩
    cases free with
    | true =>
      refine ifT rfl ?_
      refine ⟨_, rfl, n, rfl, ⟨_, sa.seq hN⟩, for_it walk_list (fun j σ H4 => Same H H4 ∧ ∃ (ys : List Str) (lf : Int) (u u1 u2 u3 u4 : Option V), σ = [some (.ref n), some (.ref h), some (.int lf), some (.bl true), some (.ref a), u, u1, u2, u3, u4] ∧ H4 a = some (.lst (sv ys)) ∧ ys.Sublist (cs.take j))
        ⟨sa, [], d, none, none, none, none, none, rfl, upd_same, List.nil_sublist _⟩ (fun j σ H4 _ q => q.1.seq hN) ?_ ?_⟩
      · rintro j x σ H40 H4 hi ⟨s4, ys, lf, u, u1, u2, u3, u4, rfl, h4, hys⟩ ⟨rfl, hx⟩
        obtain ⟨z, hz, rfl⟩ := sv_get hx
        have hyl := hys.length_le
        rw [List.length_take] at hyl
        refine ⟨_, rfl, .inl ⟨_, rfl, _, _, rfl, rfl, by show (0 : Int) < 2; decide, rfl, _, rfl, ite2 (fun hb => ?_) (fun hb => ?_)⟩⟩
        · refine ⟨_, rfl, .inl ⟨rfl, _, SqL.of h4⟩, _, rfl, a, _, _, rfl, rfl, h4, small_int (by rw [len_sv]; omega), ?_⟩
          refine ⟨_, rfl, _, _, rfl, rfl, ⟨by decide, by decide⟩, fun c' o' e => ?_, ys ++ [z], _, _, _, _, _, _, rfl, ?_, ?_⟩
          · rw [upd_ne (ne_of_none e ha)]; exact s4 _ _ e
          · rw [sv_snoc']; exact upd_same
          · rw [take_succ hz]; exact hys.append (List.Sublist.refl _)
        · refine ⟨_, rfl, _, _, rfl, rfl, ⟨by decide, by decide⟩, s4, ys, _, _, _, _, _, _, rfl, h4, ?_⟩
          rw [take_succ hz]; exact hys.trans (List.sublist_append_left _ _)
      rintro σ H4 ⟨s4, ys, lf, u, u1, u2, u3, u4, rfl, h4, hys⟩
      rw [len_sv, List.take_length] at hys
      exact ⟨_, rfl, k a ys H4 s4 ha h4 ⟨hys.nodup nd, fun y hy => hys.subset hy⟩⟩
    | false =>
      refine ifF rfl ?_
      have lp : (0 : Int) < ((sv hs).length : Int) + 1 := by omega
      refine ⟨_, rfl, h, _, rfl, .inl (sa.seq hH), _, _, rfl, rfl, ?_⟩
      refine ⟨_, rfl, .inl ⟨_, rfl, _, rfl, _, _, rfl, rfl, lp, ?_⟩⟩
      refine ⟨_, rfl, _, _, rfl, rfl, ⟨by decide, by decide⟩, .inl ⟨_, rfl, _, rfl, _, _, rfl, rfl, lp, ?_⟩⟩
      obtain ⟨zs, e, hzs⟩ := cut_sv hs (some (d % (((sv hs).length : Int) + 1))) (some (d % (((sv hs).length : Int) + 1) + d / 13 % (((sv hs).length : Int) + 1)))
      refine ⟨_, rfl, _, rfl, _, rfl, _, rfl, _, rfl, _, _, rfl, rfl, _, rfl, h, _, rfl, sa.seq hH, fun b hb => ?_⟩
      have s2 := sa.trans (same_new (o := .lst (cutV (sv hs) (some (d % (((sv hs).length : Int) + 1))) (some (d % (((sv hs).length : Int) + 1) + d / 13 % (((sv hs).length : Int) + 1))))) hb)
      rw [e] at s2
      refine ⟨_, rfl, _, _, rfl, rfl, ⟨by decide, by decide⟩, .inl ⟨_, rfl, _, rfl, _, _, rfl, rfl, lp, ?_⟩⟩
      obtain ⟨c, hc⟩ := Int.eq_ofNat_of_zero_le (Int.emod_nonneg (d / 169) (Int.ne_of_gt lp))
      have hb2 : upd (upd H a (.lst [])) b (.lst (sv zs)) b = some (.lst (sv zs)) := upd_same
      refine ⟨_, rfl, _, rfl, _, rfl, b, _, rfl, SqL.of (by rw [e]; exact hb2), fun p hp2 => ?_⟩
      have hbp : b ≠ p := ne_of_none upd_same hp2
      rw [e] at hp2
      have s3 := s2.trans (same_new (o := .lst (sv (zs.drop c))) hp2)
      refine ⟨_, rfl, _, rfl, _, rfl, b, _, rfl, SqL.of (by rw [upd_ne hbp, e]; exact hb2), fun q hq => ?_⟩
      have hpq : p ≠ q := ne_of_none upd_same hq
      rw [e, hc, cut_dropG, sv_drop] at hq
      have s4 := s3.trans (same_new (o := .lst (sv (zs.take c))) hq)
      refine ⟨p, q, _, _, rfl, rfl, by rw [upd_ne hpq]; exact upd_same, upd_same, ?_, fun t ht => ?_⟩
      · rw [hc, cut_dropG, cut_takeG]
        have := hzs.length_le
        refine Nat.le_trans (m := 24) ?_ (by decide)
        rw [List.length_drop, List.length_take, len_sv]; omega
      · rw [e, hc, cut_dropG, cut_takeG, sv_drop, sv_take] at ht ⊢
        have s5 := s4.trans (same_new (o := .lst (sv (zs.drop c ++ zs.take c))) ht)
        rw [sv_app]
        have pr := rot_perm zs c
        refine k t _ _ s5 (none_of s4 ht) upd_same ⟨pr.nodup_iff.mpr (hzs.nodup (hp.nodup_iff.mpr nd)), fun y hy => hp.mem_iff.mp (hzs.subset (pr.mem_iff.mp hy))⟩
def spRows (K : PySem.W.Frag) : Sp := fun vs H Q _ => ∃ (n h p : Addr) (cs hs : List Str) (ps : List Int) (c m : Int), vs = [.ref n, .ref h, .ref p, .int 14, .int c, .int m] ∧ SqL K H n (sv cs) ∧ SqL K H h (sv hs) ∧ SqL K H p (ps.map V.int) ∧ ps.length = 60 ∧ 0 ≤ c ∧ c ≤ 6 ∧ cs.Nodup ∧ cs.length ≤ 12 ∧ hs.Perm cs ∧
  ∀ D ts rs H', Same H H' → H D = none → H' D = some (.lst (ts.map V.ref)) → Rows H' D ts cs rs → (rs.length : Int) = c → Q (.ref D) H'
theorem ok_rows (T : Txt P K mg A) : FnOk P w K mg base CX0 2 A.a_law_rows A.d_law_rows ["names", "hidden", "pool", "start", "count", "mode"] (spRows K) := by
  have G_law_row := ok_row (P := P) (w := w) (base := base) T
  refine T.F_law_rows.ok sc_law_rows (fun vs H Q E h => ?_) (fun cdv A' outer s H vs Q E hr h => ?_)
  · obtain ⟨n, h, p, cs, hs, ps, c, m, rfl, _⟩ := h
    rfl
  · obtain ⟨n, h, p, cs, hs, ps, c, m, rfl, hN, hH, hP, hpl, c0, c6, nd, hcl, hp, k⟩ := h
    refine ⟨_, (pss_cons (ps_set (i := 6) sc_law_rows.nd rfl (Or.inl rfl) (pe_lst pa_nil))
      (pss_cons (ps_for PassesOwn.never rfl (pi_range1 (by rfl) T.n_range (pa_cons (pv 4) pa_nil)) (pg_name (i := 7) sc_law_rows.nd rfl (Or.inl rfl))
        (pss_cons (ps_set (i := 8) sc_law_rows.nd rfl (Or.inl rfl) (pe_or (pe_cmpR op_eq (pv 5) pe_int (nomark _)) (pe_one (pe_and (pe_cmpR op_eq (pv 5) pe_int (nomark _)) (pe_one (pe_cmpR op_eq (pv 7) (pe_op op_sub (pv 4) pe_int) (nomark _)))))))
      (pss_one (ps_expr (pe_bm PySem.F.plainAttrs_list PySem.F.slot_list_append PySem.F.type_list_append mt_append (pv 6) (pa_cons (pe_call G_law_row (hr.mono (by decide)) rfl T.mg_law_row T.F_law_row.kp T.b_law_row .nil pass0 (pa_cons (pv 0) (pa_cons (pv 1) (pa_cons (pe_ix ix_list (pv 2) (pe_op op_add (pv 3) (pv 7)) (fun _ _ => rfl)) (pa_cons (pv 8) pa_nil))))) pa_nil))))))
      (pss_one (ps_ret (pv 6))))), ?_⟩
    refine ⟨by show 0 ≤ sizeLine; decide, fun D hD => ?_⟩
    have s0 := same_new (o := .lst []) hD
    refine ⟨_, rfl, c, rfl, by omega, by omega, for_range (n := c.toNat) (fun i σ H2 => Same H H2 ∧ ∃ (ts : List Addr) (rs : List (List Str)) (u1 u2 : Option V), σ = [some (.ref n), some (.ref h), some (.ref p), some (.int 14), some (.int c), some (.int m), some (.ref D), u1, u2] ∧ H2 D = some (.lst (ts.map V.ref)) ∧ Rows H2 D ts cs rs ∧ rs.length = i)
      ⟨s0, [], [], none, none, rfl, upd_same, ⟨Lss.nil, (fun t h => nomatch h), (fun t h => nomatch h)⟩, rfl⟩ ?_ ?_⟩
    · rintro i σ H2 hi ⟨sm, ts, rs, u1, u2, rfl, hd2, hR, hl⟩
      obtain ⟨v, hv, e⟩ := atI_ok (xs := ps) (j := (14 : Int) + (0 + (i : Int))) (by omega) (by omega)
      refine ⟨_, rfl, rfl, _, rfl, ite2 (fun hb => ?_) (fun hb => ⟨_, rfl, rfl, _, rfl, ite2 (fun hb2 => ⟨_, rfl, _, rfl, _, _, rfl, rfl, rfl, ?_⟩) (fun hb2 => ?_)⟩)⟩
      all_goals
        refine ⟨_, rfl, .inl ⟨rfl, _, SqL.of hd2⟩, _, rfl, _, rfl, _, rfl, _, rfl, _, rfl, _, _, rfl, rfl, p, _, _, _, rfl, rfl, sm.seq hP, e, _, rfl, n, h, cs, hs, v, _, rfl, sm.seq hN, sm.seq hH, nd, hcl, hp, fun r ms H3 s3 hr0 hr3 ok => ?_⟩
        refine ⟨D, _, _, rfl, rfl, s3 _ _ hd2, small_int (by rw [List.length_map, hR.1.len]; omega), fun x u e => ?_, ts ++ [r], rs ++ [ms], _, _, rfl, ?_, hR.push s3 hr3 (ne_of_none hd2 hr0).symm ok, ?_⟩
        · rw [upd_ne (ne_of_none e hD)]; exact s3 _ _ (sm _ _ e)
        · rw [List.map_append]; exact upd_same
        · rw [List.length_append, hl]; rfl
    · rintro σ H2 ⟨sm, ts, rs, u1, u2, rfl, hd2, hR, hl⟩
      exact ⟨_, rfl, k D ts rs H2 sm hD hd2 hR (by omega)⟩
def spNames : Sp := fun vs H Q _ => ∃ (n : Nat) (sd : Int), vs = [.int (n : Nat), .int sd] ∧ n ≤ 12 ∧ ∀ D ns H', Same H H' → H' D = some (.lst (sv ns)) → ns.length = n → Nms ns → Q (.ref D) H'
theorem ok_names (T : Txt P K mg A) : FnOk P w K mg base CX0 1 A.a_law_names A.d_law_names ["count", "seed"] spNames := by
  refine T.F_law_names.ok sc_law_names (fun vs H Q E h => ?_) (fun cdv A' outer s H vs Q E hr h => ?_)
  · obtain ⟨n, sd, rfl, _⟩ := h
    rfl
  · obtain ⟨n, sd, rfl, hn, k⟩ := h
    refine ⟨_, (pss_cons (ps_if (pt_cmpR op_gt (pe_op op_mod (pe_callTy call_int1 (by rfl) T.n_int (by decide +kernel) (pa_cons (pv 1) pa_nil)) pe_int) pe_int (nomark _)) (pss_cons (ps_set (i := 2) sc_law_names.nd rfl (Or.inl rfl) (pe_lst (pa_cons pe_str (pa_cons pe_str (pa_cons pe_str (pa_cons pe_str (pa_cons pe_str (pa_cons pe_str (pa_cons pe_str (pa_cons pe_str (pa_cons pe_str (pa_cons pe_str (pa_cons pe_str (pa_cons pe_str pa_nil))))))))))))))
      (pss_cons (ps_if (pt_cmpR op_eq (pe_op op_mod (pe_callTy call_int1 (by rfl) T.n_int (by decide +kernel) (pa_cons (pv 1) pa_nil)) pe_int) pe_int (nomark _)) (pss_one (ps_set (i := 2) sc_law_names.nd rfl (Or.inl rfl) (pe_lst (pa_cons pe_str (pa_cons pe_str (pa_cons pe_str (pa_cons pe_str (pa_cons pe_str (pa_cons pe_str (pa_cons pe_str (pa_cons pe_str (pa_cons pe_str (pa_cons pe_str (pa_cons pe_str (pa_cons pe_str pa_nil))))))))))))))) pss_nil)
      (pss_cons (ps_set (i := 3) sc_law_names.nd rfl (Or.inl rfl) (pe_op op_mod (pe_callTy call_int1 (by rfl) T.n_int (by decide +kernel) (pa_cons (pe_op op_fdiv (pv 1) pe_int) pa_nil)) pe_int))
      (pss_one (ps_ret (pe_slice sl_list (pe_op op_cat (pe_slice sl_list (pv 2) (po_some (pv 3)) po_none) (pe_slice sl_list (pv 2) po_none (po_some (pv 3)))) po_none (po_some (pv 0)))))))) pss_nil)
      (pss_cons (ps_set (i := 4) sc_law_names.nd rfl (Or.inl rfl) (pe_lst pa_nil))
      (pss_cons (ps_for PassesOwn.never rfl (pi_range1 (by rfl) T.n_range (pa_cons (pv 0) pa_nil)) (pg_name (i := 5) sc_law_names.nd rfl (Or.inl rfl))
        (pss_cons (ps_set (i := 6) sc_law_names.nd rfl (Or.inl rfl) (pe_ix ix_str pe_str (pe_op op_mod (pe_callTy call_int1 (by rfl) T.n_int (by decide +kernel) (pa_cons (pe_op op_add (pe_op op_mul (pv 5) pe_int) (pv 1)) pa_nil)) pe_int) (fun _ _ => rfl)))
      (pss_cons (ps_set (i := 7) sc_law_names.nd rfl (Or.inl rfl) (pe_op op_mulS (pe_ix ix_str pe_str (pe_op op_mod (pe_callTy call_int1 (by rfl) T.n_int (by decide +kernel) (pa_cons (pe_op op_add (pe_op op_fdiv (pv 1) pe_int) (pv 5)) pa_nil)) pe_int) (fun _ _ => rfl)) (pe_op op_mod (pe_callTy call_int1 (by rfl) T.n_int (by decide +kernel) (pa_cons (pe_op op_add (pe_op op_fdiv (pv 1) pe_int) (pe_op op_mul (pv 5) pe_int)) pa_nil)) pe_int)))
      (pss_cons (ps_set (i := 8) sc_law_names.nd rfl (Or.inl rfl) (pe_op op_mulS (pe_ix ix_str pe_str (pe_op op_mod (pe_callTy call_int1 (by rfl) T.n_int (by decide +kernel) (pa_cons (pe_op op_add (pe_op op_fdiv (pv 1) pe_int) (pe_op op_mul (pv 5) pe_int)) pa_nil)) pe_int) (fun _ _ => rfl)) (pe_op op_mod (pe_callTy call_int1 (by rfl) T.n_int (by decide +kernel) (pa_cons (pe_op op_add (pe_op op_fdiv (pv 1) pe_int) (pv 5)) pa_nil)) pe_int)))
      (pss_cons (ps_if (pt_cmpR op_eq (pe_op op_mod (pe_callTy call_int1 (by rfl) T.n_int (by decide +kernel) (pa_cons (pv 1) pa_nil)) pe_int) pe_int (nomark _)) (pss_cons (ps_set (i := 7) sc_law_names.nd rfl (Or.inl rfl) (pe_op op_mulS pe_str (pe_op op_mod (pe_callTy call_int1 (by rfl) T.n_int (by decide +kernel) (pa_cons (pe_op op_fdiv (pv 1) pe_int) pa_nil)) pe_int)))
      (pss_one (ps_set (i := 8) sc_law_names.nd rfl (Or.inl rfl) (pe_op op_mulS pe_str (pe_op op_mod (pe_callTy call_int1 (by rfl) T.n_int (by decide +kernel) (pa_cons (pe_op op_fdiv (pv 1) pe_int) pa_nil)) pe_int))))) pss_nil)
      (pss_one (ps_expr (pe_bm PySem.F.plainAttrs_list PySem.F.slot_list_append PySem.F.type_list_append mt_append (pv 4) (pa_cons (pe_op op_add_str (pe_op op_add_str (pv 7) (pv 6)) (pv 8)) pa_nil)))))))))
      (pss_one (ps_ret (pv 4)))))), ?_⟩
    refine ⟨_, rfl, .inl ⟨_, rfl, _, _, rfl, rfl, by show (0 : Int) < 6; decide, _, _, rfl, rfl, _, rfl, ite2 (fun hb => ?_) (fun hb => ?_)⟩⟩
    · refine ⟨by show 12 ≤ sizeLine; decide, fun a0 ha0 => ?_⟩
      have s1 := same_new (o := .lst (sv W1)) ha0
      refine ⟨_, rfl, .inl ⟨_, rfl, _, _, rfl, rfl, by show (0 : Int) < 6; decide, rfl, _, rfl, ite2 (fun hb2 => ?_) (fun hb2 => ?_)⟩⟩
      · refine ⟨by show 12 ≤ sizeLine; decide, fun a ha => ?_⟩
        have s2 := s1.trans (same_new (o := .lst (sv W2)) ha)
        refine ⟨_, rfl, _, _, rfl, rfl, ⟨by decide, by decide⟩, .inl ⟨_, rfl, _, _, rfl, rfl, by show (0 : Int) < 12; decide, ?_⟩⟩
        obtain ⟨c, hc⟩ := Int.eq_ofNat_of_zero_le (Int.emod_nonneg (sd / 6) (show (12 : Int) ≠ 0 by decide))
        refine ⟨_, rfl, _, rfl, _, rfl, a, _, rfl, SqL.of upd_same, fun p hp2 => ?_⟩
        have hbp : a ≠ p := ne_of_none upd_same hp2
        have hp3 := hp2
        have s3 := s2.trans (same_new (o := .lst (cutV (sv W2) (some (sd / 6 % 12)) none)) hp2)
        refine ⟨_, rfl, _, rfl, _, rfl, a, _, rfl, SqL.of (by rw [upd_ne hbp]; exact upd_same), fun q hq => ?_⟩
        have hpq : p ≠ q := ne_of_none upd_same hq
        have s4 := s3.trans (same_new (o := .lst (cutV (sv W2) none (some (sd / 6 % 12)))) hq)
        refine ⟨p, q, _, _, rfl, rfl, by rw [upd_ne hpq]; exact upd_same, upd_same, ?_, fun t ht => ?_⟩
        · rw [hc, cut_dropG, cut_takeG]
          refine Nat.le_trans (m := 24) ?_ (by decide)
          rw [List.length_drop, List.length_take]
          show 12 - c + min c 12 ≤ 24
          omega
        · have s5 := s4.trans (same_new (o := .lst (cutV (sv W2) (some (sd / 6 % 12)) none ++ cutV (sv W2) none (some (sd / 6 % 12)))) ht)
          refine ⟨_, rfl, _, rfl, t, _, rfl, SqL.of upd_same, fun r hr2 => ?_⟩
          have s6 := s5.trans (same_new (o := .lst (cutV (cutV (sv W2) (some (sd / 6 % 12)) none ++ cutV (sv W2) none (some (sd / 6 % 12))) none (some (n : Int)))) hr2)
          have eL : cutV (cutV (sv W2) (some (sd / 6 % 12)) none ++ cutV (sv W2) none (some (sd / 6 % 12))) none (some (n : Int)) = sv ((((W2).drop c) ++ (W2).take c).take n) := by
            rw [hc, cut_dropG, cut_takeG, cut_takeG, sv_drop, sv_take, sv_app, sv_take]
          have pr := rot_perm W2 c
          refine k r _ _ s6 (by rw [← eL]; exact upd_same) ?_ ?_
          · rw [List.length_take, pr.length_eq, show (W2).length = 12 from rfl]; omega
          · exact w2_ok.sub pr (List.take_sublist _ _)
      · have a := a0
        have s2 := s1
        refine ⟨_, rfl, _, _, rfl, rfl, ⟨by decide, by decide⟩, .inl ⟨_, rfl, _, _, rfl, rfl, by show (0 : Int) < 12; decide, ?_⟩⟩
        obtain ⟨c, hc⟩ := Int.eq_ofNat_of_zero_le (Int.emod_nonneg (sd / 6) (show (12 : Int) ≠ 0 by decide))
        refine ⟨_, rfl, _, rfl, _, rfl, a0, _, rfl, SqL.of upd_same, fun p hp2 => ?_⟩
        have hbp : a0 ≠ p := ne_of_none upd_same hp2
        have hp3 := hp2
        have s3 := s2.trans (same_new (o := .lst (cutV (sv W1) (some (sd / 6 % 12)) none)) hp2)
        refine ⟨_, rfl, _, rfl, _, rfl, a0, _, rfl, SqL.of (by rw [upd_ne hbp]; exact upd_same), fun q hq => ?_⟩
        have hpq : p ≠ q := ne_of_none upd_same hq
        have s4 := s3.trans (same_new (o := .lst (cutV (sv W1) none (some (sd / 6 % 12)))) hq)
        refine ⟨p, q, _, _, rfl, rfl, by rw [upd_ne hpq]; exact upd_same, upd_same, ?_, fun t ht => ?_⟩
        · rw [hc, cut_dropG, cut_takeG]
          refine Nat.le_trans (m := 24) ?_ (by decide)
          rw [List.length_drop, List.length_take]
          show 12 - c + min c 12 ≤ 24
          omega
        · have s5 := s4.trans (same_new (o := .lst (cutV (sv W1) (some (sd / 6 % 12)) none ++ cutV (sv W1) none (some (sd / 6 % 12)))) ht)
          refine ⟨_, rfl, _, rfl, t, _, rfl, SqL.of upd_same, fun r hr2 => ?_⟩
          have s6 := s5.trans (same_new (o := .lst (cutV (cutV (sv W1) (some (sd / 6 % 12)) none ++ cutV (sv W1) none (some (sd / 6 % 12))) none (some (n : Int)))) hr2)
          have eL : cutV (cutV (sv W1) (some (sd / 6 % 12)) none ++ cutV (sv W1) none (some (sd / 6 % 12))) none (some (n : Int)) = sv ((((W1).drop c) ++ (W1).take c).take n) := by
            rw [hc, cut_dropG, cut_takeG, cut_takeG, sv_drop, sv_take, sv_app, sv_take]
          have pr := rot_perm W1 c
          refine k r _ _ s6 (by rw [← eL]; exact upd_same) ?_ ?_
          · rw [List.length_take, pr.length_eq, show (W1).length = 12 from rfl]; omega
          · exact w1_ok.sub pr (List.take_sublist _ _)
    · refine ⟨by show 0 ≤ sizeLine; decide, fun D hD => ?_⟩
      have s0 := same_new (o := .lst []) hD
      refine ⟨_, rfl, _, rfl, by omega, by omega, for_range (n := ((n : Nat) : Int).toNat) (fun i σ H2 => Same H H2 ∧ ∃ (ns : List Str) (u1 u2 u3 u4 : Option V), σ = [some (.int (n : Nat)), some (.int sd), none, none, some (.ref D), u1, u2, u3, u4] ∧ H2 D = some (.lst (sv ns)) ∧ Mades sd ns ∧ ns.length = i)
        ⟨s0, [], none, none, none, none, rfl, upd_same, (fun t z e => by simp at e), rfl⟩ ?_ ?_⟩
      · rintro i σ H2 hi ⟨sm, ns, u1, u2, u3, u4, rfl, hd2, hM, hl⟩
        have c0 := Int.emod_nonneg ((0 + (i : Int)) * 5 + sd) (show (12 : Int) ≠ 0 by decide)
        have c1 := Int.emod_lt_of_pos ((0 + (i : Int)) * 5 + sd) (show (0 : Int) < 12 by decide)
        have a0 := Int.emod_nonneg (sd / 12 + (0 + (i : Int))) (show (14 : Int) ≠ 0 by decide)
        have a1 := Int.emod_lt_of_pos (sd / 12 + (0 + (i : Int))) (show (0 : Int) < 14 by decide)
        have b0 := Int.emod_nonneg (sd / 7 + (0 + (i : Int)) * 3) (show (14 : Int) ≠ 0 by decide)
        have b1 := Int.emod_lt_of_pos (sd / 7 + (0 + (i : Int)) * 3) (show (0 : Int) < 14 by decide)
        have m0 := Int.emod_nonneg (sd / 5 + (0 + (i : Int)) * 2) (show (3 : Int) ≠ 0 by decide)
        have m1 := Int.emod_lt_of_pos (sd / 5 + (0 + (i : Int)) * 2) (show (0 : Int) < 3 by decide)
        have n0 := Int.emod_nonneg (sd / 11 + (0 + (i : Int))) (show (4 : Int) ≠ 0 by decide)
        have n1 := Int.emod_lt_of_pos (sd / 11 + (0 + (i : Int))) (show (0 : Int) < 4 by decide)
        have p0 := Int.emod_nonneg (sd / 2) (show (3 : Int) ≠ 0 by decide)
        have p1 := Int.emod_lt_of_pos (sd / 2) (show (0 : Int) < 3 by decide)
        have q0 := Int.emod_nonneg (sd / 6) (show (3 : Int) ≠ 0 by decide)
        have q1 := Int.emod_lt_of_pos (sd / 6) (show (0 : Int) < 3 by decide)
        refine ⟨_, rfl, _, _, rfl, rfl, .inr (by decide), _, rfl, _, _, rfl, rfl, .inl ⟨_, rfl, _, _, rfl, rfl, by show (0 : Int) < 12; decide, _, _, _, rfl, rfl, core_len, core_at c0 c1, ?_⟩⟩
        refine ⟨_, rfl, _, _, rfl, rfl, ⟨by decide, by decide⟩, _, rfl, _, _, rfl, rfl, .inl ⟨_, rfl, _, _, rfl, rfl, by show (0 : Int) < 14; decide, _, _, _, rfl, rfl, left_len, left_at a0 a1, ?_⟩⟩
        refine ⟨_, rfl, _, _, rfl, rfl, ⟨by decide, by decide⟩, _, rfl, _, _, rfl, rfl, .inr (by decide), _, _, rfl, rfl, .inl ⟨_, rfl, _, _, rfl, rfl, by show (0 : Int) < 3; decide, _, _, rfl, rfl, mulOk1 _ m0 (by omega), ?_⟩⟩
        refine ⟨_, rfl, _, _, rfl, rfl, ⟨by decide, by decide⟩, _, rfl, _, _, rfl, rfl, .inr (by decide), _, _, rfl, rfl, .inl ⟨_, rfl, _, _, rfl, rfl, by show (0 : Int) < 14; decide, _, _, _, rfl, rfl, right_len, right_at b0 b1, ?_⟩⟩
        refine ⟨_, rfl, _, _, rfl, rfl, ⟨by decide, by decide⟩, _, rfl, _, _, rfl, rfl, .inl ⟨_, rfl, _, _, rfl, rfl, by show (0 : Int) < 4; decide, _, _, rfl, rfl, mulOk1 _ n0 (by omega), ?_⟩⟩
        have sl := side1 (c := 109 + ((sd / 12 + (0 + (i : Int))) % 14).toNat) (n := (sd / 5 + (0 + (i : Int)) * 2) % 3) (by omega) (by omega) m0 (by omega)
        have sr := side1 (c := 122 - ((sd / 7 + (0 + (i : Int)) * 3) % 14).toNat) (n := (sd / 11 + (0 + (i : Int))) % 4) (by omega) (by omega) n0 (by omega)
        have ecore : ((0 + (i : Int)) * 5 + sd) % 12 = ((ns.length : Int) * 5 + sd) % 12 := by rw [hl, Int.zero_add]
        have fin : ∀ (l r : Str), Side l → Side r → l.length + 1 ≤ sizeLine ∧ (l ++ l1 (97 + (((0 + (i : Int)) * 5 + sd) % 12).toNat)).length + r.length ≤ sizeLine ∧ Mades sd (ns ++ [l ++ l1 (97 + (((0 + (i : Int)) * 5 + sd) % 12).toNat) ++ r]) := fun l r hl2 hr2 => by
          have x1 := hl2.2
          have x2 := hr2.2
          refine ⟨Nat.le_trans (m := 24) (by omega) (by decide), Nat.le_trans (m := 24) ?_ (by decide), hM.app ?_⟩
          · rw [Str.length_append, show (l1 (97 + (((0 + (i : Int)) * 5 + sd) % 12).toNat)).length = 1 from rfl]; omega
          · rw [← ecore]; exact made_of hl2 hr2 (by omega) (by omega)
        refine ⟨_, rfl, .inl ⟨_, rfl, _, _, rfl, rfl, by show (0 : Int) < 2; decide, rfl, _, rfl, ite2 (fun hb2 => ?_) (fun hb2 => ?_)⟩⟩
        · refine ⟨_, rfl, _, _, rfl, rfl, ⟨by decide, by decide⟩, .inl ⟨_, rfl, _, _, rfl, rfl, by show (0 : Int) < 3; decide, _, _, rfl, rfl, by rw [em]; exact mulOk1 _ p0 (by omega), ?_⟩⟩
          refine ⟨_, rfl, _, _, rfl, rfl, ⟨by decide, by decide⟩, .inl ⟨_, rfl, _, _, rfl, rfl, by show (0 : Int) < 3; decide, _, _, rfl, rfl, by rw [ez]; exact mulOk1 _ q0 (by omega), ?_⟩⟩
          have sl2 := side1 (c := 109) (n := sd / 2 % 3) (by omega) (by omega) p0 (by omega)
          have sr2 := side1 (c := 122) (n := sd / 6 % 3) (by omega) (by omega) q0 (by omega)
          rw [← em] at sl2
          rw [← ez] at sr2
          obtain ⟨f1, f2, f3⟩ := fin _ _ sl2 sr2
          refine ⟨_, rfl, .inl ⟨rfl, _, SqL.of hd2⟩, _, rfl, _, rfl, _, _, rfl, rfl, f1, _, rfl, _, _, rfl, rfl, f2, D, _, _, rfl, rfl, hd2, small_int (by rw [len_sv]; omega), ?_⟩
          refine ⟨fun x u e => ?_, _, _, _, _, _, rfl, ?_, f3, by rw [List.length_append, hl]; rfl⟩
          · rw [upd_ne (ne_of_none e hD)]; exact sm _ _ e
          · rw [sv_snoc']; exact upd_same
        · obtain ⟨f1, f2, f3⟩ := fin _ _ sl sr
          refine ⟨_, rfl, .inl ⟨rfl, _, SqL.of hd2⟩, _, rfl, _, rfl, _, _, rfl, rfl, f1, _, rfl, _, _, rfl, rfl, f2, D, _, _, rfl, rfl, hd2, small_int (by rw [len_sv]; omega), ?_⟩
          refine ⟨fun x u e => ?_, _, _, _, _, _, rfl, ?_, f3, by rw [List.length_append, hl]; rfl⟩
          · rw [upd_ne (ne_of_none e hD)]; exact sm _ _ e
          · rw [sv_snoc']; exact upd_same
      · rintro σ H2 ⟨sm, ns, u1, u2, u3, u4, rfl, hd2, hM, hl⟩
        rw [Int.toNat_natCast] at hl
        exact ⟨_, rfl, k D ns H2 sm hd2 hl (hM.nms (by omega))⟩
end
end My
set_option maxRecDepth 100000
set_option maxHeartbeats 4000000
set_option exponentiation.threshold 10000
namespace My
open PySem L2
abbrev ivs (b : List Int) : List V := b.map V.int
def stepsM : List Int := [0, 1, 2, 3, 0, 1, 5, 40, 0, 2, 7, 90000]
theorem stepsM_le : ∀ v ∈ stepsM, 0 ≤ v ∧ v ≤ 90000 := by decide
/-- years that never fall -/
structure Yrs (ys : List Int) : Prop where
  up : ys.Pairwise (· ≤ ·)
  lo : ∀ y ∈ ys, 0 ≤ y
  hi : ∀ y ∈ ys, y + 90000 ≤ 90000 * (ys.length : Int)
section
variable {P : Program} {w : World} {K : PySem.W.Frag} {mg : Str → Option Value} {base : Heap} {A : Ad}
def spSteps (K : PySem.W.Frag) : Sp := fun vs H Q _ => ∃ (p : Addr) (ps : List Int) (st : Int) (c : Nat), vs = [.ref p, .int st, .int (c : Nat)] ∧ SqL K H p (ps.map V.int) ∧ 0 ≤ st ∧ st + c ≤ ps.length ∧ c ≤ 12 ∧
  ∀ D ys H', Same H H' → H D = none → H' D = some (.lst (ivs ys)) → ys.length = c → Yrs ys → Q (.ref D) H'
theorem ok_steps (T : Txt P K mg A) : FnOk P w K mg base CX0 1 A.a_law_steps A.d_law_steps ["pool", "start", "count"] (spSteps K) := by
  refine T.F_law_steps.ok sc_law_steps (fun vs H Q E h => ?_) (fun cdv A' outer s H vs Q E hr h => ?_)
  · obtain ⟨p, ps, st, c, rfl, _⟩ := h
    rfl
  · obtain ⟨p, ps, st, c, rfl, hP, h0, hl, hc, k⟩ := h
    refine ⟨_, (pss_cons (ps_set (i := 3) sc_law_steps.nd rfl (Or.inl rfl) (pe_lst (pa_cons pe_int (pa_cons pe_int (pa_cons pe_int (pa_cons pe_int (pa_cons pe_int (pa_cons pe_int (pa_cons pe_int (pa_cons pe_int (pa_cons pe_int (pa_cons pe_int (pa_cons pe_int (pa_cons pe_int pa_nil))))))))))))))
      (pss_cons (ps_set (i := 4) sc_law_steps.nd rfl (Or.inl rfl) (pe_lst pa_nil))
      (pss_cons (ps_set (i := 5) sc_law_steps.nd rfl (Or.inl rfl) pe_int)
      (pss_cons (ps_for PassesOwn.never rfl (pi_range1 (by rfl) T.n_range (pa_cons (pv 2) pa_nil)) (pg_name (i := 6) sc_law_steps.nd rfl (Or.inl rfl))
        (pss_cons (ps_expr (pe_bm PySem.F.plainAttrs_list PySem.F.slot_list_append PySem.F.type_list_append mt_append (pv 4) (pa_cons (pv 5) pa_nil)))
      (pss_one (ps_set (i := 5) sc_law_steps.nd rfl (Or.inl rfl) (pe_op op_add (pv 5) (pe_ix ix_list (pv 3) (pe_op op_mod (pe_callTy call_int1 (by rfl) T.n_int (by decide +kernel) (pa_cons (pe_ix ix_list (pv 0) (pe_op op_add (pv 1) (pv 6)) (fun _ _ => rfl)) pa_nil)) pe_int) (fun _ _ => rfl)))))))
      (pss_one (ps_ret (pv 4))))))), ?_⟩
    refine ⟨by show 12 ≤ sizeLine; decide, fun m hm => ?_⟩
    have s1 := same_new (o := .lst (stepsM.map V.int)) hm
    have hm1 := upd_same (H := H) (a := m) (o := .lst (stepsM.map V.int))
    refine ⟨by show 0 ≤ sizeLine; decide, fun D hD => ?_⟩
    have hmD : m ≠ D := ne_of_none hm1 hD
    have s2 := s1.trans (same_new (o := .lst []) hD)
    have hDn : H D = none := none_of s1 hD
    refine ⟨_, rfl, _, rfl, by omega, by omega, for_range (n := ((c : Nat) : Int).toNat) (fun i σ H2 => Same H H2 ∧ ∃ (ys : List Int) (now : Int) (u : Option V), σ = [some (.ref p), some (.int st), some (.int (c : Nat)), some (.ref m), some (.ref D), some (.int now), u] ∧ H2 m = some (.lst (stepsM.map V.int)) ∧ H2 D = some (.lst (ivs ys)) ∧ ys.length = i ∧ Yrs ys ∧ (∀ y ∈ ys, y ≤ now) ∧ 0 ≤ now ∧ now ≤ 90000 * (i : Int))
      ⟨s2, [], 0, none, rfl, by rw [upd_ne hmD]; exact hm1, upd_same, rfl, ⟨List.Pairwise.nil, (fun y h => nomatch h), (fun y h => nomatch h)⟩, (fun y h => nomatch h), by decide, by decide⟩ ?_ ?_⟩
    · rintro i σ H2 hi ⟨sm, ys, now, u, rfl, h2m, h2, hyl, hY, hn, h0n, hn9⟩
      obtain ⟨v, hv, e⟩ := atI_ok (xs := ps) (j := st + (0 + (i : Int))) (by omega) (by omega)
      have m0 := Int.emod_nonneg v (show (12 : Int) ≠ 0 by decide)
      have m1 := Int.emod_lt_of_pos v (show (0 : Int) < 12 by decide)
      obtain ⟨g, hg, eg⟩ := atI_ok (xs := stepsM) (j := v % 12) m0 (by show v % 12 < 12; exact m1)
      have hg9 := stepsM_le g hg
      refine ⟨_, rfl, .inl ⟨rfl, _, SqL.of h2⟩, _, rfl, D, _, _, rfl, rfl, h2, small_int (by rw [List.length_map]; omega), ?_⟩
      have hm3 : upd H2 D (.lst (ivs ys ++ [V.int now])) m = some (.lst (stepsM.map V.int)) := by rw [upd_ne hmD]; exact h2m
      have s3 : Same H (upd H2 D (.lst (ivs ys ++ [V.int now]))) := fun x u e => by rw [upd_ne (ne_of_none e hDn)]; exact sm _ _ e
      have hd3 := upd_same (H := H2) (a := D) (o := .lst (ivs ys ++ [V.int now]))
      generalize upd H2 D _ = H3 at hm3 s3 hd3 ⊢
      refine ⟨_, rfl, _, rfl, _, rfl, _, rfl, _, rfl, _, _, rfl, rfl, p, _, _, _, rfl, rfl, s3.seq hP, e, .inl ⟨_, rfl, _, _, rfl, rfl, by show (0 : Int) < 12; decide, m, _, _, _, rfl, rfl, SqL.of hm3, eg, ?_⟩⟩
      refine ⟨_, _, rfl, rfl, s3, ys ++ [now], _, _, rfl, hm3, by rw [hd3]; show _ = some (HO.lst ((ys ++ [now]).map V.int)); rw [List.map_append]; rfl, by rw [List.length_append, hyl]; rfl, ⟨?_, ?_, ?_⟩, ?_, by omega, by push_cast; omega⟩
      · rw [List.pairwise_append]
        exact ⟨hY.up, by simp, fun a ha b hb => by rw [List.mem_singleton.mp hb]; exact hn a ha⟩
      · intro y hy
        rcases List.mem_append.mp hy with h | h
        · exact hY.lo y h
        · rw [List.mem_singleton.mp h]; exact h0n
      · intro y hy
        rw [List.length_append, hyl]
        show y + 90000 ≤ 90000 * ((i + 1 : Nat) : Int)
        rcases List.mem_append.mp hy with h | h
        · have := hn y h; omega
        · rw [List.mem_singleton.mp h]; omega
      · intro y hy
        rcases List.mem_append.mp hy with h | h
        · have := hn y h; omega
        · rw [List.mem_singleton.mp h]; omega
    · rintro σ H2 ⟨sm, ys, now, u, rfl, h2m, h2, hyl, hY, _⟩
      exact ⟨_, rfl, k D ys H2 sm hDn h2 (by omega) hY⟩
end
end My
set_option maxRecDepth 100000
set_option maxHeartbeats 4000000
set_option exponentiation.threshold 10000
namespace My
open PySem L2
abbrev TW := Str × Int × Int
def w3 (s : TW) : List V := [.str s.1, .int s.2.1, .int s.2.2]
/-- at ts stand the told windows ss -/
structure Tl (sq : Hp → Addr → List V → Prop) (H : Hp) (ts : List Addr) (ss : List TW) : Prop where
  len : ts.length = ss.length
  at_ : ∀ (i : Nat) (t : Addr) (s : TW), ts[i]? = some t → ss[i]? = some s → sq H t (w3 s)
theorem Tl.imp {sq sq' : Hp → Addr → List V → Prop} {H H' : Hp} {ts : List Addr} {ss : List TW} (h : Tl sq H ts ss) (f : ∀ t s, sq H t (w3 s) → sq' H' t (w3 s)) : Tl sq' H' ts ss := ⟨h.len, fun i t s a b => f t s (h.at_ i t s a b)⟩
theorem Tl.get {sq : Hp → Addr → List V → Prop} {H : Hp} {ts : List Addr} {ss : List TW} (h : Tl sq H ts ss) {i : Nat} {t : Addr} (hi : ts[i]? = some t) : ∃ s, ss[i]? = some s ∧ sq H t (w3 s) := by
  have hx : i < ss.length := by rw [← h.len]; exact (List.getElem?_eq_some_iff.mp hi).1
  exact ⟨ss[i], List.getElem?_eq_getElem hx, h.at_ i _ _ hi (List.getElem?_eq_getElem hx)⟩
theorem Tl.ex {sq : Hp → Addr → List V → Prop} {H : Hp} {ts : List Addr} {ss : List TW} (h : Tl sq H ts ss) {i : Nat} {s : TW} (hi : ss[i]? = some s) : ∃ t, ts[i]? = some t ∧ sq H t (w3 s) := by
  have hx : i < ts.length := by rw [h.len]; exact (List.getElem?_eq_some_iff.mp hi).1
  exact ⟨ts[i], List.getElem?_eq_getElem hx, h.at_ i _ _ (List.getElem?_eq_getElem hx) hi⟩
theorem Tl.nil {sq : Hp → Addr → List V → Prop} {H : Hp} : Tl sq H [] [] := ⟨rfl, fun i t s a => by simp at a⟩
theorem Tl.app {sq : Hp → Addr → List V → Prop} {H : Hp} {ts us : List Addr} {ss rs : List TW} (h : Tl sq H ts ss) (g : Tl sq H us rs) : Tl sq H (ts ++ us) (ss ++ rs) := by
  refine ⟨by rw [List.length_append, List.length_append, h.len, g.len], fun i t s a b => ?_⟩
  by_cases hi : i < ts.length
  · rw [List.getElem?_append_left hi] at a
    rw [List.getElem?_append_left (by rw [← h.len]; exact hi)] at b
    exact h.at_ i t s a b
  · rw [List.getElem?_append_right (by omega)] at a
    rw [List.getElem?_append_right (by rw [← h.len]; omega), ← h.len] at b
    exact g.at_ _ t s a b
theorem Tl.one {sq : Hp → Addr → List V → Prop} {H : Hp} {t : Addr} {s : TW} (h : sq H t (w3 s)) : Tl sq H [t] [s] := ⟨rfl, fun i u r a b => by
  cases i with
  | zero => cases a; cases b; exact h
  | succ n => simp at a⟩
theorem Tl.take {sq : Hp → Addr → List V → Prop} {H : Hp} {ts : List Addr} {ss : List TW} (h : Tl sq H ts ss) (n : Nat) : Tl sq H (ts.take n) (ss.take n) := ⟨by rw [List.length_take, List.length_take, h.len], fun i t s a b => by
  rw [List.getElem?_take] at a b
  split at a
  · rename_i hi; rw [if_pos hi] at b; exact h.at_ i t s a b
  · cases a⟩
theorem Tl.drop {sq : Hp → Addr → List V → Prop} {H : Hp} {ts : List Addr} {ss : List TW} (h : Tl sq H ts ss) (n : Nat) : Tl sq H (ts.drop n) (ss.drop n) := ⟨by rw [List.length_drop, List.length_drop, h.len], fun i t s a b => by
  rw [List.getElem?_drop] at a b
  exact h.at_ _ t s a b⟩
theorem sqt_updL {K : PySem.W.Frag} {H : Hp} {a b : Addr} {xs ys : List V} {o : HO} (h : SqT K H a xs) (hb : H b = some (.lst ys)) : SqT K (upd H b o) a xs := by
  rcases h with (r | ⟨c, r⟩) | z
  · exact .inl (.inl (by rw [upd_ne (ne_of r hb (fun z => nomatch z))]; exact r))
  · exact .inl (.inr ⟨c, by rw [upd_ne (ne_of r hb (fun z => nomatch z))]; exact r⟩)
  · exact .inr z
theorem sqt_updI {K : PySem.W.Frag} {H : Hp} {a b C dx : Addr} {xs : List V} {f : List (Str × V)} {o : HO} (h : SqT K H a xs) (hb : H b = some (.ins C dx f)) : SqT K (upd H b o) a xs := by
  rcases h with (r | ⟨c, r⟩) | z
  · exact .inl (.inl (by rw [upd_ne (ne_of r hb (fun z => nomatch z))]; exact r))
  · exact .inl (.inr ⟨c, by rw [upd_ne (ne_of r hb (fun z => nomatch z))]; exact r⟩)
  · exact .inr z
def firstI (n : Nat) (f : Nat → Bool) : Option Nat := (List.range n).find? f
theorem firstI_some {n : Nat} {f : Nat → Bool} {i : Nat} (hi : i < n) (h1 : f i = true) (h2 : ∀ j, j < i → f j = false) : firstI n f = some i := by
  unfold firstI
  rw [List.find?_range_eq_some]
  exact ⟨h1, List.mem_range.mpr hi, fun j hj => by rw [h2 j hj]; rfl⟩
theorem firstI_none {n : Nat} {f : Nat → Bool} (h2 : ∀ j, j < n → f j = false) : firstI n f = none := by
  unfold firstI
  rw [List.find?_eq_none]
  intro j hj
  rw [h2 j (List.mem_range.mp hj)]
  exact Bool.false_ne_true
theorem firstI_no {n : Nat} {f : Nat → Bool} (h : firstI n f = none) : ∀ j, j < n → f j = false := fun j hj => by
  unfold firstI at h
  rw [List.find?_eq_none] at h
  have := h j (List.mem_range.mpr hj)
  cases e : f j with
  | true => exact absurd e this
  | false => rfl
def fldsS (tb ut : Addr) : List (Str × V) := putF "told" (.ref ut) (putF "table" (.ref tb) [])
theorem fldsS_table (tb ut : Addr) : (fldsS tb ut).lookup ("table" : Str) = some (.ref tb) := by
  unfold fldsS; rw [lookup_putF, if_neg (by decide +kernel), lookup_putF, if_pos rfl]
theorem fldsS_told (tb ut : Addr) : (fldsS tb ut).lookup ("told" : Str) = some (.ref ut) := by
  unfold fldsS; rw [lookup_putF, if_pos rfl]
/-- the name is a column, no name comes twice, the ends are in their bounds -/
def okW (cs : List Str) (earlier : List Str) (s : TW) : Bool := decide (s.1 ∈ cs) && (!decide (s.1 ∈ earlier) && decide (-1000000 ≤ s.2.1 ∧ s.2.1 ≤ s.2.2 ∧ s.2.2 ≤ 1000000))
abbrev nms (ss : List TW) : List Str := ss.map (·.1)
def badW (cs : List Str) (ss : List TW) (i : Nat) : Bool := !okW cs (nms (ss.take i)) (ss.getD i ("", 0, 0))
theorem badW_at {cs : List Str} {ss : List TW} {i : Nat} {s : TW} (h : ss[i]? = some s) : badW cs ss i = !okW cs (nms (ss.take i)) s := by
  unfold badW; rw [List.getD_eq_getElem?_getD, h]; rfl
def winFault (cs : List Str) (ss : List TW) : Option Nat := firstI ss.length (badW cs ss)
def Wns (C CT : Addr) (K : PySem.W.Frag) (H : Hp) (p tb : Addr) (cs : List Str) (rs : List (List Str)) (ss : List TW) : Prop := ∃ dx ut us, H p = some (.ins C dx (fldsS tb ut)) ∧ TbD CT H tb cs rs ∧ H ut = some (.tup (us.map V.ref)) ∧ Tl (SqT K) H us ss
theorem Wns.same {C CT : Addr} {K : PySem.W.Frag} {H H' : Hp} {p tb : Addr} {cs : List Str} {rs : List (List Str)} {ss : List TW} (h : Wns C CT K H p tb cs rs ss) (e : Same H H') : Wns C CT K H' p tb cs rs ss :=
  let ⟨dx, ut, us, h1, h2, h3, h4⟩ := h; ⟨dx, ut, us, e _ _ h1, h2.same e, e _ _ h3, h4.imp fun t s q => e.tup q⟩
theorem fldsT_has (ct rt : Addr) : (fldsT ct rt).lookup ("has" : Str) = none := by
  unfold fldsT; rw [lookup_putF, if_neg (by decide +kernel), lookup_putF, if_neg (by decide +kernel)]; rfl
section
variable {P : Program} {w : World} {K : PySem.W.Frag} {mg : Str → Option Value} {base : Heap} {A : Ad}
def spHas (C : Addr) : Sp := fun vs H Q _ => ∃ p z cs rs, vs = [.ref p, .str z] ∧ TbD C H p cs rs ∧ Q (.bl (decide (z ∈ cs))) H
theorem ok_has (T : Txt P K mg A) : FnOk P w K mg base CX0 1 A.a_Table_has A.d_Table_has ["self", "name"] (spHas A.C_Table) := by
  refine T.F_Table_has.ok sc_Table_has (fun vs H Q E h => ?_) (fun cdv A' outer s H vs Q E hr h => ?_)
  · obtain ⟨p, z, cs, rs, rfl, _⟩ := h
    rfl
  · obtain ⟨p, z, cs, rs, rfl, hT, k⟩ := h
    obtain ⟨dx, ct, rt, ts, h1, hc, _, _⟩ := hT
    refine ⟨_, (pss_one (ps_ret (pe_cmpR op_in_seq (pv 1) (pe_fld (pv 0) rfl) (by with_unfolding_all rfl)))), ?_⟩
    refine ⟨_, rfl, _, rfl, _, _, _, _, _, rfl, h1, T.cl_Table, T.n_Table_columns, fldsT_columns _ _, ct, _, rfl, .inr hc.sq, rfl, flat_sv _, ?_⟩
    rw [if_neg Bool.false_ne_true, inV_str]
    exact k
theorem Txt.ko_self (T : Txt P K mg A) : PySem.W.kitOne K (.ref A.C_Table) (.ref A.C_Table) = some true := by
  unfold PySem.W.kitOne
  rw [if_pos (by simp)]
theorem Txt.ty (T : Txt P K mg A) {H : Hp} {p dx : Addr} {fs : List (Str × V)} (h : H p = some (.ins A.C_Table dx fs)) : TyX K H (.ref p) (.ref A.C_Table) :=
  .base (.ins h T.cl_Table T.c1_Table T.c2 T.c4 T.c3_Table)
theorem lay_pddT {rs : List (List Str)} (h : ∀ r ∈ rs, ∀ z ∈ r, Good z) : SeqAt.shaped (.tuple (pdd rs)) = true := shapedT (lay_pdd fun r hr z hz => okz_good (h r hr z hz)) (by have := depth_pdd rs; omega)
theorem good_canon {cs : List Str} {rs : List (List Str)} (g : ∀ z ∈ cs, Good z) : ∀ r ∈ rs.map (canon cs), ∀ z ∈ r, Good z := fun r hr z hz => by
  obtain ⟨x, _, rfl⟩ := List.mem_map.mp hr
  exact g z (List.mem_filter.mp hz).1
/-- two tables of the same columns and rows are equal -/
def spEq (C : Addr) : Sp := fun vs H Q _ => ∃ p1 p2 cs rs, vs = [.ref p1, .ref p2] ∧ TbD C H p1 cs rs ∧ TbD C H p2 cs rs ∧ (∀ z ∈ cs, Good z) ∧ Q (.bl true) H
theorem ok_eq (T : Txt P K mg A) : FnOk P w K mg base CX0 1 A.a_Table_eq A.d_Table_eq ["self", "other"] (spEq A.C_Table) := by
  refine T.F_Table_eq.ok sc_Table_eq (fun vs H Q E h => ?_) (fun cdv A' outer s H vs Q E hr h => ?_)
  · obtain ⟨p1, p2, cs, rs, rfl, _⟩ := h
    rfl
  · obtain ⟨p1, p2, cs, rs, rfl, t1, t2, g, k⟩ := h
    obtain ⟨d1, c1, r1, ts1, h1, hc1, hr1, hs1⟩ := t1
    obtain ⟨d2, c2, r2, ts2, h2, hc2, hr2, hs2⟩ := t2
    refine ⟨_, (pss_one (ps_ret (pe_and (pe_callB call_isi (by rfl) T.n_isinstance (by decide +kernel) (pa_cons (pv 1) (pa_cons (pe_glob (v := .ref A.C_Table) rfl T.mg_Table rfl) pa_nil))) (pe_and (pe_cmpR (op_eqD hr.units) (pe_fld (pv 0) rfl) (pe_fld (pv 1) rfl) (nomark _)) (pe_one (pe_cmpR (op_eqD hr.units) (pe_fld (pv 0) rfl) (pe_fld (pv 1) rfl) (nomark _))))))), ?_⟩
    have gc := good_canon (rs := rs) g
    refine ⟨_, rfl, _, _, _, _, true, rfl, .own _, T.ty h2, T.ko_self, true, rfl, iteT ?_⟩
    refine ⟨_, rfl, _, _, _, _, _, rfl, h1, T.cl_Table, T.n_Table_columns, fldsT_columns _ _, _, rfl, _, _, _, _, _, rfl, h2, T.cl_Table, T.n_Table_columns, fldsT_columns _ _, .tuple (pd cs), .tuple (pd cs), .tup (xs := sv cs) (hc1.sq) (dp_pd cs), .tup (xs := sv cs) (hc2.sq) (dp_pd cs), shaped_pdT (fun z hz => okz_good (g z hz)), shaped_pdT (fun z hz => okz_good (g z hz)), ?_⟩
    refine ⟨_, rfl, ifT (eqvT (lay_all fun z hz => okz_good (g z hz))) ?_⟩
    refine ⟨_, rfl, _, _, _, _, _, rfl, h1, T.cl_Table, T.n_Table_rows, fldsT_rows _ _, _, rfl, _, _, _, _, _, rfl, h2, T.cl_Table, T.n_Table_rows, fldsT_rows _ _, .tuple (pdd (rs.map (canon cs))), .tuple (pdd (rs.map (canon cs))), .tup (hr1.sq) (dp_pdd hs1), .tup (hr2.sq) (dp_pdd hs2), lay_pddT gc, lay_pddT gc, ?_⟩
    rw [eqvT (lay_pdd fun r hr z hz => okz_good (gc r hr z hz))]
    exact k
def spIsNum : Sp := fun vs H Q _ => ∃ (v a b : Int), vs = [.int v, .int a, .int b] ∧ Q (.bl (decide (a ≤ v ∧ v ≤ b))) H
theorem ok_isNum (T : Txt P K mg A) : FnOk P w K mg base CX0 1 A.a_law_is_number A.d_law_is_number ["value", "least", "most"] spIsNum := by
  refine T.F_law_is_number.ok sc_law_is_number (fun vs H Q E h => ?_) (fun cdv A' outer s H vs Q E hr h => ?_)
  · obtain ⟨v, a, b, rfl, _⟩ := h
    rfl
  · obtain ⟨v, a, b, rfl, k⟩ := h
    refine ⟨_, (pss_one (ps_ret (pe_and (pe_callB call_isi (by rfl) T.n_isinstance (by decide +kernel) (pa_cons (pv 0) (pa_cons (pe_bltn (v := .ty "int") (by rfl) T.n_int (by decide +kernel) rfl) pa_nil))) (pe_and (pe_not (pe_callB call_isi (by rfl) T.n_isinstance (by decide +kernel) (pa_cons (pv 0) (pa_cons (pe_bltn (v := .ty "bool") (by rfl) T.n_bool (by decide +kernel) rfl) pa_nil)))) (pe_and (pe_cmpR op_le (pv 1) (pv 0) (nomark _)) (pe_one (pe_cmpR op_le (pv 0) (pv 2) (nomark _)))))))), ?_⟩
    refine ⟨_, rfl, _, _, _, _, true, rfl, .ty _, .base (.int _), kit_ty (by decide +kernel), true, rfl, iteT ?_⟩
    refine ⟨_, rfl, _, _, _, _, false, rfl, .ty _, .base (.int _), kit_ty (by decide +kernel), false, rfl, true, rfl, iteT ?_⟩
    refine ⟨_, rfl, _, rfl, _, _, rfl, rfl, _, rfl, ?_⟩
    by_cases h1 : a ≤ v
    · refine itY h1 ⟨_, rfl, _, rfl, _, _, rfl, rfl, ?_⟩
      rw [show decide (a ≤ v ∧ v ≤ b) = decide (v ≤ b) from decide_eq_decide.mpr ⟨fun h => h.2, fun h => ⟨h1, h⟩⟩] at k
      exact k
    · refine itN h1 ?_
      rw [decide_eq_false (fun h => h1 h.1)] at k
      exact k
end
end My
set_option maxRecDepth 100000
set_option maxHeartbeats 4000000
set_option exponentiation.threshold 10000
namespace My
open PySem L2
theorem TbD.upN {C D : Addr} {H : Hp} {p b dx : Addr} {cs : List Str} {rs : List (List Str)} {f : List (Str × V)} {o : HO} (h : TbD C H p cs rs) (hb : H b = some (.ins D dx f)) (hf : f.length ≤ 1) : TbD C (upd H b o) p cs rs := by
  obtain ⟨dxt, ct, rt, ts, h1, h2, h3, h4⟩ := h
  have nb : ∀ a u, H a = some u → u ≠ .ins D dx f → upd H b o a = some u := fun a u e hne => by
    rw [upd_ne (fun z => hne (by rw [z, hb] at e; exact (Option.some.inj e).symm))]; exact e
  refine ⟨dxt, ct, rt, ts, nb _ _ h1 (fun z => ?_), h2.upd hb (fun _ _ z => nomatch z), h3.upd hb (fun _ _ z => nomatch z), ⟨h4.len, fun i t x a b => nb _ _ (h4.at_ i t x a b) (fun z => nomatch z)⟩⟩
  have e : fldsT ct rt = f := by injection z
  have a := fldsT_columns ct rt
  have b := fldsT_rows ct rt
  rw [e] at a b
  match f, hf with
  | [], _ => cases a
  | [(x, v)], _ =>
    have hx : ∀ k w, ([(x, v)] : List (Str × V)).lookup k = some w → k = x := fun k w h => by
      simp only [List.lookup] at h
      split at h
      · rename_i q; exact eq_of_beq q
      · cases h
    exact absurd ((hx _ _ a).trans (hx _ _ b).symm) (by decide +kernel)
section
variable {P : Program} {w : World} {K : PySem.W.Frag} {mg : Str → Option Value} {base : Heap} {A : Ad}
def spWin (C CT B : Addr) (K : PySem.W.Frag) : Sp := fun vs H Q E => ∃ p tb l dx cs rs ts ss, vs = [.ref p, .ref tb, .ref l] ∧ H p = some (.ins C dx []) ∧ TbD CT H tb cs rs ∧ SqL K H l (ts.map V.ref) ∧ Tl (SqA K) H ts ss ∧ ss.length ≤ 1000 ∧
  (∀ i, winFault cs ss = some i → ∀ d H', Same H H' → H' d = some (.xd [("index", .int (i : Nat))]) → E (.ref B) (some d) H') ∧
  (winFault cs ss = none → ∀ H', (∀ b o, b ≠ p → H b = some o → H' b = some o) → Wns C CT K H' p tb cs rs ss → Q .non H')
theorem ok_winX (T : Txt P K mg A) : FnOk P w K mg base (L2.CX P w) 3 A.a_Windows_init A.d_Windows_init ["self", "table", "told"] (spWin A.C_Windows A.C_Table A.C_BadWindow K) := by
  have G_Table_has := ok_has (P := P) (w := w) (base := base) T
  have G_BadWindow_init := ok_BadWindow (P := P) (w := w) (base := base) T
  refine funX T.F_Windows_init sc_Windows_init (fun vs H Q E h => ?_) (fun cdv A' outer s H vs Q E hr h => ?_)
  · obtain ⟨p, tb, l, dx, cs, rs, ts, ss, rfl, _⟩ := h
    rfl
  · obtain ⟨p, tb, l, dx, cs, rs, ts, ss, rfl, hp, hT, hL, hs, hsl, ke, kq⟩ := h
    refine ⟨_, (pss_cons (ps_set (i := 3) sc_Windows_init.nd rfl (Or.inl rfl) (pe_lst pa_nil))
      (pss_cons (ps_for (passes_of rfl) rfl (pi_enum (by rfl) T.n_enumerate (pa_cons (pv 2) pa_nil)) (pg_tup (by rfl) (pgs_cons (pg_name (i := 4) sc_Windows_init.nd rfl (Or.inl rfl)) (pgs_cons (pg_sqA (by rfl) (pgs_cons (pg_name (i := 5) sc_Windows_init.nd rfl (Or.inl rfl)) (pgs_cons (pg_name (i := 6) sc_Windows_init.nd rfl (Or.inl rfl)) (pgs_cons (pg_name (i := 7) sc_Windows_init.nd rfl (Or.inl rfl)) pgs_nil)))) pgs_nil)))
        (pss_cons (ps_if (PW.pt (pw_or (pt_not (pt_val (pe_meth (pv 1) T.cl_Table T.m_Table_has G_Table_has (hr.mono (by decide)) T.b_Table_has .nil pass0 (pa_cons (pv 5) pa_nil)))) (pw_or (pt_cmpR op_in_seq (pv 5) (pv 3) (by with_unfolding_all rfl)) (pw_or1 (pt_not (pt_chain3 op_le op_le op_le (pe_un un_neg (pe_glob (v := .int 1000000) rfl T.mg_MOST_YEAR.choose_spec ⟨_, rfl⟩)) (pv 6) (pv 7) (pe_glob (v := .int 1000000) rfl T.mg_MOST_YEAR.choose_spec ⟨_, rfl⟩))))))) (pss_one (ps_raise rfl (takes_of rfl rfl rfl rfl) (pmk_oex T.SC_BadWindow.ox T.ii_BadWindow T.ti_BadWindow G_BadWindow_init (hr.mono (by decide)) T.b_BadWindow_init .nil pass0 rfl T.mg_BadWindow (pa_cons (pv 4) pa_nil)))) pss_nil)
      (pss_one (ps_expr (pe_bm PySem.F.plainAttrs_list PySem.F.slot_list_append PySem.F.type_list_append mt_append (pv 3) (pa_cons (pv 5) pa_nil))))))
      (pss_cons (ps_fld (pv 0) (pv 1) rfl)
      (pss_one (ps_fld (pv 0) (pe_callTy (show CallR _ _ (rTupOf K) from call_tuple_of) (by rfl) T.n_tuple (by decide +kernel) (pa_cons (pe_lc (own := [("window", 8)]) (g := gName 8) (tt := tYes) rfl sc_Windows_init.nd (pi_list (pv 2)) (blkOk_by (N := ["self", "table", "told", "seen", "index", "name", "low", "high", "window"]) (sc := defScope s_Windows_init) (by decide +kernel)) (fun _ _ _ _ _ => (pg_name (i := 8) sc_Windows_init.nd rfl (Or.inl rfl))) (fun _ _ _ _ _ => pts_nil) (fun _ _ _ _ _ => (pe_callTy (show CallR _ _ (rTupOf K) from call_tuple_of) (by rfl) T.n_tuple (by decide +kernel) (pa_cons (pv 8) pa_nil)))) pa_nil)) rfl))))), ?_⟩
    refine ⟨by show 0 ≤ sizeLine; decide, fun SE nSE => ?_⟩
    generalize hG : upd H SE _ = H0
    have q0 : Same H H0 := hG ▸ same_new nSE
    have x0 := (congrFun hG SE).symm.trans upd_same
    clear hG
    refine ⟨_, rfl, l, _, rfl, q0.seq hL, for_it walk_enum (fun i σ H2 => Same H H2 ∧ H2 SE = some (.lst (sv (nms (ss.take i)))) ∧ (∀ j, j < i → badW cs ss j = false) ∧ ∃ u1 u2 u3 u4 u5 : Option V, σ = [some (.ref p), some (.ref tb), some (.ref l), some (.ref SE), u1, u2, u3, u4, u5]) ⟨q0, x0, fun j hj => absurd hj (Nat.not_lt_zero _), none, none, none, none, none, rfl⟩ (fun i σ H2 _ q => q.1.seq hL) ?_ ?_⟩
    · rintro i x σ H2 H3 hi ⟨sm, hse, hb, u1, u2, u3, u4, u5, rfl⟩ ⟨t, _, _, rfl, ht, rfl, ⟨⟩, hx⟩
      obtain ⟨b, hb2, rfl⟩ := refs_get hx
      obtain ⟨s0, hs0, ho⟩ := hs.get hb2
      have hil := (List.getElem?_eq_some_iff.mp hs0).1
      have q3 := same_new (o := .tup [V.int (i : Nat), .ref b]) ht
      have s3 := sm.trans q3
      have hse3 := q3 _ _ hse
      obtain ⟨sn, sl, sh⟩ := s0
      refine ⟨t, _, rfl, SqT.of upd_same, rfl, _, _, rfl, _, _, rfl, ⟨b, _, rfl, s3.sqa ho, rfl, _, _, rfl, _, _, rfl, _, _, rfl, rfl, rfl, ?_⟩⟩
      generalize upd H2 t _ = H4 at s3 hse3 ⊢
      have bad : badW cs ss i = !okW cs (nms (ss.take i)) (sn, sl, sh) := badW_at hs0
      have ret : okW cs (nms (ss.take i)) (sn, sl, sh) = false → ∀ (d : Addr) (H5 : Hp), Same H4 H5 → H5 d = some (.xd [("index", .int (i : Nat))]) → E (.ref A.C_BadWindow) (some d) H5 := fun hf d H5 s5 hd => ke i (firstI_some hil (by rw [bad, hf]; rfl) hb) d H5 (s3.trans s5) hd
      have go : okW cs (nms (ss.take i)) (sn, sl, sh) = true → ∀ j, j < i + 1 → badW cs ss j = false := fun h j hj => by
        rcases Nat.lt_succ_iff_lt_or_eq.mp hj with q | q
        · exact hb j q
        · rw [q, bad, h]; rfl
      have hT4 := hT.same s3
      obtain ⟨dxt, ct, rt, tts, ht1, _⟩ := id hT4
      refine ⟨_, rfl, tb, dxt, _, rfl, ht1, fldsT_has _ _, _, rfl, tb, sn, cs, rs, rfl, hT4, ?_⟩
      by_cases hc : sn ∈ cs
      · rw [decide_eq_true hc]
        refine ⟨_, rfl, ifF rfl ?_⟩
        refine ⟨_, rfl, _, rfl, SE, _, rfl, .inl (SqL.of hse3), rfl, flat_sv _, ?_⟩
        rw [if_neg Bool.false_ne_true, inV_str]
        by_cases hd2 : sn ∈ nms (ss.take i)
        · rw [decide_eq_true hd2]
          have hk : okW cs (nms (ss.take i)) (sn, sl, sh) = false := by unfold okW; rw [decide_eq_true hd2, Bool.not_true, Bool.false_and, Bool.and_false]
          refine ⟨_, rfl, ifT rfl (ifT rfl ⟨_, rfl, (by decide : 1 ≤ 1000), fun a ha => ⟨a, _, rfl, ⟨_, rfl, by rw [Int.natAbs_natCast]; omega⟩, upd_same, fun d hd hne => ⟨rfl, d, _, upd_same, by rw [upd_ne hne, upd_same], by rw [upd_ne hne] at hd; exact hd, by rw [upd_ne hne] at hd; exact ret hk d _ (exc_same ha hd) upd_same⟩⟩⟩)⟩
        · rw [decide_eq_false hd2]
          refine ⟨_, rfl, ifF rfl ?_⟩
          have ek : okW cs (nms (ss.take i)) (sn, sl, sh) = decide (-1000000 ≤ sl ∧ sl ≤ sh ∧ sh ≤ 1000000) := by unfold okW; rw [decide_eq_true hc, decide_eq_false hd2]; rfl
          refine ⟨_, rfl, _, rfl, _, _, rfl, rfl, _, rfl, ?_⟩
          by_cases c1 : -1000000 ≤ sl
          · refine itY c1 ⟨_, rfl, _, _, rfl, rfl, _, rfl, ?_⟩
            by_cases c2 : sl ≤ sh
            · refine itY c2 ⟨_, _, rfl, rfl, _, rfl, ?_⟩
              by_cases c3 : sh ≤ 1000000
              · have hk : okW cs (nms (ss.take i)) (sn, sl, sh) = true := by rw [ek]; exact decide_eq_true ⟨c1, c2, c3⟩
                refine ifF (by rw [decide_eq_true c3]; rfl) ?_
                refine ⟨_, rfl, .inl ⟨rfl, _, SqL.of hse3⟩, _, rfl, SE, _, _, rfl, rfl, hse3, small_int (by rw [len_sv, List.length_map, List.length_take]; omega), ?_⟩
                refine ⟨fun x u e => by rw [upd_ne (ne_of_none e nSE)]; exact s3 _ _ e, ?_, go hk, _, _, _, _, _, rfl⟩
                rw [upd_same, take_succ hs0]
                show some (HO.lst (sv (nms (ss.take i)) ++ [V.str sn])) = some (HO.lst (sv ((ss.take i ++ [(sn, sl, sh)]).map (·.1))))
                rw [List.map_append]
                show _ = some (HO.lst ((nms (ss.take i) ++ [sn]).map V.str))
                rw [List.map_append]; rfl
              · have hk : okW cs (nms (ss.take i)) (sn, sl, sh) = false := by rw [ek]; exact decide_eq_false fun h => c3 h.2.2
                exact ifT (by rw [decide_eq_false c3]; rfl) ⟨_, rfl, (by decide : 1 ≤ 1000), fun a ha => ⟨a, _, rfl, ⟨_, rfl, by rw [Int.natAbs_natCast]; omega⟩, upd_same, fun d hd hne => ⟨rfl, d, _, upd_same, by rw [upd_ne hne, upd_same], by rw [upd_ne hne] at hd; exact hd, by rw [upd_ne hne] at hd; exact ret hk d _ (exc_same ha hd) upd_same⟩⟩⟩
            · have hk : okW cs (nms (ss.take i)) (sn, sl, sh) = false := by rw [ek]; exact decide_eq_false fun h => c2 h.2.1
              exact itN c2 (ifT rfl ⟨_, rfl, (by decide : 1 ≤ 1000), fun a ha => ⟨a, _, rfl, ⟨_, rfl, by rw [Int.natAbs_natCast]; omega⟩, upd_same, fun d hd hne => ⟨rfl, d, _, upd_same, by rw [upd_ne hne, upd_same], by rw [upd_ne hne] at hd; exact hd, by rw [upd_ne hne] at hd; exact ret hk d _ (exc_same ha hd) upd_same⟩⟩⟩)
          · have hk : okW cs (nms (ss.take i)) (sn, sl, sh) = false := by rw [ek]; exact decide_eq_false fun h => c1 h.1
            exact itN c1 (ifT rfl ⟨_, rfl, (by decide : 1 ≤ 1000), fun a ha => ⟨a, _, rfl, ⟨_, rfl, by rw [Int.natAbs_natCast]; omega⟩, upd_same, fun d hd hne => ⟨rfl, d, _, upd_same, by rw [upd_ne hne, upd_same], by rw [upd_ne hne] at hd; exact hd, by rw [upd_ne hne] at hd; exact ret hk d _ (exc_same ha hd) upd_same⟩⟩⟩)
      · rw [decide_eq_false hc]
        have hk : okW cs (nms (ss.take i)) (sn, sl, sh) = false := by unfold okW; rw [decide_eq_false hc]; rfl
        refine ⟨_, rfl, ifT rfl (ifT rfl ⟨_, rfl, (by decide : 1 ≤ 1000), fun a ha => ⟨a, _, rfl, ⟨_, rfl, by rw [Int.natAbs_natCast]; omega⟩, upd_same, fun d hd hne => ⟨rfl, d, _, upd_same, by rw [upd_ne hne, upd_same], by rw [upd_ne hne] at hd; exact hd, by rw [upd_ne hne] at hd; exact ret hk d _ (exc_same ha hd) upd_same⟩⟩⟩)⟩
    · rintro σ H2 ⟨sm, hse, hb, u1, u2, u3, u4, u5, rfl⟩
      have sf0 : winFault cs ss = none := firstI_none fun j hj => hb j (by rw [List.length_map, hs.len]; exact hj)
      have hp2 := sm _ _ hp
      refine ⟨_, rfl, _, rfl, p, _, dx, [], rfl, hp2, T.cl_Windows, T.n_Windows_table, (by show 0 < 1000; decide), ?_⟩
      have hT3 := (hT.same sm).upN (o := .ins A.C_Windows dx (putF "table" (.ref tb) [])) hp2 (by decide)
      generalize hX : upd H2 p _ = H3 at hT3
      have hp3 : H3 p = some (.ins A.C_Windows dx (putF "table" (.ref tb) [])) := by rw [← hX]; exact upd_same
      have sm3 : ∀ b o, b ≠ p → H b = some o → H3 b = some o := fun b o hb e => by
        rw [← hX, upd_ne hb]; exact sm _ _ e
      have h3 : SqL K H3 l (ts.map V.ref) := by
        rw [← hX]; exact seq_upd (sm.seq hL) hp2 (fun xs z => nomatch z) (fun o u z => nomatch z)
      have hs3 : Tl (SqA K) H3 ts ss := hs.imp fun t s q => by rw [← hX]; exact sqa_upd (sm.sqa q) hp2
      clear hX
      refine ⟨_, rfl, l, rfl, ⟨_, h3⟩, fun D hD => lc_it walk_list (fun i H4 => Same H3 H4 ∧ ∃ us : List Addr, H4 D = some (.lst (us.map V.ref)) ∧ Tl (SqT K) H4 us (ss.take i)) ⟨same_new hD, [], upd_same, Tl.nil⟩ (fun i H4 _ q => q.1.seq h3) ?_ ?_⟩
      · rintro i x H4 H5 hi ⟨s4, us, hd4, hl4⟩ ⟨rfl, hx⟩
        obtain ⟨b, hb2, rfl⟩ := refs_get hx
        obtain ⟨y, hy, ho⟩ := hs3.get hb2
        refine ⟨rfl, _, rfl, ?_⟩
        dsimp only [tNil]
        refine tupO (K := K) (s4.sqa ho) fun t H6 s6 ht => ?_
        have hd6 := s6 _ _ hd4
        refine ⟨_, hd6, small_int (by rw [List.length_map, hl4.len, List.length_take]; omega), fun c o e => ?_, us ++ [t], ?_, ?_⟩
        · rw [upd_ne (ne_of_none e hD)]
          exact s6 _ _ (s4 _ _ e)
        · rw [List.map_append]; exact upd_same
        · rw [take_succ hy]
          exact ((hl4.imp fun t s q => s6.tup q).app (Tl.one ht)).imp fun t s q => sqt_updL q hd6
      · rintro H4 ⟨s4, us, hd4, hl4⟩
        rw [List.length_map, hs.len, List.take_length] at hl4
        refine ⟨D, _, rfl, .inl ⟨SqL.of hd4, fun rt hrt => ?_⟩⟩
        have hp4 := s4 _ _ hp3
        have nrp : rt ≠ p := (ne_of_none hp4 hrt).symm
        generalize hG : upd H4 rt _ = H5
        have q5 : Same H4 H5 := hG ▸ same_new hrt
        have x5 := (congrFun hG rt).symm.trans upd_same
        clear hG
        have hp5 := q5 _ _ hp4
        refine ⟨_, rfl, p, _, dx, _, rfl, hp5, T.cl_Windows, T.n_Windows_told, (by show 1 < 1000; decide), ?_⟩
        have s45 := s4.trans q5
        have hl5 := hl4.imp fun t s q => q5.tup q
        refine kq sf0 _ (fun b o hb e => ?_) ⟨dx, rt, us, upd_same, ?_, ?_, ?_⟩
        · rw [upd_ne hb]
          exact s45 _ _ (sm3 b o hb e)
        · exact (hT3.same s45).upN hp5 (by show 1 ≤ 1; decide)
        · rw [upd_ne nrp]; exact x5
        · exact hl5.imp fun t s q => sqt_updI q hp5
end
end My
set_option maxHeartbeats 2000000
namespace My
open PySem L2
/-! ### forced pairs: sorted by places, and drawn by the names -/
abbrev TWs := List (Str × Int × Int)
/-- one's window ends before other's begins -/
def fcd (ss : TWs) (x y : Str) : Bool := ss.any fun a => ss.any fun b => decide (a.1 = x) && (decide (b.1 = y) && decide (a.2.2 < b.2.1))
def forcedD (cs : List Str) (ss : TWs) : List (Str × Str) := cs.flatMap fun x => (cs.filter fun y => fcd ss x y).map fun y => (x, y)
def ixZ (cs : List Str) (z : Str) : Int := ((cs.findIdx fun y => decide (y = z) : Nat) : Int)
/-- the pairs as the comprehension makes them -/
def rawP (cs : List Str) (ss : TWs) (a : Str × Int × Int) : List (Int × Int) := (ss.filter fun b => decide (a.2.2 < b.2.1)).map fun b => (ixZ cs a.1, ixZ cs b.1)
def rawF (cs : List Str) (ss : TWs) : List (Int × Int) := ss.flatMap (rawP cs ss)
def dueP (cs : List Str) (ss : TWs) (i : Nat) : List (Int × Int) := ((List.range cs.length).filter fun j => fcd ss (cs.getD i "") (cs.getD j "")).map fun j => (((i : Nat) : Int), ((j : Nat) : Int))
def dueI (cs : List Str) (ss : TWs) : List (Int × Int) := (List.range cs.length).flatMap (dueP cs ss)
def lxl (p q : Int × Int) : Prop := p.1 < q.1 ∨ (p.1 = q.1 ∧ p.2 < q.2)
theorem ixZ_at {cs : List Str} {z : Str} (h : z ∈ cs) : ∃ i : Nat, ixZ cs z = (i : Int) ∧ cs[i]? = some z := by
  have hl : cs.findIdx (fun y => decide (y = z)) < cs.length := List.findIdx_lt_length_of_exists ⟨z, h, decide_eq_true rfl⟩
  have := List.findIdx_getElem (p := fun y => decide (y = z)) (xs := cs) (w := hl)
  exact ⟨_, rfl, by rw [List.getElem?_eq_getElem hl]; exact congrArg some (of_decide_eq_true this)⟩
theorem ixZ_of {cs : List Str} {z : Str} {i : Nat} (nd : cs.Nodup) (h : cs[i]? = some z) : ixZ cs z = (i : Int) := by
  obtain ⟨j, e, hj⟩ := ixZ_at (List.mem_of_getElem? h)
  rw [e]
  obtain ⟨hi, e1⟩ := List.getElem?_eq_some_iff.mp h
  obtain ⟨hj', e2⟩ := List.getElem?_eq_some_iff.mp hj
  rw [List.nodup_iff_pairwise_ne, List.pairwise_iff_getElem] at nd
  rcases Nat.lt_trichotomy j i with c | c | c
  · exact absurd (e2.trans e1.symm) (nd _ _ hj' hi c)
  · rw [c]
  · exact absurd (e1.trans e2.symm) (nd _ _ hi hj' c)
theorem ixZ_inj {cs : List Str} {x y : Str} (hx : x ∈ cs) (hy : y ∈ cs) (h : ixZ cs x = ixZ cs y) : x = y := by
  obtain ⟨i, ei, hi⟩ := ixZ_at hx
  obtain ⟨j, ej, hj⟩ := ixZ_at hy
  rw [ei, ej] at h
  have : i = j := by omega
  subst this
  rw [hi] at hj
  exact Option.some.inj hj
theorem nodup_fm {α β γ : Type} {f : α → List β} {g : β → γ} {h : α → γ} : ∀ {l : List α}, (l.map h).Nodup → (∀ a ∈ l, (f a).Nodup ∧ ∀ b ∈ f a, g b = h a) → (l.flatMap f).Nodup
  | [], _, _ => List.nodup_nil
  | a :: l, nd, k => by
    rw [List.map_cons, List.nodup_cons] at nd
    rw [List.flatMap_cons, List.nodup_append]
    refine ⟨(k a List.mem_cons_self).1, nodup_fm nd.2 fun b hb => k b (List.mem_cons_of_mem _ hb), fun x hx y hy e => ?_⟩
    obtain ⟨b, hb, hyb⟩ := List.mem_flatMap.mp hy
    have e1 := (k a List.mem_cons_self).2 x hx
    have e2 := (k b (List.mem_cons_of_mem _ hb)).2 y hyb
    rw [← e, e1] at e2
    exact nd.1 (by rw [e2]; exact List.mem_map_of_mem hb)
theorem nodup_on {α β : Type} {f : α → β} : ∀ {l : List α}, l.Nodup → (∀ a ∈ l, ∀ b ∈ l, f a = f b → a = b) → (l.map f).Nodup
  | [], _, _ => List.nodup_nil
  | a :: l, nd, k => by
    rw [List.nodup_cons] at nd
    rw [List.map_cons, List.nodup_cons]
    refine ⟨fun hm => ?_, nodup_on nd.2 fun x hx y hy => k x (List.mem_cons_of_mem _ hx) y (List.mem_cons_of_mem _ hy)⟩
    obtain ⟨b, hb, e⟩ := List.mem_map.mp hm
    have := k b (List.mem_cons_of_mem _ hb) a List.mem_cons_self e
    subst this
    exact nd.1 hb
theorem nodup_of_map {α β : Type} {f : α → β} {l : List α} (h : (l.map f).Nodup) : l.Nodup := by
  induction l with
  | nil => exact List.nodup_nil
  | cons a l ih =>
    rw [List.map_cons, List.nodup_cons] at h
    exact List.nodup_cons.mpr ⟨fun hm => h.1 (List.mem_map_of_mem hm), ih h.2⟩
theorem inj_of_map {α β : Type} {f : α → β} {l : List α} (h : (l.map f).Nodup) {a b : α} (ha : a ∈ l) (hb : b ∈ l) (e : f a = f b) : a = b := by
  induction l with
  | nil => cases ha
  | cons c l ih =>
    rw [List.map_cons, List.nodup_cons] at h
    rcases List.mem_cons.mp ha with e1 | h1
    · rcases List.mem_cons.mp hb with e2 | h2
      · rw [e1, e2]
      · exact absurd (by rw [← e1, e]; exact List.mem_map_of_mem h2) h.1
    · rcases List.mem_cons.mp hb with e2 | h2
      · exact absurd (by rw [← e2, ← e]; exact List.mem_map_of_mem h1) h.1
      · exact ih h.2 h1 h2
theorem raw_nodup {cs : List Str} {ss : TWs} (hin : ∀ s ∈ ss, s.1 ∈ cs) (nd : (ss.map (·.1)).Nodup) : (rawF cs ss).Nodup := by
  have inj : ∀ a ∈ ss, ∀ b ∈ ss, ixZ cs a.1 = ixZ cs b.1 → a = b := fun a ha b hb e => inj_of_map nd ha hb (ixZ_inj (hin a ha) (hin b hb) e)
  refine nodup_fm (g := Prod.fst) (h := fun a => ixZ cs a.1) (nodup_on (nodup_of_map nd) inj) fun a ha => ⟨?_, fun b hb => ?_⟩
  · refine nodup_on ((nodup_of_map nd).filter _) fun x hx y hy e => ?_
    exact inj x ((List.mem_filter.mp hx).1) y ((List.mem_filter.mp hy).1) (Prod.mk.inj e).2
  · obtain ⟨c, _, e⟩ := List.mem_map.mp hb
    rw [← e]
theorem due_sorted (cs : List Str) (ss : TWs) : (dueI cs ss).Pairwise lxl := by
  unfold dueI
  have key : ∀ l : List Nat, l.Pairwise (· < ·) → (l.flatMap (dueP cs ss)).Pairwise lxl := by
    intro l hl
    induction l with
    | nil => exact List.Pairwise.nil
    | cons a l ih =>
      rw [List.pairwise_cons] at hl
      rw [List.flatMap_cons, List.pairwise_append]
      refine ⟨?_, ih hl.2, fun x hx y hy => ?_⟩
      · unfold dueP
        rw [List.pairwise_map]
        refine (List.Pairwise.filter _ List.pairwise_lt_range).imp fun {x y} h => .inr ⟨rfl, ?_⟩
        show ((x : Nat) : Int) < (y : Int); omega
      · unfold dueP at hx
        obtain ⟨j, _, e⟩ := List.mem_map.mp hx
        obtain ⟨b, hb, hyb⟩ := List.mem_flatMap.mp hy
        unfold dueP at hyb
        obtain ⟨k, _, e2⟩ := List.mem_map.mp hyb
        rw [← e, ← e2]
        have := hl.1 b hb
        exact .inl (show ((a : Nat) : Int) < (b : Int) by omega)
  exact key _ List.pairwise_lt_range
theorem mem_raw {cs : List Str} {ss : TWs} (nd : cs.Nodup) (hin : ∀ s ∈ ss, s.1 ∈ cs) (p : Int × Int) : p ∈ rawF cs ss ↔ p ∈ dueI cs ss := by
  unfold rawF dueI
  rw [List.mem_flatMap, List.mem_flatMap]
  constructor
  · rintro ⟨a, ha, hp⟩
    unfold rawP at hp
    obtain ⟨b, hb, e⟩ := List.mem_map.mp hp
    rw [List.mem_filter, decide_eq_true_iff] at hb
    obtain ⟨i, ei, hi⟩ := ixZ_at (hin a ha)
    obtain ⟨j, ej, hj⟩ := ixZ_at (hin b hb.1)
    refine ⟨i, List.mem_range.mpr (List.getElem?_eq_some_iff.mp hi).1, ?_⟩
    unfold dueP
    refine List.mem_map.mpr ⟨j, List.mem_filter.mpr ⟨List.mem_range.mpr (List.getElem?_eq_some_iff.mp hj).1, ?_⟩, by rw [← e, ei, ej]⟩
    unfold fcd
    refine List.any_eq_true.mpr ⟨a, ha, List.any_eq_true.mpr ⟨b, hb.1, ?_⟩⟩
    rw [List.getD_eq_getElem?_getD, List.getD_eq_getElem?_getD, hi, hj]
    simp [hb.2]
  · rintro ⟨i, hi, hp⟩
    unfold dueP at hp
    obtain ⟨j, hj, e⟩ := List.mem_map.mp hp
    rw [List.mem_filter, List.mem_range] at hj
    rw [List.mem_range] at hi
    obtain ⟨hj1, hf⟩ := hj
    unfold fcd at hf
    obtain ⟨a, ha, hf⟩ := List.any_eq_true.mp hf
    obtain ⟨b, hb, hf⟩ := List.any_eq_true.mp hf
    rw [List.getD_eq_getElem?_getD, List.getD_eq_getElem?_getD, List.getElem?_eq_getElem hi, List.getElem?_eq_getElem hj1, Bool.and_eq_true, Bool.and_eq_true, decide_eq_true_iff, decide_eq_true_iff, decide_eq_true_iff] at hf
    obtain ⟨e1, e2, e3⟩ := hf
    refine ⟨a, ha, ?_⟩
    unfold rawP
    refine List.mem_map.mpr ⟨b, List.mem_filter.mpr ⟨hb, decide_eq_true e3⟩, ?_⟩
    rw [← e, ixZ_of nd (show cs[i]? = some a.1 by rw [List.getElem?_eq_getElem hi, e1]; rfl), ixZ_of nd (show cs[j]? = some b.1 by rw [List.getElem?_eq_getElem hj1, e2]; rfl)]
theorem raw_perm {cs : List Str} {ss : TWs} (nd : cs.Nodup) (hin : ∀ s ∈ ss, s.1 ∈ cs) (nn : (ss.map (·.1)).Nodup) : (rawF cs ss).Perm (dueI cs ss) := by
  have n2 : (dueI cs ss).Nodup := (due_sorted cs ss).imp fun {p q} h e => by
    subst e
    rcases h with h | ⟨_, h⟩ <;> omega
  exact (List.perm_ext_iff_of_nodup (raw_nodup hin nn) n2).mpr (mem_raw nd hin)
theorem eq_of_lx {l m : List (Int × Int)} (hp : l.Perm m) (h1 : l.Pairwise fun x y => ¬ lxl y x) (h2 : m.Pairwise fun x y => ¬ lxl y x) : l = m := by
  refine List.Perm.eq_of_pairwise (fun a b _ _ x y => ?_) h1 h2 hp
  unfold lxl at x y
  obtain ⟨a1, a2⟩ := a
  obtain ⟨b1, b2⟩ := b
  simp only at x y
  have : a1 = b1 ∧ a2 = b2 := by omega
  rw [this.1, this.2]
theorem range_getD (cs : List Str) : (List.range cs.length).map (fun i => cs.getD i "") = cs := by
  refine List.ext_getElem (by rw [List.length_map, List.length_range]) fun i h1 h2 => ?_
  rw [List.getElem_map, List.getElem_range, List.getD_eq_getElem?_getD, List.getElem?_eq_getElem h2]; rfl
def nmP (cs : List Str) (p : Int × Int) : Str × Str := (cs.getD p.1.toNat "", cs.getD p.2.toNat "")
theorem due_names (cs : List Str) (ss : TWs) : (dueI cs ss).map (nmP cs) = forcedD cs ss := by
  have e1 : forcedD cs ss = ((List.range cs.length).map (fun i => cs.getD i "")).flatMap fun x => ((((List.range cs.length).map (fun i => cs.getD i "")).filter fun y => fcd ss x y).map fun y => (x, y)) := by
    rw [range_getD]; rfl
  rw [e1, List.flatMap_map]
  unfold dueI
  rw [List.map_flatMap]
  congr 1
  funext i
  unfold dueP
  rw [List.map_map, List.filter_map, List.map_map]
  congr 1
end My
set_option maxRecDepth 100000
set_option maxHeartbeats 8000000
set_option exponentiation.threshold 10000
namespace My
open PySem L2
/-- a walk, whatever its body asks -/
theorem walk_w {J : It} {n : Nat} {G : Hp → Prop} {Y : Nat → Hp → V → Hp → Prop} (w : Walk J n G Y) {H0 : Hp} {Qd : Hp → Prop} {Body : V → Hp → (Hp → Prop) → Prop} (Pv : Nat → Hp → Prop) (h0 : Pv 0 H0) (hG : ∀ i H, i ≤ n → Pv i H → G H)
    (hs : ∀ i x H H', i < n → Pv i H → Y i H x H' → Body x H' (Pv (i + 1))) (hd : ∀ H, Pv n H → Qd H) :
    ∃ W : Nat → Nat → Hp → Prop, (∃ m, W 0 m H0) ∧ ∀ i m H, W i m H → (J.stop i H ∧ Qd H) ∨ (J.go i H ∧ ∃ Nx : Hp → Prop, (∀ H', Nx H' → ∃ m', m' < m ∧ W (i + 1) m' H') ∧ ∀ x H', J.yld i H x H' → Body x H' Nx) := by
  refine ⟨fun i m H => m = n - i ∧ i ≤ n ∧ Pv i H, ⟨n - 0, rfl, Nat.zero_le n, h0⟩, ?_⟩
  rintro i m H ⟨em, hi, p⟩
  rcases Nat.lt_or_eq_of_le hi with c | c
  · exact .inr ⟨w.goes i H c (hG i H hi p), Pv (i + 1), fun H' p2 => ⟨n - (i + 1), by omega, rfl, c, p2⟩, fun x H' y => hs i x H H' c p (w.yields i H x H' c (hG i H hi p) y)⟩
  · subst c
    exact .inl ⟨w.stops H (hG i H hi p), hd H p⟩
/-- at ts stand tuples of the ss -/
structure Tg {α : Type} (f : α → List V) (H : Hp) (ts : List Addr) (ss : List α) : Prop where
  len : ts.length = ss.length
  at_ : ∀ (i : Nat) (t : Addr) (s : α), ts[i]? = some t → ss[i]? = some s → H t = some (.tup (f s))
section
variable {α : Type} {f : α → List V} {H H' : Hp} {ts us : List Addr} {ss rs : List α}
theorem Tg.same (h : Tg f H ts ss) (e : Same H H') : Tg f H' ts ss := ⟨h.len, fun i t s a b => e _ _ (h.at_ i t s a b)⟩
theorem Tg.updL {D : Addr} {xs : List V} {o : HO} (h : Tg f H ts ss) (hD : H D = some (.lst xs)) : Tg f (upd H D o) ts ss := ⟨h.len, fun i t s a b => by
  have := h.at_ i t s a b
  rw [upd_ne (fun z => by rw [z, hD] at this; cases this)]; exact this⟩
theorem Tg.nil : Tg f H [] [] := ⟨rfl, fun i t s a => by simp at a⟩
theorem Tg.get (h : Tg f H ts ss) {i : Nat} {t : Addr} (hi : ts[i]? = some t) : ∃ s, ss[i]? = some s ∧ H t = some (.tup (f s)) := by
  have hx : i < ss.length := by rw [← h.len]; exact (List.getElem?_eq_some_iff.mp hi).1
  exact ⟨ss[i], List.getElem?_eq_getElem hx, h.at_ i _ _ hi (List.getElem?_eq_getElem hx)⟩
theorem Tg.snoc {t : Addr} {s : α} (h : Tg f H ts ss) (ht : H t = some (.tup (f s))) : Tg f H (ts ++ [t]) (ss ++ [s]) := by
  refine ⟨by rw [List.length_append, List.length_append, h.len]; rfl, fun i u r a b => ?_⟩
  by_cases hi : i < ts.length
  · rw [List.getElem?_append_left hi] at a
    rw [List.getElem?_append_left (by rw [← h.len]; exact hi)] at b
    exact h.at_ i u r a b
  · rw [List.getElem?_append_right (by omega)] at a
    rw [List.getElem?_append_right (by rw [← h.len]; omega), ← h.len] at b
    cases e : i - ts.length with
    | zero => rw [e] at a b; cases a; cases b; exact ht
    | succ n => rw [e] at a; simp at a
end
def fI (p : Int × Int) : List V := [.int p.1, .int p.2]
def fS (p : Str × Str) : List V := [.str p.1, .str p.2]
/-- the pair of ints at a place -/
def kAt (H : Hp) (x : V) : Int × Int := match x with
  | .ref t => match H t with
    | some (.tup [.int i, .int j]) => (i, j)
    | _ => (0, 0)
  | _ => (0, 0)
theorem kAt_of {H : Hp} {t : Addr} {p : Int × Int} (h : H t = some (.tup (fI p))) : kAt H (.ref t) = p := by
  unfold kAt; dsimp only; rw [h]; rfl
theorem lexB_lxl {p q : Int × Int} (h : SrtO.lexB p q = false) : ¬ lxl p q := by
  have := SrtO.lexB_no.mp h
  unfold lxl; omega
theorem Tg.keys {H : Hp} : ∀ {qs : List Addr} {ps : List (Int × Int)}, Tg fI H qs ps → (qs.map V.ref).map (kAt H) = ps
  | [], [], _ => rfl
  | [], _ :: _, h => nomatch h.len
  | _ :: _, [], h => nomatch h.len
  | t :: qs, p :: ps, h => by
    rw [List.map_cons, List.map_cons, kAt_of (h.at_ 0 t p rfl rfl), Tg.keys (qs := qs) (ps := ps) ⟨Nat.succ.inj h.len, fun i u x a b => h.at_ (i + 1) u x a b⟩]
section
variable {P : Program} {w : World} {K : PySem.W.Frag} {mg : Str → Option Value} {base : Heap} {A : Ad}
def spForced (K : PySem.W.Frag) (A : Ad) : Sp := fun vs H Q _ => ∃ p tb cs rs ss, vs = [.ref p] ∧ Wns A.C_Windows A.C_Table K H p tb cs rs ss ∧ ColsOk cs ∧ (∀ s ∈ ss, s.1 ∈ cs) ∧ (nms ss).Nodup ∧
  ∀ D qs H', Same H H' → H D = none → H' D = some (.lst (qs.map V.ref)) → Tg fS H' qs (forcedD cs ss) → Q (.ref D) H'
theorem ok_forced (T : Txt P K mg A) : FnOk P w K mg base CX0 1 A.a_Windows_forced A.d_Windows_forced ["self"] (spForced K A) := by
  refine T.F_Windows_forced.ok sc_Windows_forced (fun vs H Q E h => ?_) (fun cdv A' outer s H vs Q E hr h => ?_)
  · obtain ⟨p, tb, cs, rs, ss, rfl, _⟩ := h
    rfl
  · obtain ⟨p, tb, cs, rs, ss, rfl, hW, ok, hin, nn, k⟩ := h
    refine ⟨_, (pss_cons (ps_set (i := 1) sc_Windows_forced.nd rfl (Or.inr rfl) (pe_fld (pe_fld (pv 0) rfl) rfl))
      (pss_cons (ps_setLc2 (i := 2) (own := [("a", 3), ("_", 4), ("high", 5), ("b", 6), ("low", 7)]) (vs1 := [6, 7, 4]) (g := gTup K 3 (gCons (gName 3) (gCons (gName 4) (gCons (gName 5) gNil)))) (g1 := gTup K 3 (gCons (gName 6) (gCons (gName 7) (gCons (gName 4) gNil)))) (tt := tYes) (tt1 := _) rfl sc_Windows_forced.nd rfl rfl (sw_true rfl rfl rfl (by decide +kernel)) (pi_tup (pe_fld (pv 0) rfl)) (blkOk_by (N := ["self", "columns", "pairs", "a", "_", "high", "b", "low", "one", "other"]) (sc := defScope s_Windows_forced) (by decide +kernel)) (by decide) (fun _ _ _ _ _ => (pg_tup (by rfl) (pgs_cons (pg_name (i := 3) sc_Windows_forced.nd rfl (Or.inl rfl)) (pgs_cons (pg_name (i := 4) sc_Windows_forced.nd rfl (Or.inl rfl)) (pgs_cons (pg_name (i := 5) sc_Windows_forced.nd rfl (Or.inl rfl)) pgs_nil))))) (fun _ _ _ _ _ => pts_nil) (fun _ _ _ _ _ => (show PI _ _ _ (iTup K _) from (pi_tup (show PE _ _ (tFld K _ "told") from pe_fld (pv 0) rfl)))) (fun _ _ _ _ _ => (pg_tup (by rfl) (pgs_cons (pg_name (i := 6) sc_Windows_forced.nd rfl (Or.inl rfl)) (pgs_cons (pg_name (i := 7) sc_Windows_forced.nd rfl (Or.inl rfl)) (pgs_cons (pg_name (i := 4) sc_Windows_forced.nd rfl (Or.inl rfl)) pgs_nil))))) (fun _ _ _ _ _ => (pts_one (pt_cmpR op_lt (pv 5) (pv 7) (nomark _)))) (fun _ _ _ _ _ => (pe_tup (pa_cons (show PE _ _ (tBMT (rTIx K) _ _) from (pe_bmT PySem.F.plainAttrs_tuple PySem.F.slot_tuple_index PySem.F.type_tuple_index mt_tIx (pv 1) (pa_cons (pv 3) pa_nil))) (pa_cons (show PE _ _ (tBMT (rTIx K) _ _) from (pe_bmT PySem.F.plainAttrs_tuple PySem.F.slot_tuple_index PySem.F.type_tuple_index mt_tIx (pv 1) (pa_cons (pv 6) pa_nil))) pa_nil)))))
      (pss_one (ps_ret (pe_lc (own := [("one", 8), ("other", 9)]) (g := gTup K 2 (gCons (gName 8) (gCons (gName 9) gNil))) (tt := tYes) rfl sc_Windows_forced.nd (pi_list (pe_callB cr_sortedPO (by rfl) T.n_sorted (by decide +kernel) (pa_cons (pv 2) pa_nil))) (blkOk_by (N := ["self", "columns", "pairs", "a", "_", "high", "b", "low", "one", "other"]) (sc := defScope s_Windows_forced) (by decide +kernel)) (fun _ _ _ _ _ => (pg_tup (by rfl) (pgs_cons (pg_name (i := 8) sc_Windows_forced.nd rfl (Or.inl rfl)) (pgs_cons (pg_name (i := 9) sc_Windows_forced.nd rfl (Or.inl rfl)) pgs_nil)))) (fun _ _ _ _ _ => pts_nil) (fun _ _ _ _ _ => (pe_tup (pa_cons (pe_ix (show IxR _ (rIxT K) from ix_tup) (pv 1) (pv 8) (fun _ _ => rfl)) (pa_cons (pe_ix (show IxR _ (rIxT K) from ix_tup) (pv 1) (pv 9) (fun _ _ => rfl)) pa_nil))))))))), ?_⟩
    obtain ⟨dx, ut, us, h1, hT, hu, hus⟩ := id hW
    obtain ⟨dxt, ct, rt, ts, ht1, hc, hr2, hts⟩ := id hT
    have ssl : ss.length ≤ 12 := by
      have := nodup_le nn (fun y hy => by obtain ⟨s, hs, e⟩ := List.mem_map.mp hy; rw [← e]; exact hin s hs)
      rw [List.length_map] at this
      exact Nat.le_trans this ok.n
    have lus : (us.map V.ref).length = ss.length := by rw [List.length_map, hus.len]
    have first : ∀ {z : Str} {i : Nat}, cs[i]? = some z → ∀ m, m < i → cs[m]? ≠ some z := fun {z i} hi m hm e => by
      have a := ixZ_of ok.nd hi
      have b := ixZ_of ok.nd e
      omega
    refine ⟨_, rfl, _, _, _, _, _, rfl, h1, T.cl_Windows, T.n_Windows_table, fldsS_table _ _, _, _, _, _, _, rfl, ht1, T.cl_Table, T.n_Table_columns, fldsT_columns _ _, ?_⟩
    refine ⟨_, rfl, _, _, _, _, _, rfl, h1, T.cl_Windows, T.n_Windows_told, fldsS_told _ _, ut, rfl, ⟨_, SqT.of hu⟩, fun D hD => walk_w walk_tup (fun i H4 => Same H H4 ∧ ∃ qs : List Addr, H4 D = some (.lst (qs.map V.ref)) ∧ Tg fI H4 qs ((ss.take i).flatMap (rawP cs ss))) ⟨same_new hD, [], upd_same, Tg.nil⟩ (fun i H4 _ q => q.1.tup (SqT.of hu)) ?_ ?_⟩
    · rintro i x H4 H40 hi ⟨s4, qs, hd4, hq4⟩ ⟨rfl, hx⟩
      obtain ⟨b, hb, rfl⟩ := refs_get hx
      obtain ⟨y, hy, ho⟩ := hus.get hb
      obtain ⟨yn, yl, yh⟩ := y
      have hya := hin _ (List.mem_of_getElem? hy)
      obtain ⟨ia, eia, hia⟩ := ixZ_at hya
      refine ⟨b, _, rfl, s4.tup ho, rfl, _, _, rfl, _, _, rfl, _, _, rfl, rfl, rfl, ?_⟩
      have h14 := s4 _ _ h1
      generalize hσ : List.set (List.set (List.set (wipe _ _) _ _) _ _) _ _ = σ2
      have eσ : σ2 = [some (.ref p), some (.ref ct), none, some (.str yn), some (.int yl), some (.int yh), none, none, none, none] := by rw [← hσ]; rfl
      subst eσ
      clear hσ
      refine ⟨_, rfl, _, _, _, _, _, rfl, h14, T.cl_Windows, T.n_Windows_told, fldsS_told _ _, ut, rfl, ⟨_, SqT.of (s4 _ _ hu)⟩, walk_w walk_tup (fun j H5 => Same H H5 ∧ ∃ qs : List Addr, H5 D = some (.lst (qs.map V.ref)) ∧ Tg fI H5 qs ((ss.take i).flatMap (rawP cs ss) ++ ((ss.take j).filter fun b => decide (yh < b.2.1)).map fun b => (ixZ cs yn, ixZ cs b.1))) ⟨s4, qs, hd4, by rw [List.take_zero, List.filter_nil, List.map_nil, List.append_nil]; exact hq4⟩ (fun j H5 _ q => q.1.tup (SqT.of hu)) ?_ ?_⟩
      · rintro j x H50 H5 hj ⟨s5, qs5, hd5, hq5⟩ ⟨rfl, hx⟩
        obtain ⟨c, hc2, rfl⟩ := refs_get hx
        obtain ⟨z, hz, hoz⟩ := hus.get hc2
        obtain ⟨zn, zl, zh⟩ := z
        have hza := hin _ (List.mem_of_getElem? hz)
        obtain ⟨iz, eiz, hiz⟩ := ixZ_at hza
        refine ⟨c, _, rfl, s5.tup hoz, rfl, _, _, rfl, _, _, rfl, _, _, rfl, rfl, rfl, ?_⟩
        generalize hσ : List.set (List.set (List.set (wipe _ _) _ _) _ _) _ _ = σ3
        have eσ : σ3 = [some (.ref p), some (.ref ct), none, some (.str yn), some (.int zh), some (.int yh), some (.str zn), some (.int zl), none, none] := by rw [← hσ]; rfl
        subst eσ
        clear hσ
        refine ⟨_, rfl, _, rfl, _, _, rfl, rfl, _, rfl, ?_⟩
        have lens : ∀ q : List Addr, ∀ l : List (Int × Int), Tg fI H5 q l → l = ((ss.take i).flatMap (rawP cs ss) ++ ((ss.take j).filter fun b => decide (yh < b.2.1)).map fun b => (ixZ cs yn, ixZ cs b.1)) → q.length ≤ 1000 := fun q l h e => by
          have b1 : ∀ l2 : List TW, l2.length ≤ 12 → (l2.flatMap (rawP cs ss)).length ≤ 12 * l2.length := by
            intro l2
            induction l2 with
            | nil => intro _; exact Nat.le_refl _
            | cons a l2 ih =>
              intro hl
              rw [List.length_cons] at hl
              rw [List.flatMap_cons, List.length_append, List.length_cons]
              have := ih (by omega)
              have h2 : (rawP cs ss a).length ≤ 12 := by
                unfold rawP
                rw [List.length_map]
                exact Nat.le_trans (List.length_filter_le _ _) ssl
              omega
          have b2 := b1 (ss.take i) (by rw [List.length_take]; omega)
          have b3 : (((ss.take j).filter fun b => decide (yh < b.2.1)).map fun b => (ixZ cs yn, ixZ cs b.1)).length ≤ 12 := by
            rw [List.length_map]
            refine Nat.le_trans (List.length_filter_le _ _) ?_
            rw [List.length_take]; omega
          rw [h.len, e, List.length_append]
          rw [List.length_take] at b2
          have : min i ss.length ≤ 12 := by omega
          omega
        by_cases hlt : yh < zl
        · refine itY hlt ?_
          refine ⟨_, rfl, ⟨ct, _, rfl, hc.same s5⟩, _, rfl, ct, cs, yn, ia, rfl, rfl, (hc.same s5).sq, hia, first hia, _, rfl, ⟨ct, _, rfl, hc.same s5⟩, _, rfl, ct, cs, zn, iz, rfl, rfl, (hc.same s5).sq, hiz, first hiz, by show 2 ≤ sizeLine; decide, fun t n => ?_⟩
          generalize hG : upd H5 t _ = H6
          have q6 : Same H5 H6 := hG ▸ same_new n
          have x6 := (congrFun hG t).symm.trans upd_same
          clear hG
          have hd6 := q6 _ _ hd5
          refine ⟨_, hd6, small_int (by have := lens qs5 _ hq5 rfl; rw [List.length_map]; omega), ?_⟩
          refine ⟨fun b o e => by rw [upd_ne (ne_of_none e hD)]; exact q6 _ _ (s5 _ _ e), qs5 ++ [t], by rw [List.map_append]; exact upd_same, ?_⟩
          rw [take_succ hz, List.filter_append, List.filter_cons_of_pos (by exact decide_eq_true hlt), List.filter_nil, List.map_append, ← List.append_assoc]
          refine (((hq5.same q6).snoc (t := t) (s := (ixZ cs yn, ixZ cs zn)) ?_)).updL hd6
          rw [x6]
          show _ = some (HO.tup [V.int (ixZ cs yn), V.int (ixZ cs zn)])
          rw [eia, eiz]
        · refine itN hlt ⟨s5, qs5, hd5, ?_⟩
          rw [take_succ hz, List.filter_append, List.filter_cons_of_neg (by rw [decide_eq_false hlt]; exact Bool.false_ne_true), List.filter_nil, List.append_nil]
          exact hq5
      · rintro H5 ⟨s5, qs5, hd5, hq5⟩
        rw [lus, List.take_length] at hq5
        refine ⟨s5, qs5, hd5, ?_⟩
        rw [take_succ hy, List.flatMap_append]
        have e : ([(yn, yl, yh)] : List TW).flatMap (rawP cs ss) = rawP cs ss (yn, yl, yh) := by rw [List.flatMap_cons, List.flatMap_nil, List.append_nil]
        rw [e]
        exact hq5
    · rintro H4 ⟨s4, qs, hd4, hq4⟩
      rw [lus, List.take_length] at hq4
      refine ⟨_, rfl, D, qs.map V.ref, kAt H4, rfl, SqL.of hd4, fun x hx => ?_, fun ys p2 hsrt hstb hp2 => ?_⟩
      · obtain ⟨t, ht, rfl⟩ := List.mem_map.mp hx
        obtain ⟨i, hi, e⟩ := List.getElem_of_mem ht
        obtain ⟨pp, _, hpp⟩ := hq4.get (show qs[i]? = some t by rw [List.getElem?_eq_getElem hi, e])
        exact ⟨t, rfl, by rw [kAt_of hpp]; exact hpp⟩
      generalize hG : upd H4 p2 _ = H5
      have q5 : Same H4 H5 := hG ▸ same_new hp2
      have x5 := (congrFun hG p2).symm.trans upd_same
      clear hG
      have eos : ys.map (kAt H4) = dueI cs ss := by
        refine eq_of_lx ?_ ?_ ?_
        · refine (hstb.perm.map (kAt H4)).trans ?_
          rw [hq4.keys]
          exact raw_perm ok.nd hin nn
        · exact List.pairwise_map.mpr (hsrt.imp fun {a b} h => lexB_lxl h)
        · refine (due_sorted cs ss).imp fun {a b} h h2 => ?_
          unfold lxl at h h2; omega
      have hys : ∀ (i : Nat) (x : V), ys[i]? = some x → ∃ t pp, x = V.ref t ∧ (dueI cs ss)[i]? = some pp ∧ H4 t = some (.tup (fI pp)) := fun i x hx => by
        have hm := hstb.perm.mem_iff.mp (List.mem_of_getElem? hx)
        obtain ⟨t, ht, rfl⟩ := List.mem_map.mp hm
        obtain ⟨i2, hi2, e⟩ := List.getElem_of_mem ht
        obtain ⟨pp, _, hpp⟩ := hq4.get (show qs[i2]? = some t by rw [List.getElem?_eq_getElem hi2, e])
        refine ⟨t, pp, rfl, ?_, hpp⟩
        rw [← eos, List.getElem?_map, hx]
        exact congrArg some (kAt_of hpp)
      have lys : ys.length = (dueI cs ss).length := by rw [← eos, List.length_map]
      have inr : ∀ pp ∈ dueI cs ss, atI (sv cs) pp.1 = some (.str (nmP cs pp).1) ∧ atI (sv cs) pp.2 = some (.str (nmP cs pp).2) := fun pp hpp => by
        unfold dueI at hpp
        obtain ⟨i, hi, hpp⟩ := List.mem_flatMap.mp hpp
        unfold dueP at hpp
        obtain ⟨j, hj, e⟩ := List.mem_map.mp hpp
        rw [List.mem_filter, List.mem_range] at hj
        rw [List.mem_range] at hi
        rw [← e]
        unfold nmP
        refine ⟨atI_nat ?_, atI_nat ?_⟩
        · show (sv cs)[i]? = some (V.str (cs.getD ((i : Nat) : Int).toNat ""))
          rw [Int.toNat_natCast, List.getElem?_map, List.getD_eq_getElem?_getD, List.getElem?_eq_getElem hi]; rfl
        · show (sv cs)[j]? = some (V.str (cs.getD ((j : Nat) : Int).toNat ""))
          rw [Int.toNat_natCast, List.getElem?_map, List.getD_eq_getElem?_getD, List.getElem?_eq_getElem hj.1]; rfl
      have lraw : (dueI cs ss).length ≤ 1000 := by
        rw [← lys, hstb.perm.length_eq, List.length_map, hq4.len]
        have b1 : ∀ l2 : List TW, l2.length ≤ 12 → (l2.flatMap (rawP cs ss)).length ≤ 12 * l2.length := by
          intro l2
          induction l2 with
          | nil => intro _; exact Nat.le_refl _
          | cons a l2 ih =>
            intro hl
            rw [List.length_cons] at hl
            rw [List.flatMap_cons, List.length_append, List.length_cons]
            have := ih (by omega)
            have h2 : (rawP cs ss a).length ≤ 12 := by
              unfold rawP
              rw [List.length_map]
              exact Nat.le_trans (List.length_filter_le _ _) ssl
            omega
        have := b1 ss ssl
        omega
      have s45 := s4.trans q5
      refine ⟨p2, rfl, ⟨_, SqL.of x5⟩, fun D2 nD2 => lc_it walk_list (fun i H6 => Same H5 H6 ∧ ∃ zs : List Addr, H6 D2 = some (.lst (zs.map V.ref)) ∧ Tg fS H6 zs (((dueI cs ss).take i).map (nmP cs))) ⟨same_new nD2, [], upd_same, Tg.nil⟩ (fun i H6 _ q => q.1.seq (SqL.of x5)) ?_ ?_⟩
      · rintro i x H60 H6 hi ⟨s6, zs, hd6, hz6⟩ ⟨rfl, hx⟩
        obtain ⟨t, pp, rfl, hpp, ht⟩ := hys i x hx
        obtain ⟨a1, a2⟩ := inr pp (List.mem_of_getElem? hpp)
        have hcc := (hc.same (s45.trans s6)).sq (K := K)
        refine ⟨t, _, rfl, SqT.of (s6 _ _ (q5 _ _ ht)), rfl, _, _, rfl, _, _, rfl, rfl, rfl, ?_⟩
        refine ⟨_, rfl, _, rfl, ct, _, _, _, rfl, rfl, hcc, a1, _, rfl, _, rfl, ct, _, _, _, rfl, rfl, hcc, a2, by show 2 ≤ sizeLine; decide, fun t2 n2 => ?_⟩
        generalize hG : upd H6 t2 _ = H7
        have q7 : Same H6 H7 := hG ▸ same_new n2
        have x7 := (congrFun hG t2).symm.trans upd_same
        clear hG
        have hd7 := q7 _ _ hd6
        refine ⟨_, hd7, small_int (by rw [List.length_map, hz6.len, List.length_map, List.length_take]; omega), fun b o e => by rw [upd_ne (ne_of_none e nD2)]; exact q7 _ _ (s6 _ _ e), zs ++ [t2], by rw [List.map_append]; exact upd_same, ?_⟩
        rw [take_succ hpp, List.map_append]
        exact ((hz6.same q7).snoc (t := t2) (s := nmP cs pp) x7).updL hd7
      · rintro H6 ⟨s6, zs, hd6, hz6⟩
        rw [lys, List.take_length, due_names] at hz6
        exact k D2 zs H6 (s45.trans s6) (none_of s45 nD2) hd6 hz6
end
end My
set_option maxRecDepth 100000
set_option maxHeartbeats 4000000
set_option exponentiation.threshold 10000
namespace My
open PySem L2
/-- years never fall -/
def riseB (ys : List Int) : Bool := !((List.range (ys.length - 1)).any fun i => decide (ys.getD (i + 1) 0 < ys.getD i 0))
def inW (ns : List Str) (ys : List Int) (s : TW) : Bool := decide (s.2.1 ≤ ys.getD (ixZ ns s.1).toNat 0 ∧ ys.getD (ixZ ns s.1).toNat 0 ≤ s.2.2)
def keepB (ss : List TW) (ns : List Str) (ys : List Int) : Bool := decide (ys.length = ns.length) && (riseB ys && ss.all (inW ns ys))
theorem in_of_fault {cs ns : List Str} (h : fault cs ns = none) : ∀ z ∈ ns, z ∈ cs := by
  have : stray cs ns = none := by
    unfold fault at h
    cases e : stray cs ns with
    | none => rfl
    | some i => rw [e] at h; cases h
  exact (stray_none_iff.mp this).1
theorem getD_at {ys : List Int} {i : Nat} (h : i < ys.length) : ys[i]? = some (ys.getD i 0) := by
  rw [List.getD_eq_getElem?_getD, List.getElem?_eq_getElem h]; rfl
theorem iat {ys : List Int} {i : Nat} (h : i < ys.length) : atI (ivs ys) ((i : Nat) : Int) = some (.int (ys.getD i 0)) := atI_nat (by rw [List.getElem?_map, getD_at h]; rfl)
theorem map_pushB {f : Nat → Bool} {i : Nat} : ((List.range (i + 1)).map f).map V.bl = ((List.range i).map f).map V.bl ++ [V.bl (f i)] := by
  rw [List.range_succ, List.map_append, List.map_append]; rfl
section
variable {P : Program} {w : World} {K : PySem.W.Frag} {mg : Str → Option Value} {base : Heap} {A : Ad}
def spKeeps (so sy : Hp → Addr → List V → Prop) (K : PySem.W.Frag) (A : Ad) : Sp := fun vs H Q E => ∃ p tb o y cs rs ss ns, ∃ ys : List Int, vs = [.ref p, .ref o, .ref y] ∧ Wns A.C_Windows A.C_Table K H p tb cs rs ss ∧ so H o (sv ns) ∧ sy H y (ivs ys) ∧ ns.length ≤ 1000 ∧ ys.length ≤ 1000 ∧ ss.length ≤ 1000 ∧ ColsOk cs ∧ (∀ s ∈ ss, s.1 ∈ cs) ∧
  (∀ i, fault cs ns = some i → ∀ d H', Same H H' → H' d = some (.xd [("index", .int (i : Nat))]) → E (.ref A.C_BadOrder) (some d) H') ∧
  (fault cs ns = none → ∀ H', Same H H' → Q (.bl (keepB ss ns ys)) H')
theorem ok_keeps (T : Txt P K mg A) : FnOk P w K mg base (L2.CX P w) 5 A.a_Windows_keeps A.d_Windows_keeps ["self", "order", "years"] (spKeeps (SqL K) (SqL K) K A) := by
  have GX_check_order := ok_checkZ (P := P) (w := w) (base := base) T
  refine funX T.F_Windows_keeps sc_Windows_keeps (fun vs H Q E h => ?_) (fun cdv A' outer s H vs Q E hr h => ?_)
  · obtain ⟨p, tb, o, y, cs, rs, ss, ns, ys, rfl, _⟩ := h
    rfl
  · obtain ⟨p, tb, o, y, cs, rs, ss, ns, ys, rfl, hW, hO, hY, hl, hyl, hsl, ok, hin, ke, kq⟩ := h
    refine ⟨_, (pss_cons (ps_expr (pe_callS GX_check_order (hr.mono (by decide)) rfl T.mg_check_order T.F_check_order.kp T.b_check_order (fun σ => passAt (takes_of rfl rfl rfl rfl) σ) (pa_cons (pe_fld (pv 0) rfl) (pa_cons (pv 1) pa_nil))))
      (pss_cons (ps_if (PW.pt (pw_or (pt_cmpR op_ne (pe_callB call_len_seq (by rfl) T.n_len (by decide +kernel) (pa_cons (pv 2) pa_nil)) (pe_callB call_len_seq (by rfl) T.n_len (by decide +kernel) (pa_cons (pv 1) pa_nil)) (nomark _)) (pw_or1 (pt_val (pe_callB (cr_any rfl) (by rfl) T.n_any (by decide +kernel) (pa_cons (pe_lc (own := [("at", 6)]) (g := gName 6) (tt := tYes) rfl sc_Windows_keeps.nd (pi_range2 (by rfl) T.n_range (pa_cons pe_int (pa_cons (pe_callB call_len_seq (by rfl) T.n_len (by decide +kernel) (pa_cons (pv 2) pa_nil)) pa_nil))) (blkOk_by (N := ["self", "order", "years", "name", "low", "high", "at"]) (sc := defScope s_Windows_keeps) (by decide +kernel)) (fun _ _ _ _ _ => (pg_name (i := 6) sc_Windows_keeps.nd rfl (Or.inl rfl))) (fun _ _ _ _ _ => pts_nil) (fun _ _ _ _ _ => (pe_cmpR op_lt (pe_ix (show IxR _ (rIxL K) from ix_list) (pv 2) (pv 6) (fun _ _ => rfl)) (pe_ix (show IxR _ (rIxL K) from ix_list) (pv 2) (pe_op op_sub (pv 6) pe_int) (fun _ _ => rfl)) (nomark _)))) pa_nil)))))) (pss_one (ps_ret pe_bl)) pss_nil)
      (pss_one (ps_ret (pe_callB (cr_all rfl) (by rfl) T.n_all (by decide +kernel) (pa_cons (pe_lc (own := [("name", 3), ("low", 4), ("high", 5)]) (g := gTup K 3 (gCons (gName 3) (gCons (gName 4) (gCons (gName 5) gNil)))) (tt := tYes) rfl sc_Windows_keeps.nd (pi_tup (pe_fld (pv 0) rfl)) (blkOk_by (N := ["self", "order", "years", "name", "low", "high", "at"]) (sc := defScope s_Windows_keeps) (by decide +kernel)) (fun _ _ _ _ _ => (pg_tup (by rfl) (pgs_cons (pg_name (i := 3) sc_Windows_keeps.nd rfl (Or.inl rfl)) (pgs_cons (pg_name (i := 4) sc_Windows_keeps.nd rfl (Or.inl rfl)) (pgs_cons (pg_name (i := 5) sc_Windows_keeps.nd rfl (Or.inl rfl)) pgs_nil))))) (fun _ _ _ _ _ => pts_nil) (fun _ _ _ _ _ => (pe_chain op_le op_le (pv 4) (pe_ix (show IxR _ (rIxL K) from ix_list) (pv 2) (show PE _ _ (tBM K "list" (rIndex K) _ _) from (pe_bm PySem.F.plainAttrs_list PySem.F.slot_list_index PySem.F.type_list_index mt_index (pv 1) (pa_cons (pv 3) pa_nil))) (fun _ _ => rfl)) (pv 5)))) pa_nil)))))), ?_⟩
    obtain ⟨dx, ut, us, h1, hT, hu, hus⟩ := id hW
    refine ⟨_, rfl, _, _, _, _, _, rfl, h1, T.cl_Windows, T.n_Windows_table, fldsS_table _ _, _, rfl, tb, o, cs, rs, ns, rfl, hT, hO, hl, ke, fun hf H1 s1 => ?_⟩
    have hO1 := Same.seq s1 hO
    have hY1 := Same.seq s1 hY
    have ly : (ivs ys).length = ys.length := List.length_map ..
    have hk := kq hf
    refine ⟨_, rfl, y, _, rfl, .inl hY1, _, rfl, o, _, rfl, .inl hO1, rfl, _, rfl, ?_⟩
    by_cases hlen : ys.length = ns.length
    · refine ifF (by rw [ly, len_sv, hlen, decide_eq_true rfl]; rfl) ?_
      have en : (((ivs ys).length : Int) - 1).toNat = ys.length - 1 := by rw [ly]; omega
      refine ⟨_, rfl, y, _, rfl, .inl hY1, (1 : Int), ((ivs ys).length : Int), rfl, ⟨by decide, by decide, by omega, by rw [ly]; omega⟩, fun D hD => lc_range (n := (((ivs ys).length : Int) - 1).toNat) (PvS H1 D fun i => ((List.range i).map fun i => decide (ys.getD (i + 1) 0 < ys.getD i 0)).map V.bl) (pv0 hD rfl) ?_ ?_⟩
      · intro i H3 hi q
        rw [en] at hi
        have a1 : atI (ivs ys) ((1 : Int) + (i : Int)) = some (.int (ys.getD (i + 1) 0)) := by
          rw [show (1 : Int) + (i : Int) = ((i + 1 : Nat) : Int) by omega]; exact iat (by omega)
        have a0 : atI (ivs ys) ((1 : Int) + (i : Int) - 1) = some (.int (ys.getD i 0)) := by
          rw [show (1 : Int) + (i : Int) - 1 = ((i : Nat) : Int) by omega]; exact iat (by omega)
        exact ⟨rfl, _, rfl, _, rfl, y, _, _, _, rfl, rfl, Same.seq q.1 hY1, a1, _, rfl, _, rfl, _, _, rfl, rfl, y, _, _, _, rfl, rfl, Same.seq q.1 hY1, a0, _, _, rfl, rfl, q.push hD map_pushB (by rw [List.length_map, List.length_map, List.length_range]; omega)⟩
      · rintro H3 ⟨s3, h3⟩
        rw [en] at h3
        refine ⟨D, _, rfl, SqL.of h3, ?_⟩
        have er : (((List.range (ys.length - 1)).map fun i => decide (ys.getD (i + 1) 0 < ys.getD i 0)).any id) = !riseB ys := by
          unfold riseB
          rw [Bool.not_not, List.any_map]; rfl
        rw [er]
        have s13 := s1.trans s3
        cases hri : riseB ys with
        | false =>
          have := hk H3 s13
          unfold keepB at this
          rw [decide_eq_true hlen, hri] at this
          exact ⟨_, rfl, ifT rfl this⟩
        | true =>
          refine ⟨_, rfl, ifF rfl ?_⟩
          have hO3 := Same.seq s3 hO1
          have hY3 := Same.seq s3 hY1
          have h13 := s13 _ _ h1
          have pm := (perm_of_fault ok.nd hf)
          refine ⟨_, rfl, _, _, _, _, _, rfl, h13, T.cl_Windows, T.n_Windows_told, fldsS_told _ _, ut, rfl, ⟨_, SqT.of (s13 _ _ hu)⟩, fun D2 nD2 => lc_it walk_tup (PvS H3 D2 fun i => ((ss.take i).map (inW ns ys)).map V.bl) (pv0 nD2 rfl) (fun i H4 _ q => q.1.tup (SqT.of (s13 _ _ hu))) ?_ ?_⟩
          · rintro i x H40 H4 hi q ⟨rfl, hx⟩
            obtain ⟨b, hb, rfl⟩ := refs_get hx
            obtain ⟨z, hz, ho⟩ := hus.get hb
            obtain ⟨zn, zl, zh⟩ := z
            obtain ⟨j, ej, hj⟩ := ixZ_at (pm.2.2.mem_iff.mpr (hin _ (List.mem_of_getElem? hz)))
            have hjl := (List.getElem?_eq_some_iff.mp hj).1
            have first : ∀ m, m < j → ns[m]? ≠ some zn := fun m hm e => by
              have a : ixZ ns zn = ((j : Nat) : Int) := ixZ_of pm.2.1 hj
              have b : ixZ ns zn = ((m : Nat) : Int) := ixZ_of pm.2.1 e
              omega
            have aj : atI (ivs ys) ((j : Nat) : Int) = some (.int (ys.getD j 0)) := iat (by omega)
            have pushT : ∀ bb : Bool, bb = inW ns ys (zn, zl, zh) → ∃ acc, H4 D2 = some (.lst acc) ∧ acc.length < sizeLine ∧ PvS H3 D2 (fun i => ((ss.take i).map (inW ns ys)).map V.bl) (i + 1) (upd H4 D2 (.lst (acc ++ [V.bl bb]))) := fun bb hbb => by
              refine q.push nD2 ?_ (by rw [List.length_map, List.length_map, List.length_take]; omega)
              show ((ss.take (i + 1)).map (inW ns ys)).map V.bl = _
              rw [take_succ hz, List.map_append, List.map_append, hbb]; rfl
            have eW : inW ns ys (zn, zl, zh) = decide (zl ≤ ys.getD j 0 ∧ ys.getD j 0 ≤ zh) := by
              unfold inW
              show decide (zl ≤ ys.getD (ixZ ns zn).toNat 0 ∧ ys.getD (ixZ ns zn).toNat 0 ≤ zh) = _
              rw [ej, Int.toNat_natCast]
            refine ⟨b, _, rfl, (s13.trans q.1).tup ho, rfl, _, _, rfl, _, _, rfl, _, _, rfl, rfl, rfl, ?_⟩
            refine ⟨_, rfl, _, rfl, _, rfl, .inl ⟨rfl, _, Same.seq q.1 hO3⟩, _, rfl, o, sv ns, .str zn, j, .str zn, rfl, rfl, Same.seq q.1 hO3, rfl, flat_sv _, by rw [List.getElem?_map, hj]; rfl, by rw [eqV_str]; exact decide_eq_true rfl, fun m z' hm hz' => by (obtain ⟨yy, hyy, rfl⟩ := sv_get hz'; rw [eqV_str]; exact decide_eq_false fun e => first m hm (by rw [hyy, e])), y, _, _, _, rfl, rfl, Same.seq q.1 hY3, aj, _, _, rfl, rfl, _, rfl, ?_⟩
            by_cases c1 : zl ≤ ys.getD j 0
            · refine itY c1 ⟨_, rfl, _, _, rfl, rfl, pushT _ ?_⟩
              rw [eW]
              exact decide_eq_decide.mpr ⟨fun h => ⟨c1, h⟩, fun h => h.2⟩
            · refine itN c1 (pushT _ ?_)
              rw [eW, decide_eq_false fun h => c1 h.1]
          · rintro H4 ⟨s4, h4⟩
            rw [show (us.map V.ref).length = ss.length by rw [List.length_map, hus.len]] at h4
            have h4 : H4 D2 = some (.lst (((ss.take ss.length).map (inW ns ys)).map V.bl)) := h4
            rw [List.take_length] at h4
            refine ⟨D2, _, rfl, SqL.of h4, ?_⟩
            have := hk H4 (s13.trans s4)
            unfold keepB at this
            rw [decide_eq_true hlen, hri, Bool.true_and, Bool.true_and] at this
            rw [List.all_map]
            exact this
    · have := hk H1 s1
      unfold keepB at this
      rw [decide_eq_false hlen] at this
      refine ifT (by rw [ly, len_sv]; rw [decide_eq_false (fun z => hlen (by have := V.int.inj z; omega))]; rfl) (ifT rfl this)
theorem ok_keepsLT (T : Txt P K mg A) : FnOk P w K mg base (L2.CX P w) 5 A.a_Windows_keeps A.d_Windows_keeps ["self", "order", "years"] (spKeeps (SqL K) (SqT K) K A) := by
  have GX_check_order := ok_checkZ (P := P) (w := w) (base := base) T
  refine funX T.F_Windows_keeps sc_Windows_keeps (fun vs H Q E h => ?_) (fun cdv A' outer s H vs Q E hr h => ?_)
  · obtain ⟨p, tb, o, y, cs, rs, ss, ns, ys, rfl, _⟩ := h
    rfl
  · obtain ⟨p, tb, o, y, cs, rs, ss, ns, ys, rfl, hW, hO, hY, hl, hyl, hsl, ok, hin, ke, kq⟩ := h
    refine ⟨_, (pss_cons (ps_expr (pe_callS GX_check_order (hr.mono (by decide)) rfl T.mg_check_order T.F_check_order.kp T.b_check_order (fun σ => passAt (takes_of rfl rfl rfl rfl) σ) (pa_cons (pe_fld (pv 0) rfl) (pa_cons (pv 1) pa_nil))))
      (pss_cons (ps_if (PW.pt (pw_or (pt_cmpR op_ne (pe_callB call_len_seq (by rfl) T.n_len (by decide +kernel) (pa_cons (pv 2) pa_nil)) (pe_callB call_len_seq (by rfl) T.n_len (by decide +kernel) (pa_cons (pv 1) pa_nil)) (nomark _)) (pw_or1 (pt_val (pe_callB (cr_any rfl) (by rfl) T.n_any (by decide +kernel) (pa_cons (pe_lc (own := [("at", 6)]) (g := gName 6) (tt := tYes) rfl sc_Windows_keeps.nd (pi_range2 (by rfl) T.n_range (pa_cons pe_int (pa_cons (pe_callB call_len_seq (by rfl) T.n_len (by decide +kernel) (pa_cons (pv 2) pa_nil)) pa_nil))) (blkOk_by (N := ["self", "order", "years", "name", "low", "high", "at"]) (sc := defScope s_Windows_keeps) (by decide +kernel)) (fun _ _ _ _ _ => (pg_name (i := 6) sc_Windows_keeps.nd rfl (Or.inl rfl))) (fun _ _ _ _ _ => pts_nil) (fun _ _ _ _ _ => (pe_cmpR op_lt (pe_ix (show IxR _ (rIxT K) from ix_tup) (pv 2) (pv 6) (fun _ _ => rfl)) (pe_ix (show IxR _ (rIxT K) from ix_tup) (pv 2) (pe_op op_sub (pv 6) pe_int) (fun _ _ => rfl)) (nomark _)))) pa_nil)))))) (pss_one (ps_ret pe_bl)) pss_nil)
      (pss_one (ps_ret (pe_callB (cr_all rfl) (by rfl) T.n_all (by decide +kernel) (pa_cons (pe_lc (own := [("name", 3), ("low", 4), ("high", 5)]) (g := gTup K 3 (gCons (gName 3) (gCons (gName 4) (gCons (gName 5) gNil)))) (tt := tYes) rfl sc_Windows_keeps.nd (pi_tup (pe_fld (pv 0) rfl)) (blkOk_by (N := ["self", "order", "years", "name", "low", "high", "at"]) (sc := defScope s_Windows_keeps) (by decide +kernel)) (fun _ _ _ _ _ => (pg_tup (by rfl) (pgs_cons (pg_name (i := 3) sc_Windows_keeps.nd rfl (Or.inl rfl)) (pgs_cons (pg_name (i := 4) sc_Windows_keeps.nd rfl (Or.inl rfl)) (pgs_cons (pg_name (i := 5) sc_Windows_keeps.nd rfl (Or.inl rfl)) pgs_nil))))) (fun _ _ _ _ _ => pts_nil) (fun _ _ _ _ _ => (pe_chain op_le op_le (pv 4) (pe_ix (show IxR _ (rIxT K) from ix_tup) (pv 2) (show PE _ _ (tBM K "list" (rIndex K) _ _) from (pe_bm PySem.F.plainAttrs_list PySem.F.slot_list_index PySem.F.type_list_index mt_index (pv 1) (pa_cons (pv 3) pa_nil))) (fun _ _ => rfl)) (pv 5)))) pa_nil)))))), ?_⟩
    obtain ⟨dx, ut, us, h1, hT, hu, hus⟩ := id hW
    refine ⟨_, rfl, _, _, _, _, _, rfl, h1, T.cl_Windows, T.n_Windows_table, fldsS_table _ _, _, rfl, tb, o, cs, rs, ns, rfl, hT, hO, hl, ke, fun hf H1 s1 => ?_⟩
    have hO1 := Same.seq s1 hO
    have hY1 := Same.tup s1 hY
    have ly : (ivs ys).length = ys.length := List.length_map ..
    have hk := kq hf
    refine ⟨_, rfl, y, _, rfl, .inr hY1, _, rfl, o, _, rfl, .inl hO1, rfl, _, rfl, ?_⟩
    by_cases hlen : ys.length = ns.length
    · refine ifF (by rw [ly, len_sv, hlen, decide_eq_true rfl]; rfl) ?_
      have en : (((ivs ys).length : Int) - 1).toNat = ys.length - 1 := by rw [ly]; omega
      refine ⟨_, rfl, y, _, rfl, .inr hY1, (1 : Int), ((ivs ys).length : Int), rfl, ⟨by decide, by decide, by omega, by rw [ly]; omega⟩, fun D hD => lc_range (n := (((ivs ys).length : Int) - 1).toNat) (PvS H1 D fun i => ((List.range i).map fun i => decide (ys.getD (i + 1) 0 < ys.getD i 0)).map V.bl) (pv0 hD rfl) ?_ ?_⟩
      · intro i H3 hi q
        rw [en] at hi
        have a1 : atI (ivs ys) ((1 : Int) + (i : Int)) = some (.int (ys.getD (i + 1) 0)) := by
          rw [show (1 : Int) + (i : Int) = ((i + 1 : Nat) : Int) by omega]; exact iat (by omega)
        have a0 : atI (ivs ys) ((1 : Int) + (i : Int) - 1) = some (.int (ys.getD i 0)) := by
          rw [show (1 : Int) + (i : Int) - 1 = ((i : Nat) : Int) by omega]; exact iat (by omega)
        exact ⟨rfl, _, rfl, _, rfl, y, _, _, _, rfl, rfl, Same.tup q.1 hY1, a1, _, rfl, _, rfl, _, _, rfl, rfl, y, _, _, _, rfl, rfl, Same.tup q.1 hY1, a0, _, _, rfl, rfl, q.push hD map_pushB (by rw [List.length_map, List.length_map, List.length_range]; omega)⟩
      · rintro H3 ⟨s3, h3⟩
        rw [en] at h3
        refine ⟨D, _, rfl, SqL.of h3, ?_⟩
        have er : (((List.range (ys.length - 1)).map fun i => decide (ys.getD (i + 1) 0 < ys.getD i 0)).any id) = !riseB ys := by
          unfold riseB
          rw [Bool.not_not, List.any_map]; rfl
        rw [er]
        have s13 := s1.trans s3
        cases hri : riseB ys with
        | false =>
          have := hk H3 s13
          unfold keepB at this
          rw [decide_eq_true hlen, hri] at this
          exact ⟨_, rfl, ifT rfl this⟩
        | true =>
          refine ⟨_, rfl, ifF rfl ?_⟩
          have hO3 := Same.seq s3 hO1
          have hY3 := Same.tup s3 hY1
          have h13 := s13 _ _ h1
          have pm := (perm_of_fault ok.nd hf)
          refine ⟨_, rfl, _, _, _, _, _, rfl, h13, T.cl_Windows, T.n_Windows_told, fldsS_told _ _, ut, rfl, ⟨_, SqT.of (s13 _ _ hu)⟩, fun D2 nD2 => lc_it walk_tup (PvS H3 D2 fun i => ((ss.take i).map (inW ns ys)).map V.bl) (pv0 nD2 rfl) (fun i H4 _ q => q.1.tup (SqT.of (s13 _ _ hu))) ?_ ?_⟩
          · rintro i x H40 H4 hi q ⟨rfl, hx⟩
            obtain ⟨b, hb, rfl⟩ := refs_get hx
            obtain ⟨z, hz, ho⟩ := hus.get hb
            obtain ⟨zn, zl, zh⟩ := z
            obtain ⟨j, ej, hj⟩ := ixZ_at (pm.2.2.mem_iff.mpr (hin _ (List.mem_of_getElem? hz)))
            have hjl := (List.getElem?_eq_some_iff.mp hj).1
            have first : ∀ m, m < j → ns[m]? ≠ some zn := fun m hm e => by
              have a : ixZ ns zn = ((j : Nat) : Int) := ixZ_of pm.2.1 hj
              have b : ixZ ns zn = ((m : Nat) : Int) := ixZ_of pm.2.1 e
              omega
            have aj : atI (ivs ys) ((j : Nat) : Int) = some (.int (ys.getD j 0)) := iat (by omega)
            have pushT : ∀ bb : Bool, bb = inW ns ys (zn, zl, zh) → ∃ acc, H4 D2 = some (.lst acc) ∧ acc.length < sizeLine ∧ PvS H3 D2 (fun i => ((ss.take i).map (inW ns ys)).map V.bl) (i + 1) (upd H4 D2 (.lst (acc ++ [V.bl bb]))) := fun bb hbb => by
              refine q.push nD2 ?_ (by rw [List.length_map, List.length_map, List.length_take]; omega)
              show ((ss.take (i + 1)).map (inW ns ys)).map V.bl = _
              rw [take_succ hz, List.map_append, List.map_append, hbb]; rfl
            have eW : inW ns ys (zn, zl, zh) = decide (zl ≤ ys.getD j 0 ∧ ys.getD j 0 ≤ zh) := by
              unfold inW
              show decide (zl ≤ ys.getD (ixZ ns zn).toNat 0 ∧ ys.getD (ixZ ns zn).toNat 0 ≤ zh) = _
              rw [ej, Int.toNat_natCast]
            refine ⟨b, _, rfl, (s13.trans q.1).tup ho, rfl, _, _, rfl, _, _, rfl, _, _, rfl, rfl, rfl, ?_⟩
            refine ⟨_, rfl, _, rfl, _, rfl, .inl ⟨rfl, _, Same.seq q.1 hO3⟩, _, rfl, o, sv ns, .str zn, j, .str zn, rfl, rfl, Same.seq q.1 hO3, rfl, flat_sv _, by rw [List.getElem?_map, hj]; rfl, by rw [eqV_str]; exact decide_eq_true rfl, fun m z' hm hz' => by (obtain ⟨yy, hyy, rfl⟩ := sv_get hz'; rw [eqV_str]; exact decide_eq_false fun e => first m hm (by rw [hyy, e])), y, _, _, _, rfl, rfl, Same.tup q.1 hY3, aj, _, _, rfl, rfl, _, rfl, ?_⟩
            by_cases c1 : zl ≤ ys.getD j 0
            · refine itY c1 ⟨_, rfl, _, _, rfl, rfl, pushT _ ?_⟩
              rw [eW]
              exact decide_eq_decide.mpr ⟨fun h => ⟨c1, h⟩, fun h => h.2⟩
            · refine itN c1 (pushT _ ?_)
              rw [eW, decide_eq_false fun h => c1 h.1]
          · rintro H4 ⟨s4, h4⟩
            rw [show (us.map V.ref).length = ss.length by rw [List.length_map, hus.len]] at h4
            have h4 : H4 D2 = some (.lst (((ss.take ss.length).map (inW ns ys)).map V.bl)) := h4
            rw [List.take_length] at h4
            refine ⟨D2, _, rfl, SqL.of h4, ?_⟩
            have := hk H4 (s13.trans s4)
            unfold keepB at this
            rw [decide_eq_true hlen, hri, Bool.true_and, Bool.true_and] at this
            rw [List.all_map]
            exact this
    · have := hk H1 s1
      unfold keepB at this
      rw [decide_eq_false hlen] at this
      refine ifT (by rw [ly, len_sv]; rw [decide_eq_false (fun z => hlen (by have := V.int.inj z; omega))]; rfl) (ifT rfl this)
theorem ok_keepsTL (T : Txt P K mg A) : FnOk P w K mg base (L2.CX P w) 5 A.a_Windows_keeps A.d_Windows_keeps ["self", "order", "years"] (spKeeps DT (SqL K) K A) := by
  have GX_check_orderT := ok_checkZT (P := P) (w := w) (base := base) T
  refine funX T.F_Windows_keeps sc_Windows_keeps (fun vs H Q E h => ?_) (fun cdv A' outer s H vs Q E hr h => ?_)
  · obtain ⟨p, tb, o, y, cs, rs, ss, ns, ys, rfl, _⟩ := h
    rfl
  · obtain ⟨p, tb, o, y, cs, rs, ss, ns, ys, rfl, hW, hO, hY, hl, hyl, hsl, ok, hin, ke, kq⟩ := h
    refine ⟨_, (pss_cons (ps_expr (pe_callS GX_check_orderT (hr.mono (by decide)) rfl T.mg_check_order T.F_check_order.kp T.b_check_order (fun σ => passAt (takes_of rfl rfl rfl rfl) σ) (pa_cons (pe_fld (pv 0) rfl) (pa_cons (pv 1) pa_nil))))
      (pss_cons (ps_if (PW.pt (pw_or (pt_cmpR op_ne (pe_callB call_len_seq (by rfl) T.n_len (by decide +kernel) (pa_cons (pv 2) pa_nil)) (pe_callB call_len_seq (by rfl) T.n_len (by decide +kernel) (pa_cons (pv 1) pa_nil)) (nomark _)) (pw_or1 (pt_val (pe_callB (cr_any rfl) (by rfl) T.n_any (by decide +kernel) (pa_cons (pe_lc (own := [("at", 6)]) (g := gName 6) (tt := tYes) rfl sc_Windows_keeps.nd (pi_range2 (by rfl) T.n_range (pa_cons pe_int (pa_cons (pe_callB call_len_seq (by rfl) T.n_len (by decide +kernel) (pa_cons (pv 2) pa_nil)) pa_nil))) (blkOk_by (N := ["self", "order", "years", "name", "low", "high", "at"]) (sc := defScope s_Windows_keeps) (by decide +kernel)) (fun _ _ _ _ _ => (pg_name (i := 6) sc_Windows_keeps.nd rfl (Or.inl rfl))) (fun _ _ _ _ _ => pts_nil) (fun _ _ _ _ _ => (pe_cmpR op_lt (pe_ix (show IxR _ (rIxL K) from ix_list) (pv 2) (pv 6) (fun _ _ => rfl)) (pe_ix (show IxR _ (rIxL K) from ix_list) (pv 2) (pe_op op_sub (pv 6) pe_int) (fun _ _ => rfl)) (nomark _)))) pa_nil)))))) (pss_one (ps_ret pe_bl)) pss_nil)
      (pss_one (ps_ret (pe_callB (cr_all rfl) (by rfl) T.n_all (by decide +kernel) (pa_cons (pe_lc (own := [("name", 3), ("low", 4), ("high", 5)]) (g := gTup K 3 (gCons (gName 3) (gCons (gName 4) (gCons (gName 5) gNil)))) (tt := tYes) rfl sc_Windows_keeps.nd (pi_tup (pe_fld (pv 0) rfl)) (blkOk_by (N := ["self", "order", "years", "name", "low", "high", "at"]) (sc := defScope s_Windows_keeps) (by decide +kernel)) (fun _ _ _ _ _ => (pg_tup (by rfl) (pgs_cons (pg_name (i := 3) sc_Windows_keeps.nd rfl (Or.inl rfl)) (pgs_cons (pg_name (i := 4) sc_Windows_keeps.nd rfl (Or.inl rfl)) (pgs_cons (pg_name (i := 5) sc_Windows_keeps.nd rfl (Or.inl rfl)) pgs_nil))))) (fun _ _ _ _ _ => pts_nil) (fun _ _ _ _ _ => (pe_chain op_le op_le (pv 4) (pe_ix (show IxR _ (rIxL K) from ix_list) (pv 2) (show PE _ _ (tBMT (rTIx K) _ _) from (pe_bmT PySem.F.plainAttrs_tuple PySem.F.slot_tuple_index PySem.F.type_tuple_index mt_tIx (pv 1) (pa_cons (pv 3) pa_nil))) (fun _ _ => rfl)) (pv 5)))) pa_nil)))))), ?_⟩
    obtain ⟨dx, ut, us, h1, hT, hu, hus⟩ := id hW
    refine ⟨_, rfl, _, _, _, _, _, rfl, h1, T.cl_Windows, T.n_Windows_table, fldsS_table _ _, _, rfl, tb, o, cs, rs, ns, rfl, hT, hO.sq, hl, ke, fun hf H1 s1 => ?_⟩
    have hO1 := (fun s h => DT.same h s) s1 hO
    have hY1 := Same.seq s1 hY
    have ly : (ivs ys).length = ys.length := List.length_map ..
    have hk := kq hf
    refine ⟨_, rfl, y, _, rfl, .inl hY1, _, rfl, o, _, rfl, .inr hO1.sq, rfl, _, rfl, ?_⟩
    by_cases hlen : ys.length = ns.length
    · refine ifF (by rw [ly, len_sv, hlen, decide_eq_true rfl]; rfl) ?_
      have en : (((ivs ys).length : Int) - 1).toNat = ys.length - 1 := by rw [ly]; omega
      refine ⟨_, rfl, y, _, rfl, .inl hY1, (1 : Int), ((ivs ys).length : Int), rfl, ⟨by decide, by decide, by omega, by rw [ly]; omega⟩, fun D hD => lc_range (n := (((ivs ys).length : Int) - 1).toNat) (PvS H1 D fun i => ((List.range i).map fun i => decide (ys.getD (i + 1) 0 < ys.getD i 0)).map V.bl) (pv0 hD rfl) ?_ ?_⟩
      · intro i H3 hi q
        rw [en] at hi
        have a1 : atI (ivs ys) ((1 : Int) + (i : Int)) = some (.int (ys.getD (i + 1) 0)) := by
          rw [show (1 : Int) + (i : Int) = ((i + 1 : Nat) : Int) by omega]; exact iat (by omega)
        have a0 : atI (ivs ys) ((1 : Int) + (i : Int) - 1) = some (.int (ys.getD i 0)) := by
          rw [show (1 : Int) + (i : Int) - 1 = ((i : Nat) : Int) by omega]; exact iat (by omega)
        exact ⟨rfl, _, rfl, _, rfl, y, _, _, _, rfl, rfl, Same.seq q.1 hY1, a1, _, rfl, _, rfl, _, _, rfl, rfl, y, _, _, _, rfl, rfl, Same.seq q.1 hY1, a0, _, _, rfl, rfl, q.push hD map_pushB (by rw [List.length_map, List.length_map, List.length_range]; omega)⟩
      · rintro H3 ⟨s3, h3⟩
        rw [en] at h3
        refine ⟨D, _, rfl, SqL.of h3, ?_⟩
        have er : (((List.range (ys.length - 1)).map fun i => decide (ys.getD (i + 1) 0 < ys.getD i 0)).any id) = !riseB ys := by
          unfold riseB
          rw [Bool.not_not, List.any_map]; rfl
        rw [er]
        have s13 := s1.trans s3
        cases hri : riseB ys with
        | false =>
          have := hk H3 s13
          unfold keepB at this
          rw [decide_eq_true hlen, hri] at this
          exact ⟨_, rfl, ifT rfl this⟩
        | true =>
          refine ⟨_, rfl, ifF rfl ?_⟩
          have hO3 := (fun s h => DT.same h s) s3 hO1
          have hY3 := Same.seq s3 hY1
          have h13 := s13 _ _ h1
          have pm := (perm_of_fault ok.nd hf)
          refine ⟨_, rfl, _, _, _, _, _, rfl, h13, T.cl_Windows, T.n_Windows_told, fldsS_told _ _, ut, rfl, ⟨_, SqT.of (s13 _ _ hu)⟩, fun D2 nD2 => lc_it walk_tup (PvS H3 D2 fun i => ((ss.take i).map (inW ns ys)).map V.bl) (pv0 nD2 rfl) (fun i H4 _ q => q.1.tup (SqT.of (s13 _ _ hu))) ?_ ?_⟩
          · rintro i x H40 H4 hi q ⟨rfl, hx⟩
            obtain ⟨b, hb, rfl⟩ := refs_get hx
            obtain ⟨z, hz, ho⟩ := hus.get hb
            obtain ⟨zn, zl, zh⟩ := z
            obtain ⟨j, ej, hj⟩ := ixZ_at (pm.2.2.mem_iff.mpr (hin _ (List.mem_of_getElem? hz)))
            have hjl := (List.getElem?_eq_some_iff.mp hj).1
            have first : ∀ m, m < j → ns[m]? ≠ some zn := fun m hm e => by
              have a : ixZ ns zn = ((j : Nat) : Int) := ixZ_of pm.2.1 hj
              have b : ixZ ns zn = ((m : Nat) : Int) := ixZ_of pm.2.1 e
              omega
            have aj : atI (ivs ys) ((j : Nat) : Int) = some (.int (ys.getD j 0)) := iat (by omega)
            have pushT : ∀ bb : Bool, bb = inW ns ys (zn, zl, zh) → ∃ acc, H4 D2 = some (.lst acc) ∧ acc.length < sizeLine ∧ PvS H3 D2 (fun i => ((ss.take i).map (inW ns ys)).map V.bl) (i + 1) (upd H4 D2 (.lst (acc ++ [V.bl bb]))) := fun bb hbb => by
              refine q.push nD2 ?_ (by rw [List.length_map, List.length_map, List.length_take]; omega)
              show ((ss.take (i + 1)).map (inW ns ys)).map V.bl = _
              rw [take_succ hz, List.map_append, List.map_append, hbb]; rfl
            have eW : inW ns ys (zn, zl, zh) = decide (zl ≤ ys.getD j 0 ∧ ys.getD j 0 ≤ zh) := by
              unfold inW
              show decide (zl ≤ ys.getD (ixZ ns zn).toNat 0 ∧ ys.getD (ixZ ns zn).toNat 0 ≤ zh) = _
              rw [ej, Int.toNat_natCast]
            refine ⟨b, _, rfl, (s13.trans q.1).tup ho, rfl, _, _, rfl, _, _, rfl, _, _, rfl, rfl, rfl, ?_⟩
            refine ⟨_, rfl, _, rfl, _, rfl, ⟨o, _, rfl, DT.same hO3 q.1⟩, _, rfl, o, ns, zn, j, rfl, rfl, (DT.same hO3 q.1).sq, hj, first, y, _, _, _, rfl, rfl, Same.seq q.1 hY3, aj, _, _, rfl, rfl, _, rfl, ?_⟩
            by_cases c1 : zl ≤ ys.getD j 0
            · refine itY c1 ⟨_, rfl, _, _, rfl, rfl, pushT _ ?_⟩
              rw [eW]
              exact decide_eq_decide.mpr ⟨fun h => ⟨c1, h⟩, fun h => h.2⟩
            · refine itN c1 (pushT _ ?_)
              rw [eW, decide_eq_false fun h => c1 h.1]
          · rintro H4 ⟨s4, h4⟩
            rw [show (us.map V.ref).length = ss.length by rw [List.length_map, hus.len]] at h4
            have h4 : H4 D2 = some (.lst (((ss.take ss.length).map (inW ns ys)).map V.bl)) := h4
            rw [List.take_length] at h4
            refine ⟨D2, _, rfl, SqL.of h4, ?_⟩
            have := hk H4 (s13.trans s4)
            unfold keepB at this
            rw [decide_eq_true hlen, hri, Bool.true_and, Bool.true_and] at this
            rw [List.all_map]
            exact this
    · have := hk H1 s1
      unfold keepB at this
      rw [decide_eq_false hlen] at this
      refine ifT (by rw [ly, len_sv]; rw [decide_eq_false (fun z => hlen (by have := V.int.inj z; omega))]; rfl) (ifT rfl this)
theorem ok_keepsT (T : Txt P K mg A) : FnOk P w K mg base (L2.CX P w) 5 A.a_Windows_keeps A.d_Windows_keeps ["self", "order", "years"] (spKeeps DT (SqT K) K A) := by
  have GX_check_orderT := ok_checkZT (P := P) (w := w) (base := base) T
  refine funX T.F_Windows_keeps sc_Windows_keeps (fun vs H Q E h => ?_) (fun cdv A' outer s H vs Q E hr h => ?_)
  · obtain ⟨p, tb, o, y, cs, rs, ss, ns, ys, rfl, _⟩ := h
    rfl
  · obtain ⟨p, tb, o, y, cs, rs, ss, ns, ys, rfl, hW, hO, hY, hl, hyl, hsl, ok, hin, ke, kq⟩ := h
    refine ⟨_, (pss_cons (ps_expr (pe_callS GX_check_orderT (hr.mono (by decide)) rfl T.mg_check_order T.F_check_order.kp T.b_check_order (fun σ => passAt (takes_of rfl rfl rfl rfl) σ) (pa_cons (pe_fld (pv 0) rfl) (pa_cons (pv 1) pa_nil))))
      (pss_cons (ps_if (PW.pt (pw_or (pt_cmpR op_ne (pe_callB call_len_seq (by rfl) T.n_len (by decide +kernel) (pa_cons (pv 2) pa_nil)) (pe_callB call_len_seq (by rfl) T.n_len (by decide +kernel) (pa_cons (pv 1) pa_nil)) (nomark _)) (pw_or1 (pt_val (pe_callB (cr_any rfl) (by rfl) T.n_any (by decide +kernel) (pa_cons (pe_lc (own := [("at", 6)]) (g := gName 6) (tt := tYes) rfl sc_Windows_keeps.nd (pi_range2 (by rfl) T.n_range (pa_cons pe_int (pa_cons (pe_callB call_len_seq (by rfl) T.n_len (by decide +kernel) (pa_cons (pv 2) pa_nil)) pa_nil))) (blkOk_by (N := ["self", "order", "years", "name", "low", "high", "at"]) (sc := defScope s_Windows_keeps) (by decide +kernel)) (fun _ _ _ _ _ => (pg_name (i := 6) sc_Windows_keeps.nd rfl (Or.inl rfl))) (fun _ _ _ _ _ => pts_nil) (fun _ _ _ _ _ => (pe_cmpR op_lt (pe_ix (show IxR _ (rIxT K) from ix_tup) (pv 2) (pv 6) (fun _ _ => rfl)) (pe_ix (show IxR _ (rIxT K) from ix_tup) (pv 2) (pe_op op_sub (pv 6) pe_int) (fun _ _ => rfl)) (nomark _)))) pa_nil)))))) (pss_one (ps_ret pe_bl)) pss_nil)
      (pss_one (ps_ret (pe_callB (cr_all rfl) (by rfl) T.n_all (by decide +kernel) (pa_cons (pe_lc (own := [("name", 3), ("low", 4), ("high", 5)]) (g := gTup K 3 (gCons (gName 3) (gCons (gName 4) (gCons (gName 5) gNil)))) (tt := tYes) rfl sc_Windows_keeps.nd (pi_tup (pe_fld (pv 0) rfl)) (blkOk_by (N := ["self", "order", "years", "name", "low", "high", "at"]) (sc := defScope s_Windows_keeps) (by decide +kernel)) (fun _ _ _ _ _ => (pg_tup (by rfl) (pgs_cons (pg_name (i := 3) sc_Windows_keeps.nd rfl (Or.inl rfl)) (pgs_cons (pg_name (i := 4) sc_Windows_keeps.nd rfl (Or.inl rfl)) (pgs_cons (pg_name (i := 5) sc_Windows_keeps.nd rfl (Or.inl rfl)) pgs_nil))))) (fun _ _ _ _ _ => pts_nil) (fun _ _ _ _ _ => (pe_chain op_le op_le (pv 4) (pe_ix (show IxR _ (rIxT K) from ix_tup) (pv 2) (show PE _ _ (tBMT (rTIx K) _ _) from (pe_bmT PySem.F.plainAttrs_tuple PySem.F.slot_tuple_index PySem.F.type_tuple_index mt_tIx (pv 1) (pa_cons (pv 3) pa_nil))) (fun _ _ => rfl)) (pv 5)))) pa_nil)))))), ?_⟩
    obtain ⟨dx, ut, us, h1, hT, hu, hus⟩ := id hW
    refine ⟨_, rfl, _, _, _, _, _, rfl, h1, T.cl_Windows, T.n_Windows_table, fldsS_table _ _, _, rfl, tb, o, cs, rs, ns, rfl, hT, hO.sq, hl, ke, fun hf H1 s1 => ?_⟩
    have hO1 := (fun s h => DT.same h s) s1 hO
    have hY1 := Same.tup s1 hY
    have ly : (ivs ys).length = ys.length := List.length_map ..
    have hk := kq hf
    refine ⟨_, rfl, y, _, rfl, .inr hY1, _, rfl, o, _, rfl, .inr hO1.sq, rfl, _, rfl, ?_⟩
    by_cases hlen : ys.length = ns.length
    · refine ifF (by rw [ly, len_sv, hlen, decide_eq_true rfl]; rfl) ?_
      have en : (((ivs ys).length : Int) - 1).toNat = ys.length - 1 := by rw [ly]; omega
      refine ⟨_, rfl, y, _, rfl, .inr hY1, (1 : Int), ((ivs ys).length : Int), rfl, ⟨by decide, by decide, by omega, by rw [ly]; omega⟩, fun D hD => lc_range (n := (((ivs ys).length : Int) - 1).toNat) (PvS H1 D fun i => ((List.range i).map fun i => decide (ys.getD (i + 1) 0 < ys.getD i 0)).map V.bl) (pv0 hD rfl) ?_ ?_⟩
      · intro i H3 hi q
        rw [en] at hi
        have a1 : atI (ivs ys) ((1 : Int) + (i : Int)) = some (.int (ys.getD (i + 1) 0)) := by
          rw [show (1 : Int) + (i : Int) = ((i + 1 : Nat) : Int) by omega]; exact iat (by omega)
        have a0 : atI (ivs ys) ((1 : Int) + (i : Int) - 1) = some (.int (ys.getD i 0)) := by
          rw [show (1 : Int) + (i : Int) - 1 = ((i : Nat) : Int) by omega]; exact iat (by omega)
        exact ⟨rfl, _, rfl, _, rfl, y, _, _, _, rfl, rfl, Same.tup q.1 hY1, a1, _, rfl, _, rfl, _, _, rfl, rfl, y, _, _, _, rfl, rfl, Same.tup q.1 hY1, a0, _, _, rfl, rfl, q.push hD map_pushB (by rw [List.length_map, List.length_map, List.length_range]; omega)⟩
      · rintro H3 ⟨s3, h3⟩
        rw [en] at h3
        refine ⟨D, _, rfl, SqL.of h3, ?_⟩
        have er : (((List.range (ys.length - 1)).map fun i => decide (ys.getD (i + 1) 0 < ys.getD i 0)).any id) = !riseB ys := by
          unfold riseB
          rw [Bool.not_not, List.any_map]; rfl
        rw [er]
        have s13 := s1.trans s3
        cases hri : riseB ys with
        | false =>
          have := hk H3 s13
          unfold keepB at this
          rw [decide_eq_true hlen, hri] at this
          exact ⟨_, rfl, ifT rfl this⟩
        | true =>
          refine ⟨_, rfl, ifF rfl ?_⟩
          have hO3 := (fun s h => DT.same h s) s3 hO1
          have hY3 := Same.tup s3 hY1
          have h13 := s13 _ _ h1
          have pm := (perm_of_fault ok.nd hf)
          refine ⟨_, rfl, _, _, _, _, _, rfl, h13, T.cl_Windows, T.n_Windows_told, fldsS_told _ _, ut, rfl, ⟨_, SqT.of (s13 _ _ hu)⟩, fun D2 nD2 => lc_it walk_tup (PvS H3 D2 fun i => ((ss.take i).map (inW ns ys)).map V.bl) (pv0 nD2 rfl) (fun i H4 _ q => q.1.tup (SqT.of (s13 _ _ hu))) ?_ ?_⟩
          · rintro i x H40 H4 hi q ⟨rfl, hx⟩
            obtain ⟨b, hb, rfl⟩ := refs_get hx
            obtain ⟨z, hz, ho⟩ := hus.get hb
            obtain ⟨zn, zl, zh⟩ := z
            obtain ⟨j, ej, hj⟩ := ixZ_at (pm.2.2.mem_iff.mpr (hin _ (List.mem_of_getElem? hz)))
            have hjl := (List.getElem?_eq_some_iff.mp hj).1
            have first : ∀ m, m < j → ns[m]? ≠ some zn := fun m hm e => by
              have a : ixZ ns zn = ((j : Nat) : Int) := ixZ_of pm.2.1 hj
              have b : ixZ ns zn = ((m : Nat) : Int) := ixZ_of pm.2.1 e
              omega
            have aj : atI (ivs ys) ((j : Nat) : Int) = some (.int (ys.getD j 0)) := iat (by omega)
            have pushT : ∀ bb : Bool, bb = inW ns ys (zn, zl, zh) → ∃ acc, H4 D2 = some (.lst acc) ∧ acc.length < sizeLine ∧ PvS H3 D2 (fun i => ((ss.take i).map (inW ns ys)).map V.bl) (i + 1) (upd H4 D2 (.lst (acc ++ [V.bl bb]))) := fun bb hbb => by
              refine q.push nD2 ?_ (by rw [List.length_map, List.length_map, List.length_take]; omega)
              show ((ss.take (i + 1)).map (inW ns ys)).map V.bl = _
              rw [take_succ hz, List.map_append, List.map_append, hbb]; rfl
            have eW : inW ns ys (zn, zl, zh) = decide (zl ≤ ys.getD j 0 ∧ ys.getD j 0 ≤ zh) := by
              unfold inW
              show decide (zl ≤ ys.getD (ixZ ns zn).toNat 0 ∧ ys.getD (ixZ ns zn).toNat 0 ≤ zh) = _
              rw [ej, Int.toNat_natCast]
            refine ⟨b, _, rfl, (s13.trans q.1).tup ho, rfl, _, _, rfl, _, _, rfl, _, _, rfl, rfl, rfl, ?_⟩
            refine ⟨_, rfl, _, rfl, _, rfl, ⟨o, _, rfl, DT.same hO3 q.1⟩, _, rfl, o, ns, zn, j, rfl, rfl, (DT.same hO3 q.1).sq, hj, first, y, _, _, _, rfl, rfl, Same.tup q.1 hY3, aj, _, _, rfl, rfl, _, rfl, ?_⟩
            by_cases c1 : zl ≤ ys.getD j 0
            · refine itY c1 ⟨_, rfl, _, _, rfl, rfl, pushT _ ?_⟩
              rw [eW]
              exact decide_eq_decide.mpr ⟨fun h => ⟨c1, h⟩, fun h => h.2⟩
            · refine itN c1 (pushT _ ?_)
              rw [eW, decide_eq_false fun h => c1 h.1]
          · rintro H4 ⟨s4, h4⟩
            rw [show (us.map V.ref).length = ss.length by rw [List.length_map, hus.len]] at h4
            have h4 : H4 D2 = some (.lst (((ss.take ss.length).map (inW ns ys)).map V.bl)) := h4
            rw [List.take_length] at h4
            refine ⟨D2, _, rfl, SqL.of h4, ?_⟩
            have := hk H4 (s13.trans s4)
            unfold keepB at this
            rw [decide_eq_true hlen, hri, Bool.true_and, Bool.true_and] at this
            rw [List.all_map]
            exact this
    · have := hk H1 s1
      unfold keepB at this
      rw [decide_eq_false hlen] at this
      refine ifT (by rw [ly, len_sv]; rw [decide_eq_false (fun z => hlen (by have := V.int.inj z; omega))]; rfl) (ifT rfl this)
end
end My
set_option maxRecDepth 100000
set_option maxHeartbeats 8000000
set_option exponentiation.threshold 10000
namespace My
open PySem L2
/-- the first forced pair that stands the other way round -/
def barP (cs : List Str) (ss : List TW) (ns : List Str) : Option (Str × Str) := (forcedD cs ss).find? fun p => decide (ixZ ns p.2 < ixZ ns p.1)
def lowO (ss : List TW) (z : Str) : Option Int := (ss.find? fun s => decide (s.1 = z)).map (·.2.1)
def startY (ss : List TW) : Int := match ss.map (·.2.1) with
  | [] => 0
  | n :: l => l.foldl min n
def stepY (ss : List TW) (acc : List Int × Int) (z : Str) : List Int × Int :=
  let y := if (lowO ss z).getD acc.2 > acc.2 then (lowO ss z).getD acc.2 else acc.2
  (acc.1 ++ [y], y)
def runY (ss : List TW) (l : List Str) : List Int × Int := l.foldl (stepY ss) ([], startY ss)
theorem runY_snoc (ss : List TW) (l : List Str) (z : Str) : runY ss (l ++ [z]) = stepY ss (runY ss l) z := by unfold runY; rw [List.foldl_append]; rfl
theorem runY_len (ss : List TW) (l : List Str) : (runY ss l).1.length = l.length := by
  have key : ∀ (l : List Str) (a : List Int × Int), (l.foldl (stepY ss) a).1.length = a.1.length + l.length := by
    intro l
    induction l with
    | nil => intro a; rfl
    | cons z l ih =>
      intro a
      rw [List.foldl_cons, ih]
      show (a.1 ++ [_]).length + l.length = _
      rw [List.length_append, List.length_cons]
      show a.1.length + 1 + l.length = a.1.length + (l.length + 1)
      omega
  unfold runY
  rw [key]
  show 0 + l.length = _
  omega
def datesM (ss : List TW) (ns : List Str) : List Int := (runY ss ns).1
theorem startY_of {ss : List TW} {m : Int} (h : (ss.map (·.2.1) = [] ∧ m = 0) ∨ (m ∈ ss.map (·.2.1) ∧ ∀ y ∈ ss.map (·.2.1), m ≤ y)) : m = startY ss := by
  unfold startY
  generalize ss.map (·.2.1) = l at h
  cases l with
  | nil =>
    rcases h with h | h
    · exact h.2
    · cases h.1
  | cons n l =>
    rcases h with h | h
    · cases h.1
    · obtain ⟨f1, f2⟩ := foldl_min l n
      have a := h.2 _ f1
      have b := f2 _ h.1
      show m = l.foldl min n
      omega
theorem exc_same5 {H : Hp} {a d : Addr} {o1 o2 o3 o4 o5 : HO} (ha : H a = none) (hd : H d = none) : Same H (upd (L2.del (upd (upd (upd (upd H a o1) d o2) a o3) d o4) a) d o5) := fun b o e => by
  have na := ne_of_none e ha
  have ndd := ne_of_none e hd
  rw [upd_ne ndd, L2.del_ne na, upd_ne ndd, upd_ne na, upd_ne ndd, upd_ne na]
  exact e
theorem fldsS_forced (tb ut : Addr) : (fldsS tb ut).lookup ("forced" : Str) = none := by
  unfold fldsS; rw [lookup_putF, if_neg (by decide +kernel), lookup_putF, if_neg (by decide +kernel)]; rfl
abbrev kvW (ss : List TW) : List (Key × V) := ss.map fun s => (Sum.inr s.1, V.int s.2.1)
theorem valV_kvW (z : Str) : ∀ ss : List TW, valV (kvW ss) (Sum.inr z) = (lowO ss z).map V.int
  | [] => rfl
  | s :: ss => by
    by_cases e : s.1 = z
    · have a : valV (kvW (s :: ss)) (Sum.inr z) = some (V.int s.2.1) := valV_pos (p := ((Sum.inr s.1 : Key), V.int s.2.1)) (by rw [e])
      have b : lowO (s :: ss) z = some s.2.1 := by unfold lowO; rw [List.find?_cons_of_pos (by exact decide_eq_true e)]; rfl
      rw [a, b]; rfl
    · have a : valV (kvW (s :: ss)) (Sum.inr z) = valV (kvW ss) (Sum.inr z) := valV_neg (p := ((Sum.inr s.1 : Key), V.int s.2.1)) (fun h => e (Sum.inr.inj h))
      have b : lowO (s :: ss) z = lowO ss z := by unfold lowO; rw [List.find?_cons_of_neg (by rw [decide_eq_false e]; exact Bool.false_ne_true)]
      rw [a, b]; exact valV_kvW z ss
theorem lowO_no {ss : List TW} {z : Str} (h : z ∉ nms ss) : lowO ss z = none := by
  unfold lowO
  rw [List.find?_eq_none.mpr fun s hs => by rw [decide_eq_true_iff]; exact fun e => h (by rw [← e]; exact List.mem_map_of_mem hs)]; rfl
theorem forced_mem {cs : List Str} {ss : List TW} {p : Str × Str} (h : p ∈ forcedD cs ss) : p.1 ∈ cs ∧ p.2 ∈ cs := by
  unfold forcedD at h
  obtain ⟨x, hx, hp⟩ := List.mem_flatMap.mp h
  obtain ⟨y, hy, e⟩ := List.mem_map.mp hp
  rw [← e]
  exact ⟨hx, (List.mem_filter.mp hy).1⟩
theorem ivs_len' (l : List Int) : (ivs l).length = l.length := List.length_map ..
section
variable {P : Program} {w : World} {K : PySem.W.Frag} {mg : Str → Option Value} {base : Heap} {A : Ad}
def spDates (so : Hp → Addr → List V → Prop) (K : PySem.W.Frag) (A : Ad) : Sp := fun vs H Q E => ∃ p tb o cs rs ss ns, vs = [.ref p, .ref o] ∧ Wns A.C_Windows A.C_Table K H p tb cs rs ss ∧ so H o (sv ns) ∧ ns.length ≤ 1000 ∧ ColsOk cs ∧ (∀ s ∈ ss, s.1 ∈ cs) ∧ (nms ss).Nodup ∧
  (∀ i, fault cs ns = some i → ∀ d H', Same H H' → H' d = some (.xd [("index", .int (i : Nat))]) → E (.ref A.C_BadOrder) (some d) H') ∧
  (∀ a b, fault cs ns = none → barP cs ss ns = some (a, b) → ∀ d H', Same H H' → H' d = some (.xd [("other", .str a), ("one", .str b)]) → E (.ref A.C_NoDates) (some d) H') ∧
  (fault cs ns = none → barP cs ss ns = none → ∀ D H', Same H H' → H D = none → H' D = some (.lst (ivs (datesM ss ns))) → Q (.ref D) H')
theorem ok_dates (T : Txt P K mg A) : FnOk P w K mg base (L2.CX P w) 5 A.a_Windows_dates A.d_Windows_dates ["self", "order"] (spDates (SqL K) K A) := by
  have GX_check_order := ok_checkZ (P := P) (w := w) (base := base) T
  have G_Windows_forced := ok_forced (P := P) (w := w) (base := base) T
  have G_NoDates_init := ok_NoDates (P := P) (w := w) (base := base) T
  refine funX T.F_Windows_dates sc_Windows_dates (fun vs H Q E h => ?_) (fun cdv A' outer s H vs Q E hr h => ?_)
  · obtain ⟨p, tb, o, cs, rs, ss, ns, rfl, _⟩ := h
    rfl
  · obtain ⟨p, tb, o, cs, rs, ss, ns, rfl, hW, hO, hl, ok, hin, nn, ke, kb, kq⟩ := h
    refine ⟨_, (pss_cons (ps_expr (pe_callS GX_check_order (hr.mono (by decide)) rfl T.mg_check_order T.F_check_order.kp T.b_check_order (fun σ => passAt (takes_of rfl rfl rfl rfl) σ) (pa_cons (pe_fld (pv 0) rfl) (pa_cons (pv 1) pa_nil))))
      (pss_cons (ps_for (passes_of rfl) rfl (pi_list (pe_meth0 (pv 0) T.cl_Windows T.m_Windows_forced G_Windows_forced (hr.mono (by decide)) T.b_Windows_forced .nil pass0)) (pg_tup (by rfl) (pgs_cons (pg_name (i := 2) sc_Windows_dates.nd rfl (Or.inl rfl)) (pgs_cons (pg_name (i := 3) sc_Windows_dates.nd rfl (Or.inl rfl)) pgs_nil)))
        (pss_one (ps_if (pt_cmpR op_lt (pe_bm PySem.F.plainAttrs_list PySem.F.slot_list_index PySem.F.type_list_index mt_index (pv 1) (pa_cons (pv 3) pa_nil)) (pe_bm PySem.F.plainAttrs_list PySem.F.slot_list_index PySem.F.type_list_index mt_index (pv 1) (pa_cons (pv 2) pa_nil)) (nomark _)) (pss_one (ps_raise rfl (takes_of rfl rfl rfl rfl) (pmk_oex T.SC_NoDates.ox T.ii_NoDates T.ti_NoDates G_NoDates_init (hr.mono (by decide)) T.b_NoDates_init .nil pass0 rfl T.mg_NoDates (pa_cons (pv 3) (pa_cons (pv 2) pa_nil))))) pss_nil)))
      (pss_cons (ps_setDc (i := 4) (own := [("name", 7), ("low", 8), ("_", 9)]) (g := gTup K 3 (gCons (gName 7) (gCons (gName 8) (gCons (gName 9) gNil)))) (tt := tYes) rfl sc_Windows_dates.nd rfl rfl (sw_trueD rfl rfl rfl (by decide +kernel)) (pi_tup (pe_fld (pv 0) rfl)) (blkOk_by (N := ["self", "order", "a", "b", "lows", "year", "years", "name", "low", "_"]) (sc := defScope s_Windows_dates) (by decide +kernel)) (fun _ _ _ _ _ => (pg_tup (by rfl) (pgs_cons (pg_name (i := 7) sc_Windows_dates.nd rfl (Or.inl rfl)) (pgs_cons (pg_name (i := 8) sc_Windows_dates.nd rfl (Or.inl rfl)) (pgs_cons (pg_name (i := 9) sc_Windows_dates.nd rfl (Or.inl rfl)) pgs_nil))))) (fun _ _ _ _ _ => pts_nil) (fun _ _ _ _ _ => (pv 7)) (fun _ _ _ _ _ => (pv 8)))
      (pss_cons (ps_set (i := 5) sc_Windows_dates.nd rfl (Or.inl rfl) (pe_callBK (call_minDf rfl (hu10 hr)) (by rfl) T.n_min (by decide +kernel) (pa_cons (pe_listVals rfl (by rfl) T.n_list (pv 4)) pa_nil) (pk_cons pe_int pk_nil)))
      (pss_cons (ps_set (i := 6) sc_Windows_dates.nd rfl (Or.inl rfl) (pe_lst pa_nil))
      (pss_cons (ps_for (passes_of rfl) rfl (pi_list (pv 1)) (pg_name (i := 7) sc_Windows_dates.nd rfl (Or.inl rfl))
        (pss_cons (ps_set (i := 5) sc_Windows_dates.nd rfl (Or.inl rfl) (pe_callB (call_max2 rfl) (by rfl) T.n_max (by decide +kernel) (pa_cons (pv 5) (pa_cons (pe_dget2 (hu_of hr) (pv 4) (pv 7) (pv 5) ⟨rfl, rfl, rfl, rfl⟩) pa_nil))))
      (pss_one (ps_expr (pe_bm PySem.F.plainAttrs_list PySem.F.slot_list_append PySem.F.type_list_append mt_append (pv 6) (pa_cons (pv 5) pa_nil))))))
      (pss_one (ps_ret (pv 6))))))))), ?_⟩
    obtain ⟨dx, ut, us, h1, hT, hu, hus⟩ := id hW
    refine ⟨_, rfl, _, _, _, _, _, rfl, h1, T.cl_Windows, T.n_Windows_table, fldsS_table _ _, _, rfl, tb, o, cs, rs, ns, rfl, hT, hO, hl, ke, fun hf H1 s1 => ?_⟩
    have hW1 := hW.same s1
    have h11 := s1 _ _ h1
    have pm := perm_of_fault ok.nd hf
    refine ⟨_, rfl, p, dx, _, rfl, h11, fldsS_forced _ _, p, tb, cs, rs, ss, rfl, hW1, ok, hin, nn, fun FD qs H2 s2 nFD hFD hq => ?_⟩
    have s12 := s1.trans s2
    have lq : (qs.map V.ref).length = (forcedD cs ss).length := by rw [List.length_map, hq.len]
    refine ⟨FD, rfl, ⟨_, SqL.of hFD⟩, for_it walk_list (fun i σ H3 => Same H2 H3 ∧ (∀ j pp, j < i → (forcedD cs ss)[j]? = some pp → ¬ ixZ ns pp.2 < ixZ ns pp.1) ∧ ∃ u2 u3 : Option V, σ = [some (.ref p), some (.ref o), u2, u3, none, none, none, none, none, none]) ⟨Same.refl _, fun j pp hj => absurd hj (Nat.not_lt_zero _), none, none, rfl⟩ (fun i σ H3 _ q => q.1.seq (SqL.of hFD)) ?_ ?_⟩
    · rintro i x σ H30 H3 hi ⟨sm, hb, u2, u3, rfl⟩ ⟨rfl, hx⟩
      obtain ⟨t, ht, rfl⟩ := refs_get hx
      obtain ⟨⟨za, zb⟩, hpp, hpt⟩ := hq.get ht
      obtain ⟨ma, mb⟩ := forced_mem (List.mem_of_getElem? hpp)
      obtain ⟨ia, eia, hia⟩ := ixZ_at (pm.2.2.mem_iff.mpr ma)
      obtain ⟨ib, eib, hib⟩ := ixZ_at (pm.2.2.mem_iff.mpr mb)
      have fa : ∀ m, m < ia → ns[m]? ≠ some za := fun m hm e => by
        have a : ixZ ns za = ((ia : Nat) : Int) := ixZ_of pm.2.1 hia
        have b : ixZ ns za = ((m : Nat) : Int) := ixZ_of pm.2.1 e
        omega
      have fb : ∀ m, m < ib → ns[m]? ≠ some zb := fun m hm e => by
        have a : ixZ ns zb = ((ib : Nat) : Int) := ixZ_of pm.2.1 hib
        have b : ixZ ns zb = ((m : Nat) : Int) := ixZ_of pm.2.1 e
        omega
      have hO3 := Same.seq (s12.trans sm) hO
      refine ⟨t, _, rfl, SqT.of (sm _ _ hpt), rfl, _, _, rfl, _, _, rfl, rfl, ?_⟩
      refine ⟨_, rfl, .inl ⟨rfl, _, hO3⟩, _, rfl, o, sv ns, .str zb, ib, .str zb, rfl, rfl, hO3, rfl, flat_sv _, by rw [List.getElem?_map, hib]; rfl, by rw [eqV_str]; exact decide_eq_true rfl, fun m z' hm hz' => by (obtain ⟨yy, hyy, rfl⟩ := sv_get hz'; rw [eqV_str]; exact decide_eq_false fun e => fb m hm (by rw [hyy, e])), _, rfl, .inl ⟨rfl, _, hO3⟩, _, rfl, o, sv ns, .str za, ia, .str za, rfl, rfl, hO3, rfl, flat_sv _, by rw [List.getElem?_map, hia]; rfl, by rw [eqV_str]; exact decide_eq_true rfl, fun m z' hm hz' => by (obtain ⟨yy, hyy, rfl⟩ := sv_get hz'; rw [eqV_str]; exact decide_eq_false fun e => fa m hm (by rw [hyy, e])), _, _, rfl, rfl, _, rfl, ?_⟩
      have eia : ixZ ns za = ((ia : Nat) : Int) := eia
      have eib : ixZ ns zb = ((ib : Nat) : Int) := eib
      by_cases hlt : ((ib : Nat) : Int) < ((ia : Nat) : Int)
      · have hbar : barP cs ss ns = some (za, zb) := by
          unfold barP
          rw [List.find?_eq_some_iff_append]
          refine ⟨decide_eq_true (by show ixZ ns zb < ixZ ns za; omega), (forcedD cs ss).take i, (forcedD cs ss).drop (i + 1), ?_, fun pp hp2 => ?_⟩
          · obtain ⟨h9, e9⟩ := List.getElem?_eq_some_iff.mp hpp
            rw [← e9, ← List.drop_eq_getElem_cons h9, List.take_append_drop]
          · obtain ⟨j, hj, e9⟩ := List.getElem_of_mem hp2
            rw [List.length_take] at hj
            have := hb j pp (by omega) (by rw [← e9, List.getElem_take, List.getElem?_eq_getElem])
            rw [decide_eq_false this]; rfl
        have lz : ∀ z ∈ cs, z.length ≤ 1000 := fun z hz => Nat.le_trans (ok.g z hz).le (by decide)
        refine itY hlt ⟨_, rfl, _, rfl, by show 2 ≤ 1000; decide, fun aa ha => ⟨aa, zb, za, rfl, lz _ mb, lz _ ma, upd_same, fun d hd hne => ⟨rfl, d, _, by rw [upd_ne hne.symm]; exact upd_same, upd_same, by rw [upd_ne hne] at hd; exact hd, by rw [upd_ne hne] at hd; exact kb za zb hf hbar d _ ((s12.trans sm).trans (exc_same5 ha hd)) upd_same⟩⟩⟩
      · refine itN hlt ⟨sm, fun j pp hj hp2 => ?_, _, _, rfl⟩
        rcases Nat.lt_succ_iff_lt_or_eq.mp hj with q | q
        · exact hb j pp q hp2
        · rw [q, hpp] at hp2; cases hp2
          show ¬ ixZ ns zb < ixZ ns za
          omega
    rintro σ H3 ⟨sm, hb, u2, u3, rfl⟩
    have hbar : barP cs ss ns = none := by
      unfold barP
      rw [List.find?_eq_none]
      intro pp hp2
      obtain ⟨j, hj, e9⟩ := List.getElem_of_mem hp2
      rw [decide_eq_true_iff]
      exact hb j pp (by rw [lq]; exact hj) (by rw [← e9, List.getElem?_eq_getElem])
    have s3 := s12.trans sm
    have hk := kq hf hbar
    have h13 := s3 _ _ h1
    have ssl : ss.length ≤ 12 := by
      have := nodup_le nn (fun y hy => by obtain ⟨s, hs, e⟩ := List.mem_map.mp hy; rw [← e]; exact hin s hs)
      rw [List.length_map] at this
      exact Nat.le_trans this ok.n
    have lus : (us.map V.ref).length = ss.length := by rw [List.length_map, hus.len]
    refine ⟨_, rfl, _, _, _, _, _, rfl, h13, T.cl_Windows, T.n_Windows_told, fldsS_told _ _, ut, rfl, ⟨_, SqT.of (s3 _ _ hu)⟩, fun LD nLD => walk_w walk_tup (fun i H4 => Same H3 H4 ∧ H4 LD = some (.dK (kvW (ss.take i)))) ⟨same_new nLD, upd_same⟩ (fun i H4 _ q => q.1.tup (SqT.of (s3 _ _ hu))) ?_ ?_⟩
    · rintro i x H40 H4 hi ⟨s4, hLD⟩ ⟨rfl, hx⟩
      obtain ⟨b, hb2, rfl⟩ := refs_get hx
      obtain ⟨z, hz, ho⟩ := hus.get hb2
      obtain ⟨zn, zl, zh⟩ := z
      refine ⟨b, _, rfl, (s3.trans s4).tup ho, rfl, _, _, rfl, _, _, rfl, _, _, rfl, rfl, rfl, ?_⟩
      have hnew : valV (kvW (ss.take i)) (Sum.inr zn) = none := by
        rw [valV_kvW, lowO_no]; rfl
        intro hm
        obtain ⟨s9, hs9, e9⟩ := List.mem_map.mp hm
        obtain ⟨j, hj, e10⟩ := List.getElem_of_mem hs9
        rw [List.length_take] at hj
        rw [List.nodup_iff_pairwise_ne, List.pairwise_iff_getElem] at nn
        obtain ⟨h9, e11⟩ := List.getElem?_eq_some_iff.mp hz
        refine nn j i (by rw [List.length_map]; omega) (by rw [List.length_map]; exact h9) (by omega) ?_
        rw [List.getElem_map, List.getElem_map, e11]
        rw [List.getElem_take] at e10
        rw [e10]; exact e9
      refine ⟨_, rfl, _, rfl, kvW (ss.take i), Sum.inr zn, rfl, hLD, small_int (by rw [List.length_map, List.length_take]; omega), fun x u e => by rw [upd_ne (ne_of_none e nLD)]; exact s4 _ _ e, ?_⟩
      rw [upd_same, putK_new _ hnew, take_succ hz]
      show _ = some (HO.dK ((ss.take i ++ [(zn, zl, zh)]).map fun s => (Sum.inr s.1, V.int s.2.1)))
      rw [List.map_append]; rfl
    rintro H4 ⟨s4, hLD⟩
    rw [lus, List.take_length] at hLD
    refine ⟨_, rfl, LD, kvW ss, rfl, hLD, fun VL nVL => ?_⟩
    generalize hG : upd H4 VL _ = H5
    have q5 : Same H4 H5 := hG ▸ same_new nVL
    have x5 := (congrFun hG VL).symm.trans upd_same
    clear hG
    have x5 : H5 VL = some (.lst (ivs (ss.map (·.2.1)))) := by
      rw [x5]
      show some (HO.lst ((ss.map fun s => ((Sum.inr s.1 : Key), V.int s.2.1)).map (·.2))) = some (HO.lst ((ss.map (·.2.1)).map V.int))
      rw [List.map_map, List.map_map]; rfl
    refine ⟨VL, ss.map (·.2.1), 0, rfl, rfl, SqL.of x5, fun m hm => ?_⟩
    have em := startY_of hm
    subst em
    clear hm
    refine ⟨by show 0 ≤ sizeLine; decide, fun YD nYD => ?_⟩
    generalize hG : upd H5 YD _ = H6
    have q6 : Same H5 H6 := hG ▸ same_new nYD
    have x6 := (congrFun hG YD).symm.trans upd_same
    clear hG
    have s46 := s4.trans (q5.trans q6)
    have s6 := s3.trans s46
    have hLD6 := (q5.trans q6) _ _ hLD
    have nLY : LD ≠ YD := ne_of_none (q5 _ _ hLD) nYD
    have hO6 := Same.seq s6 hO
    refine ⟨_, rfl, o, rfl, ⟨_, hO6⟩, for_it walk_list (fun i σ H7 => Same H H7 ∧ H7 LD = some (.dK (kvW ss)) ∧ H7 YD = some (.lst (ivs (runY ss (ns.take i)).1)) ∧ ∃ u7 : Option V, σ = [some (.ref p), some (.ref o), u2, u3, some (.ref LD), some (.int (runY ss (ns.take i)).2), some (.ref YD), u7, none, none]) ⟨s6, hLD6, x6, none, rfl⟩ (fun i σ H7 _ q => q.1.seq hO) ?_ ?_⟩
    · rintro i x σ H70 H7 hi ⟨s7, hL7, hY7, u7, rfl⟩ ⟨rfl, hx⟩
      obtain ⟨z, hz, rfl⟩ := sv_get hx
      refine ⟨_, rfl, _, rfl, LD, rfl, .inl ⟨_, .inl hL7⟩, _, rfl, _, rfl, valV (kvW ss) (Sum.inr z), DGet.k (k := Sum.inr z) hL7, ?_⟩
      have eg : ((valV (kvW ss) (Sum.inr z)).getD (V.int (runY ss (ns.take i)).2)) = V.int ((lowO ss z).getD (runY ss (ns.take i)).2) := by
        rw [valV_kvW]
        cases lowO ss z <;> rfl
      rw [eg]
      refine ⟨_, _, rfl, ?_⟩
      have nY0 : H YD = none := none_of (s3.trans (s4.trans q5)) nYD
      refine ⟨_, rfl, .inl ⟨rfl, _, SqL.of hY7⟩, _, rfl, YD, _, _, rfl, rfl, hY7, small_int (by rw [ivs_len', runY_len, List.length_take]; rw [len_sv] at hi; omega), ?_⟩
      have e2 : runY ss (ns.take (i + 1)) = stepY ss (runY ss (ns.take i)) z := by rw [take_succ hz, runY_snoc]
      refine ⟨fun x u e => by rw [upd_ne (ne_of_none e nY0)]; exact s7 _ _ e, by rw [upd_ne nLY]; exact hL7, ?_, _, by rw [e2]; rfl⟩
      rw [upd_same, e2]
      show some (HO.lst (ivs (runY ss (ns.take i)).1 ++ [V.int _])) = some (HO.lst (((runY ss (ns.take i)).1 ++ [_]).map V.int))
      rw [List.map_append]; rfl
    · rintro σ H7 ⟨s7, hL7, hY7, u7, rfl⟩
      rw [len_sv, List.take_length] at hY7
      have nY0 : H YD = none := none_of (s3.trans (s4.trans q5)) nYD
      exact ⟨_, rfl, hk YD H7 s7 nY0 hY7⟩
theorem ok_datesT (T : Txt P K mg A) : FnOk P w K mg base (L2.CX P w) 5 A.a_Windows_dates A.d_Windows_dates ["self", "order"] (spDates DT K A) := by
  have GX_check_orderT := ok_checkZT (P := P) (w := w) (base := base) T
  have G_Windows_forced := ok_forced (P := P) (w := w) (base := base) T
  have G_NoDates_init := ok_NoDates (P := P) (w := w) (base := base) T
  refine funX T.F_Windows_dates sc_Windows_dates (fun vs H Q E h => ?_) (fun cdv A' outer s H vs Q E hr h => ?_)
  · obtain ⟨p, tb, o, cs, rs, ss, ns, rfl, _⟩ := h
    rfl
  · obtain ⟨p, tb, o, cs, rs, ss, ns, rfl, hW, hO, hl, ok, hin, nn, ke, kb, kq⟩ := h
    refine ⟨_, (pss_cons (ps_expr (pe_callS GX_check_orderT (hr.mono (by decide)) rfl T.mg_check_order T.F_check_order.kp T.b_check_order (fun σ => passAt (takes_of rfl rfl rfl rfl) σ) (pa_cons (pe_fld (pv 0) rfl) (pa_cons (pv 1) pa_nil))))
      (pss_cons (ps_for (passes_of rfl) rfl (pi_list (pe_meth0 (pv 0) T.cl_Windows T.m_Windows_forced G_Windows_forced (hr.mono (by decide)) T.b_Windows_forced .nil pass0)) (pg_tup (by rfl) (pgs_cons (pg_name (i := 2) sc_Windows_dates.nd rfl (Or.inl rfl)) (pgs_cons (pg_name (i := 3) sc_Windows_dates.nd rfl (Or.inl rfl)) pgs_nil)))
        (pss_one (ps_if (pt_cmpR op_lt (pe_bmT PySem.F.plainAttrs_tuple PySem.F.slot_tuple_index PySem.F.type_tuple_index mt_tup_index (pv 1) (pa_cons (pv 3) pa_nil)) (pe_bmT PySem.F.plainAttrs_tuple PySem.F.slot_tuple_index PySem.F.type_tuple_index mt_tup_index (pv 1) (pa_cons (pv 2) pa_nil)) (nomark _)) (pss_one (ps_raise rfl (takes_of rfl rfl rfl rfl) (pmk_oex T.SC_NoDates.ox T.ii_NoDates T.ti_NoDates G_NoDates_init (hr.mono (by decide)) T.b_NoDates_init .nil pass0 rfl T.mg_NoDates (pa_cons (pv 3) (pa_cons (pv 2) pa_nil))))) pss_nil)))
      (pss_cons (ps_setDc (i := 4) (own := [("name", 7), ("low", 8), ("_", 9)]) (g := gTup K 3 (gCons (gName 7) (gCons (gName 8) (gCons (gName 9) gNil)))) (tt := tYes) rfl sc_Windows_dates.nd rfl rfl (sw_trueD rfl rfl rfl (by decide +kernel)) (pi_tup (pe_fld (pv 0) rfl)) (blkOk_by (N := ["self", "order", "a", "b", "lows", "year", "years", "name", "low", "_"]) (sc := defScope s_Windows_dates) (by decide +kernel)) (fun _ _ _ _ _ => (pg_tup (by rfl) (pgs_cons (pg_name (i := 7) sc_Windows_dates.nd rfl (Or.inl rfl)) (pgs_cons (pg_name (i := 8) sc_Windows_dates.nd rfl (Or.inl rfl)) (pgs_cons (pg_name (i := 9) sc_Windows_dates.nd rfl (Or.inl rfl)) pgs_nil))))) (fun _ _ _ _ _ => pts_nil) (fun _ _ _ _ _ => (pv 7)) (fun _ _ _ _ _ => (pv 8)))
      (pss_cons (ps_set (i := 5) sc_Windows_dates.nd rfl (Or.inl rfl) (pe_callBK (call_minDf rfl (hu10 hr)) (by rfl) T.n_min (by decide +kernel) (pa_cons (pe_listVals rfl (by rfl) T.n_list (pv 4)) pa_nil) (pk_cons pe_int pk_nil)))
      (pss_cons (ps_set (i := 6) sc_Windows_dates.nd rfl (Or.inl rfl) (pe_lst pa_nil))
      (pss_cons (ps_for (passes_of rfl) rfl (pi_tup (pv 1)) (pg_name (i := 7) sc_Windows_dates.nd rfl (Or.inl rfl))
        (pss_cons (ps_set (i := 5) sc_Windows_dates.nd rfl (Or.inl rfl) (pe_callB (call_max2 rfl) (by rfl) T.n_max (by decide +kernel) (pa_cons (pv 5) (pa_cons (pe_dget2 (hu_of hr) (pv 4) (pv 7) (pv 5) ⟨rfl, rfl, rfl, rfl⟩) pa_nil))))
      (pss_one (ps_expr (pe_bm PySem.F.plainAttrs_list PySem.F.slot_list_append PySem.F.type_list_append mt_append (pv 6) (pa_cons (pv 5) pa_nil))))))
      (pss_one (ps_ret (pv 6))))))))), ?_⟩
    obtain ⟨dx, ut, us, h1, hT, hu, hus⟩ := id hW
    refine ⟨_, rfl, _, _, _, _, _, rfl, h1, T.cl_Windows, T.n_Windows_table, fldsS_table _ _, _, rfl, tb, o, cs, rs, ns, rfl, hT, hO.sq, hl, ke, fun hf H1 s1 => ?_⟩
    have hW1 := hW.same s1
    have h11 := s1 _ _ h1
    have pm := perm_of_fault ok.nd hf
    refine ⟨_, rfl, p, dx, _, rfl, h11, fldsS_forced _ _, p, tb, cs, rs, ss, rfl, hW1, ok, hin, nn, fun FD qs H2 s2 nFD hFD hq => ?_⟩
    have s12 := s1.trans s2
    have lq : (qs.map V.ref).length = (forcedD cs ss).length := by rw [List.length_map, hq.len]
    refine ⟨FD, rfl, ⟨_, SqL.of hFD⟩, for_it walk_list (fun i σ H3 => Same H2 H3 ∧ (∀ j pp, j < i → (forcedD cs ss)[j]? = some pp → ¬ ixZ ns pp.2 < ixZ ns pp.1) ∧ ∃ u2 u3 : Option V, σ = [some (.ref p), some (.ref o), u2, u3, none, none, none, none, none, none]) ⟨Same.refl _, fun j pp hj => absurd hj (Nat.not_lt_zero _), none, none, rfl⟩ (fun i σ H3 _ q => q.1.seq (SqL.of hFD)) ?_ ?_⟩
    · rintro i x σ H30 H3 hi ⟨sm, hb, u2, u3, rfl⟩ ⟨rfl, hx⟩
      obtain ⟨t, ht, rfl⟩ := refs_get hx
      obtain ⟨⟨za, zb⟩, hpp, hpt⟩ := hq.get ht
      obtain ⟨ma, mb⟩ := forced_mem (List.mem_of_getElem? hpp)
      obtain ⟨ia, eia, hia⟩ := ixZ_at (pm.2.2.mem_iff.mpr ma)
      obtain ⟨ib, eib, hib⟩ := ixZ_at (pm.2.2.mem_iff.mpr mb)
      have fa : ∀ m, m < ia → ns[m]? ≠ some za := fun m hm e => by
        have a : ixZ ns za = ((ia : Nat) : Int) := ixZ_of pm.2.1 hia
        have b : ixZ ns za = ((m : Nat) : Int) := ixZ_of pm.2.1 e
        omega
      have fb : ∀ m, m < ib → ns[m]? ≠ some zb := fun m hm e => by
        have a : ixZ ns zb = ((ib : Nat) : Int) := ixZ_of pm.2.1 hib
        have b : ixZ ns zb = ((m : Nat) : Int) := ixZ_of pm.2.1 e
        omega
      have hO3 := (fun s h => DT.same h s) (s12.trans sm) hO
      refine ⟨t, _, rfl, SqT.of (sm _ _ hpt), rfl, _, _, rfl, _, _, rfl, rfl, ?_⟩
      refine ⟨_, rfl, ⟨o, _, rfl, hO3⟩, _, rfl, o, ns, zb, ib, rfl, rfl, hO3.sq, hib, fb, _, rfl, ⟨o, _, rfl, hO3⟩, _, rfl, o, ns, za, ia, rfl, rfl, hO3.sq, hia, fa, _, _, rfl, rfl, _, rfl, ?_⟩
      have eia : ixZ ns za = ((ia : Nat) : Int) := eia
      have eib : ixZ ns zb = ((ib : Nat) : Int) := eib
      by_cases hlt : ((ib : Nat) : Int) < ((ia : Nat) : Int)
      · have hbar : barP cs ss ns = some (za, zb) := by
          unfold barP
          rw [List.find?_eq_some_iff_append]
          refine ⟨decide_eq_true (by show ixZ ns zb < ixZ ns za; omega), (forcedD cs ss).take i, (forcedD cs ss).drop (i + 1), ?_, fun pp hp2 => ?_⟩
          · obtain ⟨h9, e9⟩ := List.getElem?_eq_some_iff.mp hpp
            rw [← e9, ← List.drop_eq_getElem_cons h9, List.take_append_drop]
          · obtain ⟨j, hj, e9⟩ := List.getElem_of_mem hp2
            rw [List.length_take] at hj
            have := hb j pp (by omega) (by rw [← e9, List.getElem_take, List.getElem?_eq_getElem])
            rw [decide_eq_false this]; rfl
        have lz : ∀ z ∈ cs, z.length ≤ 1000 := fun z hz => Nat.le_trans (ok.g z hz).le (by decide)
        refine itY hlt ⟨_, rfl, _, rfl, by show 2 ≤ 1000; decide, fun aa ha => ⟨aa, zb, za, rfl, lz _ mb, lz _ ma, upd_same, fun d hd hne => ⟨rfl, d, _, by rw [upd_ne hne.symm]; exact upd_same, upd_same, by rw [upd_ne hne] at hd; exact hd, by rw [upd_ne hne] at hd; exact kb za zb hf hbar d _ ((s12.trans sm).trans (exc_same5 ha hd)) upd_same⟩⟩⟩
      · refine itN hlt ⟨sm, fun j pp hj hp2 => ?_, _, _, rfl⟩
        rcases Nat.lt_succ_iff_lt_or_eq.mp hj with q | q
        · exact hb j pp q hp2
        · rw [q, hpp] at hp2; cases hp2
          show ¬ ixZ ns zb < ixZ ns za
          omega
    rintro σ H3 ⟨sm, hb, u2, u3, rfl⟩
    have hbar : barP cs ss ns = none := by
      unfold barP
      rw [List.find?_eq_none]
      intro pp hp2
      obtain ⟨j, hj, e9⟩ := List.getElem_of_mem hp2
      rw [decide_eq_true_iff]
      exact hb j pp (by rw [lq]; exact hj) (by rw [← e9, List.getElem?_eq_getElem])
    have s3 := s12.trans sm
    have hk := kq hf hbar
    have h13 := s3 _ _ h1
    have ssl : ss.length ≤ 12 := by
      have := nodup_le nn (fun y hy => by obtain ⟨s, hs, e⟩ := List.mem_map.mp hy; rw [← e]; exact hin s hs)
      rw [List.length_map] at this
      exact Nat.le_trans this ok.n
    have lus : (us.map V.ref).length = ss.length := by rw [List.length_map, hus.len]
    refine ⟨_, rfl, _, _, _, _, _, rfl, h13, T.cl_Windows, T.n_Windows_told, fldsS_told _ _, ut, rfl, ⟨_, SqT.of (s3 _ _ hu)⟩, fun LD nLD => walk_w walk_tup (fun i H4 => Same H3 H4 ∧ H4 LD = some (.dK (kvW (ss.take i)))) ⟨same_new nLD, upd_same⟩ (fun i H4 _ q => q.1.tup (SqT.of (s3 _ _ hu))) ?_ ?_⟩
    · rintro i x H40 H4 hi ⟨s4, hLD⟩ ⟨rfl, hx⟩
      obtain ⟨b, hb2, rfl⟩ := refs_get hx
      obtain ⟨z, hz, ho⟩ := hus.get hb2
      obtain ⟨zn, zl, zh⟩ := z
      refine ⟨b, _, rfl, (s3.trans s4).tup ho, rfl, _, _, rfl, _, _, rfl, _, _, rfl, rfl, rfl, ?_⟩
      have hnew : valV (kvW (ss.take i)) (Sum.inr zn) = none := by
        rw [valV_kvW, lowO_no]; rfl
        intro hm
        obtain ⟨s9, hs9, e9⟩ := List.mem_map.mp hm
        obtain ⟨j, hj, e10⟩ := List.getElem_of_mem hs9
        rw [List.length_take] at hj
        rw [List.nodup_iff_pairwise_ne, List.pairwise_iff_getElem] at nn
        obtain ⟨h9, e11⟩ := List.getElem?_eq_some_iff.mp hz
        refine nn j i (by rw [List.length_map]; omega) (by rw [List.length_map]; exact h9) (by omega) ?_
        rw [List.getElem_map, List.getElem_map, e11]
        rw [List.getElem_take] at e10
        rw [e10]; exact e9
      refine ⟨_, rfl, _, rfl, kvW (ss.take i), Sum.inr zn, rfl, hLD, small_int (by rw [List.length_map, List.length_take]; omega), fun x u e => by rw [upd_ne (ne_of_none e nLD)]; exact s4 _ _ e, ?_⟩
      rw [upd_same, putK_new _ hnew, take_succ hz]
      show _ = some (HO.dK ((ss.take i ++ [(zn, zl, zh)]).map fun s => (Sum.inr s.1, V.int s.2.1)))
      rw [List.map_append]; rfl
    rintro H4 ⟨s4, hLD⟩
    rw [lus, List.take_length] at hLD
    refine ⟨_, rfl, LD, kvW ss, rfl, hLD, fun VL nVL => ?_⟩
    generalize hG : upd H4 VL _ = H5
    have q5 : Same H4 H5 := hG ▸ same_new nVL
    have x5 := (congrFun hG VL).symm.trans upd_same
    clear hG
    have x5 : H5 VL = some (.lst (ivs (ss.map (·.2.1)))) := by
      rw [x5]
      show some (HO.lst ((ss.map fun s => ((Sum.inr s.1 : Key), V.int s.2.1)).map (·.2))) = some (HO.lst ((ss.map (·.2.1)).map V.int))
      rw [List.map_map, List.map_map]; rfl
    refine ⟨VL, ss.map (·.2.1), 0, rfl, rfl, SqL.of x5, fun m hm => ?_⟩
    have em := startY_of hm
    subst em
    clear hm
    refine ⟨by show 0 ≤ sizeLine; decide, fun YD nYD => ?_⟩
    generalize hG : upd H5 YD _ = H6
    have q6 : Same H5 H6 := hG ▸ same_new nYD
    have x6 := (congrFun hG YD).symm.trans upd_same
    clear hG
    have s46 := s4.trans (q5.trans q6)
    have s6 := s3.trans s46
    have hLD6 := (q5.trans q6) _ _ hLD
    have nLY : LD ≠ YD := ne_of_none (q5 _ _ hLD) nYD
    have hO6 := (fun s h => DT.same h s) s6 hO
    refine ⟨_, rfl, o, rfl, ⟨_, hO6.sq⟩, for_it walk_tup (fun i σ H7 => Same H H7 ∧ H7 LD = some (.dK (kvW ss)) ∧ H7 YD = some (.lst (ivs (runY ss (ns.take i)).1)) ∧ ∃ u7 : Option V, σ = [some (.ref p), some (.ref o), u2, u3, some (.ref LD), some (.int (runY ss (ns.take i)).2), some (.ref YD), u7, none, none]) ⟨s6, hLD6, x6, none, rfl⟩ (fun i σ H7 _ q => (hO.same q.1).sq) ?_ ?_⟩
    · rintro i x σ H70 H7 hi ⟨s7, hL7, hY7, u7, rfl⟩ ⟨rfl, hx⟩
      obtain ⟨z, hz, rfl⟩ := sv_get hx
      refine ⟨_, rfl, _, rfl, LD, rfl, .inl ⟨_, .inl hL7⟩, _, rfl, _, rfl, valV (kvW ss) (Sum.inr z), DGet.k (k := Sum.inr z) hL7, ?_⟩
      have eg : ((valV (kvW ss) (Sum.inr z)).getD (V.int (runY ss (ns.take i)).2)) = V.int ((lowO ss z).getD (runY ss (ns.take i)).2) := by
        rw [valV_kvW]
        cases lowO ss z <;> rfl
      rw [eg]
      refine ⟨_, _, rfl, ?_⟩
      have nY0 : H YD = none := none_of (s3.trans (s4.trans q5)) nYD
      refine ⟨_, rfl, .inl ⟨rfl, _, SqL.of hY7⟩, _, rfl, YD, _, _, rfl, rfl, hY7, small_int (by rw [ivs_len', runY_len, List.length_take]; rw [len_sv] at hi; omega), ?_⟩
      have e2 : runY ss (ns.take (i + 1)) = stepY ss (runY ss (ns.take i)) z := by rw [take_succ hz, runY_snoc]
      refine ⟨fun x u e => by rw [upd_ne (ne_of_none e nY0)]; exact s7 _ _ e, by rw [upd_ne nLY]; exact hL7, ?_, _, by rw [e2]; rfl⟩
      rw [upd_same, e2]
      show some (HO.lst (ivs (runY ss (ns.take i)).1 ++ [V.int _])) = some (HO.lst (((runY ss (ns.take i)).1 ++ [_]).map V.int))
      rw [List.map_append]; rfl
    · rintro σ H7 ⟨s7, hL7, hY7, u7, rfl⟩
      rw [len_sv, List.take_length] at hY7
      have nY0 : H YD = none := none_of (s3.trans (s4.trans q5)) nYD
      exact ⟨_, rfl, hk YD H7 s7 nY0 hY7⟩
end
end My
set_option maxRecDepth 100000
set_option maxHeartbeats 8000000
set_option exponentiation.threshold 10000
namespace My
open PySem L2
open C8 (pss_cut)
/-- windows that can be told -/
structure WOk (cs : List Str) (ss : List TW) : Prop where
  ins : ∀ s ∈ ss, s.1 ∈ cs
  nd : (nms ss).Nodup
  bd : ∀ s ∈ ss, -1000000 ≤ s.2.1 ∧ s.2.1 ≤ s.2.2 ∧ s.2.2 ≤ 1000000
theorem WOk.perm {cs : List Str} {ss rs : List TW} (h : WOk cs ss) (p : rs.Perm ss) : WOk cs rs :=
  ⟨fun s hs => h.ins s (p.mem_iff.mp hs), (p.map (·.1)).nodup_iff.mpr h.nd, fun s hs => h.bd s (p.mem_iff.mp hs)⟩
theorem WOk.len {cs : List Str} {ss : List TW} (h : WOk cs ss) (hc : cs.length ≤ 12) : ss.length ≤ 12 := by
  have := nodup_le h.nd (fun y hy => by obtain ⟨s, hs, e⟩ := List.mem_map.mp hy; rw [← e]; exact h.ins s hs)
  rw [List.length_map] at this
  omega
theorem nm_take {ss : List TW} (nd : (nms ss).Nodup) {i : Nat} {s : TW} (h : ss[i]? = some s) : s.1 ∉ nms (ss.take i) := by
  intro hm
  obtain ⟨s9, hs9, e9⟩ := List.mem_map.mp hm
  obtain ⟨j, hj, e10⟩ := List.getElem_of_mem hs9
  rw [List.length_take] at hj
  rw [List.nodup_iff_pairwise_ne, List.pairwise_iff_getElem] at nd
  obtain ⟨h9, e11⟩ := List.getElem?_eq_some_iff.mp h
  refine nd j i (by rw [List.length_map]; omega) (by rw [List.length_map]; exact h9) (by omega) ?_
  rw [List.getElem_map, List.getElem_map, e11]
  rw [List.getElem_take] at e10
  rw [e10]; exact e9
theorem WOk.fault {cs : List Str} {ss : List TW} (h : WOk cs ss) : winFault cs ss = none := by
  refine firstI_none fun j hj => ?_
  have hs : ss[j]? = some ss[j] := List.getElem?_eq_getElem hj
  have hm := List.getElem_mem hj
  rw [badW_at hs]
  unfold okW
  rw [decide_eq_true (h.ins _ hm), decide_eq_false (nm_take h.nd hs), decide_eq_true (h.bd _ hm)]; rfl
theorem rot_tl {sq : Hp → Addr → List V → Prop} {H : Hp} {ts : List Addr} {ss : List TW} (h : Tl sq H ts ss) (c : Nat) : Tl sq H (ts.drop c ++ ts.take c) (ss.drop c ++ ss.take c) := (h.drop c).app (h.take c)
section
variable {P : Program} {w : World} {K : PySem.W.Frag} {mg : Str → Option Value} {base : Heap} {A : Ad}
/-- what a drawing of windows hands back -/
abbrev DrawnW (K : PySem.W.Frag) (cs : List Str) (H : Hp) (Q : VK) : Prop := ∀ D ts ss H', Same H H' → H D = none → H' D = some (.lst (ts.map V.ref)) → Tl (SqT K) H' ts ss → WOk cs ss → Q (.ref D) H'
def spWindows (K : PySem.W.Frag) : Sp := fun vs H Q _ => ∃ o y p ns cs, ∃ (ys ps : List Int) (wild : Bool), vs = [.ref o, .ref y, .ref p, .int 25, .bl wild] ∧ SqL K H o (sv ns) ∧ SqL K H y (ivs ys) ∧ SqL K H p (ps.map V.int) ∧ Pool ps ∧ ps.length = 60 ∧ ns.Perm cs ∧ cs.Nodup ∧ Yrs ys ∧ ys.length = ns.length ∧ ns.length ≤ 12 ∧ DrawnW K cs H Q
theorem ok_windows (T : Txt P K mg A) : FnOk P w K mg base CX0 1 A.a_law_windows A.d_law_windows ["order", "years", "pool", "start", "wild"] (spWindows K) := by
  refine T.F_law_windows.ok sc_law_windows (fun vs H Q E h => ?_) (fun cdv A' outer s H vs Q E hr h => ?_)
  · obtain ⟨o, y, p, ns, cs, ys, ps, wild, rfl, _⟩ := h
    rfl
  · obtain ⟨o, y, p, ns, cs, ys, ps, wild, rfl, hO, hY, hP, hPool, hpl, hpm, nd, hYrs, hyl, hnl, k⟩ := h
    refine ⟨_, (pss_cons (ps_set (i := 5) sc_law_windows.nd rfl (Or.inl rfl) (pe_lst pa_nil))
      (pss_cons (ps_for PassesOwn.never rfl (pi_range1 (by rfl) T.n_range (pa_cons (pe_callB call_len_seq (by rfl) T.n_len (by decide +kernel) (pa_cons (pv 0) pa_nil)) pa_nil)) (pg_name (i := 6) sc_law_windows.nd rfl (Or.inl rfl))
        (pss_cons (ps_set (i := 7) sc_law_windows.nd rfl (Or.inl rfl) (pe_callTy call_int1 (by rfl) T.n_int (by decide +kernel) (pa_cons (pe_ix ix_list (pv 2) (pe_op op_add (pv 3) (pv 6)) (fun _ _ => rfl)) pa_nil)))
      (pss_one (ps_if (pt_cmpR op_gt (pe_op op_mod (pe_callTy call_int1 (by rfl) T.n_int (by decide +kernel) (pa_cons (pv 7) pa_nil)) pe_int) pe_int (nomark _)) (pss_cons (ps_set (i := 8) sc_law_windows.nd rfl (Or.inl rfl) (pe_op op_sub (pe_ix ix_list (pv 1) (pv 6) (fun _ _ => rfl)) (pe_op op_mod (pe_callTy call_int1 (by rfl) T.n_int (by decide +kernel) (pa_cons (pe_op op_fdiv (pv 7) pe_int) pa_nil)) pe_int)))
      (pss_cons (ps_set (i := 9) sc_law_windows.nd rfl (Or.inl rfl) (pe_op op_add (pe_ix ix_list (pv 1) (pv 6) (fun _ _ => rfl)) (pe_op op_mod (pe_callTy call_int1 (by rfl) T.n_int (by decide +kernel) (pa_cons (pe_op op_fdiv (pv 7) pe_int) pa_nil)) pe_int)))
      (pss_cut (ps_if (pt_cmpR op_eq (pe_op op_mod (pe_callTy call_int1 (by rfl) T.n_int (by decide +kernel) (pa_cons (pe_op op_fdiv (pv 7) pe_int) pa_nil)) pe_int) pe_int (nomark _)) (pss_cons (ps_set (i := 8) sc_law_windows.nd rfl (Or.inl rfl) (pe_op op_sub (pe_ix ix_list (pv 1) (pv 6) (fun _ _ => rfl)) (pe_op op_mul (pe_callTy call_int1 (by rfl) T.n_int (by decide +kernel) (pa_cons (pv 7) pa_nil)) pe_int)))
      (pss_one (ps_set (i := 9) sc_law_windows.nd rfl (Or.inl rfl) (pe_callB (call_min2 rfl) (by rfl) T.n_min (by decide +kernel) (pa_cons (pe_op op_pow pe_int pe_int) (pa_cons (pe_op op_add (pe_ix ix_list (pv 1) (pv 6) (fun _ _ => rfl)) (pe_op op_mul (pe_callTy call_int1 (by rfl) T.n_int (by decide +kernel) (pa_cons (pv 7) pa_nil)) pe_int)) pa_nil)))))) pss_nil)
      (pss_cut (ps_if (PW.pt (pw_and (pt_val (pv 4)) (pw_and1 (pt_cmpR op_eq (pe_op op_mod (pe_callTy call_int1 (by rfl) T.n_int (by decide +kernel) (pa_cons (pe_op op_fdiv (pv 7) pe_int) pa_nil)) pe_int) pe_int (nomark _))))) (pss_cons (ps_set (i := 8) sc_law_windows.nd rfl (Or.inl rfl) (pe_op op_add (pv 8) pe_int))
      (pss_one (ps_set (i := 9) sc_law_windows.nd rfl (Or.inl rfl) (pe_op op_add (pv 8) (pe_op op_mod (pe_callTy call_int1 (by rfl) T.n_int (by decide +kernel) (pa_cons (pe_op op_fdiv (pv 7) pe_int) pa_nil)) pe_int))))) pss_nil)
      (pss_one (ps_expr (pe_bm PySem.F.plainAttrs_list PySem.F.slot_list_append PySem.F.type_list_append mt_append (pv 5) (pa_cons (pe_tup (pa_cons (pe_ix ix_list (pv 0) (pv 6) (fun _ _ => rfl)) (pa_cons (pv 8) (pa_cons (pv 9) pa_nil)))) pa_nil)))))))) pss_nil))))
      (pss_cons (ps_set (i := 10) sc_law_windows.nd rfl (Or.inl rfl) (pe_op op_mod (pe_callTy call_int1 (by rfl) T.n_int (by decide +kernel) (pa_cons (pe_ix ix_list (pv 2) (pv 3) (fun _ _ => rfl)) pa_nil)) (pe_op op_add (pe_callB call_len_seq (by rfl) T.n_len (by decide +kernel) (pa_cons (pv 5) pa_nil)) pe_int)))
      (pss_one (ps_ret (pe_op op_cat (pe_slice sl_list (pv 5) (po_some (pv 10)) po_none) (pe_slice sl_list (pv 5) po_none (po_some (pv 10))))))))), ?_⟩
    refine ⟨by show 0 ≤ sizeLine; decide, fun D hD => ?_⟩
    generalize hG : upd H D _ = H0
    have q0 : Same H H0 := hG ▸ same_new hD
    have x0 := (congrFun hG D).symm.trans upd_same
    clear hG
    have en : (((sv ns).length : Nat) : Int).toNat = ns.length := by rw [len_sv, Int.toNat_natCast]
    obtain ⟨v25, hv25, e25⟩ := atI_ok (xs := ps) (j := 25) (by omega) (by omega)
    refine ⟨_, rfl, o, _, rfl, .inl (q0.seq hO), _, rfl, by rw [len_sv]; omega, by rw [len_sv]; omega, for_range (n := (((sv ns).length : Nat) : Int).toNat) (fun i σ H4 => Same H H4 ∧ ∃ (ts : List Addr) (ss : List TW) (u6 u7 u8 u9 : Option V), σ = [some (.ref o), some (.ref y), some (.ref p), some (.int 25), some (.bl wild), some (.ref D), u6, u7, u8, u9, none] ∧ H4 D = some (.lst (ts.map V.ref)) ∧ Tl (SqT K) H4 ts ss ∧ (nms ss).Sublist (ns.take i) ∧ (∀ s ∈ ss, -1000000 ≤ s.2.1 ∧ s.2.1 ≤ s.2.2 ∧ s.2.2 ≤ 1000000))
      ⟨q0, [], [], none, none, none, none, rfl, x0, Tl.nil, List.nil_sublist _, (fun s h => nomatch h)⟩ ?_ ?_⟩
    · rintro i σ H4 hi ⟨s4, ts, ss, u6, u7, u8, u9, rfl, hD4, hT4, hsub, hbd⟩
      rw [en] at hi
      have lss : ss.length ≤ i := by
        have := hsub.length_le
        rw [List.length_map, List.length_take] at this
        omega
      obtain ⟨v, hv, e⟩ := atI_ok (xs := ps) (j := (25 : Int) + (0 + (i : Int))) (by omega) (by omega)
      obtain ⟨v0, v1⟩ := hPool v hv
      have hz : ns[i]? = some ns[i] := List.getElem?_eq_getElem hi
      have hyi : i < ys.length := by omega
      have ay : atI (ivs ys) (0 + (i : Int)) = some (.int (ys.getD i 0)) := by rw [Int.zero_add]; exact iat hyi
      have az : atI (sv ns) (0 + (i : Int)) = some (V.str ns[i]) := by rw [Int.zero_add]; exact atI_nat (by rw [List.getElem?_map, hz]; rfl)
      have hym := List.mem_of_getElem? (getD_at hyi)
      have y0 := hYrs.lo _ hym
      have y1 := hYrs.hi _ hym
      have yl12 : (ys.length : Int) ≤ 12 := by omega
      generalize ys.getD i 0 = yi at ay y0 y1
      have mm : ∀ a q : Int, (0 : Int) < q → 0 ≤ a % q ∧ a % q < q := fun a q hq => ⟨Int.emod_nonneg _ (by omega), Int.emod_lt_of_pos _ hq⟩
      have a3 := mm (v / 3) 4 (by decide)
      have a12 := mm (v / 12) 4 (by decide)
      have hYs := s4.seq hY
      have skip : Same H H4 ∧ (nms ss).Sublist (ns.take (i + 1)) := ⟨s4, by rw [take_succ hz]; exact hsub.trans (List.sublist_append_left _ _)⟩
      refine ⟨_, rfl, _, rfl, _, rfl, _, _, rfl, rfl, p, _, _, _, rfl, rfl, s4.seq hP, e, .inl ⟨_, rfl, ?_⟩⟩
      refine ⟨_, rfl, .inl ⟨_, rfl, _, _, rfl, rfl, by show (0 : Int) < 3; decide, _, _, rfl, rfl, _, rfl, ite2 (fun hb => ?_) (fun hb => ⟨skip.1, ts, ss, _, _, _, _, rfl, hD4, hT4, skip.2, hbd⟩)⟩⟩
      refine ⟨_, rfl, _, rfl, y, _, _, _, rfl, rfl, hYs, ay, _, rfl, _, _, rfl, rfl, ⟨by decide, by decide⟩, .inl ⟨_, rfl, _, _, rfl, rfl, by show (0 : Int) < 4; decide, _, _, rfl, rfl, ?_⟩⟩
      refine ⟨_, rfl, _, rfl, y, _, _, _, rfl, rfl, hYs, ay, _, rfl, _, _, rfl, rfl, ⟨by decide, by decide⟩, .inl ⟨_, rfl, _, _, rfl, rfl, by show (0 : Int) < 4; decide, _, _, rfl, rfl, ?_⟩⟩
      refine ⟨fun σ H6 => H4 = H6 ∧ ∃ l m : Int, σ = [some (.ref o), some (.ref y), some (.ref p), some (.int 25), some (.bl wild), some (.ref D), some (.int (0 + (i : Int))), some (.int v), some (.int l), some (.int m), none] ∧ -1000000 ≤ l ∧ l ≤ m ∧ m ≤ 1000000 ∧ l ≤ 990000, ?_, ?_⟩
      · refine ⟨_, rfl, _, _, rfl, rfl, ⟨by decide, by decide⟩, .inl ⟨_, rfl, _, _, rfl, rfl, by show (0 : Int) < 5; decide, rfl, _, rfl, ite2 (fun hb2 => ?_) (fun hb2 => ⟨rfl, _, _, rfl, by omega, by omega, by omega, by omega⟩)⟩⟩
        refine ⟨_, rfl, _, rfl, y, _, _, _, rfl, rfl, hYs, ay, _, rfl, .inl ⟨_, rfl, _, _, rfl, rfl, .inr (by decide), _, _, rfl, rfl, ?_⟩⟩
        refine ⟨_, _, rfl, rfl, ⟨by decide, by decide, by decide⟩, _, rfl, _, rfl, y, _, _, _, rfl, rfl, hYs, ay, _, rfl, .inl ⟨_, rfl, _, _, rfl, rfl, .inr (by decide), _, _, rfl, rfl, _, _, rfl, ?_⟩⟩
        refine ⟨rfl, _, _, rfl, by omega, ?_, ?_, by omega⟩
        · show yi - v * 3 ≤ (if yi + v * 3 < 1000000 then yi + v * 3 else 1000000)
          split <;> omega
        · show (if yi + v * 3 < 1000000 then yi + v * 3 else 1000000) ≤ 1000000
          split <;> omega
      rintro σ H6 ⟨rfl, l, m, rfl, hl0, hlm, hm1, hl9⟩
      refine ⟨fun σ H6 => H4 = H6 ∧ ∃ l m : Int, σ = [some (.ref o), some (.ref y), some (.ref p), some (.int 25), some (.bl wild), some (.ref D), some (.int (0 + (i : Int))), some (.int v), some (.int l), some (.int m), none] ∧ -1000000 ≤ l ∧ l ≤ m ∧ m ≤ 1000000, ?_, ?_⟩
      · cases wild with
        | false => exact ⟨_, rfl, _, rfl, ifF rfl (ifF rfl ⟨rfl, _, _, rfl, hl0, hlm, hm1⟩)⟩
        | true =>
          refine ⟨_, rfl, _, rfl, ifT rfl ⟨_, rfl, _, _, rfl, rfl, ⟨by decide, by decide⟩, .inl ⟨_, rfl, _, _, rfl, rfl, by show (0 : Int) < 4; decide, rfl, _, rfl, ite2 (fun hb2 => ?_) (fun hb2 => ⟨rfl, _, _, rfl, hl0, hlm, hm1⟩)⟩⟩⟩
          refine ⟨_, rfl, _, _, rfl, rfl, ?_⟩
          refine ⟨_, rfl, _, rfl, _, _, rfl, rfl, ⟨by decide, by decide⟩, .inl ⟨_, rfl, _, _, rfl, rfl, by show (0 : Int) < 4; decide, _, _, rfl, rfl, ?_⟩⟩
          exact ⟨rfl, _, _, rfl, by omega, by omega, by omega⟩
      clear hl0 hlm hm1 hl9
      rintro σ H6 ⟨rfl, l, m, rfl, hl0, hlm, hm1⟩
      refine ⟨_, rfl, .inl ⟨rfl, _, SqL.of hD4⟩, _, rfl, _, rfl, o, _, _, _, rfl, rfl, s4.seq hO, az, _, rfl, _, rfl, by show 3 ≤ sizeLine; decide, fun t ht => ?_⟩
      generalize hG : upd H4 t _ = H7
      have q7 : Same H4 H7 := hG ▸ same_new ht
      have x7 := (congrFun hG t).symm.trans upd_same
      clear hG
      have hD7 := q7 _ _ hD4
      refine ⟨D, _, _, rfl, rfl, hD7, small_int (by rw [List.length_map, hT4.len]; omega), ?_⟩
      refine ⟨fun x u e => by rw [upd_ne (ne_of_none e hD)]; exact q7 _ _ (s4 _ _ e), ts ++ [t], ss ++ [(ns[i], l, m)], _, _, _, _, rfl, by rw [List.map_append]; exact upd_same, ?_, ?_, ?_⟩
      · exact ((hT4.imp fun t s q => q7.tup q).app (Tl.one (SqT.of x7))).imp fun t s q => sqt_updL q hD7
      · rw [take_succ hz]
        show ((ss ++ [(ns[i], l, m)]).map (·.1)).Sublist _
        rw [List.map_append]
        exact hsub.append (List.Sublist.refl _)
      · intro s hs
        rcases List.mem_append.mp hs with q | q
        · exact hbd s q
        · rw [List.mem_singleton.mp q]; exact ⟨hl0, hlm, hm1⟩
    · rintro σ H4 ⟨s4, ts, ss, u6, u7, u8, u9, rfl, hD4, hT4, hsub, hbd⟩
      rw [en, List.take_length] at hsub
      have wok : WOk cs ss := ⟨fun s hs => hpm.mem_iff.mp (hsub.subset (List.mem_map_of_mem hs)), hsub.nodup (hpm.nodup_iff.mpr nd), hbd⟩
      have lt : ((ts.map V.ref).length : Int) = (ss.length : Int) := by rw [List.length_map, hT4.len]
      have cl : cs.length ≤ 12 := by rw [← hpm.length_eq]; exact hnl
      have sl := wok.len cl
      refine ⟨_, rfl, _, rfl, p, _, _, _, rfl, rfl, s4.seq hP, e25, .inl ⟨_, rfl, _, rfl, D, _, rfl, .inl (SqL.of hD4), _, _, rfl, rfl, _, _, rfl, rfl, by rw [lt]; omega, ?_⟩⟩
      obtain ⟨c, hc⟩ := Int.eq_ofNat_of_zero_le (Int.emod_nonneg v25 (show ((ts.map V.ref).length : Int) + 1 ≠ 0 by rw [lt]; omega))
      refine ⟨_, rfl, _, rfl, _, rfl, ?_⟩
      dsimp only [tNoPart]
      refine slO (SqL.of hD4) fun a G1 q1 na ha => ?_
      rw [hc, cut_dropG, ← List.map_drop] at ha
      refine ⟨_, rfl, _, rfl, _, rfl, slO (SqL.of (q1 _ _ hD4)) fun b G2 q2 nb hb => ?_⟩
      rw [hc, cut_takeG, ← List.map_take] at hb
      refine ⟨a, b, _, _, rfl, rfl, q2 _ _ ha, hb, ?_, fun f nf => ?_⟩
      · rw [List.length_map, List.length_map, List.length_drop, List.length_take, hT4.len]
        exact Nat.le_trans (m := 24) (by omega) (by decide)
      generalize hG : upd G2 f _ = G3
      have q3 : Same G2 G3 := hG ▸ same_new nf
      have x3 := (congrFun hG f).symm.trans upd_same
      clear hG
      have qz := q1.trans (q2.trans q3)
      refine k f (ts.drop c ++ ts.take c) (ss.drop c ++ ss.take c) G3 (s4.trans qz) (none_of (s4.trans (q1.trans q2)) nf) (by rw [x3, List.map_append]) (rot_tl (hT4.imp fun t s q => qz.tup q) c) (wok.perm (rot_perm ss c))
end
end My
set_option maxRecDepth 100000
set_option maxHeartbeats 8000000
set_option exponentiation.threshold 10000
namespace My
open PySem L2
open C8 (pss_cut)
theorem ivs_len (l : List Int) : (ivs l).length = l.length := List.length_map ..
theorem small9 {i : Int} (h : -1000000 ≤ i ∧ i ≤ 1000000) : i.natAbs < 2 ^ 9000 :=
  Nat.lt_of_lt_of_le (show i.natAbs < 2 ^ 20 by omega) (Nat.pow_le_pow_right (by decide) (by decide))
section
variable {P : Program} {w : World} {K : PySem.W.Frag} {mg : Str → Option Value} {base : Heap} {A : Ad}
def spFreeW (K : PySem.W.Frag) : Sp := fun vs H Q _ => ∃ n p q cs, ∃ (ps qs : List Int), vs = [.ref n, .ref p, .ref q] ∧ SqL K H n (sv cs) ∧ SqL K H p (ps.map V.int) ∧ SqL K H q (qs.map V.int) ∧ ps.length = 60 ∧ qs.length = 60 ∧ cs.Nodup ∧ cs.length ≤ 12 ∧ DrawnW K cs H Q
theorem ok_freeW (T : Txt P K mg A) : FnOk P w K mg base CX0 1 A.a_law_free_windows A.d_law_free_windows ["names", "one", "two"] (spFreeW K) := by
  refine T.F_law_free_windows.ok sc_law_free_windows (fun vs H Q E h => ?_) (fun cdv A' outer s H vs Q E hr h => ?_)
  · obtain ⟨n, p, q, cs, ps, qs, rfl, _⟩ := h
    rfl
  · obtain ⟨n, p, q, cs, ps, qs, rfl, hN, hP, hQ, hpl, hql, nd, hcl, k⟩ := h
    refine ⟨_, (pss_cons (ps_set (i := 3) sc_law_free_windows.nd rfl (Or.inl rfl) (pe_lst pa_nil))
      (pss_cons (ps_set (i := 4) sc_law_free_windows.nd rfl (Or.inl rfl) (pe_ix ix_list (pe_lst (pa_cons pe_int (pa_cons pe_int (pa_cons pe_int pa_nil)))) (pe_op op_mod (pe_callTy call_int1 (by rfl) T.n_int (by decide +kernel) (pa_cons (pe_ix ix_list (pv 2) pe_int (fun _ _ => rfl)) pa_nil)) pe_int) (fun _ _ => rfl)))
      (pss_cons (ps_for PassesOwn.never rfl (pi_range1 (by rfl) T.n_range (pa_cons (pe_callB call_len_seq (by rfl) T.n_len (by decide +kernel) (pa_cons (pv 0) pa_nil)) pa_nil)) (pg_name (i := 5) sc_law_free_windows.nd rfl (Or.inl rfl))
        (pss_one (ps_if (pt_cmpR op_gt (pe_op op_mod (pe_callTy call_int1 (by rfl) T.n_int (by decide +kernel) (pa_cons (pe_ix ix_list (pv 2) (pe_op op_add pe_int (pv 5)) (fun _ _ => rfl)) pa_nil)) pe_int) pe_int (nomark _)) (pss_cons (ps_set (i := 6) sc_law_free_windows.nd rfl (Or.inl rfl) (pe_op op_mulW (pe_op op_sub (pe_op op_mod (pe_callTy call_int1 (by rfl) T.n_int (by decide +kernel) (pa_cons (pe_ix ix_list (pv 1) (pe_op op_add pe_int (pv 5)) (fun _ _ => rfl)) pa_nil)) pe_int) pe_int) (pv 4)))
      (pss_cons (ps_set (i := 7) sc_law_free_windows.nd rfl (Or.inl rfl) (pe_op op_mod (pe_callTy call_int1 (by rfl) T.n_int (by decide +kernel) (pa_cons (pe_ix ix_list (pv 1) (pe_op op_add pe_int (pv 5)) (fun _ _ => rfl)) pa_nil)) pe_int))
      (pss_one (ps_expr (pe_bm PySem.F.plainAttrs_list PySem.F.slot_list_append PySem.F.type_list_append mt_append (pv 3) (pa_cons (pe_tup (pa_cons (pe_ix ix_list (pv 0) (pv 5) (fun _ _ => rfl)) (pa_cons (pv 6) (pa_cons (pe_op op_add (pv 6) (pe_op op_mulW (pv 7) (pv 4))) pa_nil)))) pa_nil)))))) pss_nil)))
      (pss_cons (ps_set (i := 8) sc_law_free_windows.nd rfl (Or.inl rfl) (pe_op op_mod (pe_callTy call_int1 (by rfl) T.n_int (by decide +kernel) (pa_cons (pe_ix ix_list (pv 2) pe_int (fun _ _ => rfl)) pa_nil)) (pe_op op_add (pe_callB call_len_seq (by rfl) T.n_len (by decide +kernel) (pa_cons (pv 3) pa_nil)) pe_int)))
      (pss_one (ps_ret (pe_op op_cat (pe_slice sl_list (pv 3) (po_some (pv 8)) po_none) (pe_slice sl_list (pv 3) po_none (po_some (pv 8)))))))))), ?_⟩
    refine ⟨by show 0 ≤ sizeLine; decide, fun D hD => ?_⟩
    generalize hG : upd H D _ = H0
    have q0 : Same H H0 := hG ▸ same_new hD
    have x0 := (congrFun hG D).symm.trans upd_same
    clear hG
    have en : (((sv cs).length : Nat) : Int).toNat = cs.length := by rw [len_sv, Int.toNat_natCast]
    obtain ⟨v52, _, e52⟩ := atI_ok (xs := qs) (j := 52) (by omega) (by omega)
    obtain ⟨v53, _, e53⟩ := atI_ok (xs := qs) (j := 53) (by omega) (by omega)
    refine ⟨by show 3 ≤ sizeLine; decide, fun ml nml => ?_⟩
    generalize hG : upd H0 ml _ = H1
    have q1 : Same H0 H1 := hG ▸ same_new nml
    have x1 := (congrFun hG ml).symm.trans upd_same
    clear hG
    have q01 := q0.trans q1
    have hD1 := q1 _ _ x0
    obtain ⟨u, hu, eu⟩ := atI_ok (xs := ([1, 1, 300] : List Int)) (j := v52 % 3) (Int.emod_nonneg _ (by decide)) (by show v52 % 3 < 3; omega)
    have hu2 : u = 1 ∨ u = 300 := by simp at hu; omega
    refine ⟨_, rfl, q, _, _, _, rfl, rfl, q01.seq hQ, e52, .inl ⟨_, rfl, _, _, rfl, rfl, by show (0 : Int) < 3; decide, ml, _, _, _, rfl, rfl, SqL.of x1, eu, ?_⟩⟩
    refine ⟨_, rfl, n, _, rfl, .inl (q01.seq hN), _, rfl, by rw [len_sv]; omega, by rw [len_sv]; omega, for_range (n := (((sv cs).length : Nat) : Int).toNat) (fun i σ H4 => Same H H4 ∧ ∃ (ts : List Addr) (ss : List TW) (u5 u6 u7 : Option V), σ = [some (.ref n), some (.ref p), some (.ref q), some (.ref D), some (.int u), u5, u6, u7, none] ∧ H4 D = some (.lst (ts.map V.ref)) ∧ Tl (SqT K) H4 ts ss ∧ (nms ss).Sublist (cs.take i) ∧ (∀ s ∈ ss, -1000000 ≤ s.2.1 ∧ s.2.1 ≤ s.2.2 ∧ s.2.2 ≤ 1000000))
      ⟨q01, [], [], none, none, none, rfl, hD1, Tl.nil, List.nil_sublist _, (fun s h => nomatch h)⟩ ?_ ?_⟩
    · rintro i σ H4 hi ⟨s4, ts, ss, u5, u6, u7, rfl, hD4, hT4, hsub, hbd⟩
      rw [en] at hi
      have lss : ss.length ≤ i := by
        have := hsub.length_le
        rw [List.length_map, List.length_take] at this
        omega
      obtain ⟨va, _, ea⟩ := atI_ok (xs := qs) (j := (40 : Int) + (0 + (i : Int))) (by omega) (by omega)
      obtain ⟨vb, _, eb⟩ := atI_ok (xs := ps) (j := (25 : Int) + (0 + (i : Int))) (by omega) (by omega)
      obtain ⟨vc, _, ec⟩ := atI_ok (xs := ps) (j := (37 : Int) + (0 + (i : Int))) (by omega) (by omega)
      have hz : cs[i]? = some cs[i] := List.getElem?_eq_getElem hi
      have az : atI (sv cs) (0 + (i : Int)) = some (V.str cs[i]) := by rw [Int.zero_add]; exact atI_nat (by rw [List.getElem?_map, hz]; rfl)
      have mm : ∀ a q : Int, (0 : Int) < q → 0 ≤ a % q ∧ a % q < q := fun a q hq => ⟨Int.emod_nonneg _ (by omega), Int.emod_lt_of_pos _ hq⟩
      have b1 := mm vb 2001 (by decide)
      have c1 := mm vc 2001 (by decide)
      refine ⟨_, rfl, _, rfl, _, _, rfl, rfl, q, _, _, _, rfl, rfl, s4.seq hQ, ea, .inl ⟨_, rfl, _, _, rfl, rfl, by show (0 : Int) < 3; decide, _, _, rfl, rfl, _, rfl, ite2 (fun hb => ?_) (fun hb => ⟨s4, ts, ss, _, _, _, rfl, hD4, hT4, by rw [take_succ hz]; exact hsub.trans (List.sublist_append_left _ _), hbd⟩)⟩⟩
      refine ⟨_, rfl, _, rfl, _, _, rfl, rfl, p, _, _, _, rfl, rfl, s4.seq hP, eb, .inl ⟨_, rfl, _, _, rfl, rfl, by show (0 : Int) < 2001; decide, _, _, rfl, rfl, _, rfl, _, _, rfl, rfl, mulW (small9 (by show -1000000 ≤ vb % 2001 - 1000 ∧ vb % 2001 - 1000 ≤ 1000000; omega)) (small9 (by omega)), ?_⟩⟩
      refine ⟨_, rfl, _, rfl, _, _, rfl, rfl, p, _, _, _, rfl, rfl, s4.seq hP, ec, .inl ⟨_, rfl, _, _, rfl, rfl, by show (0 : Int) < 2001; decide, ?_⟩⟩
      refine ⟨_, rfl, .inl ⟨rfl, _, SqL.of hD4⟩, _, rfl, _, rfl, n, _, _, _, rfl, rfl, s4.seq hN, az, _, rfl, _, rfl, _, rfl, _, rfl, _, _, rfl, rfl, mulW (small9 (by show -1000000 ≤ vc % 2001 ∧ vc % 2001 ≤ 1000000; omega)) (small9 (by omega)), _, _, rfl, rfl, by show 3 ≤ sizeLine; decide, fun t ht => ?_⟩
      generalize hG : upd H4 t _ = H7
      have q7 : Same H4 H7 := hG ▸ same_new ht
      have x7 := (congrFun hG t).symm.trans upd_same
      clear hG
      have hD7 := q7 _ _ hD4
      refine ⟨D, _, _, rfl, rfl, hD7, small_int (by rw [List.length_map, hT4.len]; omega), ?_⟩
      refine ⟨fun x u e => by rw [upd_ne (ne_of_none e hD)]; exact q7 _ _ (s4 _ _ e), ts ++ [t], ss ++ [(cs[i], (vb % 2001 - 1000) * u, (vb % 2001 - 1000) * u + vc % 2001 * u)], _, _, _, rfl, by rw [List.map_append]; exact upd_same, ?_, ?_, ?_⟩
      · exact ((hT4.imp fun t s q => q7.tup q).app (Tl.one (SqT.of x7))).imp fun t s q => sqt_updL q hD7
      · rw [take_succ hz]
        show ((ss ++ [(cs[i], (vb % 2001 - 1000) * u, (vb % 2001 - 1000) * u + vc % 2001 * u)]).map (·.1)).Sublist _
        rw [List.map_append]
        exact hsub.append (List.Sublist.refl _)
      · intro s hs
        rcases List.mem_append.mp hs with q | q
        · exact hbd s q
        · rw [List.mem_singleton.mp q]
          show -1000000 ≤ (vb % 2001 - 1000) * u ∧ (vb % 2001 - 1000) * u ≤ (vb % 2001 - 1000) * u + vc % 2001 * u ∧ (vb % 2001 - 1000) * u + vc % 2001 * u ≤ 1000000
          rcases hu2 with rfl | rfl <;> omega
    · rintro σ H4 ⟨s4, ts, ss, u5, u6, u7, rfl, hD4, hT4, hsub, hbd⟩
      rw [en, List.take_length] at hsub
      have wok : WOk cs ss := ⟨fun s hs => hsub.subset (List.mem_map_of_mem hs), hsub.nodup nd, hbd⟩
      have lt : ((ts.map V.ref).length : Int) = (ss.length : Int) := by rw [List.length_map, hT4.len]
      have sl := wok.len hcl
      refine ⟨_, rfl, q, _, _, _, rfl, rfl, s4.seq hQ, e53, .inl ⟨_, rfl, _, rfl, D, _, rfl, .inl (SqL.of hD4), _, _, rfl, rfl, _, _, rfl, rfl, by rw [lt]; omega, ?_⟩⟩
      obtain ⟨c, hc⟩ := Int.eq_ofNat_of_zero_le (Int.emod_nonneg v53 (show ((ts.map V.ref).length : Int) + 1 ≠ 0 by rw [lt]; omega))
      refine ⟨_, rfl, _, rfl, _, rfl, ?_⟩
      dsimp only [tNoPart]
      refine slO (SqL.of hD4) fun a G1 q1 na ha => ?_
      rw [hc, cut_dropG, ← List.map_drop] at ha
      refine ⟨_, rfl, _, rfl, _, rfl, slO (SqL.of (q1 _ _ hD4)) fun b G2 q2 nb hb => ?_⟩
      rw [hc, cut_takeG, ← List.map_take] at hb
      refine ⟨a, b, _, _, rfl, rfl, q2 _ _ ha, hb, ?_, fun f nf => ?_⟩
      · rw [List.length_map, List.length_map, List.length_drop, List.length_take, hT4.len]
        exact Nat.le_trans (m := 24) (by omega) (by decide)
      generalize hG : upd G2 f _ = G3
      have q3 : Same G2 G3 := hG ▸ same_new nf
      have x3 := (congrFun hG f).symm.trans upd_same
      clear hG
      have qz := q1.trans (q2.trans q3)
      refine k f (ts.drop c ++ ts.take c) (ss.drop c ++ ss.take c) G3 (s4.trans qz) (none_of (s4.trans (q1.trans q2)) nf) (by rw [x3, List.map_append]) (rot_tl (hT4.imp fun t s q => qz.tup q) c) (wok.perm (rot_perm ss c))
/-- years never fall -/
def spRise (K : PySem.W.Frag) : Sp := fun vs H Q _ => ∃ y, ∃ ys : List Int, vs = [.ref y] ∧ SqL K H y (ivs ys) ∧ ys.length ≤ 1000 ∧ Q (.bl (riseB ys)) H
theorem ok_rise (T : Txt P K mg A) : FnOk P w K mg base CX0 1 A.a_law_rise A.d_law_rise ["years"] (spRise K) := by
  refine T.F_law_rise.ok sc_law_rise (fun vs H Q E h => ?_) (fun cdv A' outer s H vs Q E hr h => ?_)
  · obtain ⟨y, ys, rfl, _⟩ := h
    rfl
  · obtain ⟨y, ys, rfl, hY, hyl, k⟩ := h
    refine ⟨_, (pss_cons (ps_for PassesOwn.never rfl (pi_range2 (by rfl) T.n_range (pa_cons pe_int (pa_cons (pe_callB call_len_seq (by rfl) T.n_len (by decide +kernel) (pa_cons (pv 0) pa_nil)) pa_nil))) (pg_name (i := 1) sc_law_rise.nd rfl (Or.inl rfl))
        (pss_one (ps_if (pt_cmpR op_lt (pe_ix ix_list (pv 0) (pv 1) (fun _ _ => rfl)) (pe_ix ix_list (pv 0) (pe_op op_sub (pv 1) pe_int) (fun _ _ => rfl)) (nomark _)) (pss_one (ps_ret pe_bl)) pss_nil)))
      (pss_one (ps_ret pe_bl))), ?_⟩
    have ly : (ivs ys).length = ys.length := List.length_map ..
    have en : (((ivs ys).length : Int) - 1).toNat = ys.length - 1 := by rw [ly]; omega
    refine ⟨_, rfl, y, _, rfl, .inl hY, (1 : Int), ((ivs ys).length : Int), rfl, ⟨by decide, by decide, by omega, by rw [ly]; omega⟩, for_range (n := (((ivs ys).length : Int) - 1).toNat) (fun i σ H2 => H2 = H ∧ (∀ j, j < i → ¬ ys.getD (j + 1) 0 < ys.getD j 0) ∧ ∃ u : Option V, σ = [some (.ref y), u]) ⟨rfl, fun j hj => absurd hj (Nat.not_lt_zero _), none, rfl⟩ ?_ ?_⟩
    · rintro i σ H2 hi ⟨rfl, hb, u, rfl⟩
      rw [en] at hi
      have a1 : atI (ivs ys) ((1 : Int) + (i : Int)) = some (.int (ys.getD (i + 1) 0)) := by
        rw [show (1 : Int) + (i : Int) = ((i + 1 : Nat) : Int) by omega]; exact iat (by omega)
      have a0 : atI (ivs ys) ((1 : Int) + (i : Int) - 1) = some (.int (ys.getD i 0)) := by
        rw [show (1 : Int) + (i : Int) - 1 = ((i : Nat) : Int) by omega]; exact iat (by omega)
      refine ⟨_, rfl, _, rfl, y, _, _, _, rfl, rfl, hY, a1, _, rfl, _, rfl, _, _, rfl, rfl, y, _, _, _, rfl, rfl, hY, a0, _, _, rfl, rfl, _, rfl, ?_⟩
      by_cases hlt : ys.getD (i + 1) 0 < ys.getD i 0
      · have er : riseB ys = false := by
          unfold riseB
          rw [List.any_eq_true.mpr ⟨i, List.mem_range.mpr hi, decide_eq_true hlt⟩]; rfl
        rw [er] at k
        exact itY hlt k
      · refine itN hlt ⟨rfl, fun j hj => ?_, _, rfl⟩
        rcases Nat.lt_succ_iff_lt_or_eq.mp hj with q | q
        · exact hb j q
        · rw [q]; exact hlt
    · rintro σ H2 ⟨rfl, hb, u, rfl⟩
      rw [en] at hb
      have er : riseB ys = true := by
        unfold riseB
        rw [List.any_eq_false.mpr fun j hj => by rw [decide_eq_true_iff]; exact hb j (List.mem_range.mp hj)]; rfl
      rw [er] at k
      exact k
end
end My
set_option maxRecDepth 100000
set_option maxHeartbeats 8000000
set_option exponentiation.threshold 10000
namespace My
open PySem L2
theorem Tg.lss {H : Hp} {ts : List Addr} {l : List (Str × Str)} (h : Tg fS H ts l) : Lss .tup H ts (l.map fun p => [p.1, p.2]) := by
  refine ⟨by rw [List.length_map]; exact h.len, fun i t x a b => ?_⟩
  rw [List.getElem?_map] at b
  match e : l[i]?, b with
  | some p, b =>
    cases b
    exact h.at_ i t p a e
theorem mem_pr {l : List (Str × Str)} {x y : Str} : decide ([x, y] ∈ l.map fun p => [p.1, p.2]) = decide ((x, y) ∈ l) := by
  refine decide_eq_decide.mpr ⟨fun h => ?_, fun h => List.mem_map.mpr ⟨_, h, rfl⟩⟩
  obtain ⟨p, hp, e⟩ := List.mem_map.mp h
  have e1 := (List.cons.inj e).1
  have e2 := (List.cons.inj (List.cons.inj e).2).1
  rw [← e1, ← e2]; exact hp
theorem forced_good {cs : List Str} {ss : List TW} (g : ∀ z ∈ cs, Good z) : ∀ r ∈ (forcedD cs ss).map (fun p => [p.1, p.2]), ∀ z ∈ r, Okz z := fun r hr z hz => by
  obtain ⟨p, hp, rfl⟩ := List.mem_map.mp hr
  have m := forced_mem hp
  rcases List.mem_cons.mp hz with rfl | hz
  · exact okz_good (g _ m.1)
  · rw [List.mem_singleton.mp hz]; exact okz_good (g _ m.2)
section
variable {P : Program} {w : World} {K : PySem.W.Frag} {mg : Str → Option Value} {base : Heap} {A : Ad}
def spKept (so : Hp → Addr → List V → Prop) (K : PySem.W.Frag) : Sp := fun vs H Q _ => ∃ o y t ns ts ss, ∃ ys : List Int, vs = [.ref o, .ref y, .ref t] ∧ so H o (sv ns) ∧ SqL K H y (ivs ys) ∧ SqL K H t (ts.map V.ref) ∧ Tl (SqT K) H ts ss ∧ ns.length ≤ ys.length ∧ ns.Nodup ∧ (∀ s ∈ ss, s.1 ∈ ns) ∧ Q (.bl (ss.all (inW ns ys))) H
theorem ok_wkept (T : Txt P K mg A) : FnOk P w K mg base CX0 1 A.a_law_windows_kept A.d_law_windows_kept ["order", "years", "windows"] (spKept (SqL K) K) := by
  refine T.F_law_windows_kept.ok sc_law_windows_kept (fun vs H Q E h => ?_) (fun cdv A' outer s H vs Q E hr h => ?_)
  · obtain ⟨o, y, t, ns, ts, ss, ys, rfl, _⟩ := h
    rfl
  · obtain ⟨o, y, t, ns, ts, ss, ys, rfl, hO, hY, hTd, hTs, hly, nd, hin, k⟩ := h
    refine ⟨_, (pss_cons (ps_for PassesOwn.never rfl (pi_list (pv 2)) (pg_name (i := 3) sc_law_windows_kept.nd rfl (Or.inl rfl))
        (pss_cons (ps_set (i := 4) sc_law_windows_kept.nd rfl (Or.inl rfl) (pe_ix ix_list (pv 1) (pe_bm PySem.F.plainAttrs_list PySem.F.slot_list_index PySem.F.type_list_index mt_index (pv 0) (pa_cons (pe_ix ix_tup (pv 3) pe_int (fun _ _ => rfl)) pa_nil)) (fun _ _ => rfl)))
      (pss_one (ps_if (PW.pt (pw_or (pt_cmpR op_lt (pv 4) (pe_ix ix_tup (pv 3) pe_int (fun _ _ => rfl)) (nomark _)) (pw_or1 (pt_cmpR op_gt (pv 4) (pe_ix ix_tup (pv 3) pe_int (fun _ _ => rfl)) (nomark _))))) (pss_one (ps_ret pe_bl)) pss_nil))))
      (pss_one (ps_ret pe_bl))), ?_⟩
    have lt : (ts.map V.ref).length = ss.length := by rw [List.length_map, hTs.len]
    refine ⟨_, rfl, t, rfl, ⟨_, hTd⟩, for_it walk_list (fun i σ H2 => H2 = H ∧ (∀ j s, j < i → ss[j]? = some s → inW ns ys s = true) ∧ ∃ u1 u2 : Option V, σ = [some (.ref o), some (.ref y), some (.ref t), u1, u2]) ⟨rfl, fun j s hj => absurd hj (Nat.not_lt_zero _), none, none, rfl⟩ (fun i σ H2 _ q => by rw [q.1]; exact hTd) ?_ ?_⟩
    · rintro i x σ H20 H2 hi ⟨rfl, hb, u1, u2, rfl⟩ ⟨rfl, hx⟩
      obtain ⟨b, hb2, rfl⟩ := refs_get hx
      obtain ⟨⟨zn, zl, zh⟩, hz, ho⟩ := hTs.get hb2
      obtain ⟨j, ej, hj⟩ := ixZ_at (hin _ (List.mem_of_getElem? hz))
      have ej : ixZ ns zn = ((j : Nat) : Int) := ej
      have hjl := (List.getElem?_eq_some_iff.mp hj).1
      have first : ∀ m, m < j → ns[m]? ≠ some zn := fun m hm e => by
        have b : ixZ ns zn = ((m : Nat) : Int) := ixZ_of nd e
        omega
      have aj : atI (ivs ys) ((j : Nat) : Int) = some (.int (ys.getD j 0)) := iat (by omega)
      have eW : inW ns ys (zn, zl, zh) = decide (zl ≤ ys.getD j 0 ∧ ys.getD j 0 ≤ zh) := by
        unfold inW
        show decide (zl ≤ ys.getD (ixZ ns zn).toNat 0 ∧ ys.getD (ixZ ns zn).toNat 0 ≤ zh) = _
        rw [ej, Int.toNat_natCast]
      have t0 : atI (w3 (zn, zl, zh)) 0 = some (.str zn) := atI_nat (j := 0) rfl
      have t1 : atI (w3 (zn, zl, zh)) 1 = some (.int zl) := atI_nat (j := 1) rfl
      have t2 : atI (w3 (zn, zl, zh)) 2 = some (.int zh) := atI_nat (j := 2) rfl
      have bad : inW ns ys (zn, zl, zh) = false → Q (.bl false) _ := fun h => by
        have e : ss.all (inW ns ys) = false := by
          rw [List.all_eq_false]
          exact ⟨_, List.mem_of_getElem? hz, by rw [h]; exact Bool.false_ne_true⟩
        rw [e] at k
        exact k
      refine ⟨_, rfl, _, rfl, .inl ⟨rfl, _, hO⟩, _, rfl, b, _, _, _, rfl, rfl, ho, t0, o, sv ns, .str zn, j, .str zn, rfl, rfl, hO, rfl, flat_sv _, by rw [List.getElem?_map, hj]; rfl, by rw [eqV_str]; exact decide_eq_true rfl, fun m z' hm hz' => by (obtain ⟨yy, hyy, rfl⟩ := sv_get hz'; rw [eqV_str]; exact decide_eq_false fun e => first m hm (by rw [hyy, e])), y, _, _, _, rfl, rfl, hY, aj, ?_⟩
      refine ⟨_, rfl, _, rfl, b, _, _, _, rfl, rfl, ho, t1, _, _, rfl, rfl, _, rfl, ?_⟩
      by_cases c1 : ys.getD j 0 < zl
      · exact itY c1 (ifT rfl (bad (by rw [eW]; exact decide_eq_false (by omega))))
      · refine itN c1 ⟨_, rfl, _, rfl, b, _, _, _, rfl, rfl, ho, t2, _, _, rfl, rfl, _, rfl, ?_⟩
        by_cases c2 : zh < ys.getD j 0
        · exact ifT (decide_eq_true c2) (bad (by rw [eW]; exact decide_eq_false (by omega)))
        · refine ifF (decide_eq_false c2) ⟨rfl, fun j2 s hj2 hs => ?_, _, _, rfl⟩
          rcases Nat.lt_succ_iff_lt_or_eq.mp hj2 with q | q
          · exact hb j2 s q hs
          · rw [q, hz] at hs; cases hs
            rw [eW]; exact decide_eq_true (by omega)
    · rintro σ H2 ⟨rfl, hb, u1, u2, rfl⟩
      have e : ss.all (inW ns ys) = true := List.all_eq_true.mpr fun s hs => by
        obtain ⟨j, hj, e⟩ := List.getElem_of_mem hs
        exact hb j s (by rw [lt]; exact hj) (by rw [List.getElem?_eq_getElem hj, e])
      rw [e] at k
      exact k
theorem ok_wkeptT (T : Txt P K mg A) : FnOk P w K mg base CX0 1 A.a_law_windows_kept A.d_law_windows_kept ["order", "years", "windows"] (spKept DT K) := by
  refine T.F_law_windows_kept.ok sc_law_windows_kept (fun vs H Q E h => ?_) (fun cdv A' outer s H vs Q E hr h => ?_)
  · obtain ⟨o, y, t, ns, ts, ss, ys, rfl, _⟩ := h
    rfl
  · obtain ⟨o, y, t, ns, ts, ss, ys, rfl, hO, hY, hTd, hTs, hly, nd, hin, k⟩ := h
    refine ⟨_, (pss_cons (ps_for PassesOwn.never rfl (pi_list (pv 2)) (pg_name (i := 3) sc_law_windows_kept.nd rfl (Or.inl rfl))
        (pss_cons (ps_set (i := 4) sc_law_windows_kept.nd rfl (Or.inl rfl) (pe_ix ix_list (pv 1) (pe_bmT PySem.F.plainAttrs_tuple PySem.F.slot_tuple_index PySem.F.type_tuple_index mt_tup_index (pv 0) (pa_cons (pe_ix ix_tup (pv 3) pe_int (fun _ _ => rfl)) pa_nil)) (fun _ _ => rfl)))
      (pss_one (ps_if (PW.pt (pw_or (pt_cmpR op_lt (pv 4) (pe_ix ix_tup (pv 3) pe_int (fun _ _ => rfl)) (nomark _)) (pw_or1 (pt_cmpR op_gt (pv 4) (pe_ix ix_tup (pv 3) pe_int (fun _ _ => rfl)) (nomark _))))) (pss_one (ps_ret pe_bl)) pss_nil))))
      (pss_one (ps_ret pe_bl))), ?_⟩
    have lt : (ts.map V.ref).length = ss.length := by rw [List.length_map, hTs.len]
    refine ⟨_, rfl, t, rfl, ⟨_, hTd⟩, for_it walk_list (fun i σ H2 => H2 = H ∧ (∀ j s, j < i → ss[j]? = some s → inW ns ys s = true) ∧ ∃ u1 u2 : Option V, σ = [some (.ref o), some (.ref y), some (.ref t), u1, u2]) ⟨rfl, fun j s hj => absurd hj (Nat.not_lt_zero _), none, none, rfl⟩ (fun i σ H2 _ q => by rw [q.1]; exact hTd) ?_ ?_⟩
    · rintro i x σ H20 H2 hi ⟨rfl, hb, u1, u2, rfl⟩ ⟨rfl, hx⟩
      obtain ⟨b, hb2, rfl⟩ := refs_get hx
      obtain ⟨⟨zn, zl, zh⟩, hz, ho⟩ := hTs.get hb2
      obtain ⟨j, ej, hj⟩ := ixZ_at (hin _ (List.mem_of_getElem? hz))
      have ej : ixZ ns zn = ((j : Nat) : Int) := ej
      have hjl := (List.getElem?_eq_some_iff.mp hj).1
      have first : ∀ m, m < j → ns[m]? ≠ some zn := fun m hm e => by
        have b : ixZ ns zn = ((m : Nat) : Int) := ixZ_of nd e
        omega
      have aj : atI (ivs ys) ((j : Nat) : Int) = some (.int (ys.getD j 0)) := iat (by omega)
      have eW : inW ns ys (zn, zl, zh) = decide (zl ≤ ys.getD j 0 ∧ ys.getD j 0 ≤ zh) := by
        unfold inW
        show decide (zl ≤ ys.getD (ixZ ns zn).toNat 0 ∧ ys.getD (ixZ ns zn).toNat 0 ≤ zh) = _
        rw [ej, Int.toNat_natCast]
      have t0 : atI (w3 (zn, zl, zh)) 0 = some (.str zn) := atI_nat (j := 0) rfl
      have t1 : atI (w3 (zn, zl, zh)) 1 = some (.int zl) := atI_nat (j := 1) rfl
      have t2 : atI (w3 (zn, zl, zh)) 2 = some (.int zh) := atI_nat (j := 2) rfl
      have bad : inW ns ys (zn, zl, zh) = false → Q (.bl false) _ := fun h => by
        have e : ss.all (inW ns ys) = false := by
          rw [List.all_eq_false]
          exact ⟨_, List.mem_of_getElem? hz, by rw [h]; exact Bool.false_ne_true⟩
        rw [e] at k
        exact k
      refine ⟨_, rfl, _, rfl, ⟨o, _, rfl, hO⟩, _, rfl, b, _, _, _, rfl, rfl, ho, t0, o, ns, zn, j, rfl, rfl, hO.sq, hj, first, y, _, _, _, rfl, rfl, hY, aj, ?_⟩
      refine ⟨_, rfl, _, rfl, b, _, _, _, rfl, rfl, ho, t1, _, _, rfl, rfl, _, rfl, ?_⟩
      by_cases c1 : ys.getD j 0 < zl
      · exact itY c1 (ifT rfl (bad (by rw [eW]; exact decide_eq_false (by omega))))
      · refine itN c1 ⟨_, rfl, _, rfl, b, _, _, _, rfl, rfl, ho, t2, _, _, rfl, rfl, _, rfl, ?_⟩
        by_cases c2 : zh < ys.getD j 0
        · exact ifT (decide_eq_true c2) (bad (by rw [eW]; exact decide_eq_false (by omega)))
        · refine ifF (decide_eq_false c2) ⟨rfl, fun j2 s hj2 hs => ?_, _, _, rfl⟩
          rcases Nat.lt_succ_iff_lt_or_eq.mp hj2 with q | q
          · exact hb j2 s q hs
          · rw [q, hz] at hs; cases hs
            rw [eW]; exact decide_eq_true (by omega)
    · rintro σ H2 ⟨rfl, hb, u1, u2, rfl⟩
      have e : ss.all (inW ns ys) = true := List.all_eq_true.mpr fun s hs => by
        obtain ⟨j, hj, e⟩ := List.getElem_of_mem hs
        exact hb j s (by rw [lt]; exact hj) (by rw [List.getElem?_eq_getElem hj, e])
      rw [e] at k
      exact k
def spSameP (K : PySem.W.Frag) : Sp := fun vs H Q _ => ∃ f d us ts l, vs = [.ref f, .ref d] ∧ H f = some (.lst (us.map V.ref)) ∧ Tg fS H us l ∧ SqL K H d (ts.map V.ref) ∧ Tg fS H ts l ∧ l.length ≤ 1000 ∧ (∀ r ∈ l.map (fun p => [p.1, p.2]), ∀ z ∈ r, Okz z) ∧ Q (.bl true) H
theorem ok_sameP (T : Txt P K mg A) : FnOk P w K mg base CX0 1 A.a_law_same_pairs A.d_law_same_pairs ["found", "due"] (spSameP K) := by
  refine T.F_law_same_pairs.ok sc_law_same_pairs (fun vs H Q E h => ?_) (fun cdv A' outer s H vs Q E hr h => ?_)
  · obtain ⟨f, d, us, ts, l, rfl, _⟩ := h
    rfl
  · obtain ⟨f, d, us, ts, l, rfl, hF, hU, hD, hT, hl, hg, k⟩ := h
    refine ⟨_, (pss_cons (ps_if (PW.pt (pw_or (pt_not (pt_val (pe_callB call_isi (by rfl) T.n_isinstance (by decide +kernel) (pa_cons (pv 0) (pa_cons (pe_bltn (v := .ty "list") (by rfl) T.n_list (by decide +kernel) rfl) pa_nil))))) (pw_or1 (pt_cmpR op_ne (pe_callB call_len_seq (by rfl) T.n_len (by decide +kernel) (pa_cons (pv 0) pa_nil)) (pe_callB call_len_seq (by rfl) T.n_len (by decide +kernel) (pa_cons (pv 1) pa_nil)) (nomark _))))) (pss_one (ps_ret pe_bl)) pss_nil)
      (pss_cons (ps_for PassesOwn.never rfl (pi_range1 (by rfl) T.n_range (pa_cons (pe_callB call_len_seq (by rfl) T.n_len (by decide +kernel) (pa_cons (pv 1) pa_nil)) pa_nil)) (pg_name (i := 2) sc_law_same_pairs.nd rfl (Or.inl rfl))
        (pss_one (ps_if (PW.pt (pw_or (pt_not (pt_val (pe_callB call_isi (by rfl) T.n_isinstance (by decide +kernel) (pa_cons (pe_ix ix_list (pv 0) (pv 2) (fun _ _ => rfl)) (pa_cons (pe_bltn (v := .ty "tuple") (by rfl) T.n_tuple (by decide +kernel) rfl) pa_nil))))) (pw_or1 (pt_cmpR (op_neD hr.units) (pe_ix ix_list (pv 0) (pv 2) (fun _ _ => rfl)) (pe_ix ix_list (pv 1) (pv 2) (fun _ _ => rfl)) (nomark _))))) (pss_one (ps_ret pe_bl)) pss_nil)))
      (pss_one (ps_ret pe_bl)))), ?_⟩
    have lu : (us.map V.ref).length = l.length := by rw [List.length_map, hU.len]
    have lt : (ts.map V.ref).length = l.length := by rw [List.length_map, hT.len]
    have en : (((ts.map V.ref).length : Nat) : Int).toNat = l.length := by rw [lt, Int.toNat_natCast]
    refine ⟨_, rfl, _, _, _, _, true, rfl, .ty _, .base (.lst hF), kit_ty (by decide +kernel), true, rfl, ifF rfl ?_⟩
    refine ⟨_, rfl, f, _, rfl, .inl (SqL.of hF), _, rfl, d, _, rfl, .inl hD, rfl, _, rfl, itNe (by rw [lu, lt]) ?_⟩
    refine ⟨_, rfl, d, _, rfl, .inl hD, _, rfl, by rw [lt]; omega, by rw [lt]; omega, for_range (n := (((ts.map V.ref).length : Nat) : Int).toNat) (fun i σ H2 => H2 = H ∧ ∃ u : Option V, σ = [some (.ref f), some (.ref d), u]) ⟨rfl, none, rfl⟩ ?_ ?_⟩
    · rintro i σ H2 hi ⟨rfl, u, rfl⟩
      rw [en] at hi
      have ei : (0 : Int) + (i : Int) = ((i : Nat) : Int) := by omega
      have hu : us[i]? = some (us[i]'(by rw [hU.len]; exact hi)) := List.getElem?_eq_getElem _
      have ht : ts[i]? = some (ts[i]'(by rw [hT.len]; exact hi)) := List.getElem?_eq_getElem _
      generalize us[i]'(by rw [hU.len]; exact hi) = a at hu
      generalize ts[i]'(by rw [hT.len]; exact hi) = b at ht
      have hz : l[i]? = some l[i] := List.getElem?_eq_getElem hi
      have h1 := hU.at_ i a _ hu hz
      have h2 := hT.at_ i b _ ht hz
      have aa : atI (us.map V.ref) (0 + (i : Int)) = some (V.ref a) := by rw [ei]; exact atR_of hu
      have ab : atI (ts.map V.ref) (0 + (i : Int)) = some (V.ref b) := by rw [ei]; exact atR_of ht
      have hok : ∀ z ∈ [l[i].1, l[i].2], Okz z := hg _ (List.mem_map_of_mem (List.getElem_mem hi))
      generalize l[i] = p at h1 h2 hok
      refine ⟨_, rfl, _, rfl, f, _, _, _, rfl, rfl, SqL.of hF, aa, _, _, _, _, true, rfl, .ty _, .base (.tup h1), kit_ty (by decide +kernel), true, rfl, ifF rfl ?_⟩
      refine ⟨_, rfl, _, rfl, f, _, _, _, rfl, rfl, SqL.of hF, aa, _, rfl, _, rfl, d, _, _, _, rfl, rfl, hD, ab, .tuple (pd [p.1, p.2]), .tuple (pd [p.1, p.2]), .tup (xs := sv [p.1, p.2]) (SqT.of h1) (dp_pd _), .tup (xs := sv [p.1, p.2]) (SqT.of h2) (dp_pd _), shaped_pdT hok, shaped_pdT hok, _, rfl, ifF (by rw [eqvT (lay_all hok)]; rfl) ?_⟩
      exact ⟨rfl, _, rfl⟩
    · rintro σ H2 ⟨rfl, u, rfl⟩
      exact k
end
end My
set_option maxRecDepth 100000
set_option maxHeartbeats 8000000
set_option exponentiation.threshold 10000
namespace My
open PySem L2
def rowN (ss : List TW) (a : TW) : List (Str × Str) := (ss.filter fun b => decide (a.2.2 < b.2.1)).map fun b => (a.1, b.1)
def rawN (ss : List TW) : List (Str × Str) := ss.flatMap (rowN ss)
theorem mem_rawN {ss : List TW} {x y : Str} : decide ((x, y) ∈ rawN ss) = fcd ss x y := by
  rw [Bool.eq_iff_iff, decide_eq_true_iff]
  unfold rawN fcd
  rw [List.mem_flatMap, List.any_eq_true]
  constructor
  · rintro ⟨a, ha, hp⟩
    unfold rowN at hp
    obtain ⟨b, hb, e⟩ := List.mem_map.mp hp
    rw [List.mem_filter] at hb
    refine ⟨a, ha, List.any_eq_true.mpr ⟨b, hb.1, ?_⟩⟩
    have e1 := (Prod.mk.inj e).1
    have e2 := (Prod.mk.inj e).2
    rw [decide_eq_true e1, decide_eq_true e2, hb.2]; rfl
  · rintro ⟨a, ha, h⟩
    obtain ⟨b, hb, h⟩ := List.any_eq_true.mp h
    rw [Bool.and_eq_true, Bool.and_eq_true, decide_eq_true_iff, decide_eq_true_iff] at h
    refine ⟨a, ha, ?_⟩
    unfold rowN
    exact List.mem_map.mpr ⟨b, List.mem_filter.mpr ⟨hb, h.2.2⟩, by rw [h.1, h.2.1]⟩
theorem fm_len {α β : Type} {f : α → List β} (hf : ∀ a, (f a).length ≤ 12) : ∀ l : List α, (l.flatMap f).length ≤ 12 * l.length
  | [] => Nat.le_refl _
  | a :: l => by
    have := fm_len hf l
    have := hf a
    rw [List.flatMap_cons, List.length_append, List.length_cons]
    omega
section
variable {P : Program} {w : World} {K : PySem.W.Frag} {mg : Str → Option Value} {base : Heap} {A : Ad}
def spLForced (K : PySem.W.Frag) : Sp := fun vs H Q _ => ∃ n t cs ts ss, vs = [.ref n, .ref t] ∧ SqL K H n (sv cs) ∧ SqL K H t (ts.map V.ref) ∧ Tl (SqT K) H ts ss ∧ ColsOk cs ∧ WOk cs ss ∧ ∀ D qs H', Same H H' → H D = none → H' D = some (.lst (qs.map V.ref)) → Tg fS H' qs (forcedD cs ss) → Q (.ref D) H'
theorem ok_lforced (T : Txt P K mg A) : FnOk P w K mg base CX0 1 A.a_law_forced A.d_law_forced ["names", "windows"] (spLForced K) := by
  refine T.F_law_forced.ok sc_law_forced (fun vs H Q E h => ?_) (fun cdv A' outer s H vs Q E hr h => ?_)
  · obtain ⟨n, t, cs, ts, ss, rfl, _⟩ := h
    rfl
  · obtain ⟨n, t, cs, ts, ss, rfl, hN, hTd, hTs, okc, wok, k⟩ := h
    refine ⟨_, (pss_cons (ps_set (i := 2) sc_law_forced.nd rfl (Or.inl rfl) (pe_lst pa_nil))
      (pss_cons (ps_for PassesOwn.never rfl (pi_list (pv 1)) (pg_name (i := 3) sc_law_forced.nd rfl (Or.inl rfl))
        (pss_one (ps_for PassesOwn.never rfl (pi_list (pv 1)) (pg_name (i := 4) sc_law_forced.nd rfl (Or.inl rfl))
        (pss_one (ps_if (pt_cmpR op_lt (pe_ix ix_tup (pv 3) pe_int (fun _ _ => rfl)) (pe_ix ix_tup (pv 4) pe_int (fun _ _ => rfl)) (nomark _)) (pss_one (ps_expr (pe_bm PySem.F.plainAttrs_list PySem.F.slot_list_append PySem.F.type_list_append mt_append (pv 2) (pa_cons (pe_tup (pa_cons (pe_ix ix_tup (pv 3) pe_int (fun _ _ => rfl)) (pa_cons (pe_ix ix_tup (pv 4) pe_int (fun _ _ => rfl)) pa_nil))) pa_nil)))) pss_nil)))))
      (pss_cons (ps_set (i := 5) sc_law_forced.nd rfl (Or.inl rfl) (pe_lst pa_nil))
      (pss_cons (ps_for PassesOwn.never rfl (pi_list (pv 0)) (pg_name (i := 6) sc_law_forced.nd rfl (Or.inl rfl))
        (pss_one (ps_for PassesOwn.never rfl (pi_list (pv 0)) (pg_name (i := 7) sc_law_forced.nd rfl (Or.inl rfl))
        (pss_one (ps_if (pt_cmpR (op_inD (hu65 hr)) (pe_tup (pa_cons (pv 6) (pa_cons (pv 7) pa_nil))) (pv 2) (by with_unfolding_all rfl)) (pss_one (ps_expr (pe_bm PySem.F.plainAttrs_list PySem.F.slot_list_append PySem.F.type_list_append mt_append (pv 5) (pa_cons (pe_tup (pa_cons (pv 6) (pa_cons (pv 7) pa_nil))) pa_nil)))) pss_nil)))))
      (pss_one (ps_ret (pv 5))))))), ?_⟩
    have sl := wok.len okc.n
    have cl := okc.n
    have lt : (ts.map V.ref).length = ss.length := by rw [List.length_map, hTs.len]
    have f12 : ∀ a, (rowN ss a).length ≤ 12 := fun a => by
      unfold rowN
      rw [List.length_map]
      exact Nat.le_trans (List.length_filter_le _ _) sl
    refine ⟨by show 0 ≤ sizeLine; decide, fun TT nT => ?_⟩
    generalize hG : upd H TT _ = H0
    have q0 : Same H H0 := hG ▸ same_new nT
    have x0 := (congrFun hG TT).symm.trans upd_same
    clear hG
    refine ⟨_, rfl, t, rfl, ⟨_, q0.seq hTd⟩, for_it walk_list (fun i σ H4 => Same H H4 ∧ ∃ (qs : List Addr) (u3 u4 : Option V), σ = [some (.ref n), some (.ref t), some (.ref TT), u3, u4, none, none, none] ∧ H4 TT = some (.lst (qs.map V.ref)) ∧ Tg fS H4 qs ((ss.take i).flatMap (rowN ss))) ⟨q0, [], none, none, rfl, x0, Tg.nil⟩ (fun i σ H4 _ q => q.1.seq hTd) ?_ ?_⟩
    · rintro i x σ H40 H4 hi ⟨s4, qs, u3, u4, rfl, h4, hq4⟩ ⟨rfl, hx⟩
      obtain ⟨ta, hta, rfl⟩ := refs_get hx
      obtain ⟨⟨an, al, ah⟩, hza, hoa⟩ := hTs.get hta
      refine ⟨_, rfl, t, rfl, ⟨_, s4.seq hTd⟩, for_it walk_list (fun j σ H5 => Same H H5 ∧ ∃ (qs : List Addr) (u4 : Option V), σ = [some (.ref n), some (.ref t), some (.ref TT), some (.ref ta), u4, none, none, none] ∧ H5 TT = some (.lst (qs.map V.ref)) ∧ Tg fS H5 qs ((ss.take i).flatMap (rowN ss) ++ ((ss.take j).filter fun b => decide (ah < b.2.1)).map fun b => (an, b.1))) ⟨s4, qs, u4, rfl, h4, by rw [List.take_zero, List.filter_nil, List.map_nil, List.append_nil]; exact hq4⟩ (fun j σ H5 _ q => q.1.seq hTd) ?_ ?_⟩
      · rintro j x σ H50 H5 hj ⟨s5, qs5, u4', rfl, h5, hq5⟩ ⟨rfl, hx⟩
        obtain ⟨tb, htb, rfl⟩ := refs_get hx
        obtain ⟨⟨bn, bl, bh⟩, hzb, hob⟩ := hTs.get htb
        have hoa5 := s5.tup hoa
        have hob5 := s5.tup hob
        have a2 : atI (w3 (an, al, ah)) 2 = some (.int ah) := atI_nat (j := 2) rfl
        have a0 : atI (w3 (an, al, ah)) 0 = some (.str an) := atI_nat (j := 0) rfl
        have b1 : atI (w3 (bn, bl, bh)) 1 = some (.int bl) := atI_nat (j := 1) rfl
        have b0 : atI (w3 (bn, bl, bh)) 0 = some (.str bn) := atI_nat (j := 0) rfl
        refine ⟨_, rfl, ta, _, _, _, rfl, rfl, hoa5, a2, _, rfl, tb, _, _, _, rfl, rfl, hob5, b1, _, _, rfl, rfl, _, rfl, ?_⟩
        by_cases hlt : ah < bl
        · refine itY hlt ?_
          refine ⟨_, rfl, .inl ⟨rfl, _, SqL.of h5⟩, _, rfl, ta, _, _, _, rfl, rfl, hoa5, a0, _, rfl, tb, _, _, _, rfl, rfl, hob5, b0, by show 2 ≤ sizeLine; decide, fun tn nn => ?_⟩
          generalize hG : upd H5 tn _ = H6
          have q6 : Same H5 H6 := hG ▸ same_new nn
          have x6 := (congrFun hG tn).symm.trans upd_same
          clear hG
          have h6 := q6 _ _ h5
          have b2 := fm_len f12 (ss.take i)
          have l5 : qs5.length ≤ 1000 := by
            rw [hq5.len, List.length_append, List.length_map]
            have b3 := List.length_filter_le (fun b : TW => decide (ah < b.2.1)) (ss.take j)
            rw [List.length_take] at b2 b3
            have : min i ss.length ≤ 12 := by omega
            have : min j ss.length ≤ 12 := by omega
            omega
          refine ⟨TT, _, _, rfl, rfl, h6, small_int (by rw [List.length_map]; omega), ?_⟩
          refine ⟨fun x u e => by rw [upd_ne (ne_of_none e nT)]; exact q6 _ _ (s5 _ _ e), qs5 ++ [tn], _, rfl, by rw [List.map_append]; exact upd_same, ?_⟩
          rw [take_succ hzb, List.filter_append, List.filter_cons_of_pos (by exact decide_eq_true hlt), List.filter_nil, List.map_append, ← List.append_assoc]
          exact ((hq5.same q6).snoc (t := tn) (s := (an, bn)) x6).updL h6
        · refine itN hlt ⟨s5, qs5, _, rfl, h5, ?_⟩
          rw [take_succ hzb, List.filter_append, List.filter_cons_of_neg (by rw [decide_eq_false hlt]; exact Bool.false_ne_true), List.filter_nil, List.append_nil]
          exact hq5
      · rintro σ H5 ⟨s5, qs5, u4', rfl, h5, hq5⟩
        rw [lt, List.take_length] at hq5
        refine ⟨s5, qs5, _, _, rfl, h5, ?_⟩
        rw [take_succ hza, List.flatMap_append]
        have e : ([(an, al, ah)] : List TW).flatMap (rowN ss) = rowN ss (an, al, ah) := by rw [List.flatMap_cons, List.flatMap_nil, List.append_nil]
        rw [e]
        exact hq5
    rintro σ H4 ⟨s4, qs, u3, u4, rfl, h4, hq4⟩
    rw [lt, List.take_length] at hq4
    have hq4 : Tg fS H4 qs (rawN ss) := hq4
    refine ⟨by show 0 ≤ sizeLine; decide, fun PP nP => ?_⟩
    generalize hG : upd H4 PP _ = H5
    have q5 : Same H4 H5 := hG ▸ same_new nP
    have x5 := (congrFun hG PP).symm.trans upd_same
    clear hG
    have s5 := s4.trans q5
    have h5 := q5 _ _ h4
    have nP0 : H PP = none := none_of s4 nP
    have nTP : TT ≠ PP := ne_of_none h4 nP
    have gR : ∀ r ∈ (rawN ss).map (fun p => [p.1, p.2]), ∀ z ∈ r, Okz z := fun r hr z hz => by
      obtain ⟨p, hp, rfl⟩ := List.mem_map.mp hr
      unfold rawN at hp
      obtain ⟨a, ha, hp⟩ := List.mem_flatMap.mp hp
      unfold rowN at hp
      obtain ⟨b, hb, e⟩ := List.mem_map.mp hp
      rw [← e] at hz
      rcases List.mem_cons.mp hz with rfl | hz
      · exact okz_good (okc.g _ (wok.ins a ha))
      · rw [List.mem_singleton.mp hz]; exact okz_good (okc.g _ (wok.ins b (List.mem_filter.mp hb).1))
    have g12 : ∀ x, (((cs.filter fun y => fcd ss x y).map fun y => (x, y)) : List (Str × Str)).length ≤ 12 := fun x => by
      rw [List.length_map]
      exact Nat.le_trans (List.length_filter_le _ _) cl
    refine ⟨_, rfl, n, rfl, ⟨_, s5.seq hN⟩, for_it walk_list (fun i σ H6 => Same H4 H6 ∧ ∃ (ps : List Addr) (u6 u7 : Option V), σ = [some (.ref n), some (.ref t), some (.ref TT), u3, u4, some (.ref PP), u6, u7] ∧ H6 PP = some (.lst (ps.map V.ref)) ∧ Tg fS H6 ps ((cs.take i).flatMap fun x => (cs.filter fun y => fcd ss x y).map fun y => (x, y))) ⟨q5, [], none, none, rfl, x5, Tg.nil⟩ (fun i σ H6 _ q => (s4.trans q.1).seq hN) ?_ ?_⟩
    · rintro i x σ H60 H6 hi ⟨s6, ps, u6, u7, rfl, h6, hp6⟩ ⟨rfl, hx⟩
      obtain ⟨zx, hzx, rfl⟩ := sv_get hx
      have gx := okc.g _ (List.mem_of_getElem? hzx)
      refine ⟨_, rfl, n, rfl, ⟨_, (s4.trans s6).seq hN⟩, for_it walk_list (fun j σ H7 => Same H4 H7 ∧ ∃ (ps : List Addr) (u7 : Option V), σ = [some (.ref n), some (.ref t), some (.ref TT), u3, u4, some (.ref PP), some (.str zx), u7] ∧ H7 PP = some (.lst (ps.map V.ref)) ∧ Tg fS H7 ps (((cs.take i).flatMap fun x => (cs.filter fun y => fcd ss x y).map fun y => (x, y)) ++ ((cs.take j).filter fun y => fcd ss zx y).map fun y => (zx, y))) ⟨s6, ps, u7, rfl, h6, by rw [List.take_zero, List.filter_nil, List.map_nil, List.append_nil]; exact hp6⟩ (fun j σ H7 _ q => (s4.trans q.1).seq hN) ?_ ?_⟩
      · rintro j x σ H70 H7 hj ⟨s7, ps7, u7', rfl, h7, hp7⟩ ⟨rfl, hx⟩
        obtain ⟨zy, hzy, rfl⟩ := sv_get hx
        have gy := okc.g _ (List.mem_of_getElem? hzy)
        refine ⟨_, rfl, _, rfl, by show 2 ≤ sizeLine; decide, fun tn nn => ?_⟩
        generalize hG : upd H7 tn _ = H8
        have q8 : Same H7 H8 := hG ▸ same_new nn
        have x8 := (congrFun hG tn).symm.trans upd_same
        clear hG
        have s8 := s7.trans q8
        have h8 := q8 _ _ h7
        have okt : ∀ z ∈ [zx, zy], Okz z := fun z hz => by
          rcases List.mem_cons.mp hz with rfl | hz
          · exact okz_good gx
          · rw [List.mem_singleton.mp hz]; exact okz_good gy
        refine ⟨_, rfl, .tuple (pd [zx, zy]), pdd ((rawN ss).map fun p => [p.1, p.2]), .tup (xs := sv [zx, zy]) (SqT.of x8) (dp_pd _), .lst (SqL.of (s8 _ _ h4)) (dp_pdd (hq4.same s8).lss), shaped_pdT okt, shaped_pdd gR, ?_⟩
        rw [any_pdd, mem_pr, mem_rawN]
        refine ⟨_, rfl, ?_⟩
        cases hf : fcd ss zx zy with
        | true =>
          refine ifT rfl ?_
          refine ⟨_, rfl, .inl ⟨rfl, _, SqL.of h8⟩, _, rfl, _, rfl, by show 2 ≤ sizeLine; decide, fun tm nm => ?_⟩
          generalize hG : upd H8 tm _ = H9
          have q9 : Same H8 H9 := hG ▸ same_new nm
          have x9 := (congrFun hG tm).symm.trans upd_same
          clear hG
          have h9 := q9 _ _ h8
          have b2 := fm_len g12 (cs.take i)
          have l7 : ps7.length ≤ 1000 := by
            rw [hp7.len, List.length_append, List.length_map]
            have b3 := List.length_filter_le (fun y : Str => fcd ss zx y) (cs.take j)
            rw [List.length_take] at b2 b3
            have : min i cs.length ≤ 12 := by omega
            have : min j cs.length ≤ 12 := by omega
            omega
          refine ⟨PP, _, _, rfl, rfl, h9, small_int (by rw [List.length_map]; omega), ?_⟩
          refine ⟨fun x u e => by rw [upd_ne (ne_of_none e nP)]; exact q9 _ _ (s8 _ _ e), ps7 ++ [tm], _, rfl, by rw [List.map_append]; exact upd_same, ?_⟩
          rw [take_succ hzy, List.filter_append, List.filter_cons_of_pos (by exact hf), List.filter_nil, List.map_append, ← List.append_assoc]
          exact ((hp7.same (q8.trans q9)).snoc (t := tm) (s := (zx, zy)) x9).updL h9
        | false =>
          refine ifF rfl ⟨s8, ps7, _, rfl, h8, ?_⟩
          rw [take_succ hzy, List.filter_append, List.filter_cons_of_neg (by rw [hf]; exact Bool.false_ne_true), List.filter_nil, List.append_nil]
          exact hp7.same q8
      · rintro σ H7 ⟨s7, ps7, u7', rfl, h7, hp7⟩
        rw [len_sv, List.take_length] at hp7
        refine ⟨s7, ps7, _, _, rfl, h7, ?_⟩
        rw [take_succ hzx, List.flatMap_append]
        have e : ([zx] : List Str).flatMap (fun x => (cs.filter fun y => fcd ss x y).map fun y => (x, y)) = (cs.filter fun y => fcd ss zx y).map fun y => (zx, y) := by rw [List.flatMap_cons, List.flatMap_nil, List.append_nil]
        rw [e]
        exact hp7
    · rintro σ H6 ⟨s6, ps, u6, u7, rfl, h6, hp6⟩
      rw [len_sv, List.take_length] at hp6
      exact ⟨_, rfl, k PP ps H6 (s4.trans s6) nP0 h6 hp6⟩
end
end My
set_option maxRecDepth 100000
set_option maxHeartbeats 8000000
set_option exponentiation.threshold 10000
namespace My
open PySem L2
open C8 (pss_cut)
theorem startY_le {ss : List TW} {s : TW} (h : s ∈ ss) : startY ss ≤ s.2.1 := by
  have hm : s.2.1 ∈ ss.map (·.2.1) := List.mem_map_of_mem h
  unfold startY
  generalize ss.map (·.2.1) = l at hm
  cases l with
  | nil => cases hm
  | cons n l => exact (foldl_min l n).2 _ hm
theorem lowO_some {ss : List TW} {z : Str} {l : Int} (h : lowO ss z = some l) : ∃ s ∈ ss, s.1 = z ∧ s.2.1 = l := by
  unfold lowO at h
  cases e : ss.find? fun s => decide (s.1 = z) with
  | none => rw [e] at h; cases h
  | some s =>
    rw [e] at h
    exact ⟨s, List.mem_of_find?_eq_some e, of_decide_eq_true (List.find?_some (p := fun s : TW => decide (s.1 = z)) e), Option.some.inj h⟩
theorem lowO_of {ss : List TW} (nd : (nms ss).Nodup) {s : TW} (h : s ∈ ss) : lowO ss s.1 = some s.2.1 := by
  cases e : lowO ss s.1 with
  | none =>
    unfold lowO at e
    rw [Option.map_eq_none_iff, List.find?_eq_none] at e
    exact absurd (decide_eq_true rfl) (e s h)
  | some l =>
    obtain ⟨s2, h2, e1, e2⟩ := lowO_some e
    have := inj_of_map nd h2 h e1
    rw [← e2, this]
/-- what the running year is -/
structure RunI (ss : List TW) (p : List Str) (y : Int) : Prop where
  ge : startY ss ≤ y
  up : ∀ s ∈ ss, s.1 ∈ p → s.2.1 ≤ y
  at_ : y = startY ss ∨ ∃ s ∈ ss, s.1 ∈ p ∧ y = s.2.1
theorem run_inv {ss : List TW} (nd : (nms ss).Nodup) : ∀ p : List Str, ∀ q : List Str, RunI ss q (runY ss q).2 → RunI ss (q ++ p) (runY ss (q ++ p)).2
  | [], q, h => by rw [List.append_nil]; exact h
  | z :: p, q, h => by
    have e : q ++ z :: p = (q ++ [z]) ++ p := by rw [List.append_assoc]; rfl
    rw [e]
    refine run_inv nd p (q ++ [z]) ?_
    rw [runY_snoc]
    generalize (runY ss q) = a at h
    obtain ⟨l, y⟩ := a
    show RunI ss (q ++ [z]) (if (lowO ss z).getD y > y then (lowO ss z).getD y else y)
    obtain ⟨h1, h2, h3⟩ := h
    have h1 : startY ss ≤ y := h1
    have h2 : ∀ s ∈ ss, s.1 ∈ q → s.2.1 ≤ y := h2
    have h3 : y = startY ss ∨ ∃ s ∈ ss, s.1 ∈ q ∧ y = s.2.1 := h3
    cases e2 : lowO ss z with
    | none =>
      have hz : ∀ s ∈ ss, s.1 ≠ z := fun s hs e3 => by rw [← e3, lowO_of nd hs] at e2; cases e2
      show RunI ss (q ++ [z]) (if y > y then y else y)
      rw [if_neg (by omega)]
      refine ⟨h1, fun s hs hm => ?_, h3.imp id fun ⟨s, a, b, c⟩ => ⟨s, a, List.mem_append.mpr (.inl b), c⟩⟩
      rcases List.mem_append.mp hm with h | h
      · exact h2 s hs h
      · exact absurd (List.mem_singleton.mp h) (hz s hs)
    | some l2 =>
      obtain ⟨s0, hs0, e3, e4⟩ := lowO_some e2
      show RunI ss (q ++ [z]) (if l2 > y then l2 else y)
      have up2 : ∀ s ∈ ss, s.1 ∈ q ++ [z] → s.2.1 ≤ y ∨ s.2.1 = l2 := fun s hs hm => by
        rcases List.mem_append.mp hm with h | h
        · exact .inl (h2 s hs h)
        · have := List.mem_singleton.mp h
          have e5 := lowO_of nd hs
          rw [this, e2] at e5
          exact .inr (Option.some.inj e5).symm
      by_cases c : l2 > y
      · rw [if_pos c]
        refine ⟨by omega, fun s hs hm => by rcases up2 s hs hm with h | h <;> omega, .inr ⟨s0, hs0, List.mem_append.mpr (.inr (by rw [e3]; exact List.mem_singleton.mpr rfl)), e4.symm⟩⟩
      · rw [if_neg c]
        refine ⟨h1, fun s hs hm => by rcases up2 s hs hm with h | h <;> omega, h3.imp id fun ⟨s, a, b, c⟩ => ⟨s, a, List.mem_append.mpr (.inl b), c⟩⟩
theorem run_all {ss : List TW} (nd : (nms ss).Nodup) (p : List Str) : RunI ss p (runY ss p).2 := by
  have := run_inv nd p [] ⟨Int.le_refl _, fun s _ h => (nomatch h), .inl rfl⟩
  exact this
def lowsP (ss : List TW) (p : List Str) : List Int := (ss.filter fun s => decide (s.1 ∈ p)).map (·.2.1)
theorem mem_lowsP {ss : List TW} {p : List Str} {m : Int} : m ∈ lowsP ss p ↔ ∃ s ∈ ss, s.1 ∈ p ∧ s.2.1 = m := by
  unfold lowsP
  rw [List.mem_map]
  constructor
  · rintro ⟨s, hs, e⟩
    rw [List.mem_filter, decide_eq_true_iff] at hs
    exact ⟨s, hs.1, hs.2, e⟩
  · rintro ⟨s, hs, h, e⟩
    exact ⟨s, List.mem_filter.mpr ⟨hs, decide_eq_true h⟩, e⟩
/-- the lows that count -/
def C2 (ss : List TW) (p : List Str) (ls : List Int) : Prop := (lowsP ss p ≠ [] ∧ ls = lowsP ss p) ∨ (lowsP ss p = [] ∧ ls = [startY ss])
theorem C2.ne {ss : List TW} {p : List Str} {ls : List Int} (h : C2 ss p ls) : ls ≠ [] := by
  rcases h with ⟨h, e⟩ | ⟨_, e⟩
  · rw [e]; exact h
  · rw [e]; exact List.cons_ne_nil _ _
theorem C2.max {ss : List TW} {p : List Str} {ls : List Int} (nd : (nms ss).Nodup) (h : C2 ss p ls) {m : Int} (hm : m ∈ ls) (hmax : ∀ y ∈ ls, y ≤ m) : m = (runY ss p).2 := by
  obtain ⟨h1, h2, h3⟩ := run_all nd p
  rcases h with ⟨hne, e⟩ | ⟨hno, e⟩
  · rw [e] at hm hmax
    obtain ⟨s, hs, hp, es⟩ := mem_lowsP.mp hm
    have a := h2 s hs hp
    have b := startY_le hs
    rcases h3 with h | ⟨s2, hs2, hp2, e2⟩
    · have := hmax _ hm; omega
    · have := hmax _ (mem_lowsP.mpr ⟨s2, hs2, hp2, rfl⟩); omega
  · rw [e] at hm
    rw [List.mem_singleton.mp hm]
    rcases h3 with h | ⟨s2, hs2, hp2, _⟩
    · exact h.symm
    · have := mem_lowsP.mpr ⟨s2, hs2, hp2, rfl⟩
      rw [hno] at this; cases this
section
variable {P : Program} {w : World} {K : PySem.W.Frag} {mg : Str → Option Value} {base : Heap} {A : Ad}
def spDueY (so : Hp → Addr → List V → Prop) (K : PySem.W.Frag) : Sp := fun vs H Q _ => ∃ o t ns ts ss cs, vs = [.ref o, .ref t] ∧ so H o (sv ns) ∧ SqL K H t (ts.map V.ref) ∧ Tl (SqT K) H ts ss ∧ ns.length ≤ 12 ∧ ss.length ≤ 12 ∧ WOk cs ss ∧ ∀ D H', Same H H' → H D = none → H' D = some (.lst (ivs (datesM ss ns))) → Q (.ref D) H'
theorem ok_dueY (T : Txt P K mg A) : FnOk P w K mg base CX0 1 A.a_law_due_years A.d_law_due_years ["order", "windows"] (spDueY (SqL K) K) := by
  refine T.F_law_due_years.ok sc_law_due_years (fun vs H Q E h => ?_) (fun cdv A' outer s H vs Q E hr h => ?_)
  · obtain ⟨o, t, ns, ts, ss, cs, rfl, _⟩ := h
    rfl
  · obtain ⟨o, t, ns, ts, ss, cs, rfl, hO, hTd, hTs, hnl, hsl, wok, k⟩ := h
    refine ⟨_, (pss_cons (ps_set (i := 2) sc_law_due_years.nd rfl (Or.inl rfl) (pe_lst pa_nil))
      (pss_cons (ps_for PassesOwn.never rfl (pi_range1 (by rfl) T.n_range (pa_cons (pe_callB call_len_seq (by rfl) T.n_len (by decide +kernel) (pa_cons (pv 0) pa_nil)) pa_nil)) (pg_name (i := 3) sc_law_due_years.nd rfl (Or.inr rfl))
        (pss_cons (ps_setLc (i := 4) (own := [("window", 5)]) (g := gName 5) (tt := _) rfl sc_law_due_years.nd rfl rfl (sw_true rfl rfl rfl (by decide +kernel)) (pi_list (pv 1)) (blkOk_by (N := ["order", "windows", "years", "k", "lows", "window"]) (sc := defScope s_law_due_years) (by decide +kernel)) (fun _ _ _ _ _ => (pg_name (i := 5) sc_law_due_years.nd rfl (Or.inl rfl))) (fun _ _ _ _ _ => (pts_one (pt_cmpR (show OpR _ _ (rIn K false) from op_in_seq) (pe_ix (show IxR _ (rIxT K) from ix_tup) (pv 5) pe_int (fun _ _ => rfl)) (pe_slice (show SlR _ (rSlL K) from sl_list) (pv 0) po_none (po_some (pe_op op_add (pv 3) pe_int))) (by with_unfolding_all rfl)))) (fun _ _ _ _ _ => (pe_ix (show IxR _ (rIxT K) from ix_tup) (pv 5) pe_int (fun _ _ => rfl))))
      (pss_cut (ps_if (PW.pt (pw_and (pt_cmpR op_eq (pe_callB call_len_seq (by rfl) T.n_len (by decide +kernel) (pa_cons (pv 4) pa_nil)) pe_int (nomark _)) (pw_and1 (pt_cmpR op_gt (pe_callB call_len_seq (by rfl) T.n_len (by decide +kernel) (pa_cons (pv 1) pa_nil)) pe_int (nomark _))))) (pss_one (ps_set (i := 4) sc_law_due_years.nd rfl (Or.inl rfl) (pe_lst (pa_cons (pe_callB (cr_min rfl) (by rfl) T.n_min (by decide +kernel) (pa_cons (pe_lc (own := [("window", 5)]) (g := gName 5) (tt := tYes) rfl sc_law_due_years.nd (pi_list (pv 1)) (blkOk_by (N := ["order", "windows", "years", "k", "lows", "window"]) (sc := defScope s_law_due_years) (by decide +kernel)) (fun _ _ _ _ _ => (pg_name (i := 5) sc_law_due_years.nd rfl (Or.inl rfl))) (fun _ _ _ _ _ => pts_nil) (fun _ _ _ _ _ => (pe_ix (show IxR _ (rIxT K) from ix_tup) (pv 5) pe_int (fun _ _ => rfl)))) pa_nil)) pa_nil)))) pss_nil)
      (pss_cut (ps_if (pt_cmpR op_eq (pe_callB call_len_seq (by rfl) T.n_len (by decide +kernel) (pa_cons (pv 4) pa_nil)) pe_int (nomark _)) (pss_one (ps_set (i := 4) sc_law_due_years.nd rfl (Or.inl rfl) (pe_lst (pa_cons pe_int pa_nil)))) pss_nil)
      (pss_one (ps_expr (pe_bm PySem.F.plainAttrs_list PySem.F.slot_list_append PySem.F.type_list_append mt_append (pv 2) (pa_cons (pe_callB (cr_max rfl) (by rfl) T.n_max (by decide +kernel) (pa_cons (pv 4) pa_nil)) pa_nil))))))))
      (pss_one (ps_ret (pv 2))))), ?_⟩
    have en : (((sv ns).length : Nat) : Int).toNat = ns.length := by rw [len_sv, Int.toNat_natCast]
    have lt : (ts.map V.ref).length = ss.length := by rw [List.length_map, hTs.len]
    refine ⟨by show 0 ≤ sizeLine; decide, fun YD nY => ?_⟩
    generalize hG : upd H YD _ = H0
    have q0 : Same H H0 := hG ▸ same_new nY
    have x0 := (congrFun hG YD).symm.trans upd_same
    clear hG
    refine ⟨_, rfl, o, _, rfl, .inl (Same.seq q0 hO), _, rfl, by rw [len_sv]; omega, by rw [len_sv]; omega, for_range (n := (((sv ns).length : Nat) : Int).toNat) (fun i σ H4 => Same H H4 ∧ ∃ (u3 u4 : Option V), σ = [some (.ref o), some (.ref t), some (.ref YD), u3, u4, none] ∧ H4 YD = some (.lst (ivs (runY ss (ns.take i)).1))) ⟨q0, none, none, rfl, x0⟩ ?_ ?_⟩
    · rintro i σ H4 hi ⟨s4, u3, u4, rfl, hY4⟩
      rw [en] at hi
      have ei : (0 : Int) + (i : Int) + 1 = ((i + 1 : Nat) : Int) := by omega
      have hz : ns[i]? = some ns[i] := List.getElem?_eq_getElem hi
      have hO4 := Same.seq s4 hO
      refine ⟨_, rfl, t, rfl, ⟨_, s4.seq hTd⟩, fun LD nL => lc_it walk_list (PvS H4 LD fun j => ivs (lowsP (ss.take j) (ns.take (i + 1)))) (pv0 nL rfl) (fun j H5 _ q => (s4.trans q.1).seq hTd) ?_ ?_⟩
      · rintro j x H50 H5 hj q ⟨rfl, hx⟩
        obtain ⟨b, hb, rfl⟩ := refs_get hx
        obtain ⟨⟨zn, zl, zh⟩, hzz, ho⟩ := hTs.get hb
        have ho5 := (s4.trans q.1).tup ho
        have t0 : atI (w3 (zn, zl, zh)) 0 = some (.str zn) := atI_nat (j := 0) rfl
        have t1 : atI (w3 (zn, zl, zh)) 1 = some (.int zl) := atI_nat (j := 1) rfl
        refine ⟨rfl, _, rfl, b, _, _, _, rfl, rfl, ho5, t0, _, rfl, _, rfl, _, _, rfl, rfl, _, rfl, slO (Same.seq q.1 hO4) fun a G1 g1 _ ha => ?_⟩
        rw [ei, cut_takeG, sv_take] at ha
        refine ⟨a, _, rfl, .inl (SqL.of ha), rfl, flat_sv _, _, rfl, ?_⟩
        rw [if_neg Bool.false_ne_true, inV_str]
        have q2 := q.more g1
        by_cases hm : zn ∈ ns.take (i + 1)
        · refine ifT (decide_eq_true hm) ⟨_, rfl, b, _, _, _, rfl, rfl, g1.tup ho5, t1, q2.push nL ?_ ?_⟩
          · unfold lowsP
            rw [take_succ hzz, List.filter_append, List.filter_cons_of_pos (by exact decide_eq_true hm), List.filter_nil, List.map_append]
            exact List.map_append
          · unfold lowsP
            rw [ivs_len, List.length_map]
            refine Nat.le_trans (List.length_filter_le _ _) ?_
            rw [List.length_take]; omega
        · refine ifF (decide_eq_false hm) (q2.skip ?_)
          unfold lowsP
          rw [take_succ hzz, List.filter_append, List.filter_cons_of_neg (by rw [decide_eq_false hm]; exact Bool.false_ne_true), List.filter_nil, List.append_nil]
      rintro H5 ⟨s5, h5⟩
      rw [lt] at h5
      have h5 : H5 LD = some (.lst (ivs (lowsP (ss.take ss.length) (ns.take (i + 1))))) := h5
      rw [List.take_length] at h5
      have s45 := s4.trans s5
      have hY5 := s5 _ _ hY4
      clear nL
      refine ⟨fun σ G => Same H G ∧ G YD = some (.lst (ivs (runY ss (ns.take i)).1)) ∧ ∃ (LD : Addr) (ls : List Int), σ = [some (.ref o), some (.ref t), some (.ref YD), some (.int (0 + (i : Int))), some (.ref LD), none] ∧ G LD = some (.lst (ivs ls)) ∧ (C2 ss (ns.take (i + 1)) ls ∨ (ss = [] ∧ ls = [])), ?_, ?_⟩
      · refine ⟨_, rfl, LD, _, rfl, .inl (SqL.of h5), rfl, _, rfl, ?_⟩
        rw [ivs_len]
        by_cases h0 : lowsP ss (ns.take (i + 1)) = []
        · refine ifT (iEq (by rw [h0]; rfl)) ⟨_, rfl, t, _, rfl, .inl (s45.seq hTd), _, _, rfl, rfl, _, rfl, ?_⟩
          by_cases hs0 : ss = []
          · exact ifF (decide_eq_false (by rw [lt, hs0]; decide)) ⟨s45, hY5, LD, _, rfl, h5, .inr ⟨hs0, h0⟩⟩
          · have hpos : 0 < ss.length := List.length_pos_iff.mpr hs0
            refine ifT (decide_eq_true (by rw [lt]; omega)) ?_
            refine ⟨_, rfl, t, rfl, ⟨_, s45.seq hTd⟩, fun MD nM => lc_it walk_list (PvS H5 MD fun j => ivs ((ss.take j).map (·.2.1))) (pv0 nM rfl) (fun j H6 _ q => (s45.trans q.1).seq hTd) ?_ ?_⟩
            · rintro j x H60 H6 hj q ⟨rfl, hx⟩
              obtain ⟨b, hb, rfl⟩ := refs_get hx
              obtain ⟨⟨zn, zl, zh⟩, hzz, ho⟩ := hTs.get hb
              have t1 : atI (w3 (zn, zl, zh)) 1 = some (.int zl) := atI_nat (j := 1) rfl
              refine ⟨rfl, _, rfl, b, _, _, _, rfl, rfl, (s45.trans q.1).tup ho, t1, q.push nM ?_ (by rw [ivs_len, List.length_map, List.length_take]; omega)⟩
              rw [take_succ hzz, List.map_append]
              exact List.map_append
            rintro H6 ⟨s6, h6⟩
            rw [lt] at h6
            have h6 : H6 MD = some (.lst (ivs ((ss.take ss.length).map (·.2.1)))) := h6
            rw [List.take_length] at h6
            refine ⟨MD, _, rfl, SqL.of h6, by rw [List.length_map]; exact hpos, fun m hm hmin => ?_⟩
            have em := startY_of (.inr ⟨hm, hmin⟩)
            refine ⟨by show 1 ≤ sizeLine; decide, fun LD2 nL2 => ?_⟩
            generalize hG : upd H6 LD2 _ = H7
            have q7 : Same H6 H7 := hG ▸ same_new nL2
            have x7 := (congrFun hG LD2).symm.trans upd_same
            clear hG
            exact ⟨s45.trans (s6.trans q7), (s6.trans q7) _ _ hY5, LD2, [m], rfl, x7, .inl (.inr ⟨h0, by rw [em]⟩)⟩
        · refine ifF (iNe (by intro e; exact h0 (List.length_eq_zero_iff.mp (by omega)))) (ifF rfl ⟨s45, hY5, LD, _, rfl, h5, .inl (.inl ⟨h0, rfl⟩)⟩)
      rintro σ G ⟨sG, hYG, LD2, ls, rfl, hLs, hC⟩
      refine ⟨fun σ G => Same H G ∧ G YD = some (.lst (ivs (runY ss (ns.take i)).1)) ∧ ∃ (LD : Addr) (ls : List Int), σ = [some (.ref o), some (.ref t), some (.ref YD), some (.int (0 + (i : Int))), some (.ref LD), none] ∧ G LD = some (.lst (ivs ls)) ∧ C2 ss (ns.take (i + 1)) ls, ?_, ?_⟩
      · refine ⟨_, rfl, LD2, _, rfl, .inl (SqL.of hLs), rfl, _, rfl, ?_⟩
        rw [ivs_len]
        by_cases h0 : ls = []
        · refine ifT (iEq (by rw [h0]; rfl)) ?_
          have hs0 : ss = [] := by
            rcases hC with h | h
            · exact absurd h0 h.ne
            · exact h.1
          refine ⟨by show 1 ≤ sizeLine; decide, fun LD3 nL3 => ?_⟩
          generalize hG : upd G LD3 _ = G2
          have q2 : Same G G2 := hG ▸ same_new nL3
          have x2 := (congrFun hG LD3).symm.trans upd_same
          clear hG
          refine ⟨sG.trans q2, q2 _ _ hYG, LD3, [0], rfl, x2, .inr ⟨?_, ?_⟩⟩
          · rw [hs0]; rfl
          · rw [hs0]; rfl
        · refine ifF (iNe (by intro e; exact h0 (List.length_eq_zero_iff.mp (by omega)))) ⟨sG, hYG, LD2, ls, rfl, hLs, ?_⟩
          rcases hC with h | h
          · exact h
          · exact absurd h.2 h0
      clear hC hLs sG hYG
      rintro σ G ⟨sG, hYG, LD3, ls, rfl, hLs, hC⟩
      refine ⟨_, rfl, .inl ⟨rfl, _, SqL.of hYG⟩, _, rfl, LD3, ls, rfl, SqL.of hLs, List.length_pos_iff.mpr hC.ne, fun m hm hmax => ?_⟩
      have em := hC.max wok.nd hm hmax
      refine ⟨YD, _, _, rfl, rfl, hYG, small_int (by rw [ivs_len, runY_len, List.length_take]; omega), ?_⟩
      have e2 : runY ss (ns.take (i + 1)) = stepY ss (runY ss (ns.take i)) ns[i] := by rw [take_succ hz, runY_snoc]
      refine ⟨fun x u e => by rw [upd_ne (ne_of_none e nY)]; exact sG _ _ e, _, _, rfl, ?_⟩
      have e3 : (runY ss (ns.take (i + 1))).1 = (runY ss (ns.take i)).1 ++ [(runY ss (ns.take (i + 1))).2] := by rw [e2]; rfl
      rw [upd_same, e3, em]
      show some (HO.lst (ivs (runY ss (ns.take i)).1 ++ [V.int _])) = some (HO.lst (((runY ss (ns.take i)).1 ++ [_]).map V.int))
      rw [List.map_append]; rfl
    · rintro σ H4 ⟨s4, u3, u4, rfl, hY4⟩
      rw [en, List.take_length] at hY4
      exact ⟨_, rfl, k YD H4 s4 nY hY4⟩
theorem ok_dueYT (T : Txt P K mg A) : FnOk P w K mg base CX0 1 A.a_law_due_years A.d_law_due_years ["order", "windows"] (spDueY DT K) := by
  refine T.F_law_due_years.ok sc_law_due_years (fun vs H Q E h => ?_) (fun cdv A' outer s H vs Q E hr h => ?_)
  · obtain ⟨o, t, ns, ts, ss, cs, rfl, _⟩ := h
    rfl
  · obtain ⟨o, t, ns, ts, ss, cs, rfl, hO, hTd, hTs, hnl, hsl, wok, k⟩ := h
    refine ⟨_, (pss_cons (ps_set (i := 2) sc_law_due_years.nd rfl (Or.inl rfl) (pe_lst pa_nil))
      (pss_cons (ps_for PassesOwn.never rfl (pi_range1 (by rfl) T.n_range (pa_cons (pe_callB call_len_seq (by rfl) T.n_len (by decide +kernel) (pa_cons (pv 0) pa_nil)) pa_nil)) (pg_name (i := 3) sc_law_due_years.nd rfl (Or.inr rfl))
        (pss_cons (ps_setLc (i := 4) (own := [("window", 5)]) (g := gName 5) (tt := _) rfl sc_law_due_years.nd rfl rfl (sw_true rfl rfl rfl (by decide +kernel)) (pi_list (pv 1)) (blkOk_by (N := ["order", "windows", "years", "k", "lows", "window"]) (sc := defScope s_law_due_years) (by decide +kernel)) (fun _ _ _ _ _ => (pg_name (i := 5) sc_law_due_years.nd rfl (Or.inl rfl))) (fun _ _ _ _ _ => (pts_one (pt_cmpR (show OpR _ _ (rIn K false) from op_in_seq) (pe_ix (show IxR _ (rIxT K) from ix_tup) (pv 5) pe_int (fun _ _ => rfl)) (pe_slice (show SlR _ (rSlA K) from sl_tupA) (pv 0) po_none (po_some (pe_op op_add (pv 3) pe_int))) (by with_unfolding_all rfl)))) (fun _ _ _ _ _ => (pe_ix (show IxR _ (rIxT K) from ix_tup) (pv 5) pe_int (fun _ _ => rfl))))
      (pss_cut (ps_if (PW.pt (pw_and (pt_cmpR op_eq (pe_callB call_len_seq (by rfl) T.n_len (by decide +kernel) (pa_cons (pv 4) pa_nil)) pe_int (nomark _)) (pw_and1 (pt_cmpR op_gt (pe_callB call_len_seq (by rfl) T.n_len (by decide +kernel) (pa_cons (pv 1) pa_nil)) pe_int (nomark _))))) (pss_one (ps_set (i := 4) sc_law_due_years.nd rfl (Or.inl rfl) (pe_lst (pa_cons (pe_callB (cr_min rfl) (by rfl) T.n_min (by decide +kernel) (pa_cons (pe_lc (own := [("window", 5)]) (g := gName 5) (tt := tYes) rfl sc_law_due_years.nd (pi_list (pv 1)) (blkOk_by (N := ["order", "windows", "years", "k", "lows", "window"]) (sc := defScope s_law_due_years) (by decide +kernel)) (fun _ _ _ _ _ => (pg_name (i := 5) sc_law_due_years.nd rfl (Or.inl rfl))) (fun _ _ _ _ _ => pts_nil) (fun _ _ _ _ _ => (pe_ix (show IxR _ (rIxT K) from ix_tup) (pv 5) pe_int (fun _ _ => rfl)))) pa_nil)) pa_nil)))) pss_nil)
      (pss_cut (ps_if (pt_cmpR op_eq (pe_callB call_len_seq (by rfl) T.n_len (by decide +kernel) (pa_cons (pv 4) pa_nil)) pe_int (nomark _)) (pss_one (ps_set (i := 4) sc_law_due_years.nd rfl (Or.inl rfl) (pe_lst (pa_cons pe_int pa_nil)))) pss_nil)
      (pss_one (ps_expr (pe_bm PySem.F.plainAttrs_list PySem.F.slot_list_append PySem.F.type_list_append mt_append (pv 2) (pa_cons (pe_callB (cr_max rfl) (by rfl) T.n_max (by decide +kernel) (pa_cons (pv 4) pa_nil)) pa_nil))))))))
      (pss_one (ps_ret (pv 2))))), ?_⟩
    have en : (((sv ns).length : Nat) : Int).toNat = ns.length := by rw [len_sv, Int.toNat_natCast]
    have lt : (ts.map V.ref).length = ss.length := by rw [List.length_map, hTs.len]
    refine ⟨by show 0 ≤ sizeLine; decide, fun YD nY => ?_⟩
    generalize hG : upd H YD _ = H0
    have q0 : Same H H0 := hG ▸ same_new nY
    have x0 := (congrFun hG YD).symm.trans upd_same
    clear hG
    refine ⟨_, rfl, o, _, rfl, .inr ((fun s h => DT.same h s) q0 hO).sq, _, rfl, by rw [len_sv]; omega, by rw [len_sv]; omega, for_range (n := (((sv ns).length : Nat) : Int).toNat) (fun i σ H4 => Same H H4 ∧ ∃ (u3 u4 : Option V), σ = [some (.ref o), some (.ref t), some (.ref YD), u3, u4, none] ∧ H4 YD = some (.lst (ivs (runY ss (ns.take i)).1))) ⟨q0, none, none, rfl, x0⟩ ?_ ?_⟩
    · rintro i σ H4 hi ⟨s4, u3, u4, rfl, hY4⟩
      rw [en] at hi
      have ei : (0 : Int) + (i : Int) + 1 = ((i + 1 : Nat) : Int) := by omega
      have hz : ns[i]? = some ns[i] := List.getElem?_eq_getElem hi
      have hO4 := (fun s h => DT.same h s) s4 hO
      refine ⟨_, rfl, t, rfl, ⟨_, s4.seq hTd⟩, fun LD nL => lc_it walk_list (PvS H4 LD fun j => ivs (lowsP (ss.take j) (ns.take (i + 1)))) (pv0 nL rfl) (fun j H5 _ q => (s4.trans q.1).seq hTd) ?_ ?_⟩
      · rintro j x H50 H5 hj q ⟨rfl, hx⟩
        obtain ⟨b, hb, rfl⟩ := refs_get hx
        obtain ⟨⟨zn, zl, zh⟩, hzz, ho⟩ := hTs.get hb
        have ho5 := (s4.trans q.1).tup ho
        have t0 : atI (w3 (zn, zl, zh)) 0 = some (.str zn) := atI_nat (j := 0) rfl
        have t1 : atI (w3 (zn, zl, zh)) 1 = some (.int zl) := atI_nat (j := 1) rfl
        refine ⟨rfl, _, rfl, b, _, _, _, rfl, rfl, ho5, t0, _, rfl, _, rfl, _, _, rfl, rfl, _, rfl, slOT ((fun s h => DT.same h s) q.1 hO4).sq fun a G1 g1  ha => ?_⟩
        rw [ei, cut_takeG, sv_take] at ha
        refine ⟨a, _, rfl, .inr ha, rfl, flat_sv _, _, rfl, ?_⟩
        rw [if_neg Bool.false_ne_true, inV_str]
        have q2 := q.more g1
        by_cases hm : zn ∈ ns.take (i + 1)
        · refine ifT (decide_eq_true hm) ⟨_, rfl, b, _, _, _, rfl, rfl, g1.tup ho5, t1, q2.push nL ?_ ?_⟩
          · unfold lowsP
            rw [take_succ hzz, List.filter_append, List.filter_cons_of_pos (by exact decide_eq_true hm), List.filter_nil, List.map_append]
            exact List.map_append
          · unfold lowsP
            rw [ivs_len, List.length_map]
            refine Nat.le_trans (List.length_filter_le _ _) ?_
            rw [List.length_take]; omega
        · refine ifF (decide_eq_false hm) (q2.skip ?_)
          unfold lowsP
          rw [take_succ hzz, List.filter_append, List.filter_cons_of_neg (by rw [decide_eq_false hm]; exact Bool.false_ne_true), List.filter_nil, List.append_nil]
      rintro H5 ⟨s5, h5⟩
      rw [lt] at h5
      have h5 : H5 LD = some (.lst (ivs (lowsP (ss.take ss.length) (ns.take (i + 1))))) := h5
      rw [List.take_length] at h5
      have s45 := s4.trans s5
      have hY5 := s5 _ _ hY4
      clear nL
      refine ⟨fun σ G => Same H G ∧ G YD = some (.lst (ivs (runY ss (ns.take i)).1)) ∧ ∃ (LD : Addr) (ls : List Int), σ = [some (.ref o), some (.ref t), some (.ref YD), some (.int (0 + (i : Int))), some (.ref LD), none] ∧ G LD = some (.lst (ivs ls)) ∧ (C2 ss (ns.take (i + 1)) ls ∨ (ss = [] ∧ ls = [])), ?_, ?_⟩
      · refine ⟨_, rfl, LD, _, rfl, .inl (SqL.of h5), rfl, _, rfl, ?_⟩
        rw [ivs_len]
        by_cases h0 : lowsP ss (ns.take (i + 1)) = []
        · refine ifT (iEq (by rw [h0]; rfl)) ⟨_, rfl, t, _, rfl, .inl (s45.seq hTd), _, _, rfl, rfl, _, rfl, ?_⟩
          by_cases hs0 : ss = []
          · exact ifF (decide_eq_false (by rw [lt, hs0]; decide)) ⟨s45, hY5, LD, _, rfl, h5, .inr ⟨hs0, h0⟩⟩
          · have hpos : 0 < ss.length := List.length_pos_iff.mpr hs0
            refine ifT (decide_eq_true (by rw [lt]; omega)) ?_
            refine ⟨_, rfl, t, rfl, ⟨_, s45.seq hTd⟩, fun MD nM => lc_it walk_list (PvS H5 MD fun j => ivs ((ss.take j).map (·.2.1))) (pv0 nM rfl) (fun j H6 _ q => (s45.trans q.1).seq hTd) ?_ ?_⟩
            · rintro j x H60 H6 hj q ⟨rfl, hx⟩
              obtain ⟨b, hb, rfl⟩ := refs_get hx
              obtain ⟨⟨zn, zl, zh⟩, hzz, ho⟩ := hTs.get hb
              have t1 : atI (w3 (zn, zl, zh)) 1 = some (.int zl) := atI_nat (j := 1) rfl
              refine ⟨rfl, _, rfl, b, _, _, _, rfl, rfl, (s45.trans q.1).tup ho, t1, q.push nM ?_ (by rw [ivs_len, List.length_map, List.length_take]; omega)⟩
              rw [take_succ hzz, List.map_append]
              exact List.map_append
            rintro H6 ⟨s6, h6⟩
            rw [lt] at h6
            have h6 : H6 MD = some (.lst (ivs ((ss.take ss.length).map (·.2.1)))) := h6
            rw [List.take_length] at h6
            refine ⟨MD, _, rfl, SqL.of h6, by rw [List.length_map]; exact hpos, fun m hm hmin => ?_⟩
            have em := startY_of (.inr ⟨hm, hmin⟩)
            refine ⟨by show 1 ≤ sizeLine; decide, fun LD2 nL2 => ?_⟩
            generalize hG : upd H6 LD2 _ = H7
            have q7 : Same H6 H7 := hG ▸ same_new nL2
            have x7 := (congrFun hG LD2).symm.trans upd_same
            clear hG
            exact ⟨s45.trans (s6.trans q7), (s6.trans q7) _ _ hY5, LD2, [m], rfl, x7, .inl (.inr ⟨h0, by rw [em]⟩)⟩
        · refine ifF (iNe (by intro e; exact h0 (List.length_eq_zero_iff.mp (by omega)))) (ifF rfl ⟨s45, hY5, LD, _, rfl, h5, .inl (.inl ⟨h0, rfl⟩)⟩)
      rintro σ G ⟨sG, hYG, LD2, ls, rfl, hLs, hC⟩
      refine ⟨fun σ G => Same H G ∧ G YD = some (.lst (ivs (runY ss (ns.take i)).1)) ∧ ∃ (LD : Addr) (ls : List Int), σ = [some (.ref o), some (.ref t), some (.ref YD), some (.int (0 + (i : Int))), some (.ref LD), none] ∧ G LD = some (.lst (ivs ls)) ∧ C2 ss (ns.take (i + 1)) ls, ?_, ?_⟩
      · refine ⟨_, rfl, LD2, _, rfl, .inl (SqL.of hLs), rfl, _, rfl, ?_⟩
        rw [ivs_len]
        by_cases h0 : ls = []
        · refine ifT (iEq (by rw [h0]; rfl)) ?_
          have hs0 : ss = [] := by
            rcases hC with h | h
            · exact absurd h0 h.ne
            · exact h.1
          refine ⟨by show 1 ≤ sizeLine; decide, fun LD3 nL3 => ?_⟩
          generalize hG : upd G LD3 _ = G2
          have q2 : Same G G2 := hG ▸ same_new nL3
          have x2 := (congrFun hG LD3).symm.trans upd_same
          clear hG
          refine ⟨sG.trans q2, q2 _ _ hYG, LD3, [0], rfl, x2, .inr ⟨?_, ?_⟩⟩
          · rw [hs0]; rfl
          · rw [hs0]; rfl
        · refine ifF (iNe (by intro e; exact h0 (List.length_eq_zero_iff.mp (by omega)))) ⟨sG, hYG, LD2, ls, rfl, hLs, ?_⟩
          rcases hC with h | h
          · exact h
          · exact absurd h.2 h0
      clear hC hLs sG hYG
      rintro σ G ⟨sG, hYG, LD3, ls, rfl, hLs, hC⟩
      refine ⟨_, rfl, .inl ⟨rfl, _, SqL.of hYG⟩, _, rfl, LD3, ls, rfl, SqL.of hLs, List.length_pos_iff.mpr hC.ne, fun m hm hmax => ?_⟩
      have em := hC.max wok.nd hm hmax
      refine ⟨YD, _, _, rfl, rfl, hYG, small_int (by rw [ivs_len, runY_len, List.length_take]; omega), ?_⟩
      have e2 : runY ss (ns.take (i + 1)) = stepY ss (runY ss (ns.take i)) ns[i] := by rw [take_succ hz, runY_snoc]
      refine ⟨fun x u e => by rw [upd_ne (ne_of_none e nY)]; exact sG _ _ e, _, _, rfl, ?_⟩
      have e3 : (runY ss (ns.take (i + 1))).1 = (runY ss (ns.take i)).1 ++ [(runY ss (ns.take (i + 1))).2] := by rw [e2]; rfl
      rw [upd_same, e3, em]
      show some (HO.lst (ivs (runY ss (ns.take i)).1 ++ [V.int _])) = some (HO.lst (((runY ss (ns.take i)).1 ++ [_]).map V.int))
      rw [List.map_append]; rfl
    · rintro σ H4 ⟨s4, u3, u4, rfl, hY4⟩
      rw [en, List.take_length] at hY4
      exact ⟨_, rfl, k YD H4 s4 nY hY4⟩
end
end My
set_option maxRecDepth 100000
set_option maxHeartbeats 8000000
set_option exponentiation.threshold 10000
namespace My
open PySem L2
open C8 (pss_cut)
theorem catO {H : Hp} {a b : Addr} {xs ys : List V} {Q : VK} (ha : H a = some (.lst xs)) (hb : H b = some (.lst ys)) (hl : xs.length + ys.length ≤ 1000000) (h : ∀ c H', Same H H' → H c = none → H' c = some (.lst (xs ++ ys)) → Q (.ref c) H') : rCat (.ref a) (.ref b) H Q :=
  ⟨a, b, xs, ys, rfl, rfl, ha, hb, Nat.le_trans hl (by decide), fun t ht => h t _ (same_new ht) ht upd_same⟩
/-- a list of at most n whole numbers -/
def GI (H : Hp) (a : Addr) (n : Nat) : Prop := ∃ ys : List Int, H a = some (.lst (ivs ys)) ∧ ys.length ≤ n
theorem GI.same {H H' : Hp} {a : Addr} {n : Nat} (h : GI H a n) (s : Same H H') : GI H' a n := let ⟨ys, e, l⟩ := h; ⟨ys, s _ _ e, l⟩
theorem GI.mono {H : Hp} {a : Addr} {n m : Nat} (h : GI H a n) (l : n ≤ m) : GI H a m := let ⟨ys, e, k⟩ := h; ⟨ys, e, Nat.le_trans k l⟩
theorem catI {H : Hp} {a b : Addr} {n m : Nat} {Q : VK} (ha : GI H a n) (hb : GI H b m) (hl : n + m ≤ 1000) (h : ∀ c H', Same H H' → H c = none → GI H' c (n + m) → Q (.ref c) H') : rCat (.ref a) (.ref b) H Q := by
  obtain ⟨xs, ea, la⟩ := ha
  obtain ⟨ys, eb, lb⟩ := hb
  refine catO ea eb (by rw [ivs_len, ivs_len]; omega) fun c H' s nc hc => h c H' s nc ⟨xs ++ ys, by rw [hc]; show some (HO.lst (xs.map V.int ++ ys.map V.int)) = some (HO.lst ((xs ++ ys).map V.int)); rw [List.map_append], by rw [List.length_append]; omega⟩
theorem slI {K : PySem.W.Frag} {H : Hp} {a : Addr} {n : Nat} {lo hi : Option Int} {Q : VK} (ha : GI H a n) (h : ∀ c H', Same H H' → GI H' c n → Q (.ref c) H') : rSlL K (.ref a) lo hi H Q := by
  obtain ⟨xs, ea, la⟩ := ha
  refine slO (SqL.of ea) fun c H' s _ hc => ?_
  refine h c H' s ⟨(xs.drop (HT.sIx (ivs xs).length 0 lo)).take (HT.sIx (ivs xs).length (ivs xs).length hi - HT.sIx (ivs xs).length 0 lo), ?_, ?_⟩
  · rw [hc]
    show some (HO.lst (cutV (ivs xs) lo hi)) = _
    unfold cutV
    show some (HO.lst (((xs.map V.int).drop _).take _)) = some (HO.lst (((xs.drop _).take _).map V.int))
    rw [List.map_take, List.map_drop]
  · rw [List.length_take, List.length_drop]; omega
theorem atI_any {xs : List V} {j : Int} (h0 : 0 ≤ j) (h1 : j < (xs.length : Int)) : ∃ v ∈ xs, atI xs j = some v := by
  obtain ⟨n, rfl⟩ := Int.eq_ofNat_of_zero_le h0
  have hn : n < xs.length := by omega
  exact ⟨xs[n], List.getElem_mem hn, atI_nat (List.getElem?_eq_getElem hn)⟩
theorem map_push {f : Int → Int} {xs : List Int} {i : Nat} {x : Int} (h : xs[i]? = some x) : ivs ((xs.take (i + 1)).map f) = ivs ((xs.take i).map f) ++ [V.int (f x)] := by
  rw [take_succ h, List.map_append]; exact List.map_append
theorem ivs_get {l : List Int} {i : Nat} {x : V} (h : (ivs l)[i]? = some x) : ∃ v, l[i]? = some v ∧ x = .int v := by
  rw [List.getElem?_map] at h
  cases e : l[i]? with
  | none => rw [e] at h; cases h
  | some v => rw [e] at h; exact ⟨v, rfl, (Option.some.inj h).symm⟩
section
variable {P : Program} {w : World} {K : PySem.W.Frag} {mg : Str → Option Value} {base : Heap} {A : Ad}
def spOY : Sp := fun vs H Q _ => ∃ y, ∃ d : Int, vs = [.ref y, .int d] ∧ GI H y 12 ∧ ∀ a H', Same H H' → H a = none → GI H' a 40 → Q (.ref a) H'
theorem ok_oy (T : Txt P K mg A) : FnOk P w K mg base CX0 1 A.a_law_other_years A.d_law_other_years ["years", "draw"] spOY := by
  refine T.F_law_other_years.ok sc_law_other_years (fun vs H Q E h => ?_) (fun cdv A' outer s H vs Q E hr h => ?_)
  · obtain ⟨y, d, rfl, _⟩ := h
    rfl
  · obtain ⟨y, d, rfl, gY, k⟩ := h
    refine ⟨_, (pss_cons (ps_set (i := 2) sc_law_other_years.nd rfl (Or.inl rfl) (pe_op op_mod (pe_callTy call_int1 (by rfl) T.n_int (by decide +kernel) (pa_cons (pv 1) pa_nil)) pe_int))
      (pss_cons (ps_set (i := 3) sc_law_other_years.nd rfl (Or.inl rfl) (pe_op op_mod (pe_callTy call_int1 (by rfl) T.n_int (by decide +kernel) (pa_cons (pe_op op_fdiv (pv 1) pe_int) pa_nil)) (pe_op op_add (pe_callB call_len_seq (by rfl) T.n_len (by decide +kernel) (pa_cons (pv 0) pa_nil)) pe_int)))
      (pss_cons (ps_set (i := 4) sc_law_other_years.nd rfl (Or.inr rfl) (pe_op op_mod (pe_callTy call_int1 (by rfl) T.n_int (by decide +kernel) (pa_cons (pe_op op_fdiv (pv 1) pe_int) pa_nil)) pe_int))
      (pss_cons (ps_if (pt_cmpR op_eq (pv 2) pe_int (nomark _)) (pss_one (ps_ret (pe_op op_cat (pe_slice sl_list (pv 0) po_none (po_some (pv 3))) (pe_slice sl_list (pv 0) (po_some (pe_op op_add (pv 3) pe_int)) po_none)))) pss_nil)
      (pss_cons (ps_if (pt_cmpR op_eq (pv 2) pe_int (nomark _)) (pss_one (ps_ret (pe_op op_cat (pe_op op_cat (pe_slice sl_list (pv 0) po_none (po_some (pv 3))) (pe_slice sl_list (pv 0) (po_some (pv 3)) (po_some (pe_op op_add (pv 3) pe_int)))) (pe_slice sl_list (pv 0) (po_some (pv 3)) po_none)))) pss_nil)
      (pss_cut (ps_if (PW.pt (pw_or (pt_cmpR op_eq (pv 2) pe_int (nomark _)) (pw_or1 (pt_cmpR op_eq (pv 2) pe_int (nomark _))))) (pss_one (ps_set (i := 4) sc_law_other_years.nd rfl (Or.inr rfl) (pe_un un_neg (pv 4)))) pss_nil)
      (pss_cons (ps_if (pt_cmpR op_lt (pv 2) pe_int (nomark _)) (pss_one (ps_ret (pe_lc (own := [("year", 5)]) (g := gName 5) (tt := tYes) rfl sc_law_other_years.nd (pi_list (pv 0)) (blkOk_by (N := ["years", "draw", "word", "at", "change", "year"]) (sc := defScope s_law_other_years) (by decide +kernel)) (fun _ _ _ _ _ => (pg_name (i := 5) sc_law_other_years.nd rfl (Or.inl rfl))) (fun _ _ _ _ _ => pts_nil) (fun _ _ _ _ _ => (pe_op op_add (pv 5) (pv 4)))))) pss_nil)
      (pss_one (ps_ret (pe_op op_cat (pe_op op_cat (pe_slice sl_list (pv 0) po_none (po_some (pv 3))) (pe_lc (own := [("year", 5)]) (g := gName 5) (tt := tYes) rfl sc_law_other_years.nd (pi_list (pe_slice sl_list (pv 0) (po_some (pv 3)) (po_some (pe_op op_add (pv 3) pe_int)))) (blkOk_by (N := ["years", "draw", "word", "at", "change", "year"]) (sc := defScope s_law_other_years) (by decide +kernel)) (fun _ _ _ _ _ => (pg_name (i := 5) sc_law_other_years.nd rfl (Or.inl rfl))) (fun _ _ _ _ _ => pts_nil) (fun _ _ _ _ _ => (pe_op op_add (pv 5) (pv 4))))) (pe_slice sl_list (pv 0) (po_some (pe_op op_add (pv 3) pe_int)) po_none))))))))))), ?_⟩
    obtain ⟨ys, hY, hyl⟩ := id gY
    refine ⟨_, rfl, .inl ⟨_, rfl, _, _, rfl, rfl, by show (0 : Int) < 6; decide, ?_⟩⟩
    refine ⟨_, rfl, _, _, rfl, rfl, ⟨by decide, by decide⟩, .inl ⟨_, rfl, _, rfl, y, _, rfl, .inl (SqL.of hY), _, _, rfl, rfl, _, _, rfl, rfl, by rw [ivs_len]; omega, ?_⟩⟩
    refine ⟨_, rfl, _, _, rfl, rfl, ⟨by decide, by decide⟩, .inl ⟨_, rfl, _, _, rfl, rfl, by show (0 : Int) < 9; decide, ?_⟩⟩
    refine ⟨_, rfl, rfl, _, rfl, ite2 (fun hb1 => ?_) (fun hb1 => ?_)⟩
    · refine ⟨_, rfl, _, rfl, _, rfl, slI gY fun a H4 s4 ga => ?_⟩
      refine ⟨_, rfl, _, rfl, _, _, rfl, rfl, _, rfl, ?_⟩
      dsimp only [tNoPart]
      refine slI (gY.same s4) fun b H5 s5 gb => catI (ga.same s5) gb (by decide) fun c H6 s6 nc gc => ?_
      exact k c _ (s4.trans (s5.trans s6)) (none_of (s4.trans s5) nc) (gc.mono (by decide))
    refine ⟨_, rfl, rfl, _, rfl, ite2 (fun hb2 => ?_) (fun hb2 => ?_)⟩
    · refine ⟨_, rfl, _, rfl, _, rfl, slI gY fun a H4 s4 ga => ?_⟩
      refine ⟨_, rfl, _, rfl, _, rfl, _, rfl, _, _, rfl, rfl, _, rfl, slI (gY.same s4) fun b H5 s5 gb => catI (ga.same s5) gb (by decide) fun c H6 s6 nc gc => ?_⟩
      refine ⟨_, rfl, _, rfl, _, rfl, ?_⟩
      dsimp only [tNoPart]
      refine slI (gY.same (s4.trans (s5.trans s6))) fun e H7 s7 ge => catI (gc.same s7) ge (by decide) fun f H8 s8 nf gf => ?_
      exact k f _ (s4.trans (s5.trans (s6.trans (s7.trans s8)))) (none_of (s4.trans (s5.trans (s6.trans s7))) nf) (gf.mono (by decide))
    refine ⟨fun σ G => H = G ∧ ∃ c : Int, σ = [some (.ref y), some (.int d), some (.int (d % 6)), some (.int (d / 6 % (((ivs ys).length : Int) + 1))), some (.int c), none], ?_, ?_⟩
    · refine ⟨_, rfl, rfl, _, rfl, ite2 (fun hb3 => ifT rfl ?_) (fun hb3 => ⟨_, rfl, rfl, _, rfl, ite2 (fun hb4 => ?_) (fun hb4 => ⟨rfl, _, rfl⟩)⟩)⟩
      · exact ⟨_, rfl, _, rfl, rfl, _, rfl⟩
      · exact ⟨_, rfl, _, rfl, rfl, _, rfl⟩
    rintro σ G ⟨rfl, ch, rfl⟩
    refine ⟨_, rfl, _, _, rfl, rfl, _, rfl, ite2 (fun hb5 => ?_) (fun hb5 => ?_)⟩
    · obtain ⟨zc, ez, lz⟩ := id gY
      refine ⟨_, rfl, y, rfl, ⟨_, SqL.of ez⟩, fun D hD => lc_it walk_list (PvS H D fun i => ivs ((zc.take i).map fun t => t + ch)) (pv0 hD rfl) (fun i H2 _ q => q.1.seq (SqL.of ez)) ?_ ?_⟩
      · rintro i x H20 H2 hi q ⟨rfl, hx⟩
        obtain ⟨x, hx2, rfl⟩ := ivs_get hx
        exact ⟨rfl, _, rfl, _, rfl, _, _, rfl, rfl, q.push hD (map_push (f := fun t => t + ch) hx2) (by rw [ivs_len, List.length_map, List.length_take]; omega)⟩
      rintro HD ⟨sD, hD5⟩
      have hD5 : HD D = some (.lst (ivs ((zc.take (ivs zc).length).map fun t => t + ch))) := hD5
      rw [ivs_len, List.take_length] at hD5
      have gD : GI HD D 12 := ⟨_, hD5, by rw [List.length_map]; exact lz⟩
      exact k D _ sD hD (gD.mono (by decide))
    refine ⟨_, rfl, _, rfl, _, rfl, slI gY fun b H4 s4 gb => ?_⟩
    refine ⟨_, rfl, _, rfl, _, rfl, _, rfl, _, _, rfl, rfl, _, rfl, slI (gY.same s4) fun a H5 s5 ga => ?_⟩
    obtain ⟨zc, ez, lz⟩ := id ga
    refine ⟨a, rfl, ⟨_, SqL.of ez⟩, fun D hD => lc_it walk_list (PvS H5 D fun i => ivs ((zc.take i).map fun t => t + ch)) (pv0 hD rfl) (fun i H2 _ q => q.1.seq (SqL.of ez)) ?_ ?_⟩
    · rintro i x H20 H2 hi q ⟨rfl, hx⟩
      obtain ⟨x, hx2, rfl⟩ := ivs_get hx
      exact ⟨rfl, _, rfl, _, rfl, _, _, rfl, rfl, q.push hD (map_push (f := fun t => t + ch) hx2) (by rw [ivs_len, List.length_map, List.length_take]; omega)⟩
    rintro HD ⟨sD, hD5⟩
    have hD5 : HD D = some (.lst (ivs ((zc.take (ivs zc).length).map fun t => t + ch))) := hD5
    rw [ivs_len, List.take_length] at hD5
    have gD : GI HD D 12 := ⟨_, hD5, by rw [List.length_map]; exact lz⟩
    refine catI (gb.same (s5.trans sD)) gD (by decide) fun c H6 s6 nc gc => ?_
    refine ⟨_, rfl, _, rfl, _, _, rfl, rfl, _, rfl, ?_⟩
    dsimp only [tNoPart]
    refine slI (gY.same (s4.trans (s5.trans (sD.trans s6)))) fun e H7 s7 ge => catI (gc.same s7) ge (by decide) fun f H8 s8 nf gf => ?_
    exact k f _ (s4.trans (s5.trans (sD.trans (s6.trans (s7.trans s8))))) (none_of (s4.trans (s5.trans (sD.trans (s6.trans s7)))) nf) (gf.mono (by decide))
def spRefW (K : PySem.W.Frag) (A : Ad) : Sp := fun vs H Q _ => ∃ tb l cs rs ts ss i, vs = [.ref tb, .ref l] ∧ TbD A.C_Table H tb cs rs ∧ SqL K H l (ts.map V.ref) ∧ Tl (SqA K) H ts ss ∧ ss.length ≤ 1000 ∧ winFault cs ss = some i ∧
  ∀ t H', Same H H' → H' t = some (.tup [.int (i : Nat), .bl true, .bl false]) → Q (.ref t) H'
theorem ok_refW (T : Txt P K mg A) : FnOk P w K mg base CX0 6 A.a_law_refused_windows A.d_law_refused_windows ["table", "windows"] (spRefW K A) := by
  have GX_Windows_init := ok_winX (P := P) (w := w) (base := base) T
  refine T.F_law_refused_windows.ok sc_law_refused_windows (fun vs H Q E h => ?_) (fun cdv A' outer s H vs Q E hr h => ?_)
  · obtain ⟨tb, l, cs, rs, ts, ss, i, rfl, _⟩ := h
    rfl
  · obtain ⟨tb, l, cs, rs, ts, ss, i, rfl, hT, hL, hs, hsl, hf, k⟩ := h
    refine ⟨_, (pss_cons (ps_set (i := 2) sc_law_refused_windows.nd rfl (Or.inl rfl) pe_non)
      (pss_cons (ps_try_as (i := 3) (Wout := fun _ _ _ _ => False) rfl rfl sc_law_refused_windows.nd rfl rfl ⟨rfl, by decide, .inl T.mg_BadWindow⟩ takes0 (fun W pn xe tk _ => (pss_one (ps_expr (pe_makeS T.mk_Windows GX_Windows_init (hr.mono (by decide)) rfl T.mg_Windows T.b_Windows_init (fun σ => passAt tk σ) (pa_cons (pv 0) (pa_cons (pv 1) pa_nil)))))) (fun a oe cls d pn hz hf => (pss_one (ps_set (i := 2) sc_law_refused_windows.nd rfl (Or.inl rfl) (pe_tup (pa_cons (pe_xf T.xf_BadWindow T.xn_BadWindow_index hz hf (pv 3)) (pa_cons (pe_and (pe_callB (call_isExD hz hf) (by rfl) T.n_isinstance (by decide +kernel) (pa_cons (pv 3) (pa_cons (pe_glob (v := .ref A.C_RowsError) rfl T.mg_RowsError rfl) pa_nil))) (pe_one (pe_callB (call_isExD hz hf) (by rfl) T.n_isinstance (by decide +kernel) (pa_cons (pv 3) (pa_cons (pe_bltn (v := .ty "ValueError") (by rfl) T.n_ValueError (by decide +kernel) rfl) pa_nil))))) (pa_cons (pe_callB (call_isExT hz hf) (by rfl) T.n_isinstance (by decide +kernel) (pa_cons (pv 3) (pa_cons (pe_tup (pa_cons (pe_glob (v := .ref A.C_Unknown) rfl T.mg_Unknown rfl) (pa_cons (pe_glob (v := .ref A.C_Impossible) rfl T.mg_Impossible rfl) pa_nil))) pa_nil))) pa_nil))))))))
      (pss_one (ps_ret (pv 2))))), ?_⟩
    refine ⟨_, rfl, _, rfl, fun x dx nx ndx nex => ?_⟩
    have s1 := (same_new (o := .own x) ndx).trans (same_new (o := .ins A.C_Windows dx []) (show upd H dx (.own x) x = none by rw [upd_ne nex.symm]; exact nx))
    have hx1 := upd_same (H := upd H dx (.own x)) (a := x) (o := .ins A.C_Windows dx [])
    generalize upd (upd H dx _) x _ = H1 at s1 hx1 ⊢
    refine ⟨x, tb, l, dx, cs, rs, ts, ss, rfl, hx1, hT.same s1, s1.seq hL, hs.imp (fun t s q => s1.sqa q), hsl, fun j hj d H6 s6 hd => ?_, fun hno => by rw [hf] at hno; cases hno⟩
    rw [hf] at hj; cases hj
    have s6 := s1.trans s6
    refine ⟨true, exm_self T.bp_BadWindow T.ic_BadWindow T.tp_BadWindow T.ss_BadWindow, fun _ e he => ?_, fun q => nomatch q⟩
    have k1 : PySem.W.kitOne K (.ref A.C_BadWindow) (.ref A.C_RowsError) = some true := kit_own T.ic_RowsError T.tp_RowsError T.su_BadWindow_RowsError (.inr rfl)
    have k2 : PySem.W.kitOne K (.ref A.C_BadWindow) (.type "ValueError") = some true := kit_ownT (by decide +kernel) T.sv_BadWindow
    have k3 : PySem.W.kitOne K (.ref A.C_BadWindow) (.ref A.C_Unknown) = some false := kit_F T.ic_Unknown T.tp_Unknown T.su_BadWindow_Unknown T.ss_BadWindow
    have k4 : PySem.W.kitOne K (.ref A.C_BadWindow) (.ref A.C_Impossible) = some false := kit_F T.ic_Impossible T.tp_Impossible T.su_BadWindow_Impossible T.ss_BadWindow
    refine ⟨_, rfl, rfl, rfl, d, _, _, rfl, hd, rfl, ?_⟩
    refine ⟨_, rfl, _, _, _, rfl, rfl, hd, T.ec_BadWindow, _, _, true, rfl, fun _ h => h, k1, true, rfl, iteT ?_⟩
    refine ⟨_, rfl, _, _, _, rfl, rfl, hd, T.ec_BadWindow, _, _, true, rfl, fun _ h => h, k2, ?_⟩
    refine ⟨_, rfl, by show 2 ≤ sizeLine; decide, fun tp htp => ?_⟩
    have q1 := same_new (o := .tup [V.ref A.C_Unknown, .ref A.C_Impossible]) htp
    refine ⟨_, _, _, rfl, rfl, q1 _ _ hd, T.ec_BadWindow, tp, _, _, false, rfl, upd_same, .cons (.own _) (.cons (.own _) .nil), kitAny_cons k3 (fun _ => kitAny_cons k4 (fun _ => kitAny_nil) fun h => nomatch h) (fun h => nomatch h), ?_⟩
    refine ⟨by show 3 ≤ sizeLine; decide, fun t ht => ?_⟩
    have s8 := (s6.trans q1).trans (same_new (o := .tup [V.int (i : Nat), .bl true, .bl false]) ht)
    exact ⟨_, rfl, k t _ s8 upd_same⟩
def spDated (so : Hp → Addr → List V → Prop) (K : PySem.W.Frag) (A : Ad) : Sp := fun vs H Q _ => ∃ p tb o cs rs ss ns, vs = [.ref p, .ref o] ∧ Wns A.C_Windows A.C_Table K H p tb cs rs ss ∧ so H o (sv ns) ∧ ns.length ≤ 1000 ∧ ColsOk cs ∧ (∀ s ∈ ss, s.1 ∈ cs) ∧ (nms ss).Nodup ∧
  (∀ i, fault cs ns = some i → ∀ t fl H', Same H H' → H' t = some (.tup [.str "order", .int (i : Nat), .non, .ref fl]) → H' fl = some (.lst [.bl true, .bl false, .bl false]) → Q (.ref t) H') ∧
  (∀ a b, fault cs ns = none → barP cs ss ns = some (a, b) → ∀ t fl H', Same H H' → H' t = some (.tup [.str "bar", .str b, .str a, .ref fl]) → H' fl = some (.lst [.bl true, .bl true, .bl false]) → Q (.ref t) H') ∧
  (fault cs ns = none → barP cs ss ns = none → ∀ t D fl H', Same H H' → H D = none → H' D = some (.lst (ivs (datesM ss ns))) → H' t = some (.tup [.str "years", .ref D, .non, .ref fl]) → Q (.ref t) H')
def spKeptL (so sy : Hp → Addr → List V → Prop) (K : PySem.W.Frag) (A : Ad) : Sp := fun vs H Q _ => ∃ p tb o y cs rs ss ns, ∃ ys : List Int, vs = [.ref p, .ref o, .ref y] ∧ Wns A.C_Windows A.C_Table K H p tb cs rs ss ∧ so H o (sv ns) ∧ sy H y (ivs ys) ∧ ns.length ≤ 1000 ∧ ys.length ≤ 1000 ∧ ss.length ≤ 1000 ∧ ColsOk cs ∧ (∀ s ∈ ss, s.1 ∈ cs) ∧
  (∀ i, fault cs ns = some i → ∀ t fl H', Same H H' → H' t = some (.tup [.str "order", .int (i : Nat), .ref fl]) → H' fl = some (.lst [.bl true, .bl false, .bl false]) → Q (.ref t) H') ∧
  (fault cs ns = none → ∀ t fl H', Same H H' → H' t = some (.tup [.str "kept", .bl (keepB ss ns ys), .ref fl]) → Q (.ref t) H')
theorem fldsS_dates (tb ut : Addr) : (fldsS tb ut).lookup ("dates" : Str) = none := by
  unfold fldsS; rw [lookup_putF, if_neg (by decide +kernel), lookup_putF, if_neg (by decide +kernel)]; rfl
theorem fldsS_keeps (tb ut : Addr) : (fldsS tb ut).lookup ("keeps" : Str) = none := by
  unfold fldsS; rw [lookup_putF, if_neg (by decide +kernel), lookup_putF, if_neg (by decide +kernel)]; rfl
theorem ok_dated (T : Txt P K mg A) : FnOk P w K mg base CX0 8 A.a_law_dated A.d_law_dated ["windows", "order"] (spDated (SqL K) K A) := by
  have GX_Windows_dates := ok_dates (P := P) (w := w) (base := base) T
  refine T.F_law_dated.ok sc_law_dated (fun vs H Q E h => ?_) (fun cdv A' outer s H vs Q E hr h => ?_)
  · obtain ⟨p, tb, o, cs, rs, ss, ns, rfl, _⟩ := h
    rfl
  · obtain ⟨p, tb, o, cs, rs, ss, ns, rfl, hW, hO, hl, ok, hin, nn, k1, k2, k3⟩ := h
    refine ⟨_, (pss_cons (ps_set (i := 2) sc_law_dated.nd rfl (Or.inl rfl) (pe_tup (pa_cons pe_str (pa_cons pe_non (pa_cons pe_non (pa_cons (pe_lst pa_nil) pa_nil))))))
      (pss_cons (ps_try_as_many (i := 3) (Wout := fun _ _ _ _ => False) rfl rfl sc_law_dated.nd rfl rfl takes0 (fun W pn xe tk _ => (pss_one (ps_set (i := 2) sc_law_dated.nd rfl (Or.inl rfl) (pe_tup (pa_cons pe_str (pa_cons (pe_methE (pv 0) T.cl_Windows T.m_Windows_dates GX_Windows_dates (hr.mono (by decide)) T.b_Windows_dates (fun σ => passAt tk σ) (pa_cons (pv 1) pa_nil)) (pa_cons pe_non (pa_cons (pe_lst pa_nil) pa_nil)))))))) (.cons ⟨rfl, by decide, .inl T.mg_NoDates⟩ (fun a oe cls d pn hz hf => (pss_one (ps_set (i := 2) sc_law_dated.nd rfl (Or.inl rfl) (pe_tup (pa_cons pe_str (pa_cons (pe_xf T.xf_NoDates T.xn_NoDates_one hz hf (pv 3)) (pa_cons (pe_xf T.xf_NoDates T.xn_NoDates_other hz hf (pv 3)) (pa_cons (pe_lst (pa_cons (pe_callB (call_isExD hz hf) (by rfl) T.n_isinstance (by decide +kernel) (pa_cons (pv 3) (pa_cons (pe_glob (v := .ref A.C_RowsError) rfl T.mg_RowsError rfl) pa_nil))) (pa_cons (pe_callB (call_isExD hz hf) (by rfl) T.n_isinstance (by decide +kernel) (pa_cons (pv 3) (pa_cons (pe_glob (v := .ref A.C_Impossible) rfl T.mg_Impossible rfl) pa_nil))) (pa_cons (pe_callB (call_isExD hz hf) (by rfl) T.n_isinstance (by decide +kernel) (pa_cons (pv 3) (pa_cons (pe_glob (v := .ref A.C_Unknown) rfl T.mg_Unknown rfl) pa_nil))) pa_nil)))) pa_nil)))))))) (.cons ⟨rfl, by decide, .inl T.mg_BadOrder⟩ (fun a oe cls d pn hz hf => (pss_one (ps_set (i := 2) sc_law_dated.nd rfl (Or.inl rfl) (pe_tup (pa_cons pe_str (pa_cons (pe_xf T.xf_BadOrder T.xn_BadOrder_index hz hf (pv 3)) (pa_cons pe_non (pa_cons (pe_lst (pa_cons (pe_callB (call_isExD hz hf) (by rfl) T.n_isinstance (by decide +kernel) (pa_cons (pv 3) (pa_cons (pe_glob (v := .ref A.C_RowsError) rfl T.mg_RowsError rfl) pa_nil))) (pa_cons (pe_callB (call_isExD hz hf) (by rfl) T.n_isinstance (by decide +kernel) (pa_cons (pv 3) (pa_cons (pe_glob (v := .ref A.C_Impossible) rfl T.mg_Impossible rfl) pa_nil))) (pa_cons (pe_callB (call_isExD hz hf) (by rfl) T.n_isinstance (by decide +kernel) (pa_cons (pv 3) (pa_cons (pe_glob (v := .ref A.C_Unknown) rfl T.mg_Unknown rfl) pa_nil))) pa_nil)))) pa_nil)))))))) .nil)))
      (pss_one (ps_ret (pv 2))))), ?_⟩
    refine ⟨by show 0 ≤ sizeLine; decide, fun l0 n0 => ?_⟩
    generalize hG : upd H l0 _ = H0
    have q0 : Same H H0 := hG ▸ same_new n0
    have x0 := (congrFun hG l0).symm.trans upd_same
    clear hG
    refine ⟨by show 4 ≤ sizeLine; decide, fun t0 m0 => ?_⟩
    generalize hG : upd H0 t0 _ = H1
    have q1 : Same H0 H1 := hG ▸ same_new m0
    have x1 := (congrFun hG t0).symm.trans upd_same
    clear hG
    have s0 := q0.trans q1
    clear q0 q1 x0 x1 n0 m0
    have j1BadOrder : PySem.W.kitOne K (.ref A.C_BadOrder) (.ref A.C_RowsError) = some true := kit_own T.ic_RowsError T.tp_RowsError T.su_BadOrder_RowsError (.inr rfl)
    have j2BadOrder : PySem.W.kitOne K (.ref A.C_BadOrder) (.ref A.C_Impossible) = some false := kit_F T.ic_Impossible T.tp_Impossible T.su_BadOrder_Impossible T.ss_BadOrder
    have j3BadOrder : PySem.W.kitOne K (.ref A.C_BadOrder) (.ref A.C_Unknown) = some false := kit_F T.ic_Unknown T.tp_Unknown T.su_BadOrder_Unknown T.ss_BadOrder
    have j1NoDates : PySem.W.kitOne K (.ref A.C_NoDates) (.ref A.C_RowsError) = some true := kit_own T.ic_RowsError T.tp_RowsError T.su_NoDates_RowsError (.inr rfl)
    have j2NoDates : PySem.W.kitOne K (.ref A.C_NoDates) (.ref A.C_Impossible) = some true := kit_own T.ic_Impossible T.tp_Impossible T.su_NoDates_Impossible (.inr rfl)
    have j3NoDates : PySem.W.kitOne K (.ref A.C_NoDates) (.ref A.C_Unknown) = some false := kit_F T.ic_Unknown T.tp_Unknown T.su_NoDates_Unknown T.ss_NoDates
    have hW1 := hW.same s0
    obtain ⟨dx, ut, us, h1, _⟩ := id hW1
    refine ⟨_, rfl, p, dx, _, rfl, h1, fldsS_dates _ _, _, rfl, p, tb, o, cs, rs, ss, ns, rfl, hW1, Same.seq s0 hO, hl, ok, hin, nn, fun i hf d H6 s6 hd => ?_, fun a b hf hb d H6 s6 hd => ?_, fun hf hb D H6 s6 nD hD => ?_⟩
    · refine ⟨false, exm_F T.bp_NoDates T.ic_NoDates T.tp_NoDates T.su_BadOrder_NoDates, fun q => absurd q Bool.false_ne_true, fun _ => ⟨true, exm_self T.bp_BadOrder T.ic_BadOrder T.tp_BadOrder T.ss_BadOrder, fun _ e he => ?_, fun q => nomatch q⟩⟩
      refine ⟨_, rfl, rfl, rfl, d, _, _, rfl, hd, rfl, _, rfl, _, _, _, rfl, rfl, hd, T.ec_BadOrder, _, _, true, rfl, fun _ h => h, j1BadOrder, _, rfl, _, _, _, rfl, rfl, hd, T.ec_BadOrder, _, _, false, rfl, fun _ h => h, j2BadOrder, _, rfl, _, _, _, rfl, rfl, hd, T.ec_BadOrder, _, _, false, rfl, fun _ h => h, j3BadOrder, by show 3 ≤ sizeLine; decide, fun kk n1 => ?_⟩
      generalize hG : upd H6 kk _ = H7
      have q7 : Same H6 H7 := hG ▸ same_new n1
      have x7 := (congrFun hG kk).symm.trans upd_same
      clear hG
      refine ⟨by show 4 ≤ sizeLine; decide, fun t n2 => ?_⟩
      generalize hG : upd H7 t _ = H8
      have q8 : Same H7 H8 := hG ▸ same_new n2
      have x8 := (congrFun hG t).symm.trans upd_same
      clear hG
      exact ⟨_, rfl, k1 i hf t kk H8 (s0.trans (s6.trans (q7.trans q8))) x8 (q8 _ _ x7)⟩
    · refine ⟨true, exm_self T.bp_NoDates T.ic_NoDates T.tp_NoDates T.ss_NoDates, fun _ e he => ?_, fun q => nomatch q⟩
      refine ⟨_, rfl, rfl, rfl, d, _, _, rfl, hd, rfl, _, rfl, rfl, rfl, d, _, _, rfl, hd, rfl, _, rfl, _, _, _, rfl, rfl, hd, T.ec_NoDates, _, _, true, rfl, fun _ h => h, j1NoDates, _, rfl, _, _, _, rfl, rfl, hd, T.ec_NoDates, _, _, true, rfl, fun _ h => h, j2NoDates, _, rfl, _, _, _, rfl, rfl, hd, T.ec_NoDates, _, _, false, rfl, fun _ h => h, j3NoDates, by show 3 ≤ sizeLine; decide, fun kk n1 => ?_⟩
      generalize hG : upd H6 kk _ = H7
      have q7 : Same H6 H7 := hG ▸ same_new n1
      have x7 := (congrFun hG kk).symm.trans upd_same
      clear hG
      refine ⟨by show 4 ≤ sizeLine; decide, fun t n2 => ?_⟩
      generalize hG : upd H7 t _ = H8
      have q8 : Same H7 H8 := hG ▸ same_new n2
      have x8 := (congrFun hG t).symm.trans upd_same
      clear hG
      exact ⟨_, rfl, k2 a b hf hb t kk H8 (s0.trans (s6.trans (q7.trans q8))) x8 (q8 _ _ x7)⟩
    · refine ⟨by show 0 ≤ sizeLine; decide, fun kk n1 => ?_⟩
      generalize hG : upd H6 kk _ = H7
      have q7 : Same H6 H7 := hG ▸ same_new n1
      have x7 := (congrFun hG kk).symm.trans upd_same
      clear hG
      refine ⟨by show 4 ≤ sizeLine; decide, fun t n2 => ?_⟩
      generalize hG : upd H7 t _ = H8
      have q8 : Same H7 H8 := hG ▸ same_new n2
      have x8 := (congrFun hG t).symm.trans upd_same
      clear hG
      exact ⟨_, rfl, k3 hf hb t D kk H8 (s0.trans (s6.trans (q7.trans q8))) (none_of s0 nD) ((q7.trans q8) _ _ hD) x8⟩
theorem ok_datedT (T : Txt P K mg A) : FnOk P w K mg base CX0 8 A.a_law_dated A.d_law_dated ["windows", "order"] (spDated DT K A) := by
  have GX_Windows_datesT := ok_datesT (P := P) (w := w) (base := base) T
  refine T.F_law_dated.ok sc_law_dated (fun vs H Q E h => ?_) (fun cdv A' outer s H vs Q E hr h => ?_)
  · obtain ⟨p, tb, o, cs, rs, ss, ns, rfl, _⟩ := h
    rfl
  · obtain ⟨p, tb, o, cs, rs, ss, ns, rfl, hW, hO, hl, ok, hin, nn, k1, k2, k3⟩ := h
    refine ⟨_, (pss_cons (ps_set (i := 2) sc_law_dated.nd rfl (Or.inl rfl) (pe_tup (pa_cons pe_str (pa_cons pe_non (pa_cons pe_non (pa_cons (pe_lst pa_nil) pa_nil))))))
      (pss_cons (ps_try_as_many (i := 3) (Wout := fun _ _ _ _ => False) rfl rfl sc_law_dated.nd rfl rfl takes0 (fun W pn xe tk _ => (pss_one (ps_set (i := 2) sc_law_dated.nd rfl (Or.inl rfl) (pe_tup (pa_cons pe_str (pa_cons (pe_methE (pv 0) T.cl_Windows T.m_Windows_dates GX_Windows_datesT (hr.mono (by decide)) T.b_Windows_dates (fun σ => passAt tk σ) (pa_cons (pv 1) pa_nil)) (pa_cons pe_non (pa_cons (pe_lst pa_nil) pa_nil)))))))) (.cons ⟨rfl, by decide, .inl T.mg_NoDates⟩ (fun a oe cls d pn hz hf => (pss_one (ps_set (i := 2) sc_law_dated.nd rfl (Or.inl rfl) (pe_tup (pa_cons pe_str (pa_cons (pe_xf T.xf_NoDates T.xn_NoDates_one hz hf (pv 3)) (pa_cons (pe_xf T.xf_NoDates T.xn_NoDates_other hz hf (pv 3)) (pa_cons (pe_lst (pa_cons (pe_callB (call_isExD hz hf) (by rfl) T.n_isinstance (by decide +kernel) (pa_cons (pv 3) (pa_cons (pe_glob (v := .ref A.C_RowsError) rfl T.mg_RowsError rfl) pa_nil))) (pa_cons (pe_callB (call_isExD hz hf) (by rfl) T.n_isinstance (by decide +kernel) (pa_cons (pv 3) (pa_cons (pe_glob (v := .ref A.C_Impossible) rfl T.mg_Impossible rfl) pa_nil))) (pa_cons (pe_callB (call_isExD hz hf) (by rfl) T.n_isinstance (by decide +kernel) (pa_cons (pv 3) (pa_cons (pe_glob (v := .ref A.C_Unknown) rfl T.mg_Unknown rfl) pa_nil))) pa_nil)))) pa_nil)))))))) (.cons ⟨rfl, by decide, .inl T.mg_BadOrder⟩ (fun a oe cls d pn hz hf => (pss_one (ps_set (i := 2) sc_law_dated.nd rfl (Or.inl rfl) (pe_tup (pa_cons pe_str (pa_cons (pe_xf T.xf_BadOrder T.xn_BadOrder_index hz hf (pv 3)) (pa_cons pe_non (pa_cons (pe_lst (pa_cons (pe_callB (call_isExD hz hf) (by rfl) T.n_isinstance (by decide +kernel) (pa_cons (pv 3) (pa_cons (pe_glob (v := .ref A.C_RowsError) rfl T.mg_RowsError rfl) pa_nil))) (pa_cons (pe_callB (call_isExD hz hf) (by rfl) T.n_isinstance (by decide +kernel) (pa_cons (pv 3) (pa_cons (pe_glob (v := .ref A.C_Impossible) rfl T.mg_Impossible rfl) pa_nil))) (pa_cons (pe_callB (call_isExD hz hf) (by rfl) T.n_isinstance (by decide +kernel) (pa_cons (pv 3) (pa_cons (pe_glob (v := .ref A.C_Unknown) rfl T.mg_Unknown rfl) pa_nil))) pa_nil)))) pa_nil)))))))) .nil)))
      (pss_one (ps_ret (pv 2))))), ?_⟩
    refine ⟨by show 0 ≤ sizeLine; decide, fun l0 n0 => ?_⟩
    generalize hG : upd H l0 _ = H0
    have q0 : Same H H0 := hG ▸ same_new n0
    have x0 := (congrFun hG l0).symm.trans upd_same
    clear hG
    refine ⟨by show 4 ≤ sizeLine; decide, fun t0 m0 => ?_⟩
    generalize hG : upd H0 t0 _ = H1
    have q1 : Same H0 H1 := hG ▸ same_new m0
    have x1 := (congrFun hG t0).symm.trans upd_same
    clear hG
    have s0 := q0.trans q1
    clear q0 q1 x0 x1 n0 m0
    have j1BadOrder : PySem.W.kitOne K (.ref A.C_BadOrder) (.ref A.C_RowsError) = some true := kit_own T.ic_RowsError T.tp_RowsError T.su_BadOrder_RowsError (.inr rfl)
    have j2BadOrder : PySem.W.kitOne K (.ref A.C_BadOrder) (.ref A.C_Impossible) = some false := kit_F T.ic_Impossible T.tp_Impossible T.su_BadOrder_Impossible T.ss_BadOrder
    have j3BadOrder : PySem.W.kitOne K (.ref A.C_BadOrder) (.ref A.C_Unknown) = some false := kit_F T.ic_Unknown T.tp_Unknown T.su_BadOrder_Unknown T.ss_BadOrder
    have j1NoDates : PySem.W.kitOne K (.ref A.C_NoDates) (.ref A.C_RowsError) = some true := kit_own T.ic_RowsError T.tp_RowsError T.su_NoDates_RowsError (.inr rfl)
    have j2NoDates : PySem.W.kitOne K (.ref A.C_NoDates) (.ref A.C_Impossible) = some true := kit_own T.ic_Impossible T.tp_Impossible T.su_NoDates_Impossible (.inr rfl)
    have j3NoDates : PySem.W.kitOne K (.ref A.C_NoDates) (.ref A.C_Unknown) = some false := kit_F T.ic_Unknown T.tp_Unknown T.su_NoDates_Unknown T.ss_NoDates
    have hW1 := hW.same s0
    obtain ⟨dx, ut, us, h1, _⟩ := id hW1
    refine ⟨_, rfl, p, dx, _, rfl, h1, fldsS_dates _ _, _, rfl, p, tb, o, cs, rs, ss, ns, rfl, hW1, (fun s h => DT.same h s) s0 hO, hl, ok, hin, nn, fun i hf d H6 s6 hd => ?_, fun a b hf hb d H6 s6 hd => ?_, fun hf hb D H6 s6 nD hD => ?_⟩
    · refine ⟨false, exm_F T.bp_NoDates T.ic_NoDates T.tp_NoDates T.su_BadOrder_NoDates, fun q => absurd q Bool.false_ne_true, fun _ => ⟨true, exm_self T.bp_BadOrder T.ic_BadOrder T.tp_BadOrder T.ss_BadOrder, fun _ e he => ?_, fun q => nomatch q⟩⟩
      refine ⟨_, rfl, rfl, rfl, d, _, _, rfl, hd, rfl, _, rfl, _, _, _, rfl, rfl, hd, T.ec_BadOrder, _, _, true, rfl, fun _ h => h, j1BadOrder, _, rfl, _, _, _, rfl, rfl, hd, T.ec_BadOrder, _, _, false, rfl, fun _ h => h, j2BadOrder, _, rfl, _, _, _, rfl, rfl, hd, T.ec_BadOrder, _, _, false, rfl, fun _ h => h, j3BadOrder, by show 3 ≤ sizeLine; decide, fun kk n1 => ?_⟩
      generalize hG : upd H6 kk _ = H7
      have q7 : Same H6 H7 := hG ▸ same_new n1
      have x7 := (congrFun hG kk).symm.trans upd_same
      clear hG
      refine ⟨by show 4 ≤ sizeLine; decide, fun t n2 => ?_⟩
      generalize hG : upd H7 t _ = H8
      have q8 : Same H7 H8 := hG ▸ same_new n2
      have x8 := (congrFun hG t).symm.trans upd_same
      clear hG
      exact ⟨_, rfl, k1 i hf t kk H8 (s0.trans (s6.trans (q7.trans q8))) x8 (q8 _ _ x7)⟩
    · refine ⟨true, exm_self T.bp_NoDates T.ic_NoDates T.tp_NoDates T.ss_NoDates, fun _ e he => ?_, fun q => nomatch q⟩
      refine ⟨_, rfl, rfl, rfl, d, _, _, rfl, hd, rfl, _, rfl, rfl, rfl, d, _, _, rfl, hd, rfl, _, rfl, _, _, _, rfl, rfl, hd, T.ec_NoDates, _, _, true, rfl, fun _ h => h, j1NoDates, _, rfl, _, _, _, rfl, rfl, hd, T.ec_NoDates, _, _, true, rfl, fun _ h => h, j2NoDates, _, rfl, _, _, _, rfl, rfl, hd, T.ec_NoDates, _, _, false, rfl, fun _ h => h, j3NoDates, by show 3 ≤ sizeLine; decide, fun kk n1 => ?_⟩
      generalize hG : upd H6 kk _ = H7
      have q7 : Same H6 H7 := hG ▸ same_new n1
      have x7 := (congrFun hG kk).symm.trans upd_same
      clear hG
      refine ⟨by show 4 ≤ sizeLine; decide, fun t n2 => ?_⟩
      generalize hG : upd H7 t _ = H8
      have q8 : Same H7 H8 := hG ▸ same_new n2
      have x8 := (congrFun hG t).symm.trans upd_same
      clear hG
      exact ⟨_, rfl, k2 a b hf hb t kk H8 (s0.trans (s6.trans (q7.trans q8))) x8 (q8 _ _ x7)⟩
    · refine ⟨by show 0 ≤ sizeLine; decide, fun kk n1 => ?_⟩
      generalize hG : upd H6 kk _ = H7
      have q7 : Same H6 H7 := hG ▸ same_new n1
      have x7 := (congrFun hG kk).symm.trans upd_same
      clear hG
      refine ⟨by show 4 ≤ sizeLine; decide, fun t n2 => ?_⟩
      generalize hG : upd H7 t _ = H8
      have q8 : Same H7 H8 := hG ▸ same_new n2
      have x8 := (congrFun hG t).symm.trans upd_same
      clear hG
      exact ⟨_, rfl, k3 hf hb t D kk H8 (s0.trans (s6.trans (q7.trans q8))) (none_of s0 nD) ((q7.trans q8) _ _ hD) x8⟩
theorem ok_kept (T : Txt P K mg A) : FnOk P w K mg base CX0 8 A.a_law_kept A.d_law_kept ["windows", "order", "years"] (spKeptL (SqL K) (SqL K) K A) := by
  have GX_Windows_keeps := ok_keeps (P := P) (w := w) (base := base) T
  refine T.F_law_kept.ok sc_law_kept (fun vs H Q E h => ?_) (fun cdv A' outer s H vs Q E hr h => ?_)
  · obtain ⟨p, tb, o, y, cs, rs, ss, ns, ys, rfl, _⟩ := h
    rfl
  · obtain ⟨p, tb, o, y, cs, rs, ss, ns, ys, rfl, hW, hO, hY, hl, hyl, hsl, ok, hin, k1, k2⟩ := h
    refine ⟨_, (pss_cons (ps_set (i := 3) sc_law_kept.nd rfl (Or.inl rfl) (pe_tup (pa_cons pe_str (pa_cons pe_non (pa_cons (pe_lst pa_nil) pa_nil)))))
      (pss_cons (ps_try_as (i := 4) (Wout := fun _ _ _ _ => False) rfl rfl sc_law_kept.nd rfl rfl ⟨rfl, by decide, .inl T.mg_BadOrder⟩ takes0 (fun W pn xe tk _ => (pss_one (ps_set (i := 3) sc_law_kept.nd rfl (Or.inl rfl) (pe_tup (pa_cons pe_str (pa_cons (pe_methE (pv 0) T.cl_Windows T.m_Windows_keeps GX_Windows_keeps (hr.mono (by decide)) T.b_Windows_keeps (fun σ => passAt tk σ) (pa_cons (pv 1) (pa_cons (pv 2) pa_nil))) (pa_cons (pe_lst pa_nil) pa_nil))))))) (fun a oe cls d pn hz hf => (pss_one (ps_set (i := 3) sc_law_kept.nd rfl (Or.inl rfl) (pe_tup (pa_cons pe_str (pa_cons (pe_xf T.xf_BadOrder T.xn_BadOrder_index hz hf (pv 4)) (pa_cons (pe_lst (pa_cons (pe_callB (call_isExD hz hf) (by rfl) T.n_isinstance (by decide +kernel) (pa_cons (pv 4) (pa_cons (pe_glob (v := .ref A.C_RowsError) rfl T.mg_RowsError rfl) pa_nil))) (pa_cons (pe_callB (call_isExD hz hf) (by rfl) T.n_isinstance (by decide +kernel) (pa_cons (pv 4) (pa_cons (pe_glob (v := .ref A.C_Impossible) rfl T.mg_Impossible rfl) pa_nil))) (pa_cons (pe_callB (call_isExD hz hf) (by rfl) T.n_isinstance (by decide +kernel) (pa_cons (pv 4) (pa_cons (pe_glob (v := .ref A.C_Unknown) rfl T.mg_Unknown rfl) pa_nil))) pa_nil)))) pa_nil))))))))
      (pss_one (ps_ret (pv 3))))), ?_⟩
    refine ⟨by show 0 ≤ sizeLine; decide, fun l0 n0 => ?_⟩
    generalize hG : upd H l0 _ = H0
    have q0 : Same H H0 := hG ▸ same_new n0
    have x0 := (congrFun hG l0).symm.trans upd_same
    clear hG
    refine ⟨by show 3 ≤ sizeLine; decide, fun t0 m0 => ?_⟩
    generalize hG : upd H0 t0 _ = H1
    have q1 : Same H0 H1 := hG ▸ same_new m0
    have x1 := (congrFun hG t0).symm.trans upd_same
    clear hG
    have s0 := q0.trans q1
    clear q0 q1 x0 x1 n0 m0
    have j1BadOrder : PySem.W.kitOne K (.ref A.C_BadOrder) (.ref A.C_RowsError) = some true := kit_own T.ic_RowsError T.tp_RowsError T.su_BadOrder_RowsError (.inr rfl)
    have j2BadOrder : PySem.W.kitOne K (.ref A.C_BadOrder) (.ref A.C_Impossible) = some false := kit_F T.ic_Impossible T.tp_Impossible T.su_BadOrder_Impossible T.ss_BadOrder
    have j3BadOrder : PySem.W.kitOne K (.ref A.C_BadOrder) (.ref A.C_Unknown) = some false := kit_F T.ic_Unknown T.tp_Unknown T.su_BadOrder_Unknown T.ss_BadOrder
    have hW1 := hW.same s0
    obtain ⟨dx, ut, us, h1, _⟩ := id hW1
    refine ⟨_, rfl, p, dx, _, rfl, h1, fldsS_keeps _ _, _, rfl, _, rfl, p, tb, o, y, cs, rs, ss, ns, ys, rfl, hW1, Same.seq s0 hO, Same.seq s0 hY, hl, hyl, hsl, ok, hin, fun i hf d H6 s6 hd => ?_, fun hf H6 s6 => ?_⟩
    · refine ⟨true, exm_self T.bp_BadOrder T.ic_BadOrder T.tp_BadOrder T.ss_BadOrder, fun _ e he => ?_, fun q => nomatch q⟩
      refine ⟨_, rfl, rfl, rfl, d, _, _, rfl, hd, rfl, _, rfl, _, _, _, rfl, rfl, hd, T.ec_BadOrder, _, _, true, rfl, fun _ h => h, j1BadOrder, _, rfl, _, _, _, rfl, rfl, hd, T.ec_BadOrder, _, _, false, rfl, fun _ h => h, j2BadOrder, _, rfl, _, _, _, rfl, rfl, hd, T.ec_BadOrder, _, _, false, rfl, fun _ h => h, j3BadOrder, by show 3 ≤ sizeLine; decide, fun kk n1 => ?_⟩
      generalize hG : upd H6 kk _ = H7
      have q7 : Same H6 H7 := hG ▸ same_new n1
      have x7 := (congrFun hG kk).symm.trans upd_same
      clear hG
      refine ⟨by show 3 ≤ sizeLine; decide, fun t n2 => ?_⟩
      generalize hG : upd H7 t _ = H8
      have q8 : Same H7 H8 := hG ▸ same_new n2
      have x8 := (congrFun hG t).symm.trans upd_same
      clear hG
      exact ⟨_, rfl, k1 i hf t kk H8 (s0.trans (s6.trans (q7.trans q8))) x8 (q8 _ _ x7)⟩
    · refine ⟨by show 0 ≤ sizeLine; decide, fun kk n1 => ?_⟩
      generalize hG : upd H6 kk _ = H7
      have q7 : Same H6 H7 := hG ▸ same_new n1
      have x7 := (congrFun hG kk).symm.trans upd_same
      clear hG
      refine ⟨by show 3 ≤ sizeLine; decide, fun t n2 => ?_⟩
      generalize hG : upd H7 t _ = H8
      have q8 : Same H7 H8 := hG ▸ same_new n2
      have x8 := (congrFun hG t).symm.trans upd_same
      clear hG
      exact ⟨_, rfl, k2 hf t kk H8 (s0.trans (s6.trans (q7.trans q8))) x8⟩
theorem ok_keptLT (T : Txt P K mg A) : FnOk P w K mg base CX0 8 A.a_law_kept A.d_law_kept ["windows", "order", "years"] (spKeptL (SqL K) (SqT K) K A) := by
  have GX_Windows_keepsLT := ok_keepsLT (P := P) (w := w) (base := base) T
  refine T.F_law_kept.ok sc_law_kept (fun vs H Q E h => ?_) (fun cdv A' outer s H vs Q E hr h => ?_)
  · obtain ⟨p, tb, o, y, cs, rs, ss, ns, ys, rfl, _⟩ := h
    rfl
  · obtain ⟨p, tb, o, y, cs, rs, ss, ns, ys, rfl, hW, hO, hY, hl, hyl, hsl, ok, hin, k1, k2⟩ := h
    refine ⟨_, (pss_cons (ps_set (i := 3) sc_law_kept.nd rfl (Or.inl rfl) (pe_tup (pa_cons pe_str (pa_cons pe_non (pa_cons (pe_lst pa_nil) pa_nil)))))
      (pss_cons (ps_try_as (i := 4) (Wout := fun _ _ _ _ => False) rfl rfl sc_law_kept.nd rfl rfl ⟨rfl, by decide, .inl T.mg_BadOrder⟩ takes0 (fun W pn xe tk _ => (pss_one (ps_set (i := 3) sc_law_kept.nd rfl (Or.inl rfl) (pe_tup (pa_cons pe_str (pa_cons (pe_methE (pv 0) T.cl_Windows T.m_Windows_keeps GX_Windows_keepsLT (hr.mono (by decide)) T.b_Windows_keeps (fun σ => passAt tk σ) (pa_cons (pv 1) (pa_cons (pv 2) pa_nil))) (pa_cons (pe_lst pa_nil) pa_nil))))))) (fun a oe cls d pn hz hf => (pss_one (ps_set (i := 3) sc_law_kept.nd rfl (Or.inl rfl) (pe_tup (pa_cons pe_str (pa_cons (pe_xf T.xf_BadOrder T.xn_BadOrder_index hz hf (pv 4)) (pa_cons (pe_lst (pa_cons (pe_callB (call_isExD hz hf) (by rfl) T.n_isinstance (by decide +kernel) (pa_cons (pv 4) (pa_cons (pe_glob (v := .ref A.C_RowsError) rfl T.mg_RowsError rfl) pa_nil))) (pa_cons (pe_callB (call_isExD hz hf) (by rfl) T.n_isinstance (by decide +kernel) (pa_cons (pv 4) (pa_cons (pe_glob (v := .ref A.C_Impossible) rfl T.mg_Impossible rfl) pa_nil))) (pa_cons (pe_callB (call_isExD hz hf) (by rfl) T.n_isinstance (by decide +kernel) (pa_cons (pv 4) (pa_cons (pe_glob (v := .ref A.C_Unknown) rfl T.mg_Unknown rfl) pa_nil))) pa_nil)))) pa_nil))))))))
      (pss_one (ps_ret (pv 3))))), ?_⟩
    refine ⟨by show 0 ≤ sizeLine; decide, fun l0 n0 => ?_⟩
    generalize hG : upd H l0 _ = H0
    have q0 : Same H H0 := hG ▸ same_new n0
    have x0 := (congrFun hG l0).symm.trans upd_same
    clear hG
    refine ⟨by show 3 ≤ sizeLine; decide, fun t0 m0 => ?_⟩
    generalize hG : upd H0 t0 _ = H1
    have q1 : Same H0 H1 := hG ▸ same_new m0
    have x1 := (congrFun hG t0).symm.trans upd_same
    clear hG
    have s0 := q0.trans q1
    clear q0 q1 x0 x1 n0 m0
    have j1BadOrder : PySem.W.kitOne K (.ref A.C_BadOrder) (.ref A.C_RowsError) = some true := kit_own T.ic_RowsError T.tp_RowsError T.su_BadOrder_RowsError (.inr rfl)
    have j2BadOrder : PySem.W.kitOne K (.ref A.C_BadOrder) (.ref A.C_Impossible) = some false := kit_F T.ic_Impossible T.tp_Impossible T.su_BadOrder_Impossible T.ss_BadOrder
    have j3BadOrder : PySem.W.kitOne K (.ref A.C_BadOrder) (.ref A.C_Unknown) = some false := kit_F T.ic_Unknown T.tp_Unknown T.su_BadOrder_Unknown T.ss_BadOrder
    have hW1 := hW.same s0
    obtain ⟨dx, ut, us, h1, _⟩ := id hW1
    refine ⟨_, rfl, p, dx, _, rfl, h1, fldsS_keeps _ _, _, rfl, _, rfl, p, tb, o, y, cs, rs, ss, ns, ys, rfl, hW1, Same.seq s0 hO, Same.tup s0 hY, hl, hyl, hsl, ok, hin, fun i hf d H6 s6 hd => ?_, fun hf H6 s6 => ?_⟩
    · refine ⟨true, exm_self T.bp_BadOrder T.ic_BadOrder T.tp_BadOrder T.ss_BadOrder, fun _ e he => ?_, fun q => nomatch q⟩
      refine ⟨_, rfl, rfl, rfl, d, _, _, rfl, hd, rfl, _, rfl, _, _, _, rfl, rfl, hd, T.ec_BadOrder, _, _, true, rfl, fun _ h => h, j1BadOrder, _, rfl, _, _, _, rfl, rfl, hd, T.ec_BadOrder, _, _, false, rfl, fun _ h => h, j2BadOrder, _, rfl, _, _, _, rfl, rfl, hd, T.ec_BadOrder, _, _, false, rfl, fun _ h => h, j3BadOrder, by show 3 ≤ sizeLine; decide, fun kk n1 => ?_⟩
      generalize hG : upd H6 kk _ = H7
      have q7 : Same H6 H7 := hG ▸ same_new n1
      have x7 := (congrFun hG kk).symm.trans upd_same
      clear hG
      refine ⟨by show 3 ≤ sizeLine; decide, fun t n2 => ?_⟩
      generalize hG : upd H7 t _ = H8
      have q8 : Same H7 H8 := hG ▸ same_new n2
      have x8 := (congrFun hG t).symm.trans upd_same
      clear hG
      exact ⟨_, rfl, k1 i hf t kk H8 (s0.trans (s6.trans (q7.trans q8))) x8 (q8 _ _ x7)⟩
    · refine ⟨by show 0 ≤ sizeLine; decide, fun kk n1 => ?_⟩
      generalize hG : upd H6 kk _ = H7
      have q7 : Same H6 H7 := hG ▸ same_new n1
      have x7 := (congrFun hG kk).symm.trans upd_same
      clear hG
      refine ⟨by show 3 ≤ sizeLine; decide, fun t n2 => ?_⟩
      generalize hG : upd H7 t _ = H8
      have q8 : Same H7 H8 := hG ▸ same_new n2
      have x8 := (congrFun hG t).symm.trans upd_same
      clear hG
      exact ⟨_, rfl, k2 hf t kk H8 (s0.trans (s6.trans (q7.trans q8))) x8⟩
theorem ok_keptTL (T : Txt P K mg A) : FnOk P w K mg base CX0 8 A.a_law_kept A.d_law_kept ["windows", "order", "years"] (spKeptL DT (SqL K) K A) := by
  have GX_Windows_keepsTL := ok_keepsTL (P := P) (w := w) (base := base) T
  refine T.F_law_kept.ok sc_law_kept (fun vs H Q E h => ?_) (fun cdv A' outer s H vs Q E hr h => ?_)
  · obtain ⟨p, tb, o, y, cs, rs, ss, ns, ys, rfl, _⟩ := h
    rfl
  · obtain ⟨p, tb, o, y, cs, rs, ss, ns, ys, rfl, hW, hO, hY, hl, hyl, hsl, ok, hin, k1, k2⟩ := h
    refine ⟨_, (pss_cons (ps_set (i := 3) sc_law_kept.nd rfl (Or.inl rfl) (pe_tup (pa_cons pe_str (pa_cons pe_non (pa_cons (pe_lst pa_nil) pa_nil)))))
      (pss_cons (ps_try_as (i := 4) (Wout := fun _ _ _ _ => False) rfl rfl sc_law_kept.nd rfl rfl ⟨rfl, by decide, .inl T.mg_BadOrder⟩ takes0 (fun W pn xe tk _ => (pss_one (ps_set (i := 3) sc_law_kept.nd rfl (Or.inl rfl) (pe_tup (pa_cons pe_str (pa_cons (pe_methE (pv 0) T.cl_Windows T.m_Windows_keeps GX_Windows_keepsTL (hr.mono (by decide)) T.b_Windows_keeps (fun σ => passAt tk σ) (pa_cons (pv 1) (pa_cons (pv 2) pa_nil))) (pa_cons (pe_lst pa_nil) pa_nil))))))) (fun a oe cls d pn hz hf => (pss_one (ps_set (i := 3) sc_law_kept.nd rfl (Or.inl rfl) (pe_tup (pa_cons pe_str (pa_cons (pe_xf T.xf_BadOrder T.xn_BadOrder_index hz hf (pv 4)) (pa_cons (pe_lst (pa_cons (pe_callB (call_isExD hz hf) (by rfl) T.n_isinstance (by decide +kernel) (pa_cons (pv 4) (pa_cons (pe_glob (v := .ref A.C_RowsError) rfl T.mg_RowsError rfl) pa_nil))) (pa_cons (pe_callB (call_isExD hz hf) (by rfl) T.n_isinstance (by decide +kernel) (pa_cons (pv 4) (pa_cons (pe_glob (v := .ref A.C_Impossible) rfl T.mg_Impossible rfl) pa_nil))) (pa_cons (pe_callB (call_isExD hz hf) (by rfl) T.n_isinstance (by decide +kernel) (pa_cons (pv 4) (pa_cons (pe_glob (v := .ref A.C_Unknown) rfl T.mg_Unknown rfl) pa_nil))) pa_nil)))) pa_nil))))))))
      (pss_one (ps_ret (pv 3))))), ?_⟩
    refine ⟨by show 0 ≤ sizeLine; decide, fun l0 n0 => ?_⟩
    generalize hG : upd H l0 _ = H0
    have q0 : Same H H0 := hG ▸ same_new n0
    have x0 := (congrFun hG l0).symm.trans upd_same
    clear hG
    refine ⟨by show 3 ≤ sizeLine; decide, fun t0 m0 => ?_⟩
    generalize hG : upd H0 t0 _ = H1
    have q1 : Same H0 H1 := hG ▸ same_new m0
    have x1 := (congrFun hG t0).symm.trans upd_same
    clear hG
    have s0 := q0.trans q1
    clear q0 q1 x0 x1 n0 m0
    have j1BadOrder : PySem.W.kitOne K (.ref A.C_BadOrder) (.ref A.C_RowsError) = some true := kit_own T.ic_RowsError T.tp_RowsError T.su_BadOrder_RowsError (.inr rfl)
    have j2BadOrder : PySem.W.kitOne K (.ref A.C_BadOrder) (.ref A.C_Impossible) = some false := kit_F T.ic_Impossible T.tp_Impossible T.su_BadOrder_Impossible T.ss_BadOrder
    have j3BadOrder : PySem.W.kitOne K (.ref A.C_BadOrder) (.ref A.C_Unknown) = some false := kit_F T.ic_Unknown T.tp_Unknown T.su_BadOrder_Unknown T.ss_BadOrder
    have hW1 := hW.same s0
    obtain ⟨dx, ut, us, h1, _⟩ := id hW1
    refine ⟨_, rfl, p, dx, _, rfl, h1, fldsS_keeps _ _, _, rfl, _, rfl, p, tb, o, y, cs, rs, ss, ns, ys, rfl, hW1, (fun s h => DT.same h s) s0 hO, Same.seq s0 hY, hl, hyl, hsl, ok, hin, fun i hf d H6 s6 hd => ?_, fun hf H6 s6 => ?_⟩
    · refine ⟨true, exm_self T.bp_BadOrder T.ic_BadOrder T.tp_BadOrder T.ss_BadOrder, fun _ e he => ?_, fun q => nomatch q⟩
      refine ⟨_, rfl, rfl, rfl, d, _, _, rfl, hd, rfl, _, rfl, _, _, _, rfl, rfl, hd, T.ec_BadOrder, _, _, true, rfl, fun _ h => h, j1BadOrder, _, rfl, _, _, _, rfl, rfl, hd, T.ec_BadOrder, _, _, false, rfl, fun _ h => h, j2BadOrder, _, rfl, _, _, _, rfl, rfl, hd, T.ec_BadOrder, _, _, false, rfl, fun _ h => h, j3BadOrder, by show 3 ≤ sizeLine; decide, fun kk n1 => ?_⟩
      generalize hG : upd H6 kk _ = H7
      have q7 : Same H6 H7 := hG ▸ same_new n1
      have x7 := (congrFun hG kk).symm.trans upd_same
      clear hG
      refine ⟨by show 3 ≤ sizeLine; decide, fun t n2 => ?_⟩
      generalize hG : upd H7 t _ = H8
      have q8 : Same H7 H8 := hG ▸ same_new n2
      have x8 := (congrFun hG t).symm.trans upd_same
      clear hG
      exact ⟨_, rfl, k1 i hf t kk H8 (s0.trans (s6.trans (q7.trans q8))) x8 (q8 _ _ x7)⟩
    · refine ⟨by show 0 ≤ sizeLine; decide, fun kk n1 => ?_⟩
      generalize hG : upd H6 kk _ = H7
      have q7 : Same H6 H7 := hG ▸ same_new n1
      have x7 := (congrFun hG kk).symm.trans upd_same
      clear hG
      refine ⟨by show 3 ≤ sizeLine; decide, fun t n2 => ?_⟩
      generalize hG : upd H7 t _ = H8
      have q8 : Same H7 H8 := hG ▸ same_new n2
      have x8 := (congrFun hG t).symm.trans upd_same
      clear hG
      exact ⟨_, rfl, k2 hf t kk H8 (s0.trans (s6.trans (q7.trans q8))) x8⟩
theorem ok_keptT (T : Txt P K mg A) : FnOk P w K mg base CX0 8 A.a_law_kept A.d_law_kept ["windows", "order", "years"] (spKeptL DT (SqT K) K A) := by
  have GX_Windows_keepsT := ok_keepsT (P := P) (w := w) (base := base) T
  refine T.F_law_kept.ok sc_law_kept (fun vs H Q E h => ?_) (fun cdv A' outer s H vs Q E hr h => ?_)
  · obtain ⟨p, tb, o, y, cs, rs, ss, ns, ys, rfl, _⟩ := h
    rfl
  · obtain ⟨p, tb, o, y, cs, rs, ss, ns, ys, rfl, hW, hO, hY, hl, hyl, hsl, ok, hin, k1, k2⟩ := h
    refine ⟨_, (pss_cons (ps_set (i := 3) sc_law_kept.nd rfl (Or.inl rfl) (pe_tup (pa_cons pe_str (pa_cons pe_non (pa_cons (pe_lst pa_nil) pa_nil)))))
      (pss_cons (ps_try_as (i := 4) (Wout := fun _ _ _ _ => False) rfl rfl sc_law_kept.nd rfl rfl ⟨rfl, by decide, .inl T.mg_BadOrder⟩ takes0 (fun W pn xe tk _ => (pss_one (ps_set (i := 3) sc_law_kept.nd rfl (Or.inl rfl) (pe_tup (pa_cons pe_str (pa_cons (pe_methE (pv 0) T.cl_Windows T.m_Windows_keeps GX_Windows_keepsT (hr.mono (by decide)) T.b_Windows_keeps (fun σ => passAt tk σ) (pa_cons (pv 1) (pa_cons (pv 2) pa_nil))) (pa_cons (pe_lst pa_nil) pa_nil))))))) (fun a oe cls d pn hz hf => (pss_one (ps_set (i := 3) sc_law_kept.nd rfl (Or.inl rfl) (pe_tup (pa_cons pe_str (pa_cons (pe_xf T.xf_BadOrder T.xn_BadOrder_index hz hf (pv 4)) (pa_cons (pe_lst (pa_cons (pe_callB (call_isExD hz hf) (by rfl) T.n_isinstance (by decide +kernel) (pa_cons (pv 4) (pa_cons (pe_glob (v := .ref A.C_RowsError) rfl T.mg_RowsError rfl) pa_nil))) (pa_cons (pe_callB (call_isExD hz hf) (by rfl) T.n_isinstance (by decide +kernel) (pa_cons (pv 4) (pa_cons (pe_glob (v := .ref A.C_Impossible) rfl T.mg_Impossible rfl) pa_nil))) (pa_cons (pe_callB (call_isExD hz hf) (by rfl) T.n_isinstance (by decide +kernel) (pa_cons (pv 4) (pa_cons (pe_glob (v := .ref A.C_Unknown) rfl T.mg_Unknown rfl) pa_nil))) pa_nil)))) pa_nil))))))))
      (pss_one (ps_ret (pv 3))))), ?_⟩
    refine ⟨by show 0 ≤ sizeLine; decide, fun l0 n0 => ?_⟩
    generalize hG : upd H l0 _ = H0
    have q0 : Same H H0 := hG ▸ same_new n0
    have x0 := (congrFun hG l0).symm.trans upd_same
    clear hG
    refine ⟨by show 3 ≤ sizeLine; decide, fun t0 m0 => ?_⟩
    generalize hG : upd H0 t0 _ = H1
    have q1 : Same H0 H1 := hG ▸ same_new m0
    have x1 := (congrFun hG t0).symm.trans upd_same
    clear hG
    have s0 := q0.trans q1
    clear q0 q1 x0 x1 n0 m0
    have j1BadOrder : PySem.W.kitOne K (.ref A.C_BadOrder) (.ref A.C_RowsError) = some true := kit_own T.ic_RowsError T.tp_RowsError T.su_BadOrder_RowsError (.inr rfl)
    have j2BadOrder : PySem.W.kitOne K (.ref A.C_BadOrder) (.ref A.C_Impossible) = some false := kit_F T.ic_Impossible T.tp_Impossible T.su_BadOrder_Impossible T.ss_BadOrder
    have j3BadOrder : PySem.W.kitOne K (.ref A.C_BadOrder) (.ref A.C_Unknown) = some false := kit_F T.ic_Unknown T.tp_Unknown T.su_BadOrder_Unknown T.ss_BadOrder
    have hW1 := hW.same s0
    obtain ⟨dx, ut, us, h1, _⟩ := id hW1
    refine ⟨_, rfl, p, dx, _, rfl, h1, fldsS_keeps _ _, _, rfl, _, rfl, p, tb, o, y, cs, rs, ss, ns, ys, rfl, hW1, (fun s h => DT.same h s) s0 hO, Same.tup s0 hY, hl, hyl, hsl, ok, hin, fun i hf d H6 s6 hd => ?_, fun hf H6 s6 => ?_⟩
    · refine ⟨true, exm_self T.bp_BadOrder T.ic_BadOrder T.tp_BadOrder T.ss_BadOrder, fun _ e he => ?_, fun q => nomatch q⟩
      refine ⟨_, rfl, rfl, rfl, d, _, _, rfl, hd, rfl, _, rfl, _, _, _, rfl, rfl, hd, T.ec_BadOrder, _, _, true, rfl, fun _ h => h, j1BadOrder, _, rfl, _, _, _, rfl, rfl, hd, T.ec_BadOrder, _, _, false, rfl, fun _ h => h, j2BadOrder, _, rfl, _, _, _, rfl, rfl, hd, T.ec_BadOrder, _, _, false, rfl, fun _ h => h, j3BadOrder, by show 3 ≤ sizeLine; decide, fun kk n1 => ?_⟩
      generalize hG : upd H6 kk _ = H7
      have q7 : Same H6 H7 := hG ▸ same_new n1
      have x7 := (congrFun hG kk).symm.trans upd_same
      clear hG
      refine ⟨by show 3 ≤ sizeLine; decide, fun t n2 => ?_⟩
      generalize hG : upd H7 t _ = H8
      have q8 : Same H7 H8 := hG ▸ same_new n2
      have x8 := (congrFun hG t).symm.trans upd_same
      clear hG
      exact ⟨_, rfl, k1 i hf t kk H8 (s0.trans (s6.trans (q7.trans q8))) x8 (q8 _ _ x7)⟩
    · refine ⟨by show 0 ≤ sizeLine; decide, fun kk n1 => ?_⟩
      generalize hG : upd H6 kk _ = H7
      have q7 : Same H6 H7 := hG ▸ same_new n1
      have x7 := (congrFun hG kk).symm.trans upd_same
      clear hG
      refine ⟨by show 3 ≤ sizeLine; decide, fun t n2 => ?_⟩
      generalize hG : upd H7 t _ = H8
      have q8 : Same H7 H8 := hG ▸ same_new n2
      have x8 := (congrFun hG t).symm.trans upd_same
      clear hG
      exact ⟨_, rfl, k2 hf t kk H8 (s0.trans (s6.trans (q7.trans q8))) x8⟩
end
end My
set_option maxRecDepth 100000
set_option maxHeartbeats 8000000
set_option exponentiation.threshold 10000
namespace My
open PySem L2
open C8 (pss_cut)
theorem keepB_of {ss : List TW} {ns : List Str} {ys : List Int} (h1 : ys.length = ns.length) (h2 : riseB ys = true) : keepB ss ns ys = ss.all (inW ns ys) := by
  unfold keepB; rw [decide_eq_true h1, h2]; rfl
theorem keepB_no {ss : List TW} {ns : List Str} {ys : List Int} (h : (decide (ys.length = ns.length) && riseB ys) = false) : keepB ss ns ys = false := by
  unfold keepB; rw [← Bool.and_assoc, h]; rfl
abbrev pdi (l : List Int) : List PyData := l.map PyData.int
theorem dp_ivs {K : PySem.W.Frag} {H : Hp} : ∀ l : List Int, DpAll K H (ivs l) (pdi l)
  | [] => .nil
  | a :: l => .cons (.int a) (dp_ivs l)
theorem lay_pdi : ∀ l : List Int, PyData.canLayAll0 (pdi l) = true
  | [] => by simp [PyData.canLayAll0]
  | a :: l => layc (lay_int a) (lay_pdi l)
theorem depth_pdi : ∀ l : List Int, PyData.depthAll (pdi l) ≤ 1
  | [] => by simp [PyData.depthAll]
  | a :: l => by
    have h : PyData.depthAll (l.map PyData.int) ≤ 1 := depth_pdi l
    simp only [List.map_cons, PyData.depthAll, PyData.depth]
    omega
theorem sh_pdi (l : List Int) : SeqAt.shaped (.list (pdi l)) = true := shapedL (lay_pdi l) (Nat.le_trans (depth_pdi l) (by decide))
theorem startY_bd {cs : List Str} {ss : List TW} (w : WOk cs ss) : -1000000 ≤ startY ss ∧ startY ss ≤ 1000000 := by
  have h : ∀ m ∈ ss.map (·.2.1), -1000000 ≤ m ∧ m ≤ 1000000 := fun m hm => by
    obtain ⟨s, hs, e⟩ := List.mem_map.mp hm
    have := w.bd s hs
    rw [← e]; omega
  unfold startY
  generalize ss.map (·.2.1) = l at h
  cases l with
  | nil => exact ⟨by decide, by decide⟩
  | cons n l => exact h _ (foldl_min l n).1
theorem run_bd {cs : List Str} {ss : List TW} (w : WOk cs ss) : ∀ (l : List Str), ∀ y ∈ (runY ss l).1, -1000000 ≤ y ∧ y ≤ 1000000 := by
  have val : ∀ l, -1000000 ≤ (runY ss l).2 ∧ (runY ss l).2 ≤ 1000000 := fun l => by
    obtain ⟨h1, h2, h3⟩ := run_all w.nd l
    have b := startY_bd w
    rcases h3 with h | ⟨s, hs, _, e⟩
    · rw [h]; exact b
    · have := w.bd s hs
      rw [e]; omega
  have key : ∀ (p q : List Str), (∀ y ∈ (runY ss q).1, -1000000 ≤ y ∧ y ≤ 1000000) → ∀ y ∈ (runY ss (q ++ p)).1, -1000000 ≤ y ∧ y ≤ 1000000 := by
    intro p
    induction p with
    | nil => intro q h; rw [List.append_nil]; exact h
    | cons z p ih =>
      intro q h
      have e : q ++ z :: p = (q ++ [z]) ++ p := by rw [List.append_assoc]; rfl
      rw [e]
      refine ih (q ++ [z]) fun y hy => ?_
      have e3 : (runY ss (q ++ [z])).1 = (runY ss q).1 ++ [(runY ss (q ++ [z])).2] := by rw [runY_snoc]; rfl
      rw [e3] at hy
      rcases List.mem_append.mp hy with h9 | h9
      · exact h y h9
      · rw [List.mem_singleton.mp h9]; exact val _
  intro l
  have := key l [] (fun y h => (nomatch h))
  exact this
section
variable {P : Program} {w : World} {K : PySem.W.Frag} {mg : Str → Option Value} {base : Heap} {A : Ad}
def spKR (so : Hp → Addr → List V → Prop) (K : PySem.W.Frag) (A : Ad) : Sp := fun vs H Q _ => ∃ p tb o y t cs rs ss ns ts, ∃ ys : List Int, vs = [.ref p, .ref o, .ref y, .ref t] ∧ Wns A.C_Windows A.C_Table K H p tb cs rs ss ∧ so H o (sv ns) ∧ H y = some (.lst (ivs ys)) ∧ ys.length ≤ 1000 ∧ ns.length ≤ 12 ∧ SqL K H t (ts.map V.ref) ∧ Tl (SqT K) H ts ss ∧ ColsOk cs ∧ WOk cs ss ∧ fault cs ns = none ∧ ∀ H', Same H H' → Q (.bl true) H'
def spLR (so : Hp → Addr → List V → Prop) (K : PySem.W.Frag) (A : Ad) : Sp := fun vs H Q _ => ∃ p tb o y t d cs rs ss ns ts, ∃ ds : List Int, vs = [.ref p, .ref o, .ref y, .ref t, .ref d] ∧ Wns A.C_Windows A.C_Table K H p tb cs rs ss ∧ so H o (sv ns) ∧ GI H y 12 ∧ ns.length ≤ 12 ∧ SqL K H t (ts.map V.ref) ∧ Tl (SqT K) H ts ss ∧ SqL K H d (ivs ds) ∧ ds.length ≤ 100 ∧ ColsOk cs ∧ WOk cs ss ∧ fault cs ns = none ∧ ∀ H', Same H H' → Q (.bl true) H'
def spDR (so : Hp → Addr → List V → Prop) (K : PySem.W.Frag) (A : Ad) : Sp := fun vs H Q _ => ∃ p tb o t f cs rs ss ns ts fs, vs = [.ref p, .ref o, .ref t, .ref f] ∧ Wns A.C_Windows A.C_Table K H p tb cs rs ss ∧ so H o (sv ns) ∧ ns.length ≤ 12 ∧ SqL K H t (ts.map V.ref) ∧ Tl (SqT K) H ts ss ∧ SqL K H f (fs.map V.ref) ∧ Tg fS H fs (forcedD cs ss) ∧ ColsOk cs ∧ WOk cs ss ∧ fault cs ns = none ∧ ∀ H', Same H H' → Q (.bl true) H'
theorem ok_kr (T : Txt P K mg A) : FnOk P w K mg base CX0 9 A.a_law_keeps_right A.d_law_keeps_right ["windows", "order", "years", "told"] (spKR (SqL K) K A) := by
  have G_law_kept := ok_kept (P := P) (w := w) (base := base) T
  have G_law_keptLT := ok_keptLT (P := P) (w := w) (base := base) T
  have G_law_rise := ok_rise (P := P) (w := w) (base := base) T
  have G_law_windows_kept := ok_wkept (P := P) (w := w) (base := base) T
  refine T.F_law_keeps_right.ok sc_law_keeps_right (fun vs H Q E h => ?_) (fun cdv A' outer s H vs Q E hr h => ?_)
  · obtain ⟨p, tb, o, y, t, cs, rs, ss, ns, ts, ys, rfl, _⟩ := h
    rfl
  · obtain ⟨p, tb, o, y, t, cs, rs, ss, ns, ts, ys, rfl, hW, hO, hY, hyl, hnl, hTd, hTs, okc, wok, hf, k⟩ := h
    refine ⟨_, (pss_cons (ps_set (i := 4) sc_law_keeps_right.nd rfl (Or.inl rfl) (pe_callTy (show CallR _ _ (rListOf K) from call_list_of) (by rfl) T.n_list (by decide +kernel) (pa_cons (pv 2) pa_nil)))
      (pss_cons (ps_set (i := 5) sc_law_keeps_right.nd rfl (Or.inl rfl) (pe_call G_law_kept (hr.mono (by decide)) rfl T.mg_law_kept T.F_law_kept.kp T.b_law_kept .nil pass0 (pa_cons (pv 0) (pa_cons (pv 1) (pa_cons (pv 4) pa_nil)))))
      (pss_cons (ps_if (pt_cmpR (op_neD hr.units) (pv 4) (pv 2) (nomark _)) (pss_one (ps_ret pe_bl)) pss_nil)
      (pss_cons (ps_set (i := 6) sc_law_keeps_right.nd rfl (Or.inl rfl) (pe_call G_law_keptLT (hr.mono (by decide)) rfl T.mg_law_kept T.F_law_kept.kp T.b_law_kept .nil pass0 (pa_cons (pv 0) (pa_cons (pv 1) (pa_cons (pe_callTy (show CallR _ _ (rTupOf K) from call_tuple_of) (by rfl) T.n_tuple (by decide +kernel) (pa_cons (pv 2) pa_nil)) pa_nil)))))
      (pss_cons (ps_set (i := 7) sc_law_keeps_right.nd rfl (Or.inl rfl) (pe_and (pe_cmpR op_eq (pe_callB call_len_seq (by rfl) T.n_len (by decide +kernel) (pa_cons (pv 2) pa_nil)) (pe_callB call_len_seq (by rfl) T.n_len (by decide +kernel) (pa_cons (pv 1) pa_nil)) (nomark _)) (pe_one (pe_call G_law_rise (hr.mono (by decide)) rfl T.mg_law_rise T.F_law_rise.kp T.b_law_rise .nil pass0 (pa_cons (pv 2) pa_nil)))))
      (pss_cut (ps_if (pt_val (pv 7)) (pss_one (ps_set (i := 7) sc_law_keeps_right.nd rfl (Or.inl rfl) (pe_call G_law_windows_kept (hr.mono (by decide)) rfl T.mg_law_windows_kept T.F_law_windows_kept.kp T.b_law_windows_kept .nil pass0 (pa_cons (pv 1) (pa_cons (pv 2) (pa_cons (pv 3) pa_nil)))))) pss_nil)
      (pss_cons (ps_if (PW.pt (pw_or (pt_cmpR op_ne (pe_ix ix_tup (pv 6) pe_int (fun _ _ => rfl)) pe_str (nomark _)) (pw_or1 (pt_cmpR op_ne (pe_ix ix_tup (pv 6) pe_int (fun _ _ => rfl)) (pv 7) (nomark _))))) (pss_one (ps_ret pe_bl)) pss_nil)
      (pss_one (ps_ret (pe_and (pe_cmpR op_eq (pe_ix ix_tup (pv 5) pe_int (fun _ _ => rfl)) pe_str (nomark _)) (pe_and (pe_callB call_isi (by rfl) T.n_isinstance (by decide +kernel) (pa_cons (pe_ix ix_tup (pv 5) pe_int (fun _ _ => rfl)) (pa_cons (pe_bltn (v := .ty "bool") (by rfl) T.n_bool (by decide +kernel) rfl) pa_nil))) (pe_one (pe_cmpR op_eq (pe_ix ix_tup (pv 5) pe_int (fun _ _ => rfl)) (pv 7) (nomark _)))))))))))))), ?_⟩
    have sl := wok.len okc.n
    have pm := perm_of_fault okc.nd hf
    refine ⟨_, rfl, y, _, rfl, .inl (SqL.of hY), fun hd n0 => ?_⟩
    generalize hG : upd H hd _ = H0
    have q0 : Same H H0 := hG ▸ same_new n0
    have x0 := (congrFun hG hd).symm.trans upd_same
    clear hG
    refine ⟨_, rfl, _, rfl, _, rfl, p, tb, o, hd, cs, rs, ss, ns, ys, rfl, hW.same q0, Same.seq q0 hO, SqL.of x0, by omega, hyl, by omega, okc, wok.ins, (fun i h9 => by rw [hf] at h9; cases h9), fun _ f1 fl1 H1 s1 hf1 => ?_⟩
    have s01 := q0.trans s1
    refine ⟨_, rfl, _, rfl, .list (pdi ys), .list (pdi ys), .lst (SqL.of (s1 _ _ x0)) (dp_ivs ys), .lst (SqL.of (s01 _ _ hY)) (dp_ivs ys), sh_pdi _, sh_pdi _, _, rfl, ifF (by rw [eqvL (lay_pdi _)]; rfl) ?_⟩
    refine ⟨_, rfl, _, rfl, _, rfl, ?_⟩
    dsimp only [tNil]
    refine tupO (K := K) (.inl (SqL.of (s01 _ _ hY))) fun ty H2 s2 hty => ?_
    have s02 := s01.trans s2
    refine ⟨p, tb, o, ty, cs, rs, ss, ns, ys, rfl, hW.same s02, Same.seq s02 hO, hty, by omega, hyl, by omega, okc, wok.ins, (fun i h9 => by rw [hf] at h9; cases h9), fun _ f2 fl2 H3 s3 hf2 => ?_⟩
    have s03 := s02.trans s3
    have hf1 := (s2.trans s3) _ _ hf1
    have hO3 := Same.seq s03 hO
    have hY3 := s03 _ _ hY
    have ly : (ivs ys).length = ys.length := List.length_map ..
    have mid : ∀ b : Bool, b = (decide (ys.length = ns.length) && riseB ys) → True := fun _ _ => trivial
    refine ⟨_, rfl, y, _, rfl, .inl (SqL.of hY3), _, rfl, o, _, rfl, .inl hO3, rfl, _, rfl, ?_⟩
    have keyG : ∀ b : Bool, b = (decide (ys.length = ns.length) && riseB ys) → ∃ Mid : L2.St → Hp → Prop, (∀ σ G, Mid σ G → σ = [some (.ref p), some (.ref o), some (.ref y), some (.ref t), some (.ref hd), some (.ref f1), some (.ref f2), some (.bl (keepB ss ns ys))] ∧ G = H3) ∧ True := fun b hb => ⟨fun σ G => σ = [some (.ref p), some (.ref o), some (.ref y), some (.ref t), some (.ref hd), some (.ref f1), some (.ref f2), some (.bl (keepB ss ns ys))] ∧ G = H3, fun σ G h => h, trivial⟩
    clear keyG mid
    by_cases hlen : ys.length = ns.length
    · refine ifT (by rw [ly, len_sv, hlen]; exact decide_eq_true rfl) ⟨_, rfl, y, ys, rfl, SqL.of hY3, hyl, ?_⟩
      refine ⟨fun σ G => σ = [some (.ref p), some (.ref o), some (.ref y), some (.ref t), some (.ref hd), some (.ref f1), some (.ref f2), some (.bl (keepB ss ns ys))] ∧ G = H3, ?_, ?_⟩
      · cases hri : riseB ys with
        | true =>
          refine ⟨_, rfl, _, rfl, ifT rfl ?_⟩
          refine ⟨_, rfl, _, rfl, _, rfl, o, y, t, ns, ts, ss, ys, rfl, hO3, SqL.of hY3, s03.seq hTd, hTs.imp (fun t s z => s03.tup z), by omega, pm.2.1, fun s hs => pm.2.2.mem_iff.mpr (wok.ins s hs), ?_⟩
          rw [← keepB_of hlen hri]
          exact ⟨rfl, rfl⟩
        | false =>
          refine ⟨_, rfl, _, rfl, ifF rfl ?_⟩
          rw [keepB_no (by rw [hri, Bool.and_false])]
          exact ⟨rfl, rfl⟩
      rintro σ G ⟨rfl, rfl⟩
      have a1 : atI [V.str "kept", .bl (keepB ss ns ys), .ref fl1] 1 = some (.bl (keepB ss ns ys)) := atI_nat (j := 1) rfl
      have a2 : atI [V.str "kept", .bl (keepB ss ns ys), .ref fl2] 1 = some (.bl (keepB ss ns ys)) := atI_nat (j := 1) rfl
      have kk := k _ s03
      generalize keepB ss ns ys = kb at hf1 hf2 a1 a2 ⊢
      refine ⟨_, rfl, f2, _, _, _, rfl, rfl, SqT.of hf2, atI_nat (j := 0) rfl, rfl, _, rfl, ifF (by rw [decide_eq_true rfl]; rfl) ?_⟩
      refine ⟨_, rfl, f2, _, _, _, rfl, rfl, SqT.of hf2, a2, _, rfl, rfl, _, rfl, itNe rfl ?_⟩
      refine ⟨_, rfl, f1, _, _, _, rfl, rfl, SqT.of hf1, atI_nat (j := 0) rfl, rfl, _, rfl, ifT (decide_eq_true rfl) ?_⟩
      refine ⟨_, rfl, f1, _, _, _, rfl, rfl, SqT.of hf1, a1, _, _, _, _, true, rfl, .ty _, .base (.bl _), kit_ty (by decide +kernel), true, rfl, iteT ?_⟩
      refine ⟨_, rfl, f1, _, _, _, rfl, rfl, SqT.of hf1, a1, _, rfl, rfl, ?_⟩
      rw [decide_eq_true (rfl : V.bl kb = V.bl kb)]
      exact kk
    · refine ifF (by rw [ly, len_sv]; exact decide_eq_false fun z => hlen (by have := V.int.inj z; omega)) ?_
      refine ⟨fun σ G => σ = [some (.ref p), some (.ref o), some (.ref y), some (.ref t), some (.ref hd), some (.ref f1), some (.ref f2), some (.bl (keepB ss ns ys))] ∧ G = H3, ?_, ?_⟩
      · refine ⟨_, rfl, _, rfl, ifF rfl ?_⟩
        rw [keepB_no (by rw [decide_eq_false hlen]; rfl)]
        exact ⟨rfl, rfl⟩
      rintro σ G ⟨rfl, rfl⟩
      have a1 : atI [V.str "kept", .bl (keepB ss ns ys), .ref fl1] 1 = some (.bl (keepB ss ns ys)) := atI_nat (j := 1) rfl
      have a2 : atI [V.str "kept", .bl (keepB ss ns ys), .ref fl2] 1 = some (.bl (keepB ss ns ys)) := atI_nat (j := 1) rfl
      have kk := k _ s03
      generalize keepB ss ns ys = kb at hf1 hf2 a1 a2 ⊢
      refine ⟨_, rfl, f2, _, _, _, rfl, rfl, SqT.of hf2, atI_nat (j := 0) rfl, rfl, _, rfl, ifF (by rw [decide_eq_true rfl]; rfl) ?_⟩
      refine ⟨_, rfl, f2, _, _, _, rfl, rfl, SqT.of hf2, a2, _, rfl, rfl, _, rfl, itNe rfl ?_⟩
      refine ⟨_, rfl, f1, _, _, _, rfl, rfl, SqT.of hf1, atI_nat (j := 0) rfl, rfl, _, rfl, ifT (decide_eq_true rfl) ?_⟩
      refine ⟨_, rfl, f1, _, _, _, rfl, rfl, SqT.of hf1, a1, _, _, _, _, true, rfl, .ty _, .base (.bl _), kit_ty (by decide +kernel), true, rfl, iteT ?_⟩
      refine ⟨_, rfl, f1, _, _, _, rfl, rfl, SqT.of hf1, a1, _, rfl, rfl, ?_⟩
      rw [decide_eq_true (rfl : V.bl kb = V.bl kb)]
      exact kk
theorem ok_lr (T : Txt P K mg A) : FnOk P w K mg base CX0 10 A.a_law_lots_right A.d_law_lots_right ["windows", "order", "lot", "told", "draws"] (spLR (SqL K) K A) := by
  have G_law_keeps_right := ok_kr (P := P) (w := w) (base := base) T
  have G_law_other_years := ok_oy (P := P) (w := w) (base := base) T
  refine T.F_law_lots_right.ok sc_law_lots_right (fun vs H Q E h => ?_) (fun cdv A' outer s H vs Q E hr h => ?_)
  · obtain ⟨p, tb, o, y, t, d, cs, rs, ss, ns, ts, ds, rfl, _⟩ := h
    rfl
  · obtain ⟨p, tb, o, y, t, d, cs, rs, ss, ns, ts, ds, rfl, hW, hO, gY, hnl, hTd, hTs, hD, hdl, okc, wok, hf, k⟩ := h
    refine ⟨_, (pss_cons (ps_for PassesOwn.never rfl (pi_list (pe_op op_cat (pe_lst (pa_cons (pv 2) pa_nil)) (pe_lc (own := [("draw", 6)]) (g := gName 6) (tt := tYes) rfl sc_law_lots_right.nd (pi_list (pv 4)) (blkOk_by (N := ["windows", "order", "lot", "told", "draws", "years", "draw"]) (sc := defScope s_law_lots_right) (by decide +kernel)) (fun _ _ _ _ _ => (pg_name (i := 6) sc_law_lots_right.nd rfl (Or.inl rfl))) (fun _ _ _ _ _ => pts_nil) (fun _ _ _ _ _ => (pe_call G_law_other_years (hr.mono (by decide)) rfl T.mg_law_other_years T.F_law_other_years.kp T.b_law_other_years .nil pass0 (pa_cons (pv 2) (pa_cons (pv 6) pa_nil))))))) (pg_name (i := 5) sc_law_lots_right.nd rfl (Or.inl rfl))
        (pss_one (ps_if (pt_not (pt_val (pe_call G_law_keeps_right (hr.mono (by decide)) rfl T.mg_law_keeps_right T.F_law_keeps_right.kp T.b_law_keeps_right .nil pass0 (pa_cons (pv 0) (pa_cons (pv 1) (pa_cons (pv 5) (pa_cons (pv 3) pa_nil))))))) (pss_one (ps_ret pe_bl)) pss_nil)))
      (pss_one (ps_ret pe_bl))), ?_⟩
    refine ⟨_, rfl, by show 1 ≤ sizeLine; decide, fun l1 n1 => ?_⟩
    generalize hG : upd H l1 _ = H1
    have q1 : Same H H1 := hG ▸ same_new n1
    have x1 := (congrFun hG l1).symm.trans upd_same
    clear hG
    refine ⟨_, rfl, d, rfl, ⟨_, q1.seq hD⟩, fun D nD => lc_it walk_list (fun i G => Same H1 G ∧ ∃ us : List Addr, G D = some (.lst (us.map V.ref)) ∧ us.length = i ∧ ∀ u ∈ us, GI G u 40 ∧ u ≠ D) ⟨same_new nD, [], upd_same, rfl, (fun u h => nomatch h)⟩ (fun i G _ q => (q1.trans q.1).seq hD) ?_ ?_⟩
    · rintro i x G0 G hi ⟨sG, us, hDG, hul, hus⟩ ⟨rfl, hx⟩
      obtain ⟨dv, hdv, rfl⟩ := ivs_get hx
      refine ⟨rfl, _, rfl, _, rfl, y, dv, rfl, gY.same (q1.trans sG), fun a G2 s2 na ga => ?_⟩
      have hD2 := s2 _ _ hDG
      have naD : a ≠ D := fun e => by rw [e, hDG] at na; cases na
      refine ⟨_, hD2, small_int (by rw [List.length_map]; rw [ivs_len] at hi; omega), fun b o e => by rw [upd_ne (ne_of_none e nD)]; exact s2 _ _ (sG _ _ e), us ++ [a], by rw [List.map_append]; exact upd_same, by rw [List.length_append, hul]; rfl, fun u hu => ?_⟩
      have up : ∀ u, u ≠ D → GI G2 u 40 → GI (upd G2 D (.lst (us.map V.ref ++ [V.ref a]))) u 40 := fun u hne ⟨zz, e1, e2⟩ => ⟨zz, by rw [upd_ne hne]; exact e1, e2⟩
      rcases List.mem_append.mp hu with h | h
      · exact ⟨up u (hus u h).2 ((hus u h).1.same s2), (hus u h).2⟩
      · rw [List.mem_singleton.mp h]; exact ⟨up a naD ga, naD⟩
    rintro G ⟨sG, us, hDG, hul, hus⟩
    have q1G := q1.trans sG
    refine catO (sG _ _ x1) hDG (by rw [List.length_map]; rw [ivs_len] at hul; show 1 + us.length ≤ 1000000; omega) fun PL G2 s2 n2 hPL => ?_
    have sG2 := q1G.trans s2
    have hPL : G2 PL = some (.lst ((y :: us).map V.ref)) := hPL
    have hall : ∀ u ∈ y :: us, GI G2 u 40 := fun u hu => by
      rcases List.mem_cons.mp hu with rfl | hu
      · exact (gY.same sG2).mono (by decide)
      · exact (hus u hu).1.same s2
    refine ⟨PL, rfl, ⟨_, SqL.of hPL⟩, for_it walk_list (fun i σ H2 => Same G2 H2 ∧ ∃ u5 : Option V, σ = [some (.ref p), some (.ref o), some (.ref y), some (.ref t), some (.ref d), u5, none]) ⟨Same.refl _, none, rfl⟩ (fun i σ H2 _ q => q.1.seq (SqL.of hPL)) ?_ ?_⟩
    · rintro i x σ H20 H2 hi ⟨sm, u5, rfl⟩ ⟨rfl, hx⟩
      obtain ⟨u, hu, rfl⟩ := refs_get hx
      obtain ⟨zs, hzs, hzl⟩ := (hall u (List.mem_of_getElem? hu)).same sm
      have s9 := sG2.trans sm
      exact ⟨_, rfl, _, rfl, _, rfl, _, rfl, p, tb, o, u, t, cs, rs, ss, ns, ts, zs, rfl, hW.same s9, Same.seq s9 hO, hzs, by omega, hnl, s9.seq hTd, hTs.imp (fun t s z => s9.tup z), okc, wok, hf, fun H3 s3 => ⟨_, rfl, ifF rfl ⟨sm.trans s3, _, rfl⟩⟩⟩
    · rintro σ H2 ⟨sm, _⟩
      exact k _ (sG2.trans sm)
theorem ok_krT (T : Txt P K mg A) : FnOk P w K mg base CX0 9 A.a_law_keeps_right A.d_law_keeps_right ["windows", "order", "years", "told"] (spKR DT K A) := by
  have G_law_keptTL := ok_keptTL (P := P) (w := w) (base := base) T
  have G_law_keptT := ok_keptT (P := P) (w := w) (base := base) T
  have G_law_rise := ok_rise (P := P) (w := w) (base := base) T
  have G_law_windows_keptT := ok_wkeptT (P := P) (w := w) (base := base) T
  refine T.F_law_keeps_right.ok sc_law_keeps_right (fun vs H Q E h => ?_) (fun cdv A' outer s H vs Q E hr h => ?_)
  · obtain ⟨p, tb, o, y, t, cs, rs, ss, ns, ts, ys, rfl, _⟩ := h
    rfl
  · obtain ⟨p, tb, o, y, t, cs, rs, ss, ns, ts, ys, rfl, hW, hO, hY, hyl, hnl, hTd, hTs, okc, wok, hf, k⟩ := h
    refine ⟨_, (pss_cons (ps_set (i := 4) sc_law_keeps_right.nd rfl (Or.inl rfl) (pe_callTy (show CallR _ _ (rListOf K) from call_list_of) (by rfl) T.n_list (by decide +kernel) (pa_cons (pv 2) pa_nil)))
      (pss_cons (ps_set (i := 5) sc_law_keeps_right.nd rfl (Or.inl rfl) (pe_call G_law_keptTL (hr.mono (by decide)) rfl T.mg_law_kept T.F_law_kept.kp T.b_law_kept .nil pass0 (pa_cons (pv 0) (pa_cons (pv 1) (pa_cons (pv 4) pa_nil)))))
      (pss_cons (ps_if (pt_cmpR (op_neD hr.units) (pv 4) (pv 2) (nomark _)) (pss_one (ps_ret pe_bl)) pss_nil)
      (pss_cons (ps_set (i := 6) sc_law_keeps_right.nd rfl (Or.inl rfl) (pe_call G_law_keptT (hr.mono (by decide)) rfl T.mg_law_kept T.F_law_kept.kp T.b_law_kept .nil pass0 (pa_cons (pv 0) (pa_cons (pv 1) (pa_cons (pe_callTy (show CallR _ _ (rTupOf K) from call_tuple_of) (by rfl) T.n_tuple (by decide +kernel) (pa_cons (pv 2) pa_nil)) pa_nil)))))
      (pss_cons (ps_set (i := 7) sc_law_keeps_right.nd rfl (Or.inl rfl) (pe_and (pe_cmpR op_eq (pe_callB call_len_seq (by rfl) T.n_len (by decide +kernel) (pa_cons (pv 2) pa_nil)) (pe_callB call_len_seq (by rfl) T.n_len (by decide +kernel) (pa_cons (pv 1) pa_nil)) (nomark _)) (pe_one (pe_call G_law_rise (hr.mono (by decide)) rfl T.mg_law_rise T.F_law_rise.kp T.b_law_rise .nil pass0 (pa_cons (pv 2) pa_nil)))))
      (pss_cut (ps_if (pt_val (pv 7)) (pss_one (ps_set (i := 7) sc_law_keeps_right.nd rfl (Or.inl rfl) (pe_call G_law_windows_keptT (hr.mono (by decide)) rfl T.mg_law_windows_kept T.F_law_windows_kept.kp T.b_law_windows_kept .nil pass0 (pa_cons (pv 1) (pa_cons (pv 2) (pa_cons (pv 3) pa_nil)))))) pss_nil)
      (pss_cons (ps_if (PW.pt (pw_or (pt_cmpR op_ne (pe_ix ix_tup (pv 6) pe_int (fun _ _ => rfl)) pe_str (nomark _)) (pw_or1 (pt_cmpR op_ne (pe_ix ix_tup (pv 6) pe_int (fun _ _ => rfl)) (pv 7) (nomark _))))) (pss_one (ps_ret pe_bl)) pss_nil)
      (pss_one (ps_ret (pe_and (pe_cmpR op_eq (pe_ix ix_tup (pv 5) pe_int (fun _ _ => rfl)) pe_str (nomark _)) (pe_and (pe_callB call_isi (by rfl) T.n_isinstance (by decide +kernel) (pa_cons (pe_ix ix_tup (pv 5) pe_int (fun _ _ => rfl)) (pa_cons (pe_bltn (v := .ty "bool") (by rfl) T.n_bool (by decide +kernel) rfl) pa_nil))) (pe_one (pe_cmpR op_eq (pe_ix ix_tup (pv 5) pe_int (fun _ _ => rfl)) (pv 7) (nomark _)))))))))))))), ?_⟩
    have sl := wok.len okc.n
    have pm := perm_of_fault okc.nd hf
    refine ⟨_, rfl, y, _, rfl, .inl (SqL.of hY), fun hd n0 => ?_⟩
    generalize hG : upd H hd _ = H0
    have q0 : Same H H0 := hG ▸ same_new n0
    have x0 := (congrFun hG hd).symm.trans upd_same
    clear hG
    refine ⟨_, rfl, _, rfl, _, rfl, p, tb, o, hd, cs, rs, ss, ns, ys, rfl, hW.same q0, (fun s h => DT.same h s) q0 hO, SqL.of x0, by omega, hyl, by omega, okc, wok.ins, (fun i h9 => by rw [hf] at h9; cases h9), fun _ f1 fl1 H1 s1 hf1 => ?_⟩
    have s01 := q0.trans s1
    refine ⟨_, rfl, _, rfl, .list (pdi ys), .list (pdi ys), .lst (SqL.of (s1 _ _ x0)) (dp_ivs ys), .lst (SqL.of (s01 _ _ hY)) (dp_ivs ys), sh_pdi _, sh_pdi _, _, rfl, ifF (by rw [eqvL (lay_pdi _)]; rfl) ?_⟩
    refine ⟨_, rfl, _, rfl, _, rfl, ?_⟩
    dsimp only [tNil]
    refine tupO (K := K) (.inl (SqL.of (s01 _ _ hY))) fun ty H2 s2 hty => ?_
    have s02 := s01.trans s2
    refine ⟨p, tb, o, ty, cs, rs, ss, ns, ys, rfl, hW.same s02, (fun s h => DT.same h s) s02 hO, hty, by omega, hyl, by omega, okc, wok.ins, (fun i h9 => by rw [hf] at h9; cases h9), fun _ f2 fl2 H3 s3 hf2 => ?_⟩
    have s03 := s02.trans s3
    have hf1 := (s2.trans s3) _ _ hf1
    have hO3 := (fun s h => DT.same h s) s03 hO
    have hY3 := s03 _ _ hY
    have ly : (ivs ys).length = ys.length := List.length_map ..
    have mid : ∀ b : Bool, b = (decide (ys.length = ns.length) && riseB ys) → True := fun _ _ => trivial
    refine ⟨_, rfl, y, _, rfl, .inl (SqL.of hY3), _, rfl, o, _, rfl, .inr hO3.sq, rfl, _, rfl, ?_⟩
    have keyG : ∀ b : Bool, b = (decide (ys.length = ns.length) && riseB ys) → ∃ Mid : L2.St → Hp → Prop, (∀ σ G, Mid σ G → σ = [some (.ref p), some (.ref o), some (.ref y), some (.ref t), some (.ref hd), some (.ref f1), some (.ref f2), some (.bl (keepB ss ns ys))] ∧ G = H3) ∧ True := fun b hb => ⟨fun σ G => σ = [some (.ref p), some (.ref o), some (.ref y), some (.ref t), some (.ref hd), some (.ref f1), some (.ref f2), some (.bl (keepB ss ns ys))] ∧ G = H3, fun σ G h => h, trivial⟩
    clear keyG mid
    by_cases hlen : ys.length = ns.length
    · refine ifT (by rw [ly, len_sv, hlen]; exact decide_eq_true rfl) ⟨_, rfl, y, ys, rfl, SqL.of hY3, hyl, ?_⟩
      refine ⟨fun σ G => σ = [some (.ref p), some (.ref o), some (.ref y), some (.ref t), some (.ref hd), some (.ref f1), some (.ref f2), some (.bl (keepB ss ns ys))] ∧ G = H3, ?_, ?_⟩
      · cases hri : riseB ys with
        | true =>
          refine ⟨_, rfl, _, rfl, ifT rfl ?_⟩
          refine ⟨_, rfl, _, rfl, _, rfl, o, y, t, ns, ts, ss, ys, rfl, hO3, SqL.of hY3, s03.seq hTd, hTs.imp (fun t s z => s03.tup z), by omega, pm.2.1, fun s hs => pm.2.2.mem_iff.mpr (wok.ins s hs), ?_⟩
          rw [← keepB_of hlen hri]
          exact ⟨rfl, rfl⟩
        | false =>
          refine ⟨_, rfl, _, rfl, ifF rfl ?_⟩
          rw [keepB_no (by rw [hri, Bool.and_false])]
          exact ⟨rfl, rfl⟩
      rintro σ G ⟨rfl, rfl⟩
      have a1 : atI [V.str "kept", .bl (keepB ss ns ys), .ref fl1] 1 = some (.bl (keepB ss ns ys)) := atI_nat (j := 1) rfl
      have a2 : atI [V.str "kept", .bl (keepB ss ns ys), .ref fl2] 1 = some (.bl (keepB ss ns ys)) := atI_nat (j := 1) rfl
      have kk := k _ s03
      generalize keepB ss ns ys = kb at hf1 hf2 a1 a2 ⊢
      refine ⟨_, rfl, f2, _, _, _, rfl, rfl, SqT.of hf2, atI_nat (j := 0) rfl, rfl, _, rfl, ifF (by rw [decide_eq_true rfl]; rfl) ?_⟩
      refine ⟨_, rfl, f2, _, _, _, rfl, rfl, SqT.of hf2, a2, _, rfl, rfl, _, rfl, itNe rfl ?_⟩
      refine ⟨_, rfl, f1, _, _, _, rfl, rfl, SqT.of hf1, atI_nat (j := 0) rfl, rfl, _, rfl, ifT (decide_eq_true rfl) ?_⟩
      refine ⟨_, rfl, f1, _, _, _, rfl, rfl, SqT.of hf1, a1, _, _, _, _, true, rfl, .ty _, .base (.bl _), kit_ty (by decide +kernel), true, rfl, iteT ?_⟩
      refine ⟨_, rfl, f1, _, _, _, rfl, rfl, SqT.of hf1, a1, _, rfl, rfl, ?_⟩
      rw [decide_eq_true (rfl : V.bl kb = V.bl kb)]
      exact kk
    · refine ifF (by rw [ly, len_sv]; exact decide_eq_false fun z => hlen (by have := V.int.inj z; omega)) ?_
      refine ⟨fun σ G => σ = [some (.ref p), some (.ref o), some (.ref y), some (.ref t), some (.ref hd), some (.ref f1), some (.ref f2), some (.bl (keepB ss ns ys))] ∧ G = H3, ?_, ?_⟩
      · refine ⟨_, rfl, _, rfl, ifF rfl ?_⟩
        rw [keepB_no (by rw [decide_eq_false hlen]; rfl)]
        exact ⟨rfl, rfl⟩
      rintro σ G ⟨rfl, rfl⟩
      have a1 : atI [V.str "kept", .bl (keepB ss ns ys), .ref fl1] 1 = some (.bl (keepB ss ns ys)) := atI_nat (j := 1) rfl
      have a2 : atI [V.str "kept", .bl (keepB ss ns ys), .ref fl2] 1 = some (.bl (keepB ss ns ys)) := atI_nat (j := 1) rfl
      have kk := k _ s03
      generalize keepB ss ns ys = kb at hf1 hf2 a1 a2 ⊢
      refine ⟨_, rfl, f2, _, _, _, rfl, rfl, SqT.of hf2, atI_nat (j := 0) rfl, rfl, _, rfl, ifF (by rw [decide_eq_true rfl]; rfl) ?_⟩
      refine ⟨_, rfl, f2, _, _, _, rfl, rfl, SqT.of hf2, a2, _, rfl, rfl, _, rfl, itNe rfl ?_⟩
      refine ⟨_, rfl, f1, _, _, _, rfl, rfl, SqT.of hf1, atI_nat (j := 0) rfl, rfl, _, rfl, ifT (decide_eq_true rfl) ?_⟩
      refine ⟨_, rfl, f1, _, _, _, rfl, rfl, SqT.of hf1, a1, _, _, _, _, true, rfl, .ty _, .base (.bl _), kit_ty (by decide +kernel), true, rfl, iteT ?_⟩
      refine ⟨_, rfl, f1, _, _, _, rfl, rfl, SqT.of hf1, a1, _, rfl, rfl, ?_⟩
      rw [decide_eq_true (rfl : V.bl kb = V.bl kb)]
      exact kk
theorem ok_lrT (T : Txt P K mg A) : FnOk P w K mg base CX0 10 A.a_law_lots_right A.d_law_lots_right ["windows", "order", "lot", "told", "draws"] (spLR DT K A) := by
  have G_law_keeps_rightT := ok_krT (P := P) (w := w) (base := base) T
  have G_law_other_years := ok_oy (P := P) (w := w) (base := base) T
  refine T.F_law_lots_right.ok sc_law_lots_right (fun vs H Q E h => ?_) (fun cdv A' outer s H vs Q E hr h => ?_)
  · obtain ⟨p, tb, o, y, t, d, cs, rs, ss, ns, ts, ds, rfl, _⟩ := h
    rfl
  · obtain ⟨p, tb, o, y, t, d, cs, rs, ss, ns, ts, ds, rfl, hW, hO, gY, hnl, hTd, hTs, hD, hdl, okc, wok, hf, k⟩ := h
    refine ⟨_, (pss_cons (ps_for PassesOwn.never rfl (pi_list (pe_op op_cat (pe_lst (pa_cons (pv 2) pa_nil)) (pe_lc (own := [("draw", 6)]) (g := gName 6) (tt := tYes) rfl sc_law_lots_right.nd (pi_list (pv 4)) (blkOk_by (N := ["windows", "order", "lot", "told", "draws", "years", "draw"]) (sc := defScope s_law_lots_right) (by decide +kernel)) (fun _ _ _ _ _ => (pg_name (i := 6) sc_law_lots_right.nd rfl (Or.inl rfl))) (fun _ _ _ _ _ => pts_nil) (fun _ _ _ _ _ => (pe_call G_law_other_years (hr.mono (by decide)) rfl T.mg_law_other_years T.F_law_other_years.kp T.b_law_other_years .nil pass0 (pa_cons (pv 2) (pa_cons (pv 6) pa_nil))))))) (pg_name (i := 5) sc_law_lots_right.nd rfl (Or.inl rfl))
        (pss_one (ps_if (pt_not (pt_val (pe_call G_law_keeps_rightT (hr.mono (by decide)) rfl T.mg_law_keeps_right T.F_law_keeps_right.kp T.b_law_keeps_right .nil pass0 (pa_cons (pv 0) (pa_cons (pv 1) (pa_cons (pv 5) (pa_cons (pv 3) pa_nil))))))) (pss_one (ps_ret pe_bl)) pss_nil)))
      (pss_one (ps_ret pe_bl))), ?_⟩
    refine ⟨_, rfl, by show 1 ≤ sizeLine; decide, fun l1 n1 => ?_⟩
    generalize hG : upd H l1 _ = H1
    have q1 : Same H H1 := hG ▸ same_new n1
    have x1 := (congrFun hG l1).symm.trans upd_same
    clear hG
    refine ⟨_, rfl, d, rfl, ⟨_, q1.seq hD⟩, fun D nD => lc_it walk_list (fun i G => Same H1 G ∧ ∃ us : List Addr, G D = some (.lst (us.map V.ref)) ∧ us.length = i ∧ ∀ u ∈ us, GI G u 40 ∧ u ≠ D) ⟨same_new nD, [], upd_same, rfl, (fun u h => nomatch h)⟩ (fun i G _ q => (q1.trans q.1).seq hD) ?_ ?_⟩
    · rintro i x G0 G hi ⟨sG, us, hDG, hul, hus⟩ ⟨rfl, hx⟩
      obtain ⟨dv, hdv, rfl⟩ := ivs_get hx
      refine ⟨rfl, _, rfl, _, rfl, y, dv, rfl, gY.same (q1.trans sG), fun a G2 s2 na ga => ?_⟩
      have hD2 := s2 _ _ hDG
      have naD : a ≠ D := fun e => by rw [e, hDG] at na; cases na
      refine ⟨_, hD2, small_int (by rw [List.length_map]; rw [ivs_len] at hi; omega), fun b o e => by rw [upd_ne (ne_of_none e nD)]; exact s2 _ _ (sG _ _ e), us ++ [a], by rw [List.map_append]; exact upd_same, by rw [List.length_append, hul]; rfl, fun u hu => ?_⟩
      have up : ∀ u, u ≠ D → GI G2 u 40 → GI (upd G2 D (.lst (us.map V.ref ++ [V.ref a]))) u 40 := fun u hne ⟨zz, e1, e2⟩ => ⟨zz, by rw [upd_ne hne]; exact e1, e2⟩
      rcases List.mem_append.mp hu with h | h
      · exact ⟨up u (hus u h).2 ((hus u h).1.same s2), (hus u h).2⟩
      · rw [List.mem_singleton.mp h]; exact ⟨up a naD ga, naD⟩
    rintro G ⟨sG, us, hDG, hul, hus⟩
    have q1G := q1.trans sG
    refine catO (sG _ _ x1) hDG (by rw [List.length_map]; rw [ivs_len] at hul; show 1 + us.length ≤ 1000000; omega) fun PL G2 s2 n2 hPL => ?_
    have sG2 := q1G.trans s2
    have hPL : G2 PL = some (.lst ((y :: us).map V.ref)) := hPL
    have hall : ∀ u ∈ y :: us, GI G2 u 40 := fun u hu => by
      rcases List.mem_cons.mp hu with rfl | hu
      · exact (gY.same sG2).mono (by decide)
      · exact (hus u hu).1.same s2
    refine ⟨PL, rfl, ⟨_, SqL.of hPL⟩, for_it walk_list (fun i σ H2 => Same G2 H2 ∧ ∃ u5 : Option V, σ = [some (.ref p), some (.ref o), some (.ref y), some (.ref t), some (.ref d), u5, none]) ⟨Same.refl _, none, rfl⟩ (fun i σ H2 _ q => q.1.seq (SqL.of hPL)) ?_ ?_⟩
    · rintro i x σ H20 H2 hi ⟨sm, u5, rfl⟩ ⟨rfl, hx⟩
      obtain ⟨u, hu, rfl⟩ := refs_get hx
      obtain ⟨zs, hzs, hzl⟩ := (hall u (List.mem_of_getElem? hu)).same sm
      have s9 := sG2.trans sm
      exact ⟨_, rfl, _, rfl, _, rfl, _, rfl, p, tb, o, u, t, cs, rs, ss, ns, ts, zs, rfl, hW.same s9, (fun s h => DT.same h s) s9 hO, hzs, by omega, hnl, s9.seq hTd, hTs.imp (fun t s z => s9.tup z), okc, wok, hf, fun H3 s3 => ⟨_, rfl, ifF rfl ⟨sm.trans s3, _, rfl⟩⟩⟩
    · rintro σ H2 ⟨sm, _⟩
      exact k _ (sG2.trans sm)
end
end My
set_option maxRecDepth 100000
set_option maxHeartbeats 8000000
set_option exponentiation.threshold 10000
namespace My
open PySem L2
open C8 (pss_cut)
def barQ (ns : List Str) (p : Str × Str) : Bool := decide (ixZ ns p.2 < ixZ ns p.1)
section
variable {P : Program} {w : World} {K : PySem.W.Frag} {mg : Str → Option Value} {base : Heap} {A : Ad}
def spDatesQ (so : Hp → Addr → List V → Prop) (K : PySem.W.Frag) (A : Ad) : Sp := fun vs H Q _ => ∃ p tb o cs rs ss ns, vs = [.ref p, .ref o] ∧ Wns A.C_Windows A.C_Table K H p tb cs rs ss ∧ so H o (sv ns) ∧ ns.length ≤ 1000 ∧ ColsOk cs ∧ (∀ s ∈ ss, s.1 ∈ cs) ∧ (nms ss).Nodup ∧ fault cs ns = none ∧ barP cs ss ns = none ∧
  (∀ D H', Same H H' → H D = none → H' D = some (.lst (ivs (datesM ss ns))) → Q (.ref D) H')
theorem forced_len (cs : List Str) (ss : List TW) (h : cs.length ≤ 12) : (forcedD cs ss).length ≤ 1000 := by
  have := fm_len (f := fun x => (cs.filter fun y => fcd ss x y).map fun y => (x, y)) (fun a => by
    show ((cs.filter fun y => fcd ss a y).map fun y => (a, y)).length ≤ 12
    rw [List.length_map]; exact Nat.le_trans (List.length_filter_le _ _) h) cs
  have : (forcedD cs ss).length ≤ 12 * cs.length := this
  omega
theorem dates_len (ss : List TW) : ∀ ns : List Str, (datesM ss ns).length = ns.length := fun ns => by
  have key : ∀ (p q : List Str), (runY ss q).1.length = q.length → (runY ss (q ++ p)).1.length = (q ++ p).length := by
    intro p
    induction p with
    | nil => intro q h; rw [List.append_nil]; exact h
    | cons z p ih =>
      intro q h
      have e : q ++ z :: p = (q ++ [z]) ++ p := by rw [List.append_assoc]; rfl
      rw [e]
      refine ih (q ++ [z]) ?_
      have e3 : (runY ss (q ++ [z])).1 = (runY ss q).1 ++ [(runY ss (q ++ [z])).2] := by rw [runY_snoc]; rfl
      rw [e3, List.length_append, List.length_append, h]; rfl
  exact key ns [] rfl
theorem ok_dr (T : Txt P K mg A) : FnOk P w K mg base CX0 10 A.a_law_dates_right A.d_law_dates_right ["windows", "order", "told", "forced"] (spDR (SqL K) K A) := by
  have G_law_dated := ok_dated (P := P) (w := w) (base := base) T
  have G_law_due_years := ok_dueY (P := P) (w := w) (base := base) T
  have G_law_is_number := ok_isNum (P := P) (w := w) (base := base) T
  have G_Windows_dates : FnOk P w K mg base CX0 5 A.a_Windows_dates A.d_Windows_dates ["self", "order"] (spDatesQ (SqL K) K A) := quiet (ok_dates T) fun vs H Q E h => by
    obtain ⟨p, tb, o, cs, rs, ss, ns, e, hW, hO, hl, okc, hin, nn, hf, hb, k⟩ := h
    exact ⟨p, tb, o, cs, rs, ss, ns, e, hW, hO, hl, okc, hin, nn, fun i z => by (rw [hf] at z; cases z), fun a b _ z => by (rw [hb] at z; cases z), fun _ _ => k⟩
  refine T.F_law_dates_right.ok sc_law_dates_right (fun vs H Q E h => ?_) (fun cdv A' outer s H vs Q E hr h => ?_)
  · obtain ⟨p, tb, o, t, f, cs, rs, ss, ns, ts, fs, rfl, _⟩ := h
    rfl
  · obtain ⟨p, tb, o, t, f, cs, rs, ss, ns, ts, fs, rfl, hW, hO, hnl, hTd, hTs, hFd, hFs, okc, wok, hf, k⟩ := h
    refine ⟨_, (pss_cons (ps_set (i := 4) sc_law_dates_right.nd rfl (Or.inl rfl) (pe_call G_law_dated (hr.mono (by decide)) rfl T.mg_law_dated T.F_law_dated.kp T.b_law_dated .nil pass0 (pa_cons (pv 0) (pa_cons (pv 1) pa_nil))))
      (pss_cons (ps_setLc (i := 5) (own := [("pair", 8)]) (g := gName 8) (tt := _) rfl sc_law_dates_right.nd rfl rfl (sw_true rfl rfl rfl (by decide +kernel)) (pi_list (pv 3)) (blkOk_by (N := ["windows", "order", "told", "forced", "found", "against", "due", "changed", "pair", "year"]) (sc := defScope s_law_dates_right) (by decide +kernel)) (fun _ _ _ _ _ => (pg_name (i := 8) sc_law_dates_right.nd rfl (Or.inl rfl))) (fun _ _ _ _ _ => (pts_one (pt_cmpR op_lt (show PE _ _ (tBM K "list" (rIndex K) _ _) from (pe_bm PySem.F.plainAttrs_list PySem.F.slot_list_index PySem.F.type_list_index mt_index (pv 1) (pa_cons (pe_ix (show IxR _ (rIxT K) from ix_tup) (pv 8) pe_int (fun _ _ => rfl)) pa_nil))) (show PE _ _ (tBM K "list" (rIndex K) _ _) from (pe_bm PySem.F.plainAttrs_list PySem.F.slot_list_index PySem.F.type_list_index mt_index (pv 1) (pa_cons (pe_ix (show IxR _ (rIxT K) from ix_tup) (pv 8) pe_int (fun _ _ => rfl)) pa_nil))) (nomark _)))) (fun _ _ _ _ _ => (pv 8)))
      (pss_cons (ps_if (pt_cmpR op_gt (pe_callB call_len_seq (by rfl) T.n_len (by decide +kernel) (pa_cons (pv 5) pa_nil)) pe_int (nomark _)) (pss_one (ps_ret (pe_and (pe_cmpR op_eq (pe_ix ix_tup (pv 4) pe_int (fun _ _ => rfl)) pe_str (nomark _)) (pe_and (pe_cmpR (op_inD (hu65 hr)) (pe_tup (pa_cons (pe_ix ix_tup (pv 4) pe_int (fun _ _ => rfl)) (pa_cons (pe_ix ix_tup (pv 4) pe_int (fun _ _ => rfl)) pa_nil))) (pv 5) (by with_unfolding_all rfl)) (pe_one (pe_cmpR (op_eqD hr.units) (pe_ix ix_tup (pv 4) pe_int (fun _ _ => rfl)) (pe_lst (pa_cons pe_bl (pa_cons pe_bl (pa_cons pe_bl pa_nil)))) (nomark _))))))) pss_nil)
      (pss_cons (ps_set (i := 6) sc_law_dates_right.nd rfl (Or.inl rfl) (pe_call G_law_due_years (hr.mono (by decide)) rfl T.mg_law_due_years T.F_law_due_years.kp T.b_law_due_years .nil pass0 (pa_cons (pv 1) (pa_cons (pv 2) pa_nil))))
      (pss_cons (ps_if (PW.pt (pw_or (pt_cmpR op_ne (pe_ix ix_tup (pv 4) pe_int (fun _ _ => rfl)) pe_str (nomark _)) (pw_or (pt_not (pt_val (pe_callB call_isi (by rfl) T.n_isinstance (by decide +kernel) (pa_cons (pe_ix ix_tup (pv 4) pe_int (fun _ _ => rfl)) (pa_cons (pe_bltn (v := .ty "list") (by rfl) T.n_list (by decide +kernel) rfl) pa_nil))))) (pw_or1 (pt_cmpR (op_neD hr.units) (pe_ix ix_tup (pv 4) pe_int (fun _ _ => rfl)) (pv 6) (nomark _)))))) (pss_one (ps_ret pe_bl)) pss_nil)
      (pss_cons (ps_if (pt_cmpR op_gt (pe_callB call_len_seq (by rfl) T.n_len (by decide +kernel) (pa_cons (pe_lc (own := [("year", 9)]) (g := gName 9) (tt := _) rfl sc_law_dates_right.nd (pi_list (pe_ix ix_tup (pv 4) pe_int (fun _ _ => rfl))) (blkOk_by (N := ["windows", "order", "told", "forced", "found", "against", "due", "changed", "pair", "year"]) (sc := defScope s_law_dates_right) (by decide +kernel)) (fun _ _ _ _ _ => (pg_name (i := 9) sc_law_dates_right.nd rfl (Or.inl rfl))) (fun _ _ _ _ _ => (pts_one (pt_not (pt_val (pe_call G_law_is_number (hr.mono (by decide)) rfl T.mg_law_is_number T.F_law_is_number.kp T.b_law_is_number .nil pass0 (pa_cons (pv 9) (pa_cons (pe_un un_neg (pe_op op_pow pe_int pe_int)) (pa_cons (pe_op op_pow pe_int pe_int) pa_nil)))))))) (fun _ _ _ _ _ => (pv 9))) pa_nil)) pe_int (nomark _)) (pss_one (ps_ret pe_bl)) pss_nil)
      (pss_cons (ps_set (i := 7) sc_law_dates_right.nd rfl (Or.inl rfl) (pe_ix ix_tup (pv 4) pe_int (fun _ _ => rfl)))
      (pss_cons (ps_expr (pe_bm PySem.F.plainAttrs_list PySem.F.slot_list_append PySem.F.type_list_append mt_append (pv 7) (pa_cons pe_int pa_nil)))
      (pss_one (ps_ret (pe_cmpR (op_eqD hr.units) (pe_meth (pv 0) T.cl_Windows T.m_Windows_dates G_Windows_dates (hr.mono (by decide)) T.b_Windows_dates .nil pass0 (pa_cons (pv 1) pa_nil)) (pv 6) (nomark _)))))))))))), ?_⟩
    have sl := wok.len okc.n
    have pm := perm_of_fault okc.nd hf
    have fl12 : (forcedD cs ss).length ≤ 1000 := forced_len cs ss okc.n
    refine ⟨_, rfl, _, rfl, p, tb, o, cs, rs, ss, ns, rfl, hW, hO, by omega, okc, wok.ins, wok.nd, fun i z => by (rw [hf] at z; cases z), fun a b _ hbar tt fl H1 s1 htt hfl => ?_, fun _ hbar tt D fl H1 s1 nD hD htt => ?_⟩
    · refine ⟨_, rfl, f, rfl, ⟨_, s1.seq hFd⟩, fun AG nAG => lc_it walk_list (fun i H2 => Same H1 H2 ∧ ∃ us : List Addr, H2 AG = some (.lst (us.map V.ref)) ∧ Tg fS H2 us (((forcedD cs ss).take i).filter (barQ ns))) ⟨same_new nAG, [], upd_same, Tg.nil⟩ (fun i H2 _ q => (s1.trans q.1).seq hFd) ?_ ?_⟩
      · rintro i x H20 H2 hi ⟨s2, us, hAG, hus⟩ ⟨rfl, hx⟩
        obtain ⟨pt, hpt, rfl⟩ := refs_get hx
        obtain ⟨⟨za, zb⟩, hpp, hpo⟩ := hFs.get hpt
        have hpo2 := s2 _ _ (s1 _ _ hpo)
        obtain ⟨ma, mb⟩ := forced_mem (List.mem_of_getElem? hpp)
        obtain ⟨ia, eia, hia⟩ := ixZ_at (pm.2.2.mem_iff.mpr ma)
        obtain ⟨ib, eib, hib⟩ := ixZ_at (pm.2.2.mem_iff.mpr mb)
        have eia : ixZ ns za = ((ia : Nat) : Int) := eia
        have eib : ixZ ns zb = ((ib : Nat) : Int) := eib
        have fa : ∀ m, m < ia → ns[m]? ≠ some za := fun m hm e => by
          have a : ixZ ns za = ((ia : Nat) : Int) := ixZ_of pm.2.1 hia
          have b : ixZ ns za = ((m : Nat) : Int) := ixZ_of pm.2.1 e
          omega
        have fb : ∀ m, m < ib → ns[m]? ≠ some zb := fun m hm e => by
          have a : ixZ ns zb = ((ib : Nat) : Int) := ixZ_of pm.2.1 hib
          have b : ixZ ns zb = ((m : Nat) : Int) := ixZ_of pm.2.1 e
          omega
        have hO3 := Same.seq (s1.trans s2) hO
        have p0 : atI (fS (za, zb)) 0 = some (.str za) := atI_nat (j := 0) rfl
        have p1 : atI (fS (za, zb)) 1 = some (.str zb) := atI_nat (j := 1) rfl
        refine ⟨rfl, ?_⟩
        refine ⟨_, rfl, .inl ⟨rfl, _, hO3⟩, _, rfl, pt, _, _, _, rfl, rfl, SqT.of hpo2, p1, o, sv ns, .str zb, ib, .str zb, rfl, rfl, hO3, rfl, flat_sv _, by rw [List.getElem?_map, hib]; rfl, by rw [eqV_str]; exact decide_eq_true rfl, fun m z' hm hz' => by (obtain ⟨yy, hyy, rfl⟩ := sv_get hz'; rw [eqV_str]; exact decide_eq_false fun e => fb m hm (by rw [hyy, e])), ?_⟩
        refine ⟨_, rfl, .inl ⟨rfl, _, hO3⟩, _, rfl, pt, _, _, _, rfl, rfl, SqT.of hpo2, p0, o, sv ns, .str za, ia, .str za, rfl, rfl, hO3, rfl, flat_sv _, by rw [List.getElem?_map, hia]; rfl, by rw [eqV_str]; exact decide_eq_true rfl, fun m z' hm hz' => by (obtain ⟨yy, hyy, rfl⟩ := sv_get hz'; rw [eqV_str]; exact decide_eq_false fun e => fa m hm (by rw [hyy, e])), _, _, rfl, rfl, _, rfl, ?_⟩
        by_cases hlt : ((ib : Nat) : Int) < ((ia : Nat) : Int)
        · have hq : barQ ns (za, zb) = true := decide_eq_true (by show ixZ ns zb < ixZ ns za; omega)
          refine itY hlt ⟨_, rfl, _, hAG, small_int (by rw [List.length_map, hus.len]; have := List.length_filter_le (barQ ns) ((forcedD cs ss).take i); rw [List.length_take] at this; omega), ?_⟩
          refine ⟨fun b o e => by rw [upd_ne (ne_of_none e nAG)]; exact s2 _ _ e, us ++ [pt], by rw [List.map_append]; exact upd_same, ?_⟩
          rw [take_succ hpp, List.filter_append, List.filter_cons_of_pos (by exact hq), List.filter_nil]
          exact (hus.snoc (t := pt) (s := (za, zb)) hpo2).updL hAG
        · have hq : barQ ns (za, zb) = false := decide_eq_false (by show ¬ ixZ ns zb < ixZ ns za; omega)
          refine itN hlt ⟨s2, us, hAG, ?_⟩
          rw [take_succ hpp, List.filter_append, List.filter_cons_of_neg (by rw [hq]; exact Bool.false_ne_true), List.filter_nil, List.append_nil]
          exact hus
      rintro H2 ⟨s2, us, hAG, hus⟩
      rw [List.length_map, hFs.len, List.take_length] at hus
      have hm : (a, b) ∈ (forcedD cs ss).filter (barQ ns) := by
        unfold barP at hbar
        rw [List.mem_filter]
        exact ⟨List.mem_of_find?_eq_some hbar, by have := List.find?_some hbar; exact this⟩
      have hpos : 0 < us.length := by rw [hus.len]; exact List.length_pos_of_mem hm
      refine ⟨_, rfl, AG, _, rfl, .inl (SqL.of hAG), _, _, rfl, rfl, _, rfl, ifT (decide_eq_true (by rw [List.length_map]; omega)) ?_⟩
      have htt2 := s2 _ _ htt
      have hfl2 := s2 _ _ hfl
      refine ⟨_, rfl, tt, _, _, _, rfl, rfl, SqT.of htt2, atI_nat (j := 0) rfl, rfl, _, rfl, ifT (decide_eq_true rfl) ?_⟩
      have a2 : atI [V.str "bar", .str b, .str a, .ref fl] 2 = some (.str a) := atI_nat (j := 2) rfl
      have a1 : atI [V.str "bar", .str b, .str a, .ref fl] 1 = some (.str b) := atI_nat (j := 1) rfl
      have a3 : atI [V.str "bar", .str b, .str a, .ref fl] 3 = some (.ref fl) := atI_nat (j := 3) rfl
      refine ⟨_, rfl, tt, _, _, _, rfl, rfl, SqT.of htt2, a2, _, rfl, tt, _, _, _, rfl, rfl, SqT.of htt2, a1, by show 2 ≤ sizeLine; decide, fun tn nn => ?_⟩
      generalize hG : upd H2 tn _ = H3
      have q3 : Same H2 H3 := hG ▸ same_new nn
      have x3 := (congrFun hG tn).symm.trans upd_same
      clear hG
      have mf := forced_mem (List.mem_filter.mp hm).1
      have okt : ∀ z ∈ [a, b], Okz z := fun z hz => by
        rcases List.mem_cons.mp hz with rfl | hz
        · exact okz_good (okc.g _ mf.1)
        · rw [List.mem_singleton.mp hz]; exact okz_good (okc.g _ mf.2)
      have gR : ∀ r ∈ ((forcedD cs ss).filter (barQ ns)).map (fun p => [p.1, p.2]), ∀ z ∈ r, Okz z := fun r hr9 => forced_good (fun z hz => okc.g z hz) r (by
        obtain ⟨q, hq, e⟩ := List.mem_map.mp hr9
        exact List.mem_map.mpr ⟨q, (List.mem_filter.mp hq).1, e⟩)
      refine ⟨_, rfl, .tuple (pd [a, b]), pdd (((forcedD cs ss).filter (barQ ns)).map fun p => [p.1, p.2]), .tup (xs := sv [a, b]) (SqT.of x3) (dp_pd _), .lst (SqL.of (q3 _ _ hAG)) (dp_pdd (hus.same q3).lss), shaped_pdT okt, shaped_pdd gR, ?_⟩
      rw [any_pdd, mem_pr, decide_eq_true hm]
      refine ⟨_, rfl, ifT rfl ⟨_, rfl, tt, _, _, _, rfl, rfl, SqT.of (q3 _ _ htt2), a3, by show 3 ≤ sizeLine; decide, fun l3 n3 => ?_⟩⟩
      generalize hG : upd H3 l3 _ = H4
      have q4 : Same H3 H4 := hG ▸ same_new n3
      have x4 := (congrFun hG l3).symm.trans upd_same
      clear hG
      refine ⟨.list [.bool true, .bool true, .bool false], .list [.bool true, .bool true, .bool false], .lst (SqL.of (q4 _ _ (q3 _ _ hfl2))) (dpAll_bl [true, true, false]), .lst (SqL.of x4) (dpAll_bl [true, true, false]), by decide, by decide, ?_⟩
      exact k _ (s1.trans (s2.trans (q3.trans q4)))
    · refine ⟨_, rfl, f, rfl, ⟨_, s1.seq hFd⟩, fun AG nAG => lc_it walk_list (fun i H2 => Same H1 H2 ∧ ∃ us : List Addr, H2 AG = some (.lst (us.map V.ref)) ∧ Tg fS H2 us (((forcedD cs ss).take i).filter (barQ ns))) ⟨same_new nAG, [], upd_same, Tg.nil⟩ (fun i H2 _ q => (s1.trans q.1).seq hFd) ?_ ?_⟩
      · rintro i x H20 H2 hi ⟨s2, us, hAG, hus⟩ ⟨rfl, hx⟩
        obtain ⟨pt, hpt, rfl⟩ := refs_get hx
        obtain ⟨⟨za, zb⟩, hpp, hpo⟩ := hFs.get hpt
        have hpo2 := s2 _ _ (s1 _ _ hpo)
        obtain ⟨ma, mb⟩ := forced_mem (List.mem_of_getElem? hpp)
        obtain ⟨ia, eia, hia⟩ := ixZ_at (pm.2.2.mem_iff.mpr ma)
        obtain ⟨ib, eib, hib⟩ := ixZ_at (pm.2.2.mem_iff.mpr mb)
        have eia : ixZ ns za = ((ia : Nat) : Int) := eia
        have eib : ixZ ns zb = ((ib : Nat) : Int) := eib
        have fa : ∀ m, m < ia → ns[m]? ≠ some za := fun m hm e => by
          have a : ixZ ns za = ((ia : Nat) : Int) := ixZ_of pm.2.1 hia
          have b : ixZ ns za = ((m : Nat) : Int) := ixZ_of pm.2.1 e
          omega
        have fb : ∀ m, m < ib → ns[m]? ≠ some zb := fun m hm e => by
          have a : ixZ ns zb = ((ib : Nat) : Int) := ixZ_of pm.2.1 hib
          have b : ixZ ns zb = ((m : Nat) : Int) := ixZ_of pm.2.1 e
          omega
        have hO3 := Same.seq (s1.trans s2) hO
        have p0 : atI (fS (za, zb)) 0 = some (.str za) := atI_nat (j := 0) rfl
        have p1 : atI (fS (za, zb)) 1 = some (.str zb) := atI_nat (j := 1) rfl
        refine ⟨rfl, ?_⟩
        refine ⟨_, rfl, .inl ⟨rfl, _, hO3⟩, _, rfl, pt, _, _, _, rfl, rfl, SqT.of hpo2, p1, o, sv ns, .str zb, ib, .str zb, rfl, rfl, hO3, rfl, flat_sv _, by rw [List.getElem?_map, hib]; rfl, by rw [eqV_str]; exact decide_eq_true rfl, fun m z' hm hz' => by (obtain ⟨yy, hyy, rfl⟩ := sv_get hz'; rw [eqV_str]; exact decide_eq_false fun e => fb m hm (by rw [hyy, e])), ?_⟩
        refine ⟨_, rfl, .inl ⟨rfl, _, hO3⟩, _, rfl, pt, _, _, _, rfl, rfl, SqT.of hpo2, p0, o, sv ns, .str za, ia, .str za, rfl, rfl, hO3, rfl, flat_sv _, by rw [List.getElem?_map, hia]; rfl, by rw [eqV_str]; exact decide_eq_true rfl, fun m z' hm hz' => by (obtain ⟨yy, hyy, rfl⟩ := sv_get hz'; rw [eqV_str]; exact decide_eq_false fun e => fa m hm (by rw [hyy, e])), _, _, rfl, rfl, _, rfl, ?_⟩
        by_cases hlt : ((ib : Nat) : Int) < ((ia : Nat) : Int)
        · have hq : barQ ns (za, zb) = true := decide_eq_true (by show ixZ ns zb < ixZ ns za; omega)
          refine itY hlt ⟨_, rfl, _, hAG, small_int (by rw [List.length_map, hus.len]; have := List.length_filter_le (barQ ns) ((forcedD cs ss).take i); rw [List.length_take] at this; omega), ?_⟩
          refine ⟨fun b o e => by rw [upd_ne (ne_of_none e nAG)]; exact s2 _ _ e, us ++ [pt], by rw [List.map_append]; exact upd_same, ?_⟩
          rw [take_succ hpp, List.filter_append, List.filter_cons_of_pos (by exact hq), List.filter_nil]
          exact (hus.snoc (t := pt) (s := (za, zb)) hpo2).updL hAG
        · have hq : barQ ns (za, zb) = false := decide_eq_false (by show ¬ ixZ ns zb < ixZ ns za; omega)
          refine itN hlt ⟨s2, us, hAG, ?_⟩
          rw [take_succ hpp, List.filter_append, List.filter_cons_of_neg (by rw [hq]; exact Bool.false_ne_true), List.filter_nil, List.append_nil]
          exact hus
      rintro H2 ⟨s2, us, hAG, hus⟩
      rw [List.length_map, hFs.len, List.take_length] at hus
      have hnil : (forcedD cs ss).filter (barQ ns) = [] := by
        unfold barP at hbar
        rw [List.filter_eq_nil_iff]
        exact List.find?_eq_none.mp hbar
      have hz : us.length = 0 := by rw [hus.len, hnil]; rfl
      refine ⟨_, rfl, AG, _, rfl, .inl (SqL.of hAG), _, _, rfl, rfl, _, rfl, ifF (decide_eq_false (by rw [List.length_map, hz]; decide)) ?_⟩
      have htt2 := s2 _ _ htt
      have s12 := s1.trans s2
      have hD2 := s2 _ _ hD
      have a1 : atI [V.str "years", .ref D, .non, .ref fl] 1 = some (.ref D) := atI_nat (j := 1) rfl
      refine ⟨_, rfl, _, rfl, o, t, ns, ts, ss, cs, rfl, Same.seq s12 hO, s12.seq hTd, hTs.imp (fun t s z => s12.tup z), hnl, sl, wok, fun DU H3 s3 nDU hDU => ?_⟩
      have htt3 := s3 _ _ htt2
      have hD3 := s3 _ _ hD2
      have s13 := s12.trans s3
      have rl : (datesM ss ns).length ≤ 12 := by rw [dates_len]; exact hnl
      refine ⟨_, rfl, tt, _, _, _, rfl, rfl, SqT.of htt3, atI_nat (j := 0) rfl, rfl, _, rfl, ifF (by rw [decide_eq_true rfl]; rfl) ?_⟩
      refine ⟨_, rfl, tt, _, _, _, rfl, rfl, SqT.of htt3, a1, _, _, _, _, true, rfl, .ty _, .base (.lst hD3), kit_ty (by decide +kernel), true, rfl, ifF rfl ?_⟩
      refine ⟨_, rfl, tt, _, _, _, rfl, rfl, SqT.of htt3, a1, _, rfl, .list (pdi (datesM ss ns)), .list (pdi (datesM ss ns)), .lst (SqL.of hD3) (dp_ivs _), .lst (SqL.of hDU) (dp_ivs _), sh_pdi _, sh_pdi _, _, rfl, ifF (by rw [eqvL (lay_pdi _)]; rfl) ?_⟩
      refine ⟨_, rfl, tt, _, _, _, rfl, rfl, SqT.of htt3, a1, D, rfl, ⟨_, SqL.of hD3⟩, fun GG nG => lc_it walk_list (fun i H4 => Same H3 H4 ∧ H4 GG = some (.lst [])) ⟨same_new nG, upd_same⟩ (fun i H4 _ q => q.1.seq (SqL.of hD3)) ?_ ?_⟩
      · rintro i x H40 H4 hi ⟨s4, hG⟩ ⟨rfl, hx⟩
        obtain ⟨yv, hyv, rfl⟩ := ivs_get hx
        have hb := run_bd wok ns yv (List.mem_of_getElem? hyv)
        refine ⟨rfl, ?_⟩
        refine ⟨_, rfl, _, _, rfl, rfl, ⟨by decide, by decide⟩, _, rfl, _, _, rfl, rfl, ⟨by decide, by decide⟩, yv, _, _, rfl, ?_⟩
        have e6 : decide (-(10 : Int) ^ (6 : Int).toNat ≤ yv ∧ yv ≤ (10 : Int) ^ (6 : Int).toNat) = true := decide_eq_true hb
        rw [e6]
        exact ⟨_, rfl, ifF rfl ⟨s4, hG⟩⟩
      rintro H4 ⟨s4, hG⟩
      refine ⟨GG, _, rfl, .inl (SqL.of hG), _, _, rfl, rfl, _, rfl, ifF rfl ?_⟩
      have htt4 := s4 _ _ htt3
      have hD4 := s4 _ _ hD3
      have hDU4 := s4 _ _ hDU
      have nDU4 : DU ≠ D := fun e => by rw [e, hD2] at nDU; cases nDU
      refine ⟨_, rfl, tt, _, _, _, rfl, rfl, SqT.of htt4, a1, ?_⟩
      refine ⟨_, rfl, .inl ⟨rfl, _, SqL.of hD4⟩, D, _, _, rfl, rfl, hD4, small_int (by rw [ivs_len]; omega), ?_⟩
      have sH : Same H (upd H4 D (.lst (ivs (datesM ss ns) ++ [V.int 0]))) := fun b o e => by rw [upd_ne (ne_of_none e nD)]; exact s4 _ _ (s13 _ _ e)
      have hDU5 : upd H4 D (.lst (ivs (datesM ss ns) ++ [V.int 0])) DU = some (.lst (ivs (datesM ss ns))) := by rw [upd_ne nDU4]; exact hDU4
      generalize upd H4 D _ = H5 at sH hDU5 ⊢
      have hW5 := hW.same sH
      obtain ⟨dx, ut, us9, h15, _⟩ := id hW5
      refine ⟨_, rfl, p, dx, _, rfl, h15, fldsS_dates _ _, _, rfl, p, tb, o, cs, rs, ss, ns, rfl, hW5, Same.seq sH hO, by omega, okc, wok.ins, wok.nd, hf, hbar, fun D9 H9 s9 n9 hD9 => ?_⟩
      refine ⟨_, rfl, .list (pdi (datesM ss ns)), .list (pdi (datesM ss ns)), .lst (SqL.of hD9) (dp_ivs _), .lst (SqL.of (s9 _ _ hDU5)) (dp_ivs _), sh_pdi _, sh_pdi _, ?_⟩
      rw [eqvL (lay_pdi _)]
      exact k _ (sH.trans s9)
theorem ok_drT (T : Txt P K mg A) : FnOk P w K mg base CX0 10 A.a_law_dates_right A.d_law_dates_right ["windows", "order", "told", "forced"] (spDR DT K A) := by
  have G_law_datedT := ok_datedT (P := P) (w := w) (base := base) T
  have G_law_due_yearsT := ok_dueYT (P := P) (w := w) (base := base) T
  have G_law_is_number := ok_isNum (P := P) (w := w) (base := base) T
  have G_Windows_datesT : FnOk P w K mg base CX0 5 A.a_Windows_dates A.d_Windows_dates ["self", "order"] (spDatesQ DT K A) := quiet (ok_datesT T) fun vs H Q E h => by
    obtain ⟨p, tb, o, cs, rs, ss, ns, e, hW, hO, hl, okc, hin, nn, hf, hb, k⟩ := h
    exact ⟨p, tb, o, cs, rs, ss, ns, e, hW, hO, hl, okc, hin, nn, fun i z => by (rw [hf] at z; cases z), fun a b _ z => by (rw [hb] at z; cases z), fun _ _ => k⟩
  refine T.F_law_dates_right.ok sc_law_dates_right (fun vs H Q E h => ?_) (fun cdv A' outer s H vs Q E hr h => ?_)
  · obtain ⟨p, tb, o, t, f, cs, rs, ss, ns, ts, fs, rfl, _⟩ := h
    rfl
  · obtain ⟨p, tb, o, t, f, cs, rs, ss, ns, ts, fs, rfl, hW, hO, hnl, hTd, hTs, hFd, hFs, okc, wok, hf, k⟩ := h
    refine ⟨_, (pss_cons (ps_set (i := 4) sc_law_dates_right.nd rfl (Or.inl rfl) (pe_call G_law_datedT (hr.mono (by decide)) rfl T.mg_law_dated T.F_law_dated.kp T.b_law_dated .nil pass0 (pa_cons (pv 0) (pa_cons (pv 1) pa_nil))))
      (pss_cons (ps_setLc (i := 5) (own := [("pair", 8)]) (g := gName 8) (tt := _) rfl sc_law_dates_right.nd rfl rfl (sw_true rfl rfl rfl (by decide +kernel)) (pi_list (pv 3)) (blkOk_by (N := ["windows", "order", "told", "forced", "found", "against", "due", "changed", "pair", "year"]) (sc := defScope s_law_dates_right) (by decide +kernel)) (fun _ _ _ _ _ => (pg_name (i := 8) sc_law_dates_right.nd rfl (Or.inl rfl))) (fun _ _ _ _ _ => (pts_one (pt_cmpR op_lt (show PE _ _ (tBMT (rTIx K) _ _) from (pe_bmT PySem.F.plainAttrs_tuple PySem.F.slot_tuple_index PySem.F.type_tuple_index mt_tIx (pv 1) (pa_cons (pe_ix (show IxR _ (rIxT K) from ix_tup) (pv 8) pe_int (fun _ _ => rfl)) pa_nil))) (show PE _ _ (tBMT (rTIx K) _ _) from (pe_bmT PySem.F.plainAttrs_tuple PySem.F.slot_tuple_index PySem.F.type_tuple_index mt_tIx (pv 1) (pa_cons (pe_ix (show IxR _ (rIxT K) from ix_tup) (pv 8) pe_int (fun _ _ => rfl)) pa_nil))) (nomark _)))) (fun _ _ _ _ _ => (pv 8)))
      (pss_cons (ps_if (pt_cmpR op_gt (pe_callB call_len_seq (by rfl) T.n_len (by decide +kernel) (pa_cons (pv 5) pa_nil)) pe_int (nomark _)) (pss_one (ps_ret (pe_and (pe_cmpR op_eq (pe_ix ix_tup (pv 4) pe_int (fun _ _ => rfl)) pe_str (nomark _)) (pe_and (pe_cmpR (op_inD (hu65 hr)) (pe_tup (pa_cons (pe_ix ix_tup (pv 4) pe_int (fun _ _ => rfl)) (pa_cons (pe_ix ix_tup (pv 4) pe_int (fun _ _ => rfl)) pa_nil))) (pv 5) (by with_unfolding_all rfl)) (pe_one (pe_cmpR (op_eqD hr.units) (pe_ix ix_tup (pv 4) pe_int (fun _ _ => rfl)) (pe_lst (pa_cons pe_bl (pa_cons pe_bl (pa_cons pe_bl pa_nil)))) (nomark _))))))) pss_nil)
      (pss_cons (ps_set (i := 6) sc_law_dates_right.nd rfl (Or.inl rfl) (pe_call G_law_due_yearsT (hr.mono (by decide)) rfl T.mg_law_due_years T.F_law_due_years.kp T.b_law_due_years .nil pass0 (pa_cons (pv 1) (pa_cons (pv 2) pa_nil))))
      (pss_cons (ps_if (PW.pt (pw_or (pt_cmpR op_ne (pe_ix ix_tup (pv 4) pe_int (fun _ _ => rfl)) pe_str (nomark _)) (pw_or (pt_not (pt_val (pe_callB call_isi (by rfl) T.n_isinstance (by decide +kernel) (pa_cons (pe_ix ix_tup (pv 4) pe_int (fun _ _ => rfl)) (pa_cons (pe_bltn (v := .ty "list") (by rfl) T.n_list (by decide +kernel) rfl) pa_nil))))) (pw_or1 (pt_cmpR (op_neD hr.units) (pe_ix ix_tup (pv 4) pe_int (fun _ _ => rfl)) (pv 6) (nomark _)))))) (pss_one (ps_ret pe_bl)) pss_nil)
      (pss_cons (ps_if (pt_cmpR op_gt (pe_callB call_len_seq (by rfl) T.n_len (by decide +kernel) (pa_cons (pe_lc (own := [("year", 9)]) (g := gName 9) (tt := _) rfl sc_law_dates_right.nd (pi_list (pe_ix ix_tup (pv 4) pe_int (fun _ _ => rfl))) (blkOk_by (N := ["windows", "order", "told", "forced", "found", "against", "due", "changed", "pair", "year"]) (sc := defScope s_law_dates_right) (by decide +kernel)) (fun _ _ _ _ _ => (pg_name (i := 9) sc_law_dates_right.nd rfl (Or.inl rfl))) (fun _ _ _ _ _ => (pts_one (pt_not (pt_val (pe_call G_law_is_number (hr.mono (by decide)) rfl T.mg_law_is_number T.F_law_is_number.kp T.b_law_is_number .nil pass0 (pa_cons (pv 9) (pa_cons (pe_un un_neg (pe_op op_pow pe_int pe_int)) (pa_cons (pe_op op_pow pe_int pe_int) pa_nil)))))))) (fun _ _ _ _ _ => (pv 9))) pa_nil)) pe_int (nomark _)) (pss_one (ps_ret pe_bl)) pss_nil)
      (pss_cons (ps_set (i := 7) sc_law_dates_right.nd rfl (Or.inl rfl) (pe_ix ix_tup (pv 4) pe_int (fun _ _ => rfl)))
      (pss_cons (ps_expr (pe_bm PySem.F.plainAttrs_list PySem.F.slot_list_append PySem.F.type_list_append mt_append (pv 7) (pa_cons pe_int pa_nil)))
      (pss_one (ps_ret (pe_cmpR (op_eqD hr.units) (pe_meth (pv 0) T.cl_Windows T.m_Windows_dates G_Windows_datesT (hr.mono (by decide)) T.b_Windows_dates .nil pass0 (pa_cons (pv 1) pa_nil)) (pv 6) (nomark _)))))))))))), ?_⟩
    have sl := wok.len okc.n
    have pm := perm_of_fault okc.nd hf
    have fl12 : (forcedD cs ss).length ≤ 1000 := forced_len cs ss okc.n
    refine ⟨_, rfl, _, rfl, p, tb, o, cs, rs, ss, ns, rfl, hW, hO, by omega, okc, wok.ins, wok.nd, fun i z => by (rw [hf] at z; cases z), fun a b _ hbar tt fl H1 s1 htt hfl => ?_, fun _ hbar tt D fl H1 s1 nD hD htt => ?_⟩
    · refine ⟨_, rfl, f, rfl, ⟨_, s1.seq hFd⟩, fun AG nAG => lc_it walk_list (fun i H2 => Same H1 H2 ∧ ∃ us : List Addr, H2 AG = some (.lst (us.map V.ref)) ∧ Tg fS H2 us (((forcedD cs ss).take i).filter (barQ ns))) ⟨same_new nAG, [], upd_same, Tg.nil⟩ (fun i H2 _ q => (s1.trans q.1).seq hFd) ?_ ?_⟩
      · rintro i x H20 H2 hi ⟨s2, us, hAG, hus⟩ ⟨rfl, hx⟩
        obtain ⟨pt, hpt, rfl⟩ := refs_get hx
        obtain ⟨⟨za, zb⟩, hpp, hpo⟩ := hFs.get hpt
        have hpo2 := s2 _ _ (s1 _ _ hpo)
        obtain ⟨ma, mb⟩ := forced_mem (List.mem_of_getElem? hpp)
        obtain ⟨ia, eia, hia⟩ := ixZ_at (pm.2.2.mem_iff.mpr ma)
        obtain ⟨ib, eib, hib⟩ := ixZ_at (pm.2.2.mem_iff.mpr mb)
        have eia : ixZ ns za = ((ia : Nat) : Int) := eia
        have eib : ixZ ns zb = ((ib : Nat) : Int) := eib
        have fa : ∀ m, m < ia → ns[m]? ≠ some za := fun m hm e => by
          have a : ixZ ns za = ((ia : Nat) : Int) := ixZ_of pm.2.1 hia
          have b : ixZ ns za = ((m : Nat) : Int) := ixZ_of pm.2.1 e
          omega
        have fb : ∀ m, m < ib → ns[m]? ≠ some zb := fun m hm e => by
          have a : ixZ ns zb = ((ib : Nat) : Int) := ixZ_of pm.2.1 hib
          have b : ixZ ns zb = ((m : Nat) : Int) := ixZ_of pm.2.1 e
          omega
        have hO3 := (fun s h => DT.same h s) (s1.trans s2) hO
        have p0 : atI (fS (za, zb)) 0 = some (.str za) := atI_nat (j := 0) rfl
        have p1 : atI (fS (za, zb)) 1 = some (.str zb) := atI_nat (j := 1) rfl
        refine ⟨rfl, ?_⟩
        refine ⟨_, rfl, ⟨o, _, rfl, hO3⟩, _, rfl, pt, _, _, _, rfl, rfl, SqT.of hpo2, p1, o, ns, zb, ib, rfl, rfl, hO3.sq, hib, fb, ?_⟩
        refine ⟨_, rfl, ⟨o, _, rfl, hO3⟩, _, rfl, pt, _, _, _, rfl, rfl, SqT.of hpo2, p0, o, ns, za, ia, rfl, rfl, hO3.sq, hia, fa, _, _, rfl, rfl, _, rfl, ?_⟩
        by_cases hlt : ((ib : Nat) : Int) < ((ia : Nat) : Int)
        · have hq : barQ ns (za, zb) = true := decide_eq_true (by show ixZ ns zb < ixZ ns za; omega)
          refine itY hlt ⟨_, rfl, _, hAG, small_int (by rw [List.length_map, hus.len]; have := List.length_filter_le (barQ ns) ((forcedD cs ss).take i); rw [List.length_take] at this; omega), ?_⟩
          refine ⟨fun b o e => by rw [upd_ne (ne_of_none e nAG)]; exact s2 _ _ e, us ++ [pt], by rw [List.map_append]; exact upd_same, ?_⟩
          rw [take_succ hpp, List.filter_append, List.filter_cons_of_pos (by exact hq), List.filter_nil]
          exact (hus.snoc (t := pt) (s := (za, zb)) hpo2).updL hAG
        · have hq : barQ ns (za, zb) = false := decide_eq_false (by show ¬ ixZ ns zb < ixZ ns za; omega)
          refine itN hlt ⟨s2, us, hAG, ?_⟩
          rw [take_succ hpp, List.filter_append, List.filter_cons_of_neg (by rw [hq]; exact Bool.false_ne_true), List.filter_nil, List.append_nil]
          exact hus
      rintro H2 ⟨s2, us, hAG, hus⟩
      rw [List.length_map, hFs.len, List.take_length] at hus
      have hm : (a, b) ∈ (forcedD cs ss).filter (barQ ns) := by
        unfold barP at hbar
        rw [List.mem_filter]
        exact ⟨List.mem_of_find?_eq_some hbar, by have := List.find?_some hbar; exact this⟩
      have hpos : 0 < us.length := by rw [hus.len]; exact List.length_pos_of_mem hm
      refine ⟨_, rfl, AG, _, rfl, .inl (SqL.of hAG), _, _, rfl, rfl, _, rfl, ifT (decide_eq_true (by rw [List.length_map]; omega)) ?_⟩
      have htt2 := s2 _ _ htt
      have hfl2 := s2 _ _ hfl
      refine ⟨_, rfl, tt, _, _, _, rfl, rfl, SqT.of htt2, atI_nat (j := 0) rfl, rfl, _, rfl, ifT (decide_eq_true rfl) ?_⟩
      have a2 : atI [V.str "bar", .str b, .str a, .ref fl] 2 = some (.str a) := atI_nat (j := 2) rfl
      have a1 : atI [V.str "bar", .str b, .str a, .ref fl] 1 = some (.str b) := atI_nat (j := 1) rfl
      have a3 : atI [V.str "bar", .str b, .str a, .ref fl] 3 = some (.ref fl) := atI_nat (j := 3) rfl
      refine ⟨_, rfl, tt, _, _, _, rfl, rfl, SqT.of htt2, a2, _, rfl, tt, _, _, _, rfl, rfl, SqT.of htt2, a1, by show 2 ≤ sizeLine; decide, fun tn nn => ?_⟩
      generalize hG : upd H2 tn _ = H3
      have q3 : Same H2 H3 := hG ▸ same_new nn
      have x3 := (congrFun hG tn).symm.trans upd_same
      clear hG
      have mf := forced_mem (List.mem_filter.mp hm).1
      have okt : ∀ z ∈ [a, b], Okz z := fun z hz => by
        rcases List.mem_cons.mp hz with rfl | hz
        · exact okz_good (okc.g _ mf.1)
        · rw [List.mem_singleton.mp hz]; exact okz_good (okc.g _ mf.2)
      have gR : ∀ r ∈ ((forcedD cs ss).filter (barQ ns)).map (fun p => [p.1, p.2]), ∀ z ∈ r, Okz z := fun r hr9 => forced_good (fun z hz => okc.g z hz) r (by
        obtain ⟨q, hq, e⟩ := List.mem_map.mp hr9
        exact List.mem_map.mpr ⟨q, (List.mem_filter.mp hq).1, e⟩)
      refine ⟨_, rfl, .tuple (pd [a, b]), pdd (((forcedD cs ss).filter (barQ ns)).map fun p => [p.1, p.2]), .tup (xs := sv [a, b]) (SqT.of x3) (dp_pd _), .lst (SqL.of (q3 _ _ hAG)) (dp_pdd (hus.same q3).lss), shaped_pdT okt, shaped_pdd gR, ?_⟩
      rw [any_pdd, mem_pr, decide_eq_true hm]
      refine ⟨_, rfl, ifT rfl ⟨_, rfl, tt, _, _, _, rfl, rfl, SqT.of (q3 _ _ htt2), a3, by show 3 ≤ sizeLine; decide, fun l3 n3 => ?_⟩⟩
      generalize hG : upd H3 l3 _ = H4
      have q4 : Same H3 H4 := hG ▸ same_new n3
      have x4 := (congrFun hG l3).symm.trans upd_same
      clear hG
      refine ⟨.list [.bool true, .bool true, .bool false], .list [.bool true, .bool true, .bool false], .lst (SqL.of (q4 _ _ (q3 _ _ hfl2))) (dpAll_bl [true, true, false]), .lst (SqL.of x4) (dpAll_bl [true, true, false]), by decide, by decide, ?_⟩
      exact k _ (s1.trans (s2.trans (q3.trans q4)))
    · refine ⟨_, rfl, f, rfl, ⟨_, s1.seq hFd⟩, fun AG nAG => lc_it walk_list (fun i H2 => Same H1 H2 ∧ ∃ us : List Addr, H2 AG = some (.lst (us.map V.ref)) ∧ Tg fS H2 us (((forcedD cs ss).take i).filter (barQ ns))) ⟨same_new nAG, [], upd_same, Tg.nil⟩ (fun i H2 _ q => (s1.trans q.1).seq hFd) ?_ ?_⟩
      · rintro i x H20 H2 hi ⟨s2, us, hAG, hus⟩ ⟨rfl, hx⟩
        obtain ⟨pt, hpt, rfl⟩ := refs_get hx
        obtain ⟨⟨za, zb⟩, hpp, hpo⟩ := hFs.get hpt
        have hpo2 := s2 _ _ (s1 _ _ hpo)
        obtain ⟨ma, mb⟩ := forced_mem (List.mem_of_getElem? hpp)
        obtain ⟨ia, eia, hia⟩ := ixZ_at (pm.2.2.mem_iff.mpr ma)
        obtain ⟨ib, eib, hib⟩ := ixZ_at (pm.2.2.mem_iff.mpr mb)
        have eia : ixZ ns za = ((ia : Nat) : Int) := eia
        have eib : ixZ ns zb = ((ib : Nat) : Int) := eib
        have fa : ∀ m, m < ia → ns[m]? ≠ some za := fun m hm e => by
          have a : ixZ ns za = ((ia : Nat) : Int) := ixZ_of pm.2.1 hia
          have b : ixZ ns za = ((m : Nat) : Int) := ixZ_of pm.2.1 e
          omega
        have fb : ∀ m, m < ib → ns[m]? ≠ some zb := fun m hm e => by
          have a : ixZ ns zb = ((ib : Nat) : Int) := ixZ_of pm.2.1 hib
          have b : ixZ ns zb = ((m : Nat) : Int) := ixZ_of pm.2.1 e
          omega
        have hO3 := (fun s h => DT.same h s) (s1.trans s2) hO
        have p0 : atI (fS (za, zb)) 0 = some (.str za) := atI_nat (j := 0) rfl
        have p1 : atI (fS (za, zb)) 1 = some (.str zb) := atI_nat (j := 1) rfl
        refine ⟨rfl, ?_⟩
        refine ⟨_, rfl, ⟨o, _, rfl, hO3⟩, _, rfl, pt, _, _, _, rfl, rfl, SqT.of hpo2, p1, o, ns, zb, ib, rfl, rfl, hO3.sq, hib, fb, ?_⟩
        refine ⟨_, rfl, ⟨o, _, rfl, hO3⟩, _, rfl, pt, _, _, _, rfl, rfl, SqT.of hpo2, p0, o, ns, za, ia, rfl, rfl, hO3.sq, hia, fa, _, _, rfl, rfl, _, rfl, ?_⟩
        by_cases hlt : ((ib : Nat) : Int) < ((ia : Nat) : Int)
        · have hq : barQ ns (za, zb) = true := decide_eq_true (by show ixZ ns zb < ixZ ns za; omega)
          refine itY hlt ⟨_, rfl, _, hAG, small_int (by rw [List.length_map, hus.len]; have := List.length_filter_le (barQ ns) ((forcedD cs ss).take i); rw [List.length_take] at this; omega), ?_⟩
          refine ⟨fun b o e => by rw [upd_ne (ne_of_none e nAG)]; exact s2 _ _ e, us ++ [pt], by rw [List.map_append]; exact upd_same, ?_⟩
          rw [take_succ hpp, List.filter_append, List.filter_cons_of_pos (by exact hq), List.filter_nil]
          exact (hus.snoc (t := pt) (s := (za, zb)) hpo2).updL hAG
        · have hq : barQ ns (za, zb) = false := decide_eq_false (by show ¬ ixZ ns zb < ixZ ns za; omega)
          refine itN hlt ⟨s2, us, hAG, ?_⟩
          rw [take_succ hpp, List.filter_append, List.filter_cons_of_neg (by rw [hq]; exact Bool.false_ne_true), List.filter_nil, List.append_nil]
          exact hus
      rintro H2 ⟨s2, us, hAG, hus⟩
      rw [List.length_map, hFs.len, List.take_length] at hus
      have hnil : (forcedD cs ss).filter (barQ ns) = [] := by
        unfold barP at hbar
        rw [List.filter_eq_nil_iff]
        exact List.find?_eq_none.mp hbar
      have hz : us.length = 0 := by rw [hus.len, hnil]; rfl
      refine ⟨_, rfl, AG, _, rfl, .inl (SqL.of hAG), _, _, rfl, rfl, _, rfl, ifF (decide_eq_false (by rw [List.length_map, hz]; decide)) ?_⟩
      have htt2 := s2 _ _ htt
      have s12 := s1.trans s2
      have hD2 := s2 _ _ hD
      have a1 : atI [V.str "years", .ref D, .non, .ref fl] 1 = some (.ref D) := atI_nat (j := 1) rfl
      refine ⟨_, rfl, _, rfl, o, t, ns, ts, ss, cs, rfl, (fun s h => DT.same h s) s12 hO, s12.seq hTd, hTs.imp (fun t s z => s12.tup z), hnl, sl, wok, fun DU H3 s3 nDU hDU => ?_⟩
      have htt3 := s3 _ _ htt2
      have hD3 := s3 _ _ hD2
      have s13 := s12.trans s3
      have rl : (datesM ss ns).length ≤ 12 := by rw [dates_len]; exact hnl
      refine ⟨_, rfl, tt, _, _, _, rfl, rfl, SqT.of htt3, atI_nat (j := 0) rfl, rfl, _, rfl, ifF (by rw [decide_eq_true rfl]; rfl) ?_⟩
      refine ⟨_, rfl, tt, _, _, _, rfl, rfl, SqT.of htt3, a1, _, _, _, _, true, rfl, .ty _, .base (.lst hD3), kit_ty (by decide +kernel), true, rfl, ifF rfl ?_⟩
      refine ⟨_, rfl, tt, _, _, _, rfl, rfl, SqT.of htt3, a1, _, rfl, .list (pdi (datesM ss ns)), .list (pdi (datesM ss ns)), .lst (SqL.of hD3) (dp_ivs _), .lst (SqL.of hDU) (dp_ivs _), sh_pdi _, sh_pdi _, _, rfl, ifF (by rw [eqvL (lay_pdi _)]; rfl) ?_⟩
      refine ⟨_, rfl, tt, _, _, _, rfl, rfl, SqT.of htt3, a1, D, rfl, ⟨_, SqL.of hD3⟩, fun GG nG => lc_it walk_list (fun i H4 => Same H3 H4 ∧ H4 GG = some (.lst [])) ⟨same_new nG, upd_same⟩ (fun i H4 _ q => q.1.seq (SqL.of hD3)) ?_ ?_⟩
      · rintro i x H40 H4 hi ⟨s4, hG⟩ ⟨rfl, hx⟩
        obtain ⟨yv, hyv, rfl⟩ := ivs_get hx
        have hb := run_bd wok ns yv (List.mem_of_getElem? hyv)
        refine ⟨rfl, ?_⟩
        refine ⟨_, rfl, _, _, rfl, rfl, ⟨by decide, by decide⟩, _, rfl, _, _, rfl, rfl, ⟨by decide, by decide⟩, yv, _, _, rfl, ?_⟩
        have e6 : decide (-(10 : Int) ^ (6 : Int).toNat ≤ yv ∧ yv ≤ (10 : Int) ^ (6 : Int).toNat) = true := decide_eq_true hb
        rw [e6]
        exact ⟨_, rfl, ifF rfl ⟨s4, hG⟩⟩
      rintro H4 ⟨s4, hG⟩
      refine ⟨GG, _, rfl, .inl (SqL.of hG), _, _, rfl, rfl, _, rfl, ifF rfl ?_⟩
      have htt4 := s4 _ _ htt3
      have hD4 := s4 _ _ hD3
      have hDU4 := s4 _ _ hDU
      have nDU4 : DU ≠ D := fun e => by rw [e, hD2] at nDU; cases nDU
      refine ⟨_, rfl, tt, _, _, _, rfl, rfl, SqT.of htt4, a1, ?_⟩
      refine ⟨_, rfl, .inl ⟨rfl, _, SqL.of hD4⟩, D, _, _, rfl, rfl, hD4, small_int (by rw [ivs_len]; omega), ?_⟩
      have sH : Same H (upd H4 D (.lst (ivs (datesM ss ns) ++ [V.int 0]))) := fun b o e => by rw [upd_ne (ne_of_none e nD)]; exact s4 _ _ (s13 _ _ e)
      have hDU5 : upd H4 D (.lst (ivs (datesM ss ns) ++ [V.int 0])) DU = some (.lst (ivs (datesM ss ns))) := by rw [upd_ne nDU4]; exact hDU4
      generalize upd H4 D _ = H5 at sH hDU5 ⊢
      have hW5 := hW.same sH
      obtain ⟨dx, ut, us9, h15, _⟩ := id hW5
      refine ⟨_, rfl, p, dx, _, rfl, h15, fldsS_dates _ _, _, rfl, p, tb, o, cs, rs, ss, ns, rfl, hW5, (fun s h => DT.same h s) sH hO, by omega, okc, wok.ins, wok.nd, hf, hbar, fun D9 H9 s9 n9 hD9 => ?_⟩
      refine ⟨_, rfl, .list (pdi (datesM ss ns)), .list (pdi (datesM ss ns)), .lst (SqL.of hD9) (dp_ivs _), .lst (SqL.of (s9 _ _ hDU5)) (dp_ivs _), sh_pdi _, sh_pdi _, ?_⟩
      rw [eqvL (lay_pdi _)]
      exact k _ (sH.trans s9)
end
end My
set_option maxRecDepth 100000
set_option maxHeartbeats 8000000
set_option exponentiation.threshold 10000
namespace My
open PySem L2
open C8 (pss_cut)
section
variable {P : Program} {w : World} {K : PySem.W.Frag} {mg : Str → Option Value} {base : Heap} {A : Ad}
def spBO (K : PySem.W.Frag) (A : Ad) : Sp := fun vs H Q _ => ∃ p tb o cs rs ss ns, ∃ i : Nat, vs = [.ref p, .ref o, .int i] ∧ Wns A.C_Windows A.C_Table K H p tb cs rs ss ∧ SqL K H o (sv ns) ∧ ns.length ≤ 20 ∧ ColsOk cs ∧ WOk cs ss ∧ fault cs ns = some i ∧ ∀ H', Same H H' → Q (.bl true) H'
theorem ok_bo (T : Txt P K mg A) : FnOk P w K mg base CX0 9 A.a_law_bad_order A.d_law_bad_order ["windows", "order", "index"] (spBO K A) := by
  have G_law_dated := ok_dated (P := P) (w := w) (base := base) T
  have G_law_kept := ok_kept (P := P) (w := w) (base := base) T
  have G_law_is_number := ok_isNum (P := P) (w := w) (base := base) T
  refine T.F_law_bad_order.ok sc_law_bad_order (fun vs H Q E h => ?_) (fun cdv A' outer s H vs Q E hr h => ?_)
  · obtain ⟨p, tb, o, cs, rs, ss, ns, i, rfl, _⟩ := h
    rfl
  · obtain ⟨p, tb, o, cs, rs, ss, ns, i, rfl, hW, hO, hnl, okc, wok, hf, k⟩ := h
    refine ⟨_, (pss_cons (ps_set (i := 3) sc_law_bad_order.nd rfl (Or.inl rfl) (pe_call G_law_dated (hr.mono (by decide)) rfl T.mg_law_dated T.F_law_dated.kp T.b_law_dated .nil pass0 (pa_cons (pv 0) (pa_cons (pv 1) pa_nil))))
      (pss_cons (ps_set (i := 4) sc_law_bad_order.nd rfl (Or.inl rfl) (pe_call G_law_kept (hr.mono (by decide)) rfl T.mg_law_kept T.F_law_kept.kp T.b_law_kept .nil pass0 (pa_cons (pv 0) (pa_cons (pv 1) (pa_cons (pe_lc (own := [("name", 6)]) (g := gName 6) (tt := tYes) rfl sc_law_bad_order.nd (pi_list (pv 1)) (blkOk_by (N := ["windows", "order", "index", "first", "second", "third", "name"]) (sc := defScope s_law_bad_order) (by decide +kernel)) (fun _ _ _ _ _ => (pg_name (i := 6) sc_law_bad_order.nd rfl (Or.inl rfl))) (fun _ _ _ _ _ => pts_nil) (fun _ _ _ _ _ => pe_int)) pa_nil)))))
      (pss_cons (ps_set (i := 5) sc_law_bad_order.nd rfl (Or.inl rfl) (pe_call G_law_kept (hr.mono (by decide)) rfl T.mg_law_kept T.F_law_kept.kp T.b_law_kept .nil pass0 (pa_cons (pv 0) (pa_cons (pv 1) (pa_cons (pe_lst pa_nil) pa_nil)))))
      (pss_cons (ps_if (PW.pt (pw_or (pt_cmpR op_ne (pe_ix ix_tup (pv 5) pe_int (fun _ _ => rfl)) pe_str (nomark _)) (pw_or1 (pt_not (pt_val (pe_call G_law_is_number (hr.mono (by decide)) rfl T.mg_law_is_number T.F_law_is_number.kp T.b_law_is_number .nil pass0 (pa_cons (pe_ix ix_tup (pv 5) pe_int (fun _ _ => rfl)) (pa_cons (pv 2) (pa_cons (pv 2) pa_nil))))))))) (pss_one (ps_ret pe_bl)) pss_nil)
      (pss_cons (ps_if (PW.pt (pw_or (pt_cmpR op_ne (pe_ix ix_tup (pv 3) pe_int (fun _ _ => rfl)) pe_str (nomark _)) (pw_or (pt_cmpR (op_neD hr.units) (pe_ix ix_tup (pv 3) pe_int (fun _ _ => rfl)) (pe_lst (pa_cons pe_bl (pa_cons pe_bl (pa_cons pe_bl pa_nil)))) (nomark _)) (pw_or1 (pt_not (pt_val (pe_call G_law_is_number (hr.mono (by decide)) rfl T.mg_law_is_number T.F_law_is_number.kp T.b_law_is_number .nil pass0 (pa_cons (pe_ix ix_tup (pv 3) pe_int (fun _ _ => rfl)) (pa_cons (pv 2) (pa_cons (pv 2) pa_nil)))))))))) (pss_one (ps_ret pe_bl)) pss_nil)
      (pss_one (ps_ret (pe_and (pe_cmpR op_eq (pe_ix ix_tup (pv 4) pe_int (fun _ _ => rfl)) pe_str (nomark _)) (pe_and (pe_cmpR (op_eqD hr.units) (pe_ix ix_tup (pv 4) pe_int (fun _ _ => rfl)) (pe_lst (pa_cons pe_bl (pa_cons pe_bl (pa_cons pe_bl pa_nil)))) (nomark _)) (pe_one (pe_call G_law_is_number (hr.mono (by decide)) rfl T.mg_law_is_number T.F_law_is_number.kp T.b_law_is_number .nil pass0 (pa_cons (pe_ix ix_tup (pv 4) pe_int (fun _ _ => rfl)) (pa_cons (pv 2) (pa_cons (pv 2) pa_nil)))))))))))))), ?_⟩
    have sl := wok.len okc.n
    refine ⟨_, rfl, _, rfl, p, tb, o, cs, rs, ss, ns, rfl, hW, hO, by omega, okc, wok.ins, wok.nd, fun j hj t1 l1 H1 s1 h1 g1 => ?_, fun a b z => by (rw [hf] at z; cases z), fun z => by (rw [hf] at z; cases z)⟩
    rw [hf] at hj; cases hj
    refine ⟨_, rfl, _, rfl, _, rfl, o, rfl, ⟨_, s1.seq hO⟩, fun Z nZ => lc_it walk_list (fun i H2 => Same H1 H2 ∧ H2 Z = some (.lst (ivs (List.replicate i 0)))) ⟨same_new nZ, upd_same⟩ (fun i H2 _ q => (s1.trans q.1).seq hO) ?_ ?_⟩
    · rintro m x H20 H2 hi ⟨s2, hZ⟩ ⟨rfl, hx⟩
      refine ⟨rfl, _, hZ, small_int (by rw [ivs_len, List.length_replicate]; rw [len_sv] at hi; omega), fun b o e => by rw [upd_ne (ne_of_none e nZ)]; exact s2 _ _ e, ?_⟩
      rw [upd_same]
      show some (HO.lst ((List.replicate m (0:Int)).map V.int ++ [V.int 0])) = some (HO.lst ((List.replicate (m+1) (0:Int)).map V.int))
      rw [List.replicate_succ', List.map_append]; rfl
    rintro H2 ⟨s2, hZ⟩
    rw [len_sv] at hZ
    have s12 := s1.trans s2
    refine ⟨p, tb, o, Z, cs, rs, ss, ns, _, rfl, hW.same s12, s12.seq hO, SqL.of hZ, by omega, by rw [List.length_replicate]; omega, by omega, okc, wok.ins, fun j hj t2 l2 H3 s3 h2 g2 => ?_, fun z => by (rw [hf] at z; cases z)⟩
    rw [hf] at hj; cases hj
    have s13 := s12.trans s3
    refine ⟨_, rfl, _, rfl, by show 0 ≤ sizeLine; decide, fun L nL => ?_⟩
    generalize hG : upd H3 L _ = H4
    have q4 : Same H3 H4 := hG ▸ same_new nL
    have x4 := (congrFun hG L).symm.trans upd_same
    clear hG
    have s14 := s13.trans q4
    refine ⟨p, tb, o, L, cs, rs, ss, ns, [], rfl, hW.same s14, s14.seq hO, SqL.of x4, by omega, by decide, by omega, okc, wok.ins, fun j hj t3 l3 H5 s5 h3 g3 => ?_, fun z => by (rw [hf] at z; cases z)⟩
    rw [hf] at hj; cases hj
    have y1 := s5 _ _ (q4 _ _ (s3 _ _ (s2 _ _ h1)))
    have z1 := s5 _ _ (q4 _ _ (s3 _ _ (s2 _ _ g1)))
    have y2 := s5 _ _ (q4 _ _ h2)
    have z2 := s5 _ _ (q4 _ _ g2)
    have s15 := s14.trans s5
    have d1 : decide (((i : Nat) : Int) ≤ ((i : Nat) : Int) ∧ ((i : Nat) : Int) ≤ ((i : Nat) : Int)) = true := decide_eq_true ⟨Int.le_refl _, Int.le_refl _⟩
    have b1 : atI [V.str "order", .int (i : Nat), .non, .ref l1] 1 = some (.int (i : Nat)) := atI_nat (j := 1) rfl
    have b3 : atI [V.str "order", .int (i : Nat), .non, .ref l1] 3 = some (.ref l1) := atI_nat (j := 3) rfl
    have c1 : atI [V.str "order", .int (i : Nat), .ref l2] 1 = some (.int (i : Nat)) := atI_nat (j := 1) rfl
    have c2 : atI [V.str "order", .int (i : Nat), .ref l2] 2 = some (.ref l2) := atI_nat (j := 2) rfl
    have e1 : atI [V.str "order", .int (i : Nat), .ref l3] 1 = some (.int (i : Nat)) := atI_nat (j := 1) rfl
    refine ⟨_, rfl, t3, _, _, _, rfl, rfl, SqT.of h3, atI_nat (j := 0) rfl, rfl, _, rfl, ifF (by rw [decide_eq_true rfl]; rfl) ?_⟩
    refine ⟨_, rfl, t3, _, _, _, rfl, rfl, SqT.of h3, e1, _, rfl, _, rfl, _, _, _, rfl, ?_⟩
    rw [d1]
    refine ⟨_, rfl, ifF rfl ?_⟩
    refine ⟨_, rfl, t1, _, _, _, rfl, rfl, SqT.of y1, atI_nat (j := 0) rfl, rfl, _, rfl, ifF (by rw [decide_eq_true rfl]; rfl) ?_⟩
    refine ⟨_, rfl, t1, _, _, _, rfl, rfl, SqT.of y1, b3, by show 3 ≤ sizeLine; decide, fun m1 n1 => ?_⟩
    generalize hG : upd H5 m1 _ = H6
    have q6 : Same H5 H6 := hG ▸ same_new n1
    have x6 := (congrFun hG m1).symm.trans upd_same
    clear hG
    refine ⟨.list [.bool true, .bool false, .bool false], .list [.bool true, .bool false, .bool false], .lst (SqL.of (q6 _ _ z1)) (dpAll_bl [true, false, false]), .lst (SqL.of x6) (dpAll_bl [true, false, false]), by decide, by decide, _, rfl, ifF (by decide) ?_⟩
    refine ⟨_, rfl, t1, _, _, _, rfl, rfl, SqT.of (q6 _ _ y1), b1, _, rfl, _, rfl, _, _, _, rfl, ?_⟩
    rw [d1]
    refine ⟨_, rfl, ifF rfl ?_⟩
    refine ⟨_, rfl, t2, _, _, _, rfl, rfl, SqT.of (q6 _ _ y2), atI_nat (j := 0) rfl, rfl, _, rfl, ifT (decide_eq_true rfl) ?_⟩
    refine ⟨_, rfl, t2, _, _, _, rfl, rfl, SqT.of (q6 _ _ y2), c2, by show 3 ≤ sizeLine; decide, fun m2 n2 => ?_⟩
    generalize hG : upd H6 m2 _ = H7
    have q7 : Same H6 H7 := hG ▸ same_new n2
    have x7 := (congrFun hG m2).symm.trans upd_same
    clear hG
    refine ⟨.list [.bool true, .bool false, .bool false], .list [.bool true, .bool false, .bool false], .lst (SqL.of (q7 _ _ (q6 _ _ z2))) (dpAll_bl [true, false, false]), .lst (SqL.of x7) (dpAll_bl [true, false, false]), by decide, by decide, _, rfl, ifT (by decide) ?_⟩
    refine ⟨_, rfl, t2, _, _, _, rfl, rfl, SqT.of (q7 _ _ (q6 _ _ y2)), c1, _, rfl, _, rfl, _, _, _, rfl, ?_⟩
    rw [d1]
    exact k _ (s15.trans (q6.trans q7))
end
end My
set_option maxRecDepth 100000
set_option maxHeartbeats 8000000
set_option exponentiation.threshold 10000
namespace My
open PySem L2
open C8 (pss_cut)
/-- the same window told of every column -/
def uni (cs : List Str) (lo hi : Int) : List TW := cs.map fun z => (z, lo, hi)
theorem uni_nms (cs : List Str) (lo hi : Int) : nms (uni cs lo hi) = cs := by
  show (uni cs lo hi).map (·.1) = cs
  unfold uni
  rw [List.map_map]
  exact List.map_id _
theorem uni_mem {cs : List Str} {lo hi : Int} {s : TW} (h : s ∈ uni cs lo hi) : s.1 ∈ cs ∧ s.2.1 = lo ∧ s.2.2 = hi := by
  obtain ⟨z, hz, rfl⟩ := List.mem_map.mp h
  exact ⟨hz, rfl, rfl⟩
theorem uni_ok {cs : List Str} {lo hi : Int} (nd : cs.Nodup) (h : -1000000 ≤ lo ∧ lo ≤ hi ∧ hi ≤ 1000000) : WOk cs (uni cs lo hi) :=
  ⟨fun s hs => (uni_mem hs).1, by rw [uni_nms]; exact nd, fun s hs => by obtain ⟨_, a, b⟩ := uni_mem hs; omega⟩
theorem uni_forced {cs : List Str} {lo hi : Int} (h : lo ≤ hi) : forcedD cs (uni cs lo hi) = [] := by
  unfold forcedD
  rw [List.flatMap_eq_nil_iff]
  intro x _
  rw [List.map_eq_nil_iff, List.filter_eq_nil_iff]
  intro y _ hf
  unfold fcd at hf
  obtain ⟨a, ha, hf⟩ := List.any_eq_true.mp hf
  obtain ⟨b, hb, hf⟩ := List.any_eq_true.mp hf
  rw [Bool.and_eq_true, Bool.and_eq_true, decide_eq_true_iff, decide_eq_true_iff, decide_eq_true_iff] at hf
  have := uni_mem ha
  have := uni_mem hb
  omega
theorem uni_bar {cs ns : List Str} {lo hi : Int} (h : lo ≤ hi) : barP cs (uni cs lo hi) ns = none := by
  unfold barP; rw [uni_forced h]; rfl
theorem uni_start {cs : List Str} {lo hi : Int} (h : cs ≠ []) : startY (uni cs lo hi) = lo := by
  have hv : ∀ m ∈ (uni cs lo hi).map (·.2.1), m = lo := fun m hm => by
    obtain ⟨s, hs, e⟩ := List.mem_map.mp hm
    rw [← e]; exact (uni_mem hs).2.1
  have hn : (uni cs lo hi).map (·.2.1) ≠ [] := fun e => h (by
    have := congrArg List.length e
    unfold uni at this
    rw [List.length_map, List.length_map] at this
    exact List.eq_nil_of_length_eq_zero this)
  unfold startY
  generalize (uni cs lo hi).map (·.2.1) = l at hv hn
  cases l with
  | nil => exact absurd rfl hn
  | cons n l => exact hv _ (foldl_min l n).1
theorem uni_val {cs : List Str} {lo hi : Int} (nd : cs.Nodup) (h : cs ≠ []) (q : List Str) : (runY (uni cs lo hi) q).2 = lo := by
  obtain ⟨_, _, h3⟩ := run_all (ss := uni cs lo hi) (by rw [uni_nms]; exact nd) q
  rcases h3 with e | ⟨s, hs, _, e⟩
  · rw [e]; exact uni_start h
  · rw [e]; exact (uni_mem hs).2.1
theorem uni_dates {cs ns : List Str} {lo hi : Int} (nd : cs.Nodup) (hp : ns.Perm cs) : datesM (uni cs lo hi) ns = List.replicate cs.length lo := by
  by_cases h : cs = []
  · subst h
    have : ns = [] := List.eq_nil_of_length_eq_zero hp.length_eq
    subst this
    rfl
  have key : ∀ (p q : List Str), (runY (uni cs lo hi) q).1 = List.replicate q.length lo → (runY (uni cs lo hi) (q ++ p)).1 = List.replicate (q ++ p).length lo := by
    intro p
    induction p with
    | nil => intro q h; rw [List.append_nil]; exact h
    | cons z p ih =>
      intro q hq
      have e : q ++ z :: p = (q ++ [z]) ++ p := by rw [List.append_assoc]; rfl
      rw [e]
      refine ih (q ++ [z]) ?_
      have e3 : (runY (uni cs lo hi) (q ++ [z])).1 = (runY (uni cs lo hi) q).1 ++ [(runY (uni cs lo hi) (q ++ [z])).2] := by rw [runY_snoc]; rfl
      rw [e3, uni_val nd h, hq, List.length_append]
      exact List.replicate_succ'.symm
  have := key ns [] rfl
  rw [← hp.length_eq]
  exact this
theorem rep_getD {n i : Nat} {c : Int} (h : i < n) : (List.replicate n c).getD i 0 = c := by
  rw [List.getD_eq_getElem?_getD, List.getElem?_replicate, if_pos h]; rfl
theorem uni_keep {cs ns : List Str} {c : Int} (nd : cs.Nodup) (hp : ns.Perm cs) : keepB (uni cs c c) ns (List.replicate cs.length c) = true := by
  have hr : riseB (List.replicate cs.length c) = true := by
    unfold riseB
    rw [Bool.not_eq_true', List.any_eq_false]
    intro i hi
    rw [List.mem_range, List.length_replicate] at hi
    rw [rep_getD (by omega), rep_getD (by omega), decide_eq_true_iff]
    omega
  rw [keepB_of (by rw [List.length_replicate]; exact hp.length_eq.symm) hr, List.all_eq_true]
  intro s hs
  obtain ⟨h1, h2, h3⟩ := uni_mem hs
  obtain ⟨i, ei, hi⟩ := ixZ_at (hp.mem_iff.mpr h1)
  have hil := (List.getElem?_eq_some_iff.mp hi).1
  unfold inW
  rw [ei, Int.toNat_natCast, rep_getD (by rw [← hp.length_eq]; exact hil), h2, h3]
  exact decide_eq_true ⟨Int.le_refl _, Int.le_refl _⟩
theorem uni_no {cs ns : List Str} {c : Int} (hp : ns.Perm cs) : keepB (uni cs c c) ns (0 :: List.replicate cs.length c) = false := by
  refine keepB_no ?_
  rw [decide_eq_false (by rw [List.length_cons, List.length_replicate, ← hp.length_eq]; omega)]; rfl
theorem uni_take {cs : List Str} {lo hi : Int} {i : Nat} {z : Str} (h : cs[i]? = some z) : uni (cs.take (i + 1)) lo hi = uni (cs.take i) lo hi ++ [(z, lo, hi)] := by
  unfold uni; rw [take_succ h, List.map_append]; rfl
section
variable {P : Program} {w : World} {K : PySem.W.Frag} {mg : Str → Option Value} {base : Heap} {A : Ad}
def spWinQ (C CT : Addr) (K : PySem.W.Frag) : Sp := fun vs H Q _ => ∃ p tb l dx cs rs ts ss, vs = [.ref p, .ref tb, .ref l] ∧ H p = some (.ins C dx []) ∧ TbD CT H tb cs rs ∧ SqL K H l (ts.map V.ref) ∧ Tl (SqA K) H ts ss ∧ ss.length ≤ 1000 ∧ winFault cs ss = none ∧ ∀ H', (∀ b o, b ≠ p → H b = some o → H' b = some o) → Wns C CT K H' p tb cs rs ss → Q .non H'
def spKeepsQ (K : PySem.W.Frag) (A : Ad) : Sp := fun vs H Q _ => ∃ p tb o y cs rs ss ns, ∃ ys : List Int, vs = [.ref p, .ref o, .ref y] ∧ Wns A.C_Windows A.C_Table K H p tb cs rs ss ∧ SqL K H o (sv ns) ∧ SqL K H y (ivs ys) ∧ ns.length ≤ 1000 ∧ ys.length ≤ 1000 ∧ ss.length ≤ 1000 ∧ ColsOk cs ∧ (∀ s ∈ ss, s.1 ∈ cs) ∧ fault cs ns = none ∧ ∀ H', Same H H' → Q (.bl (keepB ss ns ys)) H'
theorem ok_winQ (T : Txt P K mg A) : FnOk P w K mg base CX0 3 A.a_Windows_init A.d_Windows_init ["self", "table", "told"] (spWinQ A.C_Windows A.C_Table K) := quiet (ok_winX T) fun vs H Q E h => by
  obtain ⟨p, tb, l, dx, cs, rs, ts, ss, e, h1, h2, h3, h4, h5, h6, h7⟩ := h
  exact ⟨p, tb, l, dx, cs, rs, ts, ss, e, h1, h2, h3, h4, h5, fun i z => by (rw [h6] at z; cases z), fun _ => h7⟩
theorem ok_datesQ (T : Txt P K mg A) : FnOk P w K mg base CX0 5 A.a_Windows_dates A.d_Windows_dates ["self", "order"] (spDatesQ (SqL K) K A) := quiet (ok_dates T) fun vs H Q E h => by
  obtain ⟨p, tb, o, cs, rs, ss, ns, e, hW, hO, hl, okc, hin, nn, hf, hb, k⟩ := h
  exact ⟨p, tb, o, cs, rs, ss, ns, e, hW, hO, hl, okc, hin, nn, fun i z => by (rw [hf] at z; cases z), fun a b _ z => by (rw [hb] at z; cases z), fun _ _ => k⟩
theorem ok_keepsQ (T : Txt P K mg A) : FnOk P w K mg base CX0 5 A.a_Windows_keeps A.d_Windows_keeps ["self", "order", "years"] (spKeepsQ K A) := quiet (ok_keeps T) fun vs H Q E h => by
  obtain ⟨p, tb, o, y, cs, rs, ss, ns, ys, e, hW, hO, hY, hl, hyl, hsl, okc, hin, hf, k⟩ := h
  exact ⟨p, tb, o, y, cs, rs, ss, ns, ys, e, hW, hO, hY, hl, hyl, hsl, okc, hin, fun i z => by (rw [hf] at z; cases z), fun _ => k⟩
theorem mk_win {C CT : Addr} {H : Hp} {tb l x dx : Addr} {cs : List Str} {rs : List (List Str)} {ts : List Addr} {ss : List TW} {Q2 : VK} (hT : TbD CT H tb cs rs) (hL : SqL K H l (ts.map V.ref)) (hs : Tl (SqA K) H ts ss) (okc : ColsOk cs) (wok : WOk cs ss)
    (hx : H x = none) (hdx : H dx = none) (hne : dx ≠ x) (k : ∀ H', Same H H' → Wns C CT K H' x tb cs rs ss → Q2 .non H') :
    spWinQ C CT K (.ref x :: ([.ref tb, .ref l] ++ [])) (upd (upd H dx (.own x)) x (.ins C dx [])) Q2 E0 := by
  have s1 := same_new (o := .own x) hdx
  have hx1 : upd H dx (.own x) x = none := by rw [upd_ne hne.symm]; exact hx
  have s2 : Same H (upd (upd H dx (.own x)) x (.ins C dx [])) := s1.trans (same_new hx1)
  exact ⟨x, tb, l, dx, cs, rs, ts, ss, rfl, upd_same, hT.same s2, s2.seq hL, hs.imp (fun t s q => s2.sqa q), by have := wok.len okc.n; omega, wok.fault, fun H' hk hS => k H' (fun b o e => hk b o (ne_of_none e hx) (s2 _ _ e)) hS⟩
end
end My
set_option maxRecDepth 100000
set_option maxHeartbeats 8000000
set_option exponentiation.threshold 10000
namespace My
open PySem L2
open C8 (pss_cut)
section
variable {P : Program} {w : World} {K : PySem.W.Frag} {mg : Str → Option Value} {base : Heap} {A : Ad}
def spBR (K : PySem.W.Frag) (A : Ad) : Sp := fun vs H Q _ => ∃ tb n o cs rs ns, vs = [.ref tb, .ref n, .ref o] ∧ TbD A.C_Table H tb cs rs ∧ SqL K H n (sv cs) ∧ SqL K H o (sv ns) ∧ ns.Perm cs ∧ ColsOk cs ∧ ∀ H', Same H H' → Q (.bl true) H'
theorem ok_br (T : Txt P K mg A) : FnOk P w K mg base CX0 9 A.a_law_bounds_right A.d_law_bounds_right ["table", "names", "other"] (spBR K A) := by
  have G_Windows_init := ok_winQ (P := P) (w := w) (base := base) T
  have G_Windows_forced := ok_forced (P := P) (w := w) (base := base) T
  have G_Windows_dates := ok_datesQ (P := P) (w := w) (base := base) T
  have G_Windows_keeps := ok_keepsQ (P := P) (w := w) (base := base) T
  refine T.F_law_bounds_right.ok sc_law_bounds_right (fun vs H Q E h => ?_) (fun cdv A' outer s H vs Q E hr h => ?_)
  · obtain ⟨tb, n, o, cs, rs, ns, rfl, _⟩ := h
    rfl
  · obtain ⟨tb, n, o, cs, rs, ns, rfl, hT, hN, hO, hp, okc, k⟩ := h
    refine ⟨_, (pss_cons (ps_set (i := 3) sc_law_bounds_right.nd rfl (Or.inl rfl) (pe_make T.mk_Windows G_Windows_init (hr.mono (by decide)) rfl T.mg_Windows T.b_Windows_init .nil pass0 (pa_cons (pv 0) (pa_cons (pe_lc (own := [("name", 7)]) (g := gName 7) (tt := tYes) rfl sc_law_bounds_right.nd (pi_list (pv 1)) (blkOk_by (N := ["table", "names", "other", "wide", "year", "narrow", "years", "name"]) (sc := defScope s_law_bounds_right) (by decide +kernel)) (fun _ _ _ _ _ => (pg_name (i := 7) sc_law_bounds_right.nd rfl (Or.inl rfl))) (fun _ _ _ _ _ => pts_nil) (fun _ _ _ _ _ => (pe_lst (pa_cons (pv 7) (pa_cons (pe_un un_neg (pe_op op_pow pe_int pe_int)) (pa_cons (pe_op op_pow pe_int pe_int) pa_nil)))))) pa_nil))))
      (pss_cons (ps_if (PW.pt (pw_or (pt_cmpR (op_neD hr.units) (pe_meth0 (pv 3) T.cl_Windows T.m_Windows_forced G_Windows_forced (hr.mono (by decide)) T.b_Windows_forced .nil pass0) (pe_lst pa_nil) (nomark _)) (pw_or1 (pt_cmpR (op_neD hr.units) (pe_meth (pv 3) T.cl_Windows T.m_Windows_dates G_Windows_dates (hr.mono (by decide)) T.b_Windows_dates .nil pass0 (pa_cons (pe_callTy (show CallR _ _ (rListOf K) from call_list_of) (by rfl) T.n_list (by decide +kernel) (pa_cons (pv 2) pa_nil)) pa_nil)) (pe_lc (own := [("name", 7)]) (g := gName 7) (tt := tYes) rfl sc_law_bounds_right.nd (pi_list (pv 1)) (blkOk_by (N := ["table", "names", "other", "wide", "year", "narrow", "years", "name"]) (sc := defScope s_law_bounds_right) (by decide +kernel)) (fun _ _ _ _ _ => (pg_name (i := 7) sc_law_bounds_right.nd rfl (Or.inl rfl))) (fun _ _ _ _ _ => pts_nil) (fun _ _ _ _ _ => (pe_un un_neg (pe_op op_pow pe_int pe_int)))) (nomark _))))) (pss_one (ps_ret pe_bl)) pss_nil)
      (pss_cons (ps_for PassesOwn.never rfl (pi_list (pe_lst (pa_cons (pe_un un_neg (pe_op op_pow pe_int pe_int)) (pa_cons (pe_op op_pow pe_int pe_int) pa_nil)))) (pg_name (i := 4) sc_law_bounds_right.nd rfl (Or.inr rfl))
        (pss_cons (ps_set (i := 5) sc_law_bounds_right.nd rfl (Or.inl rfl) (pe_make T.mk_Windows G_Windows_init (hr.mono (by decide)) rfl T.mg_Windows T.b_Windows_init .nil pass0 (pa_cons (pv 0) (pa_cons (pe_lc (own := [("name", 7)]) (g := gName 7) (tt := tYes) rfl sc_law_bounds_right.nd (pi_list (pv 1)) (blkOk_by (N := ["table", "names", "other", "wide", "year", "narrow", "years", "name"]) (sc := defScope s_law_bounds_right) (by decide +kernel)) (fun _ _ _ _ _ => (pg_name (i := 7) sc_law_bounds_right.nd rfl (Or.inl rfl))) (fun _ _ _ _ _ => pts_nil) (fun _ _ _ _ _ => (pe_tup (pa_cons (pv 7) (pa_cons (pv 4) (pa_cons (pv 4) pa_nil)))))) pa_nil))))
      (pss_cons (ps_setLc (i := 6) (own := [("name", 7)]) (g := gName 7) (tt := tYes) rfl sc_law_bounds_right.nd rfl rfl (sw_true rfl rfl rfl (by decide +kernel)) (pi_list (pv 1)) (blkOk_by (N := ["table", "names", "other", "wide", "year", "narrow", "years", "name"]) (sc := defScope s_law_bounds_right) (by decide +kernel)) (fun _ _ _ _ _ => (pg_name (i := 7) sc_law_bounds_right.nd rfl (Or.inl rfl))) (fun _ _ _ _ _ => pts_nil) (fun _ _ _ _ _ => (pv 4)))
      (pss_cons (ps_if (PW.pt (pw_or (pt_cmpR (op_neD hr.units) (pe_meth0 (pv 5) T.cl_Windows T.m_Windows_forced G_Windows_forced (hr.mono (by decide)) T.b_Windows_forced .nil pass0) (pe_lst pa_nil) (nomark _)) (pw_or1 (pt_cmpR (op_neD hr.units) (pe_meth (pv 5) T.cl_Windows T.m_Windows_dates G_Windows_dates (hr.mono (by decide)) T.b_Windows_dates .nil pass0 (pa_cons (pe_callTy (show CallR _ _ (rListOf K) from call_list_of) (by rfl) T.n_list (by decide +kernel) (pa_cons (pv 2) pa_nil)) pa_nil)) (pv 6) (nomark _))))) (pss_one (ps_ret pe_bl)) pss_nil)
      (pss_one (ps_if (PW.pt (pw_or (pt_cmpR op_notBl (pe_meth (pv 5) T.cl_Windows T.m_Windows_keeps G_Windows_keeps (hr.mono (by decide)) T.b_Windows_keeps .nil pass0 (pa_cons (pe_callTy (show CallR _ _ (rListOf K) from call_list_of) (by rfl) T.n_list (by decide +kernel) (pa_cons (pv 2) pa_nil)) (pa_cons (pv 6) pa_nil))) pe_bl (nomark _)) (pw_or1 (pt_cmpR op_notBl (pe_meth (pv 5) T.cl_Windows T.m_Windows_keeps G_Windows_keeps (hr.mono (by decide)) T.b_Windows_keeps .nil pass0 (pa_cons (pe_callTy (show CallR _ _ (rListOf K) from call_list_of) (by rfl) T.n_list (by decide +kernel) (pa_cons (pv 2) pa_nil)) (pa_cons (pe_op op_cat (pe_lst (pa_cons pe_int pa_nil)) (pv 6)) pa_nil))) pe_bl (nomark _))))) (pss_one (ps_ret pe_bl)) pss_nil))))))
      (pss_one (ps_ret pe_bl))))), ?_⟩
    have cl := okc.n
    have nl : ns.length = cs.length := hp.length_eq
    have hf : fault cs ns = none := fault_none (fun x hx => hp.mem_iff.mp hx) (hp.nodup_iff.mpr okc.nd) (by omega)
    have w1 : WOk cs (uni cs (-1000000) 1000000) := uni_ok okc.nd (by omega)
    have lu : ∀ (l : List Str) lo hi, (uni l lo hi).length = l.length := fun l lo hi => by unfold uni; rw [List.length_map]
    have e6 : (10 : Int) ^ (6 : Int).toNat = 1000000 := by decide
    refine ⟨_, rfl, _, rfl, n, rfl, ⟨_, hN⟩, fun L nL => lc_it walk_list (fun i H2 => Same H H2 ∧ ∃ us : List Addr, H2 L = some (.lst (us.map V.ref)) ∧ Tl (fun G a xs => G a = some (.lst xs) ∧ a ≠ L) H2 us (uni (cs.take i) (-1000000) 1000000)) ⟨same_new nL, [], upd_same, Tl.nil⟩ (fun i H2 _ q => q.1.seq hN) ?_ ?_⟩
    · rintro i x H20 H2 hi ⟨s2, us, hL, hus⟩ ⟨rfl, hx⟩
      obtain ⟨z, hz, rfl⟩ := sv_get hx
      refine ⟨rfl, _, rfl, _, _, rfl, rfl, ⟨by decide, by decide⟩, _, rfl, _, _, rfl, rfl, ⟨by decide, by decide⟩, by show 3 ≤ sizeLine; decide, fun t n3 => ?_⟩
      generalize hG : upd H2 t _ = H3
      have q3 : Same H2 H3 := hG ▸ same_new n3
      have x3 := (congrFun hG t).symm.trans upd_same
      clear hG
      have tL : t ≠ L := fun e => by rw [e, hL] at n3; cases n3
      refine ⟨_, q3 _ _ hL, small_int (by rw [List.length_map, hus.len, lu, List.length_take]; omega), fun b o e => by rw [upd_ne (ne_of_none e nL)]; exact q3 _ _ (s2 _ _ e), us ++ [t], by rw [List.map_append]; exact upd_same, ?_⟩
      rw [uni_take hz]
      refine (hus.imp fun u s q => ⟨by rw [upd_ne q.2]; exact q3 _ _ q.1, q.2⟩).app (Tl.one ⟨by rw [upd_ne tL]; exact x3, tL⟩)
    rintro H2 ⟨s2, us, hL, hus⟩
    rw [len_sv, List.take_length] at hus
    refine fun wx dwx hx hdx hne => mk_win (hT.same s2) (SqL.of hL) (hus.imp fun t s z => .inl (SqL.of z.1)) okc w1 hx hdx hne fun H3 s3 hW => ⟨rfl, ?_⟩
    have s13 := s2.trans s3
    clear hus hL nL hx hdx hne
    obtain ⟨dx, ut, us9, h1, _⟩ := id hW
    refine ⟨_, rfl, wx, dx, _, rfl, h1, fldsS_forced _ _, wx, tb, cs, rs, _, rfl, hW, okc, w1.ins, w1.nd, fun FD qs H4 s4 nFD hFD hq => ?_⟩
    have s14 := s13.trans s4
    have hqn : qs = [] := List.eq_nil_of_length_eq_zero (by rw [hq.len, uni_forced (lo := -1000000) (hi := 1000000) (by omega)]; rfl)
    subst hqn
    refine ⟨by show 0 ≤ sizeLine; decide, fun EE nE => ?_⟩
    generalize hG : upd H4 EE _ = H5
    have q5 : Same H4 H5 := hG ▸ same_new nE
    have x5 := (congrFun hG EE).symm.trans upd_same
    clear hG
    have s15 := s14.trans q5
    have hW5 := hW.same (s4.trans q5)
    refine ⟨.list [], .list [], .lst (SqL.of (q5 _ _ hFD)) .nil, .lst (SqL.of x5) .nil, by decide, by decide, _, rfl, ifF (by decide) ?_⟩
    obtain ⟨dx5, ut5, us5, h15, _⟩ := id hW5
    refine ⟨_, rfl, wx, dx5, _, rfl, h15, fldsS_dates _ _, _, rfl, o, _, rfl, .inl (s15.seq hO), fun lo9 nlo => ?_⟩
    generalize hG : upd H5 lo9 _ = H6
    have q6 : Same H5 H6 := hG ▸ same_new nlo
    have x6 := (congrFun hG lo9).symm.trans upd_same
    clear hG
    have s16 := s15.trans q6
    refine ⟨wx, tb, lo9, cs, rs, _, ns, rfl, hW5.same q6, SqL.of x6, by omega, okc, w1.ins, w1.nd, hf, uni_bar (by omega), fun D H7 s7 nD hD => ?_⟩
    rw [uni_dates okc.nd hp] at hD
    have s17 := s16.trans s7
    refine ⟨_, rfl, n, rfl, ⟨_, s17.seq hN⟩, fun Z nZ => lc_it walk_list (fun i G => Same H7 G ∧ G Z = some (.lst (ivs (List.replicate i (-1000000))))) ⟨same_new nZ, upd_same⟩ (fun i G _ q => (s17.trans q.1).seq hN) ?_ ?_⟩
    · rintro i x G0 G hi ⟨sG, hZ⟩ ⟨rfl, hx⟩
      refine ⟨rfl, _, _, rfl, rfl, ⟨by decide, by decide⟩, _, rfl, ?_⟩
      refine ⟨_, hZ, small_int (by rw [ivs_len, List.length_replicate]; rw [len_sv] at hi; omega), fun b o e => by rw [upd_ne (ne_of_none e nZ)]; exact sG _ _ e, ?_⟩
      rw [upd_same]
      show some (HO.lst ((List.replicate i (-1000000:Int)).map V.int ++ [V.int (-1000000)])) = some (HO.lst ((List.replicate (i+1) (-1000000:Int)).map V.int))
      rw [List.replicate_succ', List.map_append]; rfl
    rintro G ⟨sG, hZ⟩
    rw [len_sv] at hZ
    refine ⟨.list (pdi (List.replicate cs.length (-1000000))), .list (pdi (List.replicate cs.length (-1000000))), .lst (SqL.of (sG _ _ hD)) (dp_ivs _), .lst (SqL.of hZ) (dp_ivs _), sh_pdi _, sh_pdi _, _, rfl, ifF (by rw [eqvL (lay_pdi _)]; rfl) ?_⟩
    have s18 := s17.trans sG
    refine ⟨_, _, rfl, rfl, ⟨by decide, by decide⟩, _, rfl, _, _, rfl, rfl, ⟨by decide, by decide⟩, by show 2 ≤ sizeLine; decide, fun YL nYL => ?_⟩
    generalize hG : upd G YL _ = J0
    have q9 : Same G J0 := hG ▸ same_new nYL
    have x9 := (congrFun hG YL).symm.trans upd_same
    clear hG
    have s19 := s18.trans q9
    clear hW5 h15 hW h1 hD hZ sG s7 nZ nD x6 q6 x5 q5 s18 s17 s16 s15 s14 s13 s2 hFD hq s4 s3
    refine ⟨YL, rfl, ⟨_, SqL.of x9⟩, for_it walk_list (fun i σ J => Same J0 J ∧ ∃ u4 u5 u6 : Option V, σ = [some (.ref tb), some (.ref n), some (.ref o), some (.ref wx), u4, u5, u6, none]) ⟨Same.refl _, none, none, none, rfl⟩ (fun i σ J _ q => q.1.seq (SqL.of x9)) ?_ ?_⟩
    · rintro i x σ J1 J hi ⟨sJ, u4, u5, u6, rfl⟩ ⟨rfl, hx⟩
      obtain ⟨c, rfl, hc⟩ : ∃ c : Int, x = V.int c ∧ -1000000 ≤ c ∧ c ≤ 1000000 := by
        match i, hx with
        | 0, hx => exact ⟨-1000000, (Option.some.inj hx).symm, by decide, by decide⟩
        | 1, hx => exact ⟨1000000, (Option.some.inj hx).symm, by decide, by decide⟩
        | n + 2, hx => simp at hx
      have w1 : WOk cs (uni cs c c) := uni_ok okc.nd (by omega)
      have s1 := s19.trans sJ
      refine ⟨_, rfl, _, rfl, n, rfl, ⟨_, s1.seq hN⟩, fun L nL => lc_it walk_list (fun i H2 => Same J H2 ∧ ∃ us : List Addr, H2 L = some (.lst (us.map V.ref)) ∧ Tl (SqT K) H2 us (uni (cs.take i) c c)) ⟨same_new nL, [], upd_same, Tl.nil⟩ (fun i H2 _ q => (s1.trans q.1).seq hN) ?_ ?_⟩
      · rintro i x H20 H2 hi ⟨s2, us, hL, hus⟩ ⟨rfl, hx⟩
        obtain ⟨z, hz, rfl⟩ := sv_get hx
        refine ⟨rfl, _, rfl, _, rfl, _, rfl, by show 3 ≤ sizeLine; decide, fun t n3 => ?_⟩
        generalize hG : upd H2 t _ = H3
        have q3 : Same H2 H3 := hG ▸ same_new n3
        have x3 := (congrFun hG t).symm.trans upd_same
        clear hG
        have hL3 := q3 _ _ hL
        refine ⟨_, hL3, small_int (by rw [List.length_map, hus.len, lu, List.length_take]; omega), fun b o e => by rw [upd_ne (ne_of_none e nL)]; exact q3 _ _ (s2 _ _ e), us ++ [t], by rw [List.map_append]; exact upd_same, ?_⟩
        rw [uni_take hz]
        exact (hus.imp fun u s q => sqt_updL (q3.tup q) hL3).app (Tl.one (sqt_updL (SqT.of x3) hL3))
      rintro H2 ⟨s2, us, hL, hus⟩
      rw [len_sv, List.take_length] at hus
      refine fun nx dwx hx hdx hne => mk_win (hT.same (s1.trans s2)) (SqL.of hL) (hus.imp fun t s z => .inr z) okc w1 hx hdx hne fun H3 s3 hW => ⟨rfl, ?_⟩
      have s13 := s1.trans (s2.trans s3)
      have sj3 := s2.trans s3
      clear hus hL nL hx hdx hne
      refine ⟨_, rfl, n, rfl, ⟨_, s13.seq hN⟩, fun Z nZ => lc_it walk_list (fun i G => Same H3 G ∧ G Z = some (.lst (ivs (List.replicate i c)))) ⟨same_new nZ, upd_same⟩ (fun i G _ q => (s13.trans q.1).seq hN) ?_ ?_⟩
      · rintro i x G0 G hi ⟨sG, hZ⟩ ⟨rfl, hx⟩
        refine ⟨rfl, _, rfl, ?_⟩
        refine ⟨_, hZ, small_int (by rw [ivs_len, List.length_replicate]; rw [len_sv] at hi; omega), fun b o e => by rw [upd_ne (ne_of_none e nZ)]; exact sG _ _ e, ?_⟩
        rw [upd_same]
        show some (HO.lst ((List.replicate i c).map V.int ++ [V.int c])) = some (HO.lst ((List.replicate (i+1) c).map V.int))
        rw [List.replicate_succ', List.map_append]; rfl
      rintro H4 ⟨s4, hZ⟩
      rw [len_sv] at hZ
      have s14 := s13.trans s4
      have sj4 := sj3.trans s4
      have hW4 := hW.same s4
      obtain ⟨dx, ut, us9, h1, _⟩ := id hW4
      refine ⟨_, rfl, nx, dx, _, rfl, h1, fldsS_forced _ _, nx, tb, cs, rs, _, rfl, hW4, okc, w1.ins, w1.nd, fun FD qs H5 s5 nFD hFD hq => ?_⟩
      have hqn : qs = [] := List.eq_nil_of_length_eq_zero (by rw [hq.len, uni_forced (lo := c) (hi := c) (by omega)]; rfl)
      subst hqn
      refine ⟨by show 0 ≤ sizeLine; decide, fun EE nE => ?_⟩
      generalize hG : upd H5 EE _ = H6
      have q6 : Same H5 H6 := hG ▸ same_new nE
      have x6 := (congrFun hG EE).symm.trans upd_same
      clear hG
      have q56 := s5.trans q6
      have hW6 := hW4.same q56
      have hZ6 := q56 _ _ hZ
      have s16 := s14.trans q56
      have sj6 := sj4.trans q56
      refine ⟨.list [], .list [], .lst (SqL.of (q6 _ _ hFD)) .nil, .lst (SqL.of x6) .nil, by decide, by decide, _, rfl, ifF (by decide) ?_⟩
      obtain ⟨dx6, ut6, us6, h16, _⟩ := id hW6
      refine ⟨_, rfl, nx, dx6, _, rfl, h16, fldsS_dates _ _, _, rfl, o, _, rfl, .inl (s16.seq hO), fun l7 n7 => ?_⟩
      generalize hG : upd H6 l7 _ = H7
      have q7 : Same H6 H7 := hG ▸ same_new n7
      have x7 := (congrFun hG l7).symm.trans upd_same
      clear hG
      refine ⟨nx, tb, l7, cs, rs, _, ns, rfl, hW6.same q7, SqL.of x7, by omega, okc, w1.ins, w1.nd, hf, uni_bar (by omega), fun D H8 s8 nD hD => ?_⟩
      rw [uni_dates okc.nd hp] at hD
      have q8 := q7.trans s8
      have s18 := s16.trans q8
      have sj8 := sj6.trans q8
      have hW8 := hW6.same q8
      have hZ8 := q8 _ _ hZ6
      refine ⟨_, rfl, .list (pdi (List.replicate cs.length c)), .list (pdi (List.replicate cs.length c)), .lst (SqL.of hD) (dp_ivs _), .lst (SqL.of hZ8) (dp_ivs _), sh_pdi _, sh_pdi _, _, rfl, ifF (by rw [eqvL (lay_pdi _)]; rfl) ?_⟩
      clear hW4 h1 hW6 h16 hD q8 q7 x7 s8 nD hZ6 hZ q56 q6 x6 s5 nFD hFD hq hW
      obtain ⟨dx8, ut8, us8, h18, _⟩ := id hW8
      refine ⟨_, rfl, nx, dx8, _, rfl, h18, fldsS_keeps _ _, _, rfl, o, _, rfl, .inl (s18.seq hO), fun l9 n9 => ?_⟩
      generalize hG : upd H8 l9 _ = H9
      have q9 : Same H8 H9 := hG ▸ same_new n9
      have x9 := (congrFun hG l9).symm.trans upd_same
      clear hG
      refine ⟨_, rfl, nx, tb, l9, Z, cs, rs, _, ns, _, rfl, hW8.same q9, SqL.of x9, SqL.of (q9 _ _ hZ8), by omega, by rw [List.length_replicate]; omega, by rw [lu]; omega, okc, w1.ins, hf, fun H10 s10 => ?_⟩
      have q10 := q9.trans s10
      have hW10 := hW8.same q10
      have hZ10 := q10 _ _ hZ8
      have s20 := s18.trans q10
      have sj10 := sj8.trans q10
      rw [uni_keep okc.nd hp]
      refine ⟨_, _, rfl, rfl, _, rfl, ifF rfl ?_⟩
      clear hW8 h18 hZ8 q10 q9 x9 s10
      obtain ⟨dx10, ut10, us10, h20, _⟩ := id hW10
      refine ⟨_, rfl, nx, dx10, _, rfl, h20, fldsS_keeps _ _, _, rfl, o, _, rfl, .inl (s20.seq hO), fun l11 n11 => ?_⟩
      generalize hG : upd H10 l11 _ = H11
      have q11 : Same H10 H11 := hG ▸ same_new n11
      have x11 := (congrFun hG l11).symm.trans upd_same
      clear hG
      refine ⟨by show 1 ≤ sizeLine; decide, fun l12 n12 => ?_⟩
      generalize hG : upd H11 l12 _ = H12
      have q12 : Same H11 H12 := hG ▸ same_new n12
      have x12 := (congrFun hG l12).symm.trans upd_same
      clear hG
      have q13 := q11.trans q12
      refine ⟨_, rfl, catO x12 (q13 _ _ hZ10) (by rw [ivs_len, List.length_replicate]; show 1 + cs.length ≤ 1000000; omega) fun YY H13 s13 _ hYY => ?_⟩
      have hYY : H13 YY = some (.lst (ivs (0 :: List.replicate cs.length c))) := hYY
      have q14 := q13.trans s13
      refine ⟨nx, tb, l11, YY, cs, rs, _, ns, _, rfl, hW10.same q14, SqL.of (s13 _ _ (q12 _ _ x11)), SqL.of hYY, by omega, by rw [List.length_cons, List.length_replicate]; omega, by rw [lu]; omega, okc, w1.ins, hf, fun H14 s14 => ?_⟩
      rw [uni_no hp]
      exact ⟨_, _, rfl, rfl, _, rfl, ifF rfl ⟨sJ.trans (sj10.trans (q14.trans s14)), _, _, _, rfl⟩⟩
    · rintro σ J ⟨sJ, _⟩
      exact k _ (s19.trans sJ)
end
end My
set_option maxRecDepth 100000
set_option maxHeartbeats 8000000
set_option exponentiation.threshold 10000
namespace My
open PySem L2
open C8 (pss_cut)
theorem firstI_inv {n : Nat} {f : Nat → Bool} {i : Nat} (h : firstI n f = some i) : i < n ∧ f i = true ∧ ∀ j, j < i → f j = false := by
  unfold firstI at h
  rw [List.find?_range_eq_some] at h
  obtain ⟨a, b, c⟩ := h
  exact ⟨List.mem_range.mp b, a, fun j hj => by have := c j hj; revert this; cases f j <;> simp⟩
theorem WOk.take {cs : List Str} {ss : List TW} (h : WOk cs ss) (n : Nat) : WOk cs (ss.take n) :=
  ⟨fun s hs => h.ins s (List.mem_of_mem_take hs), by show ((ss.take n).map (·.1)).Nodup; rw [List.map_take]; exact (List.take_sublist _ _).nodup h.nd, fun s hs => h.bd s (List.mem_of_mem_take hs)⟩
theorem badW_ok {cs : List Str} {ss : List TW} (h : WOk cs ss) {j : Nat} (hj : j < ss.length) : badW cs ss j = false := firstI_no h.fault j hj
theorem badW_app {cs : List Str} {ss r : List TW} {j : Nat} (hj : j < ss.length) : badW cs (ss ++ r) j = badW cs ss j := by
  unfold badW
  rw [List.take_append_of_le_length (Nat.le_of_lt hj), List.getD_eq_getElem?_getD, List.getD_eq_getElem?_getD, List.getElem?_append_left hj]
theorem winF_at {cs : List Str} {pre post : List TW} {b : TW} (h : WOk cs pre) (hb : okW cs (nms pre) b = false) : winFault cs (pre ++ b :: post) = some pre.length := by
  refine firstI_some (by rw [List.length_append, List.length_cons]; omega) ?_ fun j hj => by rw [badW_app hj]; exact badW_ok h hj
  have e : (pre ++ b :: post)[pre.length]? = some b := by rw [List.getElem?_append_right (Nat.le_refl _), Nat.sub_self]; rfl
  rw [badW_at e, List.take_left, hb]; rfl
theorem winF_app {cs : List Str} {ss r : List TW} {n : Nat} (h : winFault cs ss = some n) : winFault cs (ss ++ r) = some n := by
  obtain ⟨a, b, c⟩ := firstI_inv h
  exact firstI_some (by rw [List.length_append]; omega) (by rw [badW_app a]; exact b) fun j hj => by rw [badW_app (by omega)]; exact c j hj
theorem okW_no {cs e : List Str} {s : TW} (h : s.1 ∉ cs) : okW cs e s = false := by unfold okW; rw [decide_eq_false h]; rfl
theorem okW_dup {cs e : List Str} {s : TW} (h : s.1 ∈ e) : okW cs e s = false := by unfold okW; rw [decide_eq_true h]; show (_ && (false && _)) = false; rw [Bool.false_and, Bool.and_false]
theorem okW_bd {cs e : List Str} {s : TW} (h : ¬ (-1000000 ≤ s.2.1 ∧ s.2.1 ≤ s.2.2 ∧ s.2.2 ≤ 1000000)) : okW cs e s = false := by unfold okW; rw [decide_eq_false h, Bool.and_false, Bool.and_false]
theorem WOk.snoc {cs : List Str} {ss : List TW} {s : TW} (h : WOk cs ss) (h1 : s.1 ∈ cs) (h2 : s.1 ∉ nms ss) (h3 : -1000000 ≤ s.2.1 ∧ s.2.1 ≤ s.2.2 ∧ s.2.2 ≤ 1000000) : WOk cs (ss ++ [s]) := by
  refine ⟨fun x hx => ?_, ?_, fun x hx => ?_⟩
  · rcases List.mem_append.mp hx with q | q
    · exact h.ins x q
    · rw [List.mem_singleton.mp q]; exact h1
  · show ((ss ++ [s]).map (·.1)).Nodup
    rw [List.map_append, List.nodup_append]
    refine ⟨h.nd, List.pairwise_singleton _ _, fun a ha b hb e => ?_⟩
    have : b = s.1 := List.mem_singleton.mp hb
    exact h2 (by rw [← this, ← e]; exact ha)
  · rcases List.mem_append.mp hx with q | q
    · exact h.bd x q
    · rw [List.mem_singleton.mp q]; exact h3
abbrev nsc_law_bad_windows : Scope := { kind := ScopeKind.function, names := [(".0", NameKind.local), ("name", NameKind.local), ("windows", NameKind.cell)], isGenerator := false, isCoroutine := false }
/-- what the drawing of a bad list of windows hands back -/
def freeN (cs : List Str) (ss : List TW) : List Str := cs.filter fun z => decide (z ∉ nms ss)
section
variable {P : Program} {w : World} {K : PySem.W.Frag} {mg : Str → Option Value} {base : Heap} {A : Ad}
def spBW (K : PySem.W.Frag) : Sp := fun vs H Q _ => ∃ n t p cs ts ss, ∃ ps : List Int, vs = [.ref n, .ref t, .ref p] ∧ SqL K H n (sv cs) ∧ SqL K H t (ts.map V.ref) ∧ Tl (SqT K) H ts ss ∧ SqL K H p (ps.map V.int) ∧ ps.length = 30 ∧ ColsOk cs ∧ ("stranger" : Str) ∉ cs ∧ WOk cs ss ∧
  ∀ q L us ss2 (i : Nat) H', Same H H' → H' q = some (.lst [.ref L, .int (i : Nat)]) → H' L = some (.lst (us.map V.ref)) → Tl (SqT K) H' us ss2 → ss2.length ≤ 20 → winFault cs ss2 = some i → Q (.ref q) H'
theorem ok_bw (T : Txt P K mg A) : FnOk P w K mg base CX0 1 A.a_law_bad_windows A.d_law_bad_windows ["names", "windows", "pool"] (spBW K) := by
  refine T.F_law_bad_windows.ok sc_law_bad_windows (fun vs H Q E h => ?_) (fun cdv A' outer s H vs Q E hr h => ?_)
  · obtain ⟨n, t, p, cs, ts, ss, ps, rfl, _⟩ := h
    rfl
  · obtain ⟨n, t, p, cs, ts, ss, ps, rfl, hN, hTd, hTs, hP, hpl, okc, hst, wok, k⟩ := h
    refine ⟨_, (pss_cons (ps_set (i := 3) sc_law_bad_windows.nd rfl (Or.inl rfl) (pe_op op_mod (pe_callTy call_int1 (by rfl) T.n_int (by decide +kernel) (pa_cons (pe_ix ix_list (pv 2) pe_int (fun _ _ => rfl)) pa_nil)) (pe_op op_add (pe_callB call_len_seq (by rfl) T.n_len (by decide +kernel) (pa_cons (pv 1) pa_nil)) pe_int)))
      (pss_cons (ps_set (i := 4) sc_law_bad_windows.nd rfl (Or.inl rfl) (pe_op op_sub (pe_op op_mod (pe_callTy call_int1 (by rfl) T.n_int (by decide +kernel) (pa_cons (pe_ix ix_list (pv 2) pe_int (fun _ _ => rfl)) pa_nil)) pe_int) pe_int))
      (pss_cons (ps_set (i := 5) sc_law_bad_windows.nd rfl (Or.inl rfl) (pe_tup (pa_cons pe_str (pa_cons (pv 4) (pa_cons (pe_op op_add (pv 4) pe_int) pa_nil)))))
      (pss_cons (ps_set (i := 6) sc_law_bad_windows.nd rfl (Or.inl rfl) (pe_op op_mod (pe_callTy call_int1 (by rfl) T.n_int (by decide +kernel) (pa_cons (pe_ix ix_list (pv 2) pe_int (fun _ _ => rfl)) pa_nil)) pe_int))
      (pss_cons (ps_if (PW.pt (pw_and (pt_cmpR op_gt (pe_callB call_len_seq (by rfl) T.n_len (by decide +kernel) (pa_cons (pv 0) pa_nil)) pe_int (nomark _)) (pw_and1 (pt_cmpR op_gt (pv 6) pe_int (nomark _))))) (pss_cons (ps_setLc (i := 7) (own := [("name", 8)]) (g := gName 8) (tt := _) rfl sc_law_bad_windows.nd rfl rfl (sw_true rfl rfl rfl (by decide +kernel)) (pi_list (pv 0)) (blkOk_by (N := ["names", "windows", "pool", "at", "low", "one", "word", "free", "name", "window"]) (sc := defScope s_law_bad_windows) (by decide +kernel)) (fun _ _ _ _ _ => (pg_name (i := 8) sc_law_bad_windows.nd rfl (Or.inl rfl))) (fun _ _ _ _ _ => (pts_one (pt_cmpR (show OpR _ _ (rIn K true) from op_notIn_seq) (pv 8) (pe_lc (own := [("window", 9)]) (g := gName 9) (tt := tYes) rfl sc_law_bad_windows.nd (show PI _ _ _ (iList K _) from (pi_list (pv 1))) (blkOk_by (N := ["names", "windows", "pool", "at", "low", "one", "word", "free", "name", "window"]) (sc := nsc_law_bad_windows) (by decide +kernel)) (fun _ _ _ _ _ => (pg_name (i := 9) sc_law_bad_windows.nd rfl (Or.inl rfl))) (fun _ _ _ _ _ => pts_nil) (fun _ _ _ _ _ => (pe_ix (show IxR _ (rIxT K) from ix_tup) (pv 9) pe_int (fun _ _ => rfl)))) (by with_unfolding_all rfl)))) (fun _ _ _ _ _ => (pv 8)))
      (pss_cons (ps_if (PW.pt (pw_or (pt_cmpR op_eq (pe_callB call_len_seq (by rfl) T.n_len (by decide +kernel) (pa_cons (pv 7) pa_nil)) pe_int (nomark _)) (pw_or1 (pt_cmpR op_eq (pv 6) pe_int (nomark _))))) (pss_cons (ps_set (i := 5) sc_law_bad_windows.nd rfl (Or.inl rfl) (pe_tup (pa_cons (pe_ix ix_list (pv 0) (pe_op op_mod (pe_callTy call_int1 (by rfl) T.n_int (by decide +kernel) (pa_cons (pe_ix ix_list (pv 2) pe_int (fun _ _ => rfl)) pa_nil)) (pe_callB call_len_seq (by rfl) T.n_len (by decide +kernel) (pa_cons (pv 0) pa_nil))) (fun _ _ => rfl)) (pa_cons (pv 4) (pa_cons (pe_op op_add (pv 4) pe_int) pa_nil)))))
      (pss_one (ps_ret (pe_lst (pa_cons (pe_op op_cat (pe_callTy (show CallR _ _ (rListOf K) from call_list_of) (by rfl) T.n_list (by decide +kernel) (pa_cons (pv 1) pa_nil)) (pe_lst (pa_cons (pv 5) (pa_cons (pv 5) pa_nil)))) (pa_cons (pe_op op_add (pe_callB call_len_seq (by rfl) T.n_len (by decide +kernel) (pa_cons (pv 1) pa_nil)) (pe_callTy call_int1 (by rfl) T.n_int (by decide +kernel) (pa_cons (pe_cmpR op_in_seq (pe_ix ix_tup (pv 5) pe_int (fun _ _ => rfl)) (pv 7) (by with_unfolding_all rfl)) pa_nil))) pa_nil)))))) pss_nil)
      (pss_cons (ps_set (i := 5) sc_law_bad_windows.nd rfl (Or.inl rfl) (pe_tup (pa_cons (pe_ix ix_list (pv 7) (pe_op op_mod (pe_callTy call_int1 (by rfl) T.n_int (by decide +kernel) (pa_cons (pe_ix ix_list (pv 2) pe_int (fun _ _ => rfl)) pa_nil)) (pe_callB call_len_seq (by rfl) T.n_len (by decide +kernel) (pa_cons (pv 7) pa_nil))) (fun _ _ => rfl)) (pa_cons (pv 4) (pa_cons (pe_op op_sub (pe_op op_sub (pv 4) pe_int) (pe_op op_mod (pe_callTy call_int1 (by rfl) T.n_int (by decide +kernel) (pa_cons (pe_ix ix_list (pv 2) pe_int (fun _ _ => rfl)) pa_nil)) pe_int)) pa_nil)))))
      (pss_cut (ps_if (pt_cmpR op_eq (pv 6) pe_int (nomark _)) (pss_one (ps_set (i := 5) sc_law_bad_windows.nd rfl (Or.inl rfl) (pe_tup (pa_cons (pe_ix ix_tup (pv 5) pe_int (fun _ _ => rfl)) (pa_cons (pe_op op_sub (pe_op op_sub (pe_un un_neg (pe_op op_pow pe_int pe_int)) pe_int) (pe_op op_mod (pe_callTy call_int1 (by rfl) T.n_int (by decide +kernel) (pa_cons (pe_ix ix_list (pv 2) pe_int (fun _ _ => rfl)) pa_nil)) pe_int)) (pa_cons (pv 4) pa_nil)))))) pss_nil)
      (pss_one (ps_if (pt_cmpR op_eq (pv 6) pe_int (nomark _)) (pss_one (ps_set (i := 5) sc_law_bad_windows.nd rfl (Or.inl rfl) (pe_tup (pa_cons (pe_ix ix_tup (pv 5) pe_int (fun _ _ => rfl)) (pa_cons (pv 4) (pa_cons (pe_op op_add (pe_op op_add (pe_op op_pow pe_int pe_int) pe_int) (pe_op op_mod (pe_callTy call_int1 (by rfl) T.n_int (by decide +kernel) (pa_cons (pe_ix ix_list (pv 2) pe_int (fun _ _ => rfl)) pa_nil)) pe_int)) pa_nil)))))) pss_nil)))))) pss_nil)
      (pss_one (ps_ret (pe_lst (pa_cons (pe_op op_cat (pe_op op_cat (pe_slice sl_list (pv 1) po_none (po_some (pv 3))) (pe_lst (pa_cons (pv 5) pa_nil))) (pe_slice sl_list (pv 1) (po_some (pv 3)) po_none)) (pa_cons (pv 3) pa_nil)))))))))), ?_⟩
    have cl := okc.n
    have sl := wok.len okc.n
    obtain ⟨v0, _, e0⟩ := atI_ok (xs := ps) (j := 0) (by omega) (by omega)
    obtain ⟨v1, _, e1⟩ := atI_ok (xs := ps) (j := 1) (by omega) (by omega)
    obtain ⟨v2, _, e2⟩ := atI_ok (xs := ps) (j := 2) (by omega) (by omega)
    obtain ⟨v3, _, e3⟩ := atI_ok (xs := ps) (j := 3) (by omega) (by omega)
    obtain ⟨v4, _, e4⟩ := atI_ok (xs := ps) (j := 4) (by omega) (by omega)
    have lt : ((ts.map V.ref).length : Int) = (ss.length : Int) := by rw [List.length_map, hTs.len]
    have mm : ∀ a q : Int, (0 : Int) < q → 0 ≤ a % q ∧ a % q < q := fun a q hq => ⟨Int.emod_nonneg _ (by omega), Int.emod_lt_of_pos _ hq⟩
    refine ⟨_, rfl, p, _, _, _, rfl, rfl, hP, e0, .inl ⟨_, rfl, _, rfl, t, _, rfl, .inl hTd, _, _, rfl, rfl, _, _, rfl, rfl, by rw [lt]; omega, ?_⟩⟩
    have mA := mm v0 (((ts.map V.ref).length : Int) + 1) (by rw [lt]; omega)
    obtain ⟨at_, hAn⟩ := Int.eq_ofNat_of_zero_le mA.1
    have hat : at_ ≤ ss.length := by rw [hAn, lt] at mA; omega
    have hA2 : V.int (v0 % (((ts.map V.ref).length : Int) + 1)) = V.int ((at_ : Nat) : Int) := by rw [hAn]
    dsimp only
    rw [hA2]
    refine ⟨_, rfl, p, _, _, _, rfl, rfl, hP, e1, .inl ⟨_, rfl, _, _, rfl, rfl, by show (0 : Int) < 2001; decide, _, _, rfl, rfl, ?_⟩⟩
    have mL := mm v1 2001 (by decide)
    obtain ⟨lo, hlo⟩ : ∃ lo, v1 % 2001 - 1000 = lo := ⟨_, rfl⟩
    dsimp only
    rw [hlo]
    have hlb : -1000 ≤ lo ∧ lo ≤ 1000 := by omega
    clear hlo mL
    refine ⟨_, rfl, _, rfl, _, _, rfl, rfl, by show 3 ≤ sizeLine; decide, fun t1 n1 => ?_⟩
    generalize hG : upd H t1 _ = H1
    have q1 : Same H H1 := hG ▸ same_new n1
    have x1 := (congrFun hG t1).symm.trans upd_same
    clear hG
    refine ⟨_, rfl, p, _, _, _, rfl, rfl, q1.seq hP, e2, .inl ⟨_, rfl, _, _, rfl, rfl, by show (0 : Int) < 6; decide, ?_⟩⟩
    have mW := mm v2 6 (by decide)
    obtain ⟨wd, hwd⟩ : ∃ wd, v2 % 6 = wd := ⟨_, rfl⟩
    dsimp only
    rw [hwd] at mW ⊢
    clear hwd
    -- the last line: one window put in at a place
    refine ⟨_, rfl, n, _, rfl, .inl (q1.seq hN), _, _, rfl, rfl, _, rfl, ?_⟩
    by_cases hc : 0 < cs.length
    · refine ifT (decide_eq_true (by rw [len_sv]; omega)) ⟨_, rfl, _, _, rfl, rfl, _, rfl, ?_⟩
      by_cases hw : 0 < wd
      · refine itY hw ?_
        refine ⟨_, rfl, n, rfl, ⟨_, q1.seq hN⟩, fun F nF => lc_it walk_list (fun i G => Same H1 G ∧ G F = some (.lst (sv (freeN (cs.take i) ss)))) ⟨same_new nF, upd_same⟩ (fun i G _ q => (q1.trans q.1).seq hN) ?_ ?_⟩
        · rintro i x G0 G hi ⟨sG, hF⟩ ⟨rfl, hx⟩
          obtain ⟨z, hz, rfl⟩ := sv_get hx
          refine ⟨rfl, ?_⟩
          refine ⟨_, rfl, _, rfl, t, rfl, ⟨_, (q1.trans sG).seq hTd⟩, fun W nW => lc_it walk_list (fun j G2 => Same G G2 ∧ G2 W = some (.lst (sv (nms (ss.take j))))) ⟨same_new nW, upd_same⟩ (fun j G2 _ q => (q1.trans (sG.trans q.1)).seq hTd) ?_ ?_⟩
          · rintro j x G30 G3 hj ⟨s3, hW⟩ ⟨rfl, hx⟩
            obtain ⟨b, hb, rfl⟩ := refs_get hx
            obtain ⟨⟨zn, zl, zh⟩, hzb, hob⟩ := hTs.get hb
            have b0 : atI (w3 (zn, zl, zh)) 0 = some (.str zn) := atI_nat (j := 0) rfl
            refine ⟨rfl, _, rfl, b, _, _, _, rfl, rfl, (q1.trans (sG.trans s3)).tup hob, b0, _, hW, small_int (by rw [len_sv, List.length_map, List.length_take]; omega), fun b o e => by rw [upd_ne (ne_of_none e nW)]; exact s3 _ _ e, ?_⟩
            rw [upd_same, take_succ hzb]
            show some (HO.lst (((ss.take j).map (·.1)).map V.str ++ [V.str zn])) = some (HO.lst (((ss.take j ++ [(zn, zl, zh)]).map (·.1)).map V.str))
            rw [List.map_append, List.map_append]; rfl
          rintro G3 ⟨s3, hW⟩
          rw [List.length_map, hTs.len, List.take_length] at hW
          have hF3 := s3 _ _ hF
          refine ⟨W, _, rfl, .inl (SqL.of hW), rfl, flat_sv _, _, rfl, ?_⟩
          rw [if_pos rfl, inV_str]
          by_cases hm : z ∈ nms ss
          · refine ifF (by rw [decide_eq_true hm]; rfl) ⟨sG.trans s3, ?_⟩
            unfold freeN
            rw [take_succ hz, List.filter_append, List.filter_cons_of_neg (by simp [hm]), List.filter_nil, List.append_nil]
            exact hF3
          · refine ifT (by rw [decide_eq_false hm]; rfl) ⟨_, rfl, _, hF3, small_int (by rw [len_sv]; have := List.length_filter_le (fun z => decide (z ∉ nms ss)) (cs.take i); rw [List.length_take] at this; show (freeN (cs.take i) ss).length ≤ 1000000; unfold freeN; omega), fun b o e => by rw [upd_ne (ne_of_none e nF)]; exact s3 _ _ (sG _ _ e), ?_⟩
            rw [upd_same]
            unfold freeN
            rw [take_succ hz, List.filter_append, List.filter_cons_of_pos (by simp [hm]), List.filter_nil]
            show some (HO.lst ((List.filter _ _).map V.str ++ [V.str z])) = some (HO.lst ((List.filter _ _ ++ [z]).map V.str))
            rw [List.map_append]; rfl
        rintro H2 ⟨s2, hF⟩
        rw [len_sv, List.take_length] at hF
        have s12 := q1.trans s2
        have hP2 := s12.seq hP
        have hN2 := s12.seq hN
        have lN : ((sv cs).length : Int) = (cs.length : Int) := by rw [len_sv]
        have fl := List.length_filter_le (fun z => decide (z ∉ nms ss)) cs
        refine ⟨_, rfl, F, _, rfl, .inl (SqL.of hF), rfl, _, rfl, ?_⟩
        by_cases hz0 : (freeN cs ss).length = 0
        · refine ifT (by rw [len_sv, hz0]; rfl) ?_
          have m0 := mm v3 (((sv cs).length : Nat) : Int) (by rw [lN]; omega)
          obtain ⟨j, hj⟩ := Int.eq_ofNat_of_zero_le m0.1
          have hjl : j < cs.length := by rw [hj, lN] at m0; omega
          have hm := List.getElem_mem hjl
          have en : atI (sv cs) (v3 % (((sv cs).length : Nat) : Int)) = some (V.str cs[j]) := by rw [hj]; exact atI_nat (by rw [List.getElem?_map, List.getElem?_eq_getElem hjl]; rfl)
          generalize cs[j] = z at hm en
          refine ⟨_, rfl, _, rfl, p, _, _, _, rfl, rfl, hP2, e3, .inl ⟨_, rfl, _, rfl, n, _, rfl, .inl hN2, _, _, rfl, rfl, by rw [lN]; omega, n, _, _, _, rfl, rfl, hN2, en, _, rfl, _, rfl, _, _, rfl, rfl, by show 3 ≤ sizeLine; decide, fun t3 n3 => ?_⟩⟩
          generalize hG : upd H2 t3 _ = H3
          have q3 : Same H2 H3 := hG ▸ same_new n3
          have x3 := (congrFun hG t3).symm.trans upd_same
          clear hG
          have s13 := s12.trans q3
          refine ⟨_, rfl, t, _, rfl, .inl (s13.seq hTd), fun a1 m1 => ?_⟩
          generalize hG : upd H3 a1 _ = H4
          have q4 : Same H3 H4 := hG ▸ same_new m1
          have x4 := (congrFun hG a1).symm.trans upd_same
          clear hG
          refine ⟨_, rfl, _, rfl, by show 2 ≤ sizeLine; decide, fun a2 m2 => ?_⟩
          generalize hG : upd H4 a2 _ = H5
          have q5 : Same H4 H5 := hG ▸ same_new m2
          have x5 := (congrFun hG a2).symm.trans upd_same
          clear hG
          refine catO (q5 _ _ x4) x5 (by rw [List.length_map, hTs.len]; show _ + 2 ≤ 1000000; omega) fun a3 H6 q6 _ x6 => ?_
          have q36 := q4.trans (q5.trans q6)
          have s16 := s13.trans q36
          have o0 : atI [V.str z, .int lo, .int (lo + 5)] 0 = some (.str z) := atI_nat (j := 0) rfl
          have hF6 := q36 _ _ (q3 _ _ hF)
          refine ⟨_, rfl, t, _, rfl, .inl (s16.seq hTd), _, rfl, t3, _, _, _, rfl, rfl, SqT.of (q36 _ _ x3), o0, _, rfl, F, _, rfl, .inl (SqL.of hF6), rfl, flat_sv _, .inr ⟨_, rfl, _, _, rfl, rfl, by show 2 ≤ sizeLine; decide, fun a6 m6 => ?_⟩⟩
          generalize hG : upd H6 a6 _ = H7
          have q7 : Same H6 H7 := hG ▸ same_new m6
          have x7 := (congrFun hG a6).symm.trans upd_same
          clear hG
          have hb6 : H7 a3 = some (.lst ((ts ++ [t3, t3]).map V.ref)) := by rw [q7 _ _ x6, List.map_append]; rfl
          have tl7 : Tl (SqT K) H7 (ts ++ [t3, t3]) (ss ++ [((z, lo, lo + 5) : TW), (z, lo, lo + 5)]) := by
            have t3' : SqT K H7 t3 (w3 (z, lo, lo + 5)) := SqT.of (q7 _ _ (q36 _ _ x3))
            exact (hTs.imp fun t s z => (s16.trans q7).tup z).app ((Tl.one t3').app (Tl.one t3'))
          have l7 : (ss ++ [((z, lo, lo + 5) : TW), (z, lo, lo + 5)]).length ≤ 20 := by rw [List.length_append]; show _ + 2 ≤ 20; omega
          by_cases hf : z ∈ freeN cs ss
          · have hz2 : z ∉ nms ss := of_decide_eq_true (List.mem_filter.mp hf).2
            refine k a6 a3 _ _ (ss.length + 1) H7 (s16.trans q7) (by rw [x7, if_neg Bool.false_ne_true, inV_str, decide_eq_true hf, if_pos rfl, lt]; rfl) hb6 tl7 l7 ?_
            have := winF_at (post := []) (b := ((z, lo, lo + 5) : TW)) (wok.snoc (s := (z, lo, lo + 5)) hm hz2 (show -1000000 ≤ lo ∧ lo ≤ lo + 5 ∧ lo + 5 ≤ 1000000 by omega)) (okW_dup (List.mem_map_of_mem (f := fun s : TW => s.1) (List.mem_append.mpr (.inr (List.mem_singleton.mpr rfl)))))
            rw [List.append_assoc, List.length_append] at this
            exact this
          · have hz2 : z ∈ nms ss := Classical.byContradiction fun h9 => hf (List.mem_filter.mpr ⟨hm, decide_eq_true h9⟩)
            refine k a6 a3 _ _ ss.length H7 (s16.trans q7) (by rw [x7, if_neg Bool.false_ne_true, inV_str, decide_eq_false hf, if_neg Bool.false_ne_true, lt]; show some (HO.lst [V.ref a3, V.int ((ss.length : Int) + 0)]) = _; rw [Int.add_zero]) hb6 tl7 l7 (winF_at (post := [_]) wok (okW_dup hz2))
        · refine ifF (decide_eq_false fun e => hz0 (by have := V.int.inj e; rw [len_sv] at this; omega)) ⟨_, rfl, rfl, _, rfl, ?_⟩
          by_cases hw1 : wd = 1
          · refine ifT (by rw [hw1]; rfl) ?_
            have m0 := mm v3 (((sv cs).length : Nat) : Int) (by rw [lN]; omega)
            obtain ⟨j, hj⟩ := Int.eq_ofNat_of_zero_le m0.1
            have hjl : j < cs.length := by rw [hj, lN] at m0; omega
            have hm := List.getElem_mem hjl
            have en : atI (sv cs) (v3 % (((sv cs).length : Nat) : Int)) = some (V.str cs[j]) := by rw [hj]; exact atI_nat (by rw [List.getElem?_map, List.getElem?_eq_getElem hjl]; rfl)
            generalize cs[j] = z at hm en
            refine ⟨_, rfl, _, rfl, p, _, _, _, rfl, rfl, hP2, e3, .inl ⟨_, rfl, _, rfl, n, _, rfl, .inl hN2, _, _, rfl, rfl, by rw [lN]; omega, n, _, _, _, rfl, rfl, hN2, en, _, rfl, _, rfl, _, _, rfl, rfl, by show 3 ≤ sizeLine; decide, fun t3 n3 => ?_⟩⟩
            generalize hG : upd H2 t3 _ = H3
            have q3 : Same H2 H3 := hG ▸ same_new n3
            have x3 := (congrFun hG t3).symm.trans upd_same
            clear hG
            have s13 := s12.trans q3
            refine ⟨_, rfl, t, _, rfl, .inl (s13.seq hTd), fun a1 m1 => ?_⟩
            generalize hG : upd H3 a1 _ = H4
            have q4 : Same H3 H4 := hG ▸ same_new m1
            have x4 := (congrFun hG a1).symm.trans upd_same
            clear hG
            refine ⟨_, rfl, _, rfl, by show 2 ≤ sizeLine; decide, fun a2 m2 => ?_⟩
            generalize hG : upd H4 a2 _ = H5
            have q5 : Same H4 H5 := hG ▸ same_new m2
            have x5 := (congrFun hG a2).symm.trans upd_same
            clear hG
            refine catO (q5 _ _ x4) x5 (by rw [List.length_map, hTs.len]; show _ + 2 ≤ 1000000; omega) fun a3 H6 q6 _ x6 => ?_
            have q36 := q4.trans (q5.trans q6)
            have s16 := s13.trans q36
            have o0 : atI [V.str z, .int lo, .int (lo + 5)] 0 = some (.str z) := atI_nat (j := 0) rfl
            have hF6 := q36 _ _ (q3 _ _ hF)
            refine ⟨_, rfl, t, _, rfl, .inl (s16.seq hTd), _, rfl, t3, _, _, _, rfl, rfl, SqT.of (q36 _ _ x3), o0, _, rfl, F, _, rfl, .inl (SqL.of hF6), rfl, flat_sv _, .inr ⟨_, rfl, _, _, rfl, rfl, by show 2 ≤ sizeLine; decide, fun a6 m6 => ?_⟩⟩
            generalize hG : upd H6 a6 _ = H7
            have q7 : Same H6 H7 := hG ▸ same_new m6
            have x7 := (congrFun hG a6).symm.trans upd_same
            clear hG
            have hb6 : H7 a3 = some (.lst ((ts ++ [t3, t3]).map V.ref)) := by rw [q7 _ _ x6, List.map_append]; rfl
            have tl7 : Tl (SqT K) H7 (ts ++ [t3, t3]) (ss ++ [((z, lo, lo + 5) : TW), (z, lo, lo + 5)]) := by
              have t3' : SqT K H7 t3 (w3 (z, lo, lo + 5)) := SqT.of (q7 _ _ (q36 _ _ x3))
              exact (hTs.imp fun t s z => (s16.trans q7).tup z).app ((Tl.one t3').app (Tl.one t3'))
            have l7 : (ss ++ [((z, lo, lo + 5) : TW), (z, lo, lo + 5)]).length ≤ 20 := by rw [List.length_append]; show _ + 2 ≤ 20; omega
            by_cases hf : z ∈ freeN cs ss
            · have hz2 : z ∉ nms ss := of_decide_eq_true (List.mem_filter.mp hf).2
              refine k a6 a3 _ _ (ss.length + 1) H7 (s16.trans q7) (by rw [x7, if_neg Bool.false_ne_true, inV_str, decide_eq_true hf, if_pos rfl, lt]; rfl) hb6 tl7 l7 ?_
              have := winF_at (post := []) (b := ((z, lo, lo + 5) : TW)) (wok.snoc (s := (z, lo, lo + 5)) hm hz2 (show -1000000 ≤ lo ∧ lo ≤ lo + 5 ∧ lo + 5 ≤ 1000000 by omega)) (okW_dup (List.mem_map_of_mem (f := fun s : TW => s.1) (List.mem_append.mpr (.inr (List.mem_singleton.mpr rfl)))))
              rw [List.append_assoc, List.length_append] at this
              exact this
            · have hz2 : z ∈ nms ss := Classical.byContradiction fun h9 => hf (List.mem_filter.mpr ⟨hm, decide_eq_true h9⟩)
              refine k a6 a3 _ _ ss.length H7 (s16.trans q7) (by rw [x7, if_neg Bool.false_ne_true, inV_str, decide_eq_false hf, if_neg Bool.false_ne_true, lt]; show some (HO.lst [V.ref a3, V.int ((ss.length : Int) + 0)]) = _; rw [Int.add_zero]) hb6 tl7 l7 (winF_at (post := [_]) wok (okW_dup hz2))
          · refine ifF (decide_eq_false fun e => hw1 (V.int.inj e)) ?_
            have hp0 : 0 < (freeN cs ss).length := by omega
            have lF : ((sv (freeN cs ss)).length : Int) = ((freeN cs ss).length : Int) := by rw [len_sv]
            have m0 := mm v3 (((sv (freeN cs ss)).length : Nat) : Int) (by rw [lF]; omega)
            obtain ⟨j, hj⟩ := Int.eq_ofNat_of_zero_le m0.1
            have hjl : j < (freeN cs ss).length := by rw [hj, lF] at m0; omega
            have en : atI (sv (freeN cs ss)) (v3 % (((sv (freeN cs ss)).length : Nat) : Int)) = some (V.str (freeN cs ss)[j]) := by rw [hj]; exact atI_nat (by rw [List.getElem?_map, List.getElem?_eq_getElem hjl]; rfl)
            generalize (freeN cs ss)[j] = z at en
            have m3 := mm v4 3 (by decide)
            have m5 := mm v4 5 (by decide)
            refine ⟨_, rfl, _, rfl, p, _, _, _, rfl, rfl, hP2, e3, .inl ⟨_, rfl, _, rfl, F, _, rfl, .inl (SqL.of hF), _, _, rfl, rfl, by rw [lF]; omega, F, _, _, _, rfl, rfl, SqL.of hF, en, ?_⟩⟩
            refine ⟨_, rfl, _, rfl, _, _, rfl, rfl, _, rfl, p, _, _, _, rfl, rfl, hP2, e4, .inl ⟨_, rfl, _, _, rfl, rfl, by show (0 : Int) < 3; decide, _, _, rfl, rfl, by show 3 ≤ sizeLine; decide, fun t3 n3 => ?_⟩⟩
            generalize hG : upd H2 t3 _ = H3
            have q3 : Same H2 H3 := hG ▸ same_new n3
            have x3 := (congrFun hG t3).symm.trans upd_same
            clear hG
            have s13 := s12.trans q3
            have o0 : ∀ b : TW, b.1 = z → atI (w3 b) 0 = some (.str z) := fun b e => by rw [← e]; exact atI_nat (j := 0) rfl
            refine ⟨fun σ G => Same H G ∧ ∃ (q : Addr) (b : TW), σ = [some (.ref n), some (.ref t), some (.ref p), some (.int (at_ : Nat)), some (.int lo), some (.ref q), some (.int wd), some (.ref F), none, none] ∧ SqT K G q (w3 b) ∧ b.1 = z ∧ ¬ (-1000000 ≤ b.2.1 ∧ b.2.1 ≤ b.2.2 ∧ b.2.2 ≤ 1000000), ?_, ?_⟩
            · refine ⟨_, rfl, rfl, _, rfl, ite2 (fun _ => ?_) (fun _ => ?_)⟩
              · refine ⟨_, rfl, t3, _, _, _, rfl, rfl, SqT.of x3, o0 (z, lo, lo - 1 - v4 % 3) rfl, _, _, rfl, rfl, ⟨by decide, by decide⟩, _, rfl, _, _, rfl, rfl, _, rfl, p, _, _, _, rfl, rfl, s13.seq hP, e4, .inl ⟨_, rfl, _, _, rfl, rfl, by show (0 : Int) < 5; decide, _, _, rfl, rfl, _, rfl, by show 3 ≤ sizeLine; decide, fun t4 n4 => ?_⟩⟩
                generalize hG : upd H3 t4 _ = H4
                have q4 : Same H3 H4 := hG ▸ same_new n4
                have x4 := (congrFun hG t4).symm.trans upd_same
                clear hG
                exact ⟨s13.trans q4, t4, (z, -(10 : Int) ^ (6 : Int).toNat - 1 - v4 % 5, lo), rfl, SqT.of x4, rfl, fun h => by have h : -1000000 ≤ -(10 : Int) ^ (6 : Int).toNat - 1 - v4 % 5 := h.1; rw [show (10 : Int) ^ (6 : Int).toNat = 1000000 by decide] at h; omega⟩
              · exact ⟨s13, t3, (z, lo, lo - 1 - v4 % 3), rfl, SqT.of x3, rfl, fun h => by have h : lo ≤ lo - 1 - v4 % 3 := h.2.1; omega⟩
            clear x3 q3 n3
            rintro σ G4 ⟨s4, q, b, rfl, hq, hbz, hbb⟩
            refine ⟨_, rfl, rfl, _, rfl, ite2 (fun _ => ?_) (fun _ => ?_)⟩
            · refine ⟨_, rfl, q, _, _, _, rfl, rfl, hq, o0 b hbz, _, rfl, _, _, rfl, rfl, ⟨by decide, by decide⟩, _, _, rfl, rfl, _, rfl, p, _, _, _, rfl, rfl, s4.seq hP, e4, .inl ⟨_, rfl, _, _, rfl, rfl, by show (0 : Int) < 5; decide, _, _, rfl, rfl, by show 3 ≤ sizeLine; decide, fun t4 n4 => ?_⟩⟩
              generalize hG : upd G4 t4 _ = G5
              have q5 : Same G4 G5 := hG ▸ same_new n4
              have x5 := (congrFun hG t4).symm.trans upd_same
              clear hG
              have s5 := s4.trans q5
              have hb4 : ¬ (-1000000 ≤ lo ∧ lo ≤ (10 : Int) ^ (6 : Int).toNat + 1 + v4 % 5 ∧ (10 : Int) ^ (6 : Int).toNat + 1 + v4 % 5 ≤ 1000000) := fun h => by have h := h.2.2; rw [show (10 : Int) ^ (6 : Int).toNat = 1000000 by decide] at h; omega
              have wL : okW cs (nms (ss.take at_)) ((z, lo, (10 : Int) ^ (6 : Int).toNat + 1 + v4 % 5) : TW) = false := okW_bd hb4
              have lta : (ss.take at_).length = at_ := by rw [List.length_take]; omega
              refine ⟨_, rfl, _, rfl, _, rfl, slO (s5.seq hTd) fun a1 G1 r1 _ h1 => ?_⟩
              rw [cut_takeG, ← List.map_take] at h1
              refine ⟨_, rfl, by show 1 ≤ sizeLine; decide, fun a2 m2 => ?_⟩
              generalize hG : upd G1 a2 _ = G2
              have r2 : Same G1 G2 := hG ▸ same_new m2
              have h2 := (congrFun hG a2).symm.trans upd_same
              clear hG
              refine catO (r2 _ _ h1) h2 (by rw [List.length_map, List.length_take, hTs.len]; show _ + 1 ≤ 1000000; omega) fun a3 G3 r3 _ h3 => ?_
              have r13 := r1.trans (r2.trans r3)
              refine ⟨_, rfl, _, rfl, _, rfl, ?_⟩
              dsimp only [tNoPart]
              refine slO ((s5.trans r13).seq hTd) fun a4 G4 r4 _ h4 => ?_
              rw [cut_dropG, ← List.map_drop] at h4
              refine catO (r4 _ _ h3) h4 (by rw [List.length_append, List.length_map, List.length_map, List.length_take, List.length_drop, hTs.len]; show _ + 1 + _ ≤ 1000000; omega) fun a5 G5 r5 _ h5 => ?_
              refine ⟨_, rfl, by show 2 ≤ sizeLine; decide, fun a6 m6 => ?_⟩
              generalize hG : upd G5 a6 _ = G6
              have r6 : Same G5 G6 := hG ▸ same_new m6
              have h6 := (congrFun hG a6).symm.trans upd_same
              clear hG
              have r46 := r13.trans (r4.trans (r5.trans r6))
              refine k a6 a5 (ts.take at_ ++ t4 :: ts.drop at_) (ss.take at_ ++ ((z, lo, (10 : Int) ^ (6 : Int).toNat + 1 + v4 % 5) : TW) :: ss.drop at_) at_ G6 (s5.trans r46) h6 (by rw [r6 _ _ h5, List.map_append, List.map_cons, List.append_assoc]; rfl) ?_ ?_ ?_
              · have tl9 : Tl (SqT K) G6 ts ss := hTs.imp fun t s z => (s5.trans r46).tup z
                exact (tl9.take at_).app ((Tl.one (s := ((z, lo, (10 : Int) ^ (6 : Int).toNat + 1 + v4 % 5) : TW)) (r46.tup (SqT.of x5))).app (tl9.drop at_))
              · rw [List.length_append, List.length_cons, List.length_take, List.length_drop]; omega
              · have := winF_at (post := ss.drop at_) (wok.take at_) wL
                rw [lta] at this
                exact this
            · have wL : okW cs (nms (ss.take at_)) b = false := okW_bd hbb
              have lta : (ss.take at_).length = at_ := by rw [List.length_take]; omega
              refine ⟨_, rfl, _, rfl, _, rfl, slO (s4.seq hTd) fun a1 G1 r1 _ h1 => ?_⟩
              rw [cut_takeG, ← List.map_take] at h1
              refine ⟨_, rfl, by show 1 ≤ sizeLine; decide, fun a2 m2 => ?_⟩
              generalize hG : upd G1 a2 _ = G2
              have r2 : Same G1 G2 := hG ▸ same_new m2
              have h2 := (congrFun hG a2).symm.trans upd_same
              clear hG
              refine catO (r2 _ _ h1) h2 (by rw [List.length_map, List.length_take, hTs.len]; show _ + 1 ≤ 1000000; omega) fun a3 G3 r3 _ h3 => ?_
              have r13 := r1.trans (r2.trans r3)
              refine ⟨_, rfl, _, rfl, _, rfl, ?_⟩
              dsimp only [tNoPart]
              refine slO ((s4.trans r13).seq hTd) fun a4 G4 r4 _ h4 => ?_
              rw [cut_dropG, ← List.map_drop] at h4
              refine catO (r4 _ _ h3) h4 (by rw [List.length_append, List.length_map, List.length_map, List.length_take, List.length_drop, hTs.len]; show _ + 1 + _ ≤ 1000000; omega) fun a5 G5 r5 _ h5 => ?_
              refine ⟨_, rfl, by show 2 ≤ sizeLine; decide, fun a6 m6 => ?_⟩
              generalize hG : upd G5 a6 _ = G6
              have r6 : Same G5 G6 := hG ▸ same_new m6
              have h6 := (congrFun hG a6).symm.trans upd_same
              clear hG
              have r46 := r13.trans (r4.trans (r5.trans r6))
              refine k a6 a5 (ts.take at_ ++ q :: ts.drop at_) (ss.take at_ ++ b :: ss.drop at_) at_ G6 (s4.trans r46) h6 (by rw [r6 _ _ h5, List.map_append, List.map_cons, List.append_assoc]; rfl) ?_ ?_ ?_
              · have tl9 : Tl (SqT K) G6 ts ss := hTs.imp fun t s z => (s4.trans r46).tup z
                exact (tl9.take at_).app ((Tl.one (s := b) (r46.tup hq)).app (tl9.drop at_))
              · rw [List.length_append, List.length_cons, List.length_take, List.length_drop]; omega
              · have := winF_at (post := ss.drop at_) (wok.take at_) wL
                rw [lta] at this
                exact this
      · refine itN hw ?_
        have wL : okW cs (nms (ss.take at_)) ((("stranger" : Str), lo, lo + 5) : TW) = false := okW_no hst
        have lta : (ss.take at_).length = at_ := by rw [List.length_take]; omega
        refine ⟨_, rfl, _, rfl, _, rfl, slO (q1.seq hTd) fun a1 G1 r1 _ h1 => ?_⟩
        rw [cut_takeG, ← List.map_take] at h1
        refine ⟨_, rfl, by show 1 ≤ sizeLine; decide, fun a2 m2 => ?_⟩
        generalize hG : upd G1 a2 _ = G2
        have r2 : Same G1 G2 := hG ▸ same_new m2
        have h2 := (congrFun hG a2).symm.trans upd_same
        clear hG
        refine catO (r2 _ _ h1) h2 (by rw [List.length_map, List.length_take, hTs.len]; show _ + 1 ≤ 1000000; omega) fun a3 G3 r3 _ h3 => ?_
        have r13 := r1.trans (r2.trans r3)
        refine ⟨_, rfl, _, rfl, _, rfl, ?_⟩
        dsimp only [tNoPart]
        refine slO ((q1.trans r13).seq hTd) fun a4 G4 r4 _ h4 => ?_
        rw [cut_dropG, ← List.map_drop] at h4
        refine catO (r4 _ _ h3) h4 (by rw [List.length_append, List.length_map, List.length_map, List.length_take, List.length_drop, hTs.len]; show _ + 1 + _ ≤ 1000000; omega) fun a5 G5 r5 _ h5 => ?_
        refine ⟨_, rfl, by show 2 ≤ sizeLine; decide, fun a6 m6 => ?_⟩
        generalize hG : upd G5 a6 _ = G6
        have r6 : Same G5 G6 := hG ▸ same_new m6
        have h6 := (congrFun hG a6).symm.trans upd_same
        clear hG
        have r46 := r13.trans (r4.trans (r5.trans r6))
        refine k a6 a5 (ts.take at_ ++ t1 :: ts.drop at_) (ss.take at_ ++ ((("stranger" : Str), lo, lo + 5) : TW) :: ss.drop at_) at_ G6 (q1.trans r46) h6 (by rw [r6 _ _ h5, List.map_append, List.map_cons, List.append_assoc]; rfl) ?_ ?_ ?_
        · have tl9 : Tl (SqT K) G6 ts ss := hTs.imp fun t s z => (q1.trans r46).tup z
          exact (tl9.take at_).app ((Tl.one (s := ((("stranger" : Str), lo, lo + 5) : TW)) (r46.tup (SqT.of x1))).app (tl9.drop at_))
        · rw [List.length_append, List.length_cons, List.length_take, List.length_drop]; omega
        · have := winF_at (post := ss.drop at_) (wok.take at_) wL
          rw [lta] at this
          exact this
    · refine ifF (decide_eq_false (by rw [len_sv]; omega)) ?_
      have wL : okW cs (nms (ss.take at_)) ((("stranger" : Str), lo, lo + 5) : TW) = false := okW_no hst
      have lta : (ss.take at_).length = at_ := by rw [List.length_take]; omega
      refine ⟨_, rfl, _, rfl, _, rfl, slO (q1.seq hTd) fun a1 G1 r1 _ h1 => ?_⟩
      rw [cut_takeG, ← List.map_take] at h1
      refine ⟨_, rfl, by show 1 ≤ sizeLine; decide, fun a2 m2 => ?_⟩
      generalize hG : upd G1 a2 _ = G2
      have r2 : Same G1 G2 := hG ▸ same_new m2
      have h2 := (congrFun hG a2).symm.trans upd_same
      clear hG
      refine catO (r2 _ _ h1) h2 (by rw [List.length_map, List.length_take, hTs.len]; show _ + 1 ≤ 1000000; omega) fun a3 G3 r3 _ h3 => ?_
      have r13 := r1.trans (r2.trans r3)
      refine ⟨_, rfl, _, rfl, _, rfl, ?_⟩
      dsimp only [tNoPart]
      refine slO ((q1.trans r13).seq hTd) fun a4 G4 r4 _ h4 => ?_
      rw [cut_dropG, ← List.map_drop] at h4
      refine catO (r4 _ _ h3) h4 (by rw [List.length_append, List.length_map, List.length_map, List.length_take, List.length_drop, hTs.len]; show _ + 1 + _ ≤ 1000000; omega) fun a5 G5 r5 _ h5 => ?_
      refine ⟨_, rfl, by show 2 ≤ sizeLine; decide, fun a6 m6 => ?_⟩
      generalize hG : upd G5 a6 _ = G6
      have r6 : Same G5 G6 := hG ▸ same_new m6
      have h6 := (congrFun hG a6).symm.trans upd_same
      clear hG
      have r46 := r13.trans (r4.trans (r5.trans r6))
      refine k a6 a5 (ts.take at_ ++ t1 :: ts.drop at_) (ss.take at_ ++ ((("stranger" : Str), lo, lo + 5) : TW) :: ss.drop at_) at_ G6 (q1.trans r46) h6 (by rw [r6 _ _ h5, List.map_append, List.map_cons, List.append_assoc]; rfl) ?_ ?_ ?_
      · have tl9 : Tl (SqT K) G6 ts ss := hTs.imp fun t s z => (q1.trans r46).tup z
        exact (tl9.take at_).app ((Tl.one (s := ((("stranger" : Str), lo, lo + 5) : TW)) (r46.tup (SqT.of x1))).app (tl9.drop at_))
      · rw [List.length_append, List.length_cons, List.length_take, List.length_drop]; omega
      · have := winF_at (post := ss.drop at_) (wok.take at_) wL
        rw [lta] at this
        exact this
end
end My
set_option maxRecDepth 100000
set_option maxHeartbeats 16000000
set_option exponentiation.threshold 10000
namespace My
open PySem L2
open C8 (pss_cut)
abbrev pd3 (s : TW) : List PyData := [.str s.1, .int s.2.1, .int s.2.2]
theorem dp_w3 {K : PySem.W.Frag} {H : Hp} (s : TW) : DpAll K H (w3 s) (pd3 s) := .cons (.str _) (.cons (.int _) (.cons (.int _) .nil))
abbrev pwl (ss : List TW) : List PyData := ss.map fun s => PyData.list (pd3 s)
abbrev pwt (ss : List TW) : List PyData := ss.map fun s => PyData.tuple (pd3 s)
theorem dp_wl {K : PySem.W.Frag} {H : Hp} : ∀ {ts : List Addr} {ss : List TW}, Tl (SqL K) H ts ss → DpAll K H (ts.map V.ref) (pwl ss)
  | [], [], _ => .nil
  | [], _ :: _, h => nomatch h.len
  | _ :: _, [], h => nomatch h.len
  | t :: ts, s :: ss, h => .cons (.lst (h.at_ 0 t s rfl rfl) (dp_w3 s)) (dp_wl ⟨Nat.succ.inj h.len, fun i u x a b => h.at_ (i + 1) u x a b⟩)
theorem dp_wt {K : PySem.W.Frag} {H : Hp} : ∀ {ts : List Addr} {ss : List TW}, Tl (SqT K) H ts ss → DpAll K H (ts.map V.ref) (pwt ss)
  | [], [], _ => .nil
  | [], _ :: _, h => nomatch h.len
  | _ :: _, [], h => nomatch h.len
  | t :: ts, s :: ss, h => .cons (.tup (h.at_ 0 t s rfl rfl) (dp_w3 s)) (dp_wt ⟨Nat.succ.inj h.len, fun i u x a b => h.at_ (i + 1) u x a b⟩)
theorem lay_pd3 {s : TW} (g : Good s.1) : PyData.canLayAll0 (pd3 s) = true := layc (okz_good g) (layc (lay_int _) (layc (lay_int _) (by simp [PyData.canLayAll0])))
theorem lay_pwl : ∀ {ss : List TW}, (∀ s ∈ ss, Good s.1) → PyData.canLayAll0 (pwl ss) = true
  | [], _ => by simp [PyData.canLayAll0]
  | s :: ss, h => layc (layL (lay_pd3 (h s List.mem_cons_self))) (lay_pwl fun x hx => h x (List.mem_cons_of_mem _ hx))
theorem lay_pwt : ∀ {ss : List TW}, (∀ s ∈ ss, Good s.1) → PyData.canLayAll0 (pwt ss) = true
  | [], _ => by simp [PyData.canLayAll0]
  | s :: ss, h => layc (layT (lay_pd3 (h s List.mem_cons_self))) (lay_pwt fun x hx => h x (List.mem_cons_of_mem _ hx))
theorem depth_pwl : ∀ ss : List TW, PyData.depthAll (pwl ss) ≤ 3
  | [] => by simp [PyData.depthAll]
  | s :: ss => by
    have h : PyData.depthAll (ss.map fun s => PyData.list (pd3 s)) ≤ 3 := depth_pwl ss
    simp only [List.map_cons, PyData.depthAll, PyData.depth]
    omega
theorem depth_pwt : ∀ ss : List TW, PyData.depthAll (pwt ss) ≤ 3
  | [] => by simp [PyData.depthAll]
  | s :: ss => by
    have h : PyData.depthAll (ss.map fun s => PyData.tuple (pd3 s)) ≤ 3 := depth_pwt ss
    simp only [List.map_cons, PyData.depthAll, PyData.depth]
    omega
theorem shL_pwl {ss : List TW} (h : ∀ s ∈ ss, Good s.1) : SeqAt.shaped (.list (pwl ss)) = true := shapedL (lay_pwl h) (Nat.le_trans (depth_pwl ss) (by decide))
theorem shT_pwt {ss : List TW} (h : ∀ s ∈ ss, Good s.1) : SeqAt.shaped (.tuple (pwt ss)) = true := shapedT (lay_pwt h) (Nat.le_trans (depth_pwt ss) (by decide))
theorem TbD.updL {C : Addr} {H : Hp} {p b : Addr} {cs : List Str} {rs : List (List Str)} {ys : List V} {o : HO} (h : TbD C H p cs rs) (hb : H b = some (.lst ys)) : TbD C (upd H b o) p cs rs := by
  obtain ⟨dxt, ct, rt, ts, h1, h2, h3, h4⟩ := h
  have nb : ∀ a u, H a = some u → (∀ zs, u ≠ .lst zs) → upd H b o a = some u := fun a u e hne => by
    rw [upd_ne (fun z => hne ys (by rw [z, hb] at e; exact (Option.some.inj e).symm))]; exact e
  exact ⟨dxt, ct, rt, ts, nb _ _ h1 (fun _ z => nomatch z), h2.upd hb (fun _ _ z => nomatch z), h3.upd hb (fun _ _ z => nomatch z), ⟨h4.len, fun i t x a b => nb _ _ (h4.at_ i t x a b) (fun _ z => nomatch z)⟩⟩
theorem Wns.updL {C CT : Addr} {K : PySem.W.Frag} {H : Hp} {p tb b : Addr} {cs : List Str} {rs : List (List Str)} {ss : List TW} {ys : List V} {o : HO} (h : Wns C CT K H p tb cs rs ss) (hb : H b = some (.lst ys)) : Wns C CT K (upd H b o) p tb cs rs ss := by
  obtain ⟨dx, ut, us, h1, h2, h3, h4⟩ := h
  have nb : ∀ a u, H a = some u → (∀ zs, u ≠ .lst zs) → upd H b o a = some u := fun a u e hne => by
    rw [upd_ne (fun z => hne ys (by rw [z, hb] at e; exact (Option.some.inj e).symm))]; exact e
  exact ⟨dx, ut, us, nb _ _ h1 (fun _ z => nomatch z), h2.updL hb, nb _ _ h3 (fun _ z => nomatch z), h4.imp fun t s q => sqt_updL q hb⟩
end My
set_option maxRecDepth 100000
set_option maxHeartbeats 16000000
set_option exponentiation.threshold 10000
namespace My
open PySem L2
open C8 (pss_cut)
/-- rows as data -/
abbrev pdr (rs : List (List Str)) : List PyData := rs.map fun r => PyData.list (pd r)
theorem lay_pdr {rs : List (List Str)} (h : ∀ r ∈ rs, ∀ z ∈ r, Good z) : PyData.canLayAll0 (pdr rs) = true := by
  induction rs with
  | nil => rfl
  | cons a t ih => exact layc (layL (lay_all fun z hz => okz_good (h a List.mem_cons_self z hz))) (ih fun s hs => h s (List.mem_cons_of_mem _ hs))
theorem depth_pdr : ∀ rs : List (List Str), PyData.depthAll (pdr rs) ≤ 3
  | [] => by simp [PyData.depthAll]
  | r :: t => by
    have h1 : PyData.depthAll (t.map fun r => PyData.list (pd r)) ≤ 3 := depth_pdr t
    have h2 := depth_pd r
    simp only [List.map_cons, PyData.depthAll, PyData.depth]
    omega
theorem dp_pdr {K : PySem.W.Frag} {H : Hp} : ∀ {ts : List Addr} {rs : List (List Str)}, Lss .lst H ts rs → DpAll K H (ts.map V.ref) (pdr rs)
  | [], [], _ => .nil
  | [], _ :: _, h => nomatch h.len
  | _ :: _, [], h => nomatch h.len
  | t :: ts, r :: rs, h => .cons (.lst (xs := sv r) (SqL.of (h.at_ 0 t r rfl rfl)) (dp_pd r)) (dp_pdr ⟨Nat.succ.inj h.len, fun i u x a b => h.at_ (i + 1) u x a b⟩)
theorem dr_in {K : PySem.W.Frag} {A : Ad} {H : Hp} {Q : VK} {E : _} {p tb o t f : Addr} {cs ns : List Str} {rs : List (List Str)} {ss : List TW} {ts fs : List Addr} (hW : Wns A.C_Windows A.C_Table K H p tb cs rs ss) (hO : SqL K H o (sv ns) ∨ DT H o (sv ns)) (hl : ns.length ≤ 12) (hT : SqL K H t (ts.map V.ref)) (hTs : Tl (SqT K) H ts ss) (hF : SqL K H f (fs.map V.ref)) (hq : Tg fS H fs (forcedD cs ss)) (ok : ColsOk cs) (wok : WOk cs ss) (hn : fault cs ns = none) (k : ∀ H', Same H H' → Q (.bl true) H') :
    spDR (SqL K) K A [.ref p, .ref o, .ref t, .ref f] H Q E ∨ spDR DT K A [.ref p, .ref o, .ref t, .ref f] H Q E :=
  hO.elim (fun h => .inl ⟨p, tb, o, t, f, cs, rs, ss, ns, ts, fs, rfl, hW, h, hl, hT, hTs, hF, hq, ok, wok, hn, k⟩) (fun h => .inr ⟨p, tb, o, t, f, cs, rs, ss, ns, ts, fs, rfl, hW, h, hl, hT, hTs, hF, hq, ok, wok, hn, k⟩)
theorem lr_in {K : PySem.W.Frag} {A : Ad} {H : Hp} {Q : VK} {E : _} {p tb o y t d : Addr} {cs ns : List Str} {rs : List (List Str)} {ss : List TW} {ts : List Addr} {ds : List Int} (hW : Wns A.C_Windows A.C_Table K H p tb cs rs ss) (hO : SqL K H o (sv ns) ∨ DT H o (sv ns)) (gY : GI H y 12) (hl : ns.length ≤ 12) (hT : SqL K H t (ts.map V.ref)) (hTs : Tl (SqT K) H ts ss) (hD : SqL K H d (ivs ds)) (hdl : ds.length ≤ 100) (ok : ColsOk cs) (wok : WOk cs ss) (hn : fault cs ns = none) (k : ∀ H', Same H H' → Q (.bl true) H') :
    spLR (SqL K) K A [.ref p, .ref o, .ref y, .ref t, .ref d] H Q E ∨ spLR DT K A [.ref p, .ref o, .ref y, .ref t, .ref d] H Q E :=
  hO.elim (fun h => .inl ⟨p, tb, o, y, t, d, cs, rs, ss, ns, ts, ds, rfl, hW, h, gY, hl, hT, hTs, hD, hdl, ok, wok, hn, k⟩) (fun h => .inr ⟨p, tb, o, y, t, d, cs, rs, ss, ns, ts, ds, rfl, hW, h, gY, hl, hT, hTs, hD, hdl, ok, wok, hn, k⟩)
theorem cut_ints20 (ns : List Int) : ∃ ys : List Int, cutV (ns.map V.int) (some (20 : Int)) (some (23 : Int)) = ivs ys ∧ ys.length ≤ 3 := by
  unfold cutV
  rw [show (20 : Int) = ((20 : Nat) : Int) from rfl, show (23 : Int) = ((23 : Nat) : Int) from rfl, HT.sIx_nat, HT.sIx_nat, ← List.map_drop, ← List.map_take]
  refine ⟨_, rfl, ?_⟩
  rw [List.length_take]
  omega
theorem not_in_cs {cs : List Str} (h : Nms cs) : ("stranger" : Str) ∉ cs := fun hm => by
  have := (h.2 _ hm).2
  have e : ("stranger" : Str).length = 8 := by decide
  omega
theorem cut_m1 {xs : List V} (h : 0 < xs.length) : cutV xs none (some (-1)) = xs.take (xs.length - 1) := by
  unfold cutV
  have e : HT.sIx xs.length xs.length (some (-1)) - HT.sIx xs.length 0 none = xs.length - 1 := by
    rw [HT.sIx_none]
    unfold HT.sIx
    simp
    omega
  rw [e, HT.sIx_none, List.drop_zero]
/-- a bad list of windows and the place of its first fault -/
def Bad (K : PySem.W.Frag) (cs : List Str) (G : Hp) (m : Addr) : Prop := ∃ (L : Addr) (us : List Addr) (ss : List TW) (i : Nat), G m = some (.lst [.ref L, .int (i : Nat)]) ∧ G L = some (.lst (us.map V.ref)) ∧ Tl (SqT K) G us ss ∧ ss.length ≤ 30 ∧ winFault cs ss = some i
theorem Bad.same {K : PySem.W.Frag} {cs : List Str} {G G' : Hp} {m : Addr} (h : Bad K cs G m) (s : Same G G') : Bad K cs G' m :=
  let ⟨L, us, ss, i, a, b, c, d, e⟩ := h; ⟨L, us, ss, i, s _ _ a, s _ _ b, c.imp fun t x z => s.tup z, d, e⟩
def spLaw (K : PySem.W.Frag) : Sp := fun vs H Q _ => ∃ (a : Addr) (ns : List Int), vs = [.ref a] ∧ SqL K H a (ns.map V.int) ∧ ns.length ≤ 63 ∧ ∀ H', Q (.bl true) H'
section
variable {P : Program} {w : World} {K : PySem.W.Frag} {mg : Str → Option Value} {base : Heap} {A : Ad}
theorem ok_law (T : Txt P K mg A) : FnOk P w K mg base CX0 20 A.a_law A.d_law ["script"] (spLaw K) := by
  have G_law_pool := ok_pool (P := P) (w := w) (base := base) T
  have G_law_size := ok_size (P := P) (w := w) (base := base) T
  have G_law_names := ok_names (P := P) (w := w) (base := base) T
  have G_law_order := ok_order (P := P) (w := w) (base := base) T
  have G_law_rows := ok_rows (P := P) (w := w) (base := base) T
  have G_law_steps := ok_steps (P := P) (w := w) (base := base) T
  have G_law_windows := ok_windows (P := P) (w := w) (base := base) T
  have G_law_free_windows := ok_freeW (P := P) (w := w) (base := base) T
  have G_Table_init := ok_table (P := P) (w := w) (base := base) T
  have G_Table_eq := ok_eq (P := P) (w := w) (base := base) T
  have G_Windows_init := ok_winQ (P := P) (w := w) (base := base) T
  have G_Windows_forced := ok_forced (P := P) (w := w) (base := base) T
  have G_law_forced := ok_lforced (P := P) (w := w) (base := base) T
  have G_law_same_pairs := ok_sameP (P := P) (w := w) (base := base) T
  have G_law_dates_right := fnok_or (ok_dr (P := P) (w := w) (base := base) T) (ok_drT (P := P) (w := w) (base := base) T)
  have G_law_lots_right := fnok_or (ok_lr (P := P) (w := w) (base := base) T) (ok_lrT (P := P) (w := w) (base := base) T)
  have G_law_due_years := ok_dueY (P := P) (w := w) (base := base) T
  have G_law_bad_order := ok_bo (P := P) (w := w) (base := base) T
  have G_law_bad_windows := ok_bw (P := P) (w := w) (base := base) T
  have G_law_refused_windows := ok_refW (P := P) (w := w) (base := base) T
  have G_law_is_number := ok_isNum (P := P) (w := w) (base := base) T
  have G_law_bounds_right := ok_br (P := P) (w := w) (base := base) T
  refine T.F_law.ok sc_law (fun vs H Q E h => ?_) (fun cdv A' outer s H vs Q E hr h => ?_)
  · obtain ⟨a, ns, rfl, _⟩ := h
    rfl
  · obtain ⟨a, ns, rfl, hS, hnl, kk⟩ := h
    refine ⟨_, (pss_cons (ps_set (i := 1) sc_law.nd rfl (Or.inl rfl) (pe_call G_law_pool (hr.mono (by decide)) rfl T.mg_law_pool T.F_law_pool.kp T.b_law_pool .nil pass0 (pa_cons (pv 0) (pa_cons pe_int (pa_cons pe_int pa_nil)))))
      (pss_cons (ps_set (i := 2) sc_law.nd rfl (Or.inl rfl) (pe_call G_law_pool (hr.mono (by decide)) rfl T.mg_law_pool T.F_law_pool.kp T.b_law_pool .nil pass0 (pa_cons (pv 0) (pa_cons pe_int (pa_cons pe_int pa_nil)))))
      (pss_cons (ps_set (i := 3) sc_law.nd rfl (Or.inl rfl) (pe_call G_law_pool (hr.mono (by decide)) rfl T.mg_law_pool T.F_law_pool.kp T.b_law_pool .nil pass0 (pa_cons (pv 0) (pa_cons pe_int (pa_cons pe_int pa_nil)))))
      (pss_cons (ps_set (i := 4) sc_law.nd rfl (Or.inl rfl) (pe_call G_law_size (hr.mono (by decide)) rfl T.mg_law_size T.F_law_size.kp T.b_law_size .nil pass0 (pa_cons (pe_ix ix_list (pv 1) pe_int (fun _ _ => rfl)) (pa_cons pe_int pa_nil))))
      (pss_cons (ps_set (i := 5) sc_law.nd rfl (Or.inl rfl) (pe_call G_law_names (hr.mono (by decide)) rfl T.mg_law_names T.F_law_names.kp T.b_law_names .nil pass0 (pa_cons (pv 4) (pa_cons (pe_ix ix_list (pv 1) pe_int (fun _ _ => rfl)) pa_nil))))
      (pss_cons (ps_set (i := 6) sc_law.nd rfl (Or.inl rfl) (pe_call G_law_order (hr.mono (by decide)) rfl T.mg_law_order T.F_law_order.kp T.b_law_order .nil pass0 (pa_cons (pv 5) (pa_cons (pv 1) (pa_cons pe_int pa_nil)))))
      (pss_cons (ps_set (i := 7) sc_law.nd rfl (Or.inl rfl) (pe_call G_law_rows (hr.mono (by decide)) rfl T.mg_law_rows T.F_law_rows.kp T.b_law_rows .nil pass0 (pa_cons (pv 5) (pa_cons (pv 6) (pa_cons (pv 1) (pa_cons pe_int (pa_cons (pe_op op_mod (pe_callTy call_int1 (by rfl) T.n_int (by decide +kernel) (pa_cons (pe_ix ix_list (pv 1) pe_int (fun _ _ => rfl)) pa_nil)) pe_int) (pa_cons (pe_op op_mod (pe_callTy call_int1 (by rfl) T.n_int (by decide +kernel) (pa_cons (pe_ix ix_list (pv 1) pe_int (fun _ _ => rfl)) pa_nil)) pe_int) pa_nil))))))))
      (pss_cons (ps_set (i := 8) sc_law.nd rfl (Or.inl rfl) (pe_call G_law_steps (hr.mono (by decide)) rfl T.mg_law_steps T.F_law_steps.kp T.b_law_steps .nil pass0 (pa_cons (pv 2) (pa_cons pe_int (pa_cons (pv 4) pa_nil)))))
      (pss_cons (ps_set (i := 9) sc_law.nd rfl (Or.inl rfl) (pe_call G_law_windows (hr.mono (by decide)) rfl T.mg_law_windows T.F_law_windows.kp T.b_law_windows .nil pass0 (pa_cons (pv 6) (pa_cons (pv 8) (pa_cons (pv 2) (pa_cons pe_int (pa_cons (pe_cmpR op_eq (pe_op op_mod (pe_callTy call_int1 (by rfl) T.n_int (by decide +kernel) (pa_cons (pe_ix ix_list (pv 3) pe_int (fun _ _ => rfl)) pa_nil)) pe_int) pe_int (nomark _)) pa_nil)))))))
      (pss_cut (ps_if (pt_cmpR op_gt (pe_op op_mod (pe_callTy call_int1 (by rfl) T.n_int (by decide +kernel) (pa_cons (pe_ix ix_list (pv 3) pe_int (fun _ _ => rfl)) pa_nil)) pe_int) pe_int (nomark _)) (pss_one (ps_set (i := 9) sc_law.nd rfl (Or.inl rfl) (pe_call G_law_free_windows (hr.mono (by decide)) rfl T.mg_law_free_windows T.F_law_free_windows.kp T.b_law_free_windows .nil pass0 (pa_cons (pv 5) (pa_cons (pv 2) (pa_cons (pv 3) pa_nil)))))) pss_nil)
      (pss_cons (ps_set (i := 10) sc_law.nd rfl (Or.inl rfl) (pe_call G_law_order (hr.mono (by decide)) rfl T.mg_law_order T.F_law_order.kp T.b_law_order .nil pass0 (pa_cons (pv 5) (pa_cons (pv 3) (pa_cons pe_int pa_nil)))))
      (pss_cons (ps_set (i := 11) sc_law.nd rfl (Or.inl rfl) (pe_lst (pa_cons (pe_callTy (show CallR _ _ (rListOf K) from call_list_of) (by rfl) T.n_list (by decide +kernel) (pa_cons (pv 5) pa_nil)) (pa_cons (pe_lc (own := [("row", 24)]) (g := gName 24) (tt := tYes) rfl sc_law.nd (pi_list (pv 7)) (blkOk_by (N := ["script", "p0", "p1", "p2", "size", "names", "hidden", "rows", "years", "told", "other", "handed", "table", "passed", "windows", "window", "forced", "again", "order", "lot", "at", "bad", "more", "refusal", "row"]) (sc := defScope s_law) (by decide +kernel)) (fun _ _ _ _ _ => (pg_name (i := 24) sc_law.nd rfl (Or.inl rfl))) (fun _ _ _ _ _ => pts_nil) (fun _ _ _ _ _ => (pe_callTy (show CallR _ _ (rListOf K) from call_list_of) (by rfl) T.n_list (by decide +kernel) (pa_cons (pv 24) pa_nil)))) (pa_cons (pe_callTy (show CallR _ _ (rListOf K) from call_list_of) (by rfl) T.n_list (by decide +kernel) (pa_cons (pv 6) pa_nil)) (pa_cons (pe_callTy (show CallR _ _ (rListOf K) from call_list_of) (by rfl) T.n_list (by decide +kernel) (pa_cons (pv 10) pa_nil)) pa_nil))))))
      (pss_cons (ps_set (i := 12) sc_law.nd rfl (Or.inl rfl) (pe_make T.mk_Table G_Table_init (hr.mono (by decide)) rfl T.mg_Table T.bi .nil pass0 (pa_cons (pe_ix ix_list (pv 11) pe_int (fun _ _ => rfl)) (pa_cons (pe_ix ix_list (pv 11) pe_int (fun _ _ => rfl)) pa_nil))))
      (pss_cons (ps_setLc (i := 13) (own := [("window", 15)]) (g := gName 15) (tt := tYes) rfl sc_law.nd rfl rfl (sw_true rfl rfl rfl (by decide +kernel)) (pi_list (pv 9)) (blkOk_by (N := ["script", "p0", "p1", "p2", "size", "names", "hidden", "rows", "years", "told", "other", "handed", "table", "passed", "windows", "window", "forced", "again", "order", "lot", "at", "bad", "more", "refusal", "row"]) (sc := defScope s_law) (by decide +kernel)) (fun _ _ _ _ _ => (pg_name (i := 15) sc_law.nd rfl (Or.inl rfl))) (fun _ _ _ _ _ => pts_nil) (fun _ _ _ _ _ => (pe_callTy (show CallR _ _ (rListOf K) from call_list_of) (by rfl) T.n_list (by decide +kernel) (pa_cons (pv 15) pa_nil))))
      (pss_cons (ps_set (i := 14) sc_law.nd rfl (Or.inl rfl) (pe_make T.mk_Windows G_Windows_init (hr.mono (by decide)) rfl T.mg_Windows T.b_Windows_init .nil pass0 (pa_cons (pv 12) (pa_cons (pv 13) pa_nil))))
      (pss_cons (ps_if (pt_cmpR (op_neD hr.units) (pv 13) (pe_lc (own := [("window", 15)]) (g := gName 15) (tt := tYes) rfl sc_law.nd (pi_list (pv 9)) (blkOk_by (N := ["script", "p0", "p1", "p2", "size", "names", "hidden", "rows", "years", "told", "other", "handed", "table", "passed", "windows", "window", "forced", "again", "order", "lot", "at", "bad", "more", "refusal", "row"]) (sc := defScope s_law) (by decide +kernel)) (fun _ _ _ _ _ => (pg_name (i := 15) sc_law.nd rfl (Or.inl rfl))) (fun _ _ _ _ _ => pts_nil) (fun _ _ _ _ _ => (pe_callTy (show CallR _ _ (rListOf K) from call_list_of) (by rfl) T.n_list (by decide +kernel) (pa_cons (pv 15) pa_nil)))) (nomark _)) (pss_one (ps_ret pe_bl)) pss_nil)
      (pss_cons (ps_for PassesOwn.never rfl (pi_list (pv 13)) (pg_name (i := 15) sc_law.nd rfl (Or.inl rfl))
        (pss_one (ps_expr (pe_bm0 PySem.F.plainAttrs_list PySem.F.slot_list_clear PySem.F.type_list_clear mt_clear (pv 15)))))
      (pss_cons (ps_expr (pe_bm PySem.F.plainAttrs_list PySem.F.slot_list_append PySem.F.type_list_append mt_append (pv 13) (pa_cons (pe_lst (pa_cons pe_str (pa_cons pe_int (pa_cons pe_int pa_nil)))) pa_nil)))
      (pss_cons (ps_if (PW.pt (pw_or (pt_not (pt_val (pe_callB call_isi (by rfl) T.n_isinstance (by decide +kernel) (pa_cons (pe_fld (pv 14) rfl) (pa_cons (pe_bltn (v := .ty "tuple") (by rfl) T.n_tuple (by decide +kernel) rfl) pa_nil))))) (pw_or (pt_cmpR (op_neD hr.units) (pe_fld (pv 14) rfl) (pe_callTy (show CallR _ _ (rTupD K) from call_tuple_ofD) (by rfl) T.n_tuple (by decide +kernel) (pa_cons (pv 9) pa_nil)) (nomark _)) (pw_or1 (pt_not (pt_cmpR (op_eqOwn G_Table_eq T.b_Table_eq pass0 (hr.mono (by decide)) T.m_Table_eq.at_ T.m_Table_eq.fn) (pe_fld (pv 14) rfl) (pv 12) (nomark _))))))) (pss_one (ps_ret pe_bl)) pss_nil)
      (pss_cons (ps_set (i := 16) sc_law.nd rfl (Or.inl rfl) (pe_call G_law_forced (hr.mono (by decide)) rfl T.mg_law_forced T.F_law_forced.kp T.b_law_forced .nil pass0 (pa_cons (pv 5) (pa_cons (pv 9) pa_nil))))
      (pss_cons (ps_if (pt_not (pt_val (pe_call G_law_same_pairs (hr.mono (by decide)) rfl T.mg_law_same_pairs T.F_law_same_pairs.kp T.b_law_same_pairs .nil pass0 (pa_cons (pe_meth0 (pv 14) T.cl_Windows T.m_Windows_forced G_Windows_forced (hr.mono (by decide)) T.b_Windows_forced .nil pass0) (pa_cons (pv 16) pa_nil))))) (pss_one (ps_ret pe_bl)) pss_nil)
      (pss_cons (ps_set (i := 17) sc_law.nd rfl (Or.inl rfl) (pe_meth0 (pv 14) T.cl_Windows T.m_Windows_forced G_Windows_forced (hr.mono (by decide)) T.b_Windows_forced .nil pass0))
      (pss_cons (ps_expr (pe_bm PySem.F.plainAttrs_list PySem.F.slot_list_append PySem.F.type_list_append mt_append (pv 17) (pa_cons (pe_tupD (pa_cons pe_str (pa_cons pe_str pa_nil))) pa_nil)))
      (pss_cons (ps_for PassesOwn.never rfl (pi_list (pe_lst (pa_cons (pe_ix ix_list (pv 11) pe_int (fun _ _ => rfl)) (pa_cons (pe_ix ix_list (pv 11) pe_int (fun _ _ => rfl)) (pa_cons (pe_callTy (show CallR _ _ (rTupD K) from call_tuple_ofD) (by rfl) T.n_tuple (by decide +kernel) (pa_cons (pv 6) pa_nil)) pa_nil))))) (pg_name (i := 18) sc_law.nd rfl (Or.inl rfl))
        (pss_cons (ps_if (PW.pt (pw_or (pt_not (pt_val (pe_call G_law_dates_right (hr.mono (by decide)) rfl T.mg_law_dates_right T.F_law_dates_right.kp T.b_law_dates_right .nil pass0 (pa_cons (pv 14) (pa_cons (pv 18) (pa_cons (pv 9) (pa_cons (pv 16) pa_nil))))))) (pw_or1 (pt_not (pt_val (pe_call G_law_same_pairs (hr.mono (by decide)) rfl T.mg_law_same_pairs T.F_law_same_pairs.kp T.b_law_same_pairs .nil pass0 (pa_cons (pe_meth0 (pv 14) T.cl_Windows T.m_Windows_forced G_Windows_forced (hr.mono (by decide)) T.b_Windows_forced .nil pass0) (pa_cons (pv 16) pa_nil)))))))) (pss_one (ps_ret pe_bl)) pss_nil)
      (pss_one (ps_for PassesOwn.never rfl (pi_list (pe_lst (pa_cons (pv 8) (pa_cons (pe_call G_law_due_years (hr.mono (by decide)) rfl T.mg_law_due_years T.F_law_due_years.kp T.b_law_due_years .nil pass0 (pa_cons (pv 6) (pa_cons (pv 9) pa_nil))) (pa_cons (pe_call G_law_due_years (hr.mono (by decide)) rfl T.mg_law_due_years T.F_law_due_years.kp T.b_law_due_years .nil pass0 (pa_cons (pv 10) (pa_cons (pv 9) pa_nil))) pa_nil))))) (pg_name (i := 19) sc_law.nd rfl (Or.inl rfl))
        (pss_one (ps_if (pt_not (pt_val (pe_call G_law_lots_right (hr.mono (by decide)) rfl T.mg_law_lots_right T.F_law_lots_right.kp T.b_law_lots_right .nil pass0 (pa_cons (pv 14) (pa_cons (pv 18) (pa_cons (pv 19) (pa_cons (pv 9) (pa_cons (pe_op op_cat (pe_lst (pa_cons pe_int pa_nil)) (pe_slice sl_list (pv 3) (po_some pe_int) (po_some pe_int))) pa_nil)))))))) (pss_one (ps_ret pe_bl)) pss_nil))))))
      (pss_cons (ps_if (pt_not (pt_val (pe_call G_law_bad_order (hr.mono (by decide)) rfl T.mg_law_bad_order T.F_law_bad_order.kp T.b_law_bad_order .nil pass0 (pa_cons (pv 14) (pa_cons (pe_op op_cat (pv 6) (pe_lst (pa_cons pe_str pa_nil))) (pa_cons (pv 4) pa_nil)))))) (pss_one (ps_ret pe_bl)) pss_nil)
      (pss_cut (ps_if (PW.pt (pw_and (pt_cmpR op_gt (pv 4) pe_int (nomark _)) (pw_and1 (pt_not (pt_val (pe_call G_law_bad_order (hr.mono (by decide)) rfl T.mg_law_bad_order T.F_law_bad_order.kp T.b_law_bad_order .nil pass0 (pa_cons (pv 14) (pa_cons (pe_slice sl_list (pv 6) po_none (po_some (pe_un un_neg pe_int))) (pa_cons (pe_op op_sub (pv 4) pe_int) pa_nil))))))))) (pss_one (ps_ret pe_bl)) pss_nil)
      (pss_cons (ps_set (i := 20) sc_law.nd rfl (Or.inl rfl) (pe_op op_mod (pe_callTy call_int1 (by rfl) T.n_int (by decide +kernel) (pa_cons (pe_ix ix_list (pv 3) pe_int (fun _ _ => rfl)) pa_nil)) (pe_callB (call_max2 rfl) (by rfl) T.n_max (by decide +kernel) (pa_cons pe_int (pa_cons (pv 4) pa_nil)))))
      (pss_cut (ps_if (PW.pt (pw_and (pt_cmpR op_gt (pv 20) pe_int (nomark _)) (pw_and1 (pt_not (pt_val (pe_call G_law_bad_order (hr.mono (by decide)) rfl T.mg_law_bad_order T.F_law_bad_order.kp T.b_law_bad_order .nil pass0 (pa_cons (pv 14) (pa_cons (pe_op op_cat (pe_op op_cat (pe_slice sl_list (pv 6) po_none (po_some (pv 20))) (pe_slice sl_list (pv 6) po_none (po_some pe_int))) (pe_slice sl_list (pv 6) (po_some (pe_op op_add (pv 20) pe_int)) po_none)) (pa_cons (pv 20) pa_nil))))))))) (pss_one (ps_ret pe_bl)) pss_nil)
      (pss_cut (ps_if (PW.pt (pw_and (pt_cmpR op_gt (pv 4) pe_int (nomark _)) (pw_and1 (pt_not (pt_val (pe_call G_law_bad_order (hr.mono (by decide)) rfl T.mg_law_bad_order T.F_law_bad_order.kp T.b_law_bad_order .nil pass0 (pa_cons (pv 14) (pa_cons (pe_op op_cat (pe_op op_cat (pe_slice sl_list (pv 6) po_none (po_some (pv 20))) (pe_lst (pa_cons pe_str pa_nil))) (pe_slice sl_list (pv 6) (po_some (pe_op op_add (pv 20) pe_int)) po_none)) (pa_cons (pv 20) pa_nil))))))))) (pss_one (ps_ret pe_bl)) pss_nil)
      (pss_cons (ps_set (i := 21) sc_law.nd rfl (Or.inl rfl) (pe_call G_law_bad_windows (hr.mono (by decide)) rfl T.mg_law_bad_windows T.F_law_bad_windows.kp T.b_law_bad_windows .nil pass0 (pa_cons (pv 5) (pa_cons (pv 9) (pa_cons (pe_slice sl_list (pv 3) (po_some pe_int) po_none) pa_nil)))))
      (pss_cons (ps_for PassesOwn.never rfl (pi_list (pe_lst (pa_cons (pv 21) (pa_cons (pe_lst (pa_cons (pe_op op_cat (pe_ix ix_list (pv 21) pe_int (fun _ _ => rfl)) (pe_lst (pa_cons (pe_tupD (pa_cons pe_str (pa_cons pe_int (pa_cons pe_int pa_nil)))) pa_nil))) (pa_cons (pe_ix ix_list (pv 21) pe_int (fun _ _ => rfl)) pa_nil))) (pa_cons (pe_lst (pa_cons (pe_op op_cat (pe_lst (pa_cons (pe_tupD (pa_cons pe_str (pa_cons pe_int (pa_cons pe_int pa_nil)))) pa_nil)) (pe_ix ix_list (pv 21) pe_int (fun _ _ => rfl))) (pa_cons pe_int pa_nil))) pa_nil))))) (pg_name (i := 22) sc_law.nd rfl (Or.inl rfl))
        (pss_cons (ps_set (i := 23) sc_law.nd rfl (Or.inl rfl) (pe_call G_law_refused_windows (hr.mono (by decide)) rfl T.mg_law_refused_windows T.F_law_refused_windows.kp T.b_law_refused_windows .nil pass0 (pa_cons (pv 12) (pa_cons (pe_ix ix_list (pv 22) pe_int (fun _ _ => rfl)) pa_nil))))
      (pss_one (ps_if (PW.pt (pw_or (pt_cmpR op_isN (pv 23) pe_non (nomark _)) (pw_or (pt_not (pt_val (pe_call G_law_is_number (hr.mono (by decide)) rfl T.mg_law_is_number T.F_law_is_number.kp T.b_law_is_number .nil pass0 (pa_cons (pe_ix ix_tup (pv 23) pe_int (fun _ _ => rfl)) (pa_cons (pe_ix ix_list (pv 22) pe_int (fun _ _ => rfl)) (pa_cons (pe_ix ix_list (pv 22) pe_int (fun _ _ => rfl)) pa_nil)))))) (pw_or (pt_not (pt_val (pe_ix ix_tup (pv 23) pe_int (fun _ _ => rfl)))) (pw_or1 (pt_val (pe_ix ix_tup (pv 23) pe_int (fun _ _ => rfl)))))))) (pss_one (ps_ret pe_bl)) pss_nil))))
      (pss_cons (ps_if (pt_not (pt_val (pe_call G_law_bounds_right (hr.mono (by decide)) rfl T.mg_law_bounds_right T.F_law_bounds_right.kp T.b_law_bounds_right .nil pass0 (pa_cons (pv 12) (pa_cons (pv 5) (pa_cons (pv 10) pa_nil)))))) (pss_one (ps_ret pe_bl)) pss_nil)
      (pss_one (ps_ret (pe_cmpR (op_eqD hr.units) (pv 11) (pe_lst (pa_cons (pv 5) (pa_cons (pv 7) (pa_cons (pv 6) (pa_cons (pv 10) pa_nil))))) (nomark _)))))))))))))))))))))))))))))))))))), ?_⟩
    refine ⟨_, rfl, a, ns, 0, 60, rfl, hS, by decide, by decide, by decide, fun p0 q0 H1 s1 hp0 l0 P0 => ?_⟩
    refine ⟨_, rfl, a, ns, 1, 60, rfl, s1.seq hS, by decide, by decide, by decide, fun p1 q1 H2 s2 hp1 l1 P1 => ?_⟩
    refine ⟨_, rfl, a, ns, 2, 60, rfl, (s1.trans s2).seq hS, by decide, by decide, by decide, fun p2 q2 H3 s3 hp2 l2 P2 => ?_⟩
    have hp0 := s3 _ _ (s2 _ _ hp0)
    have hp1 := s3 _ _ hp1
    obtain ⟨x0, hx0, e0⟩ := atI_ok (xs := q0) (j := 0) (by omega) (by omega)
    obtain ⟨x1, hx1, e1⟩ := atI_ok (xs := q0) (j := 1) (by omega) (by omega)
    obtain ⟨x26, hx26, e26⟩ := atI_ok (xs := q0) (j := 26) (by omega) (by omega)
    obtain ⟨x27, hx27, e27⟩ := atI_ok (xs := q0) (j := 27) (by omega) (by omega)
    obtain ⟨z0, hz0, g0⟩ := atI_ok (xs := q2) (j := 0) (by omega) (by omega)
    obtain ⟨z24, hz24, g24⟩ := atI_ok (xs := q2) (j := 24) (by omega) (by omega)
    clear s1 s2 s3 hS
    have mm : ∀ a q : Int, (0 : Int) < q → 0 ≤ a % q ∧ a % q < q := fun a q hq => ⟨Int.emod_nonneg _ (by omega), Int.emod_lt_of_pos _ hq⟩
    have mC := mm x26 7 (by decide)
    refine ⟨_, rfl, p0, _, _, _, rfl, rfl, SqL.of hp0, e0, x0, rfl, fun sz H4 s4 hsz => ?_⟩
    refine ⟨_, rfl, _, rfl, p0, _, _, _, rfl, rfl, SqL.of (s4 _ _ hp0), e1, sz, x1, rfl, hsz, fun n cs H5 s5 hn hcl hN => ?_⟩
    have s5 := s4.trans s5
    have cl : cs.length ≤ 12 := by omega
    have nd := hN.1
    have hg : ∀ z ∈ cs, Good z := fun z hz => (hN.2 z hz).1
    have hok : ColsOk cs := ⟨hg, nd, cl⟩
    refine ⟨_, rfl, _, rfl, n, p0, cs, q0, 2, rfl, SqL.of hn, SqL.of (s5 _ _ hp0), cl, by decide, by omega, fun h hs H6 s6 _ hh hperm => ?_⟩
    have hn := s6 _ _ hn
    have s6 := s5.trans s6
    have hp0 := s6 _ _ hp0
    have hp1 := s6 _ _ hp1
    have hp2 := s6 _ _ hp2
    clear s4 s5 s6
    have hl12 : hs.length = cs.length := hperm.length_eq
    refine ⟨_, rfl, _, rfl, _, rfl, _, rfl, p0, _, _, _, rfl, rfl, SqL.of hp0, e26, .inl ⟨_, rfl, _, _, rfl, rfl, by show (0 : Int) < 7; decide, ?_⟩⟩
    refine ⟨_, rfl, p0, _, _, _, rfl, rfl, SqL.of hp0, e27, .inl ⟨_, rfl, _, _, rfl, rfl, by show (0 : Int) < 3; decide, ?_⟩⟩
    refine ⟨n, h, p0, cs, hs, q0, _, _, rfl, SqL.of hn, SqL.of hh, SqL.of hp0, by omega, mC.1, by omega, nd, cl, hperm, fun r rts rs H8 s8 _ hr8 hRw hrl => ?_⟩
    have hRow := hRw.2.2
    have hR := hRw.1
    have hn := s8 _ _ hn
    have hh := s8 _ _ hh
    have hp1 := s8 _ _ hp1
    have hp2 := s8 _ _ hp2
    clear s8 hRw hp0
    refine ⟨_, rfl, _, rfl, p1, q1, 0, sz, rfl, SqL.of hp1, by decide, by omega, hsz, fun Y ys H9 s9 _ hY hyl hyr => ?_⟩
    have hn := s9 _ _ hn
    have hh := s9 _ _ hh
    have hr8 := s9 _ _ hr8
    have hR := hR.same s9
    have hp1 := s9 _ _ hp1
    have hp2 := s9 _ _ hp2
    clear s9
    refine ⟨_, rfl, _, rfl, _, rfl, _, rfl, p2, _, _, _, rfl, rfl, SqL.of hp2, g0, .inl ⟨_, rfl, _, _, rfl, rfl, by show (0 : Int) < 4; decide, rfl, ?_⟩⟩
    refine ⟨h, Y, p1, hs, cs, ys, q1, _, rfl, SqL.of hh, SqL.of hY, SqL.of hp1, P1, by omega, hperm, nd, hyr, by omega, by omega, fun td tts tss H10 s10 ntd htd htl hwok => ?_⟩
    refine ⟨fun σ G => Same H9 G ∧ ∃ (td : Addr) (tts : List Addr) (tss : List TW), σ = [some (.ref a), some (.ref p0), some (.ref p1), some (.ref p2), some (.int (sz : Nat)), some (.ref n), some (.ref h), some (.ref r), some (.ref Y), some (.ref td), none, none, none, none, none, none, none, none, none, none, none, none, none, none, none] ∧ G td = some (.lst (tts.map V.ref)) ∧ Tl (SqT K) G tts tss ∧ WOk cs tss, ?_, ?_⟩
    · refine ⟨_, rfl, p2, _, _, _, rfl, rfl, SqL.of (s10 _ _ hp2), g0, .inl ⟨_, rfl, _, _, rfl, rfl, by show (0 : Int) < 4; decide, _, _, rfl, rfl, _, rfl, ite2 (fun _ => ?_) (fun _ => ⟨s10, td, tts, tss, rfl, htd, htl, hwok⟩)⟩⟩
      refine ⟨_, rfl, _, rfl, _, rfl, n, p1, p2, cs, q1, q2, rfl, SqL.of (s10 _ _ hn), SqL.of (s10 _ _ hp1), SqL.of (s10 _ _ hp2), by omega, by omega, nd, cl, fun td2 tts2 tss2 H11 s11 _ htd2 htl2 hwok2 => ?_⟩
      exact ⟨s10.trans s11, td2, tts2, tss2, rfl, htd2, htl2, hwok2⟩
    clear s10 htd htl hwok ntd td tts tss
    rintro σ H10 ⟨s10, td, tts, tss, rfl, htd, htl, hwok⟩
    have tl := hwok.len cl
    refine ⟨_, rfl, _, rfl, n, p2, cs, q2, 2, rfl, SqL.of (s10 _ _ hn), SqL.of (s10 _ _ hp2), cl, by decide, by omega, fun ot os H11 s11 _ hot hoperm => ?_⟩
    have s11' := s10.trans s11
    have hn := s11' _ _ hn
    have hh := s11' _ _ hh
    have hr8 := s11' _ _ hr8
    have hR := hR.same s11'
    have hY := s11' _ _ hY
    have hp2 := s11' _ _ hp2
    have htd := s11 _ _ htd
    have htl := htl.imp fun t s z => s11.tup z
    clear s10 s11 s11' hp1
    -- handed
    refine ⟨_, rfl, n, _, rfl, .inl (SqL.of hn), fun d1 n1 => ?_⟩
    generalize hG : upd H11 d1 _ = F1
    have a1 : Same H11 F1 := hG ▸ same_new n1
    have b1 := (congrFun hG d1).symm.trans upd_same
    clear hG
    refine ⟨_, rfl, r, rfl, ⟨_, SqL.of (a1 _ _ hr8)⟩, fun D hD => lc_it walk_list (fun i H8 => LcL F1 D (rs.take i) H8) (lcl0 hD) (fun i H8 _ q => (a1.trans q.1).seq (SqL.of hr8)) ?_ ?_⟩
    · rintro i x H80 H8 hi q8 ⟨rfl, hx⟩
      obtain ⟨c, hc, rfl⟩ := refs_get hx
      obtain ⟨y, hy, ho8⟩ := ((hR.same a1).same q8.1).get hc
      refine ⟨rfl, _, rfl, c, _, rfl, .inl (SqL.of ho8), fun a' ha' => ?_⟩
      rw [take_succ hy]
      exact q8.new hD ha' (by rw [List.length_take]; omega)
    rintro F2 ⟨a2, dts, b2, hDl, _⟩
    rw [List.length_map, hR.len, List.take_length] at hDl
    have a12 := a1.trans a2
    refine ⟨_, rfl, h, _, rfl, .inl (SqL.of (a12 _ _ hh)), fun d3 n3 => ?_⟩
    generalize hG : upd F2 d3 _ = F3
    have a3 : Same F2 F3 := hG ▸ same_new n3
    have b3 := (congrFun hG d3).symm.trans upd_same
    clear hG
    have a13 := a12.trans a3
    refine ⟨_, rfl, ot, _, rfl, .inl (SqL.of (a13 _ _ hot)), fun d4 n4 => ?_⟩
    generalize hG : upd F3 d4 _ = F4
    have a4 : Same F3 F4 := hG ▸ same_new n4
    have b4 := (congrFun hG d4).symm.trans upd_same
    clear hG
    have a14 := a13.trans a4
    refine ⟨by show 4 ≤ sizeLine; decide, fun hd n7 => ?_⟩
    generalize hG : upd F4 hd _ = F7
    have a7 : Same F4 F7 := hG ▸ same_new n7
    have b7 := (congrFun hG hd).symm.trans upd_same
    clear hG
    have a17 := a14.trans a7
    have b1 := (a2.trans (a3.trans (a4.trans a7))) _ _ b1
    have b2 := (a3.trans (a4.trans a7)) _ _ b2
    have hDl := hDl.same (a3.trans (a4.trans a7))
    have b3 := (a4.trans a7) _ _ b3
    have b4 := a7 _ _ b4
    have hot := a17 _ _ hot
    have hp2 := a17 _ _ hp2
    have hn := a17 _ _ hn
    have hh := a17 _ _ hh
    have hr8 := a17 _ _ hr8
    have hY := a17 _ _ hY
    have htd := a17 _ _ htd
    have hR := hR.same a17
    have htl := htl.imp fun t s z => a17.tup z
    clear a1 a2 a3 a4 a7 a12 a13 a14 a17 n1 n3 n4 n7 hD
    have c0' : atI ([V.ref d1, .ref D, .ref d3, .ref d4] : List V) 0 = some (V.ref d1) := atI_nat (j := 0) rfl
    have c1' : atI ([V.ref d1, .ref D, .ref d3, .ref d4] : List V) 1 = some (V.ref D) := atI_nat (j := 1) rfl
    have c2' : atI ([V.ref d1, .ref D, .ref d3, .ref d4] : List V) 2 = some (V.ref d3) := atI_nat (j := 2) rfl
    have c3' : atI ([V.ref d1, .ref D, .ref d3, .ref d4] : List V) 3 = some (V.ref d4) := atI_nat (j := 3) rfl
    refine ⟨_, rfl, hd, _, _, _, rfl, rfl, SqL.of b7, c0', _, rfl, hd, _, _, _, rfl, rfl, SqL.of b7, c1', ?_⟩
    dsimp only [tNil]
    refine fun tb dx hx hdx hne => mk_tableD (SqL.of b1) (SqL.of b2) hDl.lsa hok (by omega) (fun x hx => ⟨(hRow x hx).stray, by have := (hRow x hx).len; omega⟩) hx hdx hne fun F8 s8 hT => ⟨rfl, ?_⟩
    have b1 := s8 _ _ b1
    have b2 := s8 _ _ b2
    have hDl := hDl.same s8
    have b3 := s8 _ _ b3
    have b4 := s8 _ _ b4
    have b7 := s8 _ _ b7
    have hot := s8 _ _ hot
    have hp2 := s8 _ _ hp2
    have hn := s8 _ _ hn
    have hh := s8 _ _ hh
    have hr8 := s8 _ _ hr8
    have hY := s8 _ _ hY
    have htd := s8 _ _ htd
    have hR := hR.same s8
    have htl := htl.imp fun t s z => s8.tup z
    clear s8 hx hdx hne
    -- the told windows copied as lists
    refine ⟨_, rfl, td, rfl, ⟨_, SqL.of htd⟩, fun pa npa => lc_it walk_list (fun i G => Same F8 G ∧ ∃ us : List Addr, G pa = some (.lst (us.map V.ref)) ∧ Tl (fun G a xs => G a = some (.lst xs) ∧ a ≠ pa ∧ F8 a = none) G us (tss.take i)) ⟨same_new npa, [], upd_same, Tl.nil⟩ (fun i G _ q => q.1.seq (SqL.of htd)) ?_ ?_⟩
    · rintro i x G0 G hi ⟨sG, us, hpa, hus⟩ ⟨rfl, hx⟩
      obtain ⟨c, hc, rfl⟩ := refs_get hx
      obtain ⟨s, hs2, hoc⟩ := htl.get hc
      refine ⟨rfl, _, rfl, c, _, rfl, .inr (sG.tup hoc), fun a' ha' => ?_⟩
      generalize hG : upd G a' _ = G2
      have q2' : Same G G2 := hG ▸ same_new ha'
      have x2 := (congrFun hG a').symm.trans upd_same
      clear hG
      have hpa2 := q2' _ _ hpa
      have npa' : a' ≠ pa := fun e => by rw [e, hpa] at ha'; cases ha'
      refine ⟨_, hpa2, small_int (by rw [List.length_map, hus.len, List.length_take]; omega), fun b o e => by rw [upd_ne (ne_of_none e npa)]; exact q2' _ _ (sG _ _ e), us ++ [a'], by rw [List.map_append]; exact upd_same, ?_⟩
      rw [take_succ hs2]
      exact (hus.imp fun u s q => ⟨by rw [upd_ne q.2.1]; exact q2' _ _ q.1, q.2.1, q.2.2⟩).app (Tl.one ⟨by rw [upd_ne npa']; exact x2, npa', none_of sG ha'⟩)
    rintro F9 ⟨s9, us, hpa, hus⟩
    rw [List.length_map, htl.len, List.take_length] at hus
    refine ⟨_, rfl, _, rfl, fun wx dwx hx hdx hne => mk_win (hT.same s9) (SqL.of hpa) (hus.imp fun t s z => .inl (SqL.of z.1)) hok hwok hx hdx hne fun F10 s10 hW => ⟨rfl, ?_⟩⟩
    have s90 := s9.trans s10
    have hpa := s10 _ _ hpa
    have hus : Tl (fun G a xs => G a = some (.lst xs) ∧ a ≠ pa ∧ F8 a = none) F10 us tss := hus.imp fun t s z => ⟨s10 _ _ z.1, z.2⟩
    have gs : ∀ s ∈ tss, Good s.1 := fun s hs => hg _ (hwok.ins s hs)
    clear hx hdx hne
    refine ⟨_, rfl, _, rfl, td, rfl, ⟨_, s90.seq (SqL.of htd)⟩, fun CC nCC => lc_it walk_list (fun i G => Same F10 G ∧ ∃ vs : List Addr, G CC = some (.lst (vs.map V.ref)) ∧ Tl (fun G a xs => G a = some (.lst xs) ∧ a ≠ CC) G vs (tss.take i)) ⟨same_new nCC, [], upd_same, Tl.nil⟩ (fun i G _ q => (s90.trans q.1).seq (SqL.of htd)) ?_ ?_⟩
    · rintro i x G0 G hi ⟨sG, vs, hCC, hvs⟩ ⟨rfl, hx⟩
      obtain ⟨c, hc, rfl⟩ := refs_get hx
      obtain ⟨s, hs2, hoc⟩ := htl.get hc
      refine ⟨rfl, _, rfl, c, _, rfl, .inr ((s90.trans sG).tup hoc), fun a' ha' => ?_⟩
      generalize hG : upd G a' _ = G2
      have q2' : Same G G2 := hG ▸ same_new ha'
      have x2 := (congrFun hG a').symm.trans upd_same
      clear hG
      have hCC2 := q2' _ _ hCC
      have nCC' : a' ≠ CC := fun e => by rw [e, hCC] at ha'; cases ha'
      refine ⟨_, hCC2, small_int (by rw [List.length_map, hvs.len, List.length_take]; omega), fun b o e => by rw [upd_ne (ne_of_none e nCC)]; exact q2' _ _ (sG _ _ e), vs ++ [a'], by rw [List.map_append]; exact upd_same, ?_⟩
      rw [take_succ hs2]
      exact (hvs.imp fun u s q => ⟨by rw [upd_ne q.2]; exact q2' _ _ q.1, q.2⟩).app (Tl.one ⟨by rw [upd_ne nCC']; exact x2, nCC'⟩)
    rintro F11 ⟨s11, vs, hCC, hvs⟩
    rw [List.length_map, htl.len, List.take_length] at hvs
    have hpa := s11 _ _ hpa
    have hus : Tl (fun G a xs => G a = some (.lst xs) ∧ a ≠ pa ∧ F8 a = none) F11 us tss := hus.imp fun t s z => ⟨s11 _ _ z.1, z.2⟩
    have hW := hW.same s11
    have s91 := s90.trans s11
    refine ⟨.list (pwl tss), .list (pwl tss), .lst (SqL.of hpa) (dp_wl (hus.imp fun t s z => SqL.of z.1)), .lst (SqL.of hCC) (dp_wl (hvs.imp fun t s z => SqL.of z.1)), shL_pwl gs, shL_pwl gs, _, rfl, ifF (by rw [eqvL (lay_pwl gs)]; rfl) ?_⟩
    clear hCC hvs nCC s11 s10 s90 s9
    refine ⟨_, rfl, pa, rfl, ⟨_, SqL.of hpa⟩, for_it walk_list (fun i σ G => Same F8 G ∧ G pa = some (.lst (us.map V.ref)) ∧ (∀ u ∈ us, (∃ zs, G u = some (.lst zs)) ∧ u ≠ pa ∧ F8 u = none) ∧ Wns A.C_Windows A.C_Table K G wx tb cs rs tss ∧ ∃ u15 : Option V, σ = [some (.ref a), some (.ref p0), some (.ref p1), some (.ref p2), some (.int (sz : Nat)), some (.ref n), some (.ref h), some (.ref r), some (.ref Y), some (.ref td), some (.ref ot), some (.ref hd), some (.ref tb), some (.ref pa), some (.ref wx), u15, none, none, none, none, none, none, none, none, none]) ⟨s91, hpa, fun u hu => ?_, hW, none, rfl⟩ (fun i σ G _ q => SqL.of q.2.1) ?_ ?_⟩
    · obtain ⟨i, hi, e⟩ := List.getElem_of_mem hu
      obtain ⟨s, _, z⟩ := hus.get (i := i) (t := u) (by rw [List.getElem?_eq_getElem hi, e])
      exact ⟨⟨_, z.1⟩, z.2⟩
    · rintro i x σ G0 G hi ⟨sG, hpaG, hall, hWG, u15, rfl⟩ ⟨rfl, hx⟩
      obtain ⟨u, hu, rfl⟩ := refs_get hx
      obtain ⟨⟨zs, hz⟩, hne, hn8⟩ := hall u (List.mem_of_getElem? hu)
      refine ⟨_, rfl, .inl ⟨rfl, _, SqL.of hz⟩, u, zs, rfl, rfl, hz, fun b o e => ?_, ?_, fun v hv => ?_, hWG.updL hz, _, rfl⟩
      · rw [upd_ne (ne_of_none e hn8)]; exact sG _ _ e
      · rw [upd_ne hne.symm]; exact hpaG
      · by_cases e : v = u
        · rw [e]; exact ⟨⟨[], upd_same⟩, hne, hn8⟩
        · obtain ⟨⟨zs2, h2⟩, h3⟩ := hall v hv
          exact ⟨⟨zs2, by rw [upd_ne e]; exact h2⟩, h3⟩
    rintro σ F12 ⟨s92, hpa, hall, hW, u15, rfl⟩
    refine ⟨_, rfl, .inl ⟨rfl, _, SqL.of hpa⟩, by show 3 ≤ sizeLine; decide, fun tx n11 => ?_⟩
    generalize hG : upd F12 tx _ = F13
    have a13 : Same F12 F13 := hG ▸ same_new n11
    have b13 := (congrFun hG tx).symm.trans upd_same
    clear hG
    have hpa := a13 _ _ hpa
    have usl : us.length = tss.length := hus.len
    refine ⟨pa, _, _, rfl, rfl, hpa, small_int (by rw [List.length_map]; omega), ?_⟩
    have hW := (hW.same a13).updL (o := .lst (us.map V.ref ++ [V.ref tx])) hpa
    have s12 : Same F8 (upd F13 pa (.lst (us.map V.ref ++ [V.ref tx]))) := fun b o e => by
      rw [upd_ne (ne_of_none e npa)]; exact a13 _ _ (s92 _ _ e)
    generalize upd F13 pa _ = F14 at hW s12 ⊢
    have hT := hT.same s12
    have b1 := s12 _ _ b1
    have b2 := s12 _ _ b2
    have hDl := hDl.same s12
    have b3 := s12 _ _ b3
    have b4 := s12 _ _ b4
    have b7 := s12 _ _ b7
    have hot := s12 _ _ hot
    have hp2 := s12 _ _ hp2
    have hn := s12 _ _ hn
    have hh := s12 _ _ hh
    have hr8 := s12 _ _ hr8
    have hY := s12 _ _ hY
    have htd := s12 _ _ htd
    have hR := hR.same s12
    have htl := htl.imp fun t s z => s12.tup z
    clear s12 a13 b13 n11 s91 s92 hall hus hpa npa
    obtain ⟨dxw, utw, usw, hsw, _, hutw, husw⟩ := id hW
    refine ⟨_, rfl, _, _, _, _, _, rfl, hsw, T.cl_Windows, T.n_Windows_told, fldsS_told _ _, _, _, _, _, true, rfl, .ty _, .base (.tup hutw), kit_ty (by decide +kernel), true, rfl, ifF rfl ?_⟩
    refine ⟨_, rfl, _, _, _, _, _, rfl, hsw, T.cl_Windows, T.n_Windows_told, fldsS_told _ _, _, rfl, td, _, rfl, .inl ⟨SqL.of htd, fun lt to2 n12 _ => ?_⟩⟩
    generalize hG : upd F14 lt _ = F15
    have a15 : Same F14 F15 := hG ▸ same_new n12
    have b15 := (congrFun hG lt).symm.trans upd_same
    clear hG
    refine ⟨.tuple (pwt tss), .tuple (pwt tss), .tup (SqT.of (a15 _ _ hutw)) (dp_wt (husw.imp fun t s z => a15.tup z)), .tup (.inl (.inr ⟨_, b15⟩)) (dp_wt (htl.imp fun t s z => a15.tup z)), shT_pwt gs, shT_pwt gs, _, rfl, ifF (by rw [eqvT (lay_pwt gs)]; rfl) ?_⟩
    have hsw15 := a15 _ _ hsw
    have hT15 := hT.same a15
    obtain ⟨dxt, ct, rt, tts2, ht1, _⟩ := id hT15
    refine ⟨_, rfl, _, _, _, _, _, rfl, hsw15, T.cl_Windows, T.n_Windows_table, fldsS_table _ _, _, rfl, tb, tb, dxt, dxt, _, _, rfl, rfl, ht1, ht1, tb, tb, cs, rs, rfl, hT15, hT15, hg, ?_⟩
    refine ⟨_, rfl, ifF rfl ?_⟩
    clear hsw15 ht1 hsw hutw husw
    have hW := hW.same a15
    -- the forced pairs
    refine ⟨_, rfl, _, rfl, n, td, cs, tts, tss, rfl, SqL.of (a15 _ _ hn), SqL.of (a15 _ _ htd), htl.imp (fun t s z => a15.tup z), hok, hwok, fun fD fqs F16 s16 nfD hfD hfq => ?_⟩
    have a16 := a15.trans s16
    have hW := hW.same s16
    obtain ⟨dxv, utv, usv, hsv, _⟩ := id hW
    refine ⟨_, rfl, wx, dxv, _, rfl, hsv, fldsS_forced _ _, wx, tb, cs, rs, tss, rfl, hW, hok, hwok.ins, hwok.nd, fun gD gqs F17 s17 ngD hgD hgq => ?_⟩
    refine ⟨_, rfl, gD, fD, gqs, fqs, forcedD cs tss, rfl, hgD, hgq, SqL.of (s17 _ _ hfD), hfq.same s17, forced_len cs tss cl, forced_good hg, _, rfl, ifF rfl ?_⟩
    have hW := hW.same s17
    have hfD := s17 _ _ hfD
    have hfq := hfq.same s17
    have a17 := a16.trans s17
    clear hsv hgD hgq ngD
    obtain ⟨dxv, utv, usv, hsv, _⟩ := id hW
    refine ⟨_, rfl, wx, dxv, _, rfl, hsv, fldsS_forced _ _, wx, tb, cs, rs, tss, rfl, hW, hok, hwok.ins, hwok.nd, fun gD gqs F18 s18 ngD hgD hgq => ?_⟩
    refine ⟨_, rfl, .inl ⟨rfl, _, SqL.of hgD⟩, by show 2 ≤ sizeLine; decide, fun tx to_ n11 _ => ?_⟩
    generalize hG : upd F18 tx _ = F19
    have a19 : Same F18 F19 := hG ▸ same_new n11
    have b19 := (congrFun hG tx).symm.trans upd_same
    clear hG
    have hgD := a19 _ _ hgD
    have fl := forced_len cs tss cl
    refine ⟨gD, _, _, rfl, rfl, hgD, small_int (by rw [List.length_map, hgq.len]; omega), ?_⟩
    have hW := ((hW.same s18).same a19).updL (o := .lst (gqs.map V.ref ++ [V.ref tx])) hgD
    have s19 : Same F17 (upd F19 gD (.lst (gqs.map V.ref ++ [V.ref tx]))) := fun b o e => by
      rw [upd_ne (ne_of_none e ngD)]; exact a19 _ _ (s18 _ _ e)
    generalize upd F19 gD _ = F20 at hW s19 ⊢
    have hfD := s19 _ _ hfD
    have hfq := hfq.same s19
    have a20 := a17.trans s19
    clear s19 a19 b19 n11 hgD hgq ngD s18 hsv a17 s17 a16 s16
    have hT := hT.same a20
    have b1 := a20 _ _ b1
    have b2 := a20 _ _ b2
    have hDl := hDl.same a20
    have b3 := a20 _ _ b3
    have b4 := a20 _ _ b4
    have b7 := a20 _ _ b7
    have hot := a20 _ _ hot
    have hp2 := a20 _ _ hp2
    have hn := a20 _ _ hn
    have hh := a20 _ _ hh
    have hr8 := a20 _ _ hr8
    have hY := a20 _ _ hY
    have htd := a20 _ _ htd
    have hR := hR.same a20
    have htl := htl.imp fun t s z => a20.tup z
    clear a20 a15 b15 n12
    -- the orders
    refine ⟨_, rfl, hd, _, _, _, rfl, rfl, SqL.of b7, c2', _, rfl, hd, _, _, _, rfl, rfl, SqL.of b7, c3', ?_⟩
    refine ⟨_, rfl, h, _, rfl, .inl ⟨SqL.of hh, fun tq o1 hq o1d => ?_⟩⟩
    generalize hG : upd F20 tq _ = F21
    have a21 : Same F20 F21 := hG ▸ same_new hq
    have b21 := (congrFun hG tq).symm.trans upd_same
    clear hG
    refine ⟨by show 3 ≤ sizeLine; decide, fun OL nOL => ?_⟩
    generalize hG : upd F21 OL _ = F22
    have a22 : Same F21 F22 := hG ▸ same_new nOL
    have b22 := (congrFun hG OL).symm.trans upd_same
    clear hG
    have a212 := a21.trans a22
    have p2l : q2.length = 60 := by omega
    have hallO : ∀ q ∈ [d3, d4, tq], ∃ nn, (SqL K F22 q (sv nn) ∨ DT F22 q (sv nn)) ∧ nn.Perm cs := by
      intro q hq
      rcases List.mem_cons.mp hq with rfl | hq
      · exact ⟨hs, .inl (SqL.of (a212 _ _ b3)), hperm⟩
      rcases List.mem_cons.mp hq with rfl | hq
      · exact ⟨os, .inl (SqL.of (a212 _ _ b4)), hoperm⟩
      rw [List.mem_singleton.mp hq]
      exact ⟨hs, .inr ⟨o1, o1d, a22 _ _ b21⟩, hperm⟩
    have hW := hW.same a212
    have b1 := a212 _ _ b1
    have b2 := a212 _ _ b2
    have hDl := hDl.same a212
    have b3 := a212 _ _ b3
    have b4 := a212 _ _ b4
    have b7 := a212 _ _ b7
    have hot := a212 _ _ hot
    have hp2 := a212 _ _ hp2
    have hn := a212 _ _ hn
    have hh := a212 _ _ hh
    have hr8 := a212 _ _ hr8
    have hY := a212 _ _ hY
    have htd := a212 _ _ htd
    have hR := hR.same a212
    have htl := htl.imp fun t s z => a212.tup z
    have hT := hT.same a212
    have hfD := a212 _ _ hfD
    have hfq := hfq.same a212
    have b22 : F22 OL = some (.lst ([d3, d4, tq].map V.ref)) := b22
    clear a212 a21 a22 b21 nOL hq o1d
    refine ⟨OL, rfl, ⟨_, SqL.of b22⟩, for_it walk_list (fun i σ G => Same F22 G ∧ ∃ v18 v19 : Option V, σ = [some (.ref a), some (.ref p0), some (.ref p1), some (.ref p2), some (.int (sz : Nat)), some (.ref n), some (.ref h), some (.ref r), some (.ref Y), some (.ref td), some (.ref ot), some (.ref hd), some (.ref tb), some (.ref pa), some (.ref wx), u15, some (.ref fD), some (.ref gD), v18, v19, none, none, none, none, none]) ⟨Same.refl _, _, _, rfl⟩ (fun i σ G _ q => q.1.seq (SqL.of b22)) ?_ ?_⟩
    · rintro i x σ G0 G hi ⟨sm, v18, v19, rfl⟩ ⟨rfl, hx⟩
      obtain ⟨q, hq, rfl⟩ := refs_get (ts := [d3, d4, tq]) hx
      obtain ⟨nn, hO, hnp⟩ := hallO q (List.mem_of_getElem? hq)
      have nl : nn.length ≤ 12 := by rw [hnp.length_eq]; exact cl
      have nf : fault cs nn = none := fault_none (fun x hx => hnp.mem_iff.mp hx) (hnp.nodup_iff.mpr nd) (by rw [hnp.length_eq]; exact Nat.le_refl _)
      have up : ∀ {G G' : Hp}, Same G G' → (SqL K G q (sv nn) ∨ DT G q (sv nn)) → (SqL K G' q (sv nn) ∨ DT G' q (sv nn)) := fun s h => h.imp (fun h => s.seq h) (fun h => DT.same h s)
      have hO := up sm hO
      refine ⟨_, rfl, _, rfl, _, rfl, _, rfl, dr_in (hW.same sm) hO nl (sm.seq (SqL.of htd)) (htl.imp fun t s z => sm.tup z) (sm.seq (SqL.of hfD)) (hfq.same sm) hok hwok nf fun G1 s1 => ⟨_, rfl, ifF rfl ?_⟩⟩
      have sm1 := sm.trans s1
      have hW1 := hW.same sm1
      obtain ⟨dxv, utv, usv, hsv, _⟩ := id hW1
      refine ⟨_, rfl, wx, dxv, _, rfl, hsv, fldsS_forced _ _, wx, tb, cs, rs, tss, rfl, hW1, hok, hwok.ins, hwok.nd, fun zD zqs G2 s2 nzD hzD hzq => ?_⟩
      refine ⟨_, rfl, zD, fD, zqs, fqs, forcedD cs tss, rfl, hzD, hzq, SqL.of ((sm1.trans s2) _ _ hfD), hfq.same (sm1.trans s2), forced_len cs tss cl, forced_good hg, _, rfl, ifF rfl ?_⟩
      have sm2 := sm1.trans s2
      refine ⟨_, rfl, _, rfl, _, rfl, h, td, hs, tts, tss, cs, rfl, SqL.of (sm2 _ _ hh), SqL.of (sm2 _ _ htd), htl.imp (fun t s z => sm2.tup z), by omega, by omega, hwok, fun y1 G3 s3 n3 hy1 => ?_⟩
      have sm3 := sm2.trans s3
      refine ⟨_, rfl, _, rfl, ot, td, os, tts, tss, cs, rfl, SqL.of (sm3 _ _ hot), SqL.of (sm3 _ _ htd), htl.imp (fun t s z => sm3.tup z), by rw [hoperm.length_eq]; omega, by omega, hwok, fun y2 G4 s4 n4 hy2 => ?_⟩
      refine ⟨by show 3 ≤ sizeLine; decide, fun LL nLL => ?_⟩
      generalize hG : upd G4 LL _ = G5
      have a5 : Same G4 G5 := hG ▸ same_new nLL
      have b5 := (congrFun hG LL).symm.trans upd_same
      clear hG
      have sm5 := sm3.trans (s4.trans a5)
      have b5 : G5 LL = some (.lst ([Y, y1, y2].map V.ref)) := b5
      have hallY : ∀ y ∈ [Y, y1, y2], GI G5 y 12 := by
        intro y hy
        rcases List.mem_cons.mp hy with rfl | hy
        · exact ⟨ys, sm5 _ _ hY, by omega⟩
        rcases List.mem_cons.mp hy with rfl | hy
        · exact ⟨_, (s4.trans a5) _ _ hy1, by rw [dates_len]; omega⟩
        rw [List.mem_singleton.mp hy]
        exact ⟨_, a5 _ _ hy2, by rw [dates_len, hoperm.length_eq]; omega⟩
      have hO5 := up (s1.trans (s2.trans (s3.trans (s4.trans a5)))) hO
      clear hW1 hsv hzD hzq nzD n3 hy1 n4 hy2 nLL s1 s2 s3 s4 a5 sm1 sm2 sm3
      refine ⟨LL, rfl, ⟨_, SqL.of b5⟩, for_it walk_list (fun i σ G => Same G5 G ∧ ∃ v19 : Option V, σ = [some (.ref a), some (.ref p0), some (.ref p1), some (.ref p2), some (.int (sz : Nat)), some (.ref n), some (.ref h), some (.ref r), some (.ref Y), some (.ref td), some (.ref ot), some (.ref hd), some (.ref tb), some (.ref pa), some (.ref wx), u15, some (.ref fD), some (.ref gD), some (.ref q), v19, none, none, none, none, none]) ⟨Same.refl _, _, rfl⟩ (fun i σ G _ q => q.1.seq (SqL.of b5)) ?_ ?_⟩
      · rintro i2 x2' σ G20 G hi2 ⟨sn, v19', rfl⟩ ⟨rfl, hx2⟩
        obtain ⟨y, hy, rfl⟩ := refs_get (ts := [Y, y1, y2]) hx2
        have gY := (hallY y (List.mem_of_getElem? hy)).same sn
        have sx := sm5.trans sn
        refine ⟨_, rfl, _, rfl, _, rfl, _, rfl, by show 1 ≤ sizeLine; decide, fun l1 m1 => ?_⟩
        generalize hG : upd G l1 _ = G6
        have a6 : Same G G6 := hG ▸ same_new m1
        have b6 := (congrFun hG l1).symm.trans upd_same
        clear hG
        obtain ⟨dsl, eds, dll⟩ := cut_ints20 q2
        refine ⟨_, rfl, _, rfl, _, rfl, slO (SqL.of (a6 _ _ (sx _ _ hp2))) fun l2 G7 s7 n7 b7' => ?_⟩
        rw [eds] at b7'
        refine catO (s7 _ _ b6) b7' (by rw [ivs_len]; show 1 + dsl.length ≤ 1000000; omega) fun l3 G8 s8 n8 b8 => ?_
        have b8 : G8 l3 = some (.lst (ivs (0 :: dsl))) := b8
        have sy := a6.trans (s7.trans s8)
        have sz2 := sx.trans sy
        refine lr_in (hW.same sz2) (up (sn.trans sy) hO5) (gY.same sy) nl (sz2.seq (SqL.of htd)) (htl.imp fun t s z => sz2.tup z) (SqL.of b8) (by rw [List.length_cons]; omega) hok hwok nf fun G9 s9 => ⟨_, rfl, ifF rfl ?_⟩
        exact ⟨sn.trans (sy.trans s9), _, rfl⟩
      · rintro σ G ⟨sn, v19', rfl⟩
        exact ⟨sm5.trans sn, _, _, rfl⟩
    rintro σ F23 ⟨a23, v18, v19, rfl⟩
    have hW := hW.same a23
    have b1 := a23 _ _ b1
    have b2 := a23 _ _ b2
    have hDl := hDl.same a23
    have b3 := a23 _ _ b3
    have b4 := a23 _ _ b4
    have b7 := a23 _ _ b7
    have hot := a23 _ _ hot
    have hp2 := a23 _ _ hp2
    have hn := a23 _ _ hn
    have hh := a23 _ _ hh
    have hr8 := a23 _ _ hr8
    have hY := a23 _ _ hY
    have htd := a23 _ _ htd
    have hR := hR.same a23
    have htl := htl.imp fun t s z => a23.tup z
    have hT := hT.same a23
    clear a23 b22 hallO hfD hfq
    have nst : ("stranger" : Str) ∉ cs := not_in_cs hN
    have zc : cs.length = sz := hcl
    refine ⟨_, rfl, _, rfl, by show 1 ≤ sizeLine; decide, fun l1 m1 => ?_⟩
    generalize hG : upd F23 l1 _ = F24
    have a24 : Same F23 F24 := hG ▸ same_new m1
    have b24 := (congrFun hG l1).symm.trans upd_same
    clear hG
    refine catO (a24 _ _ hh) b24 (by rw [len_sv]; show hs.length + 1 ≤ 1000000; omega) fun l2 F25 s25 n25 b25 => ?_
    have b25 : F25 l2 = some (.lst (sv (hs ++ [("stranger" : Str)]))) := by rw [b25, ← sv_app]; rfl
    have r1 := a24.trans s25
    refine ⟨_, rfl, wx, tb, l2, cs, rs, tss, _, sz, rfl, hW.same r1, SqL.of b25, by rw [List.length_append]; show hs.length + 1 ≤ 20; omega, hok, hwok, by rw [bo_end hperm nd nst, zc], fun F26 s26 => ⟨_, rfl, ifF rfl ?_⟩⟩
    have r2 := r1.trans s26
    clear b25 n25 b24 a24 s25 s26 r1 m1
    refine ⟨fun σ G => Same F23 G ∧ σ = [some (.ref a), some (.ref p0), some (.ref p1), some (.ref p2), some (.int (sz : Nat)), some (.ref n), some (.ref h), some (.ref r), some (.ref Y), some (.ref td), some (.ref ot), some (.ref hd), some (.ref tb), some (.ref pa), some (.ref wx), u15, some (.ref fD), some (.ref gD), v18, v19, none, none, none, none, none], ?_, ?_⟩
    · rcases Nat.eq_zero_or_pos sz with h0 | h0
      · refine ⟨_, rfl, _, _, rfl, rfl, ?_⟩
        exact ⟨_, rfl, ifF (decide_eq_false (by omega)) (ifF rfl ⟨r2, rfl⟩)⟩
      · refine ⟨_, rfl, _, _, rfl, rfl, ?_⟩
        refine ⟨_, rfl, ifT (decide_eq_true (by omega)) ?_⟩
        refine ⟨_, rfl, _, rfl, ?_⟩
        dsimp only [tNoPart]
        refine ⟨_, rfl, _, rfl, slO (SqL.of (r2 _ _ hh)) fun l1 G1 q1 n1 c1 => ⟨_, rfl, _, _, rfl, rfl, ?_⟩⟩
        rw [cut_m1 (by rw [len_sv]; omega), sv_take, len_sv] at c1
        have r3 := r2.trans q1
        refine ⟨wx, tb, l1, cs, rs, tss, _, sz - 1, by
          show [V.ref wx, V.ref l1, V.int (((sz : Nat) : Int) - 1)] = _
          rw [show ((sz : Nat) : Int) - 1 = ((sz - 1 : Nat) : Int) by omega], hW.same r3, SqL.of c1, by rw [List.length_take]; omega, hok, hwok, by rw [bo_short hperm nd (by omega)]; congr 1; omega, fun G2 q2' => ⟨_, rfl, ifF rfl ⟨r3.trans q2', rfl⟩⟩⟩
    clear r2
    rintro σ F27 ⟨r3, rfl⟩
    have mA := mm z24 (if ((sz : Nat) : Int) > 1 then ((sz : Nat) : Int) else 1) (by split <;> omega)
    obtain ⟨at_, hAn⟩ := Int.eq_ofNat_of_zero_le mA.1
    have hat : 0 < sz → at_ < sz := fun h => by
      have := mA.2
      rw [hAn] at this
      split at this <;> omega
    have hat0 : sz = 0 → at_ = 0 := fun h => by
      have := mA.2
      rw [hAn] at this
      split at this <;> omega
    refine ⟨_, rfl, p2, _, _, _, rfl, rfl, SqL.of (r3 _ _ hp2), g24, .inl ⟨_, rfl, _, rfl, _, _, rfl, _, _, rfl, rfl, by split <;> omega, ?_⟩⟩
    have e1 : (V.int (z24 % (if ((sz : Nat) : Int) > 1 then ((sz : Nat) : Int) else 1))) = V.int ((at_ : Nat) : Int) := by rw [hAn]
    dsimp only
    rw [e1]
    clear mA hAn e1
    refine ⟨fun σ G => Same F23 G ∧ σ = [some (.ref a), some (.ref p0), some (.ref p1), some (.ref p2), some (.int (sz : Nat)), some (.ref n), some (.ref h), some (.ref r), some (.ref Y), some (.ref td), some (.ref ot), some (.ref hd), some (.ref tb), some (.ref pa), some (.ref wx), u15, some (.ref fD), some (.ref gD), v18, v19, some (.int (at_ : Nat)), none, none, none, none], ?_, ?_⟩
    · rcases Nat.eq_zero_or_pos at_ with h0 | h0
      · exact ⟨_, rfl, _, _, rfl, rfl, _, rfl, ifF (decide_eq_false (by omega)) (ifF rfl ⟨r3, rfl⟩)⟩
      · refine ⟨_, rfl, _, _, rfl, rfl, ?_⟩
        have hsz : 0 < sz := Nat.pos_of_ne_zero fun z => by have := hat0 z; omega
        have hat := hat hsz
        refine ⟨_, rfl, ifT (decide_eq_true (by omega)) ?_⟩
        refine ⟨_, rfl, _, rfl, ?_⟩
        dsimp only [tNoPart]
        refine ⟨_, rfl, _, rfl, slO (SqL.of (r3 _ _ hh)) fun l1 G1 q1 n1 c1 => ?_⟩
        refine ⟨_, rfl, ?_⟩
        dsimp only [tNoPart]
        refine ⟨_, rfl, slO (SqL.of ((r3.trans q1) _ _ hh)) fun l2 G2 q2' n2 c2 => ?_⟩
        rw [cut_takeG, sv_take] at c1
        rw [show (1 : Int) = ((1 : Nat) : Int) from rfl, cut_takeG, sv_take] at c2
        refine catO (q2' _ _ c1) c2 (by rw [len_sv, len_sv, List.length_take, List.length_take]; omega) fun l3 G3 q3 n3 c3 => ?_
        rw [sv_app] at c3
        have r4 := r3.trans (q1.trans (q2'.trans q3))
        refine ⟨_, rfl, _, rfl, _, _, rfl, rfl, _, rfl, ?_⟩
        dsimp only [tNoPart]
        refine slO (SqL.of (r4 _ _ hh)) fun l4 G4 q4 n4 c4 => ?_
        rw [show ((at_ : Nat) : Int) + 1 = ((at_ + 1 : Nat) : Int) by omega, cut_dropG, sv_drop] at c4
        refine catO (q4 _ _ c3) c4 (by rw [len_sv, len_sv, List.length_append, List.length_take, List.length_take, List.length_drop]; omega) fun l5 G5 q5 n5 c5 => ?_
        rw [sv_app] at c5
        have r5 := r4.trans (q4.trans q5)
        obtain ⟨z1, tl1, eh⟩ : ∃ z1 tl1, hs = z1 :: tl1 := by
          cases hs with
          | nil => simp at hl12; omega
          | cons z1 tl1 => exact ⟨z1, tl1, rfl⟩
        have et : hs.take 1 = [z1] := by rw [eh]; rfl
        rw [et] at c5
        refine ⟨_, rfl, wx, tb, l5, cs, rs, tss, _, at_, rfl, hW.same r5, SqL.of c5, by rw [List.length_append, List.length_append, List.length_take, List.length_drop]; show min at_ hs.length + 1 + (hs.length - (at_ + 1)) ≤ 20; omega, hok, hwok, bo_put hperm nd (by omega) (.inr (by
          rw [eh, show at_ = (at_ - 1) + 1 by omega, List.take_succ_cons]; exact List.mem_cons_self)), fun G6 q6 => ⟨_, rfl, ifF rfl ⟨r5.trans q6, rfl⟩⟩⟩
    clear r3
    rintro σ F28 ⟨r3, rfl⟩
    refine ⟨fun σ G => Same F23 G ∧ σ = [some (.ref a), some (.ref p0), some (.ref p1), some (.ref p2), some (.int (sz : Nat)), some (.ref n), some (.ref h), some (.ref r), some (.ref Y), some (.ref td), some (.ref ot), some (.ref hd), some (.ref tb), some (.ref pa), some (.ref wx), u15, some (.ref fD), some (.ref gD), v18, v19, some (.int (at_ : Nat)), none, none, none, none], ?_, ?_⟩
    · rcases Nat.eq_zero_or_pos sz with h0 | h0
      · exact ⟨_, rfl, _, _, rfl, rfl, _, rfl, ifF (decide_eq_false (by omega)) (ifF rfl ⟨r3, rfl⟩)⟩
      · refine ⟨_, rfl, _, _, rfl, rfl, ?_⟩
        have hat := hat h0
        refine ⟨_, rfl, ifT (decide_eq_true (by omega)) ?_⟩
        refine ⟨_, rfl, _, rfl, ?_⟩
        dsimp only [tNoPart]
        refine ⟨_, rfl, _, rfl, slO (SqL.of (r3 _ _ hh)) fun l1 G1 q1 n1 c1 => ?_⟩
        rw [cut_takeG, sv_take] at c1
        refine ⟨by show 1 ≤ sizeLine; decide, fun l2 n2 => ?_⟩
        generalize hG : upd G1 l2 _ = G2
        have q2' : Same G1 G2 := hG ▸ same_new n2
        have c2 := (congrFun hG l2).symm.trans upd_same
        clear hG
        have c2 : G2 l2 = some (.lst (sv [("stranger" : Str)])) := c2
        refine catO (q2' _ _ c1) c2 (by rw [len_sv, List.length_take]; show min at_ hs.length + 1 ≤ 1000000; omega) fun l3 G3 q3 n3 c3 => ?_
        rw [sv_app] at c3
        have r4 := r3.trans (q1.trans (q2'.trans q3))
        refine ⟨_, rfl, _, rfl, _, _, rfl, rfl, _, rfl, ?_⟩
        dsimp only [tNoPart]
        refine slO (SqL.of (r4 _ _ hh)) fun l4 G4 q4 n4 c4 => ?_
        rw [show ((at_ : Nat) : Int) + 1 = ((at_ + 1 : Nat) : Int) by omega, cut_dropG, sv_drop] at c4
        refine catO (q4 _ _ c3) c4 (by rw [len_sv, len_sv, List.length_append, List.length_take, List.length_drop]; show min at_ hs.length + 1 + _ ≤ 1000000; omega) fun l5 G5 q5 n5 c5 => ?_
        rw [sv_app] at c5
        have r5 := r4.trans (q4.trans q5)
        refine ⟨_, rfl, wx, tb, l5, cs, rs, tss, _, at_, rfl, hW.same r5, SqL.of c5, by rw [List.length_append, List.length_append, List.length_take, List.length_drop]; show min at_ hs.length + 1 + (hs.length - (at_ + 1)) ≤ 20; omega, hok, hwok, bo_put hperm nd (by omega) (.inl nst), fun G6 q6 => ⟨_, rfl, ifF rfl ⟨r5.trans q6, rfl⟩⟩⟩
    clear r3
    rintro σ F29 ⟨r3, rfl⟩
    refine ⟨_, rfl, _, rfl, _, rfl, _, rfl, ?_⟩
    dsimp only [tNoPart]
    refine slO (SqL.of (r3 _ _ hp2)) fun lp G1 q1 n1 c1 => ?_
    rw [show (30 : Int) = ((30 : Nat) : Int) from rfl, cut_dropG, ← List.map_drop] at c1
    have r4 := r3.trans q1
    refine ⟨n, td, lp, cs, tts, tss, q2.drop 30, rfl, SqL.of (r4 _ _ hn), SqL.of (r4 _ _ htd), htl.imp (fun t s z => r4.tup z), SqL.of c1, by rw [List.length_drop]; omega, hok, nst, hwok, fun bd bL bus bss bi G2 q2' hbd hbL hbus hbl hbf => ?_⟩
    have r5 := r4.trans q2'
    have z0' : atI ([V.ref bL, .int (bi : Nat)] : List V) 0 = some (V.ref bL) := atI_nat (j := 0) rfl
    have z1' : atI ([V.ref bL, .int (bi : Nat)] : List V) 1 = some (V.int (bi : Nat)) := atI_nat (j := 1) rfl
    clear c1 n1 q1 r4 q2' r3
    refine ⟨_, rfl, _, rfl, bd, _, _, _, rfl, rfl, SqL.of hbd, z0', by show 3 ≤ sizeLine; decide, fun t1 o1 m1 _ => ?_⟩
    generalize hG : upd G2 t1 _ = G3
    have a3 : Same G2 G3 := hG ▸ same_new m1
    have x3 := (congrFun hG t1).symm.trans upd_same
    clear hG
    refine ⟨by show 1 ≤ sizeLine; decide, fun l1 m2 => ?_⟩
    generalize hG : upd G3 l1 _ = G4
    have a4 : Same G3 G4 := hG ▸ same_new m2
    have x4 := (congrFun hG l1).symm.trans upd_same
    clear hG
    have x3 := a4 _ _ x3
    refine catO ((a3.trans a4) _ _ hbL) x4 (by rw [List.length_map, hbus.len]; show bss.length + 1 ≤ 1000000; omega) fun l2 G5 s5 n5 x5 => ?_
    have x3 := s5 _ _ x3
    have w5 := a3.trans (a4.trans s5)
    refine ⟨_, rfl, bd, _, _, _, rfl, rfl, SqL.of (w5 _ _ hbd), z1', by show 2 ≤ sizeLine; decide, fun l3 m3 => ?_⟩
    generalize hG : upd G5 l3 _ = G6
    have a6 : Same G5 G6 := hG ▸ same_new m3
    have x6 := (congrFun hG l3).symm.trans upd_same
    clear hG
    have w6 := w5.trans a6
    refine ⟨by show 3 ≤ sizeLine; decide, fun t2 o2 m4 _ => ?_⟩
    generalize hG : upd G6 t2 _ = G7
    have a7 : Same G6 G7 := hG ▸ same_new m4
    have x7 := (congrFun hG t2).symm.trans upd_same
    clear hG
    refine ⟨by show 1 ≤ sizeLine; decide, fun l4 m5 => ?_⟩
    generalize hG : upd G7 l4 _ = G8
    have a8 : Same G7 G8 := hG ▸ same_new m5
    have x8 := (congrFun hG l4).symm.trans upd_same
    clear hG
    have x7 := a8 _ _ x7
    have w8 := w6.trans (a7.trans a8)
    refine ⟨_, rfl, bd, _, _, _, rfl, rfl, SqL.of (w8 _ _ hbd), z0', catO x8 (w8 _ _ hbL) (by rw [List.length_map, hbus.len]; show 1 + bss.length ≤ 1000000; omega) fun l5 G9 s9 n9 x9 => ?_⟩
    have x7 := s9 _ _ x7
    refine ⟨by show 2 ≤ sizeLine; decide, fun l6 m6 => ?_⟩
    generalize hG : upd G9 l6 _ = G10
    have a10 : Same G9 G10 := hG ▸ same_new m6
    have x10 := (congrFun hG l6).symm.trans upd_same
    clear hG
    refine ⟨by show 3 ≤ sizeLine; decide, fun ML m7 => ?_⟩
    generalize hG : upd G10 ML _ = G11
    have a11 : Same G10 G11 := hG ▸ same_new m7
    have x11 := (congrFun hG ML).symm.trans upd_same
    clear hG
    have w11 := w8.trans (s9.trans (a10.trans a11))
    have x11 : G11 ML = some (.lst ([bd, l3, l6].map V.ref)) := x11
    have st : Tl (SqT K) G11 [t1] [(("stranger" : Str), (0 : Int), (0 : Int))] := Tl.one (.inl (.inr ⟨_, (a6.trans (a7.trans (a8.trans (s9.trans (a10.trans a11))))) _ _ x3⟩))
    have st2 : Tl (SqT K) G11 [t2] [(("stranger" : Str), (0 : Int), (0 : Int))] := Tl.one (.inl (.inr ⟨_, (a10.trans a11) _ _ x7⟩))
    have hb11 : Tl (SqT K) G11 bus bss := hbus.imp fun t s z => w11.tup z
    have hallB : ∀ m ∈ [bd, l3, l6], Bad K cs G11 m := by
      intro m hm
      rcases List.mem_cons.mp hm with rfl | hm
      · exact ⟨bL, bus, bss, bi, w11 _ _ hbd, w11 _ _ hbL, hb11, by omega, hbf⟩
      rcases List.mem_cons.mp hm with rfl | hm
      · exact ⟨l2, bus ++ [t1], bss ++ [(("stranger" : Str), (0 : Int), (0 : Int))], bi, (a7.trans (a8.trans (s9.trans (a10.trans a11)))) _ _ x6, by
          rw [List.map_append]; exact (a6.trans (a7.trans (a8.trans (s9.trans (a10.trans a11))))) _ _ x5, hb11.app st, by rw [List.length_append]; show bss.length + 1 ≤ 30; omega, winF_app hbf⟩
      rw [List.mem_singleton.mp hm]
      exact ⟨l5, t2 :: bus, (("stranger" : Str), (0 : Int), (0 : Int)) :: bss, 0, a11 _ _ x10, (a10.trans a11) _ _ x9, st2.app hb11, by rw [List.length_cons]; omega, winF_at (pre := []) ⟨(fun s h => nomatch h), List.nodup_nil, (fun s h => nomatch h)⟩ (okW_no nst)⟩
    have r6 := r5.trans w11
    clear w11 w8 w6 w5 x3 x4 x5 x6 x7 x8 x9 x10 st st2 hb11 hbus hbL hbd z0' z1' m1 m2 m3 m4 m5 m6 m7 n5 n9 a3 a4 s5 a6 a7 a8 s9 a10 a11 r5
    refine ⟨ML, rfl, ⟨_, SqL.of x11⟩, for_it walk_list (fun i σ G => Same G11 G ∧ ∃ v22 v23 : Option V, σ = [some (.ref a), some (.ref p0), some (.ref p1), some (.ref p2), some (.int (sz : Nat)), some (.ref n), some (.ref h), some (.ref r), some (.ref Y), some (.ref td), some (.ref ot), some (.ref hd), some (.ref tb), some (.ref pa), some (.ref wx), u15, some (.ref fD), some (.ref gD), v18, v19, some (.int (at_ : Nat)), some (.ref bd), v22, v23, none]) ⟨Same.refl _, _, _, rfl⟩ (fun i σ G _ q => q.1.seq (SqL.of x11)) ?_ ?_⟩
    · rintro i x σ G20 G hi ⟨sm, v22, v23, rfl⟩ ⟨rfl, hx⟩
      obtain ⟨m, hm, rfl⟩ := refs_get (ts := [bd, l3, l6]) hx
      obtain ⟨L, us2, ss2, j, hmm, hL, hus2, hl2, hf2⟩ := (hallB m (List.mem_of_getElem? hm)).same sm
      have z0' : atI ([V.ref L, .int (j : Nat)] : List V) 0 = some (V.ref L) := atI_nat (j := 0) rfl
      have z1' : atI ([V.ref L, .int (j : Nat)] : List V) 1 = some (V.int (j : Nat)) := atI_nat (j := 1) rfl
      have r7 := r6.trans sm
      refine ⟨_, rfl, _, rfl, m, _, _, _, rfl, rfl, SqL.of hmm, z0', tb, L, cs, rs, us2, ss2, j, rfl, hT.same r7, SqL.of hL, hus2.imp (fun t s z => .inr z), by omega, hf2, fun t H2 s2 ht => ?_⟩
      have t0 : atI ([V.int (j : Nat), .bl true, .bl false] : List V) 0 = some (V.int (j : Nat)) := atI_nat (j := 0) rfl
      have t1 : atI ([V.int (j : Nat), .bl true, .bl false] : List V) 1 = some (V.bl true) := atI_nat (j := 1) rfl
      have t2 : atI ([V.int (j : Nat), .bl true, .bl false] : List V) 2 = some (V.bl false) := atI_nat (j := 2) rfl
      refine ⟨_, rfl, rfl, _, rfl, ifF rfl ?_⟩
      refine ⟨_, rfl, t, _, _, _, rfl, rfl, SqT.of ht, t0, _, rfl, m, _, _, _, rfl, rfl, SqL.of (s2 _ _ hmm), z1', _, rfl, m, _, _, _, rfl, rfl, SqL.of (s2 _ _ hmm), z1', (j : Int), (j : Int), (j : Int), rfl, ?_⟩
      rw [decide_eq_true (show (j : Int) ≤ j ∧ (j : Int) ≤ j from ⟨Int.le_refl _, Int.le_refl _⟩)]
      refine ⟨_, rfl, ifF rfl ?_⟩
      refine ⟨_, rfl, t, _, _, _, rfl, rfl, SqT.of ht, t1, ?_⟩
      refine ⟨_, rfl, ifF rfl ?_⟩
      refine ⟨_, rfl, t, _, _, _, rfl, rfl, SqT.of ht, t2, _, rfl, ifF rfl ?_⟩
      exact ⟨sm.trans s2, _, _, rfl⟩
    rintro σ F30 ⟨s30, v22, v23, rfl⟩
    have r7 := r6.trans s30
    refine ⟨_, rfl, _, rfl, _, rfl, tb, n, ot, cs, rs, os, rfl, hT.same r7, SqL.of (r7 _ _ hn), SqL.of (r7 _ _ hot), hoperm, hok, fun F31 s31 => ⟨_, rfl, ifF rfl ?_⟩⟩
    have r8 := r7.trans s31
    refine ⟨_, rfl, _, rfl, _, rfl, _, rfl, _, rfl, by show 4 ≤ sizeLine; decide, fun l9 m9 => ?_⟩
    generalize hG : upd F31 l9 _ = V4
    have v4 : Same F31 V4 := hG ▸ same_new m9
    have u4 := (congrFun hG l9).symm.trans upd_same
    clear hG
    have v14 := r8.trans v4
    have gos : PyData.canLayAll0 (pd os) = true := lay_all fun z hz => okz_good (hg z (hoperm.mem_iff.mp hz))
    have gcs : PyData.canLayAll0 (pd cs) = true := lay_all fun z hz => okz_good (hg z hz)
    have ghs : PyData.canLayAll0 (pd hs) = true := lay_all fun z hz => okz_good (hg z (hperm.mem_iff.mp hz))
    have grs : PyData.canLayAll0 (pdr rs) = true := lay_pdr fun x hx z hz => hg z ((hRow x hx).2 z hz)
    have lay : PyData.canLayAll0 [.list (pd cs), .list (pdr rs), .list (pd hs), .list (pd os)] = true :=
      layc (layL gcs) (layc (layL grs) (layc (layL ghs) (layc (layL gos) (by simp [PyData.canLayAll0]))))
    have dep : PyData.depthAll [.list (pd cs), .list (pdr rs), .list (pd hs), .list (pd os)] ≤ 20 := by
      have e1 := depth_pd cs
      have e2 := depth_pdr rs
      have e3 := depth_pd os
      have e5 := depth_pd hs
      simp only [PyData.depthAll, PyData.depth] at e1 e2 e3 e5 ⊢
      omega
    refine ⟨.list [.list (pd cs), .list (pdr rs), .list (pd hs), .list (pd os)], .list [.list (pd cs), .list (pdr rs), .list (pd hs), .list (pd os)],
      .lst (SqL.of (v14 _ _ b7)) (.cons (.lst (SqL.of (v14 _ _ b1)) (dp_pd cs)) (.cons (.lst (SqL.of (v14 _ _ b2)) (dp_pdr (hDl.same v14))) (.cons (.lst (SqL.of (v14 _ _ b3)) (dp_pd hs)) (.cons (.lst (SqL.of (v14 _ _ b4)) (dp_pd os)) .nil)))),
      .lst (SqL.of u4) (.cons (.lst (SqL.of (v14 _ _ hn)) (dp_pd cs)) (.cons (.lst (SqL.of (v14 _ _ hr8)) (dp_pdr (hR.same v14))) (.cons (.lst (SqL.of (v14 _ _ hh)) (dp_pd hs)) (.cons (.lst (SqL.of (v14 _ _ hot)) (dp_pd os)) .nil)))), shapedL lay dep, shapedL lay dep, ?_⟩
    rw [eqvL lay]
    exact kk _
end
end My
set_option maxRecDepth 100000
set_option maxHeartbeats 4000000
set_option exponentiation.threshold 10000
namespace My
open PySem L2
theorem all_mk {l : PySem.W.OpenLaw} {w : World} {K : PySem.W.Frag} {h : Heap} {mg : Str → Option Value} {fa C_Table C_Windows C_RowsError C_Unknown C_Impossible C_BadOrder C_NoDates C_BadWindow a_BadOrder_init a_NoDates_init a_BadWindow_init a_is_name a_first_bad_name a_first_stray a_order_fault a_check_order a_check_columns a_check_rows a_Table_in_order a_Table_init a_Table_has a_Table_eq a_Windows_init a_Windows_forced a_Windows_keeps a_Windows_dates a_law_cell a_law_pool a_law_size a_law_names a_law_order a_law_row a_law_rows a_law_steps a_law_windows a_law_is_number a_law_windows_kept a_law_forced a_law_same_pairs a_law_free_windows a_law_due_years a_law_rise a_law_other_years a_law_bad_windows a_law_refused_windows a_law_dated a_law_kept a_law_dates_right a_law_keeps_right a_law_lots_right a_law_bad_order a_law_bounds_right a_law e_Table_init : Addr} (X : K.In h) (G : h.Ns mainGlobals mg) (hfa : mg "law" = some (.ref fa))
    {cd_BadOrder : ClassData}
    {oc_BadOrder_init kV_BadOrder_init dc_BadOrder_init pm_BadOrder_init ct_BadOrder_init oa_BadOrder_init ob_BadOrder_init : Value} {od_BadOrder_init an_BadOrder_init da_BadOrder_init db_BadOrder_init : Option Addr} {sl_BadOrder_init la_BadOrder_init lb_BadOrder_init : Array (Option Value)} {cda_BadOrder_init cc_BadOrder_init : Addr} {vs_BadOrder_init : Array Value} {fl_BadOrder_init : Str} {tf_BadOrder_init : Tok}
    {cd_NoDates : ClassData}
    {oc_NoDates_init kV_NoDates_init dc_NoDates_init pm_NoDates_init ct_NoDates_init oa_NoDates_init ob_NoDates_init : Value} {od_NoDates_init an_NoDates_init da_NoDates_init db_NoDates_init : Option Addr} {sl_NoDates_init la_NoDates_init lb_NoDates_init : Array (Option Value)} {cda_NoDates_init cc_NoDates_init : Addr} {vs_NoDates_init : Array Value} {fl_NoDates_init : Str} {tf_NoDates_init : Tok}
    {cd_BadWindow : ClassData}
    {oc_BadWindow_init kV_BadWindow_init dc_BadWindow_init pm_BadWindow_init ct_BadWindow_init oa_BadWindow_init ob_BadWindow_init : Value} {od_BadWindow_init an_BadWindow_init da_BadWindow_init db_BadWindow_init : Option Addr} {sl_BadWindow_init la_BadWindow_init lb_BadWindow_init : Array (Option Value)} {cda_BadWindow_init cc_BadWindow_init : Addr} {vs_BadWindow_init : Array Value} {fl_BadWindow_init : Str} {tf_BadWindow_init : Tok}
    {tk_LONGEST_NAME : Tok}
    {tk_MOST_YEAR : Tok}
    {tk_Table_MOST_COLUMNS : Tok}
    {tk_Table_MOST_ROWS : Tok}
    {oc_is_name kV_is_name dc_is_name pm_is_name cd_is_name ct_is_name : Value} {od_is_name an_is_name : Option Addr} {sl_is_name : Array (Option Value)}
    {oc_first_bad_name kV_first_bad_name dc_first_bad_name pm_first_bad_name cd_first_bad_name ct_first_bad_name : Value} {od_first_bad_name an_first_bad_name : Option Addr} {sl_first_bad_name : Array (Option Value)}
    {oc_first_stray kV_first_stray dc_first_stray pm_first_stray cd_first_stray ct_first_stray : Value} {od_first_stray an_first_stray : Option Addr} {sl_first_stray : Array (Option Value)}
    {oc_order_fault kV_order_fault dc_order_fault pm_order_fault cd_order_fault ct_order_fault : Value} {od_order_fault an_order_fault : Option Addr} {sl_order_fault : Array (Option Value)}
    {oc_check_order kV_check_order dc_check_order pm_check_order cd_check_order ct_check_order : Value} {od_check_order an_check_order : Option Addr} {sl_check_order : Array (Option Value)}
    {oc_check_columns kV_check_columns dc_check_columns pm_check_columns cd_check_columns ct_check_columns : Value} {od_check_columns an_check_columns : Option Addr} {sl_check_columns : Array (Option Value)}
    {oc_check_rows kV_check_rows dc_check_rows pm_check_rows cd_check_rows ct_check_rows : Value} {od_check_rows an_check_rows : Option Addr} {sl_check_rows : Array (Option Value)}
    {oc_Table_in_order kV_Table_in_order dc_Table_in_order pm_Table_in_order cd_Table_in_order ct_Table_in_order : Value} {od_Table_in_order an_Table_in_order : Option Addr} {sl_Table_in_order : Array (Option Value)}
    {oc_Table_init kV_Table_init dc_Table_init pm_Table_init cd_Table_init ct_Table_init : Value} {od_Table_init an_Table_init : Option Addr} {sl_Table_init : Array (Option Value)}
    {TD_Table_init : Addr} {to_Table_init : Option Addr} {tn_Table_init : Nat} {ts_Table_init : Array (Option Value)}
    {oc_Table_has kV_Table_has dc_Table_has pm_Table_has cd_Table_has ct_Table_has : Value} {od_Table_has an_Table_has : Option Addr} {sl_Table_has : Array (Option Value)}
    {oc_Table_eq kV_Table_eq dc_Table_eq pm_Table_eq cd_Table_eq ct_Table_eq : Value} {od_Table_eq an_Table_eq : Option Addr} {sl_Table_eq : Array (Option Value)}
    {oc_Windows_init kV_Windows_init dc_Windows_init pm_Windows_init cd_Windows_init ct_Windows_init : Value} {od_Windows_init an_Windows_init : Option Addr} {sl_Windows_init : Array (Option Value)}
    {oc_Windows_forced kV_Windows_forced dc_Windows_forced pm_Windows_forced cd_Windows_forced ct_Windows_forced : Value} {od_Windows_forced an_Windows_forced : Option Addr} {sl_Windows_forced : Array (Option Value)}
    {oc_Windows_keeps kV_Windows_keeps dc_Windows_keeps pm_Windows_keeps cd_Windows_keeps ct_Windows_keeps : Value} {od_Windows_keeps an_Windows_keeps : Option Addr} {sl_Windows_keeps : Array (Option Value)}
    {oc_Windows_dates kV_Windows_dates dc_Windows_dates pm_Windows_dates cd_Windows_dates ct_Windows_dates : Value} {od_Windows_dates an_Windows_dates : Option Addr} {sl_Windows_dates : Array (Option Value)}
    {oc_law_cell kV_law_cell dc_law_cell pm_law_cell cd_law_cell ct_law_cell : Value} {od_law_cell an_law_cell : Option Addr} {sl_law_cell : Array (Option Value)}
    {oc_law_pool kV_law_pool dc_law_pool pm_law_pool cd_law_pool ct_law_pool : Value} {od_law_pool an_law_pool : Option Addr} {sl_law_pool : Array (Option Value)}
    {oc_law_size kV_law_size dc_law_size pm_law_size cd_law_size ct_law_size : Value} {od_law_size an_law_size : Option Addr} {sl_law_size : Array (Option Value)}
    {oc_law_names kV_law_names dc_law_names pm_law_names cd_law_names ct_law_names : Value} {od_law_names an_law_names : Option Addr} {sl_law_names : Array (Option Value)}
    {oc_law_order kV_law_order dc_law_order pm_law_order cd_law_order ct_law_order : Value} {od_law_order an_law_order : Option Addr} {sl_law_order : Array (Option Value)}
    {oc_law_row kV_law_row dc_law_row pm_law_row cd_law_row ct_law_row : Value} {od_law_row an_law_row : Option Addr} {sl_law_row : Array (Option Value)}
    {oc_law_rows kV_law_rows dc_law_rows pm_law_rows cd_law_rows ct_law_rows : Value} {od_law_rows an_law_rows : Option Addr} {sl_law_rows : Array (Option Value)}
    {oc_law_steps kV_law_steps dc_law_steps pm_law_steps cd_law_steps ct_law_steps : Value} {od_law_steps an_law_steps : Option Addr} {sl_law_steps : Array (Option Value)}
    {oc_law_windows kV_law_windows dc_law_windows pm_law_windows cd_law_windows ct_law_windows : Value} {od_law_windows an_law_windows : Option Addr} {sl_law_windows : Array (Option Value)}
    {oc_law_is_number kV_law_is_number dc_law_is_number pm_law_is_number cd_law_is_number ct_law_is_number : Value} {od_law_is_number an_law_is_number : Option Addr} {sl_law_is_number : Array (Option Value)}
    {oc_law_windows_kept kV_law_windows_kept dc_law_windows_kept pm_law_windows_kept cd_law_windows_kept ct_law_windows_kept : Value} {od_law_windows_kept an_law_windows_kept : Option Addr} {sl_law_windows_kept : Array (Option Value)}
    {oc_law_forced kV_law_forced dc_law_forced pm_law_forced cd_law_forced ct_law_forced : Value} {od_law_forced an_law_forced : Option Addr} {sl_law_forced : Array (Option Value)}
    {oc_law_same_pairs kV_law_same_pairs dc_law_same_pairs pm_law_same_pairs cd_law_same_pairs ct_law_same_pairs : Value} {od_law_same_pairs an_law_same_pairs : Option Addr} {sl_law_same_pairs : Array (Option Value)}
    {oc_law_free_windows kV_law_free_windows dc_law_free_windows pm_law_free_windows cd_law_free_windows ct_law_free_windows : Value} {od_law_free_windows an_law_free_windows : Option Addr} {sl_law_free_windows : Array (Option Value)}
    {oc_law_due_years kV_law_due_years dc_law_due_years pm_law_due_years cd_law_due_years ct_law_due_years : Value} {od_law_due_years an_law_due_years : Option Addr} {sl_law_due_years : Array (Option Value)}
    {oc_law_rise kV_law_rise dc_law_rise pm_law_rise cd_law_rise ct_law_rise : Value} {od_law_rise an_law_rise : Option Addr} {sl_law_rise : Array (Option Value)}
    {oc_law_other_years kV_law_other_years dc_law_other_years pm_law_other_years cd_law_other_years ct_law_other_years : Value} {od_law_other_years an_law_other_years : Option Addr} {sl_law_other_years : Array (Option Value)}
    {oc_law_bad_windows kV_law_bad_windows dc_law_bad_windows pm_law_bad_windows cd_law_bad_windows ct_law_bad_windows : Value} {od_law_bad_windows an_law_bad_windows : Option Addr} {sl_law_bad_windows : Array (Option Value)}
    {oc_law_refused_windows kV_law_refused_windows dc_law_refused_windows pm_law_refused_windows cd_law_refused_windows ct_law_refused_windows : Value} {od_law_refused_windows an_law_refused_windows : Option Addr} {sl_law_refused_windows : Array (Option Value)}
    {oc_law_dated kV_law_dated dc_law_dated pm_law_dated cd_law_dated ct_law_dated : Value} {od_law_dated an_law_dated : Option Addr} {sl_law_dated : Array (Option Value)}
    {oc_law_kept kV_law_kept dc_law_kept pm_law_kept cd_law_kept ct_law_kept : Value} {od_law_kept an_law_kept : Option Addr} {sl_law_kept : Array (Option Value)}
    {oc_law_dates_right kV_law_dates_right dc_law_dates_right pm_law_dates_right cd_law_dates_right ct_law_dates_right : Value} {od_law_dates_right an_law_dates_right : Option Addr} {sl_law_dates_right : Array (Option Value)}
    {oc_law_keeps_right kV_law_keeps_right dc_law_keeps_right pm_law_keeps_right cd_law_keeps_right ct_law_keeps_right : Value} {od_law_keeps_right an_law_keeps_right : Option Addr} {sl_law_keeps_right : Array (Option Value)}
    {oc_law_lots_right kV_law_lots_right dc_law_lots_right pm_law_lots_right cd_law_lots_right ct_law_lots_right : Value} {od_law_lots_right an_law_lots_right : Option Addr} {sl_law_lots_right : Array (Option Value)}
    {oc_law_bad_order kV_law_bad_order dc_law_bad_order pm_law_bad_order cd_law_bad_order ct_law_bad_order : Value} {od_law_bad_order an_law_bad_order : Option Addr} {sl_law_bad_order : Array (Option Value)}
    {oc_law_bounds_right kV_law_bounds_right dc_law_bounds_right pm_law_bounds_right cd_law_bounds_right ct_law_bounds_right : Value} {od_law_bounds_right an_law_bounds_right : Option Addr} {sl_law_bounds_right : Array (Option Value)}
    {oc_law kV_law dc_law pm_law cd_law ct_law : Value} {od_law an_law : Option Addr} {sl_law : Array (Option Value)}
    (xmg_Table : PySem.W.nsIn K mainGlobals "Table" = some (some (.ref C_Table)))
    (xmg_Windows : PySem.W.nsIn K mainGlobals "Windows" = some (some (.ref C_Windows)))
    (xmg_RowsError : PySem.W.nsIn K mainGlobals "RowsError" = some (some (.ref C_RowsError)))
    (xmg_Unknown : PySem.W.nsIn K mainGlobals "Unknown" = some (some (.ref C_Unknown)))
    (xmg_Impossible : PySem.W.nsIn K mainGlobals "Impossible" = some (some (.ref C_Impossible)))
    (xmg_BadOrder : PySem.W.nsIn K mainGlobals "BadOrder" = some (some (.ref C_BadOrder)))
    (xmg_NoDates : PySem.W.nsIn K mainGlobals "NoDates" = some (some (.ref C_NoDates)))
    (xmg_BadWindow : PySem.W.nsIn K mainGlobals "BadWindow" = some (some (.ref C_BadWindow)))
    (am_BadOrder_init : PySem.W.findIn K (.ref C_BadOrder) "__init__" = some (some (.ref a_BadOrder_init)))
    (am_NoDates_init : PySem.W.findIn K (.ref C_NoDates) "__init__" = some (some (.ref a_NoDates_init)))
    (am_BadWindow_init : PySem.W.findIn K (.ref C_BadWindow) "__init__" = some (some (.ref a_BadWindow_init)))
    (xmg_LONGEST_NAME : PySem.W.nsIn K mainGlobals "LONGEST_NAME" = some (some (.int 8 tk_LONGEST_NAME)))
    (xmg_MOST_YEAR : PySem.W.nsIn K mainGlobals "MOST_YEAR" = some (some (.int 1000000 tk_MOST_YEAR)))
    (xmg_is_name : PySem.W.nsIn K mainGlobals "is_name" = some (some (.ref a_is_name)))
    (xmg_first_bad_name : PySem.W.nsIn K mainGlobals "first_bad_name" = some (some (.ref a_first_bad_name)))
    (xmg_first_stray : PySem.W.nsIn K mainGlobals "first_stray" = some (some (.ref a_first_stray)))
    (xmg_order_fault : PySem.W.nsIn K mainGlobals "order_fault" = some (some (.ref a_order_fault)))
    (xmg_check_order : PySem.W.nsIn K mainGlobals "check_order" = some (some (.ref a_check_order)))
    (xmg_check_columns : PySem.W.nsIn K mainGlobals "check_columns" = some (some (.ref a_check_columns)))
    (xmg_check_rows : PySem.W.nsIn K mainGlobals "_check_rows" = some (some (.ref a_check_rows)))
    (am_Table_in_order : PySem.W.findIn K (.ref C_Table) "_in_order" = some (some (.ref a_Table_in_order)))
    (am_Table_init : PySem.W.findIn K (.ref C_Table) "__init__" = some (some (.ref a_Table_init)))
    (am_Table_has : PySem.W.findIn K (.ref C_Table) "has" = some (some (.ref a_Table_has)))
    (am_Table_eq : PySem.W.findIn K (.ref C_Table) "__eq__" = some (some (.ref a_Table_eq)))
    (am_Windows_init : PySem.W.findIn K (.ref C_Windows) "__init__" = some (some (.ref a_Windows_init)))
    (am_Windows_forced : PySem.W.findIn K (.ref C_Windows) "forced" = some (some (.ref a_Windows_forced)))
    (am_Windows_keeps : PySem.W.findIn K (.ref C_Windows) "keeps" = some (some (.ref a_Windows_keeps)))
    (am_Windows_dates : PySem.W.findIn K (.ref C_Windows) "dates" = some (some (.ref a_Windows_dates)))
    (xmg_law_cell : PySem.W.nsIn K mainGlobals "_law_cell" = some (some (.ref a_law_cell)))
    (xmg_law_pool : PySem.W.nsIn K mainGlobals "_law_pool" = some (some (.ref a_law_pool)))
    (xmg_law_size : PySem.W.nsIn K mainGlobals "_law_size" = some (some (.ref a_law_size)))
    (xmg_law_names : PySem.W.nsIn K mainGlobals "_law_names" = some (some (.ref a_law_names)))
    (xmg_law_order : PySem.W.nsIn K mainGlobals "_law_order" = some (some (.ref a_law_order)))
    (xmg_law_row : PySem.W.nsIn K mainGlobals "_law_row" = some (some (.ref a_law_row)))
    (xmg_law_rows : PySem.W.nsIn K mainGlobals "_law_rows" = some (some (.ref a_law_rows)))
    (xmg_law_steps : PySem.W.nsIn K mainGlobals "_law_steps" = some (some (.ref a_law_steps)))
    (xmg_law_windows : PySem.W.nsIn K mainGlobals "_law_windows" = some (some (.ref a_law_windows)))
    (xmg_law_is_number : PySem.W.nsIn K mainGlobals "_law_is_number" = some (some (.ref a_law_is_number)))
    (xmg_law_windows_kept : PySem.W.nsIn K mainGlobals "_law_windows_kept" = some (some (.ref a_law_windows_kept)))
    (xmg_law_forced : PySem.W.nsIn K mainGlobals "_law_forced" = some (some (.ref a_law_forced)))
    (xmg_law_same_pairs : PySem.W.nsIn K mainGlobals "_law_same_pairs" = some (some (.ref a_law_same_pairs)))
    (xmg_law_free_windows : PySem.W.nsIn K mainGlobals "_law_free_windows" = some (some (.ref a_law_free_windows)))
    (xmg_law_due_years : PySem.W.nsIn K mainGlobals "_law_due_years" = some (some (.ref a_law_due_years)))
    (xmg_law_rise : PySem.W.nsIn K mainGlobals "_law_rise" = some (some (.ref a_law_rise)))
    (xmg_law_other_years : PySem.W.nsIn K mainGlobals "_law_other_years" = some (some (.ref a_law_other_years)))
    (xmg_law_bad_windows : PySem.W.nsIn K mainGlobals "_law_bad_windows" = some (some (.ref a_law_bad_windows)))
    (xmg_law_refused_windows : PySem.W.nsIn K mainGlobals "_law_refused_windows" = some (some (.ref a_law_refused_windows)))
    (xmg_law_dated : PySem.W.nsIn K mainGlobals "_law_dated" = some (some (.ref a_law_dated)))
    (xmg_law_kept : PySem.W.nsIn K mainGlobals "_law_kept" = some (some (.ref a_law_kept)))
    (xmg_law_dates_right : PySem.W.nsIn K mainGlobals "_law_dates_right" = some (some (.ref a_law_dates_right)))
    (xmg_law_keeps_right : PySem.W.nsIn K mainGlobals "_law_keeps_right" = some (some (.ref a_law_keeps_right)))
    (xmg_law_lots_right : PySem.W.nsIn K mainGlobals "_law_lots_right" = some (some (.ref a_law_lots_right)))
    (xmg_law_bad_order : PySem.W.nsIn K mainGlobals "_law_bad_order" = some (some (.ref a_law_bad_order)))
    (xmg_law_bounds_right : PySem.W.nsIn K mainGlobals "_law_bounds_right" = some (some (.ref a_law_bounds_right)))
    (xmg_law : PySem.W.nsIn K mainGlobals "law" = some (some (.ref a_law)))
    (if_Table_in_order : PySem.W.isFn K (.ref a_Table_in_order) = true)
    (if_Table_init : PySem.W.isFn K (.ref a_Table_init) = true)
    (if_Table_has : PySem.W.isFn K (.ref a_Table_has) = true)
    (if_Table_eq : PySem.W.isFn K (.ref a_Table_eq) = true)
    (if_Windows_init : PySem.W.isFn K (.ref a_Windows_init) = true)
    (if_Windows_forced : PySem.W.isFn K (.ref a_Windows_forced) = true)
    (if_Windows_keeps : PySem.W.isFn K (.ref a_Windows_keeps) = true)
    (if_Windows_dates : PySem.W.isFn K (.ref a_Windows_dates) = true)
    (l_BadOrder_init : K.lookup a_BadOrder_init = some ⟨oc_BadOrder_init, od_BadOrder_init, .func (PySem.W.ksFn "__init__" "BadOrder.__init__" (defArgs s_BadOrder_init) (defBody s_BadOrder_init) (defScope s_BadOrder_init) .none kV_BadOrder_init dc_BadOrder_init pm_BadOrder_init an_BadOrder_init (.ref cda_BadOrder_init) ct_BadOrder_init cc_BadOrder_init), sl_BadOrder_init⟩)
    (l_NoDates_init : K.lookup a_NoDates_init = some ⟨oc_NoDates_init, od_NoDates_init, .func (PySem.W.ksFn "__init__" "NoDates.__init__" (defArgs s_NoDates_init) (defBody s_NoDates_init) (defScope s_NoDates_init) .none kV_NoDates_init dc_NoDates_init pm_NoDates_init an_NoDates_init (.ref cda_NoDates_init) ct_NoDates_init cc_NoDates_init), sl_NoDates_init⟩)
    (l_BadWindow_init : K.lookup a_BadWindow_init = some ⟨oc_BadWindow_init, od_BadWindow_init, .func (PySem.W.ksFn "__init__" "BadWindow.__init__" (defArgs s_BadWindow_init) (defBody s_BadWindow_init) (defScope s_BadWindow_init) .none kV_BadWindow_init dc_BadWindow_init pm_BadWindow_init an_BadWindow_init (.ref cda_BadWindow_init) ct_BadWindow_init cc_BadWindow_init), sl_BadWindow_init⟩)
    (l_is_name : K.lookup a_is_name = some ⟨oc_is_name, od_is_name, .func (PySem.W.fnOf "is_name" "is_name" (defArgs s_is_name) (defBody s_is_name) (defScope s_is_name) .none kV_is_name dc_is_name pm_is_name an_is_name cd_is_name ct_is_name), sl_is_name⟩)
    (l_first_bad_name : K.lookup a_first_bad_name = some ⟨oc_first_bad_name, od_first_bad_name, .func (PySem.W.fnOf "first_bad_name" "first_bad_name" (defArgs s_first_bad_name) (defBody s_first_bad_name) (defScope s_first_bad_name) .none kV_first_bad_name dc_first_bad_name pm_first_bad_name an_first_bad_name cd_first_bad_name ct_first_bad_name), sl_first_bad_name⟩)
    (l_first_stray : K.lookup a_first_stray = some ⟨oc_first_stray, od_first_stray, .func (PySem.W.fnOf "first_stray" "first_stray" (defArgs s_first_stray) (defBody s_first_stray) (defScope s_first_stray) .none kV_first_stray dc_first_stray pm_first_stray an_first_stray cd_first_stray ct_first_stray), sl_first_stray⟩)
    (l_order_fault : K.lookup a_order_fault = some ⟨oc_order_fault, od_order_fault, .func (PySem.W.fnOf "order_fault" "order_fault" (defArgs s_order_fault) (defBody s_order_fault) (defScope s_order_fault) .none kV_order_fault dc_order_fault pm_order_fault an_order_fault cd_order_fault ct_order_fault), sl_order_fault⟩)
    (l_check_order : K.lookup a_check_order = some ⟨oc_check_order, od_check_order, .func (PySem.W.fnOf "check_order" "check_order" (defArgs s_check_order) (defBody s_check_order) (defScope s_check_order) .none kV_check_order dc_check_order pm_check_order an_check_order cd_check_order ct_check_order), sl_check_order⟩)
    (l_check_columns : K.lookup a_check_columns = some ⟨oc_check_columns, od_check_columns, .func (PySem.W.fnOf "check_columns" "check_columns" (defArgs s_check_columns) (defBody s_check_columns) (defScope s_check_columns) .none kV_check_columns dc_check_columns pm_check_columns an_check_columns cd_check_columns ct_check_columns), sl_check_columns⟩)
    (l_check_rows : K.lookup a_check_rows = some ⟨oc_check_rows, od_check_rows, .func (PySem.W.fnOf "_check_rows" "_check_rows" (defArgs s_check_rows) (defBody s_check_rows) (defScope s_check_rows) .none kV_check_rows dc_check_rows pm_check_rows an_check_rows cd_check_rows ct_check_rows), sl_check_rows⟩)
    (l_Table_in_order : K.lookup a_Table_in_order = some ⟨oc_Table_in_order, od_Table_in_order, .func (PySem.W.fnOf "_in_order" "Table._in_order" (defArgs s_Table_in_order) (defBody s_Table_in_order) (defScope s_Table_in_order) .none kV_Table_in_order dc_Table_in_order pm_Table_in_order an_Table_in_order cd_Table_in_order ct_Table_in_order), sl_Table_in_order⟩)
    (l_Table_init : K.lookup a_Table_init = some ⟨oc_Table_init, od_Table_init, .func (PySem.W.fnOf "__init__" "Table.__init__" (defArgs s_Table_init) (defBody s_Table_init) (defScope s_Table_init) (.ref TD_Table_init) kV_Table_init dc_Table_init pm_Table_init an_Table_init cd_Table_init ct_Table_init), sl_Table_init⟩)
    (l_Table_has : K.lookup a_Table_has = some ⟨oc_Table_has, od_Table_has, .func (PySem.W.fnOf "has" "Table.has" (defArgs s_Table_has) (defBody s_Table_has) (defScope s_Table_has) .none kV_Table_has dc_Table_has pm_Table_has an_Table_has cd_Table_has ct_Table_has), sl_Table_has⟩)
    (l_Table_eq : K.lookup a_Table_eq = some ⟨oc_Table_eq, od_Table_eq, .func (PySem.W.fnOf "__eq__" "Table.__eq__" (defArgs s_Table_eq) (defBody s_Table_eq) (defScope s_Table_eq) .none kV_Table_eq dc_Table_eq pm_Table_eq an_Table_eq cd_Table_eq ct_Table_eq), sl_Table_eq⟩)
    (l_Windows_init : K.lookup a_Windows_init = some ⟨oc_Windows_init, od_Windows_init, .func (PySem.W.fnOf "__init__" "Windows.__init__" (defArgs s_Windows_init) (defBody s_Windows_init) (defScope s_Windows_init) .none kV_Windows_init dc_Windows_init pm_Windows_init an_Windows_init cd_Windows_init ct_Windows_init), sl_Windows_init⟩)
    (l_Windows_forced : K.lookup a_Windows_forced = some ⟨oc_Windows_forced, od_Windows_forced, .func (PySem.W.fnOf "forced" "Windows.forced" (defArgs s_Windows_forced) (defBody s_Windows_forced) (defScope s_Windows_forced) .none kV_Windows_forced dc_Windows_forced pm_Windows_forced an_Windows_forced cd_Windows_forced ct_Windows_forced), sl_Windows_forced⟩)
    (l_Windows_keeps : K.lookup a_Windows_keeps = some ⟨oc_Windows_keeps, od_Windows_keeps, .func (PySem.W.fnOf "keeps" "Windows.keeps" (defArgs s_Windows_keeps) (defBody s_Windows_keeps) (defScope s_Windows_keeps) .none kV_Windows_keeps dc_Windows_keeps pm_Windows_keeps an_Windows_keeps cd_Windows_keeps ct_Windows_keeps), sl_Windows_keeps⟩)
    (l_Windows_dates : K.lookup a_Windows_dates = some ⟨oc_Windows_dates, od_Windows_dates, .func (PySem.W.fnOf "dates" "Windows.dates" (defArgs s_Windows_dates) (defBody s_Windows_dates) (defScope s_Windows_dates) .none kV_Windows_dates dc_Windows_dates pm_Windows_dates an_Windows_dates cd_Windows_dates ct_Windows_dates), sl_Windows_dates⟩)
    (l_law_cell : K.lookup a_law_cell = some ⟨oc_law_cell, od_law_cell, .func (PySem.W.fnOf "_law_cell" "_law_cell" (defArgs s_law_cell) (defBody s_law_cell) (defScope s_law_cell) .none kV_law_cell dc_law_cell pm_law_cell an_law_cell cd_law_cell ct_law_cell), sl_law_cell⟩)
    (l_law_pool : K.lookup a_law_pool = some ⟨oc_law_pool, od_law_pool, .func (PySem.W.fnOf "_law_pool" "_law_pool" (defArgs s_law_pool) (defBody s_law_pool) (defScope s_law_pool) .none kV_law_pool dc_law_pool pm_law_pool an_law_pool cd_law_pool ct_law_pool), sl_law_pool⟩)
    (l_law_size : K.lookup a_law_size = some ⟨oc_law_size, od_law_size, .func (PySem.W.fnOf "_law_size" "_law_size" (defArgs s_law_size) (defBody s_law_size) (defScope s_law_size) .none kV_law_size dc_law_size pm_law_size an_law_size cd_law_size ct_law_size), sl_law_size⟩)
    (l_law_names : K.lookup a_law_names = some ⟨oc_law_names, od_law_names, .func (PySem.W.fnOf "_law_names" "_law_names" (defArgs s_law_names) (defBody s_law_names) (defScope s_law_names) .none kV_law_names dc_law_names pm_law_names an_law_names cd_law_names ct_law_names), sl_law_names⟩)
    (l_law_order : K.lookup a_law_order = some ⟨oc_law_order, od_law_order, .func (PySem.W.fnOf "_law_order" "_law_order" (defArgs s_law_order) (defBody s_law_order) (defScope s_law_order) .none kV_law_order dc_law_order pm_law_order an_law_order cd_law_order ct_law_order), sl_law_order⟩)
    (l_law_row : K.lookup a_law_row = some ⟨oc_law_row, od_law_row, .func (PySem.W.fnOf "_law_row" "_law_row" (defArgs s_law_row) (defBody s_law_row) (defScope s_law_row) .none kV_law_row dc_law_row pm_law_row an_law_row cd_law_row ct_law_row), sl_law_row⟩)
    (l_law_rows : K.lookup a_law_rows = some ⟨oc_law_rows, od_law_rows, .func (PySem.W.fnOf "_law_rows" "_law_rows" (defArgs s_law_rows) (defBody s_law_rows) (defScope s_law_rows) .none kV_law_rows dc_law_rows pm_law_rows an_law_rows cd_law_rows ct_law_rows), sl_law_rows⟩)
    (l_law_steps : K.lookup a_law_steps = some ⟨oc_law_steps, od_law_steps, .func (PySem.W.fnOf "_law_steps" "_law_steps" (defArgs s_law_steps) (defBody s_law_steps) (defScope s_law_steps) .none kV_law_steps dc_law_steps pm_law_steps an_law_steps cd_law_steps ct_law_steps), sl_law_steps⟩)
    (l_law_windows : K.lookup a_law_windows = some ⟨oc_law_windows, od_law_windows, .func (PySem.W.fnOf "_law_windows" "_law_windows" (defArgs s_law_windows) (defBody s_law_windows) (defScope s_law_windows) .none kV_law_windows dc_law_windows pm_law_windows an_law_windows cd_law_windows ct_law_windows), sl_law_windows⟩)
    (l_law_is_number : K.lookup a_law_is_number = some ⟨oc_law_is_number, od_law_is_number, .func (PySem.W.fnOf "_law_is_number" "_law_is_number" (defArgs s_law_is_number) (defBody s_law_is_number) (defScope s_law_is_number) .none kV_law_is_number dc_law_is_number pm_law_is_number an_law_is_number cd_law_is_number ct_law_is_number), sl_law_is_number⟩)
    (l_law_windows_kept : K.lookup a_law_windows_kept = some ⟨oc_law_windows_kept, od_law_windows_kept, .func (PySem.W.fnOf "_law_windows_kept" "_law_windows_kept" (defArgs s_law_windows_kept) (defBody s_law_windows_kept) (defScope s_law_windows_kept) .none kV_law_windows_kept dc_law_windows_kept pm_law_windows_kept an_law_windows_kept cd_law_windows_kept ct_law_windows_kept), sl_law_windows_kept⟩)
    (l_law_forced : K.lookup a_law_forced = some ⟨oc_law_forced, od_law_forced, .func (PySem.W.fnOf "_law_forced" "_law_forced" (defArgs s_law_forced) (defBody s_law_forced) (defScope s_law_forced) .none kV_law_forced dc_law_forced pm_law_forced an_law_forced cd_law_forced ct_law_forced), sl_law_forced⟩)
    (l_law_same_pairs : K.lookup a_law_same_pairs = some ⟨oc_law_same_pairs, od_law_same_pairs, .func (PySem.W.fnOf "_law_same_pairs" "_law_same_pairs" (defArgs s_law_same_pairs) (defBody s_law_same_pairs) (defScope s_law_same_pairs) .none kV_law_same_pairs dc_law_same_pairs pm_law_same_pairs an_law_same_pairs cd_law_same_pairs ct_law_same_pairs), sl_law_same_pairs⟩)
    (l_law_free_windows : K.lookup a_law_free_windows = some ⟨oc_law_free_windows, od_law_free_windows, .func (PySem.W.fnOf "_law_free_windows" "_law_free_windows" (defArgs s_law_free_windows) (defBody s_law_free_windows) (defScope s_law_free_windows) .none kV_law_free_windows dc_law_free_windows pm_law_free_windows an_law_free_windows cd_law_free_windows ct_law_free_windows), sl_law_free_windows⟩)
    (l_law_due_years : K.lookup a_law_due_years = some ⟨oc_law_due_years, od_law_due_years, .func (PySem.W.fnOf "_law_due_years" "_law_due_years" (defArgs s_law_due_years) (defBody s_law_due_years) (defScope s_law_due_years) .none kV_law_due_years dc_law_due_years pm_law_due_years an_law_due_years cd_law_due_years ct_law_due_years), sl_law_due_years⟩)
    (l_law_rise : K.lookup a_law_rise = some ⟨oc_law_rise, od_law_rise, .func (PySem.W.fnOf "_law_rise" "_law_rise" (defArgs s_law_rise) (defBody s_law_rise) (defScope s_law_rise) .none kV_law_rise dc_law_rise pm_law_rise an_law_rise cd_law_rise ct_law_rise), sl_law_rise⟩)
    (l_law_other_years : K.lookup a_law_other_years = some ⟨oc_law_other_years, od_law_other_years, .func (PySem.W.fnOf "_law_other_years" "_law_other_years" (defArgs s_law_other_years) (defBody s_law_other_years) (defScope s_law_other_years) .none kV_law_other_years dc_law_other_years pm_law_other_years an_law_other_years cd_law_other_years ct_law_other_years), sl_law_other_years⟩)
    (l_law_bad_windows : K.lookup a_law_bad_windows = some ⟨oc_law_bad_windows, od_law_bad_windows, .func (PySem.W.fnOf "_law_bad_windows" "_law_bad_windows" (defArgs s_law_bad_windows) (defBody s_law_bad_windows) (defScope s_law_bad_windows) .none kV_law_bad_windows dc_law_bad_windows pm_law_bad_windows an_law_bad_windows cd_law_bad_windows ct_law_bad_windows), sl_law_bad_windows⟩)
    (l_law_refused_windows : K.lookup a_law_refused_windows = some ⟨oc_law_refused_windows, od_law_refused_windows, .func (PySem.W.fnOf "_law_refused_windows" "_law_refused_windows" (defArgs s_law_refused_windows) (defBody s_law_refused_windows) (defScope s_law_refused_windows) .none kV_law_refused_windows dc_law_refused_windows pm_law_refused_windows an_law_refused_windows cd_law_refused_windows ct_law_refused_windows), sl_law_refused_windows⟩)
    (l_law_dated : K.lookup a_law_dated = some ⟨oc_law_dated, od_law_dated, .func (PySem.W.fnOf "_law_dated" "_law_dated" (defArgs s_law_dated) (defBody s_law_dated) (defScope s_law_dated) .none kV_law_dated dc_law_dated pm_law_dated an_law_dated cd_law_dated ct_law_dated), sl_law_dated⟩)
    (l_law_kept : K.lookup a_law_kept = some ⟨oc_law_kept, od_law_kept, .func (PySem.W.fnOf "_law_kept" "_law_kept" (defArgs s_law_kept) (defBody s_law_kept) (defScope s_law_kept) .none kV_law_kept dc_law_kept pm_law_kept an_law_kept cd_law_kept ct_law_kept), sl_law_kept⟩)
    (l_law_dates_right : K.lookup a_law_dates_right = some ⟨oc_law_dates_right, od_law_dates_right, .func (PySem.W.fnOf "_law_dates_right" "_law_dates_right" (defArgs s_law_dates_right) (defBody s_law_dates_right) (defScope s_law_dates_right) .none kV_law_dates_right dc_law_dates_right pm_law_dates_right an_law_dates_right cd_law_dates_right ct_law_dates_right), sl_law_dates_right⟩)
    (l_law_keeps_right : K.lookup a_law_keeps_right = some ⟨oc_law_keeps_right, od_law_keeps_right, .func (PySem.W.fnOf "_law_keeps_right" "_law_keeps_right" (defArgs s_law_keeps_right) (defBody s_law_keeps_right) (defScope s_law_keeps_right) .none kV_law_keeps_right dc_law_keeps_right pm_law_keeps_right an_law_keeps_right cd_law_keeps_right ct_law_keeps_right), sl_law_keeps_right⟩)
    (l_law_lots_right : K.lookup a_law_lots_right = some ⟨oc_law_lots_right, od_law_lots_right, .func (PySem.W.fnOf "_law_lots_right" "_law_lots_right" (defArgs s_law_lots_right) (defBody s_law_lots_right) (defScope s_law_lots_right) .none kV_law_lots_right dc_law_lots_right pm_law_lots_right an_law_lots_right cd_law_lots_right ct_law_lots_right), sl_law_lots_right⟩)
    (l_law_bad_order : K.lookup a_law_bad_order = some ⟨oc_law_bad_order, od_law_bad_order, .func (PySem.W.fnOf "_law_bad_order" "_law_bad_order" (defArgs s_law_bad_order) (defBody s_law_bad_order) (defScope s_law_bad_order) .none kV_law_bad_order dc_law_bad_order pm_law_bad_order an_law_bad_order cd_law_bad_order ct_law_bad_order), sl_law_bad_order⟩)
    (l_law_bounds_right : K.lookup a_law_bounds_right = some ⟨oc_law_bounds_right, od_law_bounds_right, .func (PySem.W.fnOf "_law_bounds_right" "_law_bounds_right" (defArgs s_law_bounds_right) (defBody s_law_bounds_right) (defScope s_law_bounds_right) .none kV_law_bounds_right dc_law_bounds_right pm_law_bounds_right an_law_bounds_right cd_law_bounds_right ct_law_bounds_right), sl_law_bounds_right⟩)
    (l_law : K.lookup a_law = some ⟨oc_law, od_law, .func (PySem.W.fnOf "law" "law" (defArgs s_law) (defBody s_law) (defScope s_law) .none kV_law dc_law pm_law an_law cd_law ct_law), sl_law⟩)
    (lx_BadOrder_init : K.lookup cda_BadOrder_init = some ⟨oa_BadOrder_init, da_BadOrder_init, .fields vs_BadOrder_init, la_BadOrder_init⟩)
    (lq_BadOrder_init : K.lookup cc_BadOrder_init = some ⟨ob_BadOrder_init, db_BadOrder_init, .cell (some (.ref C_BadOrder)), lb_BadOrder_init⟩)
    (lx_NoDates_init : K.lookup cda_NoDates_init = some ⟨oa_NoDates_init, da_NoDates_init, .fields vs_NoDates_init, la_NoDates_init⟩)
    (lq_NoDates_init : K.lookup cc_NoDates_init = some ⟨ob_NoDates_init, db_NoDates_init, .cell (some (.ref C_NoDates)), lb_NoDates_init⟩)
    (lx_BadWindow_init : K.lookup cda_BadWindow_init = some ⟨oa_BadWindow_init, da_BadWindow_init, .fields vs_BadWindow_init, la_BadWindow_init⟩)
    (lq_BadWindow_init : K.lookup cc_BadWindow_init = some ⟨ob_BadWindow_init, db_BadWindow_init, .cell (some (.ref C_BadWindow)), lb_BadWindow_init⟩)
    (c_BadOrder_init : PySem.W.codeIn K (.ref cda_BadOrder_init) "BadOrder.__init__" = true)
    (c_NoDates_init : PySem.W.codeIn K (.ref cda_NoDates_init) "NoDates.__init__" = true)
    (c_BadWindow_init : PySem.W.codeIn K (.ref cda_BadWindow_init) "BadWindow.__init__" = true)
    (c_is_name : PySem.W.codeIn K cd_is_name "is_name" = true)
    (k_is_name : PySem.W.keepIn K (.ref a_is_name) = true)
    (c_first_bad_name : PySem.W.codeIn K cd_first_bad_name "first_bad_name" = true)
    (k_first_bad_name : PySem.W.keepIn K (.ref a_first_bad_name) = true)
    (c_first_stray : PySem.W.codeIn K cd_first_stray "first_stray" = true)
    (k_first_stray : PySem.W.keepIn K (.ref a_first_stray) = true)
    (c_order_fault : PySem.W.codeIn K cd_order_fault "order_fault" = true)
    (k_order_fault : PySem.W.keepIn K (.ref a_order_fault) = true)
    (c_check_order : PySem.W.codeIn K cd_check_order "check_order" = true)
    (k_check_order : PySem.W.keepIn K (.ref a_check_order) = true)
    (c_check_columns : PySem.W.codeIn K cd_check_columns "check_columns" = true)
    (k_check_columns : PySem.W.keepIn K (.ref a_check_columns) = true)
    (c_check_rows : PySem.W.codeIn K cd_check_rows "_check_rows" = true)
    (k_check_rows : PySem.W.keepIn K (.ref a_check_rows) = true)
    (c_Table_in_order : PySem.W.codeIn K cd_Table_in_order "Table._in_order" = true)
    (k_Table_in_order : PySem.W.keepIn K (.ref a_Table_in_order) = true)
    (c_Table_init : PySem.W.codeIn K cd_Table_init "Table.__init__" = true)
    (k_Table_init : PySem.W.keepIn K (.ref a_Table_init) = true)
    (lt_Table_init : K.lookup TD_Table_init = some ⟨.type "tuple", to_Table_init, .seq #[.ref e_Table_init] tn_Table_init, ts_Table_init⟩)
    (c_Table_has : PySem.W.codeIn K cd_Table_has "Table.has" = true)
    (k_Table_has : PySem.W.keepIn K (.ref a_Table_has) = true)
    (c_Table_eq : PySem.W.codeIn K cd_Table_eq "Table.__eq__" = true)
    (k_Table_eq : PySem.W.keepIn K (.ref a_Table_eq) = true)
    (c_Windows_init : PySem.W.codeIn K cd_Windows_init "Windows.__init__" = true)
    (k_Windows_init : PySem.W.keepIn K (.ref a_Windows_init) = true)
    (c_Windows_forced : PySem.W.codeIn K cd_Windows_forced "Windows.forced" = true)
    (k_Windows_forced : PySem.W.keepIn K (.ref a_Windows_forced) = true)
    (c_Windows_keeps : PySem.W.codeIn K cd_Windows_keeps "Windows.keeps" = true)
    (k_Windows_keeps : PySem.W.keepIn K (.ref a_Windows_keeps) = true)
    (c_Windows_dates : PySem.W.codeIn K cd_Windows_dates "Windows.dates" = true)
    (k_Windows_dates : PySem.W.keepIn K (.ref a_Windows_dates) = true)
    (c_law_cell : PySem.W.codeIn K cd_law_cell "_law_cell" = true)
    (k_law_cell : PySem.W.keepIn K (.ref a_law_cell) = true)
    (c_law_pool : PySem.W.codeIn K cd_law_pool "_law_pool" = true)
    (k_law_pool : PySem.W.keepIn K (.ref a_law_pool) = true)
    (c_law_size : PySem.W.codeIn K cd_law_size "_law_size" = true)
    (k_law_size : PySem.W.keepIn K (.ref a_law_size) = true)
    (c_law_names : PySem.W.codeIn K cd_law_names "_law_names" = true)
    (k_law_names : PySem.W.keepIn K (.ref a_law_names) = true)
    (c_law_order : PySem.W.codeIn K cd_law_order "_law_order" = true)
    (k_law_order : PySem.W.keepIn K (.ref a_law_order) = true)
    (c_law_row : PySem.W.codeIn K cd_law_row "_law_row" = true)
    (k_law_row : PySem.W.keepIn K (.ref a_law_row) = true)
    (c_law_rows : PySem.W.codeIn K cd_law_rows "_law_rows" = true)
    (k_law_rows : PySem.W.keepIn K (.ref a_law_rows) = true)
    (c_law_steps : PySem.W.codeIn K cd_law_steps "_law_steps" = true)
    (k_law_steps : PySem.W.keepIn K (.ref a_law_steps) = true)
    (c_law_windows : PySem.W.codeIn K cd_law_windows "_law_windows" = true)
    (k_law_windows : PySem.W.keepIn K (.ref a_law_windows) = true)
    (c_law_is_number : PySem.W.codeIn K cd_law_is_number "_law_is_number" = true)
    (k_law_is_number : PySem.W.keepIn K (.ref a_law_is_number) = true)
    (c_law_windows_kept : PySem.W.codeIn K cd_law_windows_kept "_law_windows_kept" = true)
    (k_law_windows_kept : PySem.W.keepIn K (.ref a_law_windows_kept) = true)
    (c_law_forced : PySem.W.codeIn K cd_law_forced "_law_forced" = true)
    (k_law_forced : PySem.W.keepIn K (.ref a_law_forced) = true)
    (c_law_same_pairs : PySem.W.codeIn K cd_law_same_pairs "_law_same_pairs" = true)
    (k_law_same_pairs : PySem.W.keepIn K (.ref a_law_same_pairs) = true)
    (c_law_free_windows : PySem.W.codeIn K cd_law_free_windows "_law_free_windows" = true)
    (k_law_free_windows : PySem.W.keepIn K (.ref a_law_free_windows) = true)
    (c_law_due_years : PySem.W.codeIn K cd_law_due_years "_law_due_years" = true)
    (k_law_due_years : PySem.W.keepIn K (.ref a_law_due_years) = true)
    (c_law_rise : PySem.W.codeIn K cd_law_rise "_law_rise" = true)
    (k_law_rise : PySem.W.keepIn K (.ref a_law_rise) = true)
    (c_law_other_years : PySem.W.codeIn K cd_law_other_years "_law_other_years" = true)
    (k_law_other_years : PySem.W.keepIn K (.ref a_law_other_years) = true)
    (c_law_bad_windows : PySem.W.codeIn K cd_law_bad_windows "_law_bad_windows" = true)
    (k_law_bad_windows : PySem.W.keepIn K (.ref a_law_bad_windows) = true)
    (c_law_refused_windows : PySem.W.codeIn K cd_law_refused_windows "_law_refused_windows" = true)
    (k_law_refused_windows : PySem.W.keepIn K (.ref a_law_refused_windows) = true)
    (c_law_dated : PySem.W.codeIn K cd_law_dated "_law_dated" = true)
    (k_law_dated : PySem.W.keepIn K (.ref a_law_dated) = true)
    (c_law_kept : PySem.W.codeIn K cd_law_kept "_law_kept" = true)
    (k_law_kept : PySem.W.keepIn K (.ref a_law_kept) = true)
    (c_law_dates_right : PySem.W.codeIn K cd_law_dates_right "_law_dates_right" = true)
    (k_law_dates_right : PySem.W.keepIn K (.ref a_law_dates_right) = true)
    (c_law_keeps_right : PySem.W.codeIn K cd_law_keeps_right "_law_keeps_right" = true)
    (k_law_keeps_right : PySem.W.keepIn K (.ref a_law_keeps_right) = true)
    (c_law_lots_right : PySem.W.codeIn K cd_law_lots_right "_law_lots_right" = true)
    (k_law_lots_right : PySem.W.keepIn K (.ref a_law_lots_right) = true)
    (c_law_bad_order : PySem.W.codeIn K cd_law_bad_order "_law_bad_order" = true)
    (k_law_bad_order : PySem.W.keepIn K (.ref a_law_bad_order) = true)
    (c_law_bounds_right : PySem.W.codeIn K cd_law_bounds_right "_law_bounds_right" = true)
    (k_law_bounds_right : PySem.W.keepIn K (.ref a_law_bounds_right) = true)
    (c_law : PySem.W.codeIn K cd_law "law" = true)
    (k_law : PySem.W.keepIn K (.ref a_law) = true)
    (pgcl_Table : PySem.W.plainGet K C_Table Str.empty = true)
    (hdcl_Table : PySem.W.hasDictIn K C_Table = true)
    (pocl_Table : PySem.W.plainOver K C_Table = true)
    (sacl_Table : PySem.W.findIn K (.ref C_Table) "__setattr__" = some (some (.builtin "object.__setattr__")))
    (xsf_Table : PySem.W.selfFirst K C_Table = true)
    (kmk_Table : PySem.W.makesIn K C_Table = true)
    (kkmk_Table : PySem.W.keepIn K (.ref C_Table) = true)
    (xc1_Table : PySem.W.findIn K (.ref C_Table) "__class__" = some (some (.builtin "object.__class__")))
    (xc3_Table : PySem.W.mroIn K C_Table (.type "object") = some true)
    (xn_Table_columns : PySem.W.findIn K (.ref C_Table) "columns" = some none)
    (xn_Table_rows : PySem.W.findIn K (.ref C_Table) "rows" = some none)
    (pgcl_Windows : PySem.W.plainGet K C_Windows Str.empty = true)
    (hdcl_Windows : PySem.W.hasDictIn K C_Windows = true)
    (pocl_Windows : PySem.W.plainOver K C_Windows = true)
    (sacl_Windows : PySem.W.findIn K (.ref C_Windows) "__setattr__" = some (some (.builtin "object.__setattr__")))
    (xsf_Windows : PySem.W.selfFirst K C_Windows = true)
    (kmk_Windows : PySem.W.makesIn K C_Windows = true)
    (kkmk_Windows : PySem.W.keepIn K (.ref C_Windows) = true)
    (xc1_Windows : PySem.W.findIn K (.ref C_Windows) "__class__" = some (some (.builtin "object.__class__")))
    (xc3_Windows : PySem.W.mroIn K C_Windows (.type "object") = some true)
    (xn_Windows_table : PySem.W.findIn K (.ref C_Windows) "table" = some none)
    (xn_Windows_told : PySem.W.findIn K (.ref C_Windows) "told" = some none)
    (xc2 : PySem.W.specialIn K (.builtin "object.__class__") "__get__" = some (some (.builtin "getset_descriptor.__get__")))
    (xc4 : PySem.W.takesIn K (.builtin "object.__class__") = some true)
    (xtp_RowsError : PySem.W.typeIn K (.ref C_RowsError) = some (.type "type"))
    (xic_RowsError : PySem.W.isClsIn K C_RowsError = true)
    (xtp_Unknown : PySem.W.typeIn K (.ref C_Unknown) = some (.type "type"))
    (xic_Unknown : PySem.W.isClsIn K C_Unknown = true)
    (xtp_Impossible : PySem.W.typeIn K (.ref C_Impossible) = some (.type "type"))
    (xic_Impossible : PySem.W.isClsIn K C_Impossible = true)
    (xtp_BadOrder : PySem.W.typeIn K (.ref C_BadOrder) = some (.type "type"))
    (xic_BadOrder : PySem.W.isClsIn K C_BadOrder = true)
    (xtp_NoDates : PySem.W.typeIn K (.ref C_NoDates) = some (.type "type"))
    (xic_NoDates : PySem.W.isClsIn K C_NoDates = true)
    (xtp_BadWindow : PySem.W.typeIn K (.ref C_BadWindow) = some (.type "type"))
    (xic_BadWindow : PySem.W.isClsIn K C_BadWindow = true)
    (g1SC_BadOrder : PySem.W.clsIn K C_BadOrder = some cd_BadOrder)
    (g2SC_BadOrder : PySem.W.mroIn K C_BadOrder (.ref C_BadOrder) = some true)
    (ksSC_BadOrder : PySem.W.ks_superIn K C_BadOrder C_BadOrder "__init__" = some (some (.builtin "ValueError.__init__")))
    (g4SC_BadOrder : PySem.W.nsIn K PySem.cStatics "thirdparty.any" = some none)
    (g5SC_BadOrder : PySem.W.nsIn K mainGlobals "super" = some none)
    (rfSC_BadOrder : (l.prog.main.scope.names.lookup ("super" : Str)).isSome = false)
    (kxSC_BadOrder : PySem.W.excInitIn K C_BadOrder [.type "ValueError", .type "Exception", .type "BaseException", .type "object"] "ValueError.__new__" = true)
    (g6SC_BadOrder : PySem.W.findIn K (.ref C_BadOrder) "__setattr__" = some (some (.builtin "object.__setattr__")))
    (rv_BadOrder_init : vs_BadOrder_init[2]? = some (.str fl_BadOrder_init tf_BadOrder_init))
    (rg_BadOrder_init : ((l.prog.main.file : Str) == fl_BadOrder_init) = true)
    (xti_BadOrder : PySem.W.typeIn K (.ref a_BadOrder_init) = some (.type "function"))
    (xxn_BadOrder_index : PySem.W.findIn K (.ref C_BadOrder) "index" = some none)
    (xk_BadOrder : PySem.W.keepIn K (.ref C_BadOrder) = true)
    (xbp_BadOrder : PySem.W.subIn K (.ref C_BadOrder) (.type "BaseException") = some true)
    (xsv_BadOrder : PySem.W.subIn K (.ref C_BadOrder) (.type "ValueError") = some true)
    (xss_BadOrder : PySem.W.subIn K (.ref C_BadOrder) (.ref C_BadOrder) = some true)
    (xsu_BadOrder_RowsError : PySem.W.subIn K (.ref C_BadOrder) (.ref C_RowsError) = some true)
    (xsu_BadOrder_Unknown : PySem.W.subIn K (.ref C_BadOrder) (.ref C_Unknown) = some false)
    (xsu_BadOrder_Impossible : PySem.W.subIn K (.ref C_BadOrder) (.ref C_Impossible) = some false)
    (xsu_BadOrder_NoDates : PySem.W.subIn K (.ref C_BadOrder) (.ref C_NoDates) = some false)
    (xe1_BadOrder : PySem.W.findIn K (.ref C_BadOrder) "__getattribute__" = some (some (.builtin "BaseException.__getattribute__")))
    (xe2_BadOrder : PySem.W.findIn K (.ref C_BadOrder) "__getattr__" = some none)
    (xe3_BadOrder : PySem.W.hasDictIn K C_BadOrder = true)
    (xe4_BadOrder : PySem.W.findIn K (.ref C_BadOrder) "__class__" = some (some (.builtin "object.__class__")))
    (xe5_BadOrder : PySem.W.mroIn K C_BadOrder (.type "object") = some true)
    (g1SC_NoDates : PySem.W.clsIn K C_NoDates = some cd_NoDates)
    (g2SC_NoDates : PySem.W.mroIn K C_NoDates (.ref C_NoDates) = some true)
    (ksSC_NoDates : PySem.W.ks_superIn K C_NoDates C_NoDates "__init__" = some (some (.builtin "ValueError.__init__")))
    (g4SC_NoDates : PySem.W.nsIn K PySem.cStatics "thirdparty.any" = some none)
    (g5SC_NoDates : PySem.W.nsIn K mainGlobals "super" = some none)
    (rfSC_NoDates : (l.prog.main.scope.names.lookup ("super" : Str)).isSome = false)
    (kxSC_NoDates : PySem.W.excInitIn K C_NoDates [.type "ValueError", .type "Exception", .type "BaseException", .type "object"] "ValueError.__new__" = true)
    (g6SC_NoDates : PySem.W.findIn K (.ref C_NoDates) "__setattr__" = some (some (.builtin "object.__setattr__")))
    (rv_NoDates_init : vs_NoDates_init[2]? = some (.str fl_NoDates_init tf_NoDates_init))
    (rg_NoDates_init : ((l.prog.main.file : Str) == fl_NoDates_init) = true)
    (xti_NoDates : PySem.W.typeIn K (.ref a_NoDates_init) = some (.type "function"))
    (xxn_NoDates_one : PySem.W.findIn K (.ref C_NoDates) "one" = some none)
    (xxn_NoDates_other : PySem.W.findIn K (.ref C_NoDates) "other" = some none)
    (xk_NoDates : PySem.W.keepIn K (.ref C_NoDates) = true)
    (xbp_NoDates : PySem.W.subIn K (.ref C_NoDates) (.type "BaseException") = some true)
    (xsv_NoDates : PySem.W.subIn K (.ref C_NoDates) (.type "ValueError") = some true)
    (xss_NoDates : PySem.W.subIn K (.ref C_NoDates) (.ref C_NoDates) = some true)
    (xsu_NoDates_RowsError : PySem.W.subIn K (.ref C_NoDates) (.ref C_RowsError) = some true)
    (xsu_NoDates_Unknown : PySem.W.subIn K (.ref C_NoDates) (.ref C_Unknown) = some false)
    (xsu_NoDates_Impossible : PySem.W.subIn K (.ref C_NoDates) (.ref C_Impossible) = some true)
    (xe1_NoDates : PySem.W.findIn K (.ref C_NoDates) "__getattribute__" = some (some (.builtin "BaseException.__getattribute__")))
    (xe2_NoDates : PySem.W.findIn K (.ref C_NoDates) "__getattr__" = some none)
    (xe3_NoDates : PySem.W.hasDictIn K C_NoDates = true)
    (xe4_NoDates : PySem.W.findIn K (.ref C_NoDates) "__class__" = some (some (.builtin "object.__class__")))
    (xe5_NoDates : PySem.W.mroIn K C_NoDates (.type "object") = some true)
    (g1SC_BadWindow : PySem.W.clsIn K C_BadWindow = some cd_BadWindow)
    (g2SC_BadWindow : PySem.W.mroIn K C_BadWindow (.ref C_BadWindow) = some true)
    (ksSC_BadWindow : PySem.W.ks_superIn K C_BadWindow C_BadWindow "__init__" = some (some (.builtin "ValueError.__init__")))
    (g4SC_BadWindow : PySem.W.nsIn K PySem.cStatics "thirdparty.any" = some none)
    (g5SC_BadWindow : PySem.W.nsIn K mainGlobals "super" = some none)
    (rfSC_BadWindow : (l.prog.main.scope.names.lookup ("super" : Str)).isSome = false)
    (kxSC_BadWindow : PySem.W.excInitIn K C_BadWindow [.type "ValueError", .type "Exception", .type "BaseException", .type "object"] "ValueError.__new__" = true)
    (g6SC_BadWindow : PySem.W.findIn K (.ref C_BadWindow) "__setattr__" = some (some (.builtin "object.__setattr__")))
    (rv_BadWindow_init : vs_BadWindow_init[2]? = some (.str fl_BadWindow_init tf_BadWindow_init))
    (rg_BadWindow_init : ((l.prog.main.file : Str) == fl_BadWindow_init) = true)
    (xti_BadWindow : PySem.W.typeIn K (.ref a_BadWindow_init) = some (.type "function"))
    (xxn_BadWindow_index : PySem.W.findIn K (.ref C_BadWindow) "index" = some none)
    (xk_BadWindow : PySem.W.keepIn K (.ref C_BadWindow) = true)
    (xbp_BadWindow : PySem.W.subIn K (.ref C_BadWindow) (.type "BaseException") = some true)
    (xsv_BadWindow : PySem.W.subIn K (.ref C_BadWindow) (.type "ValueError") = some true)
    (xss_BadWindow : PySem.W.subIn K (.ref C_BadWindow) (.ref C_BadWindow) = some true)
    (xsu_BadWindow_RowsError : PySem.W.subIn K (.ref C_BadWindow) (.ref C_RowsError) = some true)
    (xsu_BadWindow_Unknown : PySem.W.subIn K (.ref C_BadWindow) (.ref C_Unknown) = some false)
    (xsu_BadWindow_Impossible : PySem.W.subIn K (.ref C_BadWindow) (.ref C_Impossible) = some false)
    (xe1_BadWindow : PySem.W.findIn K (.ref C_BadWindow) "__getattribute__" = some (some (.builtin "BaseException.__getattribute__")))
    (xe2_BadWindow : PySem.W.findIn K (.ref C_BadWindow) "__getattr__" = some none)
    (xe3_BadWindow : PySem.W.hasDictIn K C_BadWindow = true)
    (xe4_BadWindow : PySem.W.findIn K (.ref C_BadWindow) "__class__" = some (some (.builtin "object.__class__")))
    (xe5_BadWindow : PySem.W.mroIn K C_BadWindow (.type "object") = some true)
    (r1cr_Table : PySem.W.readsIn K C_Table (.type "type") = true)
    (r2cr_Table : PySem.W.specialIn K (.ref C_Table) "__getattribute__" = some (some (.builtin "type.__getattribute__")))
    (xcv_Table_MOST_COLUMNS : PySem.W.findCls K (.ref C_Table) (.type "type") "MOST_COLUMNS" = some (.val (.int 12 tk_Table_MOST_COLUMNS)))
    (xcv_Table_MOST_ROWS : PySem.W.findCls K (.ref C_Table) (.type "type") "MOST_ROWS" = some (.val (.int 48 tk_Table_MOST_ROWS)))
    (xn_abs : PySem.W.nsIn K mainGlobals "abs" = some none)
    (xn_int : PySem.W.nsIn K mainGlobals "int" = some none)
    (xn_isinstance : PySem.W.nsIn K mainGlobals "isinstance" = some none)
    (xn_range : PySem.W.nsIn K mainGlobals "range" = some none)
    (xn_len : PySem.W.nsIn K mainGlobals "len" = some none)
    (xn_str : PySem.W.nsIn K mainGlobals "str" = some none)
    (xn_tuple : PySem.W.nsIn K mainGlobals "tuple" = some none)
    (xn_list : PySem.W.nsIn K mainGlobals "list" = some none)
    (xn_ValueError : PySem.W.nsIn K mainGlobals "ValueError" = some none)
    (xn_all : PySem.W.nsIn K mainGlobals "all" = some none)
    (xn_any : PySem.W.nsIn K mainGlobals "any" = some none)
    (xn_min : PySem.W.nsIn K mainGlobals "min" = some none)
    (xn_max : PySem.W.nsIn K mainGlobals "max" = some none)
    (xn_enumerate : PySem.W.nsIn K mainGlobals "enumerate" = some none)
    (xn_bool : PySem.W.nsIn K mainGlobals "bool" = some none)
    (xn_sorted : PySem.W.nsIn K mainGlobals "sorted" = some none)
    : ∃ fd : FuncData, (∀ (s : Shared) (v : Value), BindsTo s fd ⟨[v], []⟩ [("script", v)]) ∧ ∀ base : Heap, K.In base → base.Ns mainGlobals mg → FnOk l.prog w K mg base CX0 20 fa fd ["script"] (spLaw K) := by
  have e := hfa.symm.trans (PySem.W.mg_of X G xmg_law)
  cases e
  have T : Txt l.prog K mg ⟨C_Table, C_Windows, C_RowsError, C_Unknown, C_Impossible, C_BadOrder, C_NoDates, C_BadWindow, a_BadOrder_init, _, a_NoDates_init, _, a_BadWindow_init, _, a_is_name, _, a_first_bad_name, _, a_first_stray, _, a_order_fault, _, a_check_order, _, a_check_columns, _, a_check_rows, _, a_Table_in_order, _, a_Table_init, _, a_Table_has, _, a_Table_eq, _, a_Windows_init, _, a_Windows_forced, _, a_Windows_keeps, _, a_Windows_dates, _, a_law_cell, _, a_law_pool, _, a_law_size, _, a_law_names, _, a_law_order, _, a_law_row, _, a_law_rows, _, a_law_steps, _, a_law_windows, _, a_law_is_number, _, a_law_windows_kept, _, a_law_forced, _, a_law_same_pairs, _, a_law_free_windows, _, a_law_due_years, _, a_law_rise, _, a_law_other_years, _, a_law_bad_windows, _, a_law_refused_windows, _, a_law_dated, _, a_law_kept, _, a_law_dates_right, _, a_law_keeps_right, _, a_law_lots_right, _, a_law_bad_order, _, a_law_bounds_right, _, fa, _, e_Table_init⟩ := {
    mg_Table := PySem.W.mg_of X G xmg_Table
    cl_Table := ⟨pgcl_Table, hdcl_Table, pocl_Table, sacl_Table⟩
    sf_Table := xsf_Table
    mk_Table := ⟨kmk_Table, am_Table_init, if_Table_init, kkmk_Table⟩
    c1_Table := xc1_Table
    c3_Table := xc3_Table
    n_Table_columns := xn_Table_columns
    n_Table_rows := xn_Table_rows
    mg_Windows := PySem.W.mg_of X G xmg_Windows
    cl_Windows := ⟨pgcl_Windows, hdcl_Windows, pocl_Windows, sacl_Windows⟩
    sf_Windows := xsf_Windows
    mk_Windows := ⟨kmk_Windows, am_Windows_init, if_Windows_init, kkmk_Windows⟩
    c1_Windows := xc1_Windows
    c3_Windows := xc3_Windows
    n_Windows_table := xn_Windows_table
    n_Windows_told := xn_Windows_told
    c2 := xc2
    c4 := xc4
    mg_RowsError := PySem.W.mg_of X G xmg_RowsError
    tp_RowsError := xtp_RowsError
    ic_RowsError := xic_RowsError
    mg_Unknown := PySem.W.mg_of X G xmg_Unknown
    tp_Unknown := xtp_Unknown
    ic_Unknown := xic_Unknown
    mg_Impossible := PySem.W.mg_of X G xmg_Impossible
    tp_Impossible := xtp_Impossible
    ic_Impossible := xic_Impossible
    mg_BadOrder := PySem.W.mg_of X G xmg_BadOrder
    tp_BadOrder := xtp_BadOrder
    ic_BadOrder := xic_BadOrder
    mg_NoDates := PySem.W.mg_of X G xmg_NoDates
    tp_NoDates := xtp_NoDates
    ic_NoDates := xic_NoDates
    mg_BadWindow := PySem.W.mg_of X G xmg_BadWindow
    tp_BadWindow := xtp_BadWindow
    ic_BadWindow := xic_BadWindow
    SC_BadOrder := ⟨⟨_, g1SC_BadOrder⟩, g2SC_BadOrder, ksSC_BadOrder, g4SC_BadOrder, xsv_BadOrder, PySem.W.mg_none_of X G g5SC_BadOrder, rfSC_BadOrder, oex_of kxSC_BadOrder xe3_BadOrder g6SC_BadOrder xbp_BadOrder xtp_BadOrder xk_BadOrder⟩
    SF_BadOrder := ⟨⟨_, _, _, _, _, _, _, _, _, _, rfl, l_BadOrder_init, c_BadOrder_init, ⟨_, _, _, _, _, _, lx_BadOrder_init, rv_BadOrder_init, rg_BadOrder_init⟩, _, _, _, lq_BadOrder_init⟩⟩
    ii_BadOrder := am_BadOrder_init
    ti_BadOrder := xti_BadOrder
    b_BadOrder_init := fun s us _ hl => by rw [List.append_nil] at hl ⊢; exact .of_eq (match us, hl with | [_, _], _ => rfl)
    xn_BadOrder_index := xxn_BadOrder_index
    xf_BadOrder := ⟨xe1_BadOrder, xe2_BadOrder, xbp_BadOrder, xe3_BadOrder⟩
    ec_BadOrder := ⟨xe1_BadOrder, xe2_BadOrder, xbp_BadOrder, xe3_BadOrder, xe4_BadOrder, xc2, xc4, xe5_BadOrder⟩
    k_BadOrder := xk_BadOrder
    bp_BadOrder := xbp_BadOrder
    sv_BadOrder := xsv_BadOrder
    ss_BadOrder := xss_BadOrder
    su_BadOrder_RowsError := xsu_BadOrder_RowsError
    su_BadOrder_Unknown := xsu_BadOrder_Unknown
    su_BadOrder_Impossible := xsu_BadOrder_Impossible
    su_BadOrder_NoDates := xsu_BadOrder_NoDates
    e1_BadOrder := xe1_BadOrder
    e2_BadOrder := xe2_BadOrder
    e3_BadOrder := xe3_BadOrder
    e4_BadOrder := xe4_BadOrder
    e5_BadOrder := xe5_BadOrder
    SC_NoDates := ⟨⟨_, g1SC_NoDates⟩, g2SC_NoDates, ksSC_NoDates, g4SC_NoDates, xsv_NoDates, PySem.W.mg_none_of X G g5SC_NoDates, rfSC_NoDates, oex_of kxSC_NoDates xe3_NoDates g6SC_NoDates xbp_NoDates xtp_NoDates xk_NoDates⟩
    SF_NoDates := ⟨⟨_, _, _, _, _, _, _, _, _, _, rfl, l_NoDates_init, c_NoDates_init, ⟨_, _, _, _, _, _, lx_NoDates_init, rv_NoDates_init, rg_NoDates_init⟩, _, _, _, lq_NoDates_init⟩⟩
    ii_NoDates := am_NoDates_init
    ti_NoDates := xti_NoDates
    b_NoDates_init := fun s us _ hl => by rw [List.append_nil] at hl ⊢; exact .of_eq (match us, hl with | [_, _, _], _ => rfl)
    xn_NoDates_one := xxn_NoDates_one
    xn_NoDates_other := xxn_NoDates_other
    xf_NoDates := ⟨xe1_NoDates, xe2_NoDates, xbp_NoDates, xe3_NoDates⟩
    ec_NoDates := ⟨xe1_NoDates, xe2_NoDates, xbp_NoDates, xe3_NoDates, xe4_NoDates, xc2, xc4, xe5_NoDates⟩
    k_NoDates := xk_NoDates
    bp_NoDates := xbp_NoDates
    sv_NoDates := xsv_NoDates
    ss_NoDates := xss_NoDates
    su_NoDates_RowsError := xsu_NoDates_RowsError
    su_NoDates_Unknown := xsu_NoDates_Unknown
    su_NoDates_Impossible := xsu_NoDates_Impossible
    e1_NoDates := xe1_NoDates
    e2_NoDates := xe2_NoDates
    e3_NoDates := xe3_NoDates
    e4_NoDates := xe4_NoDates
    e5_NoDates := xe5_NoDates
    SC_BadWindow := ⟨⟨_, g1SC_BadWindow⟩, g2SC_BadWindow, ksSC_BadWindow, g4SC_BadWindow, xsv_BadWindow, PySem.W.mg_none_of X G g5SC_BadWindow, rfSC_BadWindow, oex_of kxSC_BadWindow xe3_BadWindow g6SC_BadWindow xbp_BadWindow xtp_BadWindow xk_BadWindow⟩
    SF_BadWindow := ⟨⟨_, _, _, _, _, _, _, _, _, _, rfl, l_BadWindow_init, c_BadWindow_init, ⟨_, _, _, _, _, _, lx_BadWindow_init, rv_BadWindow_init, rg_BadWindow_init⟩, _, _, _, lq_BadWindow_init⟩⟩
    ii_BadWindow := am_BadWindow_init
    ti_BadWindow := xti_BadWindow
    b_BadWindow_init := fun s us _ hl => by rw [List.append_nil] at hl ⊢; exact .of_eq (match us, hl with | [_, _], _ => rfl)
    xn_BadWindow_index := xxn_BadWindow_index
    xf_BadWindow := ⟨xe1_BadWindow, xe2_BadWindow, xbp_BadWindow, xe3_BadWindow⟩
    ec_BadWindow := ⟨xe1_BadWindow, xe2_BadWindow, xbp_BadWindow, xe3_BadWindow, xe4_BadWindow, xc2, xc4, xe5_BadWindow⟩
    k_BadWindow := xk_BadWindow
    bp_BadWindow := xbp_BadWindow
    sv_BadWindow := xsv_BadWindow
    ss_BadWindow := xss_BadWindow
    su_BadWindow_RowsError := xsu_BadWindow_RowsError
    su_BadWindow_Unknown := xsu_BadWindow_Unknown
    su_BadWindow_Impossible := xsu_BadWindow_Impossible
    e1_BadWindow := xe1_BadWindow
    e2_BadWindow := xe2_BadWindow
    e3_BadWindow := xe3_BadWindow
    e4_BadWindow := xe4_BadWindow
    e5_BadWindow := xe5_BadWindow
    mg_LONGEST_NAME := ⟨_, PySem.W.mg_of X G xmg_LONGEST_NAME⟩
    mg_MOST_YEAR := ⟨_, PySem.W.mg_of X G xmg_MOST_YEAR⟩
    cr_Table := ⟨r1cr_Table, r2cr_Table⟩
    cv_Table_MOST_COLUMNS := ⟨_, ⟨xcv_Table_MOST_COLUMNS, ⟨_, rfl⟩⟩⟩
    cv_Table_MOST_ROWS := ⟨_, ⟨xcv_Table_MOST_ROWS, ⟨_, rfl⟩⟩⟩
    n_abs := PySem.W.mg_none_of X G xn_abs
    n_int := PySem.W.mg_none_of X G xn_int
    n_isinstance := PySem.W.mg_none_of X G xn_isinstance
    n_range := PySem.W.mg_none_of X G xn_range
    n_len := PySem.W.mg_none_of X G xn_len
    n_str := PySem.W.mg_none_of X G xn_str
    n_tuple := PySem.W.mg_none_of X G xn_tuple
    n_list := PySem.W.mg_none_of X G xn_list
    n_ValueError := PySem.W.mg_none_of X G xn_ValueError
    n_all := PySem.W.mg_none_of X G xn_all
    n_any := PySem.W.mg_none_of X G xn_any
    n_min := PySem.W.mg_none_of X G xn_min
    n_max := PySem.W.mg_none_of X G xn_max
    n_enumerate := PySem.W.mg_none_of X G xn_enumerate
    n_bool := PySem.W.mg_none_of X G xn_bool
    n_sorted := PySem.W.mg_none_of X G xn_sorted
    F_is_name := fun_mk (st := s_is_name) l_is_name c_is_name k_is_name
    b_is_name := (fun_mk (st := s_is_name) l_is_name c_is_name k_is_name).binds fun _ _ _ _ _ _ us hl => match us, hl with | [_], _ => rfl
    mg_is_name := PySem.W.mg_of X G xmg_is_name
    F_first_bad_name := fun_mk (st := s_first_bad_name) l_first_bad_name c_first_bad_name k_first_bad_name
    b_first_bad_name := (fun_mk (st := s_first_bad_name) l_first_bad_name c_first_bad_name k_first_bad_name).binds fun _ _ _ _ _ _ us hl => match us, hl with | [_], _ => rfl
    mg_first_bad_name := PySem.W.mg_of X G xmg_first_bad_name
    F_first_stray := fun_mk (st := s_first_stray) l_first_stray c_first_stray k_first_stray
    b_first_stray := (fun_mk (st := s_first_stray) l_first_stray c_first_stray k_first_stray).binds fun _ _ _ _ _ _ us hl => match us, hl with | [_, _], _ => rfl
    mg_first_stray := PySem.W.mg_of X G xmg_first_stray
    F_order_fault := fun_mk (st := s_order_fault) l_order_fault c_order_fault k_order_fault
    b_order_fault := (fun_mk (st := s_order_fault) l_order_fault c_order_fault k_order_fault).binds fun _ _ _ _ _ _ us hl => match us, hl with | [_, _], _ => rfl
    mg_order_fault := PySem.W.mg_of X G xmg_order_fault
    F_check_order := fun_mk (st := s_check_order) l_check_order c_check_order k_check_order
    b_check_order := (fun_mk (st := s_check_order) l_check_order c_check_order k_check_order).binds fun _ _ _ _ _ _ us hl => match us, hl with | [_, _], _ => rfl
    mg_check_order := PySem.W.mg_of X G xmg_check_order
    F_check_columns := fun_mk (st := s_check_columns) l_check_columns c_check_columns k_check_columns
    b_check_columns := (fun_mk (st := s_check_columns) l_check_columns c_check_columns k_check_columns).binds fun _ _ _ _ _ _ us hl => match us, hl with | [_], _ => rfl
    mg_check_columns := PySem.W.mg_of X G xmg_check_columns
    F_check_rows := fun_mk (st := s_check_rows) l_check_rows c_check_rows k_check_rows
    b_check_rows := (fun_mk (st := s_check_rows) l_check_rows c_check_rows k_check_rows).binds fun _ _ _ _ _ _ us hl => match us, hl with | [_, _], _ => rfl
    mg_check_rows := PySem.W.mg_of X G xmg_check_rows
    F_Table_in_order := fun_mk (st := s_Table_in_order) l_Table_in_order c_Table_in_order k_Table_in_order
    b_Table_in_order := (fun_mk (st := s_Table_in_order) l_Table_in_order c_Table_in_order k_Table_in_order).binds fun _ _ _ _ _ _ us hl => match us, hl with | [_, _], _ => rfl
    m_Table_in_order := ⟨am_Table_in_order, if_Table_in_order, k_Table_in_order⟩
    F_Table_init := ⟨⟨_, _, _, _, _, _, _, _, _, _, rfl, l_Table_init, c_Table_init, .inr ⟨by simp, TD_Table_init, _, [.ref e_Table_init], _, rfl, lt_Table_init, rfl, .cons rfl .nil⟩, .inl rfl⟩, k_Table_init⟩
    m_Table_init := ⟨am_Table_init, if_Table_init, k_Table_init⟩
    F_Table_has := fun_mk (st := s_Table_has) l_Table_has c_Table_has k_Table_has
    b_Table_has := (fun_mk (st := s_Table_has) l_Table_has c_Table_has k_Table_has).binds fun _ _ _ _ _ _ us hl => match us, hl with | [_, _], _ => rfl
    m_Table_has := ⟨am_Table_has, if_Table_has, k_Table_has⟩
    F_Table_eq := fun_mk (st := s_Table_eq) l_Table_eq c_Table_eq k_Table_eq
    b_Table_eq := (fun_mk (st := s_Table_eq) l_Table_eq c_Table_eq k_Table_eq).binds fun _ _ _ _ _ _ us hl => match us, hl with | [_, _], _ => rfl
    m_Table_eq := ⟨am_Table_eq, if_Table_eq, k_Table_eq⟩
    F_Windows_init := fun_mk (st := s_Windows_init) l_Windows_init c_Windows_init k_Windows_init
    b_Windows_init := (fun_mk (st := s_Windows_init) l_Windows_init c_Windows_init k_Windows_init).binds fun _ _ _ _ _ _ us hl => match us, hl with | [_, _, _], _ => rfl
    m_Windows_init := ⟨am_Windows_init, if_Windows_init, k_Windows_init⟩
    F_Windows_forced := fun_mk (st := s_Windows_forced) l_Windows_forced c_Windows_forced k_Windows_forced
    b_Windows_forced := (fun_mk (st := s_Windows_forced) l_Windows_forced c_Windows_forced k_Windows_forced).binds fun _ _ _ _ _ _ us hl => match us, hl with | [_], _ => rfl
    m_Windows_forced := ⟨am_Windows_forced, if_Windows_forced, k_Windows_forced⟩
    F_Windows_keeps := fun_mk (st := s_Windows_keeps) l_Windows_keeps c_Windows_keeps k_Windows_keeps
    b_Windows_keeps := (fun_mk (st := s_Windows_keeps) l_Windows_keeps c_Windows_keeps k_Windows_keeps).binds fun _ _ _ _ _ _ us hl => match us, hl with | [_, _, _], _ => rfl
    m_Windows_keeps := ⟨am_Windows_keeps, if_Windows_keeps, k_Windows_keeps⟩
    F_Windows_dates := fun_mk (st := s_Windows_dates) l_Windows_dates c_Windows_dates k_Windows_dates
    b_Windows_dates := (fun_mk (st := s_Windows_dates) l_Windows_dates c_Windows_dates k_Windows_dates).binds fun _ _ _ _ _ _ us hl => match us, hl with | [_, _], _ => rfl
    m_Windows_dates := ⟨am_Windows_dates, if_Windows_dates, k_Windows_dates⟩
    F_law_cell := fun_mk (st := s_law_cell) l_law_cell c_law_cell k_law_cell
    b_law_cell := (fun_mk (st := s_law_cell) l_law_cell c_law_cell k_law_cell).binds fun _ _ _ _ _ _ us hl => match us, hl with | [_, _], _ => rfl
    mg_law_cell := PySem.W.mg_of X G xmg_law_cell
    F_law_pool := fun_mk (st := s_law_pool) l_law_pool c_law_pool k_law_pool
    b_law_pool := (fun_mk (st := s_law_pool) l_law_pool c_law_pool k_law_pool).binds fun _ _ _ _ _ _ us hl => match us, hl with | [_, _, _], _ => rfl
    mg_law_pool := PySem.W.mg_of X G xmg_law_pool
    F_law_size := fun_mk (st := s_law_size) l_law_size c_law_size k_law_size
    b_law_size := (fun_mk (st := s_law_size) l_law_size c_law_size k_law_size).binds fun _ _ _ _ _ _ us hl => match us, hl with | [_, _], _ => rfl
    mg_law_size := PySem.W.mg_of X G xmg_law_size
    F_law_names := fun_mk (st := s_law_names) l_law_names c_law_names k_law_names
    b_law_names := (fun_mk (st := s_law_names) l_law_names c_law_names k_law_names).binds fun _ _ _ _ _ _ us hl => match us, hl with | [_, _], _ => rfl
    mg_law_names := PySem.W.mg_of X G xmg_law_names
    F_law_order := fun_mk (st := s_law_order) l_law_order c_law_order k_law_order
    b_law_order := (fun_mk (st := s_law_order) l_law_order c_law_order k_law_order).binds fun _ _ _ _ _ _ us hl => match us, hl with | [_, _, _], _ => rfl
    mg_law_order := PySem.W.mg_of X G xmg_law_order
    F_law_row := fun_mk (st := s_law_row) l_law_row c_law_row k_law_row
    b_law_row := (fun_mk (st := s_law_row) l_law_row c_law_row k_law_row).binds fun _ _ _ _ _ _ us hl => match us, hl with | [_, _, _, _], _ => rfl
    mg_law_row := PySem.W.mg_of X G xmg_law_row
    F_law_rows := fun_mk (st := s_law_rows) l_law_rows c_law_rows k_law_rows
    b_law_rows := (fun_mk (st := s_law_rows) l_law_rows c_law_rows k_law_rows).binds fun _ _ _ _ _ _ us hl => match us, hl with | [_, _, _, _, _, _], _ => rfl
    mg_law_rows := PySem.W.mg_of X G xmg_law_rows
    F_law_steps := fun_mk (st := s_law_steps) l_law_steps c_law_steps k_law_steps
    b_law_steps := (fun_mk (st := s_law_steps) l_law_steps c_law_steps k_law_steps).binds fun _ _ _ _ _ _ us hl => match us, hl with | [_, _, _], _ => rfl
    mg_law_steps := PySem.W.mg_of X G xmg_law_steps
    F_law_windows := fun_mk (st := s_law_windows) l_law_windows c_law_windows k_law_windows
    b_law_windows := (fun_mk (st := s_law_windows) l_law_windows c_law_windows k_law_windows).binds fun _ _ _ _ _ _ us hl => match us, hl with | [_, _, _, _, _], _ => rfl
    mg_law_windows := PySem.W.mg_of X G xmg_law_windows
    F_law_is_number := fun_mk (st := s_law_is_number) l_law_is_number c_law_is_number k_law_is_number
    b_law_is_number := (fun_mk (st := s_law_is_number) l_law_is_number c_law_is_number k_law_is_number).binds fun _ _ _ _ _ _ us hl => match us, hl with | [_, _, _], _ => rfl
    mg_law_is_number := PySem.W.mg_of X G xmg_law_is_number
    F_law_windows_kept := fun_mk (st := s_law_windows_kept) l_law_windows_kept c_law_windows_kept k_law_windows_kept
    b_law_windows_kept := (fun_mk (st := s_law_windows_kept) l_law_windows_kept c_law_windows_kept k_law_windows_kept).binds fun _ _ _ _ _ _ us hl => match us, hl with | [_, _, _], _ => rfl
    mg_law_windows_kept := PySem.W.mg_of X G xmg_law_windows_kept
    F_law_forced := fun_mk (st := s_law_forced) l_law_forced c_law_forced k_law_forced
    b_law_forced := (fun_mk (st := s_law_forced) l_law_forced c_law_forced k_law_forced).binds fun _ _ _ _ _ _ us hl => match us, hl with | [_, _], _ => rfl
    mg_law_forced := PySem.W.mg_of X G xmg_law_forced
    F_law_same_pairs := fun_mk (st := s_law_same_pairs) l_law_same_pairs c_law_same_pairs k_law_same_pairs
    b_law_same_pairs := (fun_mk (st := s_law_same_pairs) l_law_same_pairs c_law_same_pairs k_law_same_pairs).binds fun _ _ _ _ _ _ us hl => match us, hl with | [_, _], _ => rfl
    mg_law_same_pairs := PySem.W.mg_of X G xmg_law_same_pairs
    F_law_free_windows := fun_mk (st := s_law_free_windows) l_law_free_windows c_law_free_windows k_law_free_windows
    b_law_free_windows := (fun_mk (st := s_law_free_windows) l_law_free_windows c_law_free_windows k_law_free_windows).binds fun _ _ _ _ _ _ us hl => match us, hl with | [_, _, _], _ => rfl
    mg_law_free_windows := PySem.W.mg_of X G xmg_law_free_windows
    F_law_due_years := fun_mk (st := s_law_due_years) l_law_due_years c_law_due_years k_law_due_years
    b_law_due_years := (fun_mk (st := s_law_due_years) l_law_due_years c_law_due_years k_law_due_years).binds fun _ _ _ _ _ _ us hl => match us, hl with | [_, _], _ => rfl
    mg_law_due_years := PySem.W.mg_of X G xmg_law_due_years
    F_law_rise := fun_mk (st := s_law_rise) l_law_rise c_law_rise k_law_rise
    b_law_rise := (fun_mk (st := s_law_rise) l_law_rise c_law_rise k_law_rise).binds fun _ _ _ _ _ _ us hl => match us, hl with | [_], _ => rfl
    mg_law_rise := PySem.W.mg_of X G xmg_law_rise
    F_law_other_years := fun_mk (st := s_law_other_years) l_law_other_years c_law_other_years k_law_other_years
    b_law_other_years := (fun_mk (st := s_law_other_years) l_law_other_years c_law_other_years k_law_other_years).binds fun _ _ _ _ _ _ us hl => match us, hl with | [_, _], _ => rfl
    mg_law_other_years := PySem.W.mg_of X G xmg_law_other_years
    F_law_bad_windows := fun_mk (st := s_law_bad_windows) l_law_bad_windows c_law_bad_windows k_law_bad_windows
    b_law_bad_windows := (fun_mk (st := s_law_bad_windows) l_law_bad_windows c_law_bad_windows k_law_bad_windows).binds fun _ _ _ _ _ _ us hl => match us, hl with | [_, _, _], _ => rfl
    mg_law_bad_windows := PySem.W.mg_of X G xmg_law_bad_windows
    F_law_refused_windows := fun_mk (st := s_law_refused_windows) l_law_refused_windows c_law_refused_windows k_law_refused_windows
    b_law_refused_windows := (fun_mk (st := s_law_refused_windows) l_law_refused_windows c_law_refused_windows k_law_refused_windows).binds fun _ _ _ _ _ _ us hl => match us, hl with | [_, _], _ => rfl
    mg_law_refused_windows := PySem.W.mg_of X G xmg_law_refused_windows
    F_law_dated := fun_mk (st := s_law_dated) l_law_dated c_law_dated k_law_dated
    b_law_dated := (fun_mk (st := s_law_dated) l_law_dated c_law_dated k_law_dated).binds fun _ _ _ _ _ _ us hl => match us, hl with | [_, _], _ => rfl
    mg_law_dated := PySem.W.mg_of X G xmg_law_dated
    F_law_kept := fun_mk (st := s_law_kept) l_law_kept c_law_kept k_law_kept
    b_law_kept := (fun_mk (st := s_law_kept) l_law_kept c_law_kept k_law_kept).binds fun _ _ _ _ _ _ us hl => match us, hl with | [_, _, _], _ => rfl
    mg_law_kept := PySem.W.mg_of X G xmg_law_kept
    F_law_dates_right := fun_mk (st := s_law_dates_right) l_law_dates_right c_law_dates_right k_law_dates_right
    b_law_dates_right := (fun_mk (st := s_law_dates_right) l_law_dates_right c_law_dates_right k_law_dates_right).binds fun _ _ _ _ _ _ us hl => match us, hl with | [_, _, _, _], _ => rfl
    mg_law_dates_right := PySem.W.mg_of X G xmg_law_dates_right
    F_law_keeps_right := fun_mk (st := s_law_keeps_right) l_law_keeps_right c_law_keeps_right k_law_keeps_right
    b_law_keeps_right := (fun_mk (st := s_law_keeps_right) l_law_keeps_right c_law_keeps_right k_law_keeps_right).binds fun _ _ _ _ _ _ us hl => match us, hl with | [_, _, _, _], _ => rfl
    mg_law_keeps_right := PySem.W.mg_of X G xmg_law_keeps_right
    F_law_lots_right := fun_mk (st := s_law_lots_right) l_law_lots_right c_law_lots_right k_law_lots_right
    b_law_lots_right := (fun_mk (st := s_law_lots_right) l_law_lots_right c_law_lots_right k_law_lots_right).binds fun _ _ _ _ _ _ us hl => match us, hl with | [_, _, _, _, _], _ => rfl
    mg_law_lots_right := PySem.W.mg_of X G xmg_law_lots_right
    F_law_bad_order := fun_mk (st := s_law_bad_order) l_law_bad_order c_law_bad_order k_law_bad_order
    b_law_bad_order := (fun_mk (st := s_law_bad_order) l_law_bad_order c_law_bad_order k_law_bad_order).binds fun _ _ _ _ _ _ us hl => match us, hl with | [_, _, _], _ => rfl
    mg_law_bad_order := PySem.W.mg_of X G xmg_law_bad_order
    F_law_bounds_right := fun_mk (st := s_law_bounds_right) l_law_bounds_right c_law_bounds_right k_law_bounds_right
    b_law_bounds_right := (fun_mk (st := s_law_bounds_right) l_law_bounds_right c_law_bounds_right k_law_bounds_right).binds fun _ _ _ _ _ _ us hl => match us, hl with | [_, _, _], _ => rfl
    mg_law_bounds_right := PySem.W.mg_of X G xmg_law_bounds_right
    F_law := fun_mk (st := s_law) l_law c_law k_law
    b_law := (fun_mk (st := s_law) l_law c_law k_law).binds fun _ _ _ _ _ _ us hl => match us, hl with | [_], _ => rfl
    mg_law := PySem.W.mg_of X G xmg_law
  }
  exact ⟨_, fun s v => .of_eq rfl, fun base _ _ => ok_law T⟩
theorem walk {l : PySem.W.OpenLaw} {q : Program} {loose : List Str} {XP : (Str → Option Value) → Heap → Prop} {YP : World → Heap → Prop} {d : DefRec} {K : Params → PySem.W.Frag} (hn : l.most = some 63) (hdf : d.params.defaults = [])
    (hY : ∀ (w : World) (h : Heap), YP w h → (K w.params).In h)
    (F : ∀ (w : World) (mg : Str → Option Value) (fa : Addr) (h : Heap), (K w.params).In h → h.Ns mainGlobals mg → mg d.name = some (.ref fa) →
      ∃ fd : FuncData, (∀ (s : Shared) (u : Value), BindsTo s fd ⟨[u], []⟩ [("script", u)]) ∧ ∀ base : Heap, (K w.params).In base → base.Ns mainGlobals mg → FnOk l.prog w (K w.params) mg base CX0 20 fa fd ["script"] (spLaw (K w.params))) :
    PySem.W.WalkO q loose XP YP l.row.toRowW d [] (fun f vs => PySem.call f vs) :=
  L2.walk_of (n := 63) (k := 20) (x := "script") (CX := fun _ => CX0) (sp := fun w => spLaw (K w.params)) hn (by decide) hdf ⟨rfl, by decide, by decide⟩ hY F (fun _ _ a ns hl _ hS => ⟨a, ns, rfl, hS, hl, fun _ => rfl⟩) fun _ _ _ _ _ z => z
end My
open PySem PySem.W PyProof.Rows
set_option maxRecDepth 100000 in
set_option maxHeartbeats 0 in
theorem PySem.Challenge.cw_unbrokenrows_k32_windows_along_orders_holds : PySem.Challenge.rw_unbrokenrows_k32_windows_along_orders.Holds := by
  w_on; o_law; k_head; (case hw => w_witness2)
  k_fill
  refine My.walk (l := PySem.Challenge.rw_unbrokenrows_k32_windows_along_orders) rfl rfl (fun w h Y => PySem.W.kIn_of Y) ?F
  case F =>
    intro w mg fa h KX G hmg
    refine' My.all_mk KX G hmg ?xmg_Table ?xmg_Windows ?xmg_RowsError ?xmg_Unknown ?xmg_Impossible ?xmg_BadOrder ?xmg_NoDates ?xmg_BadWindow ?am_BadOrder_init ?am_NoDates_init ?am_BadWindow_init ?xmg_LONGEST_NAME ?xmg_MOST_YEAR ?xmg_is_name ?xmg_first_bad_name ?xmg_first_stray ?xmg_order_fault ?xmg_check_order ?xmg_check_columns ?xmg_check_rows ?am_Table_in_order ?am_Table_init ?am_Table_has ?am_Table_eq ?am_Windows_init ?am_Windows_forced ?am_Windows_keeps ?am_Windows_dates ?xmg_law_cell ?xmg_law_pool ?xmg_law_size ?xmg_law_names ?xmg_law_order ?xmg_law_row ?xmg_law_rows ?xmg_law_steps ?xmg_law_windows ?xmg_law_is_number ?xmg_law_windows_kept ?xmg_law_forced ?xmg_law_same_pairs ?xmg_law_free_windows ?xmg_law_due_years ?xmg_law_rise ?xmg_law_other_years ?xmg_law_bad_windows ?xmg_law_refused_windows ?xmg_law_dated ?xmg_law_kept ?xmg_law_dates_right ?xmg_law_keeps_right ?xmg_law_lots_right ?xmg_law_bad_order ?xmg_law_bounds_right ?xmg_law ?if_Table_in_order ?if_Table_init ?if_Table_has ?if_Table_eq ?if_Windows_init ?if_Windows_forced ?if_Windows_keeps ?if_Windows_dates ?l_BadOrder_init ?l_NoDates_init ?l_BadWindow_init ?l_is_name ?l_first_bad_name ?l_first_stray ?l_order_fault ?l_check_order ?l_check_columns ?l_check_rows ?l_Table_in_order ?l_Table_init ?l_Table_has ?l_Table_eq ?l_Windows_init ?l_Windows_forced ?l_Windows_keeps ?l_Windows_dates ?l_law_cell ?l_law_pool ?l_law_size ?l_law_names ?l_law_order ?l_law_row ?l_law_rows ?l_law_steps ?l_law_windows ?l_law_is_number ?l_law_windows_kept ?l_law_forced ?l_law_same_pairs ?l_law_free_windows ?l_law_due_years ?l_law_rise ?l_law_other_years ?l_law_bad_windows ?l_law_refused_windows ?l_law_dated ?l_law_kept ?l_law_dates_right ?l_law_keeps_right ?l_law_lots_right ?l_law_bad_order ?l_law_bounds_right ?l_law ?lx_BadOrder_init ?lq_BadOrder_init ?lx_NoDates_init ?lq_NoDates_init ?lx_BadWindow_init ?lq_BadWindow_init ?c_BadOrder_init ?c_NoDates_init ?c_BadWindow_init ?c_is_name ?k_is_name ?c_first_bad_name ?k_first_bad_name ?c_first_stray ?k_first_stray ?c_order_fault ?k_order_fault ?c_check_order ?k_check_order ?c_check_columns ?k_check_columns ?c_check_rows ?k_check_rows ?c_Table_in_order ?k_Table_in_order ?c_Table_init ?k_Table_init ?lt_Table_init ?c_Table_has ?k_Table_has ?c_Table_eq ?k_Table_eq ?c_Windows_init ?k_Windows_init ?c_Windows_forced ?k_Windows_forced ?c_Windows_keeps ?k_Windows_keeps ?c_Windows_dates ?k_Windows_dates ?c_law_cell ?k_law_cell ?c_law_pool ?k_law_pool ?c_law_size ?k_law_size ?c_law_names ?k_law_names ?c_law_order ?k_law_order ?c_law_row ?k_law_row ?c_law_rows ?k_law_rows ?c_law_steps ?k_law_steps ?c_law_windows ?k_law_windows ?c_law_is_number ?k_law_is_number ?c_law_windows_kept ?k_law_windows_kept ?c_law_forced ?k_law_forced ?c_law_same_pairs ?k_law_same_pairs ?c_law_free_windows ?k_law_free_windows ?c_law_due_years ?k_law_due_years ?c_law_rise ?k_law_rise ?c_law_other_years ?k_law_other_years ?c_law_bad_windows ?k_law_bad_windows ?c_law_refused_windows ?k_law_refused_windows ?c_law_dated ?k_law_dated ?c_law_kept ?k_law_kept ?c_law_dates_right ?k_law_dates_right ?c_law_keeps_right ?k_law_keeps_right ?c_law_lots_right ?k_law_lots_right ?c_law_bad_order ?k_law_bad_order ?c_law_bounds_right ?k_law_bounds_right ?c_law ?k_law ?pgcl_Table ?hdcl_Table ?pocl_Table ?sacl_Table ?xsf_Table ?kmk_Table ?kkmk_Table ?xc1_Table ?xc3_Table ?xn_Table_columns ?xn_Table_rows ?pgcl_Windows ?hdcl_Windows ?pocl_Windows ?sacl_Windows ?xsf_Windows ?kmk_Windows ?kkmk_Windows ?xc1_Windows ?xc3_Windows ?xn_Windows_table ?xn_Windows_told ?xc2 ?xc4 ?xtp_RowsError ?xic_RowsError ?xtp_Unknown ?xic_Unknown ?xtp_Impossible ?xic_Impossible ?xtp_BadOrder ?xic_BadOrder ?xtp_NoDates ?xic_NoDates ?xtp_BadWindow ?xic_BadWindow ?g1SC_BadOrder ?g2SC_BadOrder ?ksSC_BadOrder ?g4SC_BadOrder ?g5SC_BadOrder ?rfSC_BadOrder ?kxSC_BadOrder ?g6SC_BadOrder ?rv_BadOrder_init ?rg_BadOrder_init ?xti_BadOrder ?xxn_BadOrder_index ?xk_BadOrder ?xbp_BadOrder ?xsv_BadOrder ?xss_BadOrder ?xsu_BadOrder_RowsError ?xsu_BadOrder_Unknown ?xsu_BadOrder_Impossible ?xsu_BadOrder_NoDates ?xe1_BadOrder ?xe2_BadOrder ?xe3_BadOrder ?xe4_BadOrder ?xe5_BadOrder ?g1SC_NoDates ?g2SC_NoDates ?ksSC_NoDates ?g4SC_NoDates ?g5SC_NoDates ?rfSC_NoDates ?kxSC_NoDates ?g6SC_NoDates ?rv_NoDates_init ?rg_NoDates_init ?xti_NoDates ?xxn_NoDates_one ?xxn_NoDates_other ?xk_NoDates ?xbp_NoDates ?xsv_NoDates ?xss_NoDates ?xsu_NoDates_RowsError ?xsu_NoDates_Unknown ?xsu_NoDates_Impossible ?xe1_NoDates ?xe2_NoDates ?xe3_NoDates ?xe4_NoDates ?xe5_NoDates ?g1SC_BadWindow ?g2SC_BadWindow ?ksSC_BadWindow ?g4SC_BadWindow ?g5SC_BadWindow ?rfSC_BadWindow ?kxSC_BadWindow ?g6SC_BadWindow ?rv_BadWindow_init ?rg_BadWindow_init ?xti_BadWindow ?xxn_BadWindow_index ?xk_BadWindow ?xbp_BadWindow ?xsv_BadWindow ?xss_BadWindow ?xsu_BadWindow_RowsError ?xsu_BadWindow_Unknown ?xsu_BadWindow_Impossible ?xe1_BadWindow ?xe2_BadWindow ?xe3_BadWindow ?xe4_BadWindow ?xe5_BadWindow ?r1cr_Table ?r2cr_Table ?xcv_Table_MOST_COLUMNS ?xcv_Table_MOST_ROWS ?xn_abs ?xn_int ?xn_isinstance ?xn_range ?xn_len ?xn_str ?xn_tuple ?xn_list ?xn_ValueError ?xn_all ?xn_any ?xn_min ?xn_max ?xn_enumerate ?xn_bool ?xn_sorted
    (case xmg_Table => k_is)
    (case xmg_Windows => k_is)
    (case xmg_RowsError => k_is)
    (case xmg_Unknown => k_is)
    (case xmg_Impossible => k_is)
    (case xmg_BadOrder => k_is)
    (case xmg_NoDates => k_is)
    (case xmg_BadWindow => k_is)
    (case am_BadOrder_init => k_is)
    (case am_NoDates_init => k_is)
    (case am_BadWindow_init => k_is)
    (case xmg_LONGEST_NAME => k_is)
    (case xmg_MOST_YEAR => k_is)
    (case xmg_is_name => k_is)
    (case xmg_first_bad_name => k_is)
    (case xmg_first_stray => k_is)
    (case xmg_order_fault => k_is)
    (case xmg_check_order => k_is)
    (case xmg_check_columns => k_is)
    (case xmg_check_rows => k_is)
    (case am_Table_in_order => k_is)
    (case am_Table_init => k_is)
    (case am_Table_has => k_is)
    (case am_Table_eq => k_is)
    (case am_Windows_init => k_is)
    (case am_Windows_forced => k_is)
    (case am_Windows_keeps => k_is)
    (case am_Windows_dates => k_is)
    (case xmg_law_cell => k_is)
    (case xmg_law_pool => k_is)
    (case xmg_law_size => k_is)
    (case xmg_law_names => k_is)
    (case xmg_law_order => k_is)
    (case xmg_law_row => k_is)
    (case xmg_law_rows => k_is)
    (case xmg_law_steps => k_is)
    (case xmg_law_windows => k_is)
    (case xmg_law_is_number => k_is)
    (case xmg_law_windows_kept => k_is)
    (case xmg_law_forced => k_is)
    (case xmg_law_same_pairs => k_is)
    (case xmg_law_free_windows => k_is)
    (case xmg_law_due_years => k_is)
    (case xmg_law_rise => k_is)
    (case xmg_law_other_years => k_is)
    (case xmg_law_bad_windows => k_is)
    (case xmg_law_refused_windows => k_is)
    (case xmg_law_dated => k_is)
    (case xmg_law_kept => k_is)
    (case xmg_law_dates_right => k_is)
    (case xmg_law_keeps_right => k_is)
    (case xmg_law_lots_right => k_is)
    (case xmg_law_bad_order => k_is)
    (case xmg_law_bounds_right => k_is)
    (case xmg_law => k_is)
    (case if_Table_in_order => k_is)
    (case if_Table_init => k_is)
    (case if_Table_has => k_is)
    (case if_Table_eq => k_is)
    (case if_Windows_init => k_is)
    (case if_Windows_forced => k_is)
    (case if_Windows_keeps => k_is)
    (case if_Windows_dates => k_is)
    (case l_BadOrder_init => k_is)
    (case l_NoDates_init => k_is)
    (case l_BadWindow_init => k_is)
    (case l_is_name => k_is)
    (case l_first_bad_name => k_is)
    (case l_first_stray => k_is)
    (case l_order_fault => k_is)
    (case l_check_order => k_is)
    (case l_check_columns => k_is)
    (case l_check_rows => k_is)
    (case l_Table_in_order => k_is)
    (case l_Table_init => k_is)
    (case l_Table_has => k_is)
    (case l_Table_eq => k_is)
    (case l_Windows_init => k_is)
    (case l_Windows_forced => k_is)
    (case l_Windows_keeps => k_is)
    (case l_Windows_dates => k_is)
    (case l_law_cell => k_is)
    (case l_law_pool => k_is)
    (case l_law_size => k_is)
    (case l_law_names => k_is)
    (case l_law_order => k_is)
    (case l_law_row => k_is)
    (case l_law_rows => k_is)
    (case l_law_steps => k_is)
    (case l_law_windows => k_is)
    (case l_law_is_number => k_is)
    (case l_law_windows_kept => k_is)
    (case l_law_forced => k_is)
    (case l_law_same_pairs => k_is)
    (case l_law_free_windows => k_is)
    (case l_law_due_years => k_is)
    (case l_law_rise => k_is)
    (case l_law_other_years => k_is)
    (case l_law_bad_windows => k_is)
    (case l_law_refused_windows => k_is)
    (case l_law_dated => k_is)
    (case l_law_kept => k_is)
    (case l_law_dates_right => k_is)
    (case l_law_keeps_right => k_is)
    (case l_law_lots_right => k_is)
    (case l_law_bad_order => k_is)
    (case l_law_bounds_right => k_is)
    (case l_law => k_is)
    (case lx_BadOrder_init => k_is)
    (case lq_BadOrder_init => k_is)
    (case lx_NoDates_init => k_is)
    (case lq_NoDates_init => k_is)
    (case lx_BadWindow_init => k_is)
    (case lq_BadWindow_init => k_is)
    (case c_BadOrder_init => k_is)
    (case c_NoDates_init => k_is)
    (case c_BadWindow_init => k_is)
    (case c_is_name => k_is)
    (case k_is_name => k_is)
    (case c_first_bad_name => k_is)
    (case k_first_bad_name => k_is)
    (case c_first_stray => k_is)
    (case k_first_stray => k_is)
    (case c_order_fault => k_is)
    (case k_order_fault => k_is)
    (case c_check_order => k_is)
    (case k_check_order => k_is)
    (case c_check_columns => k_is)
    (case k_check_columns => k_is)
    (case c_check_rows => k_is)
    (case k_check_rows => k_is)
    (case c_Table_in_order => k_is)
    (case k_Table_in_order => k_is)
    (case c_Table_init => k_is)
    (case k_Table_init => k_is)
    (case lt_Table_init => k_is)
    (case c_Table_has => k_is)
    (case k_Table_has => k_is)
    (case c_Table_eq => k_is)
    (case k_Table_eq => k_is)
    (case c_Windows_init => k_is)
    (case k_Windows_init => k_is)
    (case c_Windows_forced => k_is)
    (case k_Windows_forced => k_is)
    (case c_Windows_keeps => k_is)
    (case k_Windows_keeps => k_is)
    (case c_Windows_dates => k_is)
    (case k_Windows_dates => k_is)
    (case c_law_cell => k_is)
    (case k_law_cell => k_is)
    (case c_law_pool => k_is)
    (case k_law_pool => k_is)
    (case c_law_size => k_is)
    (case k_law_size => k_is)
    (case c_law_names => k_is)
    (case k_law_names => k_is)
    (case c_law_order => k_is)
    (case k_law_order => k_is)
    (case c_law_row => k_is)
    (case k_law_row => k_is)
    (case c_law_rows => k_is)
    (case k_law_rows => k_is)
    (case c_law_steps => k_is)
    (case k_law_steps => k_is)
    (case c_law_windows => k_is)
    (case k_law_windows => k_is)
    (case c_law_is_number => k_is)
    (case k_law_is_number => k_is)
    (case c_law_windows_kept => k_is)
    (case k_law_windows_kept => k_is)
    (case c_law_forced => k_is)
    (case k_law_forced => k_is)
    (case c_law_same_pairs => k_is)
    (case k_law_same_pairs => k_is)
    (case c_law_free_windows => k_is)
    (case k_law_free_windows => k_is)
    (case c_law_due_years => k_is)
    (case k_law_due_years => k_is)
    (case c_law_rise => k_is)
    (case k_law_rise => k_is)
    (case c_law_other_years => k_is)
    (case k_law_other_years => k_is)
    (case c_law_bad_windows => k_is)
    (case k_law_bad_windows => k_is)
    (case c_law_refused_windows => k_is)
    (case k_law_refused_windows => k_is)
    (case c_law_dated => k_is)
    (case k_law_dated => k_is)
    (case c_law_kept => k_is)
    (case k_law_kept => k_is)
    (case c_law_dates_right => k_is)
    (case k_law_dates_right => k_is)
    (case c_law_keeps_right => k_is)
    (case k_law_keeps_right => k_is)
    (case c_law_lots_right => k_is)
    (case k_law_lots_right => k_is)
    (case c_law_bad_order => k_is)
    (case k_law_bad_order => k_is)
    (case c_law_bounds_right => k_is)
    (case k_law_bounds_right => k_is)
    (case c_law => k_is)
    (case k_law => k_is)
    (case pgcl_Table => k_is)
    (case hdcl_Table => k_is)
    (case pocl_Table => k_is)
    (case sacl_Table => k_is)
    (case xsf_Table => k_is)
    (case kmk_Table => k_is)
    (case kkmk_Table => k_is)
    (case xc1_Table => k_is)
    (case xc3_Table => k_is)
    (case xn_Table_columns => k_is)
    (case xn_Table_rows => k_is)
    (case pgcl_Windows => k_is)
    (case hdcl_Windows => k_is)
    (case pocl_Windows => k_is)
    (case sacl_Windows => k_is)
    (case xsf_Windows => k_is)
    (case kmk_Windows => k_is)
    (case kkmk_Windows => k_is)
    (case xc1_Windows => k_is)
    (case xc3_Windows => k_is)
    (case xn_Windows_table => k_is)
    (case xn_Windows_told => k_is)
    (case xc2 => k_is)
    (case xc4 => k_is)
    (case xtp_RowsError => k_is)
    (case xic_RowsError => k_is)
    (case xtp_Unknown => k_is)
    (case xic_Unknown => k_is)
    (case xtp_Impossible => k_is)
    (case xic_Impossible => k_is)
    (case xtp_BadOrder => k_is)
    (case xic_BadOrder => k_is)
    (case xtp_NoDates => k_is)
    (case xic_NoDates => k_is)
    (case xtp_BadWindow => k_is)
    (case xic_BadWindow => k_is)
    (case g1SC_BadOrder => k_is)
    (case g2SC_BadOrder => k_is)
    (case ksSC_BadOrder => ks_is)
    (case g4SC_BadOrder => k_is)
    (case g5SC_BadOrder => k_is)
    (case rfSC_BadOrder => first | rfl | decide +kernel)
    (case kxSC_BadOrder => kx_is)
    (case g6SC_BadOrder => k_is)
    (case rv_BadOrder_init => first | rfl | decide +kernel)
    (case rg_BadOrder_init => first | rfl | decide +kernel)
    (case xti_BadOrder => k_is)
    (case xxn_BadOrder_index => k_is)
    (case xk_BadOrder => k_is)
    (case xbp_BadOrder => k_is)
    (case xsv_BadOrder => k_is)
    (case xss_BadOrder => k_is)
    (case xsu_BadOrder_RowsError => k_is)
    (case xsu_BadOrder_Unknown => k_is)
    (case xsu_BadOrder_Impossible => k_is)
    (case xsu_BadOrder_NoDates => k_is)
    (case xe1_BadOrder => k_is)
    (case xe2_BadOrder => k_is)
    (case xe3_BadOrder => k_is)
    (case xe4_BadOrder => k_is)
    (case xe5_BadOrder => k_is)
    (case g1SC_NoDates => k_is)
    (case g2SC_NoDates => k_is)
    (case ksSC_NoDates => ks_is)
    (case g4SC_NoDates => k_is)
    (case g5SC_NoDates => k_is)
    (case rfSC_NoDates => first | rfl | decide +kernel)
    (case kxSC_NoDates => kx_is)
    (case g6SC_NoDates => k_is)
    (case rv_NoDates_init => first | rfl | decide +kernel)
    (case rg_NoDates_init => first | rfl | decide +kernel)
    (case xti_NoDates => k_is)
    (case xxn_NoDates_one => k_is)
    (case xxn_NoDates_other => k_is)
    (case xk_NoDates => k_is)
    (case xbp_NoDates => k_is)
    (case xsv_NoDates => k_is)
    (case xss_NoDates => k_is)
    (case xsu_NoDates_RowsError => k_is)
    (case xsu_NoDates_Unknown => k_is)
    (case xsu_NoDates_Impossible => k_is)
    (case xe1_NoDates => k_is)
    (case xe2_NoDates => k_is)
    (case xe3_NoDates => k_is)
    (case xe4_NoDates => k_is)
    (case xe5_NoDates => k_is)
    (case g1SC_BadWindow => k_is)
    (case g2SC_BadWindow => k_is)
    (case ksSC_BadWindow => ks_is)
    (case g4SC_BadWindow => k_is)
    (case g5SC_BadWindow => k_is)
    (case rfSC_BadWindow => first | rfl | decide +kernel)
    (case kxSC_BadWindow => kx_is)
    (case g6SC_BadWindow => k_is)
    (case rv_BadWindow_init => first | rfl | decide +kernel)
    (case rg_BadWindow_init => first | rfl | decide +kernel)
    (case xti_BadWindow => k_is)
    (case xxn_BadWindow_index => k_is)
    (case xk_BadWindow => k_is)
    (case xbp_BadWindow => k_is)
    (case xsv_BadWindow => k_is)
    (case xss_BadWindow => k_is)
    (case xsu_BadWindow_RowsError => k_is)
    (case xsu_BadWindow_Unknown => k_is)
    (case xsu_BadWindow_Impossible => k_is)
    (case xe1_BadWindow => k_is)
    (case xe2_BadWindow => k_is)
    (case xe3_BadWindow => k_is)
    (case xe4_BadWindow => k_is)
    (case xe5_BadWindow => k_is)
    (case r1cr_Table => k_is)
    (case r2cr_Table => k_is)
    (case xcv_Table_MOST_COLUMNS => k_is)
    (case xcv_Table_MOST_ROWS => k_is)
    (case xn_abs => k_is)
    (case xn_int => k_is)
    (case xn_isinstance => k_is)
    (case xn_range => k_is)
    (case xn_len => k_is)
    (case xn_str => k_is)
    (case xn_tuple => k_is)
    (case xn_list => k_is)
    (case xn_ValueError => k_is)
    (case xn_all => k_is)
    (case xn_any => k_is)
    (case xn_min => k_is)
    (case xn_max => k_is)
    (case xn_enumerate => k_is)
    (case xn_bool => k_is)
    (case xn_sorted => k_is)
#print axioms PySem.Challenge.cw_unbrokenrows_k32_windows_along_orders_holds
