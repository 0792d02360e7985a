import PyProof.Rows.All
import Wide.All
import OpenK.AllK
import Wide.FinOn
import HandS.Base
import HandS.Call
import HandS.List
import HandS.OwnEq
import HandS.Ends
import HandS.ClsMeth
import HandS.ExcOwn
import HandS.ExcIs
import HandS.TryOnly
import KE.KExcSuper
import HandS.ExcInit
import HandS.ExcField
import HandS.Words
import HandS.SortKw
import HandS.IterNext
import KE.DataMinMax
import KE.KExcIs
import KE.KExcLine
import HandS.OwnIter
import HandS.Walk
import KE.GoesMore
import HandS.SetFor
import KE.SortData
import HandS.SortRule
import HandS.IsInst
import HandS.WideBits
import HandS.Exc
import HandS.TryMany
import HandS.Style
import HandS.Strs
import HandS.Deep
import PyProof.StrLawsChain
import HandS.Text
import PyProof.Rows.StrCut
import HandS.Wide
import HandS.TupAny
import HandS.Star
import HandS.More
import HandS.Defaults
import HandS.Codes
import HandS.ForMost
import HandS.FStr
import HandS.StrMore
import HandS.Replace
import HandS.WordsExc
import PyProof.StrBlock2
import PySem.Challenge.RW_unbrokenrows_k35_tables_cut_open
set_option Elab.async false
set_option linter.all false
set_option maxRecDepth 100000
namespace My
open PySem PySem.Spec PyProof.Rows L2
section
variable {X : Cx} {CX : CXT} {n : Nat} {f C : Addr} {fd : FuncData} {ps : List Str} {sp : Sp} {E : XK}
/-- a promise, called anywhere in the running body -/
theorem call_at (G0 : FnOk X.prog X.w X.K X.mg X.base CX n f fd ps sp) (hb : Binds X.K fd ps []) (hx : Passes CX X E) {A : Around} (hr : Room n A) (hA : A.frames = X.A.frames)
    {pins : List (Addr × Obj)} {s : Shared} {σ : L2.St} {H : Hp} (I : Inv X pins σ H s) {vs : List V} {us : List Value} (r : Vals vs us) {Q : VK} (h : sp vs H Q E) :
    wpAny (model X.prog X.w) A (call (.ref f) us) (EP X pins σ Q) X.xe s := by
  have e0 : Env0 X.prog X.w X.K X.mg X.base A X.stack s H := by
    have e := I.env0
    exact ⟨by rw [hA]; exact e.frames, e.mod, e.bs, e.bsz, e.funs, e.frf, e.hok, e.bare⟩
  have hl := G0.len _ _ _ _ h
  refine wpAny_call (codeAny_mono (G0.run A X.stack s H ⟨us, []⟩ us vs Q E hr e0 (by
    have := hb s us I.kIn (by rw [List.append_nil, ← r.length]; exact hl)
    simpa using this) r h) fun r s' hq => ?_)
  cases r with
  | error e => exact hx pins σ H s e s' I hq
  | ok fl =>
    cases fl with
    | ret w => exact I.after hq
    | next => exact False.elim hq
    | brk => exact False.elim hq
    | cont => exact False.elim hq
theorem relV_noNI {v : V} {u : Value} (r : RelV v u) : u ≠ .notImplemented := by
  intro e
  subst e
  cases v <;> first | (cases r; done) | (obtain ⟨_, z⟩ := r; cases z)
theorem cmpBack_of {pins : List (Addr × Obj)} {σ : L2.St} {Q : VK} {v : Value} {s : Shared} (h : EP X pins σ Q v s) : PySem.W.CmpBack (EP X pins σ Q) v s := by
  obtain ⟨x, H', I', r, q⟩ := id h
  cases v <;> first | exact h | exact absurd rfl (relV_noNI r)
/-- x op y, both instances of the class at C, by its own method -/
def rOwn2 (C : Addr) (sp : Sp) (E : XK) : R2 := fun x y H Q => ∃ a b dx dy fs gs, x = .ref a ∧ y = .ref b ∧ H a = some (.ins C dx fs) ∧ H b = some (.ins C dy gs) ∧ sp [.ref a, .ref b] H Q E
theorem op_own2 {op : Operator} (G0 : FnOk X.prog X.w X.K X.mg X.base CX n f fd ps sp) (hb : Binds X.K fd ps []) (hx : Passes CX X E) (hr : Room n X.A)
    (hs : PySem.W.findIn X.K (.ref C) (PySem.dunder op.info.2) = some (some (.ref f))) (hf : PySem.W.isFn X.K (.ref f) = true) (hc : PySem.W.selfFirst X.K C = true) : OpR X (binaryOp op) (rOwn2 C sp E) := by
  intro pins s σ H x y v u Q I rx ry h
  obtain ⟨a, b, dx, dy, fs, gs, rfl, rfl, ha, hb', q⟩ := h
  cases rx
  cases ry
  obtain ⟨mA, J, _⟩ := ins_get I.hok ha
  obtain ⟨mB, J', _⟩ := ins_get I.hok hb'
  obtain ⟨od, J, _⟩ := J.look
  obtain ⟨od', J', _⟩ := J'.look
  obtain ⟨m, hF⟩ := I.fr
  refine PySem.W.binop_K hF I.ok.mod.kin J J'.type hc hs hf ?_
  exact wpAny_mono (call_at G0 hb hx hr rfl I (vs := [.ref a, .ref b]) (.cons rfl (.cons rfl .nil)) q) (fun v s' z => cmpBack_of z) fun _ _ z => z
/-- x op k, x such an instance, k a whole number -/
def rOwnI (C : Addr) (sp : Sp) (E : XK) : R2 := fun x y H Q => ∃ a dx fs k, x = .ref a ∧ y = .int k ∧ H a = some (.ins C dx fs) ∧ sp [.ref a, .int k] H Q E
theorem op_ownI {op : Operator} {fo ro rc : Option Value} (G0 : FnOk X.prog X.w X.K X.mg X.base CX n f fd ps sp) (hb : Binds X.K fd ps []) (hx : Passes CX X E) (hr : Room n X.A)
    (hs : PySem.W.findIn X.K (.ref C) (PySem.dunder op.info.2) = some (some (.ref f))) (hf : PySem.W.isFn X.K (.ref f) = true) (hc : PySem.W.selfFirst X.K C = true)
    (hrr : PySem.W.findIn X.K (.ref C) (dunderR op.info.2) = some rc) (hp : rc = none ∨ ∃ g : Addr, rc = some (.ref g))
    (h1 : PySem.W.findIn X.K (.type "int") (PySem.dunder op.info.2) = some fo) (h2 : PySem.W.findIn X.K (.type "int") (dunderR op.info.2) = some ro) (hsub : PySem.W.subIn X.K (.type "int") (.ref C) = some false) :
    OpR X (binaryOp op) (rOwnI C sp E) := by
  intro pins s σ H x y v u Q I rx ry h
  obtain ⟨a, dx, fs, k, rfl, rfl, ha, q⟩ := h
  cases rx
  obtain ⟨t, rfl⟩ := ry
  obtain ⟨mA, J, _⟩ := ins_get I.hok ha
  obtain ⟨od, J, _⟩ := J.look
  obtain ⟨m, hF⟩ := I.fr
  refine PySem.W.ksp_binT (T := "int") hF I.ok.mod.kin J rfl hc hs hf hrr hp h1 h2 hsub ?_
  exact wpAny_mono (call_at G0 hb hx hr rfl I (vs := [.ref a, .int k]) (.cons rfl (.cons ⟨_, rfl⟩ .nil)) q) (fun v s' z => cmpBack_of z) fun _ _ z => z
/-- one-place operators of such an instance -/
def rOwn1 (C : Addr) (sp : Sp) (E : XK) : V → Hp → VK → Prop := fun x H Q => ∃ a dx fs, x = .ref a ∧ H a = some (.ins C dx fs) ∧ sp [.ref a] H Q E
theorem un_own (G0 : FnOk X.prog X.w X.K X.mg X.base CX n f fd ps sp) (hb : Binds X.K fd ps []) (hx : Passes CX X E) (hr : Room n X.A)
    (hs : PySem.W.findIn X.K (.ref C) "__neg__" = some (some (.ref f))) (hf : PySem.W.isFn X.K (.ref f) = true) : UnR X (unaryOp .USub) (rOwn1 C sp E) := by
  intro pins s σ H x v Q I rx h
  obtain ⟨a, dx, fs, rfl, ha, q⟩ := h
  cases rx
  obtain ⟨mA, J, _⟩ := ins_get I.hok ha
  obtain ⟨od, J, _⟩ := J.look
  obtain ⟨m, hF⟩ := I.fr
  exact PySem.W.ksp_neg hF I.ok.mod.kin J hs hf (call_at G0 hb hx hr rfl I (vs := [.ref a]) (.cons rfl .nil) q)
/-- abs(x), bool(x) of such an instance -/
theorem call_absOwn (G0 : FnOk X.prog X.w X.K X.mg X.base CX n f fd ps sp) (hb : Binds X.K fd ps []) (hx : Passes CX X E) (hr : Room (n + 1) X.A)
    (hs : PySem.W.findIn X.K (.ref C) "__abs__" = some (some (.ref f))) (hf : PySem.W.isFn X.K (.ref f) = true) :
    CallR X (.builtin "abs") (fun xs H Q => ∃ a dx fs, xs = [V.ref a] ∧ H a = some (.ins C dx fs) ∧ sp [.ref a] H Q E) := by
  intro pins s σ H xs us Q I r h
  obtain ⟨a, dx, fs, rfl, ha, q⟩ := h
  obtain ⟨u, rfl, r1⟩ := vals1 r
  cases r1
  obtain ⟨mA, J, _⟩ := ins_get I.hok ha
  obtain ⟨od, J, _⟩ := J.look
  refine PySem.Calls.call_function_entry kind_abs plain_abs entry_abs (args_abs _) ?_
  unfold Builtin.«abs»
  refine wpAny_bind (m := oneArg "abs" _) (wpAny_pure ?_)
  refine wpAny_bind (m := callSpecial? (.ref a) (Str.ofString "__abs__")) (PySem.W.special_fn I.kIn J hs (beq_iff_eq.mp hf) ?_)
  refine wpAny_mono (call_at G0 hb hx (A := X.A.in1) hr.in1 rfl I (vs := [.ref a]) (.cons rfl .nil) q) (fun v s' z => ?_) fun _ _ z => z
  exact wpAny_pure ⟨_, rfl, z⟩
theorem meets_bool_own (prog : Program) (w : World) (l : Addr) : MeetsIn prog w (Builtin.«bool.__new__» ⟨[.type "bool", .ref l], []⟩)
    (fun A R s => wpAny (model prog w) A.in1 (truthy (.ref l)) (fun b s' => R (.ok (.ret (.bool b))) s') (fun e s' => R (.error e) s') s) := by
  intro A R s hs
  have f1 := F.conv_sub_bool
  unfold Builtin.«bool.__new__»
  dsimp only
  repeat (any_goals (first | assumption | (with_reducible refine wpAny_mono hs (fun b s' z => ?_) (fun _ _ z => z)) | wp_step))
  all_goals first | exact z | skip
theorem call_boolOwn (G0 : FnOk X.prog X.w X.K X.mg X.base CX n f fd ps sp) (hb : Binds X.K fd ps []) (hx : Passes CX X E) (hr : Room (n + 2) X.A)
    (hs : PySem.W.findIn X.K (.ref C) "__bool__" = some (some (.ref f))) (hf : PySem.W.isFn X.K (.ref f) = true) :
    CallR X (.type "bool") (fun xs H Q => ∃ a dx fs, xs = [V.ref a] ∧ H a = some (.ins C dx fs) ∧ sp [.ref a] H (fun v H' => ∃ k, v = .bl k ∧ Q v H') E) := by
  intro pins s σ H xs us Q I r h
  obtain ⟨a, dx, fs, rfl, ha, q⟩ := h
  obtain ⟨u, rfl, r1⟩ := vals1 r
  cases r1
  obtain ⟨mA, J, _⟩ := ins_get I.hok ha
  obtain ⟨od, J, _⟩ := J.look
  obtain ⟨m, hF⟩ := I.fr
  refine callType_newIn F.called_bool F.newNe_bool (F.typeCall_bool_1 _) (F.newCall_bool_1 _) (fun obj => F.args_object_init_2 obj _) F.entry_bool_new (meets_bool_own X.prog X.w a) ?_
  refine PySem.W.truthy_K hF I.ok.mod.kin J hs hf ?_
  refine wpAny_mono (call_at G0 hb hx (A := X.A.in1.in1) hr.in1.in1 rfl I (vs := [.ref a]) (.cons rfl .nil) q) (fun v s' z => ?_) fun _ _ z => z
  obtain ⟨x, H', I', r, k, rfl, q'⟩ := z
  cases r
  exact ⟨PySem.typeIs_bool _ _, .bl k, H', I', rfl, q'⟩
/-- == of two such instances -/
def rOwnEq (C : Addr) (sp : Sp) (E : XK) : R2 := fun x y H Q => ∃ a b dx dy fs gs, x = .ref a ∧ y = .ref b ∧ H a = some (.ins C dx fs) ∧ H b = some (.ins C dy gs) ∧ sp [.ref a, .ref b] H Q E
theorem op_eqOwn (G0 : FnOk X.prog X.w X.K X.mg X.base CX n f fd ps sp) (hb : Binds X.K fd ps []) (hx : Passes CX X E) (hr : Room n X.A)
    (hs : PySem.W.findIn X.K (.ref C) "__eq__" = some (some (.ref f))) (hf : PySem.W.isFn X.K (.ref f) = true) : OpR X (compareOp .Eq) (rOwnEq C sp E) := by
  intro pins s σ H x y v u Q I rx ry h
  obtain ⟨a, b, dx, dy, fs, gs, rfl, rfl, ha, hb', q⟩ := h
  cases rx
  cases ry
  obtain ⟨mA, J, _⟩ := ins_get I.hok ha
  obtain ⟨mB, J', _⟩ := ins_get I.hok hb'
  obtain ⟨od, J, _⟩ := J.look
  obtain ⟨od', J', _⟩ := J'.look
  obtain ⟨m, hF⟩ := I.fr
  show wpAny (model X.prog X.w) X.A (richCompare .Eq (.ref a) (.ref b)) (EP X pins σ Q) X.xe s
  refine PySem.W.cmp_K (op := .Eq) (tb := .ref C) hr.units0 hF I.ok.mod.kin J J'.type (by simp [PySem.W.notFirst]) hs hf ?_
  exact wpAny_mono (call_at G0 hb hx hr rfl I (vs := [.ref a, .ref b]) (.cons rfl (.cons rfl .nil)) q) (fun v s' z => cmpBack_of z) fun _ _ z => z
end
end My
set_option maxRecDepth 100000
namespace My
open PySem PySem.Spec PyProof.Rows L2
open ClX (CRead)
section
variable {X : Cx} {CX : CXT} {n k : Nat} {f C : Addr} {fd : FuncData} {ps : List Str} {sp : Sp} {E : XK}
/-- str(x) of an instance with its own __str__ -/
theorem call_strOwn (G0 : FnOk X.prog X.w X.K X.mg X.base CX n f fd ps sp) (hb : Binds X.K fd ps []) (hx : Passes CX X E) (hr : Room (n + 2) X.A)
    (hs : PySem.W.findIn X.K (.ref C) "__str__" = some (some (.ref f))) (hf : PySem.W.isFn X.K (.ref f) = true) :
    CallR X (.type "str") (fun xs H Q => ∃ a dx fs, xs = [V.ref a] ∧ H a = some (.ins C dx fs) ∧ sp [.ref a] H (fun v H' => ∃ z, v = .str z ∧ Q v H') E) := by
  intro pins s σ H xs us Q I r h
  obtain ⟨a, dx, fs, rfl, ha, q⟩ := h
  obtain ⟨u, rfl, r1⟩ := vals1 r
  cases r1
  obtain ⟨mA, J, _⟩ := ins_get I.hok ha
  obtain ⟨od, J, _⟩ := J.look
  refine PySem.W.kso_call (hr.in1.in1.units0) I.kIn J hs hf ?_
  refine wpAny_mono (call_at G0 hb hx (A := X.A.in1.in1) hr.in1.in1 rfl I (vs := [.ref a]) (.cons rfl .nil) q) (fun v s' z => ?_) fun _ _ z => z
  obtain ⟨x, H', I', r, y, rfl, q'⟩ := z
  obtain ⟨t, rfl⟩ := r
  exact ⟨.str y, H', I', ⟨_, rfl⟩, q'⟩
/-- C.m is a staticmethod: its record at p, its def at g -/
structure SMet (K : PySem.W.Frag) (C : Addr) (mc : Value) (m : Str) (p g : Addr) : Prop where
  at_ : PySem.W.findCls K (.ref C) mc m = some (.get (.builtin "staticmethod.__get__") (.ref p) .none (.ref C))
  rc : ∃ rest, PySem.W.recIn K p "staticmethod" = some (.ref g :: rest)
  kp : PySem.W.keepIn K (.ref g) = true
theorem getmethsm_ok {pins : List (Addr × Obj)} {σ : L2.St} {H : Hp} {s : Shared} {p g : Addr} {mc : Value} {m : Str} {A : Around} {E : Value → Shared → Prop} {pl : Sem Bool} {Q : Value × List Value → Shared → Prop} (I : Inv X pins σ H s) (r : CRead X.K C mc) (k : SMet X.K C mc m p g)
    (h : ∀ s', Inv X pins σ H s' → Q (.ref g, []) s') : wpAny (model X.prog X.w) A (getMethod (.ref C) m pl) Q E s := by
  refine PySem.W.method_cls I.kIn r.ga ?_
  obtain ⟨rest, hp⟩ := k.rc
  refine PySem.W.cls_bind I.kIn r.rd k.at_ ?_
  refine wpAny_call (PySem.W.sm_get (s := { s with toks := s.toks + 1 }) I.kIn hp (PySem.W.handed_on rfl ?_))
  exact h _ (I.tok _)
/-- C.m(e, ..), m a staticmethod of the class at C -/
def tSMeth (C : Addr) (sp : Sp) (dvs : List V) (E : XK) (ta : TE) (t : TA) : TE := fun σ H Q => ta σ H fun x H1 => x = .ref C ∧ t σ H1 fun vs H2 => sp (vs ++ dvs) H2 Q E
theorem pe_smeth {o e : Expr} {es : List Expr} {p g : Addr} {mc : Value} {m : Str} {pos apos : Pos} {ta : TE} {t : TA} {pl : Sem Bool} {ds : List Value} {dvs : List V} (he : PE X o ta) (r : CRead X.K C mc) (c : SMet X.K C mc m p g)
    (G0 : FnOk X.prog X.w X.K X.mg X.base CX k g fd ps sp) (hr : Room k X.A) (hb : Binds X.K fd ps ds) (hd : Vals dvs ds) (hx : Passes CX X E) (ha : PA X (e :: es) t)
    (hst : starEach (e :: es) X.env = (false, eval e X.env) :: starEach es X.env := by rfl) (hpl : (backTo pos (starEach es X.env)).any (·.1) = false := by rfl)
    (ht : eval (.Call (.Attribute o m apos) (e :: es) [] pos) X.env = (do
      let ov ← eval o X.env
      standAt apos.atName
      let (f, first) ← holding [ov] (getMethod ov m pl)
      callWith pos f first (backTo pos (starEach (e :: es) X.env)) (backToKw pos (keywordEach [] X.env))) := by rfl) :
    PE X (.Call (.Attribute o m apos) (e :: es) [] pos) (tSMeth C sp dvs E ta t) := by
  refine ⟨fun pins s σ H Q I h => ?_⟩
  refine PySem.W.methodCall_KW (pl := pl) (thn (he.run pins s σ H _ I h) fun u s1 ⟨x, H1, I1, rx, ex, q⟩ => ?_) ht
  subst ex
  obtain rfl : u = Value.ref C := rx
  refine getmethsm_ok I1 r c fun s2 I2 => ?_
  refine PySem.W.callWith_K (h₀ := X.base) I2.ok.mod.kin c.kp (thn (ha.run pos pins s2 σ H1 _ I2 q) fun us s3 ⟨vs, H2, I3, r3, q3⟩ => ⟨I3.kIn, ?_⟩) hst hpl
  exact run_fn G0 hr hb hd hx I3 r3 q3
/-- C(e, ..) where what its __init__ raises is wished for -/
def tMakeS (C : Addr) (sp : Sp) (E : L2.St → XK) (t : TA) : TE := fun σ H Q => t σ H fun vs H1 => ∀ x dx, H1 x = none → H1 dx = none → dx ≠ x →
  sp (.ref x :: vs) (upd (upd H1 dx (.own x)) x (.ins C dx [])) (fun v H2 => v = .non ∧ Q (.ref x) H2) (E σ)
theorem run_makeS {E : L2.St → XK} {pins : List (Addr × Obj)} {σ : L2.St} {H : Hp} {s : Shared} {Q : VK} {us : List Value} {vs : List V} (M : Mk X.K C f) (G0 : FnOk X.prog X.w X.K X.mg X.base CX k f fd ps sp) (hr : Room (k + 1) X.A) (hb : Binds X.K fd ps [])
    (hx : PassesAt CX X σ (E σ)) (I : Inv X pins σ H s) (r : Vals vs us)
    (h : ∀ x dx, H x = none → H dx = none → dx ≠ x → sp (.ref x :: vs) (upd (upd H dx (.own x)) x (.ins C dx [])) (fun v H2 => v = .non ∧ Q (.ref x) H2) (E σ)) :
    wpAny (model X.prog X.w) X.A (call (.ref C) us) (EP X pins σ Q) X.xe s := by
  have hq := h (s.heap.objs.size + 1) s.heap.objs.size (I.hok.fresh (Nat.le_succ _)) (I.hok.fresh (Nat.le_refl _)) (Nat.ne_of_lt (Nat.lt_succ_self _))
  have I2 := Inv.made (C := C) I
  have r2 : Vals (V.ref (s.heap.objs.size + 1) :: vs) (Value.ref (s.heap.objs.size + 1) :: us) := .cons rfl r
  have hl : (Value.ref (s.heap.objs.size + 1) :: us).length = ps.length := by
    have e := r2.length
    rw [G0.len _ _ _ _ hq] at e
    exact e.symm
  have b := hb _ (Value.ref (s.heap.objs.size + 1) :: us) I2.kIn (by rw [List.append_nil]; exact hl)
  rw [List.append_nil] at b
  refine wpAny_call (make_map (f := f) I.kIn M.makes M.init (beq_iff_eq.mp M.fn) (codeAny_mono (G0.run _ X.stack _ _ ⟨Value.ref (s.heap.objs.size + 1) :: us, []⟩ (Value.ref (s.heap.objs.size + 1) :: us) _ _ (E σ) (hr.make C us [])
    (I2.env0.make C us []) b r2 hq) fun r s' hq' => ?_))
  cases r with
  | error e => exact hx pins _ _ e s' I2 hq'
  | ok fl =>
    cases fl with
    | ret u =>
      obtain ⟨v, H', I3, rv, ev, q3⟩ := I2.after hq'
      subst ev
      exact ⟨rv, ⟨V.ref (s.heap.objs.size + 1), H', I3, rfl, q3⟩⟩
    | next => exact False.elim hq'
    | brk => exact False.elim hq'
    | cont => exact False.elim hq'
theorem pe_makeS {E : L2.St → XK} {x : Str} {p pos : Pos} {e : Expr} {es : List Expr} {t : TA} (M : Mk X.K C f) (G0 : FnOk X.prog X.w X.K X.mg X.base CX k f fd ps sp) (hr : Room (k + 1) X.A) (hg : Gl X x) (hm : X.mg x = some (.ref C)) (hb : Binds X.K fd ps []) (hx : ∀ σ, PassesAt CX X σ (E σ))
    (ha : PA X (e :: es) t) (hdb : (x == ("__debug__" : Str)) = false := by decide) (he : starEach (e :: es) X.env = (false, eval e X.env) :: starEach es X.env := by rfl) (hpl : (backTo pos (starEach es X.env)).any (·.1) = false := by rfl) :
    PE X (.Call (.Name x p) (e :: es) [] pos) (tMakeS C sp E t) := by
  refine ⟨fun pins s σ H Q I h => ?_⟩
  refine wpAny_Call_Name_kw (ld_glob I hg hm ?_ hdb)
  refine PySem.W.callWith_K (h₀ := X.base) I.ok.mod.kin M.kp (thn (ha.run pos pins s σ H _ I h) fun us s1 ⟨vs, H1, I1, r, q⟩ => ⟨I1.kIn, ?_⟩) he hpl
  exact run_makeS M G0 hr hb (hx σ) I1 r q
end
/-- isinstance(e, c) in an except suite of any error -/
theorem call_isEx {X : Cx} {a : Addr} {oe : Obj} {cls : Value} {d : Option Addr} {pn : List (Addr × Obj)} (hz : Zc cls d oe) (hf : ∃ vs, oe.data = .fields vs) :
    CallR (X.suite a ((a, oe) :: pn)) (.builtin "isinstance") (fun xs H Q => ∃ D, cls = .ref D ∧ d = none ∧ ExcC X.K D ∧ rIsE X.K D a xs H Q) := by
  intro pins s σ H xs us Q I r h
  obtain ⟨D, rfl, rfl, c, q⟩ := h
  exact call_isE c hz hf pins s σ H xs us Q I r q
/-- an own class against an own class, against a built-in one -/
theorem kit_own {K : PySem.W.Frag} {C D : Addr} {b : Bool} (hi : PySem.W.isClsIn K D = true) (ht : PySem.W.typeIn K (.ref D) = some (.type "type")) (hs : PySem.W.subIn K (.ref C) (.ref D) = some b) (hne : C ≠ D ∨ b = true) : PySem.W.kitOne K (.ref C) (.ref D) = some b := by
  unfold PySem.W.kitOne
  by_cases e : C = D
  · rcases hne with h | h
    · exact absurd e h
    · rw [if_pos (by rw [e]; simp), h]
  · rw [if_neg (by simp [e])]
    show (if ((PySem.W.clsIn K D).isSome && PySem.W.typeIn K (.ref D) == some (.type "type")) = true then _ else _) = _
    rw [if_pos (by
      rw [ht]
      have : (PySem.W.clsIn K D).isSome = true := hi
      rw [this]; simp)]
    exact hs
theorem kit_ownT {K : PySem.W.Frag} {C : Addr} {T : String} {b : Bool} (hm : PySem.W.kitMeta T = true) (hs : PySem.W.subIn K (.ref C) (.type T) = some b) : PySem.W.kitOne K (.ref C) (.type T) = some b := by
  unfold PySem.W.kitOne PySem.W.kitCls
  rw [if_neg (by simp)]
  show (if PySem.W.kitMeta T = true then _ else _) = _
  rw [if_pos hm]
  exact hs
end My
set_option maxRecDepth 100000
set_option maxHeartbeats 1000000
/-! own exceptions whose __init__ says super().__init__(text) and then stores its fields -/
namespace My
open PySem PySem.Spec PyProof.Rows L2
/-- the names of such a def: its parameters are local, nothing is a cell, __class__ alone is free -/
structure SupScope (N ps : List Str) (sc : Scope) : Prop where
  kind : sc.kind = .function
  co : sc.isCoroutine = false
  gen : sc.isGenerator = false
  nd : ps.Nodup
  eqN : N = ps
  par : ∀ x ∈ ps, sc.names.lookup x = some .local
  nocell : ∀ y ∈ sc.names, y.2 ≠ .cell
  free : ∀ y ∈ sc.names, y.2 = .free → y.1 = "__class__"
  ks : sc.names.lookup ("super" : Str) = some .globalImplicit
  kc : sc.names.lookup ("__class__" : Str) = some .free
/-- the context of its body -/
def cxSup (CX : CXT) (P : Program) (w : World) (K : PySem.W.Frag) (mg : Str → Option Value) (base : Heap) (N : List Str) (qual : Str) (scope : Scope) (f : Addr) (cd : Value) (cc : Addr) (A : Around) (outer : List Env) (s : Shared) (H : Hp) (E : XK) : Cx where
  prog := P
  w := w
  K := K
  mg := mg
  base := base
  A := A.deeper (PySem.W.ksEnv qual scope s.heap.objs.size f cd cc)
  N := N
  s_0 := s
  H_0 := H
  env := PySem.W.ksEnv qual scope s.heap.objs.size f cd cc
  outer := outer
  stack := PySem.W.ksEnv qual scope s.heap.objs.size f cd cc :: outer
  ex := []
  calm := true
  fn := fun _ => false
  pn := []
  xe := fun e s' => wpAny (model P w) (A.deeper (PySem.W.ksEnv qual scope s.heap.objs.size f cd cc)) (leaving (PySem.W.ksEnv qual scope s.heap.objs.size f cd cc) e) (fun _ s'' => CX outer H s E e s'') (fun e' s'' => CX outer H s E e' s'') s'
theorem lookup_of_mem {l : List (Str × Value)} {y : Str} {u : Value} (nd : (l.map (·.1)).Nodup) (h : (y, u) ∈ l) : l.lookup y = some u := by
  induction l with
  | nil => cases h
  | cons p r ih =>
    obtain ⟨z, v⟩ := p
    rw [List.map_cons, List.nodup_cons] at nd
    rcases List.mem_cons.mp h with e | e
    · cases e; simp [List.lookup]
    · have hne : y ≠ z := fun q => nd.1 (by rw [← q]; exact List.mem_map.mpr ⟨_, e, rfl⟩)
      have : (y == z) = false := by simpa using hne
      simp only [List.lookup, this]
      exact ih nd.2 e
theorem map_fst_zip_sub : ∀ (ps : List Str) (us : List Value), ((ps.zip us).map (·.1)).Sublist ps
  | [], _ => by simp
  | _ :: _, [] => by simp
  | p :: ps, u :: us => by simpa using map_fst_zip_sub ps us
theorem nd_rev {l : List Str} (h : l.Nodup) : l.reverse.Nodup := by
  induction l with
  | nil => simp
  | cons a t ih =>
    rw [List.nodup_cons] at h
    rw [List.reverse_cons, List.nodup_append]
    exact ⟨ih h.2, by simp, fun x hx y hy e => h.1 (by simp at hy; rw [← hy, ← e]; simpa using hx)⟩
theorem zip_lookup {ps : List Str} {us : List Value} {i : Nat} {y : Str} {u : Value} (nd : ps.Nodup) (h1 : ps[i]? = some y) (h2 : us[i]? = some u) : (ps.zip us).reverse.lookup y = some u := by
  refine lookup_of_mem ?_ ?_
  · rw [List.map_reverse]
    have : ((ps.zip us).map (·.1)).Nodup := by
      exact nd.sublist (map_fst_zip_sub ps us)
    exact nd_rev this
  · rw [List.mem_reverse]
    have : (ps.zip us)[i]? = some (y, u) := by rw [List.getElem?_zip_eq_some]; exact ⟨h1, h2⟩
    exact List.mem_of_getElem? this
section
variable {CX : CXT} {P : Program} {w : World} {K : PySem.W.Frag} {mg : Str → Option Value} {base : Heap} {N ps : List Str} {qual : Str} {scope : Scope} {f cc : Addr} {cd : Value} {A : Around} {outer : List Env} {s : Shared} {H : Hp} {E : XK}
theorem env_cells {x : Str} {c : Addr} {L : Addr} (h : (PySem.W.ksEnv qual scope L f cd cc).cells.lookup x = some c) : x = "__class__" ∧ c = cc := by
  have h' : ([(("__class__" : Str), cc)] : List (Str × Addr)).lookup x = some c := h
  by_cases e : x = "__class__"
  · subst e
    simp [List.lookup] at h'
    exact ⟨rfl, h'.symm⟩
  · have : (x == ("__class__" : Str)) = false := by simpa using e
    simp [List.lookup, this] at h'
theorem inv_sup {us : List Value} {vs : List V} {h1 : Heap} {t : Nat} {cl : Value} {cld : Option Addr} {cv : Option Value} {csl : Array (Option Value)} (S : SupScope N ps scope) (hd : A.handled = none) (e0 : Env0 P w K mg base A outer s H) (hl : vs.length = ps.length) (r : Vals vs us)
    (hcell : K.lookup cc = some ⟨cl, cld, .cell cv, csl⟩)
    (hns : h1.Ns s.heap.objs.size (fun x => (ps.zip us).reverse.lookup x)) (hk : ∀ b o, s.heap.get? b = some o → h1.get? b = some o) :
    Inv (cxSup CX P w K mg base N qual scope f cd cc A outer s H E) [] (L2.start N vs) H { s with heap := h1, toks := t } := by
  have noA : ∀ b : Addr, b ∉ (cxSup CX P w K mg base N qual scope f cd cc A outer s H E).ex := fun b z => absurd (show b ∈ ([] : List Addr) from z) (by simp)
  have hcb := e0.mod.kin _ _ hcell
  refine ⟨⟨e0.mod, S.kind, rfl, rfl, Nat.le_refl _, fun y z c h1 h2 => (env_cells h1).1.trans (env_cells h2).1.symm, fun y hy => ?_, fun y c h _ => absurd h Bool.false_ne_true, fun _ => hd, Around.frames_deeper e0.frames, .inr ⟨rfl, rfl⟩, fun b z => absurd z (noA b), e0.bs, e0.bsz, fun b _ _ => noA b, fun b z => absurd z (noA b), e0.funs, e0.frf⟩,
    rfl, e0.bare, Un.kept hk, ⟨_, hns, fun i y v h1 h2 h3 => ?_⟩, fun y c h => ?_, e0.hok.fresh (Nat.le_refl _), fun y c h => ?_, fun p hp => absurd (show p ∈ ([] : List (Addr × Obj)) from hp) (by simp), e0.hok.kept hk, ?_⟩
  · have hy : scope.names.lookup y = some .cell ∨ scope.names.lookup y = some .free := hy
    rcases hy with hy | hy
    · exact absurd rfl (S.nocell _ (PySem.mem_of_lookup hy))
    · have e := S.free _ (PySem.mem_of_lookup hy) rfl
      refine ⟨cc, ?_⟩
      show ([(("__class__" : Str), cc)] : List (Str × Addr)).lookup y = some cc
      have e' : y = "__class__" := e
      rw [e']
      simp [List.lookup]
  · have hlen : N.length = vs.length := by rw [S.eqN, hl]
    have e2 : L2.start N vs = vs.map some := by unfold L2.start; rw [hlen, Nat.sub_self]; simp
    rw [e2, List.getElem?_map] at h2
    cases ea : vs[i]? with
    | none => rw [ea] at h2; cases h2
    | some a =>
      rw [ea] at h2
      cases h2
      obtain ⟨u, hu, rv⟩ := r.get ea
      have hp : ps[i]? = some y := by rw [← S.eqN]; exact h1
      exact ⟨u, rv, .inl ⟨S.par y (List.mem_of_getElem? hp), zip_lookup S.nd hp hu⟩⟩
  · obtain ⟨rfl, rfl⟩ := env_cells h
    exact ⟨cv, _, hk _ _ (e0.bs _ _ hcb).1, rfl⟩
  · obtain ⟨rfl, rfl⟩ := env_cells h
    exact (e0.bs _ _ hcb).2
  · unfold L2.start
    show _ = N.length
    rw [List.length_append, List.length_map, List.length_replicate, S.eqN]
    omega
end
open PySem.W (ksFn ksEnv)
/-- what the written part says of such a class -/
structure SupCls (P : Program) (K : PySem.W.Frag) (mg : Str → Option Value) (C : Addr) : Prop where
  cd : ∃ cd, PySem.W.clsIn K C = some cd
  mro : PySem.W.mroIn K C (.ref C) = some true
  sup : PySem.W.ks_superIn K C C "__init__" = some (some (.builtin "ValueError.__init__"))
  opq : PySem.W.nsIn K PySem.cStatics "thirdparty.any" = some none
  ve : PySem.W.subIn K (.ref C) (.type "ValueError") = some true
  mgs : mg "super" = none
  top : (P.main.scope.names.lookup ("super" : Str)).isSome = false
  ox : OexC K C
/-- and of its __init__ -/
structure SupFn (P : Program) (K : PySem.W.Frag) (st : Stmt) (qual : Str) (C f : Addr) (fd : FuncData) : Prop where
  ex : ∃ (oc : Value) (od : Option Addr) (kV doc pm : Value) (an : Option Addr) (cda : Addr) (ct : Value) (cc : Addr) (sl : Array (Option Value)),
    fd = ksFn "__init__" qual (defArgs st) (defBody st) (defScope st) .none kV doc pm an (.ref cda) ct cc ∧ K.lookup f = some ⟨oc, od, .func fd, sl⟩ ∧ PySem.W.codeIn K (.ref cda) qual = true ∧
    (∃ (a : Value) (b : Option Addr) (vs : Array Value) (d : Array (Option Value)) (file : Str) (tf : Tok), K.lookup cda = some ⟨a, b, .fields vs, d⟩ ∧ vs[2]? = some (.str file tf) ∧ ((P.main.file : Str) == file) = true) ∧
    ∃ (a : Value) (b : Option Addr) (d : Array (Option Value)), K.lookup cc = some ⟨a, b, .cell (some (.ref C)), d⟩
section
variable {CX : CXT} {P : Program} {w : World} {K : PySem.W.Frag} {mg : Str → Option Value} {base : Heap} {N ps : List Str} {qual : Str} {scope : Scope} {f cc cda C a : Addr} {A : Around} {outer : List Env} {s0 : Shared} {H0 : Hp} {E : XK}
variable {oc : Value} {od : Option Addr} {fd : FuncData} {sl : Array (Option Value)} {vs : Array Value} {file : Str} {tf : Tok}
theorem mw_call {X : Cx} {pins : List (Addr × Obj)} {σ : L2.St} {H : Hp} {s : Shared} {u : Addr} {us : List Value} {Q : Value → Shared → Prop} {B : Around} {EE : Value → Shared → Prop} (T : OexC X.K C) (I : Inv X ((u, PySem.W.kxs_mw "ValueError.__init__" a) :: pins) σ H s)
    (ea : H a = some (exo a C none)) (hz : us.length ≤ sizeLine) (q : ∀ s', Inv X ((u, PySem.W.kxs_mw "ValueError.__init__" a) :: pins) σ H s' → Q .none s') :
    wpAny (model X.prog X.w) B (call (.ref u) us) Q EE s := by
  obtain ⟨nm, q0, N0, bs, bm, sn, sub, ab, col, dd, k0, k1, k2, k3, k5, hC, hbm⟩ := T.cls
  obtain ⟨t1, ho⟩ := exo_at I.hok ea
  have hu := ClX.pin_at I
  have KX := I.kIn
  have eu : upd H a (exo a C none) = H := by
    funext b
    by_cases hb : b = a
    · rw [hb, upd_same, ea]
    · rw [upd_ne hb]
  have T1 : (Value.type "method-wrapper" == Value.type "method" || Value.type "method-wrapper" == Value.type "builtin_function_or_method" || Value.type "method-wrapper" == Value.type "method-wrapper") = true := by decide
  obtain ⟨hp, g, d, t, os⟩ := s
  refine wpAny_call (codeAny_of_tree ?_)
  show wpAny _ _ (callAny (.ref u) ⟨us, []⟩) _ _ _
  unfold callAny
  refine wpAny_bind (wpAny_load hu ?_)
  simp only [PySem.W.kxs_mw, T1, if_true]
  refine PySem.W.KFB.if_so (by decide) ?_
  refine wpAny_bind (PySem.W.check_bound_init F.excBase_ValueError.toExcCallFacts (KX _ _ hC) ho rfl ?_)
  refine wpAny_bind (wpAny_pure (wpAny_pure ⟨PySem.plainId_quiet F.excBase_ValueError.init.plain _, codeAny_builtin F.excBase_ValueError.initEntry ?_⟩))
  refine PySem.W.exc_init_tree (cls := .ref C) (t0 := t1) (dv := none) (c2 := .none) (c3 := .none) (b4 := .bool false) ho hz fun h' k e1 _ => ?_
  have J := I.write (t' := t) (x := a) (e := a) (o := exo a C none) (by rw [ea]; exact True.intro) (.inl rfl) k ⟨_, e1⟩ (exo_ok e1)
  rw [eu] at J
  exact q _ J

/-- super().__init__(e, ..) at the head of the body -/
theorem sup_run {an : Option Addr} {kV doc pm ct : Value} {body : List Stmt} {args : Arguments} {σ : L2.St} {H : Hp} {s : Shared} {ta : TA} {e : Expr} {es : List Expr} {p0 p1 p2 p3 p4 : Pos} {ar : Arg} {Q : Flow → Shared → Prop}
    (S : SupScope N ps scope) (D : SupCls P K mg C)
    (lk : K.lookup f = some ⟨oc, od, .func (ksFn "__init__" qual args body scope .none kV doc pm an (.ref cda) ct cc), sl⟩) (har : (args.posonlyargs ++ args.args).head? = some ar)
    (lc : ∃ (a : Value) (b : Option Addr) (vs : Array Value) (d : Array (Option Value)) (file : Str) (tf : Tok), K.lookup cda = some ⟨a, b, .fields vs, d⟩ ∧ vs[2]? = some (.str file tf) ∧ ((P.main.file : Str) == file) = true)
    (lq : ∃ (a : Value) (b : Option Addr) (d : Array (Option Value)), K.lookup cc = some ⟨a, b, .cell (some (.ref C)), d⟩)
    (I : Inv (cxSup CX P w K mg base N qual scope f (.ref cda) cc A outer s0 H0 E) [] σ H s) (h0 : σ[0]? = some (some (.ref a))) (hN : N[0]? = some ar.arg) (hloc : scope.names.lookup ar.arg = some .local)
    (ea : H a = some (exo a C none)) (hes : PA (cxSup CX P w K mg base N qual scope f (.ref cda) cc A outer s0 H0 E) (e :: es) ta)
    {R : Hp → Prop} (q : ta σ H fun us H1 => us.length ≤ 1000 ∧ H1 a = some (exo a C none) ∧ R H1)
    (cont : ∀ H1 s', R H1 → Inv (cxSup CX P w K mg base N qual scope f (.ref cda) cc A outer s0 H0 E) [] σ H1 s' → Q .next s')
    (he : starEach (e :: es) (ksEnv qual scope s0.heap.objs.size f (.ref cda) cc) = (false, eval e (ksEnv qual scope s0.heap.objs.size f (.ref cda) cc)) :: starEach es (ksEnv qual scope s0.heap.objs.size f (.ref cda) cc))
    (hpl : (backTo p3 (starEach es (ksEnv qual scope s0.heap.objs.size f (.ref cda) cc))).any (·.1) = false) 
    (hsw : swapsWith (.Call (.Attribute (.Call (.Name "super" p0) [] [] p1) "__init__" p2) (e :: es) [] p3) none p4.line (ksEnv qual scope s0.heap.objs.size f (.ref cda) cc) = pure false)
    {pl : Sem Bool} (hcall : eval (.Call (.Attribute (.Call (.Name "super" p0) [] [] p1) "__init__" p2) (e :: es) [] p3) (ksEnv qual scope s0.heap.objs.size f (.ref cda) cc) = (do
      let ov ← attributeBase (.Call (.Name "super" p0) [] [] p1) "__init__" (ksEnv qual scope s0.heap.objs.size f (.ref cda) cc) (eval (.Call (.Name "super" p0) [] [] p1) (ksEnv qual scope s0.heap.objs.size f (.ref cda) cc))
      standAt p2.atName
      let (fx, first) ← holding [ov] (getMethod ov "__init__" pl)
      callWith p3 fx first (backTo p3 (starEach (e :: es) (ksEnv qual scope s0.heap.objs.size f (.ref cda) cc))) []))
    (B : List Stmt) :
    PySem.wpAt (model P w) (A.deeper (ksEnv qual scope s0.heap.objs.size f (.ref cda) cc)) (.func B (ksEnv qual scope s0.heap.objs.size f (.ref cda) cc))
      (exec (.Expr (.Call (.Attribute (.Call (.Name "super" p0) [] [] p1) "__init__" p2) (e :: es) [] p3) p4) (ksEnv qual scope s0.heap.objs.size f (.ref cda) cc)) Q (cxSup CX P w K mg base N qual scope f (.ref cda) cc A outer s0 H0 E).xe s := by
  have KX : K.In s.heap := I.kIn
  obtain ⟨t1, hoe⟩ := exo_at I.hok ea
  obtain ⟨m, hn, hl⟩ := I.loc
  obtain ⟨u, ru, look⟩ := hl 0 ar.arg (.ref a) hN h0 (Or.inl hloc)
  obtain rfl : u = Value.ref a := ru
  have hm : m ar.arg = some (.ref a) := by
    rcases look with z | ⟨z, _⟩
    · exact z.2
    · have z : scope.names.lookup ar.arg = some .cell ∨ scope.names.lookup ar.arg = some .free := z
      rw [hloc] at z
      rcases z with z | z <;> cases z
  obtain ⟨c1, c2, vs, c3, file, tf, hcode, hvs, hfile⟩ := lc
  obtain ⟨c4, c5, c6, hcell⟩ := lq
  obtain ⟨cd, hcd⟩ := D.cd
  obtain ⟨mb, hb1, hb2⟩ := I.mod.blt
  obtain ⟨oD, hD1, hD2⟩ : ∃ oD, s.heap.get? C = some oD ∧ oD.data = .cls cd := by
    unfold PySem.W.clsIn at hcd
    split at hcd
    · rename_i ho
      cases hcd
      exact ⟨_, KX _ _ ho, rfl⟩
    · cases hcd
  obtain ⟨hh, g, d, t, os⟩ := s
  refine ks_wpAt_Expr_any ?_ I.quiet hsw
  refine ks_wpAt_MethodCall (he := hcall) ?_
  refine ks_wpAt_super_base (ar := ar) S.ks S.kc rfl rfl (KX _ _ lk) rfl har rfl (KX _ _ hcode) rfl hvs hfile D.top ?_
  refine PySem.W.ks_loadName_global S.kind S.ks (Calls.loadGlobal_builtin (I.mod.glob.keeps I.bk) D.mgs (hb1.keeps I.bk) ((hb2 _ (by decide)).trans PyProof.Rows.Boot.«super») ⟨rfl, ?_⟩)
  refine wpAny_loadName_free S.kind S.kc rfl ⟨_, KX _ _ hcell, rfl⟩ ?_
  refine wpAny_loadName_local S.kind hloc hn hm ?_
  refine ks_wpAny_isType_cls hD1 hD2 ⟨rfl, ?_⟩
  refine ks_wpAny_call_super hD1 hD2 hoe rfl (fun c z => by cases z) (PySem.W.looks_mroIn KX D.mro) (fun h' e1 k => ?_)
  have I1 := ClX.pin_new (t' := t) I k (Nat.le_refl _) e1 (fun v z => by cases z)
  have KX1 : K.In h' := I1.kIn
  have hca : a ≠ C := fun z => by
    subst z
    rw [hoe] at hD1
    cases hD1
    cases hD2
  have hsI : PySem.W.Looks (model P w) h' (isInstance (.ref a) (.type "ValueError")) true := by
    have II : PySem.W.InstAt h' a _ C none := ⟨k _ _ hoe, rfl, rfl, trivial⟩
    exact II.type.andThen (PySem.W.looks_subIn KX1 D.ve)
  have hsup := D.sup
  unfold PySem.W.ks_superIn at hsup
  rw [hcd] at hsup
  refine PySem.W.kxs_getMethod PySem.W.kxs_ValueError e1 (PySem.W.looks_opaque KX1 D.opq) (l₀ := cd.mro) (fun A Q E s k q => wpAny_bind ((PySem.W.looks_clsIn KX1 hcd) A _ E s k (wpAny_pure q))) rfl KX1 hsup hsI hca rfl ?_
  have I2 := ClX.pin_new (t' := t + 1) I1 (h' := h'.push (PySem.W.kxs_mw "ValueError.__init__" a)) (o := PySem.W.kxs_mw "ValueError.__init__" a) (fun b o z => Heap.get?_push_of_some _ z) (Nat.le_refl _) (Heap.get?_push_at rfl rfl) (fun v z => by cases z)
  dsimp only
  rw [he]
  refine PySem.W.kxs_callWith (i := "ValueError.__init__") (x := a) (by show (false || (backTo p3 (starEach es _)).any (·.1)) = false; rw [hpl]; rfl) (Calls.evalArgs_plain ?_)
  have run := hes.run p3 _ _ σ H _ I2 q
  rw [show starEach (e :: es) (cxSup CX P w K mg base N qual scope f (.ref cda) cc A outer s0 H0 E).env = _ from he] at run
  refine thn run fun us s1 ⟨xs, H1, I3, r1, hz, ea1, q1⟩ => ⟨ClX.pin_at I3, ?_⟩
  have hlen : us.length ≤ sizeLine := by
    rw [← Paired.length r1, sizeLine_eq]
    omega
  exact mw_call D.ox I3 ea1 hlen fun s' J => cont _ s' q1 (ClX.unpin (ClX.unpin J))

/-- such an __init__, by what it says behind super() -/
theorem sup_ok {st : Stmt} {fd : FuncData} {k : Nat} {sp : Sp} {body : List Stmt} {e : Expr} {p0 p1 p2 p3 p4 : Pos} {ar : Arg} {pl : Sem Bool} (F : SupFn P K st qual C f fd) (S : SupScope N ps (defScope st)) (D : SupCls P K mg C)
    (hb : defBody st = .Expr (.Call (.Attribute (.Call (.Name "super" p0) [] [] p1) "__init__" p2) [e] [] p3) p4 :: body) (har : ((defArgs st).posonlyargs ++ (defArgs st).args).head? = some ar) (hN : N[0]? = some ar.arg)
    (he : ∀ env : Env, starEach [e] env = [(false, eval e env)])
    (hsw : ∀ env : Env, swapsWith (.Call (.Attribute (.Call (.Name "super" p0) [] [] p1) "__init__" p2) [e] [] p3) none p4.line env = pure false)
    (hcall : ∀ env : Env, eval (.Call (.Attribute (.Call (.Name "super" p0) [] [] p1) "__init__" p2) [e] [] p3) env = (do
      let ov ← attributeBase (.Call (.Name "super" p0) [] [] p1) "__init__" env (eval (.Call (.Name "super" p0) [] [] p1) env)
      standAt p2.atName
      let (fx, first) ← holding [ov] (getMethod ov "__init__" pl)
      callWith p3 fx first (backTo p3 (starEach [e] env)) []))
    (len : ∀ vs H Q E, sp vs H Q E → vs.length = ps.length)
    (hbody : ∀ (cda : Value) (cc : Addr) (A : Around) (outer : List Env) (s : Shared) (H : Hp) (vs : List V) (Q : VK) (E : XK), Room k (A.deeper (ksEnv qual (defScope st) s.heap.objs.size f cda cc)) → sp vs H Q E →
      ∃ (a : Addr) (te : TE) (t : TS), vs[0]? = some (.ref a) ∧ H a = some (exo a C none) ∧ PE (cxSup CX P w K mg base N qual (defScope st) f cda cc A outer s H E) e te ∧ PSs (cxSup CX P w K mg base N qual (defScope st) f cda cc A outer s H E) body t ∧
        te (L2.start N vs) H fun x H1 => [x].length ≤ 1000 ∧ H1 a = some (exo a C none) ∧ t { nx := fun _ H' => Q .non H', rt := Q } (L2.start N vs) H1) : FnOk P w K mg base CX (k + 1) f fd ps sp := by
  obtain ⟨oc, od, kV, doc, pm, an, cda, ct, cc, sl, rfl, lk, hcd, lc, lq⟩ := F.ex
  refine ⟨len, fun A outer s H args us vs Q E hr e0 hbi r hsp => ?_⟩
  have hl := len _ _ _ _ hsp
  have KX : K.In s.heap := e0.mod.kin.keeps fun b o e => (e0.bs b o e).1
  have lim : s.heap.NoLimit := e0.mod.nolimit.keeps fun b o e => (e0.bs b o e).1
  obtain ⟨c4, c5, c6, hcell⟩ := lq
  refine ks_codeAny_call_defAt (body := defBody st) hr.depth (KX _ _ lk) rfl lim (PySem.W.codeRec_of KX hcd) rfl hbi S.nocell (fun ⟨n, v⟩ hy => S.par n (List.of_mem_zip hy).1) (fun h1 hns hk => ?_) S.co S.gen S.kind
  obtain ⟨a, te, t, hv, ea, pe, pss, q⟩ := hbody (.ref cda) cc A outer s H vs Q E (hr.deeper _) hsp
  have I : Inv (cxSup CX P w K mg base N qual (defScope st) f (.ref cda) cc A outer s H E) [] (L2.start N vs) H _ := inv_sup (t := s.toks + (ps.zip us).length) S hr.hd e0 hl r hcell hns hk
  have fin : ∀ {σ' : L2.St} {H' : Hp} {v : V} {u : Value} {s' : Shared}, Inv (cxSup CX P w K mg base N qual (defScope st) f (.ref cda) cc A outer s H E) [] σ' H' s' → RelV v u → Q v H' → CE outer P w H s Q u s' :=
    fun {σ' H' v u s'} J rv q => ⟨v, H', J.os, J.bare, J.base, J.hok, rv, q⟩
  have h0 : (L2.start N vs)[0]? = some (some (V.ref a)) := by
    unfold L2.start
    rw [List.getElem?_append_left (by rw [List.length_map]; exact (List.getElem?_eq_some_iff.mp hv).1), List.getElem?_map, hv]
    rfl
  have hloc : (defScope st).names.lookup ar.arg = some .local := S.par _ (by rw [← S.eqN]; exact List.mem_of_getElem? hN)
  show PySem.wpAt _ _ _ (execs (defBody st) _) _ _ _
  rw [hb]
  refine ks_wpAt_execs_cons ?_
  refine sup_run S D lk har lc ⟨c4, c5, c6, hcell⟩ I h0 hN hloc ea (pa_cons pe pa_nil (he _)) q (fun H1 s1 q1 J => ?_) (he _) rfl (hsw _) (hcall _) _
  refine wpAt_of_wpAny (wpAny_mono (pss.run [] s1 (L2.start N vs) H1 _ J q1) (fun fl s' hs => ?_) fun e s' hs => hs)
  cases fl with
  | ret u =>
    obtain ⟨v, σ', H', J, rv, q⟩ := hs
    exact fin J rv q
  | next =>
    obtain ⟨σ', H', J, q⟩ := hs
    exact fin (v := V.non) (u := Value.none) J rfl q
  | brk =>
    obtain ⟨_, _, _, q⟩ := hs
    exact False.elim q
  | cont =>
    obtain ⟨_, _, _, q⟩ := hs
    exact False.elim q
end
end My
set_option maxRecDepth 100000
set_option maxHeartbeats 1000000
namespace My
open PySem PySem.Spec PyProof.Rows L2
/-! ### max(x, default=d) of a list of whole numbers -/
theorem ints_reads {h : Heap} : ∀ {ns : List Int} {us : List Value}, Vals (ns.map V.int) us → ReadsAll h us (ns.map PyData.int) []
  | [], _, .nil => .nil
  | n :: ns, _, .cons r t => by
    obtain ⟨tk, rfl⟩ := r
    exact ReadsAll.cons (as := []) (bs := []) (.int n tk) (ints_reads t)
theorem alike_ints (ns : List Int) : PySem.W.AlikeAll (ns.map PyData.int) := by
  refine ⟨fun x hx y hy => ?_, fun x hx => ?_⟩
  · obtain ⟨i, _, rfl⟩ := List.mem_map.mp hx
    obtain ⟨j, _, rfl⟩ := List.mem_map.mp hy
    rfl
  · obtain ⟨i, _, rfl⟩ := List.mem_map.mp hx
    exact fun z => nomatch z
theorem depth_ints : ∀ ns : List Int, PyData.depthAll (ns.map PyData.int) ≤ 1
  | [] => by simp [PyData.depthAll]
  | n :: ns => by
    have := depth_ints ns
    simp only [List.map_cons, PyData.depthAll, PyData.depth]
    omega
theorem foldl_max (ns : List Int) : ∀ n : Int, (ns.foldl max n ∈ n :: ns) ∧ ∀ y ∈ n :: ns, y ≤ ns.foldl max n := by
  induction ns with
  | nil => intro n; simp
  | cons k r ih =>
    intro n
    obtain ⟨h1, h2⟩ := ih (max n k)
    rw [List.foldl_cons]
    refine ⟨?_, fun y hy => ?_⟩
    · rcases List.mem_cons.mp h1 with e | e
      · rw [e]
        rcases Int.le_total n k with z | z
        · rw [Int.max_eq_right z]; simp
        · rw [Int.max_eq_left z]; simp
      · exact List.mem_cons_of_mem _ (List.mem_cons_of_mem _ e)
    · have hm := h2 (max n k) List.mem_cons_self
      rcases List.mem_cons.mp hy with e | e
      · rw [e]; omega
      · rcases List.mem_cons.mp e with e | e
        · rw [e]; omega
        · exact h2 y (List.mem_cons_of_mem _ e)
section
variable {X : Cx}
def rMaxDf (K : PySem.W.Frag) : List V → List V → Hp → VK → Prop := fun xs zs H Q => ∃ (a : Addr) (ns : List Int) (d : Int), xs = [.ref a] ∧ zs = [.int d] ∧ SqL K H a (ns.map V.int) ∧
  (ns = [] → Q (.int d) H) ∧ ∀ m, m ∈ ns → (∀ y ∈ ns, y ≤ m) → Q (.int m) H
theorem call_maxDf (hc : X.calm = true) (hu : X.A.units + 10 < cLine) : CallRK X (.builtin "max") ["default"] (rMaxDf X.K) := by
  intro pins s σ H xs zs us ws Q I r rz h
  obtain ⟨a, ns, d, rfl, rfl, hq, h0, h1⟩ := h
  obtain rfl := Vals.ref1 r
  obtain ⟨w, rfl, rw'⟩ := rz.one
  obtain ⟨its, rv, pl, hz⟩ := I.list hq
  have hd := depth_ints ns
  refine PySem.W.max_list_default (I.ok.hd hc) pl.isList (xs := ns.map PyData.int) (as := []) (by rw [List.toList_toArray]; exact ints_reads rv) (alike_ints ns) (by show X.A.units + 1 + _ < _; omega) (fun e h' tk k => ?_) fun y ys i v h' tk bs e hv rd k => ?_
  · exact ⟨.int d, H, I.kept (t' := tk) k, rw', h0 (List.map_eq_nil_iff.mp e)⟩
  · cases ns with
    | nil => cases e
    | cons n ns =>
      rw [List.map_cons] at e
      obtain ⟨rfl, rfl⟩ := List.cons.inj e
      rw [PySem.W.maxD_ints] at rd
      obtain ⟨t0, rfl, _⟩ := reads_int_inv rd
      obtain ⟨m1, m2⟩ := foldl_max ns n
      exact ⟨.int (ns.foldl max n), H, I.kept (t' := tk) k, ⟨_, rfl⟩, h1 _ m1 m2⟩
/-! ### isinstance(e, c) of a caught error with fields -/
theorem call_isExD {a : Addr} {oe : Obj} {cls : Value} {d : Option Addr} {pn : List (Addr × Obj)} (hz : Zc cls d oe) (hf : ∃ vs, oe.data = .fields vs) :
    CallR (X.suite a ((a, oe) :: pn)) (.builtin "isinstance") (fun xs H Q => ∃ D dd fs, cls = .ref D ∧ d = some dd ∧ H dd = some (.xd fs) ∧ ExcC X.K D ∧ rIsE X.K D a xs H Q) := by
  intro pins s σ H xs us Q I r h
  obtain ⟨D, dd, fs, rfl, rfl, hd, C, c, cv, b, rfl, hcv, e, q⟩ := h
  cases r with
  | cons rx rr =>
    cases rr with
    | cons rt rr =>
      cases rr
      cases rx
      have ec := hcv _ rt
      subst ec
      obtain ⟨hget, _⟩ := I.pin (a, oe) (List.mem_append.mpr (.inl List.mem_cons_self))
      obtain ⟨vs, hv⟩ := hf
      have hx : ObjOk X.prog X.w H s.heap dd (.xd fs) := I.hok dd _ hd
      obtain ⟨mA, ⟨od, es, ep, ho, _⟩, _⟩ := hx
      have J : PySem.W.InstAt s.heap a oe D (some od) := ⟨hget, hz.1, by unfold PySem.W.notCls; rw [hv] <;> rfl, by rw [hz.2]; exact ho⟩
      obtain ⟨cdD, hcD, _⟩ := PySem.W.any_some C.hd
      refine PySem.W.kia_one (PySem.W.kitx_exc (od := some od) (by rw [hcD]; rfl) C.hg C.hk C.hs C.ha C.hn C.ht C.hm) I.kIn J e (fun z => nomatch z) fun tk => ⟨.bl b, H, I.kept (t' := tk) fun _ _ z => z, rfl, q⟩
end
/-! ### what such a class has, by a check -/
theorem tail_refs : ∀ {l : List Value}, PySem.W.excTail [.type "ValueError", .type "Exception", .type "BaseException", .type "object"] l = true → PySem.HandSPX.refsVE l = true := by
  intro l
  induction l with
  | nil => intro h; revert h; decide
  | cons a t ih =>
    intro h
    cases a <;> first | exact ih h | exact h
theorem oex_of {K : PySem.W.Frag} {C : Addr} (q : PySem.W.excInitIn K C [.type "ValueError", .type "Exception", .type "BaseException", .type "object"] "ValueError.__new__" = true) (hd : PySem.W.hasDictIn K C = true)
    (sa : PySem.W.findIn K (.ref C) "__setattr__" = some (some (.builtin "object.__setattr__"))) (bp : PySem.W.subIn K (.ref C) (.type "BaseException") = some true) (tp : PySem.W.typeIn K (.ref C) = some (.type "type")) (kp : PySem.W.keepIn K (.ref C) = true) : OexC K C := by
  refine ⟨?_, sa, bp, tp, kp⟩
  unfold PySem.W.excInitIn at q
  split at q
  · rename_i dd cd sl ho
    split at q
    · rename_i C' bm k0 k1 k2 k3 n k5 hm hs
      simp only [Bool.and_eq_true, beq_iff_eq, Bool.not_eq_true'] at q
      obtain ⟨⟨⟨e1, e2⟩, hdel⟩, ht⟩ := q
      subst e1
      subst e2
      obtain ⟨cd1, hc1, hd1⟩ := PySem.W.any_some hd
      have ec : PySem.W.clsIn K C' = some cd := by unfold PySem.W.clsIn; rw [ho]
      rw [ec] at hc1
      cases hc1
      obtain ⟨nm, bs, mro, ns, qn, hdc, sn, sub, ab, col, del⟩ := cd
      dsimp only at hm hdel hd1
      subst hm
      subst hdel
      subst hd1
      have hsl : sl = #[k0, k1, k2, k3, some (.builtin "ValueError.__new__"), k5] := by
        obtain ⟨l⟩ := sl
        simp only at hs
        rw [hs]
      subst hsl
      exact ⟨nm, qn, ns, bs, bm, sn, sub, ab, col, dd, k0, k1, k2, k3, k5, ho, tail_refs ht⟩
    · cases q
  · cases q
/-! ### the promises of such an __init__ -/
/-- one field -/
def spX1 (C : Addr) (f : Str) (P : V → Prop) : Sp := fun vs H Q _ => ∃ (a : Addr) (y : V), vs = [.ref a, y] ∧ P y ∧ H a = some (exo a C none) ∧ ∀ d, H d = none → d ≠ a → Q .non (upd (upd H d (exd d [(f, y)])) a (exo a C (some d)))
def smallI (y : V) : Prop := ∃ i : Int, y = .int i ∧ i.natAbs < 1000000
theorem small_log {i : Int} (h : i.natAbs < 1000000) : i.natAbs.log2 < 1920 := by
  rcases Nat.eq_zero_or_pos i.natAbs with e | e
  · rw [e]; decide
  · exact Nat.lt_of_lt_of_le ((Nat.log2_lt (by omega)).mpr (Nat.lt_of_lt_of_le h (by decide : 1000000 ≤ 2 ^ 20))) (by decide)
end My
set_option maxRecDepth 100000
set_option maxHeartbeats 1000000
namespace My
open PySem PySem.Spec PyProof.Rows L2
/-! ### iter(t) of a tuple; list(o), o's class with its own __iter__ (a tuple's iterator) and its own __len__ -/
/-- a tuple's iterator at it, over the tuple at l, the next place i -/
def TitO (l it : Addr) (i : Nat) : HO := .ext fun h => h.IsTupleIter it l i
/-- at it stands something -/
def AnyO (it : Addr) : HO := .ext fun h => ∃ o, h.get? it = some o
theorem titO_ok {P : Program} {w : World} {H : Hp} {h : Heap} {l it : Addr} {i : Nat} (e : h.IsTupleIter it l i) : ObjOk P w H h it (TitO l it i) :=
  ⟨e, ⟨_, e.choose_spec.1⟩, fun h1 h2 q k => let ⟨o, ho, r⟩ := q; ⟨o, k _ ho, r⟩⟩
theorem anyO_ok {P : Program} {w : World} {H : Hp} {h : Heap} {it : Addr} (e : ∃ o, h.get? it = some o) : ObjOk P w H h it (AnyO it) := ⟨e, e, fun h1 h2 q k => let ⟨o, ho⟩ := q; ⟨o, k _ ho⟩⟩
section
variable {X : Cx} {pins : List (Addr × Obj)} {σ : L2.St} {H : Hp} {s : Shared} {l it S : Addr} {i : Nat}
theorem titO_get (I : Inv X pins σ H s) (e : H it = some (TitO l it i)) : s.heap.IsTupleIter it l i := (I.hok it _ e).1
theorem call_iterT : CallR X (.builtin "iter") (fun xs H Q => ∃ (l : Addr) (zs : List V), xs = [.ref l] ∧ SqT X.K H l zs ∧ ∀ it, H it = none → Q (.ref it) (upd H it (TitO l it 0))) := by
  intro pins s σ H xs us Q I r h
  obtain ⟨l, zs, rfl, hq, q⟩ := h
  obtain rfl := Vals.ref1 r
  obtain ⟨its, rv, pl, hz⟩ := I.tuple hq
  refine Calls.call_function_entry (by decide +kernel) (by decide +kernel) PySem.W.kdk_entry_iter (PySem.W.kdk_args_iter _) ?_
  unfold Builtin.«iter»
  refine wpAny_bind (m := someArgs "iter" 1 2 _) (wpAny_of_eq (a := [Value.ref l]) (by first | rfl | kernel_rfl!) ?_)
  show wpAny _ _ (pyIter (.ref l) >>= _) _ _ _
  refine wpAny_bind (wpAny_pyIter_tuple (show s.heap.IsTuple l its.toArray from pl) (wpAny_pure ⟨_, rfl, ?_⟩))
  exact ⟨.ref s.heap.objs.size, _, I.laid (t' := s.toks) (fun b u e => Heap.get?_push_of_some _ e) (Nat.le_refl _) (titO_ok ⟨_, Heap.get?_push_size _ rfl, rfl, rfl⟩), rfl, q _ (I.hok.fresh (Nat.le_refl _))⟩
/-- the end of a tuple's iterator; its record stays -/
theorem tup_end {prog : Program} {w : World} {A : Around} {E : Value → Shared → Prop} {items : Array Value} {Q : Option Value → Shared → Prop} (hh : A.handled = none) (hit : s.heap.IsTupleIter it l i) (ht : s.heap.IsTuple l items) (hx : items[i]? = none)
    (hQ : ∀ h', (∀ b o, b ≠ it → s.heap.get? b = some o → h'.get? b = some o) → (∃ o, h'.get? it = some o) → Q none { s with heap := h' }) : wpAny (model prog w) A (pyNext (.ref it)) Q E s := by
  obtain ⟨o, ho, hc, hd⟩ := id hit
  obtain ⟨ol, hol, _, nl, hdl⟩ := ht
  have hup := Heap.get?_update_self (Obj.mapFields (·.setIfInBounds 0 Value.none)) ho (Obj.isFreed_of_fields (Obj.data_mapFields hd _))
  unfold pyNext
  refine wpAny_bind (wpAny_attempt (wpAny_callSpecial?_slot (name := Str.ofString "__next__") hit.typeIs PySem.F.slot_tuple_iterator_next (wpAny_call_entry PySem.F.slot_tuple_iterator_next hit.typeIs PySem.F.entry_tuple_iterator_next ?_ (PySem.F.args_tuple_iterator_next_1 _))))
  show wpAny _ _ (field (.ref it) 0 >>= _) _ _ s; refine wpAny_bind (wpAny_field ho hd (x := .ref l) rfl ?_); show wpAny _ _ (if (Value.ref l == Value.none) = true then _ else _) _ _ s
  rw [if_neg (fun z => by revert z; exact Bool.false_ne_true : ¬ ((Value.ref l == Value.none) = true))]; show wpAny _ _ (field (.ref it) 1 >>= _) _ _ s
  refine wpAny_bind (wpAny_field ho hd (x := .int i 0) rfl ?_); show wpAny _ _ (seqItems? (.ref l) >>= _) _ _ s
  refine wpAny_bind (wpAny_seqItems hol hdl ?_)
  simp only [Int.toNat_natCast, hx]
  refine wpAny_bind (wpAny_rule (wpAny_bind (wpAny_setField ho hd (by simp) ?_))); show wpAny _ _ (newExc (.type "StopIteration") [] >>= _) _ _ _
  refine wpAny_bind ?_
  simp only [newExc, newTuple]
  refine wpAny_bind (wpAny_newObj_type ?_ (by size_fits)); refine wpAny_bind (m := firstArgMember _ _) (wpAny_of_eq (a := Value.none) (by first | rfl | (simp only [firstArgMember]; rfl)) ?_)
  refine wpAny_newObj_type ?_ (by size_fits)
  simp only [raiseNew]
  refine wpAny_bind (wpAny_handled ?_)
  first | rw [show A.in1.handled = none from hh] | rw [hh]
  refine wpAny_bind (wpAny_pure (wpAny_throw ?_))
  refine wpAny_bind (wpAny_isInstance (T := "StopIteration") (b := true) ⟨_, Heap.get?_push_size _ rfl, rfl⟩ isSubtype_stop (wpAny_pure (hQ _ (fun b ob hb e => ?_) ⟨_, Heap.get?_push_of_some _ (Heap.get?_push_of_some _ hup)⟩)))
  exact Heap.get?_push_of_some _ (Heap.get?_push_of_some _ ((Heap.get?_update_other _ _ (Ne.symm hb)).trans e))
/-- list.extend over it -/
theorem tit_loop {A1 : Around} {ys : List V} {Rs : Result → Shared → Prop} (hh : A1.handled = none) :
    ∀ (k i : Nat) (H : Hp) (s : Shared), ys.length - i = k → i ≤ ys.length → Inv X pins σ H s → H it = some (TitO l it i) → H l = some (.tup ys) → H S = some (.lst (ys.take i)) → ys.length < sizeLine →
      (∀ H2 s2, Inv X pins σ H2 s2 → (∀ b, b ≠ it → b ≠ S → H2 b = H b) → H2 S = some (.lst ys) → Rs (.ok (.ret .none)) s2) → codeAny (model X.prog X.w) A1 (.builtin "list.extend.loop" ⟨[.ref S, .ref it, .none], []⟩) Rs s := by
  intro k
  induction k with
  | zero =>
    intro i H s hk hi I h1 h2 h3 hz hR
    have hne : S ≠ it := ne_of h3 h1 (fun z => nomatch z)
    obtain ⟨its, rv, pl, _⟩ := I.tuple (SqT.of h2)
    refine codeAny_builtin PySem.F.entry_extend_loop ?_
    rw [Around.under_plainId PySem.F.plain_extend_loop _]
    show wpAny _ A1.in1 (pyNext (.ref it) >>= _) _ _ s
    have hno : (its.toArray)[i]? = none := by
      have := rv.length
      rw [List.getElem?_toArray, List.getElem?_eq_none_iff]
      omega
    refine wpAny_bind (tup_end hh (titO_get I h1) (show s.heap.IsTuple l its.toArray from pl) hno fun h' k' e' => wpAny_pure ?_)
    have J := I.write (t' := s.toks) (x := it) (e := it) (o := AnyO it) (by rw [h1]; exact True.intro) (.inl rfl) k' e' (anyO_ok e')
    refine hR _ _ J (fun b hb _ => upd_ne hb) ?_
    rw [upd_ne hne, h3, List.take_of_length_le (by omega)]
  | succ k ih =>
    intro i H s hk hi I h1 h2 h3 hz hR
    have hne : S ≠ it := ne_of h3 h1 (fun z => nomatch z)
    have hln : l ≠ it := ne_of h2 h1 (fun z => nomatch z)
    have hlS : l ≠ S := ne_of h2 h3 (fun z => nomatch z)
    obtain ⟨its, rv, pl, _⟩ := I.tuple (SqT.of h2)
    have hlen := rv.length
    have hlt : i < ys.length := by omega
    obtain ⟨u, hu, ru⟩ := rv.get (i := i) (x := ys[i]) (by simp [hlt])
    refine codeAny_builtin PySem.F.entry_extend_loop ?_
    rw [Around.under_plainId PySem.F.plain_extend_loop _]
    show wpAny _ A1.in1 (pyNext (.ref it) >>= _) _ _ s
    refine wpAny_bind (wpAny_pyNext_tuple_item (titO_get I h1) (show s.heap.IsTuple l its.toArray from pl) (x := u) (by rw [List.getElem?_toArray]; exact hu) fun h' hit hs => ?_)
    have J := I.write (t' := s.toks) (x := it) (e := it) (o := TitO l it (i + 1)) (by rw [h1]; exact True.intro) (.inl rfl) (fun b o hb e => hs.extBut b o hb e) ⟨_, hit.choose_spec.1⟩ (titO_ok hit)
    have h3' : upd H it (TitO l it (i + 1)) S = some (.lst (ys.take i)) := by rw [upd_ne hne]; exact h3
    show wpAny _ A1.in1 (updateSeq S (·.push u) >>= _) _ _ _
    obtain ⟨z, its3, n3, r3, hl3, e3⟩ := J.lstM h3'
    have hl4 : its3.length = i := by rw [← hl3, List.length_take]; omega
    refine wpAny_bind (wpAny_updateSeq e3 rfl (wpAny_pure ⟨plainId_quiet PySem.F.plain_extend_loop _, ?_⟩) (by rw [List.size_toArray]; omega) (by show (its3.toArray.push u).size ≤ sizeLine + 1; rw [Array.size_push, List.size_toArray]; omega))
    have et : ys.take (i + 1) = ys.take i ++ [ys[i]] := by rw [List.take_succ]; simp [hlt]
    have J2 := J.lset (f := (·.push u)) (its' := its3 ++ [u]) (t' := s.toks) (ys := ys.take (i + 1)) h3' e3 (by simp) (by rw [et]; exact r3.append (.cons ru .nil)) (by rw [List.length_take]; omega)
    refine ih (i + 1) _ _ (by omega) hlt J2 ?_ ?_ upd_same hz fun H2 s2 I2 k2 e2 => hR H2 s2 I2 (fun b hb hc => ?_) e2
    · rw [upd_ne (Ne.symm hne), upd_same]
    · rw [upd_ne hlS, upd_ne hln]; exact h2
    · rw [k2 b hb hc, upd_ne hc, upd_ne hb]
/-- what such a class must have -/
structure ItL (K : PySem.W.Frag) (C fi fl : Addr) : Prop where
  it : PySem.W.findIn K (.ref C) "__iter__" = some (some (.ref fi))
  itF : PySem.W.isFn K (.ref fi) = true
  ln : PySem.W.findIn K (.ref C) "__len__" = some (some (.ref fl))
  lnF : PySem.W.isFn K (.ref fl) = true

/-- list(o): its __iter__ gives a tuple's iterator, its __len__ a number -/
def rLstIt (C : Addr) (spI spL : Sp) (EI EL : XK) : List V → Hp → VK → Prop := fun xs H Q => ∃ a dx fs, xs = [.ref a] ∧ H a = some (.ins C dx fs) ∧ ∀ q, H q = none → q ≠ a →
  spI [.ref a] (upd H q (.lst [])) (fun v H1 => ∃ it l ys, v = .ref it ∧ H1 it = some (TitO l it 0) ∧ H1 l = some (.tup ys) ∧ H1 q = some (.lst []) ∧ H1 a = some (.ins C dx fs) ∧ ys.length < sizeLine ∧
    spL [.ref a] H1 (fun n H2 => H2 = H1 ∧ ∃ k : Int, n = .int k ∧ 0 ≤ k ∧ k < 1000) EL ∧ ∀ H2, (∀ b, b ≠ it → b ≠ q → H2 b = H1 b) → H2 q = some (.lst ys) → Q (.ref q) H2) EI
section
variable {X : Cx} {CI : CXT} {n : Nat} {C fi fl : Addr} {fdI fdL : FuncData} {psI psL : List Str} {spI spL : Sp} {EI EL : XK}
theorem call_at0 {f : Addr} {fd : FuncData} {ps : List Str} {sp : Sp} {E : XK} (G0 : FnOk X.prog X.w X.K X.mg X.base CX0 n f fd ps sp) (hb : Binds X.K fd ps []) {A : Around} (hr : Room n A) (hA : A.frames = X.A.frames)
    {pins : List (Addr × Obj)} {s : Shared} {σ : L2.St} {H : Hp} (I : Inv X pins σ H s) {vs : List V} {us : List Value} (r : Vals vs us) {Q : VK} {EE : Value → Shared → Prop} (h : sp vs H Q E) :
    wpAny (model X.prog X.w) A (call (.ref f) us) (EP X pins σ Q) EE s := by
  have e0 : Env0 X.prog X.w X.K X.mg X.base A X.stack s H := by
    have e := I.env0
    exact ⟨by rw [hA]; exact e.frames, e.mod, e.bs, e.bsz, e.funs, e.frf, e.hok, e.bare⟩
  have hl := G0.len _ _ _ _ h
  refine wpAny_call (codeAny_mono (G0.run A X.stack s H ⟨us, []⟩ us vs Q E hr e0 (by
    have := hb s us I.kIn (by rw [List.append_nil, ← r.length]; exact hl)
    simpa using this) r h) fun r s' hq => ?_)
  cases r with
  | error e => exact False.elim hq
  | ok fl =>
    cases fl with
    | ret w => exact I.after hq
    | next => exact False.elim hq
    | brk => exact False.elim hq
    | cont => exact False.elim hq
theorem call_listIt (hc : ItL X.K C fi fl) (FI : FnOk X.prog X.w X.K X.mg X.base CI n fi fdI psI spI) (bI : Binds X.K fdI psI []) (xI : Passes CI X EI)
    (FL : FnOk X.prog X.w X.K X.mg X.base CX0 n fl fdL psL spL) (bL : Binds X.K fdL psL []) (hr : Room (n + 4) X.A) : CallR X (.type "list") (rLstIt C spI spL EI EL) := by
  intro pins s σ H xs us Q I rv h
  obtain ⟨a, dx, fs, rfl, ha, hq⟩ := h
  obtain ⟨u, rfl, ru⟩ := rv.one
  cases ru
  have sb : Sub X (n + 2) X.A.in1.in1 := (Sub.in1 (Sub.in1 (⟨hr, rfl⟩ : Sub X (n + 4) X.A)))
  refine callType_codes (Q₁ := fun obj s₁ => obj = .ref s.heap.objs.size ∧ s₁ = { s with heap := s.heap.push { cls := .type "list", data := .seq #[] } }) PySem.F.called_list (PySem.F.typeCall_list_1 _) PySem.F.entry_list_init (code_list_new _ ⟨rfl, rfl⟩) fun obj s₁ h₁ => ?_
  obtain ⟨rfl, rfl⟩ := h₁
  have hS : (s.heap.push { cls := .type "list", data := .seq #[] }).get? s.heap.objs.size = some { cls := .type "list", data := .seq #[] } := Heap.get?_push_size _ rfl
  refine ⟨⟨_, hS, rfl⟩, PySem.F.args_list_init_2 _ _, ?_⟩
  have fr : H s.heap.objs.size = none := I.hok.fresh (Nat.le_refl _)
  have sp0 := hq _ fr (fun z => by rw [z, ha] at fr; cases fr)
  have I1 : Inv X pins σ (upd H s.heap.objs.size (.lst [])) { s with heap := s.heap.push { cls := .type "list", data := .seq #[] } } := I.lnew (its := []) (t' := s.toks) .nil (Nat.zero_le _)
  show wpAny _ _ (do let old ← Builtin.List.listItems (.ref s.heap.objs.size); Builtin.List.listUpdate (.ref s.heap.objs.size) (fun _ => #[]); letGo old.toList.reverse; Builtin.List.listExtendWith (.ref s.heap.objs.size) (.ref a) .none) _ _ _
  refine wpAny_bind ?_
  unfold Builtin.List.listItems
  refine wpAny_bind (wpAny_seqItems hS rfl (wpAny_pure ?_))
  show wpAny _ _ (updateSeq s.heap.objs.size (fun _ => #[]) >>= fun _ => letGo (#[] : Array Value).toList.reverse >>= fun _ => Builtin.List.listExtendWith (.ref s.heap.objs.size) (.ref a) .none) _ _ _
  refine wpAny_bind (wpAny_updateSeq hS rfl ?_)
  have I2 := I1.lset (f := fun _ => #[]) (its := []) (its' := []) (ys := []) (t' := s.toks) upd_same hS rfl .nil (Nat.zero_le _)
  rw [upd_upd] at I2
  refine wpAny_bind (wpAny_letGo ?_)
  have ha2 : upd H s.heap.objs.size (.lst []) a = some (.ins C dx fs) := by rw [upd_ne (ne_of_none ha fr)]; exact ha
  have hne : s.heap.objs.size ≠ a := fun z => by rw [z, ha] at fr; cases fr
  generalize hq0 : s.heap.objs.size = q at *
  generalize hH0 : upd H q (.lst []) = H0 at *
  obtain ⟨mA, J, _⟩ := ins_get I2.hok ha2
  obtain ⟨od, J, _⟩ := J.look
  obtain ⟨m0, hF⟩ := I2.fr
  unfold Builtin.List.listExtendWith
  refine wpAny_bind (J.type.here ?_)
  have h1 : Builtin.List.listSameRef (.ref q) (.ref a) = false := by simp [Builtin.List.listSameRef, hne]
  simp only [h1, (rfl : (Value.ref C == Value.type "list") = false), (rfl : (Value.ref C == Value.type "tuple") = false), Bool.or_false, Bool.false_eq_true, if_false]
  refine wpAny_bind (PySem.W.owit_iter hF I2.ok.mod.kin J hc.it hc.itF ?_)
  refine wpAny_mono (call_at FI bI xI (A := X.A.in1.in1) (sb.mono (by omega)).room sb.fr I2 (vs := [.ref a]) (.cons rfl .nil) sp0) (fun v s3 z => ?_) fun _ _ z => z
  obtain ⟨x, H1, I3, r3, it, l, ys, ex, e1, e2, e3, e4, hz, q1, q2⟩ := z
  subst ex
  obtain rfl : v = Value.ref it := r3
  have hit := titO_get I3 e1
  unfold PySem.W.OwitIt
  refine wpAny_specialOf (show s3.TypeIs (.ref it) "tuple_iterator" from hit.typeIs) PySem.F.slot_tuple_iterator_next.lookup ?_
  show wpAny _ _ _ _ _ s3
  refine wpAny_bind (wpAny_holding ?_)
  obtain ⟨mB, J3, _⟩ := ins_get I3.hok e4
  obtain ⟨od3, J3, _⟩ := J3.look
  obtain ⟨m3, hF3⟩ := I3.fr
  unfold Builtin.List.listLengthHint
  refine wpAny_bind (wpAny_bind (J3.type.here ((PySem.W.looks_findIn I3.kIn hc.ln).here ?_)))
  refine PySem.W.KFB.if_not rfl ?_
  refine PySem.W.KFB.if_so rfl ?_
  refine wpAny_bind (wpAny_rule (wpAny_bind (wpAny_attempt ?_)))
  refine PySem.W.len_K hF3 I3.ok.mod.kin J3 hc.ln hc.lnF (wpAny_mono (call_at0 FL bL (A := X.A.in1.in1.in1) (Sub.in1 (sb.mono (show n + 1 ≤ n + 2 by omega))).room sb.fr I3 (vs := [.ref a]) (.cons rfl .nil) q1) (fun v s4 z => ?_) fun _ _ z => z)
  obtain ⟨x, H2, I4, r4, eH, k0, ek, hk0, hk1⟩ := z
  subst ek
  subst eH
  obtain ⟨tk4, rfl⟩ := r4
  refine ⟨⟨hk0, by omega⟩, ?_⟩
  refine wpAny_bind (wpAny_of_eq (a := some k0) rfl ?_)
  show wpAny _ _ (if Builtin.List.listTooLong k0.toNat = true then _ else _) _ _ _
  refine PySem.W.KFB.if_not (notLongL (by rw [sizeLine_eq]; omega)) (wpAny_pure ?_)
  have I5 := I4.tok (s4.toks + 1)
  have hne1 : q ≠ it := ne_of e3 e1 (fun z => nomatch z)
  have go : ∀ s5, Inv X pins σ H2 s5 → codeAny (model X.prog X.w) X.A.in1 (.builtin "list.extend.loop" ⟨[.ref q, .ref it, .none], []⟩) (wants (fun r s₂ => r = .none ∧ EP X pins σ Q (.ref q) s₂) X.xe) s5 := fun s5 I6 =>
    tit_loop (A1 := X.A.in1) (Rs := wants (fun r s₂ => r = .none ∧ EP X pins σ Q (.ref q) s₂) X.xe) (show X.A.in1.handled = none from hr.hd) ys.length 0 H2 s5 (by omega) (Nat.zero_le _) I6 e1 e2 (by rw [List.take_zero]; exact e3) hz fun H7 s7 I7 k7 e7 => ⟨rfl, .ref q, H7, I7, rfl, q2 H7 k7 e7⟩
  refine wpAny_ite_split (fun _ => ?_) (fun _ => wpAny_pure ⟨plainId_quiet PySem.F.plain_extend_loop _, go _ I5⟩)
  refine wpAny_bind (wpAny_rule (wpAny_bind ?_))
  show wpAny _ _ (updateSeq q (·.push .none) >>= fun _ => updateSeq q (·.pop)) _ _ _
  obtain ⟨z, its, n5, r5, hl5, e5⟩ := I5.lstM e3
  cases r5
  refine wpAny_bind (wpAny_updateSeq e5 rfl ?_)
  have I6 := I5.lset (f := (·.push Value.none)) (its' := [Value.none]) (ys := [.non]) (t' := s4.toks + 1) e3 e5 (by simp) (.cons rfl .nil) (by rw [List.length_singleton, sizeLine_eq]; decide)
  obtain ⟨z6, its6, n6, r6, hl6, e6⟩ := I6.lstM upd_same
  obtain ⟨u6, rfl, ru6⟩ := r6.one
  refine wpAny_updateSeq e6 rfl (wpAny_pure ⟨plainId_quiet PySem.F.plain_extend_loop _, go _ ?_⟩) (by show 1 ≤ sizeLine; rw [sizeLine_eq]; decide) (by show 0 ≤ sizeLine + 1; exact Nat.zero_le _)
  have I7 := I6.lset (f := (·.pop)) (its := [u6]) (its' := []) (ys := []) (t' := s4.toks + 1) upd_same e6 (by rfl) .nil (Nat.zero_le _)
  rw [upd_upd] at I7
  have hH : upd H2 q (.lst []) = H2 := by
    funext b
    by_cases hb : b = q
    · rw [hb, upd_same, e3]
    · rw [upd_ne hb]
  rw [hH] at I7
  exact I7
end
end
end My
set_option maxRecDepth 100000
set_option maxHeartbeats 2000000
namespace My
open PySem PySem.Spec PyProof.Rows L2
/-! ### enumerate(t), t a tuple -/
theorem enum_new1 {v : Value} {o : Obj} {G : Heap → Prop} (B : Begins v o G) :
    Meets (Builtin.«enumerate.__new__» ⟨[.type "enumerate", v], []⟩) (fun _ R s => G s.heap ∧
      R (.ok (.ret (.ref (s.heap.push o).objs.size))) { s with heap := (s.heap.push o).push { cls := .type "enumerate", data := .fields #[.none, .bool false, .ref s.heap.objs.size, rawInt 0, .none, .none] } }) := by
  refine .of_wp fun prog w A R s h => ?_
  obtain ⟨hp, g, d, tk, os⟩ := s
  obtain ⟨h1, h⟩ := h
  have hsub := sub_enumerate
  have goB : ∀ {A' : Around} {E Q : Value → Shared → Prop}, Q (.ref hp.objs.size) ⟨hp.push o, g, d, tk, os⟩ → wpAny (model prog w) A' (pyIter v) Q E ⟨hp, g, d, tk, os⟩ := fun q => B.iter prog w _ _ ⟨hp, g, d, tk, os⟩ _ h1 q
  wp_walk using goB
  refine wpAny_stack_any fun st => wpAny_pure ?_
  split
  · rename_i c _ _ _ _ _
    cases (c == Value.type "enumerate") <;> (wp_walk using goB; exact ⟨_, rfl, h⟩)
  · wp_walk using goB
    exact ⟨_, rfl, h⟩
theorem call_enum1 {prog : Program} {w : World} {A : Around} {E : Value → Shared → Prop} {s : Shared} {v : Value} {o : Obj} {G : Heap → Prop} {Q : Value → Shared → Prop} (B : Begins v o G) (h1 : G s.heap)
    (h : ∀ h', IsEnum h' (s.heap.objs.size + 1) s.heap.objs.size 0 .none → h'.get? s.heap.objs.size = some o → (∀ b o, s.heap.get? b = some o → h'.get? b = some o) → Q (.ref (s.heap.objs.size + 1)) { s with heap := h' }) :
    wpAny (model prog w) A (call (.type "enumerate") [v]) Q E s := by
  refine callType_new PySem.F.called_enumerate (by decide) (PySem.F.typeCall_enumerate_1 _) (PySem.F.newCall_enumerate_1 _) (fun obj => PySem.F.args_object_init_2 obj _) PySem.F.entry_enumerate_new (enum_new1 B) ⟨h1, ?_⟩
  have hz : (s.heap.push o).objs.size = s.heap.objs.size + 1 := Heap.size_push ..
  show _ ∧ _
  rw [hz]
  have he : IsEnum ((s.heap.push o).push { cls := .type "enumerate", data := .fields #[.none, .bool false, .ref s.heap.objs.size, rawInt 0, .none, .none] }) (s.heap.objs.size + 1) s.heap.objs.size 0 .none := by
    have q := Heap.get?_push_size (s.heap.push o) (o := { cls := .type "enumerate", data := .fields #[.none, .bool false, .ref s.heap.objs.size, rawInt 0, .none, .none] }) rfl
    rwa [hz] at q
  exact ⟨⟨_, he, rfl⟩, h _ he (Heap.get?_push_of_some _ (Heap.get?_push_size _ B.free)) fun b o x => Heap.get?_push_of_some _ (Heap.get?_push_of_some _ x)⟩
def IteT (K : PySem.W.Frag) (a : Addr) : It :=
  ⟨fun i H => ∃ (xs : List V) (x : V), SqT K H a xs ∧ xs[i]? = some x, fun i H v H' => ∃ T x, v = .ref T ∧ H T = none ∧ H' = upd H T (.tup [.int (i : Nat), x]) ∧ ∀ xs, SqT K H a xs → xs[i]? = some x, fun i H => ∃ xs : List V, SqT K H a xs ∧ xs.length ≤ i⟩
theorem turn_enumT {P : Program} {w : World} {K : PySem.W.Frag} {elts : List Expr} {kk : Nat} {tpos : Pos} (a e it : Addr) (hae : a ≠ e) (hai : a ≠ it) :
    Turn P w K (.Tuple elts kk tpos) (IteT K a) [e, it] e (fun i h => (∃ old, IsEnum h e it ((i : Nat) : Int) old) ∧ h.IsTupleIter it a i ∧ e ≠ it) where
  mem := by simp
  obj := fun i h st b hb => by
    obtain ⟨⟨old, he⟩, ⟨o, ho, hc, hd⟩, _⟩ := st
    have e' : b = e ∨ b = it := by simpa using hb
    rcases e' with z | z
    · rw [z]; exact ⟨_, he, fun v q => nomatch q⟩
    · rw [z]; exact ⟨o, ho, fun v q => by rw [hd] at q; cases q⟩
  keep := fun i h h' st k => let ⟨⟨old, he⟩, hi, hne⟩ := st; ⟨⟨old, k e (by simp) _ he⟩, hi.at fun o q => k it (by simp) o q, hne⟩
  item := by
    intro X hP hw hK hc i pins s σ H E I hf st hg
    subst hP hw hK
    obtain ⟨⟨old, he⟩, hit, hne⟩ := st
    obtain ⟨xs, x, hq, hx⟩ := hg
    obtain ⟨its, rv, p, hz⟩ := I.tuple hq
    obtain ⟨u, hu, ru⟩ := rv.get hx
    have hel : e < s.heap.objs.size := Heap.lt_size he
    have hil : it < s.heap.objs.size := by obtain ⟨_, q, _⟩ := hit; exact Heap.lt_size q
    have hlt : i < its.toArray.size := by rw [List.size_toArray]; exact (List.getElem?_eq_some_iff.mp hu).1
    refine wpAny_pyNext_enum_itemD (Draws.tuple (A := X.A.in1) (show X.A.in1.handled = none from I.ok.hd hc) it a hai its.toArray) he ⟨hit, p⟩ hlt hne (by simp [hne, Ne.symm hae]) fun x1 h' tk px ho st' hT hsz hk => ?_
    obtain ⟨hit', _⟩ := st'
    have ex1 : x1 = u := by
      rw [List.getElem?_toArray, hu] at px
      exact (Option.some.inj px).symm
    subst ex1
    refine ⟨_, rfl, wpAny_letOwnedTupleGo_enum (s := { s with heap := h', toks := tk + 1 }) ho fun h'' he' sb => ?_⟩
    have hT2 : h''.get? s.heap.objs.size = some { cls := .type "tuple", data := .seq #[.int i tk, x1] } := (sb.2 _ (Nat.ne_of_gt hel)).trans hT
    have new : ObjOk X.prog X.w (upd H s.heap.objs.size (.tup [.int (i : Nat), x])) h'' s.heap.objs.size (.tup [.int (i : Nat), x]) :=
      ⟨by show 2 ≤ sizeLine; decide, [.int i tk, x1], .cons ⟨_, rfl⟩ (.cons ru .nil), ⟨_, hT2, rfl, _, rfl⟩⟩
    have I1 : Inv X pins σ (upd H s.heap.objs.size (.tup [.int (i : Nat), x])) { s with heap := h'', toks := tk + 1 } :=
      I.turnedNew (ch := [e, it]) (fun b ob hb q => (sb.2 b (fun z => hb (by simp [z]))).trans (hk b ob (fun z => hb (by simp [z])) (fun z => hb (by simp [z])) q)) hf (Nat.le_refl _) new
    refine ⟨.ref s.heap.objs.size, _, I1, rfl, ⟨_, x, rfl, I.hok.fresh (Nat.le_refl _), rfl, fun ys hy => by rw [I.tuple_inj hy hq]; exact hx⟩, ⟨⟨x1, ?_⟩, hit'.at fun o q => (sb.2 it (Ne.symm hne)).trans q, hne⟩, fun b hb => ?_⟩
    · rw [show ((i + 1 : Nat) : Int) = (i : Int) + 1 by omega]; exact he'
    · have hb' : b < s.heap.objs.size := by
        rcases (by simpa using hb : b = e ∨ b = it) with z | z
        · rw [z]; exact hel
        · rw [z]; exact hil
      rw [upd_ne (Nat.ne_of_lt hb')]; exact (hf b hb).1
  done := by
    intro X hP hw hK hc i pins s σ H E I hf st hg
    subst hP hw hK
    obtain ⟨⟨old, he⟩, hit, hne⟩ := st
    obtain ⟨xs, hq, hx⟩ := hg
    obtain ⟨its, rv, p, hz⟩ := I.tuple hq
    obtain ⟨f0, f1, f2, f3, f4, f5⟩ := hf it (by simp)
    have hl := rv.length
    have hno : (its.toArray)[i]? = none := by rw [List.getElem?_toArray, List.getElem?_eq_none_iff]; omega
    have D : Draws X.prog X.w X.A.in1 it [it, a] i (fun _ _ => True) (fun j h => j = i ∧ h.IsTupleIter it a i ∧ h.IsTuple a its.toArray) :=
      ⟨fun _ _ st => ⟨_, st.2.1.choose_spec.1⟩, fun _ _ _ st hk => ⟨st.1, st.2.1.at fun o q => hk it (by simp) o q, st.2.2.at fun o q => hk a (by simp) o q⟩,
        fun j s Q E hj st _ => absurd st.1 (Nat.ne_of_lt hj), fun s Q E st hE => wpAny_nextOf_tuple_end (show X.A.in1.handled = none from I.ok.hd hc) st.2.1 st.2.2 hno hE⟩
    exact wpAny_pyNext_enum_endD D he ⟨rfl, hit, p⟩ fun h' eb => ⟨rfl, I.turned (t' := s.toks) (fun b o hb q => eb b o hb q) f0 f1 f3 f4 f5⟩
  self := fun A i s Q E st h => let ⟨⟨_, he⟩, _⟩ := st; wpAny_pyIter_enum he h
def iEnumT (K : PySem.W.Frag) (ta : TA) : TI := fun σ H R => ta σ H fun vs H1 => ∃ a xs, vs = [.ref a] ∧ SqT K H1 a xs ∧ R (IteT K a) H1
theorem pi_enumT {X : Cx} {e : Expr} {ta : TA} {p pos tpos : Pos} {elts : List Expr} {kk : Nat} (hg : Gl X "enumerate") (hm : X.mg "enumerate" = none) (ha : PA X [e] ta) (hs : starEach [e] X.env = [(false, eval e X.env)] := by rfl) :
    PI X (.Tuple elts kk tpos) (.Call (.Name "enumerate" p) [e] [] pos) (iEnumT X.K ta) := by
  refine ⟨fun pins s σ H R I h => ?_⟩
  refine Call_ (ld_blt I hg hm boot_enumerate (PyProof.Rows.callWith_type1 (thn (ha.run pos pins s σ H _ I h) fun us s1 ⟨vs, H1, I1, r1, a, xs, ex, hq, q⟩ => ?_) hs rfl))
  subst ex
  obtain rfl := Vals.ref1 r1
  obtain ⟨its, rv, p', hz⟩ := I1.tuple hq
  have hal : a < s1.heap.objs.size := by obtain ⟨_, z, _⟩ := p'; exact Heap.lt_size z
  refine call_enum1 (begins_tuple a its.toArray) (show s1.heap.IsTuple a its.toArray from p') fun h' he hit hk => wpAny_pyIter_enum he ?_
  have I2 : Inv X pins σ H1 { s1 with heap := h' } := I1.kept (t' := s1.toks) hk
  refine ⟨s1.heap.objs.size + 1, [s1.heap.objs.size + 1, s1.heap.objs.size], _, _, H1, rfl, I2, turn_enumT a (s1.heap.objs.size + 1) s1.heap.objs.size (Nat.ne_of_lt (Nat.lt_succ_of_lt hal)) (Nat.ne_of_lt hal), ⟨⟨.none, he⟩, ⟨_, hit, rfl, rfl⟩, Nat.succ_ne_self _⟩, fun b hb => ?_, q⟩
  have hle : s1.heap.objs.size ≤ b := by
    rcases (by simpa using hb : b = s1.heap.objs.size + 1 ∨ b = s1.heap.objs.size) with z | z
    · rw [z]; exact Nat.le_add_right _ _
    · rw [z]; exact Nat.le_refl _
  exact I1.fpOk hle (I1.hok.fresh hle)
theorem walk_enumT {K : PySem.W.Frag} {a : Addr} {xs : List V} : Walk (IteT K a) xs.length (fun H => SqT K H a xs) (YPair (fun i => some (.int (i : Nat))) (fun i => xs[i]?)) := by
  refine ⟨fun i _ hi q => ⟨xs, xs[i], q, by simp [hi]⟩, fun _ q => ⟨xs, q, Nat.le_refl _⟩, fun i H v H' _ q y => ?_⟩
  obtain ⟨T, x, h1, h2, h3, h4⟩ := y
  exact ⟨T, .int (i : Nat), x, h1, h2, h3, rfl, h4 xs q⟩
end My
set_option maxRecDepth 100000
namespace My
open PySem L2
section
variable {X : Cx}
/-- xs.count(y), flat items -/
def rCntF (K : PySem.W.Frag) : V → List V → Hp → VK → Prop := fun x xs H Q => ∃ (a : Addr) (ys : List V) (y : V), x = .ref a ∧ xs = [y] ∧ SqL K H a ys ∧ flatV y = true ∧ ys.all flatV = true ∧ Q (.int (ys.countP (fun z => eqV z y) : Nat)) H
theorem count_eqU {y : V} : ∀ {ys : List V} {us : List Value}, Vals ys us → ys.all flatV = true → us.countP (eqU y) = ys.countP (fun z => eqV z y)
  | _, _, .nil, _ => rfl
  | z :: ys, u :: us, .cons r t, f => by
    rw [List.all_cons, Bool.and_eq_true] at f
    rw [List.countP_cons, List.countP_cons, count_eqU t f.2, eqU_of r f.1]
theorem mt_fcount : MtR X "list.count" (rCntF X.K) := by
  intro pins s σ H x xs v us Q I rx rxs h
  obtain ⟨a, ys, y, rfl, rfl, hs, fy, fys, q⟩ := h
  cases rx
  cases rxs with
  | cons ry rt =>
    rename_i uy ut
    cases rt
    obtain ⟨its, rv, ⟨⟨cls, dd, data, sl⟩, n, ho, hc, hdn, hd⟩, hlen⟩ := I.list hs
    simp only at hc hd
    subst hc hd
    refine call_meets PySem.F.slot_list_count ⟨_, ho, rfl⟩ PySem.F.entry_list_count (PySem.F.args_list_count_2 _ _)
      (SeqAt.list_countAt a its.toArray n dd sl uy (eqU y)) ⟨ho, fun u' hu' => mem_eqAt ry fy rv fys u' (by simpa using hu'), ?_⟩
    have ec : its.toArray.toList.countP (eqU y) = ys.countP (fun z => eqV z y) := count_eqU rv fys
    refine ⟨.int (ys.countP (fun z => eqV z y) : Nat), H, I.tok _, ⟨s.toks, ?_⟩, q⟩
    rw [← ec]
end
end My
set_option maxRecDepth 100000
set_option maxHeartbeats 4000000
namespace PySem.SeqAt
open PySem PySem.Spec PyProof.Rows
/-- tuple's own __lt__, called as sorting calls it -/
theorem call_tuple_lt {prog : Program} {w : World} {A : Around} {s : Shared} {E : Value → Shared → Prop} {Q : Value → Shared → Prop} {l b : Addr} {items items2 : Array Value} {e r : Nat → Bool} (hl : s.heap.IsTuple l items) (hb : s.heap.IsTuple b items2)
    (he : ∀ j (h1 : j < items.size) (h2 : j < items2.size), EqAt A.in1 s items[j] items2[j] (e j)) (hr : ∀ j (h1 : j < items.size) (h2 : j < items2.size), e j = false → RcLt A.in1 s items[j] items2[j] (r j))
    (h : Q (.bool (firstLt e r (decide (items.size < items2.size)) (List.range (min items.size items2.size)))) s) : wpAny (model prog w) A (call (.builtin "tuple.__lt__") [.ref l, .ref b]) Q E s := by
  obtain ⟨⟨cls, dd, data, sl⟩, ho, hc, n, hd⟩ := id hl
  obtain ⟨⟨cls2, dd2, data2, sl2⟩, ho2, hc2, n2, hd2⟩ := id hb
  simp only at hc hd hc2 hd2
  subst hc hd hc2 hd2
  exact call_meets F.slot_tuple_lt ⟨_, ho, rfl⟩ F.entry_tuple_lt (F.args_tuple_lt_2 _ _) (tuple_ltAt l b items items2 n n2 dd dd2 sl sl2 e r) ⟨ho, ho2, he, hr, h⟩
end PySem.SeqAt
namespace PySem.W
open PySem PySem.Calls PyProof.Rows PySem.SeqAt
abbrev encT (b : List Int) : PyData := .tuple (b.map .int)
abbrev encL (b : List Int) : PyData := .list (b.map .int)
section
variable {prog : Program} {w : World} {A : Around} {E : Value → Shared → Prop} {s : Shared}
theorem oneLt_tup {xs ys : List PyData} {a b : Value} {as bs : List Addr} {Q : Bool → Shared → Prop} (ra : Reads s.heap a (.tuple xs) as) (rb : Reads s.heap b (.tuple ys) bs) (hal : alikeAll xs ys = true)
    (hu : A.units + min (PyData.depth (.tuple xs)) (PyData.depth (.tuple ys)) < cLine) (hq : Q (dataLt (.tuple xs) (.tuple ys)) s) : wpAny (model prog w) A (oneLt' true a b) Q E s := by
  cases ra with
  | @tuple l o vs n _ as₁ h1 h2 h3 h4 =>
    cases rb with
    | @tuple l' o' vs' n' _ bs₁ k1 k2 k3 k4 =>
      have n1 : vs.size = xs.length := by simpa using ReadsAll.length _ _ _ h4
      have n2 : vs'.size = ys.length := by simpa using ReadsAll.length _ _ _ k4
      rw [dataLt_tuple, ← firstLt_toks xs ys hal, ← n1, ← n2] at hq
      rw [oneLt'_eq]
      simp only [if_true]
      refine wpAny_bind (wpAny_cRoomFor (room_here hu) ?_)
      refine wpAny_bind (wpAny_callSpecialIfBound?_slot (T := "tuple") ⟨_, h1, h2⟩ F.slot_tuple_lt (call_tuple_lt (e := pairEq xs ys) (r := fun j => dataLt (xs.getD j .none) (ys.getD j .none)) ⟨_, h1, h2, _, h3⟩ ⟨_, k1, k2, _, k3⟩ (fun j j1 j2 => ?_) (fun j j1 j2 hj => ?_) ?_))
      · have := eqAt_alikeAll xs ys A.in1 s vs.toList vs'.toList _ _ h4 k4 hal (room_in hu) j (by simpa using j1) (by simpa using j2)
        simpa using this
      · have := rcLt_alikeAll xs ys A.in1 s vs.toList vs'.toList _ _ h4 k4 hal (room_in hu) j (by simpa using j1) (by simpa using j2) hj
        simpa using this
      · exact wpAny_truthy_bool hq
end
/-! ### which kind of keys tuples of ints are -/
section
variable {M : Model} {A : Around} {E : Value → Shared → Prop} {s : Shared}
theorem tup_firsts : ∀ (vs : List Value) (bs : List (List Int)) {Q : List (Option Value) → Shared → Prop}, EachIs (fun v b => ∃ as, Reads s.heap v (encT b) as) vs bs → (∀ fs : List (Option Value), EachIs (fun f b => f.isSome = !b.isEmpty) fs bs → Q fs s) → wpAny M A (vs.mapM firstOfTuple') Q E s
  | [], [], _, _, h => by rw [List.mapM_nil]; exact wpAny_pure (h [] .nil)
  | [], _ :: _, _, e, _ => nomatch e
  | _ :: _, [], _, e, _ => nomatch e
  | v :: vs, b :: bs, Q, .cons ⟨as, r⟩ e, h => by
    rw [List.mapM_cons]
    refine wpAny_bind ?_
    rw [kas_first_eq]
    cases r with
    | @tuple a o xs n _ _ ho hc hd hr =>
      refine wpAny_bind (Looks.here (show Looks M s.heap (typeOf (.ref a)) o.cls from (Looks.ld ho).andThen .now) ?_)
      rw [hc, if_neg (by first | decide | simp)]
      refine wpAny_bind (listItems_at ho hd (wpAny_pure ?_))
      refine wpAny_bind (tup_firsts vs bs (Q := fun fs s' => wpAny M A (pure (xs[0]? :: fs)) Q E s') e fun fs hf => wpAny_pure (h _ (.cons ?_ hf)))
      have hl := SeqAt.ReadsAll.length _ _ _ hr
      rw [List.length_map] at hl
      have hl : xs.size = b.length := by simpa using hl
      cases b with
      | nil => rw [Array.getElem?_eq_none (by rw [hl]; exact Nat.zero_le _)]; rfl
      | cons x t => rw [Array.getElem?_eq_getElem (by rw [hl]; exact Nat.succ_pos _)]; rfl
theorem tup_kind {vs : List Value} {bs : List (List Int)} {Q : SortKind → Shared → Prop} (e : EachIs (fun v b => ∃ as, Reads s.heap v (encT b) as) vs bs) {b0 : List Int} {bt : List (List Int)} (hb : bs = b0 :: bt) (hne : [] ∈ bs)
    (h : Q (if b0.isEmpty then oneType' else general') s) : wpAny M A (keyKind' vs.toArray) Q E s := by
  rw [keyKind'_eq, List.mapM_toArray, map_eq_pure_bind]
  refine wpAny_bind (wpAny_bind (tup_firsts vs bs e fun fs hf => wpAny_pure ?_))
  have hall : ¬ (fs.toArray.all fun x => x.isSome) = true := fun z => by
    simp only [List.all_toArray, List.all_eq_true] at z
    have : ∀ {fs : List (Option Value)} {bs : List (List Int)}, EachIs (fun f b => f.isSome = !b.isEmpty) fs bs → (∀ f ∈ fs, f.isSome = true) → [] ∉ bs := by
      intro fs bs hf
      induction hf with
      | nil => intro _ h; cases h
      | cons h t ih =>
        intro z hm
        rcases List.mem_cons.mp hm with hm | hm
        · subst hm
          have := z _ List.mem_cons_self
          rw [h] at this
          cases this
        · exact ih (fun f hf => z f (List.mem_cons_of_mem _ hf)) hm
    exact this hf z hne
  rw [if_neg hall]
  subst hb
  cases hf with
  | @cons f _ ft _ h0 ht =>
  have e0 : ((f :: ft).toArray[0]?.bind id) = f := by simp
  rw [e0]
  cases b0 with
  | cons x t =>
    have h0 : f.isSome = true := h0
    rw [if_pos h0]
    exact wpAny_pure h
  | nil =>
    have h0 : f.isSome = false := h0
    rw [if_neg (by rw [h0]; decide)]
    rw [oneTypeOnly'_eq, List.mapM_toArray, map_eq_pure_bind]
    have tk : ∀ {vs : List Value} {bs : List (List Int)}, EachIs (fun v b => ∃ as, Reads s.heap v (encT b) as) vs bs → ∀ v ∈ vs, Looks M s.heap (typeOf v) (.type "tuple") := by
      intro vs bs e
      induction e with
      | nil => intro v hv; cases hv
      | cons h t ih =>
        intro v hv
        rcases List.mem_cons.mp hv with rfl | hv
        · obtain ⟨as, r⟩ := h
          exact looks_reads r
        · exact ih v hv
    refine wpAny_bind (wpAny_bind (wpAny_bind (kas_mapM (r := Value.type "tuple") _ (fun v hv Q' hq => (tk e v hv).here hq) (wpAny_pure ?_))))
    have hlen : 0 < vs.length := by rw [e.length]; exact Nat.succ_pos _
    have hall2 : ((List.map (fun _ => Value.type "tuple") vs).toArray.all fun x => x == Value.type "tuple") = true := by
      simp only [List.all_toArray, List.all_map, List.all_eq_true]
      intro _ _
      exact beq_self_eq_true _
    have h00 : (List.map (fun _ => Value.type "tuple") vs).toArray[0]? = some (Value.type "tuple") := by
      cases vs with
      | nil => cases hlen
      | cons a t => simp
    rw [h00]
    simp only [hall2, if_true]
    exact wpAny_pure (wpAny_pure h)
end
section
variable {prog : Program} {w : World} {A : Around} {E : Value → Shared → Prop} {s : Shared}
theorem alike_encT (b b' : List Int) : alike (encT b) (encT b') = true := by
  show alikeAll _ _ = true
  exact alike_ints b b'
theorem depth_encT (b : List Int) : (encT b).depth = 1 := by
  show PyData.depth (.tuple _) = 1
  simp only [PyData.depth]
  rw [depth_ints]
theorem SortsAt.tupI {vs : List Value} {bs : List (List Int)} (e : EachIs (fun v b => ∃ as, Reads s.heap v (encT b) as) vs bs) (hu : A.units + 2 < cLine) : SortsAt prog w A s (dataKind s.heap (bs.map encT)) vs := by
  have e' := each_map (R := fun v d => ∃ as, Reads s.heap v d as) encT e
  have hal : AllAlike (bs.map encT) := AllAlike.of fun b b' => alike_encT b b'
  have hd : ∀ d ∈ bs.map encT, A.units + d.depth < cLine := fun d hd => by
    obtain ⟨b, _, rfl⟩ := List.mem_map.mp hd
    rw [depth_encT]; omega
  by_cases hne : [] ∈ bs
  · cases bs with
    | nil => cases hne
    | cons b0 bt =>
    refine ⟨fun v hv => ?_, ⟨_, ?_, fun h2 E Q hq => tup_kind e rfl hne hq⟩⟩
    · obtain ⟨d, hd, as, r⟩ := e'.left v hv
      exact ⟨_, dataKind_some hal hd r⟩
    · intro E x y a b Q ha hb hq
      obtain ⟨d, as, hd1, ra, rfl⟩ := dataKind_inv ha
      obtain ⟨d', as', hd', rb, rfl⟩ := dataKind_inv hb
      have hq : Q (dataLt d d') s := hq
      obtain ⟨c, _, rfl⟩ := List.mem_map.mp hd1
      obtain ⟨c', _, rfl⟩ := List.mem_map.mp hd'
      have hroom : A.units + min (encT c).depth (encT c').depth < cLine := by rw [depth_encT, depth_encT]; omega
      split
      · rw [keyLt'_oneType]
        exact oneLt_tup ra rb (alike_ints c c') hroom hq
      · show wpAny _ _ (oneLt' false x y) _ _ _
        exact oneLt_alike (fun z => nomatch z) ra rb (alike_encT c c') (fun z => nomatch z) hroom hq
  · exact SortsAt.data e' hal (.inl fun d hd => by
      obtain ⟨b, hb, rfl⟩ := List.mem_map.mp hd
      cases b with
      | nil => exact absurd hb hne
      | cons x t => exact ⟨_, _, rfl⟩) hd
theorem dataLe_encT : dataLe false encT = fun p q : List Int => decide (p ≤ q) := by
  rw [← dataLe_rows (fun b : List Int => b)]
  funext p q
  show (!dataLt (encT q) (encT p)) = !dataLt (encL q) (encL p)
  rw [show dataLt (encT q) (encT p) = dataLt (encL q) (encL p) from (dataLt_tuple _ _).trans (dataLt_list _ _).symm]
/-- sorted of tuples of ints, empty ones among them -/
theorem sorted_tupsI {l : Addr} {vs : List Value} {bs : List (List Int)} {R : Value → List Int → Prop} {Q : Value → Shared → Prop} (hl : s.heap.IsList l vs.toArray) (e : EachIs R vs bs) (er : EachIs (fun v b => ∃ as, Reads s.heap v (encT b) as) vs bs) (hL : bs.length ≤ sizeLine)
    (hu : A.units + 4 < cLine) (h : ∀ out, out.length = bs.length → EachIs R out (bs.mergeSort fun p q => decide (p ≤ q)) → Q (.ref (s.heap.objs.size + 1)) { s with heap := sortedAll s.heap vs (List.toArray out) }) :
    wpAny (model prog w) A (call (.builtin "sorted") [.ref l]) Q E s := by
  have er' : EachIs (fun v b => ∃ as, Reads (sortingHeap (copyHeap s.heap vs) (s.heap.objs.size + 1) vs) v (encT b) as) vs bs := er.mono fun _ _ ⟨as, r⟩ => ⟨as, PyProof.Rows.Reads.keeps (fun _ _ => sorting_copy_old) r⟩
  refine sorted_vals hl (SortsAt.tupI (s := { s with heap := sortingHeap (copyHeap s.heap vs) (s.heap.objs.size + 1) vs }) er' (by show A.units + 1 + 1 + 2 < cLine; omega)) (by rw [e.length]; exact hL) ?_
  refine h _ (by rw [sortVals_length false rfl]; exact e.length) ?_
  have := sortVals_data false e er' (AllAlike.of fun b b' => alike_encT b b')
  rw [dataLe_encT] at this
  exact this
end
end PySem.W
namespace L2
open PySem PySem.Spec PyProof.Rows PySem.W
theorem vals_each {Rv : V → List Int → Prop} : ∀ {xs : List V} {us : List Value} {bs : List (List Int)}, Vals xs us → EachIs Rv xs bs → EachIs (fun v b => ∃ x, RelV x v ∧ Rv x b) us bs
  | _, _, _, .nil, .nil => .nil
  | _, _, _, .cons r t, .cons h e => .cons ⟨_, r, h⟩ (vals_each t e)
theorem each_vals {Rv : V → List Int → Prop} : ∀ {us : List Value} {bs : List (List Int)}, EachIs (fun v b => ∃ x, RelV x v ∧ Rv x b) us bs → ∃ ys, Vals ys us ∧ EachIs Rv ys bs
  | _, _, .nil => ⟨[], .nil, .nil⟩
  | _, _, .cons ⟨x, r, h⟩ e => let ⟨ys, a, b⟩ := each_vals e; ⟨x :: ys, .cons r a, .cons h b⟩
def rSortD (K : PySem.W.Frag) (enc : List Int → PyData) : List V → Hp → VK → Prop := fun vs H Q => ∃ (a : Addr) (xs : List V) (bs : List (List Int)) (Rv : V → List Int → Prop), vs = [.ref a] ∧ SqL K H a xs ∧ EachIs Rv xs bs ∧ (∀ x b, Rv x b → Dp K H x (enc b)) ∧
  ∀ ys p, EachIs Rv ys (bs.mergeSort fun p q => decide (p ≤ q)) → H p = none → Q (.ref p) (upd H p (.lst ys))
section
variable {X : Cx}
theorem cr_sortTI (hu : X.A.units + 10 < cLine) : CallR X (.builtin "sorted") (rSortD X.K encT) := by
  intro pins s σ H vs us Q I r h
  obtain ⟨a, xs, bs, Rv, rfl, hs, hx, hd, q⟩ := h
  obtain ⟨its, rv, hl, hz⟩ := I.list hs
  obtain ⟨u, rfl, ru⟩ := vals1 r
  obtain rfl : u = Value.ref a := ru
  have e := vals_each rv hx
  have er : EachIs (fun v b => ∃ as, Reads s.heap v (encT b) as) its bs := e.mono fun v b ⟨x, rx, hr⟩ => Dp.reads I _ _ _ (hd x b hr) rx
  have hbl : bs.length = its.length := e.length.symm
  refine sorted_tupsI hl.isList e er (by rw [hbl, ← rv.length]; exact hz) (by omega) fun out ho eo => ?_
  obtain ⟨ys, vy, ey⟩ := each_vals eo
  obtain ⟨ep, he'⟩ := PyProof.Rows.sortedAll_at s.heap its (List.toArray out)
  have hlen : ys.length ≤ sizeLine := by rw [vy.length, ho, hbl, ← rv.length]; exact hz
  exact ⟨.ref _, upd H (s.heap.objs.size + 1) (.lst ys), I.laid (t' := s.toks) (fun _ _ => PyProof.Rows.sortedAll_old) (Nat.le_succ _) ⟨hlen, out, ep, vy, he'⟩, rfl, q _ _ ey (I.hok.fresh (Nat.le_succ _))⟩
theorem cr_sortLI (hu : X.A.units + 10 < cLine) : CallR X (.builtin "sorted") (rSortD X.K encL) := by
  intro pins s σ H vs us Q I r h
  obtain ⟨a, xs, bs, Rv, rfl, hs, hx, hd, q⟩ := h
  obtain ⟨its, rv, hl, hz⟩ := I.list hs
  obtain ⟨u, rfl, ru⟩ := vals1 r
  obtain rfl : u = Value.ref a := ru
  have e := vals_each rv hx
  have er : EachIs (fun v b => ∃ as, Reads s.heap v (encL b) as) its bs := e.mono fun v b ⟨x, rx, hr⟩ => Dp.reads I _ _ _ (hd x b hr) rx
  have hbl : bs.length = its.length := e.length.symm
  refine sorted_data hl.isList e er (AllAlike.of fun b b' => by show alikeAll _ _ = true; exact alike_ints b b') (Sortable.others fun b => ⟨fun z => (nomatch z), fun _ z => (nomatch z)⟩) (by rw [hbl, ← rv.length]; exact hz) (fun b _ => ?_) fun out ho eo => ?_
  · have : (encL b).depth = 1 := by show PyData.depth (.list _) = 1; simp only [PyData.depth]; rw [depth_ints]
    omega
  rw [show dataLe false encL = fun p q : List Int => decide (p ≤ q) from dataLe_rows (fun b : List Int => b)] at eo
  obtain ⟨ys, vy, ey⟩ := each_vals eo
  obtain ⟨ep, he'⟩ := PyProof.Rows.sortedAll_at s.heap its (List.toArray out)
  have hlen : ys.length ≤ sizeLine := by rw [vy.length, ho, hbl, ← rv.length]; exact hz
  exact ⟨.ref _, upd H (s.heap.objs.size + 1) (.lst ys), I.laid (t' := s.toks) (fun _ _ => PyProof.Rows.sortedAll_old) (Nat.le_succ _) ⟨hlen, out, ep, vy, he'⟩, rfl, q _ _ ey (I.hok.fresh (Nat.le_succ _))⟩
end
end L2
set_option maxRecDepth 100000
set_option maxHeartbeats 4000000
namespace My
open PySem L2 PySem.Spec PyProof.Rows
section
variable {X : Cx} {CX : CXT} {n : Nat} {f C : Addr} {fd : FuncData} {ps : List Str} {sp : Sp}
/-- a promise that may raise, called anywhere in the running body -/
theorem call_atS {σ : L2.St} {E : XK} (G0 : FnOk X.prog X.w X.K X.mg X.base CX n f fd ps sp) (hb : Binds X.K fd ps []) (hx : PassesAt CX X σ E) {A : Around} (hr : Room n A) (hA : A.frames = X.A.frames)
    {pins : List (Addr × Obj)} {s : Shared} {H : Hp} (I : Inv X pins σ H s) {vs : List V} {us : List Value} (r : Vals vs us) {Q : VK} (h : sp vs H Q E) :
    wpAny (model X.prog X.w) A (call (.ref f) us) (EP X pins σ Q) X.xe s := by
  have e0 : Env0 X.prog X.w X.K X.mg X.base A X.stack s H := by
    have e := I.env0
    exact ⟨by rw [hA]; exact e.frames, e.mod, e.bs, e.bsz, e.funs, e.frf, e.hok, e.bare⟩
  have hl := G0.len _ _ _ _ h
  refine wpAny_call (codeAny_mono (G0.run A X.stack s H ⟨us, []⟩ us vs Q E hr e0 (by
    have := hb s us I.kIn (by rw [List.append_nil, ← r.length]; exact hl)
    simpa using this) r h) fun r s' hq => ?_)
  cases r with
  | error e => exact hx pins H s e s' I hq
  | ok fl =>
    cases fl with
    | ret w => exact I.after hq
    | next => exact False.elim hq
    | brk => exact False.elim hq
    | cont => exact False.elim hq
/-- a[b], a an instance of the class at C with its own __getitem__ -/
def tIxOwn (C : Addr) (sp : Sp) (E : L2.St → XK) (ta tb : TE) : TE := fun σ H Q => ta σ H fun x H1 => tb σ H1 fun y H2 => ∃ p dx fs, x = .ref p ∧ H2 p = some (.ins C dx fs) ∧ sp [.ref p, y] H2 Q (E σ)
theorem pe_ixOwn {a b : Expr} {ta tb : TE} {pos : Pos} {E : L2.St → XK} (G0 : FnOk X.prog X.w X.K X.mg X.base CX n f fd ps sp) (hb : Binds X.K fd ps []) (hx : ∀ σ, PassesAt CX X σ (E σ)) (hr : Room (n + 1) X.A)
    (hs : PySem.W.findIn X.K (.ref C) "__getitem__" = some (some (.ref f))) (hf : PySem.W.fnIn X.K f = true) (hfn : PySem.W.isFn X.K (.ref f) = true) (ha : PE X a ta) (hbb : PE X b tb)
    (hsl : ∀ x i, subscripted b true (.ref x) i = runValue (.builtin "lifetime.subscript" ⟨[.ref x, i], []⟩)) : PE X (.Subscript a b pos) (tIxOwn C sp E ta tb) := by
  refine ⟨fun pins s σ H Q I h => ?_⟩
  refine Subscript_ (binT ha hbb I h fun v u s2 x y H2 I2 rx ry q => ?_)
  obtain ⟨p, dx, fs, rfl, hp, q⟩ := q
  cases rx
  obtain ⟨mA, J, _⟩ := ins_get I2.hok hp
  obtain ⟨od, J, _⟩ := J.look
  obtain ⟨m, hF⟩ := I2.fr
  exact PySem.W.sub_K hF I2.ok.mod.kin J hs hf hfn (call_atS G0 hb (hx σ) (A := X.A.in1) hr.in1 rfl I2 (vs := [.ref p, y]) (.cons rfl (.cons ry .nil)) q) (hsl _ _)
end
end My
set_option maxRecDepth 100000
set_option maxHeartbeats 4000000
namespace My
open PySem L2 PySem.Spec PyProof.Rows
/-- the truth of a value, inside a comprehension -/
def tTruK (K : PySem.W.Frag) (ta : TE) : TT := fun σ H Q => ta σ H fun x H' => ∃ k, TruV K x H' k ∧ Q k H'
section
variable {X : Cx} {CX : CXT} {E : XK} {n : Nat} {f C : Addr} {fd : FuncData} {ps : List Str} {sp : Sp}
/-- len(x), x an instance of the class at C with its own __len__ -/
def rLenOwn (C : Addr) (sp : Sp) (E : XK) : List V → Hp → VK → Prop := fun xs H Q => ∃ a dx fs, xs = [V.ref a] ∧ H a = some (.ins C dx fs) ∧ sp [.ref a] H (fun v H' => ∃ k : Nat, v = .int (k : Int) ∧ k ≤ 1000000 ∧ Q (.int (k : Int)) H') E
theorem call_lenOwn (G0 : FnOk X.prog X.w X.K X.mg X.base CX n f fd ps sp) (hb : Binds X.K fd ps []) (hx : Passes CX X E) (hr : Room (n + 1) X.A)
    (hs : PySem.W.findIn X.K (.ref C) "__len__" = some (some (.ref f))) (hf : PySem.W.isFn X.K (.ref f) = true) :
    CallR X (.builtin "len") (rLenOwn C sp E) := by
  intro pins s σ H xs us Q I r h
  obtain ⟨a, dx, fs, rfl, ha, q⟩ := h
  obtain ⟨u, rfl, r1⟩ := vals1 r
  cases r1
  obtain ⟨mA, J, _⟩ := ins_get I.hok ha
  obtain ⟨od, J, _⟩ := J.look
  obtain ⟨m, hF⟩ := I.fr
  refine PySem.W.len_K hF I.ok.mod.kin J hs hf (wpAny_mono (call_at G0 hb hx (A := X.A.in1) hr.in1 rfl I (vs := [.ref a]) (.cons rfl .nil) q) (fun v s' z => ?_) fun _ _ z => z)
  obtain ⟨x, H1, I1, r1, k, rfl, hk, z⟩ := z
  obtain ⟨tk, rfl⟩ := r1
  exact ⟨⟨Int.natCast_nonneg _, by omega⟩, .int (k : Int), H1, by first | exact I1.tok _ | exact I1, ⟨_, rfl⟩, z⟩
/-- isinstance(e, (c1, c2)) of a caught error with fields -/
def rIsET (K : PySem.W.Frag) (a : Addr) (cls : Value) (d : Option Addr) : List V → Hp → VK → Prop := fun xs H Q => ∃ D dd fs, cls = .ref D ∧ d = some dd ∧ H dd = some (.xd fs) ∧ ExcC K D ∧
  ∃ (tp : Addr) (cs : List V) (us : List Value) (b : Bool), xs = [.ref a, .ref tp] ∧ H tp = some (.tup cs) ∧ Paired ClsV cs us ∧ PySem.W.kitAny K (.ref D) us = some b ∧ Q (.bl b) H
theorem call_isExT {a : Addr} {oe : Obj} {cls : Value} {d : Option Addr} {pn : List (Addr × Obj)} (hz : Zc cls d oe) (hf : ∃ vs, oe.data = .fields vs) :
    CallR (X.suite a ((a, oe) :: pn)) (.builtin "isinstance") (rIsET X.K a cls d) := by
  intro pins s σ H xs us Q I r h
  obtain ⟨D, dd, fs, rfl, rfl, hd, C, tp, cs, ws, b, rfl, hT, k, e, q⟩ := h
  obtain ⟨u1, u2, rfl, r1, r2⟩ := vals2 r
  cases (show u2 = Value.ref tp from r2)
  cases (show u1 = Value.ref a from r1)
  obtain ⟨hget, _⟩ := I.pin (a, oe) (List.mem_append.mpr (.inl List.mem_cons_self))
  obtain ⟨vs, hv⟩ := hf
  have hx : ObjOk X.prog X.w H s.heap dd (.xd fs) := I.hok dd _ hd
  obtain ⟨mA, ⟨od, es, ep, ho, _⟩, _⟩ := hx
  have J : PySem.W.InstAt s.heap a oe D (some od) := ⟨hget, hz.1, by unfold PySem.W.notCls; rw [hv] <;> rfl, by rw [hz.2]; exact ho⟩
  obtain ⟨cdD, hcD, _⟩ := PySem.W.any_some C.hd
  obtain ⟨_, its, rv, o, h1, h2, n, h3⟩ := (show ObjOk X.prog X.w H s.heap tp (.tup cs) from I.hok tp _ hT)
  have e3 := ClsV.all k rv
  subst e3
  obtain ⟨oc, od2, dt, sl⟩ := o
  simp only at h2 h3
  subst h2 h3
  exact PySem.W.kia_tup (PySem.W.kitx_exc (od := some od) (by rw [hcD]; rfl) C.hg C.hk C.hs C.ha C.hn C.ht C.hm) I.kIn J h1 e (fun z => nomatch z) fun tk => ⟨.bl b, H, I.tok tk, rfl, q⟩
theorem band (a b : Nat) : Builtin.bitAnd (a : Int) (b : Int) = ((a &&& b : Nat) : Int) := by
  unfold Builtin.bitAnd
  simp
theorem bor (a b : Nat) : Builtin.bitOr (a : Int) (b : Int) = ((a ||| b : Nat) : Int) := by
  rw [bitOr_nn (Int.natCast_nonneg _) (Int.natCast_nonneg _), Int.toNat_natCast, Int.toNat_natCast]
theorem op_andN {X : Cx} : OpR X (binaryOp .BitAnd) (fun x y H Q => ∃ a b : Nat, x = .int (a : Int) ∧ y = .int (b : Int) ∧ Q (.int ((a &&& b : Nat) : Int)) H) := by
  intro pins s σ H x y v u Q I rx ry h
  obtain ⟨a, b, rfl, rfl, q⟩ := h
  rw [← band] at q
  exact op_and pins s σ H _ _ v u Q I rx ry ⟨_, _, rfl, rfl, q⟩
theorem op_orN {X : Cx} : OpR X (binaryOp .BitOr) (fun x y H Q => ∃ a b : Nat, x = .int (a : Int) ∧ y = .int (b : Int) ∧ Q (.int ((a ||| b : Nat) : Int)) H) := by
  intro pins s σ H x y v u Q I rx ry h
  obtain ⟨a, b, rfl, rfl, q⟩ := h
  rw [← bor] at q
  exact op_or pins s σ H _ _ v u Q I rx ry ⟨_, _, rfl, rfl, q⟩
end
end My
set_option maxRecDepth 100000
set_option maxHeartbeats 4000000
namespace My
open PySem L2 PySem.Spec PyProof.Rows
section
variable {X : Cx} {CX : CXT} {E : XK} {n : Nat} {f C : Addr} {fd : FuncData} {ps : List Str} {sp : Sp}
/-- x in o, o's class with its own __contains__ that gives a truth value -/
def rInOwn (C : Addr) (sp : Sp) (E : XK) (neg : Bool) : R2 := fun x y H Q => ∃ a dx fs, y = .ref a ∧ H a = some (.ins C dx fs) ∧ sp [.ref a, x] H (fun v H' => ∃ k, v = .bl k ∧ Q (.bl (if neg = true then !k else k)) H') E
theorem op_inOwn (G0 : FnOk X.prog X.w X.K X.mg X.base CX n f fd ps sp) (hb : Binds X.K fd ps []) (hx : Passes CX X E) (hr : Room n X.A)
    (hs : PySem.W.findIn X.K (.ref C) "__contains__" = some (some (.ref f))) (hf : PySem.W.isFn X.K (.ref f) = true) : OpR X (compareOp .In) (rInOwn C sp E false) := by
  intro pins s σ H x y v u Q I rx ry h
  obtain ⟨a, dx, fs, rfl, ha, q⟩ := h
  cases ry
  obtain ⟨mA, J, _⟩ := ins_get I.hok ha
  obtain ⟨od, J, _⟩ := J.look
  obtain ⟨m, hF⟩ := I.fr
  refine PySem.W.in_K hF I.ok.mod.kin J hs hf ?_
  refine wpAny_mono (call_at G0 hb hx hr rfl I (vs := [.ref a, x]) (.cons rfl (.cons rx .nil)) q) (fun r s' z => ?_) fun _ _ z => z
  obtain ⟨z, H1, I1, r1, k, rfl, q1⟩ := z
  cases r1
  exact wpAny_truthy_bool ⟨.bl k, H1, I1, rfl, q1⟩
theorem op_notInOwn (G0 : FnOk X.prog X.w X.K X.mg X.base CX n f fd ps sp) (hb : Binds X.K fd ps []) (hx : Passes CX X E) (hr : Room n X.A)
    (hs : PySem.W.findIn X.K (.ref C) "__contains__" = some (some (.ref f))) (hf : PySem.W.isFn X.K (.ref f) = true) : OpR X (compareOp .NotIn) (rInOwn C sp E true) := by
  intro pins s σ H x y v u Q I rx ry h
  obtain ⟨a, dx, fs, rfl, ha, q⟩ := h
  cases ry
  obtain ⟨mA, J, _⟩ := ins_get I.hok ha
  obtain ⟨od, J, _⟩ := J.look
  obtain ⟨m, hF⟩ := I.fr
  refine PySem.W.notIn_K hF I.ok.mod.kin J hs hf ?_
  refine wpAny_mono (call_at G0 hb hx hr rfl I (vs := [.ref a, x]) (.cons rfl (.cons rx .nil)) q) (fun r s' z => ?_) fun _ _ z => z
  obtain ⟨z, H1, I1, r1, k, rfl, q1⟩ := z
  cases r1
  exact wpAny_truthy_bool ⟨.bl (!k), H1, I1, rfl, q1⟩
/-- ~o -/
theorem un_inv (G0 : FnOk X.prog X.w X.K X.mg X.base CX n f fd ps sp) (hb : Binds X.K fd ps []) (hx : Passes CX X E) (hr : Room n X.A)
    (hs : PySem.W.findIn X.K (.ref C) "__invert__" = some (some (.ref f))) (hf : PySem.W.isFn X.K (.ref f) = true) : UnR X (unaryOp .Invert) (rOwn1 C sp E) := by
  intro pins s σ H x v Q I rx h
  obtain ⟨a, dx, fs, rfl, ha, q⟩ := h
  cases rx
  obtain ⟨mA, J, _⟩ := ins_get I.hok ha
  obtain ⟨od, J, _⟩ := J.look
  obtain ⟨m, hF⟩ := I.fr
  exact PySem.W.ksp_inv hF I.ok.mod.kin J hs hf (call_at G0 hb hx hr rfl I (vs := [.ref a]) (.cons rfl .nil) q)
/-! ### a thing is forgotten -/
theorem hok_forget {P : Program} {w : World} {H : Hp} {h : Heap} {x : Addr} {φ : Heap → Prop} (hx : H x = none) (ok : HOk P w (upd H x (.ext φ)) h) : HOk P w H h := fun b u e => by
  have hb : b ≠ x := ne_of_none e hx
  refine (ok b u (by rw [upd_ne hb]; exact e)).stay (fun _ _ _ q => q) (fun c q => ?_) fun c xs q => ?_
  · by_cases hc : c = x
    · rw [hc, upd_same] at q; cases q
    · rw [upd_ne hc] at q; exact q
  · by_cases hc : c = x
    · rw [hc, upd_same] at q; cases q
    · rw [upd_ne hc] at q; exact q
theorem inv_forget {pins : List (Addr × Obj)} {σ : L2.St} {H : Hp} {s : Shared} {x : Addr} {φ : Heap → Prop} (hx : H x = none) (I : Inv X pins σ (upd H x (.ext φ)) s) : Inv X pins σ H s := by
  have no : ∀ {b : Addr} {o : HO}, upd H x (.ext φ) b = some o → (∀ ψ, o ≠ .ext ψ) → H b = some o := fun {b o} q hn => by
    by_cases hc : b = x
    · rw [hc, upd_same] at q; cases q; exact absurd rfl (hn φ)
    · rw [upd_ne hc] at q; exact q
  have nn : ∀ {b : Addr}, upd H x (.ext φ) b = none → H b = none := fun {b} q => by
    by_cases hc : b = x
    · rw [hc, upd_same] at q; cases q
    · rw [upd_ne hc] at q; exact q
  refine ⟨I.ok, I.os, I.bare, ⟨I.base.keep, I.base.slot, fun b o e n hx => nn (I.base.free b o e n hx), I.base.there, fun b xs q => no (I.base.tups b xs q) (fun _ => nofun), fun b o u q => no (I.base.frzs b o u q) (fun _ => nofun), fun b ps q => ?_⟩, I.loc, I.cell, nn I.free, fun y c e => nn (I.freeC y c e), fun p hp => ?_, hok_forget hx I.hok, I.len⟩
  · obtain ⟨m, e⟩ := I.base.tbls b ps q
    exact ⟨m, no e (fun _ => nofun)⟩
  · obtain ⟨e, n, ne, nf, d⟩ := I.pin p hp
    exact ⟨e, nn n, ne, nf, d⟩
end
/-! ### a promise that knows the state at the call -/
structure FnAt (P : Program) (w : World) (K : PySem.W.Frag) (mg : Str → Option Value) (base : Heap) (CX : CXT) (k : Nat) (f : Addr) (fd : FuncData) (ps : List Str) (sp : Shared → Sp) : Prop where
  len : ∀ s vs H Q E, sp s vs H Q E → vs.length = ps.length
  run : ∀ (A : Around) (outer : List Env) (s : Shared) (H : Hp) (args : Args) (us : List Value) (vs : List V) (Q : VK) (E : XK), Room k A → Env0 P w K mg base A outer s H → BindsTo s fd args (ps.zip us) → Vals vs us → sp s vs H Q E →
    codeAny (model P w) A (.call (.ref f) args) (CR CX outer P w H s Q E) s
theorem fun_okAt {P : Program} {w : World} {K : PySem.W.Frag} {mg : Str → Option Value} {base : Heap} {CX : CXT} {x qual : Str} {st : Stmt} {f : Addr} {fd : FuncData} {N ps : List Str} {k : Nat} {sp : Shared → Sp} (F : Fun K x qual st f fd) (S : FnScope N ps (defScope st)) (len : ∀ s vs H Q E, sp s vs H Q E → vs.length = ps.length)
    (hbody : ∀ (cdv : Value) (A : Around) (outer : List Env) (s : Shared) (H : Hp) (vs : List V) (Q : VK) (E : XK), Room k (A.deeper (PyProof.Rows.envOfC qual (defScope st) s.heap.objs.size f cdv)) → sp s vs H Q E →
      ∃ t, PSs (cxOf CX P w K mg base N qual (defScope st) f cdv A outer s H E) (defBody st) t ∧ t { nx := fun _ H' => Q .non H', rt := Q } (L2.start N vs) H) : FnAt P w K mg base CX (k + 1) f fd ps sp := by
  obtain ⟨oc, od, kV, doc, pm, an, cdv, ct, osl, rfl, lk, hcd⟩ := F.ex
  refine ⟨len, fun A outer s H args us vs Q E hr e0 hb r hsp => ?_⟩
  have hl := len _ _ _ _ _ hsp
  have KX : K.In s.heap := e0.mod.kin.keeps fun b o e => (e0.bs b o e).1
  have lim : s.heap.NoLimit := e0.mod.nolimit.keeps fun b o e => (e0.bs b o e).1
  have hkind : ∀ y ∈ ps.zip us, (defScope st).names.lookup y.1 = some .local ∨ ((defScope st).names.lookup y.1 = some .cell ∧ ((cellsFrom (s.heap.objs.size + 1) (defScope st).names []).lookup y.1).isSome = true) := fun ⟨n, v⟩ hy => by
    rcases S.par n (List.of_mem_zip hy).1 with q | q
    · exact .inl q
    · exact .inr ⟨q, PySem.W.cellsFrom_some _ _ _ (.inl q)⟩
  refine codeAny_call_function hr.depth (KX _ _ lk) rfl S.co S.gen rfl (PySem.W.codeRec_of KX hcd) (hb _ _ _ _ ?_)
  refine wpAny_newFunctionEnv_cells S.kind hkind fun env he s1 x => ?_
  subst he
  refine ⟨lim.keeps x.toInCall.keep, codeAny_func ?_⟩
  obtain ⟨t, ht, hq⟩ := hbody cdv A outer s H vs Q E (hr.deeper _) hsp
  have I : Inv (cxOf CX P w K mg base N qual (defScope st) f cdv A outer s H E) [] (L2.start N vs) H s1 := inv_start S hr.hd e0 hl r x
  refine wpAny_mono (ht.run [] s1 (L2.start N vs) H _ I hq) (fun fl s' hs => ?_) fun e s' hs => hs
  have fin : ∀ {σ' : L2.St} {H' : Hp} {v : V} {u : Value}, Inv (cxOf CX P w K mg base N qual (defScope st) f cdv A outer s H E) [] σ' H' s' → RelV v u → Q v H' → CE outer P w H s Q u s' :=
    fun {σ' H' v u} J rv q => ⟨v, H', J.os, J.bare, J.base, J.hok, rv, q⟩
  cases fl with
  | ret u =>
    obtain ⟨v, σ', H', J, rv, q⟩ := hs
    exact fin J rv q
  | next =>
    obtain ⟨σ', H', J, q⟩ := hs
    exact fin (v := V.non) (u := Value.none) J rfl q
  | brk =>
    obtain ⟨_, _, _, q⟩ := hs
    exact False.elim q
  | cont =>
    obtain ⟨_, _, _, q⟩ := hs
    exact False.elim q
section
variable {X : Cx}
/-- iter(t) of a tuple; the iterator is younger than the call -/
theorem call_iterTS : CallR X (.builtin "iter") (fun xs H Q => ∃ (l : Addr) (zs : List V), xs = [.ref l] ∧ SqT X.K H l zs ∧ ∀ it, H it = none → X.s_0.heap.objs.size ≤ it → Q (.ref it) (upd H it (TitO l it 0))) := by
  intro pins s σ H xs us Q I r h
  obtain ⟨l, zs, rfl, hq, q⟩ := h
  obtain rfl := Vals.ref1 r
  obtain ⟨its, rv, pl, hz⟩ := I.tuple hq
  refine Calls.call_function_entry (by decide +kernel) (by decide +kernel) PySem.W.kdk_entry_iter (PySem.W.kdk_args_iter _) ?_
  unfold Builtin.«iter»
  refine wpAny_bind (m := someArgs "iter" 1 2 _) (wpAny_of_eq (a := [Value.ref l]) (by first | rfl | kernel_rfl!) ?_)
  show wpAny _ _ (pyIter (.ref l) >>= _) _ _ _
  refine wpAny_bind (wpAny_pyIter_tuple (show s.heap.IsTuple l its.toArray from pl) (wpAny_pure ⟨_, rfl, ?_⟩))
  exact ⟨.ref s.heap.objs.size, _, I.laid (t' := s.toks) (fun b u e => Heap.get?_push_of_some _ e) (Nat.le_refl _) (titO_ok ⟨_, Heap.get?_push_size _ rfl, rfl, rfl⟩), rfl, q _ (I.hok.fresh (Nat.le_refl _)) I.sz⟩
/-- what such an __iter__ promises: an iterator over the tuple at l, at its beginning -/
def spItS (C : Addr) (L : Hp → Addr → List (Str × V) → Addr → Prop) : Shared → Sp := fun s vs H Q _ => ∃ p dx fs l, vs = [.ref p] ∧ H p = some (.ins C dx fs) ∧ L H p fs l ∧ ∀ it, H it = none → s.heap.objs.size ≤ it → Q (.ref it) (upd H it (TitO l it 0))
def iOwn (K : PySem.W.Frag) (C : Addr) (L : Hp → Addr → List (Str × V) → Addr → Prop) (tl : TE) : TI := fun σ H R => tl σ H fun x H1 => ∃ a dx fs l xs, x = .ref a ∧ H1 a = some (.ins C dx fs) ∧ L H1 a fs l ∧ SqT K H1 l xs ∧ R (Itt K l) H1
theorem pi_own {tg e : Expr} {tl : TE} {n : Nat} {f C : Addr} {fd : FuncData} {ps : List Str} {L : Hp → Addr → List (Str × V) → Addr → Prop} (he : PE X e tl) (G0 : FnAt X.prog X.w X.K X.mg X.base CX0 n f fd ps (spItS C L)) (hb : Binds X.K fd ps []) (hr : Room n X.A)
    (hs : PySem.W.findIn X.K (.ref C) "__iter__" = some (some (.ref f))) (hf : PySem.W.isFn X.K (.ref f) = true) : PI X tg e (iOwn X.K C L tl) := by
  refine ⟨fun pins s σ H R I h => ?_⟩
  refine thn (he.run pins s σ H _ I h) fun v s1 ⟨x, H1, I1, r1, q1⟩ => ?_
  obtain ⟨a, dx, fs, l, xs, rfl, ha, hL, hq, q⟩ := q1
  cases r1
  obtain ⟨mA, J, _⟩ := ins_get I1.hok ha
  obtain ⟨od, J, _⟩ := J.look
  obtain ⟨m, hF⟩ := I1.fr
  refine PySem.W.owit_iter hF I1.ok.mod.kin J hs hf ?_
  have hsp : spItS C L s1 [.ref a] H1 (fun v H2 => ∃ it, v = .ref it ∧ H1 it = none ∧ s1.heap.objs.size ≤ it ∧ H2 = upd H1 it (TitO l it 0)) (fun _ _ _ => False) := ⟨a, dx, fs, l, rfl, ha, hL, fun it h1 h2 => ⟨it, rfl, h1, h2, rfl⟩⟩
  have r : Vals [V.ref a] [Value.ref a] := .cons rfl .nil
  have e0 : Env0 X.prog X.w X.K X.mg X.base X.A X.stack s1 H1 := I1.env0
  have hl := G0.len _ _ _ _ _ hsp
  refine wpAny_call (codeAny_mono (G0.run X.A X.stack s1 H1 ⟨[.ref a], []⟩ [.ref a] [.ref a] _ _ hr e0 (by
    have := hb s1 [.ref a] I1.kIn (by rw [List.append_nil]; exact hl)
    simpa using this) r hsp) fun r s' hq' => ?_)
  cases r with
  | error e => exact False.elim hq'
  | ok fl =>
    cases fl with
    | ret u =>
      obtain ⟨v, H2, I2, rv, it, rfl, hn, hsz, rfl⟩ := I1.after hq'
      obtain rfl : u = Value.ref it := rv
      have hit := titO_get I2 upd_same
      unfold PySem.W.OwitIt
      refine wpAny_specialOf (show s'.TypeIs (.ref it) "tuple_iterator" from hit.typeIs) PySem.F.slot_tuple_iterator_next.lookup ?_
      have I3 := inv_forget hn I2
      refine ⟨it, [it], _, _, H1, rfl, I3, turn_tuple l it, hit, fun b hb => ?_, q⟩
      have e : b = it := by simpa using hb
      subst e
      exact I1.fpOk hsz hn
    | next => exact False.elim hq'
    | brk => exact False.elim hq'
    | cont => exact False.elim hq'
end
/-! ### several except clauses with a name -/
def wManyAs (K : PySem.W.Frag) (i : Nat) (Wout : WX) (D : Ends) : List (Value × (Addr → Value → Option Addr → TS)) → WX
  | [] => Wout
  | (c, ts) :: r => fun cls d σ H => ∃ b, PySem.W.exmOne K cls c = some b ∧ (b = true → ∀ a, H a = none → ts a cls d { nx := fun σ' H' => D.nx (σ'.set i none) H', rt := D.rt, bk := fun σ' H' => D.bk (σ'.set i none) H', ct := fun σ' H' => D.ct (σ'.set i none) H' } (σ.set i (some (.ref a))) H) ∧ (b = false → wManyAs K i Wout D r cls d σ H)
inductive HdsAs (X : Cx) (n : Str) : List ExceptHandler → List (Value × (Addr → Value → Option Addr → TS)) → Prop
  | nil : HdsAs X n [] []
  | cons {x : Str} {c : Value} {ts : Addr → Value → Option Addr → TS} {b₀ : Stmt} {suite : List Stmt} {np pos' : Pos} {hds : List ExceptHandler} {l : List (Value × (Addr → Value → Option Addr → TS))} (hc : Names X x c)
      (hsu : ∀ (a : Addr) (oe : Obj) (cls : Value) (d : Option Addr) (pn : List (Addr × Obj)), Zc cls d oe → (∃ vs, oe.data = .fields vs) → PSs (X.suite a ((a, oe) :: pn)) (b₀ :: suite) (ts a cls d)) (r : HdsAs X n hds l) :
      HdsAs X n (.ExceptHandler (some (.Name x np)) (some n) (b₀ :: suite) pos' :: hds) ((c, ts) :: l)
section
variable {X : Cx} {n : Str} {i : Nat} {body : List Stmt} {h₀ : ExceptHandler} {hds : List ExceptHandler} {l : List (Value × (Addr → Value → Option Addr → TS))} {pos : Pos} {tb : WX → TS} {Wout : WX}
theorem ps_try_as_many (hs : X.stack = X.env :: X.outer) (hf : X.env.frame = some X.env.locals) (hN : X.N.Nodup) (hi : X.N[i]? = some n) (hln : X.env.kindOf n = some .local) (tk : Takes X Wout)
    (hb : ∀ (W : WX) (pn : List (Addr × Obj)) (xe : Value → Shared → Prop), Takes (X.tr pn xe) W → PassesOwn (model X.prog X.w) X.A X.env xe → PSs (X.tr pn xe) body (tb W))
    (hh : HdsAs X n (h₀ :: hds) l) : PS X (.Try body (h₀ :: hds) [] [] pos) (fun D σ H => tb (wManyAs X.K i Wout D l) D σ H) := by
  refine ⟨fun pins s σ H D I h => ?_⟩
  have ok := I.ok
  have hloc : Loc X.env.scope n := .inl hln
  have hfr : X.A.frames = some (X.env :: X.outer) := by rw [ok.frames, hs]
  refine wpAny_Try_except ?_
  refine wpAny_mono ((hb (wManyAs X.K i Wout D l) (X.pn ++ pins) (fun e s₁ => wpAny (model X.prog X.w) X.A (noteFrame e X.env) (fun _ s₂ => wpAny (model X.prog X.w) X.A (setFlight e none) (fun _ s₃ =>
    wpAny (model X.prog X.w) X.A (handleBy e X.env (h₀ :: hds)) (SP X pins D) X.xe s₃) X.xe s₂) X.xe s₁) (fun u s' xx => ?_) PassesOwn.looking).run [] s σ H D (I.toTry _) h) (fun f s1 hsp => ?_) (fun e s1 he => he)
  · obtain ⟨a, B, sI, pins', σ', H', cls, d, rfl, J', nb, up, sky, na, os, ag, w⟩ := xx
    have J : Inv X pins σ' H' sI := J'.ofTry ok
    have sky' : Sky B (X.env :: X.outer) a (Zc cls d) X.env.locals s'.heap := by rw [← hs]; exact sky
    show wpAny (model X.prog X.w) X.A (noteFrame (.ref a) X.env) _ _ _
    refine Sky.land Zc.steady hfr hf sky' fun h3 fl3 up3 => ?_
    have J3 : Inv X pins σ' H' { s' with heap := h3 } := J.landed nb fl3.1 (up.trans up3) os ag
    obtain ⟨oe3, vs3, he3, hz3, hd3⟩ := fl3.there
    have notFr : ∀ {h : Heap} {o : Obj} {vs : Array Value}, h.FunFrames B (X.env :: X.outer) → h.get? a = some o → o.data = .fields vs → a ∉ frs (X.env :: X.outer) := fun {h o vs} ff e dd hm => by
      obtain ⟨_, o', e', hnf⟩ := ff.mem hm
      rw [e] at e'; cases e'
      exact hnf _ dd
    have nfr := notFr fl3.2.2.1 he3 hd3
    have nL : a ≠ X.env.locals := fun z => nfr (List.mem_filterMap.mpr ⟨X.env, List.mem_cons_self, by rw [hf, z]⟩)
    have nF : a ∉ X.fs := fun hm => by
      obtain ⟨e, he, q⟩ := List.mem_filterMap.mp hm
      exact nfr (List.mem_filterMap.mpr ⟨e, List.mem_cons_of_mem _ he, q⟩)
    have S3 := J3.suite he3 hd3 na nL nF
    have go : ∀ {hds' : List ExceptHandler} {l' : List (Value × (Addr → Value → Option Addr → TS))}, HdsAs X n hds' l' → wManyAs X.K i Wout D l' cls d σ' H' →
        wpAny (model X.prog X.w) X.A (handleBy (.ref a) X.env hds') (SP X pins D) X.xe { s' with heap := h3 } := by
      intro hds' l' hk
      induction hk with
      | nil =>
        intro w
        refine wpAny_handleBy_nil ?_
        obtain ⟨k1, k2, k3, oe, vs, T, oT, ts', he, hz, hd, h1, hr⟩ := id fl3
        unfold PySem.passOn
        refine wpAny_bind (wpAny_field he hd h1 ?_)
        rw [if_neg (show ¬ ((Value.ref T == Value.none) = true) from by simp)]
        have fin : wpAny (model X.prog X.w) X.A (setFlight (.ref a) X.env.frame) (fun _ s4 => wpAny (model X.prog X.w) X.A (throw (.ref a) : Sem Flow) (SP X pins D) X.xe s4) X.xe { s' with heap := h3 } := by
          rw [hf]
          refine HandSPX.setFlight_upZ fl3 fun h4 hh4 up4 => wpAny_throw (tk _ _ ?_)
          exact ⟨a, B, sI, pins, σ', H', cls, d, rfl, J, nb, (up.trans up3).trans up4, .inr (.inr (by rw [hs]; exact hh4)), na, os, ag, w⟩
        first
          | exact wpAny_bind (wpAny_pure (wpAny_bind fin))
          | exact wpAny_bind fin
      | @cons x c ts b₀ suite np pos' hds2 l2 hc hsu r ih =>
        intro w
        obtain ⟨b, hb1, hyes, hno⟩ := w
        refine wpAny_handleBy_cons (codeAny_handlers_test ?_) (by intro q; cases q)
        have LT : PySem.W.Looks (model X.prog X.w) h3 (typeOf (.ref a)) cls := fun A Q E s k q => wpAny_typeOf_ref (k _ _ he3) (by rw [hz3.1]; exact q)
        have LM := PySem.W.exm_one (M := model X.prog X.w) (J3.kIn) LT hb1
        have test : ∀ {Q : Value → Shared → Prop} {E : Value → Shared → Prop}, Q c { s' with heap := h3 } → wpAny (model X.prog X.w) (X.A.mark (some (.ref a))) (eval (.Name x np) X.env) Q E { s' with heap := h3 } := fun {Q E} q => by
          obtain ⟨hg, hdbg, hm | ⟨hm, hv, hnn⟩⟩ := hc
          · exact ld_glob (X := X.suite a ((a, oe3) :: (X.pn ++ pins))) S3 hg hm q hdbg
          · exact ld_blt (X := X.suite a ((a, oe3) :: (X.pn ++ pins))) S3 hg hm hv q hnn hdbg
        refine test (LM.here ?_)
        cases b with
        | true =>
          refine codeAny_handlers_suite_as ?_
          refine HandSPX.lands_againZ fl3 fun h4 fl4 up4 => ?_
          have J4 : Inv X pins σ' H' { s' with heap := h4 } := J.landed nb fl4.1 ((up.trans up3).trans up4) os ag
          obtain ⟨oe4, vs4, he4, hz4, hd4⟩ := fl4.there
          have S4 := J4.suite he4 hd4 na nL nF
          refine store_ok (X := X.suite a ((a, oe4) :: (X.pn ++ pins))) (v := .ref a) S4 hN hi hloc rfl (fun s5 S5 => ?_) (.inr hln)
          refine wpAny_mono ((hsu a oe4 cls d (X.pn ++ pins) hz4 ⟨_, hd4⟩).run [] s5 _ H' _ S5 (hyes rfl a na)) (fun f s6 hsp => ?_) (fun _ _ z => False.elim z)
          have end_ : ∀ {σ6 : L2.St} {H6 : Hp} {Q : Shared → Prop}, Inv (X.suite a ((a, oe4) :: (X.pn ++ pins))) [] σ6 H6 s6 → (∀ s7, Inv X pins (σ6.set i none) H6 s7 → Q s7) →
              wpAny (model X.prog X.w) X.A (do bindName X.env n .none; unbindBehindTheSuite X.env n pos') (fun _ s7 => Q s7) X.xe s6 := fun {σ6 H6 Q} S6 hq => gone_ok (S6.unsuite ok) hN hi hln hq
          cases f with
          | next =>
            obtain ⟨σ6, H6, S6, q6⟩ := hsp
            exact end_ S6 fun s7 J7 => ⟨_, _, J7, q6⟩
          | brk =>
            obtain ⟨σ6, H6, S6, q6⟩ := hsp
            exact end_ S6 fun s7 J7 => ⟨_, _, J7, q6⟩
          | cont =>
            obtain ⟨σ6, H6, S6, q6⟩ := hsp
            exact end_ S6 fun s7 J7 => ⟨_, _, J7, q6⟩
          | ret u =>
            obtain ⟨v6, σ6, H6, S6, r6, q6⟩ := hsp
            exact end_ S6 fun s7 J7 => ⟨_, _, _, J7, r6, q6⟩
        | false =>
          show wpAny _ X.A (handleBy (.ref a) X.env hds2) _ _ _
          exact ih (hno rfl)
    exact go hh w
  · cases f with
    | next =>
      obtain ⟨σ', H', J', q⟩ := hsp
      exact wpAny_execs_nil ⟨σ', H', J'.ofTry ok, q⟩
    | brk =>
      obtain ⟨σ', H', J', q⟩ := hsp
      exact ⟨σ', H', J'.ofTry ok, q⟩
    | cont =>
      obtain ⟨σ', H', J', q⟩ := hsp
      exact ⟨σ', H', J'.ofTry ok, q⟩
    | ret u =>
      obtain ⟨v, σ', H', J', r, q⟩ := hsp
      exact ⟨v, σ', H', J'.ofTry ok, r, q⟩
end
end My
set_option maxRecDepth 100000
set_option maxHeartbeats 4000000
namespace My
open PySem L2 PySem.Spec PyProof.Rows
/-! ### t[:0:-1], t a tuple -/
theorem fm_congr {α β : Type} {f g : α → Option β} : ∀ {l : List α}, (∀ x ∈ l, f x = g x) → l.filterMap f = l.filterMap g
  | [], _ => rfl
  | a :: l, h => by
    rw [List.filterMap_cons, List.filterMap_cons, h a List.mem_cons_self, fm_congr fun x hx => h x (List.mem_cons_of_mem _ hx)]
theorem back_pick (xs : Array Value) : ((List.range (xs.size - 1)).filterMap fun (m : Nat) => xs[(((xs.size : Nat) : Int) - 1 + (m : Int) * (-1)).toNat]?) = (xs.toList.drop 1).reverse := by
  obtain ⟨l⟩ := xs
  cases l with
  | nil => rfl
  | cons a t =>
    simp only [List.size_toArray, List.getElem?_toArray, List.length_cons, List.drop_succ_cons, List.drop_zero]
    rw [Nat.add_sub_cancel]
    have e : ∀ m ∈ List.range t.length, (a :: t)[((((t.length + 1 : Nat)) : Int) - 1 + (m : Int) * (-1)).toNat]? = t.reverse[m]? := fun m hm => by
      have hm := List.mem_range.mp hm
      have e1 : ((((t.length + 1 : Nat)) : Int) - 1 + (m : Int) * (-1)).toNat = (t.length - 1 - m) + 1 := by omega
      rw [e1, List.getElem?_cons_succ, List.getElem?_reverse hm]
    have e2 : (List.range t.length).filterMap (fun (m : Nat) => (a :: t)[((((t.length + 1 : Nat)) : Int) - 1 + (m : Int) * (-1)).toNat]?) = (List.range t.length).filterMap (fun m => t.reverse[m]?) :=
      fm_congr e
    rw [e2]
    have h := PySem.W.krv_all t.reverse.toArray
    simpa using h
theorem back_adjust (n : Nat) : Builtin.Slice.sliceAdjust none (some 0) (-1) (n : Int) = ((n : Int) - 1, if n = 0 then -1 else 0) := by
  by_cases h : n = 0
  · subst h; rfl
  · rw [if_neg h]
    have e : min (0 : Int) ((n : Int) - 1) = 0 := by omega
    show ((n : Int) - 1, min (0 : Int) ((n : Int) - 1)) = _
    rw [e]
theorem back_places (n : Nat) : Builtin.Slice.slicePlaces ((n : Int) - 1) (if n = 0 then -1 else 0) (-1) = n - 1 := by
  unfold Builtin.Slice.slicePlaces
  rw [if_neg (show ¬ ((-1 : Int) > 0) by decide)]
  by_cases h : n = 0
  · subst h; rfl
  · rw [if_neg h]
    by_cases h1 : n = 1
    · subst h1; rfl
    · rw [if_pos (by omega), show (- -1 : Int) = 1 by decide, Int.ediv_one]
      omega
section
variable {prog : Program} {w : World} {A : Around} {E : Value → Shared → Prop} {s : Shared}
theorem back_applied {sl : Addr} {vl vu vs : Value} {n : Nat} {Q : Int × Int × Nat → Shared → Prop} (hs : s.heap.IsSliceOf sl vl vu vs) (pl : IsPart vl none) (pu : IsPart vu (some 0)) (ps : IsPart vs (some (-1)))
    (h : Q ((n : Int) - 1, -1, n - 1) s) : wpAny (model prog w) A (Builtin.Slice.sliceApplied (.ref sl) (pure (n : Int))) Q E s := by
  obtain ⟨os, hos, hcs, hds⟩ := id hs
  unfold Builtin.Slice.sliceApplied Builtin.Slice.sliceFields
  refine wpAny_bind (wpAny_bind (wpAny_field hos hds (x := vl) rfl (wpAny_bind (wpAny_field hos hds (x := vu) rfl (wpAny_bind (wpAny_field hos hds (x := vs) rfl (wpAny_pure ?_)))))))
  refine wpAny_bind (HT.slicePart_ ps ?_)
  show wpAny _ _ (if ((-1 : Int) == 0) = true then _ else _) _ _ s
  rw [if_neg (by decide)]
  refine wpAny_bind (HT.slicePart_ pl (wpAny_bind (HT.slicePart_ pu (wpAny_bind (wpAny_pure ?_)))))
  show wpAny _ _ (match Builtin.Slice.sliceAdjust none (some 0) (-1) (n : Int) with | (lo, hi) => pure (lo, (-1 : Int), Builtin.Slice.slicePlaces lo hi (-1))) _ _ s
  rw [back_adjust n]
  show wpAny _ _ (pure ((n : Int) - 1, (-1 : Int), Builtin.Slice.slicePlaces ((n : Int) - 1) (if n = 0 then -1 else 0) (-1))) _ _ s
  rw [back_places]
  exact wpAny_pure h
theorem getItem_tuple_back {t sl : Addr} {items : Array Value} {vl vu vs : Value} {Q : Value → Shared → Prop} (ht : IsTup s.heap t items) (hs : s.heap.IsSliceOf sl vl vu vs) (pl : IsPart vl none) (pu : IsPart vu (some 0)) (ps : IsPart vs (some (-1)))
    (h : Q (.ref s.heap.objs.size) { s with heap := s.heap.push { cls := .type "tuple", data := .seq (items.toList.drop 1).reverse.toArray } })
    (hsz : items.size ≤ sizeLine) : wpAny (model prog w) A (getItem (.ref t) (.ref sl)) Q E s := by
  have htake : sizeOk (.seq (items.toList.drop 1).reverse.toArray) := by
    show (items.toList.drop 1).reverse.toArray.size ≤ sizeLine
    rw [List.size_toArray, List.length_reverse, List.length_drop, Array.length_toList]
    omega
  obtain ⟨os, hos, hcs, hds⟩ := id hs
  have hTs : s.TypeIs (.ref sl) "slice" := ⟨os, hos, hcs⟩
  unfold getItem
  try with_reducible refine wpAny_holding ?_
  first | refine wpAny_bind (wpAny_pure ?_) | skip
  refine wpAny_bind (wpAny_sequenceKey ht.typeIs (by decide) ?_)
  refine wpAny_bind (wpAny_callSpecial?_slot (name := Str.ofString "__getitem__") ht.typeIs PyProof.Rows.slot_tuple_getitem
    (wpAny_call_entry PyProof.Rows.slot_tuple_getitem ht.typeIs entry_tuple_getitem ?_ (args_tuple_getitem _ _)))
  show wpAny _ _ (Builtin.Tuple.tupleItemsOf (.ref t) >>= _) _ _ s
  refine wpAny_bind (tupleItemsOf_ ht ?_)
  refine wpAny_bind (wpAny_typeOf hTs ?_)
  rw [if_pos (by decide)]
  refine wpAny_bind (back_applied hs pl pu ps ?_)
  have hno : ¬ (((((items.size : Nat) : Int) - 1) == 0 && (-1 : Int) == 1 && (items.size - 1) == items.size) = true) := by
    intro q
    rw [Bool.and_eq_true, Bool.and_eq_true] at q
    exact absurd q.1.2 (by decide)
  show wpAny _ _ (if ((((items.size : Nat) : Int) - 1) == 0 && (-1 : Int) == 1 && (items.size - 1) == items.size) = true then _ else _) _ _ s
  rw [if_neg hno, back_pick]
  first
    | exact wpAny_bind (m := Builtin.Tuple.tupleExact _) (wpAny_newObj_type (wpAny_pure ⟨_, rfl, wpAny_pure h⟩) htake)
    | exact wpAny_bind (m := Builtin.Tuple.tupleExact _) (wpAny_newObj_type (wpAny_bind (wpAny_pure (wpAny_pure ⟨_, rfl, wpAny_pure h⟩))) htake)
    | exact wpAny_bind (wpAny_bind (m := Builtin.Tuple.tupleExact _) (wpAny_newObj_type (wpAny_pure (wpAny_pure ⟨_, rfl, wpAny_pure h⟩)) htake))
    | exact wpAny_bind (wpAny_bind (m := Builtin.Tuple.tupleExact _) (wpAny_newObj_type (wpAny_pure ⟨_, rfl, wpAny_pure h⟩) htake))
end
section
variable {X : Cx}
def tBackT (K : PySem.W.Frag) (te : TE) : TE := fun σ H Q => te σ H fun x H1 => ∃ a xs, x = .ref a ∧ SqT K H1 a xs ∧ ∀ p, H1 p = none → Q (.ref p) (upd H1 p (.tup (xs.drop 1).reverse))
theorem pe_backT {e : Expr} {te : TE} {k k0 : Nat} {p0 p1 p2 p3 pos : Pos} (he : PE X e te) : PE X (.Subscript e (.Slice none (some (.Constant (.int 0) k0 p0)) (some (.UnaryOp .USub (.Constant (.int 1) k p1) p2)) p3) pos) (tBackT X.K te) := by
  refine ⟨fun pins s σ H Q I h => ?_⟩
  refine Subscript_ (thn (he.run pins s σ H _ I h) fun v s1 ⟨x, H1, I1, r1, q1⟩ => ?_)
  obtain ⟨a, xs, ex, hx, q⟩ := q1
  subst ex
  cases r1
  have hst : PO X (some (.UnaryOp .USub (.Constant (.int 1) k p1) p2)) (tPart (tUn (rU fun i => .int (-i)) (tC (.int 1)))) := po_some (pe_un un_neg pe_int)
  have hup : PO X (some (.Constant (.int 0) k0 p0)) (tPart (tC (.int 0))) := po_some pe_int
  refine wpAny_Slice (thn (po_none.run pins s1 σ H1 (fun o H2 => o = none ∧ H2 = H1) I1 ⟨rfl, rfl⟩) fun vl s2 ⟨l, H2, I2, pl, el, e2⟩ => ?_)
  subst el e2
  refine thn (hup.run pins s2 σ H2 (fun o H3 => o = some 0 ∧ H3 = H2) I2 ⟨0, rfl, rfl, rfl⟩) fun vu s3 ⟨u, H3, I3, pu, eu, e3⟩ => ?_
  subst eu e3
  refine thn (hst.run pins s3 σ H3 (fun o H4 => o = some (-1) ∧ H4 = H3) I3 ⟨1, rfl, -1, rfl, rfl, rfl⟩) fun vs s4 ⟨o, H4, I4, ps, eo, e4⟩ => ?_
  subst eo e4
  have I5 : Inv X pins σ H4 { s4 with heap := s4.heap.push { cls := .type "slice", data := .fields #[vl, vu, vs] } } := I4.kept (t' := s4.toks) fun b ob q => Heap.get?_push_of_some _ q
  obtain ⟨its, r, ht, hz⟩ := I5.tuple hx
  have hlen := r.length
  show wpAny (model X.prog X.w) X.A (subscriptTail e (.Slice none (some (.Constant (.int 0) k0 p0)) (some (.UnaryOp .USub (.Constant (.int 1) k p1) p2)) p3) (.ref a) (.ref s4.heap.objs.size)) (EP X pins σ Q) X.xe { s4 with heap := s4.heap.push { cls := .type "slice", data := .fields #[vl, vu, vs] } }
  refine tail_any (ops := [.ref a, .ref s4.heap.objs.size]) ht.typeIs (PyProof.Rows.slot_tuple_getitem.lookup) ?_ (by with_unfolding_all rfl)
  refine getItem_tuple_back ht (Heap.IsSliceOf.new _ vl vu vs) pl pu ps ?_ (by rw [List.size_toArray]; omega)
  refine ⟨.ref _, _, I5.laid (t' := s4.toks) (o := .tup (xs.drop 1).reverse) (fun b ob q => Heap.get?_push_of_some _ q) (Nat.le_refl _) ?_, rfl, q _ (I5.hok.fresh (Nat.le_refl _))⟩
  exact ⟨by rw [List.length_reverse, List.length_drop]; omega, _, (r.drop 1).reverse, IsTup.new _ _⟩
end
end My
set_option maxRecDepth 100000
set_option maxHeartbeats 4000000
namespace My
open PySem L2 PySem.Spec PyProof.Rows
/-! ### tuples that are known to have no dict: their methods can be called -/
def DT (H : Hp) (a : Addr) (xs : List V) : Prop := ∃ o : Obj, o.dict = none ∧ H a = some (.frz o (.tup xs))
theorem DT.sq {K : PySem.W.Frag} {H : Hp} {a : Addr} {xs : List V} (h : DT H a xs) : SqT K H a xs := let ⟨o, _, e⟩ := h; .inl (.inr ⟨o, e⟩)
theorem DT.same {H H' : Hp} {a : Addr} {xs : List V} (h : DT H a xs) (s : Same H H') : DT H' a xs := let ⟨o, d, e⟩ := h; ⟨o, d, s _ _ e⟩
theorem DT.upd {H : Hp} {a b : Addr} {xs : List V} {u o : HO} (h : DT H a xs) (hb : H b = some u) (hu : ∀ o v, u ≠ .frz o v) : DT (L2.upd H b o) a xs := let ⟨w, d, e⟩ := h; ⟨w, d, by rw [upd_ne (ne_of e hb (fun z => hu _ _ z.symm))]; exact e⟩
section
variable {X : Cx}
/-- tuple(xs), a new one -/
def rTupD (K : PySem.W.Frag) : List V → Hp → VK → Prop := fun xs H Q => ∃ p ys, xs = [.ref p] ∧ ((SqL K H p ys ∧ ∀ (l : Addr) (o : Obj), H l = none → o.dict = none → Q (.ref l) (upd H l (.frz o (.tup ys)))) ∨ (SqT K H p ys ∧ Q (.ref p) H))
theorem call_tuple_ofD : CallR X (.type "tuple") (rTupD X.K) := by
  intro pins s σ H xs us Q I r h
  obtain ⟨p, ys, rfl, h⟩ := h
  obtain ⟨u, rfl, rx⟩ := vals1 r
  cases rx
  rcases h with ⟨hq, q⟩ | ⟨hq, q⟩
  · obtain ⟨its, r', pl, hz⟩ := I.list hq
    have hlen := r'.length
    refine call_tuple_list pl.isList (fun h' kp => ?_) (by simp only [List.size_toArray] <;> omega)
    have I1 : Inv X pins σ H { s with heap := h' } := I.kept (t' := s.toks) kp
    have I2 : Inv X pins σ (upd H h'.objs.size (.frz { cls := .type "tuple", data := .seq its.toArray } (.tup ys))) { s with heap := h'.push { cls := .type "tuple", data := .seq its.toArray } } :=
      I1.laid (t' := s.toks) (fun b o e => Heap.get?_push_of_some _ e) (Nat.le_refl _) (show ObjOk X.prog X.w _ _ _ (.frz _ (.tup ys)) from ⟨Heap.get?_push_size _ rfl, hz, its, r', IsTup.new _ _⟩)
    exact ⟨.ref h'.objs.size, _, I2, rfl, q _ _ (I1.hok.fresh (Nat.le_refl _)) rfl⟩
  · obtain ⟨its, r', pl, hz⟩ := I.tuple hq
    exact call_tuple_same pl ⟨.ref p, H, I, rfl, q⟩
def tTupD (t : TA) : TE := fun σ H Q => t σ H fun xs H1 => xs.length ≤ sizeLine ∧ ∀ (p : Addr) (o : Obj), H1 p = none → o.dict = none → Q (.ref p) (upd H1 p (.frz o (.tup xs)))
theorem pe_tupD {es : List Expr} {t : TA} {x1} {pos : Pos} (h : PA X es t) : PE X (.Tuple es x1 pos) (tTupD t) := by
  refine ⟨fun pins s σ H Q I hq => ?_⟩
  refine wpAny_Tuple_spliced (thn (h.run pos pins s σ H _ I hq) fun us s1 ⟨xs, H1, I1, r, z, q⟩ => ⟨by rw [← r.length]; exact z, ?_⟩)
  have hf : H1 s1.heap.objs.size = none := I1.hok.fresh (Nat.le_refl _)
  refine ⟨.ref s1.heap.objs.size, upd H1 s1.heap.objs.size (.frz { cls := .type "tuple", data := .seq us.toArray } (.tup xs)), I1.laid (t' := s1.toks) (fun b u e => Heap.get?_push_of_some _ e) (Nat.le_refl _) ?_, rfl, q _ _ hf rfl⟩
  exact ⟨Heap.get?_push_size _ rfl, z, us, r, ⟨_, Heap.get?_push_size _ rfl, rfl, _, rfl⟩⟩
/-- t.m(e, ..) -/
def tBMT (r : V → List V → Hp → VK → Prop) (to : TE) (t : TA) : TE := fun σ H Q => to σ H fun x H1 => (∃ p xs, x = .ref p ∧ DT H1 p xs) ∧ t σ H1 fun xs H2 => r x xs H2 Q
theorem pe_bmT {o e : Expr} {es : List Expr} {to : TE} {t : TA} {name : Str} {apos cpos : Pos} {id : String} {r : V → List V → Hp → VK → Prop} (pa : PlainAttrs "tuple") (slot : Slot "tuple" name id) (hty : typeOf (.builtin id) = pure (.type "method_descriptor")) (hm : MtR X id r) (ho : PE X o to) (ha : PA X (e :: es) t)
    (hbase : attributeBase o name X.env (eval o X.env) = eval o X.env := by rfl)
    (hfew : ((backTo cpos (starEach (e :: es) X.env)).all (fun x => !x.1) && (backToKw cpos (keywordEach [] X.env)).all (fun x => x.1.isSome)
      && decide ((e :: es).length + ([] : List Keyword).length + (if ([] : List Keyword).isEmpty then 0 else 1) < 30)) = true := by rfl)
    (hline : (apos.endLine == cpos.line) = true := by rfl) (hs : starEach (e :: es) X.env = (false, eval e X.env) :: starEach es X.env := by rfl) (hplain : (backTo cpos (starEach es X.env)).any (·.1) = false := by rfl) :
    PE X (.Call (.Attribute o name apos) (e :: es) [] cpos) (tBMT r to t) := by
  refine ⟨fun pins s σ H Q I h => ?_⟩
  refine wpAny_Call_method_late hbase hfew hline rfl (thn (ho.run pins s σ H _ I h) fun v s1 ⟨x, H1, I1, r1, ty, q1⟩ => ?_)
  obtain ⟨p, xs, rfl, ob, hd, hfz⟩ := ty
  obtain rfl : v = Value.ref p := r1
  obtain ⟨eo, _, its, _, ob', e', hc, _⟩ := (show ObjOk X.prog X.w H1 s1.heap p (.frz ob (.tup xs)) from I1.hok p _ hfz)
  rw [eo] at e'
  cases e'
  have h1 : s1.TypeIs (.ref p) "tuple" := ⟨ob, eo, hc⟩
  have h2 : ∀ a, Value.ref p = .ref a → ∃ ob, s1.heap.get? a = some ob ∧ ob.dict = none := fun a e => by cases e; exact ⟨ob, eo, hd⟩
  refine ⟨"tuple", id, pa, slot, hty, h1, h2, ?_⟩
  have hA := ha.run cpos pins s1 σ H1 _ I1 q1
  rw [hs] at hA ⊢
  refine Calls.callWith_builtin (by show (false || (backTo cpos (starEach es X.env)).any (·.1)) = false; rw [hplain] <;> rfl) (Calls.evalArgs_plain ?_)
  exact thn hA fun us s2 ⟨vs, H2, I2, r2, q2⟩ => hm pins s2 σ H2 (.ref p) vs (.ref p) us Q I2 rfl r2 q2
end
end My
set_option maxRecDepth 100000
set_option maxHeartbeats 4000000
namespace My
open PySem PySem.Spec PyProof.Rows L2
theorem rd_ne {H : Hp} {a b : Addr} {u v : HO} (h : L2.Rd H a u) (hb : H b = some v) (h1 : u ≠ v) (h2 : ∀ o, HO.frz o u ≠ v) : a ≠ b := by
  rcases h with h | ⟨o, h⟩
  · exact ne_of h hb h1
  · exact ne_of h hb (h2 o)
theorem rd_upd {H : Hp} {a b : Addr} {u o : HO} (h : L2.Rd H a u) (hne : a ≠ b) : L2.Rd (upd H b o) a u := by
  rcases h with h | ⟨w, h⟩
  · exact .inl (by rw [upd_ne hne]; exact h)
  · exact .inr ⟨w, by rw [upd_ne hne]; exact h⟩
theorem DT.rd {H : Hp} {a : Addr} {xs : List V} (h : DT H a xs) : L2.Rd H a (.tup xs) := let ⟨o, _, e⟩ := h; .inr ⟨o, e⟩
section
variable {X : Cx} {pins : List (Addr × Obj)} {σ : L2.St} {H : Hp} {s : Shared} {l it S : Addr} {i : Nat}
/-- list.extend over it -/
theorem tit_loopR {A1 : Around} {ys : List V} {Rs : Result → Shared → Prop} (hh : A1.handled = none) :
    ∀ (k i : Nat) (H : Hp) (s : Shared), ys.length - i = k → i ≤ ys.length → Inv X pins σ H s → H it = some (TitO l it i) → L2.Rd H l (.tup ys) → H S = some (.lst (ys.take i)) → ys.length < sizeLine →
      (∀ H2 s2, Inv X pins σ H2 s2 → (∀ b, b ≠ it → b ≠ S → H2 b = H b) → H2 S = some (.lst ys) → Rs (.ok (.ret .none)) s2) → codeAny (model X.prog X.w) A1 (.builtin "list.extend.loop" ⟨[.ref S, .ref it, .none], []⟩) Rs s := by
  intro k
  induction k with
  | zero =>
    intro i H s hk hi I h1 h2 h3 hz hR
    have hne : S ≠ it := ne_of h3 h1 (fun z => nomatch z)
    obtain ⟨its, rv, pl, _⟩ := I.tuple (.inl h2)
    refine codeAny_builtin PySem.F.entry_extend_loop ?_
    rw [Around.under_plainId PySem.F.plain_extend_loop _]
    show wpAny _ A1.in1 (pyNext (.ref it) >>= _) _ _ s
    have hno : (its.toArray)[i]? = none := by
      have := rv.length
      rw [List.getElem?_toArray, List.getElem?_eq_none_iff]
      omega
    refine wpAny_bind (tup_end hh (titO_get I h1) (show s.heap.IsTuple l its.toArray from pl) hno fun h' k' e' => wpAny_pure ?_)
    have J := I.write (t' := s.toks) (x := it) (e := it) (o := AnyO it) (by rw [h1]; exact True.intro) (.inl rfl) k' e' (anyO_ok e')
    refine hR _ _ J (fun b hb _ => upd_ne hb) ?_
    rw [upd_ne hne, h3, List.take_of_length_le (by omega)]
  | succ k ih =>
    intro i H s hk hi I h1 h2 h3 hz hR
    have hne : S ≠ it := ne_of h3 h1 (fun z => nomatch z)
    have hln : l ≠ it := rd_ne h2 h1 (fun z => nomatch z) (fun _ z => nomatch z)
    have hlS : l ≠ S := rd_ne h2 h3 (fun z => nomatch z) (fun _ z => nomatch z)
    obtain ⟨its, rv, pl, _⟩ := I.tuple (.inl h2)
    have hlen := rv.length
    have hlt : i < ys.length := by omega
    obtain ⟨u, hu, ru⟩ := rv.get (i := i) (x := ys[i]) (by simp [hlt])
    refine codeAny_builtin PySem.F.entry_extend_loop ?_
    rw [Around.under_plainId PySem.F.plain_extend_loop _]
    show wpAny _ A1.in1 (pyNext (.ref it) >>= _) _ _ s
    refine wpAny_bind (wpAny_pyNext_tuple_item (titO_get I h1) (show s.heap.IsTuple l its.toArray from pl) (x := u) (by rw [List.getElem?_toArray]; exact hu) fun h' hit hs => ?_)
    have J := I.write (t' := s.toks) (x := it) (e := it) (o := TitO l it (i + 1)) (by rw [h1]; exact True.intro) (.inl rfl) (fun b o hb e => hs.extBut b o hb e) ⟨_, hit.choose_spec.1⟩ (titO_ok hit)
    have h3' : upd H it (TitO l it (i + 1)) S = some (.lst (ys.take i)) := by rw [upd_ne hne]; exact h3
    show wpAny _ A1.in1 (updateSeq S (·.push u) >>= _) _ _ _
    obtain ⟨z, its3, n3, r3, hl3, e3⟩ := J.lstM h3'
    have hl4 : its3.length = i := by rw [← hl3, List.length_take]; omega
    refine wpAny_bind (wpAny_updateSeq e3 rfl (wpAny_pure ⟨plainId_quiet PySem.F.plain_extend_loop _, ?_⟩) (by rw [List.size_toArray]; omega) (by show (its3.toArray.push u).size ≤ sizeLine + 1; rw [Array.size_push, List.size_toArray]; omega))
    have et : ys.take (i + 1) = ys.take i ++ [ys[i]] := by rw [List.take_succ]; simp [hlt]
    have J2 := J.lset (f := (·.push u)) (its' := its3 ++ [u]) (t' := s.toks) (ys := ys.take (i + 1)) h3' e3 (by simp) (by rw [et]; exact r3.append (.cons ru .nil)) (by rw [List.length_take]; omega)
    refine ih (i + 1) _ _ (by omega) hlt J2 ?_ ?_ upd_same hz fun H2 s2 I2 k2 e2 => hR H2 s2 I2 (fun b hb hc => ?_) e2
    · rw [upd_ne (Ne.symm hne), upd_same]
    · exact rd_upd (rd_upd h2 hln) hlS
    · rw [k2 b hb hc, upd_ne hc, upd_ne hb]
end
/-- list(o): its __iter__ gives a tuple's iterator, its __len__ a number -/
def rLstItR (C : Addr) (spI spL : Sp) (EI EL : XK) : List V → Hp → VK → Prop := fun xs H Q => ∃ a dx fs, xs = [.ref a] ∧ H a = some (.ins C dx fs) ∧ ∀ q, H q = none → q ≠ a →
  spI [.ref a] (upd H q (.lst [])) (fun v H1 => ∃ it l ys, v = .ref it ∧ H1 it = some (TitO l it 0) ∧ L2.Rd H1 l (.tup ys) ∧ H1 q = some (.lst []) ∧ H1 a = some (.ins C dx fs) ∧ ys.length < sizeLine ∧
    spL [.ref a] H1 (fun n H2 => H2 = H1 ∧ ∃ k : Int, n = .int k ∧ 0 ≤ k ∧ k < 1000) EL ∧ ∀ H2, (∀ b, b ≠ it → b ≠ q → H2 b = H1 b) → H2 q = some (.lst ys) → Q (.ref q) H2) EI
section
variable {X : Cx} {CI : CXT} {n : Nat} {C fi fl : Addr} {fdI fdL : FuncData} {psI psL : List Str} {spI spL : Sp} {EI EL : XK}
theorem call_listItR (hc : ItL X.K C fi fl) (FI : FnOk X.prog X.w X.K X.mg X.base CI n fi fdI psI spI) (bI : Binds X.K fdI psI []) (xI : Passes CI X EI)
    (FL : FnOk X.prog X.w X.K X.mg X.base CX0 n fl fdL psL spL) (bL : Binds X.K fdL psL []) (hr : Room (n + 4) X.A) : CallR X (.type "list") (rLstItR C spI spL EI EL) := by
  intro pins s σ H xs us Q I rv h
  obtain ⟨a, dx, fs, rfl, ha, hq⟩ := h
  obtain ⟨u, rfl, ru⟩ := rv.one
  cases ru
  have sb : Sub X (n + 2) X.A.in1.in1 := (Sub.in1 (Sub.in1 (⟨hr, rfl⟩ : Sub X (n + 4) X.A)))
  refine callType_codes (Q₁ := fun obj s₁ => obj = .ref s.heap.objs.size ∧ s₁ = { s with heap := s.heap.push { cls := .type "list", data := .seq #[] } }) PySem.F.called_list (PySem.F.typeCall_list_1 _) PySem.F.entry_list_init (code_list_new _ ⟨rfl, rfl⟩) fun obj s₁ h₁ => ?_
  obtain ⟨rfl, rfl⟩ := h₁
  have hS : (s.heap.push { cls := .type "list", data := .seq #[] }).get? s.heap.objs.size = some { cls := .type "list", data := .seq #[] } := Heap.get?_push_size _ rfl
  refine ⟨⟨_, hS, rfl⟩, PySem.F.args_list_init_2 _ _, ?_⟩
  have fr : H s.heap.objs.size = none := I.hok.fresh (Nat.le_refl _)
  have sp0 := hq _ fr (fun z => by rw [z, ha] at fr; cases fr)
  have I1 : Inv X pins σ (upd H s.heap.objs.size (.lst [])) { s with heap := s.heap.push { cls := .type "list", data := .seq #[] } } := I.lnew (its := []) (t' := s.toks) .nil (Nat.zero_le _)
  show wpAny _ _ (do let old ← Builtin.List.listItems (.ref s.heap.objs.size); Builtin.List.listUpdate (.ref s.heap.objs.size) (fun _ => #[]); letGo old.toList.reverse; Builtin.List.listExtendWith (.ref s.heap.objs.size) (.ref a) .none) _ _ _
  refine wpAny_bind ?_
  unfold Builtin.List.listItems
  refine wpAny_bind (wpAny_seqItems hS rfl (wpAny_pure ?_))
  show wpAny _ _ (updateSeq s.heap.objs.size (fun _ => #[]) >>= fun _ => letGo (#[] : Array Value).toList.reverse >>= fun _ => Builtin.List.listExtendWith (.ref s.heap.objs.size) (.ref a) .none) _ _ _
  refine wpAny_bind (wpAny_updateSeq hS rfl ?_)
  have I2 := I1.lset (f := fun _ => #[]) (its := []) (its' := []) (ys := []) (t' := s.toks) upd_same hS rfl .nil (Nat.zero_le _)
  rw [upd_upd] at I2
  refine wpAny_bind (wpAny_letGo ?_)
  have ha2 : upd H s.heap.objs.size (.lst []) a = some (.ins C dx fs) := by rw [upd_ne (ne_of_none ha fr)]; exact ha
  have hne : s.heap.objs.size ≠ a := fun z => by rw [z, ha] at fr; cases fr
  generalize hq0 : s.heap.objs.size = q at *
  generalize hH0 : upd H q (.lst []) = H0 at *
  obtain ⟨mA, J, _⟩ := ins_get I2.hok ha2
  obtain ⟨od, J, _⟩ := J.look
  obtain ⟨m0, hF⟩ := I2.fr
  unfold Builtin.List.listExtendWith
  refine wpAny_bind (J.type.here ?_)
  have h1 : Builtin.List.listSameRef (.ref q) (.ref a) = false := by simp [Builtin.List.listSameRef, hne]
  simp only [h1, (rfl : (Value.ref C == Value.type "list") = false), (rfl : (Value.ref C == Value.type "tuple") = false), Bool.or_false, Bool.false_eq_true, if_false]
  refine wpAny_bind (PySem.W.owit_iter hF I2.ok.mod.kin J hc.it hc.itF ?_)
  refine wpAny_mono (call_at FI bI xI (A := X.A.in1.in1) (sb.mono (by omega)).room sb.fr I2 (vs := [.ref a]) (.cons rfl .nil) sp0) (fun v s3 z => ?_) fun _ _ z => z
  obtain ⟨x, H1, I3, r3, it, l, ys, ex, e1, e2, e3, e4, hz, q1, q2⟩ := z
  subst ex
  obtain rfl : v = Value.ref it := r3
  have hit := titO_get I3 e1
  unfold PySem.W.OwitIt
  refine wpAny_specialOf (show s3.TypeIs (.ref it) "tuple_iterator" from hit.typeIs) PySem.F.slot_tuple_iterator_next.lookup ?_
  show wpAny _ _ _ _ _ s3
  refine wpAny_bind (wpAny_holding ?_)
  obtain ⟨mB, J3, _⟩ := ins_get I3.hok e4
  obtain ⟨od3, J3, _⟩ := J3.look
  obtain ⟨m3, hF3⟩ := I3.fr
  unfold Builtin.List.listLengthHint
  refine wpAny_bind (wpAny_bind (J3.type.here ((PySem.W.looks_findIn I3.kIn hc.ln).here ?_)))
  refine PySem.W.KFB.if_not rfl ?_
  refine PySem.W.KFB.if_so rfl ?_
  refine wpAny_bind (wpAny_rule (wpAny_bind (wpAny_attempt ?_)))
  refine PySem.W.len_K hF3 I3.ok.mod.kin J3 hc.ln hc.lnF (wpAny_mono (call_at0 FL bL (A := X.A.in1.in1.in1) (Sub.in1 (sb.mono (show n + 1 ≤ n + 2 by omega))).room sb.fr I3 (vs := [.ref a]) (.cons rfl .nil) q1) (fun v s4 z => ?_) fun _ _ z => z)
  obtain ⟨x, H2, I4, r4, eH, k0, ek, hk0, hk1⟩ := z
  subst ek
  subst eH
  obtain ⟨tk4, rfl⟩ := r4
  refine ⟨⟨hk0, by omega⟩, ?_⟩
  refine wpAny_bind (wpAny_of_eq (a := some k0) rfl ?_)
  show wpAny _ _ (if Builtin.List.listTooLong k0.toNat = true then _ else _) _ _ _
  refine PySem.W.KFB.if_not (notLongL (by rw [sizeLine_eq]; omega)) (wpAny_pure ?_)
  have I5 := I4.tok (s4.toks + 1)
  have hne1 : q ≠ it := ne_of e3 e1 (fun z => nomatch z)
  have go : ∀ s5, Inv X pins σ H2 s5 → codeAny (model X.prog X.w) X.A.in1 (.builtin "list.extend.loop" ⟨[.ref q, .ref it, .none], []⟩) (wants (fun r s₂ => r = .none ∧ EP X pins σ Q (.ref q) s₂) X.xe) s5 := fun s5 I6 =>
    tit_loopR (A1 := X.A.in1) (Rs := wants (fun r s₂ => r = .none ∧ EP X pins σ Q (.ref q) s₂) X.xe) (show X.A.in1.handled = none from hr.hd) ys.length 0 H2 s5 (by omega) (Nat.zero_le _) I6 e1 e2 (by rw [List.take_zero]; exact e3) hz fun H7 s7 I7 k7 e7 => ⟨rfl, .ref q, H7, I7, rfl, q2 H7 k7 e7⟩
  refine wpAny_ite_split (fun _ => ?_) (fun _ => wpAny_pure ⟨plainId_quiet PySem.F.plain_extend_loop _, go _ I5⟩)
  refine wpAny_bind (wpAny_rule (wpAny_bind ?_))
  show wpAny _ _ (updateSeq q (·.push .none) >>= fun _ => updateSeq q (·.pop)) _ _ _
  obtain ⟨z, its, n5, r5, hl5, e5⟩ := I5.lstM e3
  cases r5
  refine wpAny_bind (wpAny_updateSeq e5 rfl ?_)
  have I6 := I5.lset (f := (·.push Value.none)) (its' := [Value.none]) (ys := [.non]) (t' := s4.toks + 1) e3 e5 (by simp) (.cons rfl .nil) (by rw [List.length_singleton, sizeLine_eq]; decide)
  obtain ⟨z6, its6, n6, r6, hl6, e6⟩ := I6.lstM upd_same
  obtain ⟨u6, rfl, ru6⟩ := r6.one
  refine wpAny_updateSeq e6 rfl (wpAny_pure ⟨plainId_quiet PySem.F.plain_extend_loop _, go _ ?_⟩) (by show 1 ≤ sizeLine; rw [sizeLine_eq]; decide) (by show 0 ≤ sizeLine + 1; exact Nat.zero_le _)
  have I7 := I6.lset (f := (·.pop)) (its := [u6]) (its' := []) (ys := []) (t' := s4.toks + 1) upd_same e6 (by rfl) .nil (Nat.zero_le _)
  rw [upd_upd] at I7
  have hH : upd H2 q (.lst []) = H2 := by
    funext b
    by_cases hb : b = q
    · rw [hb, upd_same, e3]
    · rw [upd_ne hb]
  rw [hH] at I7
  exact I7
end
end My
set_option maxRecDepth 100000
set_option maxHeartbeats 4000000
namespace My
open PySem L2 PySem.Spec PyProof.Rows
section
variable {X : Cx} {CX : CXT} {k : Nat} {f C : Addr} {fd : FuncData} {ps : List Str} {sp : Sp} {m : Str} {o e : Expr} {es : List Expr} {ta : TE} {t : TA} {apos pos : Pos}
/-- o.m(e, ..) that may raise, what is wished of the exception may speak of the slots -/
def tMethE (C : Addr) (m : Str) (sp : Sp) (E : L2.St → XK) (ta : TE) (t : TA) : TE := fun σ H Q => ta σ H fun x H1 => ∃ a dx fs, x = .ref a ∧ H1 a = some (.ins C dx fs) ∧ fs.lookup m = none ∧ t σ H1 fun vs H2 => sp (x :: vs) H2 Q (E σ)
theorem pe_methE {E : L2.St → XK} {pl : Sem Bool} (he : PE X o ta) (c : Cls X.K C) (hm : Meth X.K C m f) (F : FnOk X.prog X.w X.K X.mg X.base CX k f fd ps sp) (hr : Room k X.A) (hb : Binds X.K fd ps []) (hx : ∀ σ, PassesAt CX X σ (E σ)) (ha : PA X (e :: es) t)
    (hst : starEach (e :: es) X.env = (false, eval e X.env) :: starEach es X.env := by rfl) (hpl : (backTo pos (starEach es X.env)).any (·.1) = false := by rfl)
    (ht : eval (.Call (.Attribute o m apos) (e :: es) [] pos) X.env = (do
      let ov ← eval o X.env
      standAt apos.atName
      let (f, first) ← holding [ov] (getMethod ov m pl)
      callWith pos f first (backTo pos (starEach (e :: es) X.env)) (backToKw pos (keywordEach [] X.env))) := by rfl) :
    PE X (.Call (.Attribute o m apos) (e :: es) [] pos) (tMethE C m sp E ta t) := by
  refine ⟨fun pins s σ H Q I h => ?_⟩
  refine PySem.W.methodCall_KW (pl := pl) (thn (he.run pins s σ H _ I h) fun u s1 ⟨x, H1, I1, rx, a, dx, fs, ex, ea, l, q⟩ => ?_) ht
  subst ex
  obtain rfl : u = Value.ref a := rx
  refine getmeth_ok I1 ea c hm l ?_
  refine PySem.W.callWith_K (first := [.ref a]) (h₀ := X.base) I.ok.mod.kin hm.kp (thn (ha.run pos pins s1 σ H1 _ I1 q) fun us s2 ⟨vs, H2, I2, r, q2⟩ => ⟨I2.kIn, ?_⟩) hst hpl
  exact run_fnS (us := .ref a :: us) (vs := .ref a :: vs) F hr hb (hx σ) I2 (.cons rfl r) q2
theorem pe_methE0 {E : L2.St → XK} {pl : Sem Bool} (he : PE X o ta) (c : Cls X.K C) (hm : Meth X.K C m f) (F : FnOk X.prog X.w X.K X.mg X.base CX k f fd ps sp) (hr : Room k X.A) (hb : Binds X.K fd ps []) (hx : ∀ σ, PassesAt CX X σ (E σ))
    (ht : eval (.Call (.Attribute o m apos) [] [] pos) X.env = (do
      let ov ← eval o X.env
      standAt apos.atName
      let (f, first) ← holding [ov] (getMethod ov m pl)
      callWith pos f first (backTo pos (starEach [] X.env)) (backToKw pos (keywordEach [] X.env))) := by rfl) :
    PE X (.Call (.Attribute o m apos) [] [] pos) (tMethE C m sp E ta tNil) := by
  refine ⟨fun pins s σ H Q I h => ?_⟩
  refine PySem.W.methodCall_KW (pl := pl) (thn (he.run pins s σ H _ I h) fun u s1 ⟨x, H1, I1, rx, a, dx, fs, ex, ea, l, q⟩ => ?_) ht
  subst ex
  obtain rfl : u = Value.ref a := rx
  refine getmeth_ok I1 ea c hm l ?_
  exact PySem.W.callWith_K0 (first := [.ref a]) I1.kIn hm.kp (run_fnS (us := [.ref a]) (vs := [.ref a]) F hr hb (hx σ) I1 (.cons rfl .nil) q)
end
end My
set_option maxRecDepth 100000
set_option maxHeartbeats 4000000
set_option exponentiation.threshold 10000
namespace My
open PySem L2
theorem hu10 {A : Around} {k : Nat} (hr : Room k A) : A.units + 10 < cLine := by have := hr.un; omega
/-- text * int -/
theorem op_mulS {X : Cx} : OpR X (binaryOp .Mult) (fun x y H Q => ∃ (z : Str) (n : Int), x = .str z ∧ y = .int n ∧ MulOk z n ∧ Q (.str (Txt.mul z n)) H) := by
  intro pins s σ H x y v u Q I rx ry h
  obtain ⟨z, n, rfl, rfl, ok, q⟩ := h
  obtain ⟨t, rfl⟩ := rx
  obtain ⟨t', rfl⟩ := ry
  exact PySem.SB.mul ok fun t' k => ⟨.str (Txt.mul z n), H, I.tok _, ⟨_, rfl⟩, q⟩
def rLen2 (K : PySem.W.Frag) : List V → Hp → VK → Prop := fun xs H Q => ∃ p ys, xs = [.ref p] ∧ (SqL K H p ys ∨ SqT K H p ys) ∧ Q (.int ys.length) H
def rListOf (K : PySem.W.Frag) : List V → Hp → VK → Prop := fun xs H Q => ∃ p ys, xs = [.ref p] ∧ (SqL K H p ys ∨ SqT K H p ys) ∧ ∀ l, H l = none → Q (.ref l) (upd H l (.lst ys))
def rTupOf (K : PySem.W.Frag) : List V → Hp → VK → Prop := fun xs H Q => ∃ p ys, xs = [.ref p] ∧ ((SqL K H p ys ∧ ∀ l, H l = none → Q (.ref l) (upd H l (.tup ys))) ∨ (SqT K H p ys ∧ Q (.ref p) H))
/-! ### texts in lists -/
abbrev sv (ss : List Str) : List V := ss.map V.str
theorem len_sv (ss : List Str) : (sv ss).length = ss.length := List.length_map ..
theorem flat_sv (ss : List Str) : (sv ss).all flatV = true := by
  rw [List.all_eq_true]; intro x hx; obtain ⟨s, _, rfl⟩ := List.mem_map.mp hx; rfl
theorem eqV_str (a b : Str) : eqV (.str a) (.str b) = decide (a = b) := by
  first | rfl | (simp only [eqV]; by_cases h : a = b <;> simp [h])
theorem inV_str (x : Str) (ss : List Str) : inV (.str x) (sv ss) = decide (x ∈ ss) := by
  unfold inV
  rw [Bool.eq_iff_iff, List.any_eq_true, decide_eq_true_iff]
  constructor
  · rintro ⟨y, hy, e⟩
    obtain ⟨s, hs, rfl⟩ := List.mem_map.mp hy
    rw [eqV_str, decide_eq_true_iff] at e
    rw [← e]; exact hs
  · intro h
    exact ⟨.str x, List.mem_map.mpr ⟨x, h, rfl⟩, by rw [eqV_str]; simp⟩
theorem sv_get {ss : List Str} {i : Nat} {v : V} (h : (sv ss)[i]? = some v) : ∃ s, ss[i]? = some s ∧ v = .str s := by
  rw [List.getElem?_map] at h
  cases e : ss[i]? with
  | none => rw [e] at h; cases h
  | some t => rw [e] at h; exact ⟨t, rfl, (Option.some.inj h).symm⟩
theorem cut_take {xs : List V} {k : Nat} (h : k ≤ xs.length) : cutV xs none (some (k : Int)) = xs.take k := by
  unfold cutV
  rw [HT.sIx_none, HT.sIx_nat, Nat.min_eq_left h]
  simp
theorem cut_drop {xs : List V} {k : Nat} (h : k ≤ xs.length) : cutV xs (some (k : Int)) none = xs.drop k := by
  unfold cutV
  rw [HT.sIx_none, HT.sIx_nat, Nat.min_eq_left h]
  rw [List.take_of_length_le (by rw [List.length_drop]; exact Nat.le_refl _)]
theorem sv_take (ss : List Str) (k : Nat) : (sv ss).take k = sv (ss.take k) := List.map_take.symm
theorem sv_drop (ss : List Str) (k : Nat) : (sv ss).drop k = sv (ss.drop k) := List.map_drop.symm
/-! ### names -/
def Letters (l : List Nat) : Prop := ∀ c ∈ l, 97 ≤ c ∧ c ≤ 122
structure Good (z : Str) : Prop where
  pos : 1 ≤ z.length
  le : z.length ≤ 8
  let_ : Letters z.cps.toList
/-! ### the first stray of a list -/
def badAt (cs ns : List Str) (i : Nat) : Bool := match ns[i]? with | some x => !decide (x ∈ cs) || decide (x ∈ ns.take i) | none => false
def stray (cs ns : List Str) : Option Nat := (List.range ns.length).find? (badAt cs ns)
def fault (cs ns : List Str) : Option Nat := match stray cs ns with | some i => some i | none => if ns.length < cs.length then some ns.length else none
def optV : Option Nat → V
  | none => .non
  | some i => .int (i : Nat)
theorem stray_some {cs ns : List Str} {i : Nat} (hi : i < ns.length) (h1 : badAt cs ns i = true) (h2 : ∀ j, j < i → badAt cs ns j = false) : stray cs ns = some i := by
  unfold stray
  rw [List.find?_range_eq_some]
  exact ⟨h1, List.mem_range.mpr hi, fun j hj => by rw [h2 j hj]; rfl⟩
theorem stray_none {cs ns : List Str} (h2 : ∀ j, j < ns.length → badAt cs ns j = false) : stray cs ns = none := by
  unfold stray
  rw [List.find?_eq_none]
  intro j hj
  rw [h2 j (List.mem_range.mp hj)]
  exact Bool.false_ne_true
theorem stray_none_iff {cs ns : List Str} : stray cs ns = none ↔ (∀ x ∈ ns, x ∈ cs) ∧ ns.Nodup := by
  unfold stray
  rw [List.find?_eq_none]
  constructor
  · intro h
    have hb : ∀ i (hi : i < ns.length), ns[i] ∈ cs ∧ ns[i] ∉ ns.take i := fun i hi => by
      have := h i (List.mem_range.mpr hi)
      unfold badAt at this
      rw [List.getElem?_eq_getElem hi] at this
      simpa using this
    refine ⟨fun x hx => ?_, ?_⟩
    · obtain ⟨i, hi, rfl⟩ := List.getElem_of_mem hx
      exact (hb i hi).1
    · rw [List.nodup_iff_pairwise_ne, List.pairwise_iff_getElem]
      intro i j hi hj hij e
      refine (hb j hj).2 ?_
      rw [← e]
      exact List.mem_take_iff_getElem.mpr ⟨i, by omega, rfl⟩
  · rintro ⟨h1, h2⟩ i hi
    have hi := List.mem_range.mp hi
    unfold badAt
    rw [List.getElem?_eq_getElem hi]
    have a := h1 _ (List.getElem_mem hi)
    have b : ns[i] ∉ ns.take i := fun hm => by
      obtain ⟨j, hj, e⟩ := List.mem_take_iff_getElem.mp hm
      rw [List.nodup_iff_pairwise_ne, List.pairwise_iff_getElem] at h2
      exact h2 j i (by omega) hi (by omega) e
    simp [a, b]
theorem fault_none {cs ns : List Str} (h1 : ∀ x ∈ ns, x ∈ cs) (h2 : ns.Nodup) (h3 : cs.length ≤ ns.length) : fault cs ns = none := by
  unfold fault
  rw [stray_none_iff.mpr ⟨h1, h2⟩]
  show (if ns.length < cs.length then _ else _) = _
  rw [if_neg (by omega)]
/-- the law's list of what is wrong -/
def wrongs (cs ns : List Str) : List Nat := (List.range ns.length).filter (badAt cs ns) ++ if ns.length < cs.length then [ns.length] else []
theorem wrongs_head (cs ns : List Str) : (wrongs cs ns).head? = fault cs ns := by
  unfold wrongs fault stray
  rw [List.head?_append, List.head?_filter]
  cases (List.range ns.length).find? (badAt cs ns) with
  | some i => rfl
  | none =>
    show Option.or none _ = (if _ then _ else _)
    split <;> rfl
/-! ### runs -/
def runAt (fl : List Bool) (i : Nat) : Bool := fl.getD i false && !(decide (0 < i) && fl.getD (i - 1) false)
def runs (fl : List Bool) : Nat := ((List.range fl.length).filter (runAt fl)).length
theorem runs_le (fl : List Bool) : runs fl ≤ fl.length := by
  unfold runs
  have := List.length_filter_le (runAt fl) (List.range fl.length)
  rw [List.length_range] at this
  exact this
/-! ### the picture -/
theorem mul_len (n : Int) : (Txt.mul (" " : Str) n).length = n.toNat := by
  unfold Txt.mul
  have h1 : ((" " : Str).length == 0) = false := by decide
  split
  · rename_i h
    show 0 = n.toNat
    omega
  · rename_i h
    split
    · rename_i h'
      rw [h1, Bool.or_false, beq_iff_eq] at h'
      subst h'
      rfl
    · have e : ∀ (m : Nat) (acc : Array Nat), ((List.replicate m (" " : Str).cps).foldl (· ++ ·) acc).size = acc.size + m := by
        intro m
        induction m with
        | zero => intro acc; rfl
        | succ m ih =>
          intro acc
          rw [List.replicate_succ, List.foldl_cons, ih, Array.size_append]
          have : (" " : Str).cps.size = 1 := by decide
          rw [this]; omega
      show ((List.replicate n.toNat (" " : Str).cps).foldl (· ++ ·) #[]).size = n.toNat
      rw [e]
      show 0 + n.toNat = _
      omega
theorem mul_cps (n : Int) : (Txt.mul (" " : Str) n).cps = Array.replicate n.toNat 32 := by
  unfold Txt.mul
  have h1 : ((" " : Str).length == 0) = false := by decide
  split
  · rename_i h
    have : n.toNat = 0 := by omega
    rw [this]
    rfl
  · rename_i h
    split
    · rename_i h'
      rw [h1, Bool.or_false, beq_iff_eq] at h'
      subst h'
      decide
    · have e : ∀ (m : Nat) (acc : Array Nat), ((List.replicate m (" " : Str).cps).foldl (· ++ ·) acc) = acc ++ Array.replicate m 32 := by
        intro m
        induction m with
        | zero => intro acc; simp
        | succ m ih =>
          intro acc
          rw [List.replicate_succ, List.foldl_cons, ih]
          have : (" " : Str).cps = #[32] := by decide
          rw [this, Array.append_assoc]
          congr 1
          apply Array.toList_inj.mp
          simp [List.replicate_succ]
      show ((List.replicate n.toNat (" " : Str).cps).foldl (· ++ ·) #[]) = _
      rw [e]
      simp
theorem str_ext {a b : Str} (h : a.cps = b.cps) : a = b := by cases a; cases b; exact congrArg Str.mk h
theorem append_cps (a b : Str) : (a ++ b).cps = a.cps ++ b.cps := rfl
theorem ljust_eq (x : Str) (W : Int) : Txt.ljust x W = x ++ Txt.mul " " (W - x.length) := by
  apply str_ext
  rw [append_cps, mul_cps]
  unfold Txt.ljust
  split
  · rename_i h
    have : (W - (x.length : Int)).toNat = 0 := by omega
    rw [this]; simp
  · rename_i h
    have : W.toNat - x.length = (W - (x.length : Int)).toNat := by omega
    rw [this]
    show Array.replicate 0 32 ++ x.cps ++ Array.replicate _ 32 = _
    simp
theorem ljust_len (x : Str) (W : Int) : (Txt.ljust x W).length = x.length + (W - x.length).toNat := by
  rw [ljust_eq, Str.length_append, mul_len]
def fill (ws : List Str) (W : Int) : Str := Txt.join " " (ws.map fun x => Txt.ljust x W)
def marks (order row : List Str) : List Str := order.map fun x => if x ∈ row then ("x" : Str) else "."
def flags (order row : List Str) : List Bool := order.map fun x => decide (x ∈ row)
def num4 (n : Nat) : Str := Txt.rjust (Str.ofString (toString (n : Int))) 4
def line (order : List Str) (W : Int) (row : List Str) : Str := fill (marks order row) W ++ num4 (runs (flags order row))
def pic (order : List Str) (rows : List (List Str)) (W : Int) : Str := Txt.join "\n" (fill order W :: rows.map (line order W))
theorem num_small : ∀ n : Fin 13, (Str.ofString (toString ((n.val : Nat) : Int))).length ≤ 4 := by decide +kernel
theorem num4_len {n : Nat} (h : n ≤ 12) : (num4 n).length = 4 := by
  have hl : (Str.ofString (toString (n : Int))).length ≤ 4 := num_small ⟨n, by omega⟩
  unfold num4 Txt.rjust
  generalize Str.ofString (toString (n : Int)) = x at hl ⊢
  split
  · rename_i h4; omega
  · show (Array.replicate _ 32 ++ x.cps ++ Array.replicate 0 32).size = 4
    simp
    show (4 : Int).toNat - x.length + x.length = 4
    omega
theorem cut4 {s : Str} (h : s.length ≤ 4) : cutS (("    " : Str) ++ s) (some (-4)) none = Txt.rjust s 4 := by
  apply str_ext
  unfold cutS Txt.rjust
  have hl : (("    " : Str) ++ s).length = 4 + s.length := by rw [Str.length_append]; rfl
  have h1 : HT.sIx (("    " : Str) ++ s).length 0 (some (-4)) = s.length := by
    rw [hl]
    show (if (-4 : Int) < 0 then ((-4 : Int) + ((4 + s.length : Nat) : Int)).toNat else min (-4 : Int).toNat (4 + s.length)) = s.length
    rw [if_pos (by decide)]; omega
  rw [h1, HT.sIx_none, hl]
  have e4 : (("    " : Str)).cps.toList = List.replicate 4 32 := by decide
  apply Array.toList_inj.mp
  rw [append_cps, Array.toList_append, e4]
  have h5 : 4 + s.length - s.length = 4 := by omega
  rw [h5]
  have hs : s.cps.toList.length = s.length := by simp [Str.length]
  have e6 : (List.replicate 4 32 ++ s.cps.toList).drop s.length = List.replicate (4 - s.length) 32 ++ s.cps.toList := by
    rw [List.drop_append_of_le_length (by simp; exact h), List.drop_replicate]
  rw [e6, List.take_of_length_le (by rw [List.length_append, List.length_replicate, hs]; omega)]
  split
  · rename_i h4
    have : 4 - s.length = 0 := by omega
    rw [this]; rfl
  · show _ = (Array.replicate ((4 : Int).toNat - s.length) 32 ++ s.cps ++ Array.replicate 0 32).toList
    simp
/-! ### lengths -/
theorem sum_le {ys : List Nat} {B : Nat} (h : ∀ y ∈ ys, y ≤ B) : ys.sum ≤ ys.length * B := by
  induction ys with
  | nil => simp
  | cons y r ih =>
    have h1 := h y List.mem_cons_self
    have h2 := ih fun x hx => h x (List.mem_cons_of_mem _ hx)
    rw [List.sum_cons, List.length_cons, Nat.succ_mul]
    omega
theorem join_len (a : Str) : ∀ ys : List Str, (Txt.join a ys).length ≤ (ys.map (·.length)).sum + ys.length * a.length
  | [] => by
    show (Txt.join a []).length ≤ 0 + 0 * a.length
    have : (Txt.join a []).length = 0 := rfl
    omega
  | [x] => by
    have : Txt.join a [x] = x := by rw [TL.join_eq]; rfl
    rw [this]
    simp
  | x :: y :: r => by
    have e : Txt.join a (x :: y :: r) = x ++ a ++ Txt.join a (y :: r) := by rw [TL.join_eq, TL.join_eq]; rfl
    have ih := join_len a (y :: r)
    rw [e, Str.length_append, Str.length_append, List.map_cons, List.sum_cons, List.length_cons, Nat.succ_mul]
    omega
theorem fits_join {a : Str} {ys : List Str} {B n : Nat} (h : ∀ y ∈ ys, y.length ≤ B) (hn : ys.length ≤ n) (hs : n * (B + a.length) ≤ 16777216) : (ys.map (·.length)).sum + ys.length * a.length ≤ 16777216 ∧ (Txt.join a ys).length ≤ n * (B + a.length) := by
  have h1 : (ys.map (·.length)).sum ≤ (ys.map (·.length)).length * B := sum_le fun y hy => by
    obtain ⟨z, hz, rfl⟩ := List.mem_map.mp hy
    exact h z hz
  rw [List.length_map] at h1
  have h2 := join_len a ys
  have h3 : ys.length * (B + a.length) ≤ n * (B + a.length) := Nat.mul_le_mul_right _ hn
  rw [Nat.mul_add] at h3
  omega
/-! ### names, in general -/
def okName (z : Str) : Bool := decide (1 ≤ z.length) && (decide (z.length ≤ 8) && z.cps.toList.all fun c => decide (97 ≤ c ∧ c ≤ 122))
theorem okName_iff {z : Str} : okName z = true ↔ Good z := by
  unfold okName
  rw [Bool.and_eq_true, Bool.and_eq_true, decide_eq_true_iff, decide_eq_true_iff, List.all_eq_true]
  exact ⟨fun ⟨a, b, c⟩ => ⟨a, b, fun x hx => of_decide_eq_true (c x hx)⟩, fun h => ⟨h.pos, h.le, fun x hx => decide_eq_true (h.let_ x hx)⟩⟩
def badName (ns : List Str) (i : Nat) : Bool := match ns[i]? with | some x => !okName x || decide (x ∈ ns.take i) | none => false
def firstBad (ns : List Str) : Option Nat := (List.range ns.length).find? (badName ns)
theorem firstBad_some {ns : List Str} {i : Nat} (hi : i < ns.length) (h1 : badName ns i = true) (h2 : ∀ j, j < i → badName ns j = false) : firstBad ns = some i := by
  unfold firstBad
  rw [List.find?_range_eq_some]
  exact ⟨h1, List.mem_range.mpr hi, fun j hj => by rw [h2 j hj]; rfl⟩
theorem firstBad_none {ns : List Str} (h2 : ∀ j, j < ns.length → badName ns j = false) : firstBad ns = none := by
  unfold firstBad
  rw [List.find?_eq_none]
  intro j hj
  rw [h2 j (List.mem_range.mp hj)]
  exact Bool.false_ne_true
theorem firstBad_none_iff {ns : List Str} : firstBad ns = none ↔ (∀ x ∈ ns, Good x) ∧ ns.Nodup := by
  unfold firstBad
  rw [List.find?_eq_none]
  constructor
  · intro h
    have hb : ∀ i (hi : i < ns.length), Good ns[i] ∧ ns[i] ∉ ns.take i := fun i hi => by
      have := h i (List.mem_range.mpr hi)
      unfold badName at this
      rw [List.getElem?_eq_getElem hi] at this
      simp at this
      exact ⟨okName_iff.mp this.1, this.2⟩
    refine ⟨fun x hx => ?_, ?_⟩
    · obtain ⟨i, hi, rfl⟩ := List.getElem_of_mem hx
      exact (hb i hi).1
    · rw [List.nodup_iff_pairwise_ne, List.pairwise_iff_getElem]
      intro i j hi hj hij e
      refine (hb j hj).2 ?_
      rw [← e]
      exact List.mem_take_iff_getElem.mpr ⟨i, by omega, rfl⟩
  · rintro ⟨h1, h2⟩ i hi
    have hi := List.mem_range.mp hi
    unfold badName
    rw [List.getElem?_eq_getElem hi]
    have a := okName_iff.mpr (h1 _ (List.getElem_mem hi))
    have b : ns[i] ∉ ns.take i := fun hm => by
      obtain ⟨j, hj, e⟩ := List.mem_take_iff_getElem.mp hm
      rw [List.nodup_iff_pairwise_ne, List.pairwise_iff_getElem] at h2
      exact h2 j i (by omega) hi (by omega) e
    simp [a, b]
/-! ### strip -/
theorem strip_all {x y : Str} : Txt.stripChars x y = Str.empty ↔ ∀ c ∈ x.cps.toList, y.cps.contains c = true := by
  obtain ⟨a0, a1, a2⟩ := PyProof.Rows.lo_facts y.cps.contains x
  obtain ⟨b0, b1, b2, b3⟩ := PyProof.Rows.hi_facts y.cps.contains x (PySem.stripLo y.cps.contains true x) a0
  unfold Txt.stripChars
  rw [PyProof.Rows.stripBy_eq]
  generalize PySem.stripLo y.cps.contains true x = lo at *
  generalize PySem.stripHi y.cps.contains true x lo = hi at *
  have hl : (Builtin.Str.strSub x lo hi).length = hi - lo := by
    show (x.cps.extract lo hi).size = hi - lo
    rw [Array.size_extract]
    have : x.cps.size = x.length := rfl
    rw [this]
    have := b1
    omega
  have gd : ∀ k (hk : k < x.length), x.cps.getD k 0 = x.cps[k]'hk := fun k hk => by
    show x.cps.getD k 0 = _
    unfold Array.getD
    exact dif_pos hk
  constructor
  · intro e c hc
    rw [e] at hl
    have hl : 0 = hi - lo := hl
    rw [Array.mem_toList_iff] at hc
    obtain ⟨k, hk, rfl⟩ := Array.getElem_of_mem hc
    by_cases h : k < lo
    · have := a1 k h; rw [gd k hk] at this; exact this
    · have := b2 k (by omega) hk; rw [gd k hk] at this; exact this
  · intro h
    have lo_eq : lo = x.length := by
      rcases a2 with e | e
      · exact e
      · by_cases hlt : lo < x.length
        · rw [gd lo hlt, h _ (by rw [Array.mem_toList_iff]; exact Array.getElem_mem hlt)] at e; cases e
        · omega
    have : hi - lo = 0 := by omega
    rw [this] at hl
    apply str_ext
    exact Array.eq_empty_of_size_eq_zero hl
theorem alpha_has : ∀ c : Nat, (("abcdefghijklmnopqrstuvwxyz" : Str)).cps.contains c = true ↔ 97 ≤ c ∧ c ≤ 122 := by
  intro c
  rw [Array.contains_iff_mem]
  have e : (("abcdefghijklmnopqrstuvwxyz" : Str)).cps.toList = (List.range 26).map (97 + ·) := by decide +kernel
  rw [← Array.mem_toList_iff, e, List.mem_map]
  constructor
  · rintro ⟨a, ha, rfl⟩
    have := List.mem_range.mp ha
    omega
  · rintro ⟨h1, h2⟩
    exact ⟨c - 97, List.mem_range.mpr (by omega), by omega⟩
theorem strip_ok {z : Str} : Txt.stripChars z "abcdefghijklmnopqrstuvwxyz" = Str.empty ↔ Letters z.cps.toList := by
  rw [strip_all]
  exact ⟨fun h c hc => (alpha_has c).mp (h c hc), fun h c hc => (alpha_has c).mpr (h c hc)⟩
theorem empty_eq : ("" : Str) = Str.empty := by decide
theorem okName_and {z : Str} : okName z = true ↔ Txt.stripChars z "abcdefghijklmnopqrstuvwxyz" = ("" : Str) ∧ (0 < z.length ∧ z.length < 9) := by
  rw [okName_iff, empty_eq, strip_ok]
  exact ⟨fun g => ⟨g.let_, by have := g.pos; omega, by have := g.le; omega⟩, fun ⟨a, b, c⟩ => ⟨by omega, by omega, a⟩⟩
/-- // by any divisor but 0 below 2 ^ 9000 -/
def CDivX (_ j : Int) : Prop := j ≠ 0 ∧ j.natAbs < 2 ^ 9000
theorem op_fdivX {X : Cx} : OpR X (binaryOp .FloorDiv) (rI CDivX fun i j => .int (i.fdiv j)) := opI fun i j _ _ _ _ _ hc q =>
  PyProof.Rows.floordiv_int hc.1 q (.inl (PyProof.noPylong_of_log2 (PySem.Flt.log2_lt_of (by decide) hc.2)))
theorem itN {c A B : Prop} [Decidable c] (hc : ¬ c) (h : B) : if decide c = true then A else B := by
  rw [decide_eq_false hc]; exact iteF h
theorem itY {c A B : Prop} [Decidable c] (hc : c) (h : A) : if decide c = true then A else B := by
  rw [decide_eq_true hc]; exact iteT h
theorem ifT {b : Bool} {A B : Prop} (hb : b = true) (h : A) : if b = true then A else B := by rw [if_pos hb]; exact h
theorem ifF {b : Bool} {A B : Prop} (hb : b = false) (h : B) : if b = true then A else B := by rw [if_neg (by rw [hb]; decide)]; exact h
theorem same_new {H : Hp} {l : Addr} {o : HO} (h : H l = none) : Same H (upd H l o) := fun b u e => by rw [upd_ne (ne_of_none e h)]; exact e
theorem _root_.L2.Same.tup {K : PySem.W.Frag} {H H' : Hp} {a : Addr} {xs : List V} (e : Same H H') (h : SqT K H a xs) : SqT K H' a xs := by
  rcases h with (r | ⟨o, r⟩) | z
  · exact .inl (.inl (e _ _ r))
  · exact .inl (.inr ⟨o, e _ _ r⟩)
  · exact .inr z
/-! ### a comprehension's list -/
/-- the heap H1 has grown, at D stands fm i -/
def PvS (H1 : Hp) (D : Addr) (fm : Nat → List V) (i : Nat) (H : Hp) : Prop := Same H1 H ∧ H D = some (.lst (fm i))
theorem pv0 {H1 : Hp} {D : Addr} {fm : Nat → List V} (hD : H1 D = none) (h : fm 0 = []) : PvS H1 D fm 0 (upd H1 D (.lst [])) := ⟨same_new hD, by rw [h]; exact upd_same⟩
theorem PvS.more {H1 H H' : Hp} {D : Addr} {fm : Nat → List V} {i : Nat} (p : PvS H1 D fm i H) (s : Same H H') : PvS H1 D fm i H' := ⟨p.1.trans s, s _ _ p.2⟩
theorem PvS.push {H1 H : Hp} {D : Addr} {fm : Nat → List V} {i : Nat} {y : V} (p : PvS H1 D fm i H) (hD : H1 D = none) (h : fm (i + 1) = fm i ++ [y]) (hl : (fm i).length ≤ 1000000) :
    ∃ acc, H D = some (.lst acc) ∧ acc.length < sizeLine ∧ PvS H1 D fm (i + 1) (upd H D (.lst (acc ++ [y]))) := by
  refine ⟨fm i, p.2, Nat.lt_of_le_of_lt hl (by decide), fun b o e => ?_, ?_⟩
  · rw [upd_ne (ne_of_none e hD)]; exact p.1 _ _ e
  · rw [h]; exact upd_same
theorem PvS.skip {H1 H : Hp} {D : Addr} {fm : Nat → List V} {i : Nat} (p : PvS H1 D fm i H) (h : fm (i + 1) = fm i) : PvS H1 D fm (i + 1) H := ⟨p.1, by rw [h]; exact p.2⟩
theorem small_int {n : Nat} (h : n ≤ 1000000) : n < sizeLine := Nat.lt_of_le_of_lt h (by decide)
theorem take_succ {α : Type} {xs : List α} {i : Nat} {x : α} (h : xs[i]? = some x) : xs.take (i + 1) = xs.take i ++ [x] := by
  rw [List.take_succ, h]; rfl
theorem not_take {ns : List Str} {i : Nat} {z : Str} (nd : ns.Nodup) (hz : ns[i]? = some z) : z ∉ ns.take i := by
  intro hm
  obtain ⟨j, hj, e⟩ := List.mem_take_iff_getElem.mp hm
  obtain ⟨hi, e2⟩ := List.getElem?_eq_some_iff.mp hz
  rw [List.nodup_iff_pairwise_ne, List.pairwise_iff_getElem] at nd
  exact nd j i (by omega) hi (by omega) (e.trans e2.symm)
theorem itNe {A B : Prop} {x y : V} (h : x = y) (h2 : B) : if (!decide (x = y)) = true then A else B := by
  rw [decide_eq_true h]; exact iteF h2
theorem itNeN {A B : Prop} {x y : V} (h : x ≠ y) (h2 : A) : if (!decide (x = y)) = true then A else B := by
  rw [decide_eq_false h]; exact iteT h2
/-- a def that may raise -/
theorem funX {P : Program} {w : World} {K : PySem.W.Frag} {mg : Str → Option Value} {base : Heap} {CX : CXT} {x qual : Str} {st : Stmt} {f : Addr} {fd : FuncData} {N ps : List Str} {k : Nat} {sp : Sp} (F : Fun K x qual st f fd) (S : FnScope N ps (defScope st)) (len : ∀ vs H Q E, sp vs H Q E → vs.length = ps.length)
    (hbody : ∀ (cdv : Value) (A : Around) (outer : List Env) (s : Shared) (H : Hp) (vs : List V) (Q : VK) (E : XK), Room k (A.deeper (PyProof.Rows.envOfC qual (defScope st) s.heap.objs.size f cdv)) → sp vs H Q E →
      ∃ t, PSs (cxOf CX P w K mg base N qual (defScope st) f cdv A outer s H E) (defBody st) t ∧ t { nx := fun _ H' => Q .non H', rt := Q } (L2.start N vs) H) : FnOk P w K mg base CX (k + 1) f fd ps sp := by
  obtain ⟨oc, od, kV, doc, pm, an, cdv, ct, osl, rfl, lk, hcd⟩ := F.ex
  exact fn_of lk hcd S len fun A outer s H vs Q E hr hsp => hbody cdv A outer s H vs Q E hr hsp
theorem seq_upd {K : PySem.W.Frag} {H : Hp} {a b : Addr} {xs : List V} {u o : HO} (h : SqL K H a xs) (hb : H b = some u) (h1 : ∀ ys, u ≠ .lst ys) (h2 : ∀ c d, u ≠ .frz c d) : SqL K (upd H b o) a xs := by
  rcases h with (r | ⟨c, r⟩) | z
  · exact .inl (.inl (by rw [upd_ne (ne_of r hb (fun z => h1 _ z.symm))]; exact r))
  · exact .inl (.inr ⟨c, by rw [upd_ne (ne_of r hb (fun z => h2 _ _ z.symm))]; exact r⟩)
  · exact .inr z
/-! ### tables -/
theorem krc : ¬ (("columns" : Str) = "rows") := by decide +kernel
def fldsT (ct rt : Addr) : List (Str × V) := putF "rows" (.ref rt) (putF "columns" (.ref ct) [])
theorem fldsT_columns (ct rt : Addr) : (fldsT ct rt).lookup ("columns" : Str) = some (.ref ct) := by
  unfold fldsT; rw [lookup_putF, if_neg krc, lookup_putF, if_pos rfl]
theorem fldsT_rows (ct rt : Addr) : (fldsT ct rt).lookup ("rows" : Str) = some (.ref rt) := by
  unfold fldsT; rw [lookup_putF, if_pos rfl]
/-- at ts stand the lists (or tuples) of texts rs -/
structure Lss (f : List V → HO) (H : Hp) (ts : List Addr) (rs : List (List Str)) : Prop where
  len : ts.length = rs.length
  at_ : ∀ (i : Nat) (t : Addr) (r : List Str), ts[i]? = some t → rs[i]? = some r → H t = some (f (sv r))
theorem Lss.same {f : List V → HO} {H H' : Hp} {ts : List Addr} {rs : List (List Str)} (h : Lss f H ts rs) (e : Same H H') : Lss f H' ts rs := ⟨h.len, fun i t x a b => e _ _ (h.at_ i t x a b)⟩
theorem Lss.nil {f : List V → HO} {H : Hp} : Lss f H [] [] := ⟨rfl, fun i t x h => by simp at h⟩
theorem Lss.app {f : List V → HO} {H : Hp} {ts : List Addr} {rs : List (List Str)} {t : Addr} {r : List Str} (h : Lss f H ts rs) (ht : H t = some (f (sv r))) : Lss f H (ts ++ [t]) (rs ++ [r]) := by
  refine ⟨by rw [List.length_append, List.length_append, h.len]; rfl, fun i u y a b => ?_⟩
  rcases Nat.lt_trichotomy i ts.length with c | c | c
  · rw [List.getElem?_append_left c] at a
    rw [List.getElem?_append_left (by rw [← h.len]; exact c)] at b
    exact h.at_ i u y a b
  · rw [c, List.getElem?_append_right (Nat.le_refl _), Nat.sub_self] at a
    rw [c, h.len, List.getElem?_append_right (Nat.le_refl _), Nat.sub_self] at b
    cases a; cases b; exact ht
  · rw [List.getElem?_append_right (by omega), List.getElem?_eq_none (by simp; omega)] at a
    cases a
theorem Lss.get {f : List V → HO} {H : Hp} {ts : List Addr} {rs : List (List Str)} (h : Lss f H ts rs) {i : Nat} {t : Addr} (hi : ts[i]? = some t) : ∃ r, rs[i]? = some r ∧ H t = some (f (sv r)) := by
  have hx : i < rs.length := by rw [← h.len]; exact (List.getElem?_eq_some_iff.mp hi).1
  exact ⟨rs[i], List.getElem?_eq_getElem hx, h.at_ i _ _ hi (List.getElem?_eq_getElem hx)⟩
theorem refs_get {ts : List Addr} {i : Nat} {v : V} (h : (ts.map V.ref)[i]? = some v) : ∃ t, ts[i]? = some t ∧ v = .ref t := by
  rw [List.getElem?_map] at h
  cases e : ts[i]? with
  | none => rw [e] at h; cases h
  | some t => rw [e] at h; exact ⟨t, rfl, (Option.some.inj h).symm⟩
/-- the row in the columns' sequence -/
def canon (cs r : List Str) : List Str := cs.filter fun x => decide (x ∈ r)
theorem canon_T {l r : List Str} {z : Str} (hm : z ∈ r) : canon (l ++ [z]) r = canon l r ++ [z] := by
  unfold canon; rw [List.filter_append]; simp [hm]
theorem canon_F {l r : List Str} {z : Str} (hm : z ∉ r) : canon (l ++ [z]) r = canon l r := by
  unfold canon; rw [List.filter_append]; simp [hm]
theorem Lss.updT {H : Hp} {ts : List Addr} {rs : List (List Str)} {l : Addr} {u o : HO} (h : Lss .tup H ts rs) (hl : H l = some u) (hu : ∀ xs, u ≠ .tup xs) : Lss .tup (upd H l o) ts rs := ⟨h.len, fun i t x a b => by
  have := h.at_ i t x a b
  rw [upd_ne (ne_of this hl (fun z => hu _ z.symm))]
  exact this⟩
/-- the table with the columns cs and the rows rs stands at p -/
def Tb (C : Addr) (H : Hp) (p : Addr) (cs : List Str) (rs : List (List Str)) : Prop :=
  ∃ dx ct rt ts, H p = some (.ins C dx (fldsT ct rt)) ∧ H ct = some (.tup (sv cs)) ∧ H rt = some (.tup (ts.map V.ref)) ∧ Lss .tup H ts (rs.map (canon cs))
theorem Tb.same {C : Addr} {H H' : Hp} {p : Addr} {cs : List Str} {rs : List (List Str)} (h : Tb C H p cs rs) (e : Same H H') : Tb C H' p cs rs :=
  let ⟨dx, ct, rt, ts, h1, h2, h3, h4⟩ := h; ⟨dx, ct, rt, ts, e _ _ h1, e _ _ h2, e _ _ h3, h4.same e⟩
theorem exc_same {H : Hp} {a d : Addr} {o1 o2 o3 o4 : HO} (ha : H a = none) (hd : H d = none) : Same H (upd (L2.del (upd (upd (upd H a o1) d o2) a o3) a) d o4) := fun b o e => by
  rw [upd_ne (ne_of_none e hd), L2.del_ne (ne_of_none e ha), upd_ne (ne_of_none e ha), upd_ne (ne_of_none e hd), upd_ne (ne_of_none e ha)]
  exact e
theorem fault_lt {cs ns : List Str} {i : Nat} (h : fault cs ns = some i) : i ≤ ns.length := by
  unfold fault at h
  cases hs : stray cs ns with
  | some j =>
    rw [hs] at h
    cases h
    unfold stray at hs
    rw [List.find?_range_eq_some] at hs
    exact Nat.le_of_lt (List.mem_range.mp hs.2.1)
  | none =>
    rw [hs] at h
    have h : (if ns.length < cs.length then some ns.length else none) = some i := h
    split at h
    · cases h; exact Nat.le_refl _
    · cases h
section
variable {K : PySem.W.Frag}
theorem passS0 {X : Cx} : ∀ σ, PassesAt CX0 X σ ((fun _ => E0) σ) := fun _ _ _ _ _ _ _ h => h.elim
theorem fnIn_of {x qual : Str} {st : Stmt} {f : Addr} {fd : FuncData} (F : Fun K x qual st f fd) : PySem.W.fnIn K f = true := by
  obtain ⟨oc, od, kV, doc, pm, an, cdv, ct, osl, rfl, lk, hcd⟩ := F.ex
  unfold PySem.W.fnIn
  rw [lk]
end
section
variable {P : Program} {w : World} {K : PySem.W.Frag} {mg : Str → Option Value} {base : Heap}
/-- a promise under which nothing is raised -/
theorem quiet {k : Nat} {f : Addr} {fd : FuncData} {ps : List Str} {sp sp' : Sp} (F : FnOk P w K mg base (L2.CX P w) k f fd ps sp) (h : ∀ vs H Q E, sp' vs H Q E → sp vs H Q E0) : FnOk P w K mg base CX0 k f fd ps sp' :=
  ⟨fun vs H Q E q => F.len _ _ _ _ (h _ _ _ _ q), fun A outer s H args us vs Q E hr he hb hv hs => codeAny_mono (F.run A outer s H args us vs Q E0 hr he hb hv (h _ _ _ _ hs)) fun r s' g => by
    cases r with
    | ok fl => cases fl <;> exact g
    | error e => obtain ⟨_, _, _, _, _, _, _, _, _, _, _, _, z⟩ := g; exact z.elim⟩
/-- two promises of one def -/
theorem fnok_or {CX : CXT} {k : Nat} {f : Addr} {fd : FuncData} {ps : List Str} {sp sp' : Sp} (F : FnOk P w K mg base CX k f fd ps sp) (G : FnOk P w K mg base CX k f fd ps sp') : FnOk P w K mg base CX k f fd ps (fun vs H Q E => sp vs H Q E ∨ sp' vs H Q E) :=
  ⟨fun vs H Q E h => h.elim (F.len vs H Q E) (G.len vs H Q E), fun A outer s H args us vs Q E hr he hb hv hs => hs.elim (F.run A outer s H args us vs Q E hr he hb hv) (G.run A outer s H args us vs Q E hr he hb hv)⟩
end
theorem hu65 {A : Around} {k : Nat} (hr : Room k A) : A.units + 65 < cLine := by have := hr.un; omega
theorem cut_sv (os : List Str) (lo hi : Option Int) : ∃ ys : List Str, cutV (sv os) lo hi = sv ys ∧ ys.Sublist os := by
  unfold cutV
  rw [sv_drop, sv_take]
  exact ⟨_, rfl, (List.take_sublist _ _).trans (List.drop_sublist _ _)⟩
theorem sv_app (a b : List Str) : sv a ++ sv b = sv (a ++ b) := List.map_append.symm
/-- texts that can be laid -/
abbrev Okz (z : Str) : Prop := PyData.canLay0 (.str z) = true
theorem okz_good {z : Str} (h : Good z) : Okz z := by
  show PyData.canLay0 (.str z) = true
  unfold PyData.canLay0 PyData.strOk
  rw [Array.all_eq_true]
  intro i hi
  have := h.let_ z.cps[i] (by rw [Array.mem_toList_iff]; exact Array.getElem_mem hi)
  exact decide_eq_true (by omega)
abbrev pd (ss : List Str) : List PyData := ss.map PyData.str
theorem lay_all {ss : List Str} (h : ∀ z ∈ ss, Okz z) : PyData.canLayAll0 (pd ss) = true := by
  induction ss with
  | nil => rfl
  | cons a t ih =>
    show (PyData.canLay0 (.str a) && PyData.canLayAll0 (pd t)) = true
    rw [h a List.mem_cons_self, ih fun z hz => h z (List.mem_cons_of_mem _ hz)]; rfl
theorem depth_pd : ∀ ss : List Str, PyData.depthAll (pd ss) ≤ 1
  | [] => by simp [PyData.depthAll]
  | n :: r => by
    have e : PyData.depthAll (r.map PyData.str) ≤ 1 := depth_pd r
    simp only [List.map_cons, PyData.depthAll, PyData.depth]
    omega
theorem shaped_pd {ss : List Str} (h : ∀ z ∈ ss, Okz z) : SeqAt.shaped (.list (pd ss)) = true := by
  have h1 := depth_pd ss
  show (PyData.canLay0 (.list (pd ss)) && decide (PyData.depth (.list (pd ss)) ≤ 64)) = true
  rw [Bool.and_eq_true]
  exact ⟨by simp only [PyData.canLay0]; exact lay_all h, decide_eq_true (by simp only [PyData.depth]; omega)⟩
theorem dp_pd {K : PySem.W.Frag} {H : Hp} : ∀ ss : List Str, DpAll K H (sv ss) (pd ss)
  | [] => .nil
  | s :: r => .cons (.str s) (dp_pd r)
theorem eqv_pd {ss : List Str} (h : ∀ z ∈ ss, Okz z) : PyData.eqv (.list (pd ss)) (.list (pd ss)) = true := SeqAt.eqv_refl _ (by simp only [PyData.canLay0]; exact lay_all h)
theorem dpAll_bl {K : PySem.W.Frag} {H : Hp} : ∀ bs : List Bool, DpAll K H (bs.map V.bl) (bs.map PyData.bool)
  | [] => .nil
  | b :: bs => .cons (.bl b) (dpAll_bl bs)
theorem exm_self {K : PySem.W.Frag} {C : Addr} (hb : PySem.W.subIn K (.ref C) (.type "BaseException") = some true) (hi : PySem.W.isClsIn K C = true) (ht : PySem.W.typeIn K (.ref C) = some (.type "type")) (hs : PySem.W.subIn K (.ref C) (.ref C) = some true) :
    PySem.W.exmOne K (.ref C) (.ref C) = some true := by
  unfold PySem.W.exmOne
  rw [hb, if_pos (by rfl)]
  show (if ((PySem.W.clsIn K C).isSome && PySem.W.typeIn K (.ref C) == some (.type "type")) = true then _ else _) = _
  rw [if_pos (by
    rw [ht]
    have : (PySem.W.clsIn K C).isSome = true := hi
    rw [this]; simp)]
  exact hs
theorem nd_len : ∀ (x cs : List Str), x.Nodup → (∀ y ∈ x, y ∈ cs) → x.length ≤ cs.length
  | [], _, _, _ => Nat.zero_le _
  | a :: t, cs, nd, h => by
    have nd := List.nodup_cons.mp nd
    have hp := List.perm_cons_erase (h a List.mem_cons_self)
    have := nd_len t (cs.erase a) nd.2 fun y hy => by
      have hy' := h y (List.mem_cons_of_mem _ hy)
      exact (List.mem_erase_of_ne (fun e => nd.1 (by rw [← e]; exact hy))).mpr hy'
    have e := hp.length_eq
    rw [List.length_cons] at e ⊢
    omega
theorem at_sv {ss : List Str} {j : Int} (h0 : 0 ≤ j) (h1 : j < ss.length) : ∃ z, z ∈ ss ∧ atI (sv ss) j = some (V.str z) := by
  obtain ⟨n, rfl⟩ := Int.eq_ofNat_of_zero_le h0
  have hn : n < ss.length := by omega
  exact ⟨ss[n], List.getElem_mem hn, atI_nat (by rw [List.getElem?_map, List.getElem?_eq_getElem hn]; rfl)⟩
theorem sv3 (a b : List Str) (x : Str) : sv a ++ [V.str x] ++ sv b = sv (a ++ [x] ++ b) := by simp [sv]
theorem mulW {i j : Int} (hi : i.natAbs < 2 ^ 9000) (hj : j.natAbs < 2 ^ 9000) : CMulW i j := wide_mul hi hj (by decide) (by decide) (by decide)
theorem atI_ok {xs : List Int} {j : Int} (h0 : 0 ≤ j) (h1 : j < xs.length) : ∃ v, v ∈ xs ∧ atI (xs.map V.int) j = some (V.int v) := by
  have hj : j.toNat < xs.length := by omega
  refine ⟨xs[j.toNat], List.getElem_mem hj, ?_⟩
  have e : (xs.map V.int)[j.toNat]? = some (V.int xs[j.toNat]) := by rw [List.getElem?_map, List.getElem?_eq_getElem hj]; rfl
  have := atI_nat e
  rw [show ((j.toNat : Nat) : Int) = j by omega] at this
  exact this
theorem len_map_int (xs : List Int) : (xs.map V.int).length = xs.length := List.length_map ..
/-- a pool of draws -/
def Pool (ns : List Int) : Prop := ∀ x ∈ ns, 0 ≤ x ∧ x < 27720
theorem Pool.nil : Pool [] := fun x h => nomatch h
theorem Pool.app {ns : List Int} {x : Int} (h : Pool ns) (h0 : 0 ≤ x) (h1 : x < 27720) : Pool (ns ++ [x]) := fun y hy => by
  rcases List.mem_append.mp hy with hy | hy
  · exact h y hy
  · cases List.mem_singleton.mp hy; exact ⟨h0, h1⟩
theorem upd_app {H : Hp} {l : Addr} {ps : List Int} {x : Int} : upd (upd H l (.lst (ps.map V.int))) l (.lst (ps.map V.int ++ [V.int x])) = upd H l (.lst ((ps ++ [x]).map V.int)) := by
  rw [upd_upd, List.map_append]
  rfl
theorem mod_sz {x m : Int} {k : Nat} (h : 0 < m) (hk : m.natAbs < 2 ^ k) : (x % m).natAbs < 2 ^ k := by
  have h1 := Int.emod_nonneg x (Int.ne_of_gt h)
  have h2 := Int.emod_lt_of_pos x h
  omega
/-! ### drawn names -/
theorem alpha_at : ∀ k : Fin 26, atI (("abcdefghijklmnopqrstuvwxyz" : Str)).cps.toList ((k.val : Nat) : Int) = some (97 + k.val) := by decide +kernel
theorem alpha_ix : ∀ k : Fin 26, Builtin.Str.occurrences ("abcdefghijklmnopqrstuvwxyz" : Str) ⟨#[97 + k.val]⟩ 0 (("abcdefghijklmnopqrstuvwxyz" : Str)).length 1 = [k.val] := by decide +kernel
theorem alpha_len : (("abcdefghijklmnopqrstuvwxyz" : Str)).length ≤ sizeLine := by decide
theorem Letters.app {l m : List Nat} (h : Letters l) (k : Letters m) : Letters (l ++ m) := fun c hc => (List.mem_append.mp hc).elim (h c) (k c)
theorem Letters.one {c : Nat} (h0 : 97 ≤ c) (h1 : c ≤ 122) : Letters [c] := fun d hd => by rw [List.mem_singleton.mp hd]; exact ⟨h0, h1⟩
/-- the word whose last sign has gone t signs on -/
def wat (pre : List Nat) (c t : Nat) : Str := ⟨(pre ++ [97 + (c - 97 + t) % 26]).toArray⟩
theorem wat_len {pre : List Nat} {c t : Nat} : (wat pre c t).length = pre.length + 1 := by
  show ((pre ++ [97 + (c - 97 + t) % 26]).toArray).size = _
  rw [List.size_toArray, List.length_append]; rfl
theorem wat_last {pre : List Nat} {c t : Nat} : atI (wat pre c t).cps.toList (-1) = some (97 + (c - 97 + t) % 26) := by
  show atI (pre ++ [97 + (c - 97 + t) % 26]) (-1) = _
  unfold atI ixN
  rw [if_neg (by decide)]
  have h1 : ((pre ++ [97 + (c - 97 + t) % 26]).length : Int) = (pre.length : Int) + 1 := by rw [List.length_append]; rfl
  have e : (-1 + ((pre ++ [97 + (c - 97 + t) % 26]).length : Int)).toNat = pre.length := by omega
  rw [if_pos (by omega), e]
  simp
theorem wat_next {pre : List Nat} {c t : Nat} : wat pre c (t + 1) = cutS (wat pre c t) none (some (-1)) ++ (⟨#[97 + ((c - 97 + t) % 26 + 1) % 26]⟩ : Str) := by
  apply str_ext
  apply Array.toList_inj.mp
  rw [append_cps, Array.toList_append]
  show pre ++ [97 + (c - 97 + (t + 1)) % 26] = (((pre ++ [97 + (c - 97 + t) % 26]).drop 0).take _) ++ [97 + ((c - 97 + t) % 26 + 1) % 26]
  have h2 : HT.sIx (wat pre c t).length (wat pre c t).length (some (-1)) - HT.sIx (wat pre c t).length 0 none = pre.length := by
    rw [wat_len]
    unfold HT.sIx
    simp
    omega
  rw [h2, List.drop_zero, List.take_left]
  have : (c - 97 + (t + 1)) % 26 = ((c - 97 + t) % 26 + 1) % 26 := by omega
  rw [this]
theorem nodup_le {l : List Str} : ∀ {m : List Str}, l.Nodup → (∀ x ∈ l, x ∈ m) → l.length ≤ m.length := by
  induction l with
  | nil => intro m _ _; exact Nat.zero_le _
  | cons a t ih =>
    intro m nd h
    rw [List.nodup_cons] at nd
    have ha := h a List.mem_cons_self
    have := ih (m := m.erase a) nd.2 fun x hx => (List.mem_erase_of_ne (fun e => nd.1 (by rw [← e]; exact hx))).mpr (h x (List.mem_cons_of_mem _ hx))
    rw [List.length_erase_of_mem ha] at this
    have : 0 < m.length := List.length_pos_of_mem ha
    rw [List.length_cons]
    omega
theorem wat_many {pre : List Nat} {c : Nat} {ns : List Str} (h : ∀ t, t < 26 → wat pre c t ∈ ns) : 26 ≤ ns.length := by
  have nd : ((List.range 26).map (wat pre c)).Nodup := by
    rw [List.nodup_iff_pairwise_ne, List.pairwise_map]
    refine List.Pairwise.imp_of_mem (fun {a b} ha hb hab e => hab ?_) (List.nodup_iff_pairwise_ne.mp List.nodup_range)
    have e1 : pre ++ [97 + (c - 97 + a) % 26] = pre ++ [97 + (c - 97 + b) % 26] := congrArg (fun z : Str => z.cps.toList) e
    have e2 := List.append_cancel_left e1
    have e3 : 97 + (c - 97 + a) % 26 = 97 + (c - 97 + b) % 26 := List.head_eq_of_cons_eq e2
    have := List.mem_range.mp ha
    have := List.mem_range.mp hb
    omega
  have := nodup_le nd fun x hx => by
    obtain ⟨t, ht, rfl⟩ := List.mem_map.mp hx
    exact h t (List.mem_range.mp ht)
  rw [List.length_map, List.length_range] at this
  exact this
theorem sv_inj {a b : List Str} (h : sv a = sv b) : a = b := by
  have : ∀ {a b : List Str}, sv a = sv b → a = b := fun {a b} => by
    intro h
    induction a generalizing b with
    | nil => cases b with | nil => rfl | cons _ _ => cases h
    | cons x t ih =>
      cases b with
      | nil => cases h
      | cons y u =>
        have h1 := List.cons.inj h
        rw [V.str.inj h1.1, ih h1.2]
  exact this h
theorem sv_snoc (l : List Str) (x : Str) : sv (l ++ [x]) = sv l ++ [V.str x] := List.map_append
theorem sEq {a b : Str} (h : a = b) : decide (V.str a = V.str b) = true := by rw [h]; exact decide_eq_true rfl
theorem sNe {a b : Str} (h : a ≠ b) : decide (V.str a = V.str b) = false := decide_eq_false fun e => h (V.str.inj e)
theorem iEq {a b : Int} (h : a = b) : decide (V.int a = V.int b) = true := by rw [h]; exact decide_eq_true rfl
theorem iNe {a b : Int} (h : a ≠ b) : decide (V.int a = V.int b) = false := decide_eq_false fun e => h (V.int.inj e)
theorem atR_of {us : List Addr} {i : Nat} {u : Addr} (h : us[i]? = some u) : atI (us.map V.ref) (i : Int) = some (V.ref u) := atI_nat (by rw [List.getElem?_map, h]; rfl)
theorem Lss.ex {f : List V → HO} {H : Hp} {us : List Addr} {ls : List (List Str)} (h : Lss f H us ls) {i : Nat} (hi : i < ls.length) : ∃ u w, us[i]? = some u ∧ ls[i]? = some w ∧ H u = some (f (sv w)) := by
  have hi' : i < us.length := by rw [h.len]; exact hi
  exact ⟨us[i], ls[i], List.getElem?_eq_getElem hi', List.getElem?_eq_getElem hi, h.at_ i _ _ (List.getElem?_eq_getElem hi') (List.getElem?_eq_getElem hi)⟩
theorem kit_F {K : PySem.W.Frag} {C D : Addr} (hi : PySem.W.isClsIn K D = true) (ht : PySem.W.typeIn K (.ref D) = some (.type "type")) (hs : PySem.W.subIn K (.ref C) (.ref D) = some false) (hss : PySem.W.subIn K (.ref C) (.ref C) = some true) : PySem.W.kitOne K (.ref C) (.ref D) = some false :=
  kit_own hi ht hs (.inl fun e => by rw [← e, hss] at hs; cases hs)
theorem exm_F {K : PySem.W.Frag} {C D : Addr} (hb : PySem.W.subIn K (.ref D) (.type "BaseException") = some true) (hi : PySem.W.isClsIn K D = true) (ht : PySem.W.typeIn K (.ref D) = some (.type "type")) (hs : PySem.W.subIn K (.ref C) (.ref D) = some false) : PySem.W.exmOne K (.ref C) (.ref D) = some false := by
  unfold PySem.W.exmOne
  rw [hb, if_pos (by rfl)]
  show (if ((PySem.W.clsIn K D).isSome && PySem.W.typeIn K (.ref D) == some (.type "type")) = true then _ else _) = _
  rw [if_pos (by
    rw [ht]
    have : (PySem.W.clsIn K D).isSome = true := hi
    rw [this]; simp)]
  exact hs
theorem pEq {a b : Bool} (h : a = b) : decide (V.bl a = V.bl b) = true := by rw [h]; exact decide_eq_true rfl
theorem pNe {a b : Bool} (h : a ≠ b) : decide (V.bl a = V.bl b) = false := decide_eq_false fun e => h (V.bl.inj e)
theorem sIx_lo {n k : Nat} (h : k ≤ n) : HT.sIx n 0 (some (k : Int)) = k := by rw [HT.sIx_nat, Nat.min_eq_left h]
theorem sIx_hi {n k : Nat} (h : k ≤ n) : HT.sIx n n (some (k : Int)) = k := by rw [HT.sIx_nat, Nat.min_eq_left h]
theorem layc {a : PyData} {r : List PyData} (h : PyData.canLay0 a = true) (k : PyData.canLayAll0 r = true) : PyData.canLayAll0 (a :: r) = true := by
  show (PyData.canLay0 a && PyData.canLayAll0 r) = true
  rw [h, k]; rfl
theorem lay_int (i : Int) : PyData.canLay0 (.int i) = true := by simp [PyData.canLay0]
theorem shapedL {xs : List PyData} (h1 : PyData.canLayAll0 xs = true) (h2 : PyData.depthAll xs ≤ 20) : SeqAt.shaped (.list xs) = true := by
  show (PyData.canLay0 (.list xs) && decide (PyData.depth (.list xs) ≤ 64)) = true
  rw [Bool.and_eq_true]
  exact ⟨by simp only [PyData.canLay0]; exact h1, decide_eq_true (by simp only [PyData.depth]; omega)⟩
theorem shapedT {xs : List PyData} (h1 : PyData.canLayAll0 xs = true) (h2 : PyData.depthAll xs ≤ 20) : SeqAt.shaped (.tuple xs) = true := by
  show (PyData.canLay0 (.tuple xs) && decide (PyData.depth (.tuple xs) ≤ 64)) = true
  rw [Bool.and_eq_true]
  exact ⟨by simp only [PyData.canLay0]; exact h1, decide_eq_true (by simp only [PyData.depth]; omega)⟩
theorem eqvL {xs : List PyData} (h1 : PyData.canLayAll0 xs = true) : PyData.eqv (.list xs) (.list xs) = true := SeqAt.eqv_refl _ (by simp only [PyData.canLay0]; exact h1)
theorem eqvT {xs : List PyData} (h1 : PyData.canLayAll0 xs = true) : PyData.eqv (.tuple xs) (.tuple xs) = true := SeqAt.eqv_refl _ (by simp only [PyData.canLay0]; exact h1)
theorem layL {xs : List PyData} (h1 : PyData.canLayAll0 xs = true) : PyData.canLay0 (.list xs) = true := by simp only [PyData.canLay0]; exact h1
theorem layT {xs : List PyData} (h1 : PyData.canLayAll0 xs = true) : PyData.canLay0 (.tuple xs) = true := by simp only [PyData.canLay0]; exact h1
theorem none_of {H H' : Hp} (s : Same H H') {a : Addr} (h : H' a = none) : H a = none := by
  cases e : H a with
  | none => rfl
  | some o => rw [s _ _ e] at h; cases h
theorem Lss.updNe {f : List V → HO} {H : Hp} {ts : List Addr} {rs : List (List Str)} {l : Addr} {o : HO} (h : Lss f H ts rs) (hne : ∀ (i : Nat) (t : Addr), ts[i]? = some t → t ≠ l) : Lss f (upd H l o) ts rs :=
  ⟨h.len, fun i t x a b => by rw [upd_ne (hne i t a)]; exact h.at_ i t x a b⟩
theorem ne_app {ts : List Addr} {a l : Addr} (h : ∀ (i : Nat) (t : Addr), ts[i]? = some t → t ≠ l) (ha : a ≠ l) : ∀ (i : Nat) (t : Addr), (ts ++ [a])[i]? = some t → t ≠ l := fun i t e => by
  rcases List.mem_append.mp (List.mem_of_getElem? e) with hm | hm
  · obtain ⟨j, hj, rfl⟩ := List.getElem_of_mem hm
    exact h j _ (List.getElem?_eq_getElem hj)
  · rw [List.mem_singleton.mp hm]; exact ha
theorem noT {r : Addr} : ∀ (i : Nat) (t : Addr), ([] : List Addr)[i]? = some t → t ≠ r := fun i t h => by simp at h
/-- a comprehension's list of new lists -/
def LcL (H1 : Hp) (D : Addr) (lls : List (List Str)) (H : Hp) : Prop := Same H1 H ∧ ∃ us : List Addr, H D = some (.lst (us.map V.ref)) ∧ Lss .lst H us lls ∧ ∀ (i : Nat) (t : Addr), us[i]? = some t → t ≠ D
theorem lcl0 {H1 : Hp} {D : Addr} (hD : H1 D = none) : LcL H1 D [] (upd H1 D (.lst [])) := ⟨same_new hD, [], upd_same, Lss.nil, noT⟩
theorem LcL.push {H1 H H' : Hp} {D a : Addr} {lls : List (List Str)} {y : List Str} (q : LcL H1 D lls H) (hD : H1 D = none) (s : Same H H') (ha : H' a = some (.lst (sv y))) (hne : a ≠ D) (hl : lls.length ≤ 1000001) :
    ∃ acc, H' D = some (.lst acc) ∧ acc.length < sizeLine ∧ LcL H1 D (lls ++ [y]) (upd H' D (.lst (acc ++ [.ref a]))) := by
  obtain ⟨sm, us, hd, hls, hn⟩ := q
  refine ⟨us.map V.ref, s _ _ hd, Nat.lt_of_le_of_lt (by rw [List.length_map, hls.len]; exact hl) (by decide), fun b o e => ?_, us ++ [a], ?_, ?_, ne_app hn hne⟩
  · rw [upd_ne (ne_of_none e hD)]; exact s _ _ (sm _ _ e)
  · rw [List.map_append]; exact upd_same
  · exact ((hls.same s).app ha).updNe (ne_app hn hne)
theorem LcL.new {H1 H : Hp} {D a : Addr} {lls : List (List Str)} {y : List Str} (q : LcL H1 D lls H) (hD : H1 D = none) (ha : H a = none) (hl : lls.length ≤ 1000001) :
    ∃ acc, (upd H a (.lst (sv y))) D = some (.lst acc) ∧ acc.length < sizeLine ∧ LcL H1 D (lls ++ [y]) (upd (upd H a (.lst (sv y))) D (.lst (acc ++ [.ref a]))) :=
  q.push hD (same_new ha) upd_same (by obtain ⟨_, us, hd, _⟩ := q; exact (ne_of_none hd ha).symm) hl

theorem okz_low {z : Str} (h : ∀ c ∈ z.cps.toList, c ≤ 122) : Okz z := by
  show PyData.canLay0 (.str z) = true
  unfold PyData.canLay0 PyData.strOk
  rw [Array.all_eq_true]
  intro i hi
  have := h z.cps[i] (by rw [Array.mem_toList_iff]; exact Array.getElem_mem hi)
  exact decide_eq_true (by omega)
theorem okz_sp {z : Str} (g : Good z) : Okz (z ++ " ") := okz_low fun c hc => by
  rw [append_cps, Array.toList_append] at hc
  rcases List.mem_append.mp hc with hc | hc
  · exact (g.let_ c hc).2
  · rw [show (" " : Str).cps.toList = [32] by decide] at hc; rw [List.mem_singleton.mp hc]; decide
theorem okz_A {z : Str} (g : Good z) : Okz ("A" ++ z) := okz_low fun c hc => by
  rw [append_cps, Array.toList_append] at hc
  rcases List.mem_append.mp hc with hc | hc
  · rw [show ("A" : Str).cps.toList = [65] by decide] at hc; rw [List.mem_singleton.mp hc]; decide
  · exact (g.let_ c hc).2
/-- a list of tuples of names -/
abbrev pdd (rs : List (List Str)) : List PyData := rs.map fun r => PyData.tuple (pd r)
theorem lay_pdd {rs : List (List Str)} (h : ∀ r ∈ rs, ∀ z ∈ r, Okz z) : PyData.canLayAll0 (pdd rs) = true := by
  induction rs with
  | nil => rfl
  | cons a t ih =>
    show (PyData.canLay0 (.tuple (pd a)) && PyData.canLayAll0 (pdd t)) = true
    rw [ih fun z hz => h z (List.mem_cons_of_mem _ hz), show PyData.canLay0 (.tuple (pd a)) = true by simp only [PyData.canLay0]; exact lay_all (h a List.mem_cons_self)]; rfl
theorem depth_pdd : ∀ rs : List (List Str), PyData.depthAll (pdd rs) ≤ 3
  | [] => by simp [PyData.depthAll]
  | r :: t => by
    have h1 : PyData.depthAll (t.map fun r => PyData.tuple (pd r)) ≤ 3 := depth_pdd t
    have h2 := depth_pd r
    simp only [List.map_cons, PyData.depthAll, PyData.depth]
    omega
theorem shaped_pdd {rs : List (List Str)} (h : ∀ r ∈ rs, ∀ z ∈ r, Okz z) : SeqAt.shaped (.list (pdd rs)) = true := by
  have h1 := depth_pdd rs
  show (PyData.canLay0 (.list (pdd rs)) && decide (PyData.depth (.list (pdd rs)) ≤ 64)) = true
  rw [Bool.and_eq_true]
  exact ⟨by simp only [PyData.canLay0]; exact lay_pdd h, decide_eq_true (by simp only [PyData.depth]; omega)⟩
theorem eqv_pdd {rs : List (List Str)} (h : ∀ r ∈ rs, ∀ z ∈ r, Okz z) : PyData.eqv (.list (pdd rs)) (.list (pdd rs)) = true := SeqAt.eqv_refl _ (by simp only [PyData.canLay0]; exact lay_pdd h)
theorem dp_pdd {K : PySem.W.Frag} {H : Hp} : ∀ {ts : List Addr} {rs : List (List Str)}, Lss .tup H ts rs → DpAll K H (ts.map V.ref) (pdd rs)
  | [], [], _ => .nil
  | [], _ :: _, h => nomatch h.len
  | _ :: _, [], h => nomatch h.len
  | t :: ts, r :: rs, h => .cons (.tup (xs := sv r) (SqT.of (h.at_ 0 t r rfl rfl)) (dp_pd r)) (dp_pdd ⟨Nat.succ.inj h.len, fun i u x a b => h.at_ (i + 1) u x a b⟩)
/-! ### == of data -/
mutual
/-- no truth values, no dicts -/
def nb : PyData → Bool
  | .none => true
  | .int _ => true
  | .str _ => true
  | .bool _ => false
  | .dict _ => false
  | .list xs => nbAll xs
  | .tuple xs => nbAll xs
def nbAll : List PyData → Bool
  | [] => true
  | x :: xs => nb x && nbAll xs
end
mutual
theorem eqv_iff : ∀ (d e : PyData), nb d = true → nb e = true → (PyData.eqv d e = true ↔ d = e)
  | .none, e, _, h => by cases e <;> simp [PyData.eqv]
  | .int i, e, _, h => by
    cases e <;> first | (simp only [nb] at h; cases h; done) | simp [PyData.eqv]
  | .str i, e, _, h => by cases e <;> simp [PyData.eqv]
  | .bool _, _, h, _ => by simp [nb] at h
  | .dict _, _, h, _ => by simp [nb] at h
  | .list xs, e, h, h' => by
    cases e <;> first | (simp [PyData.eqv]; done) | skip
    rename_i ys
    simp only [PyData.eqv, PyData.list.injEq]
    exact eqvAll_iff xs ys (by simpa [nb] using h) (by simpa [nb] using h')
  | .tuple xs, e, h, h' => by
    cases e <;> first | (simp [PyData.eqv]; done) | skip
    rename_i ys
    simp only [PyData.eqv, PyData.tuple.injEq]
    exact eqvAll_iff xs ys (by simpa [nb] using h) (by simpa [nb] using h')
theorem eqvAll_iff : ∀ (xs ys : List PyData), nbAll xs = true → nbAll ys = true → (PyData.eqvAll xs ys = true ↔ xs = ys)
  | [], [], _, _ => by simp [PyData.eqvAll]
  | [], _ :: _, _, _ => by simp [PyData.eqvAll]
  | _ :: _, [], _, _ => by simp [PyData.eqvAll]
  | x :: xs, y :: ys, h, h' => by
    simp only [nbAll, Bool.and_eq_true] at h h'
    simp only [PyData.eqvAll, Bool.and_eq_true, eqv_iff x y h.1 h'.1, eqvAll_iff xs ys h.2 h'.2, List.cons.injEq]
end
theorem nb_pd (ss : List Str) : nbAll (pd ss) = true := by
  induction ss with
  | nil => rfl
  | cons a t ih => show (true && nbAll (pd t)) = true; rw [ih]; rfl
theorem pd_inj {a b : List Str} : pd a = pd b ↔ a = b := by
  constructor
  · intro h
    have := congrArg (List.map fun d : PyData => match d with | .str x => x | _ => ("" : Str)) h
    rw [List.map_map, List.map_map] at this
    simpa [Function.comp_def] using this
  · intro h; rw [h]
theorem eqv_L (a b : List Str) : PyData.eqv (.list (pd a)) (.list (pd b)) = decide (a = b) := by
  rw [Bool.eq_iff_iff, decide_eq_true_iff, eqv_iff (.list (pd a)) (.list (pd b)) (by simp only [nb]; exact nb_pd a) (by simp only [nb]; exact nb_pd b), PyData.list.injEq, pd_inj]
theorem eqv_T (a b : List Str) : PyData.eqv (.tuple (pd a)) (.tuple (pd b)) = decide (a = b) := by
  rw [Bool.eq_iff_iff, decide_eq_true_iff, eqv_iff (.tuple (pd a)) (.tuple (pd b)) (by simp only [nb]; exact nb_pd a) (by simp only [nb]; exact nb_pd b), PyData.tuple.injEq, pd_inj]
theorem shaped_pdT {ss : List Str} (h : ∀ z ∈ ss, Okz z) : SeqAt.shaped (.tuple (pd ss)) = true := shapedT (lay_all h) (Nat.le_trans (depth_pd ss) (by decide))
theorem any_pdd (rs : List (List Str)) (a : List Str) : ((pdd rs).any fun z => PyData.eqv z (.tuple (pd a))) = decide (a ∈ rs) := by
  rw [Bool.eq_iff_iff, List.any_eq_true, decide_eq_true_iff]
  constructor
  · rintro ⟨d, hd, e⟩
    obtain ⟨r, hr, rfl⟩ := List.mem_map.mp hd
    rw [eqv_T, decide_eq_true_iff] at e
    rw [← e]; exact hr
  · intro h
    exact ⟨_, List.mem_map.mpr ⟨a, h, rfl⟩, by rw [eqv_T]; exact decide_eq_true rfl⟩
theorem okz_low' {z : Str} (h : z.cps.toList.all (· < 256) = true) : Okz z := by
  show PyData.canLay0 (.str z) = true
  unfold PyData.canLay0 PyData.strOk
  rw [Array.all_eq_true]
  intro i hi
  have := List.all_eq_true.mp h z.cps[i] (by rw [Array.mem_toList_iff]; exact Array.getElem_mem hi)
  have := of_decide_eq_true this
  exact decide_eq_true (by omega)
end My
set_option maxRecDepth 100000
set_option maxHeartbeats 4000000
set_option exponentiation.threshold 10000
namespace My
open PySem L2
abbrev rn (ns cs r : List Str) : Nat := runs (flags ns (canon cs r))
def nums (f : List Str → Bool) (rs : List (List Str)) : List Nat := (List.range rs.length).filter fun i => f (rs.getD i [])
theorem nums_le (f : List Str → Bool) (rs : List (List Str)) : (nums f rs).length ≤ rs.length := by
  have := List.length_filter_le (fun i => f (rs.getD i [])) (List.range rs.length)
  rw [List.length_range] at this
  exact this
theorem numsT {f : List Str → Bool} {rs : List (List Str)} {i : Nat} {r : List Str} (h : rs[i]? = some r) (hf : f r = true) : (((List.range (i + 1)).filter fun i => f (rs.getD i [])).map fun n => V.int (n : Nat)) = (((List.range i).filter fun i => f (rs.getD i [])).map fun n => V.int (n : Nat)) ++ [V.int (i : Nat)] := by
  have hd : rs.getD i [] = r := by rw [List.getD_eq_getElem?_getD, h]; rfl
  rw [List.range_succ, List.filter_append, List.map_append, List.filter_cons_of_pos (by rw [hd]; exact hf)]; rfl
theorem numsF {f : List Str → Bool} {rs : List (List Str)} {i : Nat} {r : List Str} (h : rs[i]? = some r) (hf : f r = false) : (((List.range (i + 1)).filter fun i => f (rs.getD i [])).map fun n => V.int (n : Nat)) = (((List.range i).filter fun i => f (rs.getD i [])).map fun n => V.int (n : Nat)) := by
  have hd : rs.getD i [] = r := by rw [List.getD_eq_getElem?_getD, h]; rfl
  rw [List.range_succ, List.filter_append, List.map_append, List.filter_cons_of_neg (by rw [hd, hf]; decide)]; simp
theorem nums_len (f : List Str → Bool) (rs : List (List Str)) (i : Nat) (hi : i ≤ 1000) : (((List.range i).filter fun i => f (rs.getD i [])).map fun n => V.int (n : Nat)).length ≤ 1000000 := by
  have := List.length_filter_le (fun i => f (rs.getD i [])) (List.range i)
  rw [List.length_range] at this
  rw [List.length_map]; omega
theorem perm_of_fault {cs ns : List Str} (nc : cs.Nodup) (h : fault cs ns = none) : (∀ x ∈ ns, x ∈ cs) ∧ ns.Nodup ∧ ns.Perm cs := by
  unfold fault at h
  cases hs : stray cs ns with
  | some i => rw [hs] at h; cases h
  | none =>
    rw [hs] at h
    have h : (if ns.length < cs.length then some ns.length else none) = none := h
    have hl : cs.length ≤ ns.length := by
      by_cases z : ns.length < cs.length
      · rw [if_pos z] at h; cases h
      · omega
    obtain ⟨hsub, nd⟩ := stray_none_iff.mp hs
    refine ⟨hsub, nd, ?_⟩
    have hin : ∀ x ∈ cs, x ∈ ns := fun x hx => Classical.byContradiction fun hn => by
      have := nodup_le (l := x :: ns) (m := cs) (List.nodup_cons.mpr ⟨hn, nd⟩) fun y hy => by
        rcases List.mem_cons.mp hy with rfl | hy
        · exact hx
        · exact hsub y hy
      rw [List.length_cons] at this
      omega
    exact (List.perm_ext_iff_of_nodup nd nc).mpr fun x => ⟨hsub x, hin x⟩
theorem perm_pick {α : Type} {l : List α} {i : Nat} {x : α} (h : l[i]? = some x) : (x :: (l.take i ++ l.drop (i + 1))).Perm l := by
  have hi := (List.getElem?_eq_some_iff.mp h).1
  have e : l = l.take i ++ x :: l.drop (i + 1) := by
    conv => lhs; rw [← List.take_append_drop i l]
    rw [List.drop_eq_getElem_cons hi]
    rw [List.getElem?_eq_getElem hi] at h
    cases h; rfl
  conv => rhs; rw [e]
  exact List.perm_middle.symm
def szs : List Int := [3, 4, 5, 2, 4, 6, 3, 5, 1, 7, 0, 12, 4, 5, 3, 6, 8, 4, 5, 9, 10, 4, 7, 11]
theorem cut_takeG {xs : List V} {k : Nat} : cutV xs none (some (k : Int)) = xs.take k := by
  unfold cutV
  rw [HT.sIx_none, HT.sIx_nat]
  simp
theorem cut_dropG {xs : List V} {k : Nat} : cutV xs (some (k : Int)) none = xs.drop k := by
  unfold cutV
  rw [HT.sIx_none, HT.sIx_nat]
  rw [List.take_of_length_le (by rw [List.length_drop]; omega)]
  rcases Nat.le_total k xs.length with h | h
  · rw [Nat.min_eq_left h]
  · rw [Nat.min_eq_right h, List.drop_eq_nil_of_le (Nat.le_refl _), List.drop_eq_nil_of_le h]
theorem rot_perm {α : Type} (l : List α) (c : Nat) : (l.drop c ++ l.take c).Perm l := by
  have := List.perm_append_comm (l₁ := l.drop c) (l₂ := l.take c)
  rw [List.take_append_drop] at this
  exact this
def RowOk (cs x : List Str) : Prop := x.Nodup ∧ ∀ y ∈ x, y ∈ cs
theorem RowOk.len {cs x : List Str} (h : RowOk cs x) : x.length ≤ cs.length := nodup_le h.1 h.2
theorem RowOk.stray {cs x : List Str} (h : RowOk cs x) : stray cs x = none := stray_none_iff.mpr ⟨h.2, h.1⟩
def Rows (H : Hp) (D : Addr) (ts : List Addr) (cs : List Str) (rs : List (List Str)) : Prop := Lss .lst H ts rs ∧ (∀ t ∈ ts, t ≠ D) ∧ ∀ x ∈ rs, RowOk cs x
theorem Rows.push {H H' : Hp} {D t : Addr} {ts : List Addr} {cs ms : List Str} {rs : List (List Str)} {o : HO} (h : Rows H D ts cs rs) (s : Same H H') (ht : H' t = some (.lst (sv ms))) (hD : t ≠ D) (ok : RowOk cs ms) : Rows (upd H' D o) D (ts ++ [t]) cs (rs ++ [ms]) := by
  have h1 := (h.1.same s).app ht
  have hn : ∀ u ∈ ts ++ [t], u ≠ D := fun u hu => (List.mem_append.mp hu).elim (h.2.1 u) fun hu => by rw [List.mem_singleton.mp hu]; exact hD
  refine ⟨⟨h1.len, fun i u x a b => ?_⟩, hn, fun x hx => (List.mem_append.mp hx).elim (h.2.2 x) fun hx => by rw [List.mem_singleton.mp hx]; exact ok⟩
  rw [upd_ne (hn u (List.mem_of_getElem? a))]
  exact h1.at_ i u x a b
/-- names of the law: different, good, at most 7 signs -/
def Nms (ns : List Str) : Prop := ns.Nodup ∧ ∀ z ∈ ns, Good z ∧ z.length ≤ 7
theorem Nms.sub {a b c : List Str} (h : Nms a) (p : b.Perm a) (s : c.Sublist b) : Nms c := ⟨s.nodup (p.nodup_iff.mpr h.1), fun z hz => h.2 z (p.mem_iff.mp (s.subset hz))⟩
def W1 : List Str := ["ab", "a", "abc", "aa", "b", "ba", "aab", "bb", "abcdefg", "abcdefh", "aba", "bab"]
def W2 : List Str := ["first", "row", "end", "near", "span", "last", "before", "window", "over", "column", "not", "ask"]
theorem nms_of {ns : List Str} (h : (decide ns.Nodup && ns.all fun z => okName z && decide (z.length ≤ 7)) = true) : Nms ns := by
  rw [Bool.and_eq_true, decide_eq_true_iff, List.all_eq_true] at h
  refine ⟨h.1, fun z hz => ?_⟩
  have := h.2 z hz
  rw [Bool.and_eq_true, decide_eq_true_iff] at this
  exact ⟨okName_iff.mp this.1, this.2⟩
theorem w1_ok : Nms W1 := nms_of (by decide +kernel)
theorem w2_ok : Nms W2 := nms_of (by decide +kernel)
/-! ### words about one letter -/
def l1 (c : Nat) : Str := ⟨#[c]⟩
theorem mul1 (c : Nat) (n : Int) : (Txt.mul (l1 c) n).cps = Array.replicate n.toNat c := by
  unfold Txt.mul
  have h1 : ((l1 c).length == 0) = false := rfl
  split
  · rename_i h
    have : n.toNat = 0 := by omega
    rw [this]
    rfl
  · rename_i h
    split
    · rename_i h'
      rw [h1, Bool.or_false, beq_iff_eq] at h'
      subst h'
      rfl
    · have e : ∀ (m : Nat) (acc : Array Nat), ((List.replicate m (l1 c).cps).foldl (· ++ ·) acc) = acc ++ Array.replicate m c := by
        intro m
        induction m with
        | zero => intro acc; simp
        | succ m ih =>
          intro acc
          rw [List.replicate_succ, List.foldl_cons, ih]
          have : (l1 c).cps = #[c] := rfl
          rw [this, Array.append_assoc]
          congr 1
          apply Array.toList_inj.mp
          simp [List.replicate_succ]
      show ((List.replicate n.toNat (l1 c).cps).foldl (· ++ ·) #[]) = _
      rw [e]
      simp
theorem mulOk1 (c : Nat) {n : Int} (h0 : 0 ≤ n) (h3 : n ≤ 3) : MulOk (l1 c) n := by
  unfold MulOk
  have e : (l1 c).length = 1 := rfl
  rw [e]
  rcases (show n = 0 ∨ n = 1 ∨ n = 2 ∨ n = 3 by omega) with rfl | rfl | rfl | rfl <;> decide
/-- a side of a name: letters behind l -/
def Side (x : Str) : Prop := (∀ c ∈ x.cps.toList, 109 ≤ c ∧ c ≤ 122) ∧ x.length ≤ 3
theorem side1 {c : Nat} {n : Int} (h1 : 109 ≤ c) (h2 : c ≤ 122) (h0 : 0 ≤ n) (h3 : n ≤ 3) : Side (Txt.mul (l1 c) n) := by
  have e := mul1 c n
  refine ⟨fun d hd => ?_, ?_⟩
  · rw [e, Array.toList_replicate, List.mem_replicate] at hd
    rw [hd.2]; exact ⟨h1, h2⟩
  · show (Txt.mul (l1 c) n).cps.size ≤ 3
    rw [e, Array.size_replicate]; omega
theorem em : ("m" : Str) = l1 109 := str_ext (by decide)
theorem ez : ("z" : Str) = l1 122 := str_ext (by decide)
theorem coreT : ∀ k : Fin 12, atI (("abcdefghijkl" : Str)).cps.toList ((k.val : Nat) : Int) = some (97 + k.val) := by decide +kernel
theorem leftT : ∀ k : Fin 14, atI (("mnopqrstuvwxyz" : Str)).cps.toList ((k.val : Nat) : Int) = some (109 + k.val) := by decide +kernel
theorem rightT : ∀ k : Fin 14, atI (("zyxwvutsrqponm" : Str)).cps.toList ((k.val : Nat) : Int) = some (122 - k.val) := by decide +kernel
theorem core_at {j : Int} (h0 : 0 ≤ j) (h1 : j < 12) : atI (("abcdefghijkl" : Str)).cps.toList j = some (97 + j.toNat) := by
  have := coreT ⟨j.toNat, by omega⟩
  rw [show (((⟨j.toNat, by omega⟩ : Fin 12).val : Nat) : Int) = j from by show ((j.toNat : Nat) : Int) = j; omega] at this
  exact this
theorem left_at {j : Int} (h0 : 0 ≤ j) (h1 : j < 14) : atI (("mnopqrstuvwxyz" : Str)).cps.toList j = some (109 + j.toNat) := by
  have := leftT ⟨j.toNat, by omega⟩
  rw [show (((⟨j.toNat, by omega⟩ : Fin 14).val : Nat) : Int) = j from by show ((j.toNat : Nat) : Int) = j; omega] at this
  exact this
theorem right_at {j : Int} (h0 : 0 ≤ j) (h1 : j < 14) : atI (("zyxwvutsrqponm" : Str)).cps.toList j = some (122 - j.toNat) := by
  have := rightT ⟨j.toNat, by omega⟩
  rw [show (((⟨j.toNat, by omega⟩ : Fin 14).val : Nat) : Int) = j from by show ((j.toNat : Nat) : Int) = j; omega] at this
  exact this
theorem core_len : (("abcdefghijkl" : Str)).length ≤ sizeLine := by decide
theorem left_len : (("mnopqrstuvwxyz" : Str)).length ≤ sizeLine := by decide
theorem right_len : (("zyxwvutsrqponm" : Str)).length ≤ sizeLine := by decide
/-- a made name with the letter c -/
def Made (c : Nat) (z : Str) : Prop := Good z ∧ z.length ≤ 7 ∧ z.cps.toList.filter (fun d => decide (d < 109)) = [c]
theorem made_of {l r : Str} {c : Nat} (hl : Side l) (hr : Side r) (h1 : 97 ≤ c) (h2 : c < 109) : Made c (l ++ l1 c ++ r) := by
  have el : (l ++ l1 c ++ r).length = l.length + 1 + r.length := by rw [Str.length_append, Str.length_append]; rfl
  have ec : (l ++ l1 c ++ r).cps.toList = l.cps.toList ++ [c] ++ r.cps.toList := by
    rw [append_cps, append_cps, Array.toList_append, Array.toList_append]; rfl
  have hl2 := hl.2
  have hr2 := hr.2
  refine ⟨⟨by omega, by omega, fun d hd => ?_⟩, by omega, ?_⟩
  · rw [ec] at hd
    rcases List.mem_append.mp hd with hd | hd
    · rcases List.mem_append.mp hd with hd | hd
      · have := hl.1 d hd; omega
      · rw [List.mem_singleton] at hd; omega
    · have := hr.1 d hd; omega
  · have no : ∀ x : Str, Side x → x.cps.toList.filter (fun d => decide (d < 109)) = [] := fun x hx => by
      rw [List.filter_eq_nil_iff]
      intro d hd h
      have := hx.1 d hd
      rw [decide_eq_true_iff] at h
      omega
    have ec2 : [c].filter (fun d => decide (d < 109)) = [c] := by simp [h2]
    rw [ec, List.filter_append, List.filter_append, no l hl, no r hr, ec2]; rfl
/-- the first i made names -/
def Mades (s : Int) (ns : List Str) : Prop := ∀ (t : Nat) z, ns[t]? = some z → Made (97 + (((t : Int) * 5 + s) % 12).toNat) z
theorem Mades.app {s : Int} {ns : List Str} {z : Str} (h : Mades s ns) (hz : Made (97 + (((ns.length : Int) * 5 + s) % 12).toNat) z) : Mades s (ns ++ [z]) := fun t y e => by
  rcases Nat.lt_trichotomy t ns.length with c | c | c
  · rw [List.getElem?_append_left c] at e; exact h t y e
  · rw [c, List.getElem?_append_right (Nat.le_refl _), Nat.sub_self] at e
    cases e; rw [c]; exact hz
  · rw [List.getElem?_append_right (by omega), List.getElem?_eq_none (by simp; omega)] at e
    cases e
theorem Mades.nms {s : Int} {ns : List Str} (h : Mades s ns) (hl : ns.length ≤ 12) : Nms ns := by
  refine ⟨?_, fun z hz => ?_⟩
  · rw [List.nodup_iff_pairwise_ne, List.pairwise_iff_getElem]
    intro i j hi hj hij e
    have h1 := h i _ (List.getElem?_eq_getElem hi)
    have h2 := h j _ (List.getElem?_eq_getElem hj)
    have e1 := h1.2.2
    rw [e, h2.2.2] at e1
    have e2 := (List.cons.inj e1).1
    omega
  · obtain ⟨i, hi, e⟩ := List.getElem_of_mem hz
    have h1 := h i _ (List.getElem?_eq_getElem hi)
    rw [e] at h1
    exact ⟨h1.1, h1.2.1⟩
def unk (cs ns : List Str) : Option Str := ns.find? fun x => !decide (x ∈ cs)
theorem unk_some {cs ns : List Str} {i : Nat} {z : Str} (hz : ns[i]? = some z) (h1 : z ∉ cs) (h2 : ∀ (j : Nat) y, j < i → ns[j]? = some y → y ∈ cs) : unk cs ns = some z := by
  unfold unk
  rw [List.find?_eq_some_iff_getElem]
  obtain ⟨hi, e⟩ := List.getElem?_eq_some_iff.mp hz
  refine ⟨by simp [h1], i, hi, e, fun j hj => ?_⟩
  have := h2 j ns[j] hj (List.getElem?_eq_getElem _)
  simp [this]
theorem unk_none {cs ns : List Str} : unk cs ns = none ↔ ∀ x ∈ ns, x ∈ cs := by
  unfold unk
  rw [List.find?_eq_none]
  exact ⟨fun h x hx => by have := h x hx; simpa using this, fun h x hx => by simp [h x hx]⟩
theorem unk_mem {cs ns : List Str} {z : Str} (h : unk cs ns = some z) : z ∈ ns ∧ z ∉ cs := by
  unfold unk at h
  exact ⟨List.mem_of_find?_eq_some h, by have := List.find?_some h; simpa using this⟩
def fldsR (nt : Addr) : List (Str × V) := putF "names" (.ref nt) []
theorem fldsR_names (nt : Addr) : (fldsR nt).lookup ("names" : Str) = some (.ref nt) := by unfold fldsR; rw [lookup_putF, if_pos rfl]
def Rd (C : Addr) (H : Hp) (p : Addr) (ns : List Str) : Prop := ∃ dx nt, H p = some (.ins C dx (fldsR nt)) ∧ DT H nt (sv ns)
theorem Rd.same {C : Addr} {H H' : Hp} {p : Addr} {ns : List Str} (h : Rd C H p ns) (e : Same H H') : Rd C H' p ns := let ⟨dx, nt, h1, h2⟩ := h; ⟨dx, nt, e _ _ h1, h2.same e⟩
def ringFault (ns : List Str) : Option Nat := match firstBad ns with | some i => some i | none => if 12 < ns.length then some 12 else none
structure RingOk (ns : List Str) : Prop where
  g : ∀ z ∈ ns, Good z
  nd : ns.Nodup
  n : ns.length ≤ 12
theorem ringFault_none {ns : List Str} : ringFault ns = none ↔ RingOk ns := by
  unfold ringFault
  cases hf : firstBad ns with
  | some i =>
    constructor
    · intro h; cases h
    · intro h
      rw [firstBad_none_iff.mpr ⟨h.g, h.nd⟩] at hf; cases hf
  | none =>
    obtain ⟨a, b⟩ := firstBad_none_iff.mp hf
    constructor
    · intro h
      have h : (if 12 < ns.length then some 12 else none) = none := h
      refine ⟨a, b, ?_⟩
      by_cases q : 12 < ns.length
      · rw [if_pos q] at h; cases h
      · omega
    · intro h
      show (if 12 < ns.length then some 12 else none) = none
      rw [if_neg (by have := h.n; omega)]
theorem RingOk.perm {ns ms : List Str} (h : RingOk ns) (p : ms.Perm ns) : RingOk ms := ⟨fun z hz => h.g z (p.mem_iff.mp hz), p.nodup_iff.mpr h.nd, by rw [p.length_eq]; exact h.n⟩
def aft (ns : List Str) (i : Nat) : List Str := ns.drop (i + 1) ++ ns.take i
theorem first_ix {ns : List Str} {z : Str} (h : z ∈ ns) : ∃ i : Nat, ns[i]? = some z ∧ ∀ m, m < i → ns[m]? ≠ some z := by
  induction ns with
  | nil => cases h
  | cons a t ih =>
    by_cases e : a = z
    · exact ⟨0, by rw [e]; rfl, fun m hm => absurd hm (Nat.not_lt_zero _)⟩
    · rcases List.mem_cons.mp h with q | q
      · exact absurd q.symm e
      · obtain ⟨i, h1, h2⟩ := ih q
        refine ⟨i + 1, h1, fun m hm => ?_⟩
        cases m with
        | zero => intro z; exact e (Option.some.inj z)
        | succ m => exact h2 m (by omega)
abbrev SqA (K : PySem.W.Frag) : Hp → Addr → List V → Prop := fun H a xs => SqL K H a xs ∨ SqT K H a xs
theorem _root_.L2.Same.sqa {K : PySem.W.Frag} {H H' : Hp} {a : Addr} {xs : List V} (e : Same H H') (h : SqA K H a xs) : SqA K H' a xs := h.imp (fun z => e.seq z) fun z => e.tup z
/-! ### slices and tuple(..), whichever way the object comes -/
theorem slOT {K : PySem.W.Frag} {H : Hp} {c : Addr} {xs : List V} {lo hi : Option Int} {Q : VK} (hc : SqT K H c xs) (h : ∀ a H', Same H H' → SqT K H' a (cutV xs lo hi) → Q (.ref a) H') : rSlA K (.ref c) lo hi H Q := by
  refine ⟨c, xs, rfl, hc, fun hw => ?_, fun _ p hp => h p _ (same_new hp) (SqT.of upd_same)⟩
  have e : cutV xs lo hi = xs := by
    unfold cutV
    rw [hw.1, hw.2, Nat.sub_zero, List.drop_zero, List.take_length]
  have := h c H (Same.refl _)
  rw [e] at this
  exact this hc
theorem slO {K : PySem.W.Frag} {H : Hp} {c : Addr} {xs : List V} {lo hi : Option Int} {Q : VK} (hc : SqL K H c xs) (h : ∀ a H', Same H H' → H a = none → H' a = some (.lst (cutV xs lo hi)) → Q (.ref a) H') : rSlL K (.ref c) lo hi H Q :=
  ⟨c, xs, rfl, hc, fun p hp => h p _ (same_new hp) hp upd_same⟩
theorem tupO {K : PySem.W.Frag} {H : Hp} {p : Addr} {ys : List V} {Q : VK} (h : SqA K H p ys) (k : ∀ a H', Same H H' → SqT K H' a ys → Q (.ref a) H') : rTupOf K [.ref p] H Q := by
  refine ⟨p, ys, rfl, ?_⟩
  rcases h with h | h
  · exact .inl ⟨h, fun l hl => k l _ (same_new hl) (SqT.of upd_same)⟩
  · exact .inr ⟨h, k p H (Same.refl _) h⟩
end My
set_option maxRecDepth 100000
set_option maxHeartbeats 4000000
set_option exponentiation.threshold 10000
namespace My
open PySem L2
def top (i : Nat) : Stmt := PySem.Challenge.pw_unbrokenrows_k35_tables_cut_open.main.body.getD i (.Pass ⟨0, 0, 0, 0⟩)
abbrev s_UnknownColumn_init : Stmt := inClass (top 5) 0
abbrev s_is_name : Stmt := top 13
abbrev s_first_bad_name : Stmt := top 14
abbrev s_first_stray : Stmt := top 15
abbrev s_order_fault : Stmt := top 17
abbrev s_count_runs : Stmt := top 18
abbrev s_runs_of : Stmt := top 19
abbrev s_check_order : Stmt := top 20
abbrev s_broken : Stmt := top 21
abbrev s_is_layout : Stmt := top 22
abbrev s_check_columns : Stmt := top 24
abbrev s_check_known : Stmt := top 25
abbrev s_check_rows : Stmt := top 26
abbrev s_Table_in_order : Stmt := inClass (top 27) 3
abbrev s_Table_inside_out : Stmt := inClass (top 27) 4
abbrev s_Table_init : Stmt := inClass (top 27) 2
abbrev s_Table_only : Stmt := inClass (top 27) 12
abbrev s_Table_turned : Stmt := inClass (top 27) 13
abbrev s_Round_init : Stmt := inClass (top 29) 0
abbrev s_Round_cut : Stmt := inClass (top 29) 1
abbrev s_is_ring_layout : Stmt := top 33
abbrev s_is_unbroken_round : Stmt := top 34
abbrev s_cut_table : Stmt := top 35
abbrev s_law_cell : Stmt := top 37
abbrev s_law_pool : Stmt := top 38
abbrev s_law_size : Stmt := top 39
abbrev s_law_names : Stmt := top 40
abbrev s_law_order : Stmt := top 41
abbrev s_law_row : Stmt := top 42
abbrev s_law_rows : Stmt := top 43
abbrev s_law_all_orders : Stmt := top 44
abbrev s_law_sorted : Stmt := top 45
abbrev s_law_is_order : Stmt := top 46
abbrev s_law_arc : Stmt := top 47
abbrev s_law_on_ring : Stmt := top 48
abbrev s_law_is_ring_layout : Stmt := top 49
abbrev s_law_round_from : Stmt := top 50
abbrev s_law_turned_row : Stmt := top 51
abbrev s_law_cut_rows : Stmt := top 52
abbrev s_law_ring_orders : Stmt := top 53
abbrev s_law_told_cut : Stmt := top 54
abbrev s_law_cut_right : Stmt := top 55
abbrev s_law_ring_right : Stmt := top 56
abbrev s_law_other_lists : Stmt := top 57
abbrev s_law : Stmt := top 58
theorem ss_UnknownColumn_init : SupScope ["self", "name"] ["self", "name"] (defScope s_UnknownColumn_init) := ⟨rfl, rfl, rfl, by decide +kernel, rfl, by decide +kernel, by decide +kernel, by decide +kernel, rfl, rfl⟩
theorem sc_is_name : FnScope ["text", "sign"] ["text"] (defScope s_is_name) := ⟨rfl, rfl, rfl, by decide +kernel, rfl, by decide +kernel, by decide +kernel⟩
theorem sc_first_bad_name : FnScope ["names", "index", "name"] ["names"] (defScope s_first_bad_name) := ⟨rfl, rfl, rfl, by decide +kernel, rfl, by decide +kernel, by decide +kernel⟩
theorem sc_first_stray : FnScope ["columns", "names", "index", "name"] ["columns", "names"] (defScope s_first_stray) := ⟨rfl, rfl, rfl, by decide +kernel, rfl, by decide +kernel, by decide +kernel⟩
theorem sc_order_fault : FnScope ["columns", "order", "index"] ["columns", "order"] (defScope s_order_fault) := ⟨rfl, rfl, rfl, by decide +kernel, rfl, by decide +kernel, by decide +kernel⟩
theorem sc_count_runs : FnScope ["flags", "at", "flag"] ["flags"] (defScope s_count_runs) := ⟨rfl, rfl, rfl, by decide +kernel, rfl, by decide +kernel, by decide +kernel⟩
theorem sc_runs_of : FnScope ["row", "order", "name"] ["row", "order"] (defScope s_runs_of) := ⟨rfl, rfl, rfl, by decide +kernel, rfl, by decide +kernel, by decide +kernel⟩
theorem sc_check_order : FnScope ["table", "order", "index"] ["table", "order"] (defScope s_check_order) := ⟨rfl, rfl, rfl, by decide +kernel, rfl, by decide +kernel, by decide +kernel⟩
theorem sc_broken : FnScope ["table", "order", "number", "row"] ["table", "order"] (defScope s_broken) := ⟨rfl, rfl, rfl, by decide +kernel, rfl, by decide +kernel, by decide +kernel⟩
theorem sc_is_layout : FnScope ["table", "order"] ["table", "order"] (defScope s_is_layout) := ⟨rfl, rfl, rfl, by decide +kernel, rfl, by decide +kernel, by decide +kernel⟩
theorem sc_check_columns : FnScope ["columns", "index"] ["columns"] (defScope s_check_columns) := ⟨rfl, rfl, rfl, by decide +kernel, rfl, by decide +kernel, by decide +kernel⟩
theorem sc_check_known : FnScope ["columns", "names", "name"] ["columns", "names"] (defScope s_check_known) := ⟨rfl, rfl, rfl, by decide +kernel, rfl, by decide +kernel, by decide +kernel⟩
theorem sc_check_rows : FnScope ["columns", "rows", "index", "row"] ["columns", "rows"] (defScope s_check_rows) := ⟨rfl, rfl, rfl, by decide +kernel, rfl, by decide +kernel, by decide +kernel⟩
theorem sc_Table_in_order : FnScope ["self", "names", "name"] ["self", "names"] (defScope s_Table_in_order) := ⟨rfl, rfl, rfl, by decide +kernel, rfl, by decide +kernel, by decide +kernel⟩
theorem sc_Table_inside_out : FnScope ["self", "row", "name"] ["self", "row"] (defScope s_Table_inside_out) := ⟨rfl, rfl, rfl, by decide +kernel, rfl, by decide +kernel, by decide +kernel⟩
theorem sc_Table_init : FnScope ["self", "columns", "rows", "row"] ["self", "columns", "rows"] (defScope s_Table_init) := ⟨rfl, rfl, rfl, by decide +kernel, rfl, by decide +kernel, by decide +kernel⟩
theorem sc_Table_only : FnScope ["self", "names", "row", "name"] ["self", "names"] (defScope s_Table_only) := ⟨rfl, rfl, rfl, by decide +kernel, rfl, by decide +kernel, by decide +kernel⟩
theorem sc_Table_turned : FnScope ["self", "name", "row"] ["self", "name"] (defScope s_Table_turned) := ⟨rfl, rfl, rfl, by decide +kernel, rfl, by decide +kernel, by decide +kernel⟩
theorem sc_Round_init : FnScope ["self", "names", "index"] ["self", "names"] (defScope s_Round_init) := ⟨rfl, rfl, rfl, by decide +kernel, rfl, by decide +kernel, by decide +kernel⟩
theorem sc_Round_cut : FnScope ["self", "name", "at"] ["self", "name"] (defScope s_Round_cut) := ⟨rfl, rfl, rfl, by decide +kernel, rfl, by decide +kernel, by decide +kernel⟩
theorem sc_is_ring_layout : FnScope ["table", "order", "row"] ["table", "order"] (defScope s_is_ring_layout) := ⟨rfl, rfl, rfl, by decide +kernel, rfl, by decide +kernel, by decide +kernel⟩
theorem sc_is_unbroken_round : FnScope ["row", "order", "gap", "name"] ["row", "order"] (defScope s_is_unbroken_round) := ⟨rfl, rfl, rfl, by decide +kernel, rfl, by decide +kernel, by decide +kernel⟩
theorem sc_cut_table : FnScope ["table", "name", "turned", "column"] ["table", "name"] (defScope s_cut_table) := ⟨rfl, rfl, rfl, by decide +kernel, rfl, by decide +kernel, by decide +kernel⟩
theorem sc_law_cell : FnScope ["script", "k"] ["script", "k"] (defScope s_law_cell) := ⟨rfl, rfl, rfl, by decide +kernel, rfl, by decide +kernel, by decide +kernel⟩
theorem sc_law_pool : FnScope ["script", "k", "count", "value", "pool", "i", "first", "second", "third"] ["script", "k", "count"] (defScope s_law_pool) := ⟨rfl, rfl, rfl, by decide +kernel, rfl, by decide +kernel, by decide +kernel⟩
theorem sc_law_size : FnScope ["draw", "most", "sizes"] ["draw", "most"] (defScope s_law_size) := ⟨rfl, rfl, rfl, by decide +kernel, rfl, by decide +kernel, by decide +kernel⟩
theorem sc_law_names : FnScope ["count", "seed", "words", "cut", "names", "k", "core", "left", "right"] ["count", "seed"] (defScope s_law_names) := ⟨rfl, rfl, rfl, by decide +kernel, rfl, by decide +kernel, by decide +kernel⟩
theorem sc_law_order : FnScope ["names", "pool", "start", "left", "order", "k", "pick"] ["names", "pool", "start"] (defScope s_law_order) := ⟨rfl, rfl, rfl, by decide +kernel, rfl, by decide +kernel, by decide +kernel⟩
theorem sc_law_row : FnScope ["names", "hidden", "draw", "free", "row", "name", "size", "first", "width", "cut"] ["names", "hidden", "draw", "free"] (defScope s_law_row) := ⟨rfl, rfl, rfl, by decide +kernel, rfl, by decide +kernel, by decide +kernel⟩
theorem sc_law_rows : FnScope ["names", "hidden", "pool", "start", "count", "mode", "rows", "k", "free"] ["names", "hidden", "pool", "start", "count", "mode"] (defScope s_law_rows) := ⟨rfl, rfl, rfl, by decide +kernel, rfl, by decide +kernel, by decide +kernel⟩
theorem sc_law_all_orders : FnScope ["names", "orders", "k", "longer", "order", "name"] ["names"] (defScope s_law_all_orders) := ⟨rfl, rfl, rfl, by decide +kernel, rfl, by decide +kernel, by decide +kernel⟩
theorem sc_law_sorted : FnScope ["names", "row", "name"] ["names", "row"] (defScope s_law_sorted) := ⟨rfl, rfl, rfl, by decide +kernel, rfl, by decide +kernel, by decide +kernel⟩
theorem sc_law_is_order : FnScope ["order", "names", "name"] ["order", "names"] (defScope s_law_is_order) := ⟨rfl, rfl, rfl, by decide +kernel, rfl, by decide +kernel, by decide +kernel⟩
theorem sc_law_arc : FnScope ["order", "draw", "many", "first", "width", "turned"] ["order", "draw"] (defScope s_law_arc) := ⟨rfl, rfl, rfl, by decide +kernel, rfl, by decide +kernel, by decide +kernel⟩
theorem sc_law_on_ring : FnScope ["order", "row", "many", "inside", "starts", "k"] ["order", "row"] (defScope s_law_on_ring) := ⟨rfl, rfl, rfl, by decide +kernel, rfl, by decide +kernel, by decide +kernel⟩
theorem sc_law_is_ring_layout : FnScope ["order", "names", "rows", "row"] ["order", "names", "rows"] (defScope s_law_is_ring_layout) := ⟨rfl, rfl, rfl, by decide +kernel, rfl, by decide +kernel, by decide +kernel⟩
theorem sc_law_round_from : FnScope ["order", "name", "at"] ["order", "name"] (defScope s_law_round_from) := ⟨rfl, rfl, rfl, by decide +kernel, rfl, by decide +kernel, by decide +kernel⟩
theorem sc_law_turned_row : FnScope ["names", "row", "name", "other"] ["names", "row", "name"] (defScope s_law_turned_row) := ⟨rfl, rfl, rfl, by decide +kernel, rfl, by decide +kernel, by decide +kernel⟩
theorem sc_law_cut_rows : FnScope ["names", "rows", "name", "made", "row", "other"] ["names", "rows", "name"] (defScope s_law_cut_rows) := ⟨rfl, rfl, rfl, by decide +kernel, rfl, by decide +kernel, by decide +kernel⟩
theorem sc_law_ring_orders : FnScope ["names", "hidden", "pool", "at", "changed", "back", "found", "order", "k"] ["names", "hidden", "pool"] (defScope s_law_ring_orders) := ⟨rfl, rfl, rfl, by decide +kernel, rfl, by decide +kernel, by decide +kernel⟩
theorem sc_law_told_cut : FnScope ["table", "name", "told", "e"] ["table", "name"] (defScope s_law_told_cut) := ⟨rfl, rfl, rfl, by decide +kernel, rfl, by decide +kernel, by decide +kernel⟩
theorem sc_law_cut_right : FnScope ["table", "names", "rows", "orders", "name", "told", "cut", "order", "line", "answer", "other", "row"] ["table", "names", "rows", "orders", "name"] (defScope s_law_cut_right) := ⟨rfl, rfl, rfl, by decide +kernel, rfl, by decide +kernel, by decide +kernel⟩
theorem sc_law_ring_right : FnScope ["table", "names", "rows", "order", "given", "answer"] ["table", "names", "rows", "order"] (defScope s_law_ring_right) := ⟨rfl, rfl, rfl, by decide +kernel, rfl, by decide +kernel, by decide +kernel⟩
theorem sc_law_other_lists : FnScope ["names", "order", "pool", "at", "lists"] ["names", "order", "pool"] (defScope s_law_other_lists) := ⟨rfl, rfl, rfl, by decide +kernel, rfl, by decide +kernel, by decide +kernel⟩
theorem sc_law : FnScope ["script", "p0", "p1", "size", "names", "hidden", "mode", "rows", "cell", "handed", "table", "orders", "lists", "order", "name", "k", "row"] ["script"] (defScope s_law) := ⟨rfl, rfl, rfl, by decide +kernel, rfl, by decide +kernel, by decide +kernel⟩
/-- where the defs and classes stand -/
structure Ad where
  C_Table : Addr
  C_Round : Addr
  C_RowsError : Addr
  C_Unknown : Addr
  C_Impossible : Addr
  C_UnknownColumn : Addr
  a_UnknownColumn_init : Addr
  d_UnknownColumn_init : FuncData
  a_is_name : Addr
  d_is_name : FuncData
  a_first_bad_name : Addr
  d_first_bad_name : FuncData
  a_first_stray : Addr
  d_first_stray : FuncData
  a_order_fault : Addr
  d_order_fault : FuncData
  a_count_runs : Addr
  d_count_runs : FuncData
  a_runs_of : Addr
  d_runs_of : FuncData
  a_check_order : Addr
  d_check_order : FuncData
  a_broken : Addr
  d_broken : FuncData
  a_is_layout : Addr
  d_is_layout : FuncData
  a_check_columns : Addr
  d_check_columns : FuncData
  a_check_known : Addr
  d_check_known : FuncData
  a_check_rows : Addr
  d_check_rows : FuncData
  a_Table_in_order : Addr
  d_Table_in_order : FuncData
  a_Table_inside_out : Addr
  d_Table_inside_out : FuncData
  a_Table_init : Addr
  d_Table_init : FuncData
  a_Table_only : Addr
  d_Table_only : FuncData
  a_Table_turned : Addr
  d_Table_turned : FuncData
  a_Round_init : Addr
  d_Round_init : FuncData
  a_Round_cut : Addr
  d_Round_cut : FuncData
  a_is_ring_layout : Addr
  d_is_ring_layout : FuncData
  a_is_unbroken_round : Addr
  d_is_unbroken_round : FuncData
  a_cut_table : Addr
  d_cut_table : FuncData
  a_law_cell : Addr
  d_law_cell : FuncData
  a_law_pool : Addr
  d_law_pool : FuncData
  a_law_size : Addr
  d_law_size : FuncData
  a_law_names : Addr
  d_law_names : FuncData
  a_law_order : Addr
  d_law_order : FuncData
  a_law_row : Addr
  d_law_row : FuncData
  a_law_rows : Addr
  d_law_rows : FuncData
  a_law_all_orders : Addr
  d_law_all_orders : FuncData
  a_law_sorted : Addr
  d_law_sorted : FuncData
  a_law_is_order : Addr
  d_law_is_order : FuncData
  a_law_arc : Addr
  d_law_arc : FuncData
  a_law_on_ring : Addr
  d_law_on_ring : FuncData
  a_law_is_ring_layout : Addr
  d_law_is_ring_layout : FuncData
  a_law_round_from : Addr
  d_law_round_from : FuncData
  a_law_turned_row : Addr
  d_law_turned_row : FuncData
  a_law_cut_rows : Addr
  d_law_cut_rows : FuncData
  a_law_ring_orders : Addr
  d_law_ring_orders : FuncData
  a_law_told_cut : Addr
  d_law_told_cut : FuncData
  a_law_cut_right : Addr
  d_law_cut_right : FuncData
  a_law_ring_right : Addr
  d_law_ring_right : FuncData
  a_law_other_lists : Addr
  d_law_other_lists : FuncData
  a_law : Addr
  d_law : FuncData
  e_Table_init : Addr
/-- what the top has written -/
structure Txt (P : Program) (K : PySem.W.Frag) (mg : Str → Option Value) (A : Ad) : Prop where
  mg_Table : mg "Table" = some (.ref A.C_Table)
  cl_Table : Cls K A.C_Table
  sf_Table : PySem.W.selfFirst K A.C_Table = true
  mk_Table : Mk K A.C_Table A.a_Table_init
  c1_Table : PySem.W.findIn K (.ref A.C_Table) "__class__" = some (some (.builtin "object.__class__"))
  c3_Table : PySem.W.mroIn K A.C_Table (.type "object") = some true
  n_Table_columns : NoAttr K A.C_Table "columns"
  n_Table_rows : NoAttr K A.C_Table "rows"
  mg_Round : mg "Round" = some (.ref A.C_Round)
  cl_Round : Cls K A.C_Round
  sf_Round : PySem.W.selfFirst K A.C_Round = true
  mk_Round : Mk K A.C_Round A.a_Round_init
  c1_Round : PySem.W.findIn K (.ref A.C_Round) "__class__" = some (some (.builtin "object.__class__"))
  c3_Round : PySem.W.mroIn K A.C_Round (.type "object") = some true
  n_Round_names : NoAttr K A.C_Round "names"
  c2 : PySem.W.specialIn K (.builtin "object.__class__") "__get__" = some (some (.builtin "getset_descriptor.__get__"))
  c4 : PySem.W.takesIn K (.builtin "object.__class__") = some true
  mg_RowsError : mg "RowsError" = some (.ref A.C_RowsError)
  tp_RowsError : PySem.W.typeIn K (.ref A.C_RowsError) = some (.type "type")
  ic_RowsError : PySem.W.isClsIn K A.C_RowsError = true
  mg_Unknown : mg "Unknown" = some (.ref A.C_Unknown)
  tp_Unknown : PySem.W.typeIn K (.ref A.C_Unknown) = some (.type "type")
  ic_Unknown : PySem.W.isClsIn K A.C_Unknown = true
  mg_Impossible : mg "Impossible" = some (.ref A.C_Impossible)
  tp_Impossible : PySem.W.typeIn K (.ref A.C_Impossible) = some (.type "type")
  ic_Impossible : PySem.W.isClsIn K A.C_Impossible = true
  mg_UnknownColumn : mg "UnknownColumn" = some (.ref A.C_UnknownColumn)
  tp_UnknownColumn : PySem.W.typeIn K (.ref A.C_UnknownColumn) = some (.type "type")
  ic_UnknownColumn : PySem.W.isClsIn K A.C_UnknownColumn = true
  SC_UnknownColumn : SupCls P K mg A.C_UnknownColumn
  SF_UnknownColumn : SupFn P K s_UnknownColumn_init "UnknownColumn.__init__" A.C_UnknownColumn A.a_UnknownColumn_init A.d_UnknownColumn_init
  ii_UnknownColumn : PySem.W.findIn K (.ref A.C_UnknownColumn) "__init__" = some (some (.ref A.a_UnknownColumn_init))
  ti_UnknownColumn : PySem.W.typeIn K (.ref A.a_UnknownColumn_init) = some (.type "function")
  b_UnknownColumn_init : Binds K A.d_UnknownColumn_init ["self", "name"] []
  xn_UnknownColumn_name : PySem.W.findIn K (.ref A.C_UnknownColumn) "name" = some none
  xf_UnknownColumn : XfC K A.C_UnknownColumn
  ec_UnknownColumn : ExcC K A.C_UnknownColumn
  k_UnknownColumn : PySem.W.keepIn K (.ref A.C_UnknownColumn) = true
  bp_UnknownColumn : PySem.W.subIn K (.ref A.C_UnknownColumn) (.type "BaseException") = some true
  sv_UnknownColumn : PySem.W.subIn K (.ref A.C_UnknownColumn) (.type "ValueError") = some true
  ss_UnknownColumn : PySem.W.subIn K (.ref A.C_UnknownColumn) (.ref A.C_UnknownColumn) = some true
  su_UnknownColumn_RowsError : PySem.W.subIn K (.ref A.C_UnknownColumn) (.ref A.C_RowsError) = some true
  su_UnknownColumn_Unknown : PySem.W.subIn K (.ref A.C_UnknownColumn) (.ref A.C_Unknown) = some true
  su_UnknownColumn_Impossible : PySem.W.subIn K (.ref A.C_UnknownColumn) (.ref A.C_Impossible) = some false
  e1_UnknownColumn : PySem.W.findIn K (.ref A.C_UnknownColumn) "__getattribute__" = some (some (.builtin "BaseException.__getattribute__"))
  e2_UnknownColumn : PySem.W.findIn K (.ref A.C_UnknownColumn) "__getattr__" = some none
  e3_UnknownColumn : PySem.W.hasDictIn K A.C_UnknownColumn = true
  e4_UnknownColumn : PySem.W.findIn K (.ref A.C_UnknownColumn) "__class__" = some (some (.builtin "object.__class__"))
  e5_UnknownColumn : PySem.W.mroIn K A.C_UnknownColumn (.type "object") = some true
  mg_LONGEST_NAME : ∃ t : Tok, mg "LONGEST_NAME" = some (.int 8 t)
  cr_Table : ClX.CRead K A.C_Table (.type "type")
  cv_Table_MOST_COLUMNS : ∃ u, ClX.CVal K A.C_Table (.type "type") "MOST_COLUMNS" (.int 12) u
  cv_Table_MOST_ROWS : ∃ u, ClX.CVal K A.C_Table (.type "type") "MOST_ROWS" (.int 48) u
  n_abs : mg "abs" = none
  n_int : mg "int" = none
  n_isinstance : mg "isinstance" = none
  n_range : mg "range" = none
  n_len : mg "len" = none
  n_str : mg "str" = none
  n_tuple : mg "tuple" = none
  n_list : mg "list" = none
  n_ValueError : mg "ValueError" = none
  n_all : mg "all" = none
  n_min : mg "min" = none
  n_enumerate : mg "enumerate" = none
  n_bool : mg "bool" = none
  F_is_name : Fun K "is_name" "is_name" s_is_name A.a_is_name A.d_is_name
  b_is_name : Binds K A.d_is_name ["text"] []
  mg_is_name : mg "is_name" = some (.ref A.a_is_name)
  F_first_bad_name : Fun K "first_bad_name" "first_bad_name" s_first_bad_name A.a_first_bad_name A.d_first_bad_name
  b_first_bad_name : Binds K A.d_first_bad_name ["names"] []
  mg_first_bad_name : mg "first_bad_name" = some (.ref A.a_first_bad_name)
  F_first_stray : Fun K "first_stray" "first_stray" s_first_stray A.a_first_stray A.d_first_stray
  b_first_stray : Binds K A.d_first_stray ["columns", "names"] []
  mg_first_stray : mg "first_stray" = some (.ref A.a_first_stray)
  F_order_fault : Fun K "order_fault" "order_fault" s_order_fault A.a_order_fault A.d_order_fault
  b_order_fault : Binds K A.d_order_fault ["columns", "order"] []
  mg_order_fault : mg "order_fault" = some (.ref A.a_order_fault)
  F_count_runs : Fun K "count_runs" "count_runs" s_count_runs A.a_count_runs A.d_count_runs
  b_count_runs : Binds K A.d_count_runs ["flags"] []
  mg_count_runs : mg "count_runs" = some (.ref A.a_count_runs)
  F_runs_of : Fun K "runs_of" "runs_of" s_runs_of A.a_runs_of A.d_runs_of
  b_runs_of : Binds K A.d_runs_of ["row", "order"] []
  mg_runs_of : mg "runs_of" = some (.ref A.a_runs_of)
  F_check_order : Fun K "check_order" "check_order" s_check_order A.a_check_order A.d_check_order
  b_check_order : Binds K A.d_check_order ["table", "order"] []
  mg_check_order : mg "check_order" = some (.ref A.a_check_order)
  F_broken : Fun K "broken" "broken" s_broken A.a_broken A.d_broken
  b_broken : Binds K A.d_broken ["table", "order"] []
  mg_broken : mg "broken" = some (.ref A.a_broken)
  F_is_layout : Fun K "is_layout" "is_layout" s_is_layout A.a_is_layout A.d_is_layout
  b_is_layout : Binds K A.d_is_layout ["table", "order"] []
  mg_is_layout : mg "is_layout" = some (.ref A.a_is_layout)
  F_check_columns : Fun K "check_columns" "check_columns" s_check_columns A.a_check_columns A.d_check_columns
  b_check_columns : Binds K A.d_check_columns ["columns"] []
  mg_check_columns : mg "check_columns" = some (.ref A.a_check_columns)
  F_check_known : Fun K "check_known" "check_known" s_check_known A.a_check_known A.d_check_known
  b_check_known : Binds K A.d_check_known ["columns", "names"] []
  mg_check_known : mg "check_known" = some (.ref A.a_check_known)
  F_check_rows : Fun K "_check_rows" "_check_rows" s_check_rows A.a_check_rows A.d_check_rows
  b_check_rows : Binds K A.d_check_rows ["columns", "rows"] []
  mg_check_rows : mg "_check_rows" = some (.ref A.a_check_rows)
  F_Table_in_order : Fun K "_in_order" "Table._in_order" s_Table_in_order A.a_Table_in_order A.d_Table_in_order
  b_Table_in_order : Binds K A.d_Table_in_order ["self", "names"] []
  m_Table_in_order : Meth K A.C_Table "_in_order" A.a_Table_in_order
  F_Table_inside_out : Fun K "_inside_out" "Table._inside_out" s_Table_inside_out A.a_Table_inside_out A.d_Table_inside_out
  b_Table_inside_out : Binds K A.d_Table_inside_out ["self", "row"] []
  m_Table_inside_out : Meth K A.C_Table "_inside_out" A.a_Table_inside_out
  F_Table_init : FunD K "__init__" "Table.__init__" (defArgs s_Table_init) (defBody s_Table_init) (defScope s_Table_init) [.ref A.e_Table_init] [] A.a_Table_init A.d_Table_init
  m_Table_init : Meth K A.C_Table "__init__" A.a_Table_init
  F_Table_only : Fun K "only" "Table.only" s_Table_only A.a_Table_only A.d_Table_only
  b_Table_only : Binds K A.d_Table_only ["self", "names"] []
  m_Table_only : Meth K A.C_Table "only" A.a_Table_only
  F_Table_turned : Fun K "turned" "Table.turned" s_Table_turned A.a_Table_turned A.d_Table_turned
  b_Table_turned : Binds K A.d_Table_turned ["self", "name"] []
  m_Table_turned : Meth K A.C_Table "turned" A.a_Table_turned
  F_Round_init : Fun K "__init__" "Round.__init__" s_Round_init A.a_Round_init A.d_Round_init
  b_Round_init : Binds K A.d_Round_init ["self", "names"] []
  m_Round_init : Meth K A.C_Round "__init__" A.a_Round_init
  F_Round_cut : Fun K "cut" "Round.cut" s_Round_cut A.a_Round_cut A.d_Round_cut
  b_Round_cut : Binds K A.d_Round_cut ["self", "name"] []
  m_Round_cut : Meth K A.C_Round "cut" A.a_Round_cut
  F_is_ring_layout : Fun K "is_ring_layout" "is_ring_layout" s_is_ring_layout A.a_is_ring_layout A.d_is_ring_layout
  b_is_ring_layout : Binds K A.d_is_ring_layout ["table", "order"] []
  mg_is_ring_layout : mg "is_ring_layout" = some (.ref A.a_is_ring_layout)
  F_is_unbroken_round : Fun K "_is_unbroken_round" "_is_unbroken_round" s_is_unbroken_round A.a_is_unbroken_round A.d_is_unbroken_round
  b_is_unbroken_round : Binds K A.d_is_unbroken_round ["row", "order"] []
  mg_is_unbroken_round : mg "_is_unbroken_round" = some (.ref A.a_is_unbroken_round)
  F_cut_table : Fun K "cut_table" "cut_table" s_cut_table A.a_cut_table A.d_cut_table
  b_cut_table : Binds K A.d_cut_table ["table", "name"] []
  mg_cut_table : mg "cut_table" = some (.ref A.a_cut_table)
  F_law_cell : Fun K "_law_cell" "_law_cell" s_law_cell A.a_law_cell A.d_law_cell
  b_law_cell : Binds K A.d_law_cell ["script", "k"] []
  mg_law_cell : mg "_law_cell" = some (.ref A.a_law_cell)
  F_law_pool : Fun K "_law_pool" "_law_pool" s_law_pool A.a_law_pool A.d_law_pool
  b_law_pool : Binds K A.d_law_pool ["script", "k", "count"] []
  mg_law_pool : mg "_law_pool" = some (.ref A.a_law_pool)
  F_law_size : Fun K "_law_size" "_law_size" s_law_size A.a_law_size A.d_law_size
  b_law_size : Binds K A.d_law_size ["draw", "most"] []
  mg_law_size : mg "_law_size" = some (.ref A.a_law_size)
  F_law_names : Fun K "_law_names" "_law_names" s_law_names A.a_law_names A.d_law_names
  b_law_names : Binds K A.d_law_names ["count", "seed"] []
  mg_law_names : mg "_law_names" = some (.ref A.a_law_names)
  F_law_order : Fun K "_law_order" "_law_order" s_law_order A.a_law_order A.d_law_order
  b_law_order : Binds K A.d_law_order ["names", "pool", "start"] []
  mg_law_order : mg "_law_order" = some (.ref A.a_law_order)
  F_law_row : Fun K "_law_row" "_law_row" s_law_row A.a_law_row A.d_law_row
  b_law_row : Binds K A.d_law_row ["names", "hidden", "draw", "free"] []
  mg_law_row : mg "_law_row" = some (.ref A.a_law_row)
  F_law_rows : Fun K "_law_rows" "_law_rows" s_law_rows A.a_law_rows A.d_law_rows
  b_law_rows : Binds K A.d_law_rows ["names", "hidden", "pool", "start", "count", "mode"] []
  mg_law_rows : mg "_law_rows" = some (.ref A.a_law_rows)
  F_law_all_orders : Fun K "_law_all_orders" "_law_all_orders" s_law_all_orders A.a_law_all_orders A.d_law_all_orders
  b_law_all_orders : Binds K A.d_law_all_orders ["names"] []
  mg_law_all_orders : mg "_law_all_orders" = some (.ref A.a_law_all_orders)
  F_law_sorted : Fun K "_law_sorted" "_law_sorted" s_law_sorted A.a_law_sorted A.d_law_sorted
  b_law_sorted : Binds K A.d_law_sorted ["names", "row"] []
  mg_law_sorted : mg "_law_sorted" = some (.ref A.a_law_sorted)
  F_law_is_order : Fun K "_law_is_order" "_law_is_order" s_law_is_order A.a_law_is_order A.d_law_is_order
  b_law_is_order : Binds K A.d_law_is_order ["order", "names"] []
  mg_law_is_order : mg "_law_is_order" = some (.ref A.a_law_is_order)
  F_law_arc : Fun K "_law_arc" "_law_arc" s_law_arc A.a_law_arc A.d_law_arc
  b_law_arc : Binds K A.d_law_arc ["order", "draw"] []
  mg_law_arc : mg "_law_arc" = some (.ref A.a_law_arc)
  F_law_on_ring : Fun K "_law_on_ring" "_law_on_ring" s_law_on_ring A.a_law_on_ring A.d_law_on_ring
  b_law_on_ring : Binds K A.d_law_on_ring ["order", "row"] []
  mg_law_on_ring : mg "_law_on_ring" = some (.ref A.a_law_on_ring)
  F_law_is_ring_layout : Fun K "_law_is_ring_layout" "_law_is_ring_layout" s_law_is_ring_layout A.a_law_is_ring_layout A.d_law_is_ring_layout
  b_law_is_ring_layout : Binds K A.d_law_is_ring_layout ["order", "names", "rows"] []
  mg_law_is_ring_layout : mg "_law_is_ring_layout" = some (.ref A.a_law_is_ring_layout)
  F_law_round_from : Fun K "_law_round_from" "_law_round_from" s_law_round_from A.a_law_round_from A.d_law_round_from
  b_law_round_from : Binds K A.d_law_round_from ["order", "name"] []
  mg_law_round_from : mg "_law_round_from" = some (.ref A.a_law_round_from)
  F_law_turned_row : Fun K "_law_turned_row" "_law_turned_row" s_law_turned_row A.a_law_turned_row A.d_law_turned_row
  b_law_turned_row : Binds K A.d_law_turned_row ["names", "row", "name"] []
  mg_law_turned_row : mg "_law_turned_row" = some (.ref A.a_law_turned_row)
  F_law_cut_rows : Fun K "_law_cut_rows" "_law_cut_rows" s_law_cut_rows A.a_law_cut_rows A.d_law_cut_rows
  b_law_cut_rows : Binds K A.d_law_cut_rows ["names", "rows", "name"] []
  mg_law_cut_rows : mg "_law_cut_rows" = some (.ref A.a_law_cut_rows)
  F_law_ring_orders : Fun K "_law_ring_orders" "_law_ring_orders" s_law_ring_orders A.a_law_ring_orders A.d_law_ring_orders
  b_law_ring_orders : Binds K A.d_law_ring_orders ["names", "hidden", "pool"] []
  mg_law_ring_orders : mg "_law_ring_orders" = some (.ref A.a_law_ring_orders)
  F_law_told_cut : Fun K "_law_told_cut" "_law_told_cut" s_law_told_cut A.a_law_told_cut A.d_law_told_cut
  b_law_told_cut : Binds K A.d_law_told_cut ["table", "name"] []
  mg_law_told_cut : mg "_law_told_cut" = some (.ref A.a_law_told_cut)
  F_law_cut_right : Fun K "_law_cut_right" "_law_cut_right" s_law_cut_right A.a_law_cut_right A.d_law_cut_right
  b_law_cut_right : Binds K A.d_law_cut_right ["table", "names", "rows", "orders", "name"] []
  mg_law_cut_right : mg "_law_cut_right" = some (.ref A.a_law_cut_right)
  F_law_ring_right : Fun K "_law_ring_right" "_law_ring_right" s_law_ring_right A.a_law_ring_right A.d_law_ring_right
  b_law_ring_right : Binds K A.d_law_ring_right ["table", "names", "rows", "order"] []
  mg_law_ring_right : mg "_law_ring_right" = some (.ref A.a_law_ring_right)
  F_law_other_lists : Fun K "_law_other_lists" "_law_other_lists" s_law_other_lists A.a_law_other_lists A.d_law_other_lists
  b_law_other_lists : Binds K A.d_law_other_lists ["names", "order", "pool"] []
  mg_law_other_lists : mg "_law_other_lists" = some (.ref A.a_law_other_lists)
  F_law : Fun K "law" "law" s_law A.a_law A.d_law
  b_law : Binds K A.d_law ["script"] []
  mg_law : mg "law" = some (.ref A.a_law)
end My
set_option maxRecDepth 100000
set_option maxHeartbeats 4000000
set_option exponentiation.threshold 10000
namespace My
open PySem L2
theorem lu1 : Str.length ("there is no column " : Str) = 19 := by decide
def shortS (y : V) : Prop := ∃ z : Str, y = .str z ∧ z.length ≤ 1000
section
variable {P : Program} {w : World} {K : PySem.W.Frag} {mg : Str → Option Value} {base : Heap} {A : Ad}
theorem ok_UnknownColumn (T : Txt P K mg A) : FnOk P w K mg base CX0 1 A.a_UnknownColumn_init A.d_UnknownColumn_init ["self", "name"] (spX1 A.C_UnknownColumn "name" shortS) := by
  refine sup_ok T.SF_UnknownColumn ss_UnknownColumn_init T.SC_UnknownColumn rfl rfl rfl (fun _ => rfl) (fun _ => rfl) (fun _ => rfl) (fun vs H Q E h => ?_) (fun cda cc A' outer s H vs Q E hr h => ?_)
  · obtain ⟨a, y, rfl, _⟩ := h
    rfl
  · obtain ⟨a, y, rfl, ⟨z, rfl, hz⟩, ha, k⟩ := h
    refine ⟨a, _, _, rfl, ha, (pe_joined (PJ.cons pe_str (PJ.cons (pe_fmt (pv 1)) PJ.nil))), (pss_one (ps_ost (pv 0) (pv 1))), ?_⟩
    refine ⟨_, rfl, by rw [Str.empty_append, lu1]; decide, _, rfl, .inl ⟨z, rfl, Nat.le_trans hz (by decide), _, rfl, ?_, (by decide : 1 ≤ 1000), ha, _, rfl, _, rfl, a, _, rfl, T.SC_UnknownColumn.ox, T.xn_UnknownColumn_name, .inl ⟨ha, fun d hd hne => k d hd hne⟩⟩⟩
    rw [Str.empty_append, Str.length_append, lu1]
    exact Nat.le_trans (Nat.add_le_add_left hz 19) (by decide)
/-! ### names -/
def spName : Sp := fun vs H Q _ => ∃ z, vs = [.str z] ∧ z.length ≤ 16000000 ∧ ∀ H', Same H H' → Q (.bl (okName z)) H'
theorem ok_name (T : Txt P K mg A) : FnOk P w K mg base CX0 1 A.a_is_name A.d_is_name ["text"] spName := by
  refine T.F_is_name.ok sc_is_name (fun vs H Q E h => ?_) (fun cdv A' outer s H vs Q E hr h => ?_)
  · obtain ⟨z, rfl, _⟩ := h
    rfl
  · obtain ⟨z, rfl, g, k⟩ := h
    refine ⟨_, (pss_one (ps_ret (pe_and (pe_chain op_le op_le pe_int (pe_callB call_len_str (by rfl) T.n_len (by decide +kernel) (pa_cons (pv 0) pa_nil)) (pe_glob (v := .int 8) rfl T.mg_LONGEST_NAME.choose_spec ⟨_, rfl⟩)) (pe_one (pe_callB (cr_all rfl) (by rfl) T.n_all (by decide +kernel) (pa_cons (pe_lc (own := [("sign", 1)]) (g := gName 1) (tt := tYes) rfl sc_is_name.nd (pi_str (pv 0)) (blkOk_by (N := ["text", "sign"]) (sc := defScope s_is_name) (by decide +kernel)) (fun _ _ _ _ _ => (pg_name (i := 1) sc_is_name.nd rfl (Or.inl rfl))) (fun _ _ _ _ _ => pts_nil) (fun _ _ _ _ _ => (pe_chain op_le_str op_le_str pe_str (pv 1) pe_str))) pa_nil)))))), ?_⟩
    have hz : z.length ≤ sizeLine := Nat.le_trans g (by decide)
    refine ⟨_, rfl, z, rfl, hz, _, _, rfl, rfl, _, rfl, ?_⟩
    by_cases h1 : 1 ≤ z.length
    · refine itY (by omega) ⟨_, _, rfl, rfl, _, rfl, ?_⟩
      by_cases h8 : z.length ≤ 8
      · refine itY (by omega) ?_
        refine ⟨_, rfl, z, rfl, fun D hD => lc_it walk_str (PvS H D fun i => (z.cps.toList.take i).map fun c => V.bl (decide (97 ≤ c ∧ c ≤ 122))) (pv0 hD rfl) (fun _ _ _ _ => trivial) ?_ ?_⟩
        · rintro i x H30 H3 hi p ⟨rfl, c, hc, rfl⟩
          have hc' : z.cps.toList[i]? = some c := by rw [Array.getElem?_toList]; exact hc
          have push : ∀ b : Bool, b = decide (97 ≤ c ∧ c ≤ 122) → ∃ acc, H3 D = some (.lst acc) ∧ acc.length < sizeLine ∧ PvS H D (fun i => (z.cps.toList.take i).map fun c => V.bl (decide (97 ≤ c ∧ c ≤ 122))) (i + 1) (upd H3 D (.lst (acc ++ [V.bl b]))) := fun b hb => by
            refine p.push hD ?_ ?_
            · show (z.cps.toList.take (i + 1)).map _ = _
              rw [take_succ hc', List.map_append, hb]; rfl
            · show ((z.cps.toList.take i).map _).length ≤ 1000000
              rw [List.length_map, List.length_take]
              have h2 : z.cps.size = z.length := rfl
              rw [Array.length_toList]; omega
          refine ⟨rfl, ?_⟩
          refine ⟨_, rfl, _, _, rfl, rfl, _, rfl, ?_⟩
          by_cases ha : 97 ≤ c
          · refine ifT (by
              show (!decide ([c] < [97])) = true
              have : ¬ c < 97 := by omega
              simp [List.cons_lt_cons_iff] <;> omega) ⟨_, _, rfl, rfl, push _ ?_⟩
            show (!decide ([122] < [c])) = decide (97 ≤ c ∧ c ≤ 122)
            by_cases hb : c ≤ 122
            · rw [decide_eq_true (⟨ha, hb⟩ : 97 ≤ c ∧ c ≤ 122)]
              simp [List.cons_lt_cons_iff] <;> omega
            · rw [decide_eq_false (fun h : 97 ≤ c ∧ c ≤ 122 => hb h.2)]
              simp [List.cons_lt_cons_iff] <;> omega
          · refine ifF (by
              show (!decide ([c] < [97])) = false
              simp [List.cons_lt_cons_iff] <;> omega) (push _ ?_)
            rw [decide_eq_false (fun h : 97 ≤ c ∧ c ≤ 122 => ha h.1)]
            first | done | (show (!decide ([c] < [97])) = false; simp [List.cons_lt_cons_iff] <;> omega)
        · rintro H3 ⟨sm, h3⟩
          have h3 : H3 D = some (.lst ((z.cps.toList.take z.cps.size).map fun c => V.bl (decide (97 ≤ c ∧ c ≤ 122)))) := h3
          rw [List.take_of_length_le (by rw [Array.length_toList]; exact Nat.le_refl _)] at h3
          refine ⟨D, z.cps.toList.map fun c => decide (97 ≤ c ∧ c ≤ 122), rfl, SqL.of (by rw [List.map_map]; exact h3), ?_⟩
          have e : (z.cps.toList.map fun c => decide (97 ≤ c ∧ c ≤ 122)).all id = okName z := by
            unfold okName
            rw [decide_eq_true h1, decide_eq_true h8, List.all_map]; rfl
          rw [e]
          exact k H3 sm
      · refine itN (by omega) ?_
        have e : okName z = false := by unfold okName; rw [decide_eq_false h8]; simp
        rw [e] at k
        exact k H (Same.refl _)
    · refine itN (by omega) ?_
      have e : okName z = false := by unfold okName; rw [decide_eq_false h1]; rfl
      rw [e] at k
      exact ⟨_, rfl, iteF (k H (Same.refl _))⟩
def spFirstBad (sq : Hp → Addr → List V → Prop) : Sp := fun vs H Q _ => ∃ l ns, vs = [.ref l] ∧ sq H l (sv ns) ∧ (∀ z ∈ ns, z.length ≤ 16000000) ∧ ∀ H', Same H H' → Q (optV (firstBad ns)) H'
theorem ok_firstBad (T : Txt P K mg A) : FnOk P w K mg base CX0 2 A.a_first_bad_name A.d_first_bad_name ["names"] (spFirstBad (SqL K)) := by
  have G_is_name := ok_name (P := P) (w := w) (base := base) T
  refine T.F_first_bad_name.ok sc_first_bad_name (fun vs H Q E h => ?_) (fun cdv A' outer s H vs Q E hr h => ?_)
  · obtain ⟨l, ns, rfl, _⟩ := h
    rfl
  · obtain ⟨l, ns, rfl, hS, g, k⟩ := h
    refine ⟨_, (pss_cons (ps_for PassesOwn.never rfl (pi_enum (by rfl) T.n_enumerate (pa_cons (pv 0) pa_nil)) (pg_tup (by rfl) (pgs_cons (pg_name (i := 1) sc_first_bad_name.nd rfl (Or.inl rfl)) (pgs_cons (pg_name (i := 2) sc_first_bad_name.nd rfl (Or.inl rfl)) pgs_nil)))
        (pss_one (ps_if (PW.pt (pw_or (pt_not (pt_val (pe_call G_is_name (hr.mono (by decide)) rfl T.mg_is_name T.F_is_name.kp T.b_is_name .nil pass0 (pa_cons (pv 2) pa_nil)))) (pw_or1 (pt_cmpR op_in_seq (pv 2) (pe_slice sl_list (pv 0) po_none (po_some (pv 1))) (by with_unfolding_all rfl))))) (pss_one (ps_ret (pv 1))) pss_nil)))
      (pss_one (ps_ret pe_non))), ?_⟩
    refine ⟨_, rfl, l, _, rfl, hS, for_it walk_enum (fun i σ H2 => Same H H2 ∧ (∀ j, j < i → badName ns j = false) ∧ ∃ u1 u2 : Option V, σ = [some (.ref l), u1, u2]) ⟨Same.refl _, fun j hj => absurd hj (Nat.not_lt_zero _), none, none, rfl⟩ (fun i σ H2 _ p => p.1.seq hS) ?_ ?_⟩
    · rintro i x σ H2 H3 hi ⟨sm, hb, u1, u2, rfl⟩ ⟨t, _, _, rfl, ht, rfl, ⟨⟩, hx⟩
      obtain ⟨z, hz, rfl⟩ := sv_get hx
      have hil : i < ns.length := by rw [len_sv] at hi; exact hi
      have bad : badName ns i = (!okName z || decide (z ∈ ns.take i)) := by unfold badName; rw [hz]
      refine ⟨t, _, rfl, SqT.of upd_same, rfl, _, _, rfl, _, _, rfl, rfl, ?_⟩
      refine ⟨_, rfl, z, rfl, g z (List.mem_of_getElem? hz), fun H4 sm4 => ⟨_, rfl, ?_⟩⟩
      have s4 : Same H H4 := sm.trans ((same_new ht).trans sm4)
      cases ok : okName z with
      | false =>
        refine ifT rfl (ifT rfl ⟨_, rfl, ?_⟩)
        have e := firstBad_some hil (by rw [bad, ok]; rfl) hb
        rw [e] at k
        exact k _ s4
      | true =>
        refine ifF rfl ⟨_, rfl, _, rfl, _, rfl, _, rfl, l, _, rfl, s4.seq hS, fun p hp => ⟨p, _, rfl, .inl (SqL.of upd_same), rfl, by rw [cut_take (by omega), sv_take]; exact flat_sv _, _, rfl, ?_⟩⟩
        rw [if_neg Bool.false_ne_true, cut_take (by omega), sv_take, inV_str]
        have s5 := s4.trans (same_new (o := .lst (cutV (sv ns) none (some ((i : Nat) : Int)))) hp)
        rw [cut_take (by omega), sv_take] at s5
        by_cases hp2 : z ∈ ns.take i
        · refine ifT (decide_eq_true hp2) ⟨_, rfl, ?_⟩
          have e := firstBad_some hil (by rw [bad, decide_eq_true hp2, Bool.or_true]) hb
          rw [e] at k
          exact k _ s5
        · refine ifF (decide_eq_false hp2) ⟨s5, fun j hj => ?_, _, _, rfl⟩
          rcases Nat.lt_succ_iff_lt_or_eq.mp hj with q | q
          · exact hb j q
          · rw [q, bad, ok, decide_eq_false hp2]; rfl
    · rintro σ H2 ⟨sm, hb, u1, u2, rfl⟩
      have e := firstBad_none (ns := ns) fun j hj => hb j (by rw [len_sv]; exact hj)
      rw [e] at k
      exact k H2 sm
theorem ok_firstBadT (T : Txt P K mg A) : FnOk P w K mg base CX0 2 A.a_first_bad_name A.d_first_bad_name ["names"] (spFirstBad (SqT K)) := by
  have G_is_name := ok_name (P := P) (w := w) (base := base) T
  refine T.F_first_bad_name.ok sc_first_bad_name (fun vs H Q E h => ?_) (fun cdv A' outer s H vs Q E hr h => ?_)
  · obtain ⟨l, ns, rfl, _⟩ := h
    rfl
  · obtain ⟨l, ns, rfl, hS, g, k⟩ := h
    refine ⟨_, (pss_cons (ps_for PassesOwn.never rfl (pi_enumT (by rfl) T.n_enumerate (pa_cons (pv 0) pa_nil)) (pg_tup (by rfl) (pgs_cons (pg_name (i := 1) sc_first_bad_name.nd rfl (Or.inl rfl)) (pgs_cons (pg_name (i := 2) sc_first_bad_name.nd rfl (Or.inl rfl)) pgs_nil)))
        (pss_one (ps_if (PW.pt (pw_or (pt_not (pt_val (pe_call G_is_name (hr.mono (by decide)) rfl T.mg_is_name T.F_is_name.kp T.b_is_name .nil pass0 (pa_cons (pv 2) pa_nil)))) (pw_or1 (pt_cmpR op_in_seq (pv 2) (pe_slice sl_tupA (pv 0) po_none (po_some (pv 1))) (by with_unfolding_all rfl))))) (pss_one (ps_ret (pv 1))) pss_nil)))
      (pss_one (ps_ret pe_non))), ?_⟩
    refine ⟨_, rfl, l, _, rfl, hS, for_it walk_enumT (fun i σ H2 => Same H H2 ∧ (∀ j, j < i → badName ns j = false) ∧ ∃ u1 u2 : Option V, σ = [some (.ref l), u1, u2]) ⟨Same.refl _, fun j hj => absurd hj (Nat.not_lt_zero _), none, none, rfl⟩ (fun i σ H2 _ p => p.1.tup hS) ?_ ?_⟩
    · rintro i x σ H2 H3 hi ⟨sm, hb, u1, u2, rfl⟩ ⟨t, _, _, rfl, ht, rfl, ⟨⟩, hx⟩
      obtain ⟨z, hz, rfl⟩ := sv_get hx
      have hil : i < ns.length := by rw [len_sv] at hi; exact hi
      have bad : badName ns i = (!okName z || decide (z ∈ ns.take i)) := by unfold badName; rw [hz]
      refine ⟨t, _, rfl, SqT.of upd_same, rfl, _, _, rfl, _, _, rfl, rfl, ?_⟩
      refine ⟨_, rfl, z, rfl, g z (List.mem_of_getElem? hz), fun H4 sm4 => ⟨_, rfl, ?_⟩⟩
      have s4 : Same H H4 := sm.trans ((same_new ht).trans sm4)
      cases ok : okName z with
      | false =>
        refine ifT rfl (ifT rfl ⟨_, rfl, ?_⟩)
        have e := firstBad_some hil (by rw [bad, ok]; rfl) hb
        rw [e] at k
        exact k _ s4
      | true =>
        refine ifF rfl ⟨_, rfl, _, rfl, _, rfl, _, rfl, l, _, rfl, s4.tup hS, fun z => absurd z.2 (by rw [HT.sIx_nat, len_sv]; omega), fun _ p hp => ⟨p, _, rfl, .inr (SqT.of upd_same), rfl, by rw [cut_take (by omega), sv_take]; exact flat_sv _, _, rfl, ?_⟩⟩
        rw [if_neg Bool.false_ne_true, cut_take (by omega), sv_take, inV_str]
        have s5 := s4.trans (same_new (o := .tup (cutV (sv ns) none (some ((i : Nat) : Int)))) hp)
        rw [cut_take (by omega), sv_take] at s5
        by_cases hp2 : z ∈ ns.take i
        · refine ifT (decide_eq_true hp2) ⟨_, rfl, ?_⟩
          have e := firstBad_some hil (by rw [bad, decide_eq_true hp2, Bool.or_true]) hb
          rw [e] at k
          exact k _ s5
        · refine ifF (decide_eq_false hp2) ⟨s5, fun j hj => ?_, _, _, rfl⟩
          rcases Nat.lt_succ_iff_lt_or_eq.mp hj with q | q
          · exact hb j q
          · rw [q, bad, ok, decide_eq_false hp2]; rfl
    · rintro σ H2 ⟨sm, hb, u1, u2, rfl⟩
      have e := firstBad_none (ns := ns) fun j hj => hb j (by rw [len_sv]; exact hj)
      rw [e] at k
      exact k H2 sm
theorem ok_firstBadO (T : Txt P K mg A) : FnOk P w K mg base CX0 2 A.a_first_bad_name A.d_first_bad_name ["names"] (spFirstBad (SqA K)) :=
  (fnok_or (ok_firstBad T) (ok_firstBadT T)).imp fun vs H Q E ⟨l, ns, e, hs, r⟩ => hs.elim (fun h => .inl ⟨l, ns, e, h, r⟩) (fun h => .inr ⟨l, ns, e, h, r⟩)
def spStray (sq1 sq2 : Hp → Addr → List V → Prop) : Sp := fun vs H Q _ => ∃ c l cs ns, vs = [.ref c, .ref l] ∧ sq1 H c (sv cs) ∧ sq2 H l (sv ns) ∧ ns.length ≤ 1000 ∧ ∀ H', Same H H' → Q (optV (stray cs ns)) H'
theorem ok_stray (T : Txt P K mg A) : FnOk P w K mg base CX0 1 A.a_first_stray A.d_first_stray ["columns", "names"] (spStray (SqA K) (SqL K)) := by
  refine T.F_first_stray.ok sc_first_stray (fun vs H Q E h => ?_) (fun cdv A' outer s H vs Q E hr h => ?_)
  · obtain ⟨c, l, cs, ns, rfl, _⟩ := h
    rfl
  · obtain ⟨c, l, cs, ns, rfl, h1, h2, hl, k⟩ := h
    refine ⟨_, (pss_cons (ps_for PassesOwn.never rfl (pi_enum (by rfl) T.n_enumerate (pa_cons (pv 1) pa_nil)) (pg_tup (by rfl) (pgs_cons (pg_name (i := 2) sc_first_stray.nd rfl (Or.inl rfl)) (pgs_cons (pg_name (i := 3) sc_first_stray.nd rfl (Or.inl rfl)) pgs_nil)))
        (pss_one (ps_if (PW.pt (pw_or (pt_cmpR op_notIn_seq (pv 3) (pv 0) (by with_unfolding_all rfl)) (pw_or1 (pt_cmpR op_in_seq (pv 3) (pe_slice sl_list (pv 1) po_none (po_some (pv 2))) (by with_unfolding_all rfl))))) (pss_one (ps_ret (pv 2))) pss_nil)))
      (pss_one (ps_ret pe_non))), ?_⟩
    refine ⟨_, rfl, l, _, rfl, h2, for_it walk_enum (fun i σ H2 => Same H H2 ∧ (∀ j, j < i → badAt cs ns j = false) ∧ ∃ u1 u2 : Option V, σ = [some (.ref c), some (.ref l), u1, u2]) ⟨Same.refl _, fun j hj => absurd hj (Nat.not_lt_zero _), none, none, rfl⟩ (fun i σ H2 _ p => p.1.seq h2) ?_ ?_⟩
    · rintro i x σ H2 H3 hi ⟨sm, hb, u1, u2, rfl⟩ ⟨t, _, _, rfl, ht, rfl, ⟨⟩, hx⟩
      obtain ⟨z, hz, rfl⟩ := sv_get hx
      have hil : i < ns.length := by rw [len_sv] at hi; exact hi
      have bad : badAt cs ns i = (!decide (z ∈ cs) || decide (z ∈ ns.take i)) := by unfold badAt; rw [hz]
      refine ⟨t, _, rfl, SqT.of upd_same, rfl, _, _, rfl, _, _, rfl, rfl, ?_⟩
      have s3 : Same H (upd H2 t (.tup [.int (i : Nat), .str z])) := sm.trans (same_new ht)
      refine ⟨_, rfl, _, rfl, c, _, rfl, s3.sqa h1, rfl, flat_sv _, _, rfl, ?_⟩
      rw [if_pos (rfl : true = true), inV_str]
      by_cases hc : z ∈ cs
      · refine ifF (by rw [decide_eq_true hc]; rfl) ?_
        refine ⟨_, rfl, _, rfl, _, rfl, _, rfl, l, _, rfl, s3.seq h2, fun p hp => ⟨p, _, rfl, .inl (SqL.of upd_same), rfl, by rw [cut_take (by omega), sv_take]; exact flat_sv _, _, rfl, ?_⟩⟩
        rw [if_neg Bool.false_ne_true, cut_take (by omega), sv_take, inV_str]
        have s4 := s3.trans (same_new (o := .lst (cutV (sv ns) none (some ((i : Nat) : Int)))) hp)
        rw [cut_take (by omega), sv_take] at s4
        by_cases hp2 : z ∈ ns.take i
        · refine ifT (decide_eq_true hp2) ⟨_, rfl, ?_⟩
          have e := stray_some (cs := cs) hil (by rw [bad, decide_eq_true hp2, Bool.or_true]) hb
          rw [e] at k
          exact k _ s4
        · refine ifF (decide_eq_false hp2) ⟨s4, fun j hj => ?_, _, _, rfl⟩
          rcases Nat.lt_succ_iff_lt_or_eq.mp hj with q | q
          · exact hb j q
          · rw [q, bad, decide_eq_true hc, decide_eq_false hp2]; rfl
      · refine ifT (by rw [decide_eq_false hc]; rfl) (ifT rfl ⟨_, rfl, ?_⟩)
        have e := stray_some (cs := cs) hil (by rw [bad, decide_eq_false hc]; rfl) hb
        rw [e] at k
        exact k _ s3
    · rintro σ H2 ⟨sm, hb, u1, u2, rfl⟩
      have e := stray_none (cs := cs) (ns := ns) fun j hj => hb j (by rw [len_sv]; exact hj)
      rw [e] at k
      exact k H2 sm
theorem ok_strayT (T : Txt P K mg A) : FnOk P w K mg base CX0 1 A.a_first_stray A.d_first_stray ["columns", "names"] (spStray (SqA K) (SqT K)) := by
  refine T.F_first_stray.ok sc_first_stray (fun vs H Q E h => ?_) (fun cdv A' outer s H vs Q E hr h => ?_)
  · obtain ⟨c, l, cs, ns, rfl, _⟩ := h
    rfl
  · obtain ⟨c, l, cs, ns, rfl, h1, h2, hl, k⟩ := h
    refine ⟨_, (pss_cons (ps_for PassesOwn.never rfl (pi_enumT (by rfl) T.n_enumerate (pa_cons (pv 1) pa_nil)) (pg_tup (by rfl) (pgs_cons (pg_name (i := 2) sc_first_stray.nd rfl (Or.inl rfl)) (pgs_cons (pg_name (i := 3) sc_first_stray.nd rfl (Or.inl rfl)) pgs_nil)))
        (pss_one (ps_if (PW.pt (pw_or (pt_cmpR op_notIn_seq (pv 3) (pv 0) (by with_unfolding_all rfl)) (pw_or1 (pt_cmpR op_in_seq (pv 3) (pe_slice sl_tupA (pv 1) po_none (po_some (pv 2))) (by with_unfolding_all rfl))))) (pss_one (ps_ret (pv 2))) pss_nil)))
      (pss_one (ps_ret pe_non))), ?_⟩
    refine ⟨_, rfl, l, _, rfl, h2, for_it walk_enumT (fun i σ H2 => Same H H2 ∧ (∀ j, j < i → badAt cs ns j = false) ∧ ∃ u1 u2 : Option V, σ = [some (.ref c), some (.ref l), u1, u2]) ⟨Same.refl _, fun j hj => absurd hj (Nat.not_lt_zero _), none, none, rfl⟩ (fun i σ H2 _ p => p.1.tup h2) ?_ ?_⟩
    · rintro i x σ H2 H3 hi ⟨sm, hb, u1, u2, rfl⟩ ⟨t, _, _, rfl, ht, rfl, ⟨⟩, hx⟩
      obtain ⟨z, hz, rfl⟩ := sv_get hx
      have hil : i < ns.length := by rw [len_sv] at hi; exact hi
      have bad : badAt cs ns i = (!decide (z ∈ cs) || decide (z ∈ ns.take i)) := by unfold badAt; rw [hz]
      refine ⟨t, _, rfl, SqT.of upd_same, rfl, _, _, rfl, _, _, rfl, rfl, ?_⟩
      have s3 : Same H (upd H2 t (.tup [.int (i : Nat), .str z])) := sm.trans (same_new ht)
      refine ⟨_, rfl, _, rfl, c, _, rfl, s3.sqa h1, rfl, flat_sv _, _, rfl, ?_⟩
      rw [if_pos (rfl : true = true), inV_str]
      by_cases hc : z ∈ cs
      · refine ifF (by rw [decide_eq_true hc]; rfl) ?_
        refine ⟨_, rfl, _, rfl, _, rfl, _, rfl, l, _, rfl, s3.tup h2, fun z => absurd z.2 (by rw [HT.sIx_nat, len_sv]; omega), fun _ p hp => ⟨p, _, rfl, .inr (SqT.of upd_same), rfl, by rw [cut_take (by omega), sv_take]; exact flat_sv _, _, rfl, ?_⟩⟩
        rw [if_neg Bool.false_ne_true, cut_take (by omega), sv_take, inV_str]
        have s4 := s3.trans (same_new (o := .tup (cutV (sv ns) none (some ((i : Nat) : Int)))) hp)
        rw [cut_take (by omega), sv_take] at s4
        by_cases hp2 : z ∈ ns.take i
        · refine ifT (decide_eq_true hp2) ⟨_, rfl, ?_⟩
          have e := stray_some (cs := cs) hil (by rw [bad, decide_eq_true hp2, Bool.or_true]) hb
          rw [e] at k
          exact k _ s4
        · refine ifF (decide_eq_false hp2) ⟨s4, fun j hj => ?_, _, _, rfl⟩
          rcases Nat.lt_succ_iff_lt_or_eq.mp hj with q | q
          · exact hb j q
          · rw [q, bad, decide_eq_true hc, decide_eq_false hp2]; rfl
      · refine ifT (by rw [decide_eq_false hc]; rfl) (ifT rfl ⟨_, rfl, ?_⟩)
        have e := stray_some (cs := cs) hil (by rw [bad, decide_eq_false hc]; rfl) hb
        rw [e] at k
        exact k _ s3
    · rintro σ H2 ⟨sm, hb, u1, u2, rfl⟩
      have e := stray_none (cs := cs) (ns := ns) fun j hj => hb j (by rw [len_sv]; exact hj)
      rw [e] at k
      exact k H2 sm
theorem ok_strayA (T : Txt P K mg A) : FnOk P w K mg base CX0 1 A.a_first_stray A.d_first_stray ["columns", "names"] (spStray (SqA K) (SqA K)) :=
  (fnok_or (ok_stray T) (ok_strayT T)).imp fun vs H Q E ⟨c, l, cs, ns, e, h1, h2, r⟩ => h2.elim (fun h => .inl ⟨c, l, cs, ns, e, h1, h, r⟩) (fun h => .inr ⟨c, l, cs, ns, e, h1, h, r⟩)
def spFault (K : PySem.W.Frag) (sq2 : Hp → Addr → List V → Prop) : Sp := fun vs H Q _ => ∃ c l cs ns, vs = [.ref c, .ref l] ∧ SqT K H c (sv cs) ∧ sq2 H l (sv ns) ∧ ns.length ≤ 1000 ∧ ∀ H', Same H H' → Q (optV (fault cs ns)) H'
theorem ok_fault (T : Txt P K mg A) : FnOk P w K mg base CX0 2 A.a_order_fault A.d_order_fault ["columns", "order"] (spFault K (SqL K)) := by
  have G_first_stray := ok_stray (P := P) (w := w) (base := base) T
  refine T.F_order_fault.ok sc_order_fault (fun vs H Q E h => ?_) (fun cdv A' outer s H vs Q E hr h => ?_)
  · obtain ⟨c, l, cs, ns, rfl, _⟩ := h
    rfl
  · obtain ⟨c, l, cs, ns, rfl, h1, h2, hl, k⟩ := h
    refine ⟨_, (pss_cons (ps_set (i := 2) sc_order_fault.nd rfl (Or.inl rfl) (pe_call G_first_stray (hr.mono (by decide)) rfl T.mg_first_stray T.F_first_stray.kp T.b_first_stray .nil pass0 (pa_cons (pv 0) (pa_cons (pv 1) pa_nil))))
      (pss_cons (ps_if (PW.pt (pw_and (pt_cmpR op_isN (pv 2) pe_non (nomark _)) (pw_and1 (pt_cmpR op_lt (pe_callB call_len_seq (by rfl) T.n_len (by decide +kernel) (pa_cons (pv 1) pa_nil)) (pe_callB call_len_seq (by rfl) T.n_len (by decide +kernel) (pa_cons (pv 0) pa_nil)) (nomark _))))) (pss_one (ps_ret (pe_callB call_len_seq (by rfl) T.n_len (by decide +kernel) (pa_cons (pv 1) pa_nil)))) pss_nil)
      (pss_one (ps_ret (pv 2))))), ?_⟩
    refine ⟨_, rfl, _, rfl, c, l, cs, ns, rfl, .inr h1, h2, hl, fun H2 sm => ?_⟩
    refine ⟨_, rfl, rfl, _, rfl, ?_⟩
    unfold fault at k
    cases hs : stray cs ns with
    | some i =>
      rw [hs] at k
      refine itN (fun z => nomatch z) (iteF ⟨_, rfl, ?_⟩)
      exact k _ sm
    | none =>
      rw [hs] at k
      refine itY rfl ⟨_, rfl, l, _, rfl, .inl (sm.seq h2), _, rfl, c, _, rfl, .inr (sm.tup h1), _, _, rfl, rfl, _, rfl, ?_⟩
      by_cases hlt : ns.length < cs.length
      · refine itY (by rw [len_sv, len_sv]; omega) ⟨_, rfl, l, _, rfl, .inl (sm.seq h2), ?_⟩
        have k : ∀ H', Same H H' → Q (optV (if ns.length < cs.length then some ns.length else none)) H' := k
        rw [if_pos hlt] at k
        rw [len_sv]
        exact k _ sm
      · refine itN (by rw [len_sv, len_sv]; omega) ⟨_, rfl, ?_⟩
        have k : ∀ H', Same H H' → Q (optV (if ns.length < cs.length then some ns.length else none)) H' := k
        rw [if_neg hlt] at k
        exact k _ sm
theorem ok_faultT (T : Txt P K mg A) : FnOk P w K mg base CX0 2 A.a_order_fault A.d_order_fault ["columns", "order"] (spFault K (SqT K)) := by
  have G_first_strayT := ok_strayT (P := P) (w := w) (base := base) T
  refine T.F_order_fault.ok sc_order_fault (fun vs H Q E h => ?_) (fun cdv A' outer s H vs Q E hr h => ?_)
  · obtain ⟨c, l, cs, ns, rfl, _⟩ := h
    rfl
  · obtain ⟨c, l, cs, ns, rfl, h1, h2, hl, k⟩ := h
    refine ⟨_, (pss_cons (ps_set (i := 2) sc_order_fault.nd rfl (Or.inl rfl) (pe_call G_first_strayT (hr.mono (by decide)) rfl T.mg_first_stray T.F_first_stray.kp T.b_first_stray .nil pass0 (pa_cons (pv 0) (pa_cons (pv 1) pa_nil))))
      (pss_cons (ps_if (PW.pt (pw_and (pt_cmpR op_isN (pv 2) pe_non (nomark _)) (pw_and1 (pt_cmpR op_lt (pe_callB call_len_seq (by rfl) T.n_len (by decide +kernel) (pa_cons (pv 1) pa_nil)) (pe_callB call_len_seq (by rfl) T.n_len (by decide +kernel) (pa_cons (pv 0) pa_nil)) (nomark _))))) (pss_one (ps_ret (pe_callB call_len_seq (by rfl) T.n_len (by decide +kernel) (pa_cons (pv 1) pa_nil)))) pss_nil)
      (pss_one (ps_ret (pv 2))))), ?_⟩
    refine ⟨_, rfl, _, rfl, c, l, cs, ns, rfl, .inr h1, h2, hl, fun H2 sm => ?_⟩
    refine ⟨_, rfl, rfl, _, rfl, ?_⟩
    unfold fault at k
    cases hs : stray cs ns with
    | some i =>
      rw [hs] at k
      refine itN (fun z => nomatch z) (iteF ⟨_, rfl, ?_⟩)
      exact k _ sm
    | none =>
      rw [hs] at k
      refine itY rfl ⟨_, rfl, l, _, rfl, .inr (sm.tup h2), _, rfl, c, _, rfl, .inr (sm.tup h1), _, _, rfl, rfl, _, rfl, ?_⟩
      by_cases hlt : ns.length < cs.length
      · refine itY (by rw [len_sv, len_sv]; omega) ⟨_, rfl, l, _, rfl, .inr (sm.tup h2), ?_⟩
        have k : ∀ H', Same H H' → Q (optV (if ns.length < cs.length then some ns.length else none)) H' := k
        rw [if_pos hlt] at k
        rw [len_sv]
        exact k _ sm
      · refine itN (by rw [len_sv, len_sv]; omega) ⟨_, rfl, ?_⟩
        have k : ∀ H', Same H H' → Q (optV (if ns.length < cs.length then some ns.length else none)) H' := k
        rw [if_neg hlt] at k
        exact k _ sm
def spCount (K : PySem.W.Frag) : Sp := fun vs H Q _ => ∃ l fl, vs = [.ref l] ∧ SqL K H l (fl.map V.bl) ∧ fl.length ≤ 1000 ∧ ∀ H', Same H H' → Q (.int (runs fl : Nat)) H'
theorem ok_count (T : Txt P K mg A) : FnOk P w K mg base CX0 1 A.a_count_runs A.d_count_runs ["flags"] (spCount K) := by
  refine T.F_count_runs.ok sc_count_runs (fun vs H Q E h => ?_) (fun cdv A' outer s H vs Q E hr h => ?_)
  · obtain ⟨l, fl, rfl, _⟩ := h
    rfl
  · obtain ⟨l, fl, rfl, h1, hl, k⟩ := h
    refine ⟨_, (pss_one (ps_ret (pe_callB call_len_seq (by rfl) T.n_len (by decide +kernel) (pa_cons (pe_lc (own := [("at", 1), ("flag", 2)]) (g := gTup K 2 (gCons (gName 1) (gCons (gName 2) gNil))) (tt := _) rfl sc_count_runs.nd (pi_enum (by rfl) T.n_enumerate (pa_cons (pv 0) pa_nil)) (blkOk_by (N := ["flags", "at", "flag"]) (sc := defScope s_count_runs) (by decide +kernel)) (fun _ _ _ _ _ => (pg_tup (by rfl) (pgs_cons (pg_name (i := 1) sc_count_runs.nd rfl (Or.inl rfl)) (pgs_cons (pg_name (i := 2) sc_count_runs.nd rfl (Or.inl rfl)) pgs_nil)))) (fun _ _ _ _ _ => (pts_one (PW.pt (pw_and (pt_val (pv 2)) (pw_and1 (pt_not (PW.pt (pw_and (pt_cmpR op_gt (pv 1) pe_int (nomark _)) (pw_and1 (pt_val (pe_ix (show IxR _ (rIxL K) from ix_list) (pv 0) (pe_op op_sub (pv 1) pe_int) (fun _ _ => rfl)))))))))))) (fun _ _ _ _ _ => (pv 1))) pa_nil)))), ?_⟩
    have stepT : ∀ i, runAt fl i = true → (((List.range (i + 1)).filter (runAt fl)).map fun n => V.int (n : Nat)) = (((List.range i).filter (runAt fl)).map fun n => V.int (n : Nat)) ++ [V.int (i : Nat)] := fun i h => by
      rw [List.range_succ, List.filter_append, List.map_append, List.filter_cons_of_pos h]; rfl
    have stepF : ∀ i, runAt fl i = false → (((List.range (i + 1)).filter (runAt fl)).map fun n => V.int (n : Nat)) = (((List.range i).filter (runAt fl)).map fun n => V.int (n : Nat)) := fun i h => by
      rw [List.range_succ, List.filter_append, List.map_append, List.filter_cons_of_neg (by rw [h]; decide)]; simp
    have lenF : ∀ i, i ≤ fl.length → (((List.range i).filter (runAt fl)).map fun n => V.int (n : Nat)).length ≤ 1000000 := fun i h => by
      have := List.length_filter_le (runAt fl) (List.range i)
      rw [List.length_range] at this
      rw [List.length_map]; omega
    refine ⟨_, rfl, l, _, rfl, h1, fun D hD => lc_it walk_enum (PvS H D fun i => ((List.range i).filter (runAt fl)).map fun n => V.int (n : Nat)) (pv0 hD rfl) (fun i H2 _ p => p.1.seq h1) ?_ ?_⟩
    · rintro i x H3 H4 hi p ⟨t, _, _, rfl, ht, rfl, ⟨⟩, hx⟩
      have hil : i < fl.length := by rw [List.length_map] at hi; exact hi
      have hb : fl[i]? = some fl[i] := List.getElem?_eq_getElem hil
      have hd : fl.getD i false = fl[i] := by rw [List.getD_eq_getElem?_getD, hb]; rfl
      have hx : (fl.map V.bl)[i]? = some _ := hx
      rw [List.getElem?_map, hb] at hx
      cases hx
      generalize fl[i] = b at hb hd
      have p' := p.more (same_new (o := .tup [.int (i : Nat), .bl b]) ht)
      refine ⟨t, _, rfl, SqT.of upd_same, rfl, _, _, rfl, _, _, rfl, rfl, rfl, ?_⟩
      cases b with
      | false =>
        refine ⟨_, rfl, _, rfl, iteF (iteF (p'.skip (stepF i ?_)))⟩
        unfold runAt; rw [hd]; rfl
      | true =>
        refine ⟨_, rfl, _, rfl, iteT ⟨_, rfl, _, _, rfl, rfl, _, rfl, ?_⟩⟩
        by_cases h0 : 0 < i
        · refine itY (by omega) ?_
          have hp1 : i - 1 < fl.length := by omega
          have e1 : fl.getD (i - 1) false = fl[i - 1] := by rw [List.getD_eq_getElem?_getD, List.getElem?_eq_getElem hp1]; rfl
          have at1 : atI (fl.map V.bl) ((i : Int) - 1) = some (V.bl fl[i - 1]) := by
            have := atI_nat (xs := fl.map V.bl) (j := i - 1) (v := V.bl fl[i - 1]) (by rw [List.getElem?_map, List.getElem?_eq_getElem hp1]; rfl)
            rw [show (((i - 1 : Nat) : Int)) = (i : Int) - 1 by omega] at this
            exact this
          refine ⟨_, rfl, _, rfl, _, _, rfl, rfl, l, _, _, _, rfl, rfl, p'.1.seq h1, at1, _, rfl, ?_⟩
          generalize fl[i - 1] = b' at e1
          cases b' with
          | false =>
            refine iteT ⟨_, rfl, p'.push hD (stepT i ?_) (lenF i (by omega))⟩
            unfold runAt; rw [hd, e1]; simp
          | true =>
            refine iteF (p'.skip (stepF i ?_))
            unfold runAt; rw [hd, e1, decide_eq_true h0]; rfl
        · refine itN (by omega) (iteT ⟨_, rfl, p'.push hD (stepT i ?_) (lenF i (by omega))⟩)
          unfold runAt; rw [hd, decide_eq_false h0]; rfl
    · rintro H3 ⟨sm, h3⟩
      refine ⟨D, _, rfl, .inl (SqL.of h3), ?_⟩
      rw [List.length_map, List.length_map]
      exact k H3 sm
def spRuns (K : PySem.W.Frag) (sq2 : Hp → Addr → List V → Prop) : Sp := fun vs H Q _ => ∃ r l rs ns, vs = [.ref r, .ref l] ∧ SqA K H r (sv rs) ∧ sq2 H l (sv ns) ∧ ns.length ≤ 1000 ∧ ∀ H', Same H H' → Q (.int (runs (flags ns rs) : Nat)) H'
theorem ok_runs (T : Txt P K mg A) : FnOk P w K mg base CX0 2 A.a_runs_of A.d_runs_of ["row", "order"] (spRuns K (SqL K)) := by
  have G_count_runs := ok_count (P := P) (w := w) (base := base) T
  refine T.F_runs_of.ok sc_runs_of (fun vs H Q E h => ?_) (fun cdv A' outer s H vs Q E hr h => ?_)
  · obtain ⟨r, l, rs, ns, rfl, _⟩ := h
    rfl
  · obtain ⟨r, l, rs, ns, rfl, h1, h2, hl, k⟩ := h
    refine ⟨_, (pss_one (ps_ret (pe_call G_count_runs (hr.mono (by decide)) rfl T.mg_count_runs T.F_count_runs.kp T.b_count_runs .nil pass0 (pa_cons (pe_lc (own := [("name", 2)]) (g := gName 2) (tt := tYes) rfl sc_runs_of.nd (pi_list (pv 1)) (blkOk_by (N := ["row", "order", "name"]) (sc := defScope s_runs_of) (by decide +kernel)) (fun _ _ _ _ _ => (pg_name (i := 2) sc_runs_of.nd rfl (Or.inl rfl))) (fun _ _ _ _ _ => pts_nil) (fun _ _ _ _ _ => (pe_cmpR (show OpR _ _ (rIn K false) from op_in_seq) (pv 2) (pv 0) (by with_unfolding_all rfl)))) pa_nil)))), ?_⟩
    refine ⟨_, rfl, l, rfl, ⟨_, h2⟩, fun D hD => lc_it walk_list (PvS H D fun i => ((flags ns rs).take i).map V.bl) (pv0 hD rfl) (fun i H2 _ p => p.1.seq h2) ?_ ?_⟩
    · rintro i x H3 H4 hi p ⟨rfl, hx⟩
      obtain ⟨z, hz, rfl⟩ := sv_get hx
      refine ⟨rfl, _, rfl, _, rfl, r, _, rfl, p.1.sqa h1, rfl, flat_sv _, p.push hD ?_ ?_⟩
      · rw [if_neg Bool.false_ne_true, inV_str]
        have hf : (flags ns rs)[i]? = some (decide (z ∈ rs)) := by unfold flags; rw [List.getElem?_map, hz]; rfl
        show ((flags ns rs).take (i + 1)).map V.bl = _
        rw [take_succ hf, List.map_append]; rfl
      · show (((flags ns rs).take i).map V.bl).length ≤ 1000000
        rw [List.length_map, List.length_take]
        rw [len_sv] at hi
        omega
    · rintro H3 ⟨sm, h3⟩
      have hfl : (flags ns rs).length = (sv ns).length := by unfold flags; rw [List.length_map, len_sv]
      have h3 : H3 D = some (.lst (((flags ns rs).take (sv ns).length).map V.bl)) := h3
      rw [← hfl, List.take_length] at h3
      refine ⟨D, flags ns rs, rfl, SqL.of h3, by rw [hfl, len_sv]; exact hl, fun H' sm' => k H' (sm.trans sm')⟩
theorem ok_runsT (T : Txt P K mg A) : FnOk P w K mg base CX0 2 A.a_runs_of A.d_runs_of ["row", "order"] (spRuns K (SqT K)) := by
  have G_count_runs := ok_count (P := P) (w := w) (base := base) T
  refine T.F_runs_of.ok sc_runs_of (fun vs H Q E h => ?_) (fun cdv A' outer s H vs Q E hr h => ?_)
  · obtain ⟨r, l, rs, ns, rfl, _⟩ := h
    rfl
  · obtain ⟨r, l, rs, ns, rfl, h1, h2, hl, k⟩ := h
    refine ⟨_, (pss_one (ps_ret (pe_call G_count_runs (hr.mono (by decide)) rfl T.mg_count_runs T.F_count_runs.kp T.b_count_runs .nil pass0 (pa_cons (pe_lc (own := [("name", 2)]) (g := gName 2) (tt := tYes) rfl sc_runs_of.nd (pi_tup (pv 1)) (blkOk_by (N := ["row", "order", "name"]) (sc := defScope s_runs_of) (by decide +kernel)) (fun _ _ _ _ _ => (pg_name (i := 2) sc_runs_of.nd rfl (Or.inl rfl))) (fun _ _ _ _ _ => pts_nil) (fun _ _ _ _ _ => (pe_cmpR (show OpR _ _ (rIn K false) from op_in_seq) (pv 2) (pv 0) (by with_unfolding_all rfl)))) pa_nil)))), ?_⟩
    refine ⟨_, rfl, l, rfl, ⟨_, h2⟩, fun D hD => lc_it walk_tup (PvS H D fun i => ((flags ns rs).take i).map V.bl) (pv0 hD rfl) (fun i H2 _ p => p.1.tup h2) ?_ ?_⟩
    · rintro i x H3 H4 hi p ⟨rfl, hx⟩
      obtain ⟨z, hz, rfl⟩ := sv_get hx
      refine ⟨rfl, _, rfl, _, rfl, r, _, rfl, p.1.sqa h1, rfl, flat_sv _, p.push hD ?_ ?_⟩
      · rw [if_neg Bool.false_ne_true, inV_str]
        have hf : (flags ns rs)[i]? = some (decide (z ∈ rs)) := by unfold flags; rw [List.getElem?_map, hz]; rfl
        show ((flags ns rs).take (i + 1)).map V.bl = _
        rw [take_succ hf, List.map_append]; rfl
      · show (((flags ns rs).take i).map V.bl).length ≤ 1000000
        rw [List.length_map, List.length_take]
        rw [len_sv] at hi
        omega
    · rintro H3 ⟨sm, h3⟩
      have hfl : (flags ns rs).length = (sv ns).length := by unfold flags; rw [List.length_map, len_sv]
      have h3 : H3 D = some (.lst (((flags ns rs).take (sv ns).length).map V.bl)) := h3
      rw [← hfl, List.take_length] at h3
      refine ⟨D, flags ns rs, rfl, SqL.of h3, by rw [hfl, len_sv]; exact hl, fun H' sm' => k H' (sm.trans sm')⟩
end
end My
set_option maxRecDepth 100000
set_option maxHeartbeats 4000000
set_option exponentiation.threshold 10000
namespace My
open PySem L2
/-- at ts stand the lists or tuples of texts rs -/
structure LsA (K : PySem.W.Frag) (H : Hp) (ts : List Addr) (rs : List (List Str)) : Prop where
  len : ts.length = rs.length
  at_ : ∀ (i : Nat) (t : Addr) (r : List Str), ts[i]? = some t → rs[i]? = some r → SqA K H t (sv r)
theorem LsA.same {K : PySem.W.Frag} {H H' : Hp} {ts : List Addr} {rs : List (List Str)} (h : LsA K H ts rs) (e : Same H H') : LsA K H' ts rs := ⟨h.len, fun i t x a b => e.sqa (h.at_ i t x a b)⟩
theorem LsA.get {K : PySem.W.Frag} {H : Hp} {ts : List Addr} {rs : List (List Str)} (h : LsA K H ts rs) {i : Nat} {t : Addr} (hi : ts[i]? = some t) : ∃ r, rs[i]? = some r ∧ SqA K H t (sv r) := by
  have hx : i < rs.length := by rw [← h.len]; exact (List.getElem?_eq_some_iff.mp hi).1
  exact ⟨rs[i], List.getElem?_eq_getElem hx, h.at_ i _ _ hi (List.getElem?_eq_getElem hx)⟩
theorem Lss.lsa {K : PySem.W.Frag} {H : Hp} {ts : List Addr} {rs : List (List Str)} (h : Lss .lst H ts rs) : LsA K H ts rs := ⟨h.len, fun i t r a b => .inl (SqL.of (h.at_ i t r a b))⟩
theorem Lss.lsaT {K : PySem.W.Frag} {H : Hp} {ts : List Addr} {rs : List (List Str)} (h : Lss .tup H ts rs) : LsA K H ts rs := ⟨h.len, fun i t r a b => .inr (SqT.of (h.at_ i t r a b))⟩
theorem sqa_upd {K : PySem.W.Frag} {H : Hp} {a b C dx : Addr} {xs : List V} {f g : List (Str × V)} (h : SqA K H a xs) (hb : H b = some (.ins C dx f)) : SqA K (upd H b (.ins C dx g)) a xs := by
  rcases h with h | h
  · exact .inl (seq_upd h hb (fun ys z => nomatch z) (fun c d z => nomatch z))
  · refine .inr ?_
    rcases h with (r | ⟨c, r⟩) | z
    · exact .inl (.inl (by rw [upd_ne (ne_of r hb (fun z => nomatch z))]; exact r))
    · exact .inl (.inr ⟨c, by rw [upd_ne (ne_of r hb (fun z => nomatch z))]; exact r⟩)
    · exact .inr z
section
variable {P : Program} {w : World} {K : PySem.W.Frag} {mg : Str → Option Value} {base : Heap} {A : Ad}
theorem Txt.bi (T : Txt P K mg A) : Binds K A.d_Table_init ["self", "columns", "rows"] [] := by
  obtain ⟨ds, hv, hb⟩ := T.F_Table_init.binds1 (ps := ["self", "columns", "rows"]) 3 1 (by simp) rfl (fun T kV dc pm an cd ct us its hl hi => by
    match us, hl, its, hi with
    | [_, _, _], _, [_], _ => exact ⟨_, rfl, rfl⟩)
  cases hv
  exact hb
def spKnown (K : PySem.W.Frag) (U : Addr) : Sp := fun vs H Q E => ∃ c l cs ns, vs = [.ref c, .ref l] ∧ SqT K H c (sv cs) ∧ SqL K H l (sv ns) ∧ (∀ z ∈ ns, z.length ≤ 1000) ∧
  (unk cs ns = none → ∀ H', Same H H' → Q .non H') ∧ ∀ z, unk cs ns = some z → ∀ d H', Same H H' → H' d = some (.xd [("name", .str z)]) → E (.ref U) (some d) H'
theorem ok_known (T : Txt P K mg A) : FnOk P w K mg base (L2.CX P w) 3 A.a_check_known A.d_check_known ["columns", "names"] (spKnown K A.C_UnknownColumn) := by
  have G_UnknownColumn_init := ok_UnknownColumn (P := P) (w := w) (base := base) T
  refine funX T.F_check_known sc_check_known (fun vs H Q E h => ?_) (fun cdv A' outer s H vs Q E hr h => ?_)
  · obtain ⟨c, l, cs, ns, rfl, _⟩ := h
    rfl
  · obtain ⟨c, l, cs, ns, rfl, h1, h2, hl, kq, ke⟩ := h
    refine ⟨_, (pss_one (ps_for (passes_of rfl) rfl (pi_list (pv 1)) (pg_name (i := 2) sc_check_known.nd rfl (Or.inl rfl))
        (pss_one (ps_if (pt_cmpR op_notIn_seq (pv 2) (pv 0) (by with_unfolding_all rfl)) (pss_one (ps_raise rfl (takes_of rfl rfl rfl rfl) (pmk_oex T.SC_UnknownColumn.ox T.ii_UnknownColumn T.ti_UnknownColumn G_UnknownColumn_init (hr.mono (by decide)) T.b_UnknownColumn_init .nil pass0 rfl T.mg_UnknownColumn (pa_cons (pv 2) pa_nil)))) pss_nil)))), ?_⟩
    refine ⟨_, rfl, l, rfl, ⟨_, h2⟩, for_it walk_list (fun i σ H2 => Same H H2 ∧ (∀ (j : Nat) z, j < i → ns[j]? = some z → z ∈ cs) ∧ ∃ u, σ = [some (.ref c), some (.ref l), u]) ⟨Same.refl _, fun j z hj => absurd hj (Nat.not_lt_zero _), none, rfl⟩ (fun i σ H2 _ q => q.1.seq h2) ?_ ?_⟩
    · rintro i x σ H20 H2 hi ⟨sm, hb, u, rfl⟩ ⟨rfl, hx⟩
      obtain ⟨z, hz, rfl⟩ := sv_get hx
      refine ⟨_, rfl, _, rfl, c, _, rfl, .inr (sm.tup h1), rfl, flat_sv _, _, rfl, ?_⟩
      rw [if_pos (rfl : true = true), inV_str]
      by_cases hc : z ∈ cs
      · refine ifF (by rw [decide_eq_true hc]; rfl) ⟨sm, fun j y hj hy => ?_, _, rfl⟩
        rcases Nat.lt_succ_iff_lt_or_eq.mp hj with q | q
        · exact hb j y q hy
        · rw [q, hz] at hy; cases hy; exact hc
      · refine ifT (by rw [decide_eq_false hc]; rfl) ⟨_, rfl, (by decide : 1 ≤ 1000), fun a ha => ⟨a, _, rfl, ⟨_, rfl, hl z (List.mem_of_getElem? hz)⟩, upd_same, fun d hd hne => ⟨rfl, d, _, upd_same, by rw [upd_ne hne, upd_same], by rw [upd_ne hne] at hd; exact hd, ?_⟩⟩⟩
        rw [upd_ne hne] at hd
        exact ke z (unk_some hz hc hb) d _ (sm.trans (exc_same ha hd)) upd_same
    · rintro σ H2 ⟨sm, hb, u, rfl⟩
      refine kq (unk_none.mpr fun x hx => ?_) H2 sm
      obtain ⟨i, hi, rfl⟩ := List.getElem_of_mem hx
      exact hb i _ (by rw [len_sv]; exact hi) (List.getElem?_eq_getElem hi)
theorem ok_knownQ (T : Txt P K mg A) : FnOk P w K mg base CX0 3 A.a_check_known A.d_check_known ["columns", "names"] (fun vs H Q _ => spKnown K A.C_UnknownColumn vs H Q E0) := quiet (ok_known T) fun _ _ _ _ h => h
def spCols (K : PySem.W.Frag) : Sp := fun vs H Q _ => ∃ l cs, vs = [.ref l] ∧ SqA K H l (sv cs) ∧ (∀ z ∈ cs, Good z) ∧ cs.Nodup ∧ cs.length ≤ 12 ∧ ∀ H', Same H H' → Q .non H'
theorem ok_cols (T : Txt P K mg A) : FnOk P w K mg base CX0 3 A.a_check_columns A.d_check_columns ["columns"] (spCols K) := by
  have G_first_bad_name := ok_firstBadO (P := P) (w := w) (base := base) T
  refine T.F_check_columns.ok sc_check_columns (fun vs H Q E h => ?_) (fun cdv A' outer s H vs Q E hr h => ?_)
  · obtain ⟨l, cs, rfl, _⟩ := h
    rfl
  · obtain ⟨l, cs, rfl, h1, g, nd, hl, k⟩ := h
    refine ⟨_, (pss_cons (ps_if (pt_cmpR op_gt (pe_callB call_len_seq (by rfl) T.n_len (by decide +kernel) (pa_cons (pv 0) pa_nil)) (ClX.pe_cval (pe_glob (v := .ref A.C_Table) rfl T.mg_Table rfl)) (nomark _)) (pss_one ps_never) pss_nil)
      (pss_cons (ps_set (i := 1) sc_check_columns.nd rfl (Or.inl rfl) (pe_call G_first_bad_name (hr.mono (by decide)) rfl T.mg_first_bad_name T.F_first_bad_name.kp T.b_first_bad_name .nil pass0 (pa_cons (pv 0) pa_nil)))
      (pss_one (ps_if (pt_cmpR op_notN (pv 1) pe_non (nomark _)) (pss_one ps_never) pss_nil)))), ?_⟩
    obtain ⟨u, hu⟩ := T.cv_Table_MOST_COLUMNS
    refine ⟨_, rfl, l, _, rfl, h1, _, _, _, _, rfl, T.cr_Table, hu, _, _, rfl, rfl, _, rfl, itN (by rw [len_sv]; omega) ?_⟩
    exact ⟨_, rfl, l, cs, rfl, h1, (fun z hz => Nat.le_trans (g z hz).le (by decide)), fun H2 sm => by
      rw [firstBad_none_iff.mpr ⟨g, nd⟩]
      exact ⟨_, rfl, rfl, _, rfl, itNe rfl (k _ sm)⟩⟩
def spChRows (K : PySem.W.Frag) : Sp := fun vs H Q _ => ∃ l r cs ts rs, vs = [.ref l, .ref r] ∧ SqA K H l (sv cs) ∧ SqL K H r (ts.map V.ref) ∧ LsA K H ts rs ∧ rs.length ≤ 48 ∧ (∀ x ∈ rs, stray cs x = none ∧ x.length ≤ 1000) ∧ ∀ H', Same H H' → Q .non H'
theorem ok_chRows (T : Txt P K mg A) : FnOk P w K mg base CX0 2 A.a_check_rows A.d_check_rows ["columns", "rows"] (spChRows K) := by
  have G_first_stray := ok_strayA (P := P) (w := w) (base := base) T
  refine T.F_check_rows.ok sc_check_rows (fun vs H Q E h => ?_) (fun cdv A' outer s H vs Q E hr h => ?_)
  · obtain ⟨l, r, cs, ts, rs, rfl, _⟩ := h
    rfl
  · obtain ⟨l, r, cs, ts, rs, rfl, h1, h2, hs, hl, hg, k⟩ := h
    refine ⟨_, (pss_cons (ps_if (pt_cmpR op_gt (pe_callB call_len_seq (by rfl) T.n_len (by decide +kernel) (pa_cons (pv 1) pa_nil)) (ClX.pe_cval (pe_glob (v := .ref A.C_Table) rfl T.mg_Table rfl)) (nomark _)) (pss_one ps_never) pss_nil)
      (pss_one (ps_for PassesOwn.never rfl (pi_enum (by rfl) T.n_enumerate (pa_cons (pv 1) pa_nil)) (pg_tup (by rfl) (pgs_cons (pg_name (i := 2) sc_check_rows.nd rfl (Or.inl rfl)) (pgs_cons (pg_name (i := 3) sc_check_rows.nd rfl (Or.inl rfl)) pgs_nil)))
        (pss_one (ps_if (pt_cmpR op_notN (pe_call G_first_stray (hr.mono (by decide)) rfl T.mg_first_stray T.F_first_stray.kp T.b_first_stray .nil pass0 (pa_cons (pv 0) (pa_cons (pv 3) pa_nil))) pe_non (nomark _)) (pss_one ps_never) pss_nil))))), ?_⟩
    obtain ⟨u, hu⟩ := T.cv_Table_MOST_ROWS
    refine ⟨_, rfl, r, _, rfl, .inl h2, _, _, _, _, rfl, T.cr_Table, hu, _, _, rfl, rfl, _, rfl, itN (by rw [List.length_map, hs.len]; omega) ?_⟩
    refine ⟨_, rfl, r, _, rfl, h2, for_it walk_enum (fun i σ H2 => Same H H2 ∧ ∃ u1 u2 : Option V, σ = [some (.ref l), some (.ref r), u1, u2]) ⟨Same.refl _, none, none, rfl⟩ (fun i σ H2 _ p => p.1.seq h2) ?_ ?_⟩
    · rintro i x σ H2 H3 hi ⟨sm, u1, u2, rfl⟩ ⟨t, _, _, rfl, ht, rfl, ⟨⟩, hx⟩
      obtain ⟨b, hb, rfl⟩ := refs_get hx
      obtain ⟨y, hy, ho⟩ := hs.get hb
      have g := hg y (List.mem_of_getElem? hy)
      have s3 : Same H (upd H2 t (.tup [.int (i : Nat), .ref b])) := sm.trans (same_new ht)
      refine ⟨t, _, rfl, SqT.of upd_same, rfl, _, _, rfl, _, _, rfl, rfl, ?_⟩
      refine ⟨_, rfl, _, rfl, l, b, cs, y, rfl, s3.sqa h1, s3.sqa ho, g.2, fun H4 sm4 => ?_⟩
      rw [g.1]
      exact ⟨rfl, _, rfl, itNe rfl ⟨s3.trans sm4, _, _, rfl⟩⟩
    · rintro σ H2 ⟨sm, u1, u2, rfl⟩
      exact k H2 sm
def spInOrder (C : Addr) (K : PySem.W.Frag) : Sp := fun vs H Q _ => ∃ p l dx ct cs r fs, vs = [.ref p, .ref l] ∧ H p = some (.ins C dx fs) ∧ fs.lookup ("columns" : Str) = some (.ref ct) ∧ H ct = some (.tup (sv cs)) ∧ SqA K H l (sv r) ∧ cs.length ≤ 1000 ∧
  ∀ t H', Same H H' → H' t = some (.tup (sv (canon cs r))) → Q (.ref t) H'
theorem ok_inOrder (T : Txt P K mg A) : FnOk P w K mg base CX0 1 A.a_Table_in_order A.d_Table_in_order ["self", "names"] (spInOrder A.C_Table K) := by
  refine T.F_Table_in_order.ok sc_Table_in_order (fun vs H Q E h => ?_) (fun cdv A' outer s H vs Q E hr h => ?_)
  · obtain ⟨p, l, dx, ct, cs, r, fs, rfl, _⟩ := h
    rfl
  · obtain ⟨p, l, dx, ct, cs, r, fs, rfl, h1, hct, hc, h2, hl, k⟩ := h
    refine ⟨_, (pss_one (ps_ret (pe_callTy (show CallR _ _ (rTupOf K) from call_tuple_of) (by rfl) T.n_tuple (by decide +kernel) (pa_cons (pe_lc (own := [("name", 2)]) (g := gName 2) (tt := _) rfl sc_Table_in_order.nd (pi_tup (pe_fld (pv 0) rfl)) (blkOk_by (N := ["self", "names", "name"]) (sc := defScope s_Table_in_order) (by decide +kernel)) (fun _ _ _ _ _ => (pg_name (i := 2) sc_Table_in_order.nd rfl (Or.inl rfl))) (fun _ _ _ _ _ => (pts_one (pt_cmpR (show OpR _ _ (rIn K false) from op_in_seq) (pv 2) (pv 1) (by with_unfolding_all rfl)))) (fun _ _ _ _ _ => (pv 2))) pa_nil)))), ?_⟩
    have stepT : ∀ i z, cs[i]? = some z → z ∈ r → sv (canon (cs.take (i + 1)) r) = sv (canon (cs.take i) r) ++ [V.str z] := fun i z hz hm => by
      rw [take_succ hz, canon_T hm]; exact List.map_append
    have stepF : ∀ i z, cs[i]? = some z → z ∉ r → sv (canon (cs.take (i + 1)) r) = sv (canon (cs.take i) r) := fun i z hz hm => by
      rw [take_succ hz, canon_F hm]
    refine ⟨_, rfl, p, _, dx, fs, _, rfl, h1, T.cl_Table, T.n_Table_columns, hct, ct, rfl, ⟨_, SqT.of hc⟩, fun D hD => lc_it walk_tup (PvS H D fun i => sv (canon (cs.take i) r)) (pv0 hD rfl) (fun i H2 _ q => q.1.tup (SqT.of hc)) ?_ ?_⟩
    · rintro i x H3 H4 hi q ⟨rfl, hx⟩
      obtain ⟨z, hz, rfl⟩ := sv_get hx
      refine ⟨rfl, _, rfl, _, rfl, l, _, rfl, q.1.sqa h2, rfl, flat_sv _, _, rfl, ?_⟩
      rw [if_neg Bool.false_ne_true, inV_str]
      have hlen : (sv (canon (cs.take i) r)).length ≤ 1000000 := by
        have := List.length_filter_le (fun x => decide (x ∈ r)) (cs.take i)
        rw [List.length_take] at this
        rw [len_sv]; unfold canon; omega
      by_cases hm : z ∈ r
      · exact ifT (decide_eq_true hm) ⟨_, rfl, q.push hD (stepT i z hz hm) hlen⟩
      · exact ifF (decide_eq_false hm) (q.skip (stepF i z hz hm))
    · rintro H3 ⟨sm, h3⟩
      have h3 : H3 D = some (.lst (sv (canon (cs.take (sv cs).length) r))) := h3
      rw [len_sv, List.take_length] at h3
      exact ⟨D, _, rfl, .inl ⟨SqL.of h3, fun t ht => k t _ (sm.trans (same_new ht)) upd_same⟩⟩
def spTable (C : Addr) (K : PySem.W.Frag) : Sp := fun vs H Q _ => ∃ p l r dx cs ts rs, vs = [.ref p, .ref l, .ref r] ∧ H p = some (.ins C dx []) ∧ (SqL K H l (sv cs) ∨ H l = some (.tup (sv cs))) ∧ SqL K H r (ts.map V.ref) ∧ LsA K H ts rs ∧
  (∀ z ∈ cs, Good z) ∧ cs.Nodup ∧ cs.length ≤ 12 ∧ rs.length ≤ 48 ∧ (∀ x ∈ rs, stray cs x = none ∧ x.length ≤ 1000) ∧ ∀ H', (∀ b o, b ≠ p → H b = some o → H' b = some o) → Tb C H' p cs rs → Q .non H'
theorem ok_table (T : Txt P K mg A) : FnOk P w K mg base CX0 4 A.a_Table_init A.d_Table_init ["self", "columns", "rows"] (spTable A.C_Table K) := by
  have G_check_columns := ok_cols (P := P) (w := w) (base := base) T
  have G_check_rows := ok_chRows (P := P) (w := w) (base := base) T
  have G_Table_in_order := ok_inOrder (P := P) (w := w) (base := base) T
  refine T.F_Table_init.ok sc_Table_init (fun vs H Q E h => ?_) (fun cdv A' outer s H vs Q E hr h => ?_)
  · obtain ⟨p, l, r, dx, cs, ts, rs, rfl, _⟩ := h
    rfl
  · obtain ⟨p, l, r, dx, cs, ts, rs, rfl, hp, h1, h2, hs, g, nd, hc, hrs, hst, k⟩ := h
    refine ⟨_, (pss_cons (ps_expr (pe_call G_check_columns (hr.mono (by decide)) rfl T.mg_check_columns T.F_check_columns.kp T.b_check_columns .nil pass0 (pa_cons (pv 1) pa_nil)))
      (pss_cons (ps_expr (pe_call G_check_rows (hr.mono (by decide)) rfl T.mg_check_rows T.F_check_rows.kp T.b_check_rows .nil pass0 (pa_cons (pv 1) (pa_cons (pv 2) pa_nil))))
      (pss_cons (ps_fld (pv 0) (pe_callTy (show CallR _ _ (rTupOf K) from call_tuple_of) (by rfl) T.n_tuple (by decide +kernel) (pa_cons (pv 1) pa_nil)) rfl)
      (pss_one (ps_fld (pv 0) (pe_callTy (show CallR _ _ (rTupOf K) from call_tuple_of) (by rfl) T.n_tuple (by decide +kernel) (pa_cons (pe_lc (own := [("row", 3)]) (g := gName 3) (tt := tYes) rfl sc_Table_init.nd (pi_list (pv 2)) (blkOk_by (N := ["self", "columns", "rows", "row"]) (sc := defScope s_Table_init) (by decide +kernel)) (fun _ _ _ _ _ => (pg_name (i := 3) sc_Table_init.nd rfl (Or.inl rfl))) (fun _ _ _ _ _ => pts_nil) (fun _ _ _ _ _ => (pe_meth (pv 0) T.cl_Table T.m_Table_in_order G_Table_in_order (hr.mono (by decide)) T.b_Table_in_order .nil pass0 (pa_cons (pv 3) pa_nil)))) pa_nil)) rfl))))), ?_⟩
    have h1a : SqA K H l (sv cs) := h1.imp id SqT.of
    refine ⟨_, rfl, l, cs, rfl, h1a, g, nd, hc, fun H1 s1 => ?_⟩
    refine ⟨_, rfl, _, rfl, l, r, cs, ts, rs, rfl, s1.sqa h1a, s1.seq h2, hs.same s1, hrs, hst, fun H2 s2 => ?_⟩
    have s2 := s1.trans s2
    refine ⟨_, rfl, l, sv cs, rfl, ?_⟩
    have hpS := s2 _ _ hp
    have fin : ∀ (ct : Addr) (H2' : Hp), Same H H2' → H2' ct = some (.tup (sv cs)) → ct ≠ p → H2' p = some (.ins A.C_Table dx []) ∧ H2' ct = some (.tup (sv cs)) ∧ ct ≠ p ∧ Same H H2' := fun ct H2' s h n => ⟨s _ _ hp, h, n, s⟩
    rcases h1 with h1 | h1
    · refine .inl ⟨s2.seq h1, fun ct hct => ?_⟩
      have npc : ct ≠ p := fun z => by rw [z] at hct; rw [hpS] at hct; cases hct
      have F := fin ct (upd H2 ct (.tup (sv cs))) (s2.trans (same_new hct)) upd_same npc
      generalize upd H2 ct (.tup (sv cs)) = H2' at F ⊢
      clear hct npc
      obtain ⟨hp2, hc2, npc, s2'⟩ := F
      refine ⟨_, rfl, p, _, dx, [], rfl, hp2, T.cl_Table, T.n_Table_columns, (by show 0 < 1000; decide), ?_⟩
      generalize hX : upd H2' p _ = H3
      have hp3 : H3 p = some (.ins A.C_Table dx (putF "columns" (.ref ct) [])) := by rw [← hX]; exact upd_same
      have hc3 : H3 ct = some (.tup (sv cs)) := by rw [← hX, upd_ne npc]; exact hc2
      have sm3 : ∀ b o, b ≠ p → H b = some o → H3 b = some o := fun b o hb e => by
        rw [← hX, upd_ne hb]; exact s2' _ _ e
      have h23 : SqL K H3 r (ts.map V.ref) := by
        rw [← hX]; exact seq_upd (s2'.seq h2) hp2 (fun xs z => nomatch z) (fun o u z => nomatch z)
      have hs3 : LsA K H3 ts rs := ⟨hs.len, fun i t x a b => by rw [← hX]; exact sqa_upd (s2'.sqa (hs.at_ i t x a b)) hp2⟩
      clear hX
      have hlk : (putF "columns" (.ref ct) ([] : List (Str × V))).lookup ("columns" : Str) = some (.ref ct) := by rw [lookup_putF, if_pos rfl]
      have hlm : (putF "columns" (.ref ct) ([] : List (Str × V))).lookup ("_in_order" : Str) = none := by rw [lookup_putF, if_neg (by decide +kernel)]; rfl
      refine ⟨_, rfl, r, rfl, ⟨_, h23⟩, fun D hD => lc_it walk_list (fun i H4 => Same H3 H4 ∧ ∃ us : List Addr, H4 D = some (.lst (us.map V.ref)) ∧ Lss .tup H4 us ((rs.take i).map (canon cs))) ⟨same_new hD, [], upd_same, Lss.nil⟩ (fun i H4 _ q => q.1.seq h23) ?_ ?_⟩
      · rintro i x H4 H5 hi ⟨s4, us, hd4, hl4⟩ ⟨rfl, hx⟩
        obtain ⟨b, hb, rfl⟩ := refs_get hx
        obtain ⟨y, hy, ho⟩ := (hs3.same s4).get hb
        refine ⟨rfl, _, rfl, p, dx, _, rfl, s4 _ _ hp3, hlm, _, rfl, p, b, dx, ct, cs, y, _, rfl, s4 _ _ hp3, hlk, s4 _ _ hc3, ho, by omega, fun t H6 s6 ht => ?_⟩
        have hd6 := s6 _ _ hd4
        refine ⟨_, hd6, small_int (by rw [List.length_map, hl4.len, List.length_map, List.length_take]; omega), ?_, us ++ [t], ?_, ?_⟩
        · intro c o e
          rw [upd_ne (ne_of_none e hD)]
          exact s6 _ _ (s4 _ _ e)
        · rw [List.map_append]; exact upd_same
        · rw [take_succ hy, List.map_append]
          exact ((hl4.same s6).app ht).updT hd6 (fun xs z => nomatch z)
      · rintro H4 ⟨s4, us, hd4, hl4⟩
        rw [List.length_map, hs.len, List.take_length] at hl4
        refine ⟨D, _, rfl, .inl ⟨SqL.of hd4, fun rt hrt => ?_⟩⟩
        have hp5 : upd H4 rt (.tup (us.map V.ref)) p = some (.ins A.C_Table dx (putF "columns" (.ref ct) [])) := by rw [upd_ne (ne_of_none (s4 _ _ hp3) hrt)]; exact s4 _ _ hp3
        refine ⟨_, rfl, p, _, dx, _, rfl, hp5, T.cl_Table, T.n_Table_rows, (by show 1 < 1000; decide), ?_⟩
        have nrp : rt ≠ p := fun z => by rw [z] at hrt; rw [s4 _ _ hp3] at hrt; cases hrt
        have nrc : ct ≠ rt := ne_of_none (s4 _ _ hc3) hrt
        refine k _ (fun b o hb e => ?_) ⟨dx, ct, rt, us, upd_same, ?_, ?_, ?_⟩
        · have z := s4 _ _ (sm3 b o hb e)
          rw [upd_ne hb, upd_ne (ne_of_none z hrt)]
          exact z
        · rw [upd_ne npc, upd_ne nrc]; exact s4 _ _ hc3
        · rw [upd_ne nrp]; exact upd_same
        · exact (hl4.same (same_new (o := .tup (us.map V.ref)) hrt)).updT hp5 (fun xs z => nomatch z)
    · have F := fin l H2 s2 (s2 _ _ h1) (ne_of h1 hp (fun z => nomatch z))
      refine .inr ⟨SqT.of (s2 _ _ h1), ?_⟩
      generalize hlc : l = ct at F ⊢
      generalize hHH : H2 = H2' at F ⊢
      obtain ⟨hp2, hc2, npc, s2'⟩ := F
      refine ⟨_, rfl, p, _, dx, [], rfl, hp2, T.cl_Table, T.n_Table_columns, (by show 0 < 1000; decide), ?_⟩
      generalize hX : upd H2' p _ = H3
      have hp3 : H3 p = some (.ins A.C_Table dx (putF "columns" (.ref ct) [])) := by rw [← hX]; exact upd_same
      have hc3 : H3 ct = some (.tup (sv cs)) := by rw [← hX, upd_ne npc]; exact hc2
      have sm3 : ∀ b o, b ≠ p → H b = some o → H3 b = some o := fun b o hb e => by
        rw [← hX, upd_ne hb]; exact s2' _ _ e
      have h23 : SqL K H3 r (ts.map V.ref) := by
        rw [← hX]; exact seq_upd (s2'.seq h2) hp2 (fun xs z => nomatch z) (fun o u z => nomatch z)
      have hs3 : LsA K H3 ts rs := ⟨hs.len, fun i t x a b => by rw [← hX]; exact sqa_upd (s2'.sqa (hs.at_ i t x a b)) hp2⟩
      clear hX
      have hlk : (putF "columns" (.ref ct) ([] : List (Str × V))).lookup ("columns" : Str) = some (.ref ct) := by rw [lookup_putF, if_pos rfl]
      have hlm : (putF "columns" (.ref ct) ([] : List (Str × V))).lookup ("_in_order" : Str) = none := by rw [lookup_putF, if_neg (by decide +kernel)]; rfl
      refine ⟨_, rfl, r, rfl, ⟨_, h23⟩, fun D hD => lc_it walk_list (fun i H4 => Same H3 H4 ∧ ∃ us : List Addr, H4 D = some (.lst (us.map V.ref)) ∧ Lss .tup H4 us ((rs.take i).map (canon cs))) ⟨same_new hD, [], upd_same, Lss.nil⟩ (fun i H4 _ q => q.1.seq h23) ?_ ?_⟩
      · rintro i x H4 H5 hi ⟨s4, us, hd4, hl4⟩ ⟨rfl, hx⟩
        obtain ⟨b, hb, rfl⟩ := refs_get hx
        obtain ⟨y, hy, ho⟩ := (hs3.same s4).get hb
        refine ⟨rfl, _, rfl, p, dx, _, rfl, s4 _ _ hp3, hlm, _, rfl, p, b, dx, ct, cs, y, _, rfl, s4 _ _ hp3, hlk, s4 _ _ hc3, ho, by omega, fun t H6 s6 ht => ?_⟩
        have hd6 := s6 _ _ hd4
        refine ⟨_, hd6, small_int (by rw [List.length_map, hl4.len, List.length_map, List.length_take]; omega), ?_, us ++ [t], ?_, ?_⟩
        · intro c o e
          rw [upd_ne (ne_of_none e hD)]
          exact s6 _ _ (s4 _ _ e)
        · rw [List.map_append]; exact upd_same
        · rw [take_succ hy, List.map_append]
          exact ((hl4.same s6).app ht).updT hd6 (fun xs z => nomatch z)
      · rintro H4 ⟨s4, us, hd4, hl4⟩
        rw [List.length_map, hs.len, List.take_length] at hl4
        refine ⟨D, _, rfl, .inl ⟨SqL.of hd4, fun rt hrt => ?_⟩⟩
        have hp5 : upd H4 rt (.tup (us.map V.ref)) p = some (.ins A.C_Table dx (putF "columns" (.ref ct) [])) := by rw [upd_ne (ne_of_none (s4 _ _ hp3) hrt)]; exact s4 _ _ hp3
        refine ⟨_, rfl, p, _, dx, _, rfl, hp5, T.cl_Table, T.n_Table_rows, (by show 1 < 1000; decide), ?_⟩
        have nrp : rt ≠ p := fun z => by rw [z] at hrt; rw [s4 _ _ hp3] at hrt; cases hrt
        have nrc : ct ≠ rt := ne_of_none (s4 _ _ hc3) hrt
        refine k _ (fun b o hb e => ?_) ⟨dx, ct, rt, us, upd_same, ?_, ?_, ?_⟩
        · have z := s4 _ _ (sm3 b o hb e)
          rw [upd_ne hb, upd_ne (ne_of_none z hrt)]
          exact z
        · rw [upd_ne npc, upd_ne nrc]; exact s4 _ _ hc3
        · rw [upd_ne nrp]; exact upd_same
        · exact (hl4.same (same_new (o := .tup (us.map V.ref)) hrt)).updT hp5 (fun xs z => nomatch z)
end
end My
set_option maxRecDepth 100000
set_option maxHeartbeats 4000000
set_option exponentiation.threshold 10000
namespace My
open PySem L2
/-- the columns outside a row -/
def outs (cs r : List Str) : List Str := cs.filter fun x => decide (x ∉ r)
theorem outs_T {l r : List Str} {z : Str} (hm : z ∉ r) : outs (l ++ [z]) r = outs l r ++ [z] := by
  unfold outs; rw [List.filter_append]; simp [hm]
theorem outs_F {l r : List Str} {z : Str} (hm : z ∈ r) : outs (l ++ [z]) r = outs l r := by
  unfold outs; rw [List.filter_append]; simp [hm]
def turnRow (cs : List Str) (z : Str) (r : List Str) : List Str := if z ∈ canon cs r then outs cs (canon cs r) else canon cs r
theorem fldsT_in_order (ct rt : Addr) : (fldsT ct rt).lookup ("_in_order" : Str) = none := by
  unfold fldsT; rw [lookup_putF, if_neg (by decide +kernel), lookup_putF, if_neg (by decide +kernel)]; rfl
theorem fldsT_inside (ct rt : Addr) : (fldsT ct rt).lookup ("_inside_out" : Str) = none := by
  unfold fldsT; rw [lookup_putF, if_neg (by decide +kernel), lookup_putF, if_neg (by decide +kernel)]; rfl
structure ColsOk (cs : List Str) : Prop where
  g : ∀ z ∈ cs, Good z
  nd : cs.Nodup
  n : cs.length ≤ 12
theorem ColsOk.sub {cs ds : List Str} (h : ColsOk cs) (s : ds.Sublist cs) : ColsOk ds := ⟨fun z hz => h.g z (s.subset hz), s.nodup h.nd, Nat.le_trans s.length_le h.n⟩
theorem canon_sub (cs r : List Str) : (canon cs r).Sublist cs := List.filter_sublist
theorem outs_sub (cs r : List Str) : (outs cs r).Sublist cs := List.filter_sublist
theorem turn_sub (cs : List Str) (z : Str) (r : List Str) : (turnRow cs z r).Sublist cs := by
  unfold turnRow; split
  · exact outs_sub _ _
  · exact canon_sub _ _
theorem sub_row {cs r : List Str} (h : ColsOk cs) (s : r.Sublist cs) : stray cs r = none ∧ r.length ≤ 1000 := ⟨stray_none_iff.mpr ⟨fun x hx => s.subset hx, s.nodup h.nd⟩, by have := s.length_le; have := h.n; omega⟩
theorem mem_canon {cs r : List Str} {x : Str} : x ∈ canon cs r ↔ x ∈ cs ∧ x ∈ r := by unfold canon; rw [List.mem_filter, decide_eq_true_iff]
theorem mem_outs {cs r : List Str} {x : Str} : x ∈ outs cs r ↔ x ∈ cs ∧ x ∉ r := by unfold outs; rw [List.mem_filter, decide_eq_true_iff]
theorem canon_row {cs r ns : List Str} (h : ColsOk cs) (hn : ∀ x ∈ ns, x ∈ cs) : stray (canon cs ns) (canon (canon cs r) ns) = none ∧ (canon (canon cs r) ns).length ≤ 1000 :=
  ⟨stray_none_iff.mpr ⟨fun x hx => mem_canon.mpr ⟨(mem_canon.mp (mem_canon.mp hx).1).1, (mem_canon.mp hx).2⟩, ((canon_sub _ _).trans (canon_sub _ _)).nodup h.nd⟩, by have := ((canon_sub (canon cs r) ns).trans (canon_sub _ _)).length_le; have := h.n; omega⟩
theorem mk_table {C : Addr} {K : PySem.W.Frag} {H : Hp} {l r : Addr} {cs : List Str} {ts : List Addr} {rs : List (List Str)} {Q : VK} (hL : SqL K H l (sv cs) ∨ H l = some (.tup (sv cs))) (hR : SqL K H r (ts.map V.ref)) (hs : LsA K H ts rs) (ok : ColsOk cs) (hr : rs.length ≤ 48)
    (st : ∀ x ∈ rs, stray cs x = none ∧ x.length ≤ 1000) (k : ∀ q H', Same H H' → H q = none → Tb C H' q cs rs → Q (.ref q) H') :
    ∀ x dx, H x = none → H dx = none → dx ≠ x → spTable C K (.ref x :: ([.ref l, .ref r] ++ [])) (upd (upd H dx (.own x)) x (.ins C dx [])) (fun v H2 => v = .non ∧ Q (.ref x) H2) E0 := fun x dx hx hdx hne => by
  have s1 := same_new (o := .own x) hdx
  have hx1 : upd H dx (.own x) x = none := by rw [upd_ne hne.symm]; exact hx
  have s2 : Same H (upd (upd H dx (.own x)) x (.ins C dx [])) := s1.trans (same_new hx1)
  exact ⟨x, l, r, dx, cs, ts, rs, rfl, upd_same, hL.imp (fun q => s2.seq q) (fun q => s2 _ _ q), s2.seq hR, hs.same s2, ok.g, ok.nd, ok.n, hr, st, fun H' hk hT => ⟨rfl, k x H' (fun b o e => hk b o (ne_of_none e hx) (s2 _ _ e)) hx hT⟩⟩
section
variable {P : Program} {w : World} {K : PySem.W.Frag} {mg : Str → Option Value} {base : Heap} {A : Ad}
def spInOut (C : Addr) (K : PySem.W.Frag) : Sp := fun vs H Q _ => ∃ p l cs rs r, vs = [.ref p, .ref l] ∧ Tb C H p cs rs ∧ SqA K H l (sv r) ∧ cs.length ≤ 1000 ∧
  ∀ t H', Same H H' → H t = none → H' t = some (.lst (sv (outs cs r))) → Q (.ref t) H'
theorem ok_inOut (T : Txt P K mg A) : FnOk P w K mg base CX0 1 A.a_Table_inside_out A.d_Table_inside_out ["self", "row"] (spInOut A.C_Table K) := by
  refine T.F_Table_inside_out.ok sc_Table_inside_out (fun vs H Q E h => ?_) (fun cdv A' outer s H vs Q E hr h => ?_)
  · obtain ⟨p, l, cs, rs, r, rfl, _⟩ := h
    rfl
  · obtain ⟨p, l, cs, rs, r, rfl, hT, h2, hl, k⟩ := h
    refine ⟨_, (pss_one (ps_ret (pe_lc (own := [("name", 2)]) (g := gName 2) (tt := _) rfl sc_Table_inside_out.nd (pi_tup (pe_fld (pv 0) rfl)) (blkOk_by (N := ["self", "row", "name"]) (sc := defScope s_Table_inside_out) (by decide +kernel)) (fun _ _ _ _ _ => (pg_name (i := 2) sc_Table_inside_out.nd rfl (Or.inl rfl))) (fun _ _ _ _ _ => (pts_one (pt_cmpR (show OpR _ _ (rIn K true) from op_notIn_seq) (pv 2) (pv 1) (by with_unfolding_all rfl)))) (fun _ _ _ _ _ => (pv 2))))), ?_⟩
    obtain ⟨dx, ct, rt, ts, h1, hc, hr2, hts⟩ := hT
    have stepT : ∀ i z, cs[i]? = some z → z ∉ r → sv (outs (cs.take (i + 1)) r) = sv (outs (cs.take i) r) ++ [V.str z] := fun i z hz hm => by
      rw [take_succ hz, outs_T hm]; exact List.map_append
    have stepF : ∀ i z, cs[i]? = some z → z ∈ r → sv (outs (cs.take (i + 1)) r) = sv (outs (cs.take i) r) := fun i z hz hm => by
      rw [take_succ hz, outs_F hm]
    refine ⟨_, rfl, _, _, _, _, _, rfl, h1, T.cl_Table, T.n_Table_columns, fldsT_columns _ _, ct, rfl, ⟨_, SqT.of hc⟩, fun D hD => lc_it walk_tup (PvS H D fun i => sv (outs (cs.take i) r)) (pv0 hD rfl) (fun i H2 _ q => q.1.tup (SqT.of hc)) ?_ ?_⟩
    · rintro i x H3 H4 hi q ⟨rfl, hx⟩
      obtain ⟨z, hz, rfl⟩ := sv_get hx
      refine ⟨rfl, _, rfl, _, rfl, l, _, rfl, q.1.sqa h2, rfl, flat_sv _, _, rfl, ?_⟩
      rw [if_pos rfl, inV_str]
      have hlen : (sv (outs (cs.take i) r)).length ≤ 1000000 := by
        have := (outs_sub (cs.take i) r).length_le
        rw [List.length_take] at this
        rw [len_sv]; omega
      by_cases hm : z ∈ r
      · exact ifF (by rw [decide_eq_true hm]; rfl) (q.skip (stepF i z hz hm))
      · exact ifT (by rw [decide_eq_false hm]; rfl) ⟨_, rfl, q.push hD (stepT i z hz hm) hlen⟩
    · rintro H3 ⟨sm, h3⟩
      have h3 : H3 D = some (.lst (sv (outs (cs.take (sv cs).length) r))) := h3
      rw [len_sv, List.take_length] at h3
      exact k D H3 sm hD h3
abbrev nsc_Table_only : Scope := { kind := ScopeKind.function, names := [(".0", NameKind.local), ("row", NameKind.local), ("names", NameKind.cell)], isGenerator := false, isCoroutine := false }
def spOnly (C : Addr) (K : PySem.W.Frag) : Sp := fun vs H Q _ => ∃ p l cs rs ns, vs = [.ref p, .ref l] ∧ Tb C H p cs rs ∧ SqL K H l (sv ns) ∧ ColsOk cs ∧ rs.length ≤ 48 ∧ (∀ x ∈ ns, x ∈ cs) ∧
  ∀ q H', Same H H' → H q = none → Tb C H' q (canon cs ns) (rs.map fun r => canon (canon cs r) ns) → Q (.ref q) H'
theorem ok_only (T : Txt P K mg A) : FnOk P w K mg base CX0 6 A.a_Table_only A.d_Table_only ["self", "names"] (spOnly A.C_Table K) := by
  have G_check_known := ok_knownQ (P := P) (w := w) (base := base) T
  have G_Table_in_order := ok_inOrder (P := P) (w := w) (base := base) T
  have G_Table_init := ok_table (P := P) (w := w) (base := base) T
  refine T.F_Table_only.ok sc_Table_only (fun vs H Q E h => ?_) (fun cdv A' outer s H vs Q E hr h => ?_)
  · obtain ⟨p, l, cs, rs, ns, rfl, _⟩ := h
    rfl
  · obtain ⟨p, l, cs, rs, ns, rfl, hT, h2, hok, hrl, hns, k⟩ := h
    refine ⟨_, (pss_cons (ps_expr (pe_call G_check_known (hr.mono (by decide)) rfl T.mg_check_known T.F_check_known.kp T.b_check_known .nil pass0 (pa_cons (pe_fld (pv 0) rfl) (pa_cons (pv 1) pa_nil))))
      (pss_one (ps_ret (pe_make T.mk_Table G_Table_init (hr.mono (by decide)) rfl T.mg_Table T.bi .nil pass0 (pa_cons (pe_meth (pv 0) T.cl_Table T.m_Table_in_order G_Table_in_order (hr.mono (by decide)) T.b_Table_in_order .nil pass0 (pa_cons (pv 1) pa_nil)) (pa_cons (pe_lc (own := [("row", 2)]) (g := gName 2) (tt := tYes) rfl sc_Table_only.nd (pi_tup (pe_fld (pv 0) rfl)) (blkOk_by (N := ["self", "names", "row", "name"]) (sc := defScope s_Table_only) (by decide +kernel)) (fun _ _ _ _ _ => (pg_name (i := 2) sc_Table_only.nd rfl (Or.inl rfl))) (fun _ _ _ _ _ => pts_nil) (fun _ _ _ _ _ => (pe_lc (own := [("name", 3)]) (g := gName 3) (tt := _) rfl sc_Table_only.nd (show PI _ _ _ (iTup K _) from (pi_tup (pv 2))) (blkOk_by (N := ["self", "names", "row", "name"]) (sc := nsc_Table_only) (by decide +kernel)) (fun _ _ _ _ _ => (pg_name (i := 3) sc_Table_only.nd rfl (Or.inl rfl))) (fun _ _ _ _ _ => (pts_one (pt_cmpR (show OpR _ _ (rIn K false) from op_in_seq) (pv 3) (pv 1) (by with_unfolding_all rfl)))) (fun _ _ _ _ _ => (pv 3))))) pa_nil)))))), ?_⟩
    have hz : ∀ z ∈ ns, z.length ≤ 1000 := fun z hz => Nat.le_trans (hok.g z (hns z hz)).le (by decide)
    obtain ⟨dx, ct, rt, ts, h1, hc, hr2, hts⟩ := id hT
    refine ⟨_, rfl, _, _, _, _, _, rfl, h1, T.cl_Table, T.n_Table_columns, fldsT_columns _ _, _, rfl, ct, l, cs, ns, rfl, SqT.of hc, h2, hz, fun _ H1 s1 => ?_, fun z e => ?_⟩
    · refine ⟨_, rfl, p, dx, _, rfl, s1 _ _ h1, fldsT_in_order _ _, _, rfl, p, l, dx, ct, cs, ns, _, rfl, s1 _ _ h1, fldsT_columns _ _, s1 _ _ hc, .inl (s1.seq h2), by have := hok.n; omega, fun t H2 s2 ht => ?_⟩
      have s2 := s1.trans s2
      have hp2 := s2 _ _ h1
      have hr22 := s2 _ _ hr2
      have hts2 := hts.same s2
      refine ⟨_, rfl, _, _, _, _, _, rfl, hp2, T.cl_Table, T.n_Table_rows, fldsT_rows _ _, rt, rfl, ⟨_, SqT.of hr22⟩, fun D hD => lc_it walk_tup (fun i => LcL H2 D ((rs.take i).map fun r => canon (canon cs r) ns)) (lcl0 hD) (fun i H3 _ q => q.1.tup (SqT.of hr22)) ?_ ?_⟩
      · rintro i x H30 H3 hi q ⟨rfl, hx⟩
        obtain ⟨b, hb, rfl⟩ := refs_get hx
        obtain ⟨y, hy, ho⟩ := (hts2.same q.1).get hb
        obtain ⟨r, hr3, rfl⟩ : ∃ r, rs[i]? = some r ∧ y = canon cs r := by
          rw [List.getElem?_map] at hy
          cases e : rs[i]? with
          | none => rw [e] at hy; cases hy
          | some r => rw [e] at hy; exact ⟨r, rfl, (Option.some.inj hy).symm⟩
        have hil : i < rs.length := (List.getElem?_eq_some_iff.mp hr3).1
        have stepT : ∀ i z, (canon cs r)[i]? = some z → z ∈ ns → sv (canon ((canon cs r).take (i + 1)) ns) = sv (canon ((canon cs r).take i) ns) ++ [V.str z] := fun i z hz hm => by
          rw [take_succ hz, canon_T hm]; exact List.map_append
        have stepF : ∀ i z, (canon cs r)[i]? = some z → z ∉ ns → sv (canon ((canon cs r).take (i + 1)) ns) = sv (canon ((canon cs r).take i) ns) := fun i z hz hm => by
          rw [take_succ hz, canon_F hm]
        refine ⟨rfl, ?_⟩
        refine ⟨_, rfl, b, rfl, ⟨_, SqT.of ho⟩, fun D2 hD2 => lc_it walk_tup (PvS H3 D2 fun i => sv (canon ((canon cs r).take i) ns)) (pv0 hD2 rfl) (fun i H4 _ q => q.1.tup (SqT.of ho)) ?_ ?_⟩
        · rintro j x H40 H4 hj q4 ⟨rfl, hx⟩
          obtain ⟨z, hz, rfl⟩ := sv_get hx
          refine ⟨rfl, _, rfl, _, rfl, l, _, rfl, .inl (((s2.trans q.1).trans q4.1).seq h2), rfl, flat_sv _, _, rfl, ?_⟩
          rw [if_neg Bool.false_ne_true, inV_str]
          have hlen : (sv (canon ((canon cs r).take j) ns)).length ≤ 1000000 := by
            have h1 := (canon_sub ((canon cs r).take j) ns).length_le
            have h2 := (canon_sub cs r).length_le
            have h3 := hok.n
            rw [List.length_take] at h1
            rw [len_sv]; omega
          by_cases hm : z ∈ ns
          · exact ifT (decide_eq_true hm) ⟨_, rfl, q4.push hD2 (stepT j z hz hm) hlen⟩
          · exact ifF (decide_eq_false hm) (q4.skip (stepF j z hz hm))
        · rintro H4 ⟨sm, h4⟩
          have h4 : H4 D2 = some (.lst (sv (canon ((canon cs r).take (sv (canon cs r)).length) ns))) := h4
          rw [len_sv, List.take_length] at h4
          have := q.push hD sm h4 (fun z => by obtain ⟨us, hu, _⟩ := q.2; rw [z, hu] at hD2; cases hD2) (by rw [List.length_map, List.length_take]; omega)
          rw [take_succ hr3, List.map_append]
          exact this
      · rintro H3 ⟨s3, us, hD3, hus, _⟩
        rw [List.length_map, hts.len, List.length_map, List.take_length] at hus
        have s23 := s2.trans s3
        exact mk_table (.inr (s3 _ _ ht)) (SqL.of hD3) hus.lsa (hok.sub (canon_sub _ _)) (by rw [List.length_map]; exact hrl) (fun x hx => by obtain ⟨r, _, rfl⟩ := List.mem_map.mp hx; exact canon_row hok hns)
          fun q H4 s4 hq hT4 => k q H4 (s23.trans s4) (none_of s23 hq) hT4
    · exact absurd (unk_mem e).1 fun hm => (unk_mem e).2 (hns z hm)
end
end My
set_option maxRecDepth 100000
set_option maxHeartbeats 4000000
set_option exponentiation.threshold 10000
namespace My
open PySem L2
theorem sqa_ne {K : PySem.W.Frag} {H : Hp} {a b : Addr} {xs : List V} {o : HO} (h : SqA K H a xs) (n : a ≠ b) : SqA K (upd H b o) a xs := by
  rcases h with ((r | ⟨c, r⟩) | z) | ((r | ⟨c, r⟩) | z)
  · exact .inl (.inl (.inl (by rw [upd_ne n]; exact r)))
  · exact .inl (.inl (.inr ⟨c, by rw [upd_ne n]; exact r⟩))
  · exact .inl (.inr z)
  · exact .inr (.inl (.inl (by rw [upd_ne n]; exact r)))
  · exact .inr (.inl (.inr ⟨c, by rw [upd_ne n]; exact r⟩))
  · exact .inr (.inr z)
theorem LsA.app {K : PySem.W.Frag} {H : Hp} {ts : List Addr} {rs : List (List Str)} {t : Addr} {r : List Str} (h : LsA K H ts rs) (ht : SqA K H t (sv r)) : LsA K H (ts ++ [t]) (rs ++ [r]) := by
  refine ⟨by rw [List.length_append, List.length_append, h.len]; rfl, fun i u y a b => ?_⟩
  rcases Nat.lt_trichotomy i ts.length with c | c | c
  · rw [List.getElem?_append_left c] at a
    rw [List.getElem?_append_left (by rw [← h.len]; exact c)] at b
    exact h.at_ i u y a b
  · rw [c, List.getElem?_append_right (Nat.le_refl _), Nat.sub_self] at a
    rw [c, h.len, List.getElem?_append_right (Nat.le_refl _), Nat.sub_self] at b
    cases a; cases b; exact ht
  · rw [List.getElem?_append_right (by omega), List.getElem?_eq_none (by simp; omega)] at a
    cases a
/-- a comprehension's list of lists or tuples -/
theorem fldsT_turned (ct rt : Addr) : (fldsT ct rt).lookup ("turned" : Str) = none := by
  unfold fldsT; rw [lookup_putF, if_neg (by decide +kernel), lookup_putF, if_neg (by decide +kernel)]; rfl
theorem fldsT_only (ct rt : Addr) : (fldsT ct rt).lookup ("only" : Str) = none := by
  unfold fldsT; rw [lookup_putF, if_neg (by decide +kernel), lookup_putF, if_neg (by decide +kernel)]; rfl
def LcA (K : PySem.W.Frag) (H1 : Hp) (D : Addr) (lls : List (List Str)) (H : Hp) : Prop := Same H1 H ∧ ∃ us : List Addr, H D = some (.lst (us.map V.ref)) ∧ LsA K H us lls ∧ ∀ (i : Nat) (t : Addr), us[i]? = some t → t ≠ D
theorem lca0 {K : PySem.W.Frag} {H1 : Hp} {D : Addr} (hD : H1 D = none) : LcA K H1 D [] (upd H1 D (.lst [])) := ⟨same_new hD, [], upd_same, ⟨rfl, fun i t x h => by simp at h⟩, noT⟩
theorem LcA.push {K : PySem.W.Frag} {H1 H H' : Hp} {D a : Addr} {lls : List (List Str)} {y : List Str} (q : LcA K H1 D lls H) (hD : H1 D = none) (s : Same H H') (ha : SqA K H' a (sv y)) (hne : a ≠ D) (hl : lls.length ≤ 1000001) :
    ∃ acc, H' D = some (.lst acc) ∧ acc.length < sizeLine ∧ LcA K H1 D (lls ++ [y]) (upd H' D (.lst (acc ++ [.ref a]))) := by
  obtain ⟨sm, us, hd, hls, hn⟩ := q
  refine ⟨us.map V.ref, s _ _ hd, Nat.lt_of_le_of_lt (by rw [List.length_map, hls.len]; exact hl) (by decide), fun b o e => ?_, us ++ [a], ?_, ?_, ne_app hn hne⟩
  · rw [upd_ne (ne_of_none e hD)]; exact s _ _ (sm _ _ e)
  · rw [List.map_append]; exact upd_same
  · have h1 := (hls.same s).app ha
    exact ⟨h1.len, fun i t r e1 e2 => sqa_ne (h1.at_ i t r e1 e2) (ne_app hn hne i t e1)⟩
/-- the other columns -/
def others (cs : List Str) (z : Str) : List Str := cs.filter fun x => decide (x ≠ z)
def cutRow (cs : List Str) (z : Str) (r : List Str) : List Str := (others cs z).filter fun x => decide (x ∈ r) != decide (z ∈ r)
theorem others_sub (cs : List Str) (z : Str) : (others cs z).Sublist cs := List.filter_sublist
theorem others_T {l : List Str} {z x : Str} (h : x ≠ z) : others (l ++ [x]) z = others l z ++ [x] := by
  unfold others; rw [List.filter_append]; simp [h]
theorem others_F {l : List Str} {z x : Str} (h : x = z) : others (l ++ [x]) z = others l z := by
  unfold others; rw [List.filter_append]; simp [h]
theorem mem_others {cs : List Str} {z x : Str} : x ∈ others cs z ↔ x ∈ cs ∧ x ≠ z := by unfold others; rw [List.mem_filter, decide_eq_true_iff]
theorem canon_others (cs : List Str) (z : Str) : canon cs (others cs z) = others cs z := by
  unfold canon
  show cs.filter _ = cs.filter _
  refine List.filter_congr fun x hx => decide_eq_decide.mpr ?_
  rw [mem_others]
  exact ⟨fun h => h.2, fun h => ⟨hx, h⟩⟩
theorem mem_turn {cs : List Str} {z : Str} {r : List Str} {x : Str} (hz : z ∈ cs) (hx : x ∈ cs) : x ∈ turnRow cs z r ↔ (decide (x ∈ r) != decide (z ∈ r)) = true := by
  unfold turnRow
  by_cases h : z ∈ r
  · rw [if_pos (mem_canon.mpr ⟨hz, h⟩), mem_outs, mem_canon]
    simp [h, hx]
  · rw [if_neg (fun e => h (mem_canon.mp e).2), mem_canon]
    simp [h, hx]
theorem Tb.congr {C : Addr} {H : Hp} {p : Addr} {cs : List Str} {rs rs' : List (List Str)} (h : Tb C H p cs rs) (e : rs.map (canon cs) = rs'.map (canon cs)) : Tb C H p cs rs' := by
  obtain ⟨dx, ct, rt, ts, h1, h2, h3, h4⟩ := h
  exact ⟨dx, ct, rt, ts, h1, h2, h3, by rw [← e]; exact h4⟩
theorem canon_cut {cs : List Str} {z : Str} (r : List Str) : canon (others cs z) (cutRow cs z r) = cutRow cs z r := by
  unfold canon cutRow
  refine List.filter_congr fun x hx => ?_
  rw [Bool.eq_iff_iff, decide_eq_true_iff, List.mem_filter]
  exact ⟨fun h => h.2, fun h => ⟨hx, h⟩⟩
theorem cut_rows {cs : List Str} {z : Str} (hz : z ∈ cs) (r : List Str) : canon (others cs z) (canon (canon cs (turnRow cs z r)) (others cs z)) = canon (others cs z) (cutRow cs z r) := by
  rw [canon_cut]
  unfold cutRow
  show (others cs z).filter _ = _
  refine List.filter_congr fun x hx => ?_
  have hx' := (mem_others.mp hx).1
  rw [Bool.eq_iff_iff, decide_eq_true_iff, mem_canon, mem_canon, mem_turn hz hx']
  exact ⟨fun h => h.1.2, fun h => ⟨⟨hx', h⟩, hx⟩⟩
section
variable {P : Program} {w : World} {K : PySem.W.Frag} {mg : Str → Option Value} {base : Heap} {A : Ad}
def spTurned (C U : Addr) : Sp := fun vs H Q E => ∃ p z cs rs, vs = [.ref p, .str z] ∧ Tb C H p cs rs ∧ z.length ≤ 1000 ∧ ColsOk cs ∧ rs.length ≤ 48 ∧
  (z ∈ cs → ∀ q H', Same H H' → H q = none → Tb C H' q cs (rs.map (turnRow cs z)) → Q (.ref q) H') ∧
  (z ∉ cs → ∀ d H', Same H H' → H' d = some (.xd [("name", .str z)]) → E (.ref U) (some d) H')
theorem ok_turned (T : Txt P K mg A) : FnOk P w K mg base (L2.CX P w) 6 A.a_Table_turned A.d_Table_turned ["self", "name"] (spTurned A.C_Table A.C_UnknownColumn) := by
  have GX_check_known := ok_known (P := P) (w := w) (base := base) T
  have G_Table_inside_out := ok_inOut (P := P) (w := w) (base := base) T
  have G_Table_init := ok_table (P := P) (w := w) (base := base) T
  refine funX T.F_Table_turned sc_Table_turned (fun vs H Q E h => ?_) (fun cdv A' outer s H vs Q E hr h => ?_)
  · obtain ⟨p, z, cs, rs, rfl, _⟩ := h
    rfl
  · obtain ⟨p, z, cs, rs, rfl, hT, hz, hok, hrl, kq, ke⟩ := h
    refine ⟨_, (pss_cons (ps_expr (pe_callS GX_check_known (hr.mono (by decide)) rfl T.mg_check_known T.F_check_known.kp T.b_check_known (fun σ => passAt (takes_of rfl rfl rfl rfl) σ) (pa_cons (pe_fld (pv 0) rfl) (pa_cons (pe_lst (pa_cons (pv 1) pa_nil)) pa_nil))))
      (pss_one (ps_ret (pe_make T.mk_Table G_Table_init (hr.mono (by decide)) rfl T.mg_Table T.bi .nil pass0 (pa_cons (pe_fld (pv 0) rfl) (pa_cons (pe_lc (own := [("row", 2)]) (g := gName 2) (tt := tYes) rfl sc_Table_turned.nd (pi_tup (pe_fld (pv 0) rfl)) (blkOk_by (N := ["self", "name", "row"]) (sc := defScope s_Table_turned) (by decide +kernel)) (fun _ _ _ _ _ => (pg_name (i := 2) sc_Table_turned.nd rfl (Or.inl rfl))) (fun _ _ _ _ _ => pts_nil) (fun _ _ _ _ _ => (pe_ifExp (pt_cmpR (show OpR _ _ (rIn K false) from op_in_seq) (pv 1) (pv 2) (by with_unfolding_all rfl)) (pe_meth (pv 0) T.cl_Table T.m_Table_inside_out G_Table_inside_out (hr.mono (by decide)) T.b_Table_inside_out .nil pass0 (pa_cons (pv 2) pa_nil)) (pv 2)))) pa_nil)))))), ?_⟩
    obtain ⟨dx, ct, rt, ts, h1, hc, hr2, hts⟩ := id hT
    refine ⟨_, rfl, _, _, _, _, _, rfl, h1, T.cl_Table, T.n_Table_columns, fldsT_columns _ _, _, rfl, by show 1 ≤ sizeLine; decide, fun l hL => ?_⟩
    have s0 := same_new (o := .lst [V.str z]) hL
    refine ⟨ct, l, cs, [z], rfl, SqT.of (s0 _ _ hc), SqL.of upd_same, fun y hy => by rw [List.mem_singleton.mp hy]; exact hz, fun hu H1 s1 => ?_, fun y e d H1 s1 hd => ?_⟩
    · have s1 := s0.trans s1
      have hm : z ∈ cs := unk_none.mp hu z List.mem_cons_self
      have h11 := s1 _ _ h1
      have hr21 := s1 _ _ hr2
      have hts1 := hts.same s1
      refine ⟨_, rfl, _, _, _, _, _, rfl, h11, T.cl_Table, T.n_Table_columns, fldsT_columns _ _, _, rfl, _, _, _, _, _, rfl, h11, T.cl_Table, T.n_Table_rows, fldsT_rows _ _, rt, rfl, ⟨_, SqT.of hr21⟩, fun D hD => lc_it walk_tup (fun i => LcA K H1 D ((rs.take i).map (turnRow cs z))) (lca0 hD) (fun i H3 _ q => q.1.tup (SqT.of hr21)) ?_ ?_⟩
      · rintro i x H30 H3 hi q ⟨rfl, hx⟩
        obtain ⟨b, hb, rfl⟩ := refs_get hx
        obtain ⟨y, hy, ho⟩ := (hts1.same q.1).get hb
        obtain ⟨r, hr3, rfl⟩ : ∃ r, rs[i]? = some r ∧ y = canon cs r := by
          rw [List.getElem?_map] at hy
          cases e : rs[i]? with
          | none => rw [e] at hy; cases hy
          | some r => rw [e] at hy; exact ⟨r, rfl, (Option.some.inj hy).symm⟩
        have hil : i < rs.length := (List.getElem?_eq_some_iff.mp hr3).1
        have hbD : ∀ (H' : Hp) (b : Addr) (u : HO), H' b = some u → (∀ xs, u ≠ .lst xs) → Same H3 H' → b ≠ D := fun H' b u hb hu s e => by
          obtain ⟨us, hus, _⟩ := q.2
          rw [e, s _ _ hus] at hb
          exact hu _ (Option.some.inj hb).symm
        have hll : ((rs.take i).map (turnRow cs z)).length ≤ 1000001 := by rw [List.length_map, List.length_take]; omega
        have nD : ∀ {H' : Hp} {b : Addr}, Same H3 H' → H3 b = none → b ≠ D := fun {H' b} s e z => by
          obtain ⟨us, hus, _⟩ := q.2
          rw [z, hus] at e; cases e
        have hT3 : Tb A.C_Table H3 p cs rs := hT.same (s1.trans q.1)
        have e3 : (rs.take (i + 1)).map (turnRow cs z) = (rs.take i).map (turnRow cs z) ++ [turnRow cs z r] := by rw [take_succ hr3, List.map_append]; rfl
        refine ⟨rfl, _, rfl, _, rfl, b, _, rfl, .inr (SqT.of ho), rfl, flat_sv _, ?_⟩
        rw [if_neg Bool.false_ne_true, inV_str]
        by_cases hc3 : z ∈ canon cs r
        · have et : turnRow cs z r = outs cs (canon cs r) := if_pos hc3
          refine ⟨_, rfl, ifT (decide_eq_true hc3) ?_⟩
          refine ⟨_, rfl, p, dx, _, rfl, q.1 _ _ h11, fldsT_inside _ _, _, rfl, p, b, cs, rs, canon cs r, rfl, hT3, .inr (SqT.of ho), by have := hok.n; omega, fun t H4 s4 ht ht2 => ?_⟩
          rw [e3, et]
          exact q.push hD s4 (.inl (SqL.of ht2)) (nD s4 ht) hll
        · have et : turnRow cs z r = canon cs r := if_neg hc3
          refine ⟨_, rfl, ifF (decide_eq_false hc3) ?_⟩
          refine ⟨_, rfl, ?_⟩
          rw [e3, et]
          exact q.push hD (Same.refl _) (.inr (SqT.of ho)) (hbD H3 b _ ho (fun xs z => nomatch z) (Same.refl _)) hll
      · rintro H3 ⟨s3, us, hD3, hus, _⟩
        rw [List.length_map, hts.len, List.length_map, List.take_length] at hus
        have s13 := s1.trans s3
        exact mk_table (.inr (s13 _ _ hc)) (SqL.of hD3) hus hok (by rw [List.length_map]; exact hrl) (fun x hx => by obtain ⟨r, _, rfl⟩ := List.mem_map.mp hx; exact sub_row hok (turn_sub cs z r))
          fun q H4 s4 hq hT4 => kq hm q H4 (s13.trans s4) (none_of s13 hq) hT4
    · obtain ⟨m1, m2⟩ := unk_mem e
      rw [List.mem_singleton.mp m1] at hd m2
      exact ke m2 d H1 (s0.trans s1) hd
def spCutTab (C U : Addr) : Sp := fun vs H Q E => ∃ p z cs rs, vs = [.ref p, .str z] ∧ Tb C H p cs rs ∧ z.length ≤ 1000 ∧ ColsOk cs ∧ rs.length ≤ 48 ∧
  (z ∈ cs → ∀ q H', Same H H' → H q = none → Tb C H' q (others cs z) (rs.map (cutRow cs z)) → Q (.ref q) H') ∧
  (z ∉ cs → ∀ d H', Same H H' → H' d = some (.xd [("name", .str z)]) → E (.ref U) (some d) H')
theorem ok_cutTab (T : Txt P K mg A) : FnOk P w K mg base (L2.CX P w) 8 A.a_cut_table A.d_cut_table ["table", "name"] (spCutTab A.C_Table A.C_UnknownColumn) := by
  have GX_Table_turned := ok_turned (P := P) (w := w) (base := base) T
  have G_Table_only := ok_only (P := P) (w := w) (base := base) T
  refine funX T.F_cut_table sc_cut_table (fun vs H Q E h => ?_) (fun cdv A' outer s H vs Q E hr h => ?_)
  · obtain ⟨p, z, cs, rs, rfl, _⟩ := h
    rfl
  · obtain ⟨p, z, cs, rs, rfl, hT, hz, hok, hrl, kq, ke⟩ := h
    refine ⟨_, (pss_cons (ps_set (i := 2) sc_cut_table.nd rfl (Or.inl rfl) (pe_meth (pv 0) T.cl_Table T.m_Table_turned GX_Table_turned (hr.mono (by decide)) T.b_Table_turned .nil (passes_call (takes_of rfl rfl rfl rfl) (fun _ _ _ _ h => h)) (pa_cons (pv 1) pa_nil)))
      (pss_one (ps_ret (pe_meth (pv 2) T.cl_Table T.m_Table_only G_Table_only (hr.mono (by decide)) T.b_Table_only .nil pass0 (pa_cons (pe_lc (own := [("column", 3)]) (g := gName 3) (tt := _) rfl sc_cut_table.nd (pi_tup (pe_fld (pv 0) rfl)) (blkOk_by (N := ["table", "name", "turned", "column"]) (sc := defScope s_cut_table) (by decide +kernel)) (fun _ _ _ _ _ => (pg_name (i := 3) sc_cut_table.nd rfl (Or.inl rfl))) (fun _ _ _ _ _ => (pts_one (pt_cmpR op_ne (pv 3) (pv 1) (nomark _)))) (fun _ _ _ _ _ => (pv 3))) pa_nil))))), ?_⟩
    obtain ⟨dx, ct, rt, ts, h1, hc, hr2, hts⟩ := id hT
    refine ⟨_, rfl, p, dx, _, rfl, h1, fldsT_turned _ _, _, rfl, p, z, cs, rs, rfl, hT, hz, hok, hrl, fun hm q H1 s1 hq hT1 => ?_, ke⟩
    obtain ⟨dx1, ct1, rt1, ts1, h11, _⟩ := id hT1
    have h12 := s1 _ _ h1
    have hc2 := s1 _ _ hc
    refine ⟨_, rfl, q, dx1, _, rfl, h11, fldsT_only _ _, _, rfl, _, _, _, _, _, rfl, h12, T.cl_Table, T.n_Table_columns, fldsT_columns _ _, ct, rfl, ⟨_, SqT.of hc2⟩, fun D hD => lc_it walk_tup (PvS H1 D fun i => sv (others (cs.take i) z)) (pv0 hD rfl) (fun i H2 _ q => q.1.tup (SqT.of hc2)) ?_ ?_⟩
    · rintro i x H3 H4 hi q4 ⟨rfl, hx⟩
      obtain ⟨y, hy, rfl⟩ := sv_get hx
      have hlen : (sv (others (cs.take i) z)).length ≤ 1000000 := by
        have h1 := (others_sub (cs.take i) z).length_le
        have h3 := hok.n
        rw [List.length_take] at h1
        rw [len_sv]; omega
      refine ⟨rfl, ?_⟩
      by_cases e : y = z
      · refine ⟨_, rfl, _, rfl, rfl, _, rfl, ifF (by rw [sEq e]; rfl) (q4.skip ?_)⟩
        show sv (others (cs.take (i + 1)) z) = _
        rw [take_succ hy, others_F e]
      · refine ⟨_, rfl, _, rfl, rfl, _, rfl, ifT (by rw [sNe e]; rfl) ⟨_, rfl, q4.push hD ?_ hlen⟩⟩
        show sv (others (cs.take (i + 1)) z) = _
        rw [take_succ hy, others_T e]; exact List.map_append
    · rintro H3 ⟨sm, h3⟩
      have h3 : H3 D = some (.lst (sv (others (cs.take (sv cs).length) z))) := h3
      rw [len_sv, List.take_length] at h3
      have s13 := s1.trans sm
      refine ⟨q, D, cs, _, others cs z, rfl, hT1.same sm, SqL.of h3, hok, by rw [List.length_map]; exact hrl, fun x hx => (others_sub cs z).subset hx, fun q2 H4 s4 hq2 hT4 => ?_⟩
      rw [canon_others] at hT4
      refine kq hm q2 H4 (s13.trans s4) (none_of s13 hq2) (hT4.congr ?_)
      rw [List.map_map, List.map_map, List.map_map]
      exact List.map_congr_left fun r _ => cut_rows hm r
end
end My
set_option maxRecDepth 100000
set_option maxHeartbeats 4000000
set_option exponentiation.threshold 10000
namespace My
open PySem L2
/-- a row in one piece round the order, as the program asks -/
def ringRow (ns r : List Str) : Bool := decide (runs (flags ns r) ≤ 1) || decide (runs (flags ns (outs ns r)) ≤ 1)
def ringLay (cs : List Str) (rs : List (List Str)) (ns : List Str) : Bool := decide (fault cs ns = none) && (decide (ns.take 1 = cs.take 1) && rs.all fun r => ringRow ns (canon cs r))
theorem fault_in {cs ns : List Str} (h : fault cs ns = none) : ∀ z ∈ ns, z ∈ cs := by
  unfold fault at h
  cases hs : stray cs ns with
  | some i => rw [hs] at h; cases h
  | none => exact (stray_none_iff.mp hs).1
section
variable {P : Program} {w : World} {K : PySem.W.Frag} {mg : Str → Option Value} {base : Heap} {A : Ad}
def spCheck (C : Addr) (sq2 : Hp → Addr → List V → Prop) : Sp := fun vs H Q _ => ∃ p l cs rs ns, vs = [.ref p, .ref l] ∧ Tb C H p cs rs ∧ sq2 H l (sv ns) ∧ ns.length ≤ 1000 ∧ fault cs ns = none ∧ ∀ H', Same H H' → Q .non H'
theorem ok_check (T : Txt P K mg A) : FnOk P w K mg base CX0 3 A.a_check_order A.d_check_order ["table", "order"] (spCheck A.C_Table (SqL K)) := by
  have G_order_fault := ok_fault (P := P) (w := w) (base := base) T
  refine T.F_check_order.ok sc_check_order (fun vs H Q E h => ?_) (fun cdv A' outer s H vs Q E hr h => ?_)
  · obtain ⟨p, l, cs, rs, ns, rfl, _⟩ := h
    rfl
  · obtain ⟨p, l, cs, rs, ns, rfl, ht, h2, hl, hf, k⟩ := h
    obtain ⟨dx, ct, rt, ts, h1, hc, _, _⟩ := ht
    refine ⟨_, (pss_cons (ps_set (i := 2) sc_check_order.nd rfl (Or.inl rfl) (pe_call G_order_fault (hr.mono (by decide)) rfl T.mg_order_fault T.F_order_fault.kp T.b_order_fault .nil pass0 (pa_cons (pe_fld (pv 0) rfl) (pa_cons (pv 1) pa_nil))))
      (pss_one (ps_if (pt_cmpR op_notN (pv 2) pe_non (nomark _)) (pss_one ps_never) pss_nil))), ?_⟩
    refine ⟨_, rfl, _, _, _, _, _, rfl, h1, T.cl_Table, T.n_Table_columns, fldsT_columns _ _, _, rfl, ct, l, cs, ns, rfl, SqT.of hc, h2, hl, fun H2 sm => ?_⟩
    rw [hf]
    refine ⟨_, rfl, rfl, _, rfl, itNe rfl ?_⟩
    exact k _ sm
def spBroken (C : Addr) (sq2 : Hp → Addr → List V → Prop) : Sp := fun vs H Q _ => ∃ p l cs rs ns, vs = [.ref p, .ref l] ∧ Tb C H p cs rs ∧ sq2 H l (sv ns) ∧ ns.length ≤ 1000 ∧ fault cs ns = none ∧ rs.length ≤ 1000 ∧ ∀ q H', Same H H' → H q = none → H' q = some (.lst ((nums (fun r => decide (1 < rn ns cs r)) rs).map fun n => V.int (n : Nat))) → Q (.ref q) H'
def spLay (C : Addr) (sq2 : Hp → Addr → List V → Prop) : Sp := fun vs H Q _ => ∃ p l cs rs ns, vs = [.ref p, .ref l] ∧ Tb C H p cs rs ∧ sq2 H l (sv ns) ∧ ns.length ≤ 1000 ∧ rs.length ≤ 1000 ∧ ∀ H', Same H H' → Q (.bl (decide (fault cs ns = none) && decide ((nums (fun r => decide (1 < rn ns cs r)) rs).length = 0))) H'
theorem ok_broken (T : Txt P K mg A) : FnOk P w K mg base CX0 4 A.a_broken A.d_broken ["table", "order"] (spBroken A.C_Table (SqL K)) := by
  have G_check_order := ok_check (P := P) (w := w) (base := base) T
  have G_runs_of := ok_runs (P := P) (w := w) (base := base) T
  refine T.F_broken.ok sc_broken (fun vs H Q E h => ?_) (fun cdv A' outer s H vs Q E hr h => ?_)
  · obtain ⟨p, l, cs, rs, ns, rfl, _⟩ := h
    rfl
  · obtain ⟨p, l, cs, rs, ns, rfl, hT, hO, hl, hf, hrl, k⟩ := h
    refine ⟨_, (pss_cons (ps_expr (pe_call G_check_order (hr.mono (by decide)) rfl T.mg_check_order T.F_check_order.kp T.b_check_order .nil pass0 (pa_cons (pv 0) (pa_cons (pv 1) pa_nil))))
      (pss_one (ps_ret (pe_lc (own := [("number", 2), ("row", 3)]) (g := gTup K 2 (gCons (gName 2) (gCons (gName 3) gNil))) (tt := _) rfl sc_broken.nd (pi_enumT (by rfl) T.n_enumerate (pa_cons (pe_fld (pv 0) rfl) pa_nil)) (blkOk_by (N := ["table", "order", "number", "row"]) (sc := defScope s_broken) (by decide +kernel)) (fun _ _ _ _ _ => (pg_tup (by rfl) (pgs_cons (pg_name (i := 2) sc_broken.nd rfl (Or.inl rfl)) (pgs_cons (pg_name (i := 3) sc_broken.nd rfl (Or.inl rfl)) pgs_nil)))) (fun _ _ _ _ _ => (pts_one (pt_cmpR op_gt (pe_call G_runs_of (hr.mono (by decide)) rfl T.mg_runs_of T.F_runs_of.kp T.b_runs_of .nil pass0 (pa_cons (pv 3) (pa_cons (pv 1) pa_nil))) pe_int (nomark _)))) (fun _ _ _ _ _ => (pv 2)))))), ?_⟩
    refine ⟨_, rfl, _, rfl, p, l, cs, rs, ns, rfl, hT, hO, hl, hf, fun H1 s1 => ?_⟩
    obtain ⟨dx, ct, rt, ts, h1, hc, hr2, hts⟩ := hT.same s1
    have hO1 := s1.seq hO
    have hlen : (ts.map V.ref).length = rs.length := by rw [List.length_map, hts.len, List.length_map]
    refine ⟨_, rfl, _, _, _, _, _, rfl, h1, T.cl_Table, T.n_Table_rows, fldsT_rows _ _, rt, _, rfl, SqT.of hr2, fun D hD => lc_it walk_enumT (PvS H1 D fun i => ((List.range i).filter fun i => (fun r => decide (1 < rn ns cs r)) (rs.getD i [])).map fun n => V.int (n : Nat)) (pv0 hD rfl) (fun i H2 _ p => p.1.tup (SqT.of hr2)) ?_ ?_⟩
    · rintro i x H3 H4 hi q ⟨t, _, _, rfl, ht, rfl, ⟨⟩, hx⟩
      have hi' : i < rs.length := by rw [hlen] at hi; exact hi
      obtain ⟨b, hb, rfl⟩ := refs_get hx
      obtain ⟨y, hy, ho8⟩ := (hts.same q.1).get hb
      obtain ⟨r, hr3, rfl⟩ : ∃ r, rs[i]? = some r ∧ y = canon cs r := by
        rw [List.getElem?_map] at hy
        cases e : rs[i]? with
        | none => rw [e] at hy; cases hy
        | some r => rw [e] at hy; exact ⟨r, rfl, (Option.some.inj hy).symm⟩
      have p' := q.more (same_new (o := .tup [.int (i : Nat), .ref b]) ht)
      refine ⟨t, _, rfl, SqT.of upd_same, rfl, _, _, rfl, _, _, rfl, rfl, rfl, ?_⟩
      refine ⟨_, rfl, _, rfl, b, l, canon cs r, ns, rfl, .inr (SqT.of (same_new ht _ _ ho8)), p'.1.seq hO1, hl, fun H5 s5 => ⟨_, _, rfl, rfl, _, rfl, ?_⟩⟩
      have p5 := p'.more s5
      by_cases h1 : 1 < runs (flags ns (canon cs r))
      · refine itY (by omega) ⟨_, rfl, p5.push hD (numsT (f := fun r => decide (1 < rn ns cs r)) hr3 (decide_eq_true h1)) (nums_len (fun r => decide (1 < rn ns cs r)) _ i (by omega))⟩
      · exact itN (by omega) (p5.skip (numsF (f := fun r => decide (1 < rn ns cs r)) hr3 (decide_eq_false h1)))
    · rintro H3 ⟨sm, h3⟩
      rw [hlen] at h3
      exact k D H3 (s1.trans sm) (none_of s1 hD) h3
theorem ok_lay (T : Txt P K mg A) : FnOk P w K mg base CX0 5 A.a_is_layout A.d_is_layout ["table", "order"] (spLay A.C_Table (SqL K)) := by
  have G_order_fault := ok_fault (P := P) (w := w) (base := base) T
  have G_broken := ok_broken (P := P) (w := w) (base := base) T
  refine T.F_is_layout.ok sc_is_layout (fun vs H Q E h => ?_) (fun cdv A' outer s H vs Q E hr h => ?_)
  · obtain ⟨p, l, cs, rs, ns, rfl, _⟩ := h
    rfl
  · obtain ⟨p, l, cs, rs, ns, rfl, hT, hO, hl, hrl, k⟩ := h
    refine ⟨_, (pss_one (ps_ret (pe_and (pe_cmpR op_isN (pe_call G_order_fault (hr.mono (by decide)) rfl T.mg_order_fault T.F_order_fault.kp T.b_order_fault .nil pass0 (pa_cons (pe_fld (pv 0) rfl) (pa_cons (pv 1) pa_nil))) pe_non (nomark _)) (pe_one (pe_cmpR op_eq (pe_callB call_len_seq (by rfl) T.n_len (by decide +kernel) (pa_cons (pe_call G_broken (hr.mono (by decide)) rfl T.mg_broken T.F_broken.kp T.b_broken .nil pass0 (pa_cons (pv 0) (pa_cons (pv 1) pa_nil))) pa_nil)) pe_int (nomark _)))))), ?_⟩
    obtain ⟨dx, ct, rt, ts, h1, hc, hr2, hts⟩ := id hT
    refine ⟨_, rfl, _, _, _, _, _, rfl, h1, T.cl_Table, T.n_Table_columns, fldsT_columns _ _, _, rfl, ct, l, cs, ns, rfl, SqT.of hc, hO, hl, fun H1 s1 => ?_⟩
    cases hf : fault cs ns with
    | some j =>
      rw [hf] at k
      refine ⟨rfl, _, rfl, itN (fun z => nomatch z) ?_⟩
      exact k H1 s1
    | none =>
      rw [hf] at k
      refine ⟨rfl, _, rfl, itY rfl ?_⟩
      refine ⟨_, rfl, _, rfl, p, l, cs, rs, ns, rfl, hT.same s1, s1.seq hO, hl, hf, hrl, fun q H2 s2 hq hq2 => ⟨q, _, rfl, .inl (SqL.of hq2), rfl, ?_⟩⟩
      rw [List.length_map]
      have := k H2 (s1.trans s2)
      rw [show decide ((V.int (((nums (fun r => decide (1 < rn ns cs r)) rs).length : Nat) : Int)) = V.int 0) = decide ((nums (fun r => decide (1 < rn ns cs r)) rs).length = 0) from decide_eq_decide.mpr ⟨fun e => by have := V.int.inj e; omega, fun e => by rw [e]; rfl⟩]
      exact this
def spUnb (K : PySem.W.Frag) (sq2 : Hp → Addr → List V → Prop) : Sp := fun vs H Q _ => ∃ r l rs ns, vs = [.ref r, .ref l] ∧ SqT K H r (sv rs) ∧ sq2 H l (sv ns) ∧ ns.length ≤ 1000 ∧ ∀ H', Same H H' → Q (.bl (ringRow ns rs)) H'
theorem ok_unb (T : Txt P K mg A) : FnOk P w K mg base CX0 3 A.a_is_unbroken_round A.d_is_unbroken_round ["row", "order"] (spUnb K (SqL K)) := by
  have G_runs_of := ok_runs (P := P) (w := w) (base := base) T
  refine T.F_is_unbroken_round.ok sc_is_unbroken_round (fun vs H Q E h => ?_) (fun cdv A' outer s H vs Q E hr h => ?_)
  · obtain ⟨r, l, rs, ns, rfl, _⟩ := h
    rfl
  · obtain ⟨r, l, rs, ns, rfl, h1, h2, hl, k⟩ := h
    refine ⟨_, (pss_cons (ps_setLc (i := 2) (own := [("name", 3)]) (g := gName 3) (tt := _) rfl sc_is_unbroken_round.nd rfl rfl (sw_true rfl rfl rfl (by decide +kernel)) (pi_list (pv 1)) (blkOk_by (N := ["row", "order", "gap", "name"]) (sc := defScope s_is_unbroken_round) (by decide +kernel)) (fun _ _ _ _ _ => (pg_name (i := 3) sc_is_unbroken_round.nd rfl (Or.inl rfl))) (fun _ _ _ _ _ => (pts_one (pt_cmpR (show OpR _ _ (rIn K true) from op_notIn_seq) (pv 3) (pv 0) (by with_unfolding_all rfl)))) (fun _ _ _ _ _ => (pv 3)))
      (pss_one (ps_ret (pe_or (pe_cmpR op_le (pe_call G_runs_of (hr.mono (by decide)) rfl T.mg_runs_of T.F_runs_of.kp T.b_runs_of .nil pass0 (pa_cons (pv 0) (pa_cons (pv 1) pa_nil))) pe_int (nomark _)) (pe_one (pe_cmpR op_le (pe_call G_runs_of (hr.mono (by decide)) rfl T.mg_runs_of T.F_runs_of.kp T.b_runs_of .nil pass0 (pa_cons (pv 2) (pa_cons (pv 1) pa_nil))) pe_int (nomark _))))))), ?_⟩
    have stepT : ∀ i z, ns[i]? = some z → z ∉ rs → sv (outs (ns.take (i + 1)) rs) = sv (outs (ns.take i) rs) ++ [V.str z] := fun i z hz hm => by
      rw [take_succ hz, outs_T hm]; exact List.map_append
    have stepF : ∀ i z, ns[i]? = some z → z ∈ rs → sv (outs (ns.take (i + 1)) rs) = sv (outs (ns.take i) rs) := fun i z hz hm => by
      rw [take_succ hz, outs_F hm]
    refine ⟨_, rfl, l, rfl, ⟨_, h2⟩, fun D hD => lc_it walk_list (PvS H D fun i => sv (outs (ns.take i) rs)) (pv0 hD rfl) (fun i H2 _ q => q.1.seq h2) ?_ ?_⟩
    · rintro i x H3 H4 hi q ⟨rfl, hx⟩
      obtain ⟨z, hz, rfl⟩ := sv_get hx
      refine ⟨rfl, _, rfl, _, rfl, r, _, rfl, .inr (q.1.tup h1), rfl, flat_sv _, _, rfl, ?_⟩
      rw [if_pos rfl, inV_str]
      have hlen : (sv (outs (ns.take i) rs)).length ≤ 1000000 := by
        have := (outs_sub (ns.take i) rs).length_le
        rw [List.length_take] at this
        rw [len_sv]; omega
      by_cases hm : z ∈ rs
      · exact ifF (by rw [decide_eq_true hm]; rfl) (q.skip (stepF i z hz hm))
      · exact ifT (by rw [decide_eq_false hm]; rfl) ⟨_, rfl, q.push hD (stepT i z hz hm) hlen⟩
    · rintro H3 ⟨sm, h3⟩
      have h3 : H3 D = some (.lst (sv (outs (ns.take (sv ns).length) rs))) := h3
      rw [len_sv, List.take_length] at h3
      refine ⟨_, rfl, _, rfl, r, l, rs, ns, rfl, .inr (sm.tup h1), sm.seq h2, hl, fun H4 s4 => ⟨_, _, rfl, rfl, _, rfl, ?_⟩⟩
      by_cases hr1 : runs (flags ns rs) ≤ 1
      · refine itY (by omega) ?_
        have e : ringRow ns rs = true := by unfold ringRow; rw [decide_eq_true hr1]; rfl
        have := k H4 (sm.trans s4)
        rw [e] at this
        exact this
      · refine itN (by omega) ?_
        refine ⟨_, rfl, _, rfl, D, l, outs ns rs, ns, rfl, .inl (SqL.of (s4 _ _ h3)), (sm.trans s4).seq h2, hl, fun H5 s5 => ⟨_, _, rfl, rfl, ?_⟩⟩
        have e : ringRow ns rs = decide (((runs (flags ns (outs ns rs)) : Nat) : Int) ≤ 1) := by
          unfold ringRow; rw [decide_eq_false hr1, Bool.false_or]; exact decide_eq_decide.mpr (by omega)
        have := k H5 ((sm.trans s4).trans s5)
        rw [e] at this
        exact this
theorem ok_unbT (T : Txt P K mg A) : FnOk P w K mg base CX0 3 A.a_is_unbroken_round A.d_is_unbroken_round ["row", "order"] (spUnb K (SqT K)) := by
  have G_runs_ofT := ok_runsT (P := P) (w := w) (base := base) T
  refine T.F_is_unbroken_round.ok sc_is_unbroken_round (fun vs H Q E h => ?_) (fun cdv A' outer s H vs Q E hr h => ?_)
  · obtain ⟨r, l, rs, ns, rfl, _⟩ := h
    rfl
  · obtain ⟨r, l, rs, ns, rfl, h1, h2, hl, k⟩ := h
    refine ⟨_, (pss_cons (ps_setLc (i := 2) (own := [("name", 3)]) (g := gName 3) (tt := _) rfl sc_is_unbroken_round.nd rfl rfl (sw_true rfl rfl rfl (by decide +kernel)) (pi_tup (pv 1)) (blkOk_by (N := ["row", "order", "gap", "name"]) (sc := defScope s_is_unbroken_round) (by decide +kernel)) (fun _ _ _ _ _ => (pg_name (i := 3) sc_is_unbroken_round.nd rfl (Or.inl rfl))) (fun _ _ _ _ _ => (pts_one (pt_cmpR (show OpR _ _ (rIn K true) from op_notIn_seq) (pv 3) (pv 0) (by with_unfolding_all rfl)))) (fun _ _ _ _ _ => (pv 3)))
      (pss_one (ps_ret (pe_or (pe_cmpR op_le (pe_call G_runs_ofT (hr.mono (by decide)) rfl T.mg_runs_of T.F_runs_of.kp T.b_runs_of .nil pass0 (pa_cons (pv 0) (pa_cons (pv 1) pa_nil))) pe_int (nomark _)) (pe_one (pe_cmpR op_le (pe_call G_runs_ofT (hr.mono (by decide)) rfl T.mg_runs_of T.F_runs_of.kp T.b_runs_of .nil pass0 (pa_cons (pv 2) (pa_cons (pv 1) pa_nil))) pe_int (nomark _))))))), ?_⟩
    have stepT : ∀ i z, ns[i]? = some z → z ∉ rs → sv (outs (ns.take (i + 1)) rs) = sv (outs (ns.take i) rs) ++ [V.str z] := fun i z hz hm => by
      rw [take_succ hz, outs_T hm]; exact List.map_append
    have stepF : ∀ i z, ns[i]? = some z → z ∈ rs → sv (outs (ns.take (i + 1)) rs) = sv (outs (ns.take i) rs) := fun i z hz hm => by
      rw [take_succ hz, outs_F hm]
    refine ⟨_, rfl, l, rfl, ⟨_, h2⟩, fun D hD => lc_it walk_tup (PvS H D fun i => sv (outs (ns.take i) rs)) (pv0 hD rfl) (fun i H2 _ q => q.1.tup h2) ?_ ?_⟩
    · rintro i x H3 H4 hi q ⟨rfl, hx⟩
      obtain ⟨z, hz, rfl⟩ := sv_get hx
      refine ⟨rfl, _, rfl, _, rfl, r, _, rfl, .inr (q.1.tup h1), rfl, flat_sv _, _, rfl, ?_⟩
      rw [if_pos rfl, inV_str]
      have hlen : (sv (outs (ns.take i) rs)).length ≤ 1000000 := by
        have := (outs_sub (ns.take i) rs).length_le
        rw [List.length_take] at this
        rw [len_sv]; omega
      by_cases hm : z ∈ rs
      · exact ifF (by rw [decide_eq_true hm]; rfl) (q.skip (stepF i z hz hm))
      · exact ifT (by rw [decide_eq_false hm]; rfl) ⟨_, rfl, q.push hD (stepT i z hz hm) hlen⟩
    · rintro H3 ⟨sm, h3⟩
      have h3 : H3 D = some (.lst (sv (outs (ns.take (sv ns).length) rs))) := h3
      rw [len_sv, List.take_length] at h3
      refine ⟨_, rfl, _, rfl, r, l, rs, ns, rfl, .inr (sm.tup h1), sm.tup h2, hl, fun H4 s4 => ⟨_, _, rfl, rfl, _, rfl, ?_⟩⟩
      by_cases hr1 : runs (flags ns rs) ≤ 1
      · refine itY (by omega) ?_
        have e : ringRow ns rs = true := by unfold ringRow; rw [decide_eq_true hr1]; rfl
        have := k H4 (sm.trans s4)
        rw [e] at this
        exact this
      · refine itN (by omega) ?_
        refine ⟨_, rfl, _, rfl, D, l, outs ns rs, ns, rfl, .inl (SqL.of (s4 _ _ h3)), (sm.trans s4).tup h2, hl, fun H5 s5 => ⟨_, _, rfl, rfl, ?_⟩⟩
        have e : ringRow ns rs = decide (((runs (flags ns (outs ns rs)) : Nat) : Int) ≤ 1) := by
          unfold ringRow; rw [decide_eq_false hr1, Bool.false_or]; exact decide_eq_decide.mpr (by omega)
        have := k H5 ((sm.trans s4).trans s5)
        rw [e] at this
        exact this
def spRing (C : Addr) (sq2 : Hp → Addr → List V → Prop) : Sp := fun vs H Q _ => ∃ p l cs rs ns, vs = [.ref p, .ref l] ∧ Tb C H p cs rs ∧ sq2 H l (sv ns) ∧ ns.length ≤ 1000 ∧ rs.length ≤ 48 ∧ ColsOk cs ∧ ∀ H', Same H H' → Q (.bl (ringLay cs rs ns)) H'
theorem ok_ring (T : Txt P K mg A) : FnOk P w K mg base CX0 5 A.a_is_ring_layout A.d_is_ring_layout ["table", "order"] (spRing A.C_Table (SqL K)) := by
  have G_order_fault := ok_fault (P := P) (w := w) (base := base) T
  have G_is_unbroken_round := ok_unb (P := P) (w := w) (base := base) T
  refine T.F_is_ring_layout.ok sc_is_ring_layout (fun vs H Q E h => ?_) (fun cdv A' outer s H vs Q E hr h => ?_)
  · obtain ⟨p, l, cs, rs, ns, rfl, _⟩ := h
    rfl
  · obtain ⟨p, l, cs, rs, ns, rfl, hT, hO, hl, hrl, hok, k⟩ := h
    refine ⟨_, (pss_cons (ps_if (pt_cmpR op_notN (pe_call G_order_fault (hr.mono (by decide)) rfl T.mg_order_fault T.F_order_fault.kp T.b_order_fault .nil pass0 (pa_cons (pe_fld (pv 0) rfl) (pa_cons (pv 1) pa_nil))) pe_non (nomark _)) (pss_one (ps_ret pe_bl)) pss_nil)
      (pss_cons (ps_if (pt_cmpR (op_neD hr.units) (pe_callTy (show CallR _ _ (rTupOf K) from call_tuple_of) (by rfl) T.n_tuple (by decide +kernel) (pa_cons (pe_slice sl_list (pv 1) po_none (po_some pe_int)) pa_nil)) (pe_slice sl_tupA (pe_fld (pv 0) rfl) po_none (po_some pe_int)) (nomark _)) (pss_one (ps_ret pe_bl)) pss_nil)
      (pss_one (ps_ret (pe_callB (cr_all rfl) (by rfl) T.n_all (by decide +kernel) (pa_cons (pe_lc (own := [("row", 2)]) (g := gName 2) (tt := tYes) rfl sc_is_ring_layout.nd (pi_tup (pe_fld (pv 0) rfl)) (blkOk_by (N := ["table", "order", "row"]) (sc := defScope s_is_ring_layout) (by decide +kernel)) (fun _ _ _ _ _ => (pg_name (i := 2) sc_is_ring_layout.nd rfl (Or.inl rfl))) (fun _ _ _ _ _ => pts_nil) (fun _ _ _ _ _ => (pe_call G_is_unbroken_round (hr.mono (by decide)) rfl T.mg_is_unbroken_round T.F_is_unbroken_round.kp T.b_is_unbroken_round .nil pass0 (pa_cons (pv 2) (pa_cons (pv 1) pa_nil))))) pa_nil)))))), ?_⟩
    obtain ⟨dx, ct, rt, ts, h1, hc, hr2, hts⟩ := id hT
    refine ⟨_, rfl, _, _, _, _, _, rfl, h1, T.cl_Table, T.n_Table_columns, fldsT_columns _ _, _, rfl, ct, l, cs, ns, rfl, SqT.of hc, hO, hl, fun H1 s1 => ?_⟩
    cases hf : fault cs ns with
    | some j =>
      refine ⟨rfl, _, rfl, itNeN (fun z => nomatch z) ?_⟩
      have e : ringLay cs rs ns = false := by unfold ringLay; rw [hf]; rfl
      have := k H1 s1
      rw [e] at this
      exact this
    | none =>
      have gn : ∀ z ∈ ns, Good z := fun z hz => hok.g z (fault_in hf z hz)
      refine ⟨rfl, _, rfl, itNe rfl ?_⟩
      have e1 : ∀ ys : List Str, cutV (sv ys) none (some 1) = sv (ys.take 1) := fun ys => by
        rw [show (1 : Int) = ((1 : Nat) : Int) from rfl, cut_takeG, sv_take]
      refine ⟨_, rfl, _, rfl, slO (s1.seq hO) fun a H2 s2 _ ha => ?_⟩
      rw [e1] at ha
      dsimp only [tNil]
      refine tupO (K := K) (.inl (SqL.of ha)) fun b H3 s3 hb => ?_
      have s13 := s1.trans (s2.trans s3)
      have h13 := s13 _ _ h1
      refine ⟨_, rfl, _, _, _, _, _, rfl, h13, T.cl_Table, T.n_Table_columns, fldsT_columns _ _, _, rfl, slOT (SqT.of (s13 _ _ hc)) fun c H4 s4 hc4 => ?_⟩
      rw [e1] at hc4
      have s14 := s13.trans s4
      have ok1 : ∀ z ∈ ns.take 1, Okz z := fun z hz => okz_good (gn z (List.mem_of_mem_take hz))
      have ok2 : ∀ z ∈ cs.take 1, Okz z := fun z hz => okz_good (hok.g z (List.mem_of_mem_take hz))
      refine ⟨.tuple (pd (ns.take 1)), .tuple (pd (cs.take 1)), .tup (xs := sv (ns.take 1)) (s4.tup hb) (dp_pd _), .tup (xs := sv (cs.take 1)) hc4 (dp_pd _), shaped_pdT ok1, shaped_pdT ok2, _, rfl, ?_⟩
      rw [eqv_T]
      by_cases e : ns.take 1 = cs.take 1
      · refine ifF (by rw [decide_eq_true e]; rfl) ?_
        have h14 := s14 _ _ h1
        have hr4 := s14 _ _ hr2
        have hts4 := hts.same s14
        have hO4 := s14.seq hO
        refine ⟨_, rfl, _, _, _, _, _, rfl, h14, T.cl_Table, T.n_Table_rows, fldsT_rows _ _, rt, rfl, ⟨_, SqT.of hr4⟩, fun D hD => lc_it walk_tup (PvS H4 D fun i => (rs.take i).map fun r => V.bl (ringRow ns (canon cs r))) (pv0 hD rfl) (fun i H5 _ q => q.1.tup (SqT.of hr4)) ?_ ?_⟩
        · rintro i x H50 H5 hi q ⟨rfl, hx⟩
          obtain ⟨b2, hb2, rfl⟩ := refs_get hx
          obtain ⟨y, hy, ho⟩ := (hts4.same q.1).get hb2
          obtain ⟨r, hr3, rfl⟩ : ∃ r, rs[i]? = some r ∧ y = canon cs r := by
            rw [List.getElem?_map] at hy
            cases e : rs[i]? with
            | none => rw [e] at hy; cases hy
            | some r => rw [e] at hy; exact ⟨r, rfl, (Option.some.inj hy).symm⟩
          have hil : i < rs.length := (List.getElem?_eq_some_iff.mp hr3).1
          refine ⟨rfl, _, rfl, _, rfl, b2, l, canon cs r, ns, rfl, SqT.of ho, q.1.seq hO4, hl, fun H6 s6 => ?_⟩
          refine (q.more s6).push hD ?_ ?_
          · show (rs.take (i + 1)).map _ = _
            rw [take_succ hr3, List.map_append]; rfl
          · show ((rs.take i).map _).length ≤ 1000000
            rw [List.length_map, List.length_take]; omega
        · rintro H5 ⟨sm, h5⟩
          have h5 : H5 D = some (.lst ((rs.take (ts.map V.ref).length).map fun r => V.bl (ringRow ns (canon cs r)))) := h5
          rw [List.length_map, hts.len, List.length_map, List.take_length] at h5
          refine ⟨D, rs.map fun r => ringRow ns (canon cs r), rfl, SqL.of (by rw [List.map_map]; exact h5), ?_⟩
          have e2 : ringLay cs rs ns = (rs.map fun r => ringRow ns (canon cs r)).all id := by
            unfold ringLay
            rw [hf, decide_eq_true e, List.all_map]; rfl
          have := k H5 (s14.trans sm)
          rw [e2] at this
          exact this
      · refine ifT (by rw [decide_eq_false e]; rfl) ?_
        have e2 : ringLay cs rs ns = false := by unfold ringLay; rw [hf, decide_eq_false e]; rfl
        have := k H4 s14
        rw [e2] at this
        exact this
theorem ok_ringT (T : Txt P K mg A) : FnOk P w K mg base CX0 5 A.a_is_ring_layout A.d_is_ring_layout ["table", "order"] (spRing A.C_Table (SqT K)) := by
  have G_order_faultT := ok_faultT (P := P) (w := w) (base := base) T
  have G_is_unbroken_roundT := ok_unbT (P := P) (w := w) (base := base) T
  refine T.F_is_ring_layout.ok sc_is_ring_layout (fun vs H Q E h => ?_) (fun cdv A' outer s H vs Q E hr h => ?_)
  · obtain ⟨p, l, cs, rs, ns, rfl, _⟩ := h
    rfl
  · obtain ⟨p, l, cs, rs, ns, rfl, hT, hO, hl, hrl, hok, k⟩ := h
    refine ⟨_, (pss_cons (ps_if (pt_cmpR op_notN (pe_call G_order_faultT (hr.mono (by decide)) rfl T.mg_order_fault T.F_order_fault.kp T.b_order_fault .nil pass0 (pa_cons (pe_fld (pv 0) rfl) (pa_cons (pv 1) pa_nil))) pe_non (nomark _)) (pss_one (ps_ret pe_bl)) pss_nil)
      (pss_cons (ps_if (pt_cmpR (op_neD hr.units) (pe_callTy (show CallR _ _ (rTupOf K) from call_tuple_of) (by rfl) T.n_tuple (by decide +kernel) (pa_cons (pe_slice sl_tupA (pv 1) po_none (po_some pe_int)) pa_nil)) (pe_slice sl_tupA (pe_fld (pv 0) rfl) po_none (po_some pe_int)) (nomark _)) (pss_one (ps_ret pe_bl)) pss_nil)
      (pss_one (ps_ret (pe_callB (cr_all rfl) (by rfl) T.n_all (by decide +kernel) (pa_cons (pe_lc (own := [("row", 2)]) (g := gName 2) (tt := tYes) rfl sc_is_ring_layout.nd (pi_tup (pe_fld (pv 0) rfl)) (blkOk_by (N := ["table", "order", "row"]) (sc := defScope s_is_ring_layout) (by decide +kernel)) (fun _ _ _ _ _ => (pg_name (i := 2) sc_is_ring_layout.nd rfl (Or.inl rfl))) (fun _ _ _ _ _ => pts_nil) (fun _ _ _ _ _ => (pe_call G_is_unbroken_roundT (hr.mono (by decide)) rfl T.mg_is_unbroken_round T.F_is_unbroken_round.kp T.b_is_unbroken_round .nil pass0 (pa_cons (pv 2) (pa_cons (pv 1) pa_nil))))) pa_nil)))))), ?_⟩
    obtain ⟨dx, ct, rt, ts, h1, hc, hr2, hts⟩ := id hT
    refine ⟨_, rfl, _, _, _, _, _, rfl, h1, T.cl_Table, T.n_Table_columns, fldsT_columns _ _, _, rfl, ct, l, cs, ns, rfl, SqT.of hc, hO, hl, fun H1 s1 => ?_⟩
    cases hf : fault cs ns with
    | some j =>
      refine ⟨rfl, _, rfl, itNeN (fun z => nomatch z) ?_⟩
      have e : ringLay cs rs ns = false := by unfold ringLay; rw [hf]; rfl
      have := k H1 s1
      rw [e] at this
      exact this
    | none =>
      have gn : ∀ z ∈ ns, Good z := fun z hz => hok.g z (fault_in hf z hz)
      refine ⟨rfl, _, rfl, itNe rfl ?_⟩
      have e1 : ∀ ys : List Str, cutV (sv ys) none (some 1) = sv (ys.take 1) := fun ys => by
        rw [show (1 : Int) = ((1 : Nat) : Int) from rfl, cut_takeG, sv_take]
      refine ⟨_, rfl, _, rfl, slOT (s1.tup hO) fun a H2 s2 ha => ?_⟩
      rw [e1] at ha
      dsimp only [tNil]
      refine tupO (K := K) (.inr (id ha)) fun b H3 s3 hb => ?_
      have s13 := s1.trans (s2.trans s3)
      have h13 := s13 _ _ h1
      refine ⟨_, rfl, _, _, _, _, _, rfl, h13, T.cl_Table, T.n_Table_columns, fldsT_columns _ _, _, rfl, slOT (SqT.of (s13 _ _ hc)) fun c H4 s4 hc4 => ?_⟩
      rw [e1] at hc4
      have s14 := s13.trans s4
      have ok1 : ∀ z ∈ ns.take 1, Okz z := fun z hz => okz_good (gn z (List.mem_of_mem_take hz))
      have ok2 : ∀ z ∈ cs.take 1, Okz z := fun z hz => okz_good (hok.g z (List.mem_of_mem_take hz))
      refine ⟨.tuple (pd (ns.take 1)), .tuple (pd (cs.take 1)), .tup (xs := sv (ns.take 1)) (s4.tup hb) (dp_pd _), .tup (xs := sv (cs.take 1)) hc4 (dp_pd _), shaped_pdT ok1, shaped_pdT ok2, _, rfl, ?_⟩
      rw [eqv_T]
      by_cases e : ns.take 1 = cs.take 1
      · refine ifF (by rw [decide_eq_true e]; rfl) ?_
        have h14 := s14 _ _ h1
        have hr4 := s14 _ _ hr2
        have hts4 := hts.same s14
        have hO4 := s14.tup hO
        refine ⟨_, rfl, _, _, _, _, _, rfl, h14, T.cl_Table, T.n_Table_rows, fldsT_rows _ _, rt, rfl, ⟨_, SqT.of hr4⟩, fun D hD => lc_it walk_tup (PvS H4 D fun i => (rs.take i).map fun r => V.bl (ringRow ns (canon cs r))) (pv0 hD rfl) (fun i H5 _ q => q.1.tup (SqT.of hr4)) ?_ ?_⟩
        · rintro i x H50 H5 hi q ⟨rfl, hx⟩
          obtain ⟨b2, hb2, rfl⟩ := refs_get hx
          obtain ⟨y, hy, ho⟩ := (hts4.same q.1).get hb2
          obtain ⟨r, hr3, rfl⟩ : ∃ r, rs[i]? = some r ∧ y = canon cs r := by
            rw [List.getElem?_map] at hy
            cases e : rs[i]? with
            | none => rw [e] at hy; cases hy
            | some r => rw [e] at hy; exact ⟨r, rfl, (Option.some.inj hy).symm⟩
          have hil : i < rs.length := (List.getElem?_eq_some_iff.mp hr3).1
          refine ⟨rfl, _, rfl, _, rfl, b2, l, canon cs r, ns, rfl, SqT.of ho, q.1.tup hO4, hl, fun H6 s6 => ?_⟩
          refine (q.more s6).push hD ?_ ?_
          · show (rs.take (i + 1)).map _ = _
            rw [take_succ hr3, List.map_append]; rfl
          · show ((rs.take i).map _).length ≤ 1000000
            rw [List.length_map, List.length_take]; omega
        · rintro H5 ⟨sm, h5⟩
          have h5 : H5 D = some (.lst ((rs.take (ts.map V.ref).length).map fun r => V.bl (ringRow ns (canon cs r)))) := h5
          rw [List.length_map, hts.len, List.length_map, List.take_length] at h5
          refine ⟨D, rs.map fun r => ringRow ns (canon cs r), rfl, SqL.of (by rw [List.map_map]; exact h5), ?_⟩
          have e2 : ringLay cs rs ns = (rs.map fun r => ringRow ns (canon cs r)).all id := by
            unfold ringLay
            rw [hf, decide_eq_true e, List.all_map]; rfl
          have := k H5 (s14.trans sm)
          rw [e2] at this
          exact this
      · refine ifT (by rw [decide_eq_false e]; rfl) ?_
        have e2 : ringLay cs rs ns = false := by unfold ringLay; rw [hf, decide_eq_false e]; rfl
        have := k H4 s14
        rw [e2] at this
        exact this
end
end My
set_option maxRecDepth 100000
set_option maxHeartbeats 4000000
set_option exponentiation.threshold 10000
namespace My
open PySem L2
theorem ColsOk.ring {cs : List Str} (h : ColsOk cs) : RingOk cs := ⟨h.g, h.nd, h.n⟩
theorem RingOk.cols {cs : List Str} (h : RingOk cs) : ColsOk cs := ⟨h.g, h.nd, h.n⟩
section
variable {P : Program} {w : World} {K : PySem.W.Frag} {mg : Str → Option Value} {base : Heap} {A : Ad}
def spInit (C : Addr) (K : PySem.W.Frag) : Sp := fun vs H Q _ => ∃ p l dx ns, vs = [.ref p, .ref l] ∧ H p = some (.ins C dx []) ∧ SqL K H l (sv ns) ∧ RingOk ns ∧
  ∀ H', (∀ b o, b ≠ p → H b = some o → H' b = some o) → Rd C H' p ns → Q .non H'
theorem ok_init (T : Txt P K mg A) : FnOk P w K mg base CX0 4 A.a_Round_init A.d_Round_init ["self", "names"] (spInit A.C_Round K) := by
  have G_first_bad_name := ok_firstBadO (P := P) (w := w) (base := base) T
  refine T.F_Round_init.ok sc_Round_init (fun vs H Q E h => ?_) (fun cdv A' outer s H vs Q E hr h => ?_)
  · obtain ⟨p, l, dx, ns, rfl, _⟩ := h
    rfl
  · obtain ⟨p, l, dx, ns, rfl, hp, hL, hok, kq⟩ := h
    refine ⟨_, (pss_cons (ps_set (i := 2) sc_Round_init.nd rfl (Or.inl rfl) (pe_call G_first_bad_name (hr.mono (by decide)) rfl T.mg_first_bad_name T.F_first_bad_name.kp T.b_first_bad_name .nil pass0 (pa_cons (pv 1) pa_nil)))
      (pss_cons (ps_if (pt_cmpR op_notN (pv 2) pe_non (nomark _)) (pss_one ps_never) pss_nil)
      (pss_cons (ps_if (pt_cmpR op_gt (pe_callB call_len_seq (by rfl) T.n_len (by decide +kernel) (pa_cons (pv 1) pa_nil)) (ClX.pe_cval (pe_glob (v := .ref A.C_Table) rfl T.mg_Table rfl)) (nomark _)) (pss_one ps_never) pss_nil)
      (pss_one (ps_fld (pv 0) (pe_callTy (show CallR _ _ (rTupD K) from call_tuple_ofD) (by rfl) T.n_tuple (by decide +kernel) (pa_cons (pv 1) pa_nil)) rfl))))), ?_⟩
    have hz : ∀ z ∈ ns, z.length ≤ 16000000 := fun z hz => Nat.le_trans (hok.g z hz).le (by decide)
    refine ⟨_, rfl, l, ns, rfl, .inl hL, hz, fun H1 s1 => ?_⟩
    rw [firstBad_none_iff.mpr ⟨hok.g, hok.nd⟩]
    obtain ⟨u, hu⟩ := T.cv_Table_MOST_COLUMNS
    refine ⟨_, rfl, rfl, _, rfl, itNe rfl ⟨_, rfl, l, _, rfl, .inl (s1.seq hL), _, _, _, _, rfl, T.cr_Table, hu, _, _, rfl, rfl, _, rfl, ?_⟩⟩
    refine itN (by rw [len_sv]; have := hok.n; omega) ⟨_, rfl, l, sv ns, rfl, ?_⟩
    refine .inl ⟨s1.seq hL, fun ct o hct hod => ?_⟩
    have hp2 : upd H1 ct (.frz o (.tup (sv ns))) p = some (.ins A.C_Round dx []) := by rw [upd_ne (ne_of_none (s1 _ _ hp) hct)]; exact s1 _ _ hp
    refine ⟨_, rfl, p, _, dx, [], rfl, hp2, T.cl_Round, T.n_Round_names, (by show 0 < 1000; decide), ?_⟩
    have s3 : Same H (upd H1 ct (.frz o (.tup (sv ns)))) := s1.trans (same_new hct)
    exact kq _ (fun b o hb eb => by rw [upd_ne hb]; exact s3 _ _ eb) ⟨dx, ct, upd_same, (show DT (upd H1 ct (.frz o (.tup (sv ns)))) ct (sv ns) from ⟨o, hod, upd_same⟩).upd hp2 (fun _ _ => nofun)⟩
theorem mk_ring2 {C : Addr} {K : PySem.W.Frag} {H : Hp} {l x dx : Addr} {ns : List Str} {Q2 : VK} (hL : SqL K H l (sv ns)) (h : RingOk ns) (hx : H x = none) (hdx : H dx = none) (hne : dx ≠ x) (k : ∀ H', Same H H' → Rd C H' x ns → Q2 .non H') :
    spInit C K (.ref x :: ([.ref l] ++ [])) (upd (upd H dx (.own x)) x (.ins C dx [])) Q2 E0 := by
  have s1 := same_new (o := .own x) hdx
  have hx1 : upd H dx (.own x) x = none := by rw [upd_ne hne.symm]; exact hx
  have s2 : Same H (upd (upd H dx (.own x)) x (.ins C dx [])) := s1.trans (same_new hx1)
  exact ⟨x, l, dx, ns, rfl, upd_same, s2.seq hL, h, fun H' hk hR => k H' (fun b o e => hk b o (ne_of_none e hx) (s2 _ _ e)) hR⟩
def spCut (C : Addr) : Sp := fun vs H Q _ => ∃ p z ns, vs = [.ref p, .str z] ∧ Rd C H p ns ∧ z.length ≤ 1000 ∧ ns.length ≤ 12 ∧ z ∈ ns ∧
  (∀ i : Nat, ns[i]? = some z → (∀ m, m < i → ns[m]? ≠ some z) → ∀ l H', Same H H' → H l = none → H' l = some (.lst (sv (aft ns i))) → Q (.ref l) H')
theorem ok_cut (T : Txt P K mg A) : FnOk P w K mg base CX0 4 A.a_Round_cut A.d_Round_cut ["self", "name"] (spCut A.C_Round) := by
  have G_check_known := ok_knownQ (P := P) (w := w) (base := base) T
  refine T.F_Round_cut.ok sc_Round_cut (fun vs H Q E h => ?_) (fun cdv A' outer s H vs Q E hr h => ?_)
  · obtain ⟨p, z, ns, rfl, _⟩ := h
    rfl
  · obtain ⟨p, z, ns, rfl, ⟨dx, nt, hp, hn⟩, hz, hl, hm, kq⟩ := h
    refine ⟨_, (pss_cons (ps_expr (pe_call G_check_known (hr.mono (by decide)) rfl T.mg_check_known T.F_check_known.kp T.b_check_known .nil pass0 (pa_cons (pe_fld (pv 0) rfl) (pa_cons (pe_lst (pa_cons (pv 1) pa_nil)) pa_nil))))
      (pss_cons (ps_set (i := 2) sc_Round_cut.nd rfl (Or.inl rfl) (pe_bmT PySem.F.plainAttrs_tuple PySem.F.slot_tuple_index PySem.F.type_tuple_index mt_tup_index (pe_fld (pv 0) rfl) (pa_cons (pv 1) pa_nil)))
      (pss_one (ps_ret (pe_lst (StX.pa_star (pe_slice sl_tupA (pe_fld (pv 0) rfl) (po_some (pe_op op_add (pv 2) pe_int)) po_none) (StX.pa_star (pe_slice sl_tupA (pe_fld (pv 0) rfl) po_none (po_some (pv 2))) pa_nil))))))), ?_⟩
    refine ⟨_, rfl, _, _, _, _, _, rfl, hp, T.cl_Round, T.n_Round_names, fldsR_names _, _, rfl, by show 1 ≤ sizeLine; decide, fun l hL => ?_⟩
    have s0 := same_new (o := .lst [V.str z]) hL
    refine ⟨nt, l, ns, [z], rfl, (hn.same s0).sq, SqL.of upd_same, fun y hy => by rw [List.mem_singleton.mp hy]; exact hz, fun hu H1 s1 => ?_, fun y e d H1 s1 hd => ?_⟩
    · have s1 := s0.trans s1
      obtain ⟨i, hi, hno⟩ := first_ix hm
      have hil := (List.getElem?_eq_some_iff.mp hi).1
      have hp1 := s1 _ _ hp
      have hn1 := hn.same s1
      refine ⟨_, rfl, _, _, _, _, _, rfl, hp1, T.cl_Round, T.n_Round_names, fldsR_names _, ⟨nt, _, rfl, hn1⟩, _, rfl, nt, ns, z, i, rfl, rfl, hn1.sq, hi, hno, ?_⟩
      refine ⟨_, rfl, _, _, _, _, _, rfl, hp1, T.cl_Round, T.n_Round_names, fldsR_names _, _, rfl, _, _, rfl, rfl, _, rfl, nt, sv ns, rfl, hn1.sq, fun hw => ?_, fun hw a ha => ?_⟩
      · have := hw.1
        rw [show ((i : Int) + 1) = ((i + 1 : Nat) : Int) by omega, sIx_lo (by rw [len_sv]; omega)] at this
        omega
      · rw [show ((i : Int) + 1) = ((i + 1 : Nat) : Int) by omega, cut_drop (by rw [len_sv]; omega), sv_drop]
        have s2 := s1.trans (same_new (o := .tup (sv (ns.drop (i + 1)))) ha)
        have hp2 := s2 _ _ hp
        refine ⟨a, _, rfl, .inl (SqT.of upd_same), _, rfl, _, _, _, _, _, rfl, hp2, T.cl_Round, T.n_Round_names, fldsR_names _, _, rfl, _, rfl, nt, sv ns, rfl, (hn.same s2).sq, fun hw => ?_, fun hw b hb => ?_⟩
        · have := hw.2
          rw [sIx_hi (by rw [len_sv]; omega), len_sv] at this
          omega
        · rw [cut_take (by rw [len_sv]; omega), sv_take]
          refine ⟨b, _, rfl, .inl (SqT.of upd_same), ?_, fun c hc => ?_⟩
          · rw [List.append_nil, List.length_append, len_sv, len_sv, List.length_drop, List.length_take]
            exact Nat.le_trans (show (ns.length - (i + 1)) + min i ns.length ≤ 1000 by omega) (by decide)
          · refine kq i hi hno c _ (s2.trans ((same_new hb).trans (same_new hc))) (none_of (s2.trans (same_new hb)) hc) ?_
            rw [upd_same, List.append_nil]
            exact congrArg (fun z => some (HO.lst z)) List.map_append.symm
    · obtain ⟨m1, m2⟩ := unk_mem e
      rw [List.mem_singleton.mp m1] at m2
      exact absurd hm m2
end
end My
set_option maxRecDepth 100000
set_option maxHeartbeats 4000000
set_option exponentiation.threshold 10000
namespace My
open PySem L2
theorem sv_snoc' (l : List Str) (x : Str) : sv (l ++ [x]) = sv l ++ [V.str x] := List.map_append
def spCell (K : PySem.W.Frag) : Sp := fun vs H Q _ => ∃ (a : Addr) (ns : List Int) (k : Int), vs = [.ref a, .int k] ∧ SqL K H a (ns.map V.int) ∧ 0 ≤ k ∧ ∀ z, Q (.int z) H
def spPool (K : PySem.W.Frag) : Sp := fun vs H Q _ => ∃ (a : Addr) (ns : List Int) (k c : Int), vs = [.ref a, .int k, .int c] ∧ SqL K H a (ns.map V.int) ∧ 0 ≤ k ∧ 0 ≤ c ∧ c ≤ 1000 ∧
  ∀ p ps H', Same H H' → H' p = some (.lst (ps.map V.int)) → (ps.length : Int) = c → Pool ps → Q (.ref p) H'
section
variable {P : Program} {w : World} {K : PySem.W.Frag} {mg : Str → Option Value} {base : Heap} {A : Ad}
theorem ok_cell (T : Txt P K mg A) : FnOk P w K mg base CX0 1 A.a_law_cell A.d_law_cell ["script", "k"] (spCell K) := by
  refine T.F_law_cell.ok sc_law_cell (fun vs H Q E h => ?_) (fun cdv A' outer s H vs Q E hr h => ?_)
  · obtain ⟨a, ns, k, rfl, _⟩ := h
    rfl
  · obtain ⟨a, ns, i, rfl, hS, h0, k⟩ := h
    refine ⟨_, (pss_cons (ps_if (pt_cmpR op_lt (pv 1) (pe_callB call_len_seq (by rfl) T.n_len (by decide +kernel) (pa_cons (pv 0) pa_nil)) (nomark _)) (pss_one (ps_ret (pe_ix ix_list (pv 0) (pv 1) (fun _ _ => rfl)))) pss_nil)
      (pss_one (ps_ret pe_int))), ?_⟩
    refine ⟨_, rfl, _, rfl, _, _, rfl, .inl hS, _, _, rfl, rfl, _, rfl, ?_⟩
    by_cases hi : i < ((ns.map V.int).length : Int)
    · refine itY hi ?_
      obtain ⟨v, hv, e⟩ := atI_ok (xs := ns) h0 (by rw [len_map_int] at hi; exact hi)
      exact ⟨_, rfl, _, rfl, _, _, _, _, rfl, rfl, hS, e, k v⟩
    · refine itN hi ?_
      exact k 0
theorem ok_pool (T : Txt P K mg A) : FnOk P w K mg base CX0 2 A.a_law_pool A.d_law_pool ["script", "k", "count"] (spPool K) := by
  have G_law_cell : FnOk P w K mg base CX0 1 A.a_law_cell A.d_law_cell ["script", "k"] (spCell K) := ok_cell T
  refine T.F_law_pool.ok sc_law_pool (fun vs H Q E h => ?_) (fun cdv A' outer s H vs Q E hr h => ?_)
  · obtain ⟨a, ns, k, c, rfl, _⟩ := h
    rfl
  · obtain ⟨a, ns, i, c, rfl, hS, h0, hc0, hc, k⟩ := h
    refine ⟨_, (pss_cons (ps_set (i := 3) sc_law_pool.nd rfl (Or.inl rfl) (pe_callB call_abs (by rfl) T.n_abs (by decide +kernel) (pa_cons (pe_call G_law_cell (hr.mono (by decide)) rfl T.mg_law_cell T.F_law_cell.kp T.b_law_cell .nil pass0 (pa_cons (pv 0) (pa_cons (pv 1) pa_nil))) pa_nil)))
      (pss_cons (ps_set (i := 4) sc_law_pool.nd rfl (Or.inl rfl) (pe_lst pa_nil))
      (pss_cons (ps_if (pt_cmpR op_ge (pv 3) (pe_op op_pow pe_int pe_int) (nomark _)) (pss_cons (ps_set (i := 3) sc_law_pool.nd rfl (Or.inl rfl) (pe_op op_sub (pv 3) (pe_op op_pow pe_int pe_int)))
      (pss_cons (ps_for PassesOwn.never rfl (pi_range1 (by rfl) T.n_range (pa_cons (pv 2) pa_nil)) (pg_name (i := 5) sc_law_pool.nd rfl (Or.inl rfl))
        (pss_cons (ps_expr (pe_bm PySem.F.plainAttrs_list PySem.F.slot_list_append PySem.F.type_list_append mt_append (pv 4) (pa_cons (pe_op op_mod (pe_callTy call_int1 (by rfl) T.n_int (by decide +kernel) (pa_cons (pv 3) pa_nil)) pe_int) pa_nil)))
      (pss_one (ps_set (i := 3) sc_law_pool.nd rfl (Or.inl rfl) (pe_op op_fdiv (pv 3) pe_int)))))
      (pss_one (ps_ret (pv 4))))) pss_nil)
      (pss_cons (ps_for PassesOwn.never rfl (pi_range1 (by rfl) T.n_range (pa_cons (pv 2) pa_nil)) (pg_name (i := 5) sc_law_pool.nd rfl (Or.inl rfl))
        (pss_cons (ps_set (i := 6) sc_law_pool.nd rfl (Or.inl rfl) (pe_op op_mod (pe_callTy call_int1 (by rfl) T.n_int (by decide +kernel) (pa_cons (pe_op op_add (pe_op op_add (pe_op op_add (pe_op op_mul (pv 3) pe_int) (pe_op op_mul (pe_op op_add (pv 5) pe_int) pe_int)) (pe_op op_mul (pv 1) pe_int)) pe_int) pa_nil)) pe_int))
      (pss_cons (ps_set (i := 7) sc_law_pool.nd rfl (Or.inl rfl) (pe_op op_mod (pe_callTy call_int1 (by rfl) T.n_int (by decide +kernel) (pa_cons (pe_op op_add (pe_op op_add (pe_op op_mulW (pv 6) (pv 6)) (pe_op op_mul (pv 3) pe_int)) (pv 5)) pa_nil)) pe_int))
      (pss_cons (ps_set (i := 8) sc_law_pool.nd rfl (Or.inl rfl) (pe_op op_mod (pe_callTy call_int1 (by rfl) T.n_int (by decide +kernel) (pa_cons (pe_op op_add (pe_op op_mulW (pv 7) (pv 7)) (pv 6)) pa_nil)) pe_int))
      (pss_one (ps_expr (pe_bm PySem.F.plainAttrs_list PySem.F.slot_list_append PySem.F.type_list_append mt_append (pv 4) (pa_cons (pe_op op_mod (pe_callTy call_int1 (by rfl) T.n_int (by decide +kernel) (pa_cons (pe_op op_fdiv (pv 8) pe_int) pa_nil)) pe_int) pa_nil))))))))
      (pss_one (ps_ret (pv 4))))))), ?_⟩
    refine ⟨_, rfl, _, rfl, a, ns, i, rfl, hS, h0, fun z => ⟨_, rfl, ?_⟩⟩
    refine ⟨by show 0 ≤ sizeLine; decide, fun l hl => ?_⟩
    refine ⟨_, rfl, _, _, rfl, rfl, ⟨by decide, by decide, by decide⟩, _, _, rfl, rfl, _, rfl, ?_⟩
    have fin : ∀ ps : List Int, ps.length = c.toNat → Pool ps → Q (.ref l) (upd H l (.lst (ps.map V.int))) := fun ps h1 h2 => k l ps _ (same_new hl) upd_same (by omega) h2
    refine ite2 (fun hb => ?_) (fun hb => ?_)
    · refine ⟨_, rfl, _, _, rfl, rfl, ⟨by decide, by decide, by decide⟩, _, _, rfl, rfl, ?_⟩
      refine ⟨_, rfl, c, rfl, by omega, by omega, for_range (n := c.toNat) (fun j σ H2 => ∃ (v : Int) (ps : List Int) (u : Option V), σ = [some (.ref a), some (.int i), some (.int c), some (.int v), some (.ref l), u, none, none, none] ∧
        H2 = upd H l (.lst (ps.map V.int)) ∧ ps.length = j ∧ Pool ps) ⟨_, [], none, rfl, rfl, rfl, Pool.nil⟩ ?_ ?_⟩
      · rintro j σ H2 hj ⟨v, ps, u, rfl, rfl, hl2, hp⟩
        refine ⟨_, rfl, .inl ⟨rfl, _, SqL.of upd_same⟩, _, rfl, .inl ⟨_, rfl, ?_⟩⟩
        refine ⟨_, _, rfl, rfl, by show (0 : Int) < 27720; decide, l, _, _, rfl, rfl, upd_same, small_int (by rw [len_map_int]; omega), ?_⟩
        refine ⟨_, rfl, _, _, rfl, rfl, ⟨by decide, by decide⟩, ?_⟩
        refine ⟨_, ps ++ [v % 27720], _, rfl, ?_, by simp [hl2], hp.app (Int.emod_nonneg _ (by decide)) (Int.emod_lt_of_pos _ (by decide))⟩
        rw [upd_upd, List.map_append]
        rfl
      · rintro σ H2 ⟨v, ps, u, rfl, rfl, hl2, hp⟩
        exact ⟨_, rfl, fin ps hl2 hp⟩
    · refine ⟨_, rfl, c, rfl, by omega, by omega, for_range (n := c.toNat) (fun j σ H2 => ∃ (v : Int) (ps : List Int) (u u1 u2 u3 : Option V), σ = [some (.ref a), some (.int i), some (.int c), some (.int v), some (.ref l), u, u1, u2, u3] ∧
        H2 = upd H l (.lst (ps.map V.int)) ∧ ps.length = j ∧ Pool ps) ⟨_, [], none, none, none, none, rfl, rfl, rfl, Pool.nil⟩ ?_ ?_⟩
      · rintro j σ H2 hj ⟨v, ps, u, u1, u2, u3, rfl, rfl, hl2, hp⟩
        refine ⟨_, rfl, _, _, rfl, rfl, .inr (by decide), _, rfl, _, _, rfl, rfl, _, _, rfl, rfl, .inr (by decide), _, _, rfl, rfl, _, rfl, _, _, rfl, rfl, .inr (by decide), _, _, rfl, rfl, _, _, rfl, rfl, .inl ⟨_, rfl, _, _, rfl, rfl, by show (0 : Int) < 2147483647; decide, ?_⟩⟩
        refine ⟨_, rfl, _, rfl, _, _, rfl, rfl, mulW (mod_sz (by decide) (by decide)) (mod_sz (by decide) (by decide)), _, rfl, _, _, rfl, rfl, .inr (by decide), _, _, rfl, rfl, _, rfl, _, _, rfl, rfl, .inl ⟨_, rfl, _, _, rfl, rfl, by show (0 : Int) < 2147483629; decide, ?_⟩⟩
        refine ⟨_, rfl, _, rfl, _, _, rfl, rfl, mulW (mod_sz (by decide) (by decide)) (mod_sz (by decide) (by decide)), _, rfl, _, _, rfl, rfl, .inl ⟨_, rfl, _, _, rfl, rfl, by show (0 : Int) < 2147483587; decide, ?_⟩⟩
        refine ⟨_, rfl, .inl ⟨rfl, _, SqL.of upd_same⟩, _, rfl, _, _, rfl, rfl, ⟨by decide, by decide⟩, .inl ⟨_, rfl, ?_⟩⟩
        refine ⟨_, _, rfl, rfl, by show (0 : Int) < 27720; decide, l, _, _, rfl, rfl, upd_same, small_int (by rw [len_map_int]; omega), ?_⟩
        exact ⟨_, ps ++ [_], _, _, _, _, rfl, upd_app, by simp [hl2], hp.app (Int.emod_nonneg _ (by decide)) (Int.emod_lt_of_pos _ (by decide))⟩
      · rintro σ H2 ⟨v, ps, u, u1, u2, u3, rfl, rfl, hl2, hp⟩
        exact ⟨_, rfl, fin ps hl2 hp⟩
def spSize : Sp := fun vs H Q _ => ∃ (d : Int), vs = [.int d, .int 12] ∧ ∀ (n : Nat) H', Same H H' → n ≤ 12 → Q (.int (n : Nat)) H'
theorem ok_size (T : Txt P K mg A) : FnOk P w K mg base CX0 1 A.a_law_size A.d_law_size ["draw", "most"] spSize := by
  refine T.F_law_size.ok sc_law_size (fun vs H Q E h => ?_) (fun cdv A' outer s H vs Q E hr h => ?_)
  · obtain ⟨d, rfl, _⟩ := h
    rfl
  · obtain ⟨d, rfl, k⟩ := h
    refine ⟨_, (pss_cons (ps_set (i := 2) sc_law_size.nd rfl (Or.inl rfl) (pe_lst (pa_cons pe_int (pa_cons pe_int (pa_cons pe_int (pa_cons pe_int (pa_cons pe_int (pa_cons pe_int (pa_cons pe_int (pa_cons pe_int (pa_cons pe_int (pa_cons pe_int (pa_cons pe_int (pa_cons pe_int (pa_cons pe_int (pa_cons pe_int (pa_cons pe_int (pa_cons pe_int (pa_cons pe_int (pa_cons pe_int (pa_cons pe_int (pa_cons pe_int (pa_cons pe_int (pa_cons pe_int (pa_cons pe_int (pa_cons pe_int pa_nil))))))))))))))))))))))))))
      (pss_one (ps_ret (pe_callB (call_min2 rfl) (by rfl) T.n_min (by decide +kernel) (pa_cons (pv 1) (pa_cons (pe_ix ix_list (pv 2) (pe_op op_mod (pe_callTy call_int1 (by rfl) T.n_int (by decide +kernel) (pa_cons (pv 0) pa_nil)) pe_int) (fun _ _ => rfl)) pa_nil)))))), ?_⟩
    refine ⟨by show 24 ≤ sizeLine; decide, fun l hl => ?_⟩
    have h0 := Int.emod_nonneg d (show (24 : Int) ≠ 0 by decide)
    have h1 := Int.emod_lt_of_pos d (show (0 : Int) < 24 by decide)
    obtain ⟨v, hv, e⟩ := atI_ok (xs := szs) (j := d % 24) h0 (by show _ < (24 : Int); exact h1)
    have hb : ∀ v ∈ szs, 0 ≤ v ∧ v ≤ 12 := by decide
    have hv2 := hb v hv
    refine ⟨_, rfl, _, rfl, _, rfl, .inl ⟨_, rfl, _, _, rfl, rfl, by show (0 : Int) < 24; decide, l, _, _, _, rfl, rfl, SqL.of upd_same, e, _, _, rfl, ?_⟩⟩
    have := k v.toNat _ (same_new (o := .lst (szs.map V.int)) hl) (by omega)
    rw [show ((v.toNat : Nat) : Int) = v by omega] at this
    rw [show (if v < 12 then v else 12) = v by split <;> omega]
    exact this
def spOrder (K : PySem.W.Frag) : Sp := fun vs H Q _ => ∃ (n p : Addr) (ns : List Str) (ps : List Int) (st : Int), vs = [.ref n, .ref p, .int st] ∧ SqL K H n (sv ns) ∧ SqL K H p (ps.map V.int) ∧ ns.length ≤ 12 ∧ 0 ≤ st ∧ st + ns.length ≤ ps.length ∧ ∀ a os H', Same H H' → H a = none → H' a = some (.lst (sv os)) → os.Perm ns → Q (.ref a) H'
theorem ok_order (T : Txt P K mg A) : FnOk P w K mg base CX0 1 A.a_law_order A.d_law_order ["names", "pool", "start"] (spOrder K) := by
  refine T.F_law_order.ok sc_law_order (fun vs H Q E h => ?_) (fun cdv A' outer s H vs Q E hr h => ?_)
  · obtain ⟨n, p, ns, ps, st, rfl, _⟩ := h
    rfl
  · obtain ⟨n, p, ns, ps, st, rfl, hN, hP, hnl, hst, hpl, k⟩ := h
    refine ⟨_, (pss_cons (ps_set (i := 3) sc_law_order.nd rfl (Or.inl rfl) (pe_callTy (show CallR _ _ (rListOf K) from call_list_of) (by rfl) T.n_list (by decide +kernel) (pa_cons (pv 0) pa_nil)))
      (pss_cons (ps_set (i := 4) sc_law_order.nd rfl (Or.inl rfl) (pe_lst pa_nil))
      (pss_cons (ps_for PassesOwn.never rfl (pi_range1 (by rfl) T.n_range (pa_cons (pe_callB call_len_seq (by rfl) T.n_len (by decide +kernel) (pa_cons (pv 0) pa_nil)) pa_nil)) (pg_name (i := 5) sc_law_order.nd rfl (Or.inl rfl))
        (pss_cons (ps_set (i := 6) sc_law_order.nd rfl (Or.inl rfl) (pe_op op_mod (pe_callTy call_int1 (by rfl) T.n_int (by decide +kernel) (pa_cons (pe_ix ix_list (pv 1) (pe_op op_add (pv 2) (pv 5)) (fun _ _ => rfl)) pa_nil)) (pe_callB call_len_seq (by rfl) T.n_len (by decide +kernel) (pa_cons (pv 3) pa_nil))))
      (pss_cons (ps_expr (pe_bm PySem.F.plainAttrs_list PySem.F.slot_list_append PySem.F.type_list_append mt_append (pv 4) (pa_cons (pe_ix ix_list (pv 3) (pv 6) (fun _ _ => rfl)) pa_nil)))
      (pss_one (ps_set (i := 3) sc_law_order.nd rfl (Or.inl rfl) (pe_op op_cat (pe_slice sl_list (pv 3) po_none (po_some (pv 6))) (pe_slice sl_list (pv 3) (po_some (pe_op op_add (pv 6) pe_int)) po_none)))))))
      (pss_one (ps_ret (pv 4)))))), ?_⟩
    refine ⟨_, rfl, n, _, rfl, .inl hN, fun l0 hl0 => ?_⟩
    have s1 := same_new (o := .lst (sv ns)) hl0
    refine ⟨by show 0 ≤ sizeLine; decide, fun o ho => ?_⟩
    have s2 := s1.trans (same_new (o := .lst []) ho)
    have ho' : H o = none := none_of s1 ho
    have hl1 : upd (upd H l0 (.lst (sv ns))) o (.lst []) l0 = some (.lst (sv ns)) := by rw [upd_ne (ne_of_none upd_same ho)]; exact upd_same
    refine ⟨_, rfl, n, _, rfl, .inl (s2.seq hN), _, rfl, by rw [len_sv]; omega, by rw [len_sv]; omega, ?_⟩
    have e1 : (((sv ns).length : Nat) : Int).toNat = ns.length := by rw [len_sv, Int.toNat_natCast]
    refine for_range (n := (((sv ns).length : Nat) : Int).toNat) (fun i σ H2 => Same H H2 ∧ ∃ (l : Addr) (ls os : List Str) (u1 u2 : Option V), σ = [some (.ref n), some (.ref p), some (.int st), some (.ref l), some (.ref o), u1, u2] ∧ H l = none ∧ l ≠ o ∧ H2 l = some (.lst (sv ls)) ∧ H2 o = some (.lst (sv os)) ∧ (os ++ ls).Perm ns ∧ os.length = i)
      ⟨s2, l0, ns, [], none, none, rfl, hl0, ne_of_none upd_same ho, hl1, upd_same, .refl _, rfl⟩ ?_ ?_
    · rintro i σ H2 hi ⟨sm, l, ls, os, u1, u2, rfl, hl, hlo, h2, h3, hp, hi2⟩
      rw [e1] at hi
      have hlen := hp.length_eq
      rw [List.length_append] at hlen
      have hls : 0 < ls.length := by omega
      obtain ⟨v, hv, e⟩ := atI_ok (xs := ps) (j := st + (0 + (i : Int))) (by omega) (by omega)
      have hd : (0 : Int) < ((sv ls).length : Nat) := by rw [len_sv]; omega
      have m0 := Int.emod_nonneg v (Int.ne_of_gt hd)
      have m1 := Int.emod_lt_of_pos v hd
      refine ⟨_, rfl, _, rfl, _, rfl, _, _, rfl, rfl, p, _, _, _, rfl, rfl, sm.seq hP, e, .inl ⟨_, rfl, _, rfl, l, _, rfl, .inl (SqL.of h2), _, _, rfl, rfl, hd, ?_⟩⟩
      obtain ⟨j, hj⟩ := Int.eq_ofNat_of_zero_le m0
      rw [hj] at m1
      rw [len_sv] at m1
      have hj2 : j < ls.length := by omega
      have hz : ls[j]? = some ls[j] := List.getElem?_eq_getElem hj2
      have ej : atI (sv ls) (j : Int) = some (V.str ls[j]) := atI_nat (by rw [List.getElem?_map, hz]; rfl)
      refine ⟨_, rfl, .inl ⟨rfl, _, SqL.of h3⟩, _, rfl, _, rfl, l, _, _, _, rfl, rfl, SqL.of h2, by rw [hj]; exact ej, o, _, _, rfl, rfl, h3, small_int (by rw [len_sv]; omega), ?_⟩
      have hlo2 : upd H2 o (.lst (sv os ++ [V.str ls[j]])) l = some (.lst (sv ls)) := by rw [upd_ne hlo]; exact h2
      refine ⟨_, rfl, _, rfl, _, rfl, l, _, rfl, SqL.of hlo2, fun a ha => ?_⟩
      have hla : l ≠ a := ne_of_none hlo2 ha
      refine ⟨_, rfl, _, rfl, _, _, rfl, rfl, _, rfl, l, _, rfl, SqL.of (by rw [upd_ne hla]; exact hlo2), fun b hb => ?_⟩
      have ha2 : a ≠ b := ne_of_none upd_same hb
      refine ⟨a, b, _, _, rfl, rfl, by rw [upd_ne ha2]; exact upd_same, upd_same, ?_, fun c hc => ?_⟩
      · rw [hj, show ((j : Int) + 1) = ((j + 1 : Nat) : Int) by omega, cut_take (by rw [len_sv]; omega), cut_drop (by rw [len_sv]; omega)]
        have := len_sv ls
        refine Nat.le_trans (m := 24) ?_ (by decide)
        rw [List.length_take, List.length_drop]; omega
      · rw [hj, cut_take (by rw [len_sv]; omega), sv_take] at hb
        rw [hj, show ((j : Int) + 1) = ((j + 1 : Nat) : Int) by omega] at hc ⊢
        rw [cut_take (by rw [len_sv]; omega), cut_drop (by rw [len_sv]; omega), sv_take, sv_drop] at hc ⊢
        rw [sv_app]
        have ob : o ≠ b := ne_of_none (show upd (upd H2 o _) a _ o = some _ by rw [upd_ne (ne_of_none upd_same ha)]; exact upd_same) hb
        have oa : o ≠ a := ne_of_none upd_same ha
        have oc : o ≠ c := ne_of_none (show upd (upd (upd H2 o _) a _) b _ o = some _ by rw [upd_ne ob, upd_ne oa]; exact upd_same) hc
        have sX : ∀ (x : Addr) (u : HO), H x = some u → upd (upd (upd H2 o (.lst (sv os ++ [V.str ls[j]]))) a (.lst (sv (ls.take j)))) b (.lst (sv (ls.drop (j + 1)))) x = some u := fun x u hx => by
          have e2 := sm x u hx
          have e3 : upd H2 o (.lst (sv os ++ [V.str ls[j]])) x = some u := by
            rw [upd_ne (fun z => by rw [z, ho'] at hx; cases hx)]; exact e2
          have e4 : upd (upd H2 o (.lst (sv os ++ [V.str ls[j]]))) a (.lst (sv (ls.take j))) x = some u := by rw [upd_ne (ne_of_none e3 ha)]; exact e3
          rw [upd_ne (ne_of_none e4 hb)]; exact e4
        refine ⟨fun x u hx => ?_, c, ls.take j ++ ls.drop (j + 1), os ++ [ls[j]], _, _, rfl, ?_, oc.symm, upd_same, ?_, ?_, ?_⟩
        · rw [upd_ne (ne_of_none (sX x u hx) hc)]; exact sX x u hx
        · cases e : H c with
          | none => rfl
          | some u => rw [sX _ _ e] at hc; cases hc
        · rw [upd_ne oc, upd_ne ob, upd_ne oa, upd_same, sv_snoc']
        · have := perm_pick hz
          rw [List.append_assoc, List.singleton_append]
          exact ((this.append_left os)).trans hp
        · rw [List.length_append, hi2]; rfl
    · rintro σ H2 ⟨sm, l, ls, os, u1, u2, rfl, hl, hlo, h2, h3, hp, hi2⟩
      rw [e1] at hi2
      have hlen := hp.length_eq
      rw [List.length_append] at hlen
      have : ls = [] := List.length_eq_zero_iff.mp (by omega)
      rw [this, List.append_nil] at hp
      exact ⟨_, rfl, k o os H2 sm ho' h3 hp⟩
def spSorted (K : PySem.W.Frag) : Sp := fun vs H Q _ => ∃ (n r : Addr) (cs x : List Str), vs = [.ref n, .ref r] ∧ SqL K H n (sv cs) ∧ SqL K H r (sv x) ∧ cs.length ≤ 1000 ∧ ∀ a H', Same H H' → H a = none → H' a = some (.lst (sv (canon cs x))) → Q (.ref a) H'
theorem ok_sorted (T : Txt P K mg A) : FnOk P w K mg base CX0 1 A.a_law_sorted A.d_law_sorted ["names", "row"] (spSorted K) := by
  refine T.F_law_sorted.ok sc_law_sorted (fun vs H Q E h => ?_) (fun cdv A' outer s H vs Q E hr h => ?_)
  · obtain ⟨n, r, cs, x, rfl, _⟩ := h
    rfl
  · obtain ⟨n, l, cs, r, rfl, hN, h2, hl, k⟩ := h
    refine ⟨_, (pss_one (ps_ret (pe_lc (own := [("name", 2)]) (g := gName 2) (tt := _) rfl sc_law_sorted.nd (pi_list (pv 0)) (blkOk_by (N := ["names", "row", "name"]) (sc := defScope s_law_sorted) (by decide +kernel)) (fun _ _ _ _ _ => (pg_name (i := 2) sc_law_sorted.nd rfl (Or.inl rfl))) (fun _ _ _ _ _ => (pts_one (pt_cmpR (show OpR _ _ (rIn K false) from op_in_seq) (pv 2) (pv 1) (by with_unfolding_all rfl)))) (fun _ _ _ _ _ => (pv 2))))), ?_⟩
    have stepT : ∀ i z, cs[i]? = some z → z ∈ r → sv (canon (cs.take (i + 1)) r) = sv (canon (cs.take i) r) ++ [V.str z] := fun i z hz hm => by
      rw [take_succ hz, canon_T hm]; exact List.map_append
    have stepF : ∀ i z, cs[i]? = some z → z ∉ r → sv (canon (cs.take (i + 1)) r) = sv (canon (cs.take i) r) := fun i z hz hm => by
      rw [take_succ hz, canon_F hm]
    refine ⟨_, rfl, n, rfl, ⟨_, hN⟩, fun D hD => lc_it walk_list (PvS H D fun i => sv (canon (cs.take i) r)) (pv0 hD rfl) (fun i H2 _ q => q.1.seq hN) ?_ ?_⟩
    · rintro i x H3 H4 hi q ⟨rfl, hx⟩
      obtain ⟨z, hz, rfl⟩ := sv_get hx
      refine ⟨rfl, _, rfl, _, rfl, l, _, rfl, .inl (q.1.seq h2), rfl, flat_sv _, _, rfl, ?_⟩
      rw [if_neg Bool.false_ne_true, inV_str]
      have hlen : (sv (canon (cs.take i) r)).length ≤ 1000000 := by
        have := List.length_filter_le (fun x => decide (x ∈ r)) (cs.take i)
        rw [List.length_take] at this
        rw [len_sv]; unfold canon; omega
      by_cases hm : z ∈ r
      · exact ifT (decide_eq_true hm) ⟨_, rfl, q.push hD (stepT i z hz hm) hlen⟩
      · exact ifF (decide_eq_false hm) (q.skip (stepF i z hz hm))
    · rintro H3 ⟨sm, h3⟩
      have h3 : H3 D = some (.lst (sv (canon (cs.take (sv cs).length) r))) := h3
      rw [len_sv, List.take_length] at h3
      exact k D H3 sm hD h3
def spRow (K : PySem.W.Frag) : Sp := fun vs H Q _ => ∃ (n h : Addr) (cs hs : List Str) (d : Int) (free : Bool), vs = [.ref n, .ref h, .int d, .bl free] ∧ SqL K H n (sv cs) ∧ SqL K H h (sv hs) ∧ cs.Nodup ∧ cs.length ≤ 12 ∧ hs.Perm cs ∧
  ∀ r ms H', Same H H' → H r = none → H' r = some (.lst (sv ms)) → RowOk cs ms → Q (.ref r) H'
theorem ok_row (T : Txt P K mg A) : FnOk P w K mg base CX0 1 A.a_law_row A.d_law_row ["names", "hidden", "draw", "free"] (spRow K) := by
  refine T.F_law_row.ok sc_law_row (fun vs H Q E h => ?_) (fun cdv A' outer s H vs Q E hr h => ?_)
  · obtain ⟨n, h, cs, hs, d, free, rfl, _⟩ := h
    rfl
  · obtain ⟨n, h, cs, hs, d, free, rfl, hN, hH, nd, hcl, hp, k⟩ := h
    refine ⟨_, (pss_cons (ps_set (i := 4) sc_law_row.nd rfl (Or.inl rfl) (pe_lst pa_nil))
      (pss_cons (ps_if (pt_val (pv 3)) (pss_cons (ps_for PassesOwn.never rfl (pi_list (pv 0)) (pg_name (i := 5) sc_law_row.nd rfl (Or.inl rfl))
        (pss_cons (ps_if (pt_cmpR op_eq (pe_op op_mod (pe_callTy call_int1 (by rfl) T.n_int (by decide +kernel) (pa_cons (pv 2) pa_nil)) pe_int) pe_int (nomark _)) (pss_one (ps_expr (pe_bm PySem.F.plainAttrs_list PySem.F.slot_list_append PySem.F.type_list_append mt_append (pv 4) (pa_cons (pv 5) pa_nil)))) pss_nil)
      (pss_one (ps_set (i := 2) sc_law_row.nd rfl (Or.inl rfl) (pe_op op_fdiv (pv 2) pe_int)))))
      (pss_one (ps_ret (pv 4)))) pss_nil)
      (pss_cons (ps_set (i := 6) sc_law_row.nd rfl (Or.inl rfl) (pe_op op_add (pe_callB call_len_seq (by rfl) T.n_len (by decide +kernel) (pa_cons (pv 1) pa_nil)) pe_int))
      (pss_cons (ps_set (i := 7) sc_law_row.nd rfl (Or.inl rfl) (pe_op op_mod (pe_callTy call_int1 (by rfl) T.n_int (by decide +kernel) (pa_cons (pv 2) pa_nil)) (pv 6)))
      (pss_cons (ps_set (i := 8) sc_law_row.nd rfl (Or.inl rfl) (pe_op op_mod (pe_callTy call_int1 (by rfl) T.n_int (by decide +kernel) (pa_cons (pe_op op_fdiv (pv 2) pe_int) pa_nil)) (pv 6)))
      (pss_cons (ps_set (i := 4) sc_law_row.nd rfl (Or.inl rfl) (pe_slice sl_list (pv 1) (po_some (pv 7)) (po_some (pe_op op_add (pv 7) (pv 8)))))
      (pss_cons (ps_set (i := 9) sc_law_row.nd rfl (Or.inl rfl) (pe_op op_mod (pe_callTy call_int1 (by rfl) T.n_int (by decide +kernel) (pa_cons (pe_op op_fdiv (pv 2) pe_int) pa_nil)) (pv 6)))
      (pss_one (ps_ret (pe_op op_cat (pe_slice sl_list (pv 4) (po_some (pv 9)) po_none) (pe_slice sl_list (pv 4) po_none (po_some (pv 9))))))))))))), ?_⟩
    have hhl : hs.length ≤ 12 := by rw [hp.length_eq]; exact hcl
    refine ⟨by show 0 ≤ sizeLine; decide, fun a ha => ?_⟩
    have sa := same_new (o := .lst []) ha
    refine ⟨_, rfl, _, rfl, ?_⟩
    cases free with
    | true =>
      refine ifT rfl ?_
      refine ⟨_, rfl, n, rfl, ⟨_, sa.seq hN⟩, for_it walk_list (fun j σ H4 => Same H H4 ∧ ∃ (ys : List Str) (lf : Int) (u u1 u2 u3 u4 : Option V), σ = [some (.ref n), some (.ref h), some (.int lf), some (.bl true), some (.ref a), u, u1, u2, u3, u4] ∧ H4 a = some (.lst (sv ys)) ∧ ys.Sublist (cs.take j))
        ⟨sa, [], d, none, none, none, none, none, rfl, upd_same, List.nil_sublist _⟩ (fun j σ H4 _ q => q.1.seq hN) ?_ ?_⟩
      · rintro j x σ H40 H4 hi ⟨s4, ys, lf, u, u1, u2, u3, u4, rfl, h4, hys⟩ ⟨rfl, hx⟩
        obtain ⟨z, hz, rfl⟩ := sv_get hx
        have hyl := hys.length_le
        rw [List.length_take] at hyl
        refine ⟨_, rfl, .inl ⟨_, rfl, _, _, rfl, rfl, by show (0 : Int) < 2; decide, rfl, _, rfl, ite2 (fun hb => ?_) (fun hb => ?_)⟩⟩
        · refine ⟨_, rfl, .inl ⟨rfl, _, SqL.of h4⟩, _, rfl, a, _, _, rfl, rfl, h4, small_int (by rw [len_sv]; omega), ?_⟩
          refine ⟨_, rfl, _, _, rfl, rfl, ⟨by decide, by decide⟩, fun c' o' e => ?_, ys ++ [z], _, _, _, _, _, _, rfl, ?_, ?_⟩
          · rw [upd_ne (ne_of_none e ha)]; exact s4 _ _ e
          · rw [sv_snoc']; exact upd_same
          · rw [take_succ hz]; exact hys.append (List.Sublist.refl _)
        · refine ⟨_, rfl, _, _, rfl, rfl, ⟨by decide, by decide⟩, s4, ys, _, _, _, _, _, _, rfl, h4, ?_⟩
          rw [take_succ hz]; exact hys.trans (List.sublist_append_left _ _)
      rintro σ H4 ⟨s4, ys, lf, u, u1, u2, u3, u4, rfl, h4, hys⟩
      rw [len_sv, List.take_length] at hys
      exact ⟨_, rfl, k a ys H4 s4 ha h4 ⟨hys.nodup nd, fun y hy => hys.subset hy⟩⟩
    | false =>
      refine ifF rfl ?_
      have lp : (0 : Int) < ((sv hs).length : Int) + 1 := by omega
      refine ⟨_, rfl, h, _, rfl, .inl (sa.seq hH), _, _, rfl, rfl, ?_⟩
      refine ⟨_, rfl, .inl ⟨_, rfl, _, rfl, _, _, rfl, rfl, lp, ?_⟩⟩
      refine ⟨_, rfl, _, _, rfl, rfl, ⟨by decide, by decide⟩, .inl ⟨_, rfl, _, rfl, _, _, rfl, rfl, lp, ?_⟩⟩
      obtain ⟨zs, e, hzs⟩ := cut_sv hs (some (d % (((sv hs).length : Int) + 1))) (some (d % (((sv hs).length : Int) + 1) + d / 13 % (((sv hs).length : Int) + 1)))
      refine ⟨_, rfl, _, rfl, _, rfl, _, rfl, _, rfl, _, _, rfl, rfl, _, rfl, h, _, rfl, sa.seq hH, fun b hb => ?_⟩
      have s2 := sa.trans (same_new (o := .lst (cutV (sv hs) (some (d % (((sv hs).length : Int) + 1))) (some (d % (((sv hs).length : Int) + 1) + d / 13 % (((sv hs).length : Int) + 1))))) hb)
      rw [e] at s2
      refine ⟨_, rfl, _, _, rfl, rfl, ⟨by decide, by decide⟩, .inl ⟨_, rfl, _, rfl, _, _, rfl, rfl, lp, ?_⟩⟩
      obtain ⟨c, hc⟩ := Int.eq_ofNat_of_zero_le (Int.emod_nonneg (d / 169) (Int.ne_of_gt lp))
      have hb2 : upd (upd H a (.lst [])) b (.lst (sv zs)) b = some (.lst (sv zs)) := upd_same
      refine ⟨_, rfl, _, rfl, _, rfl, b, _, rfl, SqL.of (by rw [e]; exact hb2), fun p hp2 => ?_⟩
      have hbp : b ≠ p := ne_of_none upd_same hp2
      rw [e] at hp2
      have s3 := s2.trans (same_new (o := .lst (sv (zs.drop c))) hp2)
      refine ⟨_, rfl, _, rfl, _, rfl, b, _, rfl, SqL.of (by rw [upd_ne hbp, e]; exact hb2), fun q hq => ?_⟩
      have hpq : p ≠ q := ne_of_none upd_same hq
      rw [e, hc, cut_dropG, sv_drop] at hq
      have s4 := s3.trans (same_new (o := .lst (sv (zs.take c))) hq)
      refine ⟨p, q, _, _, rfl, rfl, by rw [upd_ne hpq]; exact upd_same, upd_same, ?_, fun t ht => ?_⟩
      · rw [hc, cut_dropG, cut_takeG]
        have := hzs.length_le
        refine Nat.le_trans (m := 24) ?_ (by decide)
        rw [List.length_drop, List.length_take, len_sv]; omega
      · rw [e, hc, cut_dropG, cut_takeG, sv_drop, sv_take] at ht ⊢
        have s5 := s4.trans (same_new (o := .lst (sv (zs.drop c ++ zs.take c))) ht)
        rw [sv_app]
        have pr := rot_perm zs c
        refine k t _ _ s5 (none_of s4 ht) upd_same ⟨pr.nodup_iff.mpr (hzs.nodup (hp.nodup_iff.mpr nd)), fun y hy => hp.mem_iff.mp (hzs.subset (pr.mem_iff.mp hy))⟩
def spRows (K : PySem.W.Frag) : Sp := fun vs H Q _ => ∃ (n h p : Addr) (cs hs : List Str) (ps : List Int) (c m : Int), vs = [.ref n, .ref h, .ref p, .int 14, .int c, .int m] ∧ SqL K H n (sv cs) ∧ SqL K H h (sv hs) ∧ SqL K H p (ps.map V.int) ∧ ps.length = 60 ∧ 0 ≤ c ∧ c ≤ 6 ∧ cs.Nodup ∧ cs.length ≤ 12 ∧ hs.Perm cs ∧
  ∀ D ts rs H', Same H H' → H D = none → H' D = some (.lst (ts.map V.ref)) → Rows H' D ts cs rs → (rs.length : Int) = c → Q (.ref D) H'
theorem ok_rows (T : Txt P K mg A) : FnOk P w K mg base CX0 2 A.a_law_rows A.d_law_rows ["names", "hidden", "pool", "start", "count", "mode"] (spRows K) := by
  have G_law_row := ok_row (P := P) (w := w) (base := base) T
  refine T.F_law_rows.ok sc_law_rows (fun vs H Q E h => ?_) (fun cdv A' outer s H vs Q E hr h => ?_)
  · obtain ⟨n, h, p, cs, hs, ps, c, m, rfl, _⟩ := h
    rfl
  · obtain ⟨n, h, p, cs, hs, ps, c, m, rfl, hN, hH, hP, hpl, c0, c6, nd, hcl, hp, k⟩ := h
    refine ⟨_, (pss_cons (ps_set (i := 6) sc_law_rows.nd rfl (Or.inl rfl) (pe_lst pa_nil))
      (pss_cons (ps_for PassesOwn.never rfl (pi_range1 (by rfl) T.n_range (pa_cons (pv 4) pa_nil)) (pg_name (i := 7) sc_law_rows.nd rfl (Or.inl rfl))
        (pss_cons (ps_set (i := 8) sc_law_rows.nd rfl (Or.inl rfl) (pe_or (pe_cmpR op_eq (pv 5) pe_int (nomark _)) (pe_one (pe_and (pe_cmpR op_eq (pv 5) pe_int (nomark _)) (pe_one (pe_cmpR op_eq (pv 7) (pe_op op_sub (pv 4) pe_int) (nomark _)))))))
      (pss_one (ps_expr (pe_bm PySem.F.plainAttrs_list PySem.F.slot_list_append PySem.F.type_list_append mt_append (pv 6) (pa_cons (pe_call G_law_row (hr.mono (by decide)) rfl T.mg_law_row T.F_law_row.kp T.b_law_row .nil pass0 (pa_cons (pv 0) (pa_cons (pv 1) (pa_cons (pe_ix ix_list (pv 2) (pe_op op_add (pv 3) (pv 7)) (fun _ _ => rfl)) (pa_cons (pv 8) pa_nil))))) pa_nil))))))
      (pss_one (ps_ret (pv 6))))), ?_⟩
    refine ⟨by show 0 ≤ sizeLine; decide, fun D hD => ?_⟩
    have s0 := same_new (o := .lst []) hD
    refine ⟨_, rfl, c, rfl, by omega, by omega, for_range (n := c.toNat) (fun i σ H2 => Same H H2 ∧ ∃ (ts : List Addr) (rs : List (List Str)) (u1 u2 : Option V), σ = [some (.ref n), some (.ref h), some (.ref p), some (.int 14), some (.int c), some (.int m), some (.ref D), u1, u2] ∧ H2 D = some (.lst (ts.map V.ref)) ∧ Rows H2 D ts cs rs ∧ rs.length = i)
      ⟨s0, [], [], none, none, rfl, upd_same, ⟨Lss.nil, (fun t h => nomatch h), (fun t h => nomatch h)⟩, rfl⟩ ?_ ?_⟩
    · rintro i σ H2 hi ⟨sm, ts, rs, u1, u2, rfl, hd2, hR, hl⟩
      obtain ⟨v, hv, e⟩ := atI_ok (xs := ps) (j := (14 : Int) + (0 + (i : Int))) (by omega) (by omega)
      refine ⟨_, rfl, rfl, _, rfl, ite2 (fun hb => ?_) (fun hb => ⟨_, rfl, rfl, _, rfl, ite2 (fun hb2 => ⟨_, rfl, _, rfl, _, _, rfl, rfl, rfl, ?_⟩) (fun hb2 => ?_)⟩)⟩
      all_goals
        refine ⟨_, rfl, .inl ⟨rfl, _, SqL.of hd2⟩, _, rfl, _, rfl, _, rfl, _, rfl, _, rfl, _, _, rfl, rfl, p, _, _, _, rfl, rfl, sm.seq hP, e, _, rfl, n, h, cs, hs, v, _, rfl, sm.seq hN, sm.seq hH, nd, hcl, hp, fun r ms H3 s3 hr0 hr3 ok => ?_⟩
        refine ⟨D, _, _, rfl, rfl, s3 _ _ hd2, small_int (by rw [List.length_map, hR.1.len]; omega), fun x u e => ?_, ts ++ [r], rs ++ [ms], _, _, rfl, ?_, hR.push s3 hr3 (ne_of_none hd2 hr0).symm ok, ?_⟩
        · rw [upd_ne (ne_of_none e hD)]; exact s3 _ _ (sm _ _ e)
        · rw [List.map_append]; exact upd_same
        · rw [List.length_append, hl]; rfl
    · rintro σ H2 ⟨sm, ts, rs, u1, u2, rfl, hd2, hR, hl⟩
      exact ⟨_, rfl, k D ts rs H2 sm hD hd2 hR (by omega)⟩
def spNames : Sp := fun vs H Q _ => ∃ (n : Nat) (sd : Int), vs = [.int (n : Nat), .int sd] ∧ n ≤ 12 ∧ ∀ D ns H', Same H H' → H' D = some (.lst (sv ns)) → ns.length = n → Nms ns → Q (.ref D) H'
theorem ok_names (T : Txt P K mg A) : FnOk P w K mg base CX0 1 A.a_law_names A.d_law_names ["count", "seed"] spNames := by
  refine T.F_law_names.ok sc_law_names (fun vs H Q E h => ?_) (fun cdv A' outer s H vs Q E hr h => ?_)
  · obtain ⟨n, sd, rfl, _⟩ := h
    rfl
  · obtain ⟨n, sd, rfl, hn, k⟩ := h
    refine ⟨_, (pss_cons (ps_if (pt_cmpR op_gt (pe_op op_mod (pe_callTy call_int1 (by rfl) T.n_int (by decide +kernel) (pa_cons (pv 1) pa_nil)) pe_int) pe_int (nomark _)) (pss_cons (ps_set (i := 2) sc_law_names.nd rfl (Or.inl rfl) (pe_lst (pa_cons pe_str (pa_cons pe_str (pa_cons pe_str (pa_cons pe_str (pa_cons pe_str (pa_cons pe_str (pa_cons pe_str (pa_cons pe_str (pa_cons pe_str (pa_cons pe_str (pa_cons pe_str (pa_cons pe_str pa_nil))))))))))))))
      (pss_cons (ps_if (pt_cmpR op_eq (pe_op op_mod (pe_callTy call_int1 (by rfl) T.n_int (by decide +kernel) (pa_cons (pv 1) pa_nil)) pe_int) pe_int (nomark _)) (pss_one (ps_set (i := 2) sc_law_names.nd rfl (Or.inl rfl) (pe_lst (pa_cons pe_str (pa_cons pe_str (pa_cons pe_str (pa_cons pe_str (pa_cons pe_str (pa_cons pe_str (pa_cons pe_str (pa_cons pe_str (pa_cons pe_str (pa_cons pe_str (pa_cons pe_str (pa_cons pe_str pa_nil))))))))))))))) pss_nil)
      (pss_cons (ps_set (i := 3) sc_law_names.nd rfl (Or.inl rfl) (pe_op op_mod (pe_callTy call_int1 (by rfl) T.n_int (by decide +kernel) (pa_cons (pe_op op_fdiv (pv 1) pe_int) pa_nil)) pe_int))
      (pss_one (ps_ret (pe_slice sl_list (pe_op op_cat (pe_slice sl_list (pv 2) (po_some (pv 3)) po_none) (pe_slice sl_list (pv 2) po_none (po_some (pv 3)))) po_none (po_some (pv 0)))))))) pss_nil)
      (pss_cons (ps_set (i := 4) sc_law_names.nd rfl (Or.inl rfl) (pe_lst pa_nil))
      (pss_cons (ps_for PassesOwn.never rfl (pi_range1 (by rfl) T.n_range (pa_cons (pv 0) pa_nil)) (pg_name (i := 5) sc_law_names.nd rfl (Or.inl rfl))
        (pss_cons (ps_set (i := 6) sc_law_names.nd rfl (Or.inl rfl) (pe_ix ix_str pe_str (pe_op op_mod (pe_callTy call_int1 (by rfl) T.n_int (by decide +kernel) (pa_cons (pe_op op_add (pe_op op_mul (pv 5) pe_int) (pv 1)) pa_nil)) pe_int) (fun _ _ => rfl)))
      (pss_cons (ps_set (i := 7) sc_law_names.nd rfl (Or.inl rfl) (pe_op op_mulS (pe_ix ix_str pe_str (pe_op op_mod (pe_callTy call_int1 (by rfl) T.n_int (by decide +kernel) (pa_cons (pe_op op_add (pe_op op_fdiv (pv 1) pe_int) (pv 5)) pa_nil)) pe_int) (fun _ _ => rfl)) (pe_op op_mod (pe_callTy call_int1 (by rfl) T.n_int (by decide +kernel) (pa_cons (pe_op op_add (pe_op op_fdiv (pv 1) pe_int) (pe_op op_mul (pv 5) pe_int)) pa_nil)) pe_int)))
      (pss_cons (ps_set (i := 8) sc_law_names.nd rfl (Or.inl rfl) (pe_op op_mulS (pe_ix ix_str pe_str (pe_op op_mod (pe_callTy call_int1 (by rfl) T.n_int (by decide +kernel) (pa_cons (pe_op op_add (pe_op op_fdiv (pv 1) pe_int) (pe_op op_mul (pv 5) pe_int)) pa_nil)) pe_int) (fun _ _ => rfl)) (pe_op op_mod (pe_callTy call_int1 (by rfl) T.n_int (by decide +kernel) (pa_cons (pe_op op_add (pe_op op_fdiv (pv 1) pe_int) (pv 5)) pa_nil)) pe_int)))
      (pss_cons (ps_if (pt_cmpR op_eq (pe_op op_mod (pe_callTy call_int1 (by rfl) T.n_int (by decide +kernel) (pa_cons (pv 1) pa_nil)) pe_int) pe_int (nomark _)) (pss_cons (ps_set (i := 7) sc_law_names.nd rfl (Or.inl rfl) (pe_op op_mulS pe_str (pe_op op_mod (pe_callTy call_int1 (by rfl) T.n_int (by decide +kernel) (pa_cons (pe_op op_fdiv (pv 1) pe_int) pa_nil)) pe_int)))
      (pss_one (ps_set (i := 8) sc_law_names.nd rfl (Or.inl rfl) (pe_op op_mulS pe_str (pe_op op_mod (pe_callTy call_int1 (by rfl) T.n_int (by decide +kernel) (pa_cons (pe_op op_fdiv (pv 1) pe_int) pa_nil)) pe_int))))) pss_nil)
      (pss_one (ps_expr (pe_bm PySem.F.plainAttrs_list PySem.F.slot_list_append PySem.F.type_list_append mt_append (pv 4) (pa_cons (pe_op op_add_str (pe_op op_add_str (pv 7) (pv 6)) (pv 8)) pa_nil)))))))))
      (pss_one (ps_ret (pv 4)))))), ?_⟩
    refine ⟨_, rfl, .inl ⟨_, rfl, _, _, rfl, rfl, by show (0 : Int) < 6; decide, _, _, rfl, rfl, _, rfl, ite2 (fun hb => ?_) (fun hb => ?_)⟩⟩
    · refine ⟨by show 12 ≤ sizeLine; decide, fun a0 ha0 => ?_⟩
      have s1 := same_new (o := .lst (sv W1)) ha0
      refine ⟨_, rfl, .inl ⟨_, rfl, _, _, rfl, rfl, by show (0 : Int) < 6; decide, rfl, _, rfl, ite2 (fun hb2 => ?_) (fun hb2 => ?_)⟩⟩
      · refine ⟨by show 12 ≤ sizeLine; decide, fun a ha => ?_⟩
        have s2 := s1.trans (same_new (o := .lst (sv W2)) ha)
        refine ⟨_, rfl, _, _, rfl, rfl, ⟨by decide, by decide⟩, .inl ⟨_, rfl, _, _, rfl, rfl, by show (0 : Int) < 12; decide, ?_⟩⟩
        obtain ⟨c, hc⟩ := Int.eq_ofNat_of_zero_le (Int.emod_nonneg (sd / 6) (show (12 : Int) ≠ 0 by decide))
        refine ⟨_, rfl, _, rfl, _, rfl, a, _, rfl, SqL.of upd_same, fun p hp2 => ?_⟩
        have hbp : a ≠ p := ne_of_none upd_same hp2
        have hp3 := hp2
        have s3 := s2.trans (same_new (o := .lst (cutV (sv W2) (some (sd / 6 % 12)) none)) hp2)
        refine ⟨_, rfl, _, rfl, _, rfl, a, _, rfl, SqL.of (by rw [upd_ne hbp]; exact upd_same), fun q hq => ?_⟩
        have hpq : p ≠ q := ne_of_none upd_same hq
        have s4 := s3.trans (same_new (o := .lst (cutV (sv W2) none (some (sd / 6 % 12)))) hq)
        refine ⟨p, q, _, _, rfl, rfl, by rw [upd_ne hpq]; exact upd_same, upd_same, ?_, fun t ht => ?_⟩
        · rw [hc, cut_dropG, cut_takeG]
          refine Nat.le_trans (m := 24) ?_ (by decide)
          rw [List.length_drop, List.length_take]
          show 12 - c + min c 12 ≤ 24
          omega
        · have s5 := s4.trans (same_new (o := .lst (cutV (sv W2) (some (sd / 6 % 12)) none ++ cutV (sv W2) none (some (sd / 6 % 12)))) ht)
          refine ⟨_, rfl, _, rfl, t, _, rfl, SqL.of upd_same, fun r hr2 => ?_⟩
          have s6 := s5.trans (same_new (o := .lst (cutV (cutV (sv W2) (some (sd / 6 % 12)) none ++ cutV (sv W2) none (some (sd / 6 % 12))) none (some (n : Int)))) hr2)
          have eL : cutV (cutV (sv W2) (some (sd / 6 % 12)) none ++ cutV (sv W2) none (some (sd / 6 % 12))) none (some (n : Int)) = sv ((((W2).drop c) ++ (W2).take c).take n) := by
            rw [hc, cut_dropG, cut_takeG, cut_takeG, sv_drop, sv_take, sv_app, sv_take]
          have pr := rot_perm W2 c
          refine k r _ _ s6 (by rw [← eL]; exact upd_same) ?_ ?_
          · rw [List.length_take, pr.length_eq, show (W2).length = 12 from rfl]; omega
          · exact w2_ok.sub pr (List.take_sublist _ _)
      · have a := a0
        have s2 := s1
        refine ⟨_, rfl, _, _, rfl, rfl, ⟨by decide, by decide⟩, .inl ⟨_, rfl, _, _, rfl, rfl, by show (0 : Int) < 12; decide, ?_⟩⟩
        obtain ⟨c, hc⟩ := Int.eq_ofNat_of_zero_le (Int.emod_nonneg (sd / 6) (show (12 : Int) ≠ 0 by decide))
        refine ⟨_, rfl, _, rfl, _, rfl, a0, _, rfl, SqL.of upd_same, fun p hp2 => ?_⟩
        have hbp : a0 ≠ p := ne_of_none upd_same hp2
        have hp3 := hp2
        have s3 := s2.trans (same_new (o := .lst (cutV (sv W1) (some (sd / 6 % 12)) none)) hp2)
        refine ⟨_, rfl, _, rfl, _, rfl, a0, _, rfl, SqL.of (by rw [upd_ne hbp]; exact upd_same), fun q hq => ?_⟩
        have hpq : p ≠ q := ne_of_none upd_same hq
        have s4 := s3.trans (same_new (o := .lst (cutV (sv W1) none (some (sd / 6 % 12)))) hq)
        refine ⟨p, q, _, _, rfl, rfl, by rw [upd_ne hpq]; exact upd_same, upd_same, ?_, fun t ht => ?_⟩
        · rw [hc, cut_dropG, cut_takeG]
          refine Nat.le_trans (m := 24) ?_ (by decide)
          rw [List.length_drop, List.length_take]
          show 12 - c + min c 12 ≤ 24
          omega
        · have s5 := s4.trans (same_new (o := .lst (cutV (sv W1) (some (sd / 6 % 12)) none ++ cutV (sv W1) none (some (sd / 6 % 12)))) ht)
          refine ⟨_, rfl, _, rfl, t, _, rfl, SqL.of upd_same, fun r hr2 => ?_⟩
          have s6 := s5.trans (same_new (o := .lst (cutV (cutV (sv W1) (some (sd / 6 % 12)) none ++ cutV (sv W1) none (some (sd / 6 % 12))) none (some (n : Int)))) hr2)
          have eL : cutV (cutV (sv W1) (some (sd / 6 % 12)) none ++ cutV (sv W1) none (some (sd / 6 % 12))) none (some (n : Int)) = sv ((((W1).drop c) ++ (W1).take c).take n) := by
            rw [hc, cut_dropG, cut_takeG, cut_takeG, sv_drop, sv_take, sv_app, sv_take]
          have pr := rot_perm W1 c
          refine k r _ _ s6 (by rw [← eL]; exact upd_same) ?_ ?_
          · rw [List.length_take, pr.length_eq, show (W1).length = 12 from rfl]; omega
          · exact w1_ok.sub pr (List.take_sublist _ _)
    · refine ⟨by show 0 ≤ sizeLine; decide, fun D hD => ?_⟩
      have s0 := same_new (o := .lst []) hD
      refine ⟨_, rfl, _, rfl, by omega, by omega, for_range (n := ((n : Nat) : Int).toNat) (fun i σ H2 => Same H H2 ∧ ∃ (ns : List Str) (u1 u2 u3 u4 : Option V), σ = [some (.int (n : Nat)), some (.int sd), none, none, some (.ref D), u1, u2, u3, u4] ∧ H2 D = some (.lst (sv ns)) ∧ Mades sd ns ∧ ns.length = i)
        ⟨s0, [], none, none, none, none, rfl, upd_same, (fun t z e => by simp at e), rfl⟩ ?_ ?_⟩
      · rintro i σ H2 hi ⟨sm, ns, u1, u2, u3, u4, rfl, hd2, hM, hl⟩
        have c0 := Int.emod_nonneg ((0 + (i : Int)) * 5 + sd) (show (12 : Int) ≠ 0 by decide)
        have c1 := Int.emod_lt_of_pos ((0 + (i : Int)) * 5 + sd) (show (0 : Int) < 12 by decide)
        have a0 := Int.emod_nonneg (sd / 12 + (0 + (i : Int))) (show (14 : Int) ≠ 0 by decide)
        have a1 := Int.emod_lt_of_pos (sd / 12 + (0 + (i : Int))) (show (0 : Int) < 14 by decide)
        have b0 := Int.emod_nonneg (sd / 7 + (0 + (i : Int)) * 3) (show (14 : Int) ≠ 0 by decide)
        have b1 := Int.emod_lt_of_pos (sd / 7 + (0 + (i : Int)) * 3) (show (0 : Int) < 14 by decide)
        have m0 := Int.emod_nonneg (sd / 5 + (0 + (i : Int)) * 2) (show (3 : Int) ≠ 0 by decide)
        have m1 := Int.emod_lt_of_pos (sd / 5 + (0 + (i : Int)) * 2) (show (0 : Int) < 3 by decide)
        have n0 := Int.emod_nonneg (sd / 11 + (0 + (i : Int))) (show (4 : Int) ≠ 0 by decide)
        have n1 := Int.emod_lt_of_pos (sd / 11 + (0 + (i : Int))) (show (0 : Int) < 4 by decide)
        have p0 := Int.emod_nonneg (sd / 2) (show (3 : Int) ≠ 0 by decide)
        have p1 := Int.emod_lt_of_pos (sd / 2) (show (0 : Int) < 3 by decide)
        have q0 := Int.emod_nonneg (sd / 6) (show (3 : Int) ≠ 0 by decide)
        have q1 := Int.emod_lt_of_pos (sd / 6) (show (0 : Int) < 3 by decide)
        refine ⟨_, rfl, _, _, rfl, rfl, .inr (by decide), _, rfl, _, _, rfl, rfl, .inl ⟨_, rfl, _, _, rfl, rfl, by show (0 : Int) < 12; decide, _, _, _, rfl, rfl, core_len, core_at c0 c1, ?_⟩⟩
        refine ⟨_, rfl, _, _, rfl, rfl, ⟨by decide, by decide⟩, _, rfl, _, _, rfl, rfl, .inl ⟨_, rfl, _, _, rfl, rfl, by show (0 : Int) < 14; decide, _, _, _, rfl, rfl, left_len, left_at a0 a1, ?_⟩⟩
        refine ⟨_, rfl, _, _, rfl, rfl, ⟨by decide, by decide⟩, _, rfl, _, _, rfl, rfl, .inr (by decide), _, _, rfl, rfl, .inl ⟨_, rfl, _, _, rfl, rfl, by show (0 : Int) < 3; decide, _, _, rfl, rfl, mulOk1 _ m0 (by omega), ?_⟩⟩
        refine ⟨_, rfl, _, _, rfl, rfl, ⟨by decide, by decide⟩, _, rfl, _, _, rfl, rfl, .inr (by decide), _, _, rfl, rfl, .inl ⟨_, rfl, _, _, rfl, rfl, by show (0 : Int) < 14; decide, _, _, _, rfl, rfl, right_len, right_at b0 b1, ?_⟩⟩
        refine ⟨_, rfl, _, _, rfl, rfl, ⟨by decide, by decide⟩, _, rfl, _, _, rfl, rfl, .inl ⟨_, rfl, _, _, rfl, rfl, by show (0 : Int) < 4; decide, _, _, rfl, rfl, mulOk1 _ n0 (by omega), ?_⟩⟩
        have sl := side1 (c := 109 + ((sd / 12 + (0 + (i : Int))) % 14).toNat) (n := (sd / 5 + (0 + (i : Int)) * 2) % 3) (by omega) (by omega) m0 (by omega)
        have sr := side1 (c := 122 - ((sd / 7 + (0 + (i : Int)) * 3) % 14).toNat) (n := (sd / 11 + (0 + (i : Int))) % 4) (by omega) (by omega) n0 (by omega)
        have ecore : ((0 + (i : Int)) * 5 + sd) % 12 = ((ns.length : Int) * 5 + sd) % 12 := by rw [hl, Int.zero_add]
        have fin : ∀ (l r : Str), Side l → Side r → l.length + 1 ≤ sizeLine ∧ (l ++ l1 (97 + (((0 + (i : Int)) * 5 + sd) % 12).toNat)).length + r.length ≤ sizeLine ∧ Mades sd (ns ++ [l ++ l1 (97 + (((0 + (i : Int)) * 5 + sd) % 12).toNat) ++ r]) := fun l r hl2 hr2 => by
          have x1 := hl2.2
          have x2 := hr2.2
          refine ⟨Nat.le_trans (m := 24) (by omega) (by decide), Nat.le_trans (m := 24) ?_ (by decide), hM.app ?_⟩
          · rw [Str.length_append, show (l1 (97 + (((0 + (i : Int)) * 5 + sd) % 12).toNat)).length = 1 from rfl]; omega
          · rw [← ecore]; exact made_of hl2 hr2 (by omega) (by omega)
        refine ⟨_, rfl, .inl ⟨_, rfl, _, _, rfl, rfl, by show (0 : Int) < 2; decide, rfl, _, rfl, ite2 (fun hb2 => ?_) (fun hb2 => ?_)⟩⟩
        · refine ⟨_, rfl, _, _, rfl, rfl, ⟨by decide, by decide⟩, .inl ⟨_, rfl, _, _, rfl, rfl, by show (0 : Int) < 3; decide, _, _, rfl, rfl, by rw [em]; exact mulOk1 _ p0 (by omega), ?_⟩⟩
          refine ⟨_, rfl, _, _, rfl, rfl, ⟨by decide, by decide⟩, .inl ⟨_, rfl, _, _, rfl, rfl, by show (0 : Int) < 3; decide, _, _, rfl, rfl, by rw [ez]; exact mulOk1 _ q0 (by omega), ?_⟩⟩
          have sl2 := side1 (c := 109) (n := sd / 2 % 3) (by omega) (by omega) p0 (by omega)
          have sr2 := side1 (c := 122) (n := sd / 6 % 3) (by omega) (by omega) q0 (by omega)
          rw [← em] at sl2
          rw [← ez] at sr2
          obtain ⟨f1, f2, f3⟩ := fin _ _ sl2 sr2
          refine ⟨_, rfl, .inl ⟨rfl, _, SqL.of hd2⟩, _, rfl, _, rfl, _, _, rfl, rfl, f1, _, rfl, _, _, rfl, rfl, f2, D, _, _, rfl, rfl, hd2, small_int (by rw [len_sv]; omega), ?_⟩
          refine ⟨fun x u e => ?_, _, _, _, _, _, rfl, ?_, f3, by rw [List.length_append, hl]; rfl⟩
          · rw [upd_ne (ne_of_none e hD)]; exact sm _ _ e
          · rw [sv_snoc']; exact upd_same
        · obtain ⟨f1, f2, f3⟩ := fin _ _ sl sr
          refine ⟨_, rfl, .inl ⟨rfl, _, SqL.of hd2⟩, _, rfl, _, rfl, _, _, rfl, rfl, f1, _, rfl, _, _, rfl, rfl, f2, D, _, _, rfl, rfl, hd2, small_int (by rw [len_sv]; omega), ?_⟩
          refine ⟨fun x u e => ?_, _, _, _, _, _, rfl, ?_, f3, by rw [List.length_append, hl]; rfl⟩
          · rw [upd_ne (ne_of_none e hD)]; exact sm _ _ e
          · rw [sv_snoc']; exact upd_same
      · rintro σ H2 ⟨sm, ns, u1, u2, u3, u4, rfl, hd2, hM, hl⟩
        rw [Int.toNat_natCast] at hl
        exact ⟨_, rfl, k D ns H2 sm hd2 hl (hM.nms (by omega))⟩
end
end My
set_option maxRecDepth 100000
set_option maxHeartbeats 4000000
set_option exponentiation.threshold 10000
namespace My
open PySem L2
/-- beginnings of orders, k long -/
def Beg (cs : List Str) (k : Nat) (lls : List (List Str)) : Prop := ∀ x ∈ lls, x.Nodup ∧ (∀ y ∈ x, y ∈ cs) ∧ x.length = k
theorem Beg.app {cs : List Str} {k : Nat} {lls : List (List Str)} {y : List Str} (h : Beg cs k lls) (hy : y.Nodup ∧ (∀ z ∈ y, z ∈ cs) ∧ y.length = k) : Beg cs k (lls ++ [y]) := fun x hx => (List.mem_append.mp hx).elim (h x) fun e => by rw [List.mem_singleton.mp e]; exact hy
theorem perm_of_len {x cs : List Str} (nd : x.Nodup) (h : ∀ y ∈ x, y ∈ cs) (hl : x.length = cs.length) (nc : cs.Nodup) : x.Perm cs := (perm_of_fault nc (fault_none h nd (by omega))).2.2
section
variable {P : Program} {w : World} {K : PySem.W.Frag} {mg : Str → Option Value} {base : Heap} {A : Ad}
def spAllOrders (K : PySem.W.Frag) : Sp := fun vs H Q _ => ∃ n cs, vs = [.ref n] ∧ SqL K H n (sv cs) ∧ cs.Nodup ∧ cs.length ≤ 4 ∧
  ∀ D us lls H', Same H H' → H D = none → H' D = some (.lst (us.map V.ref)) → Lss .lst H' us lls → (∀ x ∈ lls, x.Perm cs) → lls.length ≤ 256 → Q (.ref D) H'
theorem ok_allOrders (T : Txt P K mg A) : FnOk P w K mg base CX0 1 A.a_law_all_orders A.d_law_all_orders ["names"] (spAllOrders K) := by
  refine T.F_law_all_orders.ok sc_law_all_orders (fun vs H Q E h => ?_) (fun cdv A' outer s H vs Q E hr h => ?_)
  · obtain ⟨n, cs, rfl, _⟩ := h
    rfl
  · obtain ⟨n, cs, rfl, hN, nd, hl, k⟩ := h
    refine ⟨_, (pss_cons (ps_set (i := 1) sc_law_all_orders.nd rfl (Or.inl rfl) (pe_lst (pa_cons (pe_lst pa_nil) pa_nil)))
      (pss_cons (ps_for PassesOwn.never rfl (pi_range1 (by rfl) T.n_range (pa_cons (pe_callB call_len_seq (by rfl) T.n_len (by decide +kernel) (pa_cons (pv 0) pa_nil)) pa_nil)) (pg_name (i := 2) sc_law_all_orders.nd rfl (Or.inl rfl))
        (pss_cons (ps_set (i := 3) sc_law_all_orders.nd rfl (Or.inl rfl) (pe_lst pa_nil))
      (pss_cons (ps_for PassesOwn.never rfl (pi_list (pv 1)) (pg_name (i := 4) sc_law_all_orders.nd rfl (Or.inl rfl))
        (pss_one (ps_for PassesOwn.never rfl (pi_list (pv 0)) (pg_name (i := 5) sc_law_all_orders.nd rfl (Or.inl rfl))
        (pss_one (ps_if (pt_cmpR op_notIn_seq (pv 5) (pv 4) (by with_unfolding_all rfl)) (pss_one (ps_expr (pe_bm PySem.F.plainAttrs_list PySem.F.slot_list_append PySem.F.type_list_append mt_append (pv 3) (pa_cons (pe_op op_cat (pv 4) (pe_lst (pa_cons (pv 5) pa_nil))) pa_nil)))) pss_nil)))))
      (pss_one (ps_set (i := 1) sc_law_all_orders.nd rfl (Or.inl rfl) (pe_callTy (show CallR _ _ (rListOf K) from call_list_of) (by rfl) T.n_list (by decide +kernel) (pa_cons (pv 3) pa_nil)))))))
      (pss_one (ps_ret (pv 1))))), ?_⟩
    refine ⟨by show 0 ≤ sizeLine; decide, fun a ha => ?_⟩
    have s1 := same_new (o := .lst (sv [])) ha
    refine ⟨by show 1 ≤ sizeLine; decide, fun D hD => ?_⟩
    have s2 := s1.trans (same_new (o := .lst [V.ref a]) hD)
    have hDn : H D = none := none_of s1 hD
    refine ⟨_, rfl, n, _, rfl, .inl (s2.seq hN), _, rfl, by rw [len_sv]; omega, by rw [len_sv]; omega, ?_⟩
    have e1 : (((sv cs).length : Nat) : Int).toNat = cs.length := by rw [len_sv, Int.toNat_natCast]
    refine for_range (n := (((sv cs).length : Nat) : Int).toNat) (fun i σ H2 => Same H H2 ∧ ∃ (D : Addr) (us : List Addr) (lls : List (List Str)) (u1 u2 u3 u4 : Option V), σ = [some (.ref n), some (.ref D), u1, u2, u3, u4] ∧ H D = none ∧ H2 D = some (.lst (us.map V.ref)) ∧ Lss .lst H2 us lls ∧ Beg cs i lls ∧ lls.length ≤ 4 ^ i)
      ⟨s2, D, [a], [[]], none, none, none, none, rfl, hDn, upd_same, ?_, ?_, by decide⟩ ?_ ?_
    · exact Lss.app Lss.nil (by rw [upd_ne (ne_of_none upd_same hD)]; exact upd_same)
    · intro x hx
      rw [List.mem_singleton.mp hx]
      exact ⟨List.nodup_nil, (fun y hy => nomatch hy), rfl⟩
    · rintro i σ H2 hi ⟨sm, D, us, lls, u1, u2, u3, u4, rfl, hDn, h2, hls, hb, hlen⟩
      rw [e1] at hi
      have hlen2 : lls.length ≤ 256 := Nat.le_trans hlen (Nat.le_trans (Nat.pow_le_pow_right (by decide) (by omega : i ≤ 4)) (by decide))
      refine ⟨by show 0 ≤ sizeLine; decide, fun L hL => ?_⟩
      have sL := same_new (o := .lst []) hL
      refine ⟨_, rfl, D, rfl, ⟨_, SqL.of (sL _ _ h2)⟩, for_it walk_list (fun j σ H3 => ∃ (l2 : List (List Str)) (u3 u4 : Option V), σ = [some (.ref n), some (.ref D), some (.int (0 + (i : Int))), some (.ref L), u3, u4] ∧ LcL H2 L l2 H3 ∧ Beg cs (i + 1) l2 ∧ l2.length ≤ j * 4)
        ⟨[], u3, u4, rfl, lcl0 hL, (fun x hx => nomatch hx), Nat.zero_le _⟩ (fun j σ H3 _ q => by obtain ⟨l2, u3, u4, _, q, _⟩ := q; exact q.1.seq (SqL.of h2)) ?_ ?_⟩
      · rintro j x σ H30 H3 hj ⟨l2, u3, u4, rfl, q, hb2, hl2⟩ ⟨rfl, hx⟩
        obtain ⟨b, hbx, rfl⟩ := refs_get hx
        obtain ⟨y, hy, ho⟩ := (hls.same q.1).get hbx
        obtain ⟨ndy, hys, hyl⟩ := hb y (List.mem_of_getElem? hy)
        have hjl : j < lls.length := (List.getElem?_eq_some_iff.mp hy).1
        have hN3 := (sm.trans q.1).seq hN
        have s3 := sm.trans q.1
        refine ⟨_, rfl, n, rfl, ⟨_, hN3⟩, for_it walk_list (fun m σ H4 => ∃ (l2 : List (List Str)) (u4 : Option V), σ = [some (.ref n), some (.ref D), some (.int (0 + (i : Int))), some (.ref L), some (.ref b), u4] ∧ LcL H2 L l2 H4 ∧ Beg cs (i + 1) l2 ∧ l2.length ≤ j * 4 + m)
          ⟨l2, u4, rfl, q, hb2, hl2⟩ (fun m σ H4 _ q4 => by obtain ⟨l2, u4, _, q4, _⟩ := q4; exact (sm.trans q4.1).seq hN) ?_ ?_⟩
        · rintro m x σ H40 H4 hm ⟨l2, u4, rfl, q4, hb2, hl2⟩ ⟨rfl, hx⟩
          obtain ⟨z, hz, rfl⟩ := sv_get hx
          have hml : m < cs.length := (List.getElem?_eq_some_iff.mp hz).1
          have hb4 := (hls.same q4.1).at_ j b y hbx hy
          refine ⟨_, rfl, _, rfl, b, _, rfl, .inl (SqL.of hb4), rfl, flat_sv _, _, rfl, ?_⟩
          rw [if_pos rfl, inV_str]
          by_cases hzy : z ∈ y
          · exact ifF (by rw [decide_eq_true hzy]; rfl) ⟨l2, _, rfl, q4, hb2, by omega⟩
          · refine ifT (by rw [decide_eq_false hzy]; rfl) ?_
            obtain ⟨us4, hL4, hls4, hn4⟩ := q4.2
            refine ⟨_, rfl, .inl ⟨rfl, _, SqL.of hL4⟩, _, rfl, _, rfl, by show 1 ≤ sizeLine; decide, fun q5 hq5 => ?_⟩
            refine ⟨b, q5, _, _, rfl, rfl, by rw [upd_ne (ne_of_none hb4 hq5)]; exact hb4, upd_same, ?_, fun t ht => ?_⟩
            · rw [len_sv]
              exact Nat.le_trans (show y.length + 1 ≤ 1000 by omega) (by decide)
            · have p5 := same_new (o := .lst [V.str z]) hq5
              have q6 : LcL H2 L l2 (upd H4 q5 (.lst [V.str z])) := ⟨q4.1.trans p5, us4, p5 _ _ hL4, hls4.same p5, hn4⟩
              have e6 : sv y ++ [V.str z] = sv (y ++ [z]) := (sv_snoc' y z).symm
              rw [e6]
              have q7 := q6.push (y := y ++ [z]) hL (same_new (o := .lst (sv (y ++ [z]))) ht) upd_same (ne_of_none q6.2.choose_spec.1 ht).symm (by omega)
              obtain ⟨acc, ha1, ha2, ha3⟩ := q7
              exact ⟨L, _, _, rfl, rfl, ha1, ha2, l2 ++ [y ++ [z]], _, rfl, ha3, hb2.app ⟨by rw [List.nodup_append]; exact ⟨ndy, by simp, fun a ha c hc e => hzy (by rw [List.mem_singleton.mp hc] at e; rw [← e]; exact ha)⟩, (fun w hw => (List.mem_append.mp hw).elim (hys w) fun e => by rw [List.mem_singleton.mp e]; exact List.mem_of_getElem? hz), by rw [List.length_append, hyl]; rfl⟩, by rw [List.length_append]; simp; omega⟩
        · rintro σ H4 ⟨l2, u4, rfl, q4, hb2, hl2⟩
          rw [len_sv] at hl2
          exact ⟨l2, _, _, rfl, q4, hb2, by omega⟩
      · rintro σ H3 ⟨l2, u3, u4, rfl, q, hb2, hl2⟩
        obtain ⟨us3, hL3, hls3, hn3⟩ := q.2
        rw [List.length_map, hls.len] at hl2
        have s3 := sm.trans q.1
        refine ⟨_, rfl, L, _, rfl, .inl (SqL.of hL3), fun D2 hD2 => ⟨s3.trans (same_new hD2), D2, us3, l2, _, _, _, _, rfl, none_of s3 hD2, upd_same, hls3.same (same_new hD2), hb2, ?_⟩⟩
        rw [Nat.pow_succ]
        exact Nat.le_trans hl2 (Nat.mul_le_mul_right 4 hlen)
    · rintro σ H2 ⟨sm, D, us, lls, u1, u2, u3, u4, rfl, hDn, h2, hls, hb, hlen⟩
      rw [e1] at hb hlen
      exact ⟨_, rfl, k D us lls H2 sm hDn h2 hls (fun x hx => perm_of_len (hb x hx).1 (hb x hx).2.1 (hb x hx).2.2 nd) (Nat.le_trans hlen (Nat.le_trans (Nat.pow_le_pow_right (by decide) hl) (by decide)))⟩
end
end My
set_option maxRecDepth 100000
set_option maxHeartbeats 4000000
namespace My
open PySem L2
/-! ### rows on a ring: the numbers of runs, read round -/
def b2 (b : Bool) : Nat := if b = true then 1 else 0
/-- how often a true stands behind a false, p ahead -/
def tr (p : Bool) : List Bool → Nat
  | [] => 0
  | b :: t => b2 (b && !p) + tr b t
def lastB (p : Bool) : List Bool → Bool
  | [] => p
  | b :: t => lastB b t
/-- read round -/
def rsn (l : List Bool) : Nat := tr (lastB false l) l
theorem lastB_any {l : List Bool} (h : l ≠ []) (p q : Bool) : lastB p l = lastB q l := by
  cases l with
  | nil => exact absurd rfl h
  | cons b t => rfl
theorem lastB_app (p : Bool) (a b : List Bool) : lastB p (a ++ b) = lastB (lastB p a) b := by
  induction a generalizing p with
  | nil => rfl
  | cons x t ih => exact ih x
theorem tr_app (p : Bool) (a b : List Bool) : tr p (a ++ b) = tr p a + tr (lastB p a) b := by
  induction a generalizing p with
  | nil => simp [tr, lastB]
  | cons x t ih =>
    show b2 (x && !p) + tr x (t ++ b) = b2 (x && !p) + tr x t + tr (lastB x t) b
    rw [ih]; omega
theorem rsn_rot (a b : List Bool) : rsn (a ++ b) = rsn (b ++ a) := by
  by_cases ha : a = []
  · subst ha; rw [List.append_nil]; rfl
  by_cases hb : b = []
  · subst hb; rw [List.append_nil]; rfl
  unfold rsn
  rw [lastB_app, lastB_app, lastB_any hb (lastB false a) false, lastB_any ha (lastB false b) false, tr_app, tr_app, lastB_any ha (lastB false b) false, lastB_any hb (lastB false a) false]
  omega
theorem tr_not (p : Bool) (l : List Bool) : tr p l + b2 p = tr (!p) (l.map not) + b2 (lastB p l) := by
  induction l generalizing p with
  | nil => rfl
  | cons b t ih =>
    have := ih b
    show b2 (b && !p) + tr b t + b2 p = b2 (!b && !!p) + tr (!b) (t.map not) + b2 (lastB b t)
    have e : b2 (b && !p) + b2 p = b2 (!b && !!p) + b2 b := by cases b <;> cases p <;> rfl
    omega
theorem lastB_not (p : Bool) (l : List Bool) : lastB (!p) (l.map not) = !lastB p l := by
  induction l generalizing p with
  | nil => rfl
  | cons b t ih => exact ih b
theorem rsn_not (l : List Bool) : rsn (l.map not) = rsn l := by
  by_cases h : l = []
  · subst h; rfl
  have h2 : l.map not ≠ [] := fun e => h (List.map_eq_nil_iff.mp e)
  unfold rsn
  have e1 : lastB false (l.map not) = !lastB false l := by rw [lastB_any h2 false (!false), lastB_not]
  have := tr_not (lastB false l) l
  rw [lastB_any h (lastB false l) false] at this
  rw [e1]
  omega
theorem tr_false {l : List Bool} (h : tr false l = 0) : ∀ x ∈ l, x = false := by
  induction l with
  | nil => intro x hx; cases hx
  | cons b t ih =>
    have h : b2 (b && !false) + tr b t = 0 := h
    have hb : b = false := by
      cases b with
      | false => rfl
      | true => exact absurd h (by show ¬ (1 + tr true t = 0); omega)
    subst hb
    intro x hx
    rcases List.mem_cons.mp hx with e | e
    · exact e
    · exact ih (by have : tr false t = 0 := by omega
                   exact this) x e
theorem lastB_mem (p : Bool) (l : List Bool) (h : ∀ x ∈ l, x = false) (hl : l ≠ [] ∨ p = false) : lastB p l = false := by
  induction l generalizing p with
  | nil => exact hl.elim (fun e => absurd rfl e) id
  | cons b t ih => exact ih b (fun x hx => h x (List.mem_cons_of_mem _ hx)) (.inr (h b List.mem_cons_self))
theorem tr_true {l : List Bool} (h : tr true l = 0) (hl : lastB true l = true) : ∀ x ∈ l, x = true := by
  induction l with
  | nil => intro x hx; cases hx
  | cons b t ih =>
    have h : b2 (b && !true) + tr b t = 0 := h
    cases b with
    | true =>
      intro x hx
      rcases List.mem_cons.mp hx with e | e
      · exact e
      · exact ih (by omega) hl x e
    | false =>
      have h0 : tr false t = 0 := by omega
      have : lastB false t = false := lastB_mem false t (tr_false h0) (.inr rfl)
      have hl : lastB false t = true := hl
      rw [this] at hl; cases hl
theorem tr_le (p : Bool) (l : List Bool) (h : ∀ x ∈ l, x = false) : tr p l = 0 := by
  induction l generalizing p with
  | nil => rfl
  | cons b t ih =>
    show b2 (b && !p) + tr b t = 0
    rw [h b List.mem_cons_self, ih false fun x hx => h x (List.mem_cons_of_mem _ hx)]; rfl
theorem tr_all (l : List Bool) (h : ∀ x ∈ l, x = true) : tr true l = 0 ∧ lastB true l = true := by
  induction l with
  | nil => exact ⟨rfl, rfl⟩
  | cons b t ih =>
    have e := h b List.mem_cons_self
    subst e
    have := ih fun x hx => h x (List.mem_cons_of_mem _ hx)
    exact ⟨by show b2 (true && !true) + tr true t = 0; rw [this.1]; rfl, this.2⟩
/-- counted place by place -/
def cnt (p : Bool) (l : List Bool) : List Nat := (List.range l.length).filter fun i => l.getD i false && !(if i = 0 then p else l.getD (i - 1) false)
theorem cnt_tr (p : Bool) (l : List Bool) : (cnt p l).length = tr p l := by
  induction l generalizing p with
  | nil => rfl
  | cons b t ih =>
    show ((List.range (t.length + 1)).filter _).length = b2 (b && !p) + tr b t
    rw [List.range_succ_eq_map, List.filter_cons, List.filter_map, ← ih b]
    have e : (List.filter ((fun i => (b :: t).getD i false && !(if i = 0 then p else (b :: t).getD (i - 1) false)) ∘ Nat.succ) (List.range t.length)) = cnt b t := by
      unfold cnt
      refine List.filter_congr fun i hi => ?_
      show (t.getD i false && !((b :: t).getD i false)) = (t.getD i false && !(if i = 0 then b else t.getD (i - 1) false))
      cases i with
      | zero => rfl
      | succ i => rfl
    rw [e]
    have e2 : ((b :: t).getD 0 false && !(if 0 = 0 then p else (b :: t).getD (0 - 1) false)) = (b && !p) := rfl
    rw [e2]
    cases hb : (b && !p) with
    | true =>
      rw [if_pos rfl, List.length_cons, List.length_map]
      show _ = 1 + _
      omega
    | false =>
      rw [if_neg (by decide), List.length_map]
      show _ = 0 + _
      omega
theorem runs_tr (l : List Bool) : runs l = tr false l := by
  rw [← cnt_tr]
  unfold runs cnt
  congr 1
  refine List.filter_congr fun i _ => ?_
  unfold runAt
  cases i with
  | zero => rfl
  | succ i => simp
theorem ring_core (l : List Bool) : (decide (runs l ≤ 1) || decide (runs (l.map not) ≤ 1)) = decide (rsn l ≤ 1) := by
  cases l with
  | nil => rfl
  | cons b t =>
    have h1 : runs (b :: t) = b2 (b && !false) + tr b t := by rw [runs_tr]; rfl
    have h2 : runs ((b :: t).map not) = b2 (!b && !false) + tr (!b) (t.map not) := by rw [runs_tr]; rfl
    have h3 : rsn (b :: t) = b2 (b && !lastB b t) + tr b t := rfl
    have h4 : rsn ((b :: t).map not) = b2 (!b && !lastB (!b) (t.map not)) + tr (!b) (t.map not) := rfl
    rw [rsn_not, lastB_not] at h4
    rw [h1, h2]
    rw [Bool.eq_iff_iff, Bool.or_eq_true, decide_eq_true_iff, decide_eq_true_iff, decide_eq_true_iff]
    cases b <;> cases hl : lastB _ t <;> rw [hl] at h3 h4 <;> simp [b2] at h3 h4 ⊢ <;> omega
theorem filt_all {p : Nat → Bool} {l : List Nat} : (l.filter p).length = l.length ↔ ∀ x ∈ l, p x = true := by
  induction l with
  | nil => simp
  | cons a t ih =>
    have := List.length_filter_le p t
    cases hp : p a with
    | true => rw [List.filter_cons_of_pos hp]; simp [hp, ih]
    | false =>
      rw [List.filter_cons_of_neg (by rw [hp]; decide)]
      constructor
      · intro h; rw [List.length_cons] at h; omega
      · intro h; rw [h a List.mem_cons_self] at hp; cases hp
/-- the ring's own question: all, none, or one start -/
theorem ring_ask (l : List Bool) : (decide ((((List.range l.length).filter fun i => l.getD i false)).length = 0) || (decide ((((List.range l.length).filter fun i => l.getD i false)).length = l.length) || decide ((cnt (l.getD (l.length - 1) false) l).length = 1))) = decide (rsn l ≤ 1) := by
  have hlast : l.getD (l.length - 1) false = lastB false l := by
    have : ∀ (l : List Bool) (p : Bool), (l.getD (l.length - 1) p) = lastB p l := by
      intro l
      induction l with
      | nil => intro p; rfl
      | cons b t ih =>
        intro p
        cases t with
        | nil => rfl
        | cons c u =>
          have := ih b
          show (b :: c :: u).getD (u.length + 1) p = lastB b (c :: u)
          rw [← this]
          show (b :: c :: u).getD (u.length + 1) p = (c :: u).getD u.length b
          rw [List.getD_cons_succ, List.getD_eq_getElem?_getD, List.getD_eq_getElem?_getD, List.getElem?_eq_getElem (by simp)]
          rfl
    exact this l false
  rw [hlast, cnt_tr]
  have h0 : ((List.range l.length).filter fun i => l.getD i false).length = 0 ↔ ∀ x ∈ l, x = false := by
    rw [List.length_eq_zero_iff, List.filter_eq_nil_iff]
    constructor
    · intro h x hx
      obtain ⟨i, hi, rfl⟩ := List.getElem_of_mem hx
      have := h i (List.mem_range.mpr hi)
      rw [List.getD_eq_getElem?_getD, List.getElem?_eq_getElem hi] at this
      simpa using this
    · intro h i hi
      have hi := List.mem_range.mp hi
      rw [List.getD_eq_getElem?_getD, List.getElem?_eq_getElem hi]
      simp [h _ (List.getElem_mem hi)]
  have h1 : ((List.range l.length).filter fun i => l.getD i false).length = l.length ↔ ∀ x ∈ l, x = true := by
    constructor
    · intro h x hx
      obtain ⟨i, hi, rfl⟩ := List.getElem_of_mem hx
      have e := filt_all.mp (h.trans List.length_range.symm) i (List.mem_range.mpr hi)
      rw [List.getD_eq_getElem?_getD, List.getElem?_eq_getElem hi] at e
      exact e
    · intro h
      refine (filt_all.mpr fun i hi => ?_).trans List.length_range
      have hi := List.mem_range.mp hi
      rw [List.getD_eq_getElem?_getD, List.getElem?_eq_getElem hi]
      exact h _ (List.getElem_mem hi)
  rw [Bool.eq_iff_iff, Bool.or_eq_true, Bool.or_eq_true, decide_eq_true_iff, decide_eq_true_iff, decide_eq_true_iff, decide_eq_true_iff, h0, h1]
  constructor
  · rintro (h | h | h)
    · unfold rsn; rw [tr_le _ _ h]; decide
    · by_cases e : l = []
      · subst e; decide
      · unfold rsn
        rw [lastB_any e false true, (tr_all l h).2, (tr_all l h).1]; decide
    · show tr _ l ≤ 1
      omega
  · intro h
    rcases Nat.lt_or_ge (rsn l) 1 with c | c
    · have c : tr (lastB false l) l = 0 := by unfold rsn at c; omega
      cases hp : lastB false l with
      | false => rw [hp] at c; exact .inl (tr_false c)
      | true =>
        rw [hp] at c
        by_cases e : l = []
        · subst e; cases hp
        · exact .inr (.inl (tr_true c (by rw [lastB_any e true false]; exact hp)))
    · exact .inr (.inr (by unfold rsn at h c; omega))
/-- cut open behind c -/
theorem ring_cut (a b : List Bool) (c : Bool) : runs ((b ++ a).map fun x => x != c) = rsn (a ++ c :: b) := by
  have e : rsn (a ++ c :: b) = rsn (c :: (b ++ a)) := by rw [rsn_rot a (c :: b)]; rfl
  rw [e, runs_tr]
  cases c with
  | false =>
    have : ((b ++ a).map fun x => x != false) = b ++ a := by
      conv => rhs; rw [← List.map_id (b ++ a)]
      exact List.map_congr_left fun x _ => by cases x <;> rfl
    rw [this]
    show _ = b2 (false && _) + tr false (b ++ a)
    simp [b2]
  | true =>
    have : ((b ++ a).map fun x => x != true) = (b ++ a).map not := List.map_congr_left fun x _ => by cases x <;> rfl
    rw [this, ← rsn_not]
    show _ = b2 (!true && _) + tr (!true) ((b ++ a).map not)
    simp [b2]
end My
set_option maxRecDepth 100000
set_option maxHeartbeats 4000000
set_option exponentiation.threshold 10000
namespace My
open PySem L2
def isOrd (cs ns : List Str) : Bool := decide (ns.length = cs.length) && cs.all fun x => decide (x ∈ ns)
section
variable {P : Program} {w : World} {K : PySem.W.Frag} {mg : Str → Option Value} {base : Heap} {A : Ad}
def spIsOrder (K : PySem.W.Frag) : Sp := fun vs H Q _ => ∃ o n ns cs, vs = [.ref o, .ref n] ∧ H o = some (.lst (sv ns)) ∧ SqL K H n (sv cs) ∧ Q (.bl (isOrd cs ns)) H
theorem ok_isOrder (T : Txt P K mg A) : FnOk P w K mg base CX0 1 A.a_law_is_order A.d_law_is_order ["order", "names"] (spIsOrder K) := by
  refine T.F_law_is_order.ok sc_law_is_order (fun vs H Q E h => ?_) (fun cdv A' outer s H vs Q E hr h => ?_)
  · obtain ⟨o, n, ns, cs, rfl, _⟩ := h
    rfl
  · obtain ⟨o, n, ns, cs, rfl, ho, hN, k⟩ := h
    refine ⟨_, (pss_cons (ps_if (PW.pt (pw_or (pt_not (pt_val (pe_callB call_isi (by rfl) T.n_isinstance (by decide +kernel) (pa_cons (pv 0) (pa_cons (pe_bltn (v := .ty "list") (by rfl) T.n_list (by decide +kernel) rfl) pa_nil))))) (pw_or1 (pt_cmpR op_ne (pe_callB call_len_seq (by rfl) T.n_len (by decide +kernel) (pa_cons (pv 0) pa_nil)) (pe_callB call_len_seq (by rfl) T.n_len (by decide +kernel) (pa_cons (pv 1) pa_nil)) (nomark _))))) (pss_one (ps_ret pe_bl)) pss_nil)
      (pss_cons (ps_for PassesOwn.never rfl (pi_list (pv 1)) (pg_name (i := 2) sc_law_is_order.nd rfl (Or.inl rfl))
        (pss_one (ps_if (pt_cmpR op_notIn_seq (pv 2) (pv 0) (by with_unfolding_all rfl)) (pss_one (ps_ret pe_bl)) pss_nil)))
      (pss_one (ps_ret pe_bl)))), ?_⟩
    refine ⟨_, rfl, _, _, _, _, true, rfl, .ty _, .base (.lst ho), kit_ty (by decide +kernel), true, rfl, ifF rfl ?_⟩
    refine ⟨_, rfl, o, _, rfl, .inl (SqL.of ho), _, rfl, n, _, rfl, .inl hN, rfl, _, rfl, ?_⟩
    by_cases hl : ns.length = cs.length
    · refine ifF (by rw [iEq (by rw [len_sv, len_sv]; omega)]; rfl) ?_
      refine ⟨_, rfl, n, rfl, ⟨_, hN⟩, for_it walk_list (fun i σ H2 => H2 = H ∧ (∀ (j : Nat) z, j < i → cs[j]? = some z → z ∈ ns) ∧ ∃ u, σ = [some (.ref o), some (.ref n), u]) ⟨rfl, fun j z hj => absurd hj (Nat.not_lt_zero _), none, rfl⟩ (fun i σ H2 _ q => by rw [q.1]; exact hN) ?_ ?_⟩
      · rintro i x σ H20 H2 hi ⟨sm, hb, u, rfl⟩ ⟨rfl, hx⟩
        subst sm
        obtain ⟨z, hz, rfl⟩ := sv_get hx
        refine ⟨_, rfl, _, rfl, o, _, rfl, .inl (SqL.of ho), rfl, flat_sv _, _, rfl, ?_⟩
        rw [if_pos (rfl : true = true), inV_str]
        by_cases hc : z ∈ ns
        · refine ifF (by rw [decide_eq_true hc]; rfl) ⟨rfl, fun j y hj hy => ?_, _, rfl⟩
          rcases Nat.lt_succ_iff_lt_or_eq.mp hj with q | q
          · exact hb j y q hy
          · rw [q, hz] at hy; cases hy; exact hc
        · refine ifT (by rw [decide_eq_false hc]; rfl) ?_
          have e : isOrd cs ns = false := by
            unfold isOrd
            rw [decide_eq_true hl, Bool.true_and, List.all_eq_false]
            exact ⟨z, List.mem_of_getElem? hz, by simp [hc]⟩
          rw [e] at k
          exact k
      · rintro σ H2 ⟨sm, hb, u, rfl⟩
        subst sm
        have e : isOrd cs ns = true := by
          unfold isOrd
          rw [decide_eq_true hl, Bool.true_and, List.all_eq_true]
          intro x hx
          obtain ⟨i, hi, rfl⟩ := List.getElem_of_mem hx
          exact decide_eq_true (hb i _ (by rw [len_sv]; exact hi) (List.getElem?_eq_getElem hi))
        rw [e] at k
        exact k
    · refine ifT (by rw [iNe (by rw [len_sv, len_sv]; omega)]; rfl) ?_
      have e : isOrd cs ns = false := by unfold isOrd; rw [decide_eq_false hl]; rfl
      rw [e] at k
      exact k
/-! ### a ring moved round to begin with a name -/
def spRoundFrom : Sp := fun vs H Q _ => ∃ o z ns, vs = [.ref o, .str z] ∧ H o = some (.lst (sv ns)) ∧ z ∈ ns ∧ ns.length ≤ 1000 ∧
  ∀ i l H', ns[i]? = some z → (∀ m, m < i → ns[m]? ≠ some z) → Same H H' → H l = none → H' l = some (.lst (sv (ns.drop i ++ ns.take i))) → Q (.ref l) H'
theorem ok_roundFrom (T : Txt P K mg A) : FnOk P w K mg base CX0 1 A.a_law_round_from A.d_law_round_from ["order", "name"] spRoundFrom := by
  refine T.F_law_round_from.ok sc_law_round_from (fun vs H Q E h => ?_) (fun cdv A' outer s H vs Q E hr h => ?_)
  · obtain ⟨o, z, ns, rfl, _⟩ := h
    rfl
  · obtain ⟨o, z, ns, rfl, ho, hz, hl, k⟩ := h
    refine ⟨_, (pss_cons (ps_set (i := 2) sc_law_round_from.nd rfl (Or.inl rfl) (pe_bm PySem.F.plainAttrs_list PySem.F.slot_list_index PySem.F.type_list_index mt_index (pv 0) (pa_cons (pv 1) pa_nil)))
      (pss_one (ps_ret (pe_op op_cat (pe_slice sl_list (pv 0) (po_some (pv 2)) po_none) (pe_slice sl_list (pv 0) po_none (po_some (pv 2))))))), ?_⟩
    obtain ⟨i, hi, hno⟩ := first_ix hz
    have hil := (List.getElem?_eq_some_iff.mp hi).1
    refine ⟨_, rfl, .inl ⟨rfl, _, SqL.of ho⟩, _, rfl, o, sv ns, .str z, i, .str z, rfl, rfl, SqL.of ho, rfl, flat_sv _, by rw [List.getElem?_map, hi]; rfl, by rw [eqV_str]; exact decide_eq_true rfl, fun m z' hm hz' => ?_, ?_⟩
    · obtain ⟨y, hy, rfl⟩ := sv_get hz'
      rw [eqV_str]
      exact decide_eq_false fun e => hno m hm (by rw [hy, e])
    refine ⟨_, rfl, _, rfl, _, rfl, ?_⟩
    dsimp only [tNoPart]
    refine slO (SqL.of ho) fun a H1 s1 _ ha => ?_
    rw [cut_dropG, sv_drop] at ha
    refine ⟨_, rfl, _, rfl, _, rfl, slO (s1.seq (SqL.of ho)) fun b H2 s2 _ hb => ?_⟩
    rw [cut_takeG, sv_take] at hb
    refine ⟨a, b, _, _, rfl, rfl, s2 _ _ ha, hb, ?_, fun t ht => ?_⟩
    · rw [len_sv, len_sv, List.length_drop, List.length_take]
      exact Nat.le_trans (show (ns.length - i) + min i ns.length ≤ 1000 by omega) (by decide)
    · have s12 := s1.trans s2
      refine k i t _ hi hno (s12.trans (same_new ht)) (none_of s12 ht) ?_
      rw [upd_same, sv_app]
/-! ### an arc of a ring -/
def spArc (K : PySem.W.Frag) : Sp := fun vs H Q _ => ∃ o os d, vs = [.ref o, .int d] ∧ SqL K H o (sv os) ∧ os.Nodup ∧ os.length ≤ 12 ∧
  ∀ r ms H', Same H H' → H r = none → H' r = some (.lst (sv ms)) → RowOk os ms → Q (.ref r) H'
theorem ok_arc (T : Txt P K mg A) : FnOk P w K mg base CX0 1 A.a_law_arc A.d_law_arc ["order", "draw"] (spArc K) := by
  refine T.F_law_arc.ok sc_law_arc (fun vs H Q E h => ?_) (fun cdv A' outer s H vs Q E hr h => ?_)
  · obtain ⟨o, os, d, rfl, _⟩ := h
    rfl
  · obtain ⟨o, os, d, rfl, hO, nd, hl, k⟩ := h
    refine ⟨_, (pss_cons (ps_set (i := 2) sc_law_arc.nd rfl (Or.inl rfl) (pe_callB call_len_seq (by rfl) T.n_len (by decide +kernel) (pa_cons (pv 0) pa_nil)))
      (pss_cons (ps_if (pt_cmpR op_eq (pv 2) pe_int (nomark _)) (pss_one (ps_ret (pe_lst pa_nil))) pss_nil)
      (pss_cons (ps_set (i := 3) sc_law_arc.nd rfl (Or.inl rfl) (pe_op op_mod (pe_callTy call_int1 (by rfl) T.n_int (by decide +kernel) (pa_cons (pv 1) pa_nil)) (pv 2)))
      (pss_cons (ps_set (i := 4) sc_law_arc.nd rfl (Or.inl rfl) (pe_op op_mod (pe_callTy call_int1 (by rfl) T.n_int (by decide +kernel) (pa_cons (pe_op op_fdiv (pv 1) pe_int) pa_nil)) (pe_op op_add (pv 2) pe_int)))
      (pss_cons (ps_set (i := 5) sc_law_arc.nd rfl (Or.inl rfl) (pe_op op_cat (pe_slice sl_list (pv 0) (po_some (pv 3)) po_none) (pe_slice sl_list (pv 0) po_none (po_some (pv 3)))))
      (pss_one (ps_ret (pe_slice sl_list (pv 5) po_none (po_some (pv 4)))))))))), ?_⟩
    refine ⟨_, rfl, o, _, rfl, .inl hO, _, rfl, rfl, _, rfl, ?_⟩
    by_cases h0 : os = []
    · subst h0
      refine ifT rfl ?_
      exact ⟨by show 0 ≤ sizeLine; decide, fun l hl => k l [] _ (same_new hl) hl upd_same ⟨List.nodup_nil, fun y hy => nomatch hy⟩⟩
    · have hpos : 0 < os.length := List.length_pos_iff.mpr h0
      have hls : (0 : Int) < ((sv os).length : Int) := by rw [len_sv]; omega
      refine ifF (iNe (by rw [len_sv]; omega)) ?_
      refine ⟨_, rfl, .inl ⟨_, rfl, _, rfl, _, _, rfl, rfl, hls, ?_⟩⟩
      refine ⟨_, rfl, _, _, rfl, rfl, ⟨by decide, by decide⟩, .inl ⟨_, rfl, _, rfl, _, _, rfl, rfl, _, _, rfl, rfl, by omega, ?_⟩⟩
      obtain ⟨c, hc⟩ := Int.eq_ofNat_of_zero_le (Int.emod_nonneg d (Int.ne_of_gt hls))
      obtain ⟨w2, hw2⟩ := Int.eq_ofNat_of_zero_le (Int.emod_nonneg (d / 13) (show (((sv os).length : Nat) : Int) + 1 ≠ 0 by omega))
      refine ⟨_, rfl, _, rfl, _, rfl, ?_⟩
      dsimp only [tNoPart]
      refine slO hO fun a H1 s1 _ ha => ?_
      rw [hc, cut_dropG, sv_drop] at ha
      refine ⟨_, rfl, _, rfl, _, rfl, slO (s1.seq hO) fun b H2 s2 _ hb => ?_⟩
      rw [hc, cut_takeG, sv_take] at hb
      refine ⟨a, b, _, _, rfl, rfl, s2 _ _ ha, hb, ?_, fun t ht => ?_⟩
      · rw [len_sv, len_sv, List.length_drop, List.length_take]
        exact Nat.le_trans (show (os.length - c) + min c os.length ≤ 1000 by omega) (by decide)
      · have s12 := s1.trans s2
        have s13 := s12.trans (same_new (o := .lst (sv (os.drop c) ++ sv (os.take c))) ht)
        refine ⟨_, rfl, _, rfl, _, rfl, slO (SqL.of upd_same) fun r H3 s3 hr0 hr3 => ?_⟩
        rw [hw2, cut_takeG, sv_app, sv_take] at hr3
        have pr := rot_perm os c
        have sb := List.take_sublist w2 (os.drop c ++ os.take c)
        exact k r _ H3 (s13.trans s3) (none_of s13 hr0) hr3 ⟨sb.nodup (pr.nodup_iff.mpr nd), fun y hy => pr.mem_iff.mp (sb.subset hy)⟩
/-! ### rows turned, rows cut -/
def lturn (cs : List Str) (z : Str) (r : List Str) : List Str := if z ∈ r then outs cs r else canon cs r
def spTurnedRow (K : PySem.W.Frag) : Sp := fun vs H Q _ => ∃ n r cs rr z, vs = [.ref n, .ref r, .str z] ∧ SqL K H n (sv cs) ∧ SqL K H r (sv rr) ∧ cs.length ≤ 1000 ∧
  ∀ l H', Same H H' → H l = none → H' l = some (.lst (sv (lturn cs z rr))) → Q (.ref l) H'
theorem ok_turnedRow (T : Txt P K mg A) : FnOk P w K mg base CX0 2 A.a_law_turned_row A.d_law_turned_row ["names", "row", "name"] (spTurnedRow K) := by
  have G_law_sorted := ok_sorted (P := P) (w := w) (base := base) T
  refine T.F_law_turned_row.ok sc_law_turned_row (fun vs H Q E h => ?_) (fun cdv A' outer s H vs Q E hr h => ?_)
  · obtain ⟨n, r, cs, rr, z, rfl, _⟩ := h
    rfl
  · obtain ⟨n, l, cs, r, z, rfl, hN, hR, hl, k⟩ := h
    refine ⟨_, (pss_cons (ps_if (pt_cmpR op_in_seq (pv 2) (pv 1) (by with_unfolding_all rfl)) (pss_one (ps_ret (pe_lc (own := [("other", 3)]) (g := gName 3) (tt := _) rfl sc_law_turned_row.nd (pi_list (pv 0)) (blkOk_by (N := ["names", "row", "name", "other"]) (sc := defScope s_law_turned_row) (by decide +kernel)) (fun _ _ _ _ _ => (pg_name (i := 3) sc_law_turned_row.nd rfl (Or.inl rfl))) (fun _ _ _ _ _ => (pts_one (pt_cmpR (show OpR _ _ (rIn K true) from op_notIn_seq) (pv 3) (pv 1) (by with_unfolding_all rfl)))) (fun _ _ _ _ _ => (pv 3))))) pss_nil)
      (pss_one (ps_ret (pe_call G_law_sorted (hr.mono (by decide)) rfl T.mg_law_sorted T.F_law_sorted.kp T.b_law_sorted .nil pass0 (pa_cons (pv 0) (pa_cons (pv 1) pa_nil)))))), ?_⟩
    refine ⟨_, rfl, _, rfl, l, _, rfl, .inl hR, rfl, flat_sv _, _, rfl, ?_⟩
    rw [if_neg Bool.false_ne_true, inV_str]
    by_cases hz : z ∈ r
    · refine ifT (decide_eq_true hz) ?_
      have et : lturn cs z r = outs cs r := if_pos hz
      rw [et] at k
      have stepT : ∀ i z, cs[i]? = some z → z ∉ r → sv (outs (cs.take (i + 1)) r) = sv (outs (cs.take i) r) ++ [V.str z] := fun i z hz hm => by
        rw [take_succ hz, outs_T hm]; exact List.map_append
      have stepF : ∀ i z, cs[i]? = some z → z ∈ r → sv (outs (cs.take (i + 1)) r) = sv (outs (cs.take i) r) := fun i z hz hm => by
        rw [take_succ hz, outs_F hm]
      refine ⟨_, rfl, n, rfl, ⟨_, hN⟩, fun D hD => lc_it walk_list (PvS H D fun i => sv (outs (cs.take i) r)) (pv0 hD rfl) (fun i H2 _ q => q.1.seq hN) ?_ ?_⟩
      · rintro i x H3 H4 hi q ⟨rfl, hx⟩
        obtain ⟨y, hy, rfl⟩ := sv_get hx
        refine ⟨rfl, _, rfl, _, rfl, l, _, rfl, .inl (q.1.seq hR), rfl, flat_sv _, _, rfl, ?_⟩
        rw [if_pos rfl, inV_str]
        have hlen : (sv (outs (cs.take i) r)).length ≤ 1000000 := by
          have := (outs_sub (cs.take i) r).length_le
          rw [List.length_take] at this
          rw [len_sv]; omega
        by_cases hm : y ∈ r
        · exact ifF (by rw [decide_eq_true hm]; rfl) (q.skip (stepF i y hy hm))
        · exact ifT (by rw [decide_eq_false hm]; rfl) ⟨_, rfl, q.push hD (stepT i y hy hm) hlen⟩
      · rintro H3 ⟨sm, h3⟩
        have h3 : H3 D = some (.lst (sv (outs (cs.take (sv cs).length) r))) := h3
        rw [len_sv, List.take_length] at h3
        exact k D H3 sm hD h3
    · refine ifF (decide_eq_false hz) ?_
      have et : lturn cs z r = canon cs r := if_neg hz
      rw [et] at k
      exact ⟨_, rfl, _, rfl, n, l, cs, r, rfl, hN, hR, hl, fun a H' s ha h => k a H' s ha h⟩
def lcut (cs : List Str) (z : Str) (r : List Str) : List Str := others (lturn cs z r) z
theorem lturn_len (cs : List Str) (z : Str) (r : List Str) : (lturn cs z r).length ≤ cs.length := by
  unfold lturn
  split
  · exact (outs_sub _ _).length_le
  · exact (canon_sub _ _).length_le
def spCutRows (K : PySem.W.Frag) : Sp := fun vs H Q _ => ∃ n r cs z, ∃ (ts : List Addr) (rr : List (List Str)), vs = [.ref n, .ref r, .str z] ∧ SqL K H n (sv cs) ∧ SqL K H r (ts.map V.ref) ∧ Lss .lst H ts rr ∧ cs.length ≤ 1000 ∧ rr.length ≤ 1000 ∧
  ∀ D us H', Same H H' → H D = none → H' D = some (.lst (us.map V.ref)) → Lss .lst H' us (rr.map (lcut cs z)) → Q (.ref D) H'
theorem ok_cutRows (T : Txt P K mg A) : FnOk P w K mg base CX0 3 A.a_law_cut_rows A.d_law_cut_rows ["names", "rows", "name"] (spCutRows K) := by
  have G_law_turned_row := ok_turnedRow (P := P) (w := w) (base := base) T
  refine T.F_law_cut_rows.ok sc_law_cut_rows (fun vs H Q E h => ?_) (fun cdv A' outer s H vs Q E hr h => ?_)
  · obtain ⟨n, r, cs, z, ts, rr, rfl, _⟩ := h
    rfl
  · obtain ⟨n, l, cs, z, ts, rr, rfl, hN, hR, hts, hl, hrl, k⟩ := h
    refine ⟨_, (pss_cons (ps_set (i := 3) sc_law_cut_rows.nd rfl (Or.inl rfl) (pe_lst pa_nil))
      (pss_cons (ps_for PassesOwn.never rfl (pi_list (pv 1)) (pg_name (i := 4) sc_law_cut_rows.nd rfl (Or.inl rfl))
        (pss_one (ps_expr (pe_bm PySem.F.plainAttrs_list PySem.F.slot_list_append PySem.F.type_list_append mt_append (pv 3) (pa_cons (pe_lc (own := [("other", 5)]) (g := gName 5) (tt := _) rfl sc_law_cut_rows.nd (pi_list (pe_call G_law_turned_row (hr.mono (by decide)) rfl T.mg_law_turned_row T.F_law_turned_row.kp T.b_law_turned_row .nil pass0 (pa_cons (pv 0) (pa_cons (pv 4) (pa_cons (pv 2) pa_nil))))) (blkOk_by (N := ["names", "rows", "name", "made", "row", "other"]) (sc := defScope s_law_cut_rows) (by decide +kernel)) (fun _ _ _ _ _ => (pg_name (i := 5) sc_law_cut_rows.nd rfl (Or.inl rfl))) (fun _ _ _ _ _ => (pts_one (pt_cmpR op_ne (pv 5) (pv 2) (nomark _)))) (fun _ _ _ _ _ => (pv 5))) pa_nil)))))
      (pss_one (ps_ret (pv 3))))), ?_⟩
    refine ⟨by show 0 ≤ sizeLine; decide, fun D hD => ?_⟩
    have s1 := same_new (o := .lst []) hD
    refine ⟨_, rfl, l, rfl, ⟨_, s1.seq hR⟩, for_it walk_list (fun j σ H3 => ∃ (u3 u4 : Option V), σ = [some (.ref n), some (.ref l), some (.str z), some (.ref D), u3, u4] ∧ LcL H D ((rr.take j).map (lcut cs z)) H3)
        ⟨none, none, rfl, lcl0 hD⟩ (fun j σ H3 _ q => by obtain ⟨u3, u4, _, q⟩ := q; exact q.1.seq hR) ?_ ?_⟩
    · rintro j x σ H30 H3 hj ⟨u3, u4, rfl, q⟩ ⟨rfl, hx⟩
      obtain ⟨b, hbx, rfl⟩ := refs_get hx
      obtain ⟨y, hy, ho⟩ := (hts.same q.1).get hbx
      obtain ⟨us, hD3, _⟩ := id q.2
      have ll : (lturn cs z y).length ≤ 1000 := Nat.le_trans (lturn_len cs z y) hl
      refine ⟨_, rfl, .inl ⟨rfl, _, SqL.of hD3⟩, _, rfl, _, rfl, _, rfl, n, b, cs, y, z, rfl, q.1.seq hN, SqL.of ho, hl, fun a H4 s4 ha h4 => ?_⟩
      refine ⟨a, rfl, ⟨_, SqL.of h4⟩, fun D2 hD2 => lc_it walk_list (PvS H4 D2 fun i => sv (others ((lturn cs z y).take i) z)) (pv0 hD2 rfl) (fun i H2 _ q => q.1.seq (SqL.of h4)) ?_ ?_⟩
      · rintro i x H5 H6 hi q4 ⟨rfl, hx⟩
        obtain ⟨w1, hw, rfl⟩ := sv_get hx
        have hlen : (sv (others ((lturn cs z y).take i) z)).length ≤ 1000000 := by
          have h1 := (others_sub ((lturn cs z y).take i) z).length_le
          rw [List.length_take] at h1
          rw [len_sv]; omega
        refine ⟨rfl, ?_⟩
        by_cases e : w1 = z
        · refine ⟨_, rfl, _, rfl, rfl, _, rfl, ifF (by rw [sEq e]; rfl) (q4.skip ?_)⟩
          show sv (others ((lturn cs z y).take (i + 1)) z) = _
          rw [take_succ hw, others_F e]
        · refine ⟨_, rfl, _, rfl, rfl, _, rfl, ifT (by rw [sNe e]; rfl) ⟨_, rfl, q4.push hD2 ?_ hlen⟩⟩
          show sv (others ((lturn cs z y).take (i + 1)) z) = _
          rw [take_succ hw, others_T e]; exact List.map_append
      · rintro H5 ⟨sm, h5⟩
        have h5 : H5 D2 = some (.lst (sv (others ((lturn cs z y).take (sv (lturn cs z y)).length) z))) := h5
        rw [len_sv, List.take_length] at h5
        have q5 := q.push (y := lcut cs z y) hD (s4.trans sm) h5 (fun e => by rw [e, s4 _ _ hD3] at hD2; cases hD2) (by rw [List.length_map, List.length_take]; omega)
        obtain ⟨acc, ha1, ha2, ha3⟩ := q5
        refine ⟨D, _, _, rfl, rfl, ha1, ha2, _, _, rfl, ?_⟩
        rw [take_succ hy, List.map_append]
        exact ha3
    · rintro σ H3 ⟨u3, u4, rfl, q⟩
      rw [List.length_map, hts.len, List.take_length] at q
      obtain ⟨s3, us, hD3, hus, _⟩ := q
      exact ⟨_, rfl, k D us H3 s3 hD hD3 hus⟩
end
end My
set_option maxRecDepth 100000
set_option maxHeartbeats 4000000
set_option exponentiation.threshold 10000
namespace My
open PySem L2
def insL (l : List Bool) : List Nat := (List.range l.length).filter fun i => l.getD i false
theorem flags_len (ns r : List Str) : (flags ns r).length = ns.length := by unfold flags; rw [List.length_map]
theorem flag_of {ns r : List Str} {i : Nat} {z : Str} (h : ns[i]? = some z) : (flags ns r).getD i false = decide (z ∈ r) := by
  unfold flags
  rw [List.getD_eq_getElem?_getD, List.getElem?_map, h]; rfl
def stL (l : List Bool) : List Nat := (insL l).filter fun k => !(l.getD ((k + l.length - 1) % l.length) false)
theorem stL_cnt (l : List Bool) : stL l = cnt (l.getD (l.length - 1) false) l := by
  unfold stL insL cnt
  rw [List.filter_filter]
  refine List.filter_congr fun i hi => ?_
  have hi := List.mem_range.mp hi
  rw [Bool.and_comm]
  congr 2
  by_cases h0 : i = 0
  · subst h0
    rw [if_pos rfl]
    have : (0 + l.length - 1) % l.length = l.length - 1 := by rw [Nat.zero_add]; exact Nat.mod_eq_of_lt (by omega)
    rw [this]
  · rw [if_neg h0]
    have : (i + l.length - 1) % l.length = i - 1 := by
      rw [show i + l.length - 1 = (i - 1) + l.length by omega, Nat.add_mod_right]
      exact Nat.mod_eq_of_lt (by omega)
    rw [this]
theorem on_ring_eq (l : List Bool) : (decide ((insL l).length = 0) || (decide ((insL l).length = l.length) || decide ((stL l).length = 1))) = decide (rsn l ≤ 1) := by
  rw [stL_cnt]; exact ring_ask l
section
variable {P : Program} {w : World} {K : PySem.W.Frag} {mg : Str → Option Value} {base : Heap} {A : Ad}
def spOnRing (K : PySem.W.Frag) : Sp := fun vs H Q _ => ∃ o r ns rr, vs = [.ref o, .ref r] ∧ SqL K H o (sv ns) ∧ SqL K H r (sv rr) ∧ ns.length ≤ 1000 ∧ ∀ H', Same H H' → Q (.bl (decide (rsn (flags ns rr) ≤ 1))) H'
theorem ok_onRing (T : Txt P K mg A) : FnOk P w K mg base CX0 1 A.a_law_on_ring A.d_law_on_ring ["order", "row"] (spOnRing K) := by
  refine T.F_law_on_ring.ok sc_law_on_ring (fun vs H Q E h => ?_) (fun cdv A' outer s H vs Q E hr h => ?_)
  · obtain ⟨o, r, ns, rr, rfl, _⟩ := h
    rfl
  · obtain ⟨o, r, ns, rr, rfl, hO, hR, hl, k⟩ := h
    refine ⟨_, (pss_cons (ps_set (i := 2) sc_law_on_ring.nd rfl (Or.inr rfl) (pe_callB call_len_seq (by rfl) T.n_len (by decide +kernel) (pa_cons (pv 0) pa_nil)))
      (pss_cons (ps_setLc (i := 3) (own := [("k", 5)]) (g := gName 5) (tt := _) rfl sc_law_on_ring.nd rfl rfl (sw_true rfl rfl rfl (by decide +kernel)) (pi_range1 (by rfl) T.n_range (pa_cons (pv 2) pa_nil)) (blkOk_by (N := ["order", "row", "many", "inside", "starts", "k"]) (sc := defScope s_law_on_ring) (by decide +kernel)) (fun _ _ _ _ _ => (pg_name (i := 5) sc_law_on_ring.nd rfl (Or.inl rfl))) (fun _ _ _ _ _ => (pts_one (pt_cmpR (show OpR _ _ (rIn K false) from op_in_seq) (pe_ix (show IxR _ (rIxL K) from ix_list) (pv 0) (pv 5) (fun _ _ => rfl)) (pv 1) (by with_unfolding_all rfl)))) (fun _ _ _ _ _ => (pv 5)))
      (pss_cons (ps_setLc (i := 4) (own := [("k", 5)]) (g := gName 5) (tt := _) rfl sc_law_on_ring.nd rfl rfl (sw_true rfl rfl rfl (by decide +kernel)) (pi_list (pv 3)) (blkOk_by (N := ["order", "row", "many", "inside", "starts", "k"]) (sc := defScope s_law_on_ring) (by decide +kernel)) (fun _ _ _ _ _ => (pg_name (i := 5) sc_law_on_ring.nd rfl (Or.inl rfl))) (fun _ _ _ _ _ => (pts_one (pt_cmpR (show OpR _ _ (rIn K true) from op_notIn_seq) (pe_ix (show IxR _ (rIxL K) from ix_list) (pv 0) (pe_op op_mod (pe_callTy call_int1 (by rfl) T.n_int (by decide +kernel) (pa_cons (pe_op op_sub (pe_op op_add (pv 5) (pv 2)) pe_int) pa_nil)) (pv 2)) (fun _ _ => rfl)) (pv 1) (by with_unfolding_all rfl)))) (fun _ _ _ _ _ => (pv 5)))
      (pss_one (ps_ret (pe_or (pe_cmpR op_eq (pe_callB call_len_seq (by rfl) T.n_len (by decide +kernel) (pa_cons (pv 3) pa_nil)) pe_int (nomark _)) (pe_or (pe_cmpR op_eq (pe_callB call_len_seq (by rfl) T.n_len (by decide +kernel) (pa_cons (pv 3) pa_nil)) (pv 2) (nomark _)) (pe_one (pe_cmpR op_eq (pe_callB call_len_seq (by rfl) T.n_len (by decide +kernel) (pa_cons (pv 4) pa_nil)) pe_int (nomark _)))))))))), ?_⟩
    have e1 : (((sv ns).length : Nat) : Int).toNat = ns.length := by rw [len_sv, Int.toNat_natCast]
    have iv : ∀ l : List Nat, (l.map fun n => V.int ((n : Nat) : Int)).length = l.length := fun l => List.length_map ..
    refine ⟨_, rfl, o, _, rfl, .inl hO, ?_⟩
    refine ⟨_, rfl, _, rfl, by rw [len_sv]; omega, by rw [len_sv]; omega, fun D hD => lc_range (n := (((sv ns).length : Nat) : Int).toNat) (PvS H D fun i => ((List.range i).filter fun i => (flags ns rr).getD i false).map fun n => V.int ((n : Nat) : Int)) (pv0 hD rfl) ?_ ?_⟩
    · rintro i H3 hi q
      rw [e1] at hi
      have hz : ns[i]? = some ns[i] := List.getElem?_eq_getElem hi
      have ej : atI (sv ns) (0 + (i : Int)) = some (V.str ns[i]) := by rw [Int.zero_add]; exact atI_nat (by rw [List.getElem?_map, hz]; rfl)
      refine ⟨rfl, _, rfl, _, rfl, o, _, _, _, rfl, rfl, q.1.seq hO, ej, _, rfl, r, _, rfl, .inl (q.1.seq hR), rfl, flat_sv _, _, rfl, ?_⟩
      rw [if_neg Bool.false_ne_true, inV_str, ← flag_of hz]
      have hlen : (((List.range i).filter fun i => (flags ns rr).getD i false).map fun n => V.int ((n : Nat) : Int)).length ≤ 1000000 := by
        have := List.length_filter_le (fun i => (flags ns rr).getD i false) (List.range i)
        rw [List.length_range] at this
        rw [List.length_map]; omega
      cases hb : (flags ns rr).getD i false with
      | true =>
        refine ifT rfl ⟨_, rfl, ?_⟩
        refine q.push hD ?_ hlen
        show ((List.range (i + 1)).filter _).map _ = _
        rw [List.range_succ, List.filter_append, List.map_append, List.filter_cons_of_pos (p := fun i => (flags ns rr).getD i false) (a := i) (l := []) hb, Int.zero_add]; rfl
      | false =>
        refine ifF rfl (q.skip ?_)
        show ((List.range (i + 1)).filter _).map _ = _
        rw [List.range_succ, List.filter_append, List.map_append, List.filter_cons_of_neg (p := fun i => (flags ns rr).getD i false) (a := i) (l := []) (by rw [hb]; decide)]; simp
    · rintro H3 ⟨s3, h3⟩
      rw [e1] at h3
      have h3 : H3 D = some (.lst ((insL (flags ns rr)).map fun n => V.int ((n : Nat) : Int))) := by unfold insL; rw [flags_len]; exact h3
      have hil : (insL (flags ns rr)).length ≤ 1000 := by
        have := List.length_filter_le (fun i => (flags ns rr).getD i false) (List.range (flags ns rr).length)
        rw [List.length_range, flags_len] at this
        unfold insL; rw [flags_len]; omega
      refine ⟨_, rfl, D, rfl, ⟨_, SqL.of h3⟩, fun D2 hD2 => lc_it walk_list (PvS H3 D2 fun i => (((insL (flags ns rr)).take i).filter fun k => !((flags ns rr).getD ((k + (flags ns rr).length - 1) % (flags ns rr).length) false)).map fun n => V.int ((n : Nat) : Int)) (pv0 hD2 rfl) (fun i H4 _ q => q.1.seq (SqL.of h3)) ?_ ?_⟩
      · rintro i x H4 H5 hi q ⟨rfl, hx⟩
        have hi2 : i < (insL (flags ns rr)).length := by rw [iv] at hi; exact hi
        have hk2 : (insL (flags ns rr))[i]? = some (insL (flags ns rr))[i] := List.getElem?_eq_getElem hi2
        generalize (insL (flags ns rr))[i] = kk at hk2
        rw [List.getElem?_map, hk2] at hx
        cases hx
        have hkn : kk < ns.length := by
          have := List.mem_of_getElem? hk2
          unfold insL at this
          have := List.mem_range.mp (List.mem_filter.mp this).1
          rw [flags_len] at this; exact this
        have hm : (kk + ns.length - 1) % ns.length < ns.length := Nat.mod_lt _ (by omega)
        have em : ((kk : Nat) : Int) + ((sv ns).length : Int) - 1 = ((kk + ns.length - 1 : Nat) : Int) := by rw [len_sv]; omega
        have hz : ns[(kk + ns.length - 1) % ns.length]? = some ns[(kk + ns.length - 1) % ns.length] := List.getElem?_eq_getElem hm
        have ej : atI (sv ns) ((((kk : Nat) : Int) + ((sv ns).length : Int) - 1) % ((sv ns).length : Int)) = some (V.str ns[(kk + ns.length - 1) % ns.length]) := by
          rw [em, len_sv, ← Int.natCast_emod]
          exact atI_nat (by rw [List.getElem?_map, hz]; rfl)
        have s4 := s3.trans q.1
        refine ⟨rfl, _, rfl, _, rfl, _, rfl, _, _, rfl, rfl, _, _, rfl, rfl, .inl ⟨_, rfl, _, rfl, _, _, rfl, rfl, by rw [len_sv]; omega, o, _, _, _, rfl, rfl, s4.seq hO, ej, _, rfl, r, _, rfl, .inl (s4.seq hR), rfl, flat_sv _, _, rfl, ?_⟩⟩
        rw [if_pos rfl, inV_str, ← flag_of hz]
        have hlen : ((((insL (flags ns rr)).take i).filter fun k => !((flags ns rr).getD ((k + (flags ns rr).length - 1) % (flags ns rr).length) false)).map fun n => V.int ((n : Nat) : Int)).length ≤ 1000000 := by
          have := List.length_filter_le (fun k => !((flags ns rr).getD ((k + (flags ns rr).length - 1) % (flags ns rr).length) false)) ((insL (flags ns rr)).take i)
          rw [List.length_take] at this
          rw [List.length_map]; omega
        have ef : (flags ns rr).length = ns.length := flags_len ns rr
        cases hb : (flags ns rr).getD ((kk + ns.length - 1) % ns.length) false with
        | false =>
          refine ifT rfl ⟨_, rfl, ?_⟩
          refine q.push hD2 ?_ hlen
          show (((insL (flags ns rr)).take (i + 1)).filter _).map _ = _
          rw [take_succ hk2, List.filter_append, List.map_append, List.filter_cons_of_pos (by rw [ef, hb]; rfl)]; rfl
        | true =>
          refine ifF rfl (q.skip ?_)
          show (((insL (flags ns rr)).take (i + 1)).filter _).map _ = _
          rw [take_succ hk2, List.filter_append, List.map_append, List.filter_cons_of_neg (by rw [ef, hb]; decide)]; simp
      · rintro H5 ⟨s5, h5⟩
        rw [iv] at h5
        dsimp only at h5
        rw [List.take_length] at h5
        have h5 : H5 D2 = some (.lst ((stL (flags ns rr)).map fun n => V.int ((n : Nat) : Int))) := h5
        have s35 := s3.trans s5
        have K5 := k H5 s35
        rw [← on_ring_eq, flags_len] at K5
        refine ⟨_, rfl, D, _, rfl, .inl (SqL.of (s5 _ _ h3)), rfl, ?_⟩
        rw [iv]
        by_cases c0 : (insL (flags ns rr)).length = 0
        · refine ⟨_, rfl, ifT (iEq (by omega)) ?_⟩
          rw [decide_eq_true c0, Bool.true_or] at K5
          exact K5
        · refine ⟨_, rfl, ifF (iNe (by omega)) ?_⟩
          rw [decide_eq_false c0, Bool.false_or] at K5
          refine ⟨_, rfl, D, _, rfl, .inl (SqL.of (s5 _ _ h3)), _, rfl, rfl, ?_⟩
          rw [iv, len_sv]
          by_cases c1 : (insL (flags ns rr)).length = ns.length
          · refine ⟨_, rfl, ifT (iEq (by omega)) ?_⟩
            rw [decide_eq_true c1, Bool.true_or] at K5
            exact K5
          · refine ⟨_, rfl, ifF (iNe (by omega)) ?_⟩
            rw [decide_eq_false c1, Bool.false_or] at K5
            refine ⟨_, rfl, D2, _, rfl, .inl (SqL.of h5), rfl, ?_⟩
            rw [iv]
            have e : decide (V.int ((stL (flags ns rr)).length : Int) = V.int 1) = decide ((stL (flags ns rr)).length = 1) := decide_eq_decide.mpr ⟨fun e => by have := V.int.inj e; omega, fun e => by rw [e]; rfl⟩
            rw [e]
            exact K5
def lawRing (cs : List Str) (rr : List (List Str)) (ns : List Str) : Bool := isOrd cs ns && (decide (ns.take 1 = cs.take 1) && rr.all fun r => decide (rsn (flags ns r) ≤ 1))
def spLawRing (K : PySem.W.Frag) : Sp := fun vs H Q _ => ∃ o n r ns cs, ∃ (ts : List Addr) (rr : List (List Str)), vs = [.ref o, .ref n, .ref r] ∧ H o = some (.lst (sv ns)) ∧ SqL K H n (sv cs) ∧ SqL K H r (ts.map V.ref) ∧ Lss .lst H ts rr ∧ ns.length ≤ 1000 ∧ ∀ H', Same H H' → Q (.bl (lawRing cs rr ns)) H'
theorem ok_lawRing (T : Txt P K mg A) : FnOk P w K mg base CX0 2 A.a_law_is_ring_layout A.d_law_is_ring_layout ["order", "names", "rows"] (spLawRing K) := by
  have G_law_is_order := ok_isOrder (P := P) (w := w) (base := base) T
  have G_law_on_ring := ok_onRing (P := P) (w := w) (base := base) T
  refine T.F_law_is_ring_layout.ok sc_law_is_ring_layout (fun vs H Q E h => ?_) (fun cdv A' outer s H vs Q E hr h => ?_)
  · obtain ⟨o, n, r, ns, cs, ts, rr, rfl, _⟩ := h
    rfl
  · obtain ⟨o, n, r, ns, cs, ts, rr, rfl, ho, hN, hR, hts, hl, k⟩ := h
    refine ⟨_, (pss_cons (ps_if (pt_not (pt_val (pe_call G_law_is_order (hr.mono (by decide)) rfl T.mg_law_is_order T.F_law_is_order.kp T.b_law_is_order .nil pass0 (pa_cons (pv 0) (pa_cons (pv 1) pa_nil))))) (pss_one (ps_ret pe_bl)) pss_nil)
      (pss_cons (ps_if (PW.pt (pw_and (pt_cmpR op_gt (pe_callB call_len_seq (by rfl) T.n_len (by decide +kernel) (pa_cons (pv 1) pa_nil)) pe_int (nomark _)) (pw_and1 (pt_cmpR op_ne (pe_ix ix_list (pv 0) pe_int (fun _ _ => rfl)) (pe_ix ix_list (pv 1) pe_int (fun _ _ => rfl)) (nomark _))))) (pss_one (ps_ret pe_bl)) pss_nil)
      (pss_cons (ps_for PassesOwn.never rfl (pi_list (pv 2)) (pg_name (i := 3) sc_law_is_ring_layout.nd rfl (Or.inl rfl))
        (pss_one (ps_if (pt_not (pt_val (pe_call G_law_on_ring (hr.mono (by decide)) rfl T.mg_law_on_ring T.F_law_on_ring.kp T.b_law_on_ring .nil pass0 (pa_cons (pv 0) (pa_cons (pv 3) pa_nil))))) (pss_one (ps_ret pe_bl)) pss_nil)))
      (pss_one (ps_ret pe_bl))))), ?_⟩
    refine ⟨_, rfl, _, rfl, o, n, ns, cs, rfl, ho, hN, ?_⟩
    cases hi : isOrd cs ns with
    | false =>
      refine ⟨_, rfl, ifT rfl ?_⟩
      have e : lawRing cs rr ns = false := by unfold lawRing; rw [hi]; rfl
      have := k H (Same.refl _)
      rw [e] at this
      exact this
    | true =>
      have hlen : ns.length = cs.length := by
        unfold isOrd at hi
        rw [Bool.and_eq_true, decide_eq_true_iff] at hi
        exact hi.1
      refine ⟨_, rfl, ifF rfl ?_⟩
      have bad : ns.take 1 ≠ cs.take 1 → Q (.bl false) H := fun hne => by
        have e : lawRing cs rr ns = false := by unfold lawRing; rw [hi, decide_eq_false hne]; rfl
        have := k H (Same.refl _)
        rw [e] at this
        exact this
      have done : ns.take 1 = cs.take 1 → ∀ H2, Same H H2 → Q (.bl (rr.all fun r => decide (rsn (flags ns r) ≤ 1))) H2 := fun hh H2 s2 => by
        have e : lawRing cs rr ns = rr.all fun r => decide (rsn (flags ns r) ≤ 1) := by unfold lawRing; rw [hi, decide_eq_true hh]; rfl
        have := k H2 s2
        rw [e] at this
        exact this
      have split : cs = [] ∨ ∃ a b, ns[0]? = some a ∧ cs[0]? = some b := by
        cases hc : cs with
        | nil => exact .inl rfl
        | cons b t =>
          have h0 : 0 < ns.length := by rw [hlen, hc, List.length_cons]; omega
          exact .inr ⟨ns[0], b, List.getElem?_eq_getElem h0, rfl⟩
      refine ⟨_, rfl, n, _, rfl, .inl hN, _, _, rfl, rfl, _, rfl, ?_⟩
      rcases split with h0 | ⟨a, b, ea, eb⟩
      · have hh : ns.take 1 = cs.take 1 := by
          rw [h0] at hlen ⊢
          rw [List.length_eq_zero_iff.mp hlen]
        refine itN (by rw [h0]; decide) ?_
        refine ⟨_, rfl, r, rfl, ⟨_, hR⟩, for_it walk_list (fun i σ H2 => Same H H2 ∧ (∀ (j : Nat) x, j < i → rr[j]? = some x → rsn (flags ns x) ≤ 1) ∧ ∃ u, σ = [some (.ref o), some (.ref n), some (.ref r), u]) ⟨Same.refl _, fun j z hj => absurd hj (Nat.not_lt_zero _), none, rfl⟩ (fun i σ H2 _ q => q.1.seq hR) ?_ ?_⟩
        · rintro i x σ H20 H2 hi ⟨sm, hb, u, rfl⟩ ⟨rfl, hx⟩
          obtain ⟨b2, hb2, rfl⟩ := refs_get hx
          obtain ⟨y, hy, ho2⟩ := (hts.same sm).get hb2
          refine ⟨_, rfl, _, rfl, o, b2, ns, y, rfl, SqL.of (sm _ _ ho), SqL.of ho2, hl, fun H3 s3 => ?_⟩
          by_cases hy1 : rsn (flags ns y) ≤ 1
          · refine ⟨_, rfl, ifF (by rw [decide_eq_true hy1]; rfl) ⟨sm.trans s3, fun j x hj hx => ?_, _, rfl⟩⟩
            rcases Nat.lt_succ_iff_lt_or_eq.mp hj with q | q
            · exact hb j x q hx
            · rw [q, hy] at hx; cases hx; exact hy1
          · refine ⟨_, rfl, ifT (by rw [decide_eq_false hy1]; rfl) ?_⟩
            have e : (rr.all fun r => decide (rsn (flags ns r) ≤ 1)) = false := by
              rw [List.all_eq_false]; exact ⟨y, List.mem_of_getElem? hy, by simpa using hy1⟩
            have := done hh H3 (sm.trans s3)
            rw [e] at this
            exact this
        · rintro σ H2 ⟨sm, hb, u, rfl⟩
          have e : (rr.all fun r => decide (rsn (flags ns r) ≤ 1)) = true := by
            rw [List.all_eq_true]
            intro x hx
            obtain ⟨i, hi, rfl⟩ := List.getElem_of_mem hx
            exact decide_eq_true (hb i _ (by rw [List.length_map, hts.len]; exact hi) (List.getElem?_eq_getElem hi))
          have := done hh H2 sm
          rw [e] at this
          exact this
      · have hcl : 0 < cs.length := (List.getElem?_eq_some_iff.mp eb).1
        have t1 : ns.take 1 = [a] := by have := take_succ (i := 0) ea; simpa using this
        have t2 : cs.take 1 = [b] := by have := take_succ (i := 0) eb; simpa using this
        have a0 : atI (sv ns) 0 = some (V.str a) := atI_nat (j := 0) (by rw [List.getElem?_map, ea]; rfl)
        have b0 : atI (sv cs) 0 = some (V.str b) := atI_nat (j := 0) (by rw [List.getElem?_map, eb]; rfl)
        refine itY (by rw [len_sv]; omega) ?_
        refine ⟨_, rfl, o, _, _, _, rfl, rfl, SqL.of ho, a0, _, rfl, n, _, _, _, rfl, rfl, hN, b0, rfl, _, rfl, ?_⟩
        by_cases hab : a = b
        · have hh : ns.take 1 = cs.take 1 := by rw [t1, t2, hab]
          refine ifF (by rw [sEq hab]; rfl) ?_
          refine ⟨_, rfl, r, rfl, ⟨_, hR⟩, for_it walk_list (fun i σ H2 => Same H H2 ∧ (∀ (j : Nat) x, j < i → rr[j]? = some x → rsn (flags ns x) ≤ 1) ∧ ∃ u, σ = [some (.ref o), some (.ref n), some (.ref r), u]) ⟨Same.refl _, fun j z hj => absurd hj (Nat.not_lt_zero _), none, rfl⟩ (fun i σ H2 _ q => q.1.seq hR) ?_ ?_⟩
          · rintro i x σ H20 H2 hi ⟨sm, hb, u, rfl⟩ ⟨rfl, hx⟩
            obtain ⟨b2, hb2, rfl⟩ := refs_get hx
            obtain ⟨y, hy, ho2⟩ := (hts.same sm).get hb2
            refine ⟨_, rfl, _, rfl, o, b2, ns, y, rfl, SqL.of (sm _ _ ho), SqL.of ho2, hl, fun H3 s3 => ?_⟩
            by_cases hy1 : rsn (flags ns y) ≤ 1
            · refine ⟨_, rfl, ifF (by rw [decide_eq_true hy1]; rfl) ⟨sm.trans s3, fun j x hj hx => ?_, _, rfl⟩⟩
              rcases Nat.lt_succ_iff_lt_or_eq.mp hj with q | q
              · exact hb j x q hx
              · rw [q, hy] at hx; cases hx; exact hy1
            · refine ⟨_, rfl, ifT (by rw [decide_eq_false hy1]; rfl) ?_⟩
              have e : (rr.all fun r => decide (rsn (flags ns r) ≤ 1)) = false := by
                rw [List.all_eq_false]; exact ⟨y, List.mem_of_getElem? hy, by simpa using hy1⟩
              have := done hh H3 (sm.trans s3)
              rw [e] at this
              exact this
          · rintro σ H2 ⟨sm, hb, u, rfl⟩
            have e : (rr.all fun r => decide (rsn (flags ns r) ≤ 1)) = true := by
              rw [List.all_eq_true]
              intro x hx
              obtain ⟨i, hi, rfl⟩ := List.getElem_of_mem hx
              exact decide_eq_true (hb i _ (by rw [List.length_map, hts.len]; exact hi) (List.getElem?_eq_getElem hi))
            have := done hh H2 sm
            rw [e] at this
            exact this
        · refine ifT (by rw [sNe hab]; rfl) ?_
          exact bad (by rw [t1, t2]; intro e; exact hab (List.cons.inj e).1)
end
end My
set_option maxRecDepth 100000
set_option maxHeartbeats 4000000
set_option exponentiation.threshold 10000
namespace My
open PySem L2
theorem perm_of_sub : ∀ {cs ns : List Str}, cs.Nodup → (∀ x ∈ cs, x ∈ ns) → ns.length = cs.length → ns.Perm cs
  | [], ns, _, _, h => by rw [List.length_eq_zero_iff.mp h]
  | a :: t, ns, nd, hs, h => by
    rw [List.nodup_cons] at nd
    have ha := hs a List.mem_cons_self
    have p := List.perm_cons_erase ha
    have := perm_of_sub (cs := t) (ns := ns.erase a) nd.2 (fun x hx => (List.mem_erase_of_ne (fun e => nd.1 (by rw [← e]; exact hx))).mpr (hs x (List.mem_cons_of_mem _ hx))) (by rw [List.length_erase_of_mem ha, h]; rfl)
    exact p.trans (this.cons a)
theorem isOrd_fault {cs ns : List Str} (nd : cs.Nodup) : isOrd cs ns = decide (fault cs ns = none) := by
  rw [Bool.eq_iff_iff, decide_eq_true_iff]
  unfold isOrd
  rw [Bool.and_eq_true, decide_eq_true_iff, List.all_eq_true]
  constructor
  · rintro ⟨h1, h2⟩
    have p := perm_of_sub nd (fun x hx => of_decide_eq_true (h2 x hx)) h1
    exact fault_none (fun x hx => p.mem_iff.mp hx) (p.nodup_iff.mpr nd) (by omega)
  · intro h
    have p := (perm_of_fault nd h).2.2
    exact ⟨p.length_eq, fun x hx => decide_eq_true (p.mem_iff.mpr hx)⟩
theorem flags_outs (ns r : List Str) : flags ns (outs ns r) = (flags ns r).map not := by
  unfold flags
  rw [List.map_map]
  refine List.map_congr_left fun x hx => ?_
  show decide (x ∈ outs ns r) = !decide (x ∈ r)
  rw [Bool.eq_iff_iff, decide_eq_true_iff, mem_outs, Bool.not_eq_true', decide_eq_false_iff_not]
  exact ⟨fun h => h.2, fun h => ⟨hx, h⟩⟩
theorem flags_canon' {cs ns r : List Str} (h : ∀ x ∈ ns, x ∈ cs) : flags ns (canon cs r) = flags ns r := by
  unfold flags
  refine List.map_congr_left fun x hx => decide_eq_decide.mpr ?_
  rw [mem_canon]
  exact ⟨fun q => q.2, fun q => ⟨h x hx, q⟩⟩
theorem ringRow_eq (ns r : List Str) : ringRow ns r = decide (rsn (flags ns r) ≤ 1) := by
  unfold ringRow
  rw [flags_outs]
  exact ring_core _
theorem ringLay_eq {cs ns : List Str} (nd : cs.Nodup) (rr : List (List Str)) : ringLay cs rr ns = lawRing cs rr ns := by
  unfold ringLay lawRing
  rw [isOrd_fault nd]
  by_cases hf : fault cs ns = none
  · rw [decide_eq_true hf, Bool.true_and, Bool.true_and]
    congr 1
    rw [Bool.eq_iff_iff, List.all_eq_true, List.all_eq_true]
    have e : ∀ x, ringRow ns (canon cs x) = decide (rsn (flags ns x) ≤ 1) := fun x => by rw [ringRow_eq, flags_canon' (fault_in hf)]
    exact ⟨fun h x hx => by rw [← e]; exact h x hx, fun h x hx => by rw [e]; exact h x hx⟩
  · rw [decide_eq_false hf]; rfl
theorem lcut_eq (cs : List Str) (z : Str) (r : List Str) : lcut cs z r = cutRow cs z r := by
  unfold lcut cutRow lturn
  by_cases hz : z ∈ r
  · rw [if_pos hz]
    unfold others outs
    rw [List.filter_filter, List.filter_filter]
    refine List.filter_congr fun x _ => ?_
    by_cases h1 : x = z <;> by_cases h2 : x ∈ r <;> simp [h1, h2, hz]
  · rw [if_neg hz]
    unfold others canon
    rw [List.filter_filter, List.filter_filter]
    refine List.filter_congr fun x _ => ?_
    by_cases h1 : x = z <;> by_cases h2 : x ∈ r <;> simp [h1, h2, hz]
theorem flags_cut {cs ns r : List Str} {z : Str} {i : Nat} (p : ns.Perm cs) (nd : cs.Nodup) (hi : ns[i]? = some z) : runs (flags (aft ns i) (cutRow cs z r)) = rsn (flags ns r) := by
  have hil := (List.getElem?_eq_some_iff.mp hi).1
  have e0 : ns = ns.take i ++ z :: ns.drop (i + 1) := by
    conv => lhs; rw [← List.take_append_drop i ns]
    rw [List.drop_eq_getElem_cons hil, (List.getElem?_eq_some_iff.mp hi).2]
  have nn : (ns.take i ++ z :: ns.drop (i + 1)).Nodup := by rw [← e0]; exact p.nodup_iff.mpr nd
  have hne : ∀ x ∈ aft ns i, x ∈ cs ∧ x ≠ z := fun x hx => by
    unfold aft at hx
    have nz := (List.perm_middle.nodup_iff.mp nn)
    rw [List.nodup_cons] at nz
    have hx2 : x ∈ ns.take i ++ ns.drop (i + 1) := by
      rcases List.mem_append.mp hx with h | h
      · exact List.mem_append_right _ h
      · exact List.mem_append_left _ h
    refine ⟨p.mem_iff.mp ?_, fun e => nz.1 (by rw [← e]; exact hx2)⟩
    rcases List.mem_append.mp hx2 with h | h
    · exact List.mem_of_mem_take h
    · exact List.mem_of_mem_drop h
  have e1 : flags (aft ns i) (cutRow cs z r) = ((flags (ns.drop (i + 1)) r ++ flags (ns.take i) r).map fun b => b != decide (z ∈ r)) := by
    unfold flags
    rw [← List.map_append, List.map_map]
    refine List.map_congr_left fun x hx => ?_
    show decide (x ∈ cutRow cs z r) = (decide (x ∈ r) != decide (z ∈ r))
    unfold cutRow
    rw [Bool.eq_iff_iff, decide_eq_true_iff, List.mem_filter]
    exact ⟨fun h => h.2, fun h => ⟨mem_others.mpr (hne x hx), h⟩⟩
  rw [e1, ring_cut]
  congr 1
  conv => rhs; rw [e0]
  unfold flags
  rw [List.map_append, List.map_cons]
theorem nums_zero (f : List Str → Bool) (rr : List (List Str)) : decide ((nums f rr).length = 0) = rr.all fun r => !f r := by
  rw [Bool.eq_iff_iff, decide_eq_true_iff, List.all_eq_true, List.length_eq_zero_iff]
  unfold nums
  rw [List.filter_eq_nil_iff]
  constructor
  · intro h x hx
    obtain ⟨i, hi, rfl⟩ := List.getElem_of_mem hx
    have := h i (List.mem_range.mpr hi)
    rw [List.getD_eq_getElem?_getD, List.getElem?_eq_getElem hi] at this
    simpa using this
  · intro h i hi
    have hi := List.mem_range.mp hi
    rw [List.getD_eq_getElem?_getD, List.getElem?_eq_getElem hi]
    simpa using h _ (List.getElem_mem hi)
theorem aft_perm {cs ns : List Str} {z : Str} {i : Nat} (p : ns.Perm cs) (nd : cs.Nodup) (hi : ns[i]? = some z) : (aft ns i).Perm (others cs z) := by
  have hil := (List.getElem?_eq_some_iff.mp hi).1
  have e0 : ns = ns.take i ++ z :: ns.drop (i + 1) := by
    conv => lhs; rw [← List.take_append_drop i ns]
    rw [List.drop_eq_getElem_cons hil, (List.getElem?_eq_some_iff.mp hi).2]
  have p1 : (z :: aft ns i).Perm cs := by
    unfold aft
    have h1 : ns.Perm (z :: (ns.take i ++ ns.drop (i + 1))) := by
      conv => lhs; rw [e0]
      exact List.perm_middle
    exact ((List.Perm.cons z List.perm_append_comm).trans h1.symm).trans p
  have nd1 := p1.nodup_iff.mpr nd
  rw [List.nodup_cons] at nd1
  refine (List.perm_ext_iff_of_nodup nd1.2 ((others_sub cs z).nodup nd)).mpr fun x => ?_
  rw [mem_others, ← p1.mem_iff, List.mem_cons]
  constructor
  · intro h
    exact ⟨.inr h, fun e => nd1.1 (by rw [← e]; exact h)⟩
  · rintro ⟨h | h, h2⟩
    · exact absurd h h2
    · exact h
theorem cut_layout {cs ns : List Str} {z : Str} {i : Nat} (rr : List (List Str)) (p : ns.Perm cs) (nd : cs.Nodup) (hi : ns[i]? = some z) (hh : ns.take 1 = cs.take 1) :
    (decide (fault (others cs z) (aft ns i) = none) && decide ((nums (fun r => decide (1 < rn (aft ns i) (others cs z) r)) (rr.map (cutRow cs z))).length = 0)) = lawRing cs rr ns := by
  have pa := aft_perm p nd hi
  have nda := (others_sub cs z).nodup nd
  have f1 : fault (others cs z) (aft ns i) = none := fault_none (fun x hx => pa.mem_iff.mp hx) (pa.nodup_iff.mpr nda) (by rw [pa.length_eq]; exact Nat.le_refl _)
  have f2 : fault cs ns = none := fault_none (fun x hx => p.mem_iff.mp hx) (p.nodup_iff.mpr nd) (by rw [p.length_eq]; exact Nat.le_refl _)
  unfold lawRing
  rw [isOrd_fault nd, decide_eq_true f1, decide_eq_true f2, decide_eq_true hh, nums_zero, List.all_map]
  rw [Bool.true_and, Bool.true_and, Bool.true_and]
  rw [Bool.eq_iff_iff, List.all_eq_true, List.all_eq_true]
  have e : ∀ r, (!decide (1 < rn (aft ns i) (others cs z) (cutRow cs z r))) = decide (rsn (flags ns r) ≤ 1) := fun r => by
    show (!decide (1 < runs (flags (aft ns i) (canon (others cs z) (cutRow cs z r))))) = _
    rw [canon_cut, flags_cut p nd hi, ← decide_not]
    exact decide_eq_decide.mpr (by omega)
  exact ⟨fun h x hx => by rw [← e]; exact h x hx, fun h x hx => by show (!decide _) = true; rw [e]; exact h x hx⟩
section
variable {P : Program} {w : World} {K : PySem.W.Frag} {mg : Str → Option Value} {base : Heap} {A : Ad}
def spTold (C : Addr) : Sp := fun vs H Q _ => ∃ p z cs rr, vs = [.ref p, .str z] ∧ Tb C H p cs rr ∧ z.length ≤ 1000 ∧ ColsOk cs ∧ rr.length ≤ 48 ∧
  (z ∈ cs → ∀ t q l H', Same H H' → H' t = some (.tup [.str "table", .ref q, .ref l]) → Tb C H' q (others cs z) (rr.map (cutRow cs z)) → Q (.ref t) H') ∧
  (z ∉ cs → ∀ t l H', Same H H' → H' t = some (.tup [.str "unknown", .str z, .ref l]) → H' l = some (.lst [.bl true, .bl true, .bl false]) → Q (.ref t) H')
theorem ok_told (T : Txt P K mg A) : FnOk P w K mg base CX0 9 A.a_law_told_cut A.d_law_told_cut ["table", "name"] (spTold A.C_Table) := by
  have GX_cut_table := ok_cutTab (P := P) (w := w) (base := base) T
  refine T.F_law_told_cut.ok sc_law_told_cut (fun vs H Q E h => ?_) (fun cdv A' outer s H vs Q E hr h => ?_)
  · obtain ⟨p, z, cs, rr, rfl, _⟩ := h
    rfl
  · obtain ⟨p, z, cs, rr, rfl, hT, hz, hok, hrl, kq, ke⟩ := h
    refine ⟨_, (pss_cons (ps_set (i := 2) sc_law_told_cut.nd rfl (Or.inl rfl) (pe_tup (pa_cons pe_str (pa_cons pe_non (pa_cons (pe_lst pa_nil) pa_nil)))))
      (pss_cons (ps_try_as (i := 3) (Wout := fun _ _ _ _ => False) rfl rfl sc_law_told_cut.nd rfl rfl ⟨rfl, by decide, .inl T.mg_UnknownColumn⟩ takes0 (fun W pn xe tk _ => (pss_one (ps_set (i := 2) sc_law_told_cut.nd rfl (Or.inl rfl) (pe_tup (pa_cons pe_str (pa_cons (pe_callS GX_cut_table (hr.mono (by decide)) rfl T.mg_cut_table T.F_cut_table.kp T.b_cut_table (fun σ => passAt tk σ) (pa_cons (pv 0) (pa_cons (pv 1) pa_nil))) (pa_cons (pe_lst pa_nil) pa_nil))))))) (fun a oe cls d pn hz hf => (pss_one (ps_set (i := 2) sc_law_told_cut.nd rfl (Or.inl rfl) (pe_tup (pa_cons pe_str (pa_cons (pe_xf T.xf_UnknownColumn T.xn_UnknownColumn_name hz hf (pv 3)) (pa_cons (pe_lst (pa_cons (pe_callB (call_isExD hz hf) (by rfl) T.n_isinstance (by decide +kernel) (pa_cons (pv 3) (pa_cons (pe_glob (v := .ref A.C_RowsError) rfl T.mg_RowsError rfl) pa_nil))) (pa_cons (pe_callB (call_isExD hz hf) (by rfl) T.n_isinstance (by decide +kernel) (pa_cons (pv 3) (pa_cons (pe_glob (v := .ref A.C_Unknown) rfl T.mg_Unknown rfl) pa_nil))) (pa_cons (pe_callB (call_isExD hz hf) (by rfl) T.n_isinstance (by decide +kernel) (pa_cons (pv 3) (pa_cons (pe_glob (v := .ref A.C_Impossible) rfl T.mg_Impossible rfl) pa_nil))) pa_nil)))) pa_nil))))))))
      (pss_one (ps_ret (pv 2))))), ?_⟩
    refine ⟨by show 0 ≤ sizeLine; decide, fun l0 hl0 => ?_⟩
    refine ⟨by show 3 ≤ sizeLine; decide, fun t0 ht0 => ?_⟩
    have s0 : Same H (upd (upd H l0 (.lst [])) t0 (.tup [.str "nothing", .non, .ref l0])) := (same_new hl0).trans (same_new ht0)
    generalize upd (upd H l0 (.lst [])) t0 _ = H1 at s0 ⊢
    refine ⟨_, rfl, _, rfl, p, z, cs, rr, rfl, hT.same s0, hz, hok, hrl, fun hm q H2 s2 hq hTq => ?_, fun hn d H2 s2 hd => ?_⟩
    · have s2 := s0.trans s2
      refine ⟨by show 0 ≤ sizeLine; decide, fun l hl => ?_⟩
      have s3 := same_new (o := .lst []) hl
      refine ⟨by show 3 ≤ sizeLine; decide, fun t ht => ?_⟩
      have s4 := s3.trans (same_new (o := .tup [.str "table", .ref q, .ref l]) ht)
      refine ⟨_, rfl, ?_⟩
      exact kq hm t q l _ (s2.trans s4) upd_same (hTq.same s4)
    · have s2 := s0.trans s2
      refine ⟨true, exm_self T.bp_UnknownColumn T.ic_UnknownColumn T.tp_UnknownColumn T.ss_UnknownColumn, fun _ e he => ?_, fun q => nomatch q⟩
      have k1 : PySem.W.kitOne K (.ref A.C_UnknownColumn) (.ref A.C_RowsError) = some true := kit_own T.ic_RowsError T.tp_RowsError T.su_UnknownColumn_RowsError (.inr rfl)
      have k3 : PySem.W.kitOne K (.ref A.C_UnknownColumn) (.ref A.C_Unknown) = some true := kit_own T.ic_Unknown T.tp_Unknown T.su_UnknownColumn_Unknown (.inr rfl)
      have k4 : PySem.W.kitOne K (.ref A.C_UnknownColumn) (.ref A.C_Impossible) = some false := kit_F T.ic_Impossible T.tp_Impossible T.su_UnknownColumn_Impossible T.ss_UnknownColumn
      refine ⟨_, rfl, rfl, rfl, d, _, _, rfl, hd, rfl, ?_⟩
      refine ⟨_, rfl, _, _, _, rfl, rfl, hd, T.ec_UnknownColumn, _, _, true, rfl, fun _ h => h, k1, ?_⟩
      refine ⟨_, rfl, _, _, _, rfl, rfl, hd, T.ec_UnknownColumn, _, _, true, rfl, fun _ h => h, k3, ?_⟩
      refine ⟨_, rfl, _, _, _, rfl, rfl, hd, T.ec_UnknownColumn, _, _, false, rfl, fun _ h => h, k4, ?_⟩
      refine ⟨by show 3 ≤ sizeLine; decide, fun kk hkk => ?_⟩
      have s3 := same_new (o := .lst [V.bl true, .bl true, .bl false]) hkk
      have hk3 := upd_same (H := H2) (a := kk) (o := .lst [V.bl true, .bl true, .bl false])
      generalize upd H2 kk _ = H3 at s3 hk3 ⊢
      refine ⟨by show 3 ≤ sizeLine; decide, fun t ht => ?_⟩
      have s4 := same_new (o := .tup [.str "unknown", .str z, .ref kk]) ht
      refine ⟨_, rfl, ?_⟩
      exact ke hn t kk _ (s2.trans (s3.trans s4)) upd_same (s4 _ _ hk3)
def spRingRight (C : Addr) (K : PySem.W.Frag) : Sp := fun vs H Q _ => ∃ p n r o cs ns, ∃ (ts : List Addr) (rr : List (List Str)), vs = [.ref p, .ref n, .ref r, .ref o] ∧ Tb C H p cs rr ∧ SqL K H n (sv cs) ∧ SqL K H r (ts.map V.ref) ∧ Lss .lst H ts rr ∧ H o = some (.lst (sv ns)) ∧ (∀ z ∈ ns, Good z) ∧ ns.length ≤ 1000 ∧ rr.length ≤ 48 ∧ ColsOk cs ∧ ∀ H', Same H H' → Q (.bl true) H'
theorem ok_ringRight (T : Txt P K mg A) : FnOk P w K mg base CX0 9 A.a_law_ring_right A.d_law_ring_right ["table", "names", "rows", "order"] (spRingRight A.C_Table K) := by
  have G_is_ring_layout := ok_ring (P := P) (w := w) (base := base) T
  have G_is_ring_layoutT := ok_ringT (P := P) (w := w) (base := base) T
  have G_law_is_ring_layout := ok_lawRing (P := P) (w := w) (base := base) T
  refine T.F_law_ring_right.ok sc_law_ring_right (fun vs H Q E h => ?_) (fun cdv A' outer s H vs Q E hr h => ?_)
  · obtain ⟨p, n, r, o, cs, ns, ts, rr, rfl, _⟩ := h
    rfl
  · obtain ⟨p, n, r, o, cs, ns, ts, rr, rfl, hT, hN, hR, hts, ho, gz, hl, hrl, hok, k⟩ := h
    refine ⟨_, (pss_cons (ps_set (i := 4) sc_law_ring_right.nd rfl (Or.inl rfl) (pe_callTy (show CallR _ _ (rListOf K) from call_list_of) (by rfl) T.n_list (by decide +kernel) (pa_cons (pv 3) pa_nil)))
      (pss_cons (ps_set (i := 5) sc_law_ring_right.nd rfl (Or.inl rfl) (pe_call G_is_ring_layout (hr.mono (by decide)) rfl T.mg_is_ring_layout T.F_is_ring_layout.kp T.b_is_ring_layout .nil pass0 (pa_cons (pv 0) (pa_cons (pv 4) pa_nil))))
      (pss_cons (ps_if (PW.pt (pw_or (pt_cmpR (op_neD hr.units) (pv 4) (pv 3) (nomark _)) (pw_or1 (pt_cmpR op_ne (pe_call G_is_ring_layoutT (hr.mono (by decide)) rfl T.mg_is_ring_layout T.F_is_ring_layout.kp T.b_is_ring_layout .nil pass0 (pa_cons (pv 0) (pa_cons (pe_callTy (show CallR _ _ (rTupOf K) from call_tuple_of) (by rfl) T.n_tuple (by decide +kernel) (pa_cons (pv 3) pa_nil)) pa_nil))) (pv 5) (nomark _))))) (pss_one (ps_ret pe_bl)) pss_nil)
      (pss_one (ps_ret (pe_and (pe_callB call_isi (by rfl) T.n_isinstance (by decide +kernel) (pa_cons (pv 5) (pa_cons (pe_bltn (v := .ty "bool") (by rfl) T.n_bool (by decide +kernel) rfl) pa_nil))) (pe_one (pe_cmpR op_eq (pv 5) (pe_call G_law_is_ring_layout (hr.mono (by decide)) rfl T.mg_law_is_ring_layout T.F_law_is_ring_layout.kp T.b_law_is_ring_layout .nil pass0 (pa_cons (pv 3) (pa_cons (pv 1) (pa_cons (pv 2) pa_nil)))) (nomark _))))))))), ?_⟩
    refine ⟨_, rfl, o, _, rfl, .inl (SqL.of ho), fun g hg => ?_⟩
    have s1 := same_new (o := .lst (sv ns)) hg
    have hg1 := upd_same (H := H) (a := g) (o := .lst (sv ns))
    generalize upd H g _ = H1 at s1 hg1 ⊢
    refine ⟨_, rfl, _, rfl, p, g, cs, rr, ns, rfl, hT.same s1, SqL.of hg1, hl, hrl, hok, fun H2 s2 => ?_⟩
    have s12 := s1.trans s2
    have gz' : ∀ z ∈ ns, Okz z := fun z hz => okz_good (gz z hz)
    refine ⟨_, rfl, _, rfl, .list (pd ns), .list (pd ns), .lst (xs := sv ns) (SqL.of (s2 _ _ hg1)) (dp_pd _), .lst (xs := sv ns) (SqL.of (s12 _ _ ho)) (dp_pd _), shaped_pd gz', shaped_pd gz', _, rfl, ifF (by rw [eqv_pd gz']; rfl) ?_⟩
    refine ⟨_, rfl, _, rfl, ?_⟩
    dsimp only [tNil]
    refine tupO (K := K) (.inl (SqL.of (s12 _ _ ho))) fun t H3 s3 ht => ?_
    have s13 := s12.trans s3
    refine ⟨p, t, cs, rr, ns, rfl, hT.same s13, ht, hl, hrl, hok, fun H4 s4 => ?_⟩
    have s14 := s13.trans s4
    refine ⟨_, rfl, rfl, _, rfl, ifF (by rw [pEq rfl]; rfl) ?_⟩
    refine ⟨_, rfl, _, _, _, _, true, rfl, .ty _, .base (.bl _), kit_ty (by decide +kernel), true, rfl, iteT ?_⟩
    refine ⟨_, rfl, _, rfl, _, rfl, _, rfl, o, n, r, ns, cs, ts, rr, rfl, s14 _ _ ho, s14.seq hN, s14.seq hR, hts.same s14, hl, fun H5 s5 => ?_⟩
    refine ⟨rfl, ?_⟩
    rw [ringLay_eq hok.nd, pEq rfl]
    exact k H5 (s14.trans s5)
end
end My
set_option maxRecDepth 100000
set_option maxHeartbeats 4000000
set_option exponentiation.threshold 10000
namespace My
open PySem L2
section
variable {P : Program} {w : World} {K : PySem.W.Frag} {mg : Str → Option Value} {base : Heap} {A : Ad}
theorem Txt.ko_selfT (T : Txt P K mg A) : PySem.W.kitOne K (.ref A.C_Table) (.ref A.C_Table) = some true := by
  unfold PySem.W.kitOne
  rw [if_pos (by simp)]
theorem Txt.tyT (T : Txt P K mg A) {H : Hp} {p dx : Addr} {fs : List (Str × V)} (h : H p = some (.ins A.C_Table dx fs)) : TyX K H (.ref p) (.ref A.C_Table) :=
  .base (.ins h T.cl_Table T.c1_Table T.c2 T.c4 T.c3_Table)
theorem fldsR_cut (nt : Addr) : (fldsR nt).lookup ("cut" : Str) = none := by unfold fldsR; rw [lookup_putF, if_neg (by decide +kernel)]; rfl
def spCutRight (C : Addr) (K : PySem.W.Frag) : Sp := fun vs H Q _ => ∃ p n r O z cs, ∃ (ts : List Addr) (rr : List (List Str)) (us : List Addr) (lls : List (List Str)), vs = [.ref p, .ref n, .ref r, .ref O, .str z] ∧ Tb C H p cs rr ∧ SqL K H n (sv cs) ∧ SqL K H r (ts.map V.ref) ∧ Lss .lst H ts rr ∧ SqL K H O (us.map V.ref) ∧ Lss .lst H us lls ∧
  (∀ x ∈ lls, x.Perm cs ∧ x.take 1 = cs.take 1) ∧ z ∈ cs ∧ ColsOk cs ∧ rr.length ≤ 48 ∧ lls.length ≤ 1000 ∧ ∀ H', Same H H' → Q (.bl true) H'
theorem ok_cutRight (T : Txt P K mg A) : FnOk P w K mg base CX0 12 A.a_law_cut_right A.d_law_cut_right ["table", "names", "rows", "orders", "name"] (spCutRight A.C_Table K) := by
  have G_law_told_cut := ok_told (P := P) (w := w) (base := base) T
  have G_law_cut_rows := ok_cutRows (P := P) (w := w) (base := base) T
  have G_Round_init := ok_init (P := P) (w := w) (base := base) T
  have G_Round_cut := ok_cut (P := P) (w := w) (base := base) T
  have G_law_round_from := ok_roundFrom (P := P) (w := w) (base := base) T
  have G_is_layout := ok_lay (P := P) (w := w) (base := base) T
  have G_law_is_ring_layout := ok_lawRing (P := P) (w := w) (base := base) T
  refine T.F_law_cut_right.ok sc_law_cut_right (fun vs H Q E h => ?_) (fun cdv A' outer s H vs Q E hr h => ?_)
  · obtain ⟨p, n, r, O, z, cs, ts, rr, us, lls, rfl, _⟩ := h
    rfl
  · obtain ⟨p, n, r, O, z, cs, ts, rr, us, lls, rfl, hT, hN, hR, hts, hO, hus, hll, hz, hok, hrl, hlen, k⟩ := h
    refine ⟨_, (pss_cons (ps_set (i := 5) sc_law_cut_right.nd rfl (Or.inl rfl) (pe_call G_law_told_cut (hr.mono (by decide)) rfl T.mg_law_told_cut T.F_law_told_cut.kp T.b_law_told_cut .nil pass0 (pa_cons (pv 0) (pa_cons (pv 4) pa_nil))))
      (pss_cons (ps_if (PW.pt (pw_or (pt_cmpR op_ne (pe_ix ix_tup (pv 5) pe_int (fun _ _ => rfl)) pe_str (nomark _)) (pw_or1 (pt_not (pt_val (pe_callB call_isi (by rfl) T.n_isinstance (by decide +kernel) (pa_cons (pe_ix ix_tup (pv 5) pe_int (fun _ _ => rfl)) (pa_cons (pe_glob (v := .ref A.C_Table) rfl T.mg_Table rfl) pa_nil)))))))) (pss_one (ps_ret pe_bl)) pss_nil)
      (pss_cons (ps_set (i := 6) sc_law_cut_right.nd rfl (Or.inl rfl) (pe_call G_law_cut_rows (hr.mono (by decide)) rfl T.mg_law_cut_rows T.F_law_cut_rows.kp T.b_law_cut_rows .nil pass0 (pa_cons (pv 1) (pa_cons (pv 2) (pa_cons (pv 4) pa_nil)))))
      (pss_cons (ps_if (pt_cmpR (op_neD hr.units) (pe_fld (pe_ix ix_tup (pv 5) pe_int (fun _ _ => rfl)) rfl) (pe_callTy (show CallR _ _ (rTupOf K) from call_tuple_of) (by rfl) T.n_tuple (by decide +kernel) (pa_cons (pe_lc (own := [("other", 10)]) (g := gName 10) (tt := _) rfl sc_law_cut_right.nd (pi_list (pv 1)) (blkOk_by (N := ["table", "names", "rows", "orders", "name", "told", "cut", "order", "line", "answer", "other", "row"]) (sc := defScope s_law_cut_right) (by decide +kernel)) (fun _ _ _ _ _ => (pg_name (i := 10) sc_law_cut_right.nd rfl (Or.inl rfl))) (fun _ _ _ _ _ => (pts_one (pt_cmpR op_ne (pv 10) (pv 4) (nomark _)))) (fun _ _ _ _ _ => (pv 10))) pa_nil)) (nomark _)) (pss_one (ps_ret pe_bl)) pss_nil)
      (pss_cons (ps_if (pt_cmpR (op_neD hr.units) (pe_fld (pe_ix ix_tup (pv 5) pe_int (fun _ _ => rfl)) rfl) (pe_callTy (show CallR _ _ (rTupOf K) from call_tuple_of) (by rfl) T.n_tuple (by decide +kernel) (pa_cons (pe_lc (own := [("row", 11)]) (g := gName 11) (tt := tYes) rfl sc_law_cut_right.nd (pi_list (pv 6)) (blkOk_by (N := ["table", "names", "rows", "orders", "name", "told", "cut", "order", "line", "answer", "other", "row"]) (sc := defScope s_law_cut_right) (by decide +kernel)) (fun _ _ _ _ _ => (pg_name (i := 11) sc_law_cut_right.nd rfl (Or.inl rfl))) (fun _ _ _ _ _ => pts_nil) (fun _ _ _ _ _ => (pe_callTy (show CallR _ _ (rTupOf K) from call_tuple_of) (by rfl) T.n_tuple (by decide +kernel) (pa_cons (pv 11) pa_nil)))) pa_nil)) (nomark _)) (pss_one (ps_ret pe_bl)) pss_nil)
      (pss_cons (ps_for PassesOwn.never rfl (pi_list (pv 3)) (pg_name (i := 7) sc_law_cut_right.nd rfl (Or.inl rfl))
        (pss_cons (ps_set (i := 8) sc_law_cut_right.nd rfl (Or.inl rfl) (pe_meth (pe_make T.mk_Round G_Round_init (hr.mono (by decide)) rfl T.mg_Round T.b_Round_init .nil pass0 (pa_cons (pe_callTy (show CallR _ _ (rListOf K) from call_list_of) (by rfl) T.n_list (by decide +kernel) (pa_cons (pv 7) pa_nil)) pa_nil)) T.cl_Round T.m_Round_cut G_Round_cut (hr.mono (by decide)) T.b_Round_cut .nil pass0 (pa_cons (pv 4) pa_nil)))
      (pss_cons (ps_if (PW.pt (pw_or (pt_not (pt_val (pe_callB call_isi (by rfl) T.n_isinstance (by decide +kernel) (pa_cons (pv 8) (pa_cons (pe_bltn (v := .ty "list") (by rfl) T.n_list (by decide +kernel) rfl) pa_nil))))) (pw_or1 (pt_cmpR (op_neD hr.units) (pe_op op_cat (pe_lst (pa_cons (pv 4) pa_nil)) (pv 8)) (pe_call G_law_round_from (hr.mono (by decide)) rfl T.mg_law_round_from T.F_law_round_from.kp T.b_law_round_from .nil pass0 (pa_cons (pv 7) (pa_cons (pv 4) pa_nil))) (nomark _))))) (pss_one (ps_ret pe_bl)) pss_nil)
      (pss_cons (ps_set (i := 9) sc_law_cut_right.nd rfl (Or.inl rfl) (pe_call G_is_layout (hr.mono (by decide)) rfl T.mg_is_layout T.F_is_layout.kp T.b_is_layout .nil pass0 (pa_cons (pe_ix ix_tup (pv 5) pe_int (fun _ _ => rfl)) (pa_cons (pv 8) pa_nil))))
      (pss_one (ps_if (PW.pt (pw_or (pt_not (pt_val (pe_callB call_isi (by rfl) T.n_isinstance (by decide +kernel) (pa_cons (pv 9) (pa_cons (pe_bltn (v := .ty "bool") (by rfl) T.n_bool (by decide +kernel) rfl) pa_nil))))) (pw_or1 (pt_cmpR op_ne (pv 9) (pe_call G_law_is_ring_layout (hr.mono (by decide)) rfl T.mg_law_is_ring_layout T.F_law_is_ring_layout.kp T.b_law_is_ring_layout .nil pass0 (pa_cons (pv 7) (pa_cons (pv 1) (pa_cons (pv 2) pa_nil)))) (nomark _))))) (pss_one (ps_ret pe_bl)) pss_nil))))))
      (pss_one (ps_ret pe_bl)))))))), ?_⟩
    have hz8 := (hok.g z hz).le
    refine ⟨_, rfl, _, rfl, p, z, cs, rr, rfl, hT, by omega, hok, hrl, fun _ t q l H1 s1 ht hTq => ?_, fun hn => absurd hz hn⟩
    have at0 : atI ([V.str "table", .ref q, .ref l] : List V) 0 = some (V.str "table") := atI_nat (j := 0) rfl
    have at1 : atI ([V.str "table", .ref q, .ref l] : List V) 1 = some (V.ref q) := atI_nat (j := 1) rfl
    obtain ⟨dx, ct, rt, us2, h1, hc, hr2, hts2⟩ := id hTq
    have hne : ∀ {a b : Addr}, True := fun {a b} => trivial
    refine ⟨_, rfl, t, _, _, _, rfl, rfl, SqT.of ht, at0, rfl, _, rfl, ifF (by rw [sEq rfl]; rfl) ?_⟩
    refine ⟨_, rfl, t, _, _, _, rfl, rfl, SqT.of ht, at1, _, _, _, _, true, rfl, .own _, T.tyT h1, T.ko_selfT, true, rfl, ifF rfl ?_⟩
    refine ⟨_, rfl, _, rfl, _, rfl, n, r, cs, z, ts, rr, rfl, s1.seq hN, s1.seq hR, hts.same s1, by have := hok.n; omega, by omega, fun D us3 H2 s2 _ hD2 hus3 => ?_⟩
    have ht2 := s2 _ _ ht
    have h12 := s2 _ _ h1
    have s12 := s1.trans s2
    refine ⟨_, rfl, t, _, _, _, rfl, rfl, SqT.of ht2, at1, _, _, _, _, _, rfl, h12, T.cl_Table, T.n_Table_columns, fldsT_columns _ _, ?_⟩
    have okz : ∀ y ∈ others cs z, Okz y := fun y hy => okz_good (hok.g y ((others_sub cs z).subset hy))
    refine ⟨_, rfl, n, rfl, ⟨_, s12.seq hN⟩, fun D3 hD3 => lc_it walk_list (PvS H2 D3 fun i => sv (others (cs.take i) z)) (pv0 hD3 rfl) (fun i H4 _ q => q.1.seq (s12.seq hN)) ?_ ?_⟩
    · rintro i x H5 H6 hi q4 ⟨rfl, hx⟩
      obtain ⟨w1, hw, rfl⟩ := sv_get hx
      have hlen : (sv (others (cs.take i) z)).length ≤ 1000000 := by
        have h1 := (others_sub (cs.take i) z).length_le
        have h3 := hok.n
        rw [List.length_take] at h1
        rw [len_sv]; omega
      refine ⟨rfl, ?_⟩
      by_cases e : w1 = z
      · refine ⟨_, rfl, _, rfl, rfl, _, rfl, ifF (by rw [sEq e]; rfl) (q4.skip ?_)⟩
        show sv (others (cs.take (i + 1)) z) = _
        rw [take_succ hw, others_F e]
      · refine ⟨_, rfl, _, rfl, rfl, _, rfl, ifT (by rw [sNe e]; rfl) ⟨_, rfl, q4.push hD3 ?_ hlen⟩⟩
        show sv (others (cs.take (i + 1)) z) = _
        rw [take_succ hw, others_T e]; exact List.map_append
    rintro H3 ⟨s3, h3⟩
    have h3 : H3 D3 = some (.lst (sv (others (cs.take (sv cs).length) z))) := h3
    rw [len_sv, List.take_length] at h3
    dsimp only [tNil]
    refine tupO (K := K) (.inl (SqL.of h3)) fun a H4 s4 ha => ?_
    have s34 := s3.trans s4
    have s24 := s2.trans s34
    refine ⟨.tuple (pd (others cs z)), .tuple (pd (others cs z)), .tup (xs := sv (others cs z)) (SqT.of (s24 _ _ hc)) (dp_pd _), .tup (xs := sv (others cs z)) ha (dp_pd _), shaped_pdT okz, shaped_pdT okz, _, rfl, ifF (by rw [eqv_T, decide_eq_true rfl]; rfl) ?_⟩
    have s14 := s1.trans s24
    have ht4 := s24 _ _ ht
    have h14 := s24 _ _ h1
    have hD4 := s34 _ _ hD2
    have hus4 := hus3.same s34
    refine ⟨_, rfl, t, _, _, _, rfl, rfl, SqT.of ht4, at1, _, _, _, _, _, rfl, h14, T.cl_Table, T.n_Table_rows, fldsT_rows _ _, ?_⟩
    refine ⟨_, rfl, D, rfl, ⟨_, SqL.of hD4⟩, fun D5 hD5 => lc_it walk_list (fun i H5 => Same H4 H5 ∧ ∃ vs : List Addr, H5 D5 = some (.lst (vs.map V.ref)) ∧ Lss .tup H5 vs ((rr.take i).map (lcut cs z))) ⟨same_new hD5, [], upd_same, Lss.nil⟩ (fun i H5 _ q => q.1.seq (SqL.of hD4)) ?_ ?_⟩
    · rintro i x H50 H5 hi ⟨s5, vs, hd5, hl5⟩ ⟨rfl, hx⟩
      obtain ⟨b, hb, rfl⟩ := refs_get hx
      obtain ⟨y, hy, ho⟩ := (hus4.same s5).get hb
      obtain ⟨r1, hr3, rfl⟩ : ∃ r, rr[i]? = some r ∧ y = lcut cs z r := by
        rw [List.getElem?_map] at hy
        cases e : rr[i]? with
        | none => rw [e] at hy; cases hy
        | some r => rw [e] at hy; exact ⟨r, rfl, (Option.some.inj hy).symm⟩
      have hil : i < rr.length := (List.getElem?_eq_some_iff.mp hr3).1
      refine ⟨rfl, _, rfl, b, sv (lcut cs z r1), rfl, .inl ⟨SqL.of ho, fun t6 ht6 => ?_⟩⟩
      have s6 := same_new (o := .tup (sv (lcut cs z r1))) ht6
      have ht7 := upd_same (H := H5) (a := t6) (o := .tup (sv (lcut cs z r1)))
      generalize upd H5 t6 _ = H6 at s6 ht7 ⊢
      have hd6 := s6 _ _ hd5
      refine ⟨_, hd6, small_int (by rw [List.length_map, hl5.len, List.length_map, List.length_take]; omega), ?_, vs ++ [t6], ?_, ?_⟩
      · intro c o e
        rw [upd_ne (ne_of_none e hD5)]
        exact s6 _ _ (s5 _ _ e)
      · rw [List.map_append]; exact upd_same
      · rw [take_succ hr3, List.map_append]
        exact ((hl5.same s6).app ht7).updT hd6 (fun xs z => nomatch z)
    rintro H5 ⟨s5, vs, hd5, hl5⟩
    rw [List.length_map, hus4.len, List.length_map, List.take_length] at hl5
    dsimp only [tNil]
    refine tupO (K := K) (.inl (SqL.of hd5)) fun a5 H6 s6 ha5 => ?_
    have s56 := s5.trans s6
    have hl6 := hl5.same s6
    have er : (rr.map (cutRow cs z)).map (canon (others cs z)) = rr.map (lcut cs z) := by
      rw [List.map_map]
      exact List.map_congr_left fun x _ => by rw [lcut_eq]; exact canon_cut x
    have hts6 := hts2.same (s24.trans s56)
    rw [er] at hts6
    have okr : ∀ x ∈ rr.map (lcut cs z), ∀ y ∈ x, Okz y := fun x hx y hy => by
      obtain ⟨r1, _, rfl⟩ := List.mem_map.mp hx
      rw [lcut_eq] at hy
      exact okz y (List.mem_filter.mp hy).1
    have shr : SeqAt.shaped (.tuple (pdd (rr.map (lcut cs z)))) = true := shapedT (lay_pdd okr) (Nat.le_trans (depth_pdd _) (by decide))
    have eqr : PyData.eqv (.tuple (pdd (rr.map (lcut cs z)))) (.tuple (pdd (rr.map (lcut cs z)))) = true := SeqAt.eqv_refl _ (by simp only [PyData.canLay0]; exact lay_pdd okr)
    refine ⟨.tuple (pdd (rr.map (lcut cs z))), .tuple (pdd (rr.map (lcut cs z))), .tup (xs := us2.map V.ref) (SqT.of ((s24.trans s56) _ _ hr2)) (dp_pdd hts6), .tup (xs := vs.map V.ref) ha5 (dp_pdd hl6), shr, shr, _, rfl, ifF (by rw [eqr]; rfl) ?_⟩
    have s16 := s14.trans s56
    have hO6 := s16.seq hO
    have hus6 := hus.same s16
    have ht6 := s56 _ _ ht4
    have hTq6 : Tb A.C_Table H6 q (others cs z) (rr.map (cutRow cs z)) := hTq.same (s24.trans s56)
    refine ⟨_, rfl, O, rfl, ⟨_, hO6⟩, for_it walk_list (fun i σ H7 => Same H6 H7 ∧ ∃ u7 u8 u9 : Option V, σ = [some (.ref p), some (.ref n), some (.ref r), some (.ref O), some (.str z), some (.ref t), some (.ref D), u7, u8, u9, none, none]) ⟨Same.refl _, none, none, none, rfl⟩ (fun i σ H7 _ q => q.1.seq hO6) ?_ ?_⟩
    · rintro i x σ H70 H7 hi ⟨s7, u7, u8, u9, rfl⟩ ⟨rfl, hx⟩
      obtain ⟨b, hb, rfl⟩ := refs_get hx
      obtain ⟨y, hy, ho⟩ := (hus6.same s7).get hb
      obtain ⟨py, hhy⟩ := hll y (List.mem_of_getElem? hy)
      have hzy : z ∈ y := py.mem_iff.mpr hz
      have hyl : y.length ≤ 12 := by rw [py.length_eq]; exact hok.n
      have ry : RingOk y := hok.ring.perm py
      refine ⟨_, rfl, b, _, rfl, .inl (SqL.of ho), fun g hg => ?_⟩
      have s8 := s7.trans (same_new (o := .lst (sv y)) hg)
      have ho8 := same_new (o := .lst (sv y)) hg _ _ ho
      have hg8 := upd_same (H := H7) (a := g) (o := .lst (sv y))
      generalize upd H7 g _ = H8 at s8 ho8 hg8 ⊢
      refine fun x dx2 hx hdx hne => mk_ring2 (ns := y) (SqL.of hg8) ry hx hdx hne fun H9 s9 hRd => ⟨rfl, ?_⟩
      obtain ⟨dx3, nt, hp9, hn9⟩ := id hRd
      refine ⟨x, dx3, _, rfl, hp9, fldsR_cut _, _, rfl, x, z, y, rfl, hRd, by omega, by omega, hzy, fun i1 hi1 hno1 l1 H10 s10 hl10 hl1 => ?_⟩
      have ho10 := s10 _ _ (s9 _ _ ho8)
      have s610 := s8.trans (s9.trans s10)
      have pa := aft_perm py hok.nd hi1
      have hi1l := (List.getElem?_eq_some_iff.mp hi1).1
      refine ⟨_, rfl, _, _, _, _, true, rfl, .ty _, .base (.lst hl1), kit_ty (by decide +kernel), true, rfl, ifF rfl ?_⟩
      refine ⟨_, rfl, by show 1 ≤ sizeLine; decide, fun q11 hq11 => ?_⟩
      have s11 := same_new (o := .lst [V.str z]) hq11
      have hq11' := upd_same (H := H10) (a := q11) (o := .lst [V.str z])
      generalize upd H10 q11 _ = H11 at s11 hq11' ⊢
      refine ⟨_, rfl, q11, l1, _, _, rfl, rfl, hq11', s11 _ _ hl1, ?_, fun t12 ht12 => ?_⟩
      · rw [len_sv, pa.length_eq]
        have := (others_sub cs z).length_le
        have := hok.n
        exact Nat.le_trans (show 1 + (others cs z).length ≤ 1000 by omega) (by decide)
      have s12b := s11.trans (same_new (o := .lst ([V.str z] ++ sv (aft y i1))) ht12)
      have ht12' := upd_same (H := H11) (a := t12) (o := .lst ([V.str z] ++ sv (aft y i1)))
      generalize upd H11 t12 _ = H12 at s12b ht12' ⊢
      refine ⟨_, rfl, _, rfl, b, z, y, rfl, s12b _ _ ho10, hzy, by omega, fun i2 l13 H13 hi2 hno2 s13 _ hl13 => ?_⟩
      have ei : i2 = i1 := by
        rcases Nat.lt_trichotomy i2 i1 with c | c | c
        · exact absurd hi2 (hno1 _ c)
        · exact c
        · exact absurd hi1 (hno2 _ c)
      rw [ei] at hl13
      have ed : y.drop i1 ++ y.take i1 = z :: aft y i1 := by
        rw [List.drop_eq_getElem_cons hi1l, (List.getElem?_eq_some_iff.mp hi1).2]; rfl
      rw [ed] at hl13
      have oky : ∀ u ∈ z :: aft y i1, Okz u := fun u hu => by
        rw [← ed] at hu
        refine okz_good (ry.g u ?_)
        rcases List.mem_append.mp hu with h | h
        · exact List.mem_of_mem_drop h
        · exact List.mem_of_mem_take h
      refine ⟨.list (pd (z :: aft y i1)), .list (pd (z :: aft y i1)), .lst (xs := sv (z :: aft y i1)) (SqL.of (s13 _ _ ht12')) (dp_pd _), .lst (xs := sv (z :: aft y i1)) (SqL.of hl13) (dp_pd _), shaped_pd oky, shaped_pd oky, _, rfl, ifF (by rw [eqv_pd oky]; rfl) ?_⟩
      have s1013 := s12b.trans s13
      have s613 := s610.trans s1013
      have hTq13 := hTq6.same s613
      have hll1 : (aft y i1).length ≤ 1000 := by
        rw [pa.length_eq]
        have := (others_sub cs z).length_le
        have := hok.n
        omega
      refine ⟨_, rfl, t, _, _, _, rfl, rfl, SqT.of (s613 _ _ ht6), at1, _, rfl, q, l1, others cs z, rr.map (cutRow cs z), aft y i1, rfl, hTq13, SqL.of (s1013 _ _ hl1), hll1, by rw [List.length_map]; omega, fun H14 s14' => ?_⟩
      rw [cut_layout rr py hok.nd hi1 hhy]
      have s614 := s613.trans s14'
      have ho14 := s14' _ _ (s1013 _ _ ho10)
      have s114 := s16.trans s614
      refine ⟨_, rfl, _, _, _, _, true, rfl, .ty _, .base (.bl _), kit_ty (by decide +kernel), true, rfl, ifF rfl ?_⟩
      refine ⟨_, rfl, _, rfl, _, rfl, _, rfl, b, n, r, y, cs, ts, rr, rfl, ho14, s114.seq hN, s114.seq hR, hts.same s114, by omega, fun H15 s15 => ?_⟩
      refine ⟨rfl, _, rfl, ifF (by rw [pEq rfl]; rfl) ?_⟩
      exact ⟨s614.trans s15, _, _, _, rfl⟩
    · rintro σ H7 ⟨s7, u7, u8, u9, rfl⟩
      exact k H7 (s16.trans s7)
end
end My
set_option maxRecDepth 100000
set_option maxHeartbeats 4000000
set_option exponentiation.threshold 10000
namespace My
open PySem L2
/-- a list of at most n names -/
def GLn (H : Hp) (a : Addr) (n : Nat) : Prop := ∃ ys : List Str, H a = some (.lst (sv ys)) ∧ (∀ y ∈ ys, Good y) ∧ ys.length ≤ n
theorem GLn.same {H H' : Hp} {a : Addr} {n : Nat} (h : GLn H a n) (s : Same H H') : GLn H' a n := let ⟨ys, e, g, l⟩ := h; ⟨ys, s _ _ e, g, l⟩
theorem GLn.mono {H : Hp} {a : Addr} {n m : Nat} (h : GLn H a n) (l : n ≤ m) : GLn H a m := let ⟨ys, e, g, k⟩ := h; ⟨ys, e, g, Nat.le_trans k l⟩
theorem catO {H : Hp} {a b : Addr} {xs ys : List V} {Q : VK} (ha : H a = some (.lst xs)) (hb : H b = some (.lst ys)) (hl : xs.length + ys.length ≤ 1000000) (h : ∀ c H', Same H H' → H c = none → H' c = some (.lst (xs ++ ys)) → Q (.ref c) H') : rCat (.ref a) (.ref b) H Q :=
  ⟨a, b, xs, ys, rfl, rfl, ha, hb, Nat.le_trans hl (by decide), fun t ht => h t _ (same_new ht) ht upd_same⟩
theorem catG {H : Hp} {a b : Addr} {n m : Nat} {Q : VK} (ha : GLn H a n) (hb : GLn H b m) (hl : n + m ≤ 1000) (h : ∀ c H', Same H H' → GLn H' c (n + m) → Q (.ref c) H') : rCat (.ref a) (.ref b) H Q := by
  obtain ⟨xs, ea, ga, la⟩ := ha
  obtain ⟨ys, eb, gb, lb⟩ := hb
  refine catO ea eb (by rw [len_sv, len_sv]; omega) fun c H' s _ hc => h c H' s ⟨xs ++ ys, by rw [hc, sv_app], fun y hy => (List.mem_append.mp hy).elim (ga y) (gb y), by rw [List.length_append]; omega⟩
theorem slG {K : PySem.W.Frag} {H : Hp} {a : Addr} {n : Nat} {lo hi : Option Int} {Q : VK} (ha : GLn H a n) (h : ∀ c H', Same H H' → GLn H' c n → Q (.ref c) H') : rSlL K (.ref a) lo hi H Q := by
  obtain ⟨xs, ea, ga, la⟩ := ha
  refine slO (SqL.of ea) fun c H' s _ hc => ?_
  obtain ⟨ys, e, sb⟩ := cut_sv xs lo hi
  rw [e] at hc
  exact h c H' s ⟨ys, hc, fun y hy => ga y (sb.subset hy), Nat.le_trans sb.length_le la⟩
theorem litR {H : Hp} {a : Addr} {xs : List V} (h : H a = none) : ∃ G, G = upd H a (.lst xs) ∧ Same H G ∧ G a = some (.lst xs) := ⟨_, rfl, same_new h, upd_same⟩
theorem good_stranger : Good "stranger" := okName_iff.mp (by decide +kernel)
theorem litS {H : Hp} {a : Addr} (h : H a = none) : ∃ G, G = upd H a (.lst [V.str "stranger"]) ∧ Same H G ∧ GLn G a 1 := ⟨_, rfl, same_new h, ["stranger"], upd_same, (fun y hy => by rw [List.mem_singleton.mp hy]; exact good_stranger), Nat.le_refl _⟩
theorem lit0 {H : Hp} {a : Addr} (h : H a = none) : ∃ G, G = upd H a (.lst []) ∧ Same H G ∧ GLn G a 0 := ⟨_, rfl, same_new h, [], upd_same, (fun y hy => nomatch hy), Nat.le_refl _⟩
section
variable {P : Program} {w : World} {K : PySem.W.Frag} {mg : Str → Option Value} {base : Heap} {A : Ad}
def spOthers (K : PySem.W.Frag) : Sp := fun vs H Q _ => ∃ n o p, ∃ ps : List Int, vs = [.ref n, .ref o, .ref p] ∧ GLn H n 12 ∧ GLn H o 12 ∧ SqL K H p (ps.map V.int) ∧ 0 < ps.length ∧
  ∀ (D : Addr) (us : List Addr) (H' : Hp), Same H H' → H D = none → H' D = some (.lst (us.map V.ref)) → us.length = 9 → (∀ t ∈ us, GLn H' t 30) → Q (.ref D) H'
theorem ok_others (T : Txt P K mg A) : FnOk P w K mg base CX0 1 A.a_law_other_lists A.d_law_other_lists ["names", "order", "pool"] (spOthers K) := by
  refine T.F_law_other_lists.ok sc_law_other_lists (fun vs H Q E h => ?_) (fun cdv A' outer s H vs Q E hr h => ?_)
  · obtain ⟨n, o, p, ps, rfl, _⟩ := h
    rfl
  · obtain ⟨n, o, p, ps, rfl, hN, hO, hP, hpl, k⟩ := h
    refine ⟨_, (pss_cons (ps_set (i := 3) sc_law_other_lists.nd rfl (Or.inl rfl) (pe_op op_mod (pe_callTy call_int1 (by rfl) T.n_int (by decide +kernel) (pa_cons (pe_ix ix_list (pv 2) pe_int (fun _ _ => rfl)) pa_nil)) (pe_op op_add (pe_callB call_len_seq (by rfl) T.n_len (by decide +kernel) (pa_cons (pv 1) pa_nil)) pe_int)))
      (pss_cons (ps_set (i := 4) sc_law_other_lists.nd rfl (Or.inl rfl) (pe_lst (pa_cons (pe_slice sl_list (pv 1) po_none (po_some (pe_un un_neg pe_int))) (pa_cons (pe_op op_cat (pv 1) (pe_lst (pa_cons pe_str pa_nil))) (pa_cons (pe_op op_cat (pe_op op_cat (pe_slice sl_list (pv 1) po_none (po_some (pv 3))) (pe_lst (pa_cons pe_str pa_nil))) (pe_slice sl_list (pv 1) (po_some (pe_op op_add (pv 3) pe_int)) po_none)) pa_nil)))))
      (pss_cons (ps_set (i := 4) sc_law_other_lists.nd rfl (Or.inl rfl) (pe_op op_cat (pv 4) (pe_lst (pa_cons (pe_op op_cat (pv 1) (pe_slice sl_list (pv 1) po_none (po_some pe_int))) (pa_cons (pe_op op_cat (pe_slice sl_list (pv 1) (po_some pe_int) po_none) (pe_slice sl_list (pv 1) po_none (po_some pe_int))) (pa_cons (pe_op op_cat (pe_slice sl_list (pv 1) (po_some (pe_un un_neg pe_int)) po_none) (pe_slice sl_list (pv 1) po_none (po_some (pe_un un_neg pe_int)))) (pa_cons (pe_lst pa_nil) pa_nil)))))))
      (pss_one (ps_ret (pe_op op_cat (pv 4) (pe_lst (pa_cons (pe_op op_cat (pe_slice sl_list (pv 0) (po_some pe_int) po_none) (pe_slice sl_list (pv 0) po_none (po_some pe_int))) (pa_cons (pe_op op_cat (pe_slice sl_list (pv 1) (po_some (pv 3)) (po_some (pe_op op_add (pv 3) pe_int))) (pe_slice sl_list (pv 1) (po_some pe_int) po_none)) pa_nil))))))))), ?_⟩
    obtain ⟨v, hv, ev⟩ := atI_ok (xs := ps) (j := 0) (by omega) (by omega)
    obtain ⟨os, eo, _, _⟩ := id hO
    refine ⟨_, rfl, p, _, _, _, rfl, rfl, hP, ev, .inl ⟨_, rfl, _, rfl, o, _, rfl, .inl (SqL.of eo), _, _, rfl, rfl, _, _, rfl, rfl, by omega, ?_⟩⟩
    generalize v % (((sv os).length : Int) + 1) = at_
    refine ⟨_, rfl, _, rfl, _, rfl, slG hO fun a1 G1 t1 g1 => ?_⟩
    have sA := t1
    have hN := hN.same t1
    have hO := hO.same t1
    refine ⟨_, rfl, by show 1 ≤ sizeLine; decide, fun a2 n2 => ?_⟩
    obtain ⟨G2, eG2, t2, g2⟩ := litS n2
    rw [← eG2]
    have sA := sA.trans t2
    have hN := hN.same t2
    have hO := hO.same t2
    have g1 := g1.same t2
    refine catG hO g2 (by decide) fun a3 G3 t3 g3 => ?_
    have sA := sA.trans t3
    have hN := hN.same t3
    have hO := hO.same t3
    have g1 := g1.same t3
    have g2 := g2.same t3
    refine ⟨_, rfl, _, rfl, _, rfl, slG hO fun a4 G4 t4 g4 => ?_⟩
    have sA := sA.trans t4
    have hN := hN.same t4
    have hO := hO.same t4
    have g1 := g1.same t4
    have g3 := g3.same t4
    refine ⟨by show 1 ≤ sizeLine; decide, fun a5 n5 => ?_⟩
    obtain ⟨G5, eG5, t5, g5⟩ := litS n5
    rw [← eG5]
    have sA := sA.trans t5
    have hN := hN.same t5
    have hO := hO.same t5
    have g1 := g1.same t5
    have g3 := g3.same t5
    have g4 := g4.same t5
    refine catG g4 g5 (by decide) fun a6 G6 t6 g6 => ?_
    have sA := sA.trans t6
    have hN := hN.same t6
    have hO := hO.same t6
    have g1 := g1.same t6
    have g3 := g3.same t6
    have g4 := g4.same t6
    have g5 := g5.same t6
    refine ⟨_, rfl, _, rfl, _, _, rfl, rfl, _, rfl, ?_⟩
    dsimp only [tNoPart]
    refine slG hO fun a7 G7 t7 g7 => ?_
    have sA := sA.trans t7
    have hN := hN.same t7
    have hO := hO.same t7
    have g1 := g1.same t7
    have g3 := g3.same t7
    have g6 := g6.same t7
    refine catG g6 g7 (by decide) fun a8 G8 t8 g8 => ?_
    have sA := sA.trans t8
    have hN := hN.same t8
    have hO := hO.same t8
    have g1 := g1.same t8
    have g3 := g3.same t8
    have g6 := g6.same t8
    have g7 := g7.same t8
    refine ⟨by show 3 ≤ sizeLine; decide, fun a9 n9 => ?_⟩
    obtain ⟨G9, eG9, t9, r9⟩ := litR n9
    rw [← eG9]
    have sA := sA.trans t9
    have hN := hN.same t9
    have hO := hO.same t9
    have g1 := g1.same t9
    have g3 := g3.same t9
    have g8 := g8.same t9
    refine ⟨_, rfl, ?_⟩
    refine ⟨_, rfl, _, rfl, _, rfl, slG hO fun a10 G10 t10 g10 => ?_⟩
    have sA := sA.trans t10
    have hN := hN.same t10
    have hO := hO.same t10
    have g1 := g1.same t10
    have g3 := g3.same t10
    have g8 := g8.same t10
    have r9 := t10 _ _ r9
    refine catG hO g10 (by decide) fun a11 G11 t11 g11 => ?_
    have sA := sA.trans t11
    have hN := hN.same t11
    have hO := hO.same t11
    have g1 := g1.same t11
    have g3 := g3.same t11
    have g8 := g8.same t11
    have r9 := t11 _ _ r9
    have g10 := g10.same t11
    refine ⟨_, rfl, _, rfl, ?_⟩
    dsimp only [tNoPart]
    refine slG hO fun a12 G12 t12 g12 => ?_
    have sA := sA.trans t12
    have hN := hN.same t12
    have hO := hO.same t12
    have g1 := g1.same t12
    have g3 := g3.same t12
    have g8 := g8.same t12
    have r9 := t12 _ _ r9
    have g11 := g11.same t12
    refine ⟨_, rfl, _, rfl, slG hO fun a13 G13 t13 g13 => ?_⟩
    have sA := sA.trans t13
    have hN := hN.same t13
    have hO := hO.same t13
    have g1 := g1.same t13
    have g3 := g3.same t13
    have g8 := g8.same t13
    have r9 := t13 _ _ r9
    have g11 := g11.same t13
    have g12 := g12.same t13
    refine catG g12 g13 (by decide) fun a14 G14 t14 g14 => ?_
    have sA := sA.trans t14
    have hN := hN.same t14
    have hO := hO.same t14
    have g1 := g1.same t14
    have g3 := g3.same t14
    have g8 := g8.same t14
    have r9 := t14 _ _ r9
    have g11 := g11.same t14
    have g12 := g12.same t14
    have g13 := g13.same t14
    refine ⟨_, rfl, _, rfl, _, rfl, ?_⟩
    dsimp only [tNoPart]
    refine slG hO fun a15 G15 t15 g15 => ?_
    have sA := sA.trans t15
    have hN := hN.same t15
    have hO := hO.same t15
    have g1 := g1.same t15
    have g3 := g3.same t15
    have g8 := g8.same t15
    have r9 := t15 _ _ r9
    have g11 := g11.same t15
    have g14 := g14.same t15
    refine ⟨_, rfl, _, rfl, _, rfl, slG hO fun a16 G16 t16 g16 => ?_⟩
    have sA := sA.trans t16
    have hN := hN.same t16
    have hO := hO.same t16
    have g1 := g1.same t16
    have g3 := g3.same t16
    have g8 := g8.same t16
    have r9 := t16 _ _ r9
    have g11 := g11.same t16
    have g14 := g14.same t16
    have g15 := g15.same t16
    refine catG g15 g16 (by decide) fun a17 G17 t17 g17 => ?_
    have sA := sA.trans t17
    have hN := hN.same t17
    have hO := hO.same t17
    have g1 := g1.same t17
    have g3 := g3.same t17
    have g8 := g8.same t17
    have r9 := t17 _ _ r9
    have g11 := g11.same t17
    have g14 := g14.same t17
    have g15 := g15.same t17
    have g16 := g16.same t17
    refine ⟨by show 0 ≤ sizeLine; decide, fun a18 n18 => ?_⟩
    obtain ⟨G18, eG18, t18, g18⟩ := lit0 n18
    rw [← eG18]
    have sA := sA.trans t18
    have hN := hN.same t18
    have hO := hO.same t18
    have g1 := g1.same t18
    have g3 := g3.same t18
    have g8 := g8.same t18
    have r9 := t18 _ _ r9
    have g11 := g11.same t18
    have g14 := g14.same t18
    have g17 := g17.same t18
    refine ⟨by show 4 ≤ sizeLine; decide, fun a19 n19 => ?_⟩
    obtain ⟨G19, eG19, t19, r19⟩ := litR n19
    rw [← eG19]
    have sA := sA.trans t19
    have hN := hN.same t19
    have hO := hO.same t19
    have g1 := g1.same t19
    have g3 := g3.same t19
    have g8 := g8.same t19
    have r9 := t19 _ _ r9
    have g11 := g11.same t19
    have g14 := g14.same t19
    have g17 := g17.same t19
    have g18 := g18.same t19
    refine catO r9 r19 (by show 3 + 4 ≤ 1000000; decide) fun a20 G20 t20 _ r20 => ?_
    have sA := sA.trans t20
    have hN := hN.same t20
    have hO := hO.same t20
    have g1 := g1.same t20
    have g3 := g3.same t20
    have g8 := g8.same t20
    have r9 := t20 _ _ r9
    have g11 := g11.same t20
    have g14 := g14.same t20
    have g17 := g17.same t20
    have g18 := g18.same t20
    have r19 := t20 _ _ r19
    refine ⟨_, rfl, ?_⟩
    refine ⟨_, rfl, _, rfl, ?_⟩
    dsimp only [tNoPart]
    refine slG hN fun a21 G21 t21 g21 => ?_
    have sA := sA.trans t21
    have hN := hN.same t21
    have hO := hO.same t21
    have g1 := g1.same t21
    have g3 := g3.same t21
    have g8 := g8.same t21
    have g11 := g11.same t21
    have g14 := g14.same t21
    have g17 := g17.same t21
    have g18 := g18.same t21
    have r20 := t21 _ _ r20
    refine ⟨_, rfl, _, rfl, slG hN fun a22 G22 t22 g22 => ?_⟩
    have sA := sA.trans t22
    have hN := hN.same t22
    have hO := hO.same t22
    have g1 := g1.same t22
    have g3 := g3.same t22
    have g8 := g8.same t22
    have g11 := g11.same t22
    have g14 := g14.same t22
    have g17 := g17.same t22
    have g18 := g18.same t22
    have r20 := t22 _ _ r20
    have g21 := g21.same t22
    refine catG g21 g22 (by decide) fun a23 G23 t23 g23 => ?_
    have sA := sA.trans t23
    have hN := hN.same t23
    have hO := hO.same t23
    have g1 := g1.same t23
    have g3 := g3.same t23
    have g8 := g8.same t23
    have g11 := g11.same t23
    have g14 := g14.same t23
    have g17 := g17.same t23
    have g18 := g18.same t23
    have r20 := t23 _ _ r20
    have g21 := g21.same t23
    have g22 := g22.same t23
    refine ⟨_, rfl, _, rfl, _, rfl, _, rfl, _, _, rfl, rfl, _, rfl, slG hO fun a24 G24 t24 g24 => ?_⟩
    have sA := sA.trans t24
    have hN := hN.same t24
    have hO := hO.same t24
    have g1 := g1.same t24
    have g3 := g3.same t24
    have g8 := g8.same t24
    have g11 := g11.same t24
    have g14 := g14.same t24
    have g17 := g17.same t24
    have g18 := g18.same t24
    have r20 := t24 _ _ r20
    have g23 := g23.same t24
    refine ⟨_, rfl, _, rfl, ?_⟩
    dsimp only [tNoPart]
    refine slG hO fun a25 G25 t25 g25 => ?_
    have sA := sA.trans t25
    have hN := hN.same t25
    have hO := hO.same t25
    have g1 := g1.same t25
    have g3 := g3.same t25
    have g8 := g8.same t25
    have g11 := g11.same t25
    have g14 := g14.same t25
    have g17 := g17.same t25
    have g18 := g18.same t25
    have r20 := t25 _ _ r20
    have g23 := g23.same t25
    have g24 := g24.same t25
    refine catG g24 g25 (by decide) fun a26 G26 t26 g26 => ?_
    have sA := sA.trans t26
    have hN := hN.same t26
    have hO := hO.same t26
    have g1 := g1.same t26
    have g3 := g3.same t26
    have g8 := g8.same t26
    have g11 := g11.same t26
    have g14 := g14.same t26
    have g17 := g17.same t26
    have g18 := g18.same t26
    have r20 := t26 _ _ r20
    have g23 := g23.same t26
    have g24 := g24.same t26
    have g25 := g25.same t26
    refine ⟨by show 2 ≤ sizeLine; decide, fun a27 n27 => ?_⟩
    obtain ⟨G27, eG27, t27, r27⟩ := litR n27
    rw [← eG27]
    have sA := sA.trans t27
    have hN := hN.same t27
    have hO := hO.same t27
    have g1 := g1.same t27
    have g3 := g3.same t27
    have g8 := g8.same t27
    have g11 := g11.same t27
    have g14 := g14.same t27
    have g17 := g17.same t27
    have g18 := g18.same t27
    have r20 := t27 _ _ r20
    have g23 := g23.same t27
    have g26 := g26.same t27
    refine catO r20 r27 (by show 7 + 2 ≤ 1000000; decide) fun a28 G28 t28 n28 r28 => ?_
    have nD := none_of sA n28
    have sA := sA.trans t28
    have hN := hN.same t28
    have hO := hO.same t28
    have g1 := g1.same t28
    have g3 := g3.same t28
    have g8 := g8.same t28
    have g11 := g11.same t28
    have g14 := g14.same t28
    have g17 := g17.same t28
    have g18 := g18.same t28
    have r20 := t28 _ _ r20
    have g23 := g23.same t28
    have g26 := g26.same t28
    have r27 := t28 _ _ r27
    exact k a28 [a1, a3, a8, a11, a14, a17, a18, a23, a26] _ sA nD r28 rfl fun t ht => by
      simp only [List.mem_cons, List.not_mem_nil, or_false] at ht
      rcases ht with rfl | rfl | rfl | rfl | rfl | rfl | rfl | rfl | rfl
      · exact g1.mono (by decide)
      · exact g3.mono (by decide)
      · exact g8.mono (by decide)
      · exact g11.mono (by decide)
      · exact g14.mono (by decide)
      · exact g17.mono (by decide)
      · exact g18.mono (by decide)
      · exact g23.mono (by decide)
      · exact g26.mono (by decide)
end
end My
set_option maxRecDepth 100000
set_option maxHeartbeats 4000000
set_option exponentiation.threshold 10000
namespace My
open PySem L2
def RoundOf (cs x : List Str) : Prop := x.Perm cs ∧ x.take 1 = cs.take 1
theorem round_of {cs y : List Str} {i : Nat} {z : Str} (p : y.Perm cs) (hi : y[i]? = some z) (h0 : cs[0]? = some z) : RoundOf cs (y.drop i ++ y.take i) := by
  refine ⟨(rot_perm y i).trans p, ?_⟩
  have hil := (List.getElem?_eq_some_iff.mp hi).1
  have t2 : cs.take 1 = [z] := by have := take_succ (i := 0) h0; simpa using this
  rw [List.drop_eq_getElem_cons hil, (List.getElem?_eq_some_iff.mp hi).2, t2]; rfl
theorem round_cons {cs x : List Str} (p : x.Perm (cs.drop 1)) : RoundOf cs (cs.take 1 ++ x) := by
  refine ⟨(p.append_left _).trans (by rw [List.take_append_drop]), ?_⟩
  cases cs with
  | nil =>
    have : x = [] := by
      have := p.length_eq
      exact List.length_eq_zero_iff.mp (by rw [this]; rfl)
    rw [this]; rfl
  | cons a t => rfl
section
variable {P : Program} {w : World} {K : PySem.W.Frag} {mg : Str → Option Value} {base : Heap} {A : Ad}
def spRingOrders (K : PySem.W.Frag) : Sp := fun vs H Q _ => ∃ n h p cs hs, ∃ ps : List Int, vs = [.ref n, .ref h, .ref p] ∧ SqL K H n (sv cs) ∧ H h = some (.lst (sv hs)) ∧ SqL K H p (ps.map V.int) ∧ ps.length = 30 ∧ ColsOk cs ∧ hs.Perm cs ∧
  ∀ (D : Addr) (us : List Addr) (lls : List (List Str)) (H' : Hp), Same H H' → H D = none → H' D = some (.lst (us.map V.ref)) → Lss .lst H' us lls → (∀ x ∈ lls, RoundOf cs x) → lls.length ≤ 256 → Q (.ref D) H'
theorem ok_ringOrders (T : Txt P K mg A) : FnOk P w K mg base CX0 3 A.a_law_ring_orders A.d_law_ring_orders ["names", "hidden", "pool"] (spRingOrders K) := by
  have G_law_all_orders := ok_allOrders (P := P) (w := w) (base := base) T
  have G_law_order := ok_order (P := P) (w := w) (base := base) T
  have G_law_round_from := ok_roundFrom (P := P) (w := w) (base := base) T
  refine T.F_law_ring_orders.ok sc_law_ring_orders (fun vs H Q E h => ?_) (fun cdv A' outer s H vs Q E hr h => ?_)
  · obtain ⟨n, h, p, cs, hs, ps, rfl, _⟩ := h
    rfl
  · obtain ⟨n, h, p, cs, hs, ps, rfl, hN, hH, hP, hpl, hok, hhs, k⟩ := h
    refine ⟨_, (pss_cons (ps_if (pt_cmpR op_lt (pe_callB call_len_seq (by rfl) T.n_len (by decide +kernel) (pa_cons (pv 0) pa_nil)) pe_int (nomark _)) (pss_one (ps_ret (pe_lc (own := [("order", 7)]) (g := gName 7) (tt := tYes) rfl sc_law_ring_orders.nd (pi_list (pe_call G_law_all_orders (hr.mono (by decide)) rfl T.mg_law_all_orders T.F_law_all_orders.kp T.b_law_all_orders .nil pass0 (pa_cons (pe_slice sl_list (pv 0) (po_some pe_int) po_none) pa_nil))) (blkOk_by (N := ["names", "hidden", "pool", "at", "changed", "back", "found", "order", "k"]) (sc := defScope s_law_ring_orders) (by decide +kernel)) (fun _ _ _ _ _ => (pg_name (i := 7) sc_law_ring_orders.nd rfl (Or.inl rfl))) (fun _ _ _ _ _ => pts_nil) (fun _ _ _ _ _ => (pe_op op_cat (pe_slice (show SlR _ (rSlL K) from sl_list) (pv 0) po_none (po_some pe_int)) (pv 7)))))) pss_nil)
      (pss_cons (ps_set (i := 3) sc_law_ring_orders.nd rfl (Or.inl rfl) (pe_op op_mod (pe_callTy call_int1 (by rfl) T.n_int (by decide +kernel) (pa_cons (pe_ix ix_list (pv 2) pe_int (fun _ _ => rfl)) pa_nil)) (pe_op op_sub (pe_callB call_len_seq (by rfl) T.n_len (by decide +kernel) (pa_cons (pv 0) pa_nil)) pe_int)))
      (pss_cons (ps_set (i := 4) sc_law_ring_orders.nd rfl (Or.inl rfl) (pe_op op_cat (pe_op op_cat (pe_slice sl_list (pv 1) po_none (po_some (pv 3))) (pe_lst (pa_cons (pe_ix ix_list (pv 1) (pe_op op_add (pv 3) pe_int) (fun _ _ => rfl)) (pa_cons (pe_ix ix_list (pv 1) (pv 3) (fun _ _ => rfl)) pa_nil)))) (pe_slice sl_list (pv 1) (po_some (pe_op op_add (pv 3) pe_int)) po_none)))
      (pss_cons (ps_setLc (i := 5) (own := [("k", 8)]) (g := gName 8) (tt := tYes) rfl sc_law_ring_orders.nd rfl rfl (sw_true rfl rfl rfl (by decide +kernel)) (pi_range1 (by rfl) T.n_range (pa_cons (pe_callB call_len_seq (by rfl) T.n_len (by decide +kernel) (pa_cons (pv 1) pa_nil)) pa_nil)) (blkOk_by (N := ["names", "hidden", "pool", "at", "changed", "back", "found", "order", "k"]) (sc := defScope s_law_ring_orders) (by decide +kernel)) (fun _ _ _ _ _ => (pg_name (i := 8) sc_law_ring_orders.nd rfl (Or.inl rfl))) (fun _ _ _ _ _ => pts_nil) (fun _ _ _ _ _ => (pe_ix (show IxR _ (rIxL K) from ix_list) (pv 1) (pe_op op_sub (pe_op op_sub (pe_callB (show CallR _ _ (rLen2 K) from call_len_seq) (by rfl) T.n_len (by decide +kernel) (pa_cons (pv 1) pa_nil)) pe_int) (pv 8)) (fun _ _ => rfl))))
      (pss_cons (ps_set (i := 6) sc_law_ring_orders.nd rfl (Or.inl rfl) (pe_lst pa_nil))
      (pss_cons (ps_for PassesOwn.never rfl (pi_list (pe_lst (pa_cons (pv 1) (pa_cons (pv 5) (pa_cons (pv 4) (pa_cons (pe_call G_law_order (hr.mono (by decide)) rfl T.mg_law_order T.F_law_order.kp T.b_law_order .nil pass0 (pa_cons (pv 0) (pa_cons (pv 2) (pa_cons pe_int pa_nil)))) pa_nil)))))) (pg_name (i := 7) sc_law_ring_orders.nd rfl (Or.inl rfl))
        (pss_one (ps_expr (pe_bm PySem.F.plainAttrs_list PySem.F.slot_list_append PySem.F.type_list_append mt_append (pv 6) (pa_cons (pe_call G_law_round_from (hr.mono (by decide)) rfl T.mg_law_round_from T.F_law_round_from.kp T.b_law_round_from .nil pass0 (pa_cons (pv 7) (pa_cons (pe_ix ix_list (pv 0) pe_int (fun _ _ => rfl)) pa_nil))) pa_nil)))))
      (pss_one (ps_ret (pv 6))))))))), ?_⟩
    refine ⟨_, rfl, n, _, rfl, .inl hN, _, _, rfl, rfl, _, rfl, ?_⟩
    by_cases h6 : cs.length < 6
    · refine itY (by rw [len_sv]; omega) ?_
      have e1 : ∀ ys : List Str, cutV (sv ys) (some 1) none = sv (ys.drop 1) := fun ys => by
        rw [show (1 : Int) = ((1 : Nat) : Int) from rfl, cut_dropG, sv_drop]
      have e2 : ∀ ys : List Str, cutV (sv ys) none (some 1) = sv (ys.take 1) := fun ys => by
        rw [show (1 : Int) = ((1 : Nat) : Int) from rfl, cut_takeG, sv_take]
      refine ⟨_, rfl, _, rfl, ?_⟩
      dsimp only [tNoPart]
      refine slO hN fun a H1 s1 _ ha => ?_
      rw [e1] at ha
      refine ⟨a, cs.drop 1, rfl, SqL.of ha, (List.drop_sublist _ _).nodup hok.nd, by rw [List.length_drop]; omega, fun D us lls H2 s2 _ hD hus hp hl => ?_⟩
      have s12 := s1.trans s2
      refine ⟨D, rfl, ⟨_, SqL.of hD⟩, fun D2 hD2 => lc_it walk_list (fun i => LcL H2 D2 ((lls.take i).map fun x => cs.take 1 ++ x)) (lcl0 hD2) (fun i H3 _ q => q.1.seq (SqL.of hD)) ?_ ?_⟩
      · rintro i x H30 H3 hi q ⟨rfl, hx⟩
        obtain ⟨b, hb, rfl⟩ := refs_get hx
        obtain ⟨y, hy, ho⟩ := (hus.same q.1).get hb
        have hil : i < lls.length := (List.getElem?_eq_some_iff.mp hy).1
        have hyl : y.length ≤ 12 := by
          have := (hp y (List.mem_of_getElem? hy)).length_eq
          have := hok.n
          rw [List.length_drop] at *; omega
        refine ⟨rfl, _, rfl, _, rfl, slO ((s12.trans q.1).seq hN) fun c H4 s4 _ hc => ?_⟩
        rw [e2] at hc
        refine ⟨_, rfl, catO hc (s4 _ _ ho) (by rw [len_sv, len_sv, List.length_take]; omega) fun e H5 s5 hne he => ?_⟩
        rw [sv_app] at he
        have := q.push hD2 (s4.trans s5) he (fun z => by obtain ⟨us, hu, _⟩ := q.2; rw [z, s4 _ _ hu] at hne; cases hne) (by rw [List.length_map, List.length_take]; omega)
        rw [take_succ hy, List.map_append]
        exact this
      · rintro H3 ⟨s3, us3, hD3, hus3, _⟩
        rw [List.length_map, hus.len, List.take_length] at hus3
        refine k D2 us3 _ H3 (s12.trans s3) (none_of s12 hD2) hD3 hus3 (fun x hx => ?_) (by rw [List.length_map]; exact hl)
        obtain ⟨y, hy, rfl⟩ := List.mem_map.mp hx
        exact round_cons (hp y hy)
    · refine itN (by rw [len_sv]; omega) ?_
      have hhl : hs.length = cs.length := hhs.length_eq
      have hn12 := hok.n
      obtain ⟨v, hv, ev⟩ := atI_ok (xs := ps) (j := 0) (by omega) (by omega)
      refine ⟨_, rfl, p, _, _, _, rfl, rfl, hP, ev, .inl ⟨_, rfl, _, rfl, n, _, rfl, .inl hN, _, _, rfl, rfl, _, _, rfl, rfl, by rw [len_sv]; omega, ?_⟩⟩
      have m0 := Int.emod_nonneg v (show ((sv cs).length : Int) - 1 ≠ 0 by rw [len_sv]; omega)
      have m1 := Int.emod_lt_of_pos v (show (0 : Int) < ((sv cs).length : Int) - 1 by rw [len_sv]; omega)
      obtain ⟨c, hc⟩ := Int.eq_ofNat_of_zero_le m0
      dsimp only
      rw [hc] at m1 ⊢
      rw [len_sv] at m1
      have hc1 : c + 1 < hs.length := by omega
      -- changed
      refine ⟨_, rfl, _, rfl, _, rfl, slO (SqL.of hH) fun a1 H1 s1 _ ha1 => ?_⟩
      rw [cut_takeG, sv_take] at ha1
      have z1 : hs[c + 1]? = some hs[c + 1] := List.getElem?_eq_getElem hc1
      have z0 : hs[c]? = some hs[c] := List.getElem?_eq_getElem (by omega)
      have at1 : atI (sv hs) ((c : Int) + 1) = some (V.str hs[c + 1]) := by
        rw [show ((c : Int) + 1) = ((c + 1 : Nat) : Int) by omega]
        exact atI_nat (by rw [List.getElem?_map, z1]; rfl)
      have at0 : atI (sv hs) (c : Int) = some (V.str hs[c]) := atI_nat (by rw [List.getElem?_map, z0]; rfl)
      have hH1 := s1 _ _ hH
      refine ⟨_, rfl, _, rfl, _, _, rfl, rfl, h, _, _, _, rfl, rfl, SqL.of hH1, at1, _, rfl, _, rfl, h, _, _, _, rfl, rfl, SqL.of hH1, at0, by show 2 ≤ sizeLine; decide, fun a2 n2 => ?_⟩
      obtain ⟨H2, eG, s2, ha2⟩ := litR (xs := [V.str hs[c + 1], .str hs[c]]) n2
      rw [← eG]
      refine catO (s2 _ _ ha1) ha2 (by rw [len_sv, List.length_take]; show _ + 2 ≤ _; omega) fun a3 H3 s3 _ ha3 => ?_
      have s13 := s1.trans (s2.trans s3)
      refine ⟨_, rfl, _, rfl, _, _, rfl, rfl, _, rfl, ?_⟩
      dsimp only [tNoPart]
      refine slO (SqL.of (s13 _ _ hH)) fun a4 H4 s4 _ ha4 => ?_
      rw [show ((c : Int) + 2) = ((c + 2 : Nat) : Int) by omega, cut_dropG, sv_drop] at ha4
      refine catO (s4 _ _ ha3) ha4 (by rw [List.length_append, len_sv, len_sv, List.length_take, List.length_drop]; show _ + 2 + _ ≤ _; omega) fun a5 H5 s5 _ ha5 => ?_
      have s15 := s13.trans (s4.trans s5)
      have ha5 : H5 a5 = some (.lst (sv (hs.take c ++ [hs[c + 1], hs[c]] ++ hs.drop (c + 2)))) := by rw [ha5]; simp [sv]
      have pc : (hs.take c ++ [hs[c + 1], hs[c]] ++ hs.drop (c + 2)).Perm cs := by
        refine List.Perm.trans ?_ hhs
        have e : hs = hs.take c ++ ([hs[c], hs[c + 1]] ++ hs.drop (c + 2)) := by
          conv => lhs; rw [← List.take_append_drop c hs]
          rw [List.drop_eq_getElem_cons (by omega : c < hs.length), List.drop_eq_getElem_cons hc1]; rfl
        conv => rhs; rw [e]
        rw [List.append_assoc]
        exact List.Perm.append_left _ (List.Perm.append_right _ (List.Perm.swap _ _ _))
      -- back
      have e1 : (((sv hs).length : Nat) : Int).toNat = hs.length := by rw [len_sv, Int.toNat_natCast]
      have hH5 := s15 _ _ hH
      refine ⟨_, rfl, h, _, rfl, .inl (SqL.of hH5), _, rfl, by rw [len_sv]; omega, by rw [len_sv]; omega, fun B hB => lc_range (n := (((sv hs).length : Nat) : Int).toNat) (PvS H5 B fun i => sv (hs.reverse.take i)) (pv0 hB rfl) ?_ ?_⟩
      · rintro i H6 hi q
        rw [e1] at hi
        have hil : hs.length - 1 - i < hs.length := by omega
        have zi : hs[hs.length - 1 - i]? = some hs[hs.length - 1 - i] := List.getElem?_eq_getElem hil
        have ati : atI (sv hs) (((sv hs).length : Int) - 1 - (0 + (i : Int))) = some (V.str hs[hs.length - 1 - i]) := by
          rw [len_sv, show ((hs.length : Int) - 1 - (0 + (i : Int))) = ((hs.length - 1 - i : Nat) : Int) by omega]
          exact atI_nat (by rw [List.getElem?_map, zi]; rfl)
        have hH6 := q.1 _ _ hH5
        refine ⟨rfl, _, rfl, _, rfl, h, _, rfl, .inl (SqL.of hH6), _, _, rfl, rfl, _, rfl, _, _, rfl, rfl, h, _, _, _, rfl, rfl, SqL.of hH6, ati, ?_⟩
        refine q.push hB ?_ (by rw [len_sv, List.length_take]; omega)
        have zr : hs.reverse[i]? = some hs[hs.length - 1 - i] := by rw [List.getElem?_reverse hi]; exact zi
        show sv (hs.reverse.take (i + 1)) = _
        rw [take_succ zr, sv_snoc']
      · rintro H6 ⟨s6, h6⟩
        rw [e1] at h6
        have h6 : H6 B = some (.lst (sv (hs.reverse.take hs.length))) := h6
        rw [List.take_of_length_le (by rw [List.length_reverse]; exact Nat.le_refl _)] at h6
        have s16 := s15.trans s6
        refine ⟨by show 0 ≤ sizeLine; decide, fun F hF => ?_⟩
        have sF := same_new (o := .lst []) hF
        have q0 : LcL H6 F [] (upd H6 F (.lst [])) := lcl0 hF
        have hF7' := upd_same (H := H6) (a := F) (o := .lst [])
        generalize upd H6 F (.lst []) = H7 at sF q0 hF7' ⊢
        have s17 := s16.trans sF
        refine ⟨_, rfl, _, rfl, _, rfl, _, rfl, _, rfl, n, p, cs, ps, 1, rfl, s17.seq hN, s17.seq hP, hn12, by decide, by rw [hpl]; omega, fun od os H8 s8 hodn hod pos => ?_⟩
        refine ⟨by show 4 ≤ sizeLine; decide, fun W nW => ?_⟩
        obtain ⟨H9, eG, s9, hW⟩ := litR (xs := [V.ref h, .ref B, .ref a5, .ref od]) nW
        rw [← eG]
        have s79 := s8.trans s9
        have s69 := sF.trans s79
        have s19 := s16.trans s69
        have q9 : LcL H6 F [] H9 := by
          obtain ⟨sm, us, hd, hls, hn⟩ := q0
          exact ⟨sm.trans s79, us, s79 _ _ hd, hls.same s79, hn⟩
        have hW4 : H9 W = some (.lst (([h, B, a5, od] : List Addr).map V.ref)) := hW
        have hls : Lss .lst H9 [h, B, a5, od] [hs, hs.reverse, hs.take c ++ [hs[c + 1], hs[c]] ++ hs.drop (c + 2), os] := by
          have l1 : Lss .lst H9 ([] ++ [h]) ([] ++ [hs]) := Lss.nil.app (s19 _ _ hH)
          have l2 := l1.app (s69 _ _ h6)
          have l3 := l2.app (s69 _ _ (s6 _ _ ha5))
          exact l3.app (s9 _ _ hod)
        have hps : ∀ x ∈ [hs, hs.reverse, hs.take c ++ [hs[c + 1], hs[c]] ++ hs.drop (c + 2), os], x.Perm cs := by
          intro x hx
          rcases List.mem_cons.mp hx with e | hx
          · rw [e]; exact hhs
          rcases List.mem_cons.mp hx with e | hx
          · rw [e]; exact (List.reverse_perm _).trans hhs
          rcases List.mem_cons.mp hx with e | hx
          · rw [e]; exact pc
          · rw [List.mem_singleton.mp hx]; exact pos
        generalize [hs, hs.reverse, hs.take c ++ [hs[c + 1], hs[c]] ++ hs.drop (c + 2), os] = ws at hls hps
        have hF7 : H7 F = some (.lst []) := hF7'
        have hWF : W ≠ F := (ne_of_none (s8 _ _ hF7) nW).symm
        have hneF : ∀ (i : Nat) (t : Addr), ([h, B, a5, od] : List Addr)[i]? = some t → t ≠ F := fun i t e => by
          have e := List.mem_of_getElem? e
          rcases List.mem_cons.mp e with e | e
          · rw [e]; exact ne_of_none (s16 _ _ hH) hF
          rcases List.mem_cons.mp e with e | e
          · rw [e]; exact ne_of_none h6 hF
          rcases List.mem_cons.mp e with e | e
          · rw [e]; exact ne_of_none (s6 _ _ ha5) hF
          · rw [List.mem_singleton.mp e]; exact (ne_of_none hF7 hodn).symm
        have cpos : 0 < cs.length := by omega
        have zc : cs[0]? = some cs[0] := List.getElem?_eq_getElem cpos
        have ac : atI (sv cs) 0 = some (V.str cs[0]) := atI_nat (j := 0) (by rw [List.getElem?_map, zc]; rfl)
        refine ⟨W, rfl, ⟨_, SqL.of hW4⟩, for_it walk_list (fun j σ H3 => ∃ (l2 : List (List Str)) (u7 : Option V), σ = [some (.ref n), some (.ref h), some (.ref p), some (.int (c : Int)), some (.ref a5), some (.ref B), some (.ref F), u7, none] ∧ LcL H6 F l2 H3 ∧ (Lss .lst H3 [h, B, a5, od] ws ∧ H3 W = some (.lst (([h, B, a5, od] : List Addr).map V.ref))) ∧ (∀ x ∈ l2, RoundOf cs x) ∧ l2.length = j)
          ⟨[], none, rfl, q9, ⟨hls, hW4⟩, (fun x hx => nomatch hx), rfl⟩ (fun j σ H3 _ q => by obtain ⟨l2, u3, _, _, q, _⟩ := q; exact SqL.of q.2) ?_ ?_⟩
        · rintro j x σ H30 H3 hj ⟨l2, u7, rfl, q, s3', hb2, hl2⟩ ⟨rfl, hx⟩
          have hx : (([h, B, a5, od] : List Addr).map V.ref)[j]? = some x := hx
          obtain ⟨b, hbx, rfl⟩ := refs_get hx
          obtain ⟨y, hy, ho⟩ := s3'.1.get hbx
          have py := hps y (List.mem_of_getElem? hy)
          have hjl : j < 4 := by have := (List.getElem?_eq_some_iff.mp hbx).1; exact this
          obtain ⟨us3, hF3, _⟩ := id q.2
          have zy : cs[0] ∈ y := py.mem_iff.mpr (List.getElem_mem cpos)
          refine ⟨_, rfl, .inl ⟨rfl, _, SqL.of hF3⟩, _, rfl, _, rfl, n, _, _, _, rfl, rfl, (s16.trans q.1).seq hN, ac, b, cs[0], y, rfl, ho, zy, by rw [py.length_eq]; omega, fun i1 l1 H4 hi1 _ s4 hn1 hl1 => ?_⟩
          obtain ⟨acc, r1, r2, r3⟩ := q.push hF s4 hl1 (fun z => by rw [z, hF3] at hn1; cases hn1) (by omega)
          refine ⟨F, _, _, rfl, rfl, r1, r2, _, _, rfl, r3, ?_, fun x hx => ?_, by rw [List.length_append, hl2]; rfl⟩
          · refine ⟨(s3'.1.same s4).updNe hneF, ?_⟩
            rw [upd_ne hWF]
            exact s4 _ _ s3'.2
          · exact (List.mem_append.mp hx).elim (hb2 x) fun e => by rw [List.mem_singleton.mp e]; exact round_of py hi1 zc
        · rintro σ H3 ⟨l2, u7, rfl, q, s3', hb2, hl2⟩
          obtain ⟨s63, us3, hF3, hus3, _⟩ := q
          exact ⟨_, rfl, k F us3 l2 H3 (s16.trans s63) (none_of s16 hF) hF3 hus3 hb2 (by rw [hl2]; show 4 ≤ 256; decide)⟩
end
end My
set_option maxRecDepth 100000
set_option maxHeartbeats 8000000
set_option exponentiation.threshold 10000
namespace My
open PySem L2
open C8 (pss_cut)
/-- rows as data -/
abbrev pdr (rs : List (List Str)) : List PyData := rs.map fun r => PyData.list (pd r)
theorem lay_pdr {rs : List (List Str)} (h : ∀ r ∈ rs, ∀ z ∈ r, Good z) : PyData.canLayAll0 (pdr rs) = true := by
  induction rs with
  | nil => rfl
  | cons a t ih => exact layc (layL (lay_all fun z hz => okz_good (h a List.mem_cons_self z hz))) (ih fun s hs => h s (List.mem_cons_of_mem _ hs))
theorem depth_pdr : ∀ rs : List (List Str), PyData.depthAll (pdr rs) ≤ 3
  | [] => by simp [PyData.depthAll]
  | r :: t => by
    have h1 : PyData.depthAll (t.map fun r => PyData.list (pd r)) ≤ 3 := depth_pdr t
    have h2 := depth_pd r
    simp only [List.map_cons, PyData.depthAll, PyData.depth]
    omega
theorem dp_pdr {K : PySem.W.Frag} {H : Hp} : ∀ {ts : List Addr} {rs : List (List Str)}, Lss .lst H ts rs → DpAll K H (ts.map V.ref) (pdr rs)
  | [], [], _ => .nil
  | [], _ :: _, h => nomatch h.len
  | _ :: _, [], h => nomatch h.len
  | t :: ts, r :: rs, h => .cons (.lst (xs := sv r) (SqL.of (h.at_ 0 t r rfl rfl)) (dp_pd r)) (dp_pdr ⟨Nat.succ.inj h.len, fun i u x a b => h.at_ (i + 1) u x a b⟩)
theorem RowOk.good {cs x : List Str} (h : RowOk cs x) (g : ∀ z ∈ cs, Good z) : ∀ z ∈ x, Good z := fun z hz => g z (h.2 z hz)
theorem cut_ints (ns : List Int) : ∃ ys : List Int, cutV (ns.map V.int) (some (3 : Int)) (some (6 : Int)) = ys.map V.int ∧ ys.length ≤ 6 := by
  unfold cutV
  rw [show (3 : Int) = ((3 : Nat) : Int) from rfl, show (6 : Int) = ((6 : Nat) : Int) from rfl, HT.sIx_nat, HT.sIx_nat, ← List.map_drop, ← List.map_take]
  refine ⟨_, rfl, ?_⟩
  rw [List.length_take]
  omega
theorem not_in_cs {cs : List Str} (h : Nms cs) : ("stranger" : Str) ∉ cs := fun hm => by
  have := (h.2 _ hm).2
  have e : ("stranger" : Str).length = 8 := by decide
  omega
def spLaw (K : PySem.W.Frag) : Sp := fun vs H Q _ => ∃ (a : Addr) (ns : List Int), vs = [.ref a] ∧ SqL K H a (ns.map V.int) ∧ ns.length ≤ 63 ∧ ∀ H', Q (.bl true) H'
theorem mk_table2 {C : Addr} {K : PySem.W.Frag} {H : Hp} {l r x dx : Addr} {cs : List Str} {ts : List Addr} {rs : List (List Str)} {Q2 : VK} (hL : SqL K H l (sv cs) ∨ H l = some (.tup (sv cs))) (hR : SqL K H r (ts.map V.ref)) (hs : LsA K H ts rs) (ok : ColsOk cs) (hr : rs.length ≤ 48)
    (st : ∀ x ∈ rs, stray cs x = none ∧ x.length ≤ 1000) (hx : H x = none) (hdx : H dx = none) (hne : dx ≠ x) (k : ∀ H', Same H H' → Tb C H' x cs rs → Q2 .non H') :
    spTable C K (.ref x :: ([.ref l, .ref r] ++ [])) (upd (upd H dx (.own x)) x (.ins C dx [])) Q2 E0 := by
  have s1 := same_new (o := .own x) hdx
  have hx1 : upd H dx (.own x) x = none := by rw [upd_ne hne.symm]; exact hx
  have s2 : Same H (upd (upd H dx (.own x)) x (.ins C dx [])) := s1.trans (same_new hx1)
  exact ⟨x, l, r, dx, cs, ts, rs, rfl, upd_same, hL.imp (fun q => s2.seq q) (fun q => s2 _ _ q), s2.seq hR, hs.same s2, ok.g, ok.nd, ok.n, hr, st, fun H' hk hT => k H' (fun b o e => hk b o (ne_of_none e hx) (s2 _ _ e)) hT⟩
section
variable {P : Program} {w : World} {K : PySem.W.Frag} {mg : Str → Option Value} {base : Heap} {A : Ad}
theorem ok_law (T : Txt P K mg A) : FnOk P w K mg base CX0 20 A.a_law A.d_law ["script"] (spLaw K) := by
  have G_law_pool := ok_pool (P := P) (w := w) (base := base) T
  have G_law_size := ok_size (P := P) (w := w) (base := base) T
  have G_law_names := ok_names (P := P) (w := w) (base := base) T
  have G_law_order := ok_order (P := P) (w := w) (base := base) T
  have G_law_row := ok_row (P := P) (w := w) (base := base) T
  have G_law_rows := ok_rows (P := P) (w := w) (base := base) T
  have G_law_arc := ok_arc (P := P) (w := w) (base := base) T
  have G_law_sorted := ok_sorted (P := P) (w := w) (base := base) T
  have G_Table_init := ok_table (P := P) (w := w) (base := base) T
  have G_law_ring_orders := ok_ringOrders (P := P) (w := w) (base := base) T
  have G_law_other_lists := ok_others (P := P) (w := w) (base := base) T
  have G_law_ring_right := ok_ringRight (P := P) (w := w) (base := base) T
  have G_law_cut_right := ok_cutRight (P := P) (w := w) (base := base) T
  have G_law_told_cut := ok_told (P := P) (w := w) (base := base) T
  refine T.F_law.ok sc_law (fun vs H Q E h => ?_) (fun cdv A' outer s H vs Q E hr h => ?_)
  · obtain ⟨a, ns, rfl, _⟩ := h
    rfl
  · obtain ⟨a, ns, rfl, hS, hnl, kk⟩ := h
    refine ⟨_, (pss_cons (ps_set (i := 1) sc_law.nd rfl (Or.inl rfl) (pe_call G_law_pool (hr.mono (by decide)) rfl T.mg_law_pool T.F_law_pool.kp T.b_law_pool .nil pass0 (pa_cons (pv 0) (pa_cons pe_int (pa_cons pe_int pa_nil)))))
      (pss_cons (ps_set (i := 2) sc_law.nd rfl (Or.inr rfl) (pe_call G_law_pool (hr.mono (by decide)) rfl T.mg_law_pool T.F_law_pool.kp T.b_law_pool .nil pass0 (pa_cons (pv 0) (pa_cons pe_int (pa_cons pe_int pa_nil)))))
      (pss_cons (ps_set (i := 3) sc_law.nd rfl (Or.inl rfl) (pe_call G_law_size (hr.mono (by decide)) rfl T.mg_law_size T.F_law_size.kp T.b_law_size .nil pass0 (pa_cons (pe_ix ix_list (pv 1) pe_int (fun _ _ => rfl)) (pa_cons pe_int pa_nil))))
      (pss_cons (ps_set (i := 4) sc_law.nd rfl (Or.inr rfl) (pe_call G_law_names (hr.mono (by decide)) rfl T.mg_law_names T.F_law_names.kp T.b_law_names .nil pass0 (pa_cons (pv 3) (pa_cons (pe_ix ix_list (pv 1) pe_int (fun _ _ => rfl)) pa_nil))))
      (pss_cons (ps_set (i := 5) sc_law.nd rfl (Or.inr rfl) (pe_call G_law_order (hr.mono (by decide)) rfl T.mg_law_order T.F_law_order.kp T.b_law_order .nil pass0 (pa_cons (pv 4) (pa_cons (pv 1) (pa_cons pe_int pa_nil)))))
      (pss_cons (ps_set (i := 6) sc_law.nd rfl (Or.inl rfl) (pe_op op_mod (pe_callTy call_int1 (by rfl) T.n_int (by decide +kernel) (pa_cons (pe_ix ix_list (pv 1) pe_int (fun _ _ => rfl)) pa_nil)) pe_int))
      (pss_cut (ps_if (pt_cmpR op_eq (pe_op op_mod (pe_callTy call_int1 (by rfl) T.n_int (by decide +kernel) (pa_cons (pe_ix ix_list (pv 2) pe_int (fun _ _ => rfl)) pa_nil)) pe_int) pe_int (nomark _)) (pss_cons (ps_setLc (i := 7) (own := [("k", 15)]) (g := gName 15) (tt := tYes) rfl sc_law.nd rfl rfl (sw_true rfl rfl rfl (by decide +kernel)) (pi_range1 (by rfl) T.n_range (pa_cons (pe_op op_mod (pe_callTy call_int1 (by rfl) T.n_int (by decide +kernel) (pa_cons (pe_ix ix_list (pv 1) pe_int (fun _ _ => rfl)) pa_nil)) pe_int) pa_nil)) (blkOk_by (N := ["script", "p0", "p1", "size", "names", "hidden", "mode", "rows", "cell", "handed", "table", "orders", "lists", "order", "name", "k", "row"]) (sc := defScope s_law) (by decide +kernel)) (fun _ _ _ _ _ => (pg_name (i := 15) sc_law.nd rfl (Or.inl rfl))) (fun _ _ _ _ _ => pts_nil) (fun _ _ _ _ _ => (pe_call G_law_arc (hr.mono (by decide)) rfl T.mg_law_arc T.F_law_arc.kp T.b_law_arc .nil pass0 (pa_cons (pv 5) (pa_cons (pe_ix (show IxR _ (rIxL K) from ix_list) (pv 2) (pe_op op_add pe_int (pv 15)) (fun _ _ => rfl)) pa_nil)))))
      (pss_one (ps_for PassesOwn.never rfl (pi_list (pe_slice sl_list (pv 0) (po_some pe_int) (po_some pe_int))) (pg_name (i := 8) sc_law.nd rfl (Or.inl rfl))
        (pss_one (ps_expr (pe_bm PySem.F.plainAttrs_list PySem.F.slot_list_append PySem.F.type_list_append mt_append (pv 7) (pa_cons (pe_call G_law_arc (hr.mono (by decide)) rfl T.mg_law_arc T.F_law_arc.kp T.b_law_arc .nil pass0 (pa_cons (pv 5) (pa_cons (pe_callB call_abs (by rfl) T.n_abs (by decide +kernel) (pa_cons (pv 8) pa_nil)) pa_nil))) pa_nil))))))) (pss_cons (ps_set (i := 7) sc_law.nd rfl (Or.inl rfl) (pe_call G_law_rows (hr.mono (by decide)) rfl T.mg_law_rows T.F_law_rows.kp T.b_law_rows .nil pass0 (pa_cons (pv 4) (pa_cons (pv 5) (pa_cons (pv 1) (pa_cons pe_int (pa_cons (pe_op op_mod (pe_callTy call_int1 (by rfl) T.n_int (by decide +kernel) (pa_cons (pe_ix ix_list (pv 1) pe_int (fun _ _ => rfl)) pa_nil)) pe_int) (pa_cons (pv 6) pa_nil))))))))
      (pss_one (ps_for PassesOwn.never rfl (pi_list (pe_slice sl_list (pv 0) (po_some pe_int) (po_some pe_int))) (pg_name (i := 8) sc_law.nd rfl (Or.inl rfl))
        (pss_one (ps_expr (pe_bm PySem.F.plainAttrs_list PySem.F.slot_list_append PySem.F.type_list_append mt_append (pv 7) (pa_cons (pe_call G_law_row (hr.mono (by decide)) rfl T.mg_law_row T.F_law_row.kp T.b_law_row .nil pass0 (pa_cons (pv 4) (pa_cons (pv 5) (pa_cons (pe_callB call_abs (by rfl) T.n_abs (by decide +kernel) (pa_cons (pv 8) pa_nil)) (pa_cons (pe_cmpR op_eq (pv 6) pe_int (nomark _)) pa_nil))))) pa_nil))))))))
      (pss_cons (ps_set (i := 9) sc_law.nd rfl (Or.inl rfl) (pe_lst (pa_cons (pe_callTy (show CallR _ _ (rListOf K) from call_list_of) (by rfl) T.n_list (by decide +kernel) (pa_cons (pv 4) pa_nil)) (pa_cons (pe_lc (own := [("row", 16)]) (g := gName 16) (tt := tYes) rfl sc_law.nd (pi_list (pv 7)) (blkOk_by (N := ["script", "p0", "p1", "size", "names", "hidden", "mode", "rows", "cell", "handed", "table", "orders", "lists", "order", "name", "k", "row"]) (sc := defScope s_law) (by decide +kernel)) (fun _ _ _ _ _ => (pg_name (i := 16) sc_law.nd rfl (Or.inl rfl))) (fun _ _ _ _ _ => pts_nil) (fun _ _ _ _ _ => (pe_callTy (show CallR _ _ (rListOf K) from call_list_of) (by rfl) T.n_list (by decide +kernel) (pa_cons (pv 16) pa_nil)))) pa_nil))))
      (pss_cons (ps_set (i := 10) sc_law.nd rfl (Or.inl rfl) (pe_make T.mk_Table G_Table_init (hr.mono (by decide)) rfl T.mg_Table T.bi .nil pass0 (pa_cons (pe_ix ix_list (pv 9) pe_int (fun _ _ => rfl)) (pa_cons (pe_ix ix_list (pv 9) pe_int (fun _ _ => rfl)) pa_nil))))
      (pss_cons (ps_set (i := 11) sc_law.nd rfl (Or.inl rfl) (pe_call G_law_ring_orders (hr.mono (by decide)) rfl T.mg_law_ring_orders T.F_law_ring_orders.kp T.b_law_ring_orders .nil pass0 (pa_cons (pv 4) (pa_cons (pv 5) (pa_cons (pe_slice sl_list (pv 2) (po_some pe_int) po_none) pa_nil)))))
      (pss_cons (ps_set (i := 12) sc_law.nd rfl (Or.inl rfl) (pe_op op_cat (pe_call G_law_other_lists (hr.mono (by decide)) rfl T.mg_law_other_lists T.F_law_other_lists.kp T.b_law_other_lists .nil pass0 (pa_cons (pv 4) (pa_cons (pv 5) (pa_cons (pe_slice sl_list (pv 2) (po_some pe_int) po_none) pa_nil)))) (pe_call G_law_other_lists (hr.mono (by decide)) rfl T.mg_law_other_lists T.F_law_other_lists.kp T.b_law_other_lists .nil pass0 (pa_cons (pv 4) (pa_cons (pv 4) (pa_cons (pe_slice sl_list (pv 2) (po_some pe_int) po_none) pa_nil))))))
      (pss_cons (ps_for PassesOwn.never rfl (pi_list (pe_op op_cat (pv 11) (pv 12))) (pg_name (i := 13) sc_law.nd rfl (Or.inl rfl))
        (pss_one (ps_if (pt_not (pt_val (pe_call G_law_ring_right (hr.mono (by decide)) rfl T.mg_law_ring_right T.F_law_ring_right.kp T.b_law_ring_right .nil pass0 (pa_cons (pv 10) (pa_cons (pv 4) (pa_cons (pv 7) (pa_cons (pv 13) pa_nil))))))) (pss_one (ps_ret pe_bl)) pss_nil)))
      (pss_cons (ps_for PassesOwn.never rfl (pi_list (pv 4)) (pg_name (i := 14) sc_law.nd rfl (Or.inl rfl))
        (pss_one (ps_if (pt_not (pt_val (pe_call G_law_cut_right (hr.mono (by decide)) rfl T.mg_law_cut_right T.F_law_cut_right.kp T.b_law_cut_right .nil pass0 (pa_cons (pv 10) (pa_cons (pv 4) (pa_cons (pv 7) (pa_cons (pv 11) (pa_cons (pv 14) pa_nil)))))))) (pss_one (ps_ret pe_bl)) pss_nil)))
      (pss_cons (ps_if (pt_cmpR (op_neD hr.units) (pe_call G_law_told_cut (hr.mono (by decide)) rfl T.mg_law_told_cut T.F_law_told_cut.kp T.b_law_told_cut .nil pass0 (pa_cons (pv 10) (pa_cons pe_str pa_nil))) (pe_tup (pa_cons pe_str (pa_cons pe_str (pa_cons (pe_lst (pa_cons pe_bl (pa_cons pe_bl (pa_cons pe_bl pa_nil)))) pa_nil)))) (nomark _)) (pss_one (ps_ret pe_bl)) pss_nil)
      (pss_cons (ps_if (pt_cmpR (op_neD hr.units) (pe_lc (own := [("row", 16)]) (g := gName 16) (tt := tYes) rfl sc_law.nd (pi_tup (pe_fld (pv 10) rfl)) (blkOk_by (N := ["script", "p0", "p1", "size", "names", "hidden", "mode", "rows", "cell", "handed", "table", "orders", "lists", "order", "name", "k", "row"]) (sc := defScope s_law) (by decide +kernel)) (fun _ _ _ _ _ => (pg_name (i := 16) sc_law.nd rfl (Or.inl rfl))) (fun _ _ _ _ _ => pts_nil) (fun _ _ _ _ _ => (pe_callTy (show CallR _ _ (rListOf K) from call_list_of) (by rfl) T.n_list (by decide +kernel) (pa_cons (pv 16) pa_nil)))) (pe_lc (own := [("row", 16)]) (g := gName 16) (tt := tYes) rfl sc_law.nd (pi_list (pv 7)) (blkOk_by (N := ["script", "p0", "p1", "size", "names", "hidden", "mode", "rows", "cell", "handed", "table", "orders", "lists", "order", "name", "k", "row"]) (sc := defScope s_law) (by decide +kernel)) (fun _ _ _ _ _ => (pg_name (i := 16) sc_law.nd rfl (Or.inl rfl))) (fun _ _ _ _ _ => pts_nil) (fun _ _ _ _ _ => (pe_call G_law_sorted (hr.mono (by decide)) rfl T.mg_law_sorted T.F_law_sorted.kp T.b_law_sorted .nil pass0 (pa_cons (pv 4) (pa_cons (pv 16) pa_nil))))) (nomark _)) (pss_one (ps_ret pe_bl)) pss_nil)
      (pss_one (ps_ret (pe_and (pe_cmpR (op_eqD hr.units) (pe_fld (pv 10) rfl) (pe_callTy (show CallR _ _ (rTupOf K) from call_tuple_of) (by rfl) T.n_tuple (by decide +kernel) (pa_cons (pv 4) pa_nil)) (nomark _)) (pe_one (pe_cmpR (op_eqD hr.units) (pv 9) (pe_lst (pa_cons (pv 4) (pa_cons (pv 7) pa_nil))) (nomark _))))))))))))))))))))), ?_⟩
    refine ⟨_, rfl, a, ns, 0, 60, rfl, hS, by decide, by decide, by decide, fun p0 q0 H1 s1 hp0 l0 P0 => ?_⟩
    refine ⟨_, rfl, a, ns, 1, 60, rfl, s1.seq hS, by decide, by decide, by decide, fun p1 q1 H2 s2 hp1 l1 P1 => ?_⟩
    have hS3 := (s1.trans s2).seq hS
    have hp0 := s2 _ _ hp0
    obtain ⟨x0, hx0, e0⟩ := atI_ok (xs := q0) (j := 0) (by omega) (by omega)
    obtain ⟨x1, hx1, e1⟩ := atI_ok (xs := q0) (j := 1) (by omega) (by omega)
    obtain ⟨x26, hx26, e26⟩ := atI_ok (xs := q0) (j := 26) (by omega) (by omega)
    obtain ⟨x27, hx27, e27⟩ := atI_ok (xs := q0) (j := 27) (by omega) (by omega)
    obtain ⟨y0, hy0, f0⟩ := atI_ok (xs := q1) (j := 0) (by omega) (by omega)
    clear s1 s2 hS
    refine ⟨_, rfl, p0, _, _, _, rfl, rfl, SqL.of hp0, e0, x0, rfl, fun sz H4 s4 hsz => ?_⟩
    refine ⟨_, rfl, _, rfl, p0, _, _, _, rfl, rfl, SqL.of (s4 _ _ hp0), e1, sz, x1, rfl, hsz, fun n cs H5 s5 hn hcl hN => ?_⟩
    have s5 := s4.trans s5
    have cl : cs.length ≤ 12 := by omega
    have nd := hN.1
    have hg : ∀ z ∈ cs, Good z := fun z hz => (hN.2 z hz).1
    have hst := not_in_cs hN
    have hok : ColsOk cs := ⟨hg, nd, cl⟩
    refine ⟨_, rfl, _, rfl, n, p0, cs, q0, 2, rfl, SqL.of hn, SqL.of (s5 _ _ hp0), cl, by decide, by omega, fun h hs H6 s6 _ hh hperm => ?_⟩
    have hn := s6 _ _ hn
    have s6 := s5.trans s6
    have hp0 := s6 _ _ hp0
    have hp1 := s6 _ _ hp1
    have hS6 := s6.seq hS3
    clear s4 s5 s6 hS3
    refine ⟨_, rfl, p0, _, _, _, rfl, rfl, SqL.of hp0, e27, .inl ⟨_, rfl, _, _, rfl, rfl, by show (0 : Int) < 3; decide, ?_⟩⟩
    have m0 := Int.emod_nonneg x26 (show (7 : Int) ≠ 0 by decide)
    have m1 := Int.emod_lt_of_pos x26 (show (0 : Int) < 7 by decide)
    obtain ⟨ys, ey, hyl⟩ := cut_ints ns
    have ndh : hs.Nodup := hperm.nodup_iff.mpr nd
    have hl12 : hs.length ≤ 12 := by rw [hperm.length_eq]; exact cl
    have okP : ∀ ms, RowOk hs ms → RowOk cs ms := fun ms h => ⟨h.1, fun y hy => hperm.mem_iff.mp (h.2 y hy)⟩
    have RW : ∀ {H8 : Hp} {D : Addr} {ts : List Addr} {rs : List (List Str)}, Rows H8 D ts cs rs → True := fun _ => trivial
    refine ⟨fun σ H9 => Same H6 H9 ∧ ∃ (r : Addr) (ts : List Addr) (rs : List (List Str)) (u8 : Option V), σ = [some (.ref a), some (.ref p0), some (.ref p1), some (.int (sz : Nat)), some (.ref n), some (.ref h), some (.int (x27 % 3)), some (.ref r), u8, none, none, none, none, none, none, none, none] ∧ H9 r = some (.lst (ts.map V.ref)) ∧ Lss .lst H9 ts rs ∧ (∀ x ∈ rs, RowOk cs x) ∧ rs.length ≤ 48, ?_, ?_⟩
    · refine ⟨_, rfl, p1, _, _, _, rfl, rfl, SqL.of hp1, f0, .inl ⟨_, rfl, _, _, rfl, rfl, by show (0 : Int) < 2; decide, rfl, _, rfl, ite2 (fun hb => ?_) (fun hb => ?_)⟩⟩
      · -- arcs
        have eN : (x26 % 7).toNat ≤ 6 := by omega
        refine ⟨_, rfl, p0, _, _, _, rfl, rfl, SqL.of hp0, e26, .inl ⟨_, rfl, _, _, rfl, rfl, by show (0 : Int) < 7; decide, ?_⟩⟩
        refine ⟨_, rfl, by omega, by omega, fun D hD => lc_range (n := (x26 % 7).toNat) (fun i H8 => Same H6 H8 ∧ ∃ (ts : List Addr) (rs : List (List Str)), H8 D = some (.lst (ts.map V.ref)) ∧ Rows H8 D ts cs rs ∧ rs.length = i) ⟨same_new hD, [], [], upd_same, ⟨Lss.nil, (fun t h => nomatch h), (fun t h => nomatch h)⟩, rfl⟩ ?_ ?_⟩
        · rintro i H8 hi ⟨s8, ts, rs, hd, hR, hl⟩
          obtain ⟨v, hv, e⟩ := atI_ok (xs := q1) (j := (1 : Int) + (0 + (i : Int))) (by omega) (by omega)
          refine ⟨rfl, _, rfl, _, rfl, _, rfl, _, _, rfl, rfl, p1, _, _, _, rfl, rfl, SqL.of (s8 _ _ hp1), e, h, hs, v, rfl, SqL.of (s8 _ _ hh), ndh, hl12, fun t ms H9 s9 ht0 ht okh => ?_⟩
          have ok := okP ms okh
          refine ⟨_, s9 _ _ hd, small_int (by rw [List.length_map, hR.1.len]; omega), fun x u e => ?_, ts ++ [t], rs ++ [ms], ?_, hR.push s9 ht (ne_of_none hd ht0).symm ok, by rw [List.length_append, hl]; rfl⟩
          · rw [upd_ne (ne_of_none e hD)]; exact s9 _ _ (s8 _ _ e)
          · rw [List.map_append]; exact upd_same
        · rintro H7 ⟨s7, ts, rs, hr7, hRw, hrl⟩
          obtain ⟨r, rfl⟩ : ∃ r, r = D := ⟨D, rfl⟩
          have hr0 := hD
          refine ⟨_, rfl, _, rfl, _, rfl, a, _, rfl, s7.seq hS6, fun c0 hc0 => ?_⟩
          rw [ey]
          have hrc : r ≠ c0 := ne_of_none hr7 hc0
          have s8 := same_new (o := .lst (ys.map V.int)) hc0
          refine ⟨c0, rfl, ⟨_, SqL.of upd_same⟩, for_it walk_list (fun i σ H8 => Same H6 H8 ∧ H8 c0 = some (.lst (ys.map V.int)) ∧ ∃ (ts : List Addr) (rs : List (List Str)) (u9 : Option V), σ = [some (.ref a), some (.ref p0), some (.ref p1), some (.int (sz : Nat)), some (.ref n), some (.ref h), some (.int (x27 % 3)), some (.ref r), u9, none, none, none, none, none, none, none, none] ∧ H8 r = some (.lst (ts.map V.ref)) ∧ Rows H8 r ts cs rs ∧ rs.length ≤ 6 + i)
            ⟨s7.trans s8, upd_same, ts, rs, none, rfl, s8 _ _ hr7, ⟨hRw.1.same s8, hRw.2⟩, by omega⟩ (fun i σ H8 _ q => SqL.of q.2.1) ?_ ?_⟩
          · rintro i x σ H80 H8 hi ⟨sm, hc8, ts, rs, u9, rfl, hr8, hRw, hrl⟩ ⟨rfl, hx⟩
            have hx : (ys.map V.int)[i]? = some x := hx
            have hi : i < ys.length := by rw [List.length_map] at hi; exact hi
            rw [List.getElem?_map, List.getElem?_eq_getElem hi] at hx
            cases hx
            refine ⟨_, rfl, .inl ⟨rfl, _, SqL.of hr8⟩, _, rfl, _, rfl, _, rfl, h, hs, _, rfl, SqL.of (sm _ _ hh), ndh, hl12, fun t ms H9 s9 ht0 ht okh => ?_⟩
            have ok := okP ms okh
            refine ⟨r, _, _, rfl, rfl, s9 _ _ hr8, small_int (by rw [List.length_map, hRw.1.len]; omega), fun x u e => ?_, ?_, ts ++ [t], rs ++ [ms], _, rfl, ?_, hRw.push s9 ht (ne_of_none hr8 ht0).symm ok, by rw [List.length_append]; show rs.length + 1 ≤ 6 + (i + 1); omega⟩
            · rw [upd_ne (ne_of_none e hr0)]; exact s9 _ _ (sm _ _ e)
            · rw [upd_ne hrc.symm]; exact s9 _ _ hc8
            · rw [List.map_append]; exact upd_same
          · rintro σ H8 ⟨sm, hc8, ts, rs, u9, rfl, hr8, hRw, hrl⟩
            have hrl : rs.length ≤ 48 := by
              have hrl : rs.length ≤ 6 + (ys.map V.int).length := hrl
              rw [List.length_map] at hrl; omega
            exact ⟨sm, r, ts, rs, _, rfl, hr8, hRw.1, hRw.2.2, hrl⟩
      · refine ⟨_, rfl, _, rfl, _, rfl, _, rfl, p0, _, _, _, rfl, rfl, SqL.of hp0, e26, .inl ⟨_, rfl, _, _, rfl, rfl, by show (0 : Int) < 7; decide, _, rfl, n, h, p0, cs, hs, q0, _, _, rfl, SqL.of hn, SqL.of hh, SqL.of hp0, by omega, m0, by omega, nd, cl, hperm, fun r ts rs H7 s7 hr0 hr7 hRw hrl => ?_⟩⟩
        refine ⟨_, rfl, _, rfl, _, rfl, a, _, rfl, s7.seq hS6, fun c0 hc0 => ?_⟩
        rw [ey]
        have hrc : r ≠ c0 := ne_of_none hr7 hc0
        have s8 := same_new (o := .lst (ys.map V.int)) hc0
        refine ⟨c0, rfl, ⟨_, SqL.of upd_same⟩, for_it walk_list (fun i σ H8 => Same H6 H8 ∧ H8 c0 = some (.lst (ys.map V.int)) ∧ ∃ (ts : List Addr) (rs : List (List Str)) (u9 : Option V), σ = [some (.ref a), some (.ref p0), some (.ref p1), some (.int (sz : Nat)), some (.ref n), some (.ref h), some (.int (x27 % 3)), some (.ref r), u9, none, none, none, none, none, none, none, none] ∧ H8 r = some (.lst (ts.map V.ref)) ∧ Rows H8 r ts cs rs ∧ rs.length ≤ 6 + i)
          ⟨s7.trans s8, upd_same, ts, rs, none, rfl, s8 _ _ hr7, ⟨hRw.1.same s8, hRw.2⟩, by omega⟩ (fun i σ H8 _ q => SqL.of q.2.1) ?_ ?_⟩
        · rintro i x σ H80 H8 hi ⟨sm, hc8, ts, rs, u9, rfl, hr8, hRw, hrl⟩ ⟨rfl, hx⟩
          have hx : (ys.map V.int)[i]? = some x := hx
          have hi : i < ys.length := by rw [List.length_map] at hi; exact hi
          rw [List.getElem?_map, List.getElem?_eq_getElem hi] at hx
          cases hx
          refine ⟨_, rfl, .inl ⟨rfl, _, SqL.of hr8⟩, _, rfl, _, rfl, _, rfl, _, rfl, _, rfl, rfl, n, h, cs, hs, _, _, rfl, SqL.of (sm _ _ hn), SqL.of (sm _ _ hh), nd, cl, hperm, fun t ms H9 s9 ht0 ht ok => ?_⟩
          refine ⟨r, _, _, rfl, rfl, s9 _ _ hr8, small_int (by rw [List.length_map, hRw.1.len]; omega), fun x u e => ?_, ?_, ts ++ [t], rs ++ [ms], _, rfl, ?_, hRw.push s9 ht (ne_of_none hr8 ht0).symm ok, by rw [List.length_append]; show rs.length + 1 ≤ 6 + (i + 1); omega⟩
          · rw [upd_ne (ne_of_none e hr0)]; exact s9 _ _ (sm _ _ e)
          · rw [upd_ne hrc.symm]; exact s9 _ _ hc8
          · rw [List.map_append]; exact upd_same
        · rintro σ H8 ⟨sm, hc8, ts, rs, u9, rfl, hr8, hRw, hrl⟩
          have hrl : rs.length ≤ 48 := by
            have hrl : rs.length ≤ 6 + (ys.map V.int).length := hrl
            rw [List.length_map] at hrl; omega
          exact ⟨sm, r, ts, rs, _, rfl, hr8, hRw.1, hRw.2.2, hrl⟩
    · rintro σ H9 ⟨sm, r, ts, rs, u8, rfl, hr, hR, hrows, hrl⟩
      have hn := sm _ _ hn
      have hh := sm _ _ hh
      have hp1 := sm _ _ hp1
      clear sm hp0 hS6
      -- handed
      refine ⟨_, rfl, n, _, rfl, .inl (SqL.of hn), fun l1 hl1 => ?_⟩
      obtain ⟨H10, eG, s1, L1⟩ := litR (xs := sv cs) hl1
      rw [← eG]
      refine ⟨_, rfl, r, rfl, ⟨_, SqL.of (s1 _ _ hr)⟩, fun D hD => lc_it walk_list (fun i H8 => LcL H10 D (rs.take i) H8) (lcl0 hD) (fun i H8 _ q => (s1.trans q.1).seq (SqL.of hr)) ?_ ?_⟩
      · rintro i x H80 H8 hi q8 ⟨rfl, hx⟩
        obtain ⟨c, hc, rfl⟩ := refs_get hx
        obtain ⟨y, hy, ho8⟩ := ((hR.same s1).same q8.1).get hc
        refine ⟨rfl, _, rfl, c, _, rfl, .inl (SqL.of ho8), fun a' ha' => ?_⟩
        rw [take_succ hy]
        exact q8.new hD ha' (by rw [List.length_take]; omega)
      rintro H11 ⟨s11, dts, hD11, hDl, _⟩
      rw [List.length_map, hR.len, List.take_length] at hDl
      refine ⟨by show 2 ≤ sizeLine; decide, fun hd hhd => ?_⟩
      obtain ⟨H12, eG2, s12, L8⟩ := litR (xs := [V.ref l1, .ref D]) hhd
      rw [← eG2]
      have s2 := s1.trans (s11.trans s12)
      have L1 := s12 _ _ (s11 _ _ L1)
      have LD := s12 _ _ hD11
      have hDl := hDl.same s12
      have hn := s2 _ _ hn
      have hh := s2 _ _ hh
      have hp1 := s2 _ _ hp1
      have hr := s2 _ _ hr
      have hR := hR.same s2
      clear s1 s11 s12 s2 eG eG2 hhd hD hl1
      have at0 : atI ([V.ref l1, .ref D] : List V) 0 = some (V.ref l1) := atI_nat (j := 0) rfl
      have at1 : atI ([V.ref l1, .ref D] : List V) 1 = some (V.ref D) := atI_nat (j := 1) rfl
      refine ⟨_, rfl, hd, _, _, _, rfl, rfl, SqL.of L8, at0, _, rfl, hd, _, _, _, rfl, rfl, SqL.of L8, at1, ?_⟩
      dsimp only [tNil]
      refine fun tt dx hx hdx hne => mk_table2 (.inl (SqL.of L1)) (SqL.of LD) hDl.lsa hok hrl (fun x hx => ⟨(hrows x hx).stray, by have := (hrows x hx).len; omega⟩) hx hdx hne fun H13 s13 tb => ⟨rfl, ?_⟩
      have L1 := s13 _ _ L1
      have LD := s13 _ _ LD
      have L8 := s13 _ _ L8
      have hDl := hDl.same s13
      have hn := s13 _ _ hn
      have hh := s13 _ _ hh
      have hp1 := s13 _ _ hp1
      have hr := s13 _ _ hr
      have hR := hR.same s13
      clear s13
      -- orders
      have eP : ∀ k : Nat, cutV (q1.map V.int) (some (k : Int)) none = (q1.drop k).map V.int := fun k => by rw [cut_dropG, List.map_drop]
      have l60 : q1.length = 60 := by omega
      refine ⟨_, rfl, _, rfl, _, rfl, _, rfl, ?_⟩
      dsimp only [tNoPart]
      refine slO (SqL.of hp1) fun b30 H14 s14 _ hb30 => ?_
      rw [show (30 : Int) = ((30 : Nat) : Int) from rfl, eP] at hb30
      refine ⟨n, h, b30, cs, hs, q1.drop 30, rfl, SqL.of (s14 _ _ hn), s14 _ _ hh, SqL.of hb30, by rw [List.length_drop]; omega, hok, hperm, fun O us lls H15 s15 _ hO hus hlls hll => ?_⟩
      have s35 := s14.trans s15
      have gn : GLn H15 n 12 := ⟨cs, s35 _ _ hn, hg, cl⟩
      have gh : GLn H15 h 12 := ⟨hs, s35 _ _ hh, (fun y hy => hg y (hperm.mem_iff.mp hy)), hl12⟩
      -- lists
      refine ⟨_, rfl, _, rfl, _, rfl, _, rfl, ?_⟩
      dsimp only [tNoPart]
      refine slO (SqL.of (s35 _ _ hp1)) fun b20 H16 s16 _ hb20 => ?_
      rw [show (20 : Int) = ((20 : Nat) : Int) from rfl, eP] at hb20
      refine ⟨n, h, b20, q1.drop 20, rfl, gn.same s16, gh.same s16, SqL.of hb20, by rw [List.length_drop]; omega, fun O1 us1 H17 s17 _ hO1 hl1 hg1 => ?_⟩
      have s57 := s16.trans s17
      refine ⟨_, rfl, _, rfl, _, rfl, _, rfl, ?_⟩
      dsimp only [tNoPart]
      refine slO (SqL.of ((s35.trans s57) _ _ hp1)) fun b21 H18 s18 _ hb21 => ?_
      rw [show (21 : Int) = ((21 : Nat) : Int) from rfl, eP] at hb21
      have s58 := s57.trans s18
      refine ⟨n, n, b21, q1.drop 21, rfl, gn.same s58, gn.same s58, SqL.of hb21, by rw [List.length_drop]; omega, fun O2 us2 H19 s19 _ hO2 hl2 hg2 => ?_⟩
      have s79 := s18.trans s19
      refine catO (s79 _ _ hO1) hO2 (by rw [List.length_map, List.length_map]; omega) fun L H20 s20 _ hL => ?_
      have s50 := s57.trans (s79.trans s20)
      have s30 := s35.trans s50
      have hO := s50 _ _ hO
      have hus := hus.same s50
      have hn := s30 _ _ hn
      have hr := s30 _ _ hr
      have hR := hR.same s30
      have tb := tb.same s30
      have L1 := s30 _ _ L1
      have LD := s30 _ _ LD
      have L8 := s30 _ _ L8
      have hDl := hDl.same s30
      have glA : ∀ t ∈ us ++ (us1 ++ us2), GLn H20 t 30 := by
        intro t ht
        rcases List.mem_append.mp ht with ht | ht
        · obtain ⟨i, hi, rfl⟩ := List.getElem_of_mem ht
          obtain ⟨y, hy, ho⟩ := hus.get (List.getElem?_eq_getElem hi)
          have py := (hlls y (List.mem_of_getElem? hy)).1
          exact ⟨y, ho, (fun z hz => hg z (py.mem_iff.mp hz)), by rw [py.length_eq]; omega⟩
        · rcases List.mem_append.mp ht with ht | ht
          · exact (hg1 t ht).same (s79.trans s20)
          · exact (hg2 t ht).same s20
      clear s14 s15 s16 s17 s18 s19 s20 s35 s57 s58 s79 s50 s30 gn gh hg1 hg2 hO1 hO2 hb30 hb20 hb21 hp1 hh
      -- the first loop
      refine ⟨_, rfl, _, rfl, catO hO hL (by rw [List.length_map, List.length_append, List.length_map, List.length_map, hus.len]; omega) fun W H21 s21 _ hW => ?_⟩
      rw [← List.map_append, ← List.map_append] at hW
      refine ⟨W, rfl, ⟨_, SqL.of hW⟩, for_it walk_list (fun i σ H8 => Same H21 H8 ∧ ∃ u13 : Option V, σ = [some (.ref a), some (.ref p0), some (.ref p1), some (.int (sz : Nat)), some (.ref n), some (.ref h), some (.int (x27 % 3)), some (.ref r), u8, some (.ref hd), some (.ref tt), some (.ref O), some (.ref L), u13, none, none, none]) ⟨Same.refl _, none, rfl⟩ (fun i σ H8 _ q => q.1.seq (SqL.of hW)) ?_ ?_⟩
      · rintro i x σ H80 H8 hi ⟨s8, u13, rfl⟩ ⟨rfl, hx⟩
        obtain ⟨t, ht, rfl⟩ := refs_get hx
        have s28 := s21.trans s8
        obtain ⟨ns', ho, gz, hl⟩ := (glA t (List.mem_of_getElem? ht)).same s28
        refine ⟨_, rfl, _, rfl, _, rfl, _, rfl, tt, n, r, t, cs, ns', ts, rs, rfl, tb.same s28, SqL.of (s28 _ _ hn), SqL.of (s28 _ _ hr), hR.same s28, ho, gz, by omega, hrl, hok, fun H23 s23 => ⟨_, rfl, iteF ⟨s8.trans s23, _, rfl⟩⟩⟩
      rintro σ H22 ⟨s22, u13, rfl⟩
      have s28 := s21.trans s22
      have hn := s28 _ _ hn
      have hO := s28 _ _ hO
      have hus := hus.same s28
      have hr := s28 _ _ hr
      have hR := hR.same s28
      have tb := tb.same s28
      have L1 := s28 _ _ L1
      have LD := s28 _ _ LD
      have L8 := s28 _ _ L8
      have hDl := hDl.same s28
      clear s21 s22 s28 glA hW hL
      -- the second loop
      refine ⟨_, rfl, n, rfl, ⟨_, SqL.of hn⟩, for_it walk_list (fun i σ H8 => Same H22 H8 ∧ ∃ u14 : Option V, σ = [some (.ref a), some (.ref p0), some (.ref p1), some (.int (sz : Nat)), some (.ref n), some (.ref h), some (.int (x27 % 3)), some (.ref r), u8, some (.ref hd), some (.ref tt), some (.ref O), some (.ref L), u13, u14, none, none]) ⟨Same.refl _, none, rfl⟩ (fun i σ H8 _ q => q.1.seq (SqL.of hn)) ?_ ?_⟩
      · rintro i x σ H80 H8 hi ⟨s8, u14, rfl⟩ ⟨rfl, hx⟩
        obtain ⟨z, hz, rfl⟩ := sv_get hx
        refine ⟨_, rfl, _, rfl, _, rfl, _, rfl, _, rfl, tt, n, r, O, z, cs, ts, rs, us, lls, rfl, tb.same s8, SqL.of (s8 _ _ hn), SqL.of (s8 _ _ hr), hR.same s8, SqL.of (s8 _ _ hO), hus.same s8, hlls, List.mem_of_getElem? hz, hok, hrl, by omega, fun H23 s23 => ⟨_, rfl, iteF ⟨s8.trans s23, _, rfl⟩⟩⟩
      rintro σ H24 ⟨s24, u14, rfl⟩
      have hn := s24 _ _ hn
      have hr := s24 _ _ hr
      have hR := hR.same s24
      have tb := tb.same s24
      have L1 := s24 _ _ L1
      have LD := s24 _ _ LD
      have L8 := s24 _ _ L8
      have hDl := hDl.same s24
      clear s24 hO hus
      -- a stranger
      refine ⟨_, rfl, tt, "stranger", cs, rs, rfl, tb, by decide, hok, hrl, fun hm => absurd hm hst, fun _ t1 l2 H25 s25 ht1 hl2 => ?_⟩
      refine ⟨by show 3 ≤ sizeLine; decide, fun l3 hl3 => ?_⟩
      obtain ⟨H26, eG, s26, L3⟩ := litR (xs := [V.bl true, .bl true, .bl false]) hl3
      rw [← eG]
      refine ⟨by show 3 ≤ sizeLine; decide, fun t2 ht2 => ?_⟩
      have s27 := same_new (o := .tup [V.str "unknown", .str "stranger", .ref l3]) ht2
      have T2 := upd_same (H := H26) (a := t2) (o := .tup [V.str "unknown", .str "stranger", .ref l3])
      generalize upd H26 t2 _ = H27 at s27 T2 ⊢
      have s57 := s26.trans s27
      have s28 := s25.trans s57
      refine ⟨.tuple [.str "unknown", .str "stranger", .list [.bool true, .bool true, .bool false]], .tuple [.str "unknown", .str "stranger", .list [.bool true, .bool true, .bool false]],
        .tup (SqT.of (s57 _ _ ht1)) (.cons (.str _) (.cons (.str _) (.cons (.lst (SqL.of (s57 _ _ hl2)) (dpAll_bl [true, true, false])) .nil))),
        .tup (SqT.of T2) (.cons (.str _) (.cons (.str _) (.cons (.lst (SqL.of (s27 _ _ L3)) (dpAll_bl [true, true, false])) .nil))), by decide +kernel, by decide +kernel, _, rfl, ifF (by decide +kernel) ?_⟩
      have hn := s28 _ _ hn
      have hr := s28 _ _ hr
      have hR := hR.same s28
      have tb := tb.same s28
      have L1 := s28 _ _ L1
      have LD := s28 _ _ LD
      have L8 := s28 _ _ L8
      have hDl := hDl.same s28
      clear s25 s26 s27 s57 s28 eG T2 L3 ht1 hl2
      obtain ⟨dt, ct, rt, tus, htp, hct, hrt, htl⟩ := id tb
      have gr : ∀ r ∈ rs, ∀ z ∈ r, Good z := fun r hr => (hrows r hr).good hg
      have gc : ∀ r ∈ rs.map (canon cs), ∀ z ∈ r, Good z := fun r hr z hz => by
        obtain ⟨x, _, rfl⟩ := List.mem_map.mp hr
        exact hg z (mem_canon.mp hz).1
      have dc : PyData.depthAll (pdr (rs.map (canon cs))) ≤ 20 := Nat.le_trans (depth_pdr _) (by decide)
      have lrc : (rs.map (canon cs)).length ≤ 48 := by rw [List.length_map]; exact hrl
      refine ⟨_, rfl, _, _, _, _, _, rfl, htp, T.cl_Table, T.n_Table_rows, fldsT_rows _ _, rt, rfl, ⟨_, SqT.of hrt⟩, fun D1 hD1 => lc_it walk_tup (fun i H8 => LcL H27 D1 ((rs.map (canon cs)).take i) H8) (lcl0 hD1) (fun i H8 _ q => q.1.tup (SqT.of hrt)) ?_ ?_⟩
      · rintro i x H80 H8 hi q8 ⟨rfl, hx⟩
        obtain ⟨c, hc, rfl⟩ := refs_get hx
        obtain ⟨y, hy, ho8⟩ := (htl.same q8.1).get hc
        refine ⟨rfl, _, rfl, c, _, rfl, .inr (SqT.of ho8), fun a' ha' => ?_⟩
        rw [take_succ hy]
        exact q8.new hD1 ha' (by rw [List.length_take]; omega)
      rintro H40 ⟨s40, vs1, hV1, hvl1, _⟩
      rw [List.length_map, htl.len, List.take_length] at hvl1
      refine ⟨_, rfl, r, rfl, ⟨_, SqL.of (s40 _ _ hr)⟩, fun D2 hD2 => lc_it walk_list (fun i H8 => LcL H40 D2 ((rs.map (canon cs)).take i) H8) (lcl0 hD2) (fun i H8 _ q => (s40.trans q.1).seq (SqL.of hr)) ?_ ?_⟩
      · rintro i x H80 H8 hi q8 ⟨rfl, hx⟩
        obtain ⟨c, hc, rfl⟩ := refs_get hx
        obtain ⟨y, hy, ho8⟩ := ((hR.same s40).same q8.1).get hc
        have hy2 : (rs.map (canon cs))[i]? = some (canon cs y) := by rw [List.getElem?_map, hy]; rfl
        refine ⟨rfl, _, rfl, _, rfl, n, c, cs, y, rfl, (s40.trans q8.1).seq (SqL.of hn), SqL.of ho8, by omega, fun a' H9 s9 ha0 ha => ?_⟩
        have hne : a' ≠ D2 := by
          obtain ⟨_, xs, hd2, _⟩ := q8
          exact (ne_of_none hd2 ha0).symm
        rw [take_succ hy2]
        exact q8.push hD2 s9 ha hne (by rw [List.length_take]; omega)
      rintro H42 ⟨s42, vs2, hV2, hvl2, _⟩
      have el2 : (ts.map V.ref).length = (rs.map (canon cs)).length := by rw [List.length_map, List.length_map, hR.len]
      rw [el2, List.take_length] at hvl2
      refine ⟨.list (pdr (rs.map (canon cs))), .list (pdr (rs.map (canon cs))), .lst (SqL.of (s42 _ _ hV1)) (dp_pdr (hvl1.same s42)), .lst (SqL.of hV2) (dp_pdr hvl2), shapedL (lay_pdr gc) dc, shapedL (lay_pdr gc) dc, _, rfl, ifF (by rw [eqvL (lay_pdr gc)]; rfl) ?_⟩
      have s43 := s40.trans s42
      have htp3 := s43 _ _ htp
      have okc : ∀ z ∈ cs, Okz z := fun z hz => okz_good (hg z hz)
      refine ⟨_, rfl, _, _, _, _, _, rfl, htp3, T.cl_Table, T.n_Table_columns, fldsT_columns _ _, _, rfl, ?_⟩
      dsimp only [tNil]
      refine tupO (K := K) (.inl (SqL.of (s43 _ _ hn))) fun a5 H43 s44 ha5 => ?_
      have s45 := s43.trans s44
      refine ⟨.tuple (pd cs), .tuple (pd cs), .tup (xs := sv cs) (SqT.of (s45 _ _ hct)) (dp_pd _), .tup (xs := sv cs) ha5 (dp_pd _), shaped_pdT okc, shaped_pdT okc, ?_⟩
      refine ⟨_, rfl, ifT (by rw [eqv_T]; exact decide_eq_true rfl) ?_⟩
      refine ⟨_, rfl, _, rfl, _, rfl, by show 2 ≤ sizeLine; decide, fun m4 hm4 => ?_⟩
      have q4 := same_new (o := .lst [V.ref n, .ref r]) hm4
      have M4 := upd_same (H := H43) (a := m4) (o := .lst [V.ref n, .ref r])
      generalize upd H43 m4 _ = H46 at q4 M4 ⊢
      have f4 := s45.trans q4
      have lay : PyData.canLayAll0 [.list (pd cs), .list (pdr rs)] = true := layc (layL (lay_all okc)) (layc (layL (lay_pdr gr)) rfl)
      have dep : PyData.depthAll [.list (pd cs), .list (pdr rs)] ≤ 20 := by
        have a := depth_pd cs
        have b := depth_pdr rs
        simp only [PyData.depthAll, PyData.depth]
        omega
      refine ⟨.list [.list (pd cs), .list (pdr rs)], .list [.list (pd cs), .list (pdr rs)],
        .lst (xs := [V.ref l1, .ref D]) (SqL.of (f4 _ _ L8)) (.cons (.lst (xs := sv cs) (SqL.of (f4 _ _ L1)) (dp_pd cs)) (.cons (.lst (SqL.of (f4 _ _ LD)) (dp_pdr (hDl.same f4))) .nil)),
        .lst (xs := [V.ref n, .ref r]) (SqL.of M4) (.cons (.lst (xs := sv cs) (SqL.of (f4 _ _ hn)) (dp_pd cs)) (.cons (.lst (SqL.of (f4 _ _ hr)) (dp_pdr (hR.same f4))) .nil)),
        shapedL lay dep, shapedL lay dep, ?_⟩
      rw [eqvL lay]
      exact kk _
end
end My
set_option maxRecDepth 100000
set_option maxHeartbeats 4000000
set_option exponentiation.threshold 10000
namespace My
open PySem L2
theorem all_mk {l : PySem.W.OpenLaw} {w : World} {K : PySem.W.Frag} {h : Heap} {mg : Str → Option Value} {fa C_Table C_Round C_RowsError C_Unknown C_Impossible C_UnknownColumn a_UnknownColumn_init a_is_name a_first_bad_name a_first_stray a_order_fault a_count_runs a_runs_of a_check_order a_broken a_is_layout a_check_columns a_check_known a_check_rows a_Table_in_order a_Table_inside_out a_Table_init a_Table_only a_Table_turned a_Round_init a_Round_cut a_is_ring_layout a_is_unbroken_round a_cut_table a_law_cell a_law_pool a_law_size a_law_names a_law_order a_law_row a_law_rows a_law_all_orders a_law_sorted a_law_is_order a_law_arc a_law_on_ring a_law_is_ring_layout a_law_round_from a_law_turned_row a_law_cut_rows a_law_ring_orders a_law_told_cut a_law_cut_right a_law_ring_right a_law_other_lists a_law e_Table_init : Addr} (X : K.In h) (G : h.Ns mainGlobals mg) (hfa : mg "law" = some (.ref fa))
    {cd_UnknownColumn : ClassData}
    {oc_UnknownColumn_init kV_UnknownColumn_init dc_UnknownColumn_init pm_UnknownColumn_init ct_UnknownColumn_init oa_UnknownColumn_init ob_UnknownColumn_init : Value} {od_UnknownColumn_init an_UnknownColumn_init da_UnknownColumn_init db_UnknownColumn_init : Option Addr} {sl_UnknownColumn_init la_UnknownColumn_init lb_UnknownColumn_init : Array (Option Value)} {cda_UnknownColumn_init cc_UnknownColumn_init : Addr} {vs_UnknownColumn_init : Array Value} {fl_UnknownColumn_init : Str} {tf_UnknownColumn_init : Tok}
    {tk_LONGEST_NAME : Tok}
    {tk_Table_MOST_COLUMNS : Tok}
    {tk_Table_MOST_ROWS : Tok}
    {oc_is_name kV_is_name dc_is_name pm_is_name cd_is_name ct_is_name : Value} {od_is_name an_is_name : Option Addr} {sl_is_name : Array (Option Value)}
    {oc_first_bad_name kV_first_bad_name dc_first_bad_name pm_first_bad_name cd_first_bad_name ct_first_bad_name : Value} {od_first_bad_name an_first_bad_name : Option Addr} {sl_first_bad_name : Array (Option Value)}
    {oc_first_stray kV_first_stray dc_first_stray pm_first_stray cd_first_stray ct_first_stray : Value} {od_first_stray an_first_stray : Option Addr} {sl_first_stray : Array (Option Value)}
    {oc_order_fault kV_order_fault dc_order_fault pm_order_fault cd_order_fault ct_order_fault : Value} {od_order_fault an_order_fault : Option Addr} {sl_order_fault : Array (Option Value)}
    {oc_count_runs kV_count_runs dc_count_runs pm_count_runs cd_count_runs ct_count_runs : Value} {od_count_runs an_count_runs : Option Addr} {sl_count_runs : Array (Option Value)}
    {oc_runs_of kV_runs_of dc_runs_of pm_runs_of cd_runs_of ct_runs_of : Value} {od_runs_of an_runs_of : Option Addr} {sl_runs_of : Array (Option Value)}
    {oc_check_order kV_check_order dc_check_order pm_check_order cd_check_order ct_check_order : Value} {od_check_order an_check_order : Option Addr} {sl_check_order : Array (Option Value)}
    {oc_broken kV_broken dc_broken pm_broken cd_broken ct_broken : Value} {od_broken an_broken : Option Addr} {sl_broken : Array (Option Value)}
    {oc_is_layout kV_is_layout dc_is_layout pm_is_layout cd_is_layout ct_is_layout : Value} {od_is_layout an_is_layout : Option Addr} {sl_is_layout : Array (Option Value)}
    {oc_check_columns kV_check_columns dc_check_columns pm_check_columns cd_check_columns ct_check_columns : Value} {od_check_columns an_check_columns : Option Addr} {sl_check_columns : Array (Option Value)}
    {oc_check_known kV_check_known dc_check_known pm_check_known cd_check_known ct_check_known : Value} {od_check_known an_check_known : Option Addr} {sl_check_known : Array (Option Value)}
    {oc_check_rows kV_check_rows dc_check_rows pm_check_rows cd_check_rows ct_check_rows : Value} {od_check_rows an_check_rows : Option Addr} {sl_check_rows : Array (Option Value)}
    {oc_Table_in_order kV_Table_in_order dc_Table_in_order pm_Table_in_order cd_Table_in_order ct_Table_in_order : Value} {od_Table_in_order an_Table_in_order : Option Addr} {sl_Table_in_order : Array (Option Value)}
    {oc_Table_inside_out kV_Table_inside_out dc_Table_inside_out pm_Table_inside_out cd_Table_inside_out ct_Table_inside_out : Value} {od_Table_inside_out an_Table_inside_out : Option Addr} {sl_Table_inside_out : Array (Option Value)}
    {oc_Table_init kV_Table_init dc_Table_init pm_Table_init cd_Table_init ct_Table_init : Value} {od_Table_init an_Table_init : Option Addr} {sl_Table_init : Array (Option Value)}
    {TD_Table_init : Addr} {to_Table_init : Option Addr} {tn_Table_init : Nat} {ts_Table_init : Array (Option Value)}
    {oc_Table_only kV_Table_only dc_Table_only pm_Table_only cd_Table_only ct_Table_only : Value} {od_Table_only an_Table_only : Option Addr} {sl_Table_only : Array (Option Value)}
    {oc_Table_turned kV_Table_turned dc_Table_turned pm_Table_turned cd_Table_turned ct_Table_turned : Value} {od_Table_turned an_Table_turned : Option Addr} {sl_Table_turned : Array (Option Value)}
    {oc_Round_init kV_Round_init dc_Round_init pm_Round_init cd_Round_init ct_Round_init : Value} {od_Round_init an_Round_init : Option Addr} {sl_Round_init : Array (Option Value)}
    {oc_Round_cut kV_Round_cut dc_Round_cut pm_Round_cut cd_Round_cut ct_Round_cut : Value} {od_Round_cut an_Round_cut : Option Addr} {sl_Round_cut : Array (Option Value)}
    {oc_is_ring_layout kV_is_ring_layout dc_is_ring_layout pm_is_ring_layout cd_is_ring_layout ct_is_ring_layout : Value} {od_is_ring_layout an_is_ring_layout : Option Addr} {sl_is_ring_layout : Array (Option Value)}
    {oc_is_unbroken_round kV_is_unbroken_round dc_is_unbroken_round pm_is_unbroken_round cd_is_unbroken_round ct_is_unbroken_round : Value} {od_is_unbroken_round an_is_unbroken_round : Option Addr} {sl_is_unbroken_round : Array (Option Value)}
    {oc_cut_table kV_cut_table dc_cut_table pm_cut_table cd_cut_table ct_cut_table : Value} {od_cut_table an_cut_table : Option Addr} {sl_cut_table : Array (Option Value)}
    {oc_law_cell kV_law_cell dc_law_cell pm_law_cell cd_law_cell ct_law_cell : Value} {od_law_cell an_law_cell : Option Addr} {sl_law_cell : Array (Option Value)}
    {oc_law_pool kV_law_pool dc_law_pool pm_law_pool cd_law_pool ct_law_pool : Value} {od_law_pool an_law_pool : Option Addr} {sl_law_pool : Array (Option Value)}
    {oc_law_size kV_law_size dc_law_size pm_law_size cd_law_size ct_law_size : Value} {od_law_size an_law_size : Option Addr} {sl_law_size : Array (Option Value)}
    {oc_law_names kV_law_names dc_law_names pm_law_names cd_law_names ct_law_names : Value} {od_law_names an_law_names : Option Addr} {sl_law_names : Array (Option Value)}
    {oc_law_order kV_law_order dc_law_order pm_law_order cd_law_order ct_law_order : Value} {od_law_order an_law_order : Option Addr} {sl_law_order : Array (Option Value)}
    {oc_law_row kV_law_row dc_law_row pm_law_row cd_law_row ct_law_row : Value} {od_law_row an_law_row : Option Addr} {sl_law_row : Array (Option Value)}
    {oc_law_rows kV_law_rows dc_law_rows pm_law_rows cd_law_rows ct_law_rows : Value} {od_law_rows an_law_rows : Option Addr} {sl_law_rows : Array (Option Value)}
    {oc_law_all_orders kV_law_all_orders dc_law_all_orders pm_law_all_orders cd_law_all_orders ct_law_all_orders : Value} {od_law_all_orders an_law_all_orders : Option Addr} {sl_law_all_orders : Array (Option Value)}
    {oc_law_sorted kV_law_sorted dc_law_sorted pm_law_sorted cd_law_sorted ct_law_sorted : Value} {od_law_sorted an_law_sorted : Option Addr} {sl_law_sorted : Array (Option Value)}
    {oc_law_is_order kV_law_is_order dc_law_is_order pm_law_is_order cd_law_is_order ct_law_is_order : Value} {od_law_is_order an_law_is_order : Option Addr} {sl_law_is_order : Array (Option Value)}
    {oc_law_arc kV_law_arc dc_law_arc pm_law_arc cd_law_arc ct_law_arc : Value} {od_law_arc an_law_arc : Option Addr} {sl_law_arc : Array (Option Value)}
    {oc_law_on_ring kV_law_on_ring dc_law_on_ring pm_law_on_ring cd_law_on_ring ct_law_on_ring : Value} {od_law_on_ring an_law_on_ring : Option Addr} {sl_law_on_ring : Array (Option Value)}
    {oc_law_is_ring_layout kV_law_is_ring_layout dc_law_is_ring_layout pm_law_is_ring_layout cd_law_is_ring_layout ct_law_is_ring_layout : Value} {od_law_is_ring_layout an_law_is_ring_layout : Option Addr} {sl_law_is_ring_layout : Array (Option Value)}
    {oc_law_round_from kV_law_round_from dc_law_round_from pm_law_round_from cd_law_round_from ct_law_round_from : Value} {od_law_round_from an_law_round_from : Option Addr} {sl_law_round_from : Array (Option Value)}
    {oc_law_turned_row kV_law_turned_row dc_law_turned_row pm_law_turned_row cd_law_turned_row ct_law_turned_row : Value} {od_law_turned_row an_law_turned_row : Option Addr} {sl_law_turned_row : Array (Option Value)}
    {oc_law_cut_rows kV_law_cut_rows dc_law_cut_rows pm_law_cut_rows cd_law_cut_rows ct_law_cut_rows : Value} {od_law_cut_rows an_law_cut_rows : Option Addr} {sl_law_cut_rows : Array (Option Value)}
    {oc_law_ring_orders kV_law_ring_orders dc_law_ring_orders pm_law_ring_orders cd_law_ring_orders ct_law_ring_orders : Value} {od_law_ring_orders an_law_ring_orders : Option Addr} {sl_law_ring_orders : Array (Option Value)}
    {oc_law_told_cut kV_law_told_cut dc_law_told_cut pm_law_told_cut cd_law_told_cut ct_law_told_cut : Value} {od_law_told_cut an_law_told_cut : Option Addr} {sl_law_told_cut : Array (Option Value)}
    {oc_law_cut_right kV_law_cut_right dc_law_cut_right pm_law_cut_right cd_law_cut_right ct_law_cut_right : Value} {od_law_cut_right an_law_cut_right : Option Addr} {sl_law_cut_right : Array (Option Value)}
    {oc_law_ring_right kV_law_ring_right dc_law_ring_right pm_law_ring_right cd_law_ring_right ct_law_ring_right : Value} {od_law_ring_right an_law_ring_right : Option Addr} {sl_law_ring_right : Array (Option Value)}
    {oc_law_other_lists kV_law_other_lists dc_law_other_lists pm_law_other_lists cd_law_other_lists ct_law_other_lists : Value} {od_law_other_lists an_law_other_lists : Option Addr} {sl_law_other_lists : Array (Option Value)}
    {oc_law kV_law dc_law pm_law cd_law ct_law : Value} {od_law an_law : Option Addr} {sl_law : Array (Option Value)}
    (xmg_Table : PySem.W.nsIn K mainGlobals "Table" = some (some (.ref C_Table)))
    (xmg_Round : PySem.W.nsIn K mainGlobals "Round" = some (some (.ref C_Round)))
    (xmg_RowsError : PySem.W.nsIn K mainGlobals "RowsError" = some (some (.ref C_RowsError)))
    (xmg_Unknown : PySem.W.nsIn K mainGlobals "Unknown" = some (some (.ref C_Unknown)))
    (xmg_Impossible : PySem.W.nsIn K mainGlobals "Impossible" = some (some (.ref C_Impossible)))
    (xmg_UnknownColumn : PySem.W.nsIn K mainGlobals "UnknownColumn" = some (some (.ref C_UnknownColumn)))
    (am_UnknownColumn_init : PySem.W.findIn K (.ref C_UnknownColumn) "__init__" = some (some (.ref a_UnknownColumn_init)))
    (xmg_LONGEST_NAME : PySem.W.nsIn K mainGlobals "LONGEST_NAME" = some (some (.int 8 tk_LONGEST_NAME)))
    (xmg_is_name : PySem.W.nsIn K mainGlobals "is_name" = some (some (.ref a_is_name)))
    (xmg_first_bad_name : PySem.W.nsIn K mainGlobals "first_bad_name" = some (some (.ref a_first_bad_name)))
    (xmg_first_stray : PySem.W.nsIn K mainGlobals "first_stray" = some (some (.ref a_first_stray)))
    (xmg_order_fault : PySem.W.nsIn K mainGlobals "order_fault" = some (some (.ref a_order_fault)))
    (xmg_count_runs : PySem.W.nsIn K mainGlobals "count_runs" = some (some (.ref a_count_runs)))
    (xmg_runs_of : PySem.W.nsIn K mainGlobals "runs_of" = some (some (.ref a_runs_of)))
    (xmg_check_order : PySem.W.nsIn K mainGlobals "check_order" = some (some (.ref a_check_order)))
    (xmg_broken : PySem.W.nsIn K mainGlobals "broken" = some (some (.ref a_broken)))
    (xmg_is_layout : PySem.W.nsIn K mainGlobals "is_layout" = some (some (.ref a_is_layout)))
    (xmg_check_columns : PySem.W.nsIn K mainGlobals "check_columns" = some (some (.ref a_check_columns)))
    (xmg_check_known : PySem.W.nsIn K mainGlobals "check_known" = some (some (.ref a_check_known)))
    (xmg_check_rows : PySem.W.nsIn K mainGlobals "_check_rows" = some (some (.ref a_check_rows)))
    (am_Table_in_order : PySem.W.findIn K (.ref C_Table) "_in_order" = some (some (.ref a_Table_in_order)))
    (am_Table_inside_out : PySem.W.findIn K (.ref C_Table) "_inside_out" = some (some (.ref a_Table_inside_out)))
    (am_Table_init : PySem.W.findIn K (.ref C_Table) "__init__" = some (some (.ref a_Table_init)))
    (am_Table_only : PySem.W.findIn K (.ref C_Table) "only" = some (some (.ref a_Table_only)))
    (am_Table_turned : PySem.W.findIn K (.ref C_Table) "turned" = some (some (.ref a_Table_turned)))
    (am_Round_init : PySem.W.findIn K (.ref C_Round) "__init__" = some (some (.ref a_Round_init)))
    (am_Round_cut : PySem.W.findIn K (.ref C_Round) "cut" = some (some (.ref a_Round_cut)))
    (xmg_is_ring_layout : PySem.W.nsIn K mainGlobals "is_ring_layout" = some (some (.ref a_is_ring_layout)))
    (xmg_is_unbroken_round : PySem.W.nsIn K mainGlobals "_is_unbroken_round" = some (some (.ref a_is_unbroken_round)))
    (xmg_cut_table : PySem.W.nsIn K mainGlobals "cut_table" = some (some (.ref a_cut_table)))
    (xmg_law_cell : PySem.W.nsIn K mainGlobals "_law_cell" = some (some (.ref a_law_cell)))
    (xmg_law_pool : PySem.W.nsIn K mainGlobals "_law_pool" = some (some (.ref a_law_pool)))
    (xmg_law_size : PySem.W.nsIn K mainGlobals "_law_size" = some (some (.ref a_law_size)))
    (xmg_law_names : PySem.W.nsIn K mainGlobals "_law_names" = some (some (.ref a_law_names)))
    (xmg_law_order : PySem.W.nsIn K mainGlobals "_law_order" = some (some (.ref a_law_order)))
    (xmg_law_row : PySem.W.nsIn K mainGlobals "_law_row" = some (some (.ref a_law_row)))
    (xmg_law_rows : PySem.W.nsIn K mainGlobals "_law_rows" = some (some (.ref a_law_rows)))
    (xmg_law_all_orders : PySem.W.nsIn K mainGlobals "_law_all_orders" = some (some (.ref a_law_all_orders)))
    (xmg_law_sorted : PySem.W.nsIn K mainGlobals "_law_sorted" = some (some (.ref a_law_sorted)))
    (xmg_law_is_order : PySem.W.nsIn K mainGlobals "_law_is_order" = some (some (.ref a_law_is_order)))
    (xmg_law_arc : PySem.W.nsIn K mainGlobals "_law_arc" = some (some (.ref a_law_arc)))
    (xmg_law_on_ring : PySem.W.nsIn K mainGlobals "_law_on_ring" = some (some (.ref a_law_on_ring)))
    (xmg_law_is_ring_layout : PySem.W.nsIn K mainGlobals "_law_is_ring_layout" = some (some (.ref a_law_is_ring_layout)))
    (xmg_law_round_from : PySem.W.nsIn K mainGlobals "_law_round_from" = some (some (.ref a_law_round_from)))
    (xmg_law_turned_row : PySem.W.nsIn K mainGlobals "_law_turned_row" = some (some (.ref a_law_turned_row)))
    (xmg_law_cut_rows : PySem.W.nsIn K mainGlobals "_law_cut_rows" = some (some (.ref a_law_cut_rows)))
    (xmg_law_ring_orders : PySem.W.nsIn K mainGlobals "_law_ring_orders" = some (some (.ref a_law_ring_orders)))
    (xmg_law_told_cut : PySem.W.nsIn K mainGlobals "_law_told_cut" = some (some (.ref a_law_told_cut)))
    (xmg_law_cut_right : PySem.W.nsIn K mainGlobals "_law_cut_right" = some (some (.ref a_law_cut_right)))
    (xmg_law_ring_right : PySem.W.nsIn K mainGlobals "_law_ring_right" = some (some (.ref a_law_ring_right)))
    (xmg_law_other_lists : PySem.W.nsIn K mainGlobals "_law_other_lists" = some (some (.ref a_law_other_lists)))
    (xmg_law : PySem.W.nsIn K mainGlobals "law" = some (some (.ref a_law)))
    (if_Table_in_order : PySem.W.isFn K (.ref a_Table_in_order) = true)
    (if_Table_inside_out : PySem.W.isFn K (.ref a_Table_inside_out) = true)
    (if_Table_init : PySem.W.isFn K (.ref a_Table_init) = true)
    (if_Table_only : PySem.W.isFn K (.ref a_Table_only) = true)
    (if_Table_turned : PySem.W.isFn K (.ref a_Table_turned) = true)
    (if_Round_init : PySem.W.isFn K (.ref a_Round_init) = true)
    (if_Round_cut : PySem.W.isFn K (.ref a_Round_cut) = true)
    (l_UnknownColumn_init : K.lookup a_UnknownColumn_init = some ⟨oc_UnknownColumn_init, od_UnknownColumn_init, .func (PySem.W.ksFn "__init__" "UnknownColumn.__init__" (defArgs s_UnknownColumn_init) (defBody s_UnknownColumn_init) (defScope s_UnknownColumn_init) .none kV_UnknownColumn_init dc_UnknownColumn_init pm_UnknownColumn_init an_UnknownColumn_init (.ref cda_UnknownColumn_init) ct_UnknownColumn_init cc_UnknownColumn_init), sl_UnknownColumn_init⟩)
    (l_is_name : K.lookup a_is_name = some ⟨oc_is_name, od_is_name, .func (PySem.W.fnOf "is_name" "is_name" (defArgs s_is_name) (defBody s_is_name) (defScope s_is_name) .none kV_is_name dc_is_name pm_is_name an_is_name cd_is_name ct_is_name), sl_is_name⟩)
    (l_first_bad_name : K.lookup a_first_bad_name = some ⟨oc_first_bad_name, od_first_bad_name, .func (PySem.W.fnOf "first_bad_name" "first_bad_name" (defArgs s_first_bad_name) (defBody s_first_bad_name) (defScope s_first_bad_name) .none kV_first_bad_name dc_first_bad_name pm_first_bad_name an_first_bad_name cd_first_bad_name ct_first_bad_name), sl_first_bad_name⟩)
    (l_first_stray : K.lookup a_first_stray = some ⟨oc_first_stray, od_first_stray, .func (PySem.W.fnOf "first_stray" "first_stray" (defArgs s_first_stray) (defBody s_first_stray) (defScope s_first_stray) .none kV_first_stray dc_first_stray pm_first_stray an_first_stray cd_first_stray ct_first_stray), sl_first_stray⟩)
    (l_order_fault : K.lookup a_order_fault = some ⟨oc_order_fault, od_order_fault, .func (PySem.W.fnOf "order_fault" "order_fault" (defArgs s_order_fault) (defBody s_order_fault) (defScope s_order_fault) .none kV_order_fault dc_order_fault pm_order_fault an_order_fault cd_order_fault ct_order_fault), sl_order_fault⟩)
    (l_count_runs : K.lookup a_count_runs = some ⟨oc_count_runs, od_count_runs, .func (PySem.W.fnOf "count_runs" "count_runs" (defArgs s_count_runs) (defBody s_count_runs) (defScope s_count_runs) .none kV_count_runs dc_count_runs pm_count_runs an_count_runs cd_count_runs ct_count_runs), sl_count_runs⟩)
    (l_runs_of : K.lookup a_runs_of = some ⟨oc_runs_of, od_runs_of, .func (PySem.W.fnOf "runs_of" "runs_of" (defArgs s_runs_of) (defBody s_runs_of) (defScope s_runs_of) .none kV_runs_of dc_runs_of pm_runs_of an_runs_of cd_runs_of ct_runs_of), sl_runs_of⟩)
    (l_check_order : K.lookup a_check_order = some ⟨oc_check_order, od_check_order, .func (PySem.W.fnOf "check_order" "check_order" (defArgs s_check_order) (defBody s_check_order) (defScope s_check_order) .none kV_check_order dc_check_order pm_check_order an_check_order cd_check_order ct_check_order), sl_check_order⟩)
    (l_broken : K.lookup a_broken = some ⟨oc_broken, od_broken, .func (PySem.W.fnOf "broken" "broken" (defArgs s_broken) (defBody s_broken) (defScope s_broken) .none kV_broken dc_broken pm_broken an_broken cd_broken ct_broken), sl_broken⟩)
    (l_is_layout : K.lookup a_is_layout = some ⟨oc_is_layout, od_is_layout, .func (PySem.W.fnOf "is_layout" "is_layout" (defArgs s_is_layout) (defBody s_is_layout) (defScope s_is_layout) .none kV_is_layout dc_is_layout pm_is_layout an_is_layout cd_is_layout ct_is_layout), sl_is_layout⟩)
    (l_check_columns : K.lookup a_check_columns = some ⟨oc_check_columns, od_check_columns, .func (PySem.W.fnOf "check_columns" "check_columns" (defArgs s_check_columns) (defBody s_check_columns) (defScope s_check_columns) .none kV_check_columns dc_check_columns pm_check_columns an_check_columns cd_check_columns ct_check_columns), sl_check_columns⟩)
    (l_check_known : K.lookup a_check_known = some ⟨oc_check_known, od_check_known, .func (PySem.W.fnOf "check_known" "check_known" (defArgs s_check_known) (defBody s_check_known) (defScope s_check_known) .none kV_check_known dc_check_known pm_check_known an_check_known cd_check_known ct_check_known), sl_check_known⟩)
    (l_check_rows : K.lookup a_check_rows = some ⟨oc_check_rows, od_check_rows, .func (PySem.W.fnOf "_check_rows" "_check_rows" (defArgs s_check_rows) (defBody s_check_rows) (defScope s_check_rows) .none kV_check_rows dc_check_rows pm_check_rows an_check_rows cd_check_rows ct_check_rows), sl_check_rows⟩)
    (l_Table_in_order : K.lookup a_Table_in_order = some ⟨oc_Table_in_order, od_Table_in_order, .func (PySem.W.fnOf "_in_order" "Table._in_order" (defArgs s_Table_in_order) (defBody s_Table_in_order) (defScope s_Table_in_order) .none kV_Table_in_order dc_Table_in_order pm_Table_in_order an_Table_in_order cd_Table_in_order ct_Table_in_order), sl_Table_in_order⟩)
    (l_Table_inside_out : K.lookup a_Table_inside_out = some ⟨oc_Table_inside_out, od_Table_inside_out, .func (PySem.W.fnOf "_inside_out" "Table._inside_out" (defArgs s_Table_inside_out) (defBody s_Table_inside_out) (defScope s_Table_inside_out) .none kV_Table_inside_out dc_Table_inside_out pm_Table_inside_out an_Table_inside_out cd_Table_inside_out ct_Table_inside_out), sl_Table_inside_out⟩)
    (l_Table_init : K.lookup a_Table_init = some ⟨oc_Table_init, od_Table_init, .func (PySem.W.fnOf "__init__" "Table.__init__" (defArgs s_Table_init) (defBody s_Table_init) (defScope s_Table_init) (.ref TD_Table_init) kV_Table_init dc_Table_init pm_Table_init an_Table_init cd_Table_init ct_Table_init), sl_Table_init⟩)
    (l_Table_only : K.lookup a_Table_only = some ⟨oc_Table_only, od_Table_only, .func (PySem.W.fnOf "only" "Table.only" (defArgs s_Table_only) (defBody s_Table_only) (defScope s_Table_only) .none kV_Table_only dc_Table_only pm_Table_only an_Table_only cd_Table_only ct_Table_only), sl_Table_only⟩)
    (l_Table_turned : K.lookup a_Table_turned = some ⟨oc_Table_turned, od_Table_turned, .func (PySem.W.fnOf "turned" "Table.turned" (defArgs s_Table_turned) (defBody s_Table_turned) (defScope s_Table_turned) .none kV_Table_turned dc_Table_turned pm_Table_turned an_Table_turned cd_Table_turned ct_Table_turned), sl_Table_turned⟩)
    (l_Round_init : K.lookup a_Round_init = some ⟨oc_Round_init, od_Round_init, .func (PySem.W.fnOf "__init__" "Round.__init__" (defArgs s_Round_init) (defBody s_Round_init) (defScope s_Round_init) .none kV_Round_init dc_Round_init pm_Round_init an_Round_init cd_Round_init ct_Round_init), sl_Round_init⟩)
    (l_Round_cut : K.lookup a_Round_cut = some ⟨oc_Round_cut, od_Round_cut, .func (PySem.W.fnOf "cut" "Round.cut" (defArgs s_Round_cut) (defBody s_Round_cut) (defScope s_Round_cut) .none kV_Round_cut dc_Round_cut pm_Round_cut an_Round_cut cd_Round_cut ct_Round_cut), sl_Round_cut⟩)
    (l_is_ring_layout : K.lookup a_is_ring_layout = some ⟨oc_is_ring_layout, od_is_ring_layout, .func (PySem.W.fnOf "is_ring_layout" "is_ring_layout" (defArgs s_is_ring_layout) (defBody s_is_ring_layout) (defScope s_is_ring_layout) .none kV_is_ring_layout dc_is_ring_layout pm_is_ring_layout an_is_ring_layout cd_is_ring_layout ct_is_ring_layout), sl_is_ring_layout⟩)
    (l_is_unbroken_round : K.lookup a_is_unbroken_round = some ⟨oc_is_unbroken_round, od_is_unbroken_round, .func (PySem.W.fnOf "_is_unbroken_round" "_is_unbroken_round" (defArgs s_is_unbroken_round) (defBody s_is_unbroken_round) (defScope s_is_unbroken_round) .none kV_is_unbroken_round dc_is_unbroken_round pm_is_unbroken_round an_is_unbroken_round cd_is_unbroken_round ct_is_unbroken_round), sl_is_unbroken_round⟩)
    (l_cut_table : K.lookup a_cut_table = some ⟨oc_cut_table, od_cut_table, .func (PySem.W.fnOf "cut_table" "cut_table" (defArgs s_cut_table) (defBody s_cut_table) (defScope s_cut_table) .none kV_cut_table dc_cut_table pm_cut_table an_cut_table cd_cut_table ct_cut_table), sl_cut_table⟩)
    (l_law_cell : K.lookup a_law_cell = some ⟨oc_law_cell, od_law_cell, .func (PySem.W.fnOf "_law_cell" "_law_cell" (defArgs s_law_cell) (defBody s_law_cell) (defScope s_law_cell) .none kV_law_cell dc_law_cell pm_law_cell an_law_cell cd_law_cell ct_law_cell), sl_law_cell⟩)
    (l_law_pool : K.lookup a_law_pool = some ⟨oc_law_pool, od_law_pool, .func (PySem.W.fnOf "_law_pool" "_law_pool" (defArgs s_law_pool) (defBody s_law_pool) (defScope s_law_pool) .none kV_law_pool dc_law_pool pm_law_pool an_law_pool cd_law_pool ct_law_pool), sl_law_pool⟩)
    (l_law_size : K.lookup a_law_size = some ⟨oc_law_size, od_law_size, .func (PySem.W.fnOf "_law_size" "_law_size" (defArgs s_law_size) (defBody s_law_size) (defScope s_law_size) .none kV_law_size dc_law_size pm_law_size an_law_size cd_law_size ct_law_size), sl_law_size⟩)
    (l_law_names : K.lookup a_law_names = some ⟨oc_law_names, od_law_names, .func (PySem.W.fnOf "_law_names" "_law_names" (defArgs s_law_names) (defBody s_law_names) (defScope s_law_names) .none kV_law_names dc_law_names pm_law_names an_law_names cd_law_names ct_law_names), sl_law_names⟩)
    (l_law_order : K.lookup a_law_order = some ⟨oc_law_order, od_law_order, .func (PySem.W.fnOf "_law_order" "_law_order" (defArgs s_law_order) (defBody s_law_order) (defScope s_law_order) .none kV_law_order dc_law_order pm_law_order an_law_order cd_law_order ct_law_order), sl_law_order⟩)
    (l_law_row : K.lookup a_law_row = some ⟨oc_law_row, od_law_row, .func (PySem.W.fnOf "_law_row" "_law_row" (defArgs s_law_row) (defBody s_law_row) (defScope s_law_row) .none kV_law_row dc_law_row pm_law_row an_law_row cd_law_row ct_law_row), sl_law_row⟩)
    (l_law_rows : K.lookup a_law_rows = some ⟨oc_law_rows, od_law_rows, .func (PySem.W.fnOf "_law_rows" "_law_rows" (defArgs s_law_rows) (defBody s_law_rows) (defScope s_law_rows) .none kV_law_rows dc_law_rows pm_law_rows an_law_rows cd_law_rows ct_law_rows), sl_law_rows⟩)
    (l_law_all_orders : K.lookup a_law_all_orders = some ⟨oc_law_all_orders, od_law_all_orders, .func (PySem.W.fnOf "_law_all_orders" "_law_all_orders" (defArgs s_law_all_orders) (defBody s_law_all_orders) (defScope s_law_all_orders) .none kV_law_all_orders dc_law_all_orders pm_law_all_orders an_law_all_orders cd_law_all_orders ct_law_all_orders), sl_law_all_orders⟩)
    (l_law_sorted : K.lookup a_law_sorted = some ⟨oc_law_sorted, od_law_sorted, .func (PySem.W.fnOf "_law_sorted" "_law_sorted" (defArgs s_law_sorted) (defBody s_law_sorted) (defScope s_law_sorted) .none kV_law_sorted dc_law_sorted pm_law_sorted an_law_sorted cd_law_sorted ct_law_sorted), sl_law_sorted⟩)
    (l_law_is_order : K.lookup a_law_is_order = some ⟨oc_law_is_order, od_law_is_order, .func (PySem.W.fnOf "_law_is_order" "_law_is_order" (defArgs s_law_is_order) (defBody s_law_is_order) (defScope s_law_is_order) .none kV_law_is_order dc_law_is_order pm_law_is_order an_law_is_order cd_law_is_order ct_law_is_order), sl_law_is_order⟩)
    (l_law_arc : K.lookup a_law_arc = some ⟨oc_law_arc, od_law_arc, .func (PySem.W.fnOf "_law_arc" "_law_arc" (defArgs s_law_arc) (defBody s_law_arc) (defScope s_law_arc) .none kV_law_arc dc_law_arc pm_law_arc an_law_arc cd_law_arc ct_law_arc), sl_law_arc⟩)
    (l_law_on_ring : K.lookup a_law_on_ring = some ⟨oc_law_on_ring, od_law_on_ring, .func (PySem.W.fnOf "_law_on_ring" "_law_on_ring" (defArgs s_law_on_ring) (defBody s_law_on_ring) (defScope s_law_on_ring) .none kV_law_on_ring dc_law_on_ring pm_law_on_ring an_law_on_ring cd_law_on_ring ct_law_on_ring), sl_law_on_ring⟩)
    (l_law_is_ring_layout : K.lookup a_law_is_ring_layout = some ⟨oc_law_is_ring_layout, od_law_is_ring_layout, .func (PySem.W.fnOf "_law_is_ring_layout" "_law_is_ring_layout" (defArgs s_law_is_ring_layout) (defBody s_law_is_ring_layout) (defScope s_law_is_ring_layout) .none kV_law_is_ring_layout dc_law_is_ring_layout pm_law_is_ring_layout an_law_is_ring_layout cd_law_is_ring_layout ct_law_is_ring_layout), sl_law_is_ring_layout⟩)
    (l_law_round_from : K.lookup a_law_round_from = some ⟨oc_law_round_from, od_law_round_from, .func (PySem.W.fnOf "_law_round_from" "_law_round_from" (defArgs s_law_round_from) (defBody s_law_round_from) (defScope s_law_round_from) .none kV_law_round_from dc_law_round_from pm_law_round_from an_law_round_from cd_law_round_from ct_law_round_from), sl_law_round_from⟩)
    (l_law_turned_row : K.lookup a_law_turned_row = some ⟨oc_law_turned_row, od_law_turned_row, .func (PySem.W.fnOf "_law_turned_row" "_law_turned_row" (defArgs s_law_turned_row) (defBody s_law_turned_row) (defScope s_law_turned_row) .none kV_law_turned_row dc_law_turned_row pm_law_turned_row an_law_turned_row cd_law_turned_row ct_law_turned_row), sl_law_turned_row⟩)
    (l_law_cut_rows : K.lookup a_law_cut_rows = some ⟨oc_law_cut_rows, od_law_cut_rows, .func (PySem.W.fnOf "_law_cut_rows" "_law_cut_rows" (defArgs s_law_cut_rows) (defBody s_law_cut_rows) (defScope s_law_cut_rows) .none kV_law_cut_rows dc_law_cut_rows pm_law_cut_rows an_law_cut_rows cd_law_cut_rows ct_law_cut_rows), sl_law_cut_rows⟩)
    (l_law_ring_orders : K.lookup a_law_ring_orders = some ⟨oc_law_ring_orders, od_law_ring_orders, .func (PySem.W.fnOf "_law_ring_orders" "_law_ring_orders" (defArgs s_law_ring_orders) (defBody s_law_ring_orders) (defScope s_law_ring_orders) .none kV_law_ring_orders dc_law_ring_orders pm_law_ring_orders an_law_ring_orders cd_law_ring_orders ct_law_ring_orders), sl_law_ring_orders⟩)
    (l_law_told_cut : K.lookup a_law_told_cut = some ⟨oc_law_told_cut, od_law_told_cut, .func (PySem.W.fnOf "_law_told_cut" "_law_told_cut" (defArgs s_law_told_cut) (defBody s_law_told_cut) (defScope s_law_told_cut) .none kV_law_told_cut dc_law_told_cut pm_law_told_cut an_law_told_cut cd_law_told_cut ct_law_told_cut), sl_law_told_cut⟩)
    (l_law_cut_right : K.lookup a_law_cut_right = some ⟨oc_law_cut_right, od_law_cut_right, .func (PySem.W.fnOf "_law_cut_right" "_law_cut_right" (defArgs s_law_cut_right) (defBody s_law_cut_right) (defScope s_law_cut_right) .none kV_law_cut_right dc_law_cut_right pm_law_cut_right an_law_cut_right cd_law_cut_right ct_law_cut_right), sl_law_cut_right⟩)
    (l_law_ring_right : K.lookup a_law_ring_right = some ⟨oc_law_ring_right, od_law_ring_right, .func (PySem.W.fnOf "_law_ring_right" "_law_ring_right" (defArgs s_law_ring_right) (defBody s_law_ring_right) (defScope s_law_ring_right) .none kV_law_ring_right dc_law_ring_right pm_law_ring_right an_law_ring_right cd_law_ring_right ct_law_ring_right), sl_law_ring_right⟩)
    (l_law_other_lists : K.lookup a_law_other_lists = some ⟨oc_law_other_lists, od_law_other_lists, .func (PySem.W.fnOf "_law_other_lists" "_law_other_lists" (defArgs s_law_other_lists) (defBody s_law_other_lists) (defScope s_law_other_lists) .none kV_law_other_lists dc_law_other_lists pm_law_other_lists an_law_other_lists cd_law_other_lists ct_law_other_lists), sl_law_other_lists⟩)
    (l_law : K.lookup a_law = some ⟨oc_law, od_law, .func (PySem.W.fnOf "law" "law" (defArgs s_law) (defBody s_law) (defScope s_law) .none kV_law dc_law pm_law an_law cd_law ct_law), sl_law⟩)
    (lx_UnknownColumn_init : K.lookup cda_UnknownColumn_init = some ⟨oa_UnknownColumn_init, da_UnknownColumn_init, .fields vs_UnknownColumn_init, la_UnknownColumn_init⟩)
    (lq_UnknownColumn_init : K.lookup cc_UnknownColumn_init = some ⟨ob_UnknownColumn_init, db_UnknownColumn_init, .cell (some (.ref C_UnknownColumn)), lb_UnknownColumn_init⟩)
    (c_UnknownColumn_init : PySem.W.codeIn K (.ref cda_UnknownColumn_init) "UnknownColumn.__init__" = true)
    (c_is_name : PySem.W.codeIn K cd_is_name "is_name" = true)
    (k_is_name : PySem.W.keepIn K (.ref a_is_name) = true)
    (c_first_bad_name : PySem.W.codeIn K cd_first_bad_name "first_bad_name" = true)
    (k_first_bad_name : PySem.W.keepIn K (.ref a_first_bad_name) = true)
    (c_first_stray : PySem.W.codeIn K cd_first_stray "first_stray" = true)
    (k_first_stray : PySem.W.keepIn K (.ref a_first_stray) = true)
    (c_order_fault : PySem.W.codeIn K cd_order_fault "order_fault" = true)
    (k_order_fault : PySem.W.keepIn K (.ref a_order_fault) = true)
    (c_count_runs : PySem.W.codeIn K cd_count_runs "count_runs" = true)
    (k_count_runs : PySem.W.keepIn K (.ref a_count_runs) = true)
    (c_runs_of : PySem.W.codeIn K cd_runs_of "runs_of" = true)
    (k_runs_of : PySem.W.keepIn K (.ref a_runs_of) = true)
    (c_check_order : PySem.W.codeIn K cd_check_order "check_order" = true)
    (k_check_order : PySem.W.keepIn K (.ref a_check_order) = true)
    (c_broken : PySem.W.codeIn K cd_broken "broken" = true)
    (k_broken : PySem.W.keepIn K (.ref a_broken) = true)
    (c_is_layout : PySem.W.codeIn K cd_is_layout "is_layout" = true)
    (k_is_layout : PySem.W.keepIn K (.ref a_is_layout) = true)
    (c_check_columns : PySem.W.codeIn K cd_check_columns "check_columns" = true)
    (k_check_columns : PySem.W.keepIn K (.ref a_check_columns) = true)
    (c_check_known : PySem.W.codeIn K cd_check_known "check_known" = true)
    (k_check_known : PySem.W.keepIn K (.ref a_check_known) = true)
    (c_check_rows : PySem.W.codeIn K cd_check_rows "_check_rows" = true)
    (k_check_rows : PySem.W.keepIn K (.ref a_check_rows) = true)
    (c_Table_in_order : PySem.W.codeIn K cd_Table_in_order "Table._in_order" = true)
    (k_Table_in_order : PySem.W.keepIn K (.ref a_Table_in_order) = true)
    (c_Table_inside_out : PySem.W.codeIn K cd_Table_inside_out "Table._inside_out" = true)
    (k_Table_inside_out : PySem.W.keepIn K (.ref a_Table_inside_out) = true)
    (c_Table_init : PySem.W.codeIn K cd_Table_init "Table.__init__" = true)
    (k_Table_init : PySem.W.keepIn K (.ref a_Table_init) = true)
    (lt_Table_init : K.lookup TD_Table_init = some ⟨.type "tuple", to_Table_init, .seq #[.ref e_Table_init] tn_Table_init, ts_Table_init⟩)
    (c_Table_only : PySem.W.codeIn K cd_Table_only "Table.only" = true)
    (k_Table_only : PySem.W.keepIn K (.ref a_Table_only) = true)
    (c_Table_turned : PySem.W.codeIn K cd_Table_turned "Table.turned" = true)
    (k_Table_turned : PySem.W.keepIn K (.ref a_Table_turned) = true)
    (c_Round_init : PySem.W.codeIn K cd_Round_init "Round.__init__" = true)
    (k_Round_init : PySem.W.keepIn K (.ref a_Round_init) = true)
    (c_Round_cut : PySem.W.codeIn K cd_Round_cut "Round.cut" = true)
    (k_Round_cut : PySem.W.keepIn K (.ref a_Round_cut) = true)
    (c_is_ring_layout : PySem.W.codeIn K cd_is_ring_layout "is_ring_layout" = true)
    (k_is_ring_layout : PySem.W.keepIn K (.ref a_is_ring_layout) = true)
    (c_is_unbroken_round : PySem.W.codeIn K cd_is_unbroken_round "_is_unbroken_round" = true)
    (k_is_unbroken_round : PySem.W.keepIn K (.ref a_is_unbroken_round) = true)
    (c_cut_table : PySem.W.codeIn K cd_cut_table "cut_table" = true)
    (k_cut_table : PySem.W.keepIn K (.ref a_cut_table) = true)
    (c_law_cell : PySem.W.codeIn K cd_law_cell "_law_cell" = true)
    (k_law_cell : PySem.W.keepIn K (.ref a_law_cell) = true)
    (c_law_pool : PySem.W.codeIn K cd_law_pool "_law_pool" = true)
    (k_law_pool : PySem.W.keepIn K (.ref a_law_pool) = true)
    (c_law_size : PySem.W.codeIn K cd_law_size "_law_size" = true)
    (k_law_size : PySem.W.keepIn K (.ref a_law_size) = true)
    (c_law_names : PySem.W.codeIn K cd_law_names "_law_names" = true)
    (k_law_names : PySem.W.keepIn K (.ref a_law_names) = true)
    (c_law_order : PySem.W.codeIn K cd_law_order "_law_order" = true)
    (k_law_order : PySem.W.keepIn K (.ref a_law_order) = true)
    (c_law_row : PySem.W.codeIn K cd_law_row "_law_row" = true)
    (k_law_row : PySem.W.keepIn K (.ref a_law_row) = true)
    (c_law_rows : PySem.W.codeIn K cd_law_rows "_law_rows" = true)
    (k_law_rows : PySem.W.keepIn K (.ref a_law_rows) = true)
    (c_law_all_orders : PySem.W.codeIn K cd_law_all_orders "_law_all_orders" = true)
    (k_law_all_orders : PySem.W.keepIn K (.ref a_law_all_orders) = true)
    (c_law_sorted : PySem.W.codeIn K cd_law_sorted "_law_sorted" = true)
    (k_law_sorted : PySem.W.keepIn K (.ref a_law_sorted) = true)
    (c_law_is_order : PySem.W.codeIn K cd_law_is_order "_law_is_order" = true)
    (k_law_is_order : PySem.W.keepIn K (.ref a_law_is_order) = true)
    (c_law_arc : PySem.W.codeIn K cd_law_arc "_law_arc" = true)
    (k_law_arc : PySem.W.keepIn K (.ref a_law_arc) = true)
    (c_law_on_ring : PySem.W.codeIn K cd_law_on_ring "_law_on_ring" = true)
    (k_law_on_ring : PySem.W.keepIn K (.ref a_law_on_ring) = true)
    (c_law_is_ring_layout : PySem.W.codeIn K cd_law_is_ring_layout "_law_is_ring_layout" = true)
    (k_law_is_ring_layout : PySem.W.keepIn K (.ref a_law_is_ring_layout) = true)
    (c_law_round_from : PySem.W.codeIn K cd_law_round_from "_law_round_from" = true)
    (k_law_round_from : PySem.W.keepIn K (.ref a_law_round_from) = true)
    (c_law_turned_row : PySem.W.codeIn K cd_law_turned_row "_law_turned_row" = true)
    (k_law_turned_row : PySem.W.keepIn K (.ref a_law_turned_row) = true)
    (c_law_cut_rows : PySem.W.codeIn K cd_law_cut_rows "_law_cut_rows" = true)
    (k_law_cut_rows : PySem.W.keepIn K (.ref a_law_cut_rows) = true)
    (c_law_ring_orders : PySem.W.codeIn K cd_law_ring_orders "_law_ring_orders" = true)
    (k_law_ring_orders : PySem.W.keepIn K (.ref a_law_ring_orders) = true)
    (c_law_told_cut : PySem.W.codeIn K cd_law_told_cut "_law_told_cut" = true)
    (k_law_told_cut : PySem.W.keepIn K (.ref a_law_told_cut) = true)
    (c_law_cut_right : PySem.W.codeIn K cd_law_cut_right "_law_cut_right" = true)
    (k_law_cut_right : PySem.W.keepIn K (.ref a_law_cut_right) = true)
    (c_law_ring_right : PySem.W.codeIn K cd_law_ring_right "_law_ring_right" = true)
    (k_law_ring_right : PySem.W.keepIn K (.ref a_law_ring_right) = true)
    (c_law_other_lists : PySem.W.codeIn K cd_law_other_lists "_law_other_lists" = true)
    (k_law_other_lists : PySem.W.keepIn K (.ref a_law_other_lists) = true)
    (c_law : PySem.W.codeIn K cd_law "law" = true)
    (k_law : PySem.W.keepIn K (.ref a_law) = true)
    (pgcl_Table : PySem.W.plainGet K C_Table Str.empty = true)
    (hdcl_Table : PySem.W.hasDictIn K C_Table = true)
    (pocl_Table : PySem.W.plainOver K C_Table = true)
    (sacl_Table : PySem.W.findIn K (.ref C_Table) "__setattr__" = some (some (.builtin "object.__setattr__")))
    (xsf_Table : PySem.W.selfFirst K C_Table = true)
    (kmk_Table : PySem.W.makesIn K C_Table = true)
    (kkmk_Table : PySem.W.keepIn K (.ref C_Table) = true)
    (xc1_Table : PySem.W.findIn K (.ref C_Table) "__class__" = some (some (.builtin "object.__class__")))
    (xc3_Table : PySem.W.mroIn K C_Table (.type "object") = some true)
    (xn_Table_columns : PySem.W.findIn K (.ref C_Table) "columns" = some none)
    (xn_Table_rows : PySem.W.findIn K (.ref C_Table) "rows" = some none)
    (pgcl_Round : PySem.W.plainGet K C_Round Str.empty = true)
    (hdcl_Round : PySem.W.hasDictIn K C_Round = true)
    (pocl_Round : PySem.W.plainOver K C_Round = true)
    (sacl_Round : PySem.W.findIn K (.ref C_Round) "__setattr__" = some (some (.builtin "object.__setattr__")))
    (xsf_Round : PySem.W.selfFirst K C_Round = true)
    (kmk_Round : PySem.W.makesIn K C_Round = true)
    (kkmk_Round : PySem.W.keepIn K (.ref C_Round) = true)
    (xc1_Round : PySem.W.findIn K (.ref C_Round) "__class__" = some (some (.builtin "object.__class__")))
    (xc3_Round : PySem.W.mroIn K C_Round (.type "object") = some true)
    (xn_Round_names : PySem.W.findIn K (.ref C_Round) "names" = some none)
    (xc2 : PySem.W.specialIn K (.builtin "object.__class__") "__get__" = some (some (.builtin "getset_descriptor.__get__")))
    (xc4 : PySem.W.takesIn K (.builtin "object.__class__") = some true)
    (xtp_RowsError : PySem.W.typeIn K (.ref C_RowsError) = some (.type "type"))
    (xic_RowsError : PySem.W.isClsIn K C_RowsError = true)
    (xtp_Unknown : PySem.W.typeIn K (.ref C_Unknown) = some (.type "type"))
    (xic_Unknown : PySem.W.isClsIn K C_Unknown = true)
    (xtp_Impossible : PySem.W.typeIn K (.ref C_Impossible) = some (.type "type"))
    (xic_Impossible : PySem.W.isClsIn K C_Impossible = true)
    (xtp_UnknownColumn : PySem.W.typeIn K (.ref C_UnknownColumn) = some (.type "type"))
    (xic_UnknownColumn : PySem.W.isClsIn K C_UnknownColumn = true)
    (g1SC_UnknownColumn : PySem.W.clsIn K C_UnknownColumn = some cd_UnknownColumn)
    (g2SC_UnknownColumn : PySem.W.mroIn K C_UnknownColumn (.ref C_UnknownColumn) = some true)
    (ksSC_UnknownColumn : PySem.W.ks_superIn K C_UnknownColumn C_UnknownColumn "__init__" = some (some (.builtin "ValueError.__init__")))
    (g4SC_UnknownColumn : PySem.W.nsIn K PySem.cStatics "thirdparty.any" = some none)
    (g5SC_UnknownColumn : PySem.W.nsIn K mainGlobals "super" = some none)
    (rfSC_UnknownColumn : (l.prog.main.scope.names.lookup ("super" : Str)).isSome = false)
    (kxSC_UnknownColumn : PySem.W.excInitIn K C_UnknownColumn [.type "ValueError", .type "Exception", .type "BaseException", .type "object"] "ValueError.__new__" = true)
    (g6SC_UnknownColumn : PySem.W.findIn K (.ref C_UnknownColumn) "__setattr__" = some (some (.builtin "object.__setattr__")))
    (rv_UnknownColumn_init : vs_UnknownColumn_init[2]? = some (.str fl_UnknownColumn_init tf_UnknownColumn_init))
    (rg_UnknownColumn_init : ((l.prog.main.file : Str) == fl_UnknownColumn_init) = true)
    (xti_UnknownColumn : PySem.W.typeIn K (.ref a_UnknownColumn_init) = some (.type "function"))
    (xxn_UnknownColumn_name : PySem.W.findIn K (.ref C_UnknownColumn) "name" = some none)
    (xk_UnknownColumn : PySem.W.keepIn K (.ref C_UnknownColumn) = true)
    (xbp_UnknownColumn : PySem.W.subIn K (.ref C_UnknownColumn) (.type "BaseException") = some true)
    (xsv_UnknownColumn : PySem.W.subIn K (.ref C_UnknownColumn) (.type "ValueError") = some true)
    (xss_UnknownColumn : PySem.W.subIn K (.ref C_UnknownColumn) (.ref C_UnknownColumn) = some true)
    (xsu_UnknownColumn_RowsError : PySem.W.subIn K (.ref C_UnknownColumn) (.ref C_RowsError) = some true)
    (xsu_UnknownColumn_Unknown : PySem.W.subIn K (.ref C_UnknownColumn) (.ref C_Unknown) = some true)
    (xsu_UnknownColumn_Impossible : PySem.W.subIn K (.ref C_UnknownColumn) (.ref C_Impossible) = some false)
    (xe1_UnknownColumn : PySem.W.findIn K (.ref C_UnknownColumn) "__getattribute__" = some (some (.builtin "BaseException.__getattribute__")))
    (xe2_UnknownColumn : PySem.W.findIn K (.ref C_UnknownColumn) "__getattr__" = some none)
    (xe3_UnknownColumn : PySem.W.hasDictIn K C_UnknownColumn = true)
    (xe4_UnknownColumn : PySem.W.findIn K (.ref C_UnknownColumn) "__class__" = some (some (.builtin "object.__class__")))
    (xe5_UnknownColumn : PySem.W.mroIn K C_UnknownColumn (.type "object") = some true)
    (r1cr_Table : PySem.W.readsIn K C_Table (.type "type") = true)
    (r2cr_Table : PySem.W.specialIn K (.ref C_Table) "__getattribute__" = some (some (.builtin "type.__getattribute__")))
    (xcv_Table_MOST_COLUMNS : PySem.W.findCls K (.ref C_Table) (.type "type") "MOST_COLUMNS" = some (.val (.int 12 tk_Table_MOST_COLUMNS)))
    (xcv_Table_MOST_ROWS : PySem.W.findCls K (.ref C_Table) (.type "type") "MOST_ROWS" = some (.val (.int 48 tk_Table_MOST_ROWS)))
    (xn_abs : PySem.W.nsIn K mainGlobals "abs" = some none)
    (xn_int : PySem.W.nsIn K mainGlobals "int" = some none)
    (xn_isinstance : PySem.W.nsIn K mainGlobals "isinstance" = some none)
    (xn_range : PySem.W.nsIn K mainGlobals "range" = some none)
    (xn_len : PySem.W.nsIn K mainGlobals "len" = some none)
    (xn_str : PySem.W.nsIn K mainGlobals "str" = some none)
    (xn_tuple : PySem.W.nsIn K mainGlobals "tuple" = some none)
    (xn_list : PySem.W.nsIn K mainGlobals "list" = some none)
    (xn_ValueError : PySem.W.nsIn K mainGlobals "ValueError" = some none)
    (xn_all : PySem.W.nsIn K mainGlobals "all" = some none)
    (xn_min : PySem.W.nsIn K mainGlobals "min" = some none)
    (xn_enumerate : PySem.W.nsIn K mainGlobals "enumerate" = some none)
    (xn_bool : PySem.W.nsIn K mainGlobals "bool" = some none)
    : ∃ fd : FuncData, (∀ (s : Shared) (v : Value), BindsTo s fd ⟨[v], []⟩ [("script", v)]) ∧ ∀ base : Heap, K.In base → base.Ns mainGlobals mg → FnOk l.prog w K mg base CX0 20 fa fd ["script"] (spLaw K) := by
  have e := hfa.symm.trans (PySem.W.mg_of X G xmg_law)
  cases e
  have T : Txt l.prog K mg ⟨C_Table, C_Round, C_RowsError, C_Unknown, C_Impossible, C_UnknownColumn, a_UnknownColumn_init, _, a_is_name, _, a_first_bad_name, _, a_first_stray, _, a_order_fault, _, a_count_runs, _, a_runs_of, _, a_check_order, _, a_broken, _, a_is_layout, _, a_check_columns, _, a_check_known, _, a_check_rows, _, a_Table_in_order, _, a_Table_inside_out, _, a_Table_init, _, a_Table_only, _, a_Table_turned, _, a_Round_init, _, a_Round_cut, _, a_is_ring_layout, _, a_is_unbroken_round, _, a_cut_table, _, a_law_cell, _, a_law_pool, _, a_law_size, _, a_law_names, _, a_law_order, _, a_law_row, _, a_law_rows, _, a_law_all_orders, _, a_law_sorted, _, a_law_is_order, _, a_law_arc, _, a_law_on_ring, _, a_law_is_ring_layout, _, a_law_round_from, _, a_law_turned_row, _, a_law_cut_rows, _, a_law_ring_orders, _, a_law_told_cut, _, a_law_cut_right, _, a_law_ring_right, _, a_law_other_lists, _, fa, _, e_Table_init⟩ := {
    mg_Table := PySem.W.mg_of X G xmg_Table
    cl_Table := ⟨pgcl_Table, hdcl_Table, pocl_Table, sacl_Table⟩
    sf_Table := xsf_Table
    mk_Table := ⟨kmk_Table, am_Table_init, if_Table_init, kkmk_Table⟩
    c1_Table := xc1_Table
    c3_Table := xc3_Table
    n_Table_columns := xn_Table_columns
    n_Table_rows := xn_Table_rows
    mg_Round := PySem.W.mg_of X G xmg_Round
    cl_Round := ⟨pgcl_Round, hdcl_Round, pocl_Round, sacl_Round⟩
    sf_Round := xsf_Round
    mk_Round := ⟨kmk_Round, am_Round_init, if_Round_init, kkmk_Round⟩
    c1_Round := xc1_Round
    c3_Round := xc3_Round
    n_Round_names := xn_Round_names
    c2 := xc2
    c4 := xc4
    mg_RowsError := PySem.W.mg_of X G xmg_RowsError
    tp_RowsError := xtp_RowsError
    ic_RowsError := xic_RowsError
    mg_Unknown := PySem.W.mg_of X G xmg_Unknown
    tp_Unknown := xtp_Unknown
    ic_Unknown := xic_Unknown
    mg_Impossible := PySem.W.mg_of X G xmg_Impossible
    tp_Impossible := xtp_Impossible
    ic_Impossible := xic_Impossible
    mg_UnknownColumn := PySem.W.mg_of X G xmg_UnknownColumn
    tp_UnknownColumn := xtp_UnknownColumn
    ic_UnknownColumn := xic_UnknownColumn
    SC_UnknownColumn := ⟨⟨_, g1SC_UnknownColumn⟩, g2SC_UnknownColumn, ksSC_UnknownColumn, g4SC_UnknownColumn, xsv_UnknownColumn, PySem.W.mg_none_of X G g5SC_UnknownColumn, rfSC_UnknownColumn, oex_of kxSC_UnknownColumn xe3_UnknownColumn g6SC_UnknownColumn xbp_UnknownColumn xtp_UnknownColumn xk_UnknownColumn⟩
    SF_UnknownColumn := ⟨⟨_, _, _, _, _, _, _, _, _, _, rfl, l_UnknownColumn_init, c_UnknownColumn_init, ⟨_, _, _, _, _, _, lx_UnknownColumn_init, rv_UnknownColumn_init, rg_UnknownColumn_init⟩, _, _, _, lq_UnknownColumn_init⟩⟩
    ii_UnknownColumn := am_UnknownColumn_init
    ti_UnknownColumn := xti_UnknownColumn
    b_UnknownColumn_init := fun s us _ hl => by rw [List.append_nil] at hl ⊢; exact .of_eq (match us, hl with | [_, _], _ => rfl)
    xn_UnknownColumn_name := xxn_UnknownColumn_name
    xf_UnknownColumn := ⟨xe1_UnknownColumn, xe2_UnknownColumn, xbp_UnknownColumn, xe3_UnknownColumn⟩
    ec_UnknownColumn := ⟨xe1_UnknownColumn, xe2_UnknownColumn, xbp_UnknownColumn, xe3_UnknownColumn, xe4_UnknownColumn, xc2, xc4, xe5_UnknownColumn⟩
    k_UnknownColumn := xk_UnknownColumn
    bp_UnknownColumn := xbp_UnknownColumn
    sv_UnknownColumn := xsv_UnknownColumn
    ss_UnknownColumn := xss_UnknownColumn
    su_UnknownColumn_RowsError := xsu_UnknownColumn_RowsError
    su_UnknownColumn_Unknown := xsu_UnknownColumn_Unknown
    su_UnknownColumn_Impossible := xsu_UnknownColumn_Impossible
    e1_UnknownColumn := xe1_UnknownColumn
    e2_UnknownColumn := xe2_UnknownColumn
    e3_UnknownColumn := xe3_UnknownColumn
    e4_UnknownColumn := xe4_UnknownColumn
    e5_UnknownColumn := xe5_UnknownColumn
    mg_LONGEST_NAME := ⟨_, PySem.W.mg_of X G xmg_LONGEST_NAME⟩
    cr_Table := ⟨r1cr_Table, r2cr_Table⟩
    cv_Table_MOST_COLUMNS := ⟨_, ⟨xcv_Table_MOST_COLUMNS, ⟨_, rfl⟩⟩⟩
    cv_Table_MOST_ROWS := ⟨_, ⟨xcv_Table_MOST_ROWS, ⟨_, rfl⟩⟩⟩
    n_abs := PySem.W.mg_none_of X G xn_abs
    n_int := PySem.W.mg_none_of X G xn_int
    n_isinstance := PySem.W.mg_none_of X G xn_isinstance
    n_range := PySem.W.mg_none_of X G xn_range
    n_len := PySem.W.mg_none_of X G xn_len
    n_str := PySem.W.mg_none_of X G xn_str
    n_tuple := PySem.W.mg_none_of X G xn_tuple
    n_list := PySem.W.mg_none_of X G xn_list
    n_ValueError := PySem.W.mg_none_of X G xn_ValueError
    n_all := PySem.W.mg_none_of X G xn_all
    n_min := PySem.W.mg_none_of X G xn_min
    n_enumerate := PySem.W.mg_none_of X G xn_enumerate
    n_bool := PySem.W.mg_none_of X G xn_bool
    F_is_name := fun_mk (st := s_is_name) l_is_name c_is_name k_is_name
    b_is_name := (fun_mk (st := s_is_name) l_is_name c_is_name k_is_name).binds fun _ _ _ _ _ _ us hl => match us, hl with | [_], _ => rfl
    mg_is_name := PySem.W.mg_of X G xmg_is_name
    F_first_bad_name := fun_mk (st := s_first_bad_name) l_first_bad_name c_first_bad_name k_first_bad_name
    b_first_bad_name := (fun_mk (st := s_first_bad_name) l_first_bad_name c_first_bad_name k_first_bad_name).binds fun _ _ _ _ _ _ us hl => match us, hl with | [_], _ => rfl
    mg_first_bad_name := PySem.W.mg_of X G xmg_first_bad_name
    F_first_stray := fun_mk (st := s_first_stray) l_first_stray c_first_stray k_first_stray
    b_first_stray := (fun_mk (st := s_first_stray) l_first_stray c_first_stray k_first_stray).binds fun _ _ _ _ _ _ us hl => match us, hl with | [_, _], _ => rfl
    mg_first_stray := PySem.W.mg_of X G xmg_first_stray
    F_order_fault := fun_mk (st := s_order_fault) l_order_fault c_order_fault k_order_fault
    b_order_fault := (fun_mk (st := s_order_fault) l_order_fault c_order_fault k_order_fault).binds fun _ _ _ _ _ _ us hl => match us, hl with | [_, _], _ => rfl
    mg_order_fault := PySem.W.mg_of X G xmg_order_fault
    F_count_runs := fun_mk (st := s_count_runs) l_count_runs c_count_runs k_count_runs
    b_count_runs := (fun_mk (st := s_count_runs) l_count_runs c_count_runs k_count_runs).binds fun _ _ _ _ _ _ us hl => match us, hl with | [_], _ => rfl
    mg_count_runs := PySem.W.mg_of X G xmg_count_runs
    F_runs_of := fun_mk (st := s_runs_of) l_runs_of c_runs_of k_runs_of
    b_runs_of := (fun_mk (st := s_runs_of) l_runs_of c_runs_of k_runs_of).binds fun _ _ _ _ _ _ us hl => match us, hl with | [_, _], _ => rfl
    mg_runs_of := PySem.W.mg_of X G xmg_runs_of
    F_check_order := fun_mk (st := s_check_order) l_check_order c_check_order k_check_order
    b_check_order := (fun_mk (st := s_check_order) l_check_order c_check_order k_check_order).binds fun _ _ _ _ _ _ us hl => match us, hl with | [_, _], _ => rfl
    mg_check_order := PySem.W.mg_of X G xmg_check_order
    F_broken := fun_mk (st := s_broken) l_broken c_broken k_broken
    b_broken := (fun_mk (st := s_broken) l_broken c_broken k_broken).binds fun _ _ _ _ _ _ us hl => match us, hl with | [_, _], _ => rfl
    mg_broken := PySem.W.mg_of X G xmg_broken
    F_is_layout := fun_mk (st := s_is_layout) l_is_layout c_is_layout k_is_layout
    b_is_layout := (fun_mk (st := s_is_layout) l_is_layout c_is_layout k_is_layout).binds fun _ _ _ _ _ _ us hl => match us, hl with | [_, _], _ => rfl
    mg_is_layout := PySem.W.mg_of X G xmg_is_layout
    F_check_columns := fun_mk (st := s_check_columns) l_check_columns c_check_columns k_check_columns
    b_check_columns := (fun_mk (st := s_check_columns) l_check_columns c_check_columns k_check_columns).binds fun _ _ _ _ _ _ us hl => match us, hl with | [_], _ => rfl
    mg_check_columns := PySem.W.mg_of X G xmg_check_columns
    F_check_known := fun_mk (st := s_check_known) l_check_known c_check_known k_check_known
    b_check_known := (fun_mk (st := s_check_known) l_check_known c_check_known k_check_known).binds fun _ _ _ _ _ _ us hl => match us, hl with | [_, _], _ => rfl
    mg_check_known := PySem.W.mg_of X G xmg_check_known
    F_check_rows := fun_mk (st := s_check_rows) l_check_rows c_check_rows k_check_rows
    b_check_rows := (fun_mk (st := s_check_rows) l_check_rows c_check_rows k_check_rows).binds fun _ _ _ _ _ _ us hl => match us, hl with | [_, _], _ => rfl
    mg_check_rows := PySem.W.mg_of X G xmg_check_rows
    F_Table_in_order := fun_mk (st := s_Table_in_order) l_Table_in_order c_Table_in_order k_Table_in_order
    b_Table_in_order := (fun_mk (st := s_Table_in_order) l_Table_in_order c_Table_in_order k_Table_in_order).binds fun _ _ _ _ _ _ us hl => match us, hl with | [_, _], _ => rfl
    m_Table_in_order := ⟨am_Table_in_order, if_Table_in_order, k_Table_in_order⟩
    F_Table_inside_out := fun_mk (st := s_Table_inside_out) l_Table_inside_out c_Table_inside_out k_Table_inside_out
    b_Table_inside_out := (fun_mk (st := s_Table_inside_out) l_Table_inside_out c_Table_inside_out k_Table_inside_out).binds fun _ _ _ _ _ _ us hl => match us, hl with | [_, _], _ => rfl
    m_Table_inside_out := ⟨am_Table_inside_out, if_Table_inside_out, k_Table_inside_out⟩
    F_Table_init := ⟨⟨_, _, _, _, _, _, _, _, _, _, rfl, l_Table_init, c_Table_init, .inr ⟨by simp, TD_Table_init, _, [.ref e_Table_init], _, rfl, lt_Table_init, rfl, .cons rfl .nil⟩, .inl rfl⟩, k_Table_init⟩
    m_Table_init := ⟨am_Table_init, if_Table_init, k_Table_init⟩
    F_Table_only := fun_mk (st := s_Table_only) l_Table_only c_Table_only k_Table_only
    b_Table_only := (fun_mk (st := s_Table_only) l_Table_only c_Table_only k_Table_only).binds fun _ _ _ _ _ _ us hl => match us, hl with | [_, _], _ => rfl
    m_Table_only := ⟨am_Table_only, if_Table_only, k_Table_only⟩
    F_Table_turned := fun_mk (st := s_Table_turned) l_Table_turned c_Table_turned k_Table_turned
    b_Table_turned := (fun_mk (st := s_Table_turned) l_Table_turned c_Table_turned k_Table_turned).binds fun _ _ _ _ _ _ us hl => match us, hl with | [_, _], _ => rfl
    m_Table_turned := ⟨am_Table_turned, if_Table_turned, k_Table_turned⟩
    F_Round_init := fun_mk (st := s_Round_init) l_Round_init c_Round_init k_Round_init
    b_Round_init := (fun_mk (st := s_Round_init) l_Round_init c_Round_init k_Round_init).binds fun _ _ _ _ _ _ us hl => match us, hl with | [_, _], _ => rfl
    m_Round_init := ⟨am_Round_init, if_Round_init, k_Round_init⟩
    F_Round_cut := fun_mk (st := s_Round_cut) l_Round_cut c_Round_cut k_Round_cut
    b_Round_cut := (fun_mk (st := s_Round_cut) l_Round_cut c_Round_cut k_Round_cut).binds fun _ _ _ _ _ _ us hl => match us, hl with | [_, _], _ => rfl
    m_Round_cut := ⟨am_Round_cut, if_Round_cut, k_Round_cut⟩
    F_is_ring_layout := fun_mk (st := s_is_ring_layout) l_is_ring_layout c_is_ring_layout k_is_ring_layout
    b_is_ring_layout := (fun_mk (st := s_is_ring_layout) l_is_ring_layout c_is_ring_layout k_is_ring_layout).binds fun _ _ _ _ _ _ us hl => match us, hl with | [_, _], _ => rfl
    mg_is_ring_layout := PySem.W.mg_of X G xmg_is_ring_layout
    F_is_unbroken_round := fun_mk (st := s_is_unbroken_round) l_is_unbroken_round c_is_unbroken_round k_is_unbroken_round
    b_is_unbroken_round := (fun_mk (st := s_is_unbroken_round) l_is_unbroken_round c_is_unbroken_round k_is_unbroken_round).binds fun _ _ _ _ _ _ us hl => match us, hl with | [_, _], _ => rfl
    mg_is_unbroken_round := PySem.W.mg_of X G xmg_is_unbroken_round
    F_cut_table := fun_mk (st := s_cut_table) l_cut_table c_cut_table k_cut_table
    b_cut_table := (fun_mk (st := s_cut_table) l_cut_table c_cut_table k_cut_table).binds fun _ _ _ _ _ _ us hl => match us, hl with | [_, _], _ => rfl
    mg_cut_table := PySem.W.mg_of X G xmg_cut_table
    F_law_cell := fun_mk (st := s_law_cell) l_law_cell c_law_cell k_law_cell
    b_law_cell := (fun_mk (st := s_law_cell) l_law_cell c_law_cell k_law_cell).binds fun _ _ _ _ _ _ us hl => match us, hl with | [_, _], _ => rfl
    mg_law_cell := PySem.W.mg_of X G xmg_law_cell
    F_law_pool := fun_mk (st := s_law_pool) l_law_pool c_law_pool k_law_pool
    b_law_pool := (fun_mk (st := s_law_pool) l_law_pool c_law_pool k_law_pool).binds fun _ _ _ _ _ _ us hl => match us, hl with | [_, _, _], _ => rfl
    mg_law_pool := PySem.W.mg_of X G xmg_law_pool
    F_law_size := fun_mk (st := s_law_size) l_law_size c_law_size k_law_size
    b_law_size := (fun_mk (st := s_law_size) l_law_size c_law_size k_law_size).binds fun _ _ _ _ _ _ us hl => match us, hl with | [_, _], _ => rfl
    mg_law_size := PySem.W.mg_of X G xmg_law_size
    F_law_names := fun_mk (st := s_law_names) l_law_names c_law_names k_law_names
    b_law_names := (fun_mk (st := s_law_names) l_law_names c_law_names k_law_names).binds fun _ _ _ _ _ _ us hl => match us, hl with | [_, _], _ => rfl
    mg_law_names := PySem.W.mg_of X G xmg_law_names
    F_law_order := fun_mk (st := s_law_order) l_law_order c_law_order k_law_order
    b_law_order := (fun_mk (st := s_law_order) l_law_order c_law_order k_law_order).binds fun _ _ _ _ _ _ us hl => match us, hl with | [_, _, _], _ => rfl
    mg_law_order := PySem.W.mg_of X G xmg_law_order
    F_law_row := fun_mk (st := s_law_row) l_law_row c_law_row k_law_row
    b_law_row := (fun_mk (st := s_law_row) l_law_row c_law_row k_law_row).binds fun _ _ _ _ _ _ us hl => match us, hl with | [_, _, _, _], _ => rfl
    mg_law_row := PySem.W.mg_of X G xmg_law_row
    F_law_rows := fun_mk (st := s_law_rows) l_law_rows c_law_rows k_law_rows
    b_law_rows := (fun_mk (st := s_law_rows) l_law_rows c_law_rows k_law_rows).binds fun _ _ _ _ _ _ us hl => match us, hl with | [_, _, _, _, _, _], _ => rfl
    mg_law_rows := PySem.W.mg_of X G xmg_law_rows
    F_law_all_orders := fun_mk (st := s_law_all_orders) l_law_all_orders c_law_all_orders k_law_all_orders
    b_law_all_orders := (fun_mk (st := s_law_all_orders) l_law_all_orders c_law_all_orders k_law_all_orders).binds fun _ _ _ _ _ _ us hl => match us, hl with | [_], _ => rfl
    mg_law_all_orders := PySem.W.mg_of X G xmg_law_all_orders
    F_law_sorted := fun_mk (st := s_law_sorted) l_law_sorted c_law_sorted k_law_sorted
    b_law_sorted := (fun_mk (st := s_law_sorted) l_law_sorted c_law_sorted k_law_sorted).binds fun _ _ _ _ _ _ us hl => match us, hl with | [_, _], _ => rfl
    mg_law_sorted := PySem.W.mg_of X G xmg_law_sorted
    F_law_is_order := fun_mk (st := s_law_is_order) l_law_is_order c_law_is_order k_law_is_order
    b_law_is_order := (fun_mk (st := s_law_is_order) l_law_is_order c_law_is_order k_law_is_order).binds fun _ _ _ _ _ _ us hl => match us, hl with | [_, _], _ => rfl
    mg_law_is_order := PySem.W.mg_of X G xmg_law_is_order
    F_law_arc := fun_mk (st := s_law_arc) l_law_arc c_law_arc k_law_arc
    b_law_arc := (fun_mk (st := s_law_arc) l_law_arc c_law_arc k_law_arc).binds fun _ _ _ _ _ _ us hl => match us, hl with | [_, _], _ => rfl
    mg_law_arc := PySem.W.mg_of X G xmg_law_arc
    F_law_on_ring := fun_mk (st := s_law_on_ring) l_law_on_ring c_law_on_ring k_law_on_ring
    b_law_on_ring := (fun_mk (st := s_law_on_ring) l_law_on_ring c_law_on_ring k_law_on_ring).binds fun _ _ _ _ _ _ us hl => match us, hl with | [_, _], _ => rfl
    mg_law_on_ring := PySem.W.mg_of X G xmg_law_on_ring
    F_law_is_ring_layout := fun_mk (st := s_law_is_ring_layout) l_law_is_ring_layout c_law_is_ring_layout k_law_is_ring_layout
    b_law_is_ring_layout := (fun_mk (st := s_law_is_ring_layout) l_law_is_ring_layout c_law_is_ring_layout k_law_is_ring_layout).binds fun _ _ _ _ _ _ us hl => match us, hl with | [_, _, _], _ => rfl
    mg_law_is_ring_layout := PySem.W.mg_of X G xmg_law_is_ring_layout
    F_law_round_from := fun_mk (st := s_law_round_from) l_law_round_from c_law_round_from k_law_round_from
    b_law_round_from := (fun_mk (st := s_law_round_from) l_law_round_from c_law_round_from k_law_round_from).binds fun _ _ _ _ _ _ us hl => match us, hl with | [_, _], _ => rfl
    mg_law_round_from := PySem.W.mg_of X G xmg_law_round_from
    F_law_turned_row := fun_mk (st := s_law_turned_row) l_law_turned_row c_law_turned_row k_law_turned_row
    b_law_turned_row := (fun_mk (st := s_law_turned_row) l_law_turned_row c_law_turned_row k_law_turned_row).binds fun _ _ _ _ _ _ us hl => match us, hl with | [_, _, _], _ => rfl
    mg_law_turned_row := PySem.W.mg_of X G xmg_law_turned_row
    F_law_cut_rows := fun_mk (st := s_law_cut_rows) l_law_cut_rows c_law_cut_rows k_law_cut_rows
    b_law_cut_rows := (fun_mk (st := s_law_cut_rows) l_law_cut_rows c_law_cut_rows k_law_cut_rows).binds fun _ _ _ _ _ _ us hl => match us, hl with | [_, _, _], _ => rfl
    mg_law_cut_rows := PySem.W.mg_of X G xmg_law_cut_rows
    F_law_ring_orders := fun_mk (st := s_law_ring_orders) l_law_ring_orders c_law_ring_orders k_law_ring_orders
    b_law_ring_orders := (fun_mk (st := s_law_ring_orders) l_law_ring_orders c_law_ring_orders k_law_ring_orders).binds fun _ _ _ _ _ _ us hl => match us, hl with | [_, _, _], _ => rfl
    mg_law_ring_orders := PySem.W.mg_of X G xmg_law_ring_orders
    F_law_told_cut := fun_mk (st := s_law_told_cut) l_law_told_cut c_law_told_cut k_law_told_cut
    b_law_told_cut := (fun_mk (st := s_law_told_cut) l_law_told_cut c_law_told_cut k_law_told_cut).binds fun _ _ _ _ _ _ us hl => match us, hl with | [_, _], _ => rfl
    mg_law_told_cut := PySem.W.mg_of X G xmg_law_told_cut
    F_law_cut_right := fun_mk (st := s_law_cut_right) l_law_cut_right c_law_cut_right k_law_cut_right
    b_law_cut_right := (fun_mk (st := s_law_cut_right) l_law_cut_right c_law_cut_right k_law_cut_right).binds fun _ _ _ _ _ _ us hl => match us, hl with | [_, _, _, _, _], _ => rfl
    mg_law_cut_right := PySem.W.mg_of X G xmg_law_cut_right
    F_law_ring_right := fun_mk (st := s_law_ring_right) l_law_ring_right c_law_ring_right k_law_ring_right
    b_law_ring_right := (fun_mk (st := s_law_ring_right) l_law_ring_right c_law_ring_right k_law_ring_right).binds fun _ _ _ _ _ _ us hl => match us, hl with | [_, _, _, _], _ => rfl
    mg_law_ring_right := PySem.W.mg_of X G xmg_law_ring_right
    F_law_other_lists := fun_mk (st := s_law_other_lists) l_law_other_lists c_law_other_lists k_law_other_lists
    b_law_other_lists := (fun_mk (st := s_law_other_lists) l_law_other_lists c_law_other_lists k_law_other_lists).binds fun _ _ _ _ _ _ us hl => match us, hl with | [_, _, _], _ => rfl
    mg_law_other_lists := PySem.W.mg_of X G xmg_law_other_lists
    F_law := fun_mk (st := s_law) l_law c_law k_law
    b_law := (fun_mk (st := s_law) l_law c_law k_law).binds fun _ _ _ _ _ _ us hl => match us, hl with | [_], _ => rfl
    mg_law := PySem.W.mg_of X G xmg_law
  }
  exact ⟨_, fun s v => .of_eq rfl, fun base _ _ => ok_law T⟩
theorem walk {l : PySem.W.OpenLaw} {q : Program} {loose : List Str} {XP : (Str → Option Value) → Heap → Prop} {YP : World → Heap → Prop} {d : DefRec} {K : Params → PySem.W.Frag} (hn : l.most = some 63) (hdf : d.params.defaults = [])
    (hY : ∀ (w : World) (h : Heap), YP w h → (K w.params).In h)
    (F : ∀ (w : World) (mg : Str → Option Value) (fa : Addr) (h : Heap), (K w.params).In h → h.Ns mainGlobals mg → mg d.name = some (.ref fa) →
      ∃ fd : FuncData, (∀ (s : Shared) (u : Value), BindsTo s fd ⟨[u], []⟩ [("script", u)]) ∧ ∀ base : Heap, (K w.params).In base → base.Ns mainGlobals mg → FnOk l.prog w (K w.params) mg base CX0 20 fa fd ["script"] (spLaw (K w.params))) :
    PySem.W.WalkO q loose XP YP l.row.toRowW d [] (fun f vs => PySem.call f vs) :=
  L2.walk_of (n := 63) (k := 20) (x := "script") (CX := fun _ => CX0) (sp := fun w => spLaw (K w.params)) hn (by decide) hdf ⟨rfl, by decide, by decide⟩ hY F (fun _ _ a ns hl _ hS => ⟨a, ns, rfl, hS, hl, fun _ => rfl⟩) fun _ _ _ _ _ z => z
end My
open PySem PySem.W PyProof.Rows
set_option maxRecDepth 100000 in
set_option maxHeartbeats 0 in
theorem PySem.Challenge.cw_unbrokenrows_k35_tables_cut_open_holds : PySem.Challenge.rw_unbrokenrows_k35_tables_cut_open.Holds := by
  w_on; o_law; k_head; (case hw => w_witness2)
  k_fill
  refine My.walk (l := PySem.Challenge.rw_unbrokenrows_k35_tables_cut_open) rfl rfl (fun w h Y => PySem.W.kIn_of Y) ?F
  case F =>
    intro w mg fa h KX G hmg
    refine' My.all_mk KX G hmg ?xmg_Table ?xmg_Round ?xmg_RowsError ?xmg_Unknown ?xmg_Impossible ?xmg_UnknownColumn ?am_UnknownColumn_init ?xmg_LONGEST_NAME ?xmg_is_name ?xmg_first_bad_name ?xmg_first_stray ?xmg_order_fault ?xmg_count_runs ?xmg_runs_of ?xmg_check_order ?xmg_broken ?xmg_is_layout ?xmg_check_columns ?xmg_check_known ?xmg_check_rows ?am_Table_in_order ?am_Table_inside_out ?am_Table_init ?am_Table_only ?am_Table_turned ?am_Round_init ?am_Round_cut ?xmg_is_ring_layout ?xmg_is_unbroken_round ?xmg_cut_table ?xmg_law_cell ?xmg_law_pool ?xmg_law_size ?xmg_law_names ?xmg_law_order ?xmg_law_row ?xmg_law_rows ?xmg_law_all_orders ?xmg_law_sorted ?xmg_law_is_order ?xmg_law_arc ?xmg_law_on_ring ?xmg_law_is_ring_layout ?xmg_law_round_from ?xmg_law_turned_row ?xmg_law_cut_rows ?xmg_law_ring_orders ?xmg_law_told_cut ?xmg_law_cut_right ?xmg_law_ring_right ?xmg_law_other_lists ?xmg_law ?if_Table_in_order ?if_Table_inside_out ?if_Table_init ?if_Table_only ?if_Table_turned ?if_Round_init ?if_Round_cut ?l_UnknownColumn_init ?l_is_name ?l_first_bad_name ?l_first_stray ?l_order_fault ?l_count_runs ?l_runs_of ?l_check_order ?l_broken ?l_is_layout ?l_check_columns ?l_check_known ?l_check_rows ?l_Table_in_order ?l_Table_inside_out ?l_Table_init ?l_Table_only ?l_Table_turned ?l_Round_init ?l_Round_cut ?l_is_ring_layout ?l_is_unbroken_round ?l_cut_table ?l_law_cell ?l_law_pool ?l_law_size ?l_law_names ?l_law_order ?l_law_row ?l_law_rows ?l_law_all_orders ?l_law_sorted ?l_law_is_order ?l_law_arc ?l_law_on_ring ?l_law_is_ring_layout ?l_law_round_from ?l_law_turned_row ?l_law_cut_rows ?l_law_ring_orders ?l_law_told_cut ?l_law_cut_right ?l_law_ring_right ?l_law_other_lists ?l_law ?lx_UnknownColumn_init ?lq_UnknownColumn_init ?c_UnknownColumn_init ?c_is_name ?k_is_name ?c_first_bad_name ?k_first_bad_name ?c_first_stray ?k_first_stray ?c_order_fault ?k_order_fault ?c_count_runs ?k_count_runs ?c_runs_of ?k_runs_of ?c_check_order ?k_check_order ?c_broken ?k_broken ?c_is_layout ?k_is_layout ?c_check_columns ?k_check_columns ?c_check_known ?k_check_known ?c_check_rows ?k_check_rows ?c_Table_in_order ?k_Table_in_order ?c_Table_inside_out ?k_Table_inside_out ?c_Table_init ?k_Table_init ?lt_Table_init ?c_Table_only ?k_Table_only ?c_Table_turned ?k_Table_turned ?c_Round_init ?k_Round_init ?c_Round_cut ?k_Round_cut ?c_is_ring_layout ?k_is_ring_layout ?c_is_unbroken_round ?k_is_unbroken_round ?c_cut_table ?k_cut_table ?c_law_cell ?k_law_cell ?c_law_pool ?k_law_pool ?c_law_size ?k_law_size ?c_law_names ?k_law_names ?c_law_order ?k_law_order ?c_law_row ?k_law_row ?c_law_rows ?k_law_rows ?c_law_all_orders ?k_law_all_orders ?c_law_sorted ?k_law_sorted ?c_law_is_order ?k_law_is_order ?c_law_arc ?k_law_arc ?c_law_on_ring ?k_law_on_ring ?c_law_is_ring_layout ?k_law_is_ring_layout ?c_law_round_from ?k_law_round_from ?c_law_turned_row ?k_law_turned_row ?c_law_cut_rows ?k_law_cut_rows ?c_law_ring_orders ?k_law_ring_orders ?c_law_told_cut ?k_law_told_cut ?c_law_cut_right ?k_law_cut_right ?c_law_ring_right ?k_law_ring_right ?c_law_other_lists ?k_law_other_lists ?c_law ?k_law ?pgcl_Table ?hdcl_Table ?pocl_Table ?sacl_Table ?xsf_Table ?kmk_Table ?kkmk_Table ?xc1_Table ?xc3_Table ?xn_Table_columns ?xn_Table_rows ?pgcl_Round ?hdcl_Round ?pocl_Round ?sacl_Round ?xsf_Round ?kmk_Round ?kkmk_Round ?xc1_Round ?xc3_Round ?xn_Round_names ?xc2 ?xc4 ?xtp_RowsError ?xic_RowsError ?xtp_Unknown ?xic_Unknown ?xtp_Impossible ?xic_Impossible ?xtp_UnknownColumn ?xic_UnknownColumn ?g1SC_UnknownColumn ?g2SC_UnknownColumn ?ksSC_UnknownColumn ?g4SC_UnknownColumn ?g5SC_UnknownColumn ?rfSC_UnknownColumn ?kxSC_UnknownColumn ?g6SC_UnknownColumn ?rv_UnknownColumn_init ?rg_UnknownColumn_init ?xti_UnknownColumn ?xxn_UnknownColumn_name ?xk_UnknownColumn ?xbp_UnknownColumn ?xsv_UnknownColumn ?xss_UnknownColumn ?xsu_UnknownColumn_RowsError ?xsu_UnknownColumn_Unknown ?xsu_UnknownColumn_Impossible ?xe1_UnknownColumn ?xe2_UnknownColumn ?xe3_UnknownColumn ?xe4_UnknownColumn ?xe5_UnknownColumn ?r1cr_Table ?r2cr_Table ?xcv_Table_MOST_COLUMNS ?xcv_Table_MOST_ROWS ?xn_abs ?xn_int ?xn_isinstance ?xn_range ?xn_len ?xn_str ?xn_tuple ?xn_list ?xn_ValueError ?xn_all ?xn_min ?xn_enumerate ?xn_bool
    (case xmg_Table => k_is)
    (case xmg_Round => k_is)
    (case xmg_RowsError => k_is)
    (case xmg_Unknown => k_is)
    (case xmg_Impossible => k_is)
    (case xmg_UnknownColumn => k_is)
    (case am_UnknownColumn_init => k_is)
    (case xmg_LONGEST_NAME => k_is)
    (case xmg_is_name => k_is)
    (case xmg_first_bad_name => k_is)
    (case xmg_first_stray => k_is)
    (case xmg_order_fault => k_is)
    (case xmg_count_runs => k_is)
    (case xmg_runs_of => k_is)
    (case xmg_check_order => k_is)
    (case xmg_broken => k_is)
    (case xmg_is_layout => k_is)
    (case xmg_check_columns => k_is)
    (case xmg_check_known => k_is)
    (case xmg_check_rows => k_is)
    (case am_Table_in_order => k_is)
    (case am_Table_inside_out => k_is)
    (case am_Table_init => k_is)
    (case am_Table_only => k_is)
    (case am_Table_turned => k_is)
    (case am_Round_init => k_is)
    (case am_Round_cut => k_is)
    (case xmg_is_ring_layout => k_is)
    (case xmg_is_unbroken_round => k_is)
    (case xmg_cut_table => k_is)
    (case xmg_law_cell => k_is)
    (case xmg_law_pool => k_is)
    (case xmg_law_size => k_is)
    (case xmg_law_names => k_is)
    (case xmg_law_order => k_is)
    (case xmg_law_row => k_is)
    (case xmg_law_rows => k_is)
    (case xmg_law_all_orders => k_is)
    (case xmg_law_sorted => k_is)
    (case xmg_law_is_order => k_is)
    (case xmg_law_arc => k_is)
    (case xmg_law_on_ring => k_is)
    (case xmg_law_is_ring_layout => k_is)
    (case xmg_law_round_from => k_is)
    (case xmg_law_turned_row => k_is)
    (case xmg_law_cut_rows => k_is)
    (case xmg_law_ring_orders => k_is)
    (case xmg_law_told_cut => k_is)
    (case xmg_law_cut_right => k_is)
    (case xmg_law_ring_right => k_is)
    (case xmg_law_other_lists => k_is)
    (case xmg_law => k_is)
    (case if_Table_in_order => k_is)
    (case if_Table_inside_out => k_is)
    (case if_Table_init => k_is)
    (case if_Table_only => k_is)
    (case if_Table_turned => k_is)
    (case if_Round_init => k_is)
    (case if_Round_cut => k_is)
    (case l_UnknownColumn_init => k_is)
    (case l_is_name => k_is)
    (case l_first_bad_name => k_is)
    (case l_first_stray => k_is)
    (case l_order_fault => k_is)
    (case l_count_runs => k_is)
    (case l_runs_of => k_is)
    (case l_check_order => k_is)
    (case l_broken => k_is)
    (case l_is_layout => k_is)
    (case l_check_columns => k_is)
    (case l_check_known => k_is)
    (case l_check_rows => k_is)
    (case l_Table_in_order => k_is)
    (case l_Table_inside_out => k_is)
    (case l_Table_init => k_is)
    (case l_Table_only => k_is)
    (case l_Table_turned => k_is)
    (case l_Round_init => k_is)
    (case l_Round_cut => k_is)
    (case l_is_ring_layout => k_is)
    (case l_is_unbroken_round => k_is)
    (case l_cut_table => k_is)
    (case l_law_cell => k_is)
    (case l_law_pool => k_is)
    (case l_law_size => k_is)
    (case l_law_names => k_is)
    (case l_law_order => k_is)
    (case l_law_row => k_is)
    (case l_law_rows => k_is)
    (case l_law_all_orders => k_is)
    (case l_law_sorted => k_is)
    (case l_law_is_order => k_is)
    (case l_law_arc => k_is)
    (case l_law_on_ring => k_is)
    (case l_law_is_ring_layout => k_is)
    (case l_law_round_from => k_is)
    (case l_law_turned_row => k_is)
    (case l_law_cut_rows => k_is)
    (case l_law_ring_orders => k_is)
    (case l_law_told_cut => k_is)
    (case l_law_cut_right => k_is)
    (case l_law_ring_right => k_is)
    (case l_law_other_lists => k_is)
    (case l_law => k_is)
    (case lx_UnknownColumn_init => k_is)
    (case lq_UnknownColumn_init => k_is)
    (case c_UnknownColumn_init => k_is)
    (case c_is_name => k_is)
    (case k_is_name => k_is)
    (case c_first_bad_name => k_is)
    (case k_first_bad_name => k_is)
    (case c_first_stray => k_is)
    (case k_first_stray => k_is)
    (case c_order_fault => k_is)
    (case k_order_fault => k_is)
    (case c_count_runs => k_is)
    (case k_count_runs => k_is)
    (case c_runs_of => k_is)
    (case k_runs_of => k_is)
    (case c_check_order => k_is)
    (case k_check_order => k_is)
    (case c_broken => k_is)
    (case k_broken => k_is)
    (case c_is_layout => k_is)
    (case k_is_layout => k_is)
    (case c_check_columns => k_is)
    (case k_check_columns => k_is)
    (case c_check_known => k_is)
    (case k_check_known => k_is)
    (case c_check_rows => k_is)
    (case k_check_rows => k_is)
    (case c_Table_in_order => k_is)
    (case k_Table_in_order => k_is)
    (case c_Table_inside_out => k_is)
    (case k_Table_inside_out => k_is)
    (case c_Table_init => k_is)
    (case k_Table_init => k_is)
    (case lt_Table_init => k_is)
    (case c_Table_only => k_is)
    (case k_Table_only => k_is)
    (case c_Table_turned => k_is)
    (case k_Table_turned => k_is)
    (case c_Round_init => k_is)
    (case k_Round_init => k_is)
    (case c_Round_cut => k_is)
    (case k_Round_cut => k_is)
    (case c_is_ring_layout => k_is)
    (case k_is_ring_layout => k_is)
    (case c_is_unbroken_round => k_is)
    (case k_is_unbroken_round => k_is)
    (case c_cut_table => k_is)
    (case k_cut_table => k_is)
    (case c_law_cell => k_is)
    (case k_law_cell => k_is)
    (case c_law_pool => k_is)
    (case k_law_pool => k_is)
    (case c_law_size => k_is)
    (case k_law_size => k_is)
    (case c_law_names => k_is)
    (case k_law_names => k_is)
    (case c_law_order => k_is)
    (case k_law_order => k_is)
    (case c_law_row => k_is)
    (case k_law_row => k_is)
    (case c_law_rows => k_is)
    (case k_law_rows => k_is)
    (case c_law_all_orders => k_is)
    (case k_law_all_orders => k_is)
    (case c_law_sorted => k_is)
    (case k_law_sorted => k_is)
    (case c_law_is_order => k_is)
    (case k_law_is_order => k_is)
    (case c_law_arc => k_is)
    (case k_law_arc => k_is)
    (case c_law_on_ring => k_is)
    (case k_law_on_ring => k_is)
    (case c_law_is_ring_layout => k_is)
    (case k_law_is_ring_layout => k_is)
    (case c_law_round_from => k_is)
    (case k_law_round_from => k_is)
    (case c_law_turned_row => k_is)
    (case k_law_turned_row => k_is)
    (case c_law_cut_rows => k_is)
    (case k_law_cut_rows => k_is)
    (case c_law_ring_orders => k_is)
    (case k_law_ring_orders => k_is)
    (case c_law_told_cut => k_is)
    (case k_law_told_cut => k_is)
    (case c_law_cut_right => k_is)
    (case k_law_cut_right => k_is)
    (case c_law_ring_right => k_is)
    (case k_law_ring_right => k_is)
    (case c_law_other_lists => k_is)
    (case k_law_other_lists => k_is)
    (case c_law => k_is)
    (case k_law => k_is)
    (case pgcl_Table => k_is)
    (case hdcl_Table => k_is)
    (case pocl_Table => k_is)
    (case sacl_Table => k_is)
    (case xsf_Table => k_is)
    (case kmk_Table => k_is)
    (case kkmk_Table => k_is)
    (case xc1_Table => k_is)
    (case xc3_Table => k_is)
    (case xn_Table_columns => k_is)
    (case xn_Table_rows => k_is)
    (case pgcl_Round => k_is)
    (case hdcl_Round => k_is)
    (case pocl_Round => k_is)
    (case sacl_Round => k_is)
    (case xsf_Round => k_is)
    (case kmk_Round => k_is)
    (case kkmk_Round => k_is)
    (case xc1_Round => k_is)
    (case xc3_Round => k_is)
    (case xn_Round_names => k_is)
    (case xc2 => k_is)
    (case xc4 => k_is)
    (case xtp_RowsError => k_is)
    (case xic_RowsError => k_is)
    (case xtp_Unknown => k_is)
    (case xic_Unknown => k_is)
    (case xtp_Impossible => k_is)
    (case xic_Impossible => k_is)
    (case xtp_UnknownColumn => k_is)
    (case xic_UnknownColumn => k_is)
    (case g1SC_UnknownColumn => k_is)
    (case g2SC_UnknownColumn => k_is)
    (case ksSC_UnknownColumn => ks_is)
    (case g4SC_UnknownColumn => k_is)
    (case g5SC_UnknownColumn => k_is)
    (case rfSC_UnknownColumn => first | rfl | decide +kernel)
    (case kxSC_UnknownColumn => kx_is)
    (case g6SC_UnknownColumn => k_is)
    (case rv_UnknownColumn_init => first | rfl | decide +kernel)
    (case rg_UnknownColumn_init => first | rfl | decide +kernel)
    (case xti_UnknownColumn => k_is)
    (case xxn_UnknownColumn_name => k_is)
    (case xk_UnknownColumn => k_is)
    (case xbp_UnknownColumn => k_is)
    (case xsv_UnknownColumn => k_is)
    (case xss_UnknownColumn => k_is)
    (case xsu_UnknownColumn_RowsError => k_is)
    (case xsu_UnknownColumn_Unknown => k_is)
    (case xsu_UnknownColumn_Impossible => k_is)
    (case xe1_UnknownColumn => k_is)
    (case xe2_UnknownColumn => k_is)
    (case xe3_UnknownColumn => k_is)
    (case xe4_UnknownColumn => k_is)
    (case xe5_UnknownColumn => k_is)
    (case r1cr_Table => k_is)
    (case r2cr_Table => k_is)
    (case xcv_Table_MOST_COLUMNS => k_is)
    (case xcv_Table_MOST_ROWS => k_is)
    (case xn_abs => k_is)
    (case xn_int => k_is)
    (case xn_isinstance => k_is)
    (case xn_range => k_is)
    (case xn_len => k_is)
    (case xn_str => k_is)
    (case xn_tuple => k_is)
    (case xn_list => k_is)
    (case xn_ValueError => k_is)
    (case xn_all => k_is)
    (case xn_min => k_is)
    (case xn_enumerate => k_is)
    (case xn_bool => k_is)
#print axioms PySem.Challenge.cw_unbrokenrows_k35_tables_cut_open_holds
