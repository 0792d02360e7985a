import PyProof.Rows.All
import Wide.All
import OpenK.AllK
import Wide.FinOn
import HandS.Base
import HandS.Call
import HandS.List
import HandS.OwnEq
import HandS.Ends
import HandS.ForMost
import HandS.Gcd
import HandS.Wide
import HandS.IsInst
import HandS.Defaults
import HandS.Codes
import PySem.Challenge.RW_unbrokenrows_k00_share_arithmetic
set_option Elab.async false
set_option linter.all false
set_option maxRecDepth 100000
namespace My
open PySem PySem.Spec PyProof.Rows L2
section
variable {X : Cx} {CX : CXT} {n : Nat} {f C : Addr} {fd : FuncData} {ps : List Str} {sp : Sp} {E : XK}
/-- a promise, called anywhere in the running body -/
theorem call_at (G0 : FnOk X.prog X.w X.K X.mg X.base CX n f fd ps sp) (hb : Binds X.K fd ps []) (hx : Passes CX X E) {A : Around} (hr : Room n A) (hA : A.frames = X.A.frames)
    {pins : List (Addr × Obj)} {s : Shared} {σ : L2.St} {H : Hp} (I : Inv X pins σ H s) {vs : List V} {us : List Value} (r : Vals vs us) {Q : VK} (h : sp vs H Q E) :
    wpAny (model X.prog X.w) A (call (.ref f) us) (EP X pins σ Q) X.xe s := by
  have e0 : Env0 X.prog X.w X.K X.mg X.base A X.stack s H := by
    have e := I.env0
    exact ⟨by rw [hA]; exact e.frames, e.mod, e.bs, e.bsz, e.funs, e.frf, e.hok, e.bare⟩
  have hl := G0.len _ _ _ _ h
  refine wpAny_call (codeAny_mono (G0.run A X.stack s H ⟨us, []⟩ us vs Q E hr e0 (by
    have := hb s us I.kIn (by rw [List.append_nil, ← r.length]; exact hl)
    simpa using this) r h) fun r s' hq => ?_)
  cases r with
  | error e => exact hx pins σ H s e s' I hq
  | ok fl =>
    cases fl with
    | ret w => exact I.after hq
    | next => exact False.elim hq
    | brk => exact False.elim hq
    | cont => exact False.elim hq
theorem relV_noNI {v : V} {u : Value} (r : RelV v u) : u ≠ .notImplemented := by
  intro e
  subst e
  cases v <;> first | (cases r; done) | (obtain ⟨_, z⟩ := r; cases z)
theorem cmpBack_of {pins : List (Addr × Obj)} {σ : L2.St} {Q : VK} {v : Value} {s : Shared} (h : EP X pins σ Q v s) : PySem.W.CmpBack (EP X pins σ Q) v s := by
  obtain ⟨x, H', I', r, q⟩ := id h
  cases v <;> first | exact h | exact absurd rfl (relV_noNI r)
/-- x op y, both instances of the class at C, by its own method -/
def rOwn2 (C : Addr) (sp : Sp) (E : XK) : R2 := fun x y H Q => ∃ a b dx dy fs gs, x = .ref a ∧ y = .ref b ∧ H a = some (.ins C dx fs) ∧ H b = some (.ins C dy gs) ∧ sp [.ref a, .ref b] H Q E
theorem op_own2 {op : Operator} (G0 : FnOk X.prog X.w X.K X.mg X.base CX n f fd ps sp) (hb : Binds X.K fd ps []) (hx : Passes CX X E) (hr : Room n X.A)
    (hs : PySem.W.findIn X.K (.ref C) (PySem.dunder op.info.2) = some (some (.ref f))) (hf : PySem.W.isFn X.K (.ref f) = true) (hc : PySem.W.selfFirst X.K C = true) : OpR X (binaryOp op) (rOwn2 C sp E) := by
  intro pins s σ H x y v u Q I rx ry h
  obtain ⟨a, b, dx, dy, fs, gs, rfl, rfl, ha, hb', q⟩ := h
  cases rx
  cases ry
  obtain ⟨mA, J, _⟩ := ins_get I.hok ha
  obtain ⟨mB, J', _⟩ := ins_get I.hok hb'
  obtain ⟨od, J, _⟩ := J.look
  obtain ⟨od', J', _⟩ := J'.look
  obtain ⟨m, hF⟩ := I.fr
  refine PySem.W.binop_K hF I.ok.mod.kin J J'.type hc hs hf ?_
  exact wpAny_mono (call_at G0 hb hx hr rfl I (vs := [.ref a, .ref b]) (.cons rfl (.cons rfl .nil)) q) (fun v s' z => cmpBack_of z) fun _ _ z => z
/-- x op k, x such an instance, k a whole number -/
def rOwnI (C : Addr) (sp : Sp) (E : XK) : R2 := fun x y H Q => ∃ a dx fs k, x = .ref a ∧ y = .int k ∧ H a = some (.ins C dx fs) ∧ sp [.ref a, .int k] H Q E
theorem op_ownI {op : Operator} {fo ro rc : Option Value} (G0 : FnOk X.prog X.w X.K X.mg X.base CX n f fd ps sp) (hb : Binds X.K fd ps []) (hx : Passes CX X E) (hr : Room n X.A)
    (hs : PySem.W.findIn X.K (.ref C) (PySem.dunder op.info.2) = some (some (.ref f))) (hf : PySem.W.isFn X.K (.ref f) = true) (hc : PySem.W.selfFirst X.K C = true)
    (hrr : PySem.W.findIn X.K (.ref C) (dunderR op.info.2) = some rc) (hp : rc = none ∨ ∃ g : Addr, rc = some (.ref g))
    (h1 : PySem.W.findIn X.K (.type "int") (PySem.dunder op.info.2) = some fo) (h2 : PySem.W.findIn X.K (.type "int") (dunderR op.info.2) = some ro) (hsub : PySem.W.subIn X.K (.type "int") (.ref C) = some false) :
    OpR X (binaryOp op) (rOwnI C sp E) := by
  intro pins s σ H x y v u Q I rx ry h
  obtain ⟨a, dx, fs, k, rfl, rfl, ha, q⟩ := h
  cases rx
  obtain ⟨t, rfl⟩ := ry
  obtain ⟨mA, J, _⟩ := ins_get I.hok ha
  obtain ⟨od, J, _⟩ := J.look
  obtain ⟨m, hF⟩ := I.fr
  refine PySem.W.ksp_binT (T := "int") hF I.ok.mod.kin J rfl hc hs hf hrr hp h1 h2 hsub ?_
  exact wpAny_mono (call_at G0 hb hx hr rfl I (vs := [.ref a, .int k]) (.cons rfl (.cons ⟨_, rfl⟩ .nil)) q) (fun v s' z => cmpBack_of z) fun _ _ z => z
/-- one-place operators of such an instance -/
def rOwn1 (C : Addr) (sp : Sp) (E : XK) : V → Hp → VK → Prop := fun x H Q => ∃ a dx fs, x = .ref a ∧ H a = some (.ins C dx fs) ∧ sp [.ref a] H Q E
theorem un_own (G0 : FnOk X.prog X.w X.K X.mg X.base CX n f fd ps sp) (hb : Binds X.K fd ps []) (hx : Passes CX X E) (hr : Room n X.A)
    (hs : PySem.W.findIn X.K (.ref C) "__neg__" = some (some (.ref f))) (hf : PySem.W.isFn X.K (.ref f) = true) : UnR X (unaryOp .USub) (rOwn1 C sp E) := by
  intro pins s σ H x v Q I rx h
  obtain ⟨a, dx, fs, rfl, ha, q⟩ := h
  cases rx
  obtain ⟨mA, J, _⟩ := ins_get I.hok ha
  obtain ⟨od, J, _⟩ := J.look
  obtain ⟨m, hF⟩ := I.fr
  exact PySem.W.ksp_neg hF I.ok.mod.kin J hs hf (call_at G0 hb hx hr rfl I (vs := [.ref a]) (.cons rfl .nil) q)
/-- abs(x), bool(x) of such an instance -/
theorem call_absOwn (G0 : FnOk X.prog X.w X.K X.mg X.base CX n f fd ps sp) (hb : Binds X.K fd ps []) (hx : Passes CX X E) (hr : Room (n + 1) X.A)
    (hs : PySem.W.findIn X.K (.ref C) "__abs__" = some (some (.ref f))) (hf : PySem.W.isFn X.K (.ref f) = true) :
    CallR X (.builtin "abs") (fun xs H Q => ∃ a dx fs, xs = [V.ref a] ∧ H a = some (.ins C dx fs) ∧ sp [.ref a] H Q E) := by
  intro pins s σ H xs us Q I r h
  obtain ⟨a, dx, fs, rfl, ha, q⟩ := h
  obtain ⟨u, rfl, r1⟩ := vals1 r
  cases r1
  obtain ⟨mA, J, _⟩ := ins_get I.hok ha
  obtain ⟨od, J, _⟩ := J.look
  refine PySem.Calls.call_function_entry kind_abs plain_abs entry_abs (args_abs _) ?_
  unfold Builtin.«abs»
  refine wpAny_bind (m := oneArg "abs" _) (wpAny_pure ?_)
  refine wpAny_bind (m := callSpecial? (.ref a) (Str.ofString "__abs__")) (PySem.W.special_fn I.kIn J hs (beq_iff_eq.mp hf) ?_)
  refine wpAny_mono (call_at G0 hb hx (A := X.A.in1) hr.in1 rfl I (vs := [.ref a]) (.cons rfl .nil) q) (fun v s' z => ?_) fun _ _ z => z
  exact wpAny_pure ⟨_, rfl, z⟩
theorem meets_bool_own (prog : Program) (w : World) (l : Addr) : MeetsIn prog w (Builtin.«bool.__new__» ⟨[.type "bool", .ref l], []⟩)
    (fun A R s => wpAny (model prog w) A.in1 (truthy (.ref l)) (fun b s' => R (.ok (.ret (.bool b))) s') (fun e s' => R (.error e) s') s) := by
  intro A R s hs
  have f1 := F.conv_sub_bool
  unfold Builtin.«bool.__new__»
  dsimp only
  repeat (any_goals (first | assumption | (with_reducible refine wpAny_mono hs (fun b s' z => ?_) (fun _ _ z => z)) | wp_step))
  all_goals first | exact z | skip
theorem call_boolOwn (G0 : FnOk X.prog X.w X.K X.mg X.base CX n f fd ps sp) (hb : Binds X.K fd ps []) (hx : Passes CX X E) (hr : Room (n + 2) X.A)
    (hs : PySem.W.findIn X.K (.ref C) "__bool__" = some (some (.ref f))) (hf : PySem.W.isFn X.K (.ref f) = true) :
    CallR X (.type "bool") (fun xs H Q => ∃ a dx fs, xs = [V.ref a] ∧ H a = some (.ins C dx fs) ∧ sp [.ref a] H (fun v H' => ∃ k, v = .bl k ∧ Q v H') E) := by
  intro pins s σ H xs us Q I r h
  obtain ⟨a, dx, fs, rfl, ha, q⟩ := h
  obtain ⟨u, rfl, r1⟩ := vals1 r
  cases r1
  obtain ⟨mA, J, _⟩ := ins_get I.hok ha
  obtain ⟨od, J, _⟩ := J.look
  obtain ⟨m, hF⟩ := I.fr
  refine callType_newIn F.called_bool F.newNe_bool (F.typeCall_bool_1 _) (F.newCall_bool_1 _) (fun obj => F.args_object_init_2 obj _) F.entry_bool_new (meets_bool_own X.prog X.w a) ?_
  refine PySem.W.truthy_K hF I.ok.mod.kin J hs hf ?_
  refine wpAny_mono (call_at G0 hb hx (A := X.A.in1.in1) hr.in1.in1 rfl I (vs := [.ref a]) (.cons rfl .nil) q) (fun v s' z => ?_) fun _ _ z => z
  obtain ⟨x, H', I', r, k, rfl, q'⟩ := z
  cases r
  exact ⟨PySem.typeIs_bool _ _, .bl k, H', I', rfl, q'⟩
/-- == of two such instances -/
def rOwnEq (C : Addr) (sp : Sp) (E : XK) : R2 := fun x y H Q => ∃ a b dx dy fs gs, x = .ref a ∧ y = .ref b ∧ H a = some (.ins C dx fs) ∧ H b = some (.ins C dy gs) ∧ sp [.ref a, .ref b] H Q E
theorem op_eqOwn (G0 : FnOk X.prog X.w X.K X.mg X.base CX n f fd ps sp) (hb : Binds X.K fd ps []) (hx : Passes CX X E) (hr : Room n X.A)
    (hs : PySem.W.findIn X.K (.ref C) "__eq__" = some (some (.ref f))) (hf : PySem.W.isFn X.K (.ref f) = true) : OpR X (compareOp .Eq) (rOwnEq C sp E) := by
  intro pins s σ H x y v u Q I rx ry h
  obtain ⟨a, b, dx, dy, fs, gs, rfl, rfl, ha, hb', q⟩ := h
  cases rx
  cases ry
  obtain ⟨mA, J, _⟩ := ins_get I.hok ha
  obtain ⟨mB, J', _⟩ := ins_get I.hok hb'
  obtain ⟨od, J, _⟩ := J.look
  obtain ⟨od', J', _⟩ := J'.look
  obtain ⟨m, hF⟩ := I.fr
  show wpAny (model X.prog X.w) X.A (richCompare .Eq (.ref a) (.ref b)) (EP X pins σ Q) X.xe s
  refine PySem.W.cmp_K (op := .Eq) (tb := .ref C) hr.units0 hF I.ok.mod.kin J J'.type (by simp [PySem.W.notFirst]) hs hf ?_
  exact wpAny_mono (call_at G0 hb hx hr rfl I (vs := [.ref a, .ref b]) (.cons rfl (.cons rfl .nil)) q) (fun v s' z => cmpBack_of z) fun _ _ z => z
/-- k op x, k a whole number: the instance's reflected method -/
def rIOwn (C : Addr) (sp : Sp) (E : XK) : R2 := fun x y H Q => ∃ a dx fs k, x = .int k ∧ y = .ref a ∧ H a = some (.ins C dx fs) ∧ sp [.ref a, .int k] H Q E
theorem int_mul_ins (a : Int) (t : Tok) (l C dx : Addr) :
    Meets (Builtin.«int.__mul__» ⟨[.int a t, .ref l], []⟩) (fun _ R s => s.heap.get? l = some (PySem.W.instObj C dx) ∧ R (.ok (.ret Value.notImplemented)) s) :=
  .of_wp fun prog w A R s h => by obtain ⟨hp, g, d, tk, os⟩ := s; obtain ⟨hl, h⟩ := h; wp_walk; exact ⟨_, rfl, h⟩
set_option maxHeartbeats 4000000 in
theorem op_mulIOwn {g : Addr} (G0 : FnOk X.prog X.w X.K X.mg X.base CX n f fd ps sp) (hb : Binds X.K fd ps []) (hx : Passes CX X E) (hr : Room n X.A)
    (hs : PySem.W.findIn X.K (.ref C) (PySem.dunder "mul") = some (some (.ref g))) (hrr : PySem.W.findIn X.K (.ref C) (dunderR "mul") = some (some (.ref f))) (hf : PySem.W.isFn X.K (.ref f) = true) (hc : PySem.W.selfFirst X.K C = true)
    (hsub : PySem.W.subIn X.K (.ref C) (.type "int") = some false) : OpR X (binaryOp .Mult) (rIOwn C sp E) := by
  intro pins s σ H x y v u Q I rx ry h
  obtain ⟨a, dx, fs, k, rfl, rfl, ha, q⟩ := h
  obtain ⟨t, rfl⟩ := rx
  cases ry
  obtain ⟨mA, J, _⟩ := ins_get I.hok ha
  obtain ⟨od, J, hJ⟩ := J.look
  obtain ⟨m, hF⟩ := I.fr
  obtain ⟨cd, rest, hcd, hm⟩ := PySem.W.ksp_first hc
  have one := PySem.W.ksp_try (b := .int k t) (Q := EP X pins σ Q) I.kIn J hrr hf (wpAny_mono (call_at G0 hb hx hr rfl I (vs := [.ref a, .int k]) (us := [.ref a, .int k t]) (.cons rfl (.cons ⟨_, rfl⟩ .nil)) q) (fun v s' z => cmpBack_of z) fun _ _ z => z)
  have hob : s.heap.get? a = some (PySem.W.instObj C dx) := (I.hok a _ ha).2.2.2.1
  have dec : wpAny (model X.prog X.w) X.A (tryMethod (.int k t) (PySem.dunder "mul") (.ref a)) (fun r s' => r = none ∧ s' = s) X.xe s :=
    wpAny_tryMethod_declines (typeIs_int s k t) F.slot_int_mul (call_meets F.slot_int_mul (typeIs_int s k t) F.entry_int_mul (F.args_int_mul_2 _ _) (int_mul_ins k t a C dx) ⟨hob, rfl, rfl, rfl⟩)
  have X' := I.kIn
  have hne : (Value.type "int" == Value.ref C) = false := Bool.eq_false_iff.mpr fun q => by cases beq_iff_eq.mp q
  obtain ⟨hh, g', d, tt, os⟩ := s
  have L1 : PySem.W.Looks (model X.prog X.w) hh (typeOf (.int k t)) (.type "int") := PySem.W.Looks.of_pure rfl
  have L2 : PySem.W.Looks (model X.prog X.w) hh (typeOf (.ref a)) (.ref C) := J.type
  have L3 : PySem.W.Looks (model X.prog X.w) hh (fillsNumberSlot (.type "int") "mul") true := PySem.W.Looks.of_pure F.fills_int_mul
  have L4 : PySem.W.Looks (model X.prog X.w) hh (fillsNumberSlot (.ref C) "mul") true := PySem.W.fills_K X' hcd hm hs
  have L5 : PySem.W.Looks (model X.prog X.w) hh (isSubtype (.ref C) (.type "int")) false := PySem.W.looks_subIn X' hsub
  have L6 : PySem.W.Looks (model X.prog X.w) hh (numberSlotInPython (.type "int") "mul") false := PySem.W.Looks.of_pure rfl
  show wpAny _ _ (binaryOp .Mult (.int k t) (.ref a)) _ _ _
  simp only [binaryOp, Operator.info]
  refine wpAny_holding (wpAny_bind ?_)
  unfold binaryOp1
  refine wpAny_bind (L1.at (wpAny_bind (L2.at (wpAny_bind (L3.at ?_)))))
  simp only [hne, Bool.false_eq_true, if_false]
  ksp_lk
  refine wpAny_mono dec (fun r s' hr' => ?_) fun _ _ e => e
  obtain ⟨rfl, rfl⟩ := hr'
  ksp_lk
  refine wpAny_mono one (fun r s' hr' => ?_) fun _ _ e => e
  obtain ⟨v, rfl, hq⟩ := hr'
  ksp_lk
  exact hq
end
end My
set_option maxRecDepth 100000
set_option maxHeartbeats 4000000
namespace My
open PySem L2
def top (i : Nat) : Stmt := PySem.Challenge.pw_unbrokenrows_k00_share_arithmetic.main.body.getD i (.Pass ⟨0, 0, 0, 0⟩)
abbrev s_Share_init : Stmt := inClass (top 6) 0
abbrev s_Share_below : Stmt := inClass (top 6) 1
abbrev s_Share_add : Stmt := inClass (top 6) 3
abbrev s_Share_sub : Stmt := inClass (top 6) 4
abbrev s_Share_mul : Stmt := inClass (top 6) 5
abbrev s_Share_rmul : Stmt := inClass (top 6) 6
abbrev s_Share_neg : Stmt := inClass (top 6) 7
abbrev s_Share_abs : Stmt := inClass (top 6) 8
abbrev s_Share_bool : Stmt := inClass (top 6) 9
abbrev s_Share_eq : Stmt := inClass (top 6) 10
abbrev s_law_cell : Stmt := top 8
abbrev s_law_pool : Stmt := top 9
abbrev s_law_whole : Stmt := top 10
abbrev s_law_wide : Stmt := top 11
abbrev s_law_common : Stmt := top 12
abbrev s_law_is : Stmt := top 13
abbrev s_law_sums : Stmt := top 14
abbrev s_law_products : Stmt := top 15
abbrev s_law_compared : Stmt := top 16
abbrev s_law : Stmt := top 17
theorem sc_Share_init : FnScope ["self", "num", "den", "common"] ["self", "num", "den"] (defScope s_Share_init) := ⟨rfl, rfl, rfl, by decide +kernel, rfl, by decide +kernel, by decide +kernel⟩
theorem sc_Share_below : FnScope ["self", "other"] ["self", "other"] (defScope s_Share_below) := ⟨rfl, rfl, rfl, by decide +kernel, rfl, by decide +kernel, by decide +kernel⟩
theorem sc_Share_add : FnScope ["self", "other"] ["self", "other"] (defScope s_Share_add) := ⟨rfl, rfl, rfl, by decide +kernel, rfl, by decide +kernel, by decide +kernel⟩
theorem sc_Share_sub : FnScope ["self", "other"] ["self", "other"] (defScope s_Share_sub) := ⟨rfl, rfl, rfl, by decide +kernel, rfl, by decide +kernel, by decide +kernel⟩
theorem sc_Share_mul : FnScope ["self", "other"] ["self", "other"] (defScope s_Share_mul) := ⟨rfl, rfl, rfl, by decide +kernel, rfl, by decide +kernel, by decide +kernel⟩
theorem sc_Share_rmul : FnScope ["self", "other"] ["self", "other"] (defScope s_Share_rmul) := ⟨rfl, rfl, rfl, by decide +kernel, rfl, by decide +kernel, by decide +kernel⟩
theorem sc_Share_neg : FnScope ["self"] ["self"] (defScope s_Share_neg) := ⟨rfl, rfl, rfl, by decide +kernel, rfl, by decide +kernel, by decide +kernel⟩
theorem sc_Share_abs : FnScope ["self"] ["self"] (defScope s_Share_abs) := ⟨rfl, rfl, rfl, by decide +kernel, rfl, by decide +kernel, by decide +kernel⟩
theorem sc_Share_bool : FnScope ["self"] ["self"] (defScope s_Share_bool) := ⟨rfl, rfl, rfl, by decide +kernel, rfl, by decide +kernel, by decide +kernel⟩
theorem sc_Share_eq : FnScope ["self", "other"] ["self", "other"] (defScope s_Share_eq) := ⟨rfl, rfl, rfl, by decide +kernel, rfl, by decide +kernel, by decide +kernel⟩
theorem sc_law_cell : FnScope ["script", "k"] ["script", "k"] (defScope s_law_cell) := ⟨rfl, rfl, rfl, by decide +kernel, rfl, by decide +kernel, by decide +kernel⟩
theorem sc_law_pool : FnScope ["script", "k", "count", "value", "pool", "i", "first", "second", "third"] ["script", "k", "count"] (defScope s_law_pool) := ⟨rfl, rfl, rfl, by decide +kernel, rfl, by decide +kernel, by decide +kernel⟩
theorem sc_law_whole : FnScope ["pool", "i", "menu", "many", "draw"] ["pool", "i"] (defScope s_law_whole) := ⟨rfl, rfl, rfl, by decide +kernel, rfl, by decide +kernel, by decide +kernel⟩
theorem sc_law_wide : FnScope ["pool", "at", "spans", "span", "draw", "i"] ["pool", "at"] (defScope s_law_wide) := ⟨rfl, rfl, rfl, by decide +kernel, rfl, by decide +kernel, by decide +kernel⟩
theorem sc_law_common : FnScope ["one", "other"] ["one", "other"] (defScope s_law_common) := ⟨rfl, rfl, rfl, by decide +kernel, rfl, by decide +kernel, by decide +kernel⟩
theorem sc_law_is : FnScope ["found", "num", "den", "common"] ["found", "num", "den"] (defScope s_law_is) := ⟨rfl, rfl, rfl, by decide +kernel, rfl, by decide +kernel, by decide +kernel⟩
theorem sc_law_sums : FnScope ["x", "y", "a", "b", "c", "d"] ["x", "y", "a", "b", "c", "d"] (defScope s_law_sums) := ⟨rfl, rfl, rfl, by decide +kernel, rfl, by decide +kernel, by decide +kernel⟩
theorem sc_law_products : FnScope ["x", "y", "k", "a", "b", "c", "d"] ["x", "y", "k", "a", "b", "c", "d"] (defScope s_law_products) := ⟨rfl, rfl, rfl, by decide +kernel, rfl, by decide +kernel, by decide +kernel⟩
theorem sc_law_compared : FnScope ["x", "y", "a", "b", "c", "d", "told", "one", "left", "right"] ["x", "y", "a", "b", "c", "d"] (defScope s_law_compared) := ⟨rfl, rfl, rfl, by decide +kernel, rfl, by decide +kernel, by decide +kernel⟩
theorem sc_law : FnScope ["script", "pool", "a", "b", "c", "d", "k", "times", "x", "y"] ["script"] (defScope s_law) := ⟨rfl, rfl, rfl, by decide +kernel, rfl, by decide +kernel, by decide +kernel⟩
/-! ### whole numbers in lowest terms -/
/-- n / d is a / b in lowest terms -/
structure Rep (n d a b : Int) : Prop where
  pos : 0 < d
  cop : Nat.gcd n.natAbs d.natAbs = 1
  eq : n * b = a * d
  nz : b ≠ 0
theorem Rep.ex {n d a b : Int} (r : Rep n d a b) : ∃ k : Int, k ≠ 0 ∧ a = n * k ∧ b = d * k := by
  have hd : d ∣ b := by
    have h1 : d ∣ n * b := ⟨a, by rw [r.eq, Int.mul_comm]⟩
    have h2 : d.natAbs ∣ n.natAbs * b.natAbs := by rw [← Int.natAbs_mul]; exact Int.natAbs_dvd_natAbs.mpr h1
    have h3 : d.natAbs ∣ b.natAbs := (Nat.Coprime.dvd_of_dvd_mul_left (show Nat.Coprime d.natAbs n.natAbs from by rw [Nat.Coprime, Nat.gcd_comm]; exact r.cop) h2)
    exact Int.natAbs_dvd_natAbs.mp h3
  obtain ⟨k, hk⟩ := hd
  refine ⟨k, ?_, ?_, hk⟩
  · intro h; subst h; exact r.nz (by rw [hk, Int.mul_zero])
  · have h := r.eq
    rw [hk, ← Int.mul_assoc, Int.mul_comm n d, Int.mul_assoc, Int.mul_comm a d] at h
    exact (Int.eq_of_mul_eq_mul_left (Int.ne_of_gt r.pos) h).symm
/-- the divisor that makes it so -/
def redG (a b : Int) : Int := if b < 0 then -((Nat.gcd a.natAbs b.natAbs : Nat) : Int) else ((Nat.gcd a.natAbs b.natAbs : Nat) : Int)
theorem redG_ne {a b : Int} (h : b ≠ 0) : redG a b ≠ 0 := by
  have : 0 < Nat.gcd a.natAbs b.natAbs := Nat.gcd_pos_of_pos_right _ (Int.natAbs_pos.mpr h)
  unfold redG; split <;> omega
theorem redG_abs (a b : Int) : (redG a b).natAbs = Nat.gcd a.natAbs b.natAbs := by
  unfold redG; split <;> simp
theorem redG_le {a b : Int} (h : b ≠ 0) : (redG a b).natAbs ≤ b.natAbs := by
  rw [redG_abs]; exact Nat.gcd_le_right _ (Int.natAbs_pos.mpr h)
theorem rep_of_mul {n d a b : Int} (h : b ≠ 0) (e1 : n * redG a b = a) (e2 : d * redG a b = b) : Rep n d a b := by
  have hg := redG_ne (a := a) h
  have hp : 0 < Nat.gcd a.natAbs b.natAbs := Nat.gcd_pos_of_pos_right _ (Int.natAbs_pos.mpr h)
  refine ⟨?_, ?_, ?_, h⟩
  · unfold redG at e2
    split at e2
    · rename_i hb
      rcases Int.lt_trichotomy d 0 with hd | hd | hd
      · have := Int.mul_pos_of_neg_of_neg hd (show -((Nat.gcd a.natAbs b.natAbs : Nat) : Int) < 0 by omega)
        omega
      · subst hd; rw [Int.zero_mul] at e2; omega
      · exact hd
    · rename_i hb
      rcases Int.lt_trichotomy d 0 with hd | hd | hd
      · have := Int.mul_neg_of_neg_of_pos hd (show (0 : Int) < ((Nat.gcd a.natAbs b.natAbs : Nat) : Int) by omega)
        omega
      · subst hd; rw [Int.zero_mul] at e2; omega
      · exact hd
  · have h1 : a.natAbs = n.natAbs * Nat.gcd a.natAbs b.natAbs := by rw [← redG_abs a b, ← Int.natAbs_mul, e1]
    have h2 : b.natAbs = d.natAbs * Nat.gcd a.natAbs b.natAbs := by rw [← redG_abs a b, ← Int.natAbs_mul, e2]
    have h3 : Nat.gcd (n.natAbs * Nat.gcd a.natAbs b.natAbs) (d.natAbs * Nat.gcd a.natAbs b.natAbs) = Nat.gcd a.natAbs b.natAbs := by rw [← h1, ← h2]
    rw [Nat.gcd_mul_right] at h3
    have h4 : Nat.gcd n.natAbs d.natAbs * Nat.gcd a.natAbs b.natAbs = 1 * Nat.gcd a.natAbs b.natAbs := by rw [h3, Nat.one_mul]
    exact Nat.eq_of_mul_eq_mul_right hp h4
  · calc n * b = n * (d * redG a b) := by rw [e2]
      _ = (n * redG a b) * d := by rw [Int.mul_comm d, Int.mul_assoc]
      _ = a * d := by rw [e1]
theorem red_rep {a b : Int} (h : b ≠ 0) : Rep (a.fdiv (redG a b)) (b.fdiv (redG a b)) a b := by
  have hg := redG_ne (a := a) h
  have d1 : redG a b ∣ a := by rw [← Int.natAbs_dvd_natAbs, redG_abs]; exact Nat.gcd_dvd_left ..
  have d2 : redG a b ∣ b := by rw [← Int.natAbs_dvd_natAbs, redG_abs]; exact Nat.gcd_dvd_right ..
  exact rep_of_mul h (Int.fdiv_mul_cancel d1) (Int.fdiv_mul_cancel d2)
/-- and the other way -/
theorem Rep.muls {n d a b : Int} (r : Rep n d a b) : n * redG a b = a ∧ d * redG a b = b := by
  obtain ⟨k, hk, ea, eb⟩ := r.ex
  have e : redG a b = k := by
    unfold redG
    have e1 : Nat.gcd a.natAbs b.natAbs = k.natAbs := by rw [ea, eb, Int.natAbs_mul, Int.natAbs_mul, Nat.gcd_mul_right, r.cop, Nat.one_mul]
    rw [e1]
    have hp := r.pos
    split
    · rename_i hb
      have : k < 0 := by
        rcases Int.lt_trichotomy k 0 with h | h | h
        · exact h
        · exact absurd h hk
        · have := Int.mul_pos hp h; omega
      omega
    · rename_i hb
      have : 0 < k := by
        rcases Int.lt_trichotomy k 0 with h | h | h
        · have := Int.mul_neg_of_pos_of_neg hp h; omega
        · exact absurd h hk
        · exact h
      omega
  rw [e]
  exact ⟨ea.symm, eb.symm⟩
theorem Rep.le {n d a b : Int} (r : Rep n d a b) : n.natAbs ≤ a.natAbs ∧ d.natAbs ≤ b.natAbs := by
  obtain ⟨k, hk, ea, eb⟩ := r.ex
  have : 1 ≤ k.natAbs := Int.natAbs_pos.mpr hk
  rw [ea, eb, Int.natAbs_mul, Int.natAbs_mul]
  exact ⟨Nat.le_mul_of_pos_right _ this, Nat.le_mul_of_pos_right _ this⟩
/-- the same fraction in other terms -/
theorem Rep.to {n d a b x y : Int} (r : Rep n d x y) (hb : b ≠ 0) (e : x * b = a * y) : Rep n d a b := by
  refine ⟨r.pos, r.cop, ?_, hb⟩
  have h := r.eq
  have hy := r.nz
  refine Int.eq_of_mul_eq_mul_left hy ?_
  calc y * (n * b) = (n * y) * b := by rw [Int.mul_comm n y, Int.mul_assoc]
    _ = x * d * b := by rw [h]
    _ = (x * b) * d := by rw [Int.mul_assoc, Int.mul_comm d b, Int.mul_assoc]
    _ = a * y * d := by rw [e]
    _ = y * (a * d) := by rw [Int.mul_comm a y, Int.mul_assoc]
theorem sz {i : Int} {k m : Nat} (h : i.natAbs < 2 ^ k) (hk : k ≤ m) : i.natAbs < 2 ^ m := Nat.lt_of_lt_of_le h (Nat.pow_le_pow_right (by decide) hk)
theorem sz_mul {i j : Int} {k m : Nat} (h : i.natAbs < 2 ^ k) (h' : j.natAbs < 2 ^ m) : (i * j).natAbs < 2 ^ (k + m) := wide_lt h h'
theorem sz_add {i j : Int} {k : Nat} (h : i.natAbs < 2 ^ k) (h' : j.natAbs < 2 ^ k) : (i + j).natAbs < 2 ^ (k + 1) := by
  have : (i + j).natAbs ≤ i.natAbs + j.natAbs := Int.natAbs_add_le ..
  rw [Nat.pow_succ]; omega
theorem sz_sub {i j : Int} {k : Nat} (h : i.natAbs < 2 ^ k) (h' : j.natAbs < 2 ^ k) : (i - j).natAbs < 2 ^ (k + 1) := by
  have : (i - j).natAbs ≤ i.natAbs + j.natAbs := Int.natAbs_sub_le ..
  rw [Nat.pow_succ]; omega
theorem sz_neg {i : Int} {k : Nat} (h : i.natAbs < 2 ^ k) : (-i).natAbs < 2 ^ k := by rw [Int.natAbs_neg]; exact h
end My
set_option maxRecDepth 100000
set_option maxHeartbeats 4000000
namespace My
open PySem L2
/-- where the defs and classes stand -/
structure Ad where
  C_Share : Addr
  a_Share_init : Addr
  d_Share_init : FuncData
  a_Share_below : Addr
  d_Share_below : FuncData
  a_Share_add : Addr
  d_Share_add : FuncData
  a_Share_sub : Addr
  d_Share_sub : FuncData
  a_Share_mul : Addr
  d_Share_mul : FuncData
  a_Share_rmul : Addr
  d_Share_rmul : FuncData
  a_Share_neg : Addr
  d_Share_neg : FuncData
  a_Share_abs : Addr
  d_Share_abs : FuncData
  a_Share_bool : Addr
  d_Share_bool : FuncData
  a_Share_eq : Addr
  d_Share_eq : FuncData
  a_law_cell : Addr
  d_law_cell : FuncData
  a_law_pool : Addr
  d_law_pool : FuncData
  a_law_whole : Addr
  d_law_whole : FuncData
  a_law_wide : Addr
  d_law_wide : FuncData
  a_law_common : Addr
  d_law_common : FuncData
  a_law_is : Addr
  d_law_is : FuncData
  a_law_sums : Addr
  d_law_sums : FuncData
  a_law_products : Addr
  d_law_products : FuncData
  a_law_compared : Addr
  d_law_compared : FuncData
  a_law : Addr
  d_law : FuncData
/-- what the top has written -/
structure Txt (K : PySem.W.Frag) (mg : Str → Option Value) (A : Ad) : Prop where
  mg_Share : mg "Share" = some (.ref A.C_Share)
  cl_Share : Cls K A.C_Share
  sf_Share : PySem.W.selfFirst K A.C_Share = true
  mk_Share : Mk K A.C_Share A.a_Share_init
  c1_Share : PySem.W.findIn K (.ref A.C_Share) "__class__" = some (some (.builtin "object.__class__"))
  c3_Share : PySem.W.mroIn K A.C_Share (.type "object") = some true
  n_Share_num : NoAttr K A.C_Share "num"
  n_Share_den : NoAttr K A.C_Share "den"
  c2 : PySem.W.specialIn K (.builtin "object.__class__") "__get__" = some (some (.builtin "getset_descriptor.__get__"))
  c4 : PySem.W.takesIn K (.builtin "object.__class__") = some true
  n_abs : mg "abs" = none
  n_int : mg "int" = none
  n_bool : mg "bool" = none
  n_isinstance : mg "isinstance" = none
  n_range : mg "range" = none
  n_len : mg "len" = none
  mg_gcd : mg "gcd" = some (.builtin "math.gcd")
  sx_Share : PySem.W.subIn K (.ref A.C_Share) (.type "int") = some false
  su_Share : PySem.W.subIn K (.type "int") (.ref A.C_Share) = some false
  dr_Share_mul : PySem.W.findIn K (.ref A.C_Share) (dunderR "mul") = some (some (.ref A.a_Share_rmul))
  ti_mul : PySem.W.findIn K (.type "int") (PySem.dunder "mul") = some (some (.builtin "int.__mul__"))
  tr_mul : PySem.W.findIn K (.type "int") (dunderR "mul") = some (some (.builtin "int.__rmul__"))
  F_Share_init : FunD K "__init__" "Share.__init__" (defArgs s_Share_init) (defBody s_Share_init) (defScope s_Share_init) [.int 1] [] A.a_Share_init A.d_Share_init
  m_Share_init : Meth K A.C_Share "__init__" A.a_Share_init
  F_Share_below : Fun K "below" "Share.below" s_Share_below A.a_Share_below A.d_Share_below
  b_Share_below : Binds K A.d_Share_below ["self", "other"] []
  m_Share_below : Meth K A.C_Share "below" A.a_Share_below
  F_Share_add : Fun K "__add__" "Share.__add__" s_Share_add A.a_Share_add A.d_Share_add
  b_Share_add : Binds K A.d_Share_add ["self", "other"] []
  m_Share_add : Meth K A.C_Share "__add__" A.a_Share_add
  ds_Share_add : PySem.W.findIn K (.ref A.C_Share) (PySem.dunder "add") = some (some (.ref A.a_Share_add))
  F_Share_sub : Fun K "__sub__" "Share.__sub__" s_Share_sub A.a_Share_sub A.d_Share_sub
  b_Share_sub : Binds K A.d_Share_sub ["self", "other"] []
  m_Share_sub : Meth K A.C_Share "__sub__" A.a_Share_sub
  ds_Share_sub : PySem.W.findIn K (.ref A.C_Share) (PySem.dunder "sub") = some (some (.ref A.a_Share_sub))
  F_Share_mul : Fun K "__mul__" "Share.__mul__" s_Share_mul A.a_Share_mul A.d_Share_mul
  b_Share_mul : Binds K A.d_Share_mul ["self", "other"] []
  m_Share_mul : Meth K A.C_Share "__mul__" A.a_Share_mul
  ds_Share_mul : PySem.W.findIn K (.ref A.C_Share) (PySem.dunder "mul") = some (some (.ref A.a_Share_mul))
  F_Share_rmul : Fun K "__rmul__" "Share.__rmul__" s_Share_rmul A.a_Share_rmul A.d_Share_rmul
  b_Share_rmul : Binds K A.d_Share_rmul ["self", "other"] []
  m_Share_rmul : Meth K A.C_Share "__rmul__" A.a_Share_rmul
  F_Share_neg : Fun K "__neg__" "Share.__neg__" s_Share_neg A.a_Share_neg A.d_Share_neg
  b_Share_neg : Binds K A.d_Share_neg ["self"] []
  m_Share_neg : Meth K A.C_Share "__neg__" A.a_Share_neg
  F_Share_abs : Fun K "__abs__" "Share.__abs__" s_Share_abs A.a_Share_abs A.d_Share_abs
  b_Share_abs : Binds K A.d_Share_abs ["self"] []
  m_Share_abs : Meth K A.C_Share "__abs__" A.a_Share_abs
  F_Share_bool : Fun K "__bool__" "Share.__bool__" s_Share_bool A.a_Share_bool A.d_Share_bool
  b_Share_bool : Binds K A.d_Share_bool ["self"] []
  m_Share_bool : Meth K A.C_Share "__bool__" A.a_Share_bool
  F_Share_eq : Fun K "__eq__" "Share.__eq__" s_Share_eq A.a_Share_eq A.d_Share_eq
  b_Share_eq : Binds K A.d_Share_eq ["self", "other"] []
  m_Share_eq : Meth K A.C_Share "__eq__" A.a_Share_eq
  F_law_cell : Fun K "_law_cell" "_law_cell" s_law_cell A.a_law_cell A.d_law_cell
  b_law_cell : Binds K A.d_law_cell ["script", "k"] []
  mg_law_cell : mg "_law_cell" = some (.ref A.a_law_cell)
  F_law_pool : Fun K "_law_pool" "_law_pool" s_law_pool A.a_law_pool A.d_law_pool
  b_law_pool : Binds K A.d_law_pool ["script", "k", "count"] []
  mg_law_pool : mg "_law_pool" = some (.ref A.a_law_pool)
  F_law_whole : Fun K "_law_whole" "_law_whole" s_law_whole A.a_law_whole A.d_law_whole
  b_law_whole : Binds K A.d_law_whole ["pool", "i"] []
  mg_law_whole : mg "_law_whole" = some (.ref A.a_law_whole)
  F_law_wide : Fun K "_law_wide" "_law_wide" s_law_wide A.a_law_wide A.d_law_wide
  b_law_wide : Binds K A.d_law_wide ["pool", "at"] []
  mg_law_wide : mg "_law_wide" = some (.ref A.a_law_wide)
  F_law_common : Fun K "_law_common" "_law_common" s_law_common A.a_law_common A.d_law_common
  b_law_common : Binds K A.d_law_common ["one", "other"] []
  mg_law_common : mg "_law_common" = some (.ref A.a_law_common)
  F_law_is : Fun K "_law_is" "_law_is" s_law_is A.a_law_is A.d_law_is
  b_law_is : Binds K A.d_law_is ["found", "num", "den"] []
  mg_law_is : mg "_law_is" = some (.ref A.a_law_is)
  F_law_sums : Fun K "_law_sums" "_law_sums" s_law_sums A.a_law_sums A.d_law_sums
  b_law_sums : Binds K A.d_law_sums ["x", "y", "a", "b", "c", "d"] []
  mg_law_sums : mg "_law_sums" = some (.ref A.a_law_sums)
  F_law_products : Fun K "_law_products" "_law_products" s_law_products A.a_law_products A.d_law_products
  b_law_products : Binds K A.d_law_products ["x", "y", "k", "a", "b", "c", "d"] []
  mg_law_products : mg "_law_products" = some (.ref A.a_law_products)
  F_law_compared : Fun K "_law_compared" "_law_compared" s_law_compared A.a_law_compared A.d_law_compared
  b_law_compared : Binds K A.d_law_compared ["x", "y", "a", "b", "c", "d"] []
  mg_law_compared : mg "_law_compared" = some (.ref A.a_law_compared)
  F_law : Fun K "law" "law" s_law A.a_law A.d_law
  b_law : Binds K A.d_law ["script"] []
  mg_law : mg "law" = some (.ref A.a_law)
/-- // by any divisor but 0 below 2 ^ 9000 -/
def CDivX (_ j : Int) : Prop := j ≠ 0 ∧ j.natAbs < 2 ^ 9000
theorem op_fdivX {X : Cx} : OpR X (binaryOp .FloorDiv) (rI CDivX fun i j => .int (i.fdiv j)) := opI fun i j _ _ _ _ _ hc q =>
  PyProof.Rows.floordiv_int hc.1 q (.inl (PyProof.noPylong_of_log2 (PySem.Flt.log2_lt_of (by decide) hc.2)))
/-! ### a share -/
theorem knd : ¬ (("num" : Str) = "den") := by decide +kernel
def flds (n d : Int) : List (Str × V) := putF "den" (.int d) (putF "num" (.int n) [])
theorem flds_num (n d : Int) : (flds n d).lookup ("num" : Str) = some (.int n) := by
  unfold flds; rw [lookup_putF, if_neg knd, lookup_putF, if_pos rfl]
theorem flds_den (n d : Int) : (flds n d).lookup ("den" : Str) = some (.int d) := by
  unfold flds; rw [lookup_putF, if_pos rfl]
/-- the share n / d stands at p -/
def Sh (C : Addr) (H : Hp) (p : Addr) (n d : Int) : Prop := ∃ dx, H p = some (.ins C dx (flds n d))
theorem Sh.same {C : Addr} {H H' : Hp} {p : Addr} {n d : Int} (h : Sh C H p n d) (e : Same H H') : Sh C H' p n d := let ⟨dx, h⟩ := h; ⟨dx, e _ _ h⟩
abbrev SzN (i : Int) : Prop := i.natAbs < 2 ^ 1000
theorem itN {c A B : Prop} [Decidable c] (hc : ¬ c) (h : B) : if decide c = true then A else B := by
  rw [decide_eq_false hc]; exact iteF h
theorem itY {c A B : Prop} [Decidable c] (hc : c) (h : A) : if decide c = true then A else B := by
  rw [decide_eq_true hc]; exact iteT h
def spInit (C : Addr) : Sp := fun vs H Q _ => ∃ (p dx : Addr) (a b : Int), vs = [.ref p, .int a, .int b] ∧ H p = some (.ins C dx []) ∧ b ≠ 0 ∧ b.natAbs < 2 ^ 9000 ∧
  ∀ n d, Rep n d a b → Q .non (upd H p (.ins C dx (flds n d)))
/-- the shares' promise: what comes back is num / den in lowest terms -/
def Gives (C : Addr) (H : Hp) (Q : VK) (num den : Int) : Prop := ∀ r n d H', Same H H' → Sh C H' r n d → Rep n d num den → Q (.ref r) H'
def sp2 (C : Addr) (num den : Int → Int → Int → Int → Int) : Sp := fun vs H Q _ => ∃ (p q : Addr) (n d m e : Int), vs = [.ref p, .ref q] ∧ Sh C H p n d ∧ Sh C H q m e ∧ 0 < d ∧ 0 < e ∧ SzN n ∧ SzN d ∧ SzN m ∧ SzN e ∧
  Gives C H Q (num n d m e) (den n d m e)
def spI (C : Addr) : Sp := fun vs H Q _ => ∃ (p : Addr) (n d k : Int), vs = [.ref p, .int k] ∧ Sh C H p n d ∧ 0 < d ∧ SzN n ∧ SzN d ∧ SzN k ∧ Gives C H Q (n * k) d
def sp1 (C : Addr) (num : Int → Int) : Sp := fun vs H Q _ => ∃ (p : Addr) (n d : Int), vs = [.ref p] ∧ Sh C H p n d ∧ 0 < d ∧ SzN n ∧ SzN d ∧ Gives C H Q (num n) d
def spBool (C : Addr) : Sp := fun vs H Q _ => ∃ (p : Addr) (n d : Int), vs = [.ref p] ∧ Sh C H p n d ∧ Q (.bl (n != 0)) H
def spCmp (C : Addr) (f : Int → Int → Int → Int → Bool) : Sp := fun vs H Q _ => ∃ (p q : Addr) (n d m e : Int), vs = [.ref p, .ref q] ∧ Sh C H p n d ∧ Sh C H q m e ∧ SzN n ∧ SzN d ∧ SzN m ∧ SzN e ∧ Q (.bl (f n d m e)) H
section
variable {P : Program} {w : World} {K : PySem.W.Frag} {mg : Str → Option Value} {base : Heap} {A : Ad}
theorem Txt.ko_self (T : Txt K mg A) : PySem.W.kitOne K (.ref A.C_Share) (.ref A.C_Share) = some true := by
  unfold PySem.W.kitOne
  rw [if_pos (by simp)]
theorem Txt.ko_int (T : Txt K mg A) : PySem.W.kitOne K (.ref A.C_Share) (.type "int") = some false := by
  unfold PySem.W.kitOne PySem.W.kitCls
  rw [if_neg (by simp)]
  show (if PySem.W.kitMeta "int" = true then _ else _) = _
  rw [if_pos (by decide +kernel)]
  exact T.sx_Share
theorem Txt.bi (T : Txt K mg A) : Binds K A.d_Share_init ["self", "num", "den"] [] := by
  obtain ⟨ds, hv, hb⟩ := T.F_Share_init.binds1 (ps := ["self", "num", "den"]) 3 1 (by simp) rfl (fun T kV dc pm an cd ct us its hl hi => by
    match us, hl, its, hi with
    | [_, _, _], _, [_], _ => exact ⟨_, rfl, rfl⟩)
  cases hv
  exact hb
theorem Txt.bi1 (T : Txt K mg A) : ∃ ds, Vals [V.int 1] ds ∧ Binds K A.d_Share_init ["self", "num", "den"] ds := by
  obtain ⟨ds, hv, hb⟩ := T.F_Share_init.binds1 (ps := ["self", "num", "den"]) 2 0 (by simp) rfl (fun T kV dc pm an cd ct us its hl hi => by
    match us, hl, its, hi with
    | [_, _], _, [_], _ => exact ⟨_, rfl, rfl⟩)
  exact ⟨ds, hv, hb⟩
theorem ok_init (T : Txt K mg A) : FnOk P w K mg base CX0 1 A.a_Share_init A.d_Share_init ["self", "num", "den"] (spInit A.C_Share) := by
  refine T.F_Share_init.ok sc_Share_init (fun vs H Q E h => ?_) (fun cdv A' outer s H vs Q E hr h => ?_)
  · obtain ⟨p, dx, a, b, rfl, _⟩ := h
    rfl
  · obtain ⟨p, dx, a, b, rfl, hp, hb, hz, k⟩ := h
    refine ⟨_, (pss_cons (ps_if (pt_cmpR op_eq (pv 2) pe_int (nomark _)) (pss_one ps_never) pss_nil)
      (pss_cons (ps_set (i := 3) sc_Share_init.nd rfl (Or.inl rfl) (pe_callBfun cr_gcd rfl T.mg_gcd (pa_cons (pv 1) (pa_cons (pv 2) pa_nil))))
      (pss_cons (ps_if (pt_cmpR op_lt (pv 2) pe_int (nomark _)) (pss_one (ps_set (i := 3) sc_Share_init.nd rfl (Or.inl rfl) (pe_un un_neg (pv 3)))) pss_nil)
      (pss_cons (ps_fld (pv 0) (pe_op op_fdivX (pv 1) (pv 3)) rfl)
      (pss_one (ps_fld (pv 0) (pe_op op_fdivX (pv 2) (pv 3)) rfl)))))), ?_⟩
    refine ⟨_, rfl, rfl, _, rfl, itN (fun z => hb (by injection z)) ?_⟩
    refine ⟨_, rfl, _, rfl, a, b, rfl, ?_⟩
    refine ⟨_, rfl, _, _, rfl, rfl, _, rfl, ?_⟩
    have e0 : ∀ c : Int, c = redG a b → CDivX a c ∧ CDivX b c := fun c hc => by
      subst hc
      have h1 := redG_ne (a := a) hb
      have h2 := redG_le (a := a) hb
      exact ⟨⟨h1, by omega⟩, ⟨h1, by omega⟩⟩
    have rr := red_rep (a := a) hb
    by_cases hn : b < 0
    · refine itY hn ?_
      refine ⟨_, rfl, _, rfl, ?_⟩
      have ec : -((Nat.gcd a.natAbs b.natAbs : Nat) : Int) = redG a b := by unfold redG; rw [if_pos hn]
      refine ⟨_, rfl, _, rfl, _, _, rfl, rfl, (e0 _ ec).1, _, rfl, p, A.C_Share, dx, [], rfl, hp, T.cl_Share, T.n_Share_num, (by show 0 < 1000; decide), ?_⟩
      refine ⟨_, rfl, _, rfl, _, _, rfl, rfl, (e0 _ ec).2, _, rfl, p, A.C_Share, dx, _, rfl, upd_same, T.cl_Share, T.n_Share_den, (by show 1 < 1000; decide), ?_⟩
      have := k _ _ rr
      rw [← ec] at this
      rw [upd_upd]
      exact this
    · refine itN hn ?_
      have ec : ((Nat.gcd a.natAbs b.natAbs : Nat) : Int) = redG a b := by unfold redG; rw [if_neg hn]
      refine ⟨_, rfl, _, rfl, _, _, rfl, rfl, (e0 _ ec).1, _, rfl, p, A.C_Share, dx, [], rfl, hp, T.cl_Share, T.n_Share_num, (by show 0 < 1000; decide), ?_⟩
      refine ⟨_, rfl, _, rfl, _, _, rfl, rfl, (e0 _ ec).2, _, rfl, p, A.C_Share, dx, _, rfl, upd_same, T.cl_Share, T.n_Share_den, (by show 1 < 1000; decide), ?_⟩
      have := k _ _ rr
      rw [← ec] at this
      rw [upd_upd]
      exact this
/-- an instance of the class is one, and no whole number -/
theorem Txt.ty (T : Txt K mg A) {H : Hp} {p : Addr} {n d : Int} (h : Sh A.C_Share H p n d) : TyX K H (.ref p) (.ref A.C_Share) := by
  obtain ⟨dx, h⟩ := h
  exact .base (.ins h T.cl_Share T.c1_Share T.c2 T.c4 T.c3_Share)
/-- Share(a, b) in a def: the way from the making to what is promised -/
theorem make_gives {H1 : Hp} {Q : VK} {E : XK} {C : Addr} {a b : Int} (hb : b ≠ 0) (hz : b.natAbs < 2 ^ 9000) (k : Gives C H1 Q a b) : ∀ x dx, H1 x = none → H1 dx = none → dx ≠ x →
    spInit C (.ref x :: ([.int a, .int b] ++ [])) (upd (upd H1 dx (.own x)) x (.ins C dx [])) (fun v H2 => v = .non ∧ Q (.ref x) H2) E := by
  intro x dx nx ndx nex
  refine ⟨x, dx, a, b, rfl, upd_same, hb, hz, fun n d r => ⟨rfl, k x n d _ (fun b' o e => ?_) ⟨dx, upd_same⟩ r⟩⟩
  rw [upd_ne (ne_of_none e nx), upd_ne (ne_of_none e nx), upd_ne (ne_of_none e ndx)]
  exact e
theorem mulW {i j : Int} (hi : i.natAbs < 2 ^ 9000) (hj : j.natAbs < 2 ^ 9000) : CMulW i j := wide_mul hi hj (by decide) (by decide) (by decide)
theorem SzN.big {i : Int} (h : SzN i) : i.natAbs < 2 ^ 9000 := sz h (by decide)
theorem ok_add (T : Txt K mg A) : FnOk P w K mg base CX0 3 A.a_Share_add A.d_Share_add ["self", "other"] (sp2 A.C_Share (fun n d m e => n * e + m * d) (fun _ d _ e => d * e)) := by
  have G_Share_init : FnOk P w K mg base CX0 1 A.a_Share_init A.d_Share_init ["self", "num", "den"] (spInit A.C_Share) := ok_init T
  refine T.F_Share_add.ok sc_Share_add (fun vs H Q E h => ?_) (fun cdv A' outer s H vs Q E hr h => ?_)
  · obtain ⟨p, q, n, d, m, e, rfl, _⟩ := h
    rfl
  · obtain ⟨p, q, n, d, m, e, rfl, h1, h2, hd, he, zn, zd, zm, ze, k⟩ := h
    have h1' := id h1
    have h2' := id h2
    obtain ⟨dx, h1⟩ := h1
    obtain ⟨dy, h2⟩ := h2
    refine ⟨_, (pss_cons (ps_if (pt_not (pt_val (pe_callB call_isi (by rfl) T.n_isinstance (by decide +kernel) (pa_cons (pv 1) (pa_cons (pe_glob (v := .ref A.C_Share) rfl T.mg_Share rfl) pa_nil))))) (pss_one ps_never) pss_nil)
      (pss_one (ps_ret (pe_make T.mk_Share G_Share_init (hr.mono (by decide)) rfl T.mg_Share T.bi .nil pass0 (pa_cons (pe_op op_add (pe_op op_mulW (pe_fld (pv 0) rfl) (pe_fld (pv 1) rfl)) (pe_op op_mulW (pe_fld (pv 1) rfl) (pe_fld (pv 0) rfl))) (pa_cons (pe_op op_mulW (pe_fld (pv 0) rfl) (pe_fld (pv 1) rfl)) pa_nil)))))), ?_⟩
    refine ⟨_, rfl, _, _, _, _, true, rfl, .own _, T.ty h2', T.ko_self, true, rfl, ?_⟩
    refine iteF ?_
    refine ⟨_, rfl, p, _, dx, _, _, rfl, h1, T.cl_Share, T.n_Share_num, flds_num _ _, _, rfl, q, _, dy, _, _, rfl, h2, T.cl_Share, T.n_Share_den, flds_den _ _, _, _, rfl, rfl, mulW zn.big ze.big, ?_⟩
    refine ⟨_, rfl, q, _, dy, _, _, rfl, h2, T.cl_Share, T.n_Share_num, flds_num _ _, _, rfl, p, _, dx, _, _, rfl, h1, T.cl_Share, T.n_Share_den, flds_den _ _, _, _, rfl, rfl, mulW zm.big zd.big, _, _, rfl, rfl, ?_⟩
    refine ⟨_, rfl, p, _, dx, _, _, rfl, h1, T.cl_Share, T.n_Share_den, flds_den _ _, _, rfl, q, _, dy, _, _, rfl, h2, T.cl_Share, T.n_Share_den, flds_den _ _, _, _, rfl, rfl, mulW zd.big ze.big, ?_⟩
    exact make_gives (Int.mul_ne_zero (Int.ne_of_gt hd) (Int.ne_of_gt he)) (sz (sz_mul zd ze) (by decide)) k
theorem ok_sub (T : Txt K mg A) : FnOk P w K mg base CX0 3 A.a_Share_sub A.d_Share_sub ["self", "other"] (sp2 A.C_Share (fun n d m e => n * e - m * d) (fun _ d _ e => d * e)) := by
  have G_Share_init : FnOk P w K mg base CX0 1 A.a_Share_init A.d_Share_init ["self", "num", "den"] (spInit A.C_Share) := ok_init T
  refine T.F_Share_sub.ok sc_Share_sub (fun vs H Q E h => ?_) (fun cdv A' outer s H vs Q E hr h => ?_)
  · obtain ⟨p, q, n, d, m, e, rfl, _⟩ := h
    rfl
  · obtain ⟨p, q, n, d, m, e, rfl, h1, h2, hd, he, zn, zd, zm, ze, k⟩ := h
    have h1' := id h1
    have h2' := id h2
    obtain ⟨dx, h1⟩ := h1
    obtain ⟨dy, h2⟩ := h2
    refine ⟨_, (pss_cons (ps_if (pt_not (pt_val (pe_callB call_isi (by rfl) T.n_isinstance (by decide +kernel) (pa_cons (pv 1) (pa_cons (pe_glob (v := .ref A.C_Share) rfl T.mg_Share rfl) pa_nil))))) (pss_one ps_never) pss_nil)
      (pss_one (ps_ret (pe_make T.mk_Share G_Share_init (hr.mono (by decide)) rfl T.mg_Share T.bi .nil pass0 (pa_cons (pe_op op_sub (pe_op op_mulW (pe_fld (pv 0) rfl) (pe_fld (pv 1) rfl)) (pe_op op_mulW (pe_fld (pv 1) rfl) (pe_fld (pv 0) rfl))) (pa_cons (pe_op op_mulW (pe_fld (pv 0) rfl) (pe_fld (pv 1) rfl)) pa_nil)))))), ?_⟩
    refine ⟨_, rfl, _, _, _, _, true, rfl, .own _, T.ty h2', T.ko_self, true, rfl, ?_⟩
    refine iteF ?_
    refine ⟨_, rfl, _, _, _, _, _, rfl, h1, T.cl_Share, T.n_Share_num, flds_num _ _, _, rfl, _, _, _, _, _, rfl, h2, T.cl_Share, T.n_Share_den, flds_den _ _, _, _, rfl, rfl, mulW zn.big ze.big, ?_⟩
    refine ⟨_, rfl, _, _, _, _, _, rfl, h2, T.cl_Share, T.n_Share_num, flds_num _ _, _, rfl, _, _, _, _, _, rfl, h1, T.cl_Share, T.n_Share_den, flds_den _ _, _, _, rfl, rfl, mulW zm.big zd.big, _, _, rfl, rfl, ?_⟩
    refine ⟨_, rfl, _, _, _, _, _, rfl, h1, T.cl_Share, T.n_Share_den, flds_den _ _, _, rfl, _, _, _, _, _, rfl, h2, T.cl_Share, T.n_Share_den, flds_den _ _, _, _, rfl, rfl, mulW zd.big ze.big, ?_⟩
    exact make_gives (Int.mul_ne_zero (Int.ne_of_gt hd) (Int.ne_of_gt he)) (sz (sz_mul zd ze) (by decide)) k
theorem ok_mul (T : Txt K mg A) : FnOk P w K mg base CX0 3 A.a_Share_mul A.d_Share_mul ["self", "other"] (sp2 A.C_Share (fun n _ m _ => n * m) (fun _ d _ e => d * e)) := by
  have G_Share_init : FnOk P w K mg base CX0 1 A.a_Share_init A.d_Share_init ["self", "num", "den"] (spInit A.C_Share) := ok_init T
  refine T.F_Share_mul.ok sc_Share_mul (fun vs H Q E h => ?_) (fun cdv A' outer s H vs Q E hr h => ?_)
  · obtain ⟨p, q, n, d, m, e, rfl, _⟩ := h
    rfl
  · obtain ⟨p, q, n, d, m, e, rfl, h1, h2, hd, he, zn, zd, zm, ze, k⟩ := h
    have h1' := id h1
    have h2' := id h2
    obtain ⟨dx, h1⟩ := h1
    obtain ⟨dy, h2⟩ := h2
    refine ⟨_, (pss_cons (ps_if (pt_val (pe_callB call_isi (by rfl) T.n_isinstance (by decide +kernel) (pa_cons (pv 1) (pa_cons (pe_bltn (v := .ty "int") (by rfl) T.n_int (by decide +kernel) rfl) pa_nil)))) (pss_one (ps_ret (pe_make T.mk_Share G_Share_init (hr.mono (by decide)) rfl T.mg_Share T.bi .nil pass0 (pa_cons (pe_op op_mulW (pe_fld (pv 0) rfl) (pv 1)) (pa_cons (pe_fld (pv 0) rfl) pa_nil))))) pss_nil)
      (pss_cons (ps_if (pt_not (pt_val (pe_callB call_isi (by rfl) T.n_isinstance (by decide +kernel) (pa_cons (pv 1) (pa_cons (pe_glob (v := .ref A.C_Share) rfl T.mg_Share rfl) pa_nil))))) (pss_one ps_never) pss_nil)
      (pss_one (ps_ret (pe_make T.mk_Share G_Share_init (hr.mono (by decide)) rfl T.mg_Share T.bi .nil pass0 (pa_cons (pe_op op_mulW (pe_fld (pv 0) rfl) (pe_fld (pv 1) rfl)) (pa_cons (pe_op op_mulW (pe_fld (pv 0) rfl) (pe_fld (pv 1) rfl)) pa_nil))))))), ?_⟩
    refine ⟨_, rfl, _, _, _, _, false, rfl, .ty _, T.ty h2', T.ko_int, false, rfl, ?_⟩
    refine iteF ?_
    refine ⟨_, rfl, _, _, _, _, true, rfl, .own _, T.ty h2', T.ko_self, true, rfl, ?_⟩
    refine iteF ?_
    refine ⟨_, rfl, _, _, _, _, _, rfl, h1, T.cl_Share, T.n_Share_num, flds_num _ _, _, rfl, _, _, _, _, _, rfl, h2, T.cl_Share, T.n_Share_num, flds_num _ _, _, _, rfl, rfl, mulW zn.big zm.big, ?_⟩
    refine ⟨_, rfl, _, _, _, _, _, rfl, h1, T.cl_Share, T.n_Share_den, flds_den _ _, _, rfl, _, _, _, _, _, rfl, h2, T.cl_Share, T.n_Share_den, flds_den _ _, _, _, rfl, rfl, mulW zd.big ze.big, ?_⟩
    exact make_gives (Int.mul_ne_zero (Int.ne_of_gt hd) (Int.ne_of_gt he)) (sz (sz_mul zd ze) (by decide)) k
theorem ok_mulI (T : Txt K mg A) : FnOk P w K mg base CX0 3 A.a_Share_mul A.d_Share_mul ["self", "other"] (spI A.C_Share) := by
  have G_Share_init : FnOk P w K mg base CX0 1 A.a_Share_init A.d_Share_init ["self", "num", "den"] (spInit A.C_Share) := ok_init T
  refine T.F_Share_mul.ok sc_Share_mul (fun vs H Q E h => ?_) (fun cdv A' outer s H vs Q E hr h => ?_)
  · obtain ⟨p, n, d, k, rfl, _⟩ := h
    rfl
  · obtain ⟨p, n, d, c, rfl, h1, hd, zn, zd, zk, k⟩ := h
    obtain ⟨dx, h1⟩ := h1
    refine ⟨_, (pss_cons (ps_if (pt_val (pe_callB call_isi (by rfl) T.n_isinstance (by decide +kernel) (pa_cons (pv 1) (pa_cons (pe_bltn (v := .ty "int") (by rfl) T.n_int (by decide +kernel) rfl) pa_nil)))) (pss_one (ps_ret (pe_make T.mk_Share G_Share_init (hr.mono (by decide)) rfl T.mg_Share T.bi .nil pass0 (pa_cons (pe_op op_mulW (pe_fld (pv 0) rfl) (pv 1)) (pa_cons (pe_fld (pv 0) rfl) pa_nil))))) pss_nil)
      (pss_cons (ps_if (pt_not (pt_val (pe_callB call_isi (by rfl) T.n_isinstance (by decide +kernel) (pa_cons (pv 1) (pa_cons (pe_glob (v := .ref A.C_Share) rfl T.mg_Share rfl) pa_nil))))) (pss_one ps_never) pss_nil)
      (pss_one (ps_ret (pe_make T.mk_Share G_Share_init (hr.mono (by decide)) rfl T.mg_Share T.bi .nil pass0 (pa_cons (pe_op op_mulW (pe_fld (pv 0) rfl) (pe_fld (pv 1) rfl)) (pa_cons (pe_op op_mulW (pe_fld (pv 0) rfl) (pe_fld (pv 1) rfl)) pa_nil))))))), ?_⟩
    refine ⟨_, rfl, _, _, _, _, true, rfl, .ty _, .base (.int _), kit_ty (by decide +kernel), true, rfl, ?_⟩
    refine iteT ?_
    refine ⟨_, rfl, _, _, _, _, _, rfl, h1, T.cl_Share, T.n_Share_num, flds_num _ _, _, rfl, _, _, rfl, rfl, mulW zn.big zk.big, ?_⟩
    refine ⟨_, rfl, _, _, _, _, _, rfl, h1, T.cl_Share, T.n_Share_den, flds_den _ _, ?_⟩
    exact make_gives (Int.ne_of_gt hd) (sz zd (by decide)) k
theorem ok_rmul (T : Txt K mg A) : FnOk P w K mg base CX0 3 A.a_Share_rmul A.d_Share_rmul ["self", "other"] (spI A.C_Share) := by
  have G_Share_init : FnOk P w K mg base CX0 1 A.a_Share_init A.d_Share_init ["self", "num", "den"] (spInit A.C_Share) := ok_init T
  refine T.F_Share_rmul.ok sc_Share_rmul (fun vs H Q E h => ?_) (fun cdv A' outer s H vs Q E hr h => ?_)
  · obtain ⟨p, n, d, k, rfl, _⟩ := h
    rfl
  · obtain ⟨p, n, d, c, rfl, h1, hd, zn, zd, zk, k⟩ := h
    obtain ⟨dx, h1⟩ := h1
    refine ⟨_, (pss_cons (ps_if (pt_not (pt_val (pe_callB call_isi (by rfl) T.n_isinstance (by decide +kernel) (pa_cons (pv 1) (pa_cons (pe_bltn (v := .ty "int") (by rfl) T.n_int (by decide +kernel) rfl) pa_nil))))) (pss_one ps_never) pss_nil)
      (pss_one (ps_ret (pe_make T.mk_Share G_Share_init (hr.mono (by decide)) rfl T.mg_Share T.bi .nil pass0 (pa_cons (pe_op op_mulW (pv 1) (pe_fld (pv 0) rfl)) (pa_cons (pe_fld (pv 0) rfl) pa_nil)))))), ?_⟩
    refine ⟨_, rfl, _, _, _, _, true, rfl, .ty _, .base (.int _), kit_ty (by decide +kernel), true, rfl, ?_⟩
    refine iteF ?_
    refine ⟨_, rfl, _, rfl, _, _, _, _, _, rfl, h1, T.cl_Share, T.n_Share_num, flds_num _ _, _, _, rfl, rfl, mulW zk.big zn.big, ?_⟩
    refine ⟨_, rfl, _, _, _, _, _, rfl, h1, T.cl_Share, T.n_Share_den, flds_den _ _, ?_⟩
    exact make_gives (Int.ne_of_gt hd) (sz zd (by decide)) (by rw [Int.mul_comm]; exact k)
theorem ok_neg (T : Txt K mg A) : FnOk P w K mg base CX0 3 A.a_Share_neg A.d_Share_neg ["self"] (sp1 A.C_Share (fun n => -n)) := by
  have G_Share_init : FnOk P w K mg base CX0 1 A.a_Share_init A.d_Share_init ["self", "num", "den"] (spInit A.C_Share) := ok_init T
  refine T.F_Share_neg.ok sc_Share_neg (fun vs H Q E h => ?_) (fun cdv A' outer s H vs Q E hr h => ?_)
  · obtain ⟨p, n, d, rfl, _⟩ := h
    rfl
  · obtain ⟨p, n, d, rfl, h1, hd, zn, zd, k⟩ := h
    obtain ⟨dx, h1⟩ := h1
    refine ⟨_, (pss_one (ps_ret (pe_make T.mk_Share G_Share_init (hr.mono (by decide)) rfl T.mg_Share T.bi .nil pass0 (pa_cons (pe_un un_neg (pe_fld (pv 0) rfl)) (pa_cons (pe_fld (pv 0) rfl) pa_nil))))), ?_⟩
    refine ⟨_, rfl, _, _, _, _, _, rfl, h1, T.cl_Share, T.n_Share_num, flds_num _ _, _, rfl, ?_⟩
    refine ⟨_, rfl, _, _, _, _, _, rfl, h1, T.cl_Share, T.n_Share_den, flds_den _ _, ?_⟩
    exact make_gives (Int.ne_of_gt hd) (sz zd (by decide)) k
theorem ok_abs (T : Txt K mg A) : FnOk P w K mg base CX0 3 A.a_Share_abs A.d_Share_abs ["self"] (sp1 A.C_Share (fun n => if n < 0 then -n else n)) := by
  have G_Share_init : FnOk P w K mg base CX0 1 A.a_Share_init A.d_Share_init ["self", "num", "den"] (spInit A.C_Share) := ok_init T
  refine T.F_Share_abs.ok sc_Share_abs (fun vs H Q E h => ?_) (fun cdv A' outer s H vs Q E hr h => ?_)
  · obtain ⟨p, n, d, rfl, _⟩ := h
    rfl
  · obtain ⟨p, n, d, rfl, h1, hd, zn, zd, k⟩ := h
    obtain ⟨dx, h1⟩ := h1
    refine ⟨_, (pss_one (ps_ret (pe_make T.mk_Share G_Share_init (hr.mono (by decide)) rfl T.mg_Share T.bi .nil pass0 (pa_cons (pe_callB call_abs (by rfl) T.n_abs (by decide +kernel) (pa_cons (pe_fld (pv 0) rfl) pa_nil)) (pa_cons (pe_fld (pv 0) rfl) pa_nil))))), ?_⟩
    refine ⟨_, rfl, _, _, _, _, _, rfl, h1, T.cl_Share, T.n_Share_num, flds_num _ _, _, rfl, ?_⟩
    refine ⟨_, rfl, _, _, _, _, _, rfl, h1, T.cl_Share, T.n_Share_den, flds_den _ _, ?_⟩
    exact make_gives (Int.ne_of_gt hd) (sz zd (by decide)) k
theorem ok_bool (T : Txt K mg A) : FnOk P w K mg base CX0 1 A.a_Share_bool A.d_Share_bool ["self"] (spBool A.C_Share) := by
  refine T.F_Share_bool.ok sc_Share_bool (fun vs H Q E h => ?_) (fun cdv A' outer s H vs Q E hr h => ?_)
  · obtain ⟨p, n, d, rfl, _⟩ := h
    rfl
  · obtain ⟨p, n, d, rfl, h1, k⟩ := h
    obtain ⟨dx, h1⟩ := h1
    refine ⟨_, (pss_one (ps_ret (pe_callTy call_bool1 (by rfl) T.n_bool (by decide +kernel) (pa_cons (pe_fld (pv 0) rfl) pa_nil)))), ?_⟩
    exact ⟨_, rfl, _, _, _, _, _, rfl, h1, T.cl_Share, T.n_Share_num, flds_num _ _, .inl ⟨_, rfl, k⟩⟩
theorem ok_below (T : Txt K mg A) : FnOk P w K mg base CX0 1 A.a_Share_below A.d_Share_below ["self", "other"] (spCmp A.C_Share (fun n d m e => decide (n * e < m * d))) := by
  refine T.F_Share_below.ok sc_Share_below (fun vs H Q E h => ?_) (fun cdv A' outer s H vs Q E hr h => ?_)
  · obtain ⟨p, q, n, d, m, e, rfl, _⟩ := h
    rfl
  · obtain ⟨p, q, n, d, m, e, rfl, h1, h2, zn, zd, zm, ze, k⟩ := h
    obtain ⟨dx, h1⟩ := h1
    obtain ⟨dy, h2⟩ := h2
    refine ⟨_, (pss_one (ps_ret (pe_cmpR op_lt (pe_op op_mulW (pe_fld (pv 0) rfl) (pe_fld (pv 1) rfl)) (pe_op op_mulW (pe_fld (pv 1) rfl) (pe_fld (pv 0) rfl)) (nomark _)))), ?_⟩
    exact ⟨_, rfl, _, _, _, _, _, rfl, h1, T.cl_Share, T.n_Share_num, flds_num _ _, _, rfl, _, _, _, _, _, rfl, h2, T.cl_Share, T.n_Share_den, flds_den _ _, _, _, rfl, rfl, mulW zn.big ze.big, _, rfl, _, _, _, _, _, rfl, h2, T.cl_Share, T.n_Share_num, flds_num _ _, _, rfl, _, _, _, _, _, rfl, h1, T.cl_Share, T.n_Share_den, flds_den _ _, _, _, rfl, rfl, mulW zm.big zd.big, _, _, rfl, rfl, k⟩
theorem ok_eq (T : Txt K mg A) : FnOk P w K mg base CX0 1 A.a_Share_eq A.d_Share_eq ["self", "other"] (spCmp A.C_Share (fun n d m e => decide (n = m) && decide (d = e))) := by
  refine T.F_Share_eq.ok sc_Share_eq (fun vs H Q E h => ?_) (fun cdv A' outer s H vs Q E hr h => ?_)
  · obtain ⟨p, q, n, d, m, e, rfl, _⟩ := h
    rfl
  · obtain ⟨p, q, n, d, m, e, rfl, h1, h2, zn, zd, zm, ze, k⟩ := h
    have h2' := id h2
    obtain ⟨dx, h1⟩ := h1
    obtain ⟨dy, h2⟩ := h2
    refine ⟨_, (pss_one (ps_ret (pe_and (pe_callB call_isi (by rfl) T.n_isinstance (by decide +kernel) (pa_cons (pv 1) (pa_cons (pe_glob (v := .ref A.C_Share) rfl T.mg_Share rfl) pa_nil))) (pe_and (pe_cmpR op_eq (pe_fld (pv 0) rfl) (pe_fld (pv 1) rfl) (nomark _)) (pe_one (pe_cmpR op_eq (pe_fld (pv 0) rfl) (pe_fld (pv 1) rfl) (nomark _))))))), ?_⟩
    refine ⟨_, rfl, _, _, _, _, true, rfl, .own _, T.ty h2', T.ko_self, true, rfl, ?_⟩
    refine iteT ?_
    have e1 : decide (V.int n = V.int m) = decide (n = m) := by
      by_cases z : n = m
      · subst z; simp
      · rw [decide_eq_false z, decide_eq_false (fun y => z (V.int.inj y))]
    have e2 : decide (V.int d = V.int e) = decide (d = e) := by
      by_cases z : d = e
      · subst z; simp
      · rw [decide_eq_false z, decide_eq_false (fun y => z (V.int.inj y))]
    refine ⟨_, rfl, _, _, _, _, _, rfl, h1, T.cl_Share, T.n_Share_num, flds_num _ _, _, rfl, _, _, _, _, _, rfl, h2, T.cl_Share, T.n_Share_num, flds_num _ _, rfl, ?_⟩
    refine ⟨decide (n = m), congrArg V.bl e1, ?_⟩
    by_cases z : n = m
    · refine itY z ?_
      refine ⟨_, rfl, _, _, _, _, _, rfl, h1, T.cl_Share, T.n_Share_den, flds_den _ _, _, rfl, _, _, _, _, _, rfl, h2, T.cl_Share, T.n_Share_den, flds_den _ _, rfl, ?_⟩
      have k' : Q (.bl (decide (n = m) && decide (d = e))) H := k
      rw [decide_eq_true z, Bool.true_and] at k'
      show Q (.bl (decide (V.int d = V.int e))) H
      rw [e2]
      exact k'
    · refine itN z ?_
      have k' : Q (.bl (decide (n = m) && decide (d = e))) H := k
      rw [decide_eq_false z, Bool.false_and] at k'
      exact k'
end
end My
set_option maxRecDepth 100000
set_option maxHeartbeats 4000000
set_option exponentiation.threshold 10000
namespace My
open PySem L2
theorem atI_ok {xs : List Int} {j : Int} (h0 : 0 ≤ j) (h1 : j < xs.length) : ∃ v, v ∈ xs ∧ atI (xs.map V.int) j = some (V.int v) := by
  have hj : j.toNat < xs.length := by omega
  refine ⟨xs[j.toNat], List.getElem_mem hj, ?_⟩
  have e : (xs.map V.int)[j.toNat]? = some (V.int xs[j.toNat]) := by rw [List.getElem?_map, List.getElem?_eq_getElem hj]; rfl
  have := atI_nat e
  rw [show ((j.toNat : Nat) : Int) = j by omega] at this
  exact this
theorem len_map_int (xs : List Int) : (xs.map V.int).length = xs.length := List.length_map ..
theorem small_int {n : Nat} (h : n ≤ 1000000) : n < sizeLine := Nat.lt_of_le_of_lt h (by decide)
/-- a pool of draws -/
def Pool (ns : List Int) : Prop := ∀ x ∈ ns, 0 ≤ x ∧ x < 27720
theorem Pool.nil : Pool [] := fun x h => nomatch h
theorem Pool.app {ns : List Int} {x : Int} (h : Pool ns) (h0 : 0 ≤ x) (h1 : x < 27720) : Pool (ns ++ [x]) := fun y hy => by
  rcases List.mem_append.mp hy with hy | hy
  · exact h y hy
  · cases List.mem_singleton.mp hy; exact ⟨h0, h1⟩
theorem same_new {H : Hp} {l : Addr} {o : HO} (h : H l = none) : Same H (upd H l o) := fun b u e => by rw [upd_ne (ne_of_none e h)]; exact e
theorem upd_app {H : Hp} {l : Addr} {ps : List Int} {x : Int} : upd (upd H l (.lst (ps.map V.int))) l (.lst (ps.map V.int ++ [V.int x])) = upd H l (.lst ((ps ++ [x]).map V.int)) := by
  rw [upd_upd, List.map_append]
  rfl
theorem mod_sz {x m : Int} {k : Nat} (h : 0 < m) (hk : m.natAbs < 2 ^ k) : (x % m).natAbs < 2 ^ k := by
  have h1 := Int.emod_nonneg x (Int.ne_of_gt h)
  have h2 := Int.emod_lt_of_pos x h
  omega
def spCell (K : PySem.W.Frag) : Sp := fun vs H Q _ => ∃ (a : Addr) (ns : List Int) (k : Int), vs = [.ref a, .int k] ∧ SqL K H a (ns.map V.int) ∧ 0 ≤ k ∧ ∀ z, Q (.int z) H
def spPool (K : PySem.W.Frag) : Sp := fun vs H Q _ => ∃ (a : Addr) (ns : List Int) (k c : Int), vs = [.ref a, .int k, .int c] ∧ SqL K H a (ns.map V.int) ∧ 0 ≤ k ∧ 0 ≤ c ∧ c ≤ 1000 ∧
  ∀ p ps H', Same H H' → H' p = some (.lst (ps.map V.int)) → (ps.length : Int) = c → Pool ps → Q (.ref p) H'
def spDraw (K : PySem.W.Frag) (more : Nat) (b : Nat) : Sp := fun vs H Q _ => ∃ (p : Addr) (ns : List Int) (i : Int), vs = [.ref p, .int i] ∧ SqL K H p (ns.map V.int) ∧ 0 ≤ i ∧ i + more < ns.length ∧ Pool ns ∧
  ∀ z H', Same H H' → z.natAbs < 2 ^ b → Q (.int z) H'
def spCommon : Sp := fun vs H Q _ => ∃ (a b : Int), vs = [.int a, .int b] ∧ Q (.int ((Nat.gcd a.natAbs b.natAbs : Nat) : Int)) H
def spIs (C : Addr) : Sp := fun vs H Q _ => ∃ (p : Addr) (n d a b : Int), vs = [.ref p, .int a, .int b] ∧ Sh C H p n d ∧ Rep n d a b ∧ a.natAbs < 2 ^ 9000 ∧ b.natAbs < 2 ^ 9000 ∧ Q (.bl true) H
section
variable {P : Program} {w : World} {K : PySem.W.Frag} {mg : Str → Option Value} {base : Heap} {A : Ad}
theorem ok_cell (T : Txt K mg A) : FnOk P w K mg base CX0 1 A.a_law_cell A.d_law_cell ["script", "k"] (spCell K) := by
  refine T.F_law_cell.ok sc_law_cell (fun vs H Q E h => ?_) (fun cdv A' outer s H vs Q E hr h => ?_)
  · obtain ⟨a, ns, k, rfl, _⟩ := h
    rfl
  · obtain ⟨a, ns, i, rfl, hS, h0, k⟩ := h
    refine ⟨_, (pss_cons (ps_if (pt_cmpR op_lt (pv 1) (pe_callB call_len_seq (by rfl) T.n_len (by decide +kernel) (pa_cons (pv 0) pa_nil)) (nomark _)) (pss_one (ps_ret (pe_ix ix_list (pv 0) (pv 1) (fun _ _ => rfl)))) pss_nil)
      (pss_one (ps_ret pe_int))), ?_⟩
    refine ⟨_, rfl, _, rfl, _, _, rfl, .inl hS, _, _, rfl, rfl, _, rfl, ?_⟩
    by_cases hi : i < ((ns.map V.int).length : Int)
    · refine itY hi ?_
      obtain ⟨v, hv, e⟩ := atI_ok (xs := ns) h0 (by rw [len_map_int] at hi; exact hi)
      exact ⟨_, rfl, _, rfl, _, _, _, _, rfl, rfl, hS, e, k v⟩
    · refine itN hi ?_
      exact k 0
theorem ok_pool (T : Txt K mg A) : FnOk P w K mg base CX0 2 A.a_law_pool A.d_law_pool ["script", "k", "count"] (spPool K) := by
  have G_law_cell : FnOk P w K mg base CX0 1 A.a_law_cell A.d_law_cell ["script", "k"] (spCell K) := ok_cell T
  refine T.F_law_pool.ok sc_law_pool (fun vs H Q E h => ?_) (fun cdv A' outer s H vs Q E hr h => ?_)
  · obtain ⟨a, ns, k, c, rfl, _⟩ := h
    rfl
  · obtain ⟨a, ns, i, c, rfl, hS, h0, hc0, hc, k⟩ := h
    refine ⟨_, (pss_cons (ps_set (i := 3) sc_law_pool.nd rfl (Or.inl rfl) (pe_callB call_abs (by rfl) T.n_abs (by decide +kernel) (pa_cons (pe_call G_law_cell (hr.mono (by decide)) rfl T.mg_law_cell T.F_law_cell.kp T.b_law_cell .nil pass0 (pa_cons (pv 0) (pa_cons (pv 1) pa_nil))) pa_nil)))
      (pss_cons (ps_set (i := 4) sc_law_pool.nd rfl (Or.inl rfl) (pe_lst pa_nil))
      (pss_cons (ps_if (pt_cmpR op_ge (pv 3) (pe_op op_pow pe_int pe_int) (nomark _)) (pss_cons (ps_set (i := 3) sc_law_pool.nd rfl (Or.inl rfl) (pe_op op_sub (pv 3) (pe_op op_pow pe_int pe_int)))
      (pss_cons (ps_for PassesOwn.never rfl (pi_range1 (by rfl) T.n_range (pa_cons (pv 2) pa_nil)) (pg_name (i := 5) sc_law_pool.nd rfl (Or.inl rfl))
        (pss_cons (ps_expr (pe_bm PySem.F.plainAttrs_list PySem.F.slot_list_append PySem.F.type_list_append mt_append (pv 4) (pa_cons (pe_op op_mod (pe_callTy call_int1 (by rfl) T.n_int (by decide +kernel) (pa_cons (pv 3) pa_nil)) pe_int) pa_nil)))
      (pss_one (ps_set (i := 3) sc_law_pool.nd rfl (Or.inl rfl) (pe_op op_fdiv (pv 3) pe_int)))))
      (pss_one (ps_ret (pv 4))))) pss_nil)
      (pss_cons (ps_for PassesOwn.never rfl (pi_range1 (by rfl) T.n_range (pa_cons (pv 2) pa_nil)) (pg_name (i := 5) sc_law_pool.nd rfl (Or.inl rfl))
        (pss_cons (ps_set (i := 6) sc_law_pool.nd rfl (Or.inl rfl) (pe_op op_mod (pe_callTy call_int1 (by rfl) T.n_int (by decide +kernel) (pa_cons (pe_op op_add (pe_op op_add (pe_op op_add (pe_op op_mul (pv 3) pe_int) (pe_op op_mul (pe_op op_add (pv 5) pe_int) pe_int)) (pe_op op_mul (pv 1) pe_int)) pe_int) pa_nil)) pe_int))
      (pss_cons (ps_set (i := 7) sc_law_pool.nd rfl (Or.inl rfl) (pe_op op_mod (pe_callTy call_int1 (by rfl) T.n_int (by decide +kernel) (pa_cons (pe_op op_add (pe_op op_add (pe_op op_mulW (pv 6) (pv 6)) (pe_op op_mul (pv 3) pe_int)) (pv 5)) pa_nil)) pe_int))
      (pss_cons (ps_set (i := 8) sc_law_pool.nd rfl (Or.inl rfl) (pe_op op_mod (pe_callTy call_int1 (by rfl) T.n_int (by decide +kernel) (pa_cons (pe_op op_add (pe_op op_mulW (pv 7) (pv 7)) (pv 6)) pa_nil)) pe_int))
      (pss_one (ps_expr (pe_bm PySem.F.plainAttrs_list PySem.F.slot_list_append PySem.F.type_list_append mt_append (pv 4) (pa_cons (pe_op op_mod (pe_callTy call_int1 (by rfl) T.n_int (by decide +kernel) (pa_cons (pe_op op_fdiv (pv 8) pe_int) pa_nil)) pe_int) pa_nil))))))))
      (pss_one (ps_ret (pv 4))))))), ?_⟩
    refine ⟨_, rfl, _, rfl, a, ns, i, rfl, hS, h0, fun z => ⟨_, rfl, ?_⟩⟩
    refine ⟨by show 0 ≤ sizeLine; decide, fun l hl => ?_⟩
    refine ⟨_, rfl, _, _, rfl, rfl, ⟨by decide, by decide, by decide⟩, _, _, rfl, rfl, _, rfl, ?_⟩
    have fin : ∀ ps : List Int, ps.length = c.toNat → Pool ps → Q (.ref l) (upd H l (.lst (ps.map V.int))) := fun ps h1 h2 => k l ps _ (same_new hl) upd_same (by omega) h2
    refine ite2 (fun hb => ?_) (fun hb => ?_)
    · refine ⟨_, rfl, _, _, rfl, rfl, ⟨by decide, by decide, by decide⟩, _, _, rfl, rfl, ?_⟩
      refine ⟨_, rfl, c, rfl, by omega, by omega, for_range (n := c.toNat) (fun j σ H2 => ∃ (v : Int) (ps : List Int) (u : Option V), σ = [some (.ref a), some (.int i), some (.int c), some (.int v), some (.ref l), u, none, none, none] ∧
        H2 = upd H l (.lst (ps.map V.int)) ∧ ps.length = j ∧ Pool ps) ⟨_, [], none, rfl, rfl, rfl, Pool.nil⟩ ?_ ?_⟩
      · rintro j σ H2 hj ⟨v, ps, u, rfl, rfl, hl2, hp⟩
        refine ⟨_, rfl, .inl ⟨rfl, _, SqL.of upd_same⟩, _, rfl, .inl ⟨_, rfl, ?_⟩⟩
        refine ⟨_, _, rfl, rfl, by show (0 : Int) < 27720; decide, l, _, _, rfl, rfl, upd_same, small_int (by rw [len_map_int]; omega), ?_⟩
        refine ⟨_, rfl, _, _, rfl, rfl, ⟨by decide, by decide⟩, ?_⟩
        refine ⟨_, ps ++ [v % 27720], _, rfl, ?_, by simp [hl2], hp.app (Int.emod_nonneg _ (by decide)) (Int.emod_lt_of_pos _ (by decide))⟩
        rw [upd_upd, List.map_append]
        rfl
      · rintro σ H2 ⟨v, ps, u, rfl, rfl, hl2, hp⟩
        exact ⟨_, rfl, fin ps hl2 hp⟩
    · refine ⟨_, rfl, c, rfl, by omega, by omega, for_range (n := c.toNat) (fun j σ H2 => ∃ (v : Int) (ps : List Int) (u u1 u2 u3 : Option V), σ = [some (.ref a), some (.int i), some (.int c), some (.int v), some (.ref l), u, u1, u2, u3] ∧
        H2 = upd H l (.lst (ps.map V.int)) ∧ ps.length = j ∧ Pool ps) ⟨_, [], none, none, none, none, rfl, rfl, rfl, Pool.nil⟩ ?_ ?_⟩
      · rintro j σ H2 hj ⟨v, ps, u, u1, u2, u3, rfl, rfl, hl2, hp⟩
        refine ⟨_, rfl, _, _, rfl, rfl, .inr (by decide), _, rfl, _, _, rfl, rfl, _, _, rfl, rfl, .inr (by decide), _, _, rfl, rfl, _, rfl, _, _, rfl, rfl, .inr (by decide), _, _, rfl, rfl, _, _, rfl, rfl, .inl ⟨_, rfl, _, _, rfl, rfl, by show (0 : Int) < 2147483647; decide, ?_⟩⟩
        refine ⟨_, rfl, _, rfl, _, _, rfl, rfl, mulW (mod_sz (by decide) (by decide)) (mod_sz (by decide) (by decide)), _, rfl, _, _, rfl, rfl, .inr (by decide), _, _, rfl, rfl, _, rfl, _, _, rfl, rfl, .inl ⟨_, rfl, _, _, rfl, rfl, by show (0 : Int) < 2147483629; decide, ?_⟩⟩
        refine ⟨_, rfl, _, rfl, _, _, rfl, rfl, mulW (mod_sz (by decide) (by decide)) (mod_sz (by decide) (by decide)), _, rfl, _, _, rfl, rfl, .inl ⟨_, rfl, _, _, rfl, rfl, by show (0 : Int) < 2147483587; decide, ?_⟩⟩
        refine ⟨_, rfl, .inl ⟨rfl, _, SqL.of upd_same⟩, _, rfl, _, _, rfl, rfl, ⟨by decide, by decide⟩, .inl ⟨_, rfl, ?_⟩⟩
        refine ⟨_, _, rfl, rfl, by show (0 : Int) < 27720; decide, l, _, _, rfl, rfl, upd_same, small_int (by rw [len_map_int]; omega), ?_⟩
        exact ⟨_, ps ++ [_], _, _, _, _, rfl, upd_app, by simp [hl2], hp.app (Int.emod_nonneg _ (by decide)) (Int.emod_lt_of_pos _ (by decide))⟩
      · rintro σ H2 ⟨v, ps, u, u1, u2, u3, rfl, rfl, hl2, hp⟩
        exact ⟨_, rfl, fin ps hl2 hp⟩
theorem ok_whole (T : Txt K mg A) : FnOk P w K mg base CX0 1 A.a_law_whole A.d_law_whole ["pool", "i"] (spDraw K 3 40) := by
  refine T.F_law_whole.ok sc_law_whole (fun vs H Q E h => ?_) (fun cdv A' outer s H vs Q E hr h => ?_)
  · obtain ⟨p, ns, i, rfl, _⟩ := h
    rfl
  · obtain ⟨p, ns, i, rfl, hS, h0, h1, hp, k⟩ := h
    refine ⟨_, (pss_cons (ps_set (i := 2) sc_law_whole.nd rfl (Or.inl rfl) (pe_lst (pa_cons pe_int (pa_cons pe_int (pa_cons pe_int (pa_cons (pe_op op_sub (pe_op op_mul pe_int (pe_op op_pow pe_int pe_int)) pe_int) pa_nil))))))
      (pss_cons (ps_set (i := 3) sc_law_whole.nd rfl (Or.inl rfl) (pe_ix ix_list (pv 2) (pe_op op_mod (pe_callTy call_int1 (by rfl) T.n_int (by decide +kernel) (pa_cons (pe_ix ix_list (pv 0) (pv 1) (fun _ _ => rfl)) pa_nil)) pe_int) (fun _ _ => rfl)))
      (pss_cons (ps_set (i := 4) sc_law_whole.nd rfl (Or.inl rfl) (pe_op op_add (pe_op op_mul (pe_op op_add (pe_op op_mul (pe_ix ix_list (pv 0) (pe_op op_add (pv 1) pe_int) (fun _ _ => rfl)) pe_int) (pe_ix ix_list (pv 0) (pe_op op_add (pv 1) pe_int) (fun _ _ => rfl))) pe_int) (pe_ix ix_list (pv 0) (pe_op op_add (pv 1) pe_int) (fun _ _ => rfl))))
      (pss_one (ps_ret (pe_op op_sub (pe_op op_mod (pe_callTy call_int1 (by rfl) T.n_int (by decide +kernel) (pa_cons (pv 4) pa_nil)) (pv 3)) (pe_op op_fdiv (pv 3) pe_int))))))), ?_⟩
    refine ⟨_, _, rfl, rfl, ⟨by decide, by decide, by decide⟩, _, _, rfl, rfl, .inl ⟨by decide, by decide⟩, _, _, rfl, rfl, by show 4 ≤ sizeLine; decide, fun l hl => ?_⟩
    have sm := same_new (o := .lst ([7, 41, 2001, 2 * 10 ^ 9 - 1].map V.int)) hl
    have hS' := sm.seq hS
    obtain ⟨x, hx, ex⟩ := atI_ok (xs := ns) h0 (by omega)
    obtain ⟨x1, hx1, ex1⟩ := atI_ok (xs := ns) (j := i + 1) (by omega) (by omega)
    obtain ⟨x2, hx2, ex2⟩ := atI_ok (xs := ns) (j := i + 2) (by omega) (by omega)
    obtain ⟨x3, hx3, ex3⟩ := atI_ok (xs := ns) (j := i + 3) (by omega) (by omega)
    obtain ⟨m, hm, em⟩ := atI_ok (xs := [7, 41, 2001, 2 * 10 ^ 9 - 1]) (j := x % 4) (Int.emod_nonneg _ (by decide)) (Int.emod_lt_of_pos _ (by decide))
    refine ⟨_, rfl, _, rfl, _, rfl, _, _, _, _, rfl, rfl, hS', ex, .inl ⟨_, rfl, _, _, rfl, rfl, by show (0 : Int) < 4; decide, _, _, _, _, rfl, rfl, SqL.of upd_same, em, ?_⟩⟩
    refine ⟨_, rfl, _, rfl, _, _, rfl, rfl, _, _, _, _, rfl, rfl, hS', ex1, _, _, rfl, rfl, .inr (by decide), _, rfl, _, rfl, _, _, rfl, rfl, _, _, _, _, rfl, rfl, hS', ex2, _, _, rfl, rfl, _, _, rfl, rfl, .inr (by decide), _, rfl, _, rfl, _, _, rfl, rfl, _, _, _, _, rfl, rfl, hS', ex3, _, _, rfl, rfl, ?_⟩
    have hm0 : 0 < m ∧ m < 2000000000 := by
      simp only [List.mem_cons, List.not_mem_nil, or_false] at hm
      omega
    refine ⟨_, rfl, .inl ⟨_, rfl, _, rfl, _, _, rfl, rfl, hm0.1, _, rfl, _, _, rfl, rfl, ⟨by decide, by decide⟩, _, _, rfl, rfl, ?_⟩⟩
    refine k _ _ sm ?_
    have z1 := Int.emod_nonneg ((x1 * 27720 + x2) * 27720 + x3) (Int.ne_of_gt hm0.1)
    have z2 := Int.emod_lt_of_pos ((x1 * 27720 + x2) * 27720 + x3) hm0.1
    show ((((x1 * 27720 + x2) * 27720 + x3) % m) - m / 2).natAbs < 2 ^ 40
    omega
theorem ok_wide (T : Txt K mg A) : FnOk P w K mg base CX0 1 A.a_law_wide A.d_law_wide ["pool", "at"] (spDraw K 11 200) := by
  refine T.F_law_wide.ok sc_law_wide (fun vs H Q E h => ?_) (fun cdv A' outer s H vs Q E hr h => ?_)
  · obtain ⟨p, ns, i, rfl, _⟩ := h
    rfl
  · obtain ⟨p, ns, i, rfl, hS, h0, h1, hp, k⟩ := h
    refine ⟨_, (pss_cons (ps_set (i := 2) sc_law_wide.nd rfl (Or.inl rfl) (pe_lst (pa_cons pe_int (pa_cons pe_int (pa_cons pe_int (pa_cons (pe_op op_sub (pe_op op_mul pe_int (pe_op op_pow pe_int pe_int)) pe_int) (pa_cons (pe_op op_sub (pe_op op_mul pe_int (pe_op op_pow pe_int pe_int)) pe_int) pa_nil)))))))
      (pss_cons (ps_set (i := 3) sc_law_wide.nd rfl (Or.inl rfl) (pe_ix ix_list (pv 2) (pe_op op_mod (pe_callTy call_int1 (by rfl) T.n_int (by decide +kernel) (pa_cons (pe_ix ix_list (pv 0) (pv 1) (fun _ _ => rfl)) pa_nil)) pe_int) (fun _ _ => rfl)))
      (pss_cons (ps_set (i := 4) sc_law_wide.nd rfl (Or.inl rfl) pe_int)
      (pss_cons (ps_for PassesOwn.never rfl (pi_range2 (by rfl) T.n_range (pa_cons pe_int (pa_cons pe_int pa_nil))) (pg_name (i := 5) sc_law_wide.nd rfl (Or.inl rfl))
        (pss_one (ps_set (i := 4) sc_law_wide.nd rfl (Or.inl rfl) (pe_op op_add (pe_op op_mul (pv 4) pe_int) (pe_ix ix_list (pv 0) (pe_op op_add (pv 1) (pv 5)) (fun _ _ => rfl))))))
      (pss_one (ps_ret (pe_op op_sub (pe_op op_mod (pe_callTy call_int1 (by rfl) T.n_int (by decide +kernel) (pa_cons (pv 4) pa_nil)) (pv 3)) (pe_op op_fdiv (pv 3) pe_int)))))))), ?_⟩
    refine ⟨_, _, rfl, rfl, ⟨by decide, by decide, by decide⟩, _, _, rfl, rfl, .inl ⟨by decide, by decide⟩, _, _, rfl, rfl, ?_⟩
    refine ⟨_, _, rfl, rfl, ⟨by decide, by decide, by decide⟩, _, _, rfl, rfl, .inl ⟨by decide, by decide⟩, _, _, rfl, rfl, by show 5 ≤ sizeLine; decide, fun l hl => ?_⟩
    have sm := same_new (o := .lst ([7, 41, 2001, 2 * 10 ^ 9 - 1, 2 * 10 ^ 45 - 1].map V.int)) hl
    have hS' := sm.seq hS
    obtain ⟨x, hx, ex⟩ := atI_ok (xs := ns) h0 (by omega)
    obtain ⟨m, hm, em⟩ := atI_ok (xs := [7, 41, 2001, 2 * 10 ^ 9 - 1, 2 * 10 ^ 45 - 1]) (j := x % 5) (Int.emod_nonneg _ (by decide)) (Int.emod_lt_of_pos _ (by decide))
    refine ⟨_, rfl, _, rfl, _, rfl, _, _, _, _, rfl, rfl, hS', ex, .inl ⟨_, rfl, _, _, rfl, rfl, by show (0 : Int) < 5; decide, _, _, _, _, rfl, rfl, SqL.of upd_same, em, ?_⟩⟩
    have hm0 : 0 < m ∧ m < 2 * 10 ^ 45 := by
      simp only [List.mem_cons, List.not_mem_nil, or_false] at hm
      omega
    refine ⟨1, 12, rfl, ⟨by decide, by decide, by decide, by decide⟩, for_range (lo := 1) (n := 11) (fun j σ H2 => ∃ (v : Int) (u : Option V), σ = [some (.ref p), some (.int i), some (.ref l), some (.int m), some (.int v), u] ∧
        H2 = upd H l (.lst ([7, 41, 2001, 2 * 10 ^ 9 - 1, 2 * 10 ^ 45 - 1].map V.int))) ⟨0, none, rfl, rfl⟩ ?_ ?_⟩
    · rintro j σ H2 hj ⟨v, u, rfl, rfl⟩
      obtain ⟨y, hy, ey⟩ := atI_ok (xs := ns) (j := i + (1 + (j : Int))) (by omega) (by omega)
      refine ⟨_, rfl, _, _, rfl, rfl, .inr (by decide), _, rfl, _, rfl, _, rfl, _, _, rfl, rfl, _, _, _, _, rfl, rfl, hS', ey, _, _, rfl, rfl, ?_⟩
      exact ⟨_, _, rfl, rfl⟩
    · rintro σ H2 ⟨v, u, rfl, rfl⟩
      refine ⟨_, rfl, .inl ⟨_, rfl, _, rfl, _, _, rfl, rfl, hm0.1, _, rfl, _, _, rfl, rfl, ⟨by decide, by decide⟩, _, _, rfl, rfl, ?_⟩⟩
      refine k _ _ sm ?_
      have z1 := Int.emod_nonneg v (Int.ne_of_gt hm0.1)
      have z2 := Int.emod_lt_of_pos v hm0.1
      show ((v % m) - m / 2).natAbs < 2 ^ 200
      have : (2 : Nat) ^ 200 = 1606938044258990275541962092341162602522202993782792835301376 := by decide
      omega
theorem ok_common (T : Txt K mg A) : FnOk P w K mg base CX0 1 A.a_law_common A.d_law_common ["one", "other"] spCommon := by
  refine T.F_law_common.ok sc_law_common (fun vs H Q E h => ?_) (fun cdv A' outer s H vs Q E hr h => ?_)
  · obtain ⟨a, b, rfl, _⟩ := h
    rfl
  · obtain ⟨a, b, rfl, k⟩ := h
    refine ⟨_, (pss_cons (ps_set (i := 0) sc_law_common.nd rfl (Or.inl rfl) (pe_callB call_abs (by rfl) T.n_abs (by decide +kernel) (pa_cons (pv 0) pa_nil)))
      (pss_cons (ps_set (i := 1) sc_law_common.nd rfl (Or.inl rfl) (pe_callB call_abs (by rfl) T.n_abs (by decide +kernel) (pa_cons (pv 1) pa_nil)))
      (pss_cons (ps_while PassesOwn.never (pt_cmpR op_gt (pv 1) pe_int (nomark _))
        (pss_one (ps_par (by rfl) sc_law_common.nd (i := 0) (j := 1) rfl rfl (by decide) rfl rfl (pa_cons (pv 1) (pa_cons (pe_op op_mod (pe_callTy call_int1 (by rfl) T.n_int (by decide +kernel) (pa_cons (pv 0) pa_nil)) (pv 1)) pa_nil)) (by rfl))))
      (pss_one (ps_ret (pv 0)))))), ?_⟩
    refine ⟨_, rfl, _, rfl, _, rfl, _, rfl, ?_⟩
    have ab : ∀ x : Int, (if x < 0 then -x else x) = ((x.natAbs : Nat) : Int) := fun x => by split <;> omega
    refine while_by (fun σ H2 => H2 = H ∧ ∃ x y : Nat, σ = [some (.int x), some (.int y)] ∧ Nat.gcd x y = Nat.gcd a.natAbs b.natAbs) (fun σ _ => match σ with | [_, some (.int y)] => y.toNat | _ => 0) ⟨rfl, a.natAbs, b.natAbs, by
      show [some (V.int (if a < 0 then -a else a)), some (V.int (if b < 0 then -b else b))] = _
      rw [ab, ab], rfl⟩ ?_ ?_
    · rintro σ H2 ⟨rfl, x, y, rfl, hg⟩
      refine ⟨_, rfl, _, _, rfl, rfl, _, rfl, ?_⟩
      by_cases hy : (0 : Int) < (y : Int)
      · refine itY hy ?_
        refine ⟨_, rfl, _, rfl, .inl ⟨_, rfl, _, rfl, _, _, rfl, rfl, hy, _, _, rfl, ?_⟩⟩
        refine ⟨⟨rfl, y, x % y, ?_, ?_⟩, ?_⟩
        · rfl
        · rw [← hg, Nat.gcd_comm x y, Nat.gcd_rec y x]
          exact Nat.gcd_comm _ _
        · show ((x : Int) % (y : Int)).toNat < (y : Int).toNat
          have := Int.emod_lt_of_pos (x : Int) hy
          omega
      · refine itN hy ?_
        refine ⟨_, rfl, ?_⟩
        have hy0 : y = 0 := by omega
        subst hy0
        rw [Nat.gcd_zero_right] at hg
        rw [← hg] at k
        exact k
    · intro σ H Q Q' hq h
      obtain ⟨v, e, i, j, h1, h2, b, h3, h4⟩ := h
      exact ⟨v, e, i, j, h1, h2, b, h3, hq _ _ h4⟩
theorem ok_is (T : Txt K mg A) : FnOk P w K mg base CX0 2 A.a_law_is A.d_law_is ["found", "num", "den"] (spIs A.C_Share) := by
  have G_law_common : FnOk P w K mg base CX0 1 A.a_law_common A.d_law_common ["one", "other"] spCommon := ok_common T
  refine T.F_law_is.ok sc_law_is (fun vs H Q E h => ?_) (fun cdv A' outer s H vs Q E hr h => ?_)
  · obtain ⟨p, n, d, a, b, rfl, _⟩ := h
    rfl
  · obtain ⟨p, n, d, a, b, rfl, h1, r, za, zb, k⟩ := h
    have h1' := id h1
    obtain ⟨dx, h1⟩ := h1
    refine ⟨_, (pss_cons (ps_if (pt_not (pt_val (pe_callB call_isi (by rfl) T.n_isinstance (by decide +kernel) (pa_cons (pv 0) (pa_cons (pe_glob (v := .ref A.C_Share) rfl T.mg_Share rfl) pa_nil))))) (pss_one (ps_ret pe_bl)) pss_nil)
      (pss_cons (ps_if (PW.pt (pw_or (pt_not (pt_val (pe_callB call_isi (by rfl) T.n_isinstance (by decide +kernel) (pa_cons (pe_fld (pv 0) rfl) (pa_cons (pe_bltn (v := .ty "int") (by rfl) T.n_int (by decide +kernel) rfl) pa_nil))))) (pw_or1 (pt_val (pe_callB call_isi (by rfl) T.n_isinstance (by decide +kernel) (pa_cons (pe_fld (pv 0) rfl) (pa_cons (pe_bltn (v := .ty "bool") (by rfl) T.n_bool (by decide +kernel) rfl) pa_nil))))))) (pss_one (ps_ret pe_bl)) pss_nil)
      (pss_cons (ps_if (PW.pt (pw_or (pt_not (pt_val (pe_callB call_isi (by rfl) T.n_isinstance (by decide +kernel) (pa_cons (pe_fld (pv 0) rfl) (pa_cons (pe_bltn (v := .ty "int") (by rfl) T.n_int (by decide +kernel) rfl) pa_nil))))) (pw_or1 (pt_val (pe_callB call_isi (by rfl) T.n_isinstance (by decide +kernel) (pa_cons (pe_fld (pv 0) rfl) (pa_cons (pe_bltn (v := .ty "bool") (by rfl) T.n_bool (by decide +kernel) rfl) pa_nil))))))) (pss_one (ps_ret pe_bl)) pss_nil)
      (pss_cons (ps_set (i := 3) sc_law_is.nd rfl (Or.inl rfl) (pe_call G_law_common (hr.mono (by decide)) rfl T.mg_law_common T.F_law_common.kp T.b_law_common .nil pass0 (pa_cons (pv 1) (pa_cons (pv 2) pa_nil))))
      (pss_cons (ps_if (pt_cmpR op_lt (pv 2) pe_int (nomark _)) (pss_one (ps_set (i := 3) sc_law_is.nd rfl (Or.inl rfl) (pe_un un_neg (pv 3)))) pss_nil)
      (pss_one (ps_ret (pe_and (pe_cmpR op_eq (pe_op op_mulW (pe_fld (pv 0) rfl) (pv 3)) (pv 1) (nomark _)) (pe_one (pe_cmpR op_eq (pe_op op_mulW (pe_fld (pv 0) rfl) (pv 3)) (pv 2) (nomark _))))))))))), ?_⟩
    refine ⟨_, rfl, _, _, _, _, true, rfl, .own _, T.ty h1', T.ko_self, true, rfl, ?_⟩
    refine iteF ?_
    refine ⟨_, rfl, _, _, _, _, _, rfl, h1, T.cl_Share, T.n_Share_num, flds_num _ _, _, _, _, _, true, rfl, .ty _, .base (.int _), kit_ty (by decide +kernel), true, rfl, ?_⟩
    refine iteF ?_
    refine ⟨_, rfl, _, _, _, _, _, rfl, h1, T.cl_Share, T.n_Share_num, flds_num _ _, _, _, _, _, false, rfl, .ty _, .base (.int _), kit_ty (by decide +kernel), false, rfl, ?_⟩
    refine iteF ?_
    refine ⟨_, rfl, _, _, _, _, _, rfl, h1, T.cl_Share, T.n_Share_den, flds_den _ _, _, _, _, _, true, rfl, .ty _, .base (.int _), kit_ty (by decide +kernel), true, rfl, ?_⟩
    refine iteF ?_
    refine ⟨_, rfl, _, _, _, _, _, rfl, h1, T.cl_Share, T.n_Share_den, flds_den _ _, _, _, _, _, false, rfl, .ty _, .base (.int _), kit_ty (by decide +kernel), false, rfl, ?_⟩
    refine iteF ?_
    refine ⟨_, rfl, _, rfl, a, b, rfl, ?_⟩
    refine ⟨_, rfl, _, _, rfl, rfl, _, rfl, ?_⟩
    have rr := r.muls
    have hl := redG_le (a := a) r.nz
    have fin : ∀ c : Int, c = redG a b → c.natAbs < 2 ^ 9000 ∧ n * c = a ∧ d * c = b := fun c hc => by subst hc; exact ⟨by omega, rr.1, rr.2⟩
    have zn : n.natAbs < 2 ^ 9000 := by have := r.le.1; omega
    have zd : d.natAbs < 2 ^ 9000 := by have := r.le.2; omega
    by_cases hn : b < 0
    · refine itY hn ?_
      refine ⟨_, rfl, _, rfl, ?_⟩
      have ec : -((Nat.gcd a.natAbs b.natAbs : Nat) : Int) = redG a b := by unfold redG; rw [if_pos hn]
      obtain ⟨f1, f2, f3⟩ := fin _ ec
      refine ⟨_, rfl, _, _, _, _, _, rfl, h1, T.cl_Share, T.n_Share_num, flds_num _ _, _, rfl, _, _, rfl, rfl, mulW zn f1, _, rfl, rfl, _, rfl, itY (congrArg V.int f2) ?_⟩
      refine ⟨_, rfl, _, _, _, _, _, rfl, h1, T.cl_Share, T.n_Share_den, flds_den _ _, _, rfl, _, _, rfl, rfl, mulW zd f1, _, rfl, rfl, ?_⟩
      rw [decide_eq_true (congrArg V.int f3)]
      exact k
    · refine itN hn ?_
      have ec : ((Nat.gcd a.natAbs b.natAbs : Nat) : Int) = redG a b := by unfold redG; rw [if_neg hn]
      obtain ⟨f1, f2, f3⟩ := fin _ ec
      refine ⟨_, rfl, _, _, _, _, _, rfl, h1, T.cl_Share, T.n_Share_num, flds_num _ _, _, rfl, _, _, rfl, rfl, mulW zn f1, _, rfl, rfl, _, rfl, itY (congrArg V.int f2) ?_⟩
      refine ⟨_, rfl, _, _, _, _, _, rfl, h1, T.cl_Share, T.n_Share_den, flds_den _ _, _, rfl, _, _, rfl, rfl, mulW zd f1, _, rfl, rfl, ?_⟩
      rw [decide_eq_true (congrArg V.int f3)]
      exact k
end
end My
set_option maxRecDepth 100000
set_option maxHeartbeats 4000000
set_option exponentiation.threshold 10000
namespace My
open PySem L2
abbrev SzL (i : Int) : Prop := i.natAbs < 2 ^ 400
theorem SzL.big {i : Int} (h : SzL i) : i.natAbs < 2 ^ 9000 := sz h (by decide)
theorem SzL.mul {i j : Int} (h : SzL i) (h' : SzL j) : (i * j).natAbs < 2 ^ 800 := sz_mul h h'
/-- a / b stands at p, in lowest terms -/
def FrW (C : Addr) (H : Hp) (p : Addr) (a b : Int) : Prop := ∃ n d, Sh C H p n d ∧ Rep n d a b
def FrAt (C : Addr) (H : Hp) (p : Addr) (a b : Int) : Prop := FrW C H p a b ∧ SzL a ∧ SzL b
theorem FrW.same {C : Addr} {H H' : Hp} {p : Addr} {a b : Int} (h : FrW C H p a b) (e : Same H H') : FrW C H' p a b := let ⟨n, d, s, r⟩ := h; ⟨n, d, s.same e, r⟩
theorem FrAt.same {C : Addr} {H H' : Hp} {p : Addr} {a b : Int} (h : FrAt C H p a b) (e : Same H H') : FrAt C H' p a b := ⟨h.1.same e, h.2⟩
theorem FrW.to {C : Addr} {H : Hp} {p : Addr} {a b x y : Int} (h : FrW C H p x y) (hb : b ≠ 0) (e : x * b = a * y) : FrW C H p a b := let ⟨n, d, s, r⟩ := h; ⟨n, d, s, r.to hb e⟩
theorem Rep.nzd {n d a b : Int} (r : Rep n d a b) : d ≠ 0 := Int.ne_of_gt r.pos
theorem rep_add {n d a b m e c f : Int} (r : Rep n d a b) (q : Rep m e c f) : (n * e + m * d) * (b * f) = (a * f + c * b) * (d * e) := by
  have h1 := r.eq
  have h2 := q.eq
  grind
theorem rep_sub {n d a b m e c f : Int} (r : Rep n d a b) (q : Rep m e c f) : (n * e - m * d) * (b * f) = (a * f - c * b) * (d * e) := by
  have h1 := r.eq
  have h2 := q.eq
  grind
theorem rep_mul {n d a b m e c f : Int} (r : Rep n d a b) (q : Rep m e c f) : (n * m) * (b * f) = (a * c) * (d * e) := by
  have h1 := r.eq
  have h2 := q.eq
  grind
section
variable {C : Addr} {H : Hp} {p q : Addr} {a b c f : Int} {Q : VK} {E : XK}
theorem two_of {num den : Int → Int → Int → Int → Int} {N D : Int} (h1 : FrAt C H p a b) (h2 : FrAt C H q c f) (hD : D ≠ 0) (id : ∀ n d m e, Rep n d a b → Rep m e c f → num n d m e * D = N * den n d m e)
    (k : ∀ r H1, Same H H1 → FrW C H1 r N D → Q (.ref r) H1) : rOwn2 C (sp2 C num den) E (.ref p) (.ref q) H Q := by
  obtain ⟨⟨n, d, s1, r1⟩, za, zb⟩ := h1
  obtain ⟨⟨m, e, s2, r2⟩, zc, zf⟩ := h2
  have s1' := s1
  have s2' := s2
  obtain ⟨dx, o1⟩ := s1
  obtain ⟨dy, o2⟩ := s2
  have l1 := r1.le
  have l2 := r2.le
  have zn : SzN n := Nat.lt_of_le_of_lt l1.1 (sz za (by decide))
  have zd : SzN d := Nat.lt_of_le_of_lt l1.2 (sz zb (by decide))
  have zm : SzN m := Nat.lt_of_le_of_lt l2.1 (sz zc (by decide))
  have ze : SzN e := Nat.lt_of_le_of_lt l2.2 (sz zf (by decide))
  exact ⟨p, q, dx, dy, _, _, rfl, rfl, o1, o2, p, q, n, d, m, e, rfl, s1', s2', r1.pos, r2.pos, zn, zd, zm, ze, fun r n' d' H1 sm sh rp => k r H1 sm ⟨n', d', sh, rp.to hD (id _ _ _ _ r1 r2)⟩⟩
theorem nzm (h1 : FrAt C H p a b) (h2 : FrAt C H q c f) : b * f ≠ 0 := by
  obtain ⟨⟨n, d, s1, r1⟩, _⟩ := h1
  obtain ⟨⟨m, e, s2, r2⟩, _⟩ := h2
  exact Int.mul_ne_zero r1.nz r2.nz
theorem nz1 (h1 : FrAt C H p a b) : b ≠ 0 := by
  obtain ⟨⟨n, d, s1, r1⟩, _⟩ := h1
  exact r1.nz
theorem add_of (h1 : FrAt C H p a b) (h2 : FrAt C H q c f) (k : ∀ r H1, Same H H1 → FrW C H1 r (a * f + c * b) (b * f) → Q (.ref r) H1) : rOwn2 C (sp2 C (fun n d m e => n * e + m * d) (fun _ d _ e => d * e)) E (.ref p) (.ref q) H Q :=
  two_of h1 h2 (nzm h1 h2) (fun _ _ _ _ r1 r2 => rep_add r1 r2) k
theorem sub_of (h1 : FrAt C H p a b) (h2 : FrAt C H q c f) (k : ∀ r H1, Same H H1 → FrW C H1 r (a * f - c * b) (b * f) → Q (.ref r) H1) : rOwn2 C (sp2 C (fun n d m e => n * e - m * d) (fun _ d _ e => d * e)) E (.ref p) (.ref q) H Q :=
  two_of h1 h2 (nzm h1 h2) (fun _ _ _ _ r1 r2 => rep_sub r1 r2) k
theorem sub_self_of (h1 : FrAt C H p a b) (k : ∀ r H1, Same H H1 → FrW C H1 r 0 1 → Q (.ref r) H1) : rOwn2 C (sp2 C (fun n d m e => n * e - m * d) (fun _ d _ e => d * e)) E (.ref p) (.ref p) H Q :=
  sub_of h1 h1 fun r H1 sm w => k r H1 sm (w.to (by decide) (by rw [Int.sub_self, Int.zero_mul, Int.zero_mul]))
theorem mul_of (h1 : FrAt C H p a b) (h2 : FrAt C H q c f) (k : ∀ r H1, Same H H1 → FrW C H1 r (a * c) (b * f) → Q (.ref r) H1) : rOwn2 C (sp2 C (fun n _ m _ => n * m) (fun _ d _ e => d * e)) E (.ref p) (.ref q) H Q :=
  two_of h1 h2 (nzm h1 h2) (fun _ _ _ _ r1 r2 => rep_mul r1 r2) k
theorem spI_of {c : Int} (h1 : FrAt C H p a b) (zc : SzL c) (k : ∀ r H1, Same H H1 → FrW C H1 r (a * c) b → Q (.ref r) H1) : ∃ dx fs, H p = some (.ins C dx fs) ∧ spI C [.ref p, .int c] H Q E := by
  obtain ⟨⟨n, d, s1, r1⟩, za, zb⟩ := h1
  have s1' := s1
  obtain ⟨dx, o1⟩ := s1
  have l1 := r1.le
  have zn : SzN n := Nat.lt_of_le_of_lt l1.1 (sz za (by decide))
  have zd : SzN d := Nat.lt_of_le_of_lt l1.2 (sz zb (by decide))
  refine ⟨dx, _, o1, p, n, d, c, rfl, s1', r1.pos, zn, zd, sz zc (by decide), fun r n' d' H1 sm sh rp => k r H1 sm ⟨n', d', sh, rp.to r1.nz ?_⟩⟩
  have := r1.eq
  grind
theorem mulI_of {c : Int} (h1 : FrAt C H p a b) (zc : SzL c) (k : ∀ r H1, Same H H1 → FrW C H1 r (a * c) b → Q (.ref r) H1) : rOwnI C (spI C) E (.ref p) (.int c) H Q :=
  let ⟨dx, fs, o, s⟩ := spI_of h1 zc k
  ⟨p, dx, fs, c, rfl, rfl, o, s⟩
theorem rmul_of {c : Int} (h1 : FrAt C H p a b) (zc : SzL c) (k : ∀ r H1, Same H H1 → FrW C H1 r (c * a) b → Q (.ref r) H1) : rIOwn C (spI C) E (.int c) (.ref p) H Q :=
  let ⟨dx, fs, o, s⟩ := spI_of h1 zc (fun r H1 sm w => k r H1 sm (by rw [Int.mul_comm]; exact w))
  ⟨p, dx, fs, c, rfl, rfl, o, s⟩
theorem one_of {num : Int → Int} {N D : Int} (h1 : FrAt C H p a b) (hD : D ≠ 0) (id : ∀ n d, Rep n d a b → num n * D = N * d) (k : ∀ r H1, Same H H1 → FrW C H1 r N D → Q (.ref r) H1) : ∃ dx fs, H p = some (.ins C dx fs) ∧ sp1 C num [.ref p] H Q E := by
  obtain ⟨⟨n, d, s1, r1⟩, za, zb⟩ := h1
  have s1' := s1
  obtain ⟨dx, o1⟩ := s1
  have l1 := r1.le
  have zn : SzN n := Nat.lt_of_le_of_lt l1.1 (sz za (by decide))
  have zd : SzN d := Nat.lt_of_le_of_lt l1.2 (sz zb (by decide))
  exact ⟨dx, _, o1, p, n, d, rfl, s1', r1.pos, zn, zd, fun r n' d' H1 sm sh rp => k r H1 sm ⟨n', d', sh, rp.to hD (id _ _ r1)⟩⟩
theorem neg_of (h1 : FrAt C H p a b) (k : ∀ r H1, Same H H1 → FrW C H1 r (-a) b → Q (.ref r) H1) : rOwn1 C (sp1 C (fun n => -n)) E (.ref p) H Q :=
  let ⟨dx, fs, o, s⟩ := one_of (N := -a) (D := b) (num := fun n => -n) h1 (nz1 h1) (fun n d r => by rw [Int.neg_mul, Int.neg_mul, r.eq]) k
  ⟨p, dx, fs, rfl, o, s⟩
theorem abs_of (h1 : FrAt C H p a b) (k : ∀ r H1, Same H H1 → FrW C H1 r (if a < 0 then -a else a) (if b < 0 then -b else b) → Q (.ref r) H1) :
    ∃ x dx fs, ([.ref p] : List V) = [V.ref x] ∧ H x = some (.ins C dx fs) ∧ sp1 C (fun n => if n < 0 then -n else n) [.ref x] H Q E := by
  have ab : ∀ x : Int, (if x < 0 then -x else x) = ((x.natAbs : Nat) : Int) := fun x => by split <;> omega
  have hb := nz1 h1
  obtain ⟨dx, fs, o, s⟩ := one_of (E := E) (Q := Q) (N := if a < 0 then -a else a) (D := if b < 0 then -b else b) (num := fun n => if n < 0 then -n else n) h1 (by rw [ab]; omega) (fun n d r => by
    show (if n < 0 then -n else n) * (if b < 0 then -b else b) = (if a < 0 then -a else a) * d
    rw [ab, ab, ab]
    have e := congrArg Int.natAbs r.eq
    rw [Int.natAbs_mul, Int.natAbs_mul] at e
    have hd : (d.natAbs : Int) = d := by have := r.pos; omega
    rw [← hd, ← Int.natCast_mul, ← Int.natCast_mul]
    exact congrArg (fun z : Nat => (z : Int)) e) k
  exact ⟨p, dx, fs, rfl, o, s⟩
/-- what _law_is is asked -/
theorem is_of {N D : Int} (h : FrW C H p N D) (zN : N.natAbs < 2 ^ 9000) (zD : D.natAbs < 2 ^ 9000) (k : Q (.bl true) H) : spIs C [.ref p, .int N, .int D] H Q E :=
  let ⟨n, d, s, r⟩ := h
  ⟨p, n, d, N, D, rfl, s, r, zN, zD, k⟩
end
theorem z800 {i : Int} (h : i.natAbs < 2 ^ 800) : i.natAbs < 2 ^ 9000 := sz h (by decide)
theorem z801 {i : Int} (h : i.natAbs < 2 ^ 801) : i.natAbs < 2 ^ 9000 := sz h (by decide)
def spSums (C : Addr) : Sp := fun vs H Q _ => ∃ (p q : Addr) (a b c f : Int), vs = [.ref p, .ref q, .int a, .int b, .int c, .int f] ∧ FrAt C H p a b ∧ FrAt C H q c f ∧ ∀ H', Same H H' → Q (.bl true) H'
def spProd (C : Addr) : Sp := fun vs H Q _ => ∃ (p q : Addr) (k a b c f : Int), vs = [.ref p, .ref q, .int k, .int a, .int b, .int c, .int f] ∧ FrAt C H p a b ∧ FrAt C H q c f ∧ SzL k ∧ ∀ H', Same H H' → Q (.bl true) H'
section
variable {P : Program} {w : World} {K : PySem.W.Frag} {mg : Str → Option Value} {base : Heap} {A : Ad}
theorem ok_sums (T : Txt K mg A) : FnOk P w K mg base CX0 4 A.a_law_sums A.d_law_sums ["x", "y", "a", "b", "c", "d"] (spSums A.C_Share) := by
  have G_law_is : FnOk P w K mg base CX0 2 A.a_law_is A.d_law_is ["found", "num", "den"] (spIs A.C_Share) := ok_is T
  have G_Share_add := ok_add (P := P) (w := w) (base := base) T
  have G_Share_sub := ok_sub (P := P) (w := w) (base := base) T
  refine T.F_law_sums.ok sc_law_sums (fun vs H Q E h => ?_) (fun cdv A' outer s H vs Q E hr h => ?_)
  · obtain ⟨p, q, a, b, c, f, rfl, _⟩ := h
    rfl
  · obtain ⟨p, q, a, b, c, f, rfl, h1, h2, k⟩ := h
    have za := h1.2.1
    have zb := h1.2.2
    have zc := h2.2.1
    have zf := h2.2.2
    refine ⟨_, (pss_cons (ps_if (PW.pt (pw_or (pt_not (pt_val (pe_call G_law_is (hr.mono (by decide)) rfl T.mg_law_is T.F_law_is.kp T.b_law_is .nil pass0 (pa_cons (pe_op (op_own2 G_Share_add T.b_Share_add pass0 (hr.mono (by decide)) T.ds_Share_add T.m_Share_add.fn T.sf_Share) (pv 0) (pv 1)) (pa_cons (pe_op op_add (pe_op op_mulW (pv 2) (pv 5)) (pe_op op_mulW (pv 4) (pv 3))) (pa_cons (pe_op op_mulW (pv 3) (pv 5)) pa_nil)))))) (pw_or1 (pt_not (pt_val (pe_call G_law_is (hr.mono (by decide)) rfl T.mg_law_is T.F_law_is.kp T.b_law_is .nil pass0 (pa_cons (pe_op (op_own2 G_Share_add T.b_Share_add pass0 (hr.mono (by decide)) T.ds_Share_add T.m_Share_add.fn T.sf_Share) (pv 1) (pv 0)) (pa_cons (pe_op op_add (pe_op op_mulW (pv 4) (pv 3)) (pe_op op_mulW (pv 2) (pv 5))) (pa_cons (pe_op op_mulW (pv 5) (pv 3)) pa_nil))))))))) (pss_one (ps_ret pe_bl)) pss_nil)
      (pss_cons (ps_if (PW.pt (pw_or (pt_not (pt_val (pe_call G_law_is (hr.mono (by decide)) rfl T.mg_law_is T.F_law_is.kp T.b_law_is .nil pass0 (pa_cons (pe_op (op_own2 G_Share_sub T.b_Share_sub pass0 (hr.mono (by decide)) T.ds_Share_sub T.m_Share_sub.fn T.sf_Share) (pv 0) (pv 1)) (pa_cons (pe_op op_sub (pe_op op_mulW (pv 2) (pv 5)) (pe_op op_mulW (pv 4) (pv 3))) (pa_cons (pe_op op_mulW (pv 3) (pv 5)) pa_nil)))))) (pw_or1 (pt_not (pt_val (pe_call G_law_is (hr.mono (by decide)) rfl T.mg_law_is T.F_law_is.kp T.b_law_is .nil pass0 (pa_cons (pe_op (op_own2 G_Share_sub T.b_Share_sub pass0 (hr.mono (by decide)) T.ds_Share_sub T.m_Share_sub.fn T.sf_Share) (pv 1) (pv 0)) (pa_cons (pe_op op_sub (pe_op op_mulW (pv 4) (pv 3)) (pe_op op_mulW (pv 2) (pv 5))) (pa_cons (pe_op op_mulW (pv 5) (pv 3)) pa_nil))))))))) (pss_one (ps_ret pe_bl)) pss_nil)
      (pss_one (ps_ret (pe_call G_law_is (hr.mono (by decide)) rfl T.mg_law_is T.F_law_is.kp T.b_law_is .nil pass0 (pa_cons (pe_op (op_own2 G_Share_sub T.b_Share_sub pass0 (hr.mono (by decide)) T.ds_Share_sub T.m_Share_sub.fn T.sf_Share) (pv 0) (pv 0)) (pa_cons pe_int (pa_cons pe_int pa_nil)))))))), ?_⟩
    refine ⟨_, rfl, _, rfl, add_of h1 h2 fun r H1 sm ⟨n1, d1, t1, p1⟩ => ?_⟩
    refine ⟨_, rfl, _, rfl, _, _, rfl, rfl, mulW za.big zf.big, _, rfl, _, rfl, _, _, rfl, rfl, mulW zc.big zb.big, _, _, rfl, rfl, _, rfl, _, rfl, _, _, rfl, rfl, mulW zb.big zf.big, _, _, _, _, _, rfl, t1, p1, (z801 (sz_add (za.mul zf) (zc.mul zb))), (z800 (zb.mul zf)), _, rfl, ?_⟩
    refine iteF ?_
    refine ⟨_, rfl, _, rfl, add_of (h2.same sm) (h1.same sm) fun r2 H2 sm2 ⟨n2, d2, t2, p2⟩ => ?_⟩
    refine ⟨_, rfl, _, rfl, _, _, rfl, rfl, mulW zc.big zb.big, _, rfl, _, rfl, _, _, rfl, rfl, mulW za.big zf.big, _, _, rfl, rfl, _, rfl, _, rfl, _, _, rfl, rfl, mulW zf.big zb.big, _, _, _, _, _, rfl, t2, p2, (z801 (sz_add (zc.mul zb) (za.mul zf))), (z800 (zf.mul zb)), _, rfl, ?_⟩
    refine iteF ?_
    have s2 := sm.trans sm2
    refine ⟨_, rfl, _, rfl, sub_of (h1.same s2) (h2.same s2) fun r3 H3 sm3 ⟨n3, d3, t3, p3⟩ => ?_⟩
    refine ⟨_, rfl, _, rfl, _, _, rfl, rfl, mulW za.big zf.big, _, rfl, _, rfl, _, _, rfl, rfl, mulW zc.big zb.big, _, _, rfl, rfl, _, rfl, _, rfl, _, _, rfl, rfl, mulW zb.big zf.big, _, _, _, _, _, rfl, t3, p3, (z801 (sz_sub (za.mul zf) (zc.mul zb))), (z800 (zb.mul zf)), _, rfl, ?_⟩
    refine iteF ?_
    have s3 := s2.trans sm3
    refine ⟨_, rfl, _, rfl, sub_of (h2.same s3) (h1.same s3) fun r4 H4 sm4 ⟨n4, d4, t4, p4⟩ => ?_⟩
    refine ⟨_, rfl, _, rfl, _, _, rfl, rfl, mulW zc.big zb.big, _, rfl, _, rfl, _, _, rfl, rfl, mulW za.big zf.big, _, _, rfl, rfl, _, rfl, _, rfl, _, _, rfl, rfl, mulW zf.big zb.big, _, _, _, _, _, rfl, t4, p4, (z801 (sz_sub (zc.mul zb) (za.mul zf))), (z800 (zf.mul zb)), _, rfl, ?_⟩
    refine iteF ?_
    have s4 := s3.trans sm4
    refine ⟨_, rfl, _, rfl, sub_self_of (h1.same s4) fun r5 H5 sm5 ⟨n5, d5, t5, p5⟩ => ?_⟩
    exact ⟨_, _, _, _, _, rfl, t5, p5, by decide, by decide, k _ (s4.trans sm5)⟩
theorem ok_prod (T : Txt K mg A) : FnOk P w K mg base CX0 5 A.a_law_products A.d_law_products ["x", "y", "k", "a", "b", "c", "d"] (spProd A.C_Share) := by
  have G_law_is : FnOk P w K mg base CX0 2 A.a_law_is A.d_law_is ["found", "num", "den"] (spIs A.C_Share) := ok_is T
  have G_Share_mul := ok_mul (P := P) (w := w) (base := base) T
  have GI_Share_mul := ok_mulI (P := P) (w := w) (base := base) T
  have G_Share_rmul := ok_rmul (P := P) (w := w) (base := base) T
  have G_Share_neg := ok_neg (P := P) (w := w) (base := base) T
  have G_Share_abs := ok_abs (P := P) (w := w) (base := base) T
  refine T.F_law_products.ok sc_law_products (fun vs H Q E h => ?_) (fun cdv A' outer s H vs Q E hr h => ?_)
  · obtain ⟨p, q, k, a, b, c, f, rfl, _⟩ := h
    rfl
  · obtain ⟨p, q, g, a, b, c, f, rfl, h1, h2, zk, k⟩ := h
    have za := h1.2.1
    have zb := h1.2.2
    have zc := h2.2.1
    have zf := h2.2.2
    have ab : ∀ {x : Int}, SzL x → (if x < 0 then -x else x).natAbs < 2 ^ 9000 := fun {x} h => by
      have e : (if x < 0 then -x else x).natAbs = x.natAbs := by split <;> omega
      rw [e]; exact h.big
    refine ⟨_, (pss_cons (ps_if (PW.pt (pw_or (pt_not (pt_val (pe_call G_law_is (hr.mono (by decide)) rfl T.mg_law_is T.F_law_is.kp T.b_law_is .nil pass0 (pa_cons (pe_op (op_own2 G_Share_mul T.b_Share_mul pass0 (hr.mono (by decide)) T.ds_Share_mul T.m_Share_mul.fn T.sf_Share) (pv 0) (pv 1)) (pa_cons (pe_op op_mulW (pv 3) (pv 5)) (pa_cons (pe_op op_mulW (pv 4) (pv 6)) pa_nil)))))) (pw_or1 (pt_not (pt_val (pe_call G_law_is (hr.mono (by decide)) rfl T.mg_law_is T.F_law_is.kp T.b_law_is .nil pass0 (pa_cons (pe_op (op_own2 G_Share_mul T.b_Share_mul pass0 (hr.mono (by decide)) T.ds_Share_mul T.m_Share_mul.fn T.sf_Share) (pv 1) (pv 0)) (pa_cons (pe_op op_mulW (pv 5) (pv 3)) (pa_cons (pe_op op_mulW (pv 6) (pv 4)) pa_nil))))))))) (pss_one (ps_ret pe_bl)) pss_nil)
      (pss_cons (ps_if (PW.pt (pw_or (pt_not (pt_val (pe_call G_law_is (hr.mono (by decide)) rfl T.mg_law_is T.F_law_is.kp T.b_law_is .nil pass0 (pa_cons (pe_op (op_ownI GI_Share_mul T.b_Share_mul pass0 (hr.mono (by decide)) T.ds_Share_mul T.m_Share_mul.fn T.sf_Share T.dr_Share_mul (Or.inr ⟨_, rfl⟩) T.ti_mul T.tr_mul T.su_Share) (pv 0) (pv 2)) (pa_cons (pe_op op_mulW (pv 3) (pv 2)) (pa_cons (pv 4) pa_nil)))))) (pw_or (pt_not (pt_val (pe_call G_law_is (hr.mono (by decide)) rfl T.mg_law_is T.F_law_is.kp T.b_law_is .nil pass0 (pa_cons (pe_op (op_mulIOwn G_Share_rmul T.b_Share_rmul pass0 (hr.mono (by decide)) T.ds_Share_mul T.dr_Share_mul T.m_Share_rmul.fn T.sf_Share T.sx_Share) (pv 2) (pv 0)) (pa_cons (pe_op op_mulW (pv 2) (pv 3)) (pa_cons (pv 4) pa_nil)))))) (pw_or1 (pt_not (pt_val (pe_call G_law_is (hr.mono (by decide)) rfl T.mg_law_is T.F_law_is.kp T.b_law_is .nil pass0 (pa_cons (pe_op (op_mulIOwn G_Share_rmul T.b_Share_rmul pass0 (hr.mono (by decide)) T.ds_Share_mul T.dr_Share_mul T.m_Share_rmul.fn T.sf_Share T.sx_Share) (pv 2) (pv 1)) (pa_cons (pe_op op_mulW (pv 2) (pv 5)) (pa_cons (pv 6) pa_nil)))))))))) (pss_one (ps_ret pe_bl)) pss_nil)
      (pss_cons (ps_if (PW.pt (pw_or (pt_not (pt_val (pe_call G_law_is (hr.mono (by decide)) rfl T.mg_law_is T.F_law_is.kp T.b_law_is .nil pass0 (pa_cons (pe_un (un_own G_Share_neg T.b_Share_neg pass0 (hr.mono (by decide)) T.m_Share_neg.at_ T.m_Share_neg.fn) (pv 0)) (pa_cons (pe_un un_neg (pv 3)) (pa_cons (pv 4) pa_nil)))))) (pw_or1 (pt_not (pt_val (pe_call G_law_is (hr.mono (by decide)) rfl T.mg_law_is T.F_law_is.kp T.b_law_is .nil pass0 (pa_cons (pe_un (un_own G_Share_neg T.b_Share_neg pass0 (hr.mono (by decide)) T.m_Share_neg.at_ T.m_Share_neg.fn) (pv 1)) (pa_cons (pe_un un_neg (pv 5)) (pa_cons (pv 6) pa_nil))))))))) (pss_one (ps_ret pe_bl)) pss_nil)
      (pss_one (ps_ret (pe_and (pe_call G_law_is (hr.mono (by decide)) rfl T.mg_law_is T.F_law_is.kp T.b_law_is .nil pass0 (pa_cons (pe_callB (call_absOwn G_Share_abs T.b_Share_abs pass0 (hr.mono (by decide)) T.m_Share_abs.at_ T.m_Share_abs.fn) (by rfl) T.n_abs (by decide +kernel) (pa_cons (pv 0) pa_nil)) (pa_cons (pe_callB call_abs (by rfl) T.n_abs (by decide +kernel) (pa_cons (pv 3) pa_nil)) (pa_cons (pe_callB call_abs (by rfl) T.n_abs (by decide +kernel) (pa_cons (pv 4) pa_nil)) pa_nil)))) (pe_one (pe_call G_law_is (hr.mono (by decide)) rfl T.mg_law_is T.F_law_is.kp T.b_law_is .nil pass0 (pa_cons (pe_callB (call_absOwn G_Share_abs T.b_Share_abs pass0 (hr.mono (by decide)) T.m_Share_abs.at_ T.m_Share_abs.fn) (by rfl) T.n_abs (by decide +kernel) (pa_cons (pv 1) pa_nil)) (pa_cons (pe_callB call_abs (by rfl) T.n_abs (by decide +kernel) (pa_cons (pv 5) pa_nil)) (pa_cons (pe_callB call_abs (by rfl) T.n_abs (by decide +kernel) (pa_cons (pv 6) pa_nil)) pa_nil))))))))))), ?_⟩
    refine ⟨_, rfl, _, rfl, mul_of h1 h2 fun r H1 sm ⟨n1, d1, t1, p1⟩ => ?_⟩
    refine ⟨_, rfl, _, rfl, _, _, rfl, rfl, mulW za.big zc.big, _, rfl, _, rfl, _, _, rfl, rfl, mulW zb.big zf.big, _, _, _, _, _, rfl, t1, p1, (z800 (za.mul zc)), (z800 (zb.mul zf)), _, rfl, ?_⟩
    refine iteF ?_
    refine ⟨_, rfl, _, rfl, mul_of (h2.same sm) (h1.same sm) fun r2 H2 sm2 ⟨n2, d2, t2, p2⟩ => ?_⟩
    refine ⟨_, rfl, _, rfl, _, _, rfl, rfl, mulW zc.big za.big, _, rfl, _, rfl, _, _, rfl, rfl, mulW zf.big zb.big, _, _, _, _, _, rfl, t2, p2, (z800 (zc.mul za)), (z800 (zf.mul zb)), _, rfl, ?_⟩
    refine iteF ?_
    have s2 := sm.trans sm2
    refine ⟨_, rfl, _, rfl, mulI_of (h1.same s2) zk fun r3 H3 sm3 ⟨n3, d3, t3, p3⟩ => ?_⟩
    refine ⟨_, rfl, _, rfl, _, _, rfl, rfl, mulW za.big zk.big, _, rfl, _, _, _, _, _, rfl, t3, p3, (z800 (za.mul zk)), zb.big, _, rfl, ?_⟩
    refine iteF ?_
    have s3 := s2.trans sm3
    refine ⟨_, rfl, _, rfl, rmul_of (h1.same s3) zk fun r4 H4 sm4 ⟨n4, d4, t4, p4⟩ => ?_⟩
    refine ⟨_, rfl, _, rfl, _, _, rfl, rfl, mulW zk.big za.big, _, rfl, _, _, _, _, _, rfl, t4, p4, (z800 (zk.mul za)), zb.big, _, rfl, ?_⟩
    refine iteF ?_
    have s4 := s3.trans sm4
    refine ⟨_, rfl, _, rfl, rmul_of (h2.same s4) zk fun r5 H5 sm5 ⟨n5, d5, t5, p5⟩ => ?_⟩
    refine ⟨_, rfl, _, rfl, _, _, rfl, rfl, mulW zk.big zc.big, _, rfl, _, _, _, _, _, rfl, t5, p5, (z800 (zk.mul zc)), zf.big, _, rfl, ?_⟩
    refine iteF ?_
    have s5 := s4.trans sm5
    refine ⟨_, rfl, neg_of (h1.same s5) fun r6 H6 sm6 ⟨n6, d6, t6, p6⟩ => ?_⟩
    refine ⟨_, rfl, _, rfl, _, rfl, _, _, _, _, _, rfl, t6, p6, (sz_neg za.big), zb.big, _, rfl, ?_⟩
    refine iteF ?_
    have s6 := s5.trans sm6
    refine ⟨_, rfl, neg_of (h2.same s6) fun r7 H7 sm7 ⟨n7, d7, t7, p7⟩ => ?_⟩
    refine ⟨_, rfl, _, rfl, _, rfl, _, _, _, _, _, rfl, t7, p7, (sz_neg zc.big), zf.big, _, rfl, ?_⟩
    refine iteF ?_
    have s7 := s6.trans sm7
    refine ⟨_, rfl, abs_of (h1.same s7) fun r8 H8 sm8 ⟨n8, d8, t8, p8⟩ => ?_⟩
    refine ⟨_, rfl, _, rfl, _, rfl, _, rfl, _, _, _, _, _, rfl, t8, p8, (ab za), (ab zb), _, rfl, ?_⟩
    refine iteT ?_
    have s8 := s7.trans sm8
    refine ⟨_, rfl, abs_of (h2.same s8) fun r9 H9 sm9 ⟨n9, d9, t9, p9⟩ => ?_⟩
    exact ⟨_, rfl, _, rfl, _, rfl, _, rfl, _, _, _, _, _, rfl, t9, p9, ab zc, ab zf, k _ (s8.trans sm9)⟩
end
end My
set_option maxRecDepth 100000
set_option maxHeartbeats 4000000
set_option exponentiation.threshold 10000
namespace My
open PySem L2
theorem dec_iff {p q : Prop} [Decidable p] [Decidable q] (h : p ↔ q) : decide p = decide q := by
  by_cases z : p
  · rw [decide_eq_true z, decide_eq_true (h.mp z)]
  · rw [decide_eq_false z, decide_eq_false (fun y => z (h.mpr y))]
section
variable {n d a b m e c f : Int}
theorem cmp_L (r : Rep n d a b) (q : Rep m e c f) : (a * b * f * f) * (d * e) = (n * e) * ((b * f) * (b * f)) := by
  have h1 := r.eq
  have h2 := q.eq
  grind
theorem cmp_R (r : Rep n d a b) (q : Rep m e c f) : (c * f * b * b) * (d * e) = (m * d) * ((b * f) * (b * f)) := by
  have h1 := r.eq
  have h2 := q.eq
  grind
theorem de_pos (r : Rep n d a b) (q : Rep m e c f) : 0 < d * e := Int.mul_pos r.pos q.pos
theorem sq_pos {x : Int} (h : x ≠ 0) : 0 < x * x := by
  rcases Int.lt_trichotomy x 0 with z | z | z
  · exact Int.mul_pos_of_neg_of_neg z z
  · exact absurd z h
  · exact Int.mul_pos z z
theorem bf_pos (r : Rep n d a b) (q : Rep m e c f) : 0 < (b * f) * (b * f) := sq_pos (Int.mul_ne_zero r.nz q.nz)
theorem lt_LR (r : Rep n d a b) (q : Rep m e c f) : (n * e < m * d ↔ a * b * f * f < c * f * b * b) := by
  rw [← Int.mul_lt_mul_right (de_pos r q) (b := a * b * f * f), cmp_L r q, cmp_R r q, Int.mul_lt_mul_right (bf_pos r q)]
theorem lt_RL (r : Rep n d a b) (q : Rep m e c f) : (m * d < n * e ↔ c * f * b * b < a * b * f * f) := by
  rw [← Int.mul_lt_mul_right (de_pos r q) (b := c * f * b * b), cmp_L r q, cmp_R r q, Int.mul_lt_mul_right (bf_pos r q)]
theorem eq_LR (r : Rep n d a b) (q : Rep m e c f) : (n = m ∧ d = e ↔ a * b * f * f = c * f * b * b) := by
  rw [← Int.mul_eq_mul_right_iff (a := a * b * f * f) (Int.ne_of_gt (de_pos r q)), cmp_L r q, cmp_R r q, Int.mul_eq_mul_right_iff (Int.ne_of_gt (bf_pos r q))]
  constructor
  · rintro ⟨rfl, rfl⟩; rfl
  · intro h
    have s : Rep n d m e := r.to (Int.ne_of_gt q.pos) (by
      have h1 := r.eq
      have h2 := q.eq
      refine Int.eq_of_mul_eq_mul_right (Int.ne_of_gt r.pos) ?_
      have : b * (m * d) = b * (n * e) := by rw [h]
      grind)
    have g : redG m e = 1 := by
      unfold redG
      rw [q.cop, if_neg (by have := q.pos; omega)]; rfl
    have k := s.muls
    rw [g, Int.mul_one, Int.mul_one] at k
    exact k
theorem ne_0 (r : Rep n d a b) : (n != 0) = !decide (a = 0) := by
  have h : n = 0 ↔ a = 0 := by
    have e := r.eq
    constructor
    · intro z; subst z; rw [Int.zero_mul] at e
      rcases Int.mul_eq_zero.mp e.symm with z | z
      · exact z
      · exact absurd z (Int.ne_of_gt r.pos)
    · intro z; subst z; rw [Int.zero_mul] at e
      rcases Int.mul_eq_zero.mp e with z | z
      · exact z
      · exact absurd z r.nz
  show (!(n == 0)) = _
  have : (n == 0) = decide (n = 0) := by rfl
  rw [this, dec_iff h]
end
theorem dV (x y : Int) : decide (V.int x = V.int y) = decide (x = y) := dec_iff ⟨fun h => V.int.inj h, fun h => congrArg V.int h⟩
theorem dpAll_bl {K : PySem.W.Frag} {H : Hp} : ∀ bs : List Bool, DpAll K H (bs.map V.bl) (bs.map PyData.bool)
  | [] => .nil
  | b :: bs => .cons (.bl b) (dpAll_bl bs)
def spComp (C : Addr) : Sp := fun vs H Q _ => ∃ (p q : Addr) (a b c f : Int), vs = [.ref p, .ref q, .int a, .int b, .int c, .int f] ∧ FrAt C H p a b ∧ FrAt C H q c f ∧ ∀ H', Same H H' → Q (.bl true) H'
theorem flds_below (n d : Int) : (flds n d).lookup ("below" : Str) = none := by
  unfold flds
  rw [lookup_putF, if_neg (by decide +kernel), lookup_putF, if_neg (by decide +kernel)]
  rfl
/-- law's: a list of at most 63 ints is handed in, True comes out -/
def spLaw (K : PySem.W.Frag) : Sp := fun vs H Q _ => ∃ (a : Addr) (ns : List Int), vs = [.ref a] ∧ SqL K H a (ns.map V.int) ∧ ns.length ≤ 63 ∧ ∀ H', Q (.bl true) H'
section
variable {P : Program} {w : World} {K : PySem.W.Frag} {mg : Str → Option Value} {base : Heap} {A : Ad}
theorem ok_comp (T : Txt K mg A) : FnOk P w K mg base CX0 6 A.a_law_compared A.d_law_compared ["x", "y", "a", "b", "c", "d"] (spComp A.C_Share) := by
  have G_Share_eq := ok_eq (P := P) (w := w) (base := base) T
  have G_Share_below := ok_below (P := P) (w := w) (base := base) T
  have G_Share_bool := ok_bool (P := P) (w := w) (base := base) T
  have G_Share_sub := ok_sub (P := P) (w := w) (base := base) T
  refine T.F_law_compared.ok sc_law_compared (fun vs H Q E h => ?_) (fun cdv A' outer s H vs Q E hr h => ?_)
  · obtain ⟨p, q, a, b, c, f, rfl, _⟩ := h
    rfl
  · obtain ⟨p, q, a, b, c, f, rfl, h1, h2, k⟩ := h
    have za := h1.2.1
    have zb := h1.2.2
    have zc := h2.2.1
    have zf := h2.2.2
    obtain ⟨⟨n, d, s1, r1⟩, _⟩ := id h1
    obtain ⟨⟨m, e, s2, r2⟩, _⟩ := id h2
    obtain ⟨dx, o1⟩ := id s1
    obtain ⟨dy, o2⟩ := id s2
    have l1 := r1.le
    have l2 := r2.le
    have zn : SzN n := Nat.lt_of_le_of_lt l1.1 (sz za (by decide))
    have zd : SzN d := Nat.lt_of_le_of_lt l1.2 (sz zb (by decide))
    have zm : SzN m := Nat.lt_of_le_of_lt l2.1 (sz zc (by decide))
    have ze : SzN e := Nat.lt_of_le_of_lt l2.2 (sz zf (by decide))
    refine ⟨_, (pss_cons (ps_set (i := 6) sc_law_compared.nd rfl (Or.inl rfl) (pe_lst (pa_cons (pe_cmpR (op_eqOwn G_Share_eq T.b_Share_eq pass0 (hr.mono (by decide)) T.m_Share_eq.at_ T.m_Share_eq.fn) (pv 0) (pv 1) (nomark _)) (pa_cons (pe_cmpR (op_eqOwn G_Share_eq T.b_Share_eq pass0 (hr.mono (by decide)) T.m_Share_eq.at_ T.m_Share_eq.fn) (pv 1) (pv 0) (nomark _)) (pa_cons (pe_meth (pv 0) T.cl_Share T.m_Share_below G_Share_below (hr.mono (by decide)) T.b_Share_below .nil pass0 (pa_cons (pv 1) pa_nil)) (pa_cons (pe_meth (pv 1) T.cl_Share T.m_Share_below G_Share_below (hr.mono (by decide)) T.b_Share_below .nil pass0 (pa_cons (pv 0) pa_nil)) (pa_cons (pe_meth (pv 0) T.cl_Share T.m_Share_below G_Share_below (hr.mono (by decide)) T.b_Share_below .nil pass0 (pa_cons (pv 0) pa_nil)) (pa_cons (pe_callTy (call_boolOwn G_Share_bool T.b_Share_bool pass0 (hr.mono (by decide)) T.m_Share_bool.at_ T.m_Share_bool.fn) (by rfl) T.n_bool (by decide +kernel) (pa_cons (pv 0) pa_nil)) (pa_cons (pe_callTy (call_boolOwn G_Share_bool T.b_Share_bool pass0 (hr.mono (by decide)) T.m_Share_bool.at_ T.m_Share_bool.fn) (by rfl) T.n_bool (by decide +kernel) (pa_cons (pv 1) pa_nil)) (pa_cons (pe_callTy (call_boolOwn G_Share_bool T.b_Share_bool pass0 (hr.mono (by decide)) T.m_Share_bool.at_ T.m_Share_bool.fn) (by rfl) T.n_bool (by decide +kernel) (pa_cons (pe_op (op_own2 G_Share_sub T.b_Share_sub pass0 (hr.mono (by decide)) T.ds_Share_sub T.m_Share_sub.fn T.sf_Share) (pv 0) (pv 0)) pa_nil)) pa_nil))))))))))
      (pss_cons (ps_for PassesOwn.never rfl (pi_list (pv 6)) (pg_name (i := 7) sc_law_compared.nd rfl (Or.inl rfl))
        (pss_one (ps_if (pt_not (pt_val (pe_callB call_isi (by rfl) T.n_isinstance (by decide +kernel) (pa_cons (pv 7) (pa_cons (pe_bltn (v := .ty "bool") (by rfl) T.n_bool (by decide +kernel) rfl) pa_nil))))) (pss_one (ps_ret pe_bl)) pss_nil)))
      (pss_cons (ps_set (i := 8) sc_law_compared.nd rfl (Or.inl rfl) (pe_op op_mulW (pe_op op_mulW (pe_op op_mulW (pv 2) (pv 3)) (pv 5)) (pv 5)))
      (pss_cons (ps_set (i := 9) sc_law_compared.nd rfl (Or.inl rfl) (pe_op op_mulW (pe_op op_mulW (pe_op op_mulW (pv 4) (pv 5)) (pv 3)) (pv 3)))
      (pss_one (ps_ret (pe_cmpR (op_eqD hr.units) (pv 6) (pe_lst (pa_cons (pe_cmpR op_eq (pv 8) (pv 9) (nomark _)) (pa_cons (pe_cmpR op_eq (pv 8) (pv 9) (nomark _)) (pa_cons (pe_cmpR op_lt (pv 8) (pv 9) (nomark _)) (pa_cons (pe_cmpR op_lt (pv 9) (pv 8) (nomark _)) (pa_cons pe_bl (pa_cons (pe_cmpR op_ne (pv 2) pe_int (nomark _)) (pa_cons (pe_cmpR op_ne (pv 4) pe_int (nomark _)) (pa_cons pe_bl pa_nil))))))))) (nomark _)))))))), ?_⟩
    refine ⟨_, rfl, _, rfl, p, q, dx, dy, _, _, rfl, rfl, o1, o2, p, q, n, d, m, e, rfl, s1, s2, zn, zd, zm, ze, ?_⟩
    refine ⟨_, rfl, _, rfl, q, p, dy, dx, _, _, rfl, rfl, o2, o1, q, p, m, e, n, d, rfl, s2, s1, zm, ze, zn, zd, ?_⟩
    refine ⟨_, rfl, p, dx, _, rfl, o1, flds_below _ _, _, rfl, p, q, n, d, m, e, rfl, s1, s2, zn, zd, zm, ze, ?_⟩
    refine ⟨_, rfl, q, dy, _, rfl, o2, flds_below _ _, _, rfl, q, p, m, e, n, d, rfl, s2, s1, zm, ze, zn, zd, ?_⟩
    refine ⟨_, rfl, p, dx, _, rfl, o1, flds_below _ _, _, rfl, p, p, n, d, n, d, rfl, s1, s1, zn, zd, zn, zd, ?_⟩
    refine ⟨_, rfl, p, dx, _, rfl, o1, p, n, d, rfl, s1, _, rfl, ?_⟩
    refine ⟨_, rfl, q, dy, _, rfl, o2, q, m, e, rfl, s2, _, rfl, ?_⟩
    refine ⟨_, rfl, _, rfl, sub_self_of h1 fun r3 H3 sm3 ⟨n3, d3, t3, p3⟩ => ?_⟩
    obtain ⟨dz, o3⟩ := id t3
    refine ⟨r3, dz, _, rfl, o3, r3, n3, d3, rfl, t3, _, rfl, ?_⟩
    have e3 : (n3 != 0) = false := by rw [ne_0 p3]; rfl
    refine ⟨by show 8 ≤ sizeLine; decide, fun l hl => ?_⟩
    have eL : (decide (n = m) && decide (d = e)) = decide (a * b * f * f = c * f * b * b) := by rw [← dec_iff (eq_LR r1 r2)]; simp
    have eR : (decide (m = n) && decide (e = d)) = decide (a * b * f * f = c * f * b * b) := by
      rw [← dec_iff (eq_LR r1 r2), dec_iff (show m = n ↔ n = m from eq_comm), dec_iff (show e = d ↔ d = e from eq_comm)]; simp
    have e1 := dec_iff (lt_LR r1 r2)
    have e2 := dec_iff (lt_RL r1 r2)
    have e5 : decide (n * d < n * d) = false := decide_eq_false (Int.lt_irrefl _)
    have e6 := ne_0 r1
    have e7 := ne_0 r2
    generalize hB : ([decide (a * b * f * f = c * f * b * b), decide (a * b * f * f = c * f * b * b), decide (a * b * f * f < c * f * b * b), decide (c * f * b * b < a * b * f * f), false, !decide (a = 0), !decide (c = 0), false] : List Bool) = B
    have hT : ([V.bl (decide (n = m) && decide (d = e)), V.bl (decide (m = n) && decide (e = d)), V.bl (decide (n * e < m * d)), V.bl (decide (m * d < n * e)), V.bl (decide (n * d < n * d)), V.bl (n != 0), V.bl (m != 0), V.bl (n3 != 0)] : List V) = B.map V.bl := by
      rw [eL, eR, e1, e2, e5, e6, e7, e3, ← hB]; rfl
    have hl8 : B.length = 8 := by rw [← hB]; rfl
    generalize hH : upd H3 l _ = H4
    have hH' : H4 l = some (.lst (B.map V.bl)) := by
      rw [← hT, ← hH]
      exact upd_same
    have sm4 : Same H H4 := by rw [← hH]; exact sm3.trans (same_new hl)
    refine ⟨_, rfl, l, rfl, ⟨_, SqL.of hH'⟩, for_list (K := K) (a := l) (xs := B.map V.bl) (fun i σ H2 => H2 = H4 ∧ ∃ u : Option V, σ = [some (.ref p), some (.ref q), some (.int a), some (.int b), some (.int c), some (.int f), some (.ref l), u, none, none]) ⟨rfl, none, rfl⟩ (fun i σ H2 _ ⟨z, _⟩ => by rw [z]; exact SqL.of hH') ?_ ?_⟩
    · rintro i x σ H2 hi ⟨rfl, u, rfl⟩
      obtain ⟨y, hy, rfl⟩ : ∃ y, B[i]? = some y ∧ x = V.bl y := by
        rw [List.getElem?_map] at hi
        cases z : B[i]? with
        | none => rw [z] at hi; cases hi
        | some y => rw [z] at hi; exact ⟨y, rfl, (Option.some.inj hi).symm⟩
      refine ⟨_, rfl, _, _, _, _, true, rfl, .ty _, .base (.bl _), kit_ty (by decide +kernel), true, rfl, ?_⟩
      refine iteF ?_
      exact ⟨rfl, _, rfl⟩
    · rintro σ H2 ⟨rfl, u, rfl⟩
      have mab := sz_mul za zb
      have mabf := sz_mul mab zf
      have mcf := sz_mul zc zf
      have mcfb := sz_mul mcf zb
      refine ⟨_, rfl, _, rfl, _, _, rfl, rfl, mulW za.big zb.big, _, rfl, _, _, rfl, rfl, mulW (sz mab (by decide)) zf.big, _, rfl, _, _, rfl, rfl, mulW (sz mabf (by decide)) zf.big, ?_⟩
      refine ⟨_, rfl, _, rfl, _, _, rfl, rfl, mulW zc.big zf.big, _, rfl, _, _, rfl, rfl, mulW (sz mcf (by decide)) zb.big, _, rfl, _, _, rfl, rfl, mulW (sz mcfb (by decide)) zb.big, ?_⟩
      refine ⟨_, rfl, _, rfl, _, rfl, rfl, _, rfl, _, rfl, rfl, _, rfl, _, rfl, _, _, rfl, rfl, _, rfl, _, rfl, _, _, rfl, rfl, _, rfl, rfl, _, rfl, rfl, by show 8 ≤ sizeLine; decide, fun l2 hl2 => ?_⟩
      have hC : ([V.bl (decide (V.int (a * b * f * f) = V.int (c * f * b * b))), V.bl (decide (V.int (a * b * f * f) = V.int (c * f * b * b))), V.bl (decide (a * b * f * f < c * f * b * b)), V.bl (decide (c * f * b * b < a * b * f * f)), V.bl false, V.bl (!decide (V.int a = V.int 0)), V.bl (!decide (V.int c = V.int 0)), V.bl false] : List V) = B.map V.bl := by
        rw [dV, dV, dV, ← hB]; rfl
      have hne : l ≠ l2 := ne_of_none hH' hl2
      have shp : SeqAt.shaped (.list (B.map PyData.bool)) = true := by
        rw [← hB]
        generalize decide (a * b * f * f = c * f * b * b) = x1
        generalize decide (a * b * f * f < c * f * b * b) = x2
        generalize decide (c * f * b * b < a * b * f * f) = x3
        generalize decide (a = 0) = x4
        generalize decide (c = 0) = x5
        cases x1 <;> cases x2 <;> cases x3 <;> cases x4 <;> cases x5 <;> decide +kernel
      refine ⟨.list (B.map PyData.bool), .list (B.map PyData.bool), .lst (xs := B.map V.bl) (SqL.of ?_) (dpAll_bl B), .lst (xs := B.map V.bl) (SqL.of ?_) (dpAll_bl B), shp, shp, ?_⟩
      · rw [upd_ne hne]; exact hH'
      · rw [← hC]; exact upd_same
      · rw [SeqAt.eqv_refl _ (SeqAt.canLay_of_shaped shp)]
        exact k _ (sm4.trans (same_new hl2))
end
end My
set_option maxRecDepth 100000
set_option maxHeartbeats 4000000
set_option exponentiation.threshold 10000
namespace My
open PySem L2
open C8 (pss_cut)
theorem SzL.of {i : Int} {k : Nat} (h : i.natAbs < 2 ^ k) (hk : k ≤ 400) : SzL i := sz h hk
section
variable {P : Program} {w : World} {K : PySem.W.Frag} {mg : Str → Option Value} {base : Heap} {A : Ad}
theorem same_make {H : Hp} {x dx : Addr} {o1 o2 o3 : HO} (nx : H x = none) (ndx : H dx = none) : Same H (upd (upd (upd H dx o1) x o2) x o3) := fun b o e => by
  rw [upd_ne (ne_of_none e nx), upd_ne (ne_of_none e nx), upd_ne (ne_of_none e ndx)]
  exact e
theorem ok_law (T : Txt K mg A) : FnOk P w K mg base CX0 7 A.a_law A.d_law ["script"] (spLaw K) := by
  have G_Share_init : FnOk P w K mg base CX0 1 A.a_Share_init A.d_Share_init ["self", "num", "den"] (spInit A.C_Share) := ok_init T
  obtain ⟨ds1, v1, b1⟩ := T.bi1
  have G_law_pool := ok_pool (P := P) (w := w) (base := base) T
  have G_law_wide := ok_wide (P := P) (w := w) (base := base) T
  have G_law_whole := ok_whole (P := P) (w := w) (base := base) T
  have G_law_is := ok_is (P := P) (w := w) (base := base) T
  have G_law_sums := ok_sums (P := P) (w := w) (base := base) T
  have G_law_products := ok_prod (P := P) (w := w) (base := base) T
  have G_law_compared := ok_comp (P := P) (w := w) (base := base) T
  refine T.F_law.ok sc_law (fun vs H Q E h => ?_) (fun cdv A' outer s H vs Q E hr h => ?_)
  · obtain ⟨a, ns, rfl, _⟩ := h
    rfl
  · obtain ⟨sa, ns, rfl, hS, hlen, k⟩ := h
    refine ⟨_, (pss_cons (ps_set (i := 1) sc_law.nd rfl (Or.inl rfl) (pe_call G_law_pool (hr.mono (by decide)) rfl T.mg_law_pool T.F_law_pool.kp T.b_law_pool .nil pass0 (pa_cons (pv 0) (pa_cons pe_int (pa_cons pe_int pa_nil)))))
      (pss_cons (ps_set (i := 2) sc_law.nd rfl (Or.inl rfl) (pe_call G_law_wide (hr.mono (by decide)) rfl T.mg_law_wide T.F_law_wide.kp T.b_law_wide .nil pass0 (pa_cons (pv 1) (pa_cons pe_int pa_nil))))
      (pss_cons (ps_set (i := 3) sc_law.nd rfl (Or.inl rfl) (pe_call G_law_wide (hr.mono (by decide)) rfl T.mg_law_wide T.F_law_wide.kp T.b_law_wide .nil pass0 (pa_cons (pv 1) (pa_cons pe_int pa_nil))))
      (pss_cons (ps_set (i := 4) sc_law.nd rfl (Or.inl rfl) (pe_call G_law_wide (hr.mono (by decide)) rfl T.mg_law_wide T.F_law_wide.kp T.b_law_wide .nil pass0 (pa_cons (pv 1) (pa_cons pe_int pa_nil))))
      (pss_cons (ps_set (i := 5) sc_law.nd rfl (Or.inl rfl) (pe_call G_law_wide (hr.mono (by decide)) rfl T.mg_law_wide T.F_law_wide.kp T.b_law_wide .nil pass0 (pa_cons (pv 1) (pa_cons pe_int pa_nil))))
      (pss_cons (ps_set (i := 6) sc_law.nd rfl (Or.inl rfl) (pe_call G_law_whole (hr.mono (by decide)) rfl T.mg_law_whole T.F_law_whole.kp T.b_law_whole .nil pass0 (pa_cons (pv 1) (pa_cons pe_int pa_nil))))
      (pss_cut (ps_if (pt_cmpR op_eq (pv 3) pe_int (nomark _)) (pss_one (ps_set (i := 3) sc_law.nd rfl (Or.inl rfl) pe_int)) pss_nil)
      (pss_cut (ps_if (pt_cmpR op_eq (pv 5) pe_int (nomark _)) (pss_one (ps_set (i := 5) sc_law.nd rfl (Or.inl rfl) pe_int)) pss_nil)
      (pss_cut (ps_if (pt_cmpR op_eq (pe_op op_mod (pe_callTy call_int1 (by rfl) T.n_int (by decide +kernel) (pa_cons (pe_ix ix_list (pv 1) pe_int (fun _ _ => rfl)) pa_nil)) pe_int) pe_int (nomark _)) (pss_cons (ps_set (i := 7) sc_law.nd rfl (Or.inl rfl) (pe_ix ix_list (pe_lst (pa_cons pe_int (pa_cons pe_int (pa_cons pe_int (pa_cons (pe_un un_neg pe_int) (pa_cons (pe_un un_neg pe_int) (pa_cons (pe_un un_neg pe_int) (pa_cons pe_int (pa_cons pe_int pa_nil))))))))) (pe_op op_mod (pe_callTy call_int1 (by rfl) T.n_int (by decide +kernel) (pa_cons (pe_ix ix_list (pv 1) pe_int (fun _ _ => rfl)) pa_nil)) pe_int) (fun _ _ => rfl)))
      (pss_cons (ps_set (i := 4) sc_law.nd rfl (Or.inl rfl) (pe_op op_mulW (pv 2) (pv 7)))
      (pss_one (ps_set (i := 5) sc_law.nd rfl (Or.inl rfl) (pe_op op_mulW (pv 3) (pv 7)))))) pss_nil)
      (pss_cons (ps_set (i := 8) sc_law.nd rfl (Or.inl rfl) (pe_make T.mk_Share G_Share_init (hr.mono (by decide)) rfl T.mg_Share T.bi .nil pass0 (pa_cons (pv 2) (pa_cons (pv 3) pa_nil))))
      (pss_cons (ps_set (i := 9) sc_law.nd rfl (Or.inl rfl) (pe_make T.mk_Share G_Share_init (hr.mono (by decide)) rfl T.mg_Share T.bi .nil pass0 (pa_cons (pv 4) (pa_cons (pv 5) pa_nil))))
      (pss_cons (ps_if (PW.pt (pw_or (pt_not (pt_val (pe_call G_law_is (hr.mono (by decide)) rfl T.mg_law_is T.F_law_is.kp T.b_law_is .nil pass0 (pa_cons (pv 8) (pa_cons (pv 2) (pa_cons (pv 3) pa_nil)))))) (pw_or (pt_not (pt_val (pe_call G_law_is (hr.mono (by decide)) rfl T.mg_law_is T.F_law_is.kp T.b_law_is .nil pass0 (pa_cons (pv 9) (pa_cons (pv 4) (pa_cons (pv 5) pa_nil)))))) (pw_or1 (pt_not (pt_val (pe_call G_law_is (hr.mono (by decide)) rfl T.mg_law_is T.F_law_is.kp T.b_law_is .nil pass0 (pa_cons (pe_make T.mk_Share G_Share_init (hr.mono (by decide)) rfl T.mg_Share b1 v1 pass0 (pa_cons (pv 2) pa_nil)) (pa_cons (pv 2) (pa_cons pe_int pa_nil)))))))))) (pss_one (ps_ret pe_bl)) pss_nil)
      (pss_cons (ps_if (PW.pt (pw_or (pt_not (pt_val (pe_call G_law_sums (hr.mono (by decide)) rfl T.mg_law_sums T.F_law_sums.kp T.b_law_sums .nil pass0 (pa_cons (pv 8) (pa_cons (pv 9) (pa_cons (pv 2) (pa_cons (pv 3) (pa_cons (pv 4) (pa_cons (pv 5) pa_nil))))))))) (pw_or1 (pt_not (pt_val (pe_call G_law_products (hr.mono (by decide)) rfl T.mg_law_products T.F_law_products.kp T.b_law_products .nil pass0 (pa_cons (pv 8) (pa_cons (pv 9) (pa_cons (pv 6) (pa_cons (pv 2) (pa_cons (pv 3) (pa_cons (pv 4) (pa_cons (pv 5) pa_nil))))))))))))) (pss_one (ps_ret pe_bl)) pss_nil)
      (pss_cons (ps_if (pt_not (pt_val (pe_call G_law_compared (hr.mono (by decide)) rfl T.mg_law_compared T.F_law_compared.kp T.b_law_compared .nil pass0 (pa_cons (pv 8) (pa_cons (pv 9) (pa_cons (pv 2) (pa_cons (pv 3) (pa_cons (pv 4) (pa_cons (pv 5) pa_nil))))))))) (pss_one (ps_ret pe_bl)) pss_nil)
      (pss_cons (ps_if (PW.pt (pw_or (pt_not (pt_val (pe_call G_law_is (hr.mono (by decide)) rfl T.mg_law_is T.F_law_is.kp T.b_law_is .nil pass0 (pa_cons (pv 8) (pa_cons (pv 2) (pa_cons (pv 3) pa_nil)))))) (pw_or1 (pt_not (pt_val (pe_call G_law_is (hr.mono (by decide)) rfl T.mg_law_is T.F_law_is.kp T.b_law_is .nil pass0 (pa_cons (pv 9) (pa_cons (pv 4) (pa_cons (pv 5) pa_nil))))))))) (pss_one (ps_ret pe_bl)) pss_nil)
      (pss_one (ps_ret (pe_and (pe_call G_law_sums (hr.mono (by decide)) rfl T.mg_law_sums T.F_law_sums.kp T.b_law_sums .nil pass0 (pa_cons (pv 8) (pa_cons (pv 9) (pa_cons (pv 2) (pa_cons (pv 3) (pa_cons (pv 4) (pa_cons (pv 5) pa_nil))))))) (pe_one (pe_call G_law_compared (hr.mono (by decide)) rfl T.mg_law_compared T.F_law_compared.kp T.b_law_compared .nil pass0 (pa_cons (pv 8) (pa_cons (pv 9) (pa_cons (pv 2) (pa_cons (pv 3) (pa_cons (pv 4) (pa_cons (pv 5) pa_nil)))))))))))))))))))))))))), ?_⟩
    refine ⟨_, rfl, sa, ns, 0, 60, rfl, hS, by decide, by decide, by decide, fun l ps H1 sm1 hl hps hpool => ?_⟩
    have h60 : ps.length = 60 := by omega
    refine ⟨_, rfl, l, ps, 0, rfl, SqL.of hl, by decide, by rw [h60]; decide, hpool, fun a H2 sm2 za => ?_⟩
    refine ⟨_, rfl, l, ps, 12, rfl, sm2.seq (SqL.of hl), by decide, by rw [h60]; decide, hpool, fun b H3 sm3 zb => ?_⟩
    have sm3' := sm2.trans sm3
    refine ⟨_, rfl, l, ps, 24, rfl, sm3'.seq (SqL.of hl), by decide, by rw [h60]; decide, hpool, fun c H4 sm4 zc => ?_⟩
    have sm4' := sm3'.trans sm4
    refine ⟨_, rfl, l, ps, 36, rfl, sm4'.seq (SqL.of hl), by decide, by rw [h60]; decide, hpool, fun f H5 sm5 zf => ?_⟩
    have sm5' := sm4'.trans sm5
    refine ⟨_, rfl, l, ps, 48, rfl, sm5'.seq (SqL.of hl), by decide, by rw [h60]; decide, hpool, fun g H6 sm6 zg => ?_⟩
    have hL : SqL K H6 l (ps.map V.int) := (sm5'.trans sm6).seq (SqL.of hl)
    clear sm1 sm2 sm3 sm4 sm5 sm6 sm3' sm4' sm5' hl hS
    -- if b == 0: b = 1
    refine ⟨fun σ H7 => H7 = H6 ∧ ∃ b' : Int, b' ≠ 0 ∧ b'.natAbs < 2 ^ 200 ∧ σ = [some (.ref sa), some (.ref l), some (.int a), some (.int b'), some (.int c), some (.int f), some (.int g), none, none, none], ?_, ?_⟩
    · refine ⟨_, rfl, rfl, _, rfl, ?_⟩
      refine ite2 (fun hb => ?_) (fun hb => ?_)
      · exact ⟨rfl, 1, by decide, by decide, rfl⟩
      · exact ⟨rfl, b, fun z => hb (by rw [z]; rfl), zb, rfl⟩
    clear zb b
    rintro σ H7 ⟨rfl, b, hb, zb, rfl⟩
    refine ⟨fun σ H8 => H8 = H7 ∧ ∃ f' : Int, f' ≠ 0 ∧ f'.natAbs < 2 ^ 200 ∧ σ = [some (.ref sa), some (.ref l), some (.int a), some (.int b), some (.int c), some (.int f'), some (.int g), none, none, none], ?_, ?_⟩
    · refine ⟨_, rfl, rfl, _, rfl, ?_⟩
      refine ite2 (fun hb => ?_) (fun hb => ?_)
      · exact ⟨rfl, 1, by decide, by decide, rfl⟩
      · exact ⟨rfl, f, fun z => hb (by rw [z]; rfl), zf, rfl⟩
    clear zf f
    rintro σ H8 ⟨rfl, f, hf, zf, rfl⟩
    refine ⟨fun σ H9 => ∃ (c' f' : Int) (u : Option V), f' ≠ 0 ∧ SzL c' ∧ SzL f' ∧ σ = [some (.ref sa), some (.ref l), some (.int a), some (.int b), some (.int c'), some (.int f'), some (.int g), u, none, none], ?_, ?_⟩
    · obtain ⟨x52, hx52, ex52⟩ := atI_ok (xs := ps) (j := 52) (by decide) (by omega)
      refine ⟨_, rfl, _, _, _, _, rfl, rfl, hL, ex52, .inl ⟨_, rfl, _, _, rfl, rfl, by show (0 : Int) < 4; decide, rfl, _, rfl, ?_⟩⟩
      refine ite2 (fun hz => ?_) (fun hz => ?_)
      · obtain ⟨x53, hx53, ex53⟩ := atI_ok (xs := ps) (j := 53) (by decide) (by omega)
        refine ⟨_, rfl, _, rfl, _, rfl, by show 8 ≤ sizeLine; decide, fun m hm => ?_⟩
        have sm := same_new (o := .lst ([2, 3, 12, -1, -2, -5, 1, 7].map V.int)) hm
        obtain ⟨t, ht, et⟩ := atI_ok (xs := [2, 3, 12, -1, -2, -5, 1, 7]) (j := x53 % 8) (Int.emod_nonneg _ (by decide)) (Int.emod_lt_of_pos _ (by decide))
        have ht0 : t ≠ 0 ∧ t.natAbs < 2 ^ 4 := by
          simp only [List.mem_cons, List.not_mem_nil, or_false] at ht
          omega
        refine ⟨_, rfl, _, _, _, _, rfl, rfl, sm.seq hL, ex53, .inl ⟨_, rfl, _, _, rfl, rfl, by show (0 : Int) < 8; decide, _, _, _, _, rfl, rfl, SqL.of upd_same, et, ?_⟩⟩
        refine ⟨_, rfl, _, rfl, _, _, rfl, rfl, mulW (sz za (by decide)) (sz ht0.2 (by decide)), ?_⟩
        refine ⟨_, rfl, _, rfl, _, _, rfl, rfl, mulW (sz zb (by decide)) (sz ht0.2 (by decide)), ?_⟩
        exact ⟨a * t, b * t, _, Int.mul_ne_zero hb ht0.1, sz (sz_mul za ht0.2) (by decide), sz (sz_mul zb ht0.2) (by decide), rfl⟩
      · exact ⟨c, f, _, hf, sz zc (by decide), sz zf (by decide), rfl⟩
    clear zc c zf hf f hL
    rintro σ H9 ⟨c, f, u, hf, zc, zf, rfl⟩
    have za' : SzL a := sz za (by decide)
    have zb' : SzL b := sz zb (by decide)
    have zg' : SzL g := sz zg (by decide)
    refine ⟨_, rfl, _, rfl, fun p dx nx ndx nex => ⟨p, dx, a, b, rfl, upd_same, hb, sz zb' (by decide), fun n d r => ⟨rfl, ?_⟩⟩⟩
    generalize hX : upd (upd (upd H9 dx _) p _) p _ = H10
    have h1 : FrAt A.C_Share H10 p a b := by rw [← hX]; exact ⟨⟨n, d, ⟨dx, upd_same⟩, r⟩, za', zb'⟩
    clear hX nx ndx nex r n d dx
    refine ⟨_, rfl, _, rfl, fun q dx nx ndx nex => ⟨q, dx, c, f, rfl, upd_same, hf, sz zf (by decide), fun n d r => ⟨rfl, ?_⟩⟩⟩
    generalize hX : upd (upd (upd H10 dx _) q _) q _ = H11
    have h2 : FrAt A.C_Share H11 q c f := by rw [← hX]; exact ⟨⟨n, d, ⟨dx, upd_same⟩, r⟩, zc, zf⟩
    have sm11 : Same H10 H11 := by rw [← hX]; exact same_make nx ndx
    clear hX nx ndx nex r n d dx
    have h1 := h1.same sm11
    obtain ⟨⟨n, d, s1, r1⟩, _⟩ := id h1
    obtain ⟨⟨m, e, s2, r2⟩, _⟩ := id h2
    -- three times _law_is
    refine ⟨_, rfl, _, rfl, _, rfl, p, n, d, a, b, rfl, s1, r1, za'.big, zb'.big, _, rfl, ?_⟩
    refine iteF ?_
    refine ⟨_, rfl, _, rfl, _, rfl, q, m, e, c, f, rfl, s2, r2, zc.big, zf.big, _, rfl, ?_⟩
    refine iteF ?_
    refine ⟨_, rfl, fun t dx nx ndx nex => ⟨t, dx, a, 1, rfl, upd_same, by decide, by decide, fun n3 d3 r3 => ⟨rfl, ?_⟩⟩⟩
    generalize hX : upd (upd (upd H11 dx _) t _) t _ = H12
    have h3 : FrAt A.C_Share H12 t a 1 := by rw [← hX]; exact ⟨⟨n3, d3, ⟨dx, upd_same⟩, r3⟩, za', by decide⟩
    have sm12 : Same H11 H12 := by rw [← hX]; exact same_make nx ndx
    clear hX nx ndx nex r3 n3 d3 dx
    obtain ⟨⟨n3, d3, s3, r3⟩, _⟩ := id h3
    refine ⟨_, rfl, t, n3, d3, a, 1, rfl, s3, r3, za'.big, by decide, _, rfl, ?_⟩
    refine iteF ?_
    -- sums, products, compared
    have h1 := h1.same sm12
    have h2 := h2.same sm12
    refine ⟨_, rfl, _, rfl, _, rfl, _, rfl, _, rfl, _, rfl, p, q, a, b, c, f, rfl, h1, h2, fun H13 sm13 => ⟨_, rfl, ?_⟩⟩
    refine iteF ?_
    refine ⟨_, rfl, _, rfl, _, rfl, _, rfl, _, rfl, _, rfl, _, rfl, p, q, g, a, b, c, f, rfl, h1.same sm13, h2.same sm13, zg', fun H14 sm14 => ⟨_, rfl, ?_⟩⟩
    refine iteF ?_
    have sm14' := sm13.trans sm14
    refine ⟨_, rfl, _, rfl, _, rfl, _, rfl, _, rfl, _, rfl, p, q, a, b, c, f, rfl, h1.same sm14', h2.same sm14', fun H15 sm15 => ⟨_, rfl, ?_⟩⟩
    refine iteF ?_
    have sm15' := sm14'.trans sm15
    have h1 := h1.same sm15'
    have h2 := h2.same sm15'
    obtain ⟨⟨n, d, s1, r1⟩, _⟩ := id h1
    obtain ⟨⟨m, e, s2, r2⟩, _⟩ := id h2
    refine ⟨_, rfl, _, rfl, _, rfl, p, n, d, a, b, rfl, s1, r1, za'.big, zb'.big, _, rfl, ?_⟩
    refine iteF ?_
    refine ⟨_, rfl, _, rfl, _, rfl, q, m, e, c, f, rfl, s2, r2, zc.big, zf.big, _, rfl, ?_⟩
    refine iteF ?_
    refine ⟨_, rfl, _, rfl, _, rfl, _, rfl, _, rfl, _, rfl, p, q, a, b, c, f, rfl, h1, h2, fun H16 sm16 => ⟨_, rfl, ?_⟩⟩
    refine iteT ?_
    exact ⟨_, rfl, _, rfl, _, rfl, _, rfl, _, rfl, _, rfl, p, q, a, b, c, f, rfl, h1.same sm16, h2.same sm16, fun H17 sm17 => k H17⟩
end
end My
set_option maxRecDepth 100000
set_option maxHeartbeats 4000000
set_option exponentiation.threshold 10000
namespace My
open PySem L2
theorem all_mk {l : PySem.W.OpenLaw} {w : World} {K : PySem.W.Frag} {h : Heap} {mg : Str → Option Value} {fa C_Share a_Share_init a_Share_below a_Share_add a_Share_sub a_Share_mul a_Share_rmul a_Share_neg a_Share_abs a_Share_bool a_Share_eq a_law_cell a_law_pool a_law_whole a_law_wide a_law_common a_law_is a_law_sums a_law_products a_law_compared a_law : Addr} (X : K.In h) (G : h.Ns mainGlobals mg) (hfa : mg "law" = some (.ref fa))
    {oc_Share_init kV_Share_init dc_Share_init pm_Share_init cd_Share_init ct_Share_init : Value} {od_Share_init an_Share_init : Option Addr} {sl_Share_init : Array (Option Value)}
    {TD_Share_init : Addr} {to_Share_init : Option Addr} {tn_Share_init : Nat} {ts_Share_init : Array (Option Value)} {dt_Share_init : Tok}
    {oc_Share_below kV_Share_below dc_Share_below pm_Share_below cd_Share_below ct_Share_below : Value} {od_Share_below an_Share_below : Option Addr} {sl_Share_below : Array (Option Value)}
    {oc_Share_add kV_Share_add dc_Share_add pm_Share_add cd_Share_add ct_Share_add : Value} {od_Share_add an_Share_add : Option Addr} {sl_Share_add : Array (Option Value)}
    {oc_Share_sub kV_Share_sub dc_Share_sub pm_Share_sub cd_Share_sub ct_Share_sub : Value} {od_Share_sub an_Share_sub : Option Addr} {sl_Share_sub : Array (Option Value)}
    {oc_Share_mul kV_Share_mul dc_Share_mul pm_Share_mul cd_Share_mul ct_Share_mul : Value} {od_Share_mul an_Share_mul : Option Addr} {sl_Share_mul : Array (Option Value)}
    {oc_Share_rmul kV_Share_rmul dc_Share_rmul pm_Share_rmul cd_Share_rmul ct_Share_rmul : Value} {od_Share_rmul an_Share_rmul : Option Addr} {sl_Share_rmul : Array (Option Value)}
    {oc_Share_neg kV_Share_neg dc_Share_neg pm_Share_neg cd_Share_neg ct_Share_neg : Value} {od_Share_neg an_Share_neg : Option Addr} {sl_Share_neg : Array (Option Value)}
    {oc_Share_abs kV_Share_abs dc_Share_abs pm_Share_abs cd_Share_abs ct_Share_abs : Value} {od_Share_abs an_Share_abs : Option Addr} {sl_Share_abs : Array (Option Value)}
    {oc_Share_bool kV_Share_bool dc_Share_bool pm_Share_bool cd_Share_bool ct_Share_bool : Value} {od_Share_bool an_Share_bool : Option Addr} {sl_Share_bool : Array (Option Value)}
    {oc_Share_eq kV_Share_eq dc_Share_eq pm_Share_eq cd_Share_eq ct_Share_eq : Value} {od_Share_eq an_Share_eq : Option Addr} {sl_Share_eq : Array (Option Value)}
    {oc_law_cell kV_law_cell dc_law_cell pm_law_cell cd_law_cell ct_law_cell : Value} {od_law_cell an_law_cell : Option Addr} {sl_law_cell : Array (Option Value)}
    {oc_law_pool kV_law_pool dc_law_pool pm_law_pool cd_law_pool ct_law_pool : Value} {od_law_pool an_law_pool : Option Addr} {sl_law_pool : Array (Option Value)}
    {oc_law_whole kV_law_whole dc_law_whole pm_law_whole cd_law_whole ct_law_whole : Value} {od_law_whole an_law_whole : Option Addr} {sl_law_whole : Array (Option Value)}
    {oc_law_wide kV_law_wide dc_law_wide pm_law_wide cd_law_wide ct_law_wide : Value} {od_law_wide an_law_wide : Option Addr} {sl_law_wide : Array (Option Value)}
    {oc_law_common kV_law_common dc_law_common pm_law_common cd_law_common ct_law_common : Value} {od_law_common an_law_common : Option Addr} {sl_law_common : Array (Option Value)}
    {oc_law_is kV_law_is dc_law_is pm_law_is cd_law_is ct_law_is : Value} {od_law_is an_law_is : Option Addr} {sl_law_is : Array (Option Value)}
    {oc_law_sums kV_law_sums dc_law_sums pm_law_sums cd_law_sums ct_law_sums : Value} {od_law_sums an_law_sums : Option Addr} {sl_law_sums : Array (Option Value)}
    {oc_law_products kV_law_products dc_law_products pm_law_products cd_law_products ct_law_products : Value} {od_law_products an_law_products : Option Addr} {sl_law_products : Array (Option Value)}
    {oc_law_compared kV_law_compared dc_law_compared pm_law_compared cd_law_compared ct_law_compared : Value} {od_law_compared an_law_compared : Option Addr} {sl_law_compared : Array (Option Value)}
    {oc_law kV_law dc_law pm_law cd_law ct_law : Value} {od_law an_law : Option Addr} {sl_law : Array (Option Value)}
    (xmg_Share : PySem.W.nsIn K mainGlobals "Share" = some (some (.ref C_Share)))
    (am_Share_init : PySem.W.findIn K (.ref C_Share) "__init__" = some (some (.ref a_Share_init)))
    (am_Share_below : PySem.W.findIn K (.ref C_Share) "below" = some (some (.ref a_Share_below)))
    (am_Share_add : PySem.W.findIn K (.ref C_Share) "__add__" = some (some (.ref a_Share_add)))
    (am_Share_sub : PySem.W.findIn K (.ref C_Share) "__sub__" = some (some (.ref a_Share_sub)))
    (am_Share_mul : PySem.W.findIn K (.ref C_Share) "__mul__" = some (some (.ref a_Share_mul)))
    (am_Share_rmul : PySem.W.findIn K (.ref C_Share) "__rmul__" = some (some (.ref a_Share_rmul)))
    (am_Share_neg : PySem.W.findIn K (.ref C_Share) "__neg__" = some (some (.ref a_Share_neg)))
    (am_Share_abs : PySem.W.findIn K (.ref C_Share) "__abs__" = some (some (.ref a_Share_abs)))
    (am_Share_bool : PySem.W.findIn K (.ref C_Share) "__bool__" = some (some (.ref a_Share_bool)))
    (am_Share_eq : PySem.W.findIn K (.ref C_Share) "__eq__" = some (some (.ref a_Share_eq)))
    (xmg_law_cell : PySem.W.nsIn K mainGlobals "_law_cell" = some (some (.ref a_law_cell)))
    (xmg_law_pool : PySem.W.nsIn K mainGlobals "_law_pool" = some (some (.ref a_law_pool)))
    (xmg_law_whole : PySem.W.nsIn K mainGlobals "_law_whole" = some (some (.ref a_law_whole)))
    (xmg_law_wide : PySem.W.nsIn K mainGlobals "_law_wide" = some (some (.ref a_law_wide)))
    (xmg_law_common : PySem.W.nsIn K mainGlobals "_law_common" = some (some (.ref a_law_common)))
    (xmg_law_is : PySem.W.nsIn K mainGlobals "_law_is" = some (some (.ref a_law_is)))
    (xmg_law_sums : PySem.W.nsIn K mainGlobals "_law_sums" = some (some (.ref a_law_sums)))
    (xmg_law_products : PySem.W.nsIn K mainGlobals "_law_products" = some (some (.ref a_law_products)))
    (xmg_law_compared : PySem.W.nsIn K mainGlobals "_law_compared" = some (some (.ref a_law_compared)))
    (xmg_law : PySem.W.nsIn K mainGlobals "law" = some (some (.ref a_law)))
    (if_Share_init : PySem.W.isFn K (.ref a_Share_init) = true)
    (if_Share_below : PySem.W.isFn K (.ref a_Share_below) = true)
    (if_Share_add : PySem.W.isFn K (.ref a_Share_add) = true)
    (if_Share_sub : PySem.W.isFn K (.ref a_Share_sub) = true)
    (if_Share_mul : PySem.W.isFn K (.ref a_Share_mul) = true)
    (if_Share_rmul : PySem.W.isFn K (.ref a_Share_rmul) = true)
    (if_Share_neg : PySem.W.isFn K (.ref a_Share_neg) = true)
    (if_Share_abs : PySem.W.isFn K (.ref a_Share_abs) = true)
    (if_Share_bool : PySem.W.isFn K (.ref a_Share_bool) = true)
    (if_Share_eq : PySem.W.isFn K (.ref a_Share_eq) = true)
    (l_Share_init : K.lookup a_Share_init = some ⟨oc_Share_init, od_Share_init, .func (PySem.W.fnOf "__init__" "Share.__init__" (defArgs s_Share_init) (defBody s_Share_init) (defScope s_Share_init) (.ref TD_Share_init) kV_Share_init dc_Share_init pm_Share_init an_Share_init cd_Share_init ct_Share_init), sl_Share_init⟩)
    (l_Share_below : K.lookup a_Share_below = some ⟨oc_Share_below, od_Share_below, .func (PySem.W.fnOf "below" "Share.below" (defArgs s_Share_below) (defBody s_Share_below) (defScope s_Share_below) .none kV_Share_below dc_Share_below pm_Share_below an_Share_below cd_Share_below ct_Share_below), sl_Share_below⟩)
    (l_Share_add : K.lookup a_Share_add = some ⟨oc_Share_add, od_Share_add, .func (PySem.W.fnOf "__add__" "Share.__add__" (defArgs s_Share_add) (defBody s_Share_add) (defScope s_Share_add) .none kV_Share_add dc_Share_add pm_Share_add an_Share_add cd_Share_add ct_Share_add), sl_Share_add⟩)
    (l_Share_sub : K.lookup a_Share_sub = some ⟨oc_Share_sub, od_Share_sub, .func (PySem.W.fnOf "__sub__" "Share.__sub__" (defArgs s_Share_sub) (defBody s_Share_sub) (defScope s_Share_sub) .none kV_Share_sub dc_Share_sub pm_Share_sub an_Share_sub cd_Share_sub ct_Share_sub), sl_Share_sub⟩)
    (l_Share_mul : K.lookup a_Share_mul = some ⟨oc_Share_mul, od_Share_mul, .func (PySem.W.fnOf "__mul__" "Share.__mul__" (defArgs s_Share_mul) (defBody s_Share_mul) (defScope s_Share_mul) .none kV_Share_mul dc_Share_mul pm_Share_mul an_Share_mul cd_Share_mul ct_Share_mul), sl_Share_mul⟩)
    (l_Share_rmul : K.lookup a_Share_rmul = some ⟨oc_Share_rmul, od_Share_rmul, .func (PySem.W.fnOf "__rmul__" "Share.__rmul__" (defArgs s_Share_rmul) (defBody s_Share_rmul) (defScope s_Share_rmul) .none kV_Share_rmul dc_Share_rmul pm_Share_rmul an_Share_rmul cd_Share_rmul ct_Share_rmul), sl_Share_rmul⟩)
    (l_Share_neg : K.lookup a_Share_neg = some ⟨oc_Share_neg, od_Share_neg, .func (PySem.W.fnOf "__neg__" "Share.__neg__" (defArgs s_Share_neg) (defBody s_Share_neg) (defScope s_Share_neg) .none kV_Share_neg dc_Share_neg pm_Share_neg an_Share_neg cd_Share_neg ct_Share_neg), sl_Share_neg⟩)
    (l_Share_abs : K.lookup a_Share_abs = some ⟨oc_Share_abs, od_Share_abs, .func (PySem.W.fnOf "__abs__" "Share.__abs__" (defArgs s_Share_abs) (defBody s_Share_abs) (defScope s_Share_abs) .none kV_Share_abs dc_Share_abs pm_Share_abs an_Share_abs cd_Share_abs ct_Share_abs), sl_Share_abs⟩)
    (l_Share_bool : K.lookup a_Share_bool = some ⟨oc_Share_bool, od_Share_bool, .func (PySem.W.fnOf "__bool__" "Share.__bool__" (defArgs s_Share_bool) (defBody s_Share_bool) (defScope s_Share_bool) .none kV_Share_bool dc_Share_bool pm_Share_bool an_Share_bool cd_Share_bool ct_Share_bool), sl_Share_bool⟩)
    (l_Share_eq : K.lookup a_Share_eq = some ⟨oc_Share_eq, od_Share_eq, .func (PySem.W.fnOf "__eq__" "Share.__eq__" (defArgs s_Share_eq) (defBody s_Share_eq) (defScope s_Share_eq) .none kV_Share_eq dc_Share_eq pm_Share_eq an_Share_eq cd_Share_eq ct_Share_eq), sl_Share_eq⟩)
    (l_law_cell : K.lookup a_law_cell = some ⟨oc_law_cell, od_law_cell, .func (PySem.W.fnOf "_law_cell" "_law_cell" (defArgs s_law_cell) (defBody s_law_cell) (defScope s_law_cell) .none kV_law_cell dc_law_cell pm_law_cell an_law_cell cd_law_cell ct_law_cell), sl_law_cell⟩)
    (l_law_pool : K.lookup a_law_pool = some ⟨oc_law_pool, od_law_pool, .func (PySem.W.fnOf "_law_pool" "_law_pool" (defArgs s_law_pool) (defBody s_law_pool) (defScope s_law_pool) .none kV_law_pool dc_law_pool pm_law_pool an_law_pool cd_law_pool ct_law_pool), sl_law_pool⟩)
    (l_law_whole : K.lookup a_law_whole = some ⟨oc_law_whole, od_law_whole, .func (PySem.W.fnOf "_law_whole" "_law_whole" (defArgs s_law_whole) (defBody s_law_whole) (defScope s_law_whole) .none kV_law_whole dc_law_whole pm_law_whole an_law_whole cd_law_whole ct_law_whole), sl_law_whole⟩)
    (l_law_wide : K.lookup a_law_wide = some ⟨oc_law_wide, od_law_wide, .func (PySem.W.fnOf "_law_wide" "_law_wide" (defArgs s_law_wide) (defBody s_law_wide) (defScope s_law_wide) .none kV_law_wide dc_law_wide pm_law_wide an_law_wide cd_law_wide ct_law_wide), sl_law_wide⟩)
    (l_law_common : K.lookup a_law_common = some ⟨oc_law_common, od_law_common, .func (PySem.W.fnOf "_law_common" "_law_common" (defArgs s_law_common) (defBody s_law_common) (defScope s_law_common) .none kV_law_common dc_law_common pm_law_common an_law_common cd_law_common ct_law_common), sl_law_common⟩)
    (l_law_is : K.lookup a_law_is = some ⟨oc_law_is, od_law_is, .func (PySem.W.fnOf "_law_is" "_law_is" (defArgs s_law_is) (defBody s_law_is) (defScope s_law_is) .none kV_law_is dc_law_is pm_law_is an_law_is cd_law_is ct_law_is), sl_law_is⟩)
    (l_law_sums : K.lookup a_law_sums = some ⟨oc_law_sums, od_law_sums, .func (PySem.W.fnOf "_law_sums" "_law_sums" (defArgs s_law_sums) (defBody s_law_sums) (defScope s_law_sums) .none kV_law_sums dc_law_sums pm_law_sums an_law_sums cd_law_sums ct_law_sums), sl_law_sums⟩)
    (l_law_products : K.lookup a_law_products = some ⟨oc_law_products, od_law_products, .func (PySem.W.fnOf "_law_products" "_law_products" (defArgs s_law_products) (defBody s_law_products) (defScope s_law_products) .none kV_law_products dc_law_products pm_law_products an_law_products cd_law_products ct_law_products), sl_law_products⟩)
    (l_law_compared : K.lookup a_law_compared = some ⟨oc_law_compared, od_law_compared, .func (PySem.W.fnOf "_law_compared" "_law_compared" (defArgs s_law_compared) (defBody s_law_compared) (defScope s_law_compared) .none kV_law_compared dc_law_compared pm_law_compared an_law_compared cd_law_compared ct_law_compared), sl_law_compared⟩)
    (l_law : K.lookup a_law = some ⟨oc_law, od_law, .func (PySem.W.fnOf "law" "law" (defArgs s_law) (defBody s_law) (defScope s_law) .none kV_law dc_law pm_law an_law cd_law ct_law), sl_law⟩)
    (c_Share_init : PySem.W.codeIn K cd_Share_init "Share.__init__" = true)
    (k_Share_init : PySem.W.keepIn K (.ref a_Share_init) = true)
    (lt_Share_init : K.lookup TD_Share_init = some ⟨.type "tuple", to_Share_init, .seq #[.int 1 dt_Share_init] tn_Share_init, ts_Share_init⟩)
    (c_Share_below : PySem.W.codeIn K cd_Share_below "Share.below" = true)
    (k_Share_below : PySem.W.keepIn K (.ref a_Share_below) = true)
    (c_Share_add : PySem.W.codeIn K cd_Share_add "Share.__add__" = true)
    (k_Share_add : PySem.W.keepIn K (.ref a_Share_add) = true)
    (c_Share_sub : PySem.W.codeIn K cd_Share_sub "Share.__sub__" = true)
    (k_Share_sub : PySem.W.keepIn K (.ref a_Share_sub) = true)
    (c_Share_mul : PySem.W.codeIn K cd_Share_mul "Share.__mul__" = true)
    (k_Share_mul : PySem.W.keepIn K (.ref a_Share_mul) = true)
    (c_Share_rmul : PySem.W.codeIn K cd_Share_rmul "Share.__rmul__" = true)
    (k_Share_rmul : PySem.W.keepIn K (.ref a_Share_rmul) = true)
    (c_Share_neg : PySem.W.codeIn K cd_Share_neg "Share.__neg__" = true)
    (k_Share_neg : PySem.W.keepIn K (.ref a_Share_neg) = true)
    (c_Share_abs : PySem.W.codeIn K cd_Share_abs "Share.__abs__" = true)
    (k_Share_abs : PySem.W.keepIn K (.ref a_Share_abs) = true)
    (c_Share_bool : PySem.W.codeIn K cd_Share_bool "Share.__bool__" = true)
    (k_Share_bool : PySem.W.keepIn K (.ref a_Share_bool) = true)
    (c_Share_eq : PySem.W.codeIn K cd_Share_eq "Share.__eq__" = true)
    (k_Share_eq : PySem.W.keepIn K (.ref a_Share_eq) = true)
    (c_law_cell : PySem.W.codeIn K cd_law_cell "_law_cell" = true)
    (k_law_cell : PySem.W.keepIn K (.ref a_law_cell) = true)
    (c_law_pool : PySem.W.codeIn K cd_law_pool "_law_pool" = true)
    (k_law_pool : PySem.W.keepIn K (.ref a_law_pool) = true)
    (c_law_whole : PySem.W.codeIn K cd_law_whole "_law_whole" = true)
    (k_law_whole : PySem.W.keepIn K (.ref a_law_whole) = true)
    (c_law_wide : PySem.W.codeIn K cd_law_wide "_law_wide" = true)
    (k_law_wide : PySem.W.keepIn K (.ref a_law_wide) = true)
    (c_law_common : PySem.W.codeIn K cd_law_common "_law_common" = true)
    (k_law_common : PySem.W.keepIn K (.ref a_law_common) = true)
    (c_law_is : PySem.W.codeIn K cd_law_is "_law_is" = true)
    (k_law_is : PySem.W.keepIn K (.ref a_law_is) = true)
    (c_law_sums : PySem.W.codeIn K cd_law_sums "_law_sums" = true)
    (k_law_sums : PySem.W.keepIn K (.ref a_law_sums) = true)
    (c_law_products : PySem.W.codeIn K cd_law_products "_law_products" = true)
    (k_law_products : PySem.W.keepIn K (.ref a_law_products) = true)
    (c_law_compared : PySem.W.codeIn K cd_law_compared "_law_compared" = true)
    (k_law_compared : PySem.W.keepIn K (.ref a_law_compared) = true)
    (c_law : PySem.W.codeIn K cd_law "law" = true)
    (k_law : PySem.W.keepIn K (.ref a_law) = true)
    (pgcl_Share : PySem.W.plainGet K C_Share Str.empty = true)
    (hdcl_Share : PySem.W.hasDictIn K C_Share = true)
    (pocl_Share : PySem.W.plainOver K C_Share = true)
    (sacl_Share : PySem.W.findIn K (.ref C_Share) "__setattr__" = some (some (.builtin "object.__setattr__")))
    (xsf_Share : PySem.W.selfFirst K C_Share = true)
    (kmk_Share : PySem.W.makesIn K C_Share = true)
    (kkmk_Share : PySem.W.keepIn K (.ref C_Share) = true)
    (xc1_Share : PySem.W.findIn K (.ref C_Share) "__class__" = some (some (.builtin "object.__class__")))
    (xc3_Share : PySem.W.mroIn K C_Share (.type "object") = some true)
    (xn_Share_num : PySem.W.findIn K (.ref C_Share) "num" = some none)
    (xn_Share_den : PySem.W.findIn K (.ref C_Share) "den" = some none)
    (xc2 : PySem.W.specialIn K (.builtin "object.__class__") "__get__" = some (some (.builtin "getset_descriptor.__get__")))
    (xc4 : PySem.W.takesIn K (.builtin "object.__class__") = some true)
    (xn_abs : PySem.W.nsIn K mainGlobals "abs" = some none)
    (xn_int : PySem.W.nsIn K mainGlobals "int" = some none)
    (xn_bool : PySem.W.nsIn K mainGlobals "bool" = some none)
    (xn_isinstance : PySem.W.nsIn K mainGlobals "isinstance" = some none)
    (xn_range : PySem.W.nsIn K mainGlobals "range" = some none)
    (xn_len : PySem.W.nsIn K mainGlobals "len" = some none)
    (xmg_gcd : PySem.W.nsIn K mainGlobals "gcd" = some (some (.builtin "math.gcd")))
    (xsx_Share : PySem.W.subIn K (.ref C_Share) (.type "int") = some false)
    (xsu_Share : PySem.W.subIn K (.type "int") (.ref C_Share) = some false)
    (xdr_Share_mul : PySem.W.findIn K (.ref C_Share) (dunderR "mul") = some (some (.ref a_Share_rmul)))
    (xti_mul : PySem.W.findIn K (.type "int") (PySem.dunder "mul") = some (some (.builtin "int.__mul__")))
    (xtr_mul : PySem.W.findIn K (.type "int") (dunderR "mul") = some (some (.builtin "int.__rmul__")))
    (xds_Share_add : PySem.W.findIn K (.ref C_Share) (PySem.dunder "add") = some (some (.ref a_Share_add)))
    (xds_Share_sub : PySem.W.findIn K (.ref C_Share) (PySem.dunder "sub") = some (some (.ref a_Share_sub)))
    (xds_Share_mul : PySem.W.findIn K (.ref C_Share) (PySem.dunder "mul") = some (some (.ref a_Share_mul)))
    : ∃ fd : FuncData, (∀ (s : Shared) (v : Value), BindsTo s fd ⟨[v], []⟩ [("script", v)]) ∧ ∀ base : Heap, K.In base → base.Ns mainGlobals mg → FnOk l.prog w K mg base CX0 7 fa fd ["script"] (spLaw K) := by
  have e := hfa.symm.trans (PySem.W.mg_of X G xmg_law)
  cases e
  have T : Txt K mg ⟨C_Share, a_Share_init, _, a_Share_below, _, a_Share_add, _, a_Share_sub, _, a_Share_mul, _, a_Share_rmul, _, a_Share_neg, _, a_Share_abs, _, a_Share_bool, _, a_Share_eq, _, a_law_cell, _, a_law_pool, _, a_law_whole, _, a_law_wide, _, a_law_common, _, a_law_is, _, a_law_sums, _, a_law_products, _, a_law_compared, _, fa, _⟩ := {
    mg_Share := PySem.W.mg_of X G xmg_Share
    cl_Share := ⟨pgcl_Share, hdcl_Share, pocl_Share, sacl_Share⟩
    sf_Share := xsf_Share
    mk_Share := ⟨kmk_Share, am_Share_init, if_Share_init, kkmk_Share⟩
    c1_Share := xc1_Share
    c3_Share := xc3_Share
    n_Share_num := xn_Share_num
    n_Share_den := xn_Share_den
    c2 := xc2
    c4 := xc4
    n_abs := PySem.W.mg_none_of X G xn_abs
    n_int := PySem.W.mg_none_of X G xn_int
    n_bool := PySem.W.mg_none_of X G xn_bool
    n_isinstance := PySem.W.mg_none_of X G xn_isinstance
    n_range := PySem.W.mg_none_of X G xn_range
    n_len := PySem.W.mg_none_of X G xn_len
    mg_gcd := PySem.W.mg_of X G xmg_gcd
    sx_Share := xsx_Share
    su_Share := xsu_Share
    dr_Share_mul := xdr_Share_mul
    ti_mul := xti_mul
    tr_mul := xtr_mul
    F_Share_init := ⟨⟨_, _, _, _, _, _, _, _, _, _, rfl, l_Share_init, c_Share_init, .inr ⟨by simp, TD_Share_init, _, [.int 1 dt_Share_init], _, rfl, lt_Share_init, rfl, .cons ⟨_, rfl⟩ .nil⟩, .inl rfl⟩, k_Share_init⟩
    m_Share_init := ⟨am_Share_init, if_Share_init, k_Share_init⟩
    F_Share_below := fun_mk (st := s_Share_below) l_Share_below c_Share_below k_Share_below
    b_Share_below := (fun_mk (st := s_Share_below) l_Share_below c_Share_below k_Share_below).binds fun _ _ _ _ _ _ us hl => match us, hl with | [_, _], _ => rfl
    m_Share_below := ⟨am_Share_below, if_Share_below, k_Share_below⟩
    F_Share_add := fun_mk (st := s_Share_add) l_Share_add c_Share_add k_Share_add
    b_Share_add := (fun_mk (st := s_Share_add) l_Share_add c_Share_add k_Share_add).binds fun _ _ _ _ _ _ us hl => match us, hl with | [_, _], _ => rfl
    m_Share_add := ⟨am_Share_add, if_Share_add, k_Share_add⟩
    ds_Share_add := xds_Share_add
    F_Share_sub := fun_mk (st := s_Share_sub) l_Share_sub c_Share_sub k_Share_sub
    b_Share_sub := (fun_mk (st := s_Share_sub) l_Share_sub c_Share_sub k_Share_sub).binds fun _ _ _ _ _ _ us hl => match us, hl with | [_, _], _ => rfl
    m_Share_sub := ⟨am_Share_sub, if_Share_sub, k_Share_sub⟩
    ds_Share_sub := xds_Share_sub
    F_Share_mul := fun_mk (st := s_Share_mul) l_Share_mul c_Share_mul k_Share_mul
    b_Share_mul := (fun_mk (st := s_Share_mul) l_Share_mul c_Share_mul k_Share_mul).binds fun _ _ _ _ _ _ us hl => match us, hl with | [_, _], _ => rfl
    m_Share_mul := ⟨am_Share_mul, if_Share_mul, k_Share_mul⟩
    ds_Share_mul := xds_Share_mul
    F_Share_rmul := fun_mk (st := s_Share_rmul) l_Share_rmul c_Share_rmul k_Share_rmul
    b_Share_rmul := (fun_mk (st := s_Share_rmul) l_Share_rmul c_Share_rmul k_Share_rmul).binds fun _ _ _ _ _ _ us hl => match us, hl with | [_, _], _ => rfl
    m_Share_rmul := ⟨am_Share_rmul, if_Share_rmul, k_Share_rmul⟩
    F_Share_neg := fun_mk (st := s_Share_neg) l_Share_neg c_Share_neg k_Share_neg
    b_Share_neg := (fun_mk (st := s_Share_neg) l_Share_neg c_Share_neg k_Share_neg).binds fun _ _ _ _ _ _ us hl => match us, hl with | [_], _ => rfl
    m_Share_neg := ⟨am_Share_neg, if_Share_neg, k_Share_neg⟩
    F_Share_abs := fun_mk (st := s_Share_abs) l_Share_abs c_Share_abs k_Share_abs
    b_Share_abs := (fun_mk (st := s_Share_abs) l_Share_abs c_Share_abs k_Share_abs).binds fun _ _ _ _ _ _ us hl => match us, hl with | [_], _ => rfl
    m_Share_abs := ⟨am_Share_abs, if_Share_abs, k_Share_abs⟩
    F_Share_bool := fun_mk (st := s_Share_bool) l_Share_bool c_Share_bool k_Share_bool
    b_Share_bool := (fun_mk (st := s_Share_bool) l_Share_bool c_Share_bool k_Share_bool).binds fun _ _ _ _ _ _ us hl => match us, hl with | [_], _ => rfl
    m_Share_bool := ⟨am_Share_bool, if_Share_bool, k_Share_bool⟩
    F_Share_eq := fun_mk (st := s_Share_eq) l_Share_eq c_Share_eq k_Share_eq
    b_Share_eq := (fun_mk (st := s_Share_eq) l_Share_eq c_Share_eq k_Share_eq).binds fun _ _ _ _ _ _ us hl => match us, hl with | [_, _], _ => rfl
    m_Share_eq := ⟨am_Share_eq, if_Share_eq, k_Share_eq⟩
    F_law_cell := fun_mk (st := s_law_cell) l_law_cell c_law_cell k_law_cell
    b_law_cell := (fun_mk (st := s_law_cell) l_law_cell c_law_cell k_law_cell).binds fun _ _ _ _ _ _ us hl => match us, hl with | [_, _], _ => rfl
    mg_law_cell := PySem.W.mg_of X G xmg_law_cell
    F_law_pool := fun_mk (st := s_law_pool) l_law_pool c_law_pool k_law_pool
    b_law_pool := (fun_mk (st := s_law_pool) l_law_pool c_law_pool k_law_pool).binds fun _ _ _ _ _ _ us hl => match us, hl with | [_, _, _], _ => rfl
    mg_law_pool := PySem.W.mg_of X G xmg_law_pool
    F_law_whole := fun_mk (st := s_law_whole) l_law_whole c_law_whole k_law_whole
    b_law_whole := (fun_mk (st := s_law_whole) l_law_whole c_law_whole k_law_whole).binds fun _ _ _ _ _ _ us hl => match us, hl with | [_, _], _ => rfl
    mg_law_whole := PySem.W.mg_of X G xmg_law_whole
    F_law_wide := fun_mk (st := s_law_wide) l_law_wide c_law_wide k_law_wide
    b_law_wide := (fun_mk (st := s_law_wide) l_law_wide c_law_wide k_law_wide).binds fun _ _ _ _ _ _ us hl => match us, hl with | [_, _], _ => rfl
    mg_law_wide := PySem.W.mg_of X G xmg_law_wide
    F_law_common := fun_mk (st := s_law_common) l_law_common c_law_common k_law_common
    b_law_common := (fun_mk (st := s_law_common) l_law_common c_law_common k_law_common).binds fun _ _ _ _ _ _ us hl => match us, hl with | [_, _], _ => rfl
    mg_law_common := PySem.W.mg_of X G xmg_law_common
    F_law_is := fun_mk (st := s_law_is) l_law_is c_law_is k_law_is
    b_law_is := (fun_mk (st := s_law_is) l_law_is c_law_is k_law_is).binds fun _ _ _ _ _ _ us hl => match us, hl with | [_, _, _], _ => rfl
    mg_law_is := PySem.W.mg_of X G xmg_law_is
    F_law_sums := fun_mk (st := s_law_sums) l_law_sums c_law_sums k_law_sums
    b_law_sums := (fun_mk (st := s_law_sums) l_law_sums c_law_sums k_law_sums).binds fun _ _ _ _ _ _ us hl => match us, hl with | [_, _, _, _, _, _], _ => rfl
    mg_law_sums := PySem.W.mg_of X G xmg_law_sums
    F_law_products := fun_mk (st := s_law_products) l_law_products c_law_products k_law_products
    b_law_products := (fun_mk (st := s_law_products) l_law_products c_law_products k_law_products).binds fun _ _ _ _ _ _ us hl => match us, hl with | [_, _, _, _, _, _, _], _ => rfl
    mg_law_products := PySem.W.mg_of X G xmg_law_products
    F_law_compared := fun_mk (st := s_law_compared) l_law_compared c_law_compared k_law_compared
    b_law_compared := (fun_mk (st := s_law_compared) l_law_compared c_law_compared k_law_compared).binds fun _ _ _ _ _ _ us hl => match us, hl with | [_, _, _, _, _, _], _ => rfl
    mg_law_compared := PySem.W.mg_of X G xmg_law_compared
    F_law := fun_mk (st := s_law) l_law c_law k_law
    b_law := (fun_mk (st := s_law) l_law c_law k_law).binds fun _ _ _ _ _ _ us hl => match us, hl with | [_], _ => rfl
    mg_law := PySem.W.mg_of X G xmg_law
  }
  exact ⟨_, fun s v => .of_eq rfl, fun base _ _ => ok_law T⟩
theorem walk {l : PySem.W.OpenLaw} {q : Program} {loose : List Str} {XP : (Str → Option Value) → Heap → Prop} {YP : World → Heap → Prop} {d : DefRec} {K : Params → PySem.W.Frag} (hn : l.most = some 63) (hdf : d.params.defaults = [])
    (hY : ∀ (w : World) (h : Heap), YP w h → (K w.params).In h)
    (F : ∀ (w : World) (mg : Str → Option Value) (fa : Addr) (h : Heap), (K w.params).In h → h.Ns mainGlobals mg → mg d.name = some (.ref fa) →
      ∃ fd : FuncData, (∀ (s : Shared) (u : Value), BindsTo s fd ⟨[u], []⟩ [("script", u)]) ∧ ∀ base : Heap, (K w.params).In base → base.Ns mainGlobals mg → FnOk l.prog w (K w.params) mg base CX0 7 fa fd ["script"] (spLaw (K w.params))) :
    PySem.W.WalkO q loose XP YP l.row.toRowW d [] (fun f vs => PySem.call f vs) :=
  L2.walk_of (n := 63) (k := 7) (x := "script") (CX := fun _ => CX0) (sp := fun w => spLaw (K w.params)) hn (by decide) hdf ⟨rfl, by decide, by decide⟩ hY F (fun _ _ a ns hl _ hS => ⟨a, ns, rfl, hS, hl, fun _ => rfl⟩) fun _ _ _ _ _ z => z
end My
open PySem PySem.W PyProof.Rows
set_option maxRecDepth 100000 in
set_option maxHeartbeats 0 in
theorem PySem.Challenge.cw_unbrokenrows_k00_share_arithmetic_holds : PySem.Challenge.rw_unbrokenrows_k00_share_arithmetic.Holds := by
  w_on; o_law; k_head; (case hw => w_witness2)
  k_fill
  refine My.walk (l := PySem.Challenge.rw_unbrokenrows_k00_share_arithmetic) rfl rfl (fun w h Y => PySem.W.kIn_of Y) ?F
  case F =>
    intro w mg fa h KX G hmg
    refine' My.all_mk KX G hmg ?xmg_Share ?am_Share_init ?am_Share_below ?am_Share_add ?am_Share_sub ?am_Share_mul ?am_Share_rmul ?am_Share_neg ?am_Share_abs ?am_Share_bool ?am_Share_eq ?xmg_law_cell ?xmg_law_pool ?xmg_law_whole ?xmg_law_wide ?xmg_law_common ?xmg_law_is ?xmg_law_sums ?xmg_law_products ?xmg_law_compared ?xmg_law ?if_Share_init ?if_Share_below ?if_Share_add ?if_Share_sub ?if_Share_mul ?if_Share_rmul ?if_Share_neg ?if_Share_abs ?if_Share_bool ?if_Share_eq ?l_Share_init ?l_Share_below ?l_Share_add ?l_Share_sub ?l_Share_mul ?l_Share_rmul ?l_Share_neg ?l_Share_abs ?l_Share_bool ?l_Share_eq ?l_law_cell ?l_law_pool ?l_law_whole ?l_law_wide ?l_law_common ?l_law_is ?l_law_sums ?l_law_products ?l_law_compared ?l_law ?c_Share_init ?k_Share_init ?lt_Share_init ?c_Share_below ?k_Share_below ?c_Share_add ?k_Share_add ?c_Share_sub ?k_Share_sub ?c_Share_mul ?k_Share_mul ?c_Share_rmul ?k_Share_rmul ?c_Share_neg ?k_Share_neg ?c_Share_abs ?k_Share_abs ?c_Share_bool ?k_Share_bool ?c_Share_eq ?k_Share_eq ?c_law_cell ?k_law_cell ?c_law_pool ?k_law_pool ?c_law_whole ?k_law_whole ?c_law_wide ?k_law_wide ?c_law_common ?k_law_common ?c_law_is ?k_law_is ?c_law_sums ?k_law_sums ?c_law_products ?k_law_products ?c_law_compared ?k_law_compared ?c_law ?k_law ?pgcl_Share ?hdcl_Share ?pocl_Share ?sacl_Share ?xsf_Share ?kmk_Share ?kkmk_Share ?xc1_Share ?xc3_Share ?xn_Share_num ?xn_Share_den ?xc2 ?xc4 ?xn_abs ?xn_int ?xn_bool ?xn_isinstance ?xn_range ?xn_len ?xmg_gcd ?xsx_Share ?xsu_Share ?xdr_Share_mul ?xti_mul ?xtr_mul ?xds_Share_add ?xds_Share_sub ?xds_Share_mul
    (case xmg_Share => k_is)
    (case am_Share_init => k_is)
    (case am_Share_below => k_is)
    (case am_Share_add => k_is)
    (case am_Share_sub => k_is)
    (case am_Share_mul => k_is)
    (case am_Share_rmul => k_is)
    (case am_Share_neg => k_is)
    (case am_Share_abs => k_is)
    (case am_Share_bool => k_is)
    (case am_Share_eq => k_is)
    (case xmg_law_cell => k_is)
    (case xmg_law_pool => k_is)
    (case xmg_law_whole => k_is)
    (case xmg_law_wide => k_is)
    (case xmg_law_common => k_is)
    (case xmg_law_is => k_is)
    (case xmg_law_sums => k_is)
    (case xmg_law_products => k_is)
    (case xmg_law_compared => k_is)
    (case xmg_law => k_is)
    (case if_Share_init => k_is)
    (case if_Share_below => k_is)
    (case if_Share_add => k_is)
    (case if_Share_sub => k_is)
    (case if_Share_mul => k_is)
    (case if_Share_rmul => k_is)
    (case if_Share_neg => k_is)
    (case if_Share_abs => k_is)
    (case if_Share_bool => k_is)
    (case if_Share_eq => k_is)
    (case l_Share_init => k_is)
    (case l_Share_below => k_is)
    (case l_Share_add => k_is)
    (case l_Share_sub => k_is)
    (case l_Share_mul => k_is)
    (case l_Share_rmul => k_is)
    (case l_Share_neg => k_is)
    (case l_Share_abs => k_is)
    (case l_Share_bool => k_is)
    (case l_Share_eq => k_is)
    (case l_law_cell => k_is)
    (case l_law_pool => k_is)
    (case l_law_whole => k_is)
    (case l_law_wide => k_is)
    (case l_law_common => k_is)
    (case l_law_is => k_is)
    (case l_law_sums => k_is)
    (case l_law_products => k_is)
    (case l_law_compared => k_is)
    (case l_law => k_is)
    (case c_Share_init => k_is)
    (case k_Share_init => k_is)
    (case lt_Share_init => k_is)
    (case c_Share_below => k_is)
    (case k_Share_below => k_is)
    (case c_Share_add => k_is)
    (case k_Share_add => k_is)
    (case c_Share_sub => k_is)
    (case k_Share_sub => k_is)
    (case c_Share_mul => k_is)
    (case k_Share_mul => k_is)
    (case c_Share_rmul => k_is)
    (case k_Share_rmul => k_is)
    (case c_Share_neg => k_is)
    (case k_Share_neg => k_is)
    (case c_Share_abs => k_is)
    (case k_Share_abs => k_is)
    (case c_Share_bool => k_is)
    (case k_Share_bool => k_is)
    (case c_Share_eq => k_is)
    (case k_Share_eq => k_is)
    (case c_law_cell => k_is)
    (case k_law_cell => k_is)
    (case c_law_pool => k_is)
    (case k_law_pool => k_is)
    (case c_law_whole => k_is)
    (case k_law_whole => k_is)
    (case c_law_wide => k_is)
    (case k_law_wide => k_is)
    (case c_law_common => k_is)
    (case k_law_common => k_is)
    (case c_law_is => k_is)
    (case k_law_is => k_is)
    (case c_law_sums => k_is)
    (case k_law_sums => k_is)
    (case c_law_products => k_is)
    (case k_law_products => k_is)
    (case c_law_compared => k_is)
    (case k_law_compared => k_is)
    (case c_law => k_is)
    (case k_law => k_is)
    (case pgcl_Share => k_is)
    (case hdcl_Share => k_is)
    (case pocl_Share => k_is)
    (case sacl_Share => k_is)
    (case xsf_Share => k_is)
    (case kmk_Share => k_is)
    (case kkmk_Share => k_is)
    (case xc1_Share => k_is)
    (case xc3_Share => k_is)
    (case xn_Share_num => k_is)
    (case xn_Share_den => k_is)
    (case xc2 => k_is)
    (case xc4 => k_is)
    (case xn_abs => k_is)
    (case xn_int => k_is)
    (case xn_bool => k_is)
    (case xn_isinstance => k_is)
    (case xn_range => k_is)
    (case xn_len => k_is)
    (case xmg_gcd => k_is)
    (case xsx_Share => k_is)
    (case xsu_Share => k_is)
    (case xdr_Share_mul => k_is)
    (case xti_mul => k_is)
    (case xtr_mul => k_is)
    (case xds_Share_add => k_is)
    (case xds_Share_sub => k_is)
    (case xds_Share_mul => k_is)
#print axioms PySem.Challenge.cw_unbrokenrows_k00_share_arithmetic_holds
