import PyProof.Rows.All
import Wide.All
import OpenK.AllK
import Wide.FinOn
import HandS.ForMost
import HandS.Property
import HandS.Gcd
import HandS.Wide
import HandS.Defaults
import HandS.IsInst
import HandS.OwnEq
import HandS.Ends
import KE.GoesEnum
import KE.SortData
import KE.DataCmp
import PyProof.TupleOfSeq
import PySem.Challenge.RW_centbook_k06_states_and_parts
import HandS.TupAny
import KE.DataEq
import HandS.NoneIn
import HandS.TupMul
import KE.KRevSl
set_option Elab.async false
set_option linter.all false
set_option maxRecDepth 100000
set_option maxHeartbeats 4000000
set_option exponentiation.threshold 100000
/-! own operators over the hand layer -/
namespace Cb
open PySem PySem.Spec PyProof.Rows L2

section
variable {X : Cx}
/-- a class has the def at f under the name nm -/
structure Own (K : PySem.W.Frag) (C : Addr) (nm : Str) (f : Addr) : Prop where
  at_ : PySem.W.findIn K (.ref C) nm = some (some (.ref f))
  fn : PySem.W.isFn K (.ref f) = true

theorem ins_at {pins : List (Addr × Obj)} {s : Shared} {σ : L2.St} {H : Hp} {a C dx : Addr} {fs : List (Str × V)} (I : Inv X pins σ H s) (h : H a = some (.ins C dx fs)) :
    ∃ od, PySem.W.InstAt s.heap a (PySem.W.instObj C dx) C (some od) := by
  obtain ⟨mA, J, _⟩ := ins_get I.hok h
  obtain ⟨od, J, _⟩ := J.look
  exact ⟨od, J⟩
theorem EP.cmp {pins : List (Addr × Obj)} {σ : L2.St} {Q : VK} {u : Value} {s' : Shared} (h : EP X pins σ Q u s') : PySem.W.CmpBack (EP X pins σ Q) u s' := by
  obtain ⟨v, H', I, r, q⟩ := id h
  cases u <;> first | exact h | (exfalso; cases v <;> first | (exact nomatch r) | (obtain ⟨t, r⟩ := (show ∃ t, _ from r); exact nomatch r))

/-- an operator of two values of which the left one is an instance with the def f for it -/
def rOwn (C : Addr) (sp : Sp) (Y : V → Hp → Prop) : R2 := fun x y H Q => ∃ a dx fs, x = .ref a ∧ H a = some (.ins C dx fs) ∧ Y y H ∧ sp [x, y] H Q E0
def YIns (C : Addr) : V → Hp → Prop := fun y H => ∃ b dy gs, y = .ref b ∧ H b = some (.ins C dy gs)
def YInt : V → Hp → Prop := fun y _ => ∃ i, y = .int i

variable {k : Nat} {f C g : Addr} {fd : FuncData} {ps : List Str} {sp : Sp}
/-- the call of the def at f on values -/
theorem run2 {pins : List (Addr × Obj)} {s : Shared} {σ : L2.St} {H : Hp} {Q : VK} {vs : List V} {us : List Value} (F : FnOk X.prog X.w X.K X.mg X.base CX0 k f fd ps sp) (hr : Room k X.A) (hb : Binds X.K fd ps []) (I : Inv X pins σ H s) (r : Vals vs us)
    (h : sp vs H Q E0) : wpAny (model X.prog X.w) X.A (call (.ref f) us) (EP X pins σ Q) X.xe s :=
  run_fn F hr hb (.nil) pass0 I r (by rw [List.append_nil]; exact h)

theorem op_own {op : Operator} (F : FnOk X.prog X.w X.K X.mg X.base CX0 k f fd ps sp) (hr : Room k X.A) (hb : Binds X.K fd ps []) (hc : PySem.W.selfFirst X.K C = true) (o : Own X.K C (PySem.dunder op.info.2) f) : OpR X (binaryOp op) (rOwn C sp (YIns C)) := by
  intro pins s σ H x y v u Q I rx ry h
  obtain ⟨a, dx, fs, rfl, ha, ⟨b, dy, gs, rfl, hb'⟩, h⟩ := h
  cases rx
  cases ry
  obtain ⟨od, J⟩ := ins_at I ha
  obtain ⟨od', J'⟩ := ins_at I hb'
  obtain ⟨m, hF⟩ := I.fr
  exact PySem.W.binop_K hF I.ok.mod.kin J J'.type hc o.at_ o.fn (thn (run2 (vs := [.ref a, .ref b]) F hr hb I (.cons rfl (.cons rfl .nil)) h) fun u s' q => EP.cmp q)

theorem op_ownI {op : Operator} {fo ro rc : Option Value} (F : FnOk X.prog X.w X.K X.mg X.base CX0 k f fd ps sp) (hr : Room k X.A) (hb : Binds X.K fd ps []) (hc : PySem.W.selfFirst X.K C = true) (o : Own X.K C (PySem.dunder op.info.2) f)
    (hR : PySem.W.findIn X.K (.ref C) (dunderR op.info.2) = some rc) (hp : rc = none ∨ ∃ g : Addr, rc = some (.ref g))
    (h1 : PySem.W.findIn X.K (.type "int") (PySem.dunder op.info.2) = some fo) (h2 : PySem.W.findIn X.K (.type "int") (dunderR op.info.2) = some ro) (hsub : PySem.W.subIn X.K (.type "int") (.ref C) = some false) :
    OpR X (binaryOp op) (rOwn C sp YInt) := by
  intro pins s σ H x y v u Q I rx ry h
  obtain ⟨a, dx, fs, rfl, ha, ⟨i, rfl⟩, h⟩ := h
  cases rx
  obtain ⟨t, rfl⟩ := ry
  obtain ⟨od, J⟩ := ins_at I ha
  obtain ⟨m, hF⟩ := I.fr
  exact PySem.W.ksp_binT hF I.ok.mod.kin J rfl hc o.at_ o.fn hR hp h1 h2 hsub (thn (run2 (vs := [.ref a, .int i]) F hr hb I (.cons rfl (.cons ⟨_, rfl⟩ .nil)) h) fun u s' q => EP.cmp q)

/-- -x of an instance -/
def rUOwn (C : Addr) (sp : Sp) : V → Hp → VK → Prop := fun x H Q => ∃ a dx fs, x = .ref a ∧ H a = some (.ins C dx fs) ∧ sp [x] H Q E0
theorem un_own (F : FnOk X.prog X.w X.K X.mg X.base CX0 k f fd ps sp) (hr : Room k X.A) (hb : Binds X.K fd ps []) (o : Own X.K C "__neg__" f) : UnR X (unaryOp .USub) (rUOwn C sp) := by
  intro pins s σ H x v Q I rx h
  obtain ⟨a, dx, fs, rfl, ha, h⟩ := h
  cases rx
  obtain ⟨od, J⟩ := ins_at I ha
  obtain ⟨m, hF⟩ := I.fr
  exact PySem.W.ksp_neg hF I.ok.mod.kin J o.at_ o.fn (run2 (vs := [.ref a]) F hr hb I (.cons rfl .nil) h)

/-- ==, != by the own def -/
theorem op_cmpOwn {op : CmpOp} (ho : ∀ u v, compareOp op u v = richCompare op u v) (F : FnOk X.prog X.w X.K X.mg X.base CX0 k f fd ps sp) (hr : Room k X.A) (hb : Binds X.K fd ps []) (o : Own X.K C (cmpInfo op).2.1 f) : OpR X (compareOp op) (rOwn C sp (YIns C)) := by
  intro pins s σ H x y v u Q I rx ry h
  obtain ⟨a, dx, fs, rfl, ha, ⟨b, dy, gs, rfl, hb'⟩, h⟩ := h
  cases rx
  cases ry
  obtain ⟨od, J⟩ := ins_at I ha
  obtain ⟨od', J'⟩ := ins_at I hb'
  obtain ⟨m, hF⟩ := I.fr
  rw [ho]
  refine PySem.W.cmp_K (tb := .ref C) hr.units0 hF I.ok.mod.kin J J'.type (by simp [PySem.W.notFirst]) o.at_ o.fn (thn (run2 (vs := [.ref a, .ref b]) F hr hb I (.cons rfl (.cons rfl .nil)) h) fun u s' q => EP.cmp q)

/-- abs(x) of an instance -/
theorem call_absOwn (F : FnOk X.prog X.w X.K X.mg X.base CX0 k f fd ps sp) (hr : Room (k + 1) X.A) (hb : Binds X.K fd ps []) (o : Own X.K C "__abs__" f) : CallR X (.builtin "abs") (fun vs H Q => ∃ x, vs = [x] ∧ rUOwn C sp x H Q) := by
  intro pins s σ H vs us Q I r h
  obtain ⟨x, rfl, a, dx, fs, rfl, ha, h⟩ := h
  obtain ⟨u, rfl, r1⟩ := vals1 r
  cases r1
  obtain ⟨od, J⟩ := ins_at I ha
  refine Calls.call_function_entry kind_abs plain_abs entry_abs (args_abs _) ?_
  unfold Builtin.«abs»
  refine wpAny_bind (m := oneArg "abs" _) (wpAny_pure ?_)
  have F' := F.run X.A.in1 X.stack s H ⟨[.ref a], []⟩ ([Value.ref a] ++ []) [V.ref a] Q E0 hr.in1 I.env0.in1 (hb s [.ref a] I.kIn (by rw [List.append_nil, ← F.len _ _ _ _ h]; rfl)) (show Vals [V.ref a] ([Value.ref a] ++ []) from .cons rfl .nil) h
  refine wpAny_bind (m := callSpecial? (.ref a) (Str.ofString "__abs__")) (PySem.W.special_fn I.kIn J o.at_ (beq_iff_eq.mp o.fn) (wpAny_call (codeAny_mono F' fun r s' hq => ?_)))
  cases r with
  | error e => exact False.elim hq
  | ok fl =>
    cases fl with
    | ret w =>
      exact wpAny_pure ⟨_, rfl, I.after hq⟩
    | next => exact False.elim hq
    | brk => exact False.elim hq
    | cont => exact False.elim hq
end
end Cb

namespace GCb
open PySem
open PySem.Sem (wp)
abbrev NI (x C dx : Addr) : Spec := fun _ R s => s.heap.get? x = some (PySem.W.instObj C dx) ∧ R (.ok (.ret .notImplemented)) s
theorem int_mul_ref (i : Int) (t : Tok) (x C dx : Addr) : Meets (Builtin.«int.__mul__» ⟨[.int i t, .ref x], []⟩) (NI x C dx) :=
  Meets.of_wp fun prog w A R s hs => by
    obtain ⟨hl, hs⟩ := hs
    obtain ⟨hp, g, d, tk, os⟩ := s
    unfold PySem.W.instObj at hl
    wp_walk using wpAny_load hl
    exact ⟨_, rfl, hs⟩
theorem int_add_ref (i : Int) (t : Tok) (x C dx : Addr) : Meets (Builtin.«int.__add__» ⟨[.int i t, .ref x], []⟩) (NI x C dx) :=
  Meets.of_wp fun prog w A R s hs => by
    obtain ⟨hl, hs⟩ := hs
    obtain ⟨hp, g, d, tk, os⟩ := s
    unfold PySem.W.instObj at hl
    wp_walk using wpAny_load hl
    exact ⟨_, rfl, hs⟩
theorem int_sub_ref (i : Int) (t : Tok) (x C dx : Addr) : Meets (Builtin.«int.__sub__» ⟨[.int i t, .ref x], []⟩) (NI x C dx) :=
  Meets.of_wp fun prog w A R s hs => by
    obtain ⟨hl, hs⟩ := hs
    obtain ⟨hp, g, d, tk, os⟩ := s
    unfold PySem.W.instObj at hl
    wp_walk using wpAny_load hl
    exact ⟨_, rfl, hs⟩

section
open PySem.W PySem.Calls PyProof.Rows
variable {prog : Program} {w : World} {A : Around} {E : Value → Shared → Prop} {s : Shared} {K : Frag} {x C L f g dx : Addr} {h₀ : Heap} {m : Str → Option Value} {od : Option Obj}
/-- an int on the left, an instance with the reflected def on the right -/
theorem binR {op : Operator} {idl : String} {B : Builtin} {i : Int} {t : Tok} {Q : Value → Shared → Prop} (F : Fr h₀ L s.heap m) (X₀ : K.In h₀) (I : InstAt s.heap x (instObj C dx) C od) (hc : selfFirst K C = true)
    (hd : findIn K (.ref C) (PySem.dunder op.info.2) = some (some (.ref g))) (hs : findIn K (.ref C) (dunderR op.info.2) = some (some (.ref f))) (hf : isFn K (.ref f) = true) (hsub : subIn K (.ref C) (.type "int") = some false)
    (fillsT : fillsNumberSlot (.type "int") op.info.2 = pure true) (slot : Slot "int" (PySem.dunder op.info.2) idl) (entry : entryFor table idl = some B) (args : argsOk idl ⟨[.int i t, .ref x], []⟩)
    (ni : Meets (B ⟨[.int i t, .ref x], []⟩) (NI x C dx))
    (h : wpAny (model prog w) A (call (.ref f) [.ref x, .int i t]) (PySem.W.CmpBack Q) E s) : wpAny (model prog w) A (binaryOp op (.int i t) (.ref x)) Q E s := by
  have X := X₀.keeps F.keep
  obtain ⟨cd, rest, hcd, hm⟩ := ksp_first hc
  rcases hi : op.info with ⟨sym, nm'⟩
  rw [hi] at hd hs fillsT slot
  dsimp only at hd hs fillsT slot
  have one := ksp_try X I hs hf h
  have zero : wpAny (model prog w) A (tryMethod (.int i t) (PySem.dunder nm') (.ref x)) (fun r s' => r = none ∧ s' = s) E s :=
    wpAny_tryMethod_declines (typeIs_int s i t) slot (call_meets slot (typeIs_int s i t) entry args ni ⟨I.at_, rfl, rfl, rfl⟩)
  obtain ⟨hh, g, d, tt, os⟩ := s
  have L1 : Looks (model prog w) hh (typeOf (.ref x)) (.ref C) := I.type
  have L2 : Looks (model prog w) hh (typeOf (.int i t)) (.type "int") := Looks.of_pure rfl
  have L3 : Looks (model prog w) hh (fillsNumberSlot (.ref C) nm') true := fills_K X hcd hm hd
  have L4 : Looks (model prog w) hh (fillsNumberSlot (.type "int") nm') true := Looks.of_pure fillsT
  have L5 : Looks (model prog w) hh (isSubtype (.ref C) (.type "int")) false := looks_subIn X hsub
  have L7 : Looks (model prog w) hh (numberSlotInPython (.type "int") nm') false := Looks.of_pure rfl
  have hne : (Value.type "int" == Value.ref C) = false := Bool.eq_false_iff.mpr fun q => by cases beq_iff_eq.mp q
  simp only [binaryOp, hi]
  refine wpAny_holding (wpAny_bind ?_)
  unfold binaryOp1
  refine wpAny_bind (L2.at (wpAny_bind (L1.at (wpAny_bind (L4.at ?_)))))
  simp only [hne, Bool.false_eq_true, if_false]
  ksp_lk
  refine wpAny_mono zero (fun r s' hr' => ?_) fun _ _ e => e
  obtain ⟨rfl, rfl⟩ := hr'
  ksp_lk
  refine wpAny_mono one (fun r s' hr' => ?_) fun _ _ e => e
  obtain ⟨v, rfl, hq⟩ := hr'
  ksp_lk
  exact hq
end
end GCb
namespace Cb
open PySem PySem.Spec PyProof.Rows L2
section
variable {X : Cx} {k : Nat} {f C g : Addr} {fd : FuncData} {ps : List Str} {sp : Sp}
def rOwnR (C : Addr) (sp : Sp) : R2 := fun x y H Q => ∃ i b dy gs, x = .int i ∧ y = .ref b ∧ H b = some (.ins C dy gs) ∧ sp [y, x] H Q E0
theorem op_ownR {op : Operator} {idl : String} {B : Builtin} (F : FnOk X.prog X.w X.K X.mg X.base CX0 k f fd ps sp) (hr : Room k X.A) (hb : Binds X.K fd ps []) (hc : PySem.W.selfFirst X.K C = true)
    (hd : PySem.W.findIn X.K (.ref C) (PySem.dunder op.info.2) = some (some (.ref g))) (o : Own X.K C (dunderR op.info.2) f) (hsub : PySem.W.subIn X.K (.ref C) (.type "int") = some false)
    (fillsT : fillsNumberSlot (.type "int") op.info.2 = pure true) (slot : Slot "int" (PySem.dunder op.info.2) idl) (entry : entryFor table idl = some B) (args : ∀ a b, argsOk idl ⟨[a, b], []⟩)
    (ni : ∀ (i : Int) (t : Tok) (x C dx : Addr), Meets (B ⟨[.int i t, .ref x], []⟩) (GCb.NI x C dx)) : OpR X (binaryOp op) (rOwnR C sp) := by
  intro pins s σ H x y v u Q I rx ry h
  obtain ⟨i, b, dx, fs, rfl, rfl, ha, h⟩ := h
  obtain ⟨t, rfl⟩ := rx
  cases ry
  obtain ⟨od, J⟩ := ins_at I ha
  obtain ⟨m, hF⟩ := I.fr
  exact GCb.binR hF I.ok.mod.kin J hc hd o.at_ o.fn hsub fillsT slot entry (args _ _) (ni _ _ _ _ _) (thn (run2 (vs := [.ref b, .int i]) F hr hb I (.cons rfl (.cons ⟨_, rfl⟩ .nil)) h) fun u s' q => EP.cmp q)

/-- a, b.f, ..: an attribute as a target -/
def gFld (K : PySem.W.Frag) (ta : TE) (f : Str) : TG := fun v σ H Q => ta σ H fun x H2 => ∃ a C dx fs, x = .ref a ∧ H2 a = some (.ins C dx fs) ∧ Cls K C ∧ NoAttr K C f ∧ fs.length < 1000 ∧ Q σ (upd H2 a (.ins C dx (putF f v fs)))
theorem pg_fld {o : Expr} {f : Str} {pos : Pos} {ta : TE} (ha : PE X o ta) : PG X (.Attribute o f pos) (gFld X.K ta f) := by
  refine ⟨fun pins s σ H v u Q I r h => ?_⟩
  rw [assign_Attribute]
  refine wpAny_bind (wpAny_holding (thn (ha.run pins s σ H _ I h) fun ov s1 ⟨x, H1, I1, r1, a, C, dx, fs, ex, ea, c, n, l, q⟩ => ?_))
  subst ex
  obtain rfl : ov = Value.ref a := r1
  refine wpAny_bind (wpAny_standAt (wpAny_bind (wpAny_holding (setattr_ok I1 ea c n l r fun s3 I3 => ?_))))
  exact wpAny_release ⟨σ, _, I3, q⟩
end
end Cb

/-! weakest readings, pure evaluation -/
namespace Cb
open PySem PySem.Spec PyProof.Rows L2
section
variable {X : Cx}
@[irreducible] def wE (X : Cx) (e : Expr) : TE := fun σ H Q => ∀ (pins : List (Addr × Obj)) (s : Shared), Inv X pins σ H s → wpAny (model X.prog X.w) X.A (eval e X.env) (EP X pins σ Q) X.xe s
@[irreducible] def wT (X : Cx) (e : Expr) : TT := fun σ H Q => ∀ (pins : List (Addr × Obj)) (s : Shared), Inv X pins σ H s → wpAny (model X.prog X.w) X.A (isTrue e X.env (eval e X.env)) (TP X pins σ Q) X.xe s
@[irreducible] def wW (X : Cx) (e : Expr) : TT := fun σ H Q => ∀ (whole : Sem Value) (pins : List (Addr × Obj)) (s : Shared), Inv X pins σ H s → wpAny (model X.prog X.w) X.A (isTrue e X.env whole) (TP X pins σ Q) X.xe s
@[irreducible] def wA (X : Cx) (es : List Expr) : TA := fun σ H Q => ∀ (pos : Pos) (pins : List (Addr × Obj)) (s : Shared), Inv X pins σ H s → wpAny (model X.prog X.w) X.A (spliced (backTo pos (starEach es X.env))) (AP X pins σ Q) X.xe s
@[irreducible] def wS (X : Cx) (st : Stmt) : TS := fun D σ H => ∀ (pins : List (Addr × Obj)) (s : Shared), Inv X pins σ H s → wpAny (model X.prog X.w) X.A (exec st X.env) (SP X pins D) X.xe s
@[irreducible] def wB (X : Cx) (sts : List Stmt) : TS := fun D σ H => ∀ (pins : List (Addr × Obj)) (s : Shared), Inv X pins σ H s → wpAny (model X.prog X.w) X.A (execs sts X.env) (SP X pins D) X.xe s
variable {e a b c : Expr} {es : List Expr} {st : Stmt} {sts els : List Stmt} {t : TE} {tt : TT} {ta : TA} {ts : TS} {σ : L2.St} {H H' : Hp} {pos : Pos} {D D' : Ends}
theorem wE_i {Q : VK} (h : ∀ (pins : List (Addr × Obj)) (s : Shared), Inv X pins σ H s → wpAny (model X.prog X.w) X.A (eval e X.env) (EP X pins σ Q) X.xe s) : wE X e σ H Q := by
  unfold wE
  exact h
theorem wE.run {Q : VK} (h : wE X e σ H Q) : ∀ (pins : List (Addr × Obj)) (s : Shared), Inv X pins σ H s → wpAny (model X.prog X.w) X.A (eval e X.env) (EP X pins σ Q) X.xe s := by
  unfold wE at h
  exact h
theorem wT_i {Q : Bool → Hp → Prop} (h : ∀ (pins : List (Addr × Obj)) (s : Shared), Inv X pins σ H s → wpAny (model X.prog X.w) X.A (isTrue e X.env (eval e X.env)) (TP X pins σ Q) X.xe s) : wT X e σ H Q := by
  unfold wT
  exact h
theorem wT.run {Q : Bool → Hp → Prop} (h : wT X e σ H Q) : ∀ (pins : List (Addr × Obj)) (s : Shared), Inv X pins σ H s → wpAny (model X.prog X.w) X.A (isTrue e X.env (eval e X.env)) (TP X pins σ Q) X.xe s := by
  unfold wT at h
  exact h
theorem wW_i {Q : Bool → Hp → Prop} (h : ∀ (whole : Sem Value) (pins : List (Addr × Obj)) (s : Shared), Inv X pins σ H s → wpAny (model X.prog X.w) X.A (isTrue e X.env whole) (TP X pins σ Q) X.xe s) : wW X e σ H Q := by
  unfold wW
  exact h
theorem wW.run {Q : Bool → Hp → Prop} (h : wW X e σ H Q) : ∀ (whole : Sem Value) (pins : List (Addr × Obj)) (s : Shared), Inv X pins σ H s → wpAny (model X.prog X.w) X.A (isTrue e X.env whole) (TP X pins σ Q) X.xe s := by
  unfold wW at h
  exact h
theorem wA_i {Q : List V → Hp → Prop} (h : ∀ (pos : Pos) (pins : List (Addr × Obj)) (s : Shared), Inv X pins σ H s → wpAny (model X.prog X.w) X.A (spliced (backTo pos (starEach es X.env))) (AP X pins σ Q) X.xe s) : wA X es σ H Q := by
  unfold wA
  exact h
theorem wA.run {Q : List V → Hp → Prop} (h : wA X es σ H Q) : ∀ (pos : Pos) (pins : List (Addr × Obj)) (s : Shared), Inv X pins σ H s → wpAny (model X.prog X.w) X.A (spliced (backTo pos (starEach es X.env))) (AP X pins σ Q) X.xe s := by
  unfold wA at h
  exact h
theorem wS_i  (h : ∀ (pins : List (Addr × Obj)) (s : Shared), Inv X pins σ H s → wpAny (model X.prog X.w) X.A (exec st X.env) (SP X pins D) X.xe s) : wS X st D σ H := by
  unfold wS
  exact h
theorem wS.run  (h : wS X st D σ H) : ∀ (pins : List (Addr × Obj)) (s : Shared), Inv X pins σ H s → wpAny (model X.prog X.w) X.A (exec st X.env) (SP X pins D) X.xe s := by
  unfold wS at h
  exact h
theorem wB_i  (h : ∀ (pins : List (Addr × Obj)) (s : Shared), Inv X pins σ H s → wpAny (model X.prog X.w) X.A (execs sts X.env) (SP X pins D) X.xe s) : wB X sts D σ H := by
  unfold wB
  exact h
theorem wB.run  (h : wB X sts D σ H) : ∀ (pins : List (Addr × Obj)) (s : Shared), Inv X pins σ H s → wpAny (model X.prog X.w) X.A (execs sts X.env) (SP X pins D) X.xe s := by
  unfold wB at h
  exact h
theorem pw_E : PE X e (wE X e) := ⟨fun pins s _ _ _ I h => wE.run h pins s I⟩
theorem pw_T : PT X e (wT X e) := ⟨fun pins s _ _ _ I h => wT.run h pins s I⟩
theorem pw_W : PW X e (wW X e) := ⟨fun whole pins s _ _ _ I h => wW.run h whole pins s I⟩
theorem pw_A : PA X es (wA X es) := ⟨fun pos pins s _ _ _ I h => wA.run h pos pins s I⟩
theorem pw_S : PS X st (wS X st) := ⟨fun pins s _ _ _ I h => wS.run h pins s I⟩
theorem pw_B : PSs X sts (wB X sts) := ⟨fun pins s _ _ _ I h => wB.run h pins s I⟩
theorem w_E (p : PE X e t) {Q : VK} (h : t σ H Q) : wE X e σ H Q := wE_i fun pins s I => p.run pins s σ H Q I h
theorem w_T (p : PT X e tt) {Q : Bool → Hp → Prop} (h : tt σ H Q) : wT X e σ H Q := wT_i fun pins s I => p.run pins s σ H Q I h
theorem w_W (p : PW X e tt) {Q : Bool → Hp → Prop} (h : tt σ H Q) : wW X e σ H Q := wW_i fun whole pins s I => p.run whole pins s σ H Q I h
theorem w_A (p : PA X es ta) {Q : List V → Hp → Prop} (h : ta σ H Q) : wA X es σ H Q := wA_i fun pos pins s I => p.run pos pins s σ H Q I h
theorem w_S (p : PS X st ts) (h : ts D σ H) : wS X st D σ H := wS_i fun pins s I => p.run pins s σ H D I h
theorem w_B (p : PSs X sts ts) (h : ts D σ H) : wB X sts D σ H := wB_i fun pins s I => p.run pins s σ H D I h
theorem wE_mono {Q Q' : VK} (h : wE X e σ H Q) (k : ∀ v H', Q v H' → Q' v H') : wE X e σ H Q' := wE_i fun pins s I => thn (wE.run h pins s I) fun u s' ⟨v, H1, I1, r, q⟩ => ⟨v, H1, I1, r, k v H1 q⟩
theorem wT_mono {Q Q' : Bool → Hp → Prop} (h : wT X e σ H Q) (k : ∀ v H', Q v H' → Q' v H') : wT X e σ H Q' := wT_i fun pins s I => thn (wT.run h pins s I) fun u s' ⟨H1, I1, q⟩ => ⟨H1, I1, k u H1 q⟩
theorem wW_mono {Q Q' : Bool → Hp → Prop} (h : wW X e σ H Q) (k : ∀ v H', Q v H' → Q' v H') : wW X e σ H Q' := wW_i fun whole pins s I => thn (wW.run h whole pins s I) fun u s' ⟨H1, I1, q⟩ => ⟨H1, I1, k u H1 q⟩
theorem wA_mono {Q Q' : List V → Hp → Prop} (h : wA X es σ H Q) (k : ∀ v H', Q v H' → Q' v H') : wA X es σ H Q' := wA_i fun pos pins s I => thn (wA.run h pos pins s I) fun u s' ⟨v, H1, I1, r, q⟩ => ⟨v, H1, I1, r, k v H1 q⟩
theorem wB_mono (h : wB X sts D σ H) (k1 : ∀ σ' H', D.nx σ' H' → D'.nx σ' H') (k2 : ∀ v H', D.rt v H' → D'.rt v H') (k3 : ∀ σ' H', D.bk σ' H' → D'.bk σ' H') (k4 : ∀ σ' H', D.ct σ' H' → D'.ct σ' H') : wB X sts D' σ H := wB_i fun pins s I =>
  thn (wB.run h pins s I) fun f s' q => by
    cases f with
    | next => obtain ⟨σ', H', I', q⟩ := q; exact ⟨σ', H', I', k1 _ _ q⟩
    | brk => obtain ⟨σ', H', I', q⟩ := q; exact ⟨σ', H', I', k3 _ _ q⟩
    | cont => obtain ⟨σ', H', I', q⟩ := q; exact ⟨σ', H', I', k4 _ _ q⟩
    | ret u => obtain ⟨v, σ', H', I', r, q⟩ := q; exact ⟨v, σ', H', I', r, k2 _ _ q⟩
/-! blocks -/
theorem b_nil (h : D.nx σ H) : wB X [] D σ H := w_B pss_nil h
theorem b_cons (h : wS X st { D with nx := wB X sts D } σ H) : wB X (st :: sts) D σ H := w_B (pss_cons pw_S pw_B) h
/-! ### predicates on values -/
abbrev Pd := V → Hp → Prop
def Mono (P : Pd) : Prop := ∀ v H H', Same H H' → P v H → P v H'
def Is (v : V) : Pd := fun x _ => x = v
theorem mono_is {v : V} : Mono (Is v) := fun _ _ _ _ h => h
def Ev (X : Cx) (σ : L2.St) (H : Hp) (e : Expr) (P : Pd) : Prop := ∀ H1, Same H H1 → wE X e σ H1 (fun v H2 => Same H1 H2 ∧ P v H2)
def EvT (X : Cx) (σ : L2.St) (H : Hp) (e : Expr) (k : Bool) : Prop := ∀ H1, Same H H1 → wT X e σ H1 (fun v H2 => Same H1 H2 ∧ v = k)
def EvW (X : Cx) (σ : L2.St) (H : Hp) (e : Expr) (k : Bool) : Prop := ∀ H1, Same H H1 → wW X e σ H1 (fun v H2 => Same H1 H2 ∧ v = k)
def Pws : List Pd → List V → Hp → Prop
  | [], vs, _ => vs = []
  | P :: Ps, vs, H => ∃ v r, vs = v :: r ∧ P v H ∧ Pws Ps r H
def EvA (X : Cx) (σ : L2.St) (H : Hp) (es : List Expr) (Ps : List Pd) : Prop := ∀ H1, Same H H1 → wA X es σ H1 (fun vs H2 => Same H1 H2 ∧ Pws Ps vs H2)
variable {P Pa Pb : Pd} {Ps : List Pd}
theorem Ev.mono (h : Ev X σ H e P) (s : Same H H') : Ev X σ H' e P := fun H1 s1 => h H1 (s.trans s1)
theorem EvT.mono {k : Bool} (h : EvT X σ H e k) (s : Same H H') : EvT X σ H' e k := fun H1 s1 => h H1 (s.trans s1)
theorem Ev.imp {P' : Pd} (h : Ev X σ H e P) (k : ∀ v H', Same H H' → P v H' → P' v H') : Ev X σ H e P' := fun H1 s1 => wE_mono (h H1 s1) fun v H' ⟨s, p⟩ => ⟨s, k v H' (s1.trans s) p⟩
theorem ev_of (p : PE X e t) (h : ∀ H1, Same H H1 → t σ H1 (fun v H2 => Same H1 H2 ∧ P v H2)) : Ev X σ H e P := fun H1 s1 => w_E p (h H1 s1)
theorem w_ev {Q : VK} (h : Ev X σ H e P) (k : ∀ v H', Same H H' → P v H' → Q v H') : wE X e σ H Q := wE_mono (h H (.refl _)) fun v H' ⟨s, p⟩ => k v H' s p
theorem w_evT {k : Bool} {Q : Bool → Hp → Prop} (h : EvT X σ H e k) (kk : ∀ H', Same H H' → Q k H') : wT X e σ H Q := wT_mono (h H (.refl _)) fun v H' ⟨s, p⟩ => by
  subst p
  exact kk H' s
theorem ev_c {v : V} (p : PE X e (tC v)) : Ev X σ H e (Is v) := ev_of p fun H1 _ => ⟨.refl _, rfl⟩
theorem ev_v {i : Nat} {v : V} (p : PE X e (tVar i)) (hi : σ[i]? = some (some v)) (h : P v H) (m : Mono P) : Ev X σ H e P := ev_of p fun H1 s1 => ⟨v, hi, .refl _, m _ _ _ s1 h⟩
theorem ev_vi {i : Nat} {v : V} (p : PE X e (tVar i)) (hi : σ[i]? = some (some v)) : Ev X σ H e (Is v) := ev_v p hi rfl mono_is
theorem ev_op {op : Operator} {r : R2} (ho : OpR X (binaryOp op) r) (ha : Ev X σ H a Pa) (hb : Ev X σ H b Pb) (ma : Mono Pa)
    (h : ∀ x y H2, Same H H2 → Pa x H2 → Pb y H2 → r x y H2 (fun v H3 => Same H2 H3 ∧ P v H3)) (hr : ∀ x y H2 (Q Q' : VK), (∀ v H', Q v H' → Q' v H') → r x y H2 Q → r x y H2 Q') : Ev X σ H (.BinOp a op b pos) P :=
  ev_of (pe_op ho pw_E pw_E) fun H1 s1 => wE_mono (ha H1 s1) fun x H2 ⟨s2, px⟩ => wE_mono (hb H2 (s1.trans s2)) fun y H3 ⟨s3, py⟩ =>
    hr _ _ _ _ _ (fun v H' ⟨s4, pv⟩ => ⟨(s2.trans s3).trans s4, pv⟩) (h x y H3 ((s1.trans s2).trans s3) (ma _ _ _ s3 px) py)
theorem ev_cmp {op : CmpOp} {r : R2} (ho : OpR X (compareOp op) r) (hm : behindInMarks op b = false) (ha : Ev X σ H a Pa) (hb : Ev X σ H b Pb) (ma : Mono Pa)
    (h : ∀ x y H2, Same H H2 → Pa x H2 → Pb y H2 → r x y H2 (fun v H3 => Same H2 H3 ∧ P v H3)) (hr : ∀ x y H2 (Q Q' : VK), (∀ v H', Q v H' → Q' v H') → r x y H2 Q → r x y H2 Q') : Ev X σ H (.Compare a [op] [b] pos) P :=
  ev_of (pe_cmpR ho pw_E pw_E hm) fun H1 s1 => wE_mono (ha H1 s1) fun x H2 ⟨s2, px⟩ => wE_mono (hb H2 (s1.trans s2)) fun y H3 ⟨s3, py⟩ =>
    hr _ _ _ _ _ (fun v H' ⟨s4, pv⟩ => ⟨(s2.trans s3).trans s4, pv⟩) (h x y H3 ((s1.trans s2).trans s3) (ma _ _ _ s3 px) py)
theorem ev_un {op : UnaryOp} {r : V → Hp → VK → Prop} (ho : UnR X (unaryOp op) r) (ha : Ev X σ H a Pa) (h : ∀ x H2, Same H H2 → Pa x H2 → r x H2 (fun v H3 => Same H2 H3 ∧ P v H3)) (hr : ∀ x H2 (Q Q' : VK), (∀ v H', Q v H' → Q' v H') → r x H2 Q → r x H2 Q') :
    Ev X σ H (.UnaryOp op a pos) P :=
  ev_of (pe_un ho pw_E) fun H1 s1 => wE_mono (ha H1 s1) fun x H2 ⟨s2, px⟩ => hr _ _ _ _ (fun v H' ⟨s4, pv⟩ => ⟨s2.trans s4, pv⟩) (h x H2 (s1.trans s2) px)
/-! ints -/
theorem ev_opI {op : Operator} {g : Int → Int → Int} {i j : Int} (ho : OpR X (binaryOp op) (rI0 fun i j => .int (g i j))) (ha : Ev X σ H a (Is (.int i))) (hb : Ev X σ H b (Is (.int j))) : Ev X σ H (.BinOp a op b pos) (Is (.int (g i j))) :=
  ev_op ho ha hb mono_is (fun x y H2 _ px py => ⟨i, j, px, py, .refl _, rfl⟩) fun x y H2 Q Q' k ⟨i, j, h1, h2, q⟩ => ⟨i, j, h1, h2, k _ _ q⟩
theorem ev_opC {op : Operator} {C : Int → Int → Prop} {g : Int → Int → Int} {i j : Int} (ho : OpR X (binaryOp op) (rI C fun i j => .int (g i j))) (ha : Ev X σ H a (Is (.int i))) (hb : Ev X σ H b (Is (.int j))) (hc : C i j) : Ev X σ H (.BinOp a op b pos) (Is (.int (g i j))) :=
  ev_op ho ha hb mono_is (fun x y H2 _ px py => ⟨i, j, px, py, hc, .refl _, rfl⟩) fun x y H2 Q Q' k ⟨i, j, h1, h2, h3, q⟩ => ⟨i, j, h1, h2, h3, k _ _ q⟩
/-- a comparison whose answer is v -/
structure CC (X : Cx) (σ : L2.St) (H : Hp) (op : CmpOp) (a b : Expr) (v : V) : Prop where
  ex : ∃ (r : R2) (Pa Pb : Pd), OpR X (compareOp op) r ∧ behindInMarks op b = false ∧ Ev X σ H a Pa ∧ Ev X σ H b Pb ∧ Mono Pa ∧ (∀ x y H2, Same H H2 → Pa x H2 → Pb y H2 → r x y H2 (fun z H3 => Same H2 H3 ∧ z = v)) ∧ (∀ x y H2 (Q Q' : VK), (∀ v H', Q v H' → Q' v H') → r x y H2 Q → r x y H2 Q')
theorem CC.ev {op : CmpOp} {v : V} (h : CC X σ H op a b v) : Ev X σ H (.Compare a [op] [b] pos) (Is v) := by
  obtain ⟨r, Pa, Pb, ho, hm, ha, hb, ma, h, hr⟩ := h.ex
  exact ev_cmp ho hm ha hb ma h hr
theorem CC.et {op : CmpOp} {k : Bool} (h : CC X σ H op a b (.bl k)) : EvT X σ H (.Compare a [op] [b] pos) k := by
  obtain ⟨r, Pa, Pb, ho, hm, ha, hb, ma, h, hr⟩ := h.ex
  exact fun H1 s1 => w_T (pt_cmpR ho pw_E pw_E hm) (wE_mono (ha H1 s1) fun x H2 ⟨s2, px⟩ => wE_mono (hb H2 (s1.trans s2)) fun y H3 ⟨s3, py⟩ =>
    hr _ _ _ _ _ (fun v H' ⟨s4, pv⟩ => ⟨k, pv, (s2.trans s3).trans s4, rfl⟩) (h x y H3 ((s1.trans s2).trans s3) (ma _ _ _ s3 px) py))
theorem CC.is {op : CmpOp} {v w : V} (h : CC X σ H op a b v) (e : v = w) : CC X σ H op a b w := e ▸ h
theorem c_I {op : CmpOp} {g : Int → Int → Bool} {i j : Int} (ho : OpR X (compareOp op) (rI0 fun i j => .bl (g i j))) (hm : behindInMarks op b = false) (ha : Ev X σ H a (Is (.int i))) (hb : Ev X σ H b (Is (.int j))) : CC X σ H op a b (.bl (g i j)) :=
  ⟨_, _, _, ho, hm, ha, hb, mono_is, fun x y H2 _ px py => ⟨i, j, px, py, .refl _, rfl⟩, fun x y H2 Q Q' k ⟨i, j, h1, h2, q⟩ => ⟨i, j, h1, h2, k _ _ q⟩⟩
/-- == and != of two scalars -/
theorem c_eqS {x y : V} (ha : Ev X σ H a (Is x)) (hb : Ev X σ H b (Is y)) (hs : scal x y = true) (hm : behindInMarks .Eq b = false := by exact nomark _) : CC X σ H .Eq a b (.bl (decide (x = y))) :=
  ⟨_, _, _, op_eq, hm, ha, hb, mono_is, fun x' y' H2 _ px py => by cases px; cases py; exact ⟨hs, .refl _, rfl⟩, fun x y H2 Q Q' k ⟨h1, q⟩ => ⟨h1, k _ _ q⟩⟩
theorem c_neS {x y : V} (ha : Ev X σ H a (Is x)) (hb : Ev X σ H b (Is y)) (hs : scal x y = true) (hm : behindInMarks .NotEq b = false := by exact nomark _) : CC X σ H .NotEq a b (.bl (!decide (x = y))) :=
  ⟨_, _, _, op_ne, hm, ha, hb, mono_is, fun x' y' H2 _ px py => by cases px; cases py; exact ⟨hs, .refl _, rfl⟩, fun x y H2 Q Q' k ⟨h1, q⟩ => ⟨h1, k _ _ q⟩⟩
theorem ev_negI {i : Int} (ha : Ev X σ H a (Is (.int i))) : Ev X σ H (.UnaryOp .USub a pos) (Is (.int (-i))) :=
  ev_un un_neg ha (fun x H2 _ px => ⟨i, px, .refl _, rfl⟩) fun x H2 Q Q' k ⟨i, h1, q⟩ => ⟨i, h1, k _ _ q⟩
theorem Ev.is {v w : V} (h : Ev X σ H e (Is v)) (q : v = w) : Ev X σ H e (Is w) := q ▸ h
/-! arguments -/
theorem ea_nil : EvA X σ H [] [] := fun H1 _ => w_A pa_nil ⟨.refl _, rfl⟩
theorem ea_cons (ha : Ev X σ H e P) (m : Mono P) (hr : EvA X σ H es Ps) (hs : starEach (e :: es) X.env = (false, eval e X.env) :: starEach es X.env := by rfl) : EvA X σ H (e :: es) (P :: Ps) := fun H1 s1 =>
  w_A (pa_cons pw_E pw_A hs) (wE_mono (ha H1 s1) fun x H2 ⟨s2, px⟩ => wA_mono (hr H2 (s1.trans s2)) fun vs H3 ⟨s3, pv⟩ => ⟨s2.trans s3, x, vs, rfl, m _ _ _ s3 px, pv⟩)
/-! tests -/
theorem et_v {k : Bool} (h : Ev X σ H e (Is (.bl k))) (he : ∀ whole, isTrue e X.env whole = (do let v ← whole; standAt e.pos; holding [v] (truthy v)) := by intro _; rfl) : EvT X σ H e k := fun H1 s1 =>
  w_T (pt_val pw_E he) (wE_mono (h H1 s1) fun v H2 ⟨s2, p⟩ => ⟨k, p, s2, rfl⟩)
theorem et_w {k : Bool} (h : EvW X σ H e k) : EvT X σ H e k := fun H1 s1 => w_T pw_W.pt (h H1 s1)
theorem ew_or1 {k : Bool} {p : Pos} (h : EvT X σ H a k) : EvW X σ H (.BoolOp .Or [a] p) k := fun H1 s1 => w_W (pw_or1 pw_T) (h H1 s1)
theorem ew_and1 {k : Bool} {p : Pos} (h : EvT X σ H a k) : EvW X σ H (.BoolOp .And [a] p) k := fun H1 s1 => w_W (pw_and1 pw_T) (h H1 s1)
end
end Cb

/-! blocks, calls -/
namespace Cb
open PySem PySem.Spec PyProof.Rows L2
section
variable {X : Cx} {e a b c : Expr} {es : List Expr} {st : Stmt} {sts els body : List Stmt} {t : TE} {tt : TT} {ta : TA} {ts : TS} {σ : L2.St} {H H' : Hp} {pos pos' p p' : Pos} {D D' : Ends} {P Pa Pb : Pd} {Ps : List Pd}
theorem b_set {i : Nat} {x : Str} (hN : X.N.Nodup) (hi : X.N[i]? = some x) (hx : Loc X.env.scope x) (h : wE X e σ H (fun v H' => wB X sts D (σ.set i (some v)) H'))
    (hs : swapsWith e (some (.Name x pos')) pos.line X.env = pure false := by rfl) (hf : X.fn x = true ∨ X.env.scope.names.lookup x = some .local := by first | exact .inl rfl | exact .inr rfl | assumption) :
    wB X (.Assign [.Name x pos'] e pos :: sts) D σ H := b_cons (w_S (ps_set hN hi hx pw_E hs hf) h)
theorem b_setE {i : Nat} {x : Str} (hN : X.N.Nodup) (hi : X.N[i]? = some x) (hx : Loc X.env.scope x) (he : Ev X σ H e P) (k : ∀ v H', Same H H' → P v H' → wB X sts D (σ.set i (some v)) H')
    (hs : swapsWith e (some (.Name x pos')) pos.line X.env = pure false := by rfl) (hf : X.fn x = true ∨ X.env.scope.names.lookup x = some .local := by first | exact .inl rfl | exact .inr rfl | assumption) :
    wB X (.Assign [.Name x pos'] e pos :: sts) D σ H := b_set hN hi hx (wE_mono (he H (.refl _)) fun v H' ⟨s, q⟩ => k v H' s q) hs hf
theorem b_asg {tg : Expr} {g : TG} (hg : PG X tg g) (h : wE X e σ H (fun v H' => g v σ H' (fun σ2 H2 => wB X sts D σ2 H2))) (hs : swapsWithSole [tg] e pos.line X.env = pure false := by rfl) (hw : swappedStores [tg] e X.env = pure none := by rfl)
    (h1 : (assignEach [tg] X.env).map (·.2) = [assign tg X.env] := by rfl) : wB X (.Assign [tg] e pos :: sts) D σ H := b_cons (w_S (ps_asg pw_E hg hs hw h1) h)
theorem b_asgE {tg : Expr} {g : TG} (hg : PG X tg g) (he : Ev X σ H e P) (k : ∀ v H', Same H H' → P v H' → g v σ H' (fun σ2 H2 => wB X sts D σ2 H2)) (hs : swapsWithSole [tg] e pos.line X.env = pure false := by rfl) (hw : swappedStores [tg] e X.env = pure none := by rfl)
    (h1 : (assignEach [tg] X.env).map (·.2) = [assign tg X.env] := by rfl) : wB X (.Assign [tg] e pos :: sts) D σ H := b_asg hg (wE_mono (he H (.refl _)) fun v H' ⟨s, q⟩ => k v H' s q) hs hw h1
theorem b_ret (h : wE X e σ H D.rt) : wB X (.Return (some e) pos :: sts) D σ H := b_cons (w_S (ps_ret pw_E) h)
theorem b_retE (he : Ev X σ H e P) (k : ∀ v H', Same H H' → P v H' → D.rt v H') : wB X (.Return (some e) pos :: sts) D σ H := b_ret (wE_mono (he H (.refl _)) fun v H' ⟨s, q⟩ => k v H' s q)
theorem b_if (h : wT X c σ H fun k H1 => if k = true then wB X body { D with nx := wB X sts D } σ H1 else wB X els { D with nx := wB X sts D } σ H1) : wB X (.If c body els pos :: sts) D σ H := b_cons (w_S (ps_if pw_T pw_B pw_B) h)
theorem b_ifE {k : Bool} (hc : EvT X σ H c k) (h1 : k = true → ∀ H', Same H H' → wB X body { D with nx := wB X sts D } σ H') (h2 : k = false → ∀ H', Same H H' → wB X els { D with nx := wB X sts D } σ H') : wB X (.If c body els pos :: sts) D σ H :=
  b_if (wT_mono (hc H (.refl _)) fun k' H' ⟨s, q⟩ => by
    subst q
    cases k' with
    | true => rw [if_pos rfl]; exact h1 rfl H' s
    | false => rw [if_neg Bool.false_ne_true]; exact h2 rfl H' s)
/-- an if, both ways joined by a word J -/
theorem b_ifJ {k : Bool} (J : L2.St → Hp → Prop) (hc : EvT X σ H c k) (h1 : k = true → ∀ H', Same H H' → wB X body { D with nx := J } σ H') (h2 : k = false → ∀ H', Same H H' → wB X els { D with nx := J } σ H') (kk : ∀ σ' H', J σ' H' → wB X sts D σ' H') : wB X (.If c body els pos :: sts) D σ H :=
  b_if (wT_mono (hc H (.refl _)) fun k' H' ⟨s, q⟩ => by
    subst q
    cases k' with
    | true => rw [if_pos rfl]; exact wB_mono (h1 rfl H' s) kk (fun _ _ z => z) (fun _ _ z => z) fun _ _ z => z
    | false => rw [if_neg Bool.false_ne_true]; exact wB_mono (h2 rfl H' s) kk (fun _ _ z => z) (fun _ _ z => z) fun _ _ z => z)
/-- an if that isn't taken, no else -/
theorem b_ifF (hc : EvT X σ H c false) (h : ∀ H', Same H H' → wB X sts D σ H') : wB X (.If c body [] pos :: sts) D σ H := b_ifE hc (fun q => nomatch q) fun _ H' s => b_nil (h H' s)
theorem b_ifT (hc : EvT X σ H c true) (h : ∀ H', Same H H' → wB X body { D with nx := wB X sts D } σ H') : wB X (.If c body els pos :: sts) D σ H := b_ifE hc (fun _ => h) fun q => nomatch q
theorem b_exprE (he : wE X e σ H fun _ H' => wB X sts D σ H') (hs : swapsWith e none pos.line X.env = pure false := by rfl) : wB X (.Expr e pos :: sts) D σ H := b_cons (w_S (ps_expr pw_E hs) he)
/-! tests of and, or, not -/
theorem ew_or {k k' : Bool} (h : EvT X σ H a k) (h' : k = false → EvW X σ H (.BoolOp .Or (b :: es) p) k') : EvW X σ H (.BoolOp .Or (a :: b :: es) p) (k || k') := fun H1 s1 => w_W (pw_or pw_T pw_W) (wT_mono (h H1 s1) fun v H2 ⟨s2, q⟩ => by
  subst q
  cases v with
  | true => rw [if_pos rfl]; exact ⟨s2, rfl⟩
  | false => rw [if_neg Bool.false_ne_true]; exact wW_mono (h' rfl H2 (s1.trans s2)) fun v H3 ⟨s3, q⟩ => ⟨s2.trans s3, q⟩)
theorem ew_and {k k' : Bool} (h : EvT X σ H a k) (h' : k = true → EvW X σ H (.BoolOp .And (b :: es) p) k') : EvW X σ H (.BoolOp .And (a :: b :: es) p) (k && k') := fun H1 s1 => w_W (pw_and pw_T pw_W) (wT_mono (h H1 s1) fun v H2 ⟨s2, q⟩ => by
  subst q
  cases v with
  | true => rw [if_pos rfl]; exact wW_mono (h' rfl H2 (s1.trans s2)) fun v H3 ⟨s3, q⟩ => ⟨s2.trans s3, q⟩
  | false => rw [if_neg Bool.false_ne_true]; exact ⟨s2, rfl⟩)
/-- all are false: or -/
theorem ew_orF (h : EvT X σ H a false) (h' : EvW X σ H (.BoolOp .Or (b :: es) p) false) : EvW X σ H (.BoolOp .Or (a :: b :: es) p) false := ew_or h fun _ => h'
theorem et_not {k : Bool} (h : EvT X σ H a k) : EvT X σ H (.UnaryOp .Not a pos) (!k) := fun H1 s1 => w_T (pt_not pw_T) (wT_mono (h H1 s1) fun v H2 ⟨s2, q⟩ => ⟨s2, by rw [q]⟩)
theorem EvT.is {k k' : Bool} (h : EvT X σ H e k) (q : k = k') : EvT X σ H e k' := q ▸ h
theorem EvW.is {k k' : Bool} (h : EvW X σ H e k) (q : k = k') : EvW X σ H e k' := q ▸ h
/-! values of and, or -/
theorem ev_and1 {k : Bool} (h : Ev X σ H a (Is (.bl k))) : Ev X σ H (.BoolOp .And [a] p) (Is (.bl k)) := fun H1 s1 => w_E (pe_one pw_E) (h H1 s1)
theorem ev_or1 {k : Bool} (h : Ev X σ H a (Is (.bl k))) : Ev X σ H (.BoolOp .Or [a] p) (Is (.bl k)) := fun H1 s1 => w_E (pe_one pw_E) (h H1 s1)
theorem ev_and {k k' : Bool} (h : Ev X σ H a (Is (.bl k))) (h' : k = true → Ev X σ H (.BoolOp .And (b :: es) p) (Is (.bl k'))) : Ev X σ H (.BoolOp .And (a :: b :: es) p) (Is (.bl (k && k'))) := fun H1 s1 => w_E (pe_and pw_E pw_E) (wE_mono (h H1 s1) fun v H2 ⟨s2, q⟩ => ⟨k, q, by
  cases k with
  | true => rw [if_pos rfl]; exact wE_mono (h' rfl H2 (s1.trans s2)) fun v H3 ⟨s3, q⟩ => ⟨s2.trans s3, q⟩
  | false => rw [if_neg Bool.false_ne_true]; exact ⟨s2, rfl⟩⟩)
theorem ev_or {k k' : Bool} (h : Ev X σ H a (Is (.bl k))) (h' : k = false → Ev X σ H (.BoolOp .Or (b :: es) p) (Is (.bl k'))) : Ev X σ H (.BoolOp .Or (a :: b :: es) p) (Is (.bl (k || k'))) := fun H1 s1 => w_E (pe_or pw_E pw_E) (wE_mono (h H1 s1) fun v H2 ⟨s2, q⟩ => ⟨k, q, by
  cases k with
  | true => rw [if_pos rfl]; exact ⟨s2, rfl⟩
  | false => rw [if_neg Bool.false_ne_true]; exact wE_mono (h' rfl H2 (s1.trans s2)) fun v H3 ⟨s3, q⟩ => ⟨s2.trans s3, q⟩⟩)
theorem ev_not {k : Bool} (h : Ev X σ H a (Is (.bl k))) : Ev X σ H (.UnaryOp .Not a p) (Is (.bl (!k))) := fun H1 s1 => w_E (pe_not pw_E) (wE_mono (h H1 s1) fun v H2 ⟨s2, q⟩ => ⟨k, q, s2, rfl⟩)
theorem ev_if {k : Bool} (h : EvT X σ H c k) (h1 : k = true → Ev X σ H a P) (h2 : k = false → Ev X σ H b P) : Ev X σ H (.IfExp c a b p) P := fun H1 s1 => w_E (pe_ifExp pw_T pw_E pw_E) (wT_mono (h H1 s1) fun v H2 ⟨s2, q⟩ => by
  subst q
  cases v with
  | true => rw [if_pos rfl]; exact wE_mono (h1 rfl H2 (s1.trans s2)) fun v H3 ⟨s3, q⟩ => ⟨s2.trans s3, q⟩
  | false => rw [if_neg Bool.false_ne_true]; exact wE_mono (h2 rfl H2 (s1.trans s2)) fun v H3 ⟨s3, q⟩ => ⟨s2.trans s3, q⟩)
/-! tuples -/
def TupI (xs : List V) : Pd := fun v H => ∃ q, v = .ref q ∧ H q = some (.tup xs)
theorem mono_tup {xs : List V} : Mono (TupI xs) := fun v H H' s ⟨q, e, h⟩ => ⟨q, e, s _ _ h⟩
/-- a new tuple of values told by predicates -/
def TupP (Ps : List Pd) : Pd := fun v H => ∃ q xs, v = .ref q ∧ H q = some (.tup xs) ∧ Pws Ps xs H
theorem same_new {H : Hp} {q : Addr} {o : HO} (h : H q = none) : Same H (upd H q o) := fun b x e => by
  rw [upd_ne (ne_of_none e h)]
  exact e
def Monos : List Pd → Prop
  | [] => True
  | P :: Ps => Mono P ∧ Monos Ps
theorem Pws.mono : ∀ {Ps : List Pd} {vs : List V}, Monos Ps → Same H H' → Pws Ps vs H → Pws Ps vs H'
  | [], _, _, _, h => h
  | P :: Ps, vs, m, s, ⟨v, r, e, h, t⟩ => ⟨v, r, e, m.1 _ _ _ s h, Pws.mono m.2 s t⟩
theorem Pws.len : ∀ {Ps : List Pd} {vs : List V}, Pws Ps vs H → vs.length = Ps.length
  | [], _, h => by subst h; rfl
  | P :: Ps, vs, ⟨v, r, e, h, t⟩ => by subst e; rw [List.length_cons, Pws.len t]; rfl
theorem ev_tup {k : Nat} (h : EvA X σ H es Ps) (m : Monos Ps) (hl : Ps.length ≤ 1000) : Ev X σ H (.Tuple es k p) (TupP Ps) := ev_of (pe_tup pw_A) fun H1 s1 => wA_mono (h H1 s1) fun vs H2 ⟨s2, pv⟩ => ⟨by
  rw [pv.len]
  exact Nat.le_of_lt (small1000 hl), fun q hq => ⟨s2.trans (same_new hq), q, vs, rfl, upd_same, pv.mono m (same_new hq)⟩⟩
def isAll : List V → List Pd := List.map Is
theorem pws_is : ∀ {vs xs : List V}, Pws (isAll xs) vs H → vs = xs
  | vs, [], h => h
  | vs, x :: xs, ⟨v, r, e, h, t⟩ => by
    have h1 : v = x := h
    subst h1 e
    rw [pws_is (xs := xs) t]
theorem monos_is : ∀ {xs : List V}, Monos (isAll xs)
  | [] => True.intro
  | _ :: _ => ⟨mono_is, monos_is⟩
theorem ev_tupI {k : Nat} {xs : List V} (h : EvA X σ H es (isAll xs)) (hl : xs.length ≤ 1000) : Ev X σ H (.Tuple es k p) (TupI xs) := (ev_tup h monos_is (by unfold isAll; rw [List.length_map]; exact hl)).imp fun v H' _ ⟨q, ys, e, h1, h2⟩ => ⟨q, e, by rw [pws_is h2] at h1; exact h1⟩
/-! calls of defs -/
variable {k : Nat} {f : Addr} {fd : FuncData} {ps : List Str} {sp : Sp} {x : Str}
/-- a def of the module -/
structure GDef (X : Cx) (x : Str) (k : Nat) (f : Addr) (fd : FuncData) (ps : List Str) (sp : Sp) : Prop where
  ok : FnOk X.prog X.w X.K X.mg X.base CX0 k f fd ps sp
  room : Room k X.A
  gl : X.mg x = some (.ref f)
  kp : PySem.W.keepIn X.K (.ref f) = true
  bs : Binds X.K fd ps []
theorem ev_call {q : Pos} (g : GDef X x k f fd ps sp) (h : EvA X σ H (e :: es) Ps) (hsp : ∀ vs H2, Same H H2 → Pws Ps vs H2 → sp vs H2 (fun v H3 => Same H2 H3 ∧ P v H3) E0)
    (hm : ∀ vs H2 (Q Q' : VK), (∀ v H', Q v H' → Q' v H') → sp vs H2 Q E0 → sp vs H2 Q' E0) (hg : Gl X x := by rfl)
    (hdb : (x == ("__debug__" : Str)) = false := by decide) (he : starEach (e :: es) X.env = (false, eval e X.env) :: starEach es X.env := by rfl) (hpl : (backTo p (starEach es X.env)).any (·.1) = false := by rfl) :
    Ev X σ H (.Call (.Name x q) (e :: es) [] p) P := ev_of (pe_call g.ok g.room hg g.gl g.kp g.bs .nil pass0 pw_A hdb he hpl) fun H1 s1 => wA_mono (h H1 s1) fun vs H2 ⟨s2, pv⟩ => by
  rw [List.append_nil]
  exact hm _ _ _ _ (fun v H' ⟨s3, pv'⟩ => ⟨s2.trans s3, pv'⟩) (hsp vs H2 (s1.trans s2) pv)
end
end Cb

/-! fractions -/
namespace Cb
/-- what lowest hands back, the way Python reckons it -/
def lowS (o u : Int) : Int := if u < 0 then -((Nat.gcd o.natAbs u.natAbs : Nat) : Int) else ((Nat.gcd o.natAbs u.natAbs : Nat) : Int)
theorem low_pos {o u : Int} (h : 0 < u) : o / lowS o u = (Rat.divInt o u).num ∧ u / lowS o u = ((Rat.divInt o u).den : Int) := by
  unfold lowS
  rw [if_neg (by omega)]
  constructor
  · rw [Rat.num_divInt, Int.sign_eq_one_of_pos h, Int.one_mul, Int.gcd_comm]
    rfl
  · rw [Rat.den_divInt, if_neg (by omega), Int.gcd_comm]
    show u / ((Int.gcd o u : Nat) : Int) = _
    rw [Int.natCast_ediv]
    congr 1
    omega
theorem low_neg {o u : Int} (h : u < 0) : o.fdiv (lowS o u) = (Rat.divInt o u).num ∧ u.fdiv (lowS o u) = ((Rat.divInt o u).den : Int) := by
  unfold lowS
  rw [if_pos h]
  have g1 : ((Int.gcd o u : Nat) : Int) ∣ o := Int.gcd_dvd_left ..
  have g2 : ((Int.gcd o u : Nat) : Int) ∣ u := Int.gcd_dvd_right ..
  have e : ((Nat.gcd o.natAbs u.natAbs : Nat) : Int) = ((Int.gcd o u : Nat) : Int) := rfl
  rw [e]
  constructor
  · rw [Rat.num_divInt, Int.sign_eq_neg_one_of_neg h, Int.gcd_comm u o, Int.fdiv_eq_ediv_of_dvd (Int.neg_dvd.mpr g1), Int.ediv_neg, Int.neg_mul, Int.one_mul, Int.neg_ediv_of_dvd g1]
  · rw [Rat.den_divInt, if_neg (by omega), Int.gcd_comm u o, Int.fdiv_eq_ediv_of_dvd (Int.neg_dvd.mpr g2), Int.ediv_neg, Int.natCast_ediv, ← Int.neg_ediv_of_dvd g2]
    congr 1
    omega
theorem lowS_pos {o u : Int} (h : 0 < u) : 0 < lowS o u ∧ lowS o u ≤ u := by
  unfold lowS
  rw [if_neg (by omega)]
  have g : 0 < Nat.gcd o.natAbs u.natAbs := Nat.gcd_pos_of_pos_right _ (by omega)
  have l : Nat.gcd o.natAbs u.natAbs ≤ u.natAbs := Nat.gcd_le_right _ (by omega)
  omega
theorem lowS_neg {o u : Int} (h : u < 0) : lowS o u < 0 ∧ u ≤ lowS o u := by
  unfold lowS
  rw [if_pos h]
  have g : 0 < Nat.gcd o.natAbs u.natAbs := Nat.gcd_pos_of_pos_right _ (by omega)
  have l : Nat.gcd o.natAbs u.natAbs ≤ u.natAbs := Nat.gcd_le_right _ (by omega)
  omega
/-! sizes -/
def Bd (n : Nat) (r : Rat) : Prop := r.num.natAbs < 2 ^ n ∧ r.den < 2 ^ n
theorem Bd.mono {n m : Nat} {r : Rat} (h : Bd n r) (l : n ≤ m) : Bd m r := ⟨Nat.lt_of_lt_of_le h.1 (Nat.pow_le_pow_right (by decide) l), Nat.lt_of_lt_of_le h.2 (Nat.pow_le_pow_right (by decide) l)⟩
theorem bd_div {o u : Int} {n : Nat} (h : u ≠ 0) (ho : o.natAbs < 2 ^ n) (hu : u.natAbs < 2 ^ n) : Bd n (Rat.divInt o u) := by
  constructor
  · rw [Rat.num_divInt]
    refine Nat.lt_of_le_of_lt ?_ ho
    refine Nat.le_trans (Int.natAbs_ediv_le_natAbs _ _) ?_
    rw [Int.natAbs_mul]
    rcases Int.lt_or_lt_of_ne h with q | q
    · rw [Int.sign_eq_neg_one_of_neg q]; simp
    · rw [Int.sign_eq_one_of_pos q]; simp
  · rw [Rat.den_divInt, if_neg h]
    exact Nat.lt_of_le_of_lt (Nat.div_le_self _ _) hu
theorem den_pos (r : Rat) : (0 : Int) < (r.den : Int) := Int.natCast_pos.mpr r.den_pos
theorem lt_mul {a b : Int} {n m : Nat} (ha : a.natAbs < 2 ^ n) (hb : b.natAbs < 2 ^ m) : (a * b).natAbs < 2 ^ (n + m) := by
  rw [Int.natAbs_mul, Nat.pow_add]
  exact Nat.mul_lt_mul'' ha hb
theorem lt_add {a b : Int} {n : Nat} (ha : a.natAbs < 2 ^ n) (hb : b.natAbs < 2 ^ n) : (a + b).natAbs < 2 ^ (n + 1) := by
  have := Int.natAbs_add_le a b
  rw [Nat.pow_succ]
  omega
theorem lt_sub {a b : Int} {n : Nat} (ha : a.natAbs < 2 ^ n) (hb : b.natAbs < 2 ^ n) : (a - b).natAbs < 2 ^ (n + 1) := by
  have := Int.natAbs_sub_le a b
  rw [Nat.pow_succ]
  omega
theorem add_eq (r q : Rat) : Rat.divInt (r.num * q.den + q.num * r.den) (r.den * q.den : Int) = r + q := by
  rw [Rat.add_def', ← Rat.divInt_ofNat, Int.natCast_mul]
theorem sub_eq (r q : Rat) : Rat.divInt (r.num * q.den - q.num * r.den) (r.den * q.den : Int) = r - q := by
  rw [Rat.sub_def', ← Rat.divInt_ofNat, Int.natCast_mul]
theorem mul_eq (r q : Rat) : Rat.divInt (r.num * q.num) (r.den * q.den : Int) = r * q := by
  rw [Rat.mul_def', ← Rat.divInt_ofNat, Int.natCast_mul]
theorem neg_eq (r : Rat) : Rat.divInt (-r.num) (r.den : Int) = -r := by
  rw [← Rat.neg_divInt, Rat.num_divInt_den]
theorem div_one (o : Int) : Rat.divInt o 1 = (o : Rat) := by
  have h := Rat.num_divInt_den (o : Rat)
  rw [Rat.num_intCast, Rat.den_intCast] at h
  exact h
/-- -1, 0, 1 -/
def cmpR (r q : Rat) : Int := if r < q then -1 else if q < r then 1 else 0
end Cb

/-! built-ins, items, attributes -/
namespace Cb
open PySem PySem.Spec PyProof.Rows L2
section
variable {X : Cx} {e a b c : Expr} {es : List Expr} {σ : L2.St} {H H' : Hp} {pos pos' p p' q : Pos} {P Pa Pb : Pd} {Ps : List Pd} {x : Str} {id : String} {r : List V → Hp → VK → Prop}
def RMono (r : List V → Hp → VK → Prop) : Prop := ∀ vs H (Q Q' : VK), (∀ v H', Q v H' → Q' v H') → r vs H Q → r vs H Q'
theorem ev_cb (hc : CallR X (.builtin id) r) (hm : X.mg x = none) (hv : bootBuiltins x = some (.builtin id)) (h : EvA X σ H (e :: es) Ps) (hr : ∀ vs H2, Same H H2 → Pws Ps vs H2 → r vs H2 (fun v H3 => Same H2 H3 ∧ P v H3)) (mr : RMono r) (hg : Gl X x := by rfl)
    (hn : x ≠ "__name__" := by decide) (hdb : (x == ("__debug__" : Str)) = false := by decide) (he : starEach (e :: es) X.env = (false, eval e X.env) :: starEach es X.env := by rfl) (hpl : (backTo p (starEach es X.env)).any (·.1) = false := by rfl) : Ev X σ H (.Call (.Name x q) (e :: es) [] p) P :=
  ev_of (pe_callB hc hg hm hv pw_A hn hdb he hpl) fun H1 s1 => wA_mono (h H1 s1) fun vs H2 ⟨s2, pv⟩ => mr _ _ _ _ (fun v H' ⟨s3, pv'⟩ => ⟨s2.trans s3, pv'⟩) (hr vs H2 (s1.trans s2) pv)
theorem ev_cty {T : String} (hc : CallR X (.type T) r) (hm : X.mg x = none) (hv : bootBuiltins x = some (.type T)) (h : EvA X σ H (e :: es) Ps) (hr : ∀ vs H2, Same H H2 → Pws Ps vs H2 → r vs H2 (fun v H3 => Same H2 H3 ∧ P v H3)) (mr : RMono r) (hg : Gl X x := by rfl)
    (hn : x ≠ "__name__" := by decide) (hdb : (x == ("__debug__" : Str)) = false := by decide) (he : starEach (e :: es) X.env = (false, eval e X.env) :: starEach es X.env := by rfl) (hpl : (backTo p (starEach es X.env)).any (·.1) = false := by rfl) : Ev X σ H (.Call (.Name x q) (e :: es) [] p) P :=
  ev_of (pe_callTy hc hg hm hv pw_A hn hdb he hpl) fun H1 s1 => wA_mono (h H1 s1) fun vs H2 ⟨s2, pv⟩ => mr _ _ _ _ (fun v H' ⟨s3, pv'⟩ => ⟨s2.trans s3, pv'⟩) (hr vs H2 (s1.trans s2) pv)
theorem ev_cfun (hc : CallR X (.builtin id) r) (hm : X.mg x = some (.builtin id)) (h : EvA X σ H (e :: es) Ps) (hr : ∀ vs H2, Same H H2 → Pws Ps vs H2 → r vs H2 (fun v H3 => Same H2 H3 ∧ P v H3)) (mr : RMono r) (hg : Gl X x := by rfl)
    (hdb : (x == ("__debug__" : Str)) = false := by decide) (he : starEach (e :: es) X.env = (false, eval e X.env) :: starEach es X.env := by rfl) (hpl : (backTo p (starEach es X.env)).any (·.1) = false := by rfl) : Ev X σ H (.Call (.Name x q) (e :: es) [] p) P :=
  ev_of (pe_callBfun hc hg hm pw_A hdb he hpl) fun H1 s1 => wA_mono (h H1 s1) fun vs H2 ⟨s2, pv⟩ => mr _ _ _ _ (fun v H' ⟨s3, pv'⟩ => ⟨s2.trans s3, pv'⟩) (hr vs H2 (s1.trans s2) pv)
theorem ev_gcd {i j : Int} (hm : X.mg "gcd" = some (.builtin "math.gcd")) (h : EvA X σ H [a, b] [Is (.int i), Is (.int j)]) (hg : Gl X "gcd" := by rfl)
    (he : starEach [a, b] X.env = (false, eval a X.env) :: starEach [b] X.env := by rfl) (hpl : (backTo p (starEach [b] X.env)).any (·.1) = false := by rfl) : Ev X σ H (.Call (.Name "gcd" q) [a, b] [] p) (Is (.int ((Nat.gcd i.natAbs j.natAbs : Nat) : Int))) :=
  ev_cfun cr_gcd hm h (fun vs H2 _ ⟨v, r, e, h1, w, r2, e2, h2, h3⟩ => by
    have h1 : v = .int i := h1
    have h2 : w = .int j := h2
    have h3 : r2 = [] := h3
    subst h1 h2 h3 e2 e
    exact ⟨i, j, rfl, .refl _, rfl⟩) (fun vs H Q Q' k ⟨i, j, e, q⟩ => ⟨i, j, e, k _ _ q⟩) hg (by decide) he hpl
theorem ev_isi {t : Value} {T : String} {k : Bool} {P : Pd} (m : X.mg "isinstance" = none) (ha : Ev X σ H a P) (mP : Mono P) (hb : Ev X σ H b (Is (.ty T))) (ty : ∀ x H', P x H' → TyX X.K H' x t) (kk : PySem.W.kitOne X.K t (.type T) = some k) (hg : Gl X "isinstance" := by rfl)
    (h1 : starEach [a, b] X.env = (false, eval a X.env) :: starEach [b] X.env := by rfl) (h2 : starEach [b] X.env = (false, eval b X.env) :: starEach [] X.env := by rfl) (hpl : (backTo p (starEach [b] X.env)).any (·.1) = false := by rfl) : Ev X σ H (.Call (.Name "isinstance" q) [a, b] [] p) (Is (.bl k)) :=
  ev_of (pe_callB call_isi hg m (by decide +kernel) (pa_cons pw_E (pa_cons pw_E pa_nil h2) h1) (he := h1) (hpl := hpl)) fun H1 s1 => wE_mono (ha H1 s1) fun x H2 ⟨s2, px⟩ => wE_mono (hb H2 (s1.trans s2)) fun y H3 ⟨s3, py⟩ =>
    ⟨x, y, t, .type T, k, rfl, by cases py; exact .ty T, ty _ _ (mP _ _ _ s3 px), kk, s2.trans s3, rfl⟩
/-- isinstance(x, C), C an own class -/
theorem ev_isiC {C : Addr} {t : Value} {k : Bool} {P : Pd} (m : X.mg "isinstance" = none) (ha : Ev X σ H a P) (mP : Mono P) (hb : Ev X σ H b (Is (.ref C))) (ty : ∀ x H', P x H' → TyX X.K H' x t) (kk : PySem.W.kitOne X.K t (.ref C) = some k) (hg : Gl X "isinstance" := by rfl)
    (h1 : starEach [a, b] X.env = (false, eval a X.env) :: starEach [b] X.env := by rfl) (h2 : starEach [b] X.env = (false, eval b X.env) :: starEach [] X.env := by rfl) (hpl : (backTo p (starEach [b] X.env)).any (·.1) = false := by rfl) : Ev X σ H (.Call (.Name "isinstance" q) [a, b] [] p) (Is (.bl k)) :=
  ev_of (pe_callB call_isi hg m (by decide +kernel) (pa_cons pw_E (pa_cons pw_E pa_nil h2) h1) (he := h1) (hpl := hpl)) fun H1 s1 => wE_mono (ha H1 s1) fun x H2 ⟨s2, px⟩ => wE_mono (hb H2 (s1.trans s2)) fun y H3 ⟨s3, py⟩ =>
    ⟨x, y, t, .ref C, k, rfl, by cases py; exact .own C, ty _ _ (mP _ _ _ s3 px), kk, s2.trans s3, rfl⟩
/-! // of any kind -/
def CDivA (_ j : Int) : Prop := (0 < j ∧ j.natAbs.log2 < 9000) ∨ (j ≠ 0 ∧ j.natAbs < 1073741824)
theorem op_fdivA : OpR X (binaryOp .FloorDiv) (rI CDivA fun i j => .int (i.fdiv j)) := opI fun i j _ _ _ _ _ hc q => by
  rcases hc with hc | hc
  · exact floordiv_int (by omega) q (.inl (PyProof.noPylong_of_log2 hc.2))
  · exact floordiv_int hc.1 q (.inl (PyProof.noPylong_small hc.2))
/-! items of a tuple -/
theorem ev_ixT {xs : List V} {i : Int} {v : V} (ho : Ev X σ H a (TupI xs)) (hi : Ev X σ H b (Is (.int i))) (ha : atI xs i = some v) (hs : PlainIxT b := by exact fun _ _ => rfl) : Ev X σ H (.Subscript a b p) (Is v) :=
  ev_of (pe_ix ix_tup pw_E pw_E hs) fun H1 s1 => wE_mono (ho H1 s1) fun x H2 ⟨s2, q, ex, hq⟩ => wE_mono (hi H2 (s1.trans s2)) fun y H3 ⟨s3, py⟩ =>
    ⟨q, xs, i, v, ex, py, .of (s3 _ _ hq), ha, s2.trans s3, rfl⟩
/-! attributes -/
def Ins (C : Addr) (fs : List (Str × V)) : Pd := fun v H => ∃ a dx, v = .ref a ∧ H a = some (.ins C dx fs)
theorem mono_ins {C : Addr} {fs : List (Str × V)} : Mono (Ins C fs) := fun v H H' s ⟨a, dx, e, h⟩ => ⟨a, dx, e, s _ _ h⟩
theorem ev_fld {C : Addr} {fs : List (Str × V)} {f : Str} {v : V} (c : Cls X.K C) (n : NoAttr X.K C f) (ho : Ev X σ H a (Ins C fs)) (hl : fs.lookup f = some v) (hb : attributeBase a f X.env (eval a X.env) = eval a X.env := by rfl) : Ev X σ H (.Attribute a f p) (Is v) :=
  ev_of (pe_fld pw_E hb) fun H1 s1 => wE_mono (ho H1 s1) fun x H2 ⟨s2, q, dx, ex, hq⟩ => ⟨q, C, dx, fs, v, ex, hq, c, n, hl, s2, rfl⟩
/-! defs as conditions on the call -/
theorem EvA.one {v : V} (h : Ev X σ H e (Is v)) (hs : starEach [e] X.env = (false, eval e X.env) :: starEach [] X.env := by rfl) : EvA X σ H [e] (isAll [v]) := ea_cons h mono_is ea_nil hs
theorem ea_1 {P : Pd} (h : Ev X σ H a P) (m : Mono P) (hs : starEach [a] X.env = (false, eval a X.env) :: starEach [] X.env := by rfl) : EvA X σ H [a] [P] := ea_cons h m ea_nil hs
theorem ea_2 {P P' : Pd} (h : Ev X σ H a P) (m : Mono P) (h' : Ev X σ H b P') (m' : Mono P') (hs : starEach [a, b] X.env = (false, eval a X.env) :: starEach [b] X.env := by rfl) (hs' : starEach [b] X.env = (false, eval b X.env) :: starEach [] X.env := by rfl) : EvA X σ H [a, b] [P, P'] := ea_cons h m (ea_1 h' m' hs') hs
theorem ea_3 {P P' P'' : Pd} (h : Ev X σ H a P) (m : Mono P) (h' : Ev X σ H b P') (m' : Mono P') (h'' : Ev X σ H c P'') (m'' : Mono P'') (hs : starEach [a, b, c] X.env = (false, eval a X.env) :: starEach [b, c] X.env := by rfl) (hs' : starEach [b, c] X.env = (false, eval b X.env) :: starEach [c] X.env := by rfl)
    (hs'' : starEach [c] X.env = (false, eval c X.env) :: starEach [] X.env := by rfl) : EvA X σ H [a, b, c] [P, P', P''] := ea_cons h m (ea_2 h' m' h'' m'' hs' hs'') hs
theorem Pws.one {P : Pd} {vs : List V} (h : Pws [P] vs H) : ∃ v, vs = [v] ∧ P v H := by
  obtain ⟨v, r, rfl, h1, h2⟩ := h
  have h2 : r = [] := h2
  subst h2
  exact ⟨v, rfl, h1⟩
theorem Pws.two {P P' : Pd} {vs : List V} (h : Pws [P, P'] vs H) : ∃ v w, vs = [v, w] ∧ P v H ∧ P' w H := by
  obtain ⟨v, r, rfl, h1, h2⟩ := h
  obtain ⟨w, rfl, h3⟩ := h2.one
  exact ⟨v, w, rfl, h1, h3⟩
theorem Pws.three {P P' P'' : Pd} {vs : List V} (h : Pws [P, P', P''] vs H) : ∃ u v w, vs = [u, v, w] ∧ P u H ∧ P' v H ∧ P'' w H := by
  obtain ⟨v, r, rfl, h1, h2⟩ := h
  obtain ⟨u, w, rfl, h3, h4⟩ := h2.two
  exact ⟨v, u, w, rfl, h1, h3, h4⟩
/-- a promise that is monotone in what is wanted -/
def SpMono (sp : Sp) : Prop := ∀ vs H2 (Q Q' : VK), (∀ v H', Q v H' → Q' v H') → sp vs H2 Q E0 → sp vs H2 Q' E0
/-- pure promise: from the arguments (that A holds of them) a value of which R holds; A and R over a datum -/
def spP {α : Type} (A : α → List V → Hp → Prop) (R : α → Pd) : Sp := fun vs H Q _ => ∃ d : α, A d vs H ∧ ∀ v H', Same H H' → R d v H' → Q v H'
theorem spP_mono {α : Type} {A : α → List V → Hp → Prop} {R : α → Pd} : SpMono (spP A R) := fun vs H Q Q' k ⟨d, h, q⟩ => ⟨d, h, fun v H' s r => k _ _ (q v H' s r)⟩
theorem ev_callP {α : Type} {A : α → List V → Hp → Prop} {R : α → Pd} {k : Nat} {f : Addr} {fd : FuncData} {ps : List Str} (d : α) (g : GDef X x k f fd ps (spP A R)) (h : EvA X σ H (e :: es) Ps) (hA : ∀ vs H2, Same H H2 → Pws Ps vs H2 → A d vs H2) (hg : Gl X x := by rfl)
    (hdb : (x == ("__debug__" : Str)) = false := by decide) (he : starEach (e :: es) X.env = (false, eval e X.env) :: starEach es X.env := by rfl) (hpl : (backTo p (starEach es X.env)).any (·.1) = false := by rfl) :
    Ev X σ H (.Call (.Name x q) (e :: es) [] p) (R d) := ev_call g h (fun vs H2 s pv => ⟨d, hA vs H2 s pv, fun v H' s' r => ⟨s', r⟩⟩) spP_mono hg hdb he hpl
end
end Cb

/-! a dict of four texts; rules for dicts, lists -/
namespace Cb
open PySem PySem.Spec PyProof.Rows L2
abbrev Kc : Key := .inr "cells"
abbrev Kn : Key := .inr "next"
abbrev Kr : Key := .inr "rest"
abbrev Kd : Key := .inr "draws"
theorem kcn : ¬ Kc = Kn := by decide +kernel
theorem kcr : ¬ Kc = Kr := by decide +kernel
theorem kcd : ¬ Kc = Kd := by decide +kernel
theorem knr : ¬ Kn = Kr := by decide +kernel
theorem knd : ¬ Kn = Kd := by decide +kernel
theorem krd : ¬ Kr = Kd := by decide +kernel
theorem scn : ¬ (Str.ofString "cells" = Str.ofString "next") := by decide +kernel
theorem scr : ¬ (Str.ofString "cells" = Str.ofString "rest") := by decide +kernel
theorem scd : ¬ (Str.ofString "cells" = Str.ofString "draws") := by decide +kernel
theorem snc : ¬ (Str.ofString "next" = Str.ofString "cells") := by decide +kernel
theorem snr : ¬ (Str.ofString "next" = Str.ofString "rest") := by decide +kernel
theorem snd : ¬ (Str.ofString "next" = Str.ofString "draws") := by decide +kernel
theorem src : ¬ (Str.ofString "rest" = Str.ofString "cells") := by decide +kernel
theorem srn : ¬ (Str.ofString "rest" = Str.ofString "next") := by decide +kernel
theorem srd : ¬ (Str.ofString "rest" = Str.ofString "draws") := by decide +kernel
theorem sdc : ¬ (Str.ofString "draws" = Str.ofString "cells") := by decide +kernel
theorem sdn : ¬ (Str.ofString "draws" = Str.ofString "next") := by decide +kernel
theorem sdr : ¬ (Str.ofString "draws" = Str.ofString "rest") := by decide +kernel
def kv4 (c nx rs dr : V) : List (Key × V) := [(Kc, c), (Kn, nx), (Kr, rs), (Kd, dr)]
theorem kv4_c (c nx rs dr : V) : valV (kv4 c nx rs dr) Kc = some c := valV_pos rfl
theorem kv4_n (c nx rs dr : V) : valV (kv4 c nx rs dr) Kn = some nx := (valV_neg kcn).trans (valV_pos rfl)
theorem kv4_r (c nx rs dr : V) : valV (kv4 c nx rs dr) Kr = some rs := (valV_neg kcr).trans ((valV_neg knr).trans (valV_pos rfl))
theorem kv4_d (c nx rs dr : V) : valV (kv4 c nx rs dr) Kd = some dr := (valV_neg kcd).trans ((valV_neg knd).trans ((valV_neg krd).trans (valV_pos rfl)))
theorem kv4_putD (c nx rs dr z : V) : putK (kv4 c nx rs dr) Kd z = kv4 c nx rs z := by
  simp [putK, kv4, scn, scr, scd, snc, snr, snd, src, srn, srd, sdc, sdn, sdr]
theorem kv4_putR (c nx rs dr z : V) : putK (kv4 c nx rs dr) Kr z = kv4 c nx z dr := by
  simp [putK, kv4, scn, scr, scd, snc, snr, snd, src, srn, srd, sdc, sdn, sdr]
theorem kv4_putN (c nx rs dr z : V) : putK (kv4 c nx rs dr) Kn z = kv4 c z rs dr := by
  simp [putK, kv4, scn, scr, scd, snc, snr, snd, src, srn, srd, sdc, sdn, sdr]
theorem kv4_len (c nx rs dr : V) : (kv4 c nx rs dr).length < sizeLine := by
  show 4 < sizeLine
  decide
theorem kv4_merge (c nx rs dr : V) : mergeK [] (kv4 c nx rs dr) = kv4 c nx rs dr := by
  simp [mergeK, kv4, putK, scn, scr, scd, snc, snr, snd, src, srn, srd, sdc, sdn, sdr]
section
variable {X : Cx} {e a b c o i value : Expr} {es : List Expr} {sts : List Stmt} {σ : L2.St} {H H' : Hp} {pos pos' p p' : Pos} {D : Ends} {P Pa Pb : Pd}
theorem ev_dget {d : Addr} {kvs : List (Key × V)} {k : Key} {v : V} (hu : X.A.units + 1 < cLine) (ho : Ev X σ H o (Is (.ref d))) (hi : Ev X σ H i (Is (kV k))) (hd : H d = some (.dK kvs)) (hv : valV kvs k = some v) (hs : NoSl i := by exact fun _ _ => rfl) : Ev X σ H (.Subscript o i p) (Is v) :=
  ev_of (pe_dget hu pw_E pw_E hs) fun H1 s1 => wE_mono (ho H1 s1) fun x H2 ⟨s2, px⟩ => wE_mono (hi H2 (s1.trans s2)) fun y H3 ⟨s3, py⟩ => by
    cases px
    cases py
    refine ⟨d, v, rfl, ?_, s2.trans s3, rfl⟩
    rw [← hv]
    exact DGet.k (s3 _ _ (s2 _ _ (s1 _ _ hd)))
theorem b_dput {d : Addr} {kvs : List (Key × V)} {k : Key} {v : V} (hu : X.A.units + 1 < cLine) (hv : Ev X σ H value (Is v)) (ho : Ev X σ H o (Is (.ref d))) (hi : Ev X σ H i (Is (kV k))) (hd : H d = some (.dK kvs)) (hl : kvs.length < sizeLine)
    (kk : ∀ H', Same H H' → wB X sts D σ (upd H' d (.dK (putK kvs k v)))) (hs : swapsWith value (some (.Subscript o i pos')) pos.line X.env = pure false := by rfl) : wB X (.Assign [.Subscript o i pos'] value pos :: sts) D σ H :=
  b_cons (w_S (ps_dput hu pw_E pw_E pw_E hs) (wE_mono (hv H (.refl _)) fun z H1 ⟨s1, pz⟩ => wE_mono (ho H1 s1) fun x H2 ⟨s2, px⟩ => wE_mono (hi H2 (s1.trans s2)) fun y H3 ⟨s3, py⟩ => by
    cases pz
    cases px
    cases py
    have s := (s1.trans s2).trans s3
    exact ⟨d, _, rfl, DPut.k (s _ _ hd) hl, kk H3 s⟩))
/-- len of a tracked list -/
theorem ev_lenL {q : Addr} {xs : List V} (hm : X.mg "len" = none) (ha : Ev X σ H a (Is (.ref q))) (hq : H q = some (.lst xs)) (hg : Gl X "len" := by rfl) (hs : starEach [a] X.env = (false, eval a X.env) :: starEach [] X.env := by rfl) (hpl : (backTo p (starEach [] X.env)).any (·.1) = false := by rfl) : Ev X σ H (.Call (.Name "len" p') [a] [] p) (Is (.int (xs.length : Int))) :=
  ev_cb call_len hm PySem.boot_len (ea_1 ha mono_is hs) (fun vs H2 s h => by
    obtain ⟨v, rfl, e⟩ := h.one
    cases e
    exact ⟨_, _, rfl, .inl ⟨_, SqL.of (s _ _ hq), rfl⟩, .refl _, rfl⟩) (fun vs H2 Q Q' k ⟨x, n, e, h, q⟩ => ⟨x, n, e, h, k _ _ q⟩) hg (by decide) (by decide) hs hpl
theorem ev_ixL {q : Addr} {xs : List V} {j : Int} {v : V} (ho : Ev X σ H a (Is (.ref q))) (hi : Ev X σ H b (Is (.int j))) (hq : H q = some (.lst xs)) (ha : atI xs j = some v) (hs : PlainIxT b := by exact fun _ _ => rfl) : Ev X σ H (.Subscript a b p) (Is v) :=
  ev_of (pe_ix ix_list pw_E pw_E hs) fun H1 s1 => wE_mono (ho H1 s1) fun x H2 ⟨s2, ex⟩ => wE_mono (hi H2 (s1.trans s2)) fun y H3 ⟨s3, py⟩ => by
    cases ex
    cases py
    exact ⟨q, xs, j, v, rfl, rfl, .of (s3 _ _ (s2 _ _ (s1 _ _ hq))), ha, s2.trans s3, rfl⟩
/-- a new list -/
def LstI (xs : List V) : Pd := fun v H => ∃ q, v = .ref q ∧ H q = some (.lst xs)
theorem mono_lst {xs : List V} : Mono (LstI xs) := fun v H H' s ⟨q, e, h⟩ => ⟨q, e, s _ _ h⟩
theorem ev_lstI {xs : List V} (h : EvA X σ H es (isAll xs)) (hl : xs.length ≤ 1000) : Ev X σ H (.List es p) (LstI xs) := ev_of (pe_lst pw_A) fun H1 s1 => wA_mono (h H1 s1) fun vs H2 ⟨s2, pv⟩ => by
  rw [pws_is pv]
  exact ⟨Nat.le_of_lt (small1000 hl), fun q hq => ⟨s2.trans (same_new hq), q, rfl, upd_same⟩⟩
/-- == and != of data -/
theorem c_eqD {Pa Pb : Pd} {d e' : PyData} (hu : X.A.units + 64 < cLine) (ha : Ev X σ H a Pa) (hb : Ev X σ H b Pb) (ma : Mono Pa) (da : ∀ x H', Same H H' → Pa x H' → Dp X.K H' x d) (db : ∀ x H', Same H H' → Pb x H' → Dp X.K H' x e') (sd : SeqAt.shaped d = true) (se : SeqAt.shaped e' = true) (hm : behindInMarks .Eq b = false := by exact nomark _) : CC X σ H .Eq a b (.bl (PyData.eqv d e')) :=
  ⟨_, _, _, op_eqD hu, hm, ha, hb, ma, fun x y H2 s px py => ⟨d, e', da x H2 s px, db y H2 s py, sd, se, .refl _, rfl⟩, fun x y H2 Q Q' k ⟨d, e, h1, h2, h3, h4, q⟩ => ⟨d, e, h1, h2, h3, h4, k _ _ q⟩⟩
theorem c_neD {Pa Pb : Pd} {d e' : PyData} (hu : X.A.units + 64 < cLine) (ha : Ev X σ H a Pa) (hb : Ev X σ H b Pb) (ma : Mono Pa) (da : ∀ x H', Same H H' → Pa x H' → Dp X.K H' x d) (db : ∀ x H', Same H H' → Pb x H' → Dp X.K H' x e') (sd : SeqAt.shaped d = true) (se : SeqAt.shaped e' = true) (hm : behindInMarks .NotEq b = false := by exact nomark _) : CC X σ H .NotEq a b (.bl (!PyData.eqv d e')) :=
  ⟨_, _, _, op_neD hu, hm, ha, hb, ma, fun x y H2 s px py => ⟨d, e', da x H2 s px, db y H2 s py, sd, se, .refl _, rfl⟩, fun x y H2 Q Q' k ⟨d, e, h1, h2, h3, h4, q⟩ => ⟨d, e, h1, h2, h3, h4, k _ _ q⟩⟩
theorem dp_ints {K : PySem.W.Frag} {H : Hp} : ∀ ns : List Int, DpAll K H (ns.map V.int) (ns.map PyData.int)
  | [] => .nil
  | n :: ns => .cons (.int n) (dp_ints ns)
theorem eqv_nil (ns : List Int) : PyData.eqv (.list (ns.map PyData.int)) (.list []) = ns.isEmpty := by
  cases ns with
  | nil => rfl
  | cons n ns => rfl
theorem canLay_ints : ∀ ns : List Int, PyData.canLayAll0 (ns.map PyData.int) = true
  | [] => rfl
  | n :: ns => by
    show (PyData.canLay0 (.int n) && PyData.canLayAll0 (ns.map PyData.int)) = true
    rw [canLay_ints ns]
    rfl
theorem depth_ints : ∀ ns : List Int, PyData.depthAll (ns.map PyData.int) = 0
  | [] => rfl
  | n :: ns => by
    show max (PyData.depth (.int n)) (PyData.depthAll (ns.map PyData.int)) = 0
    rw [depth_ints ns]
    rfl
theorem shaped_ints (ns : List Int) : SeqAt.shaped (.list (ns.map PyData.int)) = true := by
  show (PyData.canLayAll0 (ns.map PyData.int) && decide (PyData.depthAll (ns.map PyData.int) + 1 ≤ 64)) = true
  rw [canLay_ints, depth_ints]
  rfl
end
end Cb

namespace Cb
open PySem PySem.Spec PyProof.Rows L2
/-! ### loops and comprehensions -/
section
variable {X : Cx} {e a b c : Expr} {es : List Expr} {σ : L2.St} {H H' : Hp} {p p' pos : Pos} {D : Ends} {P : Pd} {sts body : List Stmt} {tg iter : Expr}
theorem for_enum {K : PySem.W.Frag} {a : Addr} {xs : List V} {g : TG} {tb : TS} {D : Ends} {σ : L2.St} {H : Hp} (Pv : Nat → L2.St → Hp → Prop) (h0 : Pv 0 σ H) (hl : ∀ i σ H, i ≤ xs.length → Pv i σ H → SqL K H a xs)
    (hs : ∀ i x σ H T, xs[i]? = some x → Pv i σ H → H T = none → g (.ref T) σ (upd H T (.tup [.int (i : Nat), x])) fun σ2 H2 => tb { D with nx := Pv (i + 1), ct := Pv (i + 1), bk := D.nx } σ2 H2) (hd : ∀ σ H, Pv xs.length σ H → D.nx σ H) :
    ∃ W : Nat → Nat → L2.St → Hp → Prop, (∃ m, W 0 m σ H) ∧ ∀ i m σ H, W i m σ H →
      ((Ite K a).stop i H ∧ D.nx σ H) ∨ ((Ite K a).go i H ∧ ∃ N : L2.St → Hp → Prop, (∀ σ' H', N σ' H' → ∃ m', m' < m ∧ W (i + 1) m' σ' H') ∧ ∀ x H', (Ite K a).yld i H x H' → g x σ H' fun σ2 H2 => tb { D with nx := N, ct := N, bk := D.nx } σ2 H2) := by
  refine ⟨fun i m σ H => m = xs.length - i ∧ i ≤ xs.length ∧ Pv i σ H, ⟨xs.length, by simp, Nat.zero_le _, h0⟩, ?_⟩
  rintro i m σ H ⟨rfl, hi, p⟩
  have q := hl i σ H hi p
  by_cases hlt : i < xs.length
  · refine .inr ⟨⟨xs, xs[i], q, by simp [hlt]⟩, Pv (i + 1), fun σ' H' p' => ⟨xs.length - (i + 1), by omega, rfl, hlt, p'⟩, fun v H' y => ?_⟩
    obtain ⟨T, x, rfl, hT, rfl, y⟩ := y
    exact hs i x σ H T (y xs q) p hT
  · have e : i = xs.length := by omega
    subst e
    exact .inl ⟨⟨xs, q, Nat.le_refl _⟩, hd σ H p⟩
theorem b_for {wi : TI} {g : TG} (hc : X.calm = true) (hi : PI X tg iter wi) (hg : PG X tg g) (h : tFor wi g (wB X body) { D with nx := wB X sts D } σ H) (hp : PassesOwn (model X.prog X.w) X.A X.env X.xe)
    (hs : ∀ x, foldedSetIterable iter X.env x = pure x := by intro _; rfl) : wB X (.For tg iter body [] pos :: sts) D σ H := b_cons (w_S (ps_for hp hc hi hg pw_B hs) h)
/-- the element, the test of a comprehension -/
def wEb (X : Cx) (scope : Scope) (elt : Expr) : TE := fun σ H Q => ∀ (s : Shared) (H0 : Hp) (C : Addr) (cl : List (Str × Addr)) (fp : List Addr), wE (X.blk s H0 scope (compEnvC scope cl C X.env) fp) elt σ H Q
def wTb (X : Cx) (scope : Scope) (c : Expr) : TT := fun σ H Q => ∀ (s : Shared) (H0 : Hp) (C : Addr) (cl : List (Str × Addr)) (fp : List Addr), wT (X.blk s H0 scope (compEnvC scope cl C X.env) fp) c σ H Q
theorem pw_Eb {scope : Scope} {elt : Expr} (s : Shared) (H : Hp) (C : Addr) (cl : List (Str × Addr)) (fp : List Addr) : PE (X.blk s H scope (compEnvC scope cl C X.env) fp) elt (wEb X scope elt) := ⟨fun pins s1 σ H1 Q I h => wE.run (h s H C cl fp) pins s1 I⟩
theorem pw_Tb {scope : Scope} {c : Expr} (s : Shared) (H : Hp) (C : Addr) (cl : List (Str × Addr)) (fp : List Addr) : PTs (X.blk s H scope (compEnvC scope cl C X.env) fp) [c] (wTb X scope c) := pts_one ⟨fun pins s1 σ H1 Q I h => wT.run (h s H C cl fp) pins s1 I⟩
/-- an item of a tracked list, told by a predicate -/
theorem ev_ixLP {q : Addr} {xs : List V} {j : Nat} {v : V} (ho : Ev X σ H a (Is (.ref q))) (hi : Ev X σ H b (Is (.int (j : Int)))) (hq : H q = some (.lst xs)) (ha : xs[j]? = some v) (hP : P v H) (m : Mono P) (hs : PlainIxT b := by exact fun _ _ => rfl) : Ev X σ H (.Subscript a b p) P :=
  (ev_ixL ho hi hq (atI_nat ha) hs).imp fun w H' s e => by
    cases e
    exact m _ _ _ s hP
end
end Cb

/-! defs that run where no guard stands on the stack: so that repr of nested data can be asked -/
namespace Cb
open PySem PySem.Spec PyProof.Rows L2
structure FnG (P : Program) (w : World) (K : PySem.W.Frag) (mg : Str → Option Value) (base : Heap) (k : Nat) (f : Addr) (fd : FuncData) (ps : List Str) (sp : Sp) : Prop where
  arity : ∀ {vs H Q E}, sp vs H Q E → vs.length = ps.length
  go : ∀ {A : Around} {out : List Env} {st : Shared} {H : Hp} {ar : Args} {us : List Value} {vs : List V} {Q : VK} {E : XK}, A.guards = some [] → Room k A → Env0 P w K mg base A out st H →
    BindsTo st fd ar (ps.zip us) → Vals vs us → sp vs H Q E → codeAny (model P w) A (.call (.ref f) ar) (CR CX0 out P w H st Q E) st
section
variable {P : Program} {w : World} {K : PySem.W.Frag} {mg : Str → Option Value} {base : Heap} {k : Nat} {f : Addr} {fd : FuncData} {ps : List Str} {sp : Sp}
theorem FnG.of (F : FnOk P w K mg base CX0 k f fd ps sp) : FnG P w K mg base k f fd ps sp := ⟨fun h => F.len _ _ _ _ h, fun _ hr e b r h => F.run _ _ _ _ _ _ _ _ _ hr e b r h⟩
theorem guards_deeper {A : Around} {env : Env} (g : A.guards = some []) : (A.deeper env).guards = some [] := g
theorem okG {x qual : Str} {st : Stmt} {N : List Str} (F : Fun K x qual st f fd) (S : FnScope N ps (defScope st)) (ar : ∀ {vs H Q E}, sp vs H Q E → vs.length = ps.length)
    (body : ∀ (cdv : Value) (A : Around) (out : List Env) (s : Shared) (H : Hp) (vs : List V) (Q : VK) (E : XK), A.guards = some [] → Room k (A.deeper (envOfC qual (defScope st) s.heap.objs.size f cdv)) → sp vs H Q E →
      wB (cxOf CX0 P w K mg base N qual (defScope st) f cdv A out s H E).nox (defBody st) { nx := fun _ H' => Q .non H', rt := Q } (start N vs) H) : FnG P w K mg base (k + 1) f fd ps sp := by
  obtain ⟨oc, od, kV, doc, pm, an, cdv, ct, osl, rfl, look, isCode⟩ := F.ex
  refine ⟨ar, fun {A out s H ags us vs Q E} gd room ev bnd rel want => ?_⟩
  have inK : K.In s.heap := ev.mod.kin.keeps fun b o z => (ev.bs b o z).1
  have noLim : s.heap.NoLimit := ev.mod.nolimit.keeps fun b o z => (ev.bs b o z).1
  have kinds : ∀ y ∈ ps.zip us, (defScope st).names.lookup y.1 = some .local ∨ ((defScope st).names.lookup y.1 = some .cell ∧ ((cellsFrom (s.heap.objs.size + 1) (defScope st).names []).lookup y.1).isSome = true) := by
    rintro ⟨n, v⟩ hy
    cases S.par n (List.of_mem_zip hy).1 with
    | inl q => exact .inl q
    | inr q => exact .inr ⟨q, PySem.W.cellsFrom_some _ _ _ (.inl q)⟩
  apply codeAny_call_function (o := ⟨oc, od, .func _, osl⟩) room.depth (inK _ _ look) rfl S.co S.gen rfl (PySem.W.codeRec_of inK isCode)
  apply bnd
  apply wpAny_newFunctionEnv_cells S.kind kinds
  intro env he s1 x
  subst he
  refine ⟨noLim.keeps x.toInCall.keep, codeAny_func ?_⟩
  have J := inv_start (CX := CX0) (N := N) (E := E) S room.hd ev (ar want) rel x
  have main := PSs.nox (st := defBody st) (X := cxOf CX0 P w K mg base N qual (defScope st) f cdv A out s H E) pw_B
  refine wpAny_mono (main.run [] s1 _ H _ J (body cdv A out s H vs Q E gd (room.deeper _) want)) (fun fl s' z => ?_) (fun e s' z => z)
  match fl, z with
  | .ret u, ⟨v, _, H', I', rv, q⟩ => exact ⟨v, H', I'.os, I'.bare, I'.base, I'.hok, rv, q⟩
  | .next, ⟨_, H', I', q⟩ => exact ⟨.non, H', I'.os, I'.bare, I'.base, I'.hok, rfl, q⟩
  | .brk, ⟨_, _, _, q⟩ => exact q.elim
  | .cont, ⟨_, _, _, q⟩ => exact q.elim
end
section
variable {X : Cx} {k : Nat} {f : Addr} {fd : FuncData} {ps : List Str} {sp : Sp} {x : Str} {p pos : Pos} {e : Expr} {es : List Expr} {σ : L2.St} {H : Hp} {Ps : List Pd} {P : Pd}
/-- a def of the module, called where no guard stands -/
structure GDefG (X : Cx) (x : Str) (k : Nat) (f : Addr) (fd : FuncData) (ps : List Str) (sp : Sp) : Prop where
  ok : FnG X.prog X.w X.K X.mg X.base k f fd ps sp
  gd : X.A.guards = some []
  room : Room k X.A
  gl : X.mg x = some (.ref f)
  kp : PySem.W.keepIn X.K (.ref f) = true
  bs : Binds X.K fd ps []
theorem runG {pins : List (Addr × Obj)} {s : Shared} {Q : VK} {us : List Value} {vs : List V} (g : GDefG X x k f fd ps sp) (I : Inv X pins σ H s) (r : Vals vs us) (h : sp vs H Q E0) : wpAny (model X.prog X.w) X.A (call (.ref f) us) (EP X pins σ Q) X.xe s := by
  have bnd := g.bs s us I.kIn (by rw [List.append_nil, ← r.length]; exact g.ok.arity h)
  rw [List.append_nil] at bnd
  refine wpAny_call (codeAny_mono (g.ok.go g.gd g.room I.env0 bnd r h) ?_)
  rintro (z | fl) s' q
  · exact False.elim q
  · match fl, q with
    | .ret u, q => exact I.after q
theorem w_callG {Q : VK} (g : GDefG X x k f fd ps sp) (h : wA X (e :: es) σ H fun vs H1 => sp vs H1 Q E0) (hg : Gl X x := by rfl)
    (hdb : (x == ("__debug__" : Str)) = false := by decide) (he : starEach (e :: es) X.env = (false, eval e X.env) :: starEach es X.env := by rfl) (hpl : (backTo pos (starEach es X.env)).any (·.1) = false := by rfl) : wE X (.Call (.Name x p) (e :: es) [] pos) σ H Q := by
  refine wE_i fun pins s I => ?_
  apply wpAny_Call_Name_kw
  apply ld_glob I hg g.gl _ hdb
  apply PySem.W.callWith_K (h₀ := X.base) I.ok.mod.kin g.kp _ he hpl
  exact thn (wA.run h _ pins s I) fun us s1 ⟨vs, H1, I1, r, q⟩ => ⟨I1.kIn, runG g I1 r q⟩
/-! ### repr of data -/
def rReprD (K : PySem.W.Frag) : List V → Hp → VK → Prop := fun vs H Q => ∃ (a : Addr) (d : PyData), vs = [.ref a] ∧ Dp K H (.ref a) d ∧ d.showable = true ∧ d.hasDict = false ∧ d.depth ≤ 60 ∧ d.shown.length ≤ sizeLine ∧ Q (.str d.shown) H
theorem call_reprD (gd : X.A.guards = some []) (hu : X.A.units + 64 < cLine) : CallR X (.builtin "repr") (rReprD X.K) := by
  rintro pins s σ H xs us Q I rv ⟨a, d, rfl, hd, hs, hn, hp, hz, q⟩
  cases rv with
  | cons r rest =>
    cases rest
    obtain ⟨as, r1⟩ := Dp.reads I d _ _ hd r
    obtain rfl := r
    exact repr_of_reads' r1 hs (fun z => by rw [hn] at z; cases z) gd (by omega) (fun _ _ z => z) (fun h' u tk kp => ⟨.str d.shown, H, I.kept kp, ⟨u, rfl⟩, q⟩) hz
theorem ev_repr {d : PyData} (gd : X.A.guards = some []) (hu : X.A.units + 64 < cLine) (hm : X.mg "repr" = none) (ha : Ev X σ H e P) (mP : Mono P) (hd : ∀ v H', Same H H' → P v H' → Dp X.K H' v d ∧ ∃ a, v = .ref a) (hs : d.showable = true) (hn : d.hasDict = false) (hp : d.depth ≤ 60) (hz : d.shown.length ≤ sizeLine)
    (hg : Gl X "repr" := by rfl) (he : starEach [e] X.env = (false, eval e X.env) :: starEach [] X.env := by rfl) (hpl : (backTo pos (starEach [] X.env)).any (·.1) = false := by rfl) : Ev X σ H (.Call (.Name "repr" p) [e] [] pos) (Is (.str d.shown)) :=
  ev_cb (call_reprD gd hu) hm (by decide +kernel) (ea_1 ha mP he) (fun vs H2 s pv => by
    obtain ⟨v, rfl, h⟩ := pv.one
    obtain ⟨h1, a, rfl⟩ := hd v H2 s h
    exact ⟨a, d, rfl, h1, hs, hn, hp, hz, .refl _, rfl⟩) (fun vs H Q Q' kk ⟨a, d, h1, h2, h3, h4, h5, h6, q⟩ => ⟨a, d, h1, h2, h3, h4, h5, h6, kk _ _ q⟩) hg (by decide) (by decide) he hpl
end
end Cb

/-! from the promise of the law's def, made where no guard stands, to the walk -/
namespace Cb
open PySem PySem.Spec PyProof.Rows L2
section
variable {P : Program} {w : World} {K : PySem.W.Frag} {mg mb : Str → Option Value} {k : Nat} {fa a : Addr} {fd : FuncData} {x : Str} {sp : Sp} {s : Shared} {vs : List Value} {ns : List Int}
/-- nothing is tracked, or the script alone; then the module's names are as they were in the heap without it -/
theorem modG {H : Hp} (KX : K.In s.heap) (hns : s.heap.Ns mainGlobals mg) (hb : s.heap.Ns builtinsNs mb) (hbb : ∀ x : Str, x ≠ "__name__" → mb x = bootBuiltins x) (hlim : s.heap.NoLimit)
    (ha : s.heap.get? a = some { cls := .type "list", data := .seq vs.toArray }) (only : ∀ b, b ≠ a → H b = none) (out : H a ≠ none → K.lookup a = none) : L2.Mod K mg (hidT s.heap H) := by
  have stays : ∀ {b : Addr} {m : Str → Option Value}, s.heap.Ns b m → (hidT s.heap H).Ns b m := by
    rintro b m ⟨o, es, ep, e, d, r⟩
    refine ⟨o, es, ep, hidT_get e (only b ?_), d, r⟩
    rintro rfl
    rw [ha] at e
    cases e
    have d' : Data.seq vs.toArray _ = Data.dict es ep := d
    cases d'
  refine ⟨fun b o e => hidT_get (KX b o e) ?_, stays hns, ⟨mb, stays hb, hbb⟩, ?_⟩
  · by_cases hba : b = a
    · cases q : H b with
      | none => rfl
      | some u =>
        have := out (by rw [← hba, q]; simp)
        rw [hba, this] at e
        cases e
    · exact only b hba
  · obtain ⟨mc, h1, h2⟩ := hlim
    exact ⟨mc, stays h1, h2⟩
theorem coreG {H : Hp} (KX : K.In s.heap) (hns : s.heap.Ns mainGlobals mg) (hb : s.heap.Ns builtinsNs mb) (hbb : ∀ x : Str, x ≠ "__name__" → mb x = bootBuiltins x) (hlim : s.heap.NoLimit) (hg : s.gens = #[])
    (ha : s.heap.get? a = some { cls := .type "list", data := .seq vs.toArray }) (only : ∀ b, b ≠ a → H b = none) (out : H a ≠ none → K.lookup a = none) (fz : ∀ o, H a = some o → ∃ u xs, o = .frz u (.lst xs)) (hok : HOk P w H s.heap) (hr : Room k callerA)
    (F : ∀ base : Heap, K.In base → base.Ns mainGlobals mg → FnG P w K mg base k fa fd [x] sp) (bnd : ∀ (s : Shared) (u : Value), BindsTo s fd ⟨[u], []⟩ [(x, u)]) (want : sp [.ref a] H (fun v _ => v = .bl true) E0) :
    codeAny (model P w) callerA (.call (.ref fa) ⟨[.ref a], []⟩) (fun r s' => r = .ok (.ret (.bool true)) ∧ OldK s.heap s'.heap ∧ s'.os = s.os ∧ AllBare s'.gens) s := by
  have M := modG KX hns hb hbb hlim ha only out
  have ev : Env0 P w K mg (hidT s.heap H) callerA [] s H := { frames := rfl, mod := M, bs := fun b o e => of_hidT e, bsz := Nat.le_of_eq (hidT_size _ _), funs := trivial, frf := (fun b hb => by cases hb), hok := hok, bare := .of_eq hg }
  refine codeAny_mono ((F _ M.kin M.glob).go (us := [.ref a]) rfl hr ev (bnd s _) (.cons (show RelV (V.ref a) (Value.ref a) from rfl) .nil) want) ?_
  rintro (e | fl) s' q
  · exact False.elim q
  · match fl, q with
    | .ret u, ⟨v, H', os, bare, un, hok', rel, q⟩ =>
      have q : v = .bl true := q
      subst q
      obtain rfl : u = Value.bool true := rel
      refine ⟨rfl, OldK.of_keep fun b o e => ?_, os, bare⟩
      cases z : H b with
      | none => exact un.keep b o e z (fun t => by cases t) (fun t => by cases t)
      | some u =>
        have hba : b = a := Decidable.byContradiction fun n => by
          rw [only b n] at z
          cases z
        subst hba
        obtain ⟨ob, xs, rfl⟩ := fz u z
        have z1 := (hok b _ z).1
        have z2 := (hok' b _ (un.frzs b ob _ z)).1
        rw [e] at z1
        cases z1
        exact z2
theorem callG (KX : K.In s.heap) (hns : s.heap.Ns mainGlobals mg) (hb : s.heap.Ns builtinsNs mb) (hbb : ∀ x : Str, x ≠ "__name__" → mb x = bootBuiltins x) (hlim : s.heap.NoLimit) (hg : s.gens = #[])
    (ha : s.heap.get? a = some { cls := .type "list", data := .seq vs.toArray }) (hi : IntsAre vs ns) (hl : ns.length ≤ sizeLine) (hr : Room k callerA)
    (F : ∀ base : Heap, K.In base → base.Ns mainGlobals mg → FnG P w K mg base k fa fd [x] sp) (bnd : ∀ (s : Shared) (u : Value), BindsTo s fd ⟨[u], []⟩ [(x, u)])
    (want : ∀ H : Hp, SqL K H a (ns.map V.int) → sp [.ref a] H (fun v _ => v = .bl true) E0) :
    codeAny (model P w) callerA (.call (.ref fa) ⟨[.ref a], []⟩) (fun r s' => r = .ok (.ret (.bool true)) ∧ OldK s.heap s'.heap ∧ s'.os = s.os ∧ AllBare s'.gens) s := by
  have rel := vals_ints hi
  have len := hi.length
  cases q : K.lookup a with
  | some o =>
    have e := KX a o q
    rw [ha] at e
    cases e
    refine coreG (H := fun _ => none) KX hns hb hbb hlim hg ha (fun _ _ => rfl) (fun z => absurd rfl z) (fun o z => by cases z) (fun b u z => by
      have z : (none : Option HO) = some u := z
      cases z) hr F bnd (want _ (.inr ⟨_, vs.toArray, _, q, rfl, rfl, rfl, ?_, ?_⟩))
    · rw [List.size_toArray, len]
      exact hl
    · simpa using rel
  | none =>
    let H : Hp := fun b => if b = a then some (.frz { cls := .type "list", data := .seq vs.toArray } (.lst (ns.map V.int))) else none
    have Ha : H a = some (.frz { cls := .type "list", data := .seq vs.toArray } (.lst (ns.map V.int))) := if_pos rfl
    refine coreG (H := H) KX hns hb hbb hlim hg ha (fun b n => if_neg n) (fun _ => q) (fun o z => ?_) (fun b u z => ?_) hr F bnd (want _ (.inl (.inr ⟨_, Ha⟩)))
    · rw [Ha] at z
      cases z
      exact ⟨_, _, rfl⟩
    · by_cases hba : b = a
      · subst hba
        rw [Ha] at z
        cases z
        refine ⟨ha, ?_, vs, _, rel, ha⟩
        rw [List.length_map]
        exact hl
      · rw [show H b = none from if_neg hba] at z
        cases z
end
theorem walkG {l : PySem.W.OpenLaw} {n k : Nat} {q : Program} {loose : List Str} {XP : (Str → Option Value) → Heap → Prop} {YP : World → Heap → Prop} {d : DefRec} {K : Params → PySem.W.Frag} {sp : World → Sp} {x : Str}
    (hn : l.most = some n) (hn2 : n ≤ sizeLine) (hdf : d.params.defaults = []) (hr : Room k callerA) (hY : ∀ (w : World) (h : Heap), YP w h → (K w.params).In h)
    (F : ∀ (w : World) (mg : Str → Option Value) (fa : Addr) (h : Heap), (K w.params).In h → h.Ns mainGlobals mg → mg d.name = some (.ref fa) →
      ∃ fd : FuncData, (∀ (s : Shared) (u : Value), BindsTo s fd ⟨[u], []⟩ [(x, u)]) ∧ ∀ base : Heap, (K w.params).In base → base.Ns mainGlobals mg → FnG l.prog w (K w.params) mg base k fa fd [x] (sp w))
    (want : ∀ (w : World) (H : Hp) (a : Addr) (ns : List Int), ns.length ≤ n → SqL (K w.params) H a (ns.map V.int) → sp w [.ref a] H (fun v _ => v = .bl true) E0) : PySem.W.WalkO q loose XP YP l.row.toRowW d [] (fun f vs => PySem.call f vs) := by
  apply Att.attach_call hn hdf
  intro w s₀ s₁ mg mb fa o pm cd doc a vs ns G Y ho hd hcd hmg hobj hints hlen hg
  have KX := hY w _ Y
  obtain ⟨fd, bnd, hF⟩ := F w mg fa _ KX G.T.g hmg
  exact callG KX G.T.g G.T.b G.T.builtins G.T.nolimit hg hobj hints (Nat.le_trans hlen hn2) hr hF bnd fun H hS => want w H a ns hlen hS
end Cb

/-! nested tuples as data -/
namespace Cb
open PySem PySem.Spec PyProof.Rows L2
mutual
/-- v stands for the datum, all its tuples are new ones -/
def Td (H : Hp) : PyData → V → Prop
  | .none, v => v = .non
  | .bool b, v => v = .bl b
  | .int i, v => v = .int i
  | .str x, v => v = .str x
  | .tuple ds, v => ∃ a xs, v = .ref a ∧ H a = some (.tup xs) ∧ Tds H ds xs
  | .list _, _ => False
  | .dict _, _ => False
def Tds (H : Hp) : List PyData → List V → Prop
  | [], xs => xs = []
  | d :: ds, xs => ∃ v r, xs = v :: r ∧ Td H d v ∧ Tds H ds r
end
/-- tuples stay -/
def TupK (H H' : Hp) : Prop := ∀ a xs, H a = some (.tup xs) → H' a = some (.tup xs)
theorem TupK.refl {H : Hp} : TupK H H := fun _ _ h => h
theorem TupK.of {H H' : Hp} (s : Same H H') : TupK H H' := fun _ _ h => s _ _ h
theorem TupK.trans {H H1 H2 : Hp} (a : TupK H H1) (b : TupK H1 H2) : TupK H H2 := fun _ _ h => b _ _ (a _ _ h)
theorem TupK.put {H : Hp} {S : Addr} {o : HO} (h : ∀ xs, H S ≠ some (.tup xs)) : TupK H (upd H S o) := fun a xs e => by
  by_cases q : a = S
  · rw [q] at e
    exact absurd e (h xs)
  · rw [upd_ne q]
    exact e
theorem TupK.app {H : Hp} {S : Addr} {us : List V} {o : HO} (h : H S = some (.lst us)) : TupK H (upd H S o) := .put fun xs e => by
  rw [h] at e
  cases e
mutual
theorem Td.keep {H H' : Hp} (k : TupK H H') : ∀ (d : PyData) (v : V), Td H d v → Td H' d v
  | .none, v, h => by simpa only [Td] using h
  | .bool b, v, h => by simpa only [Td] using h
  | .int i, v, h => by simpa only [Td] using h
  | .str x, v, h => by simpa only [Td] using h
  | .tuple ds, v, h => by
    simp only [Td] at h ⊢
    obtain ⟨a, xs, e, h1, h2⟩ := h
    exact ⟨a, xs, e, k _ _ h1, Tds.keep k ds xs h2⟩
  | .list ds, v, h => by simp only [Td] at h
  | .dict ds, v, h => by simp only [Td] at h
theorem Tds.keep {H H' : Hp} (k : TupK H H') : ∀ (ds : List PyData) (xs : List V), Tds H ds xs → Tds H' ds xs
  | [], xs, h => by simpa only [Tds] using h
  | d :: ds, xs, h => by
    simp only [Tds] at h ⊢
    obtain ⟨v, r, e, h1, h2⟩ := h
    exact ⟨v, r, e, Td.keep k d v h1, Tds.keep k ds r h2⟩
end
mutual
theorem Td.dp {K : PySem.W.Frag} {H : Hp} : ∀ (d : PyData) (v : V), Td H d v → Dp K H v d
  | .none, v, h => by simp only [Td] at h; subst h; exact .non
  | .bool b, v, h => by simp only [Td] at h; subst h; exact .bl b
  | .int i, v, h => by simp only [Td] at h; subst h; exact .int i
  | .str x, v, h => by simp only [Td] at h; subst h; exact .str x
  | .tuple ds, v, h => by
    simp only [Td] at h
    obtain ⟨a, xs, e, h1, h2⟩ := h
    subst e
    exact .tup (.of h1) (Tds.dp ds xs h2)
  | .list ds, v, h => by simp only [Td] at h
  | .dict ds, v, h => by simp only [Td] at h
theorem Tds.dp {K : PySem.W.Frag} {H : Hp} : ∀ (ds : List PyData) (xs : List V), Tds H ds xs → DpAll K H xs ds
  | [], xs, h => by simp only [Tds] at h; subst h; exact .nil
  | d :: ds, xs, h => by
    simp only [Tds] at h
    obtain ⟨v, r, e, h1, h2⟩ := h
    subst e
    exact .cons (Td.dp d v h1) (Tds.dp ds r h2)
end
section
variable {H H' : Hp} {ds : List PyData} {xs : List V} {d : PyData} {v : V}
theorem Td.un (h : Td H (.tuple ds) v) : ∃ a xs, v = .ref a ∧ H a = some (.tup xs) ∧ Tds H ds xs := by simpa only [Td] using h
theorem Td.mk {a : Addr} (h : H a = some (.tup xs)) (t : Tds H ds xs) : Td H (.tuple ds) (.ref a) := by
  simp only [Td]
  exact ⟨a, xs, rfl, h, t⟩
theorem Td.int {i : Int} (h : Td H (.int i) v) : v = .int i := by simpa only [Td] using h
theorem Td.bool {b : Bool} (h : Td H (.bool b) v) : v = .bl b := by simpa only [Td] using h
theorem Td.str {x : Str} (h : Td H (.str x) v) : v = .str x := by simpa only [Td] using h
theorem td_int {i : Int} : Td H (.int i) (.int i) := by simp only [Td]
theorem td_bool {b : Bool} : Td H (.bool b) (.bl b) := by simp only [Td]
theorem td_str {x : Str} : Td H (.str x) (.str x) := by simp only [Td]
theorem Tds.nil : Tds H [] [] := by simp only [Tds]
theorem Tds.cons (h : Td H d v) (t : Tds H ds xs) : Tds H (d :: ds) (v :: xs) := by
  simp only [Tds]
  exact ⟨v, xs, rfl, h, t⟩
theorem Tds.un (h : Tds H (d :: ds) xs) : ∃ v r, xs = v :: r ∧ Td H d v ∧ Tds H ds r := by simpa only [Tds] using h
theorem Tds.nil' (h : Tds H [] xs) : xs = [] := by simpa only [Tds] using h
theorem Tds.len : ∀ {ds : List PyData} {xs : List V}, Tds H ds xs → xs.length = ds.length
  | [], xs, h => by rw [h.nil']; rfl
  | d :: ds, xs, h => by
    obtain ⟨v, r, rfl, _, t⟩ := h.un
    rw [List.length_cons, t.len]
    rfl
theorem Tds.at : ∀ {ds : List PyData} {xs : List V} {j : Nat} {d : PyData}, Tds H ds xs → ds[j]? = some d → ∃ v, xs[j]? = some v ∧ Td H d v
  | [], xs, j, d, h, e => by simp at e
  | c :: ds, xs, j, d, h, e => by
    obtain ⟨v, r, rfl, h1, t⟩ := h.un
    cases j with
    | zero =>
      have e : c = d := by simpa using e
      subst e
      exact ⟨v, rfl, h1⟩
    | succ j => exact t.at (by simpa using e)
theorem Tds.at' {j : Nat} {v : V} (h : Tds H ds xs) (e : xs[j]? = some v) : ∃ d, ds[j]? = some d ∧ Td H d v := by
  have hj : j < ds.length := by
    rw [← h.len]
    exact (List.getElem?_eq_some_iff.mp e).1
  obtain ⟨w, h1, h2⟩ := h.at (List.getElem?_eq_getElem hj)
  rw [e] at h1
  cases h1
  exact ⟨_, List.getElem?_eq_getElem hj, h2⟩
theorem Tds.app : ∀ {ds es : List PyData} {xs ys : List V}, Tds H ds xs → Tds H es ys → Tds H (ds ++ es) (xs ++ ys)
  | [], es, xs, ys, h, t => by
    rw [h.nil']
    exact t
  | d :: ds, es, xs, ys, h, t => by
    obtain ⟨v, r, rfl, h1, h2⟩ := h.un
    exact .cons h1 (h2.app t)
theorem Tds.snoc (h : Tds H ds xs) (t : Td H d v) : Tds H (ds ++ [d]) (xs ++ [v]) := h.app (.cons t .nil)
theorem Tds.drop : ∀ (n : Nat) {ds : List PyData} {xs : List V}, Tds H ds xs → Tds H (ds.drop n) (xs.drop n)
  | 0, ds, xs, h => h
  | n + 1, [], xs, h => by
    rw [h.nil']
    exact .nil
  | n + 1, d :: ds, xs, h => by
    obtain ⟨v, r, rfl, h1, h2⟩ := h.un
    exact Tds.drop n h2
theorem Tds.take : ∀ (n : Nat) {ds : List PyData} {xs : List V}, Tds H ds xs → Tds H (ds.take n) (xs.take n)
  | 0, ds, xs, h => .nil
  | n + 1, [], xs, h => by
    rw [h.nil']
    exact .nil
  | n + 1, d :: ds, xs, h => by
    obtain ⟨v, r, rfl, h1, h2⟩ := h.un
    exact .cons h1 (Tds.take n h2)
theorem Tds.eraseIdx : ∀ (n : Nat) {ds : List PyData} {xs : List V}, Tds H ds xs → Tds H (ds.eraseIdx n) (xs.eraseIdx n)
  | n, [], xs, h => by
    rw [h.nil']
    exact .nil
  | 0, d :: ds, xs, h => by
    obtain ⟨v, r, rfl, h1, h2⟩ := h.un
    exact h2
  | n + 1, d :: ds, xs, h => by
    obtain ⟨v, r, rfl, h1, h2⟩ := h.un
    exact .cons h1 (Tds.eraseIdx n h2)
theorem tds_strs : ∀ (ys : List Str), Tds H (ys.map PyData.str) (ys.map V.str)
  | [] => .nil
  | y :: ys => .cons td_str (tds_strs ys)
theorem Tds.strs : ∀ {ys : List Str} {xs : List V}, Tds H (ys.map PyData.str) xs → xs = ys.map V.str
  | [], xs, h => h.nil'
  | y :: ys, xs, h => by
    obtain ⟨v, r, rfl, h1, h2⟩ := h.un
    rw [h1.str, h2.strs]
    rfl
end
def Da (d : PyData) : Pd := fun v H => Td H d v
/-- a tracked list of data -/
def LstD (ds : List PyData) : Pd := fun v H => ∃ a xs, v = .ref a ∧ H a = some (.lst xs) ∧ Tds H ds xs
theorem mono_da {d : PyData} : Mono (Da d) := fun v H H' s h => Td.keep (.of s) d v h
theorem mono_lstD {ds : List PyData} : Mono (LstD ds) := fun v H H' s ⟨a, xs, e, h, t⟩ => ⟨a, xs, e, s _ _ h, Tds.keep (.of s) ds xs t⟩
theorem da_int {i : Int} : Da (.int i) = Is (.int i) := by
  funext v H
  simp only [Da, Td, Is]
theorem da_bool {b : Bool} : Da (.bool b) = Is (.bl b) := by
  funext v H
  simp only [Da, Td, Is]
theorem da_str {x : Str} : Da (.str x) = Is (.str x) := by
  funext v H
  simp only [Da, Td, Is]
theorem pws_da : ∀ {ds : List PyData} {xs : List V} {H : Hp}, Pws (ds.map Da) xs H → Tds H ds xs
  | [], xs, H, h => by
    rw [show xs = [] from h]
    exact .nil
  | d :: ds, xs, H, ⟨v, r, e, h1, h2⟩ => by
    subst e
    exact .cons h1 (pws_da h2)
theorem monos_da : ∀ {ds : List PyData}, Monos (ds.map Da)
  | [] => True.intro
  | _ :: _ => ⟨mono_da, monos_da⟩
section
variable {X : Cx} {e a b c : Expr} {es : List Expr} {σ : L2.St} {H H' : Hp} {pos pos' p p' q : Pos} {P : Pd} {ds : List PyData} {d : PyData} {i : Int} {j : Nat}
theorem Ev.int (h : Ev X σ H e (Is (.int i))) : Ev X σ H e (Da (.int i)) := by rw [da_int]; exact h
theorem Ev.bool {k : Bool} (h : Ev X σ H e (Is (.bl k))) : Ev X σ H e (Da (.bool k)) := by rw [da_bool]; exact h
theorem Ev.str {x : Str} (h : Ev X σ H e (Is (.str x))) : Ev X σ H e (Da (.str x)) := by rw [da_str]; exact h
theorem Ev.ofInt (h : Ev X σ H e (Da (.int i))) : Ev X σ H e (Is (.int i)) := by rw [← da_int]; exact h
theorem Ev.ofBool {k : Bool} (h : Ev X σ H e (Da (.bool k))) : Ev X σ H e (Is (.bl k)) := by rw [← da_bool]; exact h
theorem Ev.ofStr {x : Str} (h : Ev X σ H e (Da (.str x))) : Ev X σ H e (Is (.str x)) := by rw [← da_str]; exact h
theorem ed_nil : EvA X σ H [] (([] : List PyData).map Da) := ea_nil
theorem ed_cons (h : Ev X σ H e (Da d)) (t : EvA X σ H es (ds.map Da)) (hs : starEach (e :: es) X.env = (false, eval e X.env) :: starEach es X.env := by rfl) : EvA X σ H (e :: es) ((d :: ds).map Da) := ea_cons h mono_da t hs
theorem ev_tupD {k : Nat} (h : EvA X σ H es (ds.map Da)) (hl : ds.length ≤ 1000) : Ev X σ H (.Tuple es k p) (Da (.tuple ds)) := (ev_tup h monos_da (by rw [List.length_map]; exact hl)).imp fun v H' _ ⟨q, xs, e, h1, h2⟩ => by
  subst e
  exact .mk h1 (pws_da h2)
theorem ev_lstD (h : EvA X σ H es (ds.map Da)) (hl : ds.length ≤ 1000) : Ev X σ H (.List es p) (LstD ds) := ev_of (pe_lst pw_A) fun H1 s1 => wA_mono (h H1 s1) fun vs H2 ⟨s2, pv⟩ => by
  have t := pws_da pv
  refine ⟨?_, fun q hq => ⟨s2.trans (same_new hq), q, vs, rfl, upd_same, Tds.keep (.of (same_new hq)) _ _ t⟩⟩
  rw [t.len]
  exact Nat.le_of_lt (small1000 hl)
theorem ev_ixD (ho : Ev X σ H a (Da (.tuple ds))) (hi : Ev X σ H b (Is (.int (j : Int)))) (hd : ds[j]? = some d) (hs : PlainIxT b := by exact fun _ _ => rfl) : Ev X σ H (.Subscript a b p) (Da d) :=
  ev_of (pe_ix ix_tup pw_E pw_E hs) fun H1 s1 => wE_mono (ho H1 s1) fun x H2 ⟨s2, px⟩ => wE_mono (hi H2 (s1.trans s2)) fun y H3 ⟨s3, py⟩ => by
    obtain ⟨q, xs, rfl, hq, t⟩ := px.un
    obtain ⟨v, h1, h2⟩ := t.at hd
    exact ⟨q, xs, j, v, rfl, py, .of (s3 _ _ hq), atI_nat h1, s2.trans s3, Td.keep (.of s3) _ _ h2⟩
theorem ev_ixLD (ho : Ev X σ H a (LstD ds)) (hi : Ev X σ H b (Is (.int (j : Int)))) (hd : ds[j]? = some d) (hs : PlainIxT b := by exact fun _ _ => rfl) : Ev X σ H (.Subscript a b p) (Da d) :=
  ev_of (pe_ix ix_list pw_E pw_E hs) fun H1 s1 => wE_mono (ho H1 s1) fun x H2 ⟨s2, q, xs, ex, hq, t⟩ => wE_mono (hi H2 (s1.trans s2)) fun y H3 ⟨s3, py⟩ => by
    subst ex
    obtain ⟨v, h1, h2⟩ := t.at hd
    exact ⟨q, xs, j, v, rfl, py, .of (s3 _ _ hq), atI_nat h1, s2.trans s3, Td.keep (.of s3) _ _ h2⟩
theorem ev_lenT (hm : X.mg "len" = none) (ha : Ev X σ H a (Da (.tuple ds))) (hg : Gl X "len" := by rfl) (hs : starEach [a] X.env = (false, eval a X.env) :: starEach [] X.env := by rfl) (hpl : (backTo p (starEach [] X.env)).any (·.1) = false := by rfl) : Ev X σ H (.Call (.Name "len" p') [a] [] p) (Is (.int (ds.length : Int))) :=
  ev_cb call_len hm PySem.boot_len (ea_1 ha mono_da hs) (fun vs H2 s h => by
    obtain ⟨v, rfl, e⟩ := h.one
    obtain ⟨q, xs, rfl, hq, t⟩ := e.un
    refine ⟨_, xs.length, rfl, ?_, .refl _, by rw [t.len]; rfl⟩
    first
    | exact .inr (.inl ⟨_, SqT.of hq, rfl⟩)
    | exact .inr ⟨_, SqT.of hq, rfl⟩) (fun vs H2 Q Q' k ⟨x, n, e, h, q⟩ => ⟨x, n, e, h, k _ _ q⟩) hg (by decide) (by decide) hs hpl
theorem ev_lenLD (hm : X.mg "len" = none) (ha : Ev X σ H a (LstD ds)) (hg : Gl X "len" := by rfl) (hs : starEach [a] X.env = (false, eval a X.env) :: starEach [] X.env := by rfl) (hpl : (backTo p (starEach [] X.env)).any (·.1) = false := by rfl) : Ev X σ H (.Call (.Name "len" p') [a] [] p) (Is (.int (ds.length : Int))) :=
  ev_cb call_len hm PySem.boot_len (ea_1 ha mono_lstD hs) (fun vs H2 s h => by
    obtain ⟨v, rfl, q, xs, rfl, hq, t⟩ := h.one
    exact ⟨_, xs.length, rfl, .inl ⟨_, SqL.of hq, rfl⟩, .refl _, by rw [t.len]; rfl⟩) (fun vs H2 Q Q' k ⟨x, n, e, h, q⟩ => ⟨x, n, e, h, k _ _ q⟩) hg (by decide) (by decide) hs hpl
/-- tuple(list) -/
theorem ev_tupleL (hm : X.mg "tuple" = none) (ha : Ev X σ H a (LstD ds)) (hg : Gl X "tuple" := by rfl) (hs : starEach [a] X.env = (false, eval a X.env) :: starEach [] X.env := by rfl) (hpl : (backTo p (starEach [] X.env)).any (·.1) = false := by rfl) : Ev X σ H (.Call (.Name "tuple" p') [a] [] p) (Da (.tuple ds)) :=
  ev_cty call_tuple_of hm (by decide +kernel) (ea_1 ha mono_lstD hs) (fun vs H2 s h => by
    obtain ⟨v, rfl, q, xs, rfl, hq, t⟩ := h.one
    exact ⟨q, xs, rfl, .inl ⟨SqL.of hq, fun l hl => ⟨same_new hl, .mk upd_same (Tds.keep (.of (same_new hl)) _ _ t)⟩⟩⟩) (fun vs H2 Q Q' k ⟨p, ys, e, h⟩ => ⟨p, ys, e, h.elim (fun ⟨h1, h2⟩ => .inl ⟨h1, fun l hl => k _ _ (h2 l hl)⟩) fun ⟨h1, h2⟩ => .inr ⟨h1, k _ _ h2⟩⟩) hg (by decide) (by decide) hs hpl
end
end Cb

/-! comprehensions over data, repr, unpacking, slices -/
namespace Cb
open PySem PySem.Spec PyProof.Rows L2
theorem wipeD {σ : L2.St} {x : V} {i : Nat} : wipe ((wipe σ [i]).set i (some x)) [i] = wipe σ [i] := by
  show ((σ.set i none).set i (some x)).set i none = σ.set i none
  rw [List.set_set, List.set_set]
theorem take_snoc {α : Type} {l : List α} {k : Nat} {a : α} (h : l[k]? = some a) : l.take (k + 1) = l.take k ++ [a] := by
  obtain ⟨hk, e⟩ := List.getElem?_eq_some_iff.mp h
  rw [← e, List.take_succ_eq_append_getElem hk]
section
variable {X : Cx} {e a b c : Expr} {es : List Expr} {σ : L2.St} {H H' : Hp} {pos pos' p p' q : Pos} {P : Pd} {ds : List PyData} {d : PyData} {i : Nat} {j : Nat} {sts : List Stmt} {D : Ends}
theorem ev_lcT {elt iter : Expr} {x : Str} {xp : Pos} {scope : Scope} {f : PyData → PyData} (hc : X.calm = true) (nd : X.N.Nodup) (ok : BlkOk X.N X.env.scope scope [(x, i)])
    (hg : ∀ (s : Shared) (H : Hp) (C : Addr) (cl : List (Str × Addr)) (fp : List Addr), PG (X.blk s H scope (compEnvC scope cl C X.env) fp) (.Name x xp) (gName i)) (hi : Ev X σ H iter (Da (.tuple ds))) (hl : ds.length ≤ 1000)
    (he : ∀ (k : Nat) d v H', ds[k]? = some d → Same H H' → Td H' d v → ∀ (s : Shared) (H0 : Hp) (C : Addr) (cl : List (Str × Addr)) (fp : List Addr), Ev (X.blk s H0 scope (compEnvC scope cl C X.env) fp) ((wipe σ [i]).set i (some v)) H' elt (Da (f d)))
    (hs : ∀ x, foldedSetIterable iter X.env x = pure x := by intro _; rfl) : Ev X σ H (.ListComp elt [⟨.Name x xp, iter, [], 0⟩] scope pos) (LstD (ds.map f)) := fun H1 s1 =>
  w_E (pe_lc (own := [(x, i)]) (g := gName i) (tt := tYes) hc nd (pi_tup pw_E) ok hg (fun _ _ _ _ _ => pts_nil) pw_Eb hs) (wE_mono (hi H1 s1) fun v H2 ⟨s2, pv⟩ => by
    obtain ⟨q, xs, rfl, hq, t⟩ := pv.un
    refine ⟨q, rfl, ⟨xs, .of hq⟩, fun M hM => lc_tup (K := X.K) (a := q) (xs := xs) (fun k H => Same H2 H ∧ ∃ acc, H M = some (.lst acc) ∧ acc.length = k ∧ Tds H ((ds.take k).map f) acc) ?_ (fun k H _ h => .of (h.1 _ _ hq)) ?_ ?_⟩
    · exact ⟨same_new hM, [], upd_same, rfl, .nil⟩
    · rintro k y H3 hy ⟨s3, acc, hm, hk, ht⟩
      obtain ⟨d, hd, td⟩ := t.at' hy
      refine ⟨wipeD, ?_⟩
      unfold tYes
      dsimp only
      rw [if_pos rfl]
      intro s' H0 C' cl' fp'
      have hk2 : k < ds.length := (List.getElem?_eq_some_iff.mp hd).1
      refine wE_mono (he k d y H3 hd ((s1.trans s2).trans s3) (Td.keep (.of s3) _ _ td) s' H0 C' cl' fp' H3 (.refl _)) fun z H4 ⟨s4, pz⟩ => ?_
      have hm4 := s4 _ _ hm
      refine ⟨acc, hm4, by rw [hk]; exact small1000 (by omega), fun b o e => ?_, acc ++ [z], upd_same, by rw [List.length_append, hk]; rfl, ?_⟩
      · rw [upd_ne (ne_of_none e hM)]
        exact s4 _ _ (s3 _ _ e)
      · rw [take_snoc hd, List.map_append]
        have kp : TupK H4 (upd H4 M (.lst (acc ++ [z]))) := .app hm4
        exact (Tds.keep ((TupK.of s4).trans kp) _ _ ht).snoc (Td.keep kp _ _ pz)
    · rintro H3 ⟨s3, acc, hm, hk, ht⟩
      rw [t.len, List.take_length] at ht
      exact ⟨s2.trans s3, M, acc, rfl, hm, ht⟩)
theorem ev_lcL {elt iter : Expr} {x : Str} {xp : Pos} {scope : Scope} {f : PyData → PyData} (hc : X.calm = true) (nd : X.N.Nodup) (ok : BlkOk X.N X.env.scope scope [(x, i)])
    (hg : ∀ (s : Shared) (H : Hp) (C : Addr) (cl : List (Str × Addr)) (fp : List Addr), PG (X.blk s H scope (compEnvC scope cl C X.env) fp) (.Name x xp) (gName i)) (hi : Ev X σ H iter (LstD ds)) (hl : ds.length ≤ 1000)
    (he : ∀ (k : Nat) d v H', ds[k]? = some d → Same H H' → Td H' d v → ∀ (s : Shared) (H0 : Hp) (C : Addr) (cl : List (Str × Addr)) (fp : List Addr), Ev (X.blk s H0 scope (compEnvC scope cl C X.env) fp) ((wipe σ [i]).set i (some v)) H' elt (Da (f d)))
    (hs : ∀ x, foldedSetIterable iter X.env x = pure x := by intro _; rfl) : Ev X σ H (.ListComp elt [⟨.Name x xp, iter, [], 0⟩] scope pos) (LstD (ds.map f)) := fun H1 s1 =>
  w_E (pe_lc (own := [(x, i)]) (g := gName i) (tt := tYes) hc nd (pi_list pw_E) ok hg (fun _ _ _ _ _ => pts_nil) pw_Eb hs) (wE_mono (hi H1 s1) fun v H2 ⟨s2, q, xs, ev, hq, t⟩ => by
    subst ev
    refine ⟨q, rfl, ⟨xs, .of hq⟩, fun M hM => lc_list (K := X.K) (a := q) (xs := xs) (fun k H => Same H2 H ∧ ∃ acc, H M = some (.lst acc) ∧ acc.length = k ∧ Tds H ((ds.take k).map f) acc) ?_ (fun k H _ h => .of (h.1 _ _ hq)) ?_ ?_⟩
    · exact ⟨same_new hM, [], upd_same, rfl, .nil⟩
    · rintro k y H3 hy ⟨s3, acc, hm, hk, ht⟩
      obtain ⟨d, hd, td⟩ := t.at' hy
      refine ⟨wipeD, ?_⟩
      unfold tYes
      dsimp only
      rw [if_pos rfl]
      intro s' H0 C' cl' fp'
      have hk2 : k < ds.length := (List.getElem?_eq_some_iff.mp hd).1
      refine wE_mono (he k d y H3 hd ((s1.trans s2).trans s3) (Td.keep (.of s3) _ _ td) s' H0 C' cl' fp' H3 (.refl _)) fun z H4 ⟨s4, pz⟩ => ?_
      have hm4 := s4 _ _ hm
      refine ⟨acc, hm4, by rw [hk]; exact small1000 (by omega), fun b o e => ?_, acc ++ [z], upd_same, by rw [List.length_append, hk]; rfl, ?_⟩
      · rw [upd_ne (ne_of_none e hM)]
        exact s4 _ _ (s3 _ _ e)
      · rw [take_snoc hd, List.map_append]
        have kp : TupK H4 (upd H4 M (.lst (acc ++ [z]))) := .app hm4
        exact (Tds.keep ((TupK.of s4).trans kp) _ _ ht).snoc (Td.keep kp _ _ pz)
    · rintro H3 ⟨s3, acc, hm, hk, ht⟩
      rw [t.len, List.take_length] at ht
      exact ⟨s2.trans s3, M, acc, rfl, hm, ht⟩)
/-- repr of nested tuples -/
theorem ev_reprT (gd : X.A.guards = some []) (hu : X.A.units + 64 < cLine) (hm : X.mg "repr" = none) (ha : Ev X σ H e (Da (.tuple ds))) (hs : (PyData.tuple ds).showable = true) (hn : (PyData.tuple ds).hasDict = false) (hp : (PyData.tuple ds).depth ≤ 60) (hz : (PyData.tuple ds).shown.length ≤ sizeLine)
    (hg : Gl X "repr" := by rfl) (he : starEach [e] X.env = (false, eval e X.env) :: starEach [] X.env := by rfl) (hpl : (backTo pos (starEach [] X.env)).any (·.1) = false := by rfl) : Ev X σ H (.Call (.Name "repr" p) [e] [] pos) (Is (.str (PyData.tuple ds).shown)) :=
  ev_repr gd hu hm ha mono_da (fun v H' _ h => ⟨Td.dp _ _ h, let ⟨a, _, ea, _⟩ := Td.un h; ⟨a, ea⟩⟩) hs hn hp hz hg he hpl
/-! slices of tuples -/
theorem cut_slice {α : Type} {l : List α} {i k : Nat} : (l.drop (min i l.length)).take (min k l.length - min i l.length) = (l.drop i).take (k - i) := by
  by_cases h1 : i ≤ l.length
  · rw [Nat.min_eq_left h1]
    by_cases h2 : k ≤ l.length
    · rw [Nat.min_eq_left h2]
    · rw [Nat.min_eq_right (by omega), List.take_of_length_le (by rw [List.length_drop]; omega), List.take_of_length_le (by rw [List.length_drop]; omega)]
  · rw [List.drop_eq_nil_of_le (i := i) (by omega), List.drop_eq_nil_of_le (by omega)]
    simp
end
end Cb

/-! enumerate over a tuple -/
namespace Cb
open PySem PySem.Spec PyProof.Rows L2
open PySem.Sem (wp)
set_option maxHeartbeats 4000000 in
theorem meets_enumT (a : Addr) (items : Array Value) :
    Meets (Builtin.«enumerate.__new__» ⟨[.type "enumerate", .ref a], []⟩) (fun _ R st => st.heap.IsTuple a items ∧
      R (.ok (.ret (.ref (st.heap.push { cls := .type "tuple_iterator", data := .fields #[.ref a, .int 0 0] }).objs.size)))
        { st with heap := (st.heap.push { cls := .type "tuple_iterator", data := .fields #[.ref a, .int 0 0] }).push { cls := .type "enumerate", data := .fields #[.none, .bool false, .ref st.heap.objs.size, rawInt 0, .none, .none] } }) :=
  .of_wp fun prog w A R st hh => by
    obtain ⟨hp, gs, dr, tk, os⟩ := st
    obtain ⟨isT, hR⟩ := hh
    have hsub := sub_enumerate
    have go : ∀ {A' : Around} {E : Value → Shared → Prop} {Q : Value → Shared → Prop}, Q (.ref hp.objs.size) ⟨hp.push { cls := .type "tuple_iterator", data := .fields #[.ref a, .int 0 0] }, gs, dr, tk, os⟩ → wpAny (model prog w) A' (pyIter (.ref a)) Q E ⟨hp, gs, dr, tk, os⟩ :=
      fun q => wpAny_pyIter_tuple isT q
    wp_walk using go
    refine wpAny_stack_any fun stk => wpAny_pure ?_
    split
    · rename_i c _ _ _ _ _
      cases (c == Value.type "enumerate") <;>
      · wp_walk using go
        exact ⟨_, rfl, hR⟩
    · wp_walk using go
      exact ⟨_, rfl, hR⟩
theorem call_enumT {prog : Program} {w : World} {A : Around} {E : Value → Shared → Prop} {s : Shared} {a : Addr} {items : Array Value} {Q : Value → Shared → Prop} (isT : s.heap.IsTuple a items)
    (k : ∀ h', IsEnum h' (s.heap.objs.size + 1) s.heap.objs.size 0 .none → h'.IsTupleIter s.heap.objs.size a 0 → (∀ b o, s.heap.get? b = some o → h'.get? b = some o) → Q (.ref (s.heap.objs.size + 1)) { s with heap := h' }) :
    wpAny (model prog w) A (call (.type "enumerate") [.ref a]) Q E s := by
  refine callType_new F.called_enumerate (by decide) (F.typeCall_enumerate_1 _) (F.newCall_enumerate_1 _) (fun obj => F.args_object_init_2 obj _) F.entry_enumerate_new (meets_enumT a items) ⟨isT, ?_⟩
  have size1 : (s.heap.push { cls := .type "tuple_iterator", data := .fields #[.ref a, .int 0 0] }).objs.size = s.heap.objs.size + 1 := Heap.size_push ..
  show _ ∧ _
  rw [size1]
  have isE : IsEnum ((s.heap.push { cls := .type "tuple_iterator", data := .fields #[.ref a, .int 0 0] }).push { cls := .type "enumerate", data := .fields #[.none, .bool false, .ref s.heap.objs.size, rawInt 0, .none, .none] }) (s.heap.objs.size + 1) s.heap.objs.size 0 .none := by
    have z := Heap.get?_push_size (s.heap.push { cls := .type "tuple_iterator", data := .fields #[.ref a, .int 0 0] }) (o := { cls := .type "enumerate", data := .fields #[.none, .bool false, .ref s.heap.objs.size, rawInt 0, .none, .none] }) rfl
    rw [size1] at z
    exact z
  exact ⟨⟨_, isE, rfl⟩, k _ isE ⟨_, Heap.get?_push_of_some _ (Heap.get?_push_size _ rfl), rfl, rfl⟩ fun b o x => Heap.get?_push_of_some _ (Heap.get?_push_of_some _ x)⟩
/-- the tuple at a, each item in a new pair -/
def IteT (K : PySem.W.Frag) (a : Addr) : It where
  go := fun i H => ∃ (xs : List V) (x : V), SqT K H a xs ∧ xs[i]? = some x
  yld := fun i H v H' => ∃ T x, v = .ref T ∧ H T = none ∧ H' = upd H T (.tup [.int (i : Nat), x]) ∧ ∀ xs, SqT K H a xs → xs[i]? = some x
  stop := fun i H => ∃ xs : List V, SqT K H a xs ∧ xs.length ≤ i
theorem turn_enumT {P : Program} {w : World} {K : PySem.W.Frag} {elts : List Expr} {kk : Nat} {tpos : Pos} (a en it : Addr) :
    Turn P w K (.Tuple elts kk tpos) (IteT K a) [en, it] en (fun i h => (∃ old, IsEnum h en it ((i : Nat) : Int) old) ∧ h.IsTupleIter it a i ∧ en ≠ it) where
  mem := List.mem_cons_self ..
  obj := fun i h ⟨⟨old, isE⟩, ⟨o, ho, _, hd⟩, _⟩ b hb => by
    rcases List.mem_cons.mp hb with q | q
    · rw [q]
      exact ⟨_, isE, fun v z => by cases z⟩
    · rw [List.mem_singleton.mp q]
      exact ⟨o, ho, fun v z => by rw [hd] at z; cases z⟩
  keep := fun i h h' ⟨⟨old, isE⟩, isI, ne⟩ kp => ⟨⟨old, kp en (by simp) _ isE⟩, isI.at fun o z => kp it (by simp) o z, ne⟩
  item := by
    rintro X rfl rfl rfl calm i pins s σ H E I free ⟨⟨old, isE⟩, isI, ne⟩ ⟨xs, x, hq, hx⟩
    obtain ⟨its, rv, isT, hz⟩ := I.tuple hq
    obtain ⟨u, hu, ru⟩ := rv.get hx
    have hlt : i < its.toArray.size := by
      have := (List.getElem?_eq_some_iff.mp hu).1
      simpa using this
    have nea : a ≠ en := fun q => by
      obtain ⟨o, ho, hc, _⟩ := isT
      rw [q, isE] at ho
      cases ho
      injection hc with z
      exact absurd z (by decide)
    have nit : a ≠ it := fun q => by
      obtain ⟨o, ho, hc, _⟩ := isT
      obtain ⟨o2, ho2, hc2, _⟩ := isI
      rw [q, ho2] at ho
      cases ho
      rw [hc2] at hc
      injection hc with z
      exact absurd z (by decide)
    have le1 : en < s.heap.objs.size := Heap.lt_size isE
    have le2 : it < s.heap.objs.size := by
      obtain ⟨_, z, _⟩ := isI
      exact Heap.lt_size z
    refine wpAny_pyNext_enum_itemD (Draws.tuple (A := X.A.in1) (show X.A.in1.handled = none from I.ok.hd calm) it a nit its.toArray) isE ⟨isI, isT⟩ hlt ne (fun q => by
      rcases List.mem_cons.mp q with q | q
      · exact ne q
      · exact nea (List.mem_singleton.mp q).symm) fun y h1 tk hy out st hT _ kp => ?_
    have hy' : y = u := by
      rw [List.getElem?_toArray, hu] at hy
      cases hy
      rfl
    subst hy'
    refine ⟨_, rfl, wpAny_letOwnedTupleGo_enum (s := { s with heap := h1, toks := tk + 1 }) out fun h2 isE2 same => ?_⟩
    have hT2 : h2.get? s.heap.objs.size = some { cls := .type "tuple", data := .seq #[.int i tk, y] } := (same.2 _ (Nat.ne_of_gt le1)).trans hT
    have fresh : ObjOk X.prog X.w (upd H s.heap.objs.size (.tup [.int (i : Nat), x])) h2 s.heap.objs.size (.tup [.int (i : Nat), x]) := ⟨by show 2 ≤ sizeLine; decide, [.int i tk, y], .cons ⟨_, rfl⟩ (.cons ru .nil), ⟨_, hT2, rfl, _, rfl⟩⟩
    have J : Inv X pins σ (upd H s.heap.objs.size (.tup [.int (i : Nat), x])) { s with heap := h2, toks := tk + 1 } :=
      I.turnedNew (ch := [en, it]) (fun b o hb z => (same.2 b (fun q => hb (by simp [q]))).trans (kp b o (fun q => hb (by simp [q])) (fun q => hb (by simp [q])) z)) free (Nat.le_refl _) fresh
    refine ⟨.ref s.heap.objs.size, _, J, rfl, ⟨_, x, rfl, I.hok.fresh (Nat.le_refl _), rfl, fun ys hy2 => by rw [I.tuple_inj hy2 hq]; exact hx⟩, ⟨⟨y, ?_⟩, st.1.at fun o z => (same.2 it (Ne.symm ne)).trans z, ne⟩, fun b hb => ?_⟩
    · rw [show ((i + 1 : Nat) : Int) = (i : Int) + 1 by omega]
      exact isE2
    · have lt : b < s.heap.objs.size := by
        rcases List.mem_cons.mp hb with q | q
        · rw [q]; exact le1
        · rw [List.mem_singleton.mp q]; exact le2
      rw [upd_ne (Nat.ne_of_lt lt)]
      exact (free b hb).1
  done := by
    rintro X rfl rfl rfl calm i pins s σ H E I free ⟨⟨old, isE⟩, isI, ne⟩ ⟨xs, hq, hx⟩
    obtain ⟨its, rv, isT, hz⟩ := I.tuple hq
    have hl := rv.length
    have nit : a ≠ it := fun q => by
      obtain ⟨o, ho, hc, _⟩ := isT
      obtain ⟨o2, ho2, hc2, _⟩ := isI
      rw [q, ho2] at ho
      cases ho
      rw [hc2] at hc
      injection hc with z
      exact absurd z (by decide)
    have D : Draws X.prog X.w X.A.in1 it [it, a] i (fun _ _ => False) (fun j h => j = i ∧ h.IsTupleIter it a i ∧ h.IsTuple a its.toArray) :=
      { live := fun j h z => let ⟨o, ho, _⟩ := z.2.1; ⟨o, ho⟩
        frame := fun j h h' z kp => ⟨z.1, z.2.1.at fun o e => kp it (by simp) o e, z.2.2.at fun o e => kp a (by simp) o e⟩
        item := fun j s Q E lt z => absurd z.1 (Nat.ne_of_lt lt)
        done := fun s Q E z hE => PySem.wpAny_nextOf_tuple_end (show X.A.in1.handled = none from I.ok.hd calm) z.2.1 z.2.2 (by simp; omega) hE }
    obtain ⟨f0, f1, f2, f3, f4, f5⟩ := free it (by simp)
    exact wpAny_pyNext_enum_endD D isE ⟨rfl, isI, isT⟩ fun h' eb => ⟨rfl, I.turned (t' := s.toks) (fun b o hb q => eb b o hb q) f0 f1 f3 f4 f5⟩
  self := fun A i s Q E ⟨⟨_, isE⟩, _⟩ h => wpAny_pyIter_enum isE h
def iEnumT (K : PySem.W.Frag) (ta : TA) : TI := fun σ H R => ta σ H fun vs H1 => ∃ a xs, vs = [.ref a] ∧ SqT K H1 a xs ∧ R (IteT K a) H1
theorem pi_enumT {X : Cx} {e : Expr} {ta : TA} {p pos tpos : Pos} {elts : List Expr} {kk : Nat} (hg : Gl X "enumerate") (hm : X.mg "enumerate" = none) (ha : PA X [e] ta) (hs : starEach [e] X.env = [(false, eval e X.env)] := by rfl) :
    PI X (.Tuple elts kk tpos) (.Call (.Name "enumerate" p) [e] [] pos) (iEnumT X.K ta) := by
  constructor
  intro pins s σ H R I h
  have args := ha.run pos pins s σ H _ I h
  refine Call_ (ld_blt I hg hm boot_enumerate
    (PyProof.Rows.callWith_type1 (thn args ?_) hs rfl))
  rintro us s1 ⟨vs, H1, I1, r1, a, xs, rfl, hq, q⟩
  cases r1 with
  | cons r rest =>
    cases rest
    cases r
    obtain ⟨its, rv, isT, hz⟩ := I1.tuple hq
    refine call_enumT (items := its.toArray) isT fun h' isE isI kp => wpAny_pyIter_enum isE ?_
    refine ⟨s1.heap.objs.size + 1, [s1.heap.objs.size + 1, s1.heap.objs.size], _, _, H1, rfl, I1.kept (t' := s1.toks) kp, turn_enumT a (s1.heap.objs.size + 1) s1.heap.objs.size, ⟨⟨.none, isE⟩, isI, Nat.succ_ne_self _⟩, fun b hb => ?_, q⟩
    have le : s1.heap.objs.size ≤ b := by
      rcases List.mem_cons.mp hb with z | z
      · rw [z]
        exact Nat.le_succ _
      · rw [List.mem_singleton.mp z]
        exact Nat.le_refl _
    exact I1.fpOk le (I1.hok.fresh le)
theorem for_enumT {K : PySem.W.Frag} {a : Addr} {xs : List V} {g : TG} {tb : TS} {D : Ends} {σ : L2.St} {H : Hp} (Pv : Nat → L2.St → Hp → Prop) (h0 : Pv 0 σ H) (hl : ∀ i σ H, i ≤ xs.length → Pv i σ H → SqT K H a xs)
    (hs : ∀ i x σ H T, xs[i]? = some x → Pv i σ H → H T = none → g (.ref T) σ (upd H T (.tup [.int (i : Nat), x])) fun σ2 H2 => tb { D with nx := Pv (i + 1), ct := Pv (i + 1), bk := D.nx } σ2 H2) (hd : ∀ σ H, Pv xs.length σ H → D.nx σ H) :
    ∃ W : Nat → Nat → L2.St → Hp → Prop, (∃ m, W 0 m σ H) ∧ ∀ i m σ H, W i m σ H →
      ((IteT K a).stop i H ∧ D.nx σ H) ∨ ((IteT K a).go i H ∧ ∃ N : L2.St → Hp → Prop, (∀ σ' H', N σ' H' → ∃ m', m' < m ∧ W (i + 1) m' σ' H') ∧ ∀ x H', (IteT K a).yld i H x H' → g x σ H' fun σ2 H2 => tb { D with nx := N, ct := N, bk := D.nx } σ2 H2) := by
  refine ⟨fun i m σ H => m = xs.length - i ∧ i ≤ xs.length ∧ Pv i σ H, ⟨xs.length, by simp, Nat.zero_le _, h0⟩, ?_⟩
  rintro i m σ H ⟨rfl, hi, p⟩
  have q := hl i σ H hi p
  rcases Nat.lt_or_ge i xs.length with lt | ge
  · refine .inr ⟨⟨xs, xs[i], q, List.getElem?_eq_getElem lt⟩, Pv (i + 1), fun σ' H' p' => ⟨xs.length - (i + 1), by omega, rfl, lt, p'⟩, ?_⟩
    rintro v H' ⟨T, x, rfl, hT, rfl, y⟩
    exact hs i x σ H T (y xs q) p hT
  · obtain rfl : i = xs.length := by omega
    exact .inl ⟨⟨xs, q, Nat.le_refl _⟩, hd σ H p⟩
end Cb

/-! data sorted, data compared -/
namespace Cb
open PySem PySem.Spec PyProof.Rows L2
section
variable {X : Cx} {pins : List (Addr × Obj)} {σ : L2.St} {H : Hp} {s : Shared}
mutual
theorem reads_td (I : Inv X pins σ H s) : ∀ (d : PyData) (v : V) (u : Value), Td H d v → RelV v u → Reads s.heap u d []
  | .none, v, u, h, r => by
    simp only [Td] at h
    subst h
    obtain rfl : u = Value.none := r
    exact .none
  | .bool b, v, u, h, r => by
    simp only [Td] at h
    subst h
    obtain rfl : u = Value.bool b := r
    exact .bool b
  | .int i, v, u, h, r => by
    simp only [Td] at h
    subst h
    obtain ⟨t, rfl⟩ := r
    exact .int i t
  | .str x, v, u, h, r => by
    simp only [Td] at h
    subst h
    obtain ⟨t, rfl⟩ := r
    exact .str x t
  | .tuple ds, v, u, h, r => by
    obtain ⟨a, xs, rfl, hq, t⟩ := h.un
    obtain rfl : u = Value.ref a := r
    obtain ⟨its, rv, ⟨o, ho, hc, n, hd⟩, _⟩ := I.tuple (.of hq)
    have z := reads_tds I ds xs its t rv
    exact .tuple ho hc hd (by simpa using z)
  | .list ds, v, u, h, r => by simp only [Td] at h
  | .dict ds, v, u, h, r => by simp only [Td] at h
theorem reads_tds (I : Inv X pins σ H s) : ∀ (ds : List PyData) (vs : List V) (us : List Value), Tds H ds vs → Vals vs us → ReadsAll s.heap us ds []
  | [], vs, us, h, r => by
    obtain rfl := h.nil'
    cases r
    exact .nil
  | d :: ds, vs, us, h, r => by
    obtain ⟨v, w, rfl, h1, h2⟩ := h.un
    cases r with
    | cons r1 r2 =>
      have a := reads_td I d v _ h1 r1
      have b := reads_tds I ds w _ h2 r2
      exact ReadsAll.cons (as := []) (bs := []) a b
end
end
/-! ### sorted(x), x a list or a tuple -/
section
variable {prog : Program} {w : World} {A : Around} {E : Value → Shared → Prop} {s : Shared} {β : Type} {R : Value → β → Prop} {vs : List Value} {bs : List β} {enc : β → PyData}
/-- the items of a list or a tuple, collected; the heap only grows -/
theorem collect_seq2 {Q : List Value → Shared → Prop} {a : Addr} {T : String} {o : Obj} {items : Array Value} {n : Nat} (hT : T = "list" ∨ T = "tuple") (ho : s.heap.get? a = some o) (hc : o.cls = .type T) (hd : o.data = .seq items n) (hz : items.size ≤ sizeLine)
    (hQ : ∀ h', (∀ b u, s.heap.get? b = some u → h'.get? b = some u) → s.heap.objs.size ≤ h'.objs.size → Q items.toList { s with heap := h' }) : wpAny (model prog w) A (collect (.ref a)) Q E s := by
  generalize hL : s.heap.objs.size = L at hQ
  generalize h1e : s.heap.push { cls := .type "list", data := .seq ([] : List Value).toArray } = h1
  have at1 : h1.get? L = some { cls := .type "list", data := .seq #[] 0 } := by
    rw [← h1e, ← hL]
    exact Heap.get?_push_size _ rfl
  have old1 : ∀ b u, s.heap.get? b = some u → h1.get? b = some u := fun b u z => by
    rw [← h1e]
    exact Heap.get?_push_of_some _ z
  have sz1 : h1.objs.size = L + 1 := by
    rw [← h1e, ← hL]
    exact Heap.size_push ..
  generalize h2e : h1.update L (Obj.mapSeq (· ++ items)) = h2
  have at2 : h2.get? L = some (Obj.mapSeq (· ++ items) { cls := .type "list", data := .seq #[] 0 }) := by
    rw [← h2e]
    exact Heap.get?_update_self (Obj.mapSeq (· ++ items)) at1 rfl
  have old2 : ∀ b u, s.heap.get? b = some u → h2.get? b = some u := fun b u z => by
    have lt := Heap.lt_size z
    rw [← h2e]
    exact (Heap.get?_update_other _ _ (by rw [hL] at lt; exact Nat.ne_of_gt lt)).trans (old1 b u z)
  have sz2 : L ≤ h2.objs.size := by
    rw [← h2e, Heap.size_update, sz1]
    exact Nat.le_succ _
  have last : wpAny (model prog w) A (match Value.ref L with
      | Value.ref b => do
        match (← load b).data with
          | Data.seq xs _ => pure xs.toList
          | _ => unsupported "internal:collect"
      | _ => unsupported "internal:collect") Q E { s with heap := h2 } := by
    refine wpAny_bind (m := load L) (wpAny_load at2 (wpAny_pure ?_))
    have z : ((#[] : Array Value) ++ items).toList = items.toList := by simp
    exact z ▸ hQ h2 old2 sz2
  unfold collect
  refine wpAny_bind (wpAny_runValue (codeAny_builtin F.entry_proto_collect ?_))
  rw [Around.under_plainId F.plain_proto_collect _]
  refine wpAny_bind (m := newList []) (wpAny_newObj_type ?_)
  refine wpAny_pure ⟨plainId_quiet F.plain_list_iadd _, codeAny_builtin F.entry_list_iadd ?_⟩
  rw [Around.under_plainId F.plain_list_iadd _]
  rw [show s.heap.objs.size = L from hL, show s.heap.push { cls := .type "list", data := .seq ([] : List Value).toArray } = h1 from h1e]
  have ext := wpAny_extend_seq (prog := prog) (w := w) (A := A) (R := fun r s' => r = .ok (.ret (.ref L)) ∧ s' = { s with heap := h2 }) (s := { s with heap := h1 }) L a (.ref L) 0 hT at1 (old1 _ _ ho) hc hd ⟨rfl, by rw [h2e]⟩ (hsz := hz)
  refine wpAny_mono ext (fun fin s' z => ?_) (fun _ _ z => absurd z.1 (by simp))
  cases fin with
  | done f =>
    obtain ⟨e1, rfl⟩ := z
    cases e1
    exact last
  | again c =>
    exact ⟨z.1, codeAny_mono z.2 fun r s2 q => by
      obtain ⟨rfl, rfl⟩ := q
      exact last⟩
theorem sorted_seq {l : Addr} {T : String} {o : Obj} {n : Nat} {Q : Value → Shared → Prop} (hT : T = "list" ∨ T = "tuple") (ho : s.heap.get? l = some o) (hc : o.cls = .type T) (hd : o.data = .seq vs.toArray n) (e : PySem.W.EachIs R vs bs) (er : PySem.W.EachIs (fun v b => Reads s.heap v (enc b) []) vs bs)
    (hal : PySem.W.AllAlike (bs.map enc)) (hk : PySem.W.Sortable (bs.map enc)) (hL : vs.length ≤ sizeLine) (hu : ∀ b, b ∈ bs → A.units + 3 + (enc b).depth < cLine)
    (h : ∀ (h' : Heap) (d : Addr) (out : List Value) (k : Nat), (∀ b u, s.heap.get? b = some u → h'.get? b = some u) → s.heap.objs.size ≤ d → h'.get? d = some (seqObj "list" out.toArray k) → PySem.W.EachIs R out (bs.mergeSort (PySem.W.dataLe false enc)) → Q (.ref d) { s with heap := h' }) :
    wpAny (model prog w) A (call (.builtin "sorted") [.ref l]) Q E s := by
  have lb : bs.length ≤ sizeLine := by
    rw [← e.length]
    exact hL
  refine Calls.call_function_entry kind_sorted plain_sorted entry_sorted (args_sorted1 _) ?_
  unfold Builtin.«sorted»
  refine wpAny_bind (m := checkCount "sorted" 1 1 _) (wpAny_pure ?_)
  refine wpAny_bind (collect_seq2 hT ho hc hd (by rw [List.size_toArray]; exact hL) fun h1 k1 z1 => ?_)
  rw [show vs.toArray.toList = vs by simp]
  refine wpAny_bind (wpAny_newList ?_ hL)
  have at2 : (h1.push (seqObj "list" vs.toArray 0)).get? h1.objs.size = some (seqObj "list" vs.toArray 0) := Heap.get?_push_size _ rfl
  have k2 : ∀ b u, s.heap.get? b = some u → (h1.push (seqObj "list" vs.toArray 0)).get? b = some u := fun b u z => Heap.get?_push_of_some _ (k1 b u z)
  show wpAny _ _ _ _ _ { s with heap := h1.push (seqObj "list" vs.toArray 0) }
  have er2 : PySem.W.EachIs (fun v b => ∃ as, Reads (h1.push (seqObj "list" vs.toArray 0)) v (enc b) as ∧ h1.objs.size ∉ as) vs bs := er.mono fun v b r => ⟨[], PyProof.Rows.Reads.keeps k2 r, by simp⟩
  refine wpAny_bind (wpAny_holding (PySem.W.list_sort_data (s := { s with heap := h1.push (seqObj "list" vs.toArray 0) }) at2 e er2 hal hk lb ?_ fun out lo eo => ?_))
  · intro b hb
    have := hu b hb
    first
    | (show A.units + 1 + 1 + (enc b).depth < cLine; omega)
    | (show A.in1.units + 1 + (enc b).depth < cLine
       have q : A.in1.units = A.units + 1 := rfl
       omega)
  · refine wpAny_pure ?_
    obtain ⟨k, hk2⟩ := sortedHeap_at (h := h1.push (seqObj "list" vs.toArray 0)) (a := h1.objs.size) (out := out.toArray) at2
    refine ⟨_, rfl, h _ _ out k (fun b u z => ?_) z1 hk2 eo⟩
    have lt : b < h1.objs.size := Heap.lt_size (k1 b u z)
    exact (sortedHeap_old (Nat.ne_of_lt lt) (by rw [size_push']; exact Nat.lt_succ_of_lt lt)).trans (k2 b u z)
end
section
variable {X : Cx} {pins : List (Addr × Obj)} {σ : L2.St} {H : Hp} {s : Shared}
/-- what a value of the model is, beside the value it stands for -/
structure VD (H : Hp) (X : Cx) (u : Value) (b : V × PyData) : Prop where
  rel : RelV b.1 u
  td : Td H b.2 b.1
theorem each_vd : ∀ {vs : List V} {us : List Value} {ds : List PyData}, Vals vs us → Tds H ds vs → PySem.W.EachIs (VD H X) us (vs.zip ds)
  | [], us, ds, r, t => by
    cases r
    exact .nil
  | v :: vs, us, [], r, t => by
    have := t.nil'
    cases this
  | v :: vs, us, d :: ds, r, t => by
    obtain ⟨v', w, e, h1, h2⟩ := t.un
    cases e
    cases r with
    | cons r1 r2 => exact .cons ⟨r1, h1⟩ (each_vd r2 h2)
theorem vals_vd : ∀ {us : List Value} {bs : List (V × PyData)}, PySem.W.EachIs (VD H X) us bs → Vals (bs.map (·.1)) us ∧ Tds H (bs.map (·.2)) (bs.map (·.1))
  | _, _, .nil => ⟨.nil, .nil⟩
  | _, _, .cons h t => ⟨.cons h.rel (vals_vd t).1, .cons h.td (vals_vd t).2⟩
/-- sorted(x): x a tracked list or a tuple of data that are alike -/
def sortD (ds : List PyData) : List PyData := ds.mergeSort (PySem.W.dataLe false id)
def rSortD (K : PySem.W.Frag) : List V → Hp → VK → Prop := fun vs H Q => ∃ (a : Addr) (xs : List V) (ds : List PyData), vs = [.ref a] ∧ (H a = some (.lst xs) ∨ H a = some (.tup xs)) ∧ Tds H ds xs ∧ PySem.W.AllAlike ds ∧ PySem.W.Sortable ds ∧ (∀ d ∈ ds, d.depth ≤ 50) ∧
  ∀ (ys : List V) (p : Addr), ys.length = xs.length → Tds H (sortD ds) ys → H p = none → Q (.ref p) (upd H p (.lst ys))
theorem cr_sortD (hu : X.A.units + 64 < cLine) : CallR X (.builtin "sorted") (rSortD X.K) := by
  rintro pins s σ H vs us Q I rv ⟨a, xs, ds, rfl, hq, t, hal, hk, hdp, q⟩
  rw [Vals.ref1 rv]
  obtain ⟨its, T, o, n, hT, ho, hc, hd, rv2, hz⟩ : ∃ (its : List Value) (T : String) (o : Obj) (n : Nat), (T = "list" ∨ T = "tuple") ∧ s.heap.get? a = some o ∧ o.cls = .type T ∧ o.data = .seq its.toArray n ∧ Vals xs its ∧ xs.length ≤ sizeLine := by
    rcases hq with hq | hq
    · obtain ⟨its, r, pl, z⟩ := I.list (SqL.of hq)
      obtain ⟨o, ho, hc, n, hd⟩ := pl.isList
      exact ⟨its, "list", o, n, .inl rfl, ho, hc, hd, r, z⟩
    · obtain ⟨its, r, ⟨o, ho, hc, n, hd⟩, z⟩ := I.tuple (.of hq)
      exact ⟨its, "tuple", o, n, .inr rfl, ho, hc, hd, r, z⟩
  have e := each_vd (X := X) rv2 t
  have m2 : (xs.zip ds).map (fun b => b.2) = ds := List.map_snd_zip (by rw [t.len]; exact Nat.le_refl _)
  refine sorted_seq (enc := fun b : V × PyData => b.2) hT ho hc hd e (e.mono fun u b h => reads_td I _ _ _ h.td h.rel) (by rw [m2]; exact hal) (by rw [m2]; exact hk) (by rw [← rv2.length]; exact hz) (fun b hb => ?_) fun h' p out k kp le hp eo => ?_
  · have z : b.2 ∈ ds := by
      rw [← m2]
      exact List.mem_map_of_mem hb
    have := hdp _ z
    omega
  · obtain ⟨r1, t1⟩ := vals_vd eo
    have sd : ((xs.zip ds).mergeSort (PySem.W.dataLe false fun b => b.2)).map (·.2) = sortD ds := by
      have z := List.map_mergeSort (r := PySem.W.dataLe false fun b : V × PyData => b.2) (s := PySem.W.dataLe false id) (f := fun b : V × PyData => b.2) (l := xs.zip ds) (fun a _ b _ => rfl)
      rw [m2] at z
      exact z
    have ln : (((xs.zip ds).mergeSort (PySem.W.dataLe false fun b => b.2)).map (·.1)).length = xs.length := by
      rw [List.length_map, (List.mergeSort_perm _ _).length_eq, List.length_zip, t.len, Nat.min_self]
    rw [sd] at t1
    have hn : H p = none := I.hok.fresh le
    exact ⟨.ref p, upd H p (.lst _), I.laid (t' := s.toks) kp le ⟨by rw [ln]; exact hz, out, k, r1, hp⟩, rfl, q _ p ln t1 hn⟩
end
end Cb

/-! defs with *more -/
namespace Cb
open PySem PySem.Spec PyProof.Rows L2
/-- how f(a, b, *more) binds: n values by name, the rest as a new tuple -/
def BindsV (fd : FuncData) (n : Nat) (ps : List Str) : Prop := ∀ us : List Value, n ≤ us.length → bindArgs fd ⟨us, []⟩ = (do
  let t ← newTuple (us.drop n)
  pure (ps.zip (us.take n ++ [t])))
/-- f(..), its *more at T when the body begins -/
structure FnV (P : Program) (w : World) (K : PySem.W.Frag) (mg : Str → Option Value) (base : Heap) (k : Nat) (f : Addr) (n : Nat) (sp : List V → Addr → Hp → VK → Prop) : Prop where
  go : ∀ {A : Around} {out : List Env} {st : Shared} {H : Hp} {us : List Value} {vs : List V} {Q : VK}, Room k A → n ≤ vs.length → Vals vs us → us.length ≤ sizeLine →
    Env0 P w K mg base A out { st with heap := st.heap.push { cls := .type "tuple", data := .seq (us.drop n).toArray } } (upd H st.heap.objs.size (.tup (vs.drop n))) → sp (vs.take n) st.heap.objs.size (upd H st.heap.objs.size (.tup (vs.drop n))) Q →
    codeAny (model P w) A (.call (.ref f) ⟨us, []⟩) (CR CX0 out P w (upd H st.heap.objs.size (.tup (vs.drop n))) { st with heap := st.heap.push { cls := .type "tuple", data := .seq (us.drop n).toArray } } Q E0) st
section
variable {P : Program} {w : World} {K : PySem.W.Frag} {mg : Str → Option Value} {base : Heap} {k : Nat} {f : Addr} {fd : FuncData} {ps : List Str} {n : Nat} {sp : List V → Addr → Hp → VK → Prop}
theorem okV {x qual : Str} {st : Stmt} {N : List Str} (F : Fun K x qual st f fd) (S : FnScope N ps (defScope st)) (hn : ps.length = n + 1) (bv : BindsV fd n ps)
    (body : ∀ (cdv : Value) (A : Around) (out : List Env) (s : Shared) (H : Hp) (vs : List V) (T : Addr) (Q : VK) (E : XK), Room k (A.deeper (envOfC qual (defScope st) s.heap.objs.size f cdv)) → vs.length = n → sp vs T H Q →
      wB (cxOf CX0 P w K mg base N qual (defScope st) f cdv A out s H E).nox (defBody st) { nx := fun _ H' => Q .non H', rt := Q } (start N (vs ++ [.ref T])) H) : FnV P w K mg base (k + 1) f n sp := by
  obtain ⟨oc, od, kV, doc, pm, an, cdv, ct, osl, rfl, look, isCode⟩ := F.ex
  refine ⟨fun {A out s H us vs Q} room hl rel hz ev want => ?_⟩
  have inK : K.In s.heap := ev.mod.kin.keeps fun b o z => by
    obtain ⟨z1, z2⟩ := ev.bs b o z
    have ne : b ≠ s.heap.objs.size := fun q => by
      rw [q, upd_same] at z2
      cases z2
    rw [← z1]
    exact (Heap.get?_push_ne _ _ _ ne).symm
  have relT : Vals (vs.take n ++ [V.ref s.heap.objs.size]) (us.take n ++ [Value.ref s.heap.objs.size]) := (rel.take n).append (.cons (show RelV (V.ref s.heap.objs.size) (Value.ref s.heap.objs.size) from rfl) .nil)
  have lenT : (vs.take n ++ [V.ref s.heap.objs.size]).length = ps.length := by
    rw [hn, List.length_append, List.length_take, Nat.min_eq_left hl]
    rfl
  generalize hs1 : ({ s with heap := s.heap.push { cls := .type "tuple", data := .seq (us.drop n).toArray } } : Shared) = s1 at ev ⊢
  generalize hH1 : upd H s.heap.objs.size (.tup (vs.drop n)) = H1 at ev want ⊢
  have noLim : s1.heap.NoLimit := ev.mod.nolimit.keeps fun b o z => (ev.bs b o z).1
  have kinds : ∀ y ∈ ps.zip (us.take n ++ [Value.ref s.heap.objs.size]), (defScope st).names.lookup y.1 = some .local ∨ ((defScope st).names.lookup y.1 = some .cell ∧ ((cellsFrom (s1.heap.objs.size + 1) (defScope st).names []).lookup y.1).isSome = true) := by
    rintro ⟨m, v⟩ hy
    cases S.par m (List.of_mem_zip hy).1 with
    | inl q => exact .inl q
    | inr q => exact .inr ⟨q, PySem.W.cellsFrom_some _ _ _ (.inl q)⟩
  apply codeAny_call_function (o := ⟨oc, od, .func _, osl⟩) room.depth (inK _ _ look) rfl S.co S.gen rfl (PySem.W.codeRec_of inK isCode)
  rw [bv us (by rw [← rel.length]; exact hl)]
  refine wpAny_bind (wpAny_newTuple ?_ (Nat.le_trans (by rw [List.length_drop]; exact Nat.sub_le _ _) hz))
  rw [hs1]
  refine wpAny_pure ?_
  apply wpAny_newFunctionEnv_cells S.kind kinds
  intro env he s2 x
  subst he
  refine ⟨noLim.keeps x.toInCall.keep, codeAny_func ?_⟩
  have J := inv_start (CX := CX0) (N := N) (E := E0) S room.hd ev lenT relT x
  have main := PSs.nox (st := defBody st) (X := cxOf CX0 P w K mg base N qual (defScope st) f cdv A out s1 H1 E0) pw_B
  refine wpAny_mono (main.run [] s2 _ H1 _ J (body cdv A out s1 H1 (vs.take n) s.heap.objs.size Q E0 (room.deeper _) (by rw [List.length_take, Nat.min_eq_left hl]) want)) (fun fl s' z => ?_) (fun e s' z => z)
  match fl, z with
  | .ret u, ⟨v, _, H', I', rv, q⟩ => exact ⟨v, H', I'.os, I'.bare, I'.base, I'.hok, rv, q⟩
  | .next, ⟨_, H', I', q⟩ => exact ⟨.non, H', I'.os, I'.bare, I'.base, I'.hok, rfl, q⟩
  | .brk, ⟨_, _, _, q⟩ => exact q.elim
  | .cont, ⟨_, _, _, q⟩ => exact q.elim
end
section
variable {X : Cx} {k : Nat} {f : Addr} {n : Nat} {sp : List V → Addr → Hp → VK → Prop} {x : Str} {p pos : Pos} {e : Expr} {es : List Expr} {σ : L2.St} {H : Hp}
structure GDefV (X : Cx) (x : Str) (k : Nat) (f : Addr) (n : Nat) (sp : List V → Addr → Hp → VK → Prop) : Prop where
  ok : FnV X.prog X.w X.K X.mg X.base k f n sp
  room : Room k X.A
  gl : X.mg x = some (.ref f)
  kp : PySem.W.keepIn X.K (.ref f) = true
theorem runV {pins : List (Addr × Obj)} {s : Shared} {Q : VK} {us : List Value} {vs : List V} (g : GDefV X x k f n sp) (I : Inv X pins σ H s) (r : Vals vs us) (hl : n ≤ vs.length) (hz : vs.length ≤ sizeLine) (h : ∀ T, H T = none → sp (vs.take n) T (upd H T (.tup (vs.drop n))) Q) :
    wpAny (model X.prog X.w) X.A (call (.ref f) us) (EP X pins σ Q) X.xe s := by
  have hn : H s.heap.objs.size = none := I.hok.fresh (Nat.le_refl _)
  have hz2 : (vs.drop n).length ≤ sizeLine := Nat.le_trans (by rw [List.length_drop]; exact Nat.sub_le _ _) hz
  have J : Inv X pins σ (upd H s.heap.objs.size (.tup (vs.drop n))) { s with heap := s.heap.push { cls := .type "tuple", data := .seq (us.drop n).toArray } } :=
    I.laid (t' := s.toks) (fun b u z => Heap.get?_push_of_some _ z) (Nat.le_refl _) ⟨hz2, us.drop n, r.drop n, ⟨_, Heap.get?_push_size _ rfl, rfl, _, rfl⟩⟩
  refine wpAny_call (codeAny_mono (g.ok.go g.room hl r (by rw [← r.length]; exact hz) J.env0 (h _ hn)) ?_)
  rintro (z | fl) s' q
  · exact False.elim q
  · match fl, q with
    | .ret u, q => exact J.after q
theorem w_callV {Q : VK} (g : GDefV X x k f n sp) (h : wA X (e :: es) σ H fun vs H1 => n ≤ vs.length ∧ vs.length ≤ sizeLine ∧ ∀ T, H1 T = none → sp (vs.take n) T (upd H1 T (.tup (vs.drop n))) Q) (hg : Gl X x := by rfl)
    (hdb : (x == ("__debug__" : Str)) = false := by decide) (he : starEach (e :: es) X.env = (false, eval e X.env) :: starEach es X.env := by rfl) (hpl : (backTo pos (starEach es X.env)).any (·.1) = false := by rfl) : wE X (.Call (.Name x p) (e :: es) [] pos) σ H Q := by
  refine wE_i fun pins s I => ?_
  apply wpAny_Call_Name_kw
  apply ld_glob I hg g.gl _ hdb
  apply PySem.W.callWith_K (h₀ := X.base) I.ok.mod.kin g.kp _ he hpl
  exact thn (wA.run h _ pins s I) fun us s1 ⟨vs, H1, I1, r, hl, hz, q⟩ => ⟨I1.kIn, runV g I1 r hl hz q⟩
end
end Cb

/-! literals -/
namespace Cb
open PySem PySem.Spec PyProof.Rows L2
def lits (f : Expr → Option PyData) : List Expr → Option (List PyData)
  | [] => some []
  | e :: es => match f e, lits f es with
    | some d, some ds => some (d :: ds)
    | _, _ => none
def litD : Nat → Expr → Option PyData
  | 0 => fun _ => none
  | n + 1 => fun e => match e with
    | .Constant (.int i) _ _ => some (.int i)
    | .Constant (.str x) _ _ => some (.str x)
    | .Constant (.bool b) _ _ => some (.bool b)
    | .UnaryOp .USub e _ => match litD n e with
      | some (.int i) => some (.int (-i))
      | _ => none
    | .Tuple es _ _ => match lits (litD n) es with
      | some ds => if ds.length ≤ 1000 then some (.tuple ds) else none
      | none => none
    | _ => none
section
variable {X : Cx} {σ : L2.St} {H : Hp}
theorem lits_ev {f : Expr → Option PyData} (hf : ∀ e d, f e = some d → Ev X σ H e (Da d) ∧ ∀ es, starEach (e :: es) X.env = (false, eval e X.env) :: starEach es X.env) : ∀ {es : List Expr} {ds : List PyData}, lits f es = some ds → EvA X σ H es (ds.map Da)
  | [], ds, h => by
    unfold lits at h
    cases h
    exact ea_nil
  | e :: es, ds, h => by
    unfold lits at h
    split at h
    · rename_i d ds' h1 h2
      cases h
      obtain ⟨a, b⟩ := hf e d h1
      exact ea_cons a mono_da (lits_ev hf h2) (b es)
    · cases h
theorem lit_ev : ∀ (n : Nat) (e : Expr) (d : PyData), litD n e = some d → Ev X σ H e (Da d) ∧ ∀ es, starEach (e :: es) X.env = (false, eval e X.env) :: starEach es X.env := by
  intro n
  induction n with
  | zero =>
    intro e d h
    unfold litD at h
    cases h
  | succ n ih =>
    intro e d h
    unfold litD at h
    split at h
    · cases h
      exact ⟨Ev.int (ev_c pe_int), fun _ => rfl⟩
    · cases h
      exact ⟨Ev.str (ev_c pe_str), fun _ => rfl⟩
    · cases h
      exact ⟨Ev.bool (ev_c pe_bl), fun _ => rfl⟩
    · split at h
      · rename_i h1
        cases h
        exact ⟨Ev.int (ev_negI (Ev.ofInt (ih _ _ h1).1)), fun _ => rfl⟩
      · cases h
    · split at h
      · rename_i ds h1
        split at h
        · rename_i hl
          cases h
          exact ⟨ev_tupD (lits_ev (fun e d q => ih e d q) h1) hl, fun _ => rfl⟩
        · cases h
      · cases h
    · cases h
theorem ev_lit {e : Expr} {d : PyData} (n : Nat) (h : litD n e = some d) : Ev X σ H e (Da d) := (lit_ev n e d h).1
theorem ea_lits {es : List Expr} {ds : List PyData} (n : Nat) (h : lits (litD n) es = some ds) : EvA X σ H es (ds.map Da) := lits_ev (fun e d q => lit_ev n e d q) h
/-- [1, 2, ..], all literals -/
theorem ev_litL {es : List Expr} {ds : List PyData} {p : Pos} (n : Nat) (h : lits (litD n) es = some ds) (hl : ds.length ≤ 1000) : Ev X σ H (.List es p) (LstD ds) := ev_lstD (ea_lits n h) hl
end
end Cb

namespace Kn
open PySem PySem.Spec PyProof.Rows L2 Cb
def top (i : Nat) : Stmt := PySem.Challenge.pw_centbook_k06_states_and_parts.main.body.getD i (.Pass ⟨0, 0, 0, 0⟩)
abbrev sLow : Stmt := top 2
abbrev sPSum : Stmt := top 3
abbrev sPTotal : Stmt := top 4
abbrev sFresh : Stmt := top 6
abbrev sAfter : Stmt := top 7
abbrev sPart : Stmt := top 8
abbrev sReader : Stmt := top 10
abbrev sDraw : Stmt := top 11
abbrev sDivisor : Stmt := top 12
abbrev sLLow : Stmt := top 13
abbrev sLAdd : Stmt := top 14
abbrev sLFloor : Stmt := top 15
abbrev sSome : Stmt := top 16
abbrev sCrosses : Stmt := top 17
abbrev sHeads : Stmt := top 18
abbrev sState : Stmt := top 19
abbrev sSections : Stmt := top 20
abbrev sDays : Stmt := top 21
abbrev sSheet : Stmt := top 22
abbrev sFixed : Stmt := top 23
abbrev sBooking : Stmt := top 24
abbrev sLAfter : Stmt := top 25
abbrev sFreshOf : Stmt := top 26
abbrev sCheck : Stmt := top 27
abbrev sLaw : Stmt := top 28
end Kn

namespace Kn
open PySem PySem.Spec PyProof.Rows L2 Cb
section
variable {P : Program} {w : World} {K : PySem.W.Frag} {mg : Str → Option Value} {base : Heap}
/-! ### lowest -/
def LowOk (u : Int) : Prop := u ≠ 0 ∧ ((0 < u ∧ u.natAbs < 2 ^ 8000) ∨ u.natAbs < 1073741824)
theorem LowOk.div {o u : Int} (h : LowOk u) : CDivA o (lowS o u) := by
  rcases Int.lt_or_lt_of_ne h.1 with q | q
  · have := lowS_neg (o := o) q
    rcases h.2 with z | z
    · omega
    · exact .inr ⟨by omega, by omega⟩
  · have := lowS_pos (o := o) q
    rcases h.2 with z | z
    · refine .inl ⟨this.1, Nat.lt_trans (PySem.Flt.log2_lt_of (by decide) (Nat.lt_of_le_of_lt ?_ z.2)) (by decide)⟩
      omega
    · exact .inr ⟨by omega, by omega⟩
theorem LowOk.num {o u : Int} (h : LowOk u) : o.fdiv (lowS o u) = (Rat.divInt o u).num ∧ u.fdiv (lowS o u) = ((Rat.divInt o u).den : Int) := by
  rcases Int.lt_or_lt_of_ne h.1 with q | q
  · exact low_neg q
  · have l := (lowS_pos (o := o) q).1
    rw [Int.fdiv_eq_ediv_of_nonneg _ (by omega), Int.fdiv_eq_ediv_of_nonneg _ (by omega)]
    exact low_pos q
def spLow : Sp := spP (fun (d : Int × Int) vs _ => vs = [.int d.1, .int d.2] ∧ LowOk d.2) (fun d => TupI [.int (Rat.divInt d.1 d.2).num, .int ((Rat.divInt d.1 d.2).den : Int)])
theorem scLow : FnScope ["over", "under", "shared"] ["over", "under"] (defScope sLow) := ⟨rfl, rfl, rfl, by decide +kernel, rfl, by decide +kernel, by decide +kernel⟩
theorem ok_low {f : Addr} {fd : FuncData} (F : Fun K "lowest" "lowest" sLow f fd) (z1 : mg "gcd" = some (.builtin "math.gcd")) : FnOk P w K mg base CX0 1 f fd ["over", "under"] spLow := by
  refine F.ok scLow (fun vs H Q E h => ?_) (fun cdv A outer s H vs Q E hr h => ?_)
  · obtain ⟨d, ⟨rfl, _⟩, _⟩ := h
    rfl
  · obtain ⟨⟨o, u⟩, ⟨rfl, hu⟩, q⟩ := h
    dsimp only at hu q ⊢
    refine ⟨_, pw_B, b_setE (i := 2) scLow.nd rfl (.inl rfl) (ev_gcd z1 (ea_2 (ev_vi (pv 0) rfl) mono_is (ev_vi (pv 1) rfl) mono_is)) fun v H1 s1 e => ?_⟩
    cases e
    refine b_ifJ (fun σ' H' => σ' = [some (.int o), some (.int u), some (.int (lowS o u))] ∧ Same H H') (c_I op_lt (nomark _) (ev_vi (pv 1) rfl) (ev_c pe_int)).et (fun h H2 s2 => ?_) (fun h H2 s2 => ?_) fun σ' H2 j => ?_
    · have hl : u < 0 := of_decide_eq_true h
      refine b_setE (i := 2) scLow.nd rfl (.inl rfl) (ev_negI (ev_vi (pv 2) rfl)) fun v H3 s3 e => ?_
      cases e
      refine b_nil ⟨?_, (s1.trans s2).trans s3⟩
      unfold lowS
      rw [if_pos hl]
      rfl
    · have hl : ¬ u < 0 := of_decide_eq_false h
      refine b_nil ⟨?_, s1.trans s2⟩
      unfold lowS
      rw [if_neg hl]
      rfl
    · obtain ⟨rfl, s2⟩ := j
      refine b_retE (ev_tupI (xs := [.int (o.fdiv (lowS o u)), .int (u.fdiv (lowS o u))]) (ea_2 (ev_opC op_fdivA (ev_vi (pv 0) rfl) (ev_vi (pv 2) rfl) hu.div) mono_is (ev_opC op_fdivA (ev_vi (pv 1) rfl) (ev_vi (pv 2) rfl) hu.div) mono_is) (by show 2 ≤ 1000; decide)) fun v H3 s3 h => ?_
      rw [hu.num.1, hu.num.2] at h
      exact q v H3 (s2.trans s3) h

theorem atI0 {x : V} {r : List V} : atI (x :: r) 0 = some x := atI_nat (j := 0) rfl
theorem atI1 {x y : V} {r : List V} : atI (x :: y :: r) 1 = some y := atI_nat (j := 1) rfl
def DivOk (u : Int) : Prop := 0 < u ∧ u.natAbs < 2 ^ 8000
theorem DivOk.div {o u : Int} (h : DivOk u) : CDivA o u := .inl ⟨h.1, Nat.lt_trans (PySem.Flt.log2_lt_of (by decide) h.2) (by decide)⟩
theorem DivOk.eq {o u : Int} (h : DivOk u) : o.fdiv u = o / u := Int.fdiv_eq_ediv_of_nonneg _ (Int.le_of_lt h.1)
/-- one argument told -/
theorem isOne {v : V} {vs : List V} {H : Hp} (h : Pws [Is v] vs H) : vs = [v] := by
  obtain ⟨u, rfl, e⟩ := h.one
  rw [show u = v from e]
theorem isTwo {v w : V} {vs : List V} {H : Hp} (h : Pws [Is v, Is w] vs H) : vs = [v, w] := by
  obtain ⟨u, u2, rfl, e, e2⟩ := h.two
  rw [show u = v from e, show u2 = w from e2]
theorem ev_low {X : Cx} {σ : L2.St} {H : Hp} {a b : Expr} {p q : Pos} {o u : Int} {k : Nat} {f : Addr} {fd : FuncData} {ps : List Str} (g : GDef X "lowest" k f fd ps spLow) (hu : LowOk u) (ha : Ev X σ H a (Is (.int o))) (hb : Ev X σ H b (Is (.int u))) (hg : Gl X "lowest" := by rfl) (hs : starEach [a, b] X.env = (false, eval a X.env) :: starEach [b] X.env := by rfl) (hs' : starEach [b] X.env = (false, eval b X.env) :: starEach [] X.env := by rfl)
    (hpl : (backTo p (starEach [b] X.env)).any (·.1) = false := by rfl) : Ev X σ H (.Call (.Name "lowest" q) [a, b] [] p) (TupI [.int (Rat.divInt o u).num, .int ((Rat.divInt o u).den : Int)]) := ev_callP (o, u) g (ea_2 ha mono_is hb mono_is hs hs') (fun vs H2 _ h => ⟨isTwo h, hu⟩) hg (by decide) hs hpl

theorem den2_ok {r q : Rat} (h : Bd 2000 r) (h' : Bd 2000 q) : LowOk ((r.den : Int) * (q.den : Int)) := by
  have z : (0 : Int) < (r.den : Int) * (q.den : Int) := Int.mul_pos (den_pos r) (den_pos q)
  exact ⟨Int.ne_of_gt z, .inl ⟨z, Nat.lt_of_lt_of_le (lt_mul (n := 2000) (m := 2000) h.2 h'.2) (Nat.pow_le_pow_right (by decide) (by decide))⟩⟩
theorem divOk {r : Rat} (h : Bd 2000 r) : DivOk (r.den : Int) := ⟨den_pos r, Nat.lt_of_lt_of_le h.2 (Nat.pow_le_pow_right (by decide) (by decide))⟩
theorem mulOk {i j : Int} (h : i.natAbs < 2 ^ 2000) (h' : j.natAbs < 2 ^ 2000) : CMulW i j := wide_mul h h' (by decide) (by decide) (by decide)
/-! ### fractions as data -/
def qd (r : Rat) : PyData := .tuple [.int r.num, .int (r.den : Int)]
theorem td_qd {r : Rat} {v : V} {H : Hp} (h : TupI [.int r.num, .int (r.den : Int)] v H) : Td H (qd r) v := by
  obtain ⟨q, rfl, h⟩ := h
  exact .mk h (.cons td_int (.cons td_int .nil))
section
variable {X : Cx} {σ : L2.St} {H : Hp} {a b : Expr} {p q : Pos} {r s : Rat} {k : Nat} {f : Addr} {fd : FuncData} {ps : List Str}
theorem ev_q0 (h : Ev X σ H a (Da (qd r))) (hi : Ev X σ H b (Is (.int 0))) (hs : PlainIxT b := by exact fun _ _ => rfl) : Ev X σ H (.Subscript a b p) (Is (.int r.num)) := (ev_ixD (j := 0) h hi rfl hs).ofInt
theorem ev_q1 (h : Ev X σ H a (Da (qd r))) (hi : Ev X σ H b (Is (.int 1))) (hs : PlainIxT b := by exact fun _ _ => rfl) : Ev X σ H (.Subscript a b p) (Is (.int (r.den : Int))) := (ev_ixD (j := 1) h hi rfl hs).ofInt
def spQ2 (g : Rat → Rat → Rat) : Sp := spP (fun (d : Rat × Rat) vs H => (∃ v w, vs = [v, w] ∧ Td H (qd d.1) v ∧ Td H (qd d.2) w) ∧ Bd 2000 d.1 ∧ Bd 2000 d.2) (fun d => Da (qd (g d.1 d.2)))
theorem scPSum : FnScope ["one", "other"] ["one", "other"] (defScope sPSum) := ⟨rfl, rfl, rfl, by decide +kernel, rfl, by decide +kernel, by decide +kernel⟩
theorem ok_psum {f f1 : Addr} {fd fd1 : FuncData} (F : Fun K "pair_sum" "pair_sum" sPSum f fd) (F1 : Fun K "lowest" "lowest" sLow f1 fd1) (b1 : Binds K fd1 ["over", "under"] []) (g1 : mg "lowest" = some (.ref f1)) (z1 : mg "gcd" = some (.builtin "math.gcd")) : FnOk P w K mg base CX0 2 f fd ["one", "other"] (spQ2 fun r q => r + q) := by
  have G1 : FnOk P w K mg base CX0 1 f1 fd1 ["over", "under"] spLow := ok_low F1 z1
  refine F.ok scPSum (fun vs H Q E h => ?_) (fun cdv A outer s H vs Q E hr h => ?_)
  · obtain ⟨d, ⟨⟨v, w, rfl, _⟩, _⟩, _⟩ := h
    rfl
  · obtain ⟨⟨r, q⟩, ⟨⟨v, w, rfl, hv, hw⟩, hr1, hq1⟩, k⟩ := h
    dsimp only at hv hw hr1 hq1
    refine ⟨_, pw_B, b_retE (ev_low (o := r.num * (q.den : Int) + q.num * (r.den : Int)) (u := (r.den : Int) * (q.den : Int)) ⟨G1, hr, g1, F1.kp, b1⟩ (den2_ok hr1 hq1) ?_ ?_) fun v' H2 s2 h => k v' H2 s2 (by
      rw [add_eq] at h
      exact td_qd h)⟩
    · exact ev_opI op_add (ev_opC op_mulW (ev_q0 (ev_v (pv 0) rfl hv mono_da) (ev_c pe_int)) (ev_q1 (ev_v (pv 1) rfl hw mono_da) (ev_c pe_int)) (mulOk hr1.1 hq1.2)) (ev_opC op_mulW (ev_q0 (ev_v (pv 1) rfl hw mono_da) (ev_c pe_int)) (ev_q1 (ev_v (pv 0) rfl hv mono_da) (ev_c pe_int)) (mulOk hq1.1 hr1.2))
    · exact ev_opC op_mulW (ev_q1 (ev_v (pv 0) rfl hv mono_da) (ev_c pe_int)) (ev_q1 (ev_v (pv 1) rfl hw mono_da) (ev_c pe_int)) (mulOk hr1.2 hq1.2)
theorem ev_q2 {g : Rat → Rat → Rat} {x : Str} (G : GDef X x k f fd ps (spQ2 g)) (ha : Ev X σ H a (Da (qd r))) (hb : Ev X σ H b (Da (qd s))) (h1 : Bd 2000 r) (h2 : Bd 2000 s) (hg : Gl X x := by rfl) (hdb : (x == ("__debug__" : Str)) = false := by decide) (hs : starEach [a, b] X.env = (false, eval a X.env) :: starEach [b] X.env := by rfl) (hs' : starEach [b] X.env = (false, eval b X.env) :: starEach [] X.env := by rfl)
    (hpl : (backTo p (starEach [b] X.env)).any (·.1) = false := by rfl) : Ev X σ H (.Call (.Name x q) [a, b] [] p) (Da (qd (g r s))) := ev_callP (r, s) G (ea_2 ha mono_da hb mono_da hs hs') (fun vs H2 _ h => ⟨h.two, h1, h2⟩) hg hdb hs hpl
end
end
end Kn

namespace Kn
open PySem PySem.Spec PyProof.Rows L2 Cb
theorem two_le {n m : Nat} (h : n ≤ m) : 2 ^ n ≤ 2 ^ m := Nat.pow_le_pow_right (by decide) h
theorem bd_add {r q : Rat} {n m : Nat} (h : Bd n r) (h' : Bd m q) : Bd (n + m + 1) (r + q) := by
  rw [← add_eq]
  refine bd_div (Int.ne_of_gt (Int.mul_pos (den_pos r) (den_pos q))) (lt_add (lt_mul h.1 h'.2) ?_) (Nat.lt_of_lt_of_le (lt_mul h.2 h'.2) (two_le (by omega)))
  rw [Nat.add_comm n m]
  exact lt_mul h'.1 h.2

/-! ### sheets as data -/
structure Ln where
  nm : Str
  ex : Rat
  ct : Int
  on : Bool
def ld (l : Ln) : PyData := .tuple [.str l.nm, qd l.ex, .int l.ct, .bool l.on]
def rowsD (r : List Ln) : PyData := .tuple (r.map ld)
def dayD (d : List Rat) : PyData := .tuple (d.map qd)
def daysD (ds : List (List Rat)) : PyData := .tuple (ds.map dayD)
def rowI (r : List Int) : PyData := .tuple (r.map .int)
def bkD (b : List (List Int)) : PyData := .tuple (b.map rowI)
def shD (rows : List Ln) (parts : List PyData) (days : List (List Rat)) : PyData := .tuple [rowsD rows, .tuple parts, daysD days]
def sumQ (l : List Rat) : Rat := l.foldl (· + ·) 0
theorem sumQ_snoc {l : List Rat} {r : Rat} : sumQ (l ++ [r]) = sumQ l + r := by
  unfold sumQ
  rw [List.foldl_append]
  rfl
theorem bd_fold : ∀ (l : List Rat) (a : Rat) (n : Nat), Bd n a → (∀ r ∈ l, Bd 60 r) → Bd (n + 61 * l.length) (l.foldl (· + ·) a)
  | [], a, n, h, _ => h
  | r :: l, a, n, h, hl => by
    have := bd_fold l (a + r) (n + 60 + 1) (bd_add h (hl r (List.mem_cons_self ..))) fun q hq => hl q (List.mem_cons_of_mem _ hq)
    rw [List.length_cons]
    exact this.mono (by omega)
theorem bd_zero : Bd 1 (0 : Rat) := ⟨by decide, by decide⟩
theorem bd_sumQ {l : List Rat} (h : ∀ r ∈ l, Bd 60 r) : Bd (1 + 61 * l.length) (sumQ l) := bd_fold l 0 1 bd_zero h
section
variable {P : Program} {w : World} {K : PySem.W.Frag} {mg : Str → Option Value} {base : Heap}
def spTot : Sp := spP (fun (rs : List Rat) vs H => (∃ v, vs = [v] ∧ LstD (rs.map qd) v H) ∧ (∀ r ∈ rs, Bd 60 r) ∧ rs.length ≤ 20) (fun rs => Da (qd (sumQ rs)))
theorem scTot : FnScope ["pairs", "total", "pair"] ["pairs"] (defScope sPTotal) := ⟨rfl, rfl, rfl, by decide +kernel, rfl, by decide +kernel, by decide +kernel⟩
theorem ok_tot {f f1 : Addr} {fd fd1 : FuncData} (F : Fun K "pair_total" "pair_total" sPTotal f fd) (G1 : FnOk P w K mg base CX0 2 f1 fd1 ["one", "other"] (spQ2 fun r q => r + q)) (k1 : PySem.W.keepIn K (.ref f1) = true) (b1 : Binds K fd1 ["one", "other"] []) (g1 : mg "pair_sum" = some (.ref f1)) : FnOk P w K mg base CX0 3 f fd ["pairs"] spTot := by
  refine F.ok scTot (fun vs H Q E h => ?_) (fun cdv A outer s H vs Q E hr h => ?_)
  · obtain ⟨d, ⟨⟨v, rfl, _⟩, _⟩, _⟩ := h
    rfl
  · obtain ⟨rs, ⟨⟨v, rfl, a, xs, rfl, ha, t⟩, hb, hl⟩, k⟩ := h
    refine ⟨_, pw_B, ?_⟩
    refine b_setE (i := 1) scTot.nd rfl (.inl rfl) (ev_tupD (ds := [.int 0, .int 1]) (ed_cons (Ev.int (ev_c pe_int)) (ed_cons (Ev.int (ev_c pe_int)) ed_nil)) (by decide)) fun t0 H1 s1 h0 => ?_
    refine b_for rfl (pi_list (pv 0)) (pg_name (i := 2) scTot.nd rfl (.inl rfl)) ?_ PassesOwn.never
    refine ⟨_, rfl, a, rfl, ⟨_, SqL.of (s1 _ _ ha)⟩, for_list (K := K) (a := a) (xs := xs) (fun i σ H' => ∃ u y, σ = [some (.ref a), some u, y] ∧ Same H1 H' ∧ Td H' (qd (sumQ (rs.take i))) u) ⟨t0, none, rfl, .refl _, h0⟩ (fun i σ H' _ ⟨_, _, _, s, _⟩ => SqL.of (s _ _ (s1 _ _ ha))) ?_ ?_⟩
    · rintro i x σ H2 hx ⟨u, y, rfl, s2, hu⟩
      obtain ⟨d, hd, td⟩ := t.at' hx
      obtain ⟨r, hr1, rfl⟩ : ∃ r, rs[i]? = some r ∧ qd r = d := by
        rw [List.getElem?_map] at hd
        cases e : rs[i]? with
        | none =>
          rw [e] at hd
          cases hd
        | some r =>
          rw [e] at hd
          cases hd
          exact ⟨r, rfl, rfl⟩
      have tx := Td.keep (.of (s1.trans s2)) _ _ td
      have hm : r ∈ rs := List.mem_of_getElem? hr1
      have bi : Bd 2000 (sumQ (rs.take i)) := (bd_sumQ fun q hq => hb q (List.mem_of_mem_take hq)).mono (by
        have : (rs.take i).length ≤ rs.length := by
          rw [List.length_take]
          omega
        omega)
      refine b_setE (i := 1) scTot.nd rfl (.inl rfl) (ev_q2 ⟨G1, hr, g1, k1, b1⟩ (ev_v (pv 1) rfl hu mono_da) (ev_v (pv 2) rfl tx mono_da) bi ((hb r hm).mono (by decide))) fun v H3 s3 hv => b_nil ⟨v, _, rfl, s2.trans s3, ?_⟩
      rw [take_snoc hr1, sumQ_snoc]
      exact hv
    · rintro σ H2 ⟨u, y, rfl, s2, hu⟩
      have hxl : xs.length = rs.length := by
        rw [t.len, List.length_map]
      rw [hxl, List.take_length] at hu
      exact b_retE (ev_v (pv 1) rfl hu mono_da) fun v H3 s3 hv => k v H3 ((s1.trans s2).trans s3) hv
end
end Kn

namespace Cb
open PySem PySem.Spec PyProof.Rows L2
theorem ev_sliceT {X : Cx} {σ : L2.St} {H : Hp} {a lo hi : Expr} {p p2 : Pos} {ds : List PyData} {i k : Nat} (ha : Ev X σ H a (Da (.tuple ds))) (hl : Ev X σ H lo (Is (.int (i : Int)))) (hh : Ev X σ H hi (Is (.int (k : Int)))) : Ev X σ H (.Subscript a (.Slice (some lo) (some hi) none p2) p) (Da (.tuple ((ds.drop i).take (k - i)))) :=
  ev_of (pe_slice sl_tupA pw_E (po_some pw_E) (po_some pw_E)) fun H1 s1 => wE_mono (ha H1 s1) fun x H2 ⟨s2, px⟩ => wE_mono (hl H2 (s1.trans s2)) fun y H3 ⟨s3, py⟩ => by
    refine ⟨_, py, wE_mono (hh H3 ((s1.trans s2).trans s3)) fun z H4 ⟨s4, pz⟩ => ⟨_, pz, ?_⟩⟩
    obtain ⟨q, xs, rfl, hq, t⟩ := px.un
    have s24 := s3.trans s4
    have hq4 := s24 _ _ hq
    have t4 := Tds.keep (.of s24) _ _ t
    have st := s2.trans s24
    have e1 : HT.sIx xs.length 0 (some (i : Int)) = min i xs.length := HT.sIx_nat ..
    have e2 : HT.sIx xs.length xs.length (some (k : Int)) = min k xs.length := HT.sIx_nat ..
    have cut : cutV xs (some (i : Int)) (some (k : Int)) = (xs.drop i).take (k - i) := by
      unfold cutV
      rw [e1, e2]
      exact cut_slice
    have tc : Tds H4 ((ds.drop i).take (k - i)) (cutV xs (some (i : Int)) (some (k : Int))) := by
      rw [cut]
      exact (t4.drop i).take _
    refine ⟨q, xs, rfl, .of hq4, fun ⟨w1, w2⟩ => ⟨st, ?_⟩, fun _ d hd => ⟨st.trans (same_new hd), .mk upd_same (Tds.keep (.of (same_new hd)) _ _ tc)⟩⟩
    refine .mk hq4 ?_
    have all : cutV xs (some (i : Int)) (some (k : Int)) = xs := by
      unfold cutV
      rw [w1, w2, List.drop_zero, Nat.sub_zero, List.take_length]
    rw [all] at tc
    exact tc
end Cb
namespace Cb
open PySem PySem.Spec PyProof.Rows L2
theorem Tds.ints {H : Hp} : ∀ {ns : List Int} {xs : List V}, Tds H (ns.map PyData.int) xs → xs = ns.map V.int
  | [], xs, h => h.nil'
  | n :: ns, xs, h => by
    obtain ⟨v, r, rfl, h1, h2⟩ := h.un
    rw [h1.int, h2.ints]
    rfl
section
variable {X : Cx} {e a b c o : Expr} {es : List Expr} {σ : L2.St} {H H' : Hp} {pos pos' p p' q apos cpos : Pos} {P : Pd} {ds : List PyData} {d : PyData} {i : Nat} {sts : List Stmt} {D : Ends} {S : Addr} {us : List V}
theorem ev_sum {ns : List Int} (hc : X.calm = true) (hm : X.mg "sum" = none) (ha : Ev X σ H a (LstD (ns.map PyData.int))) (hg : Gl X "sum" := by rfl) (hs : starEach [a] X.env = (false, eval a X.env) :: starEach [] X.env := by rfl) (hpl : (backTo p (starEach [] X.env)).any (·.1) = false := by rfl) : Ev X σ H (.Call (.Name "sum" p') [a] [] p) (Is (.int ns.sum)) :=
  ev_cb (cr_sum hc) hm (by decide +kernel) (ea_1 ha mono_lstD hs) (fun vs H2 s h => by
    obtain ⟨v, rfl, q, xs, rfl, hq, t⟩ := h.one
    rw [t.ints] at hq
    exact ⟨q, ns, rfl, SqL.of hq, .refl _, rfl⟩) (fun vs H2 Q Q' k ⟨x, n, e, h, q⟩ => ⟨x, n, e, h, k _ _ q⟩) hg (by decide) (by decide) hs hpl
/-- o.append(e), o a variable that is a tracked list -/
theorem b_appW (hp : PE X o (tVar i)) (hσ : σ[i]? = some (some (.ref S))) (hS0 : ∃ us0, H S = some (.lst us0)) (he : wE X e σ H fun v H' => ∃ us, H' S = some (.lst us) ∧ us.length ≤ 900 ∧ wB X sts D σ (upd H' S (.lst (us ++ [v]))))
    (hb : attributeBase o "append" X.env (eval o X.env) = eval o X.env := by rfl) (hl : (apos.endLine == cpos.line) = true := by rfl) (hs : starEach [e] X.env = (false, eval e X.env) :: starEach [] X.env := by rfl)
    (hfew : ((backTo cpos (starEach [e] X.env)).all (fun x => !x.1) && (backToKw cpos (keywordEach [] X.env)).all (fun x => x.1.isSome) && decide (([e] : List Expr).length + ([] : List Keyword).length + (if ([] : List Keyword).isEmpty then 0 else 1) < 30)) = true := by rfl) (hpl : (backTo cpos (starEach [] X.env)).any (·.1) = false := by rfl)
    (hsw : swapsWith (.Call (.Attribute o "append" apos) [e] [] cpos) none pos.line X.env = pure false := by rfl) : wB X (.Expr (.Call (.Attribute o "append" apos) [e] [] cpos) pos :: sts) D σ H := by
  obtain ⟨us0, hS0⟩ := hS0
  refine b_cons (w_S (ps_expr (pe_bm PySem.F.plainAttrs_list PySem.F.slot_list_append PySem.F.type_list_append mt_append hp (pa_cons pw_E pa_nil hs) (hbase := hb) (hfew := hfew) (hline := hl) (hs := hs) (hplain := hpl)) hsw) ?_)
  refine ⟨_, hσ, .inl ⟨rfl, _, SqL.of hS0⟩, wE_mono he fun v H1 ⟨us, h1, h2, h3⟩ => ⟨S, us, v, rfl, rfl, h1, small1000 (by omega), h3⟩⟩
theorem b_app (hp : PE X o (tVar i)) (hσ : σ[i]? = some (some (.ref S))) (hS : H S = some (.lst us)) (hl9 : us.length ≤ 900) (he : Ev X σ H e P) (k : ∀ v H', Same H H' → P v H' → wB X sts D σ (upd H' S (.lst (us ++ [v]))))
    (hb : attributeBase o "append" X.env (eval o X.env) = eval o X.env := by rfl) (hl : (apos.endLine == cpos.line) = true := by rfl) (hs : starEach [e] X.env = (false, eval e X.env) :: starEach [] X.env := by rfl)
    (hfew : ((backTo cpos (starEach [e] X.env)).all (fun x => !x.1) && (backToKw cpos (keywordEach [] X.env)).all (fun x => x.1.isSome) && decide (([e] : List Expr).length + ([] : List Keyword).length + (if ([] : List Keyword).isEmpty then 0 else 1) < 30)) = true := by rfl) (hpl : (backTo cpos (starEach [] X.env)).any (·.1) = false := by rfl)
    (hsw : swapsWith (.Call (.Attribute o "append" apos) [e] [] cpos) none pos.line X.env = pure false := by rfl) : wB X (.Expr (.Call (.Attribute o "append" apos) [e] [] cpos) pos :: sts) D σ H :=
  b_appW hp hσ ⟨us, hS⟩ (w_ev he fun v H' s hv => ⟨us, s _ _ hS, hl9, k v H' s hv⟩) hb hl hs hfew hpl hsw
/-- x = [] -/
theorem b_newL {x : Str} (hN : X.N.Nodup) (hi : X.N[i]? = some x) (hx : Loc X.env.scope x) (k : ∀ S, H S = none → wB X sts D (σ.set i (some (.ref S))) (upd H S (.lst [])))
    (hs : swapsWith (.List [] p) (some (.Name x pos')) pos.line X.env = pure false := by rfl) (hf : X.fn x = true ∨ X.env.scope.names.lookup x = some .local := by first | exact .inl rfl | exact .inr rfl | assumption) : wB X (.Assign [.Name x pos'] (.List [] p) pos :: sts) D σ H :=
  b_set hN hi hx (w_E (pe_lst pa_nil) ⟨Nat.zero_le _, fun q hq => k q hq⟩) hs hf
theorem same_put {H H' : Hp} {S : Addr} {o : HO} (s : Same H H') (n : H S = none) : Same H (upd H' S o) := fun b u e => by
  rw [upd_ne (ne_of_none e n)]
  exact s b u e
end
end Cb

namespace Kn
open PySem PySem.Spec PyProof.Rows L2 Cb
theorem ev_sliceN {X : Cx} {σ : L2.St} {H : Hp} {a lo hi : Expr} {p p2 : Pos} {ds : List PyData} {i n : Nat} (ha : Ev X σ H a (Da (.tuple ds))) (hl : Ev X σ H lo (Is (.int (i : Int)))) (hh : Ev X σ H hi (Is (.int ((i + n : Nat) : Int)))) : Ev X σ H (.Subscript a (.Slice (some lo) (some hi) none p2) p) (Da (.tuple ((ds.drop i).take n))) := by
  have z := ev_sliceT (p := p) (p2 := p2) ha hl hh
  rw [Nat.add_sub_cancel_left] at z
  exact z
section
variable {P : Program} {w : World} {K : PySem.W.Frag} {mg : Str → Option Value} {base : Heap}
/-! ### part -/
def spPart : Sp := spP (fun (d : PyData × PyData × List PyData × Nat × Nat) vs H => ∃ v, vs = [v, .int (d.2.2.2.1 : Int), .int (d.2.2.2.2 : Int)] ∧ Td H (.tuple [d.1, d.2.1, .tuple d.2.2.1]) v) (fun d => Da (.tuple [d.1, d.2.1, .tuple ((d.2.2.1.drop d.2.2.2.1).take d.2.2.2.2)]))
theorem scPart : FnScope ["sheet", "first", "count", "state", "sections", "days"] ["sheet", "first", "count"] (defScope sPart) := ⟨rfl, rfl, rfl, by decide +kernel, rfl, by decide +kernel, by decide +kernel⟩
theorem ok_part {f : Addr} {fd : FuncData} (F : Fun K "part" "part" sPart f fd) : FnOk P w K mg base CX0 1 f fd ["sheet", "first", "count"] spPart := by
  refine F.ok scPart (fun vs H Q E h => ?_) (fun cdv A outer s H vs Q E hr h => ?_)
  · obtain ⟨d, ⟨v, rfl, _⟩, _⟩ := h
    rfl
  · obtain ⟨⟨dA, dB, ds, i, c⟩, ⟨v, rfl, hv⟩, k⟩ := h
    dsimp only at hv k ⊢
    refine ⟨_, pw_B, ?_⟩
    refine b_asgE (pg_tup rfl (pgs_cons (pg_name (i := 3) scPart.nd rfl (.inl rfl)) (pgs_cons (pg_name (i := 4) scPart.nd rfl (.inl rfl)) (pgs_cons (pg_name (i := 5) scPart.nd rfl (.inl rfl)) pgs_nil)))) (ev_v (pv 0) rfl hv mono_da) fun u H1 s1 hu => ?_
    obtain ⟨q, xs, rfl, hq, t⟩ := hu.un
    obtain ⟨x1, r1, rfl, t1, t⟩ := t.un
    obtain ⟨x2, r2, rfl, t2, t⟩ := t.un
    obtain ⟨x3, r3, rfl, t3, t⟩ := t.un
    obtain rfl := t.nil'
    refine ⟨q, _, rfl, .of hq, rfl, _, _, rfl, _, _, rfl, _, _, rfl, rfl, ?_⟩
    refine b_retE (ev_tupD (ds := [dA, dB, .tuple ((ds.drop i).take c)]) (ed_cons (ev_v (pv 3) rfl t1 mono_da) (ed_cons (ev_v (pv 4) rfl t2 mono_da) (ed_cons ?_ ed_nil))) (by show 3 ≤ 1000; decide)) fun v H2 s2 hv => k v H2 (s1.trans s2) hv
    exact ev_sliceN (i := i) (n := c) (ev_v (pv 5) rfl t3 mono_da) (ev_vi (pv 1) rfl) (Ev.is (ev_opI op_add (ev_vi (pv 1) rfl) (ev_vi (pv 2) rfl)) rfl)
/-! ### state_after -/
def aft (days : List (List Rat)) (bk : List (List Int)) (i : Nat) (l : Ln) : Ln := ⟨l.nm, l.ex + sumQ (days.map fun d => d.getD i 0), l.ct + (bk.map fun r => r.getD i 0).sum, l.on⟩
def aftR (rows : List Ln) (days : List (List Rat)) (bk : List (List Int)) : List Ln := rows.mapIdx (aft days bk)
/-- a sheet and a booking that fit, of a size that can be reckoned with -/
structure Fit (rows : List Ln) (days : List (List Rat)) (bk : List (List Int)) : Prop where
  n : rows.length ≤ 20
  m : days.length ≤ 20
  b : bk.length ≤ 20
  dl : ∀ d ∈ days, d.length = rows.length
  bl : ∀ r ∈ bk, r.length = rows.length
  dq : ∀ d ∈ days, ∀ q ∈ d, Bd 60 q
  rq : ∀ l ∈ rows, Bd 60 l.ex
def itemD (i : Nat) : PyData → PyData
  | .tuple es => es.getD i .none
  | _ => .none
theorem itemD_at {i : Nat} {es : List PyData} {d : PyData} (h : es[i]? = some d) : itemD i (.tuple es) = d := by
  show es.getD i .none = d
  rw [List.getD_eq_getElem?_getD, h]
  rfl
theorem map_at {α β : Type} {f : α → β} {l : List α} {k : Nat} {b : β} (h : (l.map f)[k]? = some b) : ∃ a, l[k]? = some a ∧ f a = b := by
  rw [List.getElem?_map] at h
  cases e : l[k]? with
  | none =>
    rw [e] at h
    cases h
  | some a =>
    rw [e] at h
    cases h
    exact ⟨a, rfl, rfl⟩
theorem day_at {d : List Rat} {i n : Nat} (h : d.length = n) (hi : i < n) : (d.map qd)[i]? = some (qd (d.getD i 0)) := by
  have hd : i < d.length := by omega
  rw [List.getElem?_map, List.getElem?_eq_getElem hd, List.getD_eq_getElem?_getD, List.getElem?_eq_getElem hd]
  rfl
theorem row_at {r : List Int} {i n : Nat} (h : r.length = n) (hi : i < n) : (r.map PyData.int)[i]? = some (.int (r.getD i 0)) := by
  have hd : i < r.length := by omega
  rw [List.getElem?_map, List.getElem?_eq_getElem hd, List.getD_eq_getElem?_getD, List.getElem?_eq_getElem hd]
  rfl
def spAfter : Sp := spP (fun (d : List Ln × PyData × List (List Rat) × List (List Int)) vs H => (∃ v b, vs = [v, b] ∧ Td H (.tuple [rowsD d.1, d.2.1, daysD d.2.2.1]) v ∧ Td H (bkD d.2.2.2) b) ∧ Fit d.1 d.2.2.1 d.2.2.2) (fun d => Da (rowsD (aftR d.1 d.2.2.1 d.2.2.2)))
abbrev NA : List Str := ["sheet", "booking", "state", "_", "days", "after", "i", "name", "exact", "cents", "goes_on", "charged", "booked", "day", "row"]
theorem scAfter : FnScope NA ["sheet", "booking"] (defScope sAfter) := ⟨rfl, rfl, rfl, by decide +kernel, rfl, by decide +kernel, by decide +kernel⟩
theorem ev_tot {X : Cx} {σ : L2.St} {H : Hp} {a : Expr} {p q : Pos} {rs : List Rat} {k : Nat} {f : Addr} {fd : FuncData} {ps : List Str} (g : GDef X "pair_total" k f fd ps spTot) (ha : Ev X σ H a (LstD (rs.map qd))) (hb : ∀ r ∈ rs, Bd 60 r) (hl : rs.length ≤ 20) (hg : Gl X "pair_total" := by rfl) (hs : starEach [a] X.env = (false, eval a X.env) :: starEach [] X.env := by rfl)
    (hpl : (backTo p (starEach [] X.env)).any (·.1) = false := by rfl) : Ev X σ H (.Call (.Name "pair_total" q) [a] [] p) (Da (qd (sumQ rs))) := ev_callP rs g (ea_1 ha mono_lstD hs) (fun vs H2 _ h => ⟨h.one, hb, hl⟩) hg (by decide) hs hpl
theorem ok_after {f f1 f2 : Addr} {fd fd1 fd2 : FuncData} (F : Fun K "state_after" "state_after" sAfter f fd) (G1 : FnOk P w K mg base CX0 2 f1 fd1 ["one", "other"] (spQ2 fun r q => r + q)) (k1 : PySem.W.keepIn K (.ref f1) = true) (b1 : Binds K fd1 ["one", "other"] []) (g1 : mg "pair_sum" = some (.ref f1))
    (G2 : FnOk P w K mg base CX0 3 f2 fd2 ["pairs"] spTot) (k2 : PySem.W.keepIn K (.ref f2) = true) (b2 : Binds K fd2 ["pairs"] []) (g2 : mg "pair_total" = some (.ref f2)) (ze : mg "enumerate" = none) (zs : mg "sum" = none) (zt : mg "tuple" = none) : FnOk P w K mg base CX0 4 f fd ["sheet", "booking"] spAfter := by
  refine F.ok scAfter (fun vs H Q E h => ?_) (fun cdv A outer s H vs Q E hr h => ?_)
  · obtain ⟨d, ⟨⟨v, b, rfl, _⟩, _⟩, _⟩ := h
    rfl
  · obtain ⟨⟨rows, parts, days, bk⟩, ⟨⟨v, b, rfl, hv, hb⟩, fit⟩, k⟩ := h
    dsimp only at hv hb k fit
    refine ⟨_, pw_B, ?_⟩
    refine b_asgE (pg_tup rfl (pgs_cons (pg_name (i := 2) scAfter.nd rfl (.inl rfl)) (pgs_cons (pg_name (i := 3) scAfter.nd rfl (.inl rfl)) (pgs_cons (pg_name (i := 4) scAfter.nd rfl (.inl rfl)) pgs_nil)))) (ev_v (pv 0) rfl hv mono_da) fun u H1 s1 hu => ?_
    obtain ⟨q, xs, rfl, hq, t⟩ := hu.un
    obtain ⟨x1, r1, rfl, t1, t⟩ := t.un
    obtain ⟨x2, r2, rfl, t2, t⟩ := t.un
    obtain ⟨x3, r3, rfl, t3, t⟩ := t.un
    obtain rfl := t.nil'
    refine ⟨q, _, rfl, .of hq, rfl, _, _, rfl, _, _, rfl, _, _, rfl, rfl, ?_⟩
    have hb1 := Td.keep (.of s1) _ _ hb
    obtain ⟨q1, xs1, rfl, hq1, t1⟩ := t1.un
    refine b_newL (i := 5) scAfter.nd rfl (.inl rfl) fun S nS => ?_
    refine b_for rfl (pi_enumT (by rfl) ze (pa_cons (pv 2) pa_nil)) (pg_tup rfl (pgs_cons (pg_name (i := 6) scAfter.nd rfl (.inr rfl)) (pgs_cons (pg_tup rfl (pgs_cons (pg_name (i := 7) scAfter.nd rfl (.inl rfl)) (pgs_cons (pg_name (i := 8) scAfter.nd rfl (.inl rfl)) (pgs_cons (pg_name (i := 9) scAfter.nd rfl (.inl rfl)) (pgs_cons (pg_name (i := 10) scAfter.nd rfl (.inl rfl)) pgs_nil))))) pgs_nil))) ?_ PassesOwn.never
    refine ⟨_, rfl, q1, xs1, rfl, .of (same_new nS _ _ hq1), for_enumT (K := K) (a := q1) (xs := xs1) (fun i σ H => ∃ y6 y7 y8 y9 y10 y11 y12, σ = [some v, some b, some (.ref q1), some x2, some x3, some (.ref S), y6, y7, y8, y9, y10, y11, y12, none, none] ∧ Same H1 H ∧ ∃ us, H S = some (.lst us) ∧ us.length = i ∧ Tds H (((aftR rows days bk).take i).map ld) us)
      ⟨none, none, none, none, none, none, none, rfl, same_new nS, [], upd_same, rfl, .nil⟩ (fun i σ H _ ⟨_, _, _, _, _, _, _, _, tk, _⟩ => .of (tk _ _ hq1)) ?_ ?_⟩
    · rintro i x σ H3 T hx ⟨y6, y7, y8, y9, y10, y11, y12, rfl, tk, us, hS3, hl3, ht3⟩ hT
      have sT : Same H3 (upd H3 T (.tup [.int (i : Nat), x])) := same_new hT
      have hT4 : (upd H3 T (.tup [.int (i : Nat), x])) T = some (.tup [.int (i : Nat), x]) := upd_same
      generalize upd H3 T (.tup [.int (i : Nat), x]) = H4 at sT hT4 ⊢
      have tk4 : TupK H1 H4 := .of (tk.trans sT)
      obtain ⟨d, hd, td⟩ := t1.at' hx
      obtain ⟨l, hl, rfl⟩ := map_at hd
      have hi : i < rows.length := (List.getElem?_eq_some_iff.mp hl).1
      have hlm : l ∈ rows := List.mem_of_getElem? hl
      obtain ⟨qx, xx, rfl, hqx, tx⟩ := (Td.keep tk4 _ _ td).un
      obtain ⟨n1, w1, rfl, tn, tx⟩ := tx.un
      obtain ⟨n2, w2, rfl, te, tx⟩ := tx.un
      obtain ⟨n3, w3, rfl, tc, tx⟩ := tx.un
      obtain ⟨n4, w4, rfl, to_, tx⟩ := tx.un
      obtain rfl := tx.nil'
      have tdays : Td H4 (.tuple (days.map dayD)) x3 := Td.keep tk4 _ _ t3
      have tbk : Td H4 (.tuple (bk.map rowI)) b := Td.keep tk4 _ _ hb1
      refine ⟨T, _, rfl, .of hT4, rfl, _, _, rfl, _, _, rfl, qx, _, rfl, .of hqx, rfl, _, _, rfl, _, _, rfl, _, _, rfl, _, _, rfl, rfl, rfl, ?_⟩
      have e1 : (days.map dayD).map (itemD i) = (days.map fun d => d.getD i 0).map qd := by
        rw [List.map_map, List.map_map]
        refine List.map_congr_left fun d hd => ?_
        exact itemD_at (day_at (fit.dl d hd) hi)
      have e2 : (bk.map rowI).map (itemD i) = (bk.map fun r => r.getD i 0).map PyData.int := by
        rw [List.map_map, List.map_map]
        refine List.map_congr_left fun r hr => ?_
        exact itemD_at (row_at (fit.bl r hr) hi)
      have hq60 : ∀ r ∈ days.map (fun d => d.getD i 0), Bd 60 r := fun r hr => by
        obtain ⟨d, hd, rfl⟩ := List.mem_map.mp hr
        have hdl := fit.dl d hd
        rw [List.getD_eq_getElem?_getD, List.getElem?_eq_getElem (by omega)]
        exact fit.dq d hd _ (List.getElem_mem _)
      refine b_setE (i := 11) scAfter.nd rfl (.inl rfl) (ev_tot (rs := days.map fun d => d.getD i 0) ⟨G2, hr.mono (by decide), g2, k2, b2⟩ ?_ hq60 (by rw [List.length_map]; exact fit.m)) fun v5 H5 s5 h5 => ?_
      · rw [← e1]
        refine ev_lcT rfl scAfter.nd (blkOk_by (N := NA) (sc := defScope sAfter) (by decide +kernel)) (fun _ _ _ _ _ => pg_name (i := 13) scAfter.nd rfl (Or.inl rfl)) (ev_v (pv 4) rfl tdays mono_da) (by rw [List.length_map]; have := fit.m; omega) fun k d v H' hd s td s' H0 C cl fp => ?_
        obtain ⟨day, hday, rfl⟩ := map_at hd
        have at1 := day_at (fit.dl day (List.mem_of_getElem? hday)) hi
        rw [show itemD i (dayD day) = qd (day.getD i 0) from itemD_at at1]
        exact ev_ixD (ev_v (pv 13) rfl td mono_da) (ev_vi (pv 6) rfl) at1
      have tk5 := tk4.trans (.of s5)
      have tbk5 := Td.keep (.of s5) _ _ tbk
      refine b_setE (i := 12) scAfter.nd rfl (.inl rfl) (ev_sum (ns := bk.map fun r => r.getD i 0) rfl zs ?_) fun v6 H6 s6 h6 => ?_
      · rw [← e2]
        refine ev_lcT rfl scAfter.nd (blkOk_by (N := NA) (sc := defScope sAfter) (by decide +kernel)) (fun _ _ _ _ _ => pg_name (i := 14) scAfter.nd rfl (Or.inl rfl)) (ev_v (pv 1) rfl tbk5 mono_da) (by rw [List.length_map]; have := fit.b; omega) fun k d v H' hd s td s' H0 C cl fp => ?_
        obtain ⟨row, hrow, rfl⟩ := map_at hd
        have at1 := row_at (fit.bl row (List.mem_of_getElem? hrow)) hi
        rw [show itemD i (rowI row) = .int (row.getD i 0) from itemD_at at1]
        exact ev_ixD (ev_v (pv 14) rfl td mono_da) (ev_vi (pv 6) rfl) at1
      cases h6
      have s46 := s5.trans s6
      have hS6 := s46 _ _ (sT _ _ hS3)
      refine b_app (i := 5) (pv 5) rfl hS6 (by have := fit.n; omega) (P := Da (ld (aft days bk i l))) (ev_tupD (ds := [.str l.nm, qd (l.ex + sumQ (days.map fun d => d.getD i 0)), .int (l.ct + (bk.map fun r => r.getD i 0).sum), .bool l.on]) (ed_cons (ev_v (pv 7) rfl (Td.keep (.of s46) _ _ tn) mono_da) (ed_cons ?_ (ed_cons (Ev.int (ev_opI op_add (Ev.ofInt (ev_v (pv 9) rfl (Td.keep (.of s46) _ _ tc) mono_da)) (ev_vi (pv 12) rfl))) (ed_cons (ev_v (pv 10) rfl (Td.keep (.of s46) _ _ to_) mono_da) ed_nil)))) (by show 4 ≤ 1000; decide)) fun v7 H7 s7 h7 => b_nil ?_
      · exact ev_q2 ⟨G1, hr.mono (by decide), g1, k1, b1⟩ (ev_v (pv 8) rfl (Td.keep (.of s46) _ _ te) mono_da) (ev_v (pv 11) rfl (Td.keep (.of s6) _ _ h5) mono_da) ((fit.rq l hlm).mono (by decide)) ((bd_sumQ hq60).mono (by rw [List.length_map]; have := fit.m; omega))
      have hS7 := s7 _ _ hS6
      have ka : TupK H7 (upd H7 S (.lst (us ++ [v7]))) := .app hS7
      refine ⟨_, _, _, _, _, _, _, rfl, same_put ((tk.trans sT).trans (s46.trans s7)) nS, us ++ [v7], upd_same, by rw [List.length_append, hl3]; rfl, ?_⟩
      have ha : (aftR rows days bk)[i]? = some (aft days bk i l) := by
        unfold aftR
        rw [List.getElem?_mapIdx, hl]
        rfl
      rw [take_snoc ha, List.map_append]
      exact (Tds.keep ((TupK.of ((sT.trans s46).trans s7)).trans ka) _ _ ht3).snoc (Td.keep ka _ _ h7)
    · rintro σ H3 ⟨y6, y7, y8, y9, y10, y11, y12, rfl, tk, us, hS3, hl3, ht3⟩
      have e : xs1.length = (aftR rows days bk).length := by
        rw [t1.len, List.length_map]
        unfold aftR
        rw [List.length_mapIdx]
      rw [e, List.take_length] at ht3
      exact b_retE (ev_tupleL zt (ev_v (pv 5) rfl ⟨S, us, rfl, hS3, ht3⟩ mono_lstD)) fun v4 H4 s4 h4 => k v4 H4 ((s1.trans tk).trans s4) h4
end
end Kn

namespace Cb
open PySem PySem.Spec PyProof.Rows L2
section
variable {X : Cx} {a : Expr} {σ : L2.St} {H H' : Hp} {p p' : Pos} {ds : List PyData}
theorem rmono_sort {K : PySem.W.Frag} : RMono (rSortD K) := fun vs H Q Q' k ⟨a, xs, ds, h1, h2, h3, h4, h5, h6, q⟩ => ⟨a, xs, ds, h1, h2, h3, h4, h5, h6, fun ys p l t n => k _ _ (q ys p l t n)⟩
theorem ev_sortT (hu : X.A.units + 64 < cLine) (hm : X.mg "sorted" = none) (ha : Ev X σ H a (Da (.tuple ds))) (hal : PySem.W.AllAlike ds) (hk : PySem.W.Sortable ds) (hd : ∀ d ∈ ds, d.depth ≤ 50) (hg : Gl X "sorted" := by rfl) (hs : starEach [a] X.env = (false, eval a X.env) :: starEach [] X.env := by rfl) (hpl : (backTo p (starEach [] X.env)).any (·.1) = false := by rfl) :
    Ev X σ H (.Call (.Name "sorted" p') [a] [] p) (LstD (sortD ds)) := ev_cb (cr_sortD hu) hm (by decide +kernel) (ea_1 ha mono_da hs) (fun vs H2 s h => by
  obtain ⟨v, rfl, hv⟩ := h.one
  obtain ⟨q, xs, rfl, hq, t⟩ := Td.un hv
  exact ⟨q, xs, ds, rfl, .inr hq, t, hal, hk, hd, fun ys p l ty hp => ⟨same_new hp, p, ys, rfl, upd_same, Tds.keep (.of (same_new hp)) _ _ ty⟩⟩) rmono_sort hg (by decide) (by decide) hs hpl
theorem ev_sortL (hu : X.A.units + 64 < cLine) (hm : X.mg "sorted" = none) (ha : Ev X σ H a (LstD ds)) (hal : PySem.W.AllAlike ds) (hk : PySem.W.Sortable ds) (hd : ∀ d ∈ ds, d.depth ≤ 50) (hg : Gl X "sorted" := by rfl) (hs : starEach [a] X.env = (false, eval a X.env) :: starEach [] X.env := by rfl) (hpl : (backTo p (starEach [] X.env)).any (·.1) = false := by rfl) :
    Ev X σ H (.Call (.Name "sorted" p') [a] [] p) (LstD (sortD ds)) := ev_cb (cr_sortD hu) hm (by decide +kernel) (ea_1 ha mono_lstD hs) (fun vs H2 s h => by
  obtain ⟨v, rfl, q, xs, rfl, hq, t⟩ := h.one
  exact ⟨q, xs, ds, rfl, .inl hq, t, hal, hk, hd, fun ys p l ty hp => ⟨same_new hp, p, ys, rfl, upd_same, Tds.keep (.of (same_new hp)) _ _ ty⟩⟩) rmono_sort hg (by decide) (by decide) hs hpl
end
theorem alike_strs (xs : List Str) : PySem.W.AllAlike (xs.map PyData.str) := PySem.W.AllAlike.of (enc := PyData.str) fun _ _ => by simp [PySem.W.alike]
theorem sortable_strs (xs : List Str) : PySem.W.Sortable (xs.map PyData.str) := by
  refine .inr fun d hd => ?_
  obtain ⟨x, _, rfl⟩ := List.mem_map.mp hd
  exact ⟨fun z => PyData.noConfusion z, fun _ z => PyData.noConfusion z⟩
theorem depth_strs (xs : List Str) : ∀ d ∈ xs.map PyData.str, d.depth ≤ 50 := fun d hd => by
  obtain ⟨x, _, rfl⟩ := List.mem_map.mp hd
  show 0 ≤ 50
  decide
end Cb
namespace Kn
open PySem PySem.Spec PyProof.Rows L2 Cb
def fr (d : PyData) : PyData := .tuple [d, qd 0, .int 0, .bool true]
def freshD (xs : List Str) : PyData := .tuple ((sortD (xs.map PyData.str)).map fr)
def spFresh : List V → Addr → Hp → VK → Prop := fun vs T H Q => vs = [] ∧ ∃ xs : List Str, H T = some (.tup (xs.map V.str)) ∧ xs.length ≤ 900 ∧ ∀ v H', Same H H' → Td H' (freshD xs) v → Q v H'
section
variable {P : Program} {w : World} {K : PySem.W.Frag} {mg : Str → Option Value} {base : Heap}
theorem scFresh : FnScope ["lines", "name"] ["lines"] (defScope sFresh) := ⟨rfl, rfl, rfl, by decide +kernel, rfl, by decide +kernel, by decide +kernel⟩
theorem ok_fresh {f : Addr} {fd : FuncData} (F : Fun K "fresh" "fresh" sFresh f fd) (bv : BindsV fd 0 ["lines"]) (zs : mg "sorted" = none) (zt : mg "tuple" = none) : FnV P w K mg base 2 f 0 spFresh := by
  refine okV F scFresh rfl bv fun cdv A outer s H vs T Q E hr hl0 h => ?_
  obtain ⟨rfl, xs, hT, hl, k⟩ := h
  have tT : Td H (.tuple (xs.map PyData.str)) (.ref T) := .mk hT (tds_strs xs)
  have hlen : (sortD (xs.map PyData.str)).length = xs.length := by
    unfold sortD
    rw [(List.mergeSort_perm _ _).length_eq, List.length_map]
  refine b_retE (ev_tupleL zt (ds := (sortD (xs.map PyData.str)).map fr) (ev_lcL (i := 1) rfl scFresh.nd (blkOk_by (N := ["lines", "name"]) (sc := defScope sFresh) (by decide +kernel)) (fun _ _ _ _ _ => pg_name (i := 1) scFresh.nd rfl (Or.inl rfl)) (ev_sortT hr.units zs (ev_v (pv 0) rfl tT mono_da) (alike_strs xs) (sortable_strs xs) (depth_strs xs)) (by rw [hlen]; omega) ?_)) fun v H2 s2 h2 => k v H2 s2 h2
  intro j d v H' hd s td s' H0 C cl fp
  exact ev_tupD (ds := [d, qd 0, .int 0, .bool true]) (ed_cons (ev_v (pv 1) rfl td mono_da) (ed_cons (ev_tupD (ds := [.int 0, .int 1]) (ed_cons (Ev.int (ev_c pe_int)) (ed_cons (Ev.int (ev_c pe_int)) ed_nil)) (by show 2 ≤ 1000; decide)) (ed_cons (Ev.int (ev_c pe_int)) (ed_cons (Ev.bool (ev_c pe_bl)) ed_nil)))) (by show 4 ≤ 1000; decide)
end
end Kn

namespace Kn
open PySem PySem.Spec PyProof.Rows L2 Cb
/-- what stands at d: the reader, over a list of ints -/
def Rd (d c : Addr) (H : Hp) : Prop := ∃ (ns : List Int) (nx rs dr : Int), H d = some (.dK (kv4 (.ref c) (.int nx) (.int rs) (.int dr))) ∧ H c = some (.lst (ns.map V.int))
/-- all but d stays -/
def KeepX (d : Addr) (H H' : Hp) : Prop := ∀ b o, b ≠ d → H b = some o → H' b = some o
theorem KeepX.of {d : Addr} {H H' : Hp} (s : Same H H') : KeepX d H H' := fun b o _ e => s b o e
theorem KeepX.trans {d : Addr} {H H1 H2 : Hp} (a : KeepX d H H1) (b : KeepX d H1 H2) : KeepX d H H2 := fun c o n e => b c o n (a c o n e)
theorem KeepX.put {d : Addr} {H : Hp} {o : HO} : KeepX d H (upd H d o) := fun b u n e => by
  rw [upd_ne n]
  exact e
def spReader (K : PySem.W.Frag) : Sp := fun vs H Q _ => ∃ (a : Addr) (ns : List Int), vs = [.ref a] ∧ SqL K H a (ns.map V.int) ∧ ∀ d c H', Same H H' → Rd d c H' → H d = none → Q (.ref d) H'
def spDraw : Sp := fun vs H Q _ => ∃ (d c : Addr) (m : Int), vs = [.ref d, .int m] ∧ 0 < m ∧ m < 1000000000000 ∧ Rd d c H ∧ ∀ z H', 0 ≤ z → z < m → KeepX d H H' → Rd d c H' → Q (.int z) H'
section
variable {P : Program} {w : World} {K : PySem.W.Frag} {mg : Str → Option Value} {base : Heap}
theorem scReader : FnScope ["_law_script"] ["_law_script"] (defScope sReader) := ⟨rfl, rfl, rfl, by decide +kernel, rfl, by decide +kernel, by decide +kernel⟩
theorem same_dict {H : Hp} {p : Addr} {o : HO} (hp : H p = none) : Same H (upd H p o) := same_new hp
theorem ok_reader {f : Addr} {fd : FuncData} (F : Fun K "_law_reader" "_law_reader" sReader f fd) (zl : mg "list" = none) : FnOk P w K mg base CX0 1 f fd ["_law_script"] (spReader K) := by
  refine F.ok scReader (fun vs H Q E h => ?_) (fun cdv A outer s H vs Q E hr h => ?_)
  · obtain ⟨a, ns, rfl, _⟩ := h
    rfl
  · obtain ⟨a, ns, rfl, hS, k⟩ := h
    refine ⟨_, pw_B, b_ret (w_E (pe_disp (pps_cons pe_str (pe_callTy call_list_of (by rfl) zl (by decide +kernel) (pa_cons (pe_slice sl_list (pv 0) po_none (po_some pe_int)) pa_nil)) (pps_cons pe_str pe_int (pps_cons pe_str pe_int (pps_cons pe_str pe_int pps_nil)))) (by rfl) (by rfl) (fun z => by cases z) (by decide)) ?_)⟩
    intro d hd
    have hS1 : SqL K (upd H d (.dK [])) a (ns.map V.int) := (same_new hd).seq hS
    refine ⟨.ref a, rfl, 63, rfl, a, _, rfl, hS1, fun p hp => ?_⟩
    have npd : d ≠ p := fun e => by
      rw [← e, upd_same] at hp
      cases hp
    refine ⟨p, _, rfl, .inl (.inl (.inl upd_same)), fun q hq => ?_⟩
    have nqd : d ≠ q := fun e => by
      rw [← e, upd_ne npd, upd_same] at hq
      cases hq
    have nqp : p ≠ q := fun e => by
      rw [← e, upd_same] at hq
      cases hq
    have hp0 : H p = none := by
      rw [upd_ne npd.symm] at hp
      exact hp
    have hq0 : H q = none := by
      rw [upd_ne nqp.symm, upd_ne nqd.symm] at hq
      exact hq
    refine ⟨by rw [upd_ne nqd, upd_ne npd, upd_same], kv4 (.ref q) (.int 0) (.int 0) (.int 0), rfl, by show 4 ≤ 15; decide, ?_⟩
    rw [kv4_merge]
    obtain ⟨xs, hx⟩ : ∃ xs : List Int, cutV (ns.map V.int) none (some 63) = xs.map V.int := by
      unfold cutV
      exact ⟨(ns.drop _).take _, by rw [List.map_take, List.map_drop]⟩
    refine k d q _ (fun b o e => ?_) ⟨xs, 0, 0, 0, upd_same, ?_⟩ hd
    · rw [upd_ne (ne_of_none e hd), upd_ne (ne_of_none e hq0), upd_ne (ne_of_none e hp0), upd_ne (ne_of_none e hd)]
      exact e
    · rw [upd_ne nqd.symm, upd_same, hx]
theorem scDraw : FnScope ["_law_reader_here", "_law_many", "_law_digit", "_law_spot", "_law_cell", "_law_mixed"] ["_law_reader_here", "_law_many"] (defScope sDraw) := ⟨rfl, rfl, rfl, by decide +kernel, rfl, by decide +kernel, by decide +kernel⟩
theorem mod_at {ns : List Int} {i : Int} (h : ns ≠ []) : ∃ z, atI (ns.map V.int) (i % ((ns.map V.int).length : Int)) = some (.int z) := by
  have hl : 0 < (ns.map V.int).length := by
    rw [List.length_map]
    exact List.length_pos_iff.mpr h
  have h0 : 0 ≤ i % ((ns.map V.int).length : Int) := Int.emod_nonneg _ (by omega)
  have h1 : i % ((ns.map V.int).length : Int) < ((ns.map V.int).length : Int) := Int.emod_lt_of_pos _ (by omega)
  obtain ⟨j, ej⟩ := Int.eq_ofNat_of_zero_le h0
  rw [ej] at h1 ⊢
  have hj : j < ns.length := by
    rw [List.length_map] at h1
    omega
  exact ⟨ns[j], atI_nat (by rw [List.getElem?_map, List.getElem?_eq_getElem hj]; rfl)⟩
theorem mixLt {x m : Int} (h : 0 < m ∧ m < 2 ^ 64) : -(2 ^ 64) < x % m ∧ x % m < 2 ^ 64 := by
  have h1 := Int.emod_nonneg x (show m ≠ 0 by omega)
  have h2 := Int.emod_lt_of_pos x h.1
  have h3 := h.2
  constructor
  · exact Int.lt_of_lt_of_le (by decide) h1
  · exact Int.lt_trans h2 h3
theorem divM {o m : Int} (h0 : 0 < m) (hm : m < 1000000000000) : CDivA o m := .inl ⟨h0, Nat.lt_trans (PySem.Flt.log2_lt_of (k := 40) (by decide) (Nat.lt_trans (by omega : m.natAbs < 1000000000000) (by decide))) (by decide)⟩
theorem ok_draw {f : Addr} {fd : FuncData} (F : Fun K "_law_draw" "_law_draw" sDraw f fd) (zl : mg "len" = none) : FnOk P w K mg base CX0 1 f fd ["_law_reader_here", "_law_many"] spDraw := by
  refine F.ok scDraw (fun vs H Q E h => ?_) (fun cdv A outer s H vs Q E hr h => ?_)
  · obtain ⟨d, c, m, rfl, _⟩ := h
    rfl
  · obtain ⟨d, c, m, rfl, h0, hm, ⟨ns, nx, rs, dr, hd, hc⟩, k⟩ := h
    have hu := hu_of hr
    have ncd : c ≠ d := ne_of hc hd (by intro z; cases z)
    refine ⟨_, pw_B, ?_⟩
    -- draws + 1
    refine b_dput (k := Kd) hu (ev_opI op_add (ev_dget (k := Kd) hu (ev_vi (pv 0) rfl) (ev_c pe_str) hd (kv4_d _ _ _ _)) (ev_c pe_int)) (ev_vi (pv 0) rfl) (ev_c pe_str) hd (kv4_len _ _ _ _) fun H1 s1 => ?_
    rw [kv4_putD]
    generalize hH2 : upd H1 d (.dK (kv4 (.ref c) (.int nx) (.int rs) (.int (dr + 1)))) = H2
    have hd2 : H2 d = some (.dK (kv4 (.ref c) (.int nx) (.int rs) (.int (dr + 1)))) := by rw [← hH2, upd_same]
    have hc2 : H2 c = some (.lst (ns.map V.int)) := by
      rw [← hH2, upd_ne ncd]
      exact s1 _ _ hc
    have k2 : KeepX d H H2 := hH2 ▸ (KeepX.of s1).trans KeepX.put
    clear hH2 hd hc s1
    -- if rest > 0
    refine b_ifE (CC.et (c_I op_gt (nomark _) (ev_dget (k := Kr) hu (ev_vi (pv 0) rfl) (ev_c pe_str) hd2 (kv4_r _ _ _ _)) (ev_c pe_int))) (fun h H3 s3 => ?_) (fun h H3 s3 => ?_)
    · have hd3 := s3 _ _ hd2
      have hc3 := s3 _ _ hc2
      refine b_setE (i := 2) scDraw.nd rfl (.inl rfl) (ev_opC op_mod (ev_dget (k := Kr) hu (ev_vi (pv 0) rfl) (ev_c pe_str) hd3 (kv4_r _ _ _ _)) (ev_vi (pv 1) rfl) h0) fun _ H4 s4 e => ?_
      cases e
      have hd4 := s4 _ _ hd3
      have hc4 := s4 _ _ hc3
      refine b_dput (k := Kr) hu (ev_opC op_fdivA (ev_dget (k := Kr) hu (ev_vi (pv 0) rfl) (ev_c pe_str) hd4 (kv4_r _ _ _ _)) (ev_vi (pv 1) rfl) (divM h0 hm)) (ev_vi (pv 0) rfl) (ev_c pe_str) hd4 (kv4_len _ _ _ _) fun H5 s5 => ?_
      rw [kv4_putR]
      refine b_retE (ev_vi (pv 2) rfl) fun v H6 s6 e => ?_
      cases e
      refine k _ H6 (Int.emod_nonneg _ (by omega)) (Int.emod_lt_of_pos _ h0) ?_ ⟨ns, nx, _, _, s6 _ _ upd_same, s6 _ _ (by rw [upd_ne ncd]; exact s5 _ _ hc4)⟩
      exact (((k2.trans (.of s3)).trans (.of s4)).trans (.of s5)).trans (KeepX.put.trans (.of s6))
    · refine b_nil ?_
      have hd3 := s3 _ _ hd2
      have hc3 := s3 _ _ hc2
      have k3 := k2.trans (.of s3)
      -- spot
      refine b_setE (i := 3) scDraw.nd rfl (.inl rfl) (ev_dget (k := Kn) hu (ev_vi (pv 0) rfl) (ev_c pe_str) hd3 (kv4_n _ _ _ _)) fun _ H4 s4 e => ?_
      cases e
      have hd4 := s4 _ _ hd3
      have hc4 := s4 _ _ hc3
      refine b_dput (k := Kn) hu (ev_opI op_add (ev_vi (pv 3) rfl) (ev_c pe_int)) (ev_vi (pv 0) rfl) (ev_c pe_str) hd4 (kv4_len _ _ _ _) fun H5 s5 => ?_
      rw [kv4_putN]
      generalize hH6 : upd H5 d (.dK (kv4 (.ref c) (.int (nx + 1)) (.int rs) (.int (dr + 1)))) = H6
      have hd6 : H6 d = some (.dK (kv4 (.ref c) (.int (nx + 1)) (.int rs) (.int (dr + 1)))) := by rw [← hH6, upd_same]
      have hc6 : H6 c = some (.lst (ns.map V.int)) := by
        rw [← hH6, upd_ne ncd]
        exact s5 _ _ hc4
      have k6 : KeepX d H H6 := hH6 ▸ ((k3.trans (.of s4)).trans (.of s5)).trans KeepX.put
      clear hH6
      -- cell
      refine b_setE (i := 4) scDraw.nd rfl (.inl rfl) (P := fun v _ => ∃ z, v = .int z) (ev_if (k := !ns.isEmpty) ?_ (fun h => ?_) (fun h => ?_)) fun v H7 s7 ⟨z, e⟩ => ?_
      · exact EvT.is (CC.et (c_neD hr.units (ev_dget (k := Kc) hu (ev_vi (pv 0) rfl) (ev_c pe_str) hd6 (kv4_c _ _ _ _)) (ev_lstI (xs := []) ea_nil (by show 0 ≤ 1000; decide)) mono_is (fun x H' s e => by
          cases e
          exact .lst (.of (s _ _ hc6)) (dp_ints ns)) (fun x H' s ⟨q, e, hq⟩ => by
          subst e
          exact .lst (.of hq) .nil) (shaped_ints ns) rfl)) (by rw [eqv_nil])
      · have hne : ns ≠ [] := by
          intro e
          rw [e] at h
          exact Bool.noConfusion h
        obtain ⟨z, hz⟩ := mod_at (ns := ns) (i := nx) hne
        have hl : (0 : Int) < ((ns.map V.int).length : Int) := by
          rw [List.length_map]
          have := List.length_pos_iff.mpr hne
          omega
        refine Ev.imp (P := Is (.int z)) ?_ fun v H' _ e => ⟨z, e⟩
        exact ev_ixL (ev_dget (k := Kc) hu (ev_vi (pv 0) rfl) (ev_c pe_str) hd6 (kv4_c _ _ _ _)) (ev_opC op_mod (ev_vi (pv 3) rfl) (ev_lenL zl (ev_dget (k := Kc) hu (ev_vi (pv 0) rfl) (ev_c pe_str) hd6 (kv4_c _ _ _ _)) hc6) hl) hc6 hz
      · exact (ev_c pe_int).imp fun v H' _ e => ⟨_, e⟩
      subst e
      have hd7 := s7 _ _ hd6
      have hc7 := s7 _ _ hc6
      have k7 := k6.trans (.of s7)
      -- if cell >= 10 ** 18 and spot < len(..)
      refine b_ifE (et_w (ew_and (CC.et (c_I op_ge (nomark _) (ev_vi (pv 4) rfl) (ev_opC op_pow (ev_c pe_int) (ev_c pe_int) ⟨by decide, by decide, by decide⟩))) fun _ => ew_and1 (CC.et (c_I op_lt (nomark _) (ev_vi (pv 3) rfl) (ev_lenL zl (ev_dget (k := Kc) hu (ev_vi (pv 0) rfl) (ev_c pe_str) hd7 (kv4_c _ _ _ _)) hc7))))) (fun h H8 s8 => ?_) (fun h H8 s8 => ?_)
      · have hd8 := s8 _ _ hd7
        have hc8 := s8 _ _ hc7
        refine b_dput (k := Kr) hu (ev_opC op_fdivA (ev_vi (pv 4) rfl) (ev_vi (pv 1) rfl) (divM h0 hm)) (ev_vi (pv 0) rfl) (ev_c pe_str) hd8 (kv4_len _ _ _ _) fun H9 s9 => ?_
        rw [kv4_putR]
        refine b_retE (ev_opC op_mod (ev_vi (pv 4) rfl) (ev_vi (pv 1) rfl) h0) fun v H10 s10 e => ?_
        cases e
        refine k _ H10 (Int.emod_nonneg _ (by omega)) (Int.emod_lt_of_pos _ h0) ?_ ⟨ns, _, _, _, s10 _ _ upd_same, s10 _ _ (by rw [upd_ne ncd]; exact s9 _ _ hc8)⟩
        exact ((k7.trans (.of s8)).trans (.of s9)).trans (KeepX.put.trans (.of s10))
      · refine b_nil ?_
        have hd8 := s8 _ _ hd7
        have hc8 := s8 _ _ hc7
        refine b_setE (i := 5) scDraw.nd rfl (.inl rfl) (ev_opC op_mod (ev_opI op_add (ev_opI op_add (ev_opC op_mod (ev_vi (pv 4) rfl) (ev_c pe_int) (by decide)) (ev_opC op_mul (ev_c pe_int) (ev_dget (k := Kd) hu (ev_vi (pv 0) rfl) (ev_c pe_str) hd8 (kv4_d _ _ _ _)) (.inl (by decide)))) (ev_c pe_int)) (ev_c pe_int) (by decide)) fun _ H9 s9 e => ?_
        cases e
        have hd9 := s9 _ _ hd8
        have hc9 := s9 _ _ hc8
        refine b_setE (i := 5) scDraw.nd rfl (.inl rfl) (ev_opC op_mod (ev_opI op_add (ev_opI op_add (ev_opC op_mul (ev_vi (pv 5) rfl) (ev_vi (pv 5) rfl) (.inl (mixLt (by decide)))) (ev_opC op_mul (ev_c pe_int) (ev_dget (k := Kd) hu (ev_vi (pv 0) rfl) (ev_c pe_str) hd9 (kv4_d _ _ _ _)) (.inl (by decide)))) (ev_c pe_int)) (ev_c pe_int) (by decide)) fun _ H10 s10 e => ?_
        cases e
        have hd10 := s10 _ _ hd9
        have hc10 := s10 _ _ hc9
        refine b_retE (ev_opC op_mod (ev_opC op_fdiv (ev_opC op_mod (ev_opI op_add (ev_opC op_mul (ev_vi (pv 5) rfl) (ev_vi (pv 5) rfl) (.inl (mixLt (by decide)))) (ev_opC op_mul (ev_c pe_int) (ev_vi (pv 5) rfl) (.inl (by decide)))) (ev_c pe_int) (by decide)) (ev_c pe_int) ⟨by decide, by decide⟩) (ev_vi (pv 1) rfl) h0) fun v H11 s11 e => ?_
        cases e
        refine k _ H11 (Int.emod_nonneg _ (by omega)) (Int.emod_lt_of_pos _ h0) ?_ ⟨ns, _, _, _, s11 _ _ hd10, s11 _ _ hc10⟩
        exact ((((k7.trans (.of s8)).trans (.of s9)).trans (.of s10)).trans (.of s11))
end
end Kn

namespace Cb
open PySem PySem.Spec PyProof.Rows L2
section
variable {X : Cx} {a b c : Expr} {σ : L2.St} {H H' : Hp} {pos p p' px py pt pt2 : Pos} {sts body : List Stmt} {D : Ends} {kt k2 : Nat}
theorem b_par {x y : Str} {i j : Nat} {Pa Pb : Pd} (hc : X.calm = true) (hN : X.N.Nodup) (hi : X.N[i]? = some x) (hj : X.N[j]? = some y) (hij : i ≠ j) (ha : Ev X σ H a Pa) (ma : Mono Pa) (hb : Ev X σ H b Pb) (mb : Mono Pb) (k : ∀ v w H', Same H H' → Pa v H' → Pb w H' → wB X sts D ((σ.set i (some v)).set j (some w)) H')
    (hx : X.env.scope.names.lookup x = some .local := by rfl) (hy : X.env.scope.names.lookup y = some .local := by rfl) (hw : swappedStores [.Tuple [.Name x px, .Name y py] kt pt] (.Tuple [a, b] k2 pt2) X.env = pure (some [x, y]) := by rfl)
    (hs : starEach [a, b] X.env = (false, eval a X.env) :: starEach [b] X.env := by rfl) (hs' : starEach [b] X.env = (false, eval b X.env) :: starEach [] X.env := by rfl) : wB X (.Assign [.Tuple [.Name x px, .Name y py] kt pt] (.Tuple [a, b] k2 pt2) pos :: sts) D σ H := by
  refine b_cons (w_S (ps_par hc hN hi hj hij hx hy pw_A hw) ?_)
  refine wA_mono (ea_2 ha ma hb mb hs hs' H (.refl _)) fun vs H1 ⟨s1, pv⟩ => ?_
  obtain ⟨v, w, rfl, h1, h2⟩ := pv.two
  exact ⟨v, w, rfl, k v w H1 s1 h1 h2⟩
theorem b_while (Wn : Nat → L2.St → Hp → Prop) (h0 : ∃ m, Wn m σ H) (hp : PassesOwn (model X.prog X.w) X.A X.env X.xe) (h : ∀ m σ H, Wn m σ H → wT X c σ H fun b H1 => if b = true then wB X body { D with nx := fun σ' H' => ∃ m', m' < m ∧ Wn m' σ' H', ct := fun σ' H' => ∃ m', m' < m ∧ Wn m' σ' H', bk := wB X sts D } σ H1 else wB X sts D σ H1) : wB X (.While c body [] pos :: sts) D σ H :=
  b_cons (w_S (ps_while hp pw_T pw_B) ⟨Wn, h0, fun m σ H hw => wT_mono (h m σ H hw) fun b H1 q => by
    by_cases e : b = true
    · rw [if_pos e] at q ⊢
      exact ⟨_, fun σ' H' z => z, q⟩
    · rw [if_neg e] at q ⊢
      exact q⟩)
theorem ev_absI {i : Int} (hm : X.mg "abs" = none) (ha : Ev X σ H a (Is (.int i))) (hg : Gl X "abs" := by rfl) (hs : starEach [a] X.env = (false, eval a X.env) :: starEach [] X.env := by rfl) (hpl : (backTo p (starEach [] X.env)).any (·.1) = false := by rfl) : Ev X σ H (.Call (.Name "abs" p') [a] [] p) (Is (.int (if i < 0 then -i else i))) :=
  ev_cb call_abs hm (by decide +kernel) (ea_1 ha mono_is hs) (fun vs H2 s h => by
    obtain ⟨v, rfl, e⟩ := h.one
    obtain rfl : v = .int i := e
    exact ⟨i, rfl, .refl _, rfl⟩) (fun vs H2 Q Q' k ⟨i, h, q⟩ => ⟨i, h, k _ _ q⟩) hg (by decide) (by decide) hs hpl
end
end Cb
namespace Kn
open PySem PySem.Spec PyProof.Rows L2 Cb
section
variable {P : Program} {w : World} {K : PySem.W.Frag} {mg : Str → Option Value} {base : Heap}
/-! ### the law's own fractions -/
def spDivi : Sp := spP (fun (d : Nat × Nat) vs _ => vs = [.int (d.1 : Int), .int (d.2 : Int)]) (fun d => Is (.int ((Nat.gcd d.1 d.2 : Nat) : Int)))
theorem scDivi : FnScope ["_law_one", "_law_other"] ["_law_one", "_law_other"] (defScope sDivisor) := ⟨rfl, rfl, rfl, by decide +kernel, rfl, by decide +kernel, by decide +kernel⟩
theorem ok_divi {f : Addr} {fd : FuncData} (F : Fun K "_law_divisor" "_law_divisor" sDivisor f fd) (za : mg "abs" = none) : FnOk P w K mg base CX0 1 f fd ["_law_one", "_law_other"] spDivi := by
  refine F.ok scDivi (fun vs H Q E h => ?_) (fun cdv A outer s H vs Q E hr h => ?_)
  · obtain ⟨d, rfl, _⟩ := h
    rfl
  · obtain ⟨⟨a, b⟩, rfl, k⟩ := h
    dsimp only at k ⊢
    refine ⟨_, pw_B, ?_⟩
    refine b_while (fun m σ H' => ∃ x y : Nat, σ = [some (.int (x : Int)), some (.int (y : Int))] ∧ m = y ∧ Nat.gcd x y = Nat.gcd a b ∧ Same H H') ⟨b, a, b, rfl, rfl, rfl, .refl _⟩ PassesOwn.never ?_
    rintro m σ H1 ⟨x, y, rfl, hm, hg, s1⟩
    subst m
    refine w_evT (CC.et (c_neS (ev_vi (pv 1) rfl) (ev_c pe_int) rfl)) fun H2 s2 => ?_
    by_cases hy : y = 0
    · subst hy
      rw [if_neg (by simp)]
      refine b_retE (ev_absI za (ev_vi (pv 0) rfl)) fun v H3 s3 e => ?_
      refine k v H3 ((s1.trans s2).trans s3) ?_
      rw [Nat.gcd_zero_right] at hg
      rw [← hg]
      rw [if_neg (by omega)] at e
      exact e
    · rw [if_pos (by simp; omega)]
      refine b_par (i := 0) (j := 1) rfl scDivi.nd rfl rfl (by decide) (ev_vi (pv 1) rfl) mono_is (ev_opC op_mod (ev_vi (pv 0) rfl) (ev_vi (pv 1) rfl) (by omega)) mono_is fun v w H3 s3 e1 e2 => ?_
      cases e1
      cases e2
      refine b_nil ⟨x % y, Nat.mod_lt _ (by omega), y, x % y, ?_, rfl, ?_, (s1.trans s2).trans s3⟩
      · rw [← Int.natCast_emod]
        rfl
      · rw [← hg, Nat.gcd_comm x y, Nat.gcd_rec y x, Nat.gcd_comm]
end
end Kn

namespace Kn
open PySem PySem.Spec PyProof.Rows L2 Cb
theorem Rd.same {d c : Addr} {H H' : Hp} (r : Rd d c H) (s : Same H H') : Rd d c H' := by
  obtain ⟨ns, nx, rs, dr, hd, hc⟩ := r
  exact ⟨ns, nx, rs, dr, s _ _ hd, s _ _ hc⟩
theorem Rd.at {d c : Addr} {H : Hp} (r : Rd d c H) : ∃ kvs, H d = some (.dK kvs) := by
  obtain ⟨ns, nx, rs, dr, hd, _⟩ := r
  exact ⟨_, hd⟩
section
variable {X : Cx} {σ : L2.St} {H : Hp} {a b : Expr} {p q : Pos} {k : Nat} {f : Addr} {fd : FuncData} {ps : List Str} {d c : Addr} {m : Int} {Q : VK}
/-- a draw -/
theorem w_draw (g : GDef X "_law_draw" k f fd ps spDraw) (ha : Ev X σ H a (Is (.ref d))) (hb : Ev X σ H b (Is (.int m))) (r : Rd d c H) (h0 : 0 < m) (hm : m < 1000000000000) (kk : ∀ z H', 0 ≤ z → z < m → KeepX d H H' → Rd d c H' → Q (.int z) H')
    (hg : Gl X "_law_draw" := by rfl) (hs : starEach [a, b] X.env = (false, eval a X.env) :: starEach [b] X.env := by rfl) (hs' : starEach [b] X.env = (false, eval b X.env) :: starEach [] X.env := by rfl)
    (hpl : (backTo p (starEach [b] X.env)).any (·.1) = false := by rfl) : wE X (.Call (.Name "_law_draw" q) [a, b] [] p) σ H Q :=
  w_E (pe_call g.ok g.room hg g.gl g.kp g.bs .nil pass0 pw_A (by decide) hs hpl) (wA_mono (ea_2 ha mono_is hb mono_is hs hs' H (.refl _)) fun vs H1 ⟨s1, pv⟩ => by
    cases isTwo pv
    exact ⟨d, c, m, rfl, h0, hm, r.same s1, fun z H' z0 z1 k1 r1 => kk z H' z0 z1 ((KeepX.of s1).trans k1) r1⟩)
theorem w_ix {xs : Expr} {i : Expr} (h : wE X xs σ H fun x H1 => wE X i σ H1 fun y H2 => rIxL X.K x y H2 Q) (hs : PlainIxT i := by exact fun _ _ => rfl) : wE X (.Subscript xs i p) σ H Q := w_E (pe_ix ix_list pw_E pw_E hs) h
end
theorem at_of_mem {ns : List Int} {z : Int} (h0 : 0 ≤ z) (h1 : z < (ns.length : Int)) : ∃ w ∈ ns, atI (ns.map V.int) z = some (.int w) := by
  obtain ⟨j, rfl⟩ := Int.eq_ofNat_of_zero_le h0
  have hj : j < ns.length := by omega
  exact ⟨ns[j], List.getElem_mem hj, atI_nat (by rw [List.getElem?_map, List.getElem?_eq_getElem hj]; rfl)⟩
section
variable {P : Program} {w : World} {K : PySem.W.Frag} {mg : Str → Option Value} {base : Heap}
/-- a def of the module, of the law's own -/
structure LD (P : Program) (w : World) (K : PySem.W.Frag) (mg : Str → Option Value) (base : Heap) (x : Str) (k : Nat) (ps : List Str) (sp : Sp) : Prop where
  ex : ∃ (f : Addr) (fd : FuncData), FnOk P w K mg base CX0 k f fd ps sp ∧ mg x = some (.ref f) ∧ PySem.W.keepIn K (.ref f) = true ∧ Binds K fd ps []
theorem LD.g {X : Cx} {x : Str} {k : Nat} {ps : List Str} {sp : Sp} (h : LD X.prog X.w X.K X.mg X.base x k ps sp) {n : Nat} (hr : Room n X.A) (l : k ≤ n) : ∃ f fd, GDef X x k f fd ps sp := by
  obtain ⟨f, fd, F, g, kp, b⟩ := h.ex
  exact ⟨f, fd, F, hr.mono l, g, kp, b⟩
theorem Rd.app {d c S : Addr} {H : Hp} {xs ys : List V} (r : Rd d c H) (n : S ≠ c) (h : H S = some (.lst xs)) : Rd d c (upd H S (.lst ys)) := by
  obtain ⟨ns, nx, rs, dr, hd, hc⟩ := r
  exact ⟨ns, nx, rs, dr, by rw [upd_ne (ne_of hd h (by intro z; cases z))]; exact hd, by rw [upd_ne n.symm]; exact hc⟩
theorem Rd.ne {d c S : Addr} {H : Hp} {o : HO} (r : Rd d c H) (h : H S = some o) (n : ∀ kvs, o ≠ .dK kvs) : S ≠ d := fun e => by
  obtain ⟨kvs, hd⟩ := r.at
  rw [e, hd] at h
  cases h
  exact n _ rfl
end

/-! ### draws, told by what stays -/
theorem KeepX.tup {d c : Addr} {H H' : Hp} (r : Rd d c H) (k : KeepX d H H') : TupK H H' := fun b xs e => k b _ (fun q => by
  obtain ⟨kvs, hd⟩ := r.at
  rw [q, hd] at e
  cases e) e
theorem KeepX.lst {d c S : Addr} {H H' : Hp} {us : List V} (r : Rd d c H) (k : KeepX d H H') (h : H S = some (.lst us)) : H' S = some (.lst us) := k _ _ (fun q => by
  obtain ⟨kvs, hd⟩ := r.at
  rw [q, hd] at h
  cases h) h
theorem keepX_put {d S : Addr} {H H' : Hp} {o : HO} (k : KeepX d H H') (n : H S = none) : KeepX d H (upd H' S o) := fun b u nb e => by
  rw [upd_ne (ne_of_none e n)]
  exact k b u nb e
theorem at_data {ns : List Int} {xs : List V} {H : Hp} {z : Int} (t : Tds H (ns.map PyData.int) xs) (h0 : 0 ≤ z) (h1 : z < (ns.length : Int)) : ∃ w ∈ ns, atI xs z = some (.int w) := by
  rw [t.ints]
  exact at_of_mem h0 h1
section
variable {X : Cx} {σ : L2.St} {H : Hp} {a b e : Expr} {es : List Expr} {p q p' q' : Pos} {k : Nat} {f : Addr} {fd : FuncData} {ps : List Str} {d c : Addr} {Q : VK} {sp : Sp} {x : Str}
/-- [..][draw(reader, n)] -/
theorem w_pick {ns : List Int} {xs : Expr} (g : GDef X "_law_draw" k f fd ps spDraw) (hx : Ev X σ H xs (LstD (ns.map PyData.int))) (ha : ∀ H', Same H H' → Ev X σ H' a (Is (.ref d))) (hb : ∀ H', Same H H' → Ev X σ H' b (Is (.int (ns.length : Int)))) (r : Rd d c H) (hn : 0 < ns.length) (hn2 : ns.length < 1000)
    (kk : ∀ w H', w ∈ ns → KeepX d H H' → Rd d c H' → Q (.int w) H') (hg : Gl X "_law_draw" := by rfl) (hs : starEach [a, b] X.env = (false, eval a X.env) :: starEach [b] X.env := by rfl) (hs' : starEach [b] X.env = (false, eval b X.env) :: starEach [] X.env := by rfl)
    (hpl : (backTo p' (starEach [b] X.env)).any (·.1) = false := by rfl) (hix : PlainIxT (.Call (.Name "_law_draw" q) [a, b] [] p') := by exact fun _ _ => rfl) : wE X (.Subscript xs (.Call (.Name "_law_draw" q) [a, b] [] p') p) σ H Q := by
  refine w_ix (w_ev hx fun v H1 s1 ⟨S, us, ev, hS, t⟩ => ?_) hix
  subst ev
  refine w_draw g (ha H1 s1) (hb H1 s1) (r.same s1) (by omega) (by omega) (fun z H2 z0 z1 k2 r2 => ?_) hg hs hs' hpl
  obtain ⟨w, hw, e1⟩ := at_data t z0 z1
  exact ⟨S, us, z, _, rfl, rfl, .of (KeepX.lst (r.same s1) k2 hS), e1, kk w H2 hw ((KeepX.of s1).trans k2) r2⟩
theorem w_call1 (g : GDef X x k f fd ps sp) (h : wE X a σ H fun v H1 => sp [v] H1 Q E0) (hg : Gl X x := by rfl) (hdb : (x == ("__debug__" : Str)) = false := by decide) (he : starEach [a] X.env = (false, eval a X.env) :: starEach [] X.env := by rfl) (hpl : (backTo p (starEach [] X.env)).any (·.1) = false := by rfl) : wE X (.Call (.Name x q) [a] [] p) σ H Q :=
  w_E (pe_call g.ok g.room hg g.gl g.kp g.bs .nil pass0 (pa_cons pw_E pa_nil he) hdb he hpl) h
theorem w_call2 (g : GDef X x k f fd ps sp) (h : wE X a σ H fun v H1 => wE X b σ H1 fun w H2 => sp [v, w] H2 Q E0) (hg : Gl X x := by rfl) (hdb : (x == ("__debug__" : Str)) = false := by decide) (he : starEach [a, b] X.env = (false, eval a X.env) :: starEach [b] X.env := by rfl) (he' : starEach [b] X.env = (false, eval b X.env) :: starEach [] X.env := by rfl)
    (hpl : (backTo p (starEach [b] X.env)).any (·.1) = false := by rfl) : wE X (.Call (.Name x q) [a, b] [] p) σ H Q :=
  w_E (pe_call g.ok g.room hg g.gl g.kp g.bs .nil pass0 (pa_cons pw_E (pa_cons pw_E pa_nil he') he) hdb he hpl) h
end
end Kn

namespace Kn
open PySem PySem.Spec PyProof.Rows L2 Cb
section
variable {P : Program} {w : World} {K : PySem.W.Frag} {mg : Str → Option Value} {base : Heap}
/-! ### _law_lowest, _law_add, _law_floor -/
def spLL : Sp := spP (fun (d : Nat × Nat) vs _ => vs = [.int (d.1 : Int), .int (d.2 : Int)] ∧ LowOk (d.2 : Int)) (fun d => Da (qd (Rat.divInt (d.1 : Int) (d.2 : Int))))
theorem scLL : FnScope ["_law_over", "_law_under", "_law_both"] ["_law_over", "_law_under"] (defScope sLLow) := ⟨rfl, rfl, rfl, by decide +kernel, rfl, by decide +kernel, by decide +kernel⟩
theorem ok_ll {f : Addr} {fd : FuncData} (F : Fun K "_law_lowest" "_law_lowest" sLLow f fd) (L : LD P w K mg base "_law_divisor" 1 ["_law_one", "_law_other"] spDivi) : FnOk P w K mg base CX0 2 f fd ["_law_over", "_law_under"] spLL := by
  refine F.ok scLL (fun vs H Q E h => ?_) (fun cdv A outer s H vs Q E hr h => ?_)
  · obtain ⟨d, ⟨rfl, _⟩, _⟩ := h
    rfl
  · obtain ⟨⟨o, u⟩, ⟨rfl, hu⟩, k⟩ := h
    dsimp only at hu k ⊢
    obtain ⟨fD, fdD, GD⟩ := LD.g (X := (cxOf CX0 P w K mg base ["_law_over", "_law_under", "_law_both"] "_law_lowest" (defScope sLLow) f cdv A outer s H E).nox) L hr (by decide)
    have elow : lowS (o : Int) (u : Int) = ((Nat.gcd o u : Nat) : Int) := by
      unfold lowS
      rw [if_neg (by omega)]
      rfl
    refine ⟨_, pw_B, b_setE (i := 2) scLL.nd rfl (.inl rfl) (ev_callP (o, u) GD (ea_2 (ev_vi (pv 0) rfl) mono_is (ev_vi (pv 1) rfl) mono_is) (fun vs H2 _ h => isTwo h)) fun v H1 s1 e => ?_⟩
    cases e
    refine b_ifF (EvT.is (CC.et (c_I op_lt (nomark _) (ev_vi (pv 1) rfl) (ev_c pe_int))) (by simp)) fun H2 s2 => ?_
    refine b_retE (ev_tupI (xs := [.int ((o : Int).fdiv (lowS o u)), .int ((u : Int).fdiv (lowS o u))]) (ea_2 (ev_opC op_fdivA (ev_vi (pv 0) rfl) (ev_vi (pv 2) (by rw [elow]; rfl)) hu.div) mono_is (ev_opC op_fdivA (ev_vi (pv 1) rfl) (ev_vi (pv 2) (by rw [elow]; rfl)) hu.div) mono_is) (by show 2 ≤ 1000; decide)) fun v H3 s3 h => ?_
    rw [hu.num.1, hu.num.2] at h
    exact k v H3 ((s1.trans s2).trans s3) (td_qd h)
def spLA : Sp := spP (fun (d : Rat × Rat) vs H => (∃ v w, vs = [v, w] ∧ Td H (qd d.1) v ∧ Td H (qd d.2) w) ∧ Bd 2000 d.1 ∧ Bd 2000 d.2 ∧ 0 ≤ d.1 ∧ 0 ≤ d.2) (fun d => Da (qd (d.1 + d.2)))
theorem scLA : FnScope ["_law_one", "_law_other"] ["_law_one", "_law_other"] (defScope sLAdd) := ⟨rfl, rfl, rfl, by decide +kernel, rfl, by decide +kernel, by decide +kernel⟩
theorem num_nonneg {r : Rat} (h : 0 ≤ r) : 0 ≤ r.num := Rat.num_nonneg.mpr h
theorem ev_ll {X : Cx} {σ : L2.St} {H : Hp} {a b : Expr} {p q : Pos} {o u : Int} {k : Nat} {f : Addr} {fd : FuncData} {ps : List Str} (g : GDef X "_law_lowest" k f fd ps spLL) (ho : 0 ≤ o) (hu0 : 0 ≤ u) (hu : LowOk u) (ha : Ev X σ H a (Is (.int o))) (hb : Ev X σ H b (Is (.int u))) (hg : Gl X "_law_lowest" := by rfl) (hs : starEach [a, b] X.env = (false, eval a X.env) :: starEach [b] X.env := by rfl) (hs' : starEach [b] X.env = (false, eval b X.env) :: starEach [] X.env := by rfl)
    (hpl : (backTo p (starEach [b] X.env)).any (·.1) = false := by rfl) : Ev X σ H (.Call (.Name "_law_lowest" q) [a, b] [] p) (Da (qd (Rat.divInt o u))) := by
  obtain ⟨o, rfl⟩ := Int.eq_ofNat_of_zero_le ho
  obtain ⟨u, rfl⟩ := Int.eq_ofNat_of_zero_le hu0
  exact ev_callP (o, u) g (ea_2 ha mono_is hb mono_is hs hs') (fun vs H2 _ h => ⟨isTwo h, hu⟩) hg (by decide) hs hpl
theorem ok_la {f : Addr} {fd : FuncData} (F : Fun K "_law_add" "_law_add" sLAdd f fd) (L : LD P w K mg base "_law_lowest" 2 ["_law_over", "_law_under"] spLL) : FnOk P w K mg base CX0 3 f fd ["_law_one", "_law_other"] spLA := by
  refine F.ok scLA (fun vs H Q E h => ?_) (fun cdv A outer s H vs Q E hr h => ?_)
  · obtain ⟨d, ⟨⟨v, w, rfl, _⟩, _⟩, _⟩ := h
    rfl
  · obtain ⟨⟨r, q⟩, ⟨⟨v, w', rfl, hv, hw⟩, hr1, hq1, r0, q0⟩, k⟩ := h
    dsimp only at hv hw hr1 hq1 r0 q0
    obtain ⟨fL, fdL, GL⟩ := LD.g (X := (cxOf CX0 P w K mg base ["_law_one", "_law_other"] "_law_add" (defScope sLAdd) f cdv A outer s H E).nox) L hr (by decide)
    have n1 := num_nonneg r0
    have n2 := num_nonneg q0
    have d1 := den_pos r
    have d2 := den_pos q
    refine ⟨_, pw_B, b_retE (ev_ll (o := r.num * (q.den : Int) + q.num * (r.den : Int)) (u := (r.den : Int) * (q.den : Int)) GL (Int.add_nonneg (Int.mul_nonneg n1 (Int.le_of_lt d2)) (Int.mul_nonneg n2 (Int.le_of_lt d1))) (Int.mul_nonneg (Int.le_of_lt d1) (Int.le_of_lt d2)) (den2_ok hr1 hq1) ?_ ?_) fun v' H2 s2 h => k v' H2 s2 (by
      rw [add_eq] at h
      exact h)⟩
    · exact ev_opI op_add (ev_opC op_mulW (ev_q0 (ev_v (pv 0) rfl hv mono_da) (ev_c pe_int)) (ev_q1 (ev_v (pv 1) rfl hw mono_da) (ev_c pe_int)) (mulOk hr1.1 hq1.2)) (ev_opC op_mulW (ev_q0 (ev_v (pv 1) rfl hw mono_da) (ev_c pe_int)) (ev_q1 (ev_v (pv 0) rfl hv mono_da) (ev_c pe_int)) (mulOk hq1.1 hr1.2))
    · exact ev_opC op_mulW (ev_q1 (ev_v (pv 0) rfl hv mono_da) (ev_c pe_int)) (ev_q1 (ev_v (pv 1) rfl hw mono_da) (ev_c pe_int)) (mulOk hr1.2 hq1.2)
def spLF : Sp := spP (fun (r : Rat) vs H => (∃ v, vs = [v] ∧ Td H (qd r) v) ∧ Bd 2000 r) (fun r => Is (.int (r.num.fdiv (r.den : Int))))
theorem scLF : FnScope ["_law_ratio"] ["_law_ratio"] (defScope sLFloor) := ⟨rfl, rfl, rfl, by decide +kernel, rfl, by decide +kernel, by decide +kernel⟩
theorem ok_lf {f : Addr} {fd : FuncData} (F : Fun K "_law_floor" "_law_floor" sLFloor f fd) : FnOk P w K mg base CX0 1 f fd ["_law_ratio"] spLF := by
  refine F.ok scLF (fun vs H Q E h => ?_) (fun cdv A outer s H vs Q E hr h => ?_)
  · obtain ⟨d, ⟨⟨v, rfl, _⟩, _⟩, _⟩ := h
    rfl
  · obtain ⟨r, ⟨⟨v, rfl, hv⟩, hb⟩, k⟩ := h
    exact ⟨_, pw_B, b_retE (ev_opC op_fdivA (ev_q0 (ev_v (pv 0) rfl hv mono_da) (ev_c pe_int)) (ev_q1 (ev_v (pv 0) rfl hv mono_da) (ev_c pe_int)) (divOk hb).div) fun v H' s h => k v H' s h⟩
/-! ### a drawn fraction -/
def RatV (n : Nat) : Pd := fun v H => ∃ r : Rat, Td H (qd r) v ∧ 0 ≤ r ∧ Bd n r
def spSome : Sp := fun vs H Q _ => ∃ (d c : Addr) (m : Int), vs = [.ref d, .int m] ∧ 0 < m ∧ m ≤ 900000 ∧ Rd d c H ∧ ∀ v H', KeepX d H H' → Rd d c H' → RatV 40 v H' → Q v H'
theorem scSome : FnScope ["_law_reader_here", "_law_most", "_law_low"] ["_law_reader_here", "_law_most"] (defScope sSome) := ⟨rfl, rfl, rfl, by decide +kernel, rfl, by decide +kernel, by decide +kernel⟩
theorem ok_some {f : Addr} {fd : FuncData} (F : Fun K "_law_some_ratio" "_law_some_ratio" sSome f fd) (LDr : LD P w K mg base "_law_draw" 1 ["_law_reader_here", "_law_many"] spDraw) (L : LD P w K mg base "_law_lowest" 2 ["_law_over", "_law_under"] spLL) : FnOk P w K mg base CX0 3 f fd ["_law_reader_here", "_law_most"] spSome := by
  refine F.ok scSome (fun vs H Q E h => ?_) (fun cdv A outer s H vs Q E hr h => ?_)
  · obtain ⟨d, c, m, rfl, _⟩ := h
    rfl
  · obtain ⟨d, c, m, rfl, m0, m1, rd, k⟩ := h
    obtain ⟨fL, fdL, GL⟩ := LD.g (X := (cxOf CX0 P w K mg base ["_law_reader_here", "_law_most", "_law_low"] "_law_some_ratio" (defScope sSome) f cdv A outer s H E).nox) L hr (by decide)
    obtain ⟨fD, fdD, GD⟩ := LD.g (X := (cxOf CX0 P w K mg base ["_law_reader_here", "_law_most", "_law_low"] "_law_some_ratio" (defScope sSome) f cdv A outer s H E).nox) LDr hr (by decide)
    refine ⟨_, pw_B, ?_⟩
    refine b_set (i := 2) scSome.nd rfl (.inl rfl) (w_pick (ns := [1, 1, 2, 3, 4, 7, 10, 10000]) GD (ev_litL (ds := [1, 1, 2, 3, 4, 7, 10, 10000].map PyData.int) 2 rfl (by show 8 ≤ 1000; decide)) (fun _ _ => ev_vi (pv 0) rfl) (fun _ _ => ev_c pe_int) rd (by decide) (by decide) fun low H1 hlow k1 rd1 => ?_)
    have hl : ∀ z ∈ ([1, 1, 2, 3, 4, 7, 10, 10000] : List Int), 0 < z ∧ z ≤ 10000 := by decide
    have hl := hl low hlow
    have hm : 0 ≤ m * low ∧ m * low ≤ 900000 * 10000 := ⟨Int.mul_nonneg (by omega) (by omega), Int.mul_le_mul m1 hl.2 (by omega) (by omega)⟩
    refine b_ret (w_call2 GL (w_draw GD (ev_vi (pv 0) rfl) (ev_opI op_add (ev_opC op_mul (ev_vi (pv 1) rfl) (ev_vi (pv 2) rfl) (.inl (by constructor <;> omega))) (ev_c pe_int)) rd1 (by omega) (by omega) fun z H2 z0 z1 k2 rd2 => w_ev (ev_vi (pv 2) rfl) fun v H3 s3 e => ?_))
    cases e
    obtain ⟨zn, rfl⟩ := Int.eq_ofNat_of_zero_le z0
    obtain ⟨ln, rfl⟩ := Int.eq_ofNat_of_zero_le (show 0 ≤ low by omega)
    refine ⟨(zn, ln), ⟨rfl, by show (ln : Int) ≠ 0; omega, .inr (by show (ln : Int).natAbs < _; omega)⟩, fun v H4 s4 hv => k v H4 ((k1.trans k2).trans ((KeepX.of s3).trans (.of s4))) ((rd2.same s3).same s4) ⟨_, hv, ?_, ?_⟩⟩
    · exact Rat.divInt_nonneg (by omega) (by omega)
    · exact bd_div (by show (ln : Int) ≠ 0; omega) (Nat.lt_trans (by show (zn : Int).natAbs < 10000000000; omega) (by decide)) (Nat.lt_trans (by show (ln : Int).natAbs < 10001; omega) (by decide))
end
end Kn

namespace Cb
open PySem PySem.Spec PyProof.Rows L2
theorem b_parW {X : Cx} {a b : Expr} {σ : L2.St} {H : Hp} {pos px py pt pt2 : Pos} {sts : List Stmt} {D : Ends} {kt k2 : Nat} {x y : Str} {i j : Nat} (hc : X.calm = true) (hN : X.N.Nodup) (hi : X.N[i]? = some x) (hj : X.N[j]? = some y) (hij : i ≠ j) (h : wE X a σ H fun v H1 => wE X b σ H1 fun w H2 => wB X sts D ((σ.set i (some v)).set j (some w)) H2)
    (hx : X.env.scope.names.lookup x = some .local := by rfl) (hy : X.env.scope.names.lookup y = some .local := by rfl) (hw : swappedStores [.Tuple [.Name x px, .Name y py] kt pt] (.Tuple [a, b] k2 pt2) X.env = pure (some [x, y]) := by rfl)
    (hs : starEach [a, b] X.env = (false, eval a X.env) :: starEach [b] X.env := by rfl) (hs' : starEach [b] X.env = (false, eval b X.env) :: starEach [] X.env := by rfl)
    (hsw : swapsWithSole [.Tuple [.Name x px, .Name y py] kt pt] (.Tuple [a, b] k2 pt2) pos.line X.env = pure false := by rfl) : wB X (.Assign [.Tuple [.Name x px, .Name y py] kt pt] (.Tuple [a, b] k2 pt2) pos :: sts) D σ H := by
  refine b_cons (w_S (ps_par hc hN hi hj hij hx hy (pa_cons pw_E (pa_cons pw_E pa_nil hs') hs) hw hsw) ?_)
  exact wE_mono h fun v H1 q => wE_mono q fun w H2 q => ⟨v, w, rfl, q⟩
theorem erase_map {α β : Type} {f : α → β} : ∀ (l : List α) (n : Nat), (l.map f).eraseIdx n = (l.eraseIdx n).map f
  | [], n => rfl
  | a :: l, 0 => rfl
  | a :: l, n + 1 => by
    show f a :: (l.map f).eraseIdx n = f a :: (l.eraseIdx n).map f
    rw [erase_map l n]
theorem w_sortL {X : Cx} {a : Expr} {σ : L2.St} {H : Hp} {p p' : Pos} {ds : List PyData} {Q : VK} (hu : X.A.units + 64 < cLine) (hm : X.mg "sorted" = none) (ha : Ev X σ H a (LstD ds)) (hal : PySem.W.AllAlike ds) (hk : PySem.W.Sortable ds) (hd : ∀ d ∈ ds, d.depth ≤ 50) (k : ∀ S ys H', Same H H' → H S = none → H' S = none → Tds H' (sortD ds) ys → Q (.ref S) (upd H' S (.lst ys)))
    (hg : Gl X "sorted" := by rfl) (hs : starEach [a] X.env = (false, eval a X.env) :: starEach [] X.env := by rfl) (hpl : (backTo p (starEach [] X.env)).any (·.1) = false := by rfl) : wE X (.Call (.Name "sorted" p') [a] [] p) σ H Q :=
  w_E (pe_callB (cr_sortD hu) hg hm (by decide +kernel) (pa_cons pw_E pa_nil hs) (he := hs) (hpl := hpl)) (w_ev ha fun v H1 s1 ⟨S, xs, ev, hS, t⟩ => by
    subst ev
    refine ⟨S, xs, ds, rfl, .inl hS, t, hal, hk, hd, fun ys q _ ty n => k q ys H1 s1 ?_ n ty⟩
    cases e : H q with
    | none => rfl
    | some o =>
      rw [s1 _ _ e] at n
      cases n)
/-- a new list, anywhere -/
theorem w_newL {X : Cx} {es : List Expr} {σ : L2.St} {H : Hp} {p : Pos} {ds : List PyData} {Q : VK} (h : EvA X σ H es (ds.map Da)) (hl : ds.length ≤ 1000) (k : ∀ S xs H', Same H H' → H S = none → H' S = none → Tds H' ds xs → Q (.ref S) (upd H' S (.lst xs))) : wE X (.List es p) σ H Q :=
  w_E (pe_lst pw_A) (wA_mono (h H (.refl _)) fun vs H1 ⟨s1, pv⟩ => by
    have t := pws_da pv
    refine ⟨by rw [t.len]; exact Nat.le_of_lt (small1000 hl), fun S n1 => k S vs H1 s1 ?_ n1 t⟩
    cases e : H S with
    | none => rfl
    | some o =>
      rw [s1 _ _ e] at n1
      cases n1)
end Cb
namespace Kn
open PySem PySem.Spec PyProof.Rows L2 Cb
/-! ### names -/
def sortS (xs : List Str) : List Str := xs.mergeSort fun a b => PySem.W.dataLe false id (PyData.str a) (PyData.str b)
theorem sort_strs (xs : List Str) : sortD (xs.map PyData.str) = (sortS xs).map PyData.str := by
  have z := List.map_mergeSort (r := fun a b => PySem.W.dataLe false id (PyData.str a) (PyData.str b)) (s := PySem.W.dataLe false id) (f := PyData.str) (l := xs) (fun a _ b _ => rfl)
  exact z.symm
/-- a short name -/
abbrev NmOk (x : Str) : Prop := x.cps.size ≤ 8 ∧ (x.cps.toList.all fun c => decide (c < 16 ^ 8)) = true
def Short (xs : List Str) : Prop := ∀ x ∈ xs, NmOk x
/-- a new list of so many short names -/
def NamesV (H0 : Hp) (n : Nat) : Pd := fun v H => ∃ S names, v = .ref S ∧ H0 S = none ∧ H S = some (.lst (names.map V.str)) ∧ names.length = n ∧ Short names
def spHeads : Sp := fun vs H Q _ => ∃ (d c : Addr) (m : Nat), vs = [.ref d, .int (m : Int)] ∧ m ≤ 9 ∧ Rd d c H ∧ ∀ v H', KeepX d H H' → Rd d c H' → NamesV H m v H' → Q v H'
theorem scHeads : FnScope ["_law_reader_here", "_law_many", "_law_pool", "_law_found", "_law_k"] ["_law_reader_here", "_law_many"] (defScope sHeads) := ⟨rfl, rfl, rfl, by decide +kernel, rfl, by decide +kernel, by decide +kernel⟩
abbrev pool9 : List Str := ["a", "ab", "day", "ended", "fax", "line", "section", "tel", "zzzzzzzz"]
section
variable {P : Program} {w : World} {K : PySem.W.Frag} {mg : Str → Option Value} {base : Heap}
theorem ok_heads {f : Addr} {fd : FuncData} (F : Fun K "_law_heads" "_law_heads" sHeads f fd) (LDr : LD P w K mg base "_law_draw" 1 ["_law_reader_here", "_law_many"] spDraw) (zr : mg "range" = none) (zl : mg "len" = none) (zs : mg "sorted" = none) : FnOk P w K mg base CX0 3 f fd ["_law_reader_here", "_law_many"] spHeads := by
  refine F.ok scHeads (fun vs H Q E h => ?_) (fun cdv A outer s H vs Q E hr h => ?_)
  · obtain ⟨d, c, m, rfl, _⟩ := h
    rfl
  · obtain ⟨d, c, m, rfl, m9, rd, k⟩ := h
    obtain ⟨fD, fdD, GD⟩ := LD.g (X := (cxOf CX0 P w K mg base ["_law_reader_here", "_law_many", "_law_pool", "_law_found", "_law_k"] "_law_heads" (defScope sHeads) f cdv A outer s H E).nox) LDr hr (by decide)
    refine ⟨_, pw_B, ?_⟩
    refine b_parW (i := 2) (j := 3) rfl scHeads.nd rfl rfl (by decide) (w_newL (ds := pool9.map PyData.str) (ea_lits 2 rfl) (by show 9 ≤ 1000; decide) fun S1 xs1 H1 s1 m1 n1 t9 => w_newL (ds := []) ed_nil (by show 0 ≤ 1000; decide) fun S2 xs2 H2 s2 m2' n2 t0 => ?_)
    obtain rfl := t9.strs
    obtain rfl := t0.nil'
    have n12 : S1 ≠ S2 := fun e => by
      rw [← e, upd_same] at m2'
      cases m2'
    have m2 : H S2 = none := by
      cases e : H S2 with
      | none => rfl
      | some o =>
        rw [upd_ne n12.symm, s1 _ _ e] at m2'
        cases m2'
    refine b_for rfl (pi_range1 (by rfl) zr (pa_cons (pv 1) pa_nil)) (pg_name (i := 4) scHeads.nd rfl (.inl rfl)) ?_ PassesOwn.never
    refine ⟨_, rfl, (m : Int), rfl, by omega, by omega, for_range (n := ((m : Int) - 0).toNat) (fun i σ H' => ∃ y, σ = [some (.ref d), some (.int (m : Int)), some (.ref S1), some (.ref S2), y] ∧ KeepX d H H' ∧ Rd d c H' ∧ ∃ pool names : List Str, H' S1 = some (.lst (pool.map V.str)) ∧ H' S2 = some (.lst (names.map V.str)) ∧ pool.length = 9 - i ∧ names.length = i ∧ Short (pool ++ names)) ?_ ?_ ?_⟩
    · refine ⟨none, rfl, ?_, ?_, pool9, [], ?_, upd_same, rfl, rfl, ?_⟩
      · exact keepX_put ((keepX_put (.of s1) m1).trans (.of s2)) m2
      · obtain ⟨ns, nx, rs, dr, hd, hc⟩ := rd
        have q1 : Same H (upd H1 S1 (.lst (pool9.map V.str))) := same_put s1 m1
        have q2 : Same H (upd H2 S2 (.lst [])) := same_put (q1.trans s2) m2
        exact ⟨ns, nx, rs, dr, q2 _ _ hd, q2 _ _ hc⟩
      · rw [upd_ne n12]
        exact s2 _ _ upd_same
      · intro x hx
        revert x
        decide +kernel
    · rintro i σ H3 hi ⟨y, rfl, k3, rd3, pool, names, h1, h2, l1, l2, sh⟩
      have hi9 : i < 9 := by omega
      have np : 0 < (pool.map V.str).length := by
        rw [List.length_map]
        omega
      refine b_appW (i := 3) (pv 3) rfl ⟨_, h2⟩ (w_E (pe_bm PySem.F.plainAttrs_list PySem.F.slot_list_pop PySem.F.type_list_pop mt_popAt (pv 2) (pa_cons pw_E pa_nil)) ?_)
      refine ⟨_, rfl, .inl ⟨rfl, _, SqL.of h1⟩, w_draw GD (ev_vi (pv 0) rfl) (ev_lenL zl (ev_vi (pv 2) rfl) h1) rd3 (by omega) (by rw [List.length_map]; omega) fun z H4 z0 z1 k4 rd4 => ?_⟩
      obtain ⟨zn, rfl⟩ := Int.eq_ofNat_of_zero_le z0
      have hz : zn < pool.length := by
        rw [List.length_map] at z1
        omega
      have h14 := KeepX.lst rd3 k4 h1
      have h24 := KeepX.lst rd3 k4 h2
      refine ⟨S1, pool.map V.str, (zn : Int), zn, V.str pool[zn], rfl, rfl, h14, by omega, by omega, ?_, ?_, ?_⟩
      · rw [seqIndex_of (by omega) (by rw [List.length_map]; omega), Int.toNat_natCast]
      · rw [List.getElem?_map, List.getElem?_eq_getElem hz]
        rfl
      · refine ⟨names.map V.str, by rw [upd_ne n12.symm]; exact h24, by rw [List.length_map]; omega, b_nil ?_⟩
        have e1 : (pool.map V.str).eraseIdx zn = (pool.eraseIdx zn).map V.str := by
          exact erase_map _ _
        refine ⟨_, rfl, ?_, ?_, pool.eraseIdx zn, names ++ [pool[zn]], ?_, ?_, ?_, ?_, ?_⟩
        · exact keepX_put (keepX_put (k3.trans k4) m1) m2
        · obtain ⟨ns, nx, rs, dr, hd, hc⟩ := rd4
          have nd : d ≠ S1 ∧ d ≠ S2 := by
            constructor
            · rintro rfl
              rw [hd] at h14
              cases h14
            · rintro rfl
              rw [hd] at h24
              cases h24
          have nc : c ≠ S1 ∧ c ≠ S2 := by
            obtain ⟨_, _, _, _, hd0, hc0⟩ := rd
            constructor
            · rintro rfl
              rw [m1] at hc0
              cases hc0
            · rintro rfl
              rw [m2] at hc0
              cases hc0
          exact ⟨ns, nx, rs, dr, by rw [upd_ne nd.2, upd_ne nd.1]; exact hd, by rw [upd_ne nc.2, upd_ne nc.1]; exact hc⟩
        · rw [upd_ne n12, upd_same, e1]
        · rw [upd_same, List.map_append]
          rfl
        · rw [List.length_eraseIdx, if_pos hz]
          omega
        · rw [List.length_append]
          simp
          omega
        · intro x hx
          rcases List.mem_append.mp hx with hx | hx
          · exact sh x (List.mem_append_left _ (List.mem_of_mem_eraseIdx hx))
          · rcases List.mem_append.mp hx with hx | hx
            · exact sh x (List.mem_append_right _ hx)
            · rw [List.mem_singleton.mp hx]
              exact sh _ (List.mem_append_left _ (List.getElem_mem _))
    · rintro σ H3 ⟨y, rfl, k3, rd3, pool, names, h1, h2, l1, l2, sh⟩
      have lm : names.length = m := by omega
      refine b_ret (w_sortL hr.units zs (ds := names.map PyData.str) (ev_v (pv 3) rfl ⟨S2, _, rfl, h2, tds_strs names⟩ mono_lstD) (alike_strs names) (sortable_strs names) (depth_strs names) fun S ys H4 s4 nS nS4 ty => ?_)
      have k4 : KeepX d H H4 := k3.trans (.of s4)
      have nSH : H S = none := by
        cases e : H S with
        | none => rfl
        | some o =>
          by_cases q : S = d
          · obtain ⟨kvs, hd⟩ := rd3.at
            rw [q, hd] at nS
            cases nS
          · rw [k3 _ _ q e] at nS
            cases nS
      rw [sort_strs] at ty
      obtain rfl := ty.strs
      refine k _ _ (keepX_put k4 nSH) ?_ ⟨S, sortS names, rfl, nSH, upd_same, ?_, ?_⟩
      · exact (rd3.same s4).same (same_put (.refl _) nS4)
      · unfold sortS
        rw [(List.mergeSort_perm _ _).length_eq, lm]
      · intro x hx
        exact sh x (List.mem_append_right _ ((List.mergeSort_perm _ _).mem_iff.mp hx))
end
end Kn

namespace Kn
open PySem PySem.Spec PyProof.Rows L2 Cb
/-! ### a drawn state -/
def LnOk (l : Ln) : Prop := NmOk l.nm ∧ 0 ≤ l.ex ∧ Bd 40 l.ex ∧ l.ct.natAbs < 2 ^ 60
def RowsV (n : Nat) : Pd := fun v H => ∃ rows : List Ln, Td H (rowsD rows) v ∧ 1 ≤ rows.length ∧ rows.length ≤ n ∧ ∀ l ∈ rows, LnOk l
def spState : Sp := fun vs H Q _ => ∃ (d c : Addr) (m : Nat), vs = [.ref d, .int (m : Int)] ∧ 1 ≤ m ∧ m ≤ 8 ∧ Rd d c H ∧ ∀ v H', KeepX d H H' → Rd d c H' → RowsV m v H' → Q v H'
abbrev NS : List Str := ["_law_reader_here", "_law_most", "_law_found", "_law_head", "_law_ratio", "_law_booked"]
theorem scState : FnScope NS ["_law_reader_here", "_law_most"] (defScope sState) := ⟨rfl, rfl, rfl, by decide +kernel, rfl, by decide +kernel, by decide +kernel⟩
theorem KeepX.rd {d c S : Addr} {H : Hp} {o : HO} {o' : HO} (r : Rd d c H) (h : H S = some o) (n : ∀ kvs, o ≠ .dK kvs) (nc : S ≠ c) : Rd d c (upd H S o') := by
  obtain ⟨ns, nx, rs, dr, hd, hc⟩ := r
  have nd : d ≠ S := fun e => by
    rw [e, h] at hd
    cases hd
    exact n _ rfl
  exact ⟨ns, nx, rs, dr, by rw [upd_ne nd]; exact hd, by rw [upd_ne nc.symm]; exact hc⟩
theorem rd_new {d c S : Addr} {H : Hp} (r : Rd d c H) (n : H S = none) : S ≠ c := fun e => by
  obtain ⟨_, _, _, _, _, hc⟩ := r
  rw [← e, n] at hc
  cases hc
theorem ev_lf {X : Cx} {σ : L2.St} {H : Hp} {a : Expr} {p q : Pos} {r : Rat} {k : Nat} {f : Addr} {fd : FuncData} {ps : List Str} (g : GDef X "_law_floor" k f fd ps spLF) (ha : Ev X σ H a (Da (qd r))) (hb : Bd 2000 r) (hg : Gl X "_law_floor" := by rfl) (hs : starEach [a] X.env = (false, eval a X.env) :: starEach [] X.env := by rfl)
    (hpl : (backTo p (starEach [] X.env)).any (·.1) = false := by rfl) : Ev X σ H (.Call (.Name "_law_floor" q) [a] [] p) (Is (.int (r.num.fdiv (r.den : Int)))) := ev_callP r g (ea_1 ha mono_da hs) (fun vs H2 _ h => ⟨h.one, hb⟩) hg (by decide) hs hpl
section
variable {P : Program} {w : World} {K : PySem.W.Frag} {mg : Str → Option Value} {base : Heap}
theorem ok_state {f : Addr} {fd : FuncData} (F : Fun K "_law_random_state" "_law_random_state" sState f fd) (LDr : LD P w K mg base "_law_draw" 1 ["_law_reader_here", "_law_many"] spDraw) (LH : LD P w K mg base "_law_heads" 3 ["_law_reader_here", "_law_many"] spHeads) (LS : LD P w K mg base "_law_some_ratio" 3 ["_law_reader_here", "_law_most"] spSome)
    (LF : LD P w K mg base "_law_floor" 1 ["_law_ratio"] spLF) (zt : mg "tuple" = none) : FnOk P w K mg base CX0 4 f fd ["_law_reader_here", "_law_most"] spState := by
  refine F.ok scState (fun vs H Q E h => ?_) (fun cdv A outer s H vs Q E hr h => ?_)
  · obtain ⟨d, c, m, rfl, _⟩ := h
    rfl
  · obtain ⟨d, c, m, rfl, m1, m8, rd, k⟩ := h
    obtain ⟨fD, fdD, GD⟩ := LD.g (X := (cxOf CX0 P w K mg base NS "_law_random_state" (defScope sState) f cdv A outer s H E).nox) LDr hr (by decide)
    obtain ⟨fH, fdH, GH⟩ := LD.g (X := (cxOf CX0 P w K mg base NS "_law_random_state" (defScope sState) f cdv A outer s H E).nox) LH hr (by decide)
    obtain ⟨fS, fdS, GS⟩ := LD.g (X := (cxOf CX0 P w K mg base NS "_law_random_state" (defScope sState) f cdv A outer s H E).nox) LS hr (by decide)
    obtain ⟨fF, fdF, GF⟩ := LD.g (X := (cxOf CX0 P w K mg base NS "_law_random_state" (defScope sState) f cdv A outer s H E).nox) LF hr (by decide)
    refine ⟨_, pw_B, ?_⟩
    refine b_newL (i := 2) scState.nd rfl (.inl rfl) fun S nS => ?_
    have s0 : Same H (upd H S (.lst [])) := same_new nS
    have hS0 : (upd H S (.lst [])) S = some (.lst []) := upd_same
    have nSc := rd_new rd nS
    generalize upd H S (.lst []) = H0 at s0 hS0 ⊢
    refine b_for rfl (pi_list pw_E) (pg_name (i := 3) scState.nd rfl (.inl rfl)) ?_ PassesOwn.never
    refine w_call2 GH (w_ev (ev_vi (pv 0) rfl) fun v0 H1 s1 e0 => w_E (pe_op op_add pw_E pw_E) (w_ev (ev_c pe_int) fun v1 H2 s2 e1 => w_draw GD (ev_vi (pv 0) rfl) (ev_vi (pv 1) rfl) (((rd.same s0).same s1).same s2) (by omega) (by omega) fun z H3 z0 z1 k3 rd3 => ?_))
    cases e0
    cases e1
    obtain ⟨zn, rfl⟩ := Int.eq_ofNat_of_zero_le z0
    refine ⟨1, (zn : Int), rfl, rfl, d, c, 1 + zn, by rw [Int.natCast_add]; rfl, by omega, rd3, fun v H4 k4 rd4 hv => ?_⟩
    obtain ⟨N, names, rfl, nN, hN, ln, sh⟩ := hv
    have k04 : KeepX d H0 H4 := (((KeepX.of s1).trans (.of s2)).trans k3).trans k4
    have hS4 := KeepX.lst (rd.same s0) k04 hS0
    have nNS : N ≠ S := fun e => by
      have z := KeepX.lst (rd.same s0) (((KeepX.of s1).trans (.of s2)).trans k3) hS0
      rw [← e, nN] at z
      cases z
    refine ⟨N, rfl, ⟨_, SqL.of hN⟩, for_list (K := K) (a := N) (xs := names.map V.str) (fun i σ H' => ∃ y3 y4 y5, σ = [some (.ref d), some (.int (m : Int)), some (.ref S), y3, y4, y5] ∧ KeepX d H H' ∧ Rd d c H' ∧ H' N = some (.lst (names.map V.str)) ∧ ∃ (us : List V) (rows : List Ln), H' S = some (.lst us) ∧ Tds H' (rows.map ld) us ∧ rows.length = i ∧ ∀ l ∈ rows, LnOk l)
      ⟨none, none, none, rfl, (KeepX.of s0).trans k04, rd4, hN, [], [], hS4, .nil, rfl, fun l hl => by cases hl⟩ (fun i σ H' _ ⟨_, _, _, _, _, _, h, _⟩ => SqL.of h) ?_ ?_⟩
    · rintro i x σ H5 hx ⟨y3, y4, y5, rfl, k5, rd5, hN5, us, rows, hS5, t5, l5, ok5⟩
      obtain ⟨nm, hnm, rfl⟩ := map_at hx
      have hi : i < 9 := by
        have := (List.getElem?_eq_some_iff.mp hnm).1
        omega
      refine b_set (i := 4) scState.nd rfl (.inl rfl) (w_call2 GS (w_ev (ev_vi (pv 0) rfl) fun v0 H6 s6 e0 => w_pick (ns := [3, 900000]) GD (ev_litL (ds := ([3, 900000] : List Int).map PyData.int) 2 rfl (by show 2 ≤ 1000; decide)) (fun _ _ => ev_vi (pv 0) rfl) (fun _ _ => ev_c pe_int) (rd5.same s6) (by decide) (by decide) fun m2 H7 hm2 k7 rd7 => ?_))
      cases e0
      have hm3 : 0 < m2 ∧ m2 ≤ 900000 := by
        have q : ∀ z ∈ ([3, 900000] : List Int), 0 < z ∧ z ≤ 900000 := by decide
        exact q _ hm2
      refine ⟨d, c, m2, rfl, hm3.1, hm3.2, rd7, fun v H8 k8 rd8 ⟨r, tr, r0, rb⟩ => ?_⟩
      refine b_set (i := 5) scState.nd rfl (.inl rfl) (w_E (pe_op op_add pw_E pw_E) (w_ev (ev_lf GF (ev_v (pv 4) rfl tr mono_da) (rb.mono (by decide))) fun v1 H9 s9 e1 => w_pick (ns := [0, 1, -1, 5, -900000, 0]) GD (ev_litL (ds := ([0, 1, -1, 5, -900000, 0] : List Int).map PyData.int) 3 rfl (by show 6 ≤ 1000; decide)) (fun _ _ => ev_vi (pv 0) rfl) (fun _ _ => ev_c pe_int) (rd8.same s9) (by decide) (by decide) fun w2 H10 hw2 k10 rd10 => ?_))
      cases e1
      refine ⟨_, w2, rfl, rfl, ?_⟩
      have kA : KeepX d H5 H10 := (((KeepX.of s6).trans k7).trans k8).trans ((KeepX.of s9).trans k10)
      have hS10 := KeepX.lst rd5 kA hS5
      have hus : us.length = i := by
        rw [t5.len, List.length_map, l5]
      refine b_appW (i := 2) (pv 2) rfl ⟨us, hS10⟩ (w_E (pe_tup (pa_cons (pv 3) (pa_cons (pv 4) (pa_cons (pv 5) (pa_cons pw_E pa_nil))))) ⟨_, rfl, _, rfl, _, rfl, w_E (pe_cmpR op_gt pw_E pw_E (nomark _)) (w_draw GD (ev_vi (pv 0) rfl) (ev_c pe_int) rd10 (by decide) (by decide) fun z4 H11 _ _ k11 rd11 => w_ev (ev_c pe_int) fun v3 H12 s12 e3 => ⟨z4, 0, rfl, e3, by show 4 ≤ sizeLine; decide, fun T hT => ?_⟩)⟩)
      have kB : KeepX d H5 H12 := (kA.trans k11).trans (.of s12)
      have hS12 := KeepX.lst rd5 kB hS5
      have sT : Same H12 (upd H12 T (.tup [V.str nm, v, V.int (r.num.fdiv (r.den : Int) + w2), V.bl (decide (z4 > 0))])) := same_new hT
      refine ⟨us, sT _ _ hS12, by omega, b_nil ?_⟩
      have nTS : T ≠ S := fun e => by
        rw [e, hS12] at hT
        cases hT
      have kC : KeepX d H5 (upd H12 T (.tup [V.str nm, v, V.int (r.num.fdiv (r.den : Int) + w2), V.bl (decide (z4 > 0))])) := kB.trans (.of sT)
      have hT2 : (upd H12 T (.tup [V.str nm, v, V.int (r.num.fdiv (r.den : Int) + w2), V.bl (decide (z4 > 0))])) T = some (.tup [V.str nm, v, V.int (r.num.fdiv (r.den : Int) + w2), V.bl (decide (z4 > 0))]) := upd_same
      have rdC := (rd11.same s12).same sT
      have hS13 := sT _ _ hS12
      have trC : Td (upd H12 T (.tup [V.str nm, v, V.int (r.num.fdiv (r.den : Int) + w2), V.bl (decide (z4 > 0))])) (qd r) v := Td.keep (((TupK.of s9).trans ((KeepX.tup (rd8.same s9) k10).trans (KeepX.tup rd10 k11))).trans ((TupK.of s12).trans (.of sT))) _ _ tr
      generalize upd H12 T (.tup [V.str nm, v, V.int (r.num.fdiv (r.den : Int) + w2), V.bl (decide (z4 > 0))]) = HC at kC hT2 rdC hS13 trC sT ⊢
      have ka : TupK HC (upd HC S (.lst (us ++ [V.ref T]))) := .app hS13
      refine ⟨_, _, _, rfl, keepX_put (k5.trans kC) nS, KeepX.rd rdC hS13 (fun _ z => by cases z) nSc, ?_, us ++ [V.ref T], rows ++ [⟨nm, r, r.num.fdiv (r.den : Int) + w2, decide (z4 > 0)⟩], upd_same, ?_, by rw [List.length_append, l5]; rfl, ?_⟩
      · rw [upd_ne nNS]
        exact KeepX.lst rd5 kC hN5
      · rw [List.map_append]
        exact (Tds.keep ((KeepX.tup rd5 kC).trans ka) _ _ t5).snoc (Td.keep ka _ _ (.mk hT2 (.cons td_str (.cons trC (.cons td_int (.cons td_bool .nil))))))
      · intro l hl
        rcases List.mem_append.mp hl with hl | hl
        · exact ok5 l hl
        · rw [List.mem_singleton.mp hl]
          refine ⟨sh nm (List.mem_of_getElem? hnm), r0, rb, ?_⟩
          have q : ∀ z ∈ ([0, 1, -1, 5, -900000, 0] : List Int), z.natAbs ≤ 900000 := by decide
          have q := q _ hw2
          have n0 := num_nonneg r0
          have dp := den_pos r
          have f1 : r.num.fdiv (r.den : Int) = r.num / (r.den : Int) := Int.fdiv_eq_ediv_of_nonneg _ (by omega)
          have f2 : 0 ≤ r.num / (r.den : Int) := Int.ediv_nonneg n0 (by omega)
          have f3 : r.num / (r.den : Int) ≤ r.num := Int.ediv_le_self _ n0
          have f4 : r.num.natAbs < 2 ^ 40 := rb.1
          show (r.num.fdiv (r.den : Int) + w2).natAbs < 2 ^ 60
          rw [f1]
          have f5 : (2 : Nat) ^ 40 = 1099511627776 := by decide
          have f6 : (2 : Nat) ^ 60 = 1152921504606846976 := by decide
          omega
    · rintro σ H5 ⟨y3, y4, y5, rfl, k5, rd5, hN5, us, rows, hS5, t5, l5, ok5⟩
      rw [List.length_map, ln] at l5
      exact b_retE (ev_tupleL zt (ev_v (pv 2) rfl ⟨S, us, rfl, hS5, t5⟩ mono_lstD)) fun v H6 s6 hv => k v H6 (k5.trans (.of s6)) (rd5.same s6) ⟨rows, hv, by omega, by omega, ok5⟩
end
end Kn

namespace Kn
open PySem PySem.Spec PyProof.Rows L2 Cb
/-! ### drawn days -/
def DayOk (n : Nat) (day : List Rat) : Prop := day.length = n ∧ ∀ q ∈ day, 0 ≤ q ∧ Bd 40 q
def DaysV (n m : Nat) : Pd := fun v H => ∃ days : List (List Rat), Td H (daysD days) v ∧ days.length = m ∧ ∀ day ∈ days, DayOk n day
def spDays : Sp := fun vs H Q _ => ∃ (d c : Addr) (u : V) (rows : List Ln) (m : Nat), vs = [.ref d, u, .int (m : Int)] ∧ m ≤ 20 ∧ rows.length ≤ 9 ∧ Td H (rowsD rows) u ∧ Rd d c H ∧ ∀ v H', KeepX d H H' → Rd d c H' → DaysV rows.length m v H' → Q v H'
abbrev ND : List Str := ["_law_reader_here", "_law_rows", "_law_many", "_law_found", "_law_k", "_law_charges", "_law_entry", "_law_ratio"]
theorem scDays : FnScope ND ["_law_reader_here", "_law_rows", "_law_many"] (defScope sDays) := ⟨rfl, rfl, rfl, by decide +kernel, rfl, by decide +kernel, by decide +kernel⟩
section
variable {P : Program} {w : World} {K : PySem.W.Frag} {mg : Str → Option Value} {base : Heap}
theorem ok_days {f : Addr} {fd : FuncData} (F : Fun K "_law_random_days" "_law_random_days" sDays f fd) (LDr : LD P w K mg base "_law_draw" 1 ["_law_reader_here", "_law_many"] spDraw) (LS : LD P w K mg base "_law_some_ratio" 3 ["_law_reader_here", "_law_most"] spSome) (zr : mg "range" = none) (zt : mg "tuple" = none) : FnOk P w K mg base CX0 4 f fd ["_law_reader_here", "_law_rows", "_law_many"] spDays := by
  refine F.ok scDays (fun vs H Q E h => ?_) (fun cdv A outer s H vs Q E hr h => ?_)
  · obtain ⟨d, c, u, rows, m, rfl, _⟩ := h
    rfl
  · obtain ⟨d, c, u, rows, m, rfl, m20, r9, hu, rd, k⟩ := h
    obtain ⟨fD, fdD, GD⟩ := LD.g (X := (cxOf CX0 P w K mg base ND "_law_random_days" (defScope sDays) f cdv A outer s H E).nox) LDr hr (by decide)
    obtain ⟨fS, fdS, GS⟩ := LD.g (X := (cxOf CX0 P w K mg base ND "_law_random_days" (defScope sDays) f cdv A outer s H E).nox) LS hr (by decide)
    obtain ⟨q, xs, rfl, hq, tx⟩ := hu.un
    refine ⟨_, pw_B, ?_⟩
    refine b_newL (i := 3) scDays.nd rfl (.inl rfl) fun S nS => ?_
    have s0 : Same H (upd H S (.lst [])) := same_new nS
    have hS0 : (upd H S (.lst [])) S = some (.lst []) := upd_same
    have nSc := rd_new rd nS
    generalize upd H S (.lst []) = H0 at s0 hS0 ⊢
    refine b_for rfl (pi_range1 (by rfl) zr (pa_cons (pv 2) pa_nil)) (pg_name (i := 4) scDays.nd rfl (.inl rfl)) ?_ PassesOwn.never
    refine ⟨_, rfl, (m : Int), rfl, by omega, by omega, for_range (n := ((m : Int) - 0).toNat) (fun i σ H' => ∃ y4 y5 y6 y7, σ = [some (.ref d), some (.ref q), some (.int (m : Int)), some (.ref S), y4, y5, y6, y7] ∧ KeepX d H H' ∧ Rd d c H' ∧ ∃ (us : List V) (days : List (List Rat)), H' S = some (.lst us) ∧ Tds H' (days.map dayD) us ∧ days.length = i ∧ ∀ day ∈ days, DayOk rows.length day) ?_ ?_ ?_⟩
    · exact ⟨none, none, none, none, rfl, .of s0, rd.same s0, [], [], hS0, .nil, rfl, fun l hl => by cases hl⟩
    · rintro i σ H1 hi ⟨y4, y5, y6, y7, rfl, k1, rd1, us, days, hS1, t1, l1, ok1⟩
      refine b_newL (i := 5) scDays.nd rfl (.inl rfl) fun C nC => ?_
      have sC : Same H1 (upd H1 C (.lst [])) := same_new nC
      have hC0 : (upd H1 C (.lst [])) C = some (.lst []) := upd_same
      have nCc := rd_new rd1 nC
      have nCS : C ≠ S := fun e => by
        rw [e, hS1] at nC
        cases nC
      generalize upd H1 C (.lst []) = H2 at sC hC0 ⊢
      have rd2 := rd1.same sC
      have hq2 : H2 q = some (.tup xs) := sC _ _ (KeepX.tup rd k1 _ _ hq)
      refine b_for rfl (pi_tup (pv 1)) (pg_name (i := 6) scDays.nd rfl (.inl rfl)) ?_ PassesOwn.never
      refine ⟨_, rfl, q, rfl, ⟨xs, .of hq2⟩, for_tup (K := K) (a := q) (xs := xs) (fun j σ H' => ∃ y6 y7, σ = [some (.ref d), some (.ref q), some (.int (m : Int)), some (.ref S), some (.int ((0 : Int) + (i : Nat))), some (.ref C), y6, y7] ∧ KeepX d H1 H' ∧ Rd d c H' ∧ ∃ (ws : List V) (rs : List Rat), H' C = some (.lst ws) ∧ Tds H' (rs.map qd) ws ∧ rs.length = j ∧ ∀ r ∈ rs, 0 ≤ r ∧ Bd 40 r) ?_ (fun j σ H' _ ⟨_, _, _, kx, _⟩ => .of (KeepX.tup rd1 kx _ _ (KeepX.tup rd k1 _ _ hq))) ?_ ?_⟩
      · exact ⟨y6, y7, rfl, .of sC, rd2, [], [], hC0, .nil, rfl, fun l hl => by cases hl⟩
      · rintro j x σ H3 hx ⟨z6, z7, rfl, k3, rd3, ws, rs, hC3, t3, l3, ok3⟩
        obtain ⟨dd, hd, td⟩ := tx.at' hx
        obtain ⟨ln, hln, rfl⟩ := map_at hd
        have hj : j < 9 := by
          have := (List.getElem?_eq_some_iff.mp hln).1
          omega
        have td3 : Td H3 (ld ln) x := Td.keep ((KeepX.tup rd k1).trans (KeepX.tup rd1 k3)) _ _ td
        refine b_set (i := 7) scDays.nd rfl (.inl rfl) (w_call2 GS (w_ev (ev_vi (pv 0) rfl) fun v0 H6 s6 e0 => w_pick (ns := [2, 1000]) GD (ev_litL (ds := ([2, 1000] : List Int).map PyData.int) 2 rfl (by show 2 ≤ 1000; decide)) (fun _ _ => ev_vi (pv 0) rfl) (fun _ _ => ev_c pe_int) (rd3.same s6) (by decide) (by decide) fun m2 H7 hm2 k7 rd7 => ?_))
        cases e0
        have hm3 : 0 < m2 ∧ m2 ≤ 900000 := by
          have q : ∀ z ∈ ([2, 1000] : List Int), 0 < z ∧ z ≤ 900000 := by decide
          exact q _ hm2
        refine ⟨d, c, m2, rfl, hm3.1, hm3.2, rd7, fun v H8 k8 rd8 ⟨r, tr, r0, rb⟩ => ?_⟩
        have k38 : KeepX d H3 H8 := ((KeepX.of s6).trans k7).trans k8
        have hC8 := KeepX.lst rd3 k38 hC3
        have td8 := Td.keep (KeepX.tup rd3 k38) _ _ td3
        have lws : ws.length = j := by rw [t3.len, List.length_map, l3]
        have fin : ∀ (v9 : V) (H9 : Hp) (r9 : Rat), KeepX d H3 H9 → Rd d c H9 → Td H9 (qd r9) v9 → 0 ≤ r9 → Bd 40 r9 → ∃ us, H9 C = some (.lst us) ∧ us.length ≤ 900 ∧ ∃ y6 y7, [some (V.ref d), some (.ref q), some (.int (m : Int)), some (.ref S), some (.int ((0 : Int) + (i : Nat))), some (.ref C), some x, some v] = [some (V.ref d), some (.ref q), some (.int (m : Int)), some (.ref S), some (.int ((0 : Int) + (i : Nat))), some (.ref C), y6, y7] ∧ KeepX d H1 (upd H9 C (.lst (us ++ [v9]))) ∧ Rd d c (upd H9 C (.lst (us ++ [v9]))) ∧ ∃ (ws : List V) (rs : List Rat), (upd H9 C (.lst (us ++ [v9]))) C = some (.lst ws) ∧ Tds (upd H9 C (.lst (us ++ [v9]))) (rs.map qd) ws ∧ rs.length = j + 1 ∧ ∀ r ∈ rs, 0 ≤ r ∧ Bd 40 r := by
          intro v9 H9 r9 k9 rd9 t9 p9 b9
          have hC9 := KeepX.lst rd3 k9 hC3
          have ka : TupK H9 (upd H9 C (.lst (ws ++ [v9]))) := .app hC9
          refine ⟨ws, hC9, by omega, _, _, rfl, keepX_put (k3.trans k9) nC, KeepX.rd rd9 hC9 (fun _ z => by cases z) nCc, ws ++ [v9], rs ++ [r9], upd_same, ?_, by rw [List.length_append, l3]; rfl, ?_⟩
          · rw [List.map_append]
            exact (Tds.keep ((KeepX.tup rd3 k9).trans ka) _ _ t3).snoc (Td.keep ka _ _ t9)
          · intro r hr
            rcases List.mem_append.mp hr with hr | hr
            · exact ok3 r hr
            · rw [List.mem_singleton.mp hr]
              exact ⟨p9, b9⟩
        refine b_appW (i := 5) (pv 5) rfl ⟨ws, hC8⟩ (w_E (pe_ifExp pw_W.pt pw_E pw_E) (w_W (pw_and pw_T pw_W) (w_evT (et_v (Ev.ofBool (ev_ixD (j := 3) (ev_v (pv 6) rfl td8 mono_da) (ev_c pe_int) rfl))) fun H9 s9 => ?_)))
        have k39 := k38.trans (.of s9)
        have rd9 := rd8.same s9
        by_cases on : ln.on = true
        · rw [if_pos on]
          refine w_W (pw_and1 pw_T) (w_T (pt_cmpR op_gt pw_E pw_E (nomark _)) (w_draw GD (ev_vi (pv 0) rfl) (ev_c pe_int) rd9 (by decide) (by decide) fun z4 H10 _ _ k10 rd10 => w_ev (ev_c pe_int) fun v3 H12 s12 e3 => ⟨z4, 0, rfl, e3, decide (z4 > 0), rfl, ?_⟩))
          have kB : KeepX d H3 H12 := (k39.trans k10).trans (.of s12)
          have rdB := rd10.same s12
          have trB : Td H12 (qd r) v := Td.keep (((TupK.of s9).trans (KeepX.tup rd9 k10)).trans (.of s12)) _ _ tr
          by_cases z : decide (z4 > 0) = true
          · show (if decide (z4 > 0) = true then _ else _)
            rw [if_pos z]
            refine w_ev (ev_v (pv 7) rfl trB mono_da) fun v9 H13 s13 h9 => ?_
            obtain ⟨us', a1, a2, a3⟩ := fin v9 H13 r (kB.trans (.of s13)) (rdB.same s13) h9 r0 rb
            exact ⟨us', a1, a2, b_nil a3⟩
          · show (if decide (z4 > 0) = true then _ else _)
            rw [if_neg z]
            refine w_ev (ev_lit (d := .tuple [.int 0, .int 1]) 3 rfl) fun v9 H13 s13 h9 => ?_
            obtain ⟨us', a1, a2, a3⟩ := fin v9 H13 0 (kB.trans (.of s13)) (rdB.same s13) h9 (Rat.le_refl) (bd_zero.mono (by decide))
            exact ⟨us', a1, a2, b_nil a3⟩
        · rw [if_neg on]
          show (if false = true then _ else _)
          rw [if_neg (by simp)]
          refine w_ev (ev_lit (d := .tuple [.int 0, .int 1]) 3 rfl) fun v9 H13 s13 h9 => ?_
          obtain ⟨us', a1, a2, a3⟩ := fin v9 H13 0 (k39.trans (.of s13)) (rd9.same s13) h9 (Rat.le_refl) (bd_zero.mono (by decide))
          exact ⟨us', a1, a2, b_nil a3⟩
      · rintro σ H3 ⟨z6, z7, rfl, k3, rd3, ws, rs, hC3, t3, l3, ok3⟩
        have lx : xs.length = rows.length := by rw [tx.len, List.length_map]
        have lu : us.length = i := by rw [t1.len, List.length_map, l1]
        have hS3 := KeepX.lst rd1 k3 hS1
        refine b_app (i := 3) (pv 3) rfl hS3 (by omega) (ev_tupleL zt (ds := rs.map qd) (ev_v (pv 5) rfl ⟨C, ws, rfl, hC3, t3⟩ mono_lstD)) fun v4 H4 s4 h4 => b_nil ?_
        have hS4 := s4 _ _ hS3
        have ka : TupK H4 (upd H4 S (.lst (us ++ [v4]))) := .app hS4
        have k14 : KeepX d H1 H4 := k3.trans (.of s4)
        refine ⟨_, _, _, _, rfl, keepX_put (k1.trans k14) nS, KeepX.rd (rd3.same s4) hS4 (fun _ z => by cases z) nSc, us ++ [v4], days ++ [rs], upd_same, ?_, by rw [List.length_append, l1]; rfl, ?_⟩
        · rw [List.map_append]
          exact (Tds.keep ((KeepX.tup rd1 k14).trans ka) _ _ t1).snoc (Td.keep ka _ _ h4)
        · intro day hday
          rcases List.mem_append.mp hday with hday | hday
          · exact ok1 day hday
          · rw [List.mem_singleton.mp hday]
            exact ⟨by omega, ok3⟩
    · rintro σ H5 ⟨y4, y5, y6, y7, rfl, k5, rd5, us, days, hS5, t5, l5, ok5⟩
      exact b_retE (ev_tupleL zt (ev_v (pv 3) rfl ⟨S, us, rfl, hS5, t5⟩ mono_lstD)) fun v H6 s6 hv => k v H6 (k5.trans (.of s6)) (rd5.same s6) ⟨days, hv, by omega, ok5⟩
end
end Kn

namespace Cb
open PySem PySem.Spec PyProof.Rows L2
section
variable {X : Cx} {a b : Expr} {σ : L2.St} {H : Hp}
def rNeP (K : PySem.W.Frag) : R2 := fun x y H Q => ∃ d e, Dp K H x d ∧ Dp K H y e ∧ d.plain = true ∧ e.plain = true ∧ d.depth ≤ 60 ∧ Q (.bl (!PyData.eqv d e)) H
theorem op_neP (hu : X.A.units + 64 < cLine) : OpR X (compareOp .NotEq) (rNeP X.K) := by
  rintro pins s σ H x y v u Q I rx ry ⟨d, e, hd, he, pd, pe, dp, q⟩
  obtain ⟨as, r1⟩ := Dp.reads I d x v hd rx
  obtain ⟨bs, r2⟩ := Dp.reads I e y u he ry
  exact SeqAt.ne_plain r1 r2 pd pe (by omega) ⟨.bl _, H, I, rfl, q⟩
/-- != of data of any texts -/
theorem c_neP {Pa Pb : Pd} {d e' : PyData} (hu : X.A.units + 64 < cLine) (ha : Ev X σ H a Pa) (hb : Ev X σ H b Pb) (ma : Mono Pa) (da : ∀ x H', Same H H' → Pa x H' → Dp X.K H' x d) (db : ∀ x H', Same H H' → Pb x H' → Dp X.K H' x e') (pd : d.plain = true) (pe : e'.plain = true) (dp : d.depth ≤ 60) (hm : behindInMarks .NotEq b = false := by exact nomark _) : CC X σ H .NotEq a b (.bl (!PyData.eqv d e')) :=
  ⟨_, _, _, op_neP hu, hm, ha, hb, ma, fun x y H2 s px py => ⟨d, e', da x H2 s px, db y H2 s py, pd, pe, dp, .refl _, rfl⟩, fun x y H2 Q Q' k ⟨d, e, h1, h2, h3, h4, h5, q⟩ => ⟨d, e, h1, h2, h3, h4, h5, k _ _ q⟩⟩
end
end Cb
namespace Kn
open PySem PySem.Spec PyProof.Rows L2 Cb
/-! ### _law_crosses: some bool -/
def spCross : Sp := spP (fun (d : List Str × List Str) vs H => ∃ v w, vs = [v, w] ∧ Td H (.tuple (d.1.map PyData.str)) v ∧ Td H (.tuple (d.2.map PyData.str)) w ∧ d.1.length ≤ 900 ∧ d.2.length ≤ 900) (fun _ v _ => ∃ b, v = .bl b)
abbrev NX : List Str := ["_law_one", "_law_other", "_law_both", "_law_head"]
theorem scCross : FnScope NX ["_law_one", "_law_other"] (defScope sCrosses) := ⟨rfl, rfl, rfl, by decide +kernel, rfl, by decide +kernel, by decide +kernel⟩
theorem plain_strs : ∀ ns : List Str, PyData.plainAll (ns.map PyData.str) = true
  | [] => rfl
  | n :: ns => by
    show (PyData.plain (.str n) && PyData.plainAll (ns.map PyData.str)) = true
    rw [plain_strs ns]
    rfl
theorem depthAll_strs : ∀ ns : List Str, PyData.depthAll (ns.map PyData.str) = 0
  | [] => rfl
  | n :: ns => by
    show max (PyData.depth (.str n)) (PyData.depthAll (ns.map PyData.str)) = 0
    rw [depthAll_strs ns]
    rfl
theorem flat_strs (ys : List Str) : (ys.map V.str).all flatV = true := by
  rw [List.all_eq_true]
  intro x hx
  obtain ⟨y, _, rfl⟩ := List.mem_map.mp hx
  rfl
theorem ev_min2 {X : Cx} {σ : L2.St} {H : Hp} {a b : Expr} {p p' : Pos} {i j : Int} (hc : X.calm = true) (hm : X.mg "min" = none) (ha : Ev X σ H a (Is (.int i))) (hb : Ev X σ H b (Is (.int j))) (hg : Gl X "min" := by rfl) (hs : starEach [a, b] X.env = (false, eval a X.env) :: starEach [b] X.env := by rfl) (hs' : starEach [b] X.env = (false, eval b X.env) :: starEach [] X.env := by rfl)
    (hpl : (backTo p (starEach [b] X.env)).any (·.1) = false := by rfl) : Ev X σ H (.Call (.Name "min" p') [a, b] [] p) (Is (.int (if j < i then j else i))) :=
  ev_cb (call_min2 hc) hm (by decide +kernel) (ea_2 ha mono_is hb mono_is hs hs') (fun vs H2 s h => by
    obtain ⟨v, w, rfl, e1, e2⟩ := h.two
    exact ⟨i, j, by rw [show v = .int i from e1, show w = .int j from e2], .refl _, rfl⟩) (fun vs H2 Q Q' k ⟨i, j, h, q⟩ => ⟨i, j, h, k _ _ q⟩) hg (by decide) (by decide) hs hpl
section
variable {P : Program} {w : World} {K : PySem.W.Frag} {mg : Str → Option Value} {base : Heap}
theorem ok_cross {f : Addr} {fd : FuncData} (F : Fun K "_law_crosses" "_law_crosses" sCrosses f fd) (zl : mg "len" = none) (zm : mg "min" = none) : FnOk P w K mg base CX0 1 f fd ["_law_one", "_law_other"] spCross := by
  refine F.ok scCross (fun vs H Q E h => ?_) (fun cdv A outer s H vs Q E hr h => ?_)
  · obtain ⟨d, ⟨v, w, rfl, _⟩, _⟩ := h
    rfl
  · obtain ⟨⟨xs, ys⟩, ⟨v, v2, rfl, hx, hy, lx, ly⟩, k⟩ := h
    dsimp only at hx hy lx ly k
    obtain ⟨q, us, rfl, hq, tx⟩ := id hx.un
    obtain ⟨q2, ws, rfl, hq2, ty⟩ := id hy.un
    obtain rfl := tx.strs
    obtain rfl := ty.strs
    refine ⟨_, pw_B, ?_⟩
    refine b_cons (w_S (ps_setLc (i := 2) (own := [("_law_head", 3)]) (g := gName 3) rfl scCross.nd rfl rfl rfl (pi_tup (pv 0)) (blkOk_by (N := NX) (sc := defScope sCrosses) (by decide +kernel)) (fun _ _ _ _ _ => pg_name (i := 3) scCross.nd rfl (Or.inl rfl)) pw_Tb pw_Eb) ?_)
    refine ⟨_, rfl, q, rfl, ⟨_, .of hq⟩, fun M hM => lc_tup (K := K) (a := q) (xs := xs.map V.str) (fun i H' => Same H H' ∧ ∃ zs : List Str, H' M = some (.lst (zs.map V.str)) ∧ zs.length ≤ i) ?_ (fun i H' _ h => .of (h.1 _ _ hq)) ?_ ?_⟩
    · exact ⟨same_new hM, [], upd_same, Nat.le_refl _⟩
    · rintro i x H3 hi ⟨s3, zs, hm, hz⟩
      obtain ⟨x, hx', rfl⟩ := map_at hi
      have hi2 : i < xs.length := (List.getElem?_eq_some_iff.mp hx').1
      refine ⟨wipeD, ?_⟩
      intro s' H0 C' cl' fp'
      refine w_T (pt_cmpR op_in_seq (pv 3) (pv 1) (by rfl)) ⟨_, rfl, _, rfl, q2, _, rfl, .inr (.of (s3 _ _ hq2)), rfl, flat_strs ys, _, rfl, ?_⟩
      show (if inV (V.str x) (ys.map V.str) = true then _ else _)
      by_cases b : inV (V.str x) (ys.map V.str) = true
      · rw [if_pos b]
        intro s2 H02 C2 cl2 fp2
        refine w_E (pv 3) ⟨_, rfl, zs.map V.str, hm, by rw [List.length_map]; exact small1000 (by omega), ?_⟩
        refine ⟨same_put s3 hM, zs ++ [x], ?_, by rw [List.length_append]; simp; omega⟩
        rw [upd_same, List.map_append]
        rfl
      · rw [if_neg b]
        exact ⟨s3, zs, hm, by omega⟩
    · rintro H3 ⟨s3, zs, hm, hz⟩
      have tz : LstD (zs.map PyData.str) (.ref M) H3 := ⟨M, _, rfl, hm, tds_strs zs⟩
      have hmz : PyData.eqv (.list (zs.map PyData.str)) (.list []) = zs.isEmpty := by cases zs <;> rfl
      refine b_retE (P := fun v _ => ∃ b, v = .bl b) ?_ fun v H4 s4 hv => k v H4 (s3.trans s4) hv
      refine Ev.imp (P := Is (.bl (!PyData.eqv (.list (zs.map PyData.str)) (.list []) && decide ((zs.length : Int) < (if (ys.length : Int) < (xs.length : Int) then (ys.length : Int) else (xs.length : Int)))))) (ev_and (k := !PyData.eqv (.list (zs.map PyData.str)) (.list [])) (CC.ev (c_neP hr.units (ev_v (pv 2) rfl tz mono_lstD) (ev_lstD (ds := []) ed_nil (by show 0 ≤ 1000; decide)) mono_lstD (fun x H' s ⟨a, us, e, h, t⟩ => ?_) (fun x H' s ⟨a, us, e, h, t⟩ => ?_) ?_ rfl ?_)) fun _ => ev_and1 (CC.ev (c_I op_lt (nomark _) ?_ ?_))) fun v _ _ e => ⟨_, e⟩
      · subst e
        exact .lst (.of h) (Tds.dp _ _ t)
      · subst e
        exact .lst (.of h) (Tds.dp _ _ t)
      · exact plain_strs zs
      · show PyData.depthAll (zs.map PyData.str) + 1 ≤ 60
        rw [depthAll_strs]
        decide
      · exact Ev.is (ev_lenLD zl (ev_v (pv 2) rfl tz mono_lstD)) (by rw [List.length_map])
      · exact Ev.is (ev_min2 rfl zm (ev_lenT zl (ev_v (pv 0) rfl (Td.keep (.of s3) _ _ hx) mono_da)) (ev_lenT zl (ev_v (pv 1) rfl (Td.keep (.of s3) _ _ hy) mono_da))) (by rw [List.length_map, List.length_map])
end
end Kn

namespace Kn
open PySem PySem.Spec PyProof.Rows L2 Cb
/-! ### _law_after -/
structure Fit0 (rows : List Ln) (days : List (List Rat)) (bk : List (List Int)) : Prop where
  fit : Fit rows days bk
  eq : bk.length = days.length
  dq : ∀ d ∈ days, ∀ q ∈ d, (0 : Rat) ≤ q
  rq : ∀ l ∈ rows, (0 : Rat) ≤ l.ex
def spLAft : Sp := spP (fun (d : List Ln × PyData × List (List Rat) × List (List Int)) vs H => (∃ v b, vs = [v, b] ∧ Td H (.tuple [rowsD d.1, d.2.1, daysD d.2.2.1]) v ∧ Td H (bkD d.2.2.2) b) ∧ Fit0 d.1 d.2.2.1 d.2.2.2) (fun d => Da (rowsD (aftR d.1 d.2.2.1 d.2.2.2)))
abbrev NF : List Str := ["_law_good", "_law_booked", "_law_rows", "_law_parts", "_law_days_now", "_law_found", "_law_i", "_law_head", "_law_ratio", "_law_have", "_law_goes", "_law_d"]
theorem scLAft : FnScope NF ["_law_good", "_law_booked"] (defScope sLAfter) := ⟨rfl, rfl, rfl, by decide +kernel, rfl, by decide +kernel, by decide +kernel⟩
theorem ev_la {X : Cx} {σ : L2.St} {H : Hp} {a b : Expr} {p q : Pos} {r s : Rat} {k : Nat} {f : Addr} {fd : FuncData} {ps : List Str} (g : GDef X "_law_add" k f fd ps spLA) (ha : Ev X σ H a (Da (qd r))) (hb : Ev X σ H b (Da (qd s))) (h1 : Bd 2000 r) (h2 : Bd 2000 s) (h3 : 0 ≤ r) (h4 : 0 ≤ s) (hg : Gl X "_law_add" := by rfl) (hs : starEach [a, b] X.env = (false, eval a X.env) :: starEach [b] X.env := by rfl) (hs' : starEach [b] X.env = (false, eval b X.env) :: starEach [] X.env := by rfl)
    (hpl : (backTo p (starEach [b] X.env)).any (·.1) = false := by rfl) : Ev X σ H (.Call (.Name "_law_add" q) [a, b] [] p) (Da (qd (r + s))) := ev_callP (r, s) g (ea_2 ha mono_da hb mono_da hs hs') (fun vs H2 _ h => ⟨h.two, h1, h2, h3, h4⟩) hg (by decide) hs hpl
theorem sumQ_nonneg : ∀ (l : List Rat), (∀ r ∈ l, (0 : Rat) ≤ r) → ∀ a : Rat, 0 ≤ a → 0 ≤ l.foldl (· + ·) a
  | [], _, a, h => h
  | r :: l, hl, a, h => sumQ_nonneg l (fun q hq => hl q (List.mem_cons_of_mem _ hq)) (a + r) (Rat.add_nonneg h (hl r (List.mem_cons_self ..)))
theorem sum_snoc {l : List Int} {z : Int} : (l ++ [z]).sum = l.sum + z := by
  rw [List.sum_append]
  simp
section
variable {P : Program} {w : World} {K : PySem.W.Frag} {mg : Str → Option Value} {base : Heap}
theorem ok_laft {f : Addr} {fd : FuncData} (F : Fun K "_law_after" "_law_after" sLAfter f fd) (L : LD P w K mg base "_law_add" 3 ["_law_one", "_law_other"] spLA) (zr : mg "range" = none) (zl : mg "len" = none) (zt : mg "tuple" = none) : FnOk P w K mg base CX0 4 f fd ["_law_good", "_law_booked"] spLAft := by
  refine F.ok scLAft (fun vs H Q E h => ?_) (fun cdv A outer s H vs Q E hr h => ?_)
  · obtain ⟨d, ⟨⟨v, b, rfl, _⟩, _⟩, _⟩ := h
    rfl
  · obtain ⟨⟨rows, parts, days, bk⟩, ⟨⟨v, b, rfl, hv, hb⟩, ft⟩, k⟩ := h
    dsimp only at hv hb k ft
    have fit := ft.fit
    obtain ⟨fA, fdA, GA⟩ := LD.g (X := (cxOf CX0 P w K mg base NF "_law_after" (defScope sLAfter) f cdv A outer s H E).nox) L hr (by decide)
    refine ⟨_, pw_B, ?_⟩
    refine b_asgE (pg_tup rfl (pgs_cons (pg_name (i := 2) scLAft.nd rfl (.inl rfl)) (pgs_cons (pg_name (i := 3) scLAft.nd rfl (.inl rfl)) (pgs_cons (pg_name (i := 4) scLAft.nd rfl (.inl rfl)) pgs_nil)))) (ev_v (pv 0) rfl hv mono_da) fun u H1 s1 hu => ?_
    obtain ⟨q, xs, rfl, hq, t⟩ := hu.un
    obtain ⟨x1, r1, rfl, t1, t⟩ := t.un
    obtain ⟨x2, r2, rfl, t2, t⟩ := t.un
    obtain ⟨x3, r3, rfl, t3, t⟩ := t.un
    obtain rfl := t.nil'
    refine ⟨q, _, rfl, .of hq, rfl, _, _, rfl, _, _, rfl, _, _, rfl, rfl, ?_⟩
    have hb1 := Td.keep (.of s1) _ _ hb
    refine b_newL (i := 5) scLAft.nd rfl (.inl rfl) fun S nS => ?_
    have s0 : Same H1 (upd H1 S (.lst [])) := same_new nS
    have hS0 : (upd H1 S (.lst [])) S = some (.lst []) := upd_same
    generalize upd H1 S (.lst []) = H2 at s0 hS0 ⊢
    refine b_for rfl (pi_range1 (by rfl) zr (pa_cons pw_E pa_nil)) (pg_name (i := 6) scLAft.nd rfl (.inl rfl)) ?_ PassesOwn.never
    refine w_ev (ev_lenT zl (ev_v (pv 2) rfl (Td.keep (.of s0) _ _ t1) mono_da)) fun v0 H3 s3 e0 => ?_
    cases e0
    refine ⟨_, rfl, by omega, by rw [List.length_map]; have := fit.n; omega, for_range (n := (((rows.map ld).length : Int) - 0).toNat) (fun i σ H' => ∃ y6 y7 y8 y9 y10 y11, σ = [some v, some b, some x1, some x2, some x3, some (.ref S), y6, y7, y8, y9, y10, y11] ∧ Same H1 H' ∧ ∃ us, H' S = some (.lst us) ∧ us.length = i ∧ Tds H' (((aftR rows days bk).take i).map ld) us) ?_ ?_ ?_⟩
    · exact ⟨none, none, none, none, none, none, rfl, s0.trans s3, [], s3 _ _ hS0, rfl, .nil⟩
    · rintro i σ H4 hi ⟨y6, y7, y8, y9, y10, y11, rfl, s4, us, hS4, hl4, ht4⟩
      have hi : i < rows.length := by
        rw [List.length_map] at hi
        omega
      have hl : rows[i]? = some rows[i] := List.getElem?_eq_getElem hi
      have hlm : rows[i] ∈ rows := List.getElem_mem hi
      generalize rows[i] = l at hl hlm
      have t14 : Td H4 (.tuple (rows.map ld)) x1 := Td.keep (.of s4) _ _ t1
      have t34 : Td H4 (.tuple (days.map dayD)) x3 := Td.keep (.of s4) _ _ t3
      have hb4 : Td H4 (.tuple (bk.map rowI)) b := Td.keep (.of s4) _ _ hb1
      have hld : (rows.map ld)[i]? = some (ld l) := by rw [List.getElem?_map, hl]; rfl
      refine b_asgE (pg_tup rfl (pgs_cons (pg_name (i := 7) scLAft.nd rfl (.inl rfl)) (pgs_cons (pg_name (i := 8) scLAft.nd rfl (.inl rfl)) (pgs_cons (pg_name (i := 9) scLAft.nd rfl (.inl rfl)) (pgs_cons (pg_name (i := 10) scLAft.nd rfl (.inl rfl)) pgs_nil))))) (ev_ixD (j := i) (ev_v (pv 2) rfl t14 mono_da) (Ev.is (ev_vi (pv 6) rfl) (by rw [Int.zero_add])) hld) fun ux H5 s5 hux => ?_
      obtain ⟨qx, xx, rfl, hqx, tx⟩ := hux.un
      obtain ⟨n1, w1, rfl, tn, tx⟩ := tx.un
      obtain ⟨n2, w2, rfl, te, tx⟩ := tx.un
      obtain ⟨n3, w3, rfl, tc, tx⟩ := tx.un
      obtain ⟨n4, w4, rfl, to_, tx⟩ := tx.un
      obtain rfl := tx.nil'
      obtain rfl := tc.int
      refine ⟨qx, _, rfl, .of hqx, rfl, _, _, rfl, _, _, rfl, _, _, rfl, _, _, rfl, rfl, ?_⟩
      have t35 := Td.keep (.of s5) _ _ t34
      have hb5 := Td.keep (.of s5) _ _ hb4
      refine b_for rfl (pi_range1 (by rfl) zr (pa_cons pw_E pa_nil)) (pg_name (i := 11) scLAft.nd rfl (.inl rfl)) ?_ PassesOwn.never
      refine w_ev (ev_lenT zl (ev_v (pv 4) rfl t35 mono_da)) fun v0 H6 s6 e0 => ?_
      cases e0
      refine ⟨_, rfl, by omega, by rw [List.length_map]; have := fit.m; omega, for_range (n := (((days.map dayD).length : Int) - 0).toNat) (fun j σ H' => ∃ u8 y11, σ = [some v, some b, some x1, some x2, some x3, some (.ref S), some (.int ((0 : Int) + (i : Nat))), some n1, some u8, some (.int (l.ct + ((bk.take j).map fun r => r.getD i 0).sum)), some n4, y11] ∧ Same H5 H' ∧ Td H' (qd (l.ex + sumQ ((days.take j).map fun d => d.getD i 0))) u8) ?_ ?_ ?_⟩
      · refine ⟨n2, y11, ?_, s6, ?_⟩
        · simp only [List.take_zero, List.map_nil, List.sum_nil, Int.add_zero]
          rfl
        · have z : l.ex + sumQ ((days.take 0).map fun d => d.getD i 0) = l.ex := by
            show l.ex + 0 = l.ex
            exact Rat.add_zero _
          rw [z]
          exact Td.keep (.of s6) _ _ te
      · rintro j σ H7 hj ⟨u8, z11, rfl, s7, hu8⟩
        have hj : j < days.length := by
          rw [List.length_map] at hj
          omega
        have hjb : j < bk.length := by
          rw [ft.eq]
          exact hj
        have hd : days[j]? = some days[j] := List.getElem?_eq_getElem hj
        have hdm : days[j] ∈ days := List.getElem_mem hj
        generalize days[j] = day at hd hdm
        have hr' : bk[j]? = some bk[j] := List.getElem?_eq_getElem hjb
        have hrm : bk[j] ∈ bk := List.getElem_mem hjb
        generalize bk[j] = row at hr' hrm
        have hdD : (days.map dayD)[j]? = some (dayD day) := by rw [List.getElem?_map, hd]; rfl
        have hrD : (bk.map rowI)[j]? = some (rowI row) := by rw [List.getElem?_map, hr']; rfl
        have t37 := Td.keep (.of s7) _ _ t35
        have hb7 := Td.keep (.of s7) _ _ hb5
        have q60 : ∀ r ∈ (days.take j).map (fun d => d.getD i 0), Bd 60 r ∧ 0 ≤ r := fun r hr => by
          obtain ⟨d, hd, rfl⟩ := List.mem_map.mp hr
          have hd := List.mem_of_mem_take hd
          have hdl := fit.dl d hd
          rw [List.getD_eq_getElem?_getD, List.getElem?_eq_getElem (by omega)]
          exact ⟨fit.dq d hd _ (List.getElem_mem _), ft.dq d hd _ (List.getElem_mem _)⟩
        have dayq : Bd 60 (day.getD i 0) ∧ 0 ≤ day.getD i 0 := by
          have hdl := fit.dl day hdm
          rw [List.getD_eq_getElem?_getD, List.getElem?_eq_getElem (by omega)]
          exact ⟨fit.dq day hdm _ (List.getElem_mem _), ft.dq day hdm _ (List.getElem_mem _)⟩
        have b1 : Bd 2000 (l.ex + sumQ ((days.take j).map fun d => d.getD i 0)) := (bd_add (fit.rq l hlm) (bd_sumQ fun r hr => (q60 r hr).1)).mono (by
          rw [List.length_map, List.length_take]
          have := fit.m
          omega)
        have p1 : 0 ≤ l.ex + sumQ ((days.take j).map fun d => d.getD i 0) := Rat.add_nonneg (ft.rq l hlm) (sumQ_nonneg _ (fun r hr => (q60 r hr).2) 0 Rat.le_refl)
        refine b_par (i := 8) (j := 9) rfl scLAft.nd rfl rfl (by decide) (ev_la GA (ev_v (pv 8) rfl hu8 mono_da) (ev_ixD (j := i) (ev_ixD (j := j) (ev_v (pv 4) rfl t37 mono_da) (Ev.is (ev_vi (pv 11) rfl) (by rw [Int.zero_add])) hdD) (Ev.is (ev_vi (pv 6) rfl) (by rw [Int.zero_add])) (day_at (fit.dl day hdm) hi)) b1 (dayq.1.mono (by decide)) p1 dayq.2) mono_da
          (ev_opI op_add (ev_vi (pv 9) rfl) (Ev.ofInt (ev_ixD (j := i) (ev_ixD (j := j) (ev_v (pv 1) rfl hb7 mono_da) (Ev.is (ev_vi (pv 11) rfl) (by rw [Int.zero_add])) hrD) (Ev.is (ev_vi (pv 6) rfl) (by rw [Int.zero_add])) (row_at (fit.bl row hrm) hi)))) mono_is fun v8 v9 H8 s8 e1 e2 => b_nil ?_
        cases e2
        refine ⟨v8, some (.int ((0 : Int) + (j : Nat))), ?_, s7.trans s8, ?_⟩
        · rw [take_snoc hr', List.map_append, show [row].map (fun r => r.getD i 0) = [row.getD i 0] from rfl, sum_snoc, Int.add_assoc]
          rfl
        · rw [take_snoc hd, List.map_append, show [day].map (fun d => d.getD i 0) = [day.getD i 0] from rfl, sumQ_snoc, ← Rat.add_assoc]
          exact e1
      · rintro σ H7 ⟨u8, z11, rfl, s7, hu8⟩
        have ed : (((days.map dayD).length : Int) - 0).toNat = days.length := by
          rw [List.length_map]
          omega
        rw [ed] at hu8 ⊢
        rw [List.take_length] at hu8
        have eb : bk.take days.length = bk := by rw [← ft.eq, List.take_length]
        rw [eb]
        have s57 := s5.trans s7
        have hS7 := s57 _ _ hS4
        refine b_app (i := 5) (pv 5) rfl hS7 (by have := fit.n; omega) (P := Da (ld (aft days bk i l))) (ev_tupD (ds := [.str l.nm, qd (l.ex + sumQ (days.map fun d => d.getD i 0)), .int (l.ct + (bk.map fun r => r.getD i 0).sum), .bool l.on]) (ed_cons (ev_v (pv 7) rfl (Td.keep (.of s7) _ _ tn) mono_da) (ed_cons (ev_v (pv 8) rfl hu8 mono_da) (ed_cons (Ev.int (ev_vi (pv 9) rfl)) (ed_cons (ev_v (pv 10) rfl (Td.keep (.of s7) _ _ to_) mono_da) ed_nil)))) (by show 4 ≤ 1000; decide)) fun v7 H8 s8 h7 => b_nil ?_
        have hS8 := s8 _ _ hS7
        have ka : TupK H8 (upd H8 S (.lst (us ++ [v7]))) := .app hS8
        refine ⟨_, _, _, _, _, _, rfl, same_put (s4.trans (s57.trans s8)) nS, us ++ [v7], upd_same, by rw [List.length_append, hl4]; rfl, ?_⟩
        have ha : (aftR rows days bk)[i]? = some (aft days bk i l) := by
          unfold aftR
          rw [List.getElem?_mapIdx, hl]
          rfl
        rw [take_snoc ha, List.map_append]
        exact (Tds.keep ((TupK.of (s57.trans s8)).trans ka) _ _ ht4).snoc (Td.keep ka _ _ h7)
    · rintro σ H3 ⟨y6, y7, y8, y9, y10, y11, rfl, s4, us, hS4, hl4, ht4⟩
      have e : (((rows.map ld).length : Int) - 0).toNat = (aftR rows days bk).length := by
        unfold aftR
        rw [List.length_mapIdx, List.length_map]
        omega
      rw [e, List.take_length] at ht4
      exact b_retE (ev_tupleL zt (ev_v (pv 5) rfl ⟨S, us, rfl, hS4, ht4⟩ mono_lstD)) fun v4 H5 s5 h5 => k v4 H5 ((s1.trans s4).trans s5) h5
end
end Kn

namespace Kn
open PySem PySem.Spec PyProof.Rows L2 Cb
/-! ### a drawn booking -/
theorem gdef_blk {X : Cx} {x : Str} {k : Nat} {f : Addr} {fd : FuncData} {ps : List Str} {sp : Sp} {s : Shared} {H : Hp} {sc : Scope} {env : Env} {fp : List Addr} (g : GDef X x k f fd ps sp) : GDef (X.blk s H sc env fp) x k f fd ps sp := ⟨g.ok, g.room, g.gl, g.kp, g.bs⟩
def RowOk (n : Nat) (r : List Int) : Prop := r.length = n ∧ ∀ z ∈ r, z.natAbs < 2 ^ 61
def BkV (n m : Nat) : Pd := fun v H => ∃ bk : List (List Int), Td H (bkD bk) v ∧ bk.length = m ∧ ∀ r ∈ bk, RowOk n r
def spBook : Sp := fun vs H Q _ => ∃ (d c : Addr) (u : V) (A B : PyData) (days : List (List Rat)) (n : Nat), vs = [.ref d, u] ∧ Td H (.tuple [A, B, daysD days]) u ∧ days.length ≤ 20 ∧ n ≤ 20 ∧ (∀ day ∈ days, day.length = n ∧ ∀ q ∈ day, Bd 60 q) ∧ Rd d c H ∧ ∀ v H', KeepX d H H' → Rd d c H' → BkV n days.length v H' → Q v H'
abbrev NB : List Str := ["_law_reader_here", "_law_good", "_law_rows", "_law_parts", "_law_days_now", "_law_found", "_law_one", "_law_ratio"]
theorem scBook : FnScope NB ["_law_reader_here", "_law_good"] (defScope sBooking) := ⟨rfl, rfl, rfl, by decide +kernel, rfl, by decide +kernel, by decide +kernel⟩
theorem fdiv_lt {r : Rat} {z : Int} (h : Bd 60 r) (z0 : 0 ≤ z) (z3 : z < 3) : (r.num.fdiv (r.den : Int) + z).natAbs < 2 ^ 61 := by
  have dp := den_pos r
  have f1 : r.num.fdiv (r.den : Int) = r.num / (r.den : Int) := Int.fdiv_eq_ediv_of_nonneg _ (by omega)
  have f4 : r.num.natAbs < 2 ^ 60 := h.1
  have f5 : (2 : Nat) ^ 60 = 1152921504606846976 := by decide
  have f6 : (2 : Nat) ^ 61 = 2305843009213693952 := by decide
  rw [f1, f6]
  rw [f5] at f4
  have g1 : (r.num / (r.den : Int)).natAbs ≤ r.num.natAbs := by
    have a1 : r.num / (r.den : Int) ≤ (r.num.natAbs : Int) := by
      refine Int.le_trans (Int.ediv_le_ediv dp (Int.le_natAbs)) (Int.ediv_le_self _ (by omega))
    have a2 : -(r.num.natAbs : Int) ≤ r.num / (r.den : Int) := by
      refine Int.le_ediv_of_mul_le dp ?_
      have b1 : -(r.num.natAbs : Int) * (r.den : Int) ≤ -(r.num.natAbs : Int) * 1 := Int.mul_le_mul_of_nonpos_left (by omega) (by omega)
      omega
    omega
  omega
section
variable {P : Program} {w : World} {K : PySem.W.Frag} {mg : Str → Option Value} {base : Heap}
theorem ok_book {f : Addr} {fd : FuncData} (F : Fun K "_law_random_booking" "_law_random_booking" sBooking f fd) (LDr : LD P w K mg base "_law_draw" 1 ["_law_reader_here", "_law_many"] spDraw) (LF : LD P w K mg base "_law_floor" 1 ["_law_ratio"] spLF) (zt : mg "tuple" = none) : FnOk P w K mg base CX0 2 f fd ["_law_reader_here", "_law_good"] spBook := by
  refine F.ok scBook (fun vs H Q E h => ?_) (fun cdv A0 outer s H vs Q E hr h => ?_)
  · obtain ⟨d, c, u, A, B, days, n, rfl, _⟩ := h
    rfl
  · obtain ⟨d, c, u, A, B, days, n, rfl, hu, d20, n20, hd, rd, k⟩ := h
    obtain ⟨fD, fdD, GD⟩ := LD.g (X := (cxOf CX0 P w K mg base NB "_law_random_booking" (defScope sBooking) f cdv A0 outer s H E).nox) LDr hr (by decide)
    obtain ⟨fF, fdF, GF⟩ := LD.g (X := (cxOf CX0 P w K mg base NB "_law_random_booking" (defScope sBooking) f cdv A0 outer s H E).nox) LF hr (by decide)
    refine ⟨_, pw_B, ?_⟩
    refine b_asgE (pg_tup rfl (pgs_cons (pg_name (i := 2) scBook.nd rfl (.inl rfl)) (pgs_cons (pg_name (i := 3) scBook.nd rfl (.inl rfl)) (pgs_cons (pg_name (i := 4) scBook.nd rfl (.inl rfl)) pgs_nil)))) (ev_v (pv 1) rfl hu mono_da) fun u' H1 s1 hu' => ?_
    obtain ⟨q, xs, rfl, hq, t⟩ := hu'.un
    obtain ⟨x1, r1, rfl, t1, t⟩ := t.un
    obtain ⟨x2, r2, rfl, t2, t⟩ := t.un
    obtain ⟨x3, r3, rfl, t3, t⟩ := t.un
    obtain rfl := t.nil'
    refine ⟨q, _, rfl, .of hq, rfl, _, _, rfl, _, _, rfl, _, _, rfl, rfl, ?_⟩
    have rd1 := rd.same s1
    obtain ⟨q3, xs3, rfl, hq3, t3⟩ := t3.un
    refine b_newL (i := 5) scBook.nd rfl (.inl rfl) fun S nS => ?_
    have s0 : Same H1 (upd H1 S (.lst [])) := same_new nS
    have hS0 : (upd H1 S (.lst [])) S = some (.lst []) := upd_same
    have nSc := rd_new rd1 nS
    generalize upd H1 S (.lst []) = H2 at s0 hS0 ⊢
    refine b_for rfl (pi_tup (pv 4)) (pg_name (i := 6) scBook.nd rfl (.inl rfl)) ?_ PassesOwn.never
    refine ⟨_, rfl, q3, rfl, ⟨_, .of (s0 _ _ hq3)⟩, for_tup (K := K) (a := q3) (xs := xs3) (fun i σ H' => ∃ y6, σ = [some (.ref d), some u, some x1, some x2, some (.ref q3), some (.ref S), y6, none] ∧ KeepX d H1 H' ∧ Rd d c H' ∧ ∃ (us : List V) (bk : List (List Int)), H' S = some (.lst us) ∧ Tds H' (bk.map rowI) us ∧ bk.length = i ∧ ∀ r ∈ bk, RowOk n r) ?_ (fun i σ H' _ ⟨_, _, kx, _⟩ => .of (KeepX.tup rd1 kx _ _ hq3)) ?_ ?_⟩
    · exact ⟨none, rfl, .of s0, rd1.same s0, [], [], hS0, .nil, rfl, fun l hl => by cases hl⟩
    · rintro i x σ H3 hx ⟨y6, rfl, k3, rd3, us, bk, hS3, t3', l3, ok3⟩
      obtain ⟨dd, hdd, td⟩ := t3.at' hx
      obtain ⟨day, hday, rfl⟩ := map_at hdd
      have hi : i < days.length := (List.getElem?_eq_some_iff.mp hday).1
      obtain ⟨hlen, hbd⟩ := hd day (List.mem_of_getElem? hday)
      obtain ⟨qx, xx, rfl, hqx, tx⟩ := (Td.keep (KeepX.tup rd1 k3) _ _ td).un
      have lus : us.length = i := by rw [t3'.len, List.length_map, l3]
      refine b_appW (i := 5) (pv 5) rfl ⟨us, hS3⟩ (w_E (pe_callTy call_tuple_of (by rfl) zt (by decide +kernel) (pa_cons (pe_lc (own := [("_law_ratio", 7)]) (g := gName 7) (tt := tYes) rfl scBook.nd (pi_tup (pv 6)) (blkOk_by (N := NB) (sc := defScope sBooking) (by decide +kernel)) (fun _ _ _ _ _ => pg_name (i := 7) scBook.nd rfl (Or.inl rfl)) (fun _ _ _ _ _ => pts_nil) pw_Eb) pa_nil)) ?_)
      refine ⟨_, rfl, qx, rfl, ⟨_, .of hqx⟩, fun M hM => lc_tup (K := K) (a := qx) (xs := xx) (fun j H' => KeepX d H3 H' ∧ Rd d c H' ∧ ∃ ns : List Int, H' M = some (.lst (ns.map V.int)) ∧ ns.length = j ∧ ∀ z ∈ ns, z.natAbs < 2 ^ 61) ?_ (fun j H' _ h => .of (KeepX.tup rd3 h.1 _ _ hqx)) ?_ ?_⟩
      · exact ⟨.of (same_new hM), rd3.same (same_new hM), [], upd_same, rfl, fun z hz => by cases hz⟩
      · rintro j y H4 hy ⟨k4, rd4, ns, hm, hn, hns⟩
        obtain ⟨e, he, te⟩ := tx.at' hy
        obtain ⟨r, hr', rfl⟩ := map_at he
        have hj : j < n := by
          have := (List.getElem?_eq_some_iff.mp hr').1
          omega
        have te4 := Td.keep (KeepX.tup rd3 k4) _ _ te
        refine ⟨wipeD, ?_⟩
        unfold tYes
        dsimp only
        rw [if_pos rfl]
        intro s' H0 C' cl' fp'
        refine w_E (pe_op op_add pw_E pw_E) (w_ev (ev_lf (gdef_blk GF) (ev_v (pv 7) rfl te4 mono_da) ((hbd r (List.mem_of_getElem? hr')).mono (by decide))) fun v1 H5 s5 e1 => w_draw (gdef_blk GD) (ev_vi (pv 0) rfl) (ev_c pe_int) (rd4.same s5) (by decide) (by decide) fun z H6 z0 z3 k6 rd6 => ⟨_, z, e1, rfl, ?_⟩)
        have k46 : KeepX d H4 H6 := (KeepX.of s5).trans k6
        have hm6 := KeepX.lst rd4 k46 hm
        refine ⟨ns.map V.int, hm6, by rw [List.length_map]; exact small1000 (by omega), keepX_put (k4.trans k46) hM, KeepX.rd rd6 hm6 (fun _ z => by cases z) (rd_new rd3 hM), ns ++ [r.num.fdiv (r.den : Int) + z], ?_, by rw [List.length_append, hn]; rfl, fun y hy => ?_⟩
        · rw [upd_same, List.map_append]
          rfl
        · rcases List.mem_append.mp hy with hy | hy
          · exact hns y hy
          · rw [List.mem_singleton.mp hy]
            exact fdiv_lt (hbd r (List.mem_of_getElem? hr')) z0 z3
      · rintro H4 ⟨k4, rd4, ns, hm, hn, hns⟩
        have lxx : xx.length = n := by rw [tx.len, List.length_map, hlen]
        refine ⟨M, _, rfl, .inl ⟨SqL.of hm, fun T hT => ?_⟩⟩
        have sT : Same H4 (upd H4 T (.tup (ns.map V.int))) := same_new hT
        have hT2 : (upd H4 T (.tup (ns.map V.int))) T = some (.tup (ns.map V.int)) := upd_same
        have kC : KeepX d H3 (upd H4 T (.tup (ns.map V.int))) := k4.trans (.of sT)
        have rdC := rd4.same sT
        generalize upd H4 T (.tup (ns.map V.int)) = HC at sT hT2 kC rdC ⊢
        have hSC := KeepX.lst rd3 kC hS3
        have ka : TupK HC (upd HC S (.lst (us ++ [V.ref T]))) := .app hSC
        refine ⟨us, hSC, by omega, b_nil ⟨_, rfl, keepX_put (k3.trans kC) nS, KeepX.rd rdC hSC (fun _ z => by cases z) nSc, us ++ [V.ref T], bk ++ [ns], upd_same, ?_, by rw [List.length_append, l3]; rfl, ?_⟩⟩
        · rw [List.map_append]
          have ti : Tds HC (ns.map PyData.int) (ns.map V.int) := by
            clear hm hn hT2 hns
            induction ns with
            | nil => exact .nil
            | cons a l ih => exact .cons td_int ih
          exact (Tds.keep ((KeepX.tup rd3 kC).trans ka) _ _ t3').snoc (Td.keep ka _ _ (.mk hT2 ti))
        · intro r hr
          rcases List.mem_append.mp hr with hr | hr
          · exact ok3 r hr
          · rw [List.mem_singleton.mp hr]
            exact ⟨by omega, hns⟩
    · rintro σ H3 ⟨y6, rfl, k3, rd3, us, bk, hS3, t3', l3, ok3⟩
      have lx : xs3.length = days.length := by rw [t3.len, List.length_map]
      exact b_retE (ev_tupleL zt (ev_v (pv 5) rfl ⟨S, us, rfl, hS3, t3'⟩ mono_lstD)) fun v H6 s6 hv => k v H6 ((KeepX.of s1).trans (k3.trans (.of s6))) (rd3.same s6) ⟨bk, hv, by omega, ok3⟩
end
end Kn

namespace Cb
open PySem PySem.Spec PyProof.Rows L2
section
variable {X : Cx} {a b c : Expr} {σ : L2.St} {H : Hp} {sts body els : List Stmt} {D : Ends} {pos : Pos}
theorem b_ifJW (J : L2.St → Hp → Prop) (h : wT X c σ H fun k H1 => if k = true then wB X body { D with nx := J } σ H1 else wB X els { D with nx := J } σ H1) (kk : ∀ σ' H', J σ' H' → wB X sts D σ' H') : wB X (.If c body els pos :: sts) D σ H :=
  b_if (wT_mono h fun k H1 q => by
    by_cases e : k = true
    · rw [if_pos e] at q ⊢
      exact wB_mono q kk (fun _ _ z => z) (fun _ _ z => z) fun _ _ z => z
    · rw [if_neg e] at q ⊢
      exact wB_mono q kk (fun _ _ z => z) (fun _ _ z => z) fun _ _ z => z)
def rEqP (K : PySem.W.Frag) : R2 := fun x y H Q => ∃ d e, Dp K H x d ∧ Dp K H y e ∧ d.plain = true ∧ e.plain = true ∧ d.depth ≤ 60 ∧ Q (.bl (PyData.eqv d e)) H
theorem op_eqP (hu : X.A.units + 64 < cLine) : OpR X (compareOp .Eq) (rEqP X.K) := by
  rintro pins s σ H x y v u Q I rx ry ⟨d, e, hd, he, pd, pe, dp, q⟩
  obtain ⟨as, r1⟩ := Dp.reads I d x v hd rx
  obtain ⟨bs, r2⟩ := Dp.reads I e y u he ry
  exact SeqAt.eq_plain r1 r2 pd pe (by omega) ⟨.bl _, H, I, rfl, q⟩
theorem c_eqP {Pa Pb : Pd} {d e' : PyData} (hu : X.A.units + 64 < cLine) (ha : Ev X σ H a Pa) (hb : Ev X σ H b Pb) (ma : Mono Pa) (da : ∀ x H', Same H H' → Pa x H' → Dp X.K H' x d) (db : ∀ x H', Same H H' → Pb x H' → Dp X.K H' x e') (pd : d.plain = true) (pe : e'.plain = true) (dp : d.depth ≤ 60) (hm : behindInMarks .Eq b = false := by exact nomark _) : CC X σ H .Eq a b (.bl (PyData.eqv d e')) :=
  ⟨_, _, _, op_eqP hu, hm, ha, hb, ma, fun x y H2 s px py => ⟨d, e', da x H2 s px, db y H2 s py, pd, pe, dp, .refl _, rfl⟩, fun x y H2 Q Q' k ⟨d, e, h1, h2, h3, h4, h5, q⟩ => ⟨d, e, h1, h2, h3, h4, h5, k _ _ q⟩⟩
theorem lst_dp {K : PySem.W.Frag} {H : Hp} {ds : List PyData} {v : V} (h : LstD ds v H) : Dp K H v (.list ds) := by
  obtain ⟨a, us, e, h, t⟩ := h
  subst e
  exact .lst (.of h) (Tds.dp _ _ t)
end
end Cb
namespace Kn
open PySem PySem.Spec PyProof.Rows L2 Cb
/-! ### sections as data -/
def sD (p : List Str) : PyData := .tuple (p.map PyData.str)
theorem plain_sD (p : List Str) : (sD p).plain = true := plain_strs p
theorem plain_parts : ∀ ps : List (List Str), PyData.plainAll (ps.map sD) = true
  | [] => rfl
  | p :: ps => by
    show (PyData.plain (sD p) && PyData.plainAll (ps.map sD)) = true
    rw [plain_parts ps, plain_sD]
    rfl
theorem depth_sD (p : List Str) : (sD p).depth = 1 := by
  show PyData.depthAll (p.map PyData.str) + 1 = 1
  rw [depthAll_strs]
theorem depth_parts : ∀ ps : List (List Str), PyData.depthAll (ps.map sD) ≤ 1
  | [] => Nat.zero_le _
  | p :: ps => by
    show max (PyData.depth (sD p)) (PyData.depthAll (ps.map sD)) ≤ 1
    have := depth_parts ps
    have := depth_sD p
    omega
theorem alikeAll_strs : ∀ xs ys : List Str, PySem.W.alikeAll (xs.map PyData.str) (ys.map PyData.str) = true
  | [], _ => by simp [PySem.W.alikeAll]
  | _ :: _, [] => by simp [PySem.W.alikeAll]
  | x :: xs, y :: ys => by
    have := alikeAll_strs xs ys
    simp only [List.map_cons, PySem.W.alikeAll, PySem.W.alike, Bool.true_and]
    exact this
theorem alike_parts (ps : List (List Str)) : PySem.W.AllAlike (ps.map sD) := PySem.W.AllAlike.of (enc := sD) fun a b => by
  unfold sD
  simp only [PySem.W.alike]
  exact alikeAll_strs a b
def PartOk (p : List Str) : Prop := 2 ≤ p.length ∧ p.length ≤ 9 ∧ Short p
theorem sortable_parts {ps : List (List Str)} (h : ∀ p ∈ ps, PartOk p) : PySem.W.Sortable (ps.map sD) := by
  refine .inl fun d hd => ?_
  obtain ⟨p, hp, rfl⟩ := List.mem_map.mp hd
  have h2 := (h p hp).1
  match p, h2 with
  | x :: r, _ => exact ⟨_, _, rfl⟩
theorem sort_parts (ps : List (List Str)) : sortD (ps.map sD) = (ps.mergeSort fun a b => PySem.W.dataLe false id (sD a) (sD b)).map sD :=
  (List.map_mergeSort (r := fun a b => PySem.W.dataLe false id (sD a) (sD b)) (s := PySem.W.dataLe false id) (f := sD) (l := ps) (fun a _ b _ => rfl)).symm
def PartsV (m : Nat) : Pd := fun v H => ∃ ps : List (List Str), Td H (.tuple (ps.map sD)) v ∧ ps.length ≤ m ∧ ∀ p ∈ ps, PartOk p
def spSect : Sp := fun vs H Q _ => ∃ (d c S0 : Addr) (hs : List Str) (m : Nat), vs = [.ref d, .ref S0, .int (m : Int)] ∧ H S0 = some (.lst (hs.map V.str)) ∧ hs.length ≤ 9 ∧ Short hs ∧ m ≤ 5 ∧ Rd d c H ∧ ∀ v H', KeepX d H H' → Rd d c H' → PartsV m v H' → Q v H'
abbrev NQ : List Str := ["_law_reader_here", "_law_heads_here", "_law_most", "_law_found", "_law_k", "_law_base", "_law_piece", "_law_taken", "_law_head", "_law_one"]
theorem scSect : FnScope NQ ["_law_reader_here", "_law_heads_here", "_law_most"] (defScope sSections) := ⟨rfl, rfl, rfl, by decide +kernel, rfl, by decide +kernel, by decide +kernel⟩
end Kn

namespace Kn
open PySem PySem.Spec PyProof.Rows L2 Cb
section
variable {P : Program} {w : World} {K : PySem.W.Frag} {mg : Str → Option Value} {base : Heap}
theorem ok_sect {f : Addr} {fd : FuncData} (F : Fun K "_law_random_sections" "_law_random_sections" sSections f fd) (LDr : LD P w K mg base "_law_draw" 1 ["_law_reader_here", "_law_many"] spDraw) (LX : LD P w K mg base "_law_crosses" 1 ["_law_one", "_law_other"] spCross) (zr : mg "range" = none) (zl : mg "len" = none) (zs : mg "sorted" = none) (zt : mg "tuple" = none) (zi : mg "list" = none) : FnOk P w K mg base CX0 2 f fd ["_law_reader_here", "_law_heads_here", "_law_most"] spSect := by
  refine F.ok scSect (fun vs H Q E h => ?_) (fun cdv A0 outer s H vs Q E hr h => ?_)
  · obtain ⟨d, c, S0, hs, m, rfl, _⟩ := h
    rfl
  · obtain ⟨d, c, S0, hs, m, rfl, hS0, h9, hsh, m5, rd, k⟩ := h
    obtain ⟨fD, fdD, GD⟩ := LD.g (X := (cxOf CX0 P w K mg base NQ "_law_random_sections" (defScope sSections) f cdv A0 outer s H E).nox) LDr hr (by decide)
    obtain ⟨fX, fdX, GX⟩ := LD.g (X := (cxOf CX0 P w K mg base NQ "_law_random_sections" (defScope sSections) f cdv A0 outer s H E).nox) LX hr (by decide)
    refine ⟨_, pw_B, ?_⟩
    refine b_newL (i := 3) scSect.nd rfl (.inl rfl) fun S nS => ?_
    have s0 : Same H (upd H S (.lst [])) := same_new nS
    have hSe : (upd H S (.lst [])) S = some (.lst []) := upd_same
    have nSc := rd_new rd nS
    generalize upd H S (.lst []) = H2 at s0 hSe ⊢
    refine b_for rfl (pi_range1 (by rfl) zr (pa_cons pw_E pa_nil)) (pg_name (i := 4) scSect.nd rfl (.inl rfl)) ?_ PassesOwn.never
    refine w_draw GD (ev_vi (pv 0) rfl) (ev_opI op_add (ev_vi (pv 2) rfl) (ev_c pe_int)) (rd.same s0) (by omega) (by omega) fun z H3 z0 z1 k3 rd3 => ?_
    refine ⟨z, rfl, by omega, by omega, for_range (n := z.toNat) (fun i σ H' => ∃ y4 y5 y6 y7, σ = [some (.ref d), some (.ref S0), some (.int (m : Int)), some (.ref S), y4, y5, y6, y7, none, none] ∧ KeepX d H H' ∧ Rd d c H' ∧ ∃ (us : List V) (ps : List (List Str)), H' S = some (.lst us) ∧ Tds H' (ps.map sD) us ∧ ps.length ≤ m ∧ ∀ p ∈ ps, PartOk p) ?_ ?_ ?_⟩
    · exact ⟨none, none, none, none, rfl, (KeepX.of s0).trans k3, rd3, [], [], KeepX.lst (rd.same s0) k3 hSe, .nil, Nat.zero_le _, fun l hl => by cases hl⟩
    · rintro i σ H4 hi ⟨y4, y5, y6, y7, rfl, k4, rd4, us, ps, hS4, t4, l4, ok4⟩
      have hS04 := KeepX.lst rd k4 hS0
      have lus : us.length = ps.length := by rw [t4.len, List.length_map]
      refine b_setE (i := 5) scSect.nd rfl (.inl rfl) (ev_vi (pv 1) rfl) fun _ H5 s5 e => ?_
      cases e
      have rd5 := rd4.same s5
      have hS5 := s5 _ _ hS4
      have hS05 := s5 _ _ hS04
      have t5 := Tds.keep (.of s5) _ _ t4
      -- the base
      refine b_ifJW (fun σ H' => ∃ (B : Addr) (bs : List Str), σ = [some (.ref d), some (.ref S0), some (.int (m : Int)), some (.ref S), some (.int ((0 : Int) + (i : Nat))), some (.ref B), y6, y7, none, none] ∧ KeepX d H5 H' ∧ Rd d c H' ∧ H' B = some (.lst (bs.map V.str)) ∧ bs.length ≤ 9 ∧ Short bs) (w_T pw_W.pt (w_W (pw_and pw_T pw_W) (w_evT (CC.et (c_neP hr.units (ev_v (pv 3) rfl ⟨S, us, rfl, hS5, t5⟩ mono_lstD) (ev_lstD (ds := []) ed_nil (by show 0 ≤ 1000; decide)) mono_lstD (fun x H' _ h => lst_dp h) (fun x H' _ h => lst_dp h) (plain_parts ps) rfl (by
        have := depth_parts ps
        show PyData.depthAll (ps.map sD) + 1 ≤ 60
        omega))) fun H6 s6 => ?_))) ?_
      · by_cases b : (!PyData.eqv (.list (ps.map sD)) (.list [])) = true
        · rw [if_pos b]
          have hne : 0 < us.length := by
            cases ps with
            | nil => exact absurd b (by decide)
            | cons p ps => rw [lus]; exact Nat.succ_pos _
          refine w_W (pw_and1 pw_T) (w_T (pt_cmpR op_eq pw_E pw_E (nomark _)) (w_draw GD (ev_vi (pv 0) rfl) (ev_c pe_int) (rd5.same s6) (by decide) (by decide) fun z7 H7 _ _ k7 rd7 => w_ev (ev_c pe_int) fun v3 H8 s8 e3 => ?_))
          cases e3
          have k58 : KeepX d H5 H8 := ((KeepX.of s6).trans k7).trans (.of s8)
          have rd8 := rd7.same s8
          refine ⟨rfl, _, rfl, ?_⟩
          show (if decide (V.int z7 = V.int 0) = true then _ else _)
          by_cases b2 : decide (V.int z7 = V.int 0) = true
          · rw [if_pos b2]
            refine b_set (i := 5) scSect.nd rfl (.inl rfl) (w_E (pe_callTy call_list_of (by rfl) zi (by decide +kernel) (pa_cons pw_E pa_nil)) (w_ix (w_ev (ev_vi (pv 3) rfl) fun v4 H9 s9 e4 => ?_)))
            cases e4
            have k59 := k58.trans (.of s9)
            have hS9 := KeepX.lst rd5 k59 hS5
            refine w_draw GD (ev_vi (pv 0) rfl) (ev_lenL zl (ev_vi (pv 3) rfl) hS9) (rd8.same s9) (by omega) (by omega) fun z10 H10 zz0 zz1 k10 rd10 => ?_
            obtain ⟨zn, rfl⟩ := Int.eq_ofNat_of_zero_le zz0
            have hz : zn < us.length := by omega
            have k510 := k59.trans k10
            have hS10 := KeepX.lst rd5 k510 hS5
            have t10 := Tds.keep (KeepX.tup rd5 k510) _ _ t5
            obtain ⟨dd, hdd, td⟩ := t10.at' (List.getElem?_eq_getElem hz)
            obtain ⟨p, hp, rfl⟩ := map_at hdd
            have pok := ok4 p (List.mem_of_getElem? hp)
            obtain ⟨qq, xq, eq, hqq, tq⟩ := Td.un td
            obtain rfl := tq.strs
            refine ⟨S, us, (zn : Int), _, rfl, rfl, .of hS10, atI_nat (List.getElem?_eq_getElem hz), qq, _, by rw [eq], .inr (.of hqq), fun B hB => b_nil ⟨B, p, rfl, k510.trans (.of (same_new hB)), rd10.same (same_new hB), upd_same, pok.2.1, pok.2.2⟩⟩
          · rw [if_neg b2]
            exact b_nil ⟨S0, hs, rfl, k58, rd8, KeepX.lst rd5 k58 hS05, h9, hsh⟩
        · rw [if_neg b]
          show (if false = true then _ else _)
          rw [if_neg (by simp)]
          exact b_nil ⟨S0, hs, rfl, .of s6, rd5.same s6, s6 _ _ hS05, h9, hsh⟩
      · rintro σ H7 ⟨B, bs, rfl, k7, rd7, hB, b9, bsh⟩
        have hS7 := KeepX.lst rd5 k7 hS5
        have t7 := Tds.keep (KeepX.tup rd5 k7) _ _ t5
        -- the piece
        refine b_set (i := 6) scSect.nd rfl (.inr rfl) (w_E (pe_callTy call_tuple_of (by rfl) zt (by decide +kernel) (pa_cons (pe_lc (own := [("_law_head", 8)]) (g := gName 8) rfl scSect.nd (pi_list (pv 5)) (blkOk_by (N := NQ) (sc := defScope sSections) (by decide +kernel)) (fun _ _ _ _ _ => pg_name (i := 8) scSect.nd rfl (Or.inl rfl)) pw_Tb pw_Eb) pa_nil)) ?_)
        refine ⟨_, rfl, B, rfl, ⟨_, SqL.of hB⟩, fun M hM => lc_list (K := K) (a := B) (xs := bs.map V.str) (fun j H' => KeepX d H7 H' ∧ Rd d c H' ∧ ∃ qs : List Str, H' M = some (.lst (qs.map V.str)) ∧ qs.length ≤ j ∧ Short qs) ?_ (fun j H' _ h => SqL.of (KeepX.lst rd7 h.1 hB)) ?_ ?_⟩
        · exact ⟨.of (same_new hM), rd7.same (same_new hM), [], upd_same, Nat.le_refl _, fun x hx => by cases hx⟩
        · rintro j y H8 hy ⟨k8, rd8, qs, hm8, lq, qsh⟩
          obtain ⟨hd, hhd, rfl⟩ := map_at hy
          have hj : j < bs.length := (List.getElem?_eq_some_iff.mp hhd).1
          refine ⟨wipeD, ?_⟩
          intro s' H0 C' cl' fp'
          refine w_T (pt_cmpR op_gt pw_E pw_E (nomark _)) (w_draw (gdef_blk GD) (ev_vi (pv 0) rfl) (ev_c pe_int) rd8 (by decide) (by decide) fun z8 H9 _ _ k9 rd9 => w_ev (ev_c pe_int) fun v3 H10 s10 e3 => ⟨z8, 0, rfl, e3, _, rfl, ?_⟩)
          show (if decide (z8 > 0) = true then _ else _)
          have k810 : KeepX d H8 H10 := k9.trans (.of s10)
          have hm10 := KeepX.lst rd8 k810 hm8
          have rd10 := rd9.same s10
          by_cases b : decide (z8 > 0) = true
          · rw [if_pos b]
            intro s2 H02 C2 cl2 fp2
            refine w_E (pv 8) ⟨_, rfl, qs.map V.str, hm10, by rw [List.length_map]; exact small1000 (by omega), ?_⟩
            refine ⟨keepX_put (k8.trans k810) hM, KeepX.rd rd10 hm10 (fun _ z => by cases z) (rd_new rd7 hM), qs ++ [hd], ?_, by rw [List.length_append]; simp; omega, ?_⟩
            · rw [upd_same, List.map_append]
              rfl
            · intro x hx
              rcases List.mem_append.mp hx with hx | hx
              · exact qsh x hx
              · rw [List.mem_singleton.mp hx]
                exact bsh _ (List.mem_of_getElem? hhd)
          · rw [if_neg b]
            exact ⟨k8.trans k810, rd10, qs, hm10, by omega, qsh⟩
        · rintro H8 ⟨k8, rd8, qs, hm8, lq, qsh⟩
          rw [List.length_map] at lq
          refine ⟨M, _, rfl, .inl ⟨SqL.of hm8, fun T hT => ?_⟩⟩
          have sT : Same H8 (upd H8 T (.tup (qs.map V.str))) := same_new hT
          have hT2 : (upd H8 T (.tup (qs.map V.str))) T = some (.tup (qs.map V.str)) := upd_same
          have kC : KeepX d H7 (upd H8 T (.tup (qs.map V.str))) := k8.trans (.of sT)
          have rdC := rd8.same sT
          generalize upd H8 T (.tup (qs.map V.str)) = HC at sT hT2 kC rdC ⊢
          have hSC := KeepX.lst rd7 kC hS7
          have tC := Tds.keep (KeepX.tup rd7 kC) _ _ t7
          have tp : Td HC (sD qs) (.ref T) := .mk hT2 (tds_strs qs)
          -- those that stand in the way
          refine b_cons (w_S (ps_setLc (i := 7) (own := [("_law_one", 9)]) (g := gName 9) rfl scSect.nd rfl rfl rfl (pi_list (pv 3)) (blkOk_by (N := NQ) (sc := defScope sSections) (by decide +kernel)) (fun _ _ _ _ _ => pg_name (i := 9) scSect.nd rfl (Or.inl rfl)) pw_Tb pw_Eb) ?_)
          refine ⟨_, rfl, S, rfl, ⟨_, SqL.of hSC⟩, fun M2 hM2 => lc_list (K := K) (a := S) (xs := us) (fun j H' => Same HC H' ∧ ∃ (ws : List V) (rs : List (List Str)), H' M2 = some (.lst ws) ∧ Tds H' (rs.map sD) ws ∧ ws.length ≤ j) ?_ (fun j H' _ h => SqL.of (h.1 _ _ hSC)) ?_ ?_⟩
          · exact ⟨same_new hM2, [], [], upd_same, .nil, Nat.le_refl _⟩
          · rintro j y H9 hy ⟨s9, ws, rs, hw, tw, lw⟩
            have hj : j < us.length := (List.getElem?_eq_some_iff.mp hy).1
            obtain ⟨dd, hdd, td⟩ := tC.at' hy
            obtain ⟨p, hp, rfl⟩ := map_at hdd
            have pok := ok4 p (List.mem_of_getElem? hp)
            have td9 := Td.keep (.of s9) _ _ td
            have tp9 := Td.keep (.of s9) _ _ tp
            refine ⟨wipeD, ?_⟩
            intro s' H0 C' cl' fp'
            refine w_T pw_W.pt (w_W (pw_or pw_T pw_W) (w_evT (CC.et (c_eqP hr.units (ev_v (pv 9) rfl td9 mono_da) (ev_v (pv 6) rfl tp9 mono_da) mono_da (fun x H' _ h => Td.dp _ _ h) (fun x H' _ h => Td.dp _ _ h) (plain_sD p) (plain_sD qs) (by rw [depth_sD]; decide))) fun H10 s10 => ?_))
            have add : ∀ H', Same H9 H' → H' M2 = some (.lst ws) ∧ ws.length < sizeLine ∧ Same HC (upd H' M2 (.lst (ws ++ [y]))) ∧ ∃ (ws' : List V) (rs : List (List Str)), (upd H' M2 (.lst (ws ++ [y]))) M2 = some (.lst ws') ∧ Tds (upd H' M2 (.lst (ws ++ [y]))) (rs.map sD) ws' ∧ ws'.length ≤ j + 1 := fun H' s' => by
              have hw' := s' _ _ hw
              have ka : TupK H' (upd H' M2 (.lst (ws ++ [y]))) := .app hw'
              refine ⟨hw', small1000 (by omega), same_put (s9.trans s') hM2, ws ++ [y], rs ++ [p], upd_same, ?_, by rw [List.length_append]; simp; omega⟩
              rw [List.map_append]
              exact (Tds.keep ((TupK.of s').trans ka) _ _ tw).snoc (Td.keep ((TupK.of s').trans ka) _ _ td9)
            by_cases b : PyData.eqv (sD p) (sD qs) = true
            · rw [if_pos b]
              show (if true = true then _ else _)
              rw [if_pos rfl]
              intro s2 H02 C2 cl2 fp2
              obtain ⟨a1, a2, a3, a4⟩ := add H10 s10
              exact w_E (pv 9) ⟨_, rfl, ws, a1, a2, a3, a4⟩
            · rw [if_neg b]
              refine w_W (pw_or1 pw_T) (w_T (pt_val pw_E (by intro _; rfl)) (w_ev (ev_callP (p, qs) (gdef_blk GX) (ea_2 (ev_v (pv 9) rfl (Td.keep (.of s10) _ _ td9) mono_da) mono_da (ev_v (pv 6) rfl (Td.keep (.of s10) _ _ tp9) mono_da) mono_da) (fun vs H2 _ h => ?_)) fun v11 H11 s11 ⟨bb, e11⟩ => ⟨bb, e11, ?_⟩))
              · obtain ⟨v, w', e, h1, h2⟩ := h.two
                exact ⟨v, w', e, h1, h2, by show p.length ≤ 900; have := pok.2.1; omega, by show qs.length ≤ 900; omega⟩
              · show (if bb = true then _ else _)
                by_cases b3 : bb = true
                · rw [if_pos b3]
                  intro s2 H02 C2 cl2 fp2
                  obtain ⟨a1, a2, a3, a4⟩ := add H11 (s10.trans s11)
                  exact w_E (pv 9) ⟨_, rfl, ws, a1, a2, a3, a4⟩
                · rw [if_neg b3]
                  have s911 := s10.trans s11
                  exact ⟨s9.trans s911, ws, rs, s911 _ _ hw, Tds.keep (.of s911) _ _ tw, by omega⟩
          · rintro H9 ⟨s9, ws, rs, hw, tw, lw⟩
            have hS9 := s9 _ _ hSC
            have tp9 := Td.keep (.of s9) _ _ tp
            have k59 : KeepX d H4 H9 := ((((KeepX.of s5).trans k7).trans kC).trans (.of s9))
            refine b_ifE (et_w (ew_and (CC.et (c_I op_gt (nomark _) (ev_lenT zl (ev_v (pv 6) rfl tp9 mono_da)) (ev_c pe_int))) fun _ => ew_and (CC.et (c_I op_lt (nomark _) (ev_lenL zl (ev_vi (pv 3) rfl) hS9) (ev_vi (pv 2) rfl))) fun _ => ew_and1 (CC.et (c_eqP hr.units (ev_v (pv 7) rfl ⟨M2, ws, rfl, hw, tw⟩ mono_lstD) (ev_lstD (ds := []) ed_nil (by show 0 ≤ 1000; decide)) mono_lstD (fun x H' _ h => lst_dp h) (fun x H' _ h => lst_dp h) (plain_parts rs) rfl (by
              have := depth_parts rs
              show PyData.depthAll (rs.map sD) + 1 ≤ 60
              omega))))) (fun hc H10 s10 => ?_) (fun _ H10 s10 => ?_)
            · rw [Bool.and_eq_true, Bool.and_eq_true] at hc
              obtain ⟨c1, c2, _⟩ := hc
              have c1 := of_decide_eq_true c1
              have c2 := of_decide_eq_true c2
              rw [List.length_map] at c1
              have hS10 := s10 _ _ hS9
              refine b_app (i := 3) (pv 3) rfl hS10 (by omega) (ev_v (pv 6) rfl (Td.keep (.of s10) _ _ tp9) mono_da) fun v11 H11 s11 h11 => b_nil (b_nil ?_)
              have hS11 := s11 _ _ hS10
              have ka : TupK H11 (upd H11 S (.lst (us ++ [v11]))) := .app hS11
              have k411 : KeepX d H4 H11 := (k59.trans (.of s10)).trans (.of s11)
              refine ⟨_, _, _, _, rfl, keepX_put (k4.trans k411) nS, KeepX.rd (((rdC.same s9).same s10).same s11) hS11 (fun _ z => by cases z) nSc, us ++ [v11], ps ++ [qs], upd_same, ?_, by rw [List.length_append]; simp; omega, ?_⟩
              · rw [List.map_append]
                exact (Tds.keep ((KeepX.tup rd4 k411).trans ka) _ _ t4).snoc (Td.keep ka _ _ h11)
              · intro p hp
                rcases List.mem_append.mp hp with hp | hp
                · exact ok4 p hp
                · rw [List.mem_singleton.mp hp]
                  exact ⟨by omega, by omega, qsh⟩
            · exact b_nil (b_nil ⟨_, _, _, _, rfl, (k4.trans k59).trans (.of s10), (rdC.same s9).same s10, us, ps, s10 _ _ hS9, Tds.keep ((KeepX.tup rd4 k59).trans (.of s10)) _ _ t4, l4, ok4⟩)
    · rintro σ H4 ⟨y4, y5, y6, y7, rfl, k4, rd4, us, ps, hS4, t4, l4, ok4⟩
      have dp : ∀ d ∈ ps.map sD, d.depth ≤ 50 := fun d hd => by
        obtain ⟨p, _, rfl⟩ := List.mem_map.mp hd
        rw [depth_sD]
        decide
      refine b_retE (ev_tupleL zt (ds := sortD (ps.map sD)) (ev_sortL hr.units zs (ev_v (pv 3) rfl ⟨S, us, rfl, hS4, t4⟩ mono_lstD) (alike_parts ps) (sortable_parts ok4) dp)) fun v H5 s5 h5 => ?_
      rw [sort_parts] at h5
      exact k v H5 (k4.trans (.of s5)) (rd4.same s5) ⟨_, h5, by rw [(List.mergeSort_perm _ _).length_eq]; exact l4, fun p hp => ok4 p ((List.mergeSort_perm _ _).mem_iff.mp hp)⟩
end
end Kn

namespace Kn
open PySem PySem.Spec PyProof.Rows L2 Cb
theorem w_call3 {X : Cx} {σ : L2.St} {H : Hp} {a b e : Expr} {p q : Pos} {k : Nat} {f : Addr} {fd : FuncData} {ps : List Str} {Q : VK} {sp : Sp} {x : Str} (g : GDef X x k f fd ps sp) (h : wE X a σ H fun v H1 => wE X b σ H1 fun w H2 => wE X e σ H2 fun u H3 => sp [v, w, u] H3 Q E0) (hg : Gl X x := by rfl) (hdb : (x == ("__debug__" : Str)) = false := by decide) (he : starEach [a, b, e] X.env = (false, eval a X.env) :: starEach [b, e] X.env := by rfl) (he' : starEach [b, e] X.env = (false, eval b X.env) :: starEach [e] X.env := by rfl) (he'' : starEach [e] X.env = (false, eval e X.env) :: starEach [] X.env := by rfl)
    (hpl : (backTo p (starEach [b, e] X.env)).any (·.1) = false := by rfl) : wE X (.Call (.Name x q) [a, b, e] [] p) σ H Q :=
  w_E (pe_call g.ok g.room hg g.gl g.kp g.bs .nil pass0 (pa_cons pw_E (pa_cons pw_E (pa_cons pw_E pa_nil he'') he') he) hdb he hpl) h
/-- a drawn sheet -/
structure ShOk (n m : Nat) (rows : List Ln) (ps : List (List Str)) (days : List (List Rat)) : Prop where
  r1 : 1 ≤ rows.length
  rn : rows.length ≤ n
  ro : ∀ l ∈ rows, LnOk l
  pn : ps.length ≤ 3
  po : ∀ p ∈ ps, PartOk p
  dn : days.length ≤ m
  do_ : ∀ day ∈ days, DayOk rows.length day
def SheetV (n m : Nat) : Pd := fun v H => ∃ rows ps days, Td H (shD rows (ps.map sD) days) v ∧ ShOk n m rows ps days
def spSheet : Sp := fun vs H Q _ => ∃ (d c : Addr) (n m : Nat), vs = [.ref d, .int (n : Int), .int (m : Int)] ∧ 1 ≤ n ∧ n ≤ 8 ∧ m ≤ 19 ∧ Rd d c H ∧ ∀ v H', KeepX d H H' → Rd d c H' → SheetV n m v H' → Q v H'
abbrev NW : List Str := ["_law_reader_here", "_law_most", "_law_days_most", "_law_rows", "_law_parts", "_law_entry"]
theorem scSheet : FnScope NW ["_law_reader_here", "_law_most", "_law_days_most"] (defScope sSheet) := ⟨rfl, rfl, rfl, by decide +kernel, rfl, by decide +kernel, by decide +kernel⟩
section
variable {P : Program} {w : World} {K : PySem.W.Frag} {mg : Str → Option Value} {base : Heap}
theorem ok_sheet {f : Addr} {fd : FuncData} (F : Fun K "_law_random_sheet" "_law_random_sheet" sSheet f fd) (LDr : LD P w K mg base "_law_draw" 1 ["_law_reader_here", "_law_many"] spDraw) (LSt : LD P w K mg base "_law_random_state" 4 ["_law_reader_here", "_law_most"] spState) (LSe : LD P w K mg base "_law_random_sections" 2 ["_law_reader_here", "_law_heads_here", "_law_most"] spSect)
    (LDa : LD P w K mg base "_law_random_days" 4 ["_law_reader_here", "_law_rows", "_law_many"] spDays) : FnOk P w K mg base CX0 5 f fd ["_law_reader_here", "_law_most", "_law_days_most"] spSheet := by
  refine F.ok scSheet (fun vs H Q E h => ?_) (fun cdv A0 outer s H vs Q E hr h => ?_)
  · obtain ⟨d, c, n, m, rfl, _⟩ := h
    rfl
  · obtain ⟨d, c, n, m, rfl, n1, n8, m19, rd, k⟩ := h
    obtain ⟨fD, fdD, GD⟩ := LD.g (X := (cxOf CX0 P w K mg base NW "_law_random_sheet" (defScope sSheet) f cdv A0 outer s H E).nox) LDr hr (by decide)
    obtain ⟨fS, fdS, GS⟩ := LD.g (X := (cxOf CX0 P w K mg base NW "_law_random_sheet" (defScope sSheet) f cdv A0 outer s H E).nox) LSt hr (by decide)
    obtain ⟨fE, fdE, GE⟩ := LD.g (X := (cxOf CX0 P w K mg base NW "_law_random_sheet" (defScope sSheet) f cdv A0 outer s H E).nox) LSe hr (by decide)
    obtain ⟨fA, fdA, GA⟩ := LD.g (X := (cxOf CX0 P w K mg base NW "_law_random_sheet" (defScope sSheet) f cdv A0 outer s H E).nox) LDa hr (by decide)
    refine ⟨_, pw_B, ?_⟩
    refine b_set (i := 3) scSheet.nd rfl (.inl rfl) (w_call2 GS (w_ev (ev_vi (pv 0) rfl) fun v0 H1 s1 e0 => w_ev (ev_vi (pv 1) rfl) fun v1 H2 s2 e1 => ?_))
    cases e0
    cases e1
    have s12 := s1.trans s2
    refine ⟨d, c, n, rfl, n1, n8, rd.same s12, fun v H3 k3 rd3 ⟨rows, tr, r1, rn, ro⟩ => ?_⟩
    have k03 : KeepX d H H3 := (KeepX.of s12).trans k3
    refine b_set (i := 4) scSheet.nd rfl (.inl rfl) (w_call3 GE (w_ev (ev_vi (pv 0) rfl) fun v0 H4 s4 e0 => w_ev (ev_lcT (ds := rows.map ld) (f := itemD 0) (i := 5) rfl scSheet.nd (blkOk_by (N := NW) (sc := defScope sSheet) (by decide +kernel)) (fun _ _ _ _ _ => pg_name (i := 5) scSheet.nd rfl (Or.inl rfl)) (ev_v (pv 3) rfl (Td.keep (.of s4) _ _ tr) mono_da) (by rw [List.length_map]; omega) ?_) fun vl H5 s5 hl => w_ev (ev_c pe_int) fun v5 H6 s6 e6 => ?_))
    · intro j dd y H' hd sx td s' H0 C cl fp
      obtain ⟨l, hl, rfl⟩ := map_at hd
      exact ev_ixD (j := 0) (ev_v (pv 5) rfl td mono_da) (ev_c pe_int) rfl
    cases e0
    cases e6
    have e1 : (rows.map ld).map (itemD 0) = (rows.map (·.nm)).map PyData.str := by
      rw [List.map_map, List.map_map]
      rfl
    rw [e1] at hl
    obtain ⟨S0, us, rfl, hS0, tS0⟩ := hl
    obtain rfl := tS0.strs
    have s46 := (s4.trans s5).trans s6
    refine ⟨d, c, S0, rows.map (·.nm), 3, rfl, s6 _ _ hS0, by rw [List.length_map]; omega, fun x hx => ?_, by decide, rd3.same s46, fun vp H7 k7 rd7 ⟨ps, tps, pn, po⟩ => ?_⟩
    · obtain ⟨l, hl, rfl⟩ := List.mem_map.mp hx
      exact (ro l hl).1
    have k37 : KeepX d H3 H7 := (KeepX.of s46).trans k7
    have tr7 := Td.keep (KeepX.tup rd3 k37) _ _ tr
    refine b_ret (w_E (pe_tup (pa_cons (pv 3) (pa_cons (pv 4) (pa_cons pw_E pa_nil)))) ⟨_, rfl, _, rfl, w_call3 GA (w_ev (ev_vi (pv 0) rfl) fun v0 H8 s8 e8 => w_ev (ev_v (pv 3) rfl (Td.keep (.of s8) _ _ tr7) mono_da) fun v9 H9 s9 h9 => w_draw GD (ev_vi (pv 0) rfl) (ev_opI op_add (ev_vi (pv 2) rfl) (ev_c pe_int)) ((rd7.same s8).same s9) (by omega) (by omega) fun z H10 z0 z1 k10 rd10 => ?_)⟩)
    cases e8
    obtain ⟨zn, rfl⟩ := Int.eq_ofNat_of_zero_le z0
    refine ⟨d, c, v9, rows, zn, rfl, by omega, by omega, Td.keep (KeepX.tup ((rd7.same s8).same s9) k10) _ _ h9, rd10, fun vd H11 k11 rd11 ⟨days, tdd, dn, dk⟩ => ?_⟩
    refine ⟨by show 3 ≤ sizeLine; decide, fun T hT => ?_⟩
    have k711 : KeepX d H7 H11 := (((KeepX.of s8).trans (.of s9)).trans k10).trans k11
    have sT : Same H11 (upd H11 T (.tup [v, vp, vd])) := same_new hT
    have kt : TupK H7 (upd H11 T (.tup [v, vp, vd])) := (KeepX.tup rd7 k711).trans (.of sT)
    exact k _ _ (((k03.trans k37).trans k711).trans (.of sT)) (rd11.same sT) ⟨rows, ps, days, .mk upd_same (.cons (Td.keep kt _ _ tr7) (.cons (Td.keep kt _ _ tps) (.cons (Td.keep (.of sT) _ _ tdd) .nil))), ⟨r1, rn, ro, pn, po, by omega, dk⟩⟩
end
end Kn

namespace Kn
open PySem PySem.Spec PyProof.Rows L2 Cb
/-! ### names in another order -/
theorem le_strs : (fun a b : Str => PySem.W.dataLe false id (PyData.str a) (PyData.str b)) = fun a b => decide (a.cps.toList ≤ b.cps.toList) := PySem.W.dataLe_str (fun b : Str => b)
theorem str_ext {a b : Str} (h : a.cps.toList = b.cps.toList) : a = b := by
  cases a
  cases b
  congr 1
  exact Array.ext' h
theorem sortS_perm {xs ys : List Str} (h : xs.Perm ys) : sortS xs = sortS ys := by
  unfold sortS
  rw [le_strs]
  have tr : ∀ a b c : Str, decide (a.cps.toList ≤ b.cps.toList) = true → decide (b.cps.toList ≤ c.cps.toList) = true → decide (a.cps.toList ≤ c.cps.toList) = true := fun a b c h1 h2 => decide_eq_true (List.le_trans (of_decide_eq_true h1) (of_decide_eq_true h2))
  have to_ : ∀ a b : Str, (decide (a.cps.toList ≤ b.cps.toList) || decide (b.cps.toList ≤ a.cps.toList)) = true := fun a b => by
    rcases List.le_total a.cps.toList b.cps.toList with q | q
    · rw [decide_eq_true q]; rfl
    · rw [decide_eq_true q, Bool.or_true]
  have p : (xs.mergeSort fun a b => decide (a.cps.toList ≤ b.cps.toList)).Perm (ys.mergeSort fun a b => decide (a.cps.toList ≤ b.cps.toList)) := (List.mergeSort_perm _ _).trans (h.trans (List.mergeSort_perm _ _).symm)
  exact p.eq_of_pairwise (fun a b _ _ h1 h2 => str_ext (List.le_antisymm (of_decide_eq_true h1) (of_decide_eq_true h2))) (List.pairwise_mergeSort tr to_ _) (List.pairwise_mergeSort tr to_ _)
theorem fresh_perm {xs ys : List Str} (h : xs.Perm ys) : freshD xs = freshD ys := by
  unfold freshD
  rw [sort_strs, sort_strs, sortS_perm h]
end Kn

namespace Kn
open PySem PySem.Spec PyProof.Rows L2 Cb
def spFO : Sp := fun vs H Q _ => ∃ (S : Addr) (xs : List Str), vs = [.ref S] ∧ H S = some (.lst (xs.map V.str)) ∧ 1 ≤ xs.length ∧ xs.length ≤ 6 ∧ ∀ v H', Same H H' → Td H' (freshD xs) v → Q v H'
abbrev NO : List Str := ["_law_heads_here", "_law_a", "_law_b", "_law_c", "_law_d", "_law_e", "_law_f"]
theorem scFO : FnScope NO ["_law_heads_here"] (defScope sFreshOf) := ⟨rfl, rfl, rfl, by decide +kernel, rfl, by decide +kernel, by decide +kernel⟩
theorem w_freshV {X : Cx} {σ : L2.St} {H : Hp} {e : Expr} {es : List Expr} {p pos : Pos} {k : Nat} {f : Addr} {Q : VK} {x : Str} {xs : List Str} (g : GDefV X "fresh" k f 0 spFresh) (h : EvA X σ H (e :: es) ((xs.map PyData.str).map Da)) (hl : xs.length ≤ 900) (kk : ∀ v H', Same H H' → Td H' (freshD xs) v → Q v H') (hg : Gl X "fresh" := by rfl)
    (he : starEach (e :: es) X.env = (false, eval e X.env) :: starEach es X.env := by rfl) (hpl : (backTo pos (starEach es X.env)).any (·.1) = false := by rfl) : wE X (.Call (.Name "fresh" p) (e :: es) [] pos) σ H Q :=
  w_callV g (wA_mono (h H (.refl _)) fun vs H1 ⟨s1, pv⟩ => by
    have t := (pws_da pv).strs
    subst t
    refine ⟨Nat.zero_le _, by rw [List.length_map]; exact Nat.le_of_lt (small1000 (by omega)), fun T hT => ?_⟩
    have sT : Same H1 (upd H1 T (.tup ((xs.map V.str).drop 0))) := same_new hT
    exact ⟨rfl, xs, upd_same, hl, fun v H' s' h => kk v H' ((s1.trans sT).trans s') h⟩) hg (by decide) he hpl
section
variable {P : Program} {w : World} {K : PySem.W.Frag} {mg : Str → Option Value} {base : Heap}
theorem ok_fo {f f1 : Addr} {fd : FuncData} (F : Fun K "_law_fresh_of" "_law_fresh_of" sFreshOf f fd) (GV : FnV P w K mg base 2 f1 0 spFresh) (g1 : mg "fresh" = some (.ref f1)) (k1 : PySem.W.keepIn K (.ref f1) = true) (zl : mg "len" = none) : FnOk P w K mg base CX0 3 f fd ["_law_heads_here"] spFO := by
  refine F.ok scFO (fun vs H Q E h => ?_) (fun cdv A0 outer s H vs Q E hr h => ?_)
  · obtain ⟨S, xs, rfl, _⟩ := h
    rfl
  · obtain ⟨S, xs, rfl, hS, x1, x6, k⟩ := h
    have G : GDefV (cxOf CX0 P w K mg base NO "_law_fresh_of" (defScope sFreshOf) f cdv A0 outer s H E).nox "fresh" 2 f1 0 spFresh := ⟨GV, hr, g1, k1⟩
    have hL : ∀ H', Same H H' → LstD (xs.map PyData.str) (.ref S) H' := fun H' s => ⟨S, _, rfl, s _ _ hS, tds_strs xs⟩
    refine ⟨_, pw_B, ?_⟩
    match xs, x1, x6, hS, k, hL with
    | [a], _, _, hS, k, hL =>
      refine b_ifT (EvT.is (CC.et (c_eqS (ev_lenL zl (ev_vi (pv 0) rfl) hS) (ev_c pe_int) rfl)) (by simp)) fun H1 s1 => ?_
      have z1 := s1
      exact b_ret (w_freshV (x := "") (xs := [a]) G (ed_cons (ev_ixLD (j := 0) (ev_v (pv 0) rfl (hL _ z1) mono_lstD) (ev_c pe_int) rfl) ed_nil) (by simp) fun v H' s' h => k v H' (z1.trans s') h)
    | [a, b], _, _, hS, k, hL =>
      refine b_ifF (EvT.is (CC.et (c_eqS (ev_lenL zl (ev_vi (pv 0) rfl) hS) (ev_c pe_int) rfl)) (by simp)) fun H1 s1 => ?_
      have z1 := s1
      refine b_ifT (EvT.is (CC.et (c_eqS (ev_lenL zl (ev_vi (pv 0) rfl) (z1 _ _ hS)) (ev_c pe_int) rfl)) (by simp)) fun H2 s2 => ?_
      have z2 := z1.trans s2
      exact b_ret (w_freshV (x := "") (xs := [a, b]) G (ed_cons (ev_ixLD (j := 0) (ev_v (pv 0) rfl (hL _ z2) mono_lstD) (ev_c pe_int) rfl) (ed_cons (ev_ixLD (j := 1) (ev_v (pv 0) rfl (hL _ z2) mono_lstD) (ev_c pe_int) rfl) ed_nil)) (by simp) fun v H' s' h => k v H' (z2.trans s') h)
    | [a, b, c], _, _, hS, k, hL =>
      refine b_ifF (EvT.is (CC.et (c_eqS (ev_lenL zl (ev_vi (pv 0) rfl) hS) (ev_c pe_int) rfl)) (by simp)) fun H1 s1 => ?_
      have z1 := s1
      refine b_ifF (EvT.is (CC.et (c_eqS (ev_lenL zl (ev_vi (pv 0) rfl) (z1 _ _ hS)) (ev_c pe_int) rfl)) (by simp)) fun H2 s2 => ?_
      have z2 := z1.trans s2
      refine b_ifT (EvT.is (CC.et (c_eqS (ev_lenL zl (ev_vi (pv 0) rfl) (z2 _ _ hS)) (ev_c pe_int) rfl)) (by simp)) fun H3 s3 => ?_
      have z3 := z2.trans s3
      exact b_ret (w_freshV (x := "") (xs := [a, b, c]) G (ed_cons (ev_ixLD (j := 0) (ev_v (pv 0) rfl (hL _ z3) mono_lstD) (ev_c pe_int) rfl) (ed_cons (ev_ixLD (j := 1) (ev_v (pv 0) rfl (hL _ z3) mono_lstD) (ev_c pe_int) rfl) (ed_cons (ev_ixLD (j := 2) (ev_v (pv 0) rfl (hL _ z3) mono_lstD) (ev_c pe_int) rfl) ed_nil))) (by simp) fun v H' s' h => k v H' (z3.trans s') h)
    | [a, b, c, d], _, _, hS, k, hL =>
      refine b_ifF (EvT.is (CC.et (c_eqS (ev_lenL zl (ev_vi (pv 0) rfl) hS) (ev_c pe_int) rfl)) (by simp)) fun H1 s1 => ?_
      have z1 := s1
      refine b_ifF (EvT.is (CC.et (c_eqS (ev_lenL zl (ev_vi (pv 0) rfl) (z1 _ _ hS)) (ev_c pe_int) rfl)) (by simp)) fun H2 s2 => ?_
      have z2 := z1.trans s2
      refine b_ifF (EvT.is (CC.et (c_eqS (ev_lenL zl (ev_vi (pv 0) rfl) (z2 _ _ hS)) (ev_c pe_int) rfl)) (by simp)) fun H3 s3 => ?_
      have z3 := z2.trans s3
      refine b_ifT (EvT.is (CC.et (c_eqS (ev_lenL zl (ev_vi (pv 0) rfl) (z3 _ _ hS)) (ev_c pe_int) rfl)) (by simp)) fun H4 s4 => ?_
      have z4 := z3.trans s4
      exact b_ret (w_freshV (x := "") (xs := [a, b, c, d]) G (ed_cons (ev_ixLD (j := 0) (ev_v (pv 0) rfl (hL _ z4) mono_lstD) (ev_c pe_int) rfl) (ed_cons (ev_ixLD (j := 1) (ev_v (pv 0) rfl (hL _ z4) mono_lstD) (ev_c pe_int) rfl) (ed_cons (ev_ixLD (j := 2) (ev_v (pv 0) rfl (hL _ z4) mono_lstD) (ev_c pe_int) rfl) (ed_cons (ev_ixLD (j := 3) (ev_v (pv 0) rfl (hL _ z4) mono_lstD) (ev_c pe_int) rfl) ed_nil)))) (by simp) fun v H' s' h => k v H' (z4.trans s') h)
    | [a, b, c, d, e], _, _, hS, k, hL =>
      refine b_ifF (EvT.is (CC.et (c_eqS (ev_lenL zl (ev_vi (pv 0) rfl) hS) (ev_c pe_int) rfl)) (by simp)) fun H1 s1 => ?_
      have z1 := s1
      refine b_ifF (EvT.is (CC.et (c_eqS (ev_lenL zl (ev_vi (pv 0) rfl) (z1 _ _ hS)) (ev_c pe_int) rfl)) (by simp)) fun H2 s2 => ?_
      have z2 := z1.trans s2
      refine b_ifF (EvT.is (CC.et (c_eqS (ev_lenL zl (ev_vi (pv 0) rfl) (z2 _ _ hS)) (ev_c pe_int) rfl)) (by simp)) fun H3 s3 => ?_
      have z3 := z2.trans s3
      refine b_ifF (EvT.is (CC.et (c_eqS (ev_lenL zl (ev_vi (pv 0) rfl) (z3 _ _ hS)) (ev_c pe_int) rfl)) (by simp)) fun H4 s4 => ?_
      have z4 := z3.trans s4
      refine b_ifT (EvT.is (CC.et (c_eqS (ev_lenL zl (ev_vi (pv 0) rfl) (z4 _ _ hS)) (ev_c pe_int) rfl)) (by simp)) fun H5 s5 => ?_
      have z5 := z4.trans s5
      exact b_ret (w_freshV (x := "") (xs := [a, b, c, d, e]) G (ed_cons (ev_ixLD (j := 0) (ev_v (pv 0) rfl (hL _ z5) mono_lstD) (ev_c pe_int) rfl) (ed_cons (ev_ixLD (j := 1) (ev_v (pv 0) rfl (hL _ z5) mono_lstD) (ev_c pe_int) rfl) (ed_cons (ev_ixLD (j := 2) (ev_v (pv 0) rfl (hL _ z5) mono_lstD) (ev_c pe_int) rfl) (ed_cons (ev_ixLD (j := 3) (ev_v (pv 0) rfl (hL _ z5) mono_lstD) (ev_c pe_int) rfl) (ed_cons (ev_ixLD (j := 4) (ev_v (pv 0) rfl (hL _ z5) mono_lstD) (ev_c pe_int) rfl) ed_nil))))) (by simp) fun v H' s' h => k v H' (z5.trans s') h)
    | [a, b, c, d, e, g], _, _, hS, k, hL =>
      refine b_ifF (EvT.is (CC.et (c_eqS (ev_lenL zl (ev_vi (pv 0) rfl) hS) (ev_c pe_int) rfl)) (by simp)) fun H1 s1 => ?_
      have z1 := s1
      refine b_ifF (EvT.is (CC.et (c_eqS (ev_lenL zl (ev_vi (pv 0) rfl) (z1 _ _ hS)) (ev_c pe_int) rfl)) (by simp)) fun H2 s2 => ?_
      have z2 := z1.trans s2
      refine b_ifF (EvT.is (CC.et (c_eqS (ev_lenL zl (ev_vi (pv 0) rfl) (z2 _ _ hS)) (ev_c pe_int) rfl)) (by simp)) fun H3 s3 => ?_
      have z3 := z2.trans s3
      refine b_ifF (EvT.is (CC.et (c_eqS (ev_lenL zl (ev_vi (pv 0) rfl) (z3 _ _ hS)) (ev_c pe_int) rfl)) (by simp)) fun H4 s4 => ?_
      have z4 := z3.trans s4
      refine b_ifF (EvT.is (CC.et (c_eqS (ev_lenL zl (ev_vi (pv 0) rfl) (z4 _ _ hS)) (ev_c pe_int) rfl)) (by simp)) fun H5 s5 => ?_
      have z5 := z4.trans s5
      refine b_asgE (pg_unl rfl (pgs_cons (pg_name (i := 1) scFO.nd rfl (.inl rfl)) (pgs_cons (pg_name (i := 2) scFO.nd rfl (.inl rfl)) (pgs_cons (pg_name (i := 3) scFO.nd rfl (.inl rfl)) (pgs_cons (pg_name (i := 4) scFO.nd rfl (.inl rfl)) (pgs_cons (pg_name (i := 5) scFO.nd rfl (.inl rfl)) (pgs_cons (pg_name (i := 6) scFO.nd rfl (.inl rfl)) pgs_nil))))))) (ev_vi (pv 0) rfl) fun u H6 s6 e => ?_
      cases e
      have z6 := z5.trans s6
      refine ⟨S, _, rfl, SqL.of (z6 _ _ hS), rfl, _, _, rfl, _, _, rfl, _, _, rfl, _, _, rfl, _, _, rfl, _, _, rfl, rfl, ?_⟩
      exact b_ret (w_freshV (x := "") (xs := [a, b, c, d, e, g]) G (ed_cons (Ev.str (ev_vi (pv 1) rfl)) (ed_cons (Ev.str (ev_vi (pv 2) rfl)) (ed_cons (Ev.str (ev_vi (pv 3) rfl)) (ed_cons (Ev.str (ev_vi (pv 4) rfl)) (ed_cons (Ev.str (ev_vi (pv 5) rfl)) (ed_cons (Ev.str (ev_vi (pv 6) rfl)) ed_nil)))))) (by simp) fun v H' s' h => k v H' (z6.trans s') h)
    | _ :: _ :: _ :: _ :: _ :: _ :: _ :: _, _, x6, _, _, _ => exact absurd x6 (by simp)
end
end Kn

namespace Cb
open PySem PySem.Spec PyProof.Rows L2
/-! ### what repr of a datum needs: its depth and its length -/
structure Shw (k L : Nat) (d : PyData) : Prop where
  s : d.showable = true
  h : d.hasDict = false
  dp : d.depth ≤ k
  z : d.shown.length ≤ L
variable {k L k' L' : Nat} {d : PyData} {ds : List PyData}
theorem Shw.mono (h : Shw k L d) (hk : k ≤ k') (hl : L ≤ L') : Shw k' L' d := ⟨h.s, h.h, Nat.le_trans h.dp hk, Nat.le_trans h.z hl⟩
theorem shw_none : Shw 0 5 .none := ⟨rfl, rfl, Nat.le_refl _, by decide⟩
theorem shw_bool {b : Bool} : Shw 0 5 (.bool b) := ⟨rfl, rfl, Nat.le_refl _, by cases b <;> decide⟩
theorem log2_lt_pow {n k : Nat} (h : n < 2 ^ k) : n.log2 < k + 1 := by
  by_cases hz : n = 0
  · subst hz
    rw [show Nat.log2 0 = 0 by decide]
    omega
  · exact Nat.lt_succ_of_lt ((Nat.log2_lt hz).mpr h)
theorem shw_int {i : Int} {n : Nat} (h : i.natAbs < 2 ^ n) (hn : n ≤ 1900) : Shw 0 (n + 2) (.int i) := by
  have hl := log2_lt_pow h
  refine ⟨?_, rfl, Nat.le_refl _, ?_⟩
  · show decide (i.natAbs.log2 < 1920) = true
    exact decide_eq_true (by omega)
  · have z := int_text_length_le (a := i) (k := n + 1) (by omega) hl
    have e : (PyData.int i).shown.length = (toString i).length := by
      rw [PyData.shown_int]
      exact PySem.ofString_length _
    omega
theorem shw_str {x : Str} (h : x.cps.size ≤ 8) (hc : (x.cps.toList.all fun c => decide (c < 16 ^ 8)) = true) : Shw 0 82 (.str x) := by
  refine ⟨rfl, rfl, Nat.le_refl _, ?_⟩
  have z := StrLaws.reprText_len x (by simpa only [List.all_eq_true, decide_eq_true_eq] using hc)
  have e : x.length = x.cps.size := rfl
  show (reprText x).length ≤ 82
  omega
theorem shw_all : ∀ {ds : List PyData}, (∀ d ∈ ds, Shw k L d) → PyData.showableAll ds = true ∧ PyData.hasDictAll ds = false ∧ PyData.depthAll ds ≤ k ∧ ((PyData.shownAll ds).map (·.length)).sum ≤ ds.length * L
  | [], _ => ⟨rfl, rfl, Nat.zero_le _, Nat.zero_le _⟩
  | d :: ds, h => by
    have h1 := h d (List.mem_cons_self ..)
    obtain ⟨a1, a2, a3, a4⟩ := shw_all (ds := ds) fun e he => h e (List.mem_cons_of_mem _ he)
    refine ⟨?_, ?_, ?_, ?_⟩
    · show (PyData.showable d && PyData.showableAll ds) = true
      rw [h1.s, a1]
      rfl
    · show (PyData.hasDict d || PyData.hasDictAll ds) = false
      rw [h1.h, a2]
      rfl
    · show max (PyData.depth d) (PyData.depthAll ds) ≤ k
      exact Nat.max_le.mpr ⟨h1.dp, a3⟩
    · show d.shown.length + ((PyData.shownAll ds).map (·.length)).sum ≤ (ds.length + 1) * L
      rw [Nat.add_mul, Nat.one_mul]
      have := h1.z
      omega
theorem shw_tup {n : Nat} (h : ∀ d ∈ ds, Shw k L d) (hn : ds.length ≤ n) : Shw (k + 1) (n * (L + 2) + 3) (.tuple ds) := by
  obtain ⟨a1, a2, a3, a4⟩ := shw_all h
  refine ⟨a1, a2, ?_, ?_⟩
  · show PyData.depthAll ds + 1 ≤ k + 1
    omega
  · have z := tupleText_len_le (PyData.shownAll ds)
    rw [PyData.shownAll_length] at z
    show (tupleText (PyData.shownAll ds)).length ≤ _
    have e1 : ds.length * L ≤ n * L := Nat.mul_le_mul_right _ hn
    rw [Nat.mul_add]
    omega
theorem shw_lst {n : Nat} (h : ∀ d ∈ ds, Shw k L d) (hn : ds.length ≤ n) : Shw (k + 1) (n * (L + 2) + 3) (.list ds) := by
  obtain ⟨a1, a2, a3, a4⟩ := shw_all h
  refine ⟨a1, a2, ?_, ?_⟩
  · show PyData.depthAll ds + 1 ≤ k + 1
    omega
  · have z := listText_len_le (PyData.shownAll ds)
    rw [PyData.shownAll_length] at z
    show (listText (PyData.shownAll ds)).length ≤ _
    have e1 : ds.length * L ≤ n * L := Nat.mul_le_mul_right _ hn
    rw [Nat.mul_add]
    omega
theorem mem2 {a b x : PyData} {Q : PyData → Prop} (ha : Q a) (hb : Q b) (h : x ∈ [a, b]) : Q x := by
  rcases List.mem_cons.mp h with rfl | h
  · exact ha
  · rw [List.mem_singleton.mp h]
    exact hb
section
variable {X : Cx} {e : Expr} {σ : L2.St} {H : Hp} {p pos : Pos} {d : PyData} {ds : List PyData}
/-- repr of a tuple of which Shw is known -/
theorem ev_reprS {k L : Nat} (gd : X.A.guards = some []) (hu : X.A.units + 64 < cLine) (hm : X.mg "repr" = none) (ha : Ev X σ H e (Da (.tuple ds))) (h : Shw k L (.tuple ds)) (hk : k ≤ 60) (hL : L ≤ 16000000)
    (hg : Gl X "repr" := by rfl) (he : starEach [e] X.env = (false, eval e X.env) :: starEach [] X.env := by rfl) (hpl : (backTo pos (starEach [] X.env)).any (·.1) = false := by rfl) : Ev X σ H (.Call (.Name "repr" p) [e] [] pos) (Is (.str (PyData.tuple ds).shown)) :=
  ev_reprT gd hu hm ha h.s h.h (Nat.le_trans h.dp hk) (Nat.le_trans h.z (Nat.le_trans hL (by decide))) hg he hpl
end
end Cb
namespace Kn
open PySem PySem.Spec PyProof.Rows L2 Cb
theorem shw_qd {r : Rat} {n : Nat} (h : Bd n r) (hn : n ≤ 1900) : Shw 1 (2 * (n + 4) + 3) (qd r) := shw_tup (n := 2) (fun d hd => mem2 (shw_int h.1 hn) (shw_int (i := (r.den : Int)) h.2 hn) hd) (Nat.le_refl _)
theorem shw_ld {l : Ln} {n : Nat} (h : NmOk l.nm) (he : Bd n l.ex) (hn : n ≤ 1500) (hc : l.ct.natAbs < 2 ^ 1500) : Shw 2 13000 (ld l) := by
  have a2 := shw_qd he (by omega)
  refine (shw_tup (k := 1) (L := 3100) (n := 4) (fun d hd => ?_) (Nat.le_refl _)).mono (Nat.le_refl _) (by decide)
  rcases List.mem_cons.mp hd with rfl | hd
  · exact (shw_str h.1 h.2).mono (by decide) (by decide)
  rcases List.mem_cons.mp hd with rfl | hd
  · exact a2.mono (Nat.le_refl _) (by omega)
  rcases List.mem_cons.mp hd with rfl | hd
  · exact (shw_int hc (by decide)).mono (by decide) (by decide)
  rw [List.mem_singleton.mp hd]
  exact shw_bool.mono (by decide) (by decide)
theorem shw_rows {rows : List Ln} {n : Nat} (hl : rows.length ≤ 20) (h : ∀ l ∈ rows, NmOk l.nm ∧ Bd n l.ex ∧ l.ct.natAbs < 2 ^ 1500) (hn : n ≤ 1500) : Shw 3 261000 (rowsD rows) := by
  refine (shw_tup (k := 2) (L := 13000) (n := 20) (fun d hd => ?_) (by rw [List.length_map]; exact hl)).mono (Nat.le_refl _) (by decide)
  obtain ⟨l, hl, rfl⟩ := List.mem_map.mp hd
  obtain ⟨a, b, c⟩ := h l hl
  exact shw_ld a b hn c
theorem shw_days {days : List (List Rat)} {n m : Nat} (hl : days.length ≤ 20) (hm : m ≤ 20) (h : ∀ day ∈ days, DayOk m day) : Shw 3 40000 (daysD days) := by
  refine (shw_tup (k := 2) (L := 1900) (n := 20) (fun d hd => ?_) (by rw [List.length_map]; exact hl)).mono (Nat.le_refl _) (by decide)
  obtain ⟨day, hday, rfl⟩ := List.mem_map.mp hd
  obtain ⟨a, b⟩ := h day hday
  refine (shw_tup (k := 1) (L := 91) (n := 20) (fun d hd => ?_) (by rw [List.length_map, a]; exact hm)).mono (Nat.le_refl _) (by decide)
  obtain ⟨q, hq, rfl⟩ := List.mem_map.mp hd
  exact shw_qd (b q hq).2 (by decide)
theorem shw_bk {bk : List (List Int)} {m : Nat} (hl : bk.length ≤ 20) (hm : m ≤ 20) (h : ∀ r ∈ bk, RowOk m r) : Shw 2 40000 (bkD bk) := by
  refine (shw_tup (k := 1) (L := 1400) (n := 20) (fun d hd => ?_) (by rw [List.length_map]; exact hl)).mono (Nat.le_refl _) (by decide)
  obtain ⟨r, hr, rfl⟩ := List.mem_map.mp hd
  obtain ⟨a, b⟩ := h r hr
  refine (shw_tup (k := 0) (L := 63) (n := 20) (fun d hd => ?_) (by rw [List.length_map, a]; exact hm)).mono (Nat.le_refl _) (by decide)
  obtain ⟨z, hz, rfl⟩ := List.mem_map.mp hd
  exact shw_int (b z hz) (by decide)
theorem shw_parts {ps : List (List Str)} (hl : ps.length ≤ 20) (h : ∀ p ∈ ps, PartOk p) : Shw 2 16000 (.tuple (ps.map sD)) := by
  refine (shw_tup (k := 1) (L := 760) (n := 20) (fun d hd => ?_) (by rw [List.length_map]; exact hl)).mono (Nat.le_refl _) (by decide)
  obtain ⟨p, hp, rfl⟩ := List.mem_map.mp hd
  obtain ⟨_, a, b⟩ := h p hp
  refine (shw_tup (k := 0) (L := 82) (n := 9) (fun d hd => ?_) (by rw [List.length_map]; exact a)).mono (Nat.le_refl _) (by decide)
  obtain ⟨x, hx, rfl⟩ := List.mem_map.mp hd
  exact shw_str (b x hx).1 (b x hx).2
/-- a sheet -/
theorem shw_sh {A B C : PyData} (ha : Shw 3 261000 A) (hb : Shw 2 16000 B) (hc : Shw 3 40000 C) : Shw 4 800000 (.tuple [A, B, C]) := by
  refine (shw_tup (k := 3) (L := 261000) (n := 3) (fun d hd => ?_) (Nat.le_refl _)).mono (Nat.le_refl _) (by decide)
  rcases List.mem_cons.mp hd with rfl | hd
  · exact ha
  rcases List.mem_cons.mp hd with rfl | hd
  · exact hb.mono (by decide) (by decide)
  rw [List.mem_singleton.mp hd]
  exact hc.mono (by decide) (by decide)
end Kn

namespace Cb
open PySem PySem.Spec PyProof.Rows L2
/-! ### further rules: a comprehension over enumerate(list) or a range, in a tuple, sums and multiples of lists and tuples -/
theorem lc_enum {K : PySem.W.Frag} {a : Addr} {xs : List V} {g : TG} {tt : TT} {te : TE} {vs : List Nat} {σ : L2.St} {H1 : Hp} {D : Addr} {Qd : Hp → Prop} (Pv : Nat → Hp → Prop) (h0 : Pv 0 (upd H1 D (.lst []))) (hl : ∀ i H, i ≤ xs.length → Pv i H → SqL K H a xs)
    (hs : ∀ i x H T, xs[i]? = some x → Pv i H → H T = none → g (.ref T) (wipe σ vs) (upd H T (.tup [.int (i : Nat), x])) fun σ2 H2 => wipe σ2 vs = wipe σ vs ∧ tt σ2 H2 fun b H3 =>
      if b = true then te σ2 H3 fun y H4 => ∃ acc, H4 D = some (.lst acc) ∧ acc.length < sizeLine ∧ Pv (i + 1) (upd H4 D (.lst (acc ++ [y]))) else Pv (i + 1) H3) (hd : ∀ H, Pv xs.length H → Qd H) :
    ∃ W : Nat → Nat → Hp → Prop, (∃ m, W 0 m (upd H1 D (.lst []))) ∧ ∀ i m H, W i m H →
      ((Ite K a).stop i H ∧ Qd H) ∨ ((Ite K a).go i H ∧ ∃ Nx : Hp → Prop, (∀ H', Nx H' → ∃ m', m' < m ∧ W (i + 1) m' H') ∧ ∀ x H', (Ite K a).yld i H x H' → g x (wipe σ vs) H' fun σ2 H2 => wipe σ2 vs = wipe σ vs ∧ tt σ2 H2 fun b H3 =>
        if b = true then te σ2 H3 fun y H4 => ∃ acc, H4 D = some (.lst acc) ∧ acc.length < sizeLine ∧ Nx (upd H4 D (.lst (acc ++ [y]))) else Nx H3) := by
  refine ⟨fun i m H => m = xs.length - i ∧ i ≤ xs.length ∧ Pv i H, ⟨xs.length, by simp, Nat.zero_le _, h0⟩, ?_⟩
  rintro i m H ⟨rfl, hi, p⟩
  have q := hl i H hi p
  by_cases hlt : i < xs.length
  · refine .inr ⟨⟨xs, xs[i], q, by simp [hlt]⟩, Pv (i + 1), fun H' p' => ⟨xs.length - (i + 1), by omega, rfl, hlt, p'⟩, fun v H' y => ?_⟩
    obtain ⟨T, x, rfl, hT, rfl, y⟩ := y
    exact hs i x H T (y xs q) p hT
  · have e : i = xs.length := by omega
    subst e
    exact .inl ⟨⟨xs, q, Nat.le_refl _⟩, hd H p⟩
theorem none_back {H H' : Hp} {p : Addr} (s : Same H H') (h : H' p = none) : H p = none := by
  cases e : H p with
  | none => rfl
  | some o =>
    rw [s _ _ e] at h
    cases h
/-- a list of data, new since H0 -/
def LstN (H0 : Hp) (ds : List PyData) : Pd := fun v H => ∃ a xs, v = .ref a ∧ H0 a = none ∧ H a = some (.lst xs) ∧ Tds H ds xs
theorem mono_lstN {H0 : Hp} {ds : List PyData} : Mono (LstN H0 ds) := fun v H H' s ⟨a, xs, e, n, h, t⟩ => ⟨a, xs, e, n, s _ _ h, Tds.keep (.of s) ds xs t⟩
theorem LstN.d {H0 H : Hp} {ds : List PyData} {v : V} (h : LstN H0 ds v H) : LstD ds v H := let ⟨a, xs, e, _, h, t⟩ := h; ⟨a, xs, e, h, t⟩
theorem tds_rep {H : Hp} {ds : List PyData} {xs : List V} (t : Tds H ds xs) : ∀ n : Nat, Tds H (List.replicate n ds).flatten (List.replicate n xs).flatten
  | 0 => .nil
  | n + 1 => by
    rw [List.replicate_succ, List.replicate_succ, List.flatten_cons, List.flatten_cons]
    exact t.app (tds_rep t n)
/-! a tuple times 1 is itself -/
theorem tuple_mul1 (l : Addr) (items : Array Value) (n : Nat) (dd : Option Addr) (sl : Array (Option Value)) (u : Tok) :
    Meets (Builtin.«tuple.__mul__» ⟨[.ref l, .int 1 u], []⟩) (fun _ R s => s.heap.get? l = some { cls := .type "tuple", dict := dd, data := .seq items n, slots := sl } ∧ R (.ok (.ret (Value.ref l))) s) :=
  .of_wp fun prog w A R s h => by
    obtain ⟨hp, g, d, tk, os⟩ := s
    obtain ⟨hl, h⟩ := h
    have f1 := AutoSeq1.idx_int
    have c1 : (items.isEmpty || (1 : Int) == 1) = true := by rw [Bool.or_eq_true]; exact .inr rfl
    wp_walk using wpAny_loadPart' hl
    repeat (first
      | (refine wpAny_ite_false (decide_eq_false (by decide)) ?_; wp_walk using wpAny_loadPart' hl)
      | (refine wpAny_ite_true (decide_eq_true c1) ?_; wp_walk using wpAny_loadPart' hl))
    exact ⟨_, rfl, h⟩
def rRepT1 (K : PySem.W.Frag) : R2 := fun x y H Q => ∃ l xs, x = .ref l ∧ y = .int 1 ∧ SqT K H l xs ∧ Q (.ref l) H
theorem op_repT1 {X : Cx} : OpR X (binaryOp .Mult) (rRepT1 X.K) := by
  intro pins s σ H x y v u Q I rx ry h
  obtain ⟨l, xs, rfl, rfl, hT, q⟩ := h
  cases rx
  obtain ⟨t, rfl⟩ := ry
  obtain ⟨its, r, ⟨⟨cls, dd, data, sl⟩, ho, hc, n, hd⟩, hs⟩ := I.tuple hT
  simp only at hc hd
  subst hc hd
  refine wpAny_binaryOp_repeat_ref (T := "tuple") (U := "int") (by decide) ⟨_, ho, rfl⟩ (fun s' => typeIs_int s' 1 t) noFill_tuple_mul F.fills_int_mul F.slot_int_rmul repeat_tuple F.slot_int_index.lookup
    (call_meets F.slot_int_rmul (typeIs_int s 1 t) F.entry_int_rmul (F.args_int_rmul_2 _ _) (int_rmul_tuple 1 t l its.toArray n dd sl)
      ⟨ho, rfl, ⟨_, ho, rfl⟩, call_meets F.slot_tuple_mul ⟨_, ho, rfl⟩ F.entry_tuple_mul (F.args_tuple_mul_2 _ _) (tuple_mul1 l its.toArray n dd sl t) ⟨ho, ?_⟩⟩)
  exact ⟨.ref l, H, I, rfl, q⟩
section
variable {X : Cx} {e a b c : Expr} {es : List Expr} {σ : L2.St} {H H' : Hp} {pos pos' p p' q : Pos} {P : Pd} {ds es' : List PyData} {d : PyData} {i : Nat} {x : V} {xs : List V}
theorem et_in (ha : Ev X σ H a (Is x)) (hb : Ev X σ H b (TupI xs)) (fx : flatV x = true) (fs : xs.all flatV = true) (hm : behindInMarks .In b = false := by rfl) : EvT X σ H (.Compare a [.In] [b] pos) (inV x xs) := fun H1 s1 =>
  w_T (pt_cmpR op_in_seq pw_E pw_E hm) (wE_mono (ha H1 s1) fun v H2 ⟨s2, e⟩ => wE_mono (hb H2 (s1.trans s2)) fun u H3 ⟨s3, q, eu, hq⟩ => by
    cases e
    exact ⟨q, xs, eu, .inr (.of hq), fx, fs, _, rfl, s2.trans s3, rfl⟩)
theorem ev_repT {k : Int} (ha : Ev X σ H a (Da (.tuple ds))) (hb : Ev X σ H b (Is (.int k))) (ne : ds ≠ []) (k1 : 1 ≤ k) (k2 : k ≤ 1000) (hl : ds.length ≤ 1000) : Ev X σ H (.BinOp a .Mult b pos) (Da (.tuple (List.replicate k.toNat ds).flatten)) := by
  by_cases h : k = 1
  · subst h
    have e1 : (List.replicate (1 : Int).toNat ds).flatten = ds := by
      show (List.replicate 1 ds).flatten = ds
      simp
    rw [e1]
    refine ev_op op_repT1 ha hb mono_da (fun x y H2 _ px py => ?_) (fun x y H2 Q Q' k ⟨l, xs, h1, h2, h3, q⟩ => ⟨l, xs, h1, h2, h3, k _ _ q⟩)
    obtain ⟨q, xs, rfl, hq, t⟩ := Td.un px
    exact ⟨q, xs, rfl, py, .of hq, .refl _, .mk hq t⟩
  · refine ev_op op_repT ha hb mono_da (fun x y H2 _ px py => ?_) (fun x y H2 Q Q' k ⟨l, n, xs, h1, h2, h3, h4, h5, h6, h7, q⟩ => ⟨l, n, xs, h1, h2, h3, h4, h5, h6, h7, fun p hp => k _ _ (q p hp)⟩)
    obtain ⟨q, xs, rfl, hq, t⟩ := Td.un px
    refine ⟨q, k, xs, rfl, py, .of hq, fun z => ?_, by omega, k2, by rw [t.len]; exact hl, fun p hp => ⟨same_new hp, .mk upd_same (Tds.keep (.of (same_new hp)) _ _ (tds_rep t _))⟩⟩
    subst z
    exact ne (List.eq_nil_of_length_eq_zero (by rw [← t.len]; rfl))
theorem ev_repL {k : Int} (ha : Ev X σ H a (LstD ds)) (hb : Ev X σ H b (Is (.int k))) (k1 : 0 ≤ k) (k2 : k ≤ 1000) (hl : ds.length ≤ 1000) : Ev X σ H (.BinOp a .Mult b pos) (LstD (List.replicate k.toNat ds).flatten) := by
  refine ev_op op_rep ha hb mono_lstD (fun x y H2 _ ⟨q, xs, ex, hq, t⟩ py => ?_) (fun x y H2 Q Q' k ⟨l, n, xs, h1, h2, h3, h4, h5, h6, q⟩ => ⟨l, n, xs, h1, h2, h3, h4, h5, h6, fun p hp => k _ _ (q p hp)⟩)
  subst ex
  refine ⟨q, k, xs, rfl, py, hq, by omega, by omega, ?_, fun p hp => ⟨same_new hp, p, _, rfl, upd_same, Tds.keep (.of (same_new hp)) _ _ (tds_rep t _)⟩⟩
  rw [t.len]
  exact Nat.le_trans (Nat.mul_le_mul hl (show k.toNat ≤ 1000 by omega)) (by decide)
theorem ev_cat (ha : Ev X σ H a (LstD ds)) (hb : Ev X σ H b (LstD es')) (h1 : ds.length ≤ 1000) (h2 : es'.length ≤ 1000) : Ev X σ H (.BinOp a .Add b pos) (LstN H (ds ++ es')) := by
  refine ev_op op_cat ha hb mono_lstD (fun x y H2 s2 ⟨q, xs, ex, hq, t⟩ ⟨q', xs', ex', hq', t'⟩ => ?_) (fun x y H2 Q Q' k ⟨l, n, xs, zs, h1, h2, h3, h4, h5, q⟩ => ⟨l, n, xs, zs, h1, h2, h3, h4, h5, fun p hp => k _ _ (q p hp)⟩)
  subst ex ex'
  refine ⟨q, q', xs, xs', rfl, rfl, hq, hq', ?_, fun p hp => ⟨same_new hp, p, _, rfl, none_back s2 hp, upd_same, Tds.keep (.of (same_new hp)) _ _ (t.app t')⟩⟩
  rw [t.len, t'.len]
  exact Nat.le_trans (Nat.add_le_add h1 h2) (by decide)
theorem ev_lcR {elt : Expr} {x : Str} {xp p1 p2 : Pos} {scope : Scope} {n : Nat} {f : Nat → PyData} (hc : X.calm = true) (nd : X.N.Nodup) (zr : X.mg "range" = none) (ok : BlkOk X.N X.env.scope scope [(x, i)])
    (hg : ∀ (s : Shared) (H : Hp) (C : Addr) (cl : List (Str × Addr)) (fp : List Addr), PG (X.blk s H scope (compEnvC scope cl C X.env) fp) (.Name x xp) (gName i)) (hb : Ev X σ H b (Is (.int (n : Int)))) (hl : n ≤ 1000)
    (he : ∀ (k : Nat) H', k < n → Same H H' → ∀ (s : Shared) (H0 : Hp) (C : Addr) (cl : List (Str × Addr)) (fp : List Addr), Ev (X.blk s H0 scope (compEnvC scope cl C X.env) fp) ((wipe σ [i]).set i (some (.int (k : Int)))) H' elt (Da (f k)))
    (hr : Gl X "range" := by rfl) (hs1 : starEach [b] X.env = (false, eval b X.env) :: starEach [] X.env := by rfl) (hs : ∀ x, foldedSetIterable (.Call (.Name "range" p1) [b] [] p2) X.env x = pure x := by intro _; rfl) : Ev X σ H (.ListComp elt [⟨.Name x xp, .Call (.Name "range" p1) [b] [] p2, [], 0⟩] scope pos) (LstD ((List.range n).map f)) := fun H1 s1 =>
  w_E (pe_lc (own := [(x, i)]) (g := gName i) (tt := tYes) hc nd (pi_range1 hr zr (pa_cons pw_E pa_nil hs1) (hs := hs1)) ok hg (fun _ _ _ _ _ => pts_nil) pw_Eb hs) (wE_mono (hb H1 s1) fun v H2 ⟨s2, e⟩ => by
    cases e
    have en : ((n : Int) - 0).toNat = n := by omega
    refine ⟨_, rfl, by omega, by omega, fun M hM => lc_range (lo := 0) (n := ((n : Int) - 0).toNat) (fun k H => Same H2 H ∧ ∃ acc, H M = some (.lst acc) ∧ acc.length = k ∧ Tds H ((List.range k).map f) acc) ?_ ?_ ?_⟩
    · exact ⟨same_new hM, [], upd_same, rfl, .nil⟩
    · rintro k H3 hk ⟨s3, acc, hm, hk', ht⟩
      refine ⟨wipeD, ?_⟩
      unfold tYes
      dsimp only
      rw [if_pos rfl]
      intro s' H0 C' cl' fp'
      rw [Int.zero_add]
      refine wE_mono (he k H3 (by omega) ((s1.trans s2).trans s3) s' H0 C' cl' fp' H3 (.refl _)) fun z H4 ⟨s4, pz⟩ => ?_
      have hm4 := s4 _ _ hm
      refine ⟨acc, hm4, by rw [hk']; exact small1000 (by omega), fun b o e => ?_, acc ++ [z], upd_same, by rw [List.length_append, hk']; rfl, ?_⟩
      · rw [upd_ne (ne_of_none e hM)]
        exact s4 _ _ (s3 _ _ e)
      · rw [List.range_succ, List.map_append]
        have kp : TupK H4 (upd H4 M (.lst (acc ++ [z]))) := .app hm4
        exact (Tds.keep ((TupK.of s4).trans kp) _ _ ht).snoc (Td.keep kp _ _ pz)
    · rintro H3 ⟨s3, acc, hm, hk, ht⟩
      rw [en] at ht
      exact ⟨s2.trans s3, M, acc, rfl, hm, ht⟩)
end
end Cb

namespace Kn
open PySem PySem.Spec PyProof.Rows L2 Cb
/-! ### _law_fixed_sheets -/
/-- a fraction, told by its two numbers -/
abbrev fq (a : Int) (b : Nat) (h : b ≠ 0 := by decide +kernel) (c : a.natAbs.Coprime b := by decide +kernel) : Rat := ⟨a, b, h, c⟩
theorem lnOk_mk {nm : Str} {r : Rat} {ct : Int} {on : Bool} (h1 : NmOk nm) (h2 : 0 ≤ r.num) (h3 : r.num.natAbs < 2 ^ 40) (h4 : r.den < 2 ^ 40) (h5 : ct.natAbs < 2 ^ 60) : LnOk ⟨nm, r, ct, on⟩ := ⟨h1, Rat.num_nonneg.mp h2, ⟨h3, h4⟩, h5⟩
def two : List Ln := [⟨"fax", fq 1 2, 1, true⟩, ⟨"tel", fq 3 4, 0, true⟩]
abbrev pool6 : List Str := ["a", "ab", "day", "ended", "line", "section"]
def sixAt (i : Nat) (n : Str) : Ln := ⟨n, fq 999999 10000, 100 - (i : Int), !decide (V.str n = V.str "day")⟩
def six : List Ln := pool6.mapIdx sixAt
def farR : Nat → Rat
  | 1 => fq 1000 7
  | 3 => fq 3000 7
  | 4 => fq 4000 7
  | 5 => fq 5000 7
  | _ => 0
def farDay : List Rat := (List.range 6).map farR
def far : List (List Rat) := List.replicate 10 farDay
abbrev pA : List (List Str) := [["fax", "tel"]]
abbrev pB : List (List Str) := [["a", "ab"], ["a", "ab", "day", "ended"], ["line", "section"]]
def sh1 : PyData := shD [⟨"a", 0, 0, true⟩] (([] : List (List Str)).map sD) []
def sh2 : PyData := shD two (pA.map sD) [[fq 1 3, fq 1 2], [0, fq 5 4]]
def sh3 : PyData := shD six (pB.map sD) far
def sh4 : PyData := shD [⟨"b", fq 7 2, -4, false⟩] (([] : List (List Str)).map sD) [[0], [0], [0]]
def sh5 : PyData := shD two (([] : List (List Str)).map sD) []
def ShG (d : PyData) : Prop := ∃ rows ps days, d = shD rows (ps.map sD) days ∧ ShOk 8 19 rows ps days
theorem all_of {α : Type} {p : α → Prop} : ∀ {l : List α}, (∀ x ∈ l, p x) = (∀ x ∈ l, p x) := rfl
theorem dayOk_mk {n : Nat} {day : List Rat} (h : day.length = n) (h2 : ∀ q ∈ day, 0 ≤ q.num ∧ q.num.natAbs < 2 ^ 40 ∧ q.den < 2 ^ 40) : DayOk n day := ⟨h, fun q hq => ⟨Rat.num_nonneg.mp (h2 q hq).1, (h2 q hq).2.1, (h2 q hq).2.2⟩⟩
theorem two_ok : ∀ l ∈ two, LnOk l := by
  intro l hl
  unfold two at hl
  rcases List.mem_cons.mp hl with rfl | hl
  · exact lnOk_mk (by decide +kernel) (by decide) (by decide) (by decide) (by decide)
  rw [List.mem_singleton.mp hl]
  exact lnOk_mk (by decide +kernel) (by decide) (by decide) (by decide) (by decide)
theorem six_ok : ∀ l ∈ six, LnOk l := by
  intro l hl
  unfold six at hl
  obtain ⟨i, hi, rfl⟩ := List.mem_mapIdx.mp hl
  have hn : NmOk pool6[i] := by
    have h : ∀ x ∈ pool6, NmOk x := by decide +kernel
    exact h _ (List.getElem_mem hi)
  have hi6 : i < 6 := hi
  exact lnOk_mk hn (by decide) (by decide) (by decide) (by
    show (100 - (i : Int)).natAbs < 2 ^ 60
    have : (2 : Nat) ^ 60 = 1152921504606846976 := by decide
    omega)
theorem farR_ok (k : Nat) : 0 ≤ (farR k).num ∧ (farR k).num.natAbs < 2 ^ 40 ∧ (farR k).den < 2 ^ 40 := by
  unfold farR
  split <;> decide +kernel
theorem parts_ok {ps : List (List Str)} (h : ∀ p ∈ ps, 2 ≤ p.length ∧ p.length ≤ 9 ∧ ∀ x ∈ p, NmOk x) : ∀ p ∈ ps, PartOk p := h
theorem g1 : ShG sh1 := ⟨_, _, _, rfl, ⟨by decide, by decide, fun l hl => by
  rw [List.mem_singleton.mp hl]
  exact lnOk_mk (by decide +kernel) (by decide) (by decide) (by decide) (by decide), by decide, parts_ok (by decide +kernel), by decide, fun d hd => by cases hd⟩⟩
theorem g2 : ShG sh2 := ⟨_, _, _, rfl, ⟨by decide, by decide, two_ok, by decide, parts_ok (by decide +kernel), by decide, fun d hd => by
  rcases List.mem_cons.mp hd with rfl | hd
  · exact dayOk_mk rfl (by decide +kernel)
  rw [List.mem_singleton.mp hd]
  exact dayOk_mk rfl (by decide +kernel)⟩⟩
theorem g3 : ShG sh3 := ⟨_, _, _, rfl, ⟨by decide, by decide, six_ok, by decide, parts_ok (by decide +kernel), by decide, fun d hd => by
  rw [List.eq_of_mem_replicate hd]
  refine dayOk_mk rfl fun q hq => ?_
  obtain ⟨k, _, rfl⟩ := List.mem_map.mp hq
  exact farR_ok k⟩⟩
theorem g4 : ShG sh4 := ⟨_, _, _, rfl, ⟨by decide, by decide, fun l hl => by
  rw [List.mem_singleton.mp hl]
  exact lnOk_mk (by decide +kernel) (by decide) (by decide) (by decide) (by decide), by decide, parts_ok (by decide +kernel), by decide, fun d hd => by
  have e : d = [0] := by
    have h : ∀ x ∈ ([[0], [0], [0]] : List (List Rat)), x = [0] := by decide +kernel
    exact h d hd
  rw [e]
  exact dayOk_mk rfl (by decide +kernel)⟩⟩
theorem g5 : ShG sh5 := ⟨_, _, _, rfl, ⟨by decide, by decide, two_ok, by decide, parts_ok (by decide +kernel), by decide, fun d hd => by cases hd⟩⟩
theorem sheets_of {H : Hp} : ∀ {ds : List PyData} {us : List V}, (∀ d ∈ ds, ShG d) → Tds H ds us → ∀ u ∈ us, SheetV 8 19 u H
  | [], us, _, t => fun u hu => by
    rw [t.nil'] at hu
    cases hu
  | d :: ds, us, h, t => fun u hu => by
    obtain ⟨v, r, rfl, h1, h2⟩ := t.un
    rcases List.mem_cons.mp hu with rfl | hu
    · obtain ⟨rows, ps, days, e, ok⟩ := h d (List.mem_cons_self ..)
      exact ⟨rows, ps, days, e ▸ h1, ok⟩
    · exact sheets_of (fun e he => h e (List.mem_cons_of_mem _ he)) h2 u hu
def spFixed : Sp := fun vs H Q _ => vs = [] ∧ ∀ S us H', Same H H' → H S = none → H' S = some (.lst us) → us.length = 5 → (∀ u ∈ us, SheetV 8 19 u H') → Q (.ref S) H'
abbrev NFx : List Str := ["_law_two", "_law_heads_here", "_law_six", "_law_far", "_law_found", "_law_k", "_law_head"]
theorem scFixed : FnScope NFx [] (defScope sFixed) := ⟨rfl, rfl, rfl, by decide +kernel, rfl, by decide +kernel, by decide +kernel⟩
section
variable {P : Program} {w : World} {K : PySem.W.Frag} {mg : Str → Option Value} {base : Heap}
theorem ok_fixed {f : Addr} {fd : FuncData} (F : Fun K "_law_fixed_sheets" "_law_fixed_sheets" sFixed f fd) (zt : mg "tuple" = none) (ze : mg "enumerate" = none) (zr : mg "range" = none) : FnOk P w K mg base CX0 1 f fd [] spFixed := by
  refine F.ok scFixed (fun vs H Q E h => ?_) (fun cdv A0 outer s H vs Q E hr h => ?_)
  · obtain ⟨rfl, _⟩ := h
    rfl
  · obtain ⟨rfl, k⟩ := h
    refine ⟨_, pw_B, ?_⟩
    refine b_setE (i := 0) scFixed.nd rfl (.inl rfl) (ev_lit (d := rowsD two) 6 rfl) fun v0 H1 s1 h0 => ?_
    refine b_setE (i := 1) scFixed.nd rfl (.inl rfl) (ev_litL (ds := pool6.map PyData.str) 2 rfl (by show 6 ≤ 1000; decide)) fun v1 H2 s2 ⟨L, xs, e1, hL, tL⟩ => ?_
    subst e1
    obtain rfl := tL.strs
    -- six
    refine b_set (i := 2) scFixed.nd rfl (.inl rfl) (w_E (pe_callTy call_tuple_of (by rfl) zt (by decide +kernel) (pa_cons (pe_lc (own := [("_law_k", 5), ("_law_head", 6)]) (g := gTup K 2 (gCons (gName 5) (gCons (gName 6) gNil))) (tt := tYes) rfl scFixed.nd (pi_enum (by rfl) ze (pa_cons (pv 1) pa_nil)) (blkOk_by (N := NFx) (sc := defScope sFixed) (by decide +kernel)) (fun _ _ _ _ _ => pg_tup rfl (pgs_cons (pg_name (i := 5) scFixed.nd rfl (Or.inl rfl)) (pgs_cons (pg_name (i := 6) scFixed.nd rfl (Or.inl rfl)) pgs_nil))) (fun _ _ _ _ _ => pts_nil) pw_Eb) pa_nil)) ?_)
    refine ⟨_, rfl, L, _, rfl, SqL.of hL, fun M hM => lc_enum (K := K) (a := L) (xs := pool6.map V.str) (fun i H' => Same H2 H' ∧ ∃ acc, H' M = some (.lst acc) ∧ acc.length = i ∧ Tds H' ((six.take i).map ld) acc) ?_ (fun i H' _ h => SqL.of (h.1 _ _ hL)) ?_ ?_⟩
    · exact ⟨same_new hM, [], upd_same, rfl, .nil⟩
    · rintro i x H3 T hx ⟨s3, acc, hm, hk, ht⟩ hT
      obtain ⟨n, hn, rfl⟩ := map_at hx
      have hi : i < 6 := (List.getElem?_eq_some_iff.mp hn).1
      have sT : Same H3 (upd H3 T (.tup [.int (i : Nat), V.str n])) := same_new hT
      have hT4 : (upd H3 T (.tup [.int (i : Nat), V.str n])) T = some (.tup [.int (i : Nat), V.str n]) := upd_same
      generalize upd H3 T (.tup [.int (i : Nat), V.str n]) = H4 at sT hT4 ⊢
      refine ⟨T, _, rfl, .of hT4, rfl, _, _, rfl, _, _, rfl, rfl, rfl, ?_⟩
      unfold tYes
      dsimp only
      rw [if_pos rfl]
      intro s' H0 C' cl' fp'
      have el : six[i]? = some (sixAt i n) := by
        unfold six
        rw [List.getElem?_mapIdx, hn]
        rfl
      refine wE_mono (ev_tupD (ds := [.str n, qd (fq 999999 10000), .int (100 - (i : Int)), .bool (!decide (V.str n = V.str "day"))]) (ed_cons (Ev.str (ev_vi (pv 6) rfl)) (ed_cons (ev_tupD (ds := [.int 999999, .int 10000]) (ed_cons (Ev.int (Ev.is (ev_opI op_sub (ev_opC op_pow (ev_c pe_int) (ev_c pe_int) ⟨by decide, by decide, by decide⟩) (ev_c pe_int)) rfl)) (ed_cons (Ev.int (Ev.is (ev_opC op_pow (ev_c pe_int) (ev_c pe_int) ⟨by decide, by decide, by decide⟩) rfl)) ed_nil)) (by show 2 ≤ 1000; decide)) (ed_cons (Ev.int (ev_opI op_sub (ev_c pe_int) (ev_vi (pv 5) rfl))) (ed_cons (Ev.bool (CC.ev (c_neS (ev_vi (pv 6) rfl) (ev_c pe_str) rfl))) ed_nil)))) (by show 4 ≤ 1000; decide) H4 (.refl _)) fun z H5 ⟨s5, pz⟩ => ?_
      have hm5 := s5 _ _ (sT _ _ hm)
      refine ⟨acc, hm5, by rw [hk]; exact small1000 (by omega), same_put ((s3.trans sT).trans s5) hM, acc ++ [z], upd_same, by rw [List.length_append, hk]; rfl, ?_⟩
      have kp : TupK H5 (upd H5 M (.lst (acc ++ [z]))) := .app hm5
      rw [take_snoc el, List.map_append]
      exact (Tds.keep ((TupK.of (sT.trans s5)).trans kp) _ _ ht).snoc (Td.keep kp _ _ pz)
    · rintro H3 ⟨s3, acc, hm, hk, ht⟩
      refine ⟨M, _, rfl, .inl ⟨SqL.of hm, fun T hT => ?_⟩⟩
      have sT : Same H3 (upd H3 T (.tup acc)) := same_new hT
      have t6 : Td (upd H3 T (.tup acc)) (rowsD six) (.ref T) := .mk upd_same (Tds.keep (.of sT) _ _ ht)
      generalize upd H3 T (.tup acc) = H4 at sT t6 ⊢
      have h04 := Td.keep (.of ((s2.trans s3).trans sT)) _ _ h0
      have s04 := (s1.trans s2).trans (s3.trans sT)
      clear hm hk ht hM
      -- far
      refine b_setE (i := 3) scFixed.nd rfl (.inl rfl) (ev_tupleL zt (ds := (List.replicate 10 [dayD farDay]).flatten) (ev_repL (k := 10) (ev_lstD (ds := [dayD farDay]) (ed_cons (ev_tupleL zt (ds := (List.range 6).map fun k => qd (farR k)) (ev_lcR (i := 5) (n := 6) rfl scFixed.nd zr (blkOk_by (N := NFx) (sc := defScope sFixed) (by decide +kernel)) (fun _ _ _ _ _ => pg_name (i := 5) scFixed.nd rfl (Or.inl rfl)) (ev_c pe_int) (by decide) ?_)) ed_nil) (by show 1 ≤ 1000; decide)) (ev_c pe_int) (by decide) (by decide) (by show 1 ≤ 1000; decide))) fun v3 H5 s5 h3 => ?_
      · intro k H' hk s s' H0 C cl fp
        refine ev_if (k := inV (.int (k : Int)) [.int 0, .int 2]) (et_in (ev_vi (pv 5) rfl) (ev_tupI (xs := [.int 0, .int 2]) (ea_2 (ev_c pe_int) mono_is (ev_c pe_int) mono_is) (by show 2 ≤ 1000; decide)) rfl rfl) (fun h => ?_) fun h => ?_
        · have ek : farR k = 0 := by
            match k, hk, h with
            | 0, _, _ => rfl
            | 2, _, _ => rfl
            | 1, _, h => exact absurd h (by decide +kernel)
            | 3, _, h => exact absurd h (by decide +kernel)
            | 4, _, h => exact absurd h (by decide +kernel)
            | 5, _, h => exact absurd h (by decide +kernel)
          rw [ek]
          exact ev_tupD (ds := [.int 0, .int 1]) (ed_cons (Ev.int (ev_c pe_int)) (ed_cons (Ev.int (ev_c pe_int)) ed_nil)) (by show 2 ≤ 1000; decide)
        · have ek : qd (farR k) = .tuple [.int (1000 * (k : Int)), .int 7] := by
            match k, hk, h with
            | 0, _, h => exact absurd h (by decide +kernel)
            | 2, _, h => exact absurd h (by decide +kernel)
            | 1, _, _ => rfl
            | 3, _, _ => rfl
            | 4, _, _ => rfl
            | 5, _, _ => rfl
          rw [ek]
          exact ev_tupD (ds := [.int (1000 * (k : Int)), .int 7]) (ed_cons (Ev.int (ev_opC op_mul (ev_c pe_int) (ev_vi (pv 5) rfl) (.inl (by decide)))) (ed_cons (Ev.int (ev_c pe_int)) ed_nil)) (by show 2 ≤ 1000; decide)
      have h3' : Td H5 (daysD far) v3 := h3
      have h05 := Td.keep (.of s5) _ _ h04
      have t65 := Td.keep (.of s5) _ _ t6
      -- found
      refine b_setE (i := 4) scFixed.nd rfl (.inl rfl) (ev_litL (ds := [sh1]) 8 rfl (by show 1 ≤ 1000; decide)) fun v4 H6 s6 h4 => ?_
      refine b_setE (i := 4) scFixed.nd rfl (.inl rfl) (ev_cat (ds := [sh1]) (es' := [sh2]) (ev_v (pv 4) rfl h4 mono_lstD) (ev_lstD (ed_cons (ev_tupD (ds := [rowsD two, .tuple (pA.map sD), daysD [[fq 1 3, fq 1 2], [0, fq 5 4]]]) (ed_cons (ev_v (pv 0) rfl (Td.keep (.of s6) _ _ h05) mono_da) (ed_cons (ev_lit 8 rfl) (ed_cons (ev_lit 8 rfl) ed_nil))) (by show 3 ≤ 1000; decide)) ed_nil) (by show 1 ≤ 1000; decide)) (by show 1 ≤ 1000; decide) (by show 1 ≤ 1000; decide)) fun v5 H7 s7 ⟨S, us, e5, nS, hS, tS⟩ => ?_
      subst e5
      have lus : us.length = 2 := tS.len
      refine b_app (i := 4) (pv 4) rfl hS (by omega) (P := Da sh3) (ev_tupD (ds := [rowsD six, .tuple (pB.map sD), daysD far]) (ed_cons (ev_v (pv 2) rfl (Td.keep (.of (s6.trans s7)) _ _ t65) mono_da) (ed_cons (ev_lit 8 rfl) (ed_cons (ev_v (pv 3) rfl (Td.keep (.of (s6.trans s7)) _ _ h3') mono_da) ed_nil))) (by show 3 ≤ 1000; decide)) fun v6 H8 s8 h6 => ?_
      have s78 : Same H6 (upd H8 S (.lst (us ++ [v6]))) := same_put (s7.trans s8) nS
      have ka : TupK H8 (upd H8 S (.lst (us ++ [v6]))) := .app (s8 _ _ hS)
      have tS9 : LstD [sh1, sh2, sh3] (.ref S) (upd H8 S (.lst (us ++ [v6]))) := ⟨S, _, rfl, upd_same, (Tds.keep ((TupK.of s8).trans ka) _ _ tS).snoc (Td.keep ka _ _ h6)⟩
      have h09 := Td.keep (.of (s6.trans s78)) _ _ h05
      generalize upd H8 S (.lst (us ++ [v6])) = H9 at s78 tS9 h09 ⊢
      refine b_retE (ev_cat (ds := [sh1, sh2, sh3]) (es' := [sh4, sh5]) (ev_v (pv 4) rfl tS9 mono_lstD) (ev_lstD (ed_cons (ev_tupD (ds := [rowsD [⟨"b", fq 7 2, -4, false⟩], .tuple [], .tuple (List.replicate (3 : Int).toNat [dayD [0]]).flatten]) (ed_cons (ev_lit 8 rfl) (ed_cons (ev_lit 8 rfl) (ed_cons (ev_repT (k := 3) (ev_lit 8 rfl) (ev_c pe_int) (by simp) (by decide) (by decide) (by show 1 ≤ 1000; decide)) ed_nil))) (by show 3 ≤ 1000; decide)) (ed_cons (ev_tupD (ds := [rowsD two, .tuple [], .tuple []]) (ed_cons (ev_v (pv 0) rfl h09 mono_da) (ed_cons (ev_lit 8 rfl) (ed_cons (ev_lit 8 rfl) ed_nil))) (by show 3 ≤ 1000; decide)) ed_nil)) (by show 2 ≤ 1000; decide)) (by show 3 ≤ 1000; decide) (by show 2 ≤ 1000; decide)) fun v7 H10 s10 ⟨S2, us2, e7, nS2, hS2, tS2⟩ => ?_
      subst e7
      have sAll : Same H H9 := (s04.trans (s5.trans s6)).trans s78
      refine k S2 us2 H10 (sAll.trans s10) (none_back sAll nS2) hS2 tS2.len (sheets_of (fun d hd => ?_) tS2)
      rcases List.mem_cons.mp hd with rfl | hd
      · exact g1
      rcases List.mem_cons.mp hd with rfl | hd
      · exact g2
      rcases List.mem_cons.mp hd with rfl | hd
      · exact g3
      rcases List.mem_cons.mp hd with rfl | hd
      · exact g4
      rw [List.mem_singleton.mp hd]
      exact g5
end
end Kn

namespace Cb
open PySem PySem.Spec PyProof.Rows L2
/-! ### xs[::-1] of a list -/
theorem pe_revL {X : Cx} {e st : Expr} {te ts : TE} {p2 pos : Pos} (he : PE X e te) (hst : PE X st ts) : PE X (.Subscript e (.Slice none none (some st) p2) pos) (fun σ H Q => te σ H fun x H1 => ts σ H1 fun y H2 => ∃ a xs, x = .ref a ∧ y = .int (-1) ∧ SqL X.K H2 a xs ∧ ∀ p, H2 p = none → Q (.ref p) (upd H2 p (.lst xs.reverse))) := by
  refine ⟨fun pins s σ H Q I h => ?_⟩
  refine Subscript_ (thn (he.run pins s σ H _ I h) fun v s1 ⟨x, H1, I1, r1, q1⟩ => ?_)
  refine wpAny_Slice ?_
  rw [evalPart_none]
  refine wpAny_pure ?_
  show wpAny _ _ (evalPart none X.env) _ _ s1
  rw [evalPart_none]
  refine wpAny_pure ?_
  show wpAny _ _ (evalPart (some st) X.env) _ _ s1
  rw [evalPart_some]
  refine thn (hst.run pins s1 σ H1 _ I1 q1) fun u s2 ⟨y, H2, I2, r2, q2⟩ => ?_
  obtain ⟨a, xs, rfl, rfl, hq, q⟩ := q2
  obtain ⟨t, rfl⟩ := r2
  cases r1
  have I4 : Inv X pins σ H2 { s2 with heap := s2.heap.push { cls := .type "slice", data := .fields #[.none, .none, .int (-1) t] } } := I2.kept (t' := s2.toks) fun b ob q => Heap.get?_push_of_some _ q
  obtain ⟨its, r, ht, hz⟩ := I4.list hq
  have hlen := r.length
  refine tail_any (ops := [.ref a, .ref s2.heap.objs.size]) ht.isList.typeIs slot_list_getitem.lookup ?_ (by with_unfolding_all rfl)
  refine wpAny_getItem_list_slice ht.isList (Heap.IsSliceOf.new ..) .none .none (.int (-1) t) (by decide) ?_ (by rw [List.size_toArray] <;> omega)
  rw [PySem.W.krv_pick]
  refine ⟨.ref _, _, I4.laid (t' := s2.toks) (o := .lst xs.reverse) (fun b ob q => Heap.get?_push_of_some _ q) (Nat.le_refl _) ?_, rfl, q _ (I4.hok.fresh (Nat.le_refl _))⟩
  exact ⟨by rw [List.length_reverse]; exact hz, _, 0, r.reverse, Heap.get?_push_size _ rfl⟩
theorem tds_reverse {H : Hp} : ∀ {ds : List PyData} {xs : List V}, Tds H ds xs → Tds H ds.reverse xs.reverse
  | [], xs, t => by
    rw [t.nil']
    exact .nil
  | d :: ds, xs, t => by
    obtain ⟨v, r, rfl, h1, h2⟩ := t.un
    rw [List.reverse_cons, List.reverse_cons]
    exact (tds_reverse h2).snoc h1
theorem ev_revL {X : Cx} {σ : L2.St} {H : Hp} {a st : Expr} {p p2 : Pos} {ds : List PyData} (ha : Ev X σ H a (LstD ds)) (hs : Ev X σ H st (Is (.int (-1)))) : Ev X σ H (.Subscript a (.Slice none none (some st) p2) p) (LstD ds.reverse) :=
  ev_of (pe_revL pw_E pw_E) fun H1 s1 => wE_mono (ha H1 s1) fun x H2 ⟨s2, q, xs, ex, hq, t⟩ => wE_mono (hs H2 (s1.trans s2)) fun y H3 ⟨s3, py⟩ =>
    ⟨q, xs, ex, py, .of (s3 _ _ hq), fun p hp => ⟨(s2.trans s3).trans (same_new hp), p, _, rfl, upd_same, Tds.keep ((TupK.of s3).trans (.of (same_new hp))) _ _ (tds_reverse t)⟩⟩
end Cb

namespace Kn
open PySem PySem.Spec PyProof.Rows L2 Cb
/-! ### _law_check_sheet -/
theorem neS_self {s : Str} : (!decide (V.str s = V.str s)) = false := by simp
theorem et_same {X : Cx} {σ : L2.St} {H : Hp} {a b : Expr} {pos : Pos} (s : Str) (ha : Ev X σ H a (Is (.str s))) (hb : Ev X σ H b (Is (.str s))) : EvT X σ H (.Compare a [.NotEq] [b] pos) false := EvT.is (CC.et (c_neS ha hb rfl)) neS_self
theorem bd40_60 {q : Rat} (h : Bd 40 q) : Bd 60 q := h.mono (by decide)
section
variable {n m : Nat} {rows : List Ln} {ps : List (List Str)} {days : List (List Rat)} {bk : List (List Int)}
theorem ShOk.fit (ok : ShOk 8 19 rows ps days) (hl : bk.length = days.length) (hb : ∀ r ∈ bk, RowOk rows.length r) : Fit0 rows days bk :=
  ⟨⟨by have := ok.rn; omega, by have := ok.dn; omega, by have := ok.dn; omega, fun d hd => (ok.do_ d hd).1, fun r hr => (hb r hr).1, fun d hd q hq => bd40_60 ((ok.do_ d hd).2 q hq).2, fun l hl => bd40_60 (ok.ro l hl).2.2.1⟩,
    hl, fun d hd q hq => ((ok.do_ d hd).2 q hq).1, fun l hl => (ok.ro l hl).2.1⟩
theorem ct_1500 {z : Int} (h : z.natAbs < 2 ^ 60) : z.natAbs < 2 ^ 1500 := Nat.lt_of_lt_of_le h (Nat.pow_le_pow_right (by decide) (by decide))
theorem ShOk.shwR (ok : ShOk 8 19 rows ps days) : Shw 3 261000 (rowsD rows) := shw_rows (n := 40) (by have := ok.rn; omega) (fun l hl => ⟨(ok.ro l hl).1, (ok.ro l hl).2.2.1, ct_1500 (ok.ro l hl).2.2.2⟩) (by decide)
theorem ShOk.shwP (ok : ShOk 8 19 rows ps days) : Shw 2 16000 (.tuple (ps.map sD)) := shw_parts (by have := ok.pn; omega) ok.po
theorem ShOk.shwD (ok : ShOk 8 19 rows ps days) : Shw 3 40000 (daysD days) := shw_days (n := 0) (m := rows.length) (by have := ok.dn; omega) (by have := ok.rn; omega) ok.do_
theorem ShOk.shw (ok : ShOk 8 19 rows ps days) : Shw 4 800000 (shD rows (ps.map sD) days) := shw_sh ok.shwR ok.shwP ok.shwD
theorem ShOk.cut (ok : ShOk 8 19 rows ps days) (i c : Nat) : ShOk 8 19 rows ps ((days.drop i).take c) :=
  ⟨ok.r1, ok.rn, ok.ro, ok.pn, ok.po, by rw [List.length_take, List.length_drop]; have := ok.dn; omega, fun d hd => ok.do_ d (List.mem_of_mem_drop (List.mem_of_mem_take hd))⟩
theorem sum_lt : ∀ {l : List Int} (n : Nat), (∀ z ∈ l, z.natAbs < 2 ^ 61) → l.length ≤ n → l.sum.natAbs ≤ n * 2 ^ 61
  | [], n, _, _ => by simp
  | z :: l, n, h, hn => by
    have h1 := h z (List.mem_cons_self ..)
    obtain ⟨m, rfl⟩ : ∃ m, n = m + 1 := ⟨n - 1, by rw [List.length_cons] at hn; omega⟩
    have h2 := sum_lt (l := l) m (fun y hy => h y (List.mem_cons_of_mem _ hy)) (by rw [List.length_cons] at hn; omega)
    rw [List.sum_cons]
    have e : (m + 1) * 2 ^ 61 = m * 2 ^ 61 + 2 ^ 61 := by rw [Nat.add_mul, Nat.one_mul]
    have h3 : (z + l.sum).natAbs ≤ z.natAbs + l.sum.natAbs := Int.natAbs_add_le _ _
    omega
theorem ShOk.shwA (ok : ShOk 8 19 rows ps days) (hl : bk.length = days.length) (hb : ∀ r ∈ bk, RowOk rows.length r) : Shw 3 261000 (rowsD (aftR rows days bk)) := by
  have hrn := ok.rn
  have hdn := ok.dn
  refine shw_rows (n := 1400) ?_ (fun l hl' => ?_) (by decide)
  · unfold aftR
    rw [List.length_mapIdx]
    omega
  · unfold aftR at hl'
    obtain ⟨i, hi, rfl⟩ := List.mem_mapIdx.mp hl'
    have hli : rows[i] ∈ rows := List.getElem_mem hi
    obtain ⟨a1, a2, a3, a4⟩ := ok.ro _ hli
    refine ⟨a1, ?_, ?_⟩
    · show Bd 1400 (rows[i].ex + sumQ (days.map fun d => d.getD i 0))
      refine (bd_add a3 (bd_sumQ fun r hr => ?_)).mono (by rw [List.length_map]; omega)
      obtain ⟨d, hd, rfl⟩ := List.mem_map.mp hr
      obtain ⟨dl, dq⟩ := ok.do_ d hd
      rw [List.getD_eq_getElem?_getD, List.getElem?_eq_getElem (by omega)]
      exact bd40_60 (dq _ (List.getElem_mem _)).2
    · show (rows[i].ct + (bk.map fun r : List Int => r.getD i 0).sum).natAbs < 2 ^ 1500
      have h2 := sum_lt (l := bk.map fun r : List Int => r.getD i 0) 19 (fun z hz => by
        obtain ⟨r, hr, rfl⟩ := List.mem_map.mp hz
        obtain ⟨rl, rz⟩ := hb r hr
        rw [List.getD_eq_getElem?_getD, List.getElem?_eq_getElem (by omega)]
        exact rz _ (List.getElem_mem _)) (by rw [List.length_map]; omega)
      have h3 : (rows[i].ct + (bk.map fun r : List Int => r.getD i 0).sum).natAbs ≤ rows[i].ct.natAbs + (bk.map fun r : List Int => r.getD i 0).sum.natAbs := Int.natAbs_add_le _ _
      have f5 : (2 : Nat) ^ 60 = 1152921504606846976 := by decide
      have f6 : (2 : Nat) ^ 61 = 2305843009213693952 := by decide
      have f7 : (2 : Nat) ^ 70 ≤ 2 ^ 1500 := Nat.pow_le_pow_right (by decide) (by decide)
      have f8 : (2 : Nat) ^ 70 = 1180591620717411303424 := by decide
      rw [f5] at a4
      rw [f6] at h2
      omega
end
theorem rep_one {α : Type} {a : α} : ∀ n : Nat, (List.replicate n [a]).flatten = List.replicate n a
  | 0 => rfl
  | n + 1 => by
    rw [List.replicate_succ, List.replicate_succ, List.flatten_cons, rep_one n]
    rfl
theorem ev_part {X : Cx} {σ : L2.St} {H : Hp} {a b e : Expr} {p q : Pos} {A B : PyData} {ds : List PyData} {i n k : Nat} {f : Addr} {fd : FuncData} {ps : List Str} (g : GDef X "part" k f fd ps spPart) (ha : Ev X σ H a (Da (.tuple [A, B, .tuple ds]))) (hb : Ev X σ H b (Is (.int (i : Int)))) (he : Ev X σ H e (Is (.int (n : Int)))) (hg : Gl X "part" := by rfl) (h1 : starEach [a, b, e] X.env = (false, eval a X.env) :: starEach [b, e] X.env := by rfl) (h2 : starEach [b, e] X.env = (false, eval b X.env) :: starEach [e] X.env := by rfl) (h3 : starEach [e] X.env = (false, eval e X.env) :: starEach [] X.env := by rfl)
    (hpl : (backTo p (starEach [b, e] X.env)).any (·.1) = false := by rfl) : Ev X σ H (.Call (.Name "part" q) [a, b, e] [] p) (Da (.tuple [A, B, .tuple ((ds.drop i).take n)])) :=
  ev_callP (A, B, ds, i, n) g (ea_3 ha mono_da hb mono_is he mono_is h1 h2 h3) (fun vs H2 _ h => by
    obtain ⟨a, b, e, rfl, ha, hb, he⟩ := h.three
    have hb : b = .int (i : Int) := hb
    have he : e = .int (n : Int) := he
    subst hb he
    exact ⟨a, rfl, ha⟩) hg (by decide) h1 hpl
def spCheck : Sp := fun vs H Q _ => ∃ (d c : Addr) (u : V) (rows : List Ln) (ps : List (List Str)) (days : List (List Rat)), vs = [.ref d, u] ∧ Td H (shD rows (ps.map sD) days) u ∧ ShOk 8 19 rows ps days ∧ Rd d c H ∧ ∀ H', KeepX d H H' → Rd d c H' → Q (.bl true) H'
abbrev NC : List Str := ["_law_reader_here", "_law_good", "_law_rows", "_law_parts", "_law_days_now", "_law_k", "_law_booked", "_law_one", "_law_saved", "_law_begin", "_law_many"]
theorem scCheck : FnScope NC ["_law_reader_here", "_law_good"] (defScope sCheck) := ⟨rfl, rfl, rfl, by decide +kernel, rfl, by decide +kernel, by decide +kernel⟩
section
variable {P : Program} {w : World} {K : PySem.W.Frag} {mg : Str → Option Value} {base : Heap}
theorem ok_check {f : Addr} {fd : FuncData} (F : Fun K "_law_check_sheet" "_law_check_sheet" sCheck f fd) (LB : LD P w K mg base "_law_random_booking" 2 ["_law_reader_here", "_law_good"] spBook) (LA : LD P w K mg base "state_after" 4 ["sheet", "booking"] spAfter) (LL : LD P w K mg base "_law_after" 4 ["_law_good", "_law_booked"] spLAft) (LP : LD P w K mg base "part" 1 ["sheet", "first", "count"] spPart)
    (zr : mg "range" = none) (zl : mg "len" = none) (zt : mg "tuple" = none) (zp : mg "repr" = none) : FnG P w K mg base 5 f fd ["_law_reader_here", "_law_good"] spCheck := by
  refine okG F scCheck (fun {vs H Q E} h => ?_) (fun cdv A0 outer s H vs Q E gd hr h => ?_)
  · obtain ⟨d, c, u, rows, ps, days, rfl, _⟩ := h
    rfl
  · obtain ⟨d, c, u, rows, ps, days, rfl, hu, ok, rd, k⟩ := h
    obtain ⟨fB, fdB, GB⟩ := LD.g (X := (cxOf CX0 P w K mg base NC "_law_check_sheet" (defScope sCheck) f cdv A0 outer s H E).nox) LB hr (by decide)
    obtain ⟨fA, fdA, GA⟩ := LD.g (X := (cxOf CX0 P w K mg base NC "_law_check_sheet" (defScope sCheck) f cdv A0 outer s H E).nox) LA hr (by decide)
    obtain ⟨fL, fdL, GL⟩ := LD.g (X := (cxOf CX0 P w K mg base NC "_law_check_sheet" (defScope sCheck) f cdv A0 outer s H E).nox) LL hr (by decide)
    obtain ⟨fP, fdP, GP⟩ := LD.g (X := (cxOf CX0 P w K mg base NC "_law_check_sheet" (defScope sCheck) f cdv A0 outer s H E).nox) LP hr (by decide)
    have un := hr.units
    have hrn := ok.rn
    have hdn := ok.dn
    refine b_asgE (pg_tup rfl (pgs_cons (pg_name (i := 2) scCheck.nd rfl (.inr rfl)) (pgs_cons (pg_name (i := 3) scCheck.nd rfl (.inl rfl)) (pgs_cons (pg_name (i := 4) scCheck.nd rfl (.inl rfl)) pgs_nil)))) (ev_v (pv 1) rfl hu mono_da) fun u' H1 s1 hu' => ?_
    obtain ⟨q, xs, rfl, hq, t⟩ := hu'.un
    obtain ⟨x1, r1, rfl, t1, t⟩ := t.un
    obtain ⟨x2, r2, rfl, t2, t⟩ := t.un
    obtain ⟨x3, r3, rfl, t3, t⟩ := t.un
    obtain rfl := t.nil'
    refine ⟨q, _, rfl, .of hq, rfl, _, _, rfl, _, _, rfl, _, _, rfl, rfl, ?_⟩
    have rd1 := rd.same s1
    have hu1 : Td H1 (shD rows (ps.map sD) days) u := Td.keep (.of s1) _ _ hu
    clear hq
    -- two bookings
    refine b_for rfl (pi_range1 (by rfl) zr (pa_cons pe_int pa_nil)) (pg_name (i := 5) scCheck.nd rfl (.inl rfl)) ?_ PassesOwn.never
    refine ⟨2, rfl, by decide, by decide, for_range (n := 2) (fun i σ H' => ∃ y5 y6 y8, σ = [some (.ref d), some u, some x1, some x2, some x3, y5, y6, none, y8, none, none] ∧ KeepX d H1 H' ∧ Rd d c H') ⟨none, none, none, rfl, .of (.refl _), rd1⟩ ?_ ?_⟩
    · rintro i σ H2 hi ⟨y5, y6, y8, rfl, k2, rd2⟩
      have tk2 := KeepX.tup rd1 k2
      have hu2 := Td.keep tk2 _ _ hu1
      refine b_set (i := 6) scCheck.nd rfl (.inl rfl) (w_call2 GB (w_ev (ev_vi (pv 0) rfl) fun v0 H3 s3 e0 => w_ev (ev_v (pv 1) rfl (Td.keep (.of s3) _ _ hu2) mono_da) fun v1 H4 s4 h4 => ?_))
      cases e0
      refine ⟨d, c, v1, rowsD rows, .tuple (ps.map sD), days, rows.length, rfl, h4, by omega, by omega, fun day hd => ⟨(ok.do_ day hd).1, fun q hq => bd40_60 ((ok.do_ day hd).2 q hq).2⟩, (rd2.same s3).same s4, fun vb H5 k5 rd5 ⟨bk, tb, lb, ob⟩ => ?_⟩
      have k25 : KeepX d H2 H5 := ((KeepX.of s3).trans (.of s4)).trans k5
      have k15 : KeepX d H1 H5 := k2.trans k25
      refine b_ifJ (fun σ' H' => ∃ vb bk, σ' = [some (.ref d), some u, some x1, some x2, some x3, some (.int ((0 : Int) + (i : Nat))), some vb, none, y8, none, none] ∧ KeepX d H1 H' ∧ Rd d c H' ∧ Td H' (bkD bk) vb ∧ bk.length = days.length ∧ ∀ r ∈ bk, RowOk rows.length r) (CC.et (c_eqS (ev_vi (pv 5) rfl) (ev_c pe_int) rfl)) (fun _ H6 s6 => ?_) (fun _ H6 s6 => ?_) ?_
      · have tk6 : TupK H1 H6 := (KeepX.tup rd1 k15).trans (.of s6)
        have t36 : Td H6 (.tuple (days.map dayD)) x3 := Td.keep tk6 _ _ t3
        have t16 : Td H6 (.tuple (rows.map ld)) x1 := Td.keep tk6 _ _ t1
        have hz : ∀ n : Nat, (List.replicate ((n : Int)).toNat [PyData.int 0]).flatten = (List.replicate n (0 : Int)).map PyData.int := fun n => by
          rw [Int.toNat_natCast, rep_one, List.map_replicate]
        refine b_setE (i := 6) scCheck.nd rfl (.inl rfl) (ev_tupleL zt (ds := (days.map dayD).map fun _ => rowI (List.replicate rows.length 0)) (ev_lcT (i := 7) rfl scCheck.nd (blkOk_by (N := NC) (sc := defScope sCheck) (by decide +kernel)) (fun _ _ _ _ _ => pg_name (i := 7) scCheck.nd rfl (Or.inl rfl)) (ev_v (pv 4) rfl t36 mono_da) (by rw [List.length_map]; omega) ?_)) fun v7 H7 s7 h7 => b_nil ?_
        · intro j dd v H' hd sx td s' H0 C cl fp
          show Ev _ _ _ _ (Da (.tuple ((List.replicate rows.length (0 : Int)).map PyData.int)))
          rw [← hz]
          exact ev_repT (k := ((rows.length : Nat) : Int)) (ev_lit 3 rfl) (Ev.is (ev_lenT zl (ev_v (pv 2) rfl (Td.keep (.of sx) _ _ t16) mono_da)) (by rw [List.length_map])) (by simp) (by have := ok.r1; omega) (by omega) (by show 1 ≤ 1000; decide)
        · refine ⟨v7, days.map fun _ => List.replicate rows.length 0, rfl, (k15.trans (.of s6)).trans (.of s7), (rd5.same s6).same s7, ?_, by rw [List.length_map], fun r hr => ?_⟩
          · have e : (days.map dayD).map (fun _ => rowI (List.replicate rows.length 0)) = (days.map fun _ => List.replicate rows.length (0 : Int)).map rowI := by
              rw [List.map_map, List.map_map]
              rfl
            rw [e] at h7
            exact h7
          · obtain ⟨_, _, rfl⟩ := List.mem_map.mp hr
            refine ⟨List.length_replicate, fun z hz => ?_⟩
            rw [List.eq_of_mem_replicate hz]
            decide
      · exact b_nil ⟨vb, bk, rfl, k15.trans (.of s6), rd5.same s6, Td.keep (.of s6) _ _ tb, lb, ob⟩
      · rintro σ' H6 ⟨vb, bk, rfl, k16, rd6, tb6, lb6, ob6⟩
        have tk6 := KeepX.tup rd1 k16
        have hu6 := Td.keep tk6 _ _ hu1
        have sBoth : Shw 5 1700000 (.tuple [shD rows (ps.map sD) days, bkD bk]) := (shw_tup (k := 4) (L := 800000) (n := 2) (fun d hd => mem2 ok.shw ((shw_bk (m := rows.length) (by omega) (by omega) ob6).mono (by decide) (by decide)) hd) (Nat.le_refl _)).mono (Nat.le_refl _) (by decide)
        have sAft := ok.shwA lb6 ob6
        have ft := ok.fit lb6 ob6
        refine b_setE (i := 8) scCheck.nd rfl (.inl rfl) (ev_reprS gd un zp (ev_tupD (ds := [shD rows (ps.map sD) days, bkD bk]) (ed_cons (ev_v (pv 1) rfl hu6 mono_da) (ed_cons (ev_v (pv 6) rfl tb6 mono_da) ed_nil)) (by show 2 ≤ 1000; decide)) sBoth (by decide) (by decide)) fun v7 H7 s7 e7 => ?_
        cases e7
        have hu7 := Td.keep (.of s7) _ _ hu6
        have tb7 := Td.keep (.of s7) _ _ tb6
        refine b_ifF (EvT.is (CC.et (c_neS (ev_reprS gd un zp (ds := (aftR rows days bk).map ld) (ev_callP (rows, .tuple (ps.map sD), days, bk) GA (ea_2 (ev_v (pv 1) rfl hu7 mono_da) mono_da (ev_v (pv 6) rfl tb7 mono_da) mono_da) (fun vs H2 _ h => ⟨h.two, ft.fit⟩)) sAft (by decide) (by decide)) (ev_reprS gd un zp (ds := (aftR rows days bk).map ld) (ev_callP (rows, .tuple (ps.map sD), days, bk) GL (ea_2 (ev_v (pv 1) rfl hu7 mono_da) mono_da (ev_v (pv 6) rfl tb7 mono_da) mono_da) (fun vs H2 _ h => ⟨h.two, ft⟩)) sAft (by decide) (by decide)) rfl)) neS_self) fun H8 s8 => ?_
        have hu8 := Td.keep (.of s8) _ _ hu7
        have tb8 := Td.keep (.of s8) _ _ tb7
        refine b_ifF (EvT.is (CC.et (c_neS (ev_reprS gd un zp (ev_tupD (ds := [shD rows (ps.map sD) days, bkD bk]) (ed_cons (ev_v (pv 1) rfl hu8 mono_da) (ed_cons (ev_v (pv 6) rfl tb8 mono_da) ed_nil)) (by show 2 ≤ 1000; decide)) sBoth (by decide) (by decide)) (ev_vi (pv 8) rfl) rfl)) neS_self) fun H9 s9 => ?_
        have s69 := (s7.trans s8).trans s9
        exact b_nil ⟨_, _, _, rfl, k16.trans (.of s69), rd6.same s69⟩
    · rintro σ H2 ⟨y5, y6, y8, rfl, k2, rd2⟩
      have tk2 := KeepX.tup rd1 k2
      have hu2 := Td.keep tk2 _ _ hu1
      have t12 : Td H2 (rowsD rows) x1 := Td.keep tk2 _ _ t1
      have t22 : Td H2 (.tuple (ps.map sD)) x2 := Td.keep tk2 _ _ t2
      have t32 : Td H2 (.tuple (days.map dayD)) x3 := Td.keep tk2 _ _ t3
      refine b_for rfl (pi_range1 (by rfl) zr (pa_cons pw_E pa_nil)) (pg_name (i := 9) scCheck.nd rfl (.inl rfl)) ?_ PassesOwn.never
      refine w_ev (ev_opI op_add (ev_lenT zl (ev_v (pv 4) rfl t32 mono_da)) (ev_c pe_int)) fun v0 H3 s3 e0 => ?_
      cases e0
      refine ⟨_, rfl, by omega, by rw [List.length_map]; omega, for_range (n := (((days.map dayD).length : Int) + 1 - 0).toNat) (fun i σ H' => ∃ y9 y10, σ = [some (.ref d), some u, some x1, some x2, some x3, y5, y6, none, y8, y9, y10] ∧ Same H2 H') ⟨none, none, rfl, s3⟩ ?_ ?_⟩
      · rintro i σ H4 hi ⟨y9, y10, rfl, s4⟩
        have hi : i ≤ days.length := by
          rw [List.length_map] at hi
          omega
        refine b_for rfl (pi_range1 (by rfl) zr (pa_cons pw_E pa_nil)) (pg_name (i := 10) scCheck.nd rfl (.inl rfl)) ?_ PassesOwn.never
        refine w_ev (ev_opI op_add (ev_opI op_sub (ev_lenT zl (ev_v (pv 4) rfl (Td.keep (.of s4) _ _ t32) mono_da)) (ev_vi (pv 9) rfl)) (ev_c pe_int)) fun v0 H5 s5 e0 => ?_
        cases e0
        refine ⟨_, rfl, by rw [List.length_map]; omega, by rw [List.length_map]; omega, for_range (n := (((days.map dayD).length : Int) - ((0 : Int) + (i : Nat)) + 1).toNat) (fun j σ H' => ∃ y10, σ = [some (.ref d), some u, some x1, some x2, some x3, y5, y6, none, y8, some (.int ((0 : Int) + (i : Nat))), y10] ∧ Same H2 H') ⟨y10, rfl, s4.trans s5⟩ ?_ ?_⟩
        · rintro j σ H6 hj ⟨y10, rfl, s6⟩
          have hu6 := Td.keep (.of s6) _ _ hu2
          have sc : Shw 4 800000 (.tuple [rowsD rows, .tuple (ps.map sD), .tuple (((days.map dayD).drop i).take j)]) := by
            rw [← List.map_drop, ← List.map_take]
            exact (ok.cut i j).shw
          refine b_ifF (et_same (PyData.tuple [rowsD rows, .tuple (ps.map sD), .tuple (((days.map dayD).drop i).take j)]).shown ?_ ?_) fun H7 s7 => b_nil ⟨_, rfl, s6.trans s7⟩
          · refine ev_reprS (ds := [rowsD rows, .tuple (ps.map sD), .tuple (((days.map dayD).drop i).take j)]) gd un zp ?_ sc (by decide) (by decide)
            exact ev_part (i := i) (n := j) GP (ev_v (pv 1) rfl hu6 mono_da) (Ev.is (ev_vi (pv 9) rfl) (by rw [Int.zero_add])) (Ev.is (ev_vi (pv 10) rfl) (by rw [Int.zero_add]))
          · refine ev_reprS (ds := [rowsD rows, .tuple (ps.map sD), .tuple (((days.map dayD).drop i).take j)]) gd un zp ?_ sc (by decide) (by decide)
            refine ev_tupD (ed_cons (ev_v (pv 2) rfl (Td.keep (.of s6) _ _ t12) mono_da) (ed_cons (ev_v (pv 3) rfl (Td.keep (.of s6) _ _ t22) mono_da) (ed_cons ?_ ed_nil))) (by show 3 ≤ 1000; decide)
            exact ev_sliceN (i := i) (n := j) (ev_v (pv 4) rfl (Td.keep (.of s6) _ _ t32) mono_da) (Ev.is (ev_vi (pv 9) rfl) (by rw [Int.zero_add])) (Ev.is (ev_opI op_add (ev_vi (pv 9) rfl) (ev_vi (pv 10) rfl)) (by rw [Int.zero_add, Int.zero_add, Int.natCast_add]))
        · rintro σ H6 ⟨y10, rfl, s6⟩
          exact b_nil ⟨_, _, rfl, s6⟩
      · rintro σ H4 ⟨y9, y10, rfl, s4⟩
        exact b_retE (ev_c pe_bl) fun v H5 s5 e => by
          cases e
          exact k H5 (((KeepX.of s1).trans k2).trans (.of (s4.trans s5))) (rd2.same (s4.trans s5))
end
end Kn

namespace Kn
open PySem PySem.Spec PyProof.Rows L2 Cb
/-! ### the law -/
theorem SheetV.keep {n m : Nat} {v : V} {H H' : Hp} (k : TupK H H') (h : SheetV n m v H) : SheetV n m v H' := let ⟨r, p, d, t, o⟩ := h; ⟨r, p, d, Td.keep k _ _ t, o⟩
theorem SheetV.wide {v : V} {H : Hp} (h : SheetV 6 6 v H) : SheetV 8 19 v H := let ⟨r, p, d, t, o⟩ := h; ⟨r, p, d, t, ⟨o.r1, Nat.le_trans o.rn (by decide), o.ro, o.pn, o.po, Nat.le_trans o.dn (by decide), o.do_⟩⟩
theorem EvA.mono {X : Cx} {σ : L2.St} {H H' : Hp} {es : List Expr} {Ps : List Pd} (h : EvA X σ H es Ps) (s : Same H H') : EvA X σ H' es Ps := fun H1 s1 => h H1 (s.trans s1)
theorem ev_freshV {X : Cx} {σ : L2.St} {H : Hp} {e : Expr} {es : List Expr} {p pos : Pos} {k : Nat} {f : Addr} {xs : List Str} (g : GDefV X "fresh" k f 0 spFresh) (h : EvA X σ H (e :: es) ((xs.map PyData.str).map Da)) (hl : xs.length ≤ 900) (hg : Gl X "fresh" := by rfl)
    (he : starEach (e :: es) X.env = (false, eval e X.env) :: starEach es X.env := by rfl) (hpl : (backTo pos (starEach es X.env)).any (·.1) = false := by rfl) : Ev X σ H (.Call (.Name "fresh" p) (e :: es) [] pos) (Da (freshD xs)) := fun H1 s1 => w_freshV (x := "") g (EvA.mono h s1) hl (fun v H' s t => ⟨s, t⟩) hg he hpl
theorem ev_fo {X : Cx} {σ : L2.St} {H : Hp} {a : Expr} {p q : Pos} {k : Nat} {f : Addr} {fd : FuncData} {ps : List Str} {xs : List Str} (g : GDef X "_law_fresh_of" k f fd ps spFO) (ha : Ev X σ H a (LstD (xs.map PyData.str))) (h1 : 1 ≤ xs.length) (h6 : xs.length ≤ 6) (hg : Gl X "_law_fresh_of" := by rfl) (hs : starEach [a] X.env = (false, eval a X.env) :: starEach [] X.env := by rfl)
    (hpl : (backTo p (starEach [] X.env)).any (·.1) = false := by rfl) : Ev X σ H (.Call (.Name "_law_fresh_of" q) [a] [] p) (Da (freshD xs)) :=
  ev_call g (ea_1 ha mono_lstD hs) (fun vs H2 _ h => by
    obtain ⟨v, rfl, S, us, rfl, hS, t⟩ := h.one
    obtain rfl := t.strs
    exact ⟨S, xs, rfl, hS, h1, h6, fun v H' s t => ⟨s, t⟩⟩) (fun vs H2 Q Q' kk ⟨S, xs, a1, a2, a3, a4, q⟩ => ⟨S, xs, a1, a2, a3, a4, fun v H' s t => kk _ _ (q v H' s t)⟩) hg (by decide) hs hpl
theorem shw_fresh {xs : List Str} (h : Short xs) (hl : xs.length ≤ 9) : Shw 3 6000 (freshD xs) := by
  have hlen : (sortD (xs.map PyData.str)).length = xs.length := by
    unfold sortD
    rw [(List.mergeSort_perm _ _).length_eq, List.length_map]
  refine (shw_tup (k := 2) (L := 500) (n := 9) (fun d hd => ?_) (by rw [List.length_map, hlen]; exact hl)).mono (Nat.le_refl _) (by decide)
  obtain ⟨x, hx, rfl⟩ := List.mem_map.mp hd
  rw [sort_strs] at hx
  obtain ⟨y, hy, rfl⟩ := List.mem_map.mp hx
  have hy2 : y ∈ xs := (List.mergeSort_perm _ _).mem_iff.mp hy
  refine (shw_tup (k := 1) (L := 100) (n := 4) (fun d hd => ?_) (Nat.le_refl _)).mono (Nat.le_refl _) (by decide)
  rcases List.mem_cons.mp hd with rfl | hd
  · exact (shw_str (h y hy2).1 (h y hy2).2).mono (by decide) (by decide)
  rcases List.mem_cons.mp hd with rfl | hd
  · exact (shw_qd (n := 1) bd_zero (by decide)).mono (by decide) (by decide)
  rcases List.mem_cons.mp hd with rfl | hd
  · exact (shw_int (n := 1) (by decide) (by decide)).mono (by decide) (by decide)
  rw [List.mem_singleton.mp hd]
  exact shw_bool.mono (by decide) (by decide)
theorem short_rev {xs : List Str} (h : Short xs) : Short xs.reverse := fun x hx => h x (List.mem_reverse.mp hx)
abbrev want3 : PyData := .tuple [fr (.str "a"), fr (.str "m"), fr (.str "zz")]
theorem fresh3 : freshD ["zz", "a", "m"] = want3 := by
  have p : (["zz", "a", "m"] : List Str).Perm ["a", "m", "zz"] := by decide +kernel
  rw [fresh_perm p]
  unfold freshD
  have e : sortS (["a", "m", "zz"] : List Str) = (["a", "m", "zz"] : List Str) := by
    unfold sortS
    rw [le_strs]
    refine List.mergeSort_of_pairwise ?_
    decide +kernel
  rw [sort_strs, e]
  rfl
def spLaw (K : PySem.W.Frag) : Sp := fun vs H Q _ => ∃ (a : Addr) (ns : List Int), vs = [.ref a] ∧ SqL K H a (ns.map V.int) ∧ ns.length ≤ 63 ∧ ∀ H', Q (.bl true) H'
abbrev NL : List Str := ["_law_script", "_law_reader_here", "_law_cases", "_law_k", "_law_good", "_law_many", "_law_heads_here", "_law_pool", "_law_want", "_law_head"]
theorem scLaw : FnScope NL ["_law_script"] (defScope sLaw) := ⟨rfl, rfl, rfl, by decide +kernel, rfl, by decide +kernel, by decide +kernel⟩
end Kn

namespace Kn
open PySem PySem.Spec PyProof.Rows L2 Cb
section
variable {P : Program} {w : World} {K : PySem.W.Frag} {mg : Str → Option Value} {base : Heap}
/-- a def of the module that runs where no guard stands -/
structure LG (P : Program) (w : World) (K : PySem.W.Frag) (mg : Str → Option Value) (base : Heap) (x : Str) (k : Nat) (ps : List Str) (sp : Sp) : Prop where
  ex : ∃ (f : Addr) (fd : FuncData), FnG P w K mg base k f fd ps sp ∧ mg x = some (.ref f) ∧ PySem.W.keepIn K (.ref f) = true ∧ Binds K fd ps []
theorem LG.g {X : Cx} {x : Str} {k : Nat} {ps : List Str} {sp : Sp} (h : LG X.prog X.w X.K X.mg X.base x k ps sp) {n : Nat} (gd : X.A.guards = some []) (hr : Room n X.A) (l : k ≤ n) : ∃ f fd, GDefG X x k f fd ps sp := by
  obtain ⟨f, fd, F, g, kp, b⟩ := h.ex
  exact ⟨f, fd, F, gd, hr.mono l, g, kp, b⟩
theorem ok_law {f fF : Addr} {fd : FuncData} (F : Fun K "law" "law" sLaw f fd) (LR : LD P w K mg base "_law_reader" 1 ["_law_script"] (spReader K)) (LDr : LD P w K mg base "_law_draw" 1 ["_law_reader_here", "_law_many"] spDraw) (LX : LD P w K mg base "_law_fixed_sheets" 1 [] spFixed)
    (LSh : LD P w K mg base "_law_random_sheet" 5 ["_law_reader_here", "_law_most", "_law_days_most"] spSheet) (LH : LD P w K mg base "_law_heads" 3 ["_law_reader_here", "_law_many"] spHeads) (LFo : LD P w K mg base "_law_fresh_of" 3 ["_law_heads_here"] spFO) (LC : LG P w K mg base "_law_check_sheet" 5 ["_law_reader_here", "_law_good"] spCheck)
    (GV : FnV P w K mg base 2 fF 0 spFresh) (gF : mg "fresh" = some (.ref fF)) (kF : PySem.W.keepIn K (.ref fF) = true) (zr : mg "range" = none) (zl : mg "len" = none) (zt : mg "tuple" = none) (zp : mg "repr" = none) (zs : mg "sorted" = none) : FnG P w K mg base 6 f fd ["_law_script"] (spLaw K) := by
  refine okG F scLaw (fun {vs H Q E} h => ?_) (fun cdv A0 outer s H vs Q E gd hr h => ?_)
  · obtain ⟨a, ns, rfl, _⟩ := h
    rfl
  · obtain ⟨a, ns, rfl, hS0, _, k⟩ := h
    obtain ⟨fR, fdR, GR⟩ := LD.g (X := (cxOf CX0 P w K mg base NL "law" (defScope sLaw) f cdv A0 outer s H E).nox) LR hr (by decide)
    obtain ⟨fD, fdD, GD⟩ := LD.g (X := (cxOf CX0 P w K mg base NL "law" (defScope sLaw) f cdv A0 outer s H E).nox) LDr hr (by decide)
    obtain ⟨fX, fdX, GX⟩ := LD.g (X := (cxOf CX0 P w K mg base NL "law" (defScope sLaw) f cdv A0 outer s H E).nox) LX hr (by decide)
    obtain ⟨fS, fdS, GS⟩ := LD.g (X := (cxOf CX0 P w K mg base NL "law" (defScope sLaw) f cdv A0 outer s H E).nox) LSh hr (by decide)
    obtain ⟨fH, fdH, GH⟩ := LD.g (X := (cxOf CX0 P w K mg base NL "law" (defScope sLaw) f cdv A0 outer s H E).nox) LH hr (by decide)
    obtain ⟨fO, fdO, GO⟩ := LD.g (X := (cxOf CX0 P w K mg base NL "law" (defScope sLaw) f cdv A0 outer s H E).nox) LFo hr (by decide)
    obtain ⟨fC, fdC, GC⟩ := LG.g (X := (cxOf CX0 P w K mg base NL "law" (defScope sLaw) f cdv A0 outer s H E).nox) LC gd hr (by decide)
    have GF : GDefV (cxOf CX0 P w K mg base NL "law" (defScope sLaw) f cdv A0 outer s H E).nox "fresh" 2 fF 0 spFresh := ⟨GV, hr.mono (by decide), gF, kF⟩
    have un := hr.units
    -- the reader
    refine b_set (i := 1) scLaw.nd rfl (.inl rfl) (w_call1 GR (w_ev (ev_vi (pv 0) rfl) fun v0 H1 s1 e0 => ?_))
    cases e0
    refine ⟨a, ns, rfl, s1.seq hS0, fun d c H2 s2 rd2 nd => ?_⟩
    -- the fixed sheets
    refine b_set (i := 2) scLaw.nd rfl (.inl rfl) (w_E (pe_call0 GX.ok GX.room (by rfl) GX.gl GX.kp GX.bs .nil pass0) ?_)
    refine ⟨rfl, fun S us0 H3 s3 nS hS l5 sh0 => ?_⟩
    have nSc := rd_new rd2 nS
    -- eight drawn ones
    refine b_for rfl (pi_range1 (by rfl) zr (pa_cons pe_int pa_nil)) (pg_name (i := 3) scLaw.nd rfl (.inl rfl)) ?_ PassesOwn.never
    refine ⟨8, rfl, by decide, by decide, for_range (n := 8) (fun i σ H' => ∃ y3, σ = [some (.ref a), some (.ref d), some (.ref S), y3, none, none, none, none, none, none] ∧ Rd d c H' ∧ ∃ us, H' S = some (.lst us) ∧ us.length = 5 + i ∧ ∀ u ∈ us, SheetV 8 19 u H') ⟨none, rfl, rd2.same s3, us0, hS, l5, sh0⟩ ?_ ?_⟩
    · rintro i σ H4 hi ⟨y3, rfl, rd4, us, hS4, l4, sh4⟩
      refine b_appW (i := 2) (pv 2) rfl ⟨us, hS4⟩ (w_call3 GS (w_ev (ev_vi (pv 1) rfl) fun v0 H5 s5 e0 => w_ev (ev_c pe_int) fun v1 H6 s6 e1 => w_ev (ev_c pe_int) fun v2 H7 s7 e2 => ?_))
      cases e0
      cases e1
      cases e2
      have s47 := (s5.trans s6).trans s7
      refine ⟨d, c, 6, 6, rfl, by decide, by decide, by decide, rd4.same s47, fun v H8 k8 rd8 hv => ?_⟩
      have k48 : KeepX d H4 H8 := (KeepX.of s47).trans k8
      have hS8 := KeepX.lst rd4 k48 hS4
      have ka : TupK H8 (upd H8 S (.lst (us ++ [v]))) := .app hS8
      refine ⟨us, hS8, by omega, b_nil ⟨_, rfl, KeepX.rd rd8 hS8 (fun _ z => by cases z) nSc, us ++ [v], upd_same, by rw [List.length_append, l4]; rfl, fun u hu => ?_⟩⟩
      rcases List.mem_append.mp hu with hu | hu
      · exact (sh4 u hu).keep ((KeepX.tup rd4 k48).trans ka)
      · rw [List.mem_singleton.mp hu]
        exact (SheetV.wide hv).keep ka
    · rintro σ H4 ⟨y3, rfl, rd4, us, hS4, l4, sh4⟩
      -- each is checked
      refine b_for rfl (pi_list (pv 2)) (pg_name (i := 4) scLaw.nd rfl (.inl rfl)) ?_ PassesOwn.never
      refine ⟨_, rfl, S, rfl, ⟨_, SqL.of hS4⟩, for_list (K := K) (a := S) (xs := us) (fun i σ H' => ∃ y4, σ = [some (.ref a), some (.ref d), some (.ref S), y3, y4, none, none, none, none, none] ∧ Rd d c H' ∧ H' S = some (.lst us) ∧ ∀ u ∈ us, SheetV 8 19 u H') ⟨none, rfl, rd4, hS4, sh4⟩ (fun i σ H' _ ⟨_, _, _, h, _⟩ => SqL.of h) ?_ ?_⟩
      · rintro i x σ H5 hx ⟨y4, rfl, rd5, hS5, sh5⟩
        obtain ⟨rows, ps, days, tx, okx⟩ := id (sh5 x (List.mem_of_getElem? hx))
        refine b_if (w_T (pt_not pw_T) (w_T (pt_val pw_E (by intro _; rfl)) (w_callG GC (w_A (pa_cons pw_E (pa_cons pw_E pa_nil)) (w_ev (ev_vi (pv 1) rfl) fun v0 H6 s6 e0 => w_ev (ev_v (pv 4) rfl (Td.keep (.of s6) _ _ tx) mono_da) fun v1 H7 s7 h7 => ?_)))))
        cases e0
        refine ⟨d, c, v1, rows, ps, days, rfl, h7, okx, (rd5.same s6).same s7, fun H8 k8 rd8 => ⟨true, rfl, ?_⟩⟩
        refine (if_neg (by decide)).mpr ?_
        have k58 : KeepX d H5 H8 := ((KeepX.of s6).trans (.of s7)).trans k8
        exact b_nil (b_nil ⟨_, rfl, rd8, KeepX.lst rd5 k58 hS5, fun u hu => (sh5 u hu).keep (KeepX.tup rd5 k58)⟩)
      · rintro σ H5 ⟨y4, rfl, rd5, hS5, sh5⟩
        clear sh5 hS5 sh4 hS4 l4
        -- fresh states
        refine b_for rfl (pi_tup pw_E) (pg_name (i := 5) scLaw.nd rfl (.inl rfl)) ?_ PassesOwn.never
        refine w_ev (ev_lit (d := .tuple (([1, 2, 3, 4, 5, 6] : List Int).map PyData.int)) 3 rfl) fun v0 H6 s6 h0 => ?_
        obtain ⟨q, xs, rfl, hq, tq⟩ := h0.un
        obtain rfl := tq.ints
        refine ⟨q, rfl, ⟨_, .of hq⟩, for_tup (K := K) (a := q) (xs := ([1, 2, 3, 4, 5, 6] : List Int).map V.int) (fun i σ H' => ∃ y3 y5 y6 y7 y8, σ = [some (.ref a), some (.ref d), some (.ref S), y3, y4, y5, y6, y7, y8, none] ∧ Rd d c H' ∧ H' q = some (.tup (([1, 2, 3, 4, 5, 6] : List Int).map V.int))) ⟨_, none, none, none, none, rfl, rd5.same s6, hq⟩ (fun i σ H' _ ⟨_, _, _, _, _, _, _, h⟩ => .of h) ?_ ?_⟩
        · rintro i x σ H7 hx ⟨z3, y5, y6, y7, y8, rfl, rd7, hq7⟩
          obtain ⟨mz, hm, rfl⟩ := map_at hx
          obtain ⟨m, rfl, m1, m6⟩ : ∃ m : Nat, mz = (m : Int) ∧ 1 ≤ m ∧ m ≤ 6 := by
            have z : ∀ z ∈ ([1, 2, 3, 4, 5, 6] : List Int), 1 ≤ z ∧ z ≤ 6 := by decide
            have z := z mz (List.mem_of_getElem? hm)
            exact ⟨mz.toNat, by omega, by omega, by omega⟩
          refine b_parW (i := 6) (j := 7) rfl scLaw.nd rfl rfl (by decide) (w_newL (ds := []) ed_nil (by show 0 ≤ 1000; decide) fun S2 xs2 H8 s8 m2 n2 t0 => w_call2 GH (w_ev (ev_vi (pv 1) rfl) fun v0 H9 s9 e0 => w_ev (ev_vi (pv 5) rfl) fun v1 H10 s10 e1 => ?_))
          cases e0
          cases e1
          obtain rfl := t0.nil'
          have sN : Same H7 (upd H8 S2 (.lst [])) := same_put s8 m2
          have s7A : Same H7 H10 := (sN.trans s9).trans s10
          have hSA : H10 S2 = some (.lst []) := s10 _ _ (s9 _ _ upd_same)
          have n2c : S2 ≠ c := rd_new rd7 m2
          have rdA := rd7.same s7A
          refine ⟨d, c, m, rfl, by omega, rdA, fun vN HB kB rdB hN => ?_⟩
          obtain ⟨S1, pool0, rfl, nS1, hS1, lp0, sp0⟩ := hN
          have hSB := KeepX.lst rdA kB hSA
          have n12 : S1 ≠ S2 := fun e => by
            rw [e, hSA] at nS1
            cases nS1
          have n1c : S1 ≠ c := rd_new rdA nS1
          have k7B : KeepX d H7 HB := (KeepX.of s7A).trans kB
          have hqB := KeepX.tup rd7 k7B _ _ hq7
          refine b_for rfl (pi_range1 (by rfl) zr (pa_cons (pv 5) pa_nil)) (pg_name (i := 3) scLaw.nd rfl (.inl rfl)) ?_ PassesOwn.never
          refine ⟨_, rfl, (m : Int), rfl, by omega, by omega, for_range (n := ((m : Int) - 0).toNat) (fun i σ H' => ∃ z3, σ = [some (.ref a), some (.ref d), some (.ref S), z3, y4, some (.int (m : Int)), some (.ref S2), some (.ref S1), y8, none] ∧ Rd d c H' ∧ H' q = some (.tup (([1, 2, 3, 4, 5, 6] : List Int).map V.int)) ∧ ∃ pool names : List Str, H' S1 = some (.lst (pool.map V.str)) ∧ H' S2 = some (.lst (names.map V.str)) ∧ pool.length = m - i ∧ names.length = i ∧ Short (pool ++ names)) ?_ ?_ ?_⟩
          · exact ⟨_, rfl, rdB, hqB, pool0, [], hS1, hSB, by rw [lp0]; rfl, rfl, fun x hx => sp0 x (by simpa using hx)⟩
          · rintro j σ HC hj ⟨w3, rfl, rdC, hqC, pool, names, h1, h2, l1, l2, shC⟩
            have hjm : j < m := by omega
            have np : 0 < (pool.map V.str).length := by
              rw [List.length_map]
              omega
            refine b_appW (i := 6) (pv 6) rfl ⟨_, h2⟩ (w_E (pe_bm PySem.F.plainAttrs_list PySem.F.slot_list_pop PySem.F.type_list_pop mt_popAt (pv 7) (pa_cons pw_E pa_nil)) ?_)
            refine ⟨_, rfl, .inl ⟨rfl, _, SqL.of h1⟩, w_draw GD (ev_vi (pv 1) rfl) (ev_lenL zl (ev_vi (pv 7) rfl) h1) rdC (by omega) (by rw [List.length_map]; omega) fun z HE z0 z1 kE rdE => ?_⟩
            obtain ⟨zn, rfl⟩ := Int.eq_ofNat_of_zero_le z0
            have hz : zn < pool.length := by
              rw [List.length_map] at z1
              omega
            have h1E := KeepX.lst rdC kE h1
            have h2E := KeepX.lst rdC kE h2
            refine ⟨S1, pool.map V.str, (zn : Int), zn, V.str pool[zn], rfl, rfl, h1E, by omega, by omega, ?_, ?_, ?_⟩
            · rw [seqIndex_of (by omega) (by rw [List.length_map]; omega), Int.toNat_natCast]
            · rw [List.getElem?_map, List.getElem?_eq_getElem hz]
              rfl
            · refine ⟨names.map V.str, by rw [upd_ne n12.symm]; exact h2E, by rw [List.length_map]; omega, b_nil ?_⟩
              have e1 : (pool.map V.str).eraseIdx zn = (pool.eraseIdx zn).map V.str := by
                exact erase_map _ _
              have rd1' : Rd d c (upd HE S1 (.lst ((pool.map V.str).eraseIdx zn))) := KeepX.rd rdE h1E (fun _ z => by cases z) n1c
              have h2F : (upd HE S1 (.lst ((pool.map V.str).eraseIdx zn))) S2 = some (.lst (names.map V.str)) := by rw [upd_ne n12.symm]; exact h2E
              have kt1 : TupK HE (upd HE S1 (.lst ((pool.map V.str).eraseIdx zn))) := .app h1E
              have kt2 : TupK (upd HE S1 (.lst ((pool.map V.str).eraseIdx zn))) (upd (upd HE S1 (.lst ((pool.map V.str).eraseIdx zn))) S2 (.lst (names.map V.str ++ [V.str pool[zn]]))) := .app h2F
              refine ⟨_, rfl, KeepX.rd rd1' h2F (fun _ z => by cases z) n2c, kt2 _ _ (kt1 _ _ (KeepX.tup rdC kE _ _ hqC)), pool.eraseIdx zn, names ++ [pool[zn]], ?_, ?_, ?_, ?_, ?_⟩
              · rw [upd_ne n12, upd_same, e1]
              · rw [upd_same, List.map_append]
                rfl
              · rw [List.length_eraseIdx, if_pos hz]
                omega
              · rw [List.length_append]
                simp
                omega
              · intro x hx
                rcases List.mem_append.mp hx with hx | hx
                · exact shC x (List.mem_append_left _ (List.mem_of_mem_eraseIdx hx))
                · rcases List.mem_append.mp hx with hx | hx
                  · exact shC x (List.mem_append_right _ hx)
                  · rw [List.mem_singleton.mp hx]
                    exact shC _ (List.mem_append_left _ (List.getElem_mem _))
          · rintro σ HC ⟨w3, rfl, rdC, hqC, pool, names, h1, h2, l1, l2, shC⟩
            have lm : names.length = m := by omega
            have shN : Short names := fun x hx => shC x (List.mem_append_right _ hx)
            have tN : LstD (names.map PyData.str) (.ref S2) HC := ⟨S2, _, rfl, h2, tds_strs names⟩
            have hlen : (sortD (names.map PyData.str)).length = names.length := by
              unfold sortD
              rw [(List.mergeSort_perm _ _).length_eq, List.length_map]
            refine b_setE (i := 8) scLaw.nd rfl (.inl rfl) (ev_tupleL zt (ds := (sortD (names.map PyData.str)).map fr) (ev_lcL (i := 9) rfl scLaw.nd (blkOk_by (N := NL) (sc := defScope sLaw) (by decide +kernel)) (fun _ _ _ _ _ => pg_name (i := 9) scLaw.nd rfl (Or.inl rfl)) (ev_sortL un zs (ev_v (pv 6) rfl tN mono_lstD) (alike_strs names) (sortable_strs names) (depth_strs names)) (by rw [hlen]; omega) ?_)) fun vw HD sD' hw => ?_
            · intro j dd v H' hd sx td s' H0 C cl fp
              exact ev_tupD (ds := [dd, qd 0, .int 0, .bool true]) (ed_cons (ev_v (pv 9) rfl td mono_da) (ed_cons (ev_tupD (ds := [.int 0, .int 1]) (ed_cons (Ev.int (ev_c pe_int)) (ed_cons (Ev.int (ev_c pe_int)) ed_nil)) (by show 2 ≤ 1000; decide)) (ed_cons (Ev.int (ev_c pe_int)) (ed_cons (Ev.bool (ev_c pe_bl)) ed_nil)))) (by show 4 ≤ 1000; decide)
            have hw : Td HD (freshD names) vw := hw
            have tD := mono_lstD _ _ _ sD' tN
            have hrev : freshD names.reverse = freshD names := fresh_perm (List.reverse_perm names)
            have sW := shw_fresh shN (by omega)
            refine b_ifF (et_w (ew_orF ?_ (ew_or1 ?_))) fun HG sG => ?_
            · exact et_same (freshD names).shown (ev_reprS gd un zp (ev_fo GO (ev_v (pv 6) rfl tD mono_lstD) (by omega) (by omega)) sW (by decide) (by decide)) (ev_reprS gd un zp (ev_v (pv 8) rfl hw mono_da) sW (by decide) (by decide))
            · refine et_same (freshD names).shown (ev_reprS gd un zp (ds := (sortD (names.map PyData.str)).map fr) ?_ sW (by decide) (by decide)) (ev_reprS gd un zp (ev_v (pv 8) rfl hw mono_da) sW (by decide) (by decide))
              refine Ev.imp (ev_fo (xs := names.reverse) GO ?_ (by rw [List.length_reverse]; omega) (by rw [List.length_reverse]; omega)) fun v H' _ h => by
                have h : Td H' (freshD names.reverse) v := h
                rw [hrev] at h
                exact h
              rw [List.map_reverse]
              exact ev_revL (ev_v (pv 6) rfl tD mono_lstD) (ev_negI (ev_c pe_int))
            exact b_nil ⟨_, _, _, _, _, rfl, rdC.same (sD'.trans sG), (sD'.trans sG) _ _ hqC⟩
        · rintro σ H7 ⟨z3, y5, y6, y7, y8, rfl, rd7, hq7⟩
          refine b_setE (i := 8) scLaw.nd rfl (.inl rfl) (ev_lit (d := want3) 8 rfl) fun v8 H8 s8 h8 => ?_
          have s3 : Shw 3 6000 want3 := by
            rw [← fresh3]
            exact shw_fresh (by unfold Short; decide +kernel) (by decide)
          refine b_retE (CC.ev (c_eqS (ev_reprS gd un zp (ds := [fr (.str "a"), fr (.str "m"), fr (.str "zz")]) ?_ s3 (by decide) (by decide)) (ev_reprS gd un zp (ev_v (pv 8) rfl h8 mono_da) s3 (by decide) (by decide)) rfl)) fun v9 H9 s9 e9 => ?_
          · refine Ev.imp (ev_freshV (xs := ["zz", "a", "m"]) GF (ed_cons (Ev.str (ev_c pe_str)) (ed_cons (Ev.str (ev_c pe_str)) (ed_cons (Ev.str (ev_c pe_str)) ed_nil))) (by decide)) fun v H' _ h => by
              have h : Td H' (freshD ["zz", "a", "m"]) v := h
              rw [fresh3] at h
              exact h
          · rw [show v9 = .bl true from e9.trans (by simp)]
            exact k H9
end
end Kn

namespace Kn
open PySem PySem.Spec PyProof.Rows L2 Cb
/-! ### what the top has written -/
theorem all_mk {l : PySem.W.OpenLaw} {w : World} {K : PySem.W.Frag} {h : Heap} {mg : Str → Option Value} {fa : Addr} (X : K.In h) (G : h.Ns mainGlobals mg) (hfa : mg "law" = some (.ref fa))
    {f1 f2 f3 f4 f5 f6 f7 f8 f9 f10 f11 f12 f13 f14 f15 f16 f17 f18 f19 f20 f21 f22 f23 f24 f25 : Addr} {od1 an1 od2 an2 od3 an3 od4 an4 od5 an5 od6 an6 od7 an7 od8 an8 od9 an9 od10 an10 od11 an11 od12 an12 od13 an13 od14 an14 od15 an15 od16 an16 od17 an17 od18 an18 od19 an19 od20 an20 od21 an21 od22 an22 od23 an23 od24 an24 od25 an25 : Option Addr} {oc1 kV1 dc1 pm1 cd1 ct1 oc2 kV2 dc2 pm2 cd2 ct2 oc3 kV3 dc3 pm3 cd3 ct3 oc4 kV4 dc4 pm4 cd4 ct4 oc5 kV5 dc5 pm5 cd5 ct5 oc6 kV6 dc6 pm6 cd6 ct6 oc7 kV7 dc7 pm7 cd7 ct7 oc8 kV8 dc8 pm8 cd8 ct8 oc9 kV9 dc9 pm9 cd9 ct9 oc10 kV10 dc10 pm10 cd10 ct10 oc11 kV11 dc11 pm11 cd11 ct11 oc12 kV12 dc12 pm12 cd12 ct12 oc13 kV13 dc13 pm13 cd13 ct13 oc14 kV14 dc14 pm14 cd14 ct14 oc15 kV15 dc15 pm15 cd15 ct15 oc16 kV16 dc16 pm16 cd16 ct16 oc17 kV17 dc17 pm17 cd17 ct17 oc18 kV18 dc18 pm18 cd18 ct18 oc19 kV19 dc19 pm19 cd19 ct19 oc20 kV20 dc20 pm20 cd20 ct20 oc21 kV21 dc21 pm21 cd21 ct21 oc22 kV22 dc22 pm22 cd22 ct22 oc23 kV23 dc23 pm23 cd23 ct23 oc24 kV24 dc24 pm24 cd24 ct24 oc25 kV25 dc25 pm25 cd25 ct25 : Value} {sl1 sl2 sl3 sl4 sl5 sl6 sl7 sl8 sl9 sl10 sl11 sl12 sl13 sl14 sl15 sl16 sl17 sl18 sl19 sl20 sl21 sl22 sl23 sl24 sl25 : Array (Option Value)}
    (a1 : PySem.W.nsIn K mainGlobals "lowest" = some (some (.ref f1)))
    (l1 : K.lookup f1 = some ⟨oc1, od1, .func (PySem.W.fnOf "lowest" "lowest" (defArgs sLow) (defBody sLow) (defScope sLow) .none kV1 dc1 pm1 an1 cd1 ct1), sl1⟩)
    (c1 : PySem.W.codeIn K cd1 "lowest" = true)
    (k1 : PySem.W.keepIn K (.ref f1) = true)
    (a2 : PySem.W.nsIn K mainGlobals "pair_sum" = some (some (.ref f2)))
    (l2 : K.lookup f2 = some ⟨oc2, od2, .func (PySem.W.fnOf "pair_sum" "pair_sum" (defArgs sPSum) (defBody sPSum) (defScope sPSum) .none kV2 dc2 pm2 an2 cd2 ct2), sl2⟩)
    (c2 : PySem.W.codeIn K cd2 "pair_sum" = true)
    (k2 : PySem.W.keepIn K (.ref f2) = true)
    (a3 : PySem.W.nsIn K mainGlobals "pair_total" = some (some (.ref f3)))
    (l3 : K.lookup f3 = some ⟨oc3, od3, .func (PySem.W.fnOf "pair_total" "pair_total" (defArgs sPTotal) (defBody sPTotal) (defScope sPTotal) .none kV3 dc3 pm3 an3 cd3 ct3), sl3⟩)
    (c3 : PySem.W.codeIn K cd3 "pair_total" = true)
    (k3 : PySem.W.keepIn K (.ref f3) = true)
    (a4 : PySem.W.nsIn K mainGlobals "fresh" = some (some (.ref f4)))
    (l4 : K.lookup f4 = some ⟨oc4, od4, .func (PySem.W.fnOf "fresh" "fresh" (defArgs sFresh) (defBody sFresh) (defScope sFresh) .none kV4 dc4 pm4 an4 cd4 ct4), sl4⟩)
    (c4 : PySem.W.codeIn K cd4 "fresh" = true)
    (k4 : PySem.W.keepIn K (.ref f4) = true)
    (a5 : PySem.W.nsIn K mainGlobals "state_after" = some (some (.ref f5)))
    (l5 : K.lookup f5 = some ⟨oc5, od5, .func (PySem.W.fnOf "state_after" "state_after" (defArgs sAfter) (defBody sAfter) (defScope sAfter) .none kV5 dc5 pm5 an5 cd5 ct5), sl5⟩)
    (c5 : PySem.W.codeIn K cd5 "state_after" = true)
    (k5 : PySem.W.keepIn K (.ref f5) = true)
    (a6 : PySem.W.nsIn K mainGlobals "part" = some (some (.ref f6)))
    (l6 : K.lookup f6 = some ⟨oc6, od6, .func (PySem.W.fnOf "part" "part" (defArgs sPart) (defBody sPart) (defScope sPart) .none kV6 dc6 pm6 an6 cd6 ct6), sl6⟩)
    (c6 : PySem.W.codeIn K cd6 "part" = true)
    (k6 : PySem.W.keepIn K (.ref f6) = true)
    (a7 : PySem.W.nsIn K mainGlobals "_law_reader" = some (some (.ref f7)))
    (l7 : K.lookup f7 = some ⟨oc7, od7, .func (PySem.W.fnOf "_law_reader" "_law_reader" (defArgs sReader) (defBody sReader) (defScope sReader) .none kV7 dc7 pm7 an7 cd7 ct7), sl7⟩)
    (c7 : PySem.W.codeIn K cd7 "_law_reader" = true)
    (k7 : PySem.W.keepIn K (.ref f7) = true)
    (a8 : PySem.W.nsIn K mainGlobals "_law_draw" = some (some (.ref f8)))
    (l8 : K.lookup f8 = some ⟨oc8, od8, .func (PySem.W.fnOf "_law_draw" "_law_draw" (defArgs sDraw) (defBody sDraw) (defScope sDraw) .none kV8 dc8 pm8 an8 cd8 ct8), sl8⟩)
    (c8 : PySem.W.codeIn K cd8 "_law_draw" = true)
    (k8 : PySem.W.keepIn K (.ref f8) = true)
    (a9 : PySem.W.nsIn K mainGlobals "_law_divisor" = some (some (.ref f9)))
    (l9 : K.lookup f9 = some ⟨oc9, od9, .func (PySem.W.fnOf "_law_divisor" "_law_divisor" (defArgs sDivisor) (defBody sDivisor) (defScope sDivisor) .none kV9 dc9 pm9 an9 cd9 ct9), sl9⟩)
    (c9 : PySem.W.codeIn K cd9 "_law_divisor" = true)
    (k9 : PySem.W.keepIn K (.ref f9) = true)
    (a10 : PySem.W.nsIn K mainGlobals "_law_lowest" = some (some (.ref f10)))
    (l10 : K.lookup f10 = some ⟨oc10, od10, .func (PySem.W.fnOf "_law_lowest" "_law_lowest" (defArgs sLLow) (defBody sLLow) (defScope sLLow) .none kV10 dc10 pm10 an10 cd10 ct10), sl10⟩)
    (c10 : PySem.W.codeIn K cd10 "_law_lowest" = true)
    (k10 : PySem.W.keepIn K (.ref f10) = true)
    (a11 : PySem.W.nsIn K mainGlobals "_law_add" = some (some (.ref f11)))
    (l11 : K.lookup f11 = some ⟨oc11, od11, .func (PySem.W.fnOf "_law_add" "_law_add" (defArgs sLAdd) (defBody sLAdd) (defScope sLAdd) .none kV11 dc11 pm11 an11 cd11 ct11), sl11⟩)
    (c11 : PySem.W.codeIn K cd11 "_law_add" = true)
    (k11 : PySem.W.keepIn K (.ref f11) = true)
    (a12 : PySem.W.nsIn K mainGlobals "_law_floor" = some (some (.ref f12)))
    (l12 : K.lookup f12 = some ⟨oc12, od12, .func (PySem.W.fnOf "_law_floor" "_law_floor" (defArgs sLFloor) (defBody sLFloor) (defScope sLFloor) .none kV12 dc12 pm12 an12 cd12 ct12), sl12⟩)
    (c12 : PySem.W.codeIn K cd12 "_law_floor" = true)
    (k12 : PySem.W.keepIn K (.ref f12) = true)
    (a13 : PySem.W.nsIn K mainGlobals "_law_some_ratio" = some (some (.ref f13)))
    (l13 : K.lookup f13 = some ⟨oc13, od13, .func (PySem.W.fnOf "_law_some_ratio" "_law_some_ratio" (defArgs sSome) (defBody sSome) (defScope sSome) .none kV13 dc13 pm13 an13 cd13 ct13), sl13⟩)
    (c13 : PySem.W.codeIn K cd13 "_law_some_ratio" = true)
    (k13 : PySem.W.keepIn K (.ref f13) = true)
    (a14 : PySem.W.nsIn K mainGlobals "_law_crosses" = some (some (.ref f14)))
    (l14 : K.lookup f14 = some ⟨oc14, od14, .func (PySem.W.fnOf "_law_crosses" "_law_crosses" (defArgs sCrosses) (defBody sCrosses) (defScope sCrosses) .none kV14 dc14 pm14 an14 cd14 ct14), sl14⟩)
    (c14 : PySem.W.codeIn K cd14 "_law_crosses" = true)
    (k14 : PySem.W.keepIn K (.ref f14) = true)
    (a15 : PySem.W.nsIn K mainGlobals "_law_heads" = some (some (.ref f15)))
    (l15 : K.lookup f15 = some ⟨oc15, od15, .func (PySem.W.fnOf "_law_heads" "_law_heads" (defArgs sHeads) (defBody sHeads) (defScope sHeads) .none kV15 dc15 pm15 an15 cd15 ct15), sl15⟩)
    (c15 : PySem.W.codeIn K cd15 "_law_heads" = true)
    (k15 : PySem.W.keepIn K (.ref f15) = true)
    (a16 : PySem.W.nsIn K mainGlobals "_law_random_state" = some (some (.ref f16)))
    (l16 : K.lookup f16 = some ⟨oc16, od16, .func (PySem.W.fnOf "_law_random_state" "_law_random_state" (defArgs sState) (defBody sState) (defScope sState) .none kV16 dc16 pm16 an16 cd16 ct16), sl16⟩)
    (c16 : PySem.W.codeIn K cd16 "_law_random_state" = true)
    (k16 : PySem.W.keepIn K (.ref f16) = true)
    (a17 : PySem.W.nsIn K mainGlobals "_law_random_sections" = some (some (.ref f17)))
    (l17 : K.lookup f17 = some ⟨oc17, od17, .func (PySem.W.fnOf "_law_random_sections" "_law_random_sections" (defArgs sSections) (defBody sSections) (defScope sSections) .none kV17 dc17 pm17 an17 cd17 ct17), sl17⟩)
    (c17 : PySem.W.codeIn K cd17 "_law_random_sections" = true)
    (k17 : PySem.W.keepIn K (.ref f17) = true)
    (a18 : PySem.W.nsIn K mainGlobals "_law_random_days" = some (some (.ref f18)))
    (l18 : K.lookup f18 = some ⟨oc18, od18, .func (PySem.W.fnOf "_law_random_days" "_law_random_days" (defArgs sDays) (defBody sDays) (defScope sDays) .none kV18 dc18 pm18 an18 cd18 ct18), sl18⟩)
    (c18 : PySem.W.codeIn K cd18 "_law_random_days" = true)
    (k18 : PySem.W.keepIn K (.ref f18) = true)
    (a19 : PySem.W.nsIn K mainGlobals "_law_random_sheet" = some (some (.ref f19)))
    (l19 : K.lookup f19 = some ⟨oc19, od19, .func (PySem.W.fnOf "_law_random_sheet" "_law_random_sheet" (defArgs sSheet) (defBody sSheet) (defScope sSheet) .none kV19 dc19 pm19 an19 cd19 ct19), sl19⟩)
    (c19 : PySem.W.codeIn K cd19 "_law_random_sheet" = true)
    (k19 : PySem.W.keepIn K (.ref f19) = true)
    (a20 : PySem.W.nsIn K mainGlobals "_law_fixed_sheets" = some (some (.ref f20)))
    (l20 : K.lookup f20 = some ⟨oc20, od20, .func (PySem.W.fnOf "_law_fixed_sheets" "_law_fixed_sheets" (defArgs sFixed) (defBody sFixed) (defScope sFixed) .none kV20 dc20 pm20 an20 cd20 ct20), sl20⟩)
    (c20 : PySem.W.codeIn K cd20 "_law_fixed_sheets" = true)
    (k20 : PySem.W.keepIn K (.ref f20) = true)
    (a21 : PySem.W.nsIn K mainGlobals "_law_random_booking" = some (some (.ref f21)))
    (l21 : K.lookup f21 = some ⟨oc21, od21, .func (PySem.W.fnOf "_law_random_booking" "_law_random_booking" (defArgs sBooking) (defBody sBooking) (defScope sBooking) .none kV21 dc21 pm21 an21 cd21 ct21), sl21⟩)
    (c21 : PySem.W.codeIn K cd21 "_law_random_booking" = true)
    (k21 : PySem.W.keepIn K (.ref f21) = true)
    (a22 : PySem.W.nsIn K mainGlobals "_law_after" = some (some (.ref f22)))
    (l22 : K.lookup f22 = some ⟨oc22, od22, .func (PySem.W.fnOf "_law_after" "_law_after" (defArgs sLAfter) (defBody sLAfter) (defScope sLAfter) .none kV22 dc22 pm22 an22 cd22 ct22), sl22⟩)
    (c22 : PySem.W.codeIn K cd22 "_law_after" = true)
    (k22 : PySem.W.keepIn K (.ref f22) = true)
    (a23 : PySem.W.nsIn K mainGlobals "_law_fresh_of" = some (some (.ref f23)))
    (l23 : K.lookup f23 = some ⟨oc23, od23, .func (PySem.W.fnOf "_law_fresh_of" "_law_fresh_of" (defArgs sFreshOf) (defBody sFreshOf) (defScope sFreshOf) .none kV23 dc23 pm23 an23 cd23 ct23), sl23⟩)
    (c23 : PySem.W.codeIn K cd23 "_law_fresh_of" = true)
    (k23 : PySem.W.keepIn K (.ref f23) = true)
    (a24 : PySem.W.nsIn K mainGlobals "_law_check_sheet" = some (some (.ref f24)))
    (l24 : K.lookup f24 = some ⟨oc24, od24, .func (PySem.W.fnOf "_law_check_sheet" "_law_check_sheet" (defArgs sCheck) (defBody sCheck) (defScope sCheck) .none kV24 dc24 pm24 an24 cd24 ct24), sl24⟩)
    (c24 : PySem.W.codeIn K cd24 "_law_check_sheet" = true)
    (k24 : PySem.W.keepIn K (.ref f24) = true)
    (a25 : PySem.W.nsIn K mainGlobals "law" = some (some (.ref f25)))
    (l25 : K.lookup f25 = some ⟨oc25, od25, .func (PySem.W.fnOf "law" "law" (defArgs sLaw) (defBody sLaw) (defScope sLaw) .none kV25 dc25 pm25 an25 cd25 ct25), sl25⟩)
    (c25 : PySem.W.codeIn K cd25 "law" = true)
    (k25 : PySem.W.keepIn K (.ref f25) = true)
    (ag : PySem.W.nsIn K mainGlobals "gcd" = some (some (.builtin "math.gcd")))
    (z_range : PySem.W.nsIn K mainGlobals "range" = some none)
    (z_len : PySem.W.nsIn K mainGlobals "len" = some none)
    (z_enumerate : PySem.W.nsIn K mainGlobals "enumerate" = some none)
    (z_list : PySem.W.nsIn K mainGlobals "list" = some none)
    (z_tuple : PySem.W.nsIn K mainGlobals "tuple" = some none)
    (z_sum : PySem.W.nsIn K mainGlobals "sum" = some none)
    (z_sorted : PySem.W.nsIn K mainGlobals "sorted" = some none)
    (z_abs : PySem.W.nsIn K mainGlobals "abs" = some none)
    (z_min : PySem.W.nsIn K mainGlobals "min" = some none)
    (z_repr : PySem.W.nsIn K mainGlobals "repr" = some none)
    : ∃ fd : FuncData, (∀ (s : Shared) (v : Value), BindsTo s fd ⟨[v], []⟩ [("_law_script", v)]) ∧ ∀ base : Heap, K.In base → base.Ns mainGlobals mg → FnG l.prog w K mg base 6 fa fd ["_law_script"] (spLaw K) := by
  have e := hfa.symm.trans (PySem.W.mg_of X G a25)
  cases e
  have zg := PySem.W.mg_of X G ag
  have o_range := PySem.W.mg_none_of X G z_range
  have o_len := PySem.W.mg_none_of X G z_len
  have o_enumerate := PySem.W.mg_none_of X G z_enumerate
  have o_list := PySem.W.mg_none_of X G z_list
  have o_tuple := PySem.W.mg_none_of X G z_tuple
  have o_sum := PySem.W.mg_none_of X G z_sum
  have o_sorted := PySem.W.mg_none_of X G z_sorted
  have o_abs := PySem.W.mg_none_of X G z_abs
  have o_min := PySem.W.mg_none_of X G z_min
  have o_repr := PySem.W.mg_none_of X G z_repr
  have F1 := fun_mk (st := sLow) l1 c1 k1
  have m1 := PySem.W.mg_of X G a1
  have b1 := F1.binds (ps := ["over", "under"]) fun _ _ _ _ _ _ us hl => match us, hl with | [_, _], _ => rfl
  have F2 := fun_mk (st := sPSum) l2 c2 k2
  have m2 := PySem.W.mg_of X G a2
  have b2 := F2.binds (ps := ["one", "other"]) fun _ _ _ _ _ _ us hl => match us, hl with | [_, _], _ => rfl
  have F3 := fun_mk (st := sPTotal) l3 c3 k3
  have m3 := PySem.W.mg_of X G a3
  have b3 := F3.binds (ps := ["pairs"]) fun _ _ _ _ _ _ us hl => match us, hl with | [_], _ => rfl
  have F4 := fun_mk (st := sFresh) l4 c4 k4
  have m4 := PySem.W.mg_of X G a4
  have b4 : BindsV (PySem.W.fnOf "fresh" "fresh" (defArgs sFresh) (defBody sFresh) (defScope sFresh) .none kV4 dc4 pm4 an4 cd4 ct4) 0 ["lines"] := fun us _ => match us with | [] => rfl | _ :: _ => rfl
  have F5 := fun_mk (st := sAfter) l5 c5 k5
  have m5 := PySem.W.mg_of X G a5
  have b5 := F5.binds (ps := ["sheet", "booking"]) fun _ _ _ _ _ _ us hl => match us, hl with | [_, _], _ => rfl
  have F6 := fun_mk (st := sPart) l6 c6 k6
  have m6 := PySem.W.mg_of X G a6
  have b6 := F6.binds (ps := ["sheet", "first", "count"]) fun _ _ _ _ _ _ us hl => match us, hl with | [_, _, _], _ => rfl
  have F7 := fun_mk (st := sReader) l7 c7 k7
  have m7 := PySem.W.mg_of X G a7
  have b7 := F7.binds (ps := ["_law_script"]) fun _ _ _ _ _ _ us hl => match us, hl with | [_], _ => rfl
  have F8 := fun_mk (st := sDraw) l8 c8 k8
  have m8 := PySem.W.mg_of X G a8
  have b8 := F8.binds (ps := ["_law_reader_here", "_law_many"]) fun _ _ _ _ _ _ us hl => match us, hl with | [_, _], _ => rfl
  have F9 := fun_mk (st := sDivisor) l9 c9 k9
  have m9 := PySem.W.mg_of X G a9
  have b9 := F9.binds (ps := ["_law_one", "_law_other"]) fun _ _ _ _ _ _ us hl => match us, hl with | [_, _], _ => rfl
  have F10 := fun_mk (st := sLLow) l10 c10 k10
  have m10 := PySem.W.mg_of X G a10
  have b10 := F10.binds (ps := ["_law_over", "_law_under"]) fun _ _ _ _ _ _ us hl => match us, hl with | [_, _], _ => rfl
  have F11 := fun_mk (st := sLAdd) l11 c11 k11
  have m11 := PySem.W.mg_of X G a11
  have b11 := F11.binds (ps := ["_law_one", "_law_other"]) fun _ _ _ _ _ _ us hl => match us, hl with | [_, _], _ => rfl
  have F12 := fun_mk (st := sLFloor) l12 c12 k12
  have m12 := PySem.W.mg_of X G a12
  have b12 := F12.binds (ps := ["_law_ratio"]) fun _ _ _ _ _ _ us hl => match us, hl with | [_], _ => rfl
  have F13 := fun_mk (st := sSome) l13 c13 k13
  have m13 := PySem.W.mg_of X G a13
  have b13 := F13.binds (ps := ["_law_reader_here", "_law_most"]) fun _ _ _ _ _ _ us hl => match us, hl with | [_, _], _ => rfl
  have F14 := fun_mk (st := sCrosses) l14 c14 k14
  have m14 := PySem.W.mg_of X G a14
  have b14 := F14.binds (ps := ["_law_one", "_law_other"]) fun _ _ _ _ _ _ us hl => match us, hl with | [_, _], _ => rfl
  have F15 := fun_mk (st := sHeads) l15 c15 k15
  have m15 := PySem.W.mg_of X G a15
  have b15 := F15.binds (ps := ["_law_reader_here", "_law_many"]) fun _ _ _ _ _ _ us hl => match us, hl with | [_, _], _ => rfl
  have F16 := fun_mk (st := sState) l16 c16 k16
  have m16 := PySem.W.mg_of X G a16
  have b16 := F16.binds (ps := ["_law_reader_here", "_law_most"]) fun _ _ _ _ _ _ us hl => match us, hl with | [_, _], _ => rfl
  have F17 := fun_mk (st := sSections) l17 c17 k17
  have m17 := PySem.W.mg_of X G a17
  have b17 := F17.binds (ps := ["_law_reader_here", "_law_heads_here", "_law_most"]) fun _ _ _ _ _ _ us hl => match us, hl with | [_, _, _], _ => rfl
  have F18 := fun_mk (st := sDays) l18 c18 k18
  have m18 := PySem.W.mg_of X G a18
  have b18 := F18.binds (ps := ["_law_reader_here", "_law_rows", "_law_many"]) fun _ _ _ _ _ _ us hl => match us, hl with | [_, _, _], _ => rfl
  have F19 := fun_mk (st := sSheet) l19 c19 k19
  have m19 := PySem.W.mg_of X G a19
  have b19 := F19.binds (ps := ["_law_reader_here", "_law_most", "_law_days_most"]) fun _ _ _ _ _ _ us hl => match us, hl with | [_, _, _], _ => rfl
  have F20 := fun_mk (st := sFixed) l20 c20 k20
  have m20 := PySem.W.mg_of X G a20
  have b20 := F20.binds (ps := []) fun _ _ _ _ _ _ us hl => match us, hl with | [], _ => rfl
  have F21 := fun_mk (st := sBooking) l21 c21 k21
  have m21 := PySem.W.mg_of X G a21
  have b21 := F21.binds (ps := ["_law_reader_here", "_law_good"]) fun _ _ _ _ _ _ us hl => match us, hl with | [_, _], _ => rfl
  have F22 := fun_mk (st := sLAfter) l22 c22 k22
  have m22 := PySem.W.mg_of X G a22
  have b22 := F22.binds (ps := ["_law_good", "_law_booked"]) fun _ _ _ _ _ _ us hl => match us, hl with | [_, _], _ => rfl
  have F23 := fun_mk (st := sFreshOf) l23 c23 k23
  have m23 := PySem.W.mg_of X G a23
  have b23 := F23.binds (ps := ["_law_heads_here"]) fun _ _ _ _ _ _ us hl => match us, hl with | [_], _ => rfl
  have F24 := fun_mk (st := sCheck) l24 c24 k24
  have m24 := PySem.W.mg_of X G a24
  have b24 := F24.binds (ps := ["_law_reader_here", "_law_good"]) fun _ _ _ _ _ _ us hl => match us, hl with | [_, _], _ => rfl
  have F25 := fun_mk (st := sLaw) l25 c25 k25
  have m25 := PySem.W.mg_of X G a25
  refine ⟨(PySem.W.fnOf "law" "law" (defArgs sLaw) (defBody sLaw) (defScope sLaw) .none kV25 dc25 pm25 an25 cd25 ct25), fun s v => .of_eq rfl, fun base _ _ => ?_⟩
  have Gs := ok_psum (P := l.prog) (w := w) (base := base) F2 F1 b1 m1 zg
  have Gt := ok_tot (P := l.prog) (w := w) (base := base) F3 Gs k2 b2 m2
  have Gf := ok_fresh (P := l.prog) (w := w) (base := base) F4 b4 o_sorted o_tuple
  have L5 : LD l.prog w K mg base "state_after" 4 ["sheet", "booking"] spAfter := ⟨f5, _, ok_after F5 Gs k2 b2 m2 Gt k3 b3 m3 o_enumerate o_sum o_tuple, m5, k5, b5⟩
  have L6 : LD l.prog w K mg base "part" 1 ["sheet", "first", "count"] spPart := ⟨f6, _, ok_part F6, m6, k6, b6⟩
  have L7 : LD l.prog w K mg base "_law_reader" 1 ["_law_script"] (spReader K) := ⟨f7, _, ok_reader F7 o_list, m7, k7, b7⟩
  have L8 : LD l.prog w K mg base "_law_draw" 1 ["_law_reader_here", "_law_many"] spDraw := ⟨f8, _, ok_draw F8 o_len, m8, k8, b8⟩
  have L9 : LD l.prog w K mg base "_law_divisor" 1 ["_law_one", "_law_other"] spDivi := ⟨f9, _, ok_divi F9 o_abs, m9, k9, b9⟩
  have L10 : LD l.prog w K mg base "_law_lowest" 2 ["_law_over", "_law_under"] spLL := ⟨f10, _, ok_ll F10 L9, m10, k10, b10⟩
  have L11 : LD l.prog w K mg base "_law_add" 3 ["_law_one", "_law_other"] spLA := ⟨f11, _, ok_la F11 L10, m11, k11, b11⟩
  have L12 : LD l.prog w K mg base "_law_floor" 1 ["_law_ratio"] spLF := ⟨f12, _, ok_lf F12, m12, k12, b12⟩
  have L13 : LD l.prog w K mg base "_law_some_ratio" 3 ["_law_reader_here", "_law_most"] spSome := ⟨f13, _, ok_some F13 L8 L10, m13, k13, b13⟩
  have L14 : LD l.prog w K mg base "_law_crosses" 1 ["_law_one", "_law_other"] spCross := ⟨f14, _, ok_cross F14 o_len o_min, m14, k14, b14⟩
  have L15 : LD l.prog w K mg base "_law_heads" 3 ["_law_reader_here", "_law_many"] spHeads := ⟨f15, _, ok_heads F15 L8 o_range o_len o_sorted, m15, k15, b15⟩
  have L16 : LD l.prog w K mg base "_law_random_state" 4 ["_law_reader_here", "_law_most"] spState := ⟨f16, _, ok_state F16 L8 L15 L13 L12 o_tuple, m16, k16, b16⟩
  have L17 : LD l.prog w K mg base "_law_random_sections" 2 ["_law_reader_here", "_law_heads_here", "_law_most"] spSect := ⟨f17, _, ok_sect F17 L8 L14 o_range o_len o_sorted o_tuple o_list, m17, k17, b17⟩
  have L18 : LD l.prog w K mg base "_law_random_days" 4 ["_law_reader_here", "_law_rows", "_law_many"] spDays := ⟨f18, _, ok_days F18 L8 L13 o_range o_tuple, m18, k18, b18⟩
  have L19 : LD l.prog w K mg base "_law_random_sheet" 5 ["_law_reader_here", "_law_most", "_law_days_most"] spSheet := ⟨f19, _, ok_sheet F19 L8 L16 L17 L18, m19, k19, b19⟩
  have L20 : LD l.prog w K mg base "_law_fixed_sheets" 1 [] spFixed := ⟨f20, _, ok_fixed F20 o_tuple o_enumerate o_range, m20, k20, b20⟩
  have L21 : LD l.prog w K mg base "_law_random_booking" 2 ["_law_reader_here", "_law_good"] spBook := ⟨f21, _, ok_book F21 L8 L12 o_tuple, m21, k21, b21⟩
  have L22 : LD l.prog w K mg base "_law_after" 4 ["_law_good", "_law_booked"] spLAft := ⟨f22, _, ok_laft F22 L11 o_range o_len o_tuple, m22, k22, b22⟩
  have L23 : LD l.prog w K mg base "_law_fresh_of" 3 ["_law_heads_here"] spFO := ⟨f23, _, ok_fo F23 Gf m4 k4 o_len, m23, k23, b23⟩
  have LC : LG l.prog w K mg base "_law_check_sheet" 5 ["_law_reader_here", "_law_good"] spCheck := ⟨f24, _, ok_check F24 L21 L5 L22 L6 o_range o_len o_tuple o_repr, m24, k24, b24⟩
  exact ok_law F25 L7 L8 L20 L19 L15 L23 LC Gf m4 k4 o_range o_len o_tuple o_repr o_sorted
end Kn

open PySem PySem.W PyProof.Rows in
set_option maxRecDepth 100000 in
set_option maxHeartbeats 0 in
theorem PySem.Challenge.cw_centbook_k06_states_and_parts_holds : PySem.Challenge.rw_centbook_k06_states_and_parts.Holds := by
  w_on; o_law; k_head; (case hw => w_witness2)
  k_fill
  refine Cb.walkG (l := PySem.Challenge.rw_centbook_k06_states_and_parts) (n := 63) (k := 6) (x := "_law_script") (sp := fun w => Kn.spLaw _) rfl (by decide) rfl ⟨rfl, by decide, by decide⟩ (fun w h Y => PySem.W.kIn_of Y) ?F (fun _ _ a ns hl hS => ⟨a, ns, rfl, hS, hl, fun _ => rfl⟩)
  case F =>
    intro w mg fa h KX G hmg
    refine' Kn.all_mk KX G hmg ?a1 ?l1 ?c1 ?k1 ?a2 ?l2 ?c2 ?k2 ?a3 ?l3 ?c3 ?k3 ?a4 ?l4 ?c4 ?k4 ?a5 ?l5 ?c5 ?k5 ?a6 ?l6 ?c6 ?k6 ?a7 ?l7 ?c7 ?k7 ?a8 ?l8 ?c8 ?k8 ?a9 ?l9 ?c9 ?k9 ?a10 ?l10 ?c10 ?k10 ?a11 ?l11 ?c11 ?k11 ?a12 ?l12 ?c12 ?k12 ?a13 ?l13 ?c13 ?k13 ?a14 ?l14 ?c14 ?k14 ?a15 ?l15 ?c15 ?k15 ?a16 ?l16 ?c16 ?k16 ?a17 ?l17 ?c17 ?k17 ?a18 ?l18 ?c18 ?k18 ?a19 ?l19 ?c19 ?k19 ?a20 ?l20 ?c20 ?k20 ?a21 ?l21 ?c21 ?k21 ?a22 ?l22 ?c22 ?k22 ?a23 ?l23 ?c23 ?k23 ?a24 ?l24 ?c24 ?k24 ?a25 ?l25 ?c25 ?k25 ?ag ?z_range ?z_len ?z_enumerate ?z_list ?z_tuple ?z_sum ?z_sorted ?z_abs ?z_min ?z_repr
    (case a1 => k_is)
    (case l1 => k_is)
    (case c1 => k_is)
    (case k1 => k_is)
    (case a2 => k_is)
    (case l2 => k_is)
    (case c2 => k_is)
    (case k2 => k_is)
    (case a3 => k_is)
    (case l3 => k_is)
    (case c3 => k_is)
    (case k3 => k_is)
    (case a4 => k_is)
    (case l4 => k_is)
    (case c4 => k_is)
    (case k4 => k_is)
    (case a5 => k_is)
    (case l5 => k_is)
    (case c5 => k_is)
    (case k5 => k_is)
    (case a6 => k_is)
    (case l6 => k_is)
    (case c6 => k_is)
    (case k6 => k_is)
    (case a7 => k_is)
    (case l7 => k_is)
    (case c7 => k_is)
    (case k7 => k_is)
    (case a8 => k_is)
    (case l8 => k_is)
    (case c8 => k_is)
    (case k8 => k_is)
    (case a9 => k_is)
    (case l9 => k_is)
    (case c9 => k_is)
    (case k9 => k_is)
    (case a10 => k_is)
    (case l10 => k_is)
    (case c10 => k_is)
    (case k10 => k_is)
    (case a11 => k_is)
    (case l11 => k_is)
    (case c11 => k_is)
    (case k11 => k_is)
    (case a12 => k_is)
    (case l12 => k_is)
    (case c12 => k_is)
    (case k12 => k_is)
    (case a13 => k_is)
    (case l13 => k_is)
    (case c13 => k_is)
    (case k13 => k_is)
    (case a14 => k_is)
    (case l14 => k_is)
    (case c14 => k_is)
    (case k14 => k_is)
    (case a15 => k_is)
    (case l15 => k_is)
    (case c15 => k_is)
    (case k15 => k_is)
    (case a16 => k_is)
    (case l16 => k_is)
    (case c16 => k_is)
    (case k16 => k_is)
    (case a17 => k_is)
    (case l17 => k_is)
    (case c17 => k_is)
    (case k17 => k_is)
    (case a18 => k_is)
    (case l18 => k_is)
    (case c18 => k_is)
    (case k18 => k_is)
    (case a19 => k_is)
    (case l19 => k_is)
    (case c19 => k_is)
    (case k19 => k_is)
    (case a20 => k_is)
    (case l20 => k_is)
    (case c20 => k_is)
    (case k20 => k_is)
    (case a21 => k_is)
    (case l21 => k_is)
    (case c21 => k_is)
    (case k21 => k_is)
    (case a22 => k_is)
    (case l22 => k_is)
    (case c22 => k_is)
    (case k22 => k_is)
    (case a23 => k_is)
    (case l23 => k_is)
    (case c23 => k_is)
    (case k23 => k_is)
    (case a24 => k_is)
    (case l24 => k_is)
    (case c24 => k_is)
    (case k24 => k_is)
    (case a25 => k_is)
    (case l25 => k_is)
    (case c25 => k_is)
    (case k25 => k_is)
    (case ag => k_is)
    (case z_range => k_is)
    (case z_len => k_is)
    (case z_enumerate => k_is)
    (case z_list => k_is)
    (case z_tuple => k_is)
    (case z_sum => k_is)
    (case z_sorted => k_is)
    (case z_abs => k_is)
    (case z_min => k_is)
    (case z_repr => k_is)

