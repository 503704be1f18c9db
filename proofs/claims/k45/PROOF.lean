import PyProof.Rows.All
import Wide.All
import OpenK.AllK
import Wide.FinOn
import HandS.ForMost
import HandS.Property
import HandS.Gcd
import HandS.Wide
import HandS.Defaults
import HandS.IsInst
import HandS.OwnEq
import HandS.Ends
import KE.GoesEnum
import KE.SortData
import KE.DataCmp
import PyProof.TupleOfSeq
import PySem.Challenge.RW_centbook_k45_states_told
import HandS.TupAny
import HandS.NoneIn
import HandS.TupMul
import HandS.Zip
import HandS.Strs
import KE.DataEq
import KE.KRevSl
import HandS.SetFor
set_option Elab.async false
set_option linter.all false
set_option maxRecDepth 100000
set_option maxHeartbeats 4000000
set_option exponentiation.threshold 100000
/-! own operators over the hand layer -/
namespace Cb
open PySem PySem.Spec PyProof.Rows L2

section
variable {X : Cx}
/-- a class has the def at f under the name nm -/
structure Own (K : PySem.W.Frag) (C : Addr) (nm : Str) (f : Addr) : Prop where
  at_ : PySem.W.findIn K (.ref C) nm = some (some (.ref f))
  fn : PySem.W.isFn K (.ref f) = true

theorem ins_at {pins : List (Addr × Obj)} {s : Shared} {σ : L2.St} {H : Hp} {a C dx : Addr} {fs : List (Str × V)} (I : Inv X pins σ H s) (h : H a = some (.ins C dx fs)) :
    ∃ od, PySem.W.InstAt s.heap a (PySem.W.instObj C dx) C (some od) := by
  obtain ⟨mA, J, _⟩ := ins_get I.hok h
  obtain ⟨od, J, _⟩ := J.look
  exact ⟨od, J⟩
theorem EP.cmp {pins : List (Addr × Obj)} {σ : L2.St} {Q : VK} {u : Value} {s' : Shared} (h : EP X pins σ Q u s') : PySem.W.CmpBack (EP X pins σ Q) u s' := by
  obtain ⟨v, H', I, r, q⟩ := id h
  cases u <;> first | exact h | (exfalso; cases v <;> first | (exact nomatch r) | (obtain ⟨t, r⟩ := (show ∃ t, _ from r); exact nomatch r))

/-- an operator of two values of which the left one is an instance with the def f for it -/
def rOwn (C : Addr) (sp : Sp) (Y : V → Hp → Prop) : R2 := fun x y H Q => ∃ a dx fs, x = .ref a ∧ H a = some (.ins C dx fs) ∧ Y y H ∧ sp [x, y] H Q E0
def YIns (C : Addr) : V → Hp → Prop := fun y H => ∃ b dy gs, y = .ref b ∧ H b = some (.ins C dy gs)
def YInt : V → Hp → Prop := fun y _ => ∃ i, y = .int i

variable {k : Nat} {f C g : Addr} {fd : FuncData} {ps : List Str} {sp : Sp}
/-- the call of the def at f on values -/
theorem run2 {pins : List (Addr × Obj)} {s : Shared} {σ : L2.St} {H : Hp} {Q : VK} {vs : List V} {us : List Value} (F : FnOk X.prog X.w X.K X.mg X.base CX0 k f fd ps sp) (hr : Room k X.A) (hb : Binds X.K fd ps []) (I : Inv X pins σ H s) (r : Vals vs us)
    (h : sp vs H Q E0) : wpAny (model X.prog X.w) X.A (call (.ref f) us) (EP X pins σ Q) X.xe s :=
  run_fn F hr hb (.nil) pass0 I r (by rw [List.append_nil]; exact h)

theorem op_own {op : Operator} (F : FnOk X.prog X.w X.K X.mg X.base CX0 k f fd ps sp) (hr : Room k X.A) (hb : Binds X.K fd ps []) (hc : PySem.W.selfFirst X.K C = true) (o : Own X.K C (PySem.dunder op.info.2) f) : OpR X (binaryOp op) (rOwn C sp (YIns C)) := by
  intro pins s σ H x y v u Q I rx ry h
  obtain ⟨a, dx, fs, rfl, ha, ⟨b, dy, gs, rfl, hb'⟩, h⟩ := h
  cases rx
  cases ry
  obtain ⟨od, J⟩ := ins_at I ha
  obtain ⟨od', J'⟩ := ins_at I hb'
  obtain ⟨m, hF⟩ := I.fr
  exact PySem.W.binop_K hF I.ok.mod.kin J J'.type hc o.at_ o.fn (thn (run2 (vs := [.ref a, .ref b]) F hr hb I (.cons rfl (.cons rfl .nil)) h) fun u s' q => EP.cmp q)

theorem op_ownI {op : Operator} {fo ro rc : Option Value} (F : FnOk X.prog X.w X.K X.mg X.base CX0 k f fd ps sp) (hr : Room k X.A) (hb : Binds X.K fd ps []) (hc : PySem.W.selfFirst X.K C = true) (o : Own X.K C (PySem.dunder op.info.2) f)
    (hR : PySem.W.findIn X.K (.ref C) (dunderR op.info.2) = some rc) (hp : rc = none ∨ ∃ g : Addr, rc = some (.ref g))
    (h1 : PySem.W.findIn X.K (.type "int") (PySem.dunder op.info.2) = some fo) (h2 : PySem.W.findIn X.K (.type "int") (dunderR op.info.2) = some ro) (hsub : PySem.W.subIn X.K (.type "int") (.ref C) = some false) :
    OpR X (binaryOp op) (rOwn C sp YInt) := by
  intro pins s σ H x y v u Q I rx ry h
  obtain ⟨a, dx, fs, rfl, ha, ⟨i, rfl⟩, h⟩ := h
  cases rx
  obtain ⟨t, rfl⟩ := ry
  obtain ⟨od, J⟩ := ins_at I ha
  obtain ⟨m, hF⟩ := I.fr
  exact PySem.W.ksp_binT hF I.ok.mod.kin J rfl hc o.at_ o.fn hR hp h1 h2 hsub (thn (run2 (vs := [.ref a, .int i]) F hr hb I (.cons rfl (.cons ⟨_, rfl⟩ .nil)) h) fun u s' q => EP.cmp q)

/-- -x of an instance -/
def rUOwn (C : Addr) (sp : Sp) : V → Hp → VK → Prop := fun x H Q => ∃ a dx fs, x = .ref a ∧ H a = some (.ins C dx fs) ∧ sp [x] H Q E0
theorem un_own (F : FnOk X.prog X.w X.K X.mg X.base CX0 k f fd ps sp) (hr : Room k X.A) (hb : Binds X.K fd ps []) (o : Own X.K C "__neg__" f) : UnR X (unaryOp .USub) (rUOwn C sp) := by
  intro pins s σ H x v Q I rx h
  obtain ⟨a, dx, fs, rfl, ha, h⟩ := h
  cases rx
  obtain ⟨od, J⟩ := ins_at I ha
  obtain ⟨m, hF⟩ := I.fr
  exact PySem.W.ksp_neg hF I.ok.mod.kin J o.at_ o.fn (run2 (vs := [.ref a]) F hr hb I (.cons rfl .nil) h)

/-- ==, != by the own def -/
theorem op_cmpOwn {op : CmpOp} (ho : ∀ u v, compareOp op u v = richCompare op u v) (F : FnOk X.prog X.w X.K X.mg X.base CX0 k f fd ps sp) (hr : Room k X.A) (hb : Binds X.K fd ps []) (o : Own X.K C (cmpInfo op).2.1 f) : OpR X (compareOp op) (rOwn C sp (YIns C)) := by
  intro pins s σ H x y v u Q I rx ry h
  obtain ⟨a, dx, fs, rfl, ha, ⟨b, dy, gs, rfl, hb'⟩, h⟩ := h
  cases rx
  cases ry
  obtain ⟨od, J⟩ := ins_at I ha
  obtain ⟨od', J'⟩ := ins_at I hb'
  obtain ⟨m, hF⟩ := I.fr
  rw [ho]
  refine PySem.W.cmp_K (tb := .ref C) hr.units0 hF I.ok.mod.kin J J'.type (by simp [PySem.W.notFirst]) o.at_ o.fn (thn (run2 (vs := [.ref a, .ref b]) F hr hb I (.cons rfl (.cons rfl .nil)) h) fun u s' q => EP.cmp q)

/-- abs(x) of an instance -/
theorem call_absOwn (F : FnOk X.prog X.w X.K X.mg X.base CX0 k f fd ps sp) (hr : Room (k + 1) X.A) (hb : Binds X.K fd ps []) (o : Own X.K C "__abs__" f) : CallR X (.builtin "abs") (fun vs H Q => ∃ x, vs = [x] ∧ rUOwn C sp x H Q) := by
  intro pins s σ H vs us Q I r h
  obtain ⟨x, rfl, a, dx, fs, rfl, ha, h⟩ := h
  obtain ⟨u, rfl, r1⟩ := vals1 r
  cases r1
  obtain ⟨od, J⟩ := ins_at I ha
  refine Calls.call_function_entry kind_abs plain_abs entry_abs (args_abs _) ?_
  unfold Builtin.«abs»
  refine wpAny_bind (m := oneArg "abs" _) (wpAny_pure ?_)
  have F' := F.run X.A.in1 X.stack s H ⟨[.ref a], []⟩ ([Value.ref a] ++ []) [V.ref a] Q E0 hr.in1 I.env0.in1 (hb s [.ref a] I.kIn (by rw [List.append_nil, ← F.len _ _ _ _ h]; rfl)) (show Vals [V.ref a] ([Value.ref a] ++ []) from .cons rfl .nil) h
  refine wpAny_bind (m := callSpecial? (.ref a) (Str.ofString "__abs__")) (PySem.W.special_fn I.kIn J o.at_ (beq_iff_eq.mp o.fn) (wpAny_call (codeAny_mono F' fun r s' hq => ?_)))
  cases r with
  | error e => exact False.elim hq
  | ok fl =>
    cases fl with
    | ret w =>
      exact wpAny_pure ⟨_, rfl, I.after hq⟩
    | next => exact False.elim hq
    | brk => exact False.elim hq
    | cont => exact False.elim hq
end
end Cb

namespace GCb
open PySem
open PySem.Sem (wp)
abbrev NI (x C dx : Addr) : Spec := fun _ R s => s.heap.get? x = some (PySem.W.instObj C dx) ∧ R (.ok (.ret .notImplemented)) s
theorem int_mul_ref (i : Int) (t : Tok) (x C dx : Addr) : Meets (Builtin.«int.__mul__» ⟨[.int i t, .ref x], []⟩) (NI x C dx) :=
  Meets.of_wp fun prog w A R s hs => by
    obtain ⟨hl, hs⟩ := hs
    obtain ⟨hp, g, d, tk, os⟩ := s
    unfold PySem.W.instObj at hl
    wp_walk using wpAny_load hl
    exact ⟨_, rfl, hs⟩
theorem int_add_ref (i : Int) (t : Tok) (x C dx : Addr) : Meets (Builtin.«int.__add__» ⟨[.int i t, .ref x], []⟩) (NI x C dx) :=
  Meets.of_wp fun prog w A R s hs => by
    obtain ⟨hl, hs⟩ := hs
    obtain ⟨hp, g, d, tk, os⟩ := s
    unfold PySem.W.instObj at hl
    wp_walk using wpAny_load hl
    exact ⟨_, rfl, hs⟩
theorem int_sub_ref (i : Int) (t : Tok) (x C dx : Addr) : Meets (Builtin.«int.__sub__» ⟨[.int i t, .ref x], []⟩) (NI x C dx) :=
  Meets.of_wp fun prog w A R s hs => by
    obtain ⟨hl, hs⟩ := hs
    obtain ⟨hp, g, d, tk, os⟩ := s
    unfold PySem.W.instObj at hl
    wp_walk using wpAny_load hl
    exact ⟨_, rfl, hs⟩

section
open PySem.W PySem.Calls PyProof.Rows
variable {prog : Program} {w : World} {A : Around} {E : Value → Shared → Prop} {s : Shared} {K : Frag} {x C L f g dx : Addr} {h₀ : Heap} {m : Str → Option Value} {od : Option Obj}
/-- an int on the left, an instance with the reflected def on the right -/
theorem binR {op : Operator} {idl : String} {B : Builtin} {i : Int} {t : Tok} {Q : Value → Shared → Prop} (F : Fr h₀ L s.heap m) (X₀ : K.In h₀) (I : InstAt s.heap x (instObj C dx) C od) (hc : selfFirst K C = true)
    (hd : findIn K (.ref C) (PySem.dunder op.info.2) = some (some (.ref g))) (hs : findIn K (.ref C) (dunderR op.info.2) = some (some (.ref f))) (hf : isFn K (.ref f) = true) (hsub : subIn K (.ref C) (.type "int") = some false)
    (fillsT : fillsNumberSlot (.type "int") op.info.2 = pure true) (slot : Slot "int" (PySem.dunder op.info.2) idl) (entry : entryFor table idl = some B) (args : argsOk idl ⟨[.int i t, .ref x], []⟩)
    (ni : Meets (B ⟨[.int i t, .ref x], []⟩) (NI x C dx))
    (h : wpAny (model prog w) A (call (.ref f) [.ref x, .int i t]) (PySem.W.CmpBack Q) E s) : wpAny (model prog w) A (binaryOp op (.int i t) (.ref x)) Q E s := by
  have X := X₀.keeps F.keep
  obtain ⟨cd, rest, hcd, hm⟩ := ksp_first hc
  rcases hi : op.info with ⟨sym, nm'⟩
  rw [hi] at hd hs fillsT slot
  dsimp only at hd hs fillsT slot
  have one := ksp_try X I hs hf h
  have zero : wpAny (model prog w) A (tryMethod (.int i t) (PySem.dunder nm') (.ref x)) (fun r s' => r = none ∧ s' = s) E s :=
    wpAny_tryMethod_declines (typeIs_int s i t) slot (call_meets slot (typeIs_int s i t) entry args ni ⟨I.at_, rfl, rfl, rfl⟩)
  obtain ⟨hh, g, d, tt, os⟩ := s
  have L1 : Looks (model prog w) hh (typeOf (.ref x)) (.ref C) := I.type
  have L2 : Looks (model prog w) hh (typeOf (.int i t)) (.type "int") := Looks.of_pure rfl
  have L3 : Looks (model prog w) hh (fillsNumberSlot (.ref C) nm') true := fills_K X hcd hm hd
  have L4 : Looks (model prog w) hh (fillsNumberSlot (.type "int") nm') true := Looks.of_pure fillsT
  have L5 : Looks (model prog w) hh (isSubtype (.ref C) (.type "int")) false := looks_subIn X hsub
  have L7 : Looks (model prog w) hh (numberSlotInPython (.type "int") nm') false := Looks.of_pure rfl
  have hne : (Value.type "int" == Value.ref C) = false := Bool.eq_false_iff.mpr fun q => by cases beq_iff_eq.mp q
  simp only [binaryOp, hi]
  refine wpAny_holding (wpAny_bind ?_)
  unfold binaryOp1
  refine wpAny_bind (L2.at (wpAny_bind (L1.at (wpAny_bind (L4.at ?_)))))
  simp only [hne, Bool.false_eq_true, if_false]
  ksp_lk
  refine wpAny_mono zero (fun r s' hr' => ?_) fun _ _ e => e
  obtain ⟨rfl, rfl⟩ := hr'
  ksp_lk
  refine wpAny_mono one (fun r s' hr' => ?_) fun _ _ e => e
  obtain ⟨v, rfl, hq⟩ := hr'
  ksp_lk
  exact hq
end
end GCb
namespace Cb
open PySem PySem.Spec PyProof.Rows L2
section
variable {X : Cx} {k : Nat} {f C g : Addr} {fd : FuncData} {ps : List Str} {sp : Sp}
def rOwnR (C : Addr) (sp : Sp) : R2 := fun x y H Q => ∃ i b dy gs, x = .int i ∧ y = .ref b ∧ H b = some (.ins C dy gs) ∧ sp [y, x] H Q E0
theorem op_ownR {op : Operator} {idl : String} {B : Builtin} (F : FnOk X.prog X.w X.K X.mg X.base CX0 k f fd ps sp) (hr : Room k X.A) (hb : Binds X.K fd ps []) (hc : PySem.W.selfFirst X.K C = true)
    (hd : PySem.W.findIn X.K (.ref C) (PySem.dunder op.info.2) = some (some (.ref g))) (o : Own X.K C (dunderR op.info.2) f) (hsub : PySem.W.subIn X.K (.ref C) (.type "int") = some false)
    (fillsT : fillsNumberSlot (.type "int") op.info.2 = pure true) (slot : Slot "int" (PySem.dunder op.info.2) idl) (entry : entryFor table idl = some B) (args : ∀ a b, argsOk idl ⟨[a, b], []⟩)
    (ni : ∀ (i : Int) (t : Tok) (x C dx : Addr), Meets (B ⟨[.int i t, .ref x], []⟩) (GCb.NI x C dx)) : OpR X (binaryOp op) (rOwnR C sp) := by
  intro pins s σ H x y v u Q I rx ry h
  obtain ⟨i, b, dx, fs, rfl, rfl, ha, h⟩ := h
  obtain ⟨t, rfl⟩ := rx
  cases ry
  obtain ⟨od, J⟩ := ins_at I ha
  obtain ⟨m, hF⟩ := I.fr
  exact GCb.binR hF I.ok.mod.kin J hc hd o.at_ o.fn hsub fillsT slot entry (args _ _) (ni _ _ _ _ _) (thn (run2 (vs := [.ref b, .int i]) F hr hb I (.cons rfl (.cons ⟨_, rfl⟩ .nil)) h) fun u s' q => EP.cmp q)

/-- a, b.f, ..: an attribute as a target -/
def gFld (K : PySem.W.Frag) (ta : TE) (f : Str) : TG := fun v σ H Q => ta σ H fun x H2 => ∃ a C dx fs, x = .ref a ∧ H2 a = some (.ins C dx fs) ∧ Cls K C ∧ NoAttr K C f ∧ fs.length < 1000 ∧ Q σ (upd H2 a (.ins C dx (putF f v fs)))
theorem pg_fld {o : Expr} {f : Str} {pos : Pos} {ta : TE} (ha : PE X o ta) : PG X (.Attribute o f pos) (gFld X.K ta f) := by
  refine ⟨fun pins s σ H v u Q I r h => ?_⟩
  rw [assign_Attribute]
  refine wpAny_bind (wpAny_holding (thn (ha.run pins s σ H _ I h) fun ov s1 ⟨x, H1, I1, r1, a, C, dx, fs, ex, ea, c, n, l, q⟩ => ?_))
  subst ex
  obtain rfl : ov = Value.ref a := r1
  refine wpAny_bind (wpAny_standAt (wpAny_bind (wpAny_holding (setattr_ok I1 ea c n l r fun s3 I3 => ?_))))
  exact wpAny_release ⟨σ, _, I3, q⟩
end
end Cb

/-! weakest readings, pure evaluation -/
namespace Cb
open PySem PySem.Spec PyProof.Rows L2
section
variable {X : Cx}
@[irreducible] def wE (X : Cx) (e : Expr) : TE := fun σ H Q => ∀ (pins : List (Addr × Obj)) (s : Shared), Inv X pins σ H s → wpAny (model X.prog X.w) X.A (eval e X.env) (EP X pins σ Q) X.xe s
@[irreducible] def wT (X : Cx) (e : Expr) : TT := fun σ H Q => ∀ (pins : List (Addr × Obj)) (s : Shared), Inv X pins σ H s → wpAny (model X.prog X.w) X.A (isTrue e X.env (eval e X.env)) (TP X pins σ Q) X.xe s
@[irreducible] def wW (X : Cx) (e : Expr) : TT := fun σ H Q => ∀ (whole : Sem Value) (pins : List (Addr × Obj)) (s : Shared), Inv X pins σ H s → wpAny (model X.prog X.w) X.A (isTrue e X.env whole) (TP X pins σ Q) X.xe s
@[irreducible] def wA (X : Cx) (es : List Expr) : TA := fun σ H Q => ∀ (pos : Pos) (pins : List (Addr × Obj)) (s : Shared), Inv X pins σ H s → wpAny (model X.prog X.w) X.A (spliced (backTo pos (starEach es X.env))) (AP X pins σ Q) X.xe s
@[irreducible] def wS (X : Cx) (st : Stmt) : TS := fun D σ H => ∀ (pins : List (Addr × Obj)) (s : Shared), Inv X pins σ H s → wpAny (model X.prog X.w) X.A (exec st X.env) (SP X pins D) X.xe s
@[irreducible] def wB (X : Cx) (sts : List Stmt) : TS := fun D σ H => ∀ (pins : List (Addr × Obj)) (s : Shared), Inv X pins σ H s → wpAny (model X.prog X.w) X.A (execs sts X.env) (SP X pins D) X.xe s
variable {e a b c : Expr} {es : List Expr} {st : Stmt} {sts els : List Stmt} {t : TE} {tt : TT} {ta : TA} {ts : TS} {σ : L2.St} {H H' : Hp} {pos : Pos} {D D' : Ends}
theorem wE_i {Q : VK} (h : ∀ (pins : List (Addr × Obj)) (s : Shared), Inv X pins σ H s → wpAny (model X.prog X.w) X.A (eval e X.env) (EP X pins σ Q) X.xe s) : wE X e σ H Q := by
  unfold wE
  exact h
theorem wE.run {Q : VK} (h : wE X e σ H Q) : ∀ (pins : List (Addr × Obj)) (s : Shared), Inv X pins σ H s → wpAny (model X.prog X.w) X.A (eval e X.env) (EP X pins σ Q) X.xe s := by
  unfold wE at h
  exact h
theorem wT_i {Q : Bool → Hp → Prop} (h : ∀ (pins : List (Addr × Obj)) (s : Shared), Inv X pins σ H s → wpAny (model X.prog X.w) X.A (isTrue e X.env (eval e X.env)) (TP X pins σ Q) X.xe s) : wT X e σ H Q := by
  unfold wT
  exact h
theorem wT.run {Q : Bool → Hp → Prop} (h : wT X e σ H Q) : ∀ (pins : List (Addr × Obj)) (s : Shared), Inv X pins σ H s → wpAny (model X.prog X.w) X.A (isTrue e X.env (eval e X.env)) (TP X pins σ Q) X.xe s := by
  unfold wT at h
  exact h
theorem wW_i {Q : Bool → Hp → Prop} (h : ∀ (whole : Sem Value) (pins : List (Addr × Obj)) (s : Shared), Inv X pins σ H s → wpAny (model X.prog X.w) X.A (isTrue e X.env whole) (TP X pins σ Q) X.xe s) : wW X e σ H Q := by
  unfold wW
  exact h
theorem wW.run {Q : Bool → Hp → Prop} (h : wW X e σ H Q) : ∀ (whole : Sem Value) (pins : List (Addr × Obj)) (s : Shared), Inv X pins σ H s → wpAny (model X.prog X.w) X.A (isTrue e X.env whole) (TP X pins σ Q) X.xe s := by
  unfold wW at h
  exact h
theorem wA_i {Q : List V → Hp → Prop} (h : ∀ (pos : Pos) (pins : List (Addr × Obj)) (s : Shared), Inv X pins σ H s → wpAny (model X.prog X.w) X.A (spliced (backTo pos (starEach es X.env))) (AP X pins σ Q) X.xe s) : wA X es σ H Q := by
  unfold wA
  exact h
theorem wA.run {Q : List V → Hp → Prop} (h : wA X es σ H Q) : ∀ (pos : Pos) (pins : List (Addr × Obj)) (s : Shared), Inv X pins σ H s → wpAny (model X.prog X.w) X.A (spliced (backTo pos (starEach es X.env))) (AP X pins σ Q) X.xe s := by
  unfold wA at h
  exact h
theorem wS_i  (h : ∀ (pins : List (Addr × Obj)) (s : Shared), Inv X pins σ H s → wpAny (model X.prog X.w) X.A (exec st X.env) (SP X pins D) X.xe s) : wS X st D σ H := by
  unfold wS
  exact h
theorem wS.run  (h : wS X st D σ H) : ∀ (pins : List (Addr × Obj)) (s : Shared), Inv X pins σ H s → wpAny (model X.prog X.w) X.A (exec st X.env) (SP X pins D) X.xe s := by
  unfold wS at h
  exact h
theorem wB_i  (h : ∀ (pins : List (Addr × Obj)) (s : Shared), Inv X pins σ H s → wpAny (model X.prog X.w) X.A (execs sts X.env) (SP X pins D) X.xe s) : wB X sts D σ H := by
  unfold wB
  exact h
theorem wB.run  (h : wB X sts D σ H) : ∀ (pins : List (Addr × Obj)) (s : Shared), Inv X pins σ H s → wpAny (model X.prog X.w) X.A (execs sts X.env) (SP X pins D) X.xe s := by
  unfold wB at h
  exact h
theorem pw_E : PE X e (wE X e) := ⟨fun pins s _ _ _ I h => wE.run h pins s I⟩
theorem pw_T : PT X e (wT X e) := ⟨fun pins s _ _ _ I h => wT.run h pins s I⟩
theorem pw_W : PW X e (wW X e) := ⟨fun whole pins s _ _ _ I h => wW.run h whole pins s I⟩
theorem pw_A : PA X es (wA X es) := ⟨fun pos pins s _ _ _ I h => wA.run h pos pins s I⟩
theorem pw_S : PS X st (wS X st) := ⟨fun pins s _ _ _ I h => wS.run h pins s I⟩
theorem pw_B : PSs X sts (wB X sts) := ⟨fun pins s _ _ _ I h => wB.run h pins s I⟩
theorem w_E (p : PE X e t) {Q : VK} (h : t σ H Q) : wE X e σ H Q := wE_i fun pins s I => p.run pins s σ H Q I h
theorem w_T (p : PT X e tt) {Q : Bool → Hp → Prop} (h : tt σ H Q) : wT X e σ H Q := wT_i fun pins s I => p.run pins s σ H Q I h
theorem w_W (p : PW X e tt) {Q : Bool → Hp → Prop} (h : tt σ H Q) : wW X e σ H Q := wW_i fun whole pins s I => p.run whole pins s σ H Q I h
theorem w_A (p : PA X es ta) {Q : List V → Hp → Prop} (h : ta σ H Q) : wA X es σ H Q := wA_i fun pos pins s I => p.run pos pins s σ H Q I h
theorem w_S (p : PS X st ts) (h : ts D σ H) : wS X st D σ H := wS_i fun pins s I => p.run pins s σ H D I h
theorem w_B (p : PSs X sts ts) (h : ts D σ H) : wB X sts D σ H := wB_i fun pins s I => p.run pins s σ H D I h
theorem wE_mono {Q Q' : VK} (h : wE X e σ H Q) (k : ∀ v H', Q v H' → Q' v H') : wE X e σ H Q' := wE_i fun pins s I => thn (wE.run h pins s I) fun u s' ⟨v, H1, I1, r, q⟩ => ⟨v, H1, I1, r, k v H1 q⟩
theorem wT_mono {Q Q' : Bool → Hp → Prop} (h : wT X e σ H Q) (k : ∀ v H', Q v H' → Q' v H') : wT X e σ H Q' := wT_i fun pins s I => thn (wT.run h pins s I) fun u s' ⟨H1, I1, q⟩ => ⟨H1, I1, k u H1 q⟩
theorem wW_mono {Q Q' : Bool → Hp → Prop} (h : wW X e σ H Q) (k : ∀ v H', Q v H' → Q' v H') : wW X e σ H Q' := wW_i fun whole pins s I => thn (wW.run h whole pins s I) fun u s' ⟨H1, I1, q⟩ => ⟨H1, I1, k u H1 q⟩
theorem wA_mono {Q Q' : List V → Hp → Prop} (h : wA X es σ H Q) (k : ∀ v H', Q v H' → Q' v H') : wA X es σ H Q' := wA_i fun pos pins s I => thn (wA.run h pos pins s I) fun u s' ⟨v, H1, I1, r, q⟩ => ⟨v, H1, I1, r, k v H1 q⟩
theorem wB_mono (h : wB X sts D σ H) (k1 : ∀ σ' H', D.nx σ' H' → D'.nx σ' H') (k2 : ∀ v H', D.rt v H' → D'.rt v H') (k3 : ∀ σ' H', D.bk σ' H' → D'.bk σ' H') (k4 : ∀ σ' H', D.ct σ' H' → D'.ct σ' H') : wB X sts D' σ H := wB_i fun pins s I =>
  thn (wB.run h pins s I) fun f s' q => by
    cases f with
    | next => obtain ⟨σ', H', I', q⟩ := q; exact ⟨σ', H', I', k1 _ _ q⟩
    | brk => obtain ⟨σ', H', I', q⟩ := q; exact ⟨σ', H', I', k3 _ _ q⟩
    | cont => obtain ⟨σ', H', I', q⟩ := q; exact ⟨σ', H', I', k4 _ _ q⟩
    | ret u => obtain ⟨v, σ', H', I', r, q⟩ := q; exact ⟨v, σ', H', I', r, k2 _ _ q⟩
/-! blocks -/
theorem b_nil (h : D.nx σ H) : wB X [] D σ H := w_B pss_nil h
theorem b_cons (h : wS X st { D with nx := wB X sts D } σ H) : wB X (st :: sts) D σ H := w_B (pss_cons pw_S pw_B) h
/-! ### predicates on values -/
abbrev Pd := V → Hp → Prop
def Mono (P : Pd) : Prop := ∀ v H H', Same H H' → P v H → P v H'
def Is (v : V) : Pd := fun x _ => x = v
theorem mono_is {v : V} : Mono (Is v) := fun _ _ _ _ h => h
def Ev (X : Cx) (σ : L2.St) (H : Hp) (e : Expr) (P : Pd) : Prop := ∀ H1, Same H H1 → wE X e σ H1 (fun v H2 => Same H1 H2 ∧ P v H2)
def EvT (X : Cx) (σ : L2.St) (H : Hp) (e : Expr) (k : Bool) : Prop := ∀ H1, Same H H1 → wT X e σ H1 (fun v H2 => Same H1 H2 ∧ v = k)
def EvW (X : Cx) (σ : L2.St) (H : Hp) (e : Expr) (k : Bool) : Prop := ∀ H1, Same H H1 → wW X e σ H1 (fun v H2 => Same H1 H2 ∧ v = k)
def Pws : List Pd → List V → Hp → Prop
  | [], vs, _ => vs = []
  | P :: Ps, vs, H => ∃ v r, vs = v :: r ∧ P v H ∧ Pws Ps r H
def EvA (X : Cx) (σ : L2.St) (H : Hp) (es : List Expr) (Ps : List Pd) : Prop := ∀ H1, Same H H1 → wA X es σ H1 (fun vs H2 => Same H1 H2 ∧ Pws Ps vs H2)
variable {P Pa Pb : Pd} {Ps : List Pd}
theorem Ev.mono (h : Ev X σ H e P) (s : Same H H') : Ev X σ H' e P := fun H1 s1 => h H1 (s.trans s1)
theorem EvT.mono {k : Bool} (h : EvT X σ H e k) (s : Same H H') : EvT X σ H' e k := fun H1 s1 => h H1 (s.trans s1)
theorem Ev.imp {P' : Pd} (h : Ev X σ H e P) (k : ∀ v H', Same H H' → P v H' → P' v H') : Ev X σ H e P' := fun H1 s1 => wE_mono (h H1 s1) fun v H' ⟨s, p⟩ => ⟨s, k v H' (s1.trans s) p⟩
theorem ev_of (p : PE X e t) (h : ∀ H1, Same H H1 → t σ H1 (fun v H2 => Same H1 H2 ∧ P v H2)) : Ev X σ H e P := fun H1 s1 => w_E p (h H1 s1)
theorem w_ev {Q : VK} (h : Ev X σ H e P) (k : ∀ v H', Same H H' → P v H' → Q v H') : wE X e σ H Q := wE_mono (h H (.refl _)) fun v H' ⟨s, p⟩ => k v H' s p
theorem w_evT {k : Bool} {Q : Bool → Hp → Prop} (h : EvT X σ H e k) (kk : ∀ H', Same H H' → Q k H') : wT X e σ H Q := wT_mono (h H (.refl _)) fun v H' ⟨s, p⟩ => by
  subst p
  exact kk H' s
theorem ev_c {v : V} (p : PE X e (tC v)) : Ev X σ H e (Is v) := ev_of p fun H1 _ => ⟨.refl _, rfl⟩
theorem ev_v {i : Nat} {v : V} (p : PE X e (tVar i)) (hi : σ[i]? = some (some v)) (h : P v H) (m : Mono P) : Ev X σ H e P := ev_of p fun H1 s1 => ⟨v, hi, .refl _, m _ _ _ s1 h⟩
theorem ev_vi {i : Nat} {v : V} (p : PE X e (tVar i)) (hi : σ[i]? = some (some v)) : Ev X σ H e (Is v) := ev_v p hi rfl mono_is
theorem ev_op {op : Operator} {r : R2} (ho : OpR X (binaryOp op) r) (ha : Ev X σ H a Pa) (hb : Ev X σ H b Pb) (ma : Mono Pa)
    (h : ∀ x y H2, Same H H2 → Pa x H2 → Pb y H2 → r x y H2 (fun v H3 => Same H2 H3 ∧ P v H3)) (hr : ∀ x y H2 (Q Q' : VK), (∀ v H', Q v H' → Q' v H') → r x y H2 Q → r x y H2 Q') : Ev X σ H (.BinOp a op b pos) P :=
  ev_of (pe_op ho pw_E pw_E) fun H1 s1 => wE_mono (ha H1 s1) fun x H2 ⟨s2, px⟩ => wE_mono (hb H2 (s1.trans s2)) fun y H3 ⟨s3, py⟩ =>
    hr _ _ _ _ _ (fun v H' ⟨s4, pv⟩ => ⟨(s2.trans s3).trans s4, pv⟩) (h x y H3 ((s1.trans s2).trans s3) (ma _ _ _ s3 px) py)
theorem ev_cmp {op : CmpOp} {r : R2} (ho : OpR X (compareOp op) r) (hm : behindInMarks op b = false) (ha : Ev X σ H a Pa) (hb : Ev X σ H b Pb) (ma : Mono Pa)
    (h : ∀ x y H2, Same H H2 → Pa x H2 → Pb y H2 → r x y H2 (fun v H3 => Same H2 H3 ∧ P v H3)) (hr : ∀ x y H2 (Q Q' : VK), (∀ v H', Q v H' → Q' v H') → r x y H2 Q → r x y H2 Q') : Ev X σ H (.Compare a [op] [b] pos) P :=
  ev_of (pe_cmpR ho pw_E pw_E hm) fun H1 s1 => wE_mono (ha H1 s1) fun x H2 ⟨s2, px⟩ => wE_mono (hb H2 (s1.trans s2)) fun y H3 ⟨s3, py⟩ =>
    hr _ _ _ _ _ (fun v H' ⟨s4, pv⟩ => ⟨(s2.trans s3).trans s4, pv⟩) (h x y H3 ((s1.trans s2).trans s3) (ma _ _ _ s3 px) py)
theorem ev_un {op : UnaryOp} {r : V → Hp → VK → Prop} (ho : UnR X (unaryOp op) r) (ha : Ev X σ H a Pa) (h : ∀ x H2, Same H H2 → Pa x H2 → r x H2 (fun v H3 => Same H2 H3 ∧ P v H3)) (hr : ∀ x H2 (Q Q' : VK), (∀ v H', Q v H' → Q' v H') → r x H2 Q → r x H2 Q') :
    Ev X σ H (.UnaryOp op a pos) P :=
  ev_of (pe_un ho pw_E) fun H1 s1 => wE_mono (ha H1 s1) fun x H2 ⟨s2, px⟩ => hr _ _ _ _ (fun v H' ⟨s4, pv⟩ => ⟨s2.trans s4, pv⟩) (h x H2 (s1.trans s2) px)
/-! ints -/
theorem ev_opI {op : Operator} {g : Int → Int → Int} {i j : Int} (ho : OpR X (binaryOp op) (rI0 fun i j => .int (g i j))) (ha : Ev X σ H a (Is (.int i))) (hb : Ev X σ H b (Is (.int j))) : Ev X σ H (.BinOp a op b pos) (Is (.int (g i j))) :=
  ev_op ho ha hb mono_is (fun x y H2 _ px py => ⟨i, j, px, py, .refl _, rfl⟩) fun x y H2 Q Q' k ⟨i, j, h1, h2, q⟩ => ⟨i, j, h1, h2, k _ _ q⟩
theorem ev_opC {op : Operator} {C : Int → Int → Prop} {g : Int → Int → Int} {i j : Int} (ho : OpR X (binaryOp op) (rI C fun i j => .int (g i j))) (ha : Ev X σ H a (Is (.int i))) (hb : Ev X σ H b (Is (.int j))) (hc : C i j) : Ev X σ H (.BinOp a op b pos) (Is (.int (g i j))) :=
  ev_op ho ha hb mono_is (fun x y H2 _ px py => ⟨i, j, px, py, hc, .refl _, rfl⟩) fun x y H2 Q Q' k ⟨i, j, h1, h2, h3, q⟩ => ⟨i, j, h1, h2, h3, k _ _ q⟩
/-- a comparison whose answer is v -/
structure CC (X : Cx) (σ : L2.St) (H : Hp) (op : CmpOp) (a b : Expr) (v : V) : Prop where
  ex : ∃ (r : R2) (Pa Pb : Pd), OpR X (compareOp op) r ∧ behindInMarks op b = false ∧ Ev X σ H a Pa ∧ Ev X σ H b Pb ∧ Mono Pa ∧ (∀ x y H2, Same H H2 → Pa x H2 → Pb y H2 → r x y H2 (fun z H3 => Same H2 H3 ∧ z = v)) ∧ (∀ x y H2 (Q Q' : VK), (∀ v H', Q v H' → Q' v H') → r x y H2 Q → r x y H2 Q')
theorem CC.ev {op : CmpOp} {v : V} (h : CC X σ H op a b v) : Ev X σ H (.Compare a [op] [b] pos) (Is v) := by
  obtain ⟨r, Pa, Pb, ho, hm, ha, hb, ma, h, hr⟩ := h.ex
  exact ev_cmp ho hm ha hb ma h hr
theorem CC.et {op : CmpOp} {k : Bool} (h : CC X σ H op a b (.bl k)) : EvT X σ H (.Compare a [op] [b] pos) k := by
  obtain ⟨r, Pa, Pb, ho, hm, ha, hb, ma, h, hr⟩ := h.ex
  exact fun H1 s1 => w_T (pt_cmpR ho pw_E pw_E hm) (wE_mono (ha H1 s1) fun x H2 ⟨s2, px⟩ => wE_mono (hb H2 (s1.trans s2)) fun y H3 ⟨s3, py⟩ =>
    hr _ _ _ _ _ (fun v H' ⟨s4, pv⟩ => ⟨k, pv, (s2.trans s3).trans s4, rfl⟩) (h x y H3 ((s1.trans s2).trans s3) (ma _ _ _ s3 px) py))
theorem CC.is {op : CmpOp} {v w : V} (h : CC X σ H op a b v) (e : v = w) : CC X σ H op a b w := e ▸ h
theorem c_I {op : CmpOp} {g : Int → Int → Bool} {i j : Int} (ho : OpR X (compareOp op) (rI0 fun i j => .bl (g i j))) (hm : behindInMarks op b = false) (ha : Ev X σ H a (Is (.int i))) (hb : Ev X σ H b (Is (.int j))) : CC X σ H op a b (.bl (g i j)) :=
  ⟨_, _, _, ho, hm, ha, hb, mono_is, fun x y H2 _ px py => ⟨i, j, px, py, .refl _, rfl⟩, fun x y H2 Q Q' k ⟨i, j, h1, h2, q⟩ => ⟨i, j, h1, h2, k _ _ q⟩⟩
/-- == and != of two scalars -/
theorem c_eqS {x y : V} (ha : Ev X σ H a (Is x)) (hb : Ev X σ H b (Is y)) (hs : scal x y = true) (hm : behindInMarks .Eq b = false := by exact nomark _) : CC X σ H .Eq a b (.bl (decide (x = y))) :=
  ⟨_, _, _, op_eq, hm, ha, hb, mono_is, fun x' y' H2 _ px py => by cases px; cases py; exact ⟨hs, .refl _, rfl⟩, fun x y H2 Q Q' k ⟨h1, q⟩ => ⟨h1, k _ _ q⟩⟩
theorem c_neS {x y : V} (ha : Ev X σ H a (Is x)) (hb : Ev X σ H b (Is y)) (hs : scal x y = true) (hm : behindInMarks .NotEq b = false := by exact nomark _) : CC X σ H .NotEq a b (.bl (!decide (x = y))) :=
  ⟨_, _, _, op_ne, hm, ha, hb, mono_is, fun x' y' H2 _ px py => by cases px; cases py; exact ⟨hs, .refl _, rfl⟩, fun x y H2 Q Q' k ⟨h1, q⟩ => ⟨h1, k _ _ q⟩⟩
theorem ev_negI {i : Int} (ha : Ev X σ H a (Is (.int i))) : Ev X σ H (.UnaryOp .USub a pos) (Is (.int (-i))) :=
  ev_un un_neg ha (fun x H2 _ px => ⟨i, px, .refl _, rfl⟩) fun x H2 Q Q' k ⟨i, h1, q⟩ => ⟨i, h1, k _ _ q⟩
theorem Ev.is {v w : V} (h : Ev X σ H e (Is v)) (q : v = w) : Ev X σ H e (Is w) := q ▸ h
/-! arguments -/
theorem ea_nil : EvA X σ H [] [] := fun H1 _ => w_A pa_nil ⟨.refl _, rfl⟩
theorem ea_cons (ha : Ev X σ H e P) (m : Mono P) (hr : EvA X σ H es Ps) (hs : starEach (e :: es) X.env = (false, eval e X.env) :: starEach es X.env := by rfl) : EvA X σ H (e :: es) (P :: Ps) := fun H1 s1 =>
  w_A (pa_cons pw_E pw_A hs) (wE_mono (ha H1 s1) fun x H2 ⟨s2, px⟩ => wA_mono (hr H2 (s1.trans s2)) fun vs H3 ⟨s3, pv⟩ => ⟨s2.trans s3, x, vs, rfl, m _ _ _ s3 px, pv⟩)
/-! tests -/
theorem et_v {k : Bool} (h : Ev X σ H e (Is (.bl k))) (he : ∀ whole, isTrue e X.env whole = (do let v ← whole; standAt e.pos; holding [v] (truthy v)) := by intro _; rfl) : EvT X σ H e k := fun H1 s1 =>
  w_T (pt_val pw_E he) (wE_mono (h H1 s1) fun v H2 ⟨s2, p⟩ => ⟨k, p, s2, rfl⟩)
theorem et_w {k : Bool} (h : EvW X σ H e k) : EvT X σ H e k := fun H1 s1 => w_T pw_W.pt (h H1 s1)
theorem ew_or1 {k : Bool} {p : Pos} (h : EvT X σ H a k) : EvW X σ H (.BoolOp .Or [a] p) k := fun H1 s1 => w_W (pw_or1 pw_T) (h H1 s1)
theorem ew_and1 {k : Bool} {p : Pos} (h : EvT X σ H a k) : EvW X σ H (.BoolOp .And [a] p) k := fun H1 s1 => w_W (pw_and1 pw_T) (h H1 s1)
end
end Cb

/-! blocks, calls -/
namespace Cb
open PySem PySem.Spec PyProof.Rows L2
section
variable {X : Cx} {e a b c : Expr} {es : List Expr} {st : Stmt} {sts els body : List Stmt} {t : TE} {tt : TT} {ta : TA} {ts : TS} {σ : L2.St} {H H' : Hp} {pos pos' p p' : Pos} {D D' : Ends} {P Pa Pb : Pd} {Ps : List Pd}
theorem b_set {i : Nat} {x : Str} (hN : X.N.Nodup) (hi : X.N[i]? = some x) (hx : Loc X.env.scope x) (h : wE X e σ H (fun v H' => wB X sts D (σ.set i (some v)) H'))
    (hs : swapsWith e (some (.Name x pos')) pos.line X.env = pure false := by rfl) (hf : X.fn x = true ∨ X.env.scope.names.lookup x = some .local := by first | exact .inl rfl | exact .inr rfl | assumption) :
    wB X (.Assign [.Name x pos'] e pos :: sts) D σ H := b_cons (w_S (ps_set hN hi hx pw_E hs hf) h)
theorem b_setE {i : Nat} {x : Str} (hN : X.N.Nodup) (hi : X.N[i]? = some x) (hx : Loc X.env.scope x) (he : Ev X σ H e P) (k : ∀ v H', Same H H' → P v H' → wB X sts D (σ.set i (some v)) H')
    (hs : swapsWith e (some (.Name x pos')) pos.line X.env = pure false := by rfl) (hf : X.fn x = true ∨ X.env.scope.names.lookup x = some .local := by first | exact .inl rfl | exact .inr rfl | assumption) :
    wB X (.Assign [.Name x pos'] e pos :: sts) D σ H := b_set hN hi hx (wE_mono (he H (.refl _)) fun v H' ⟨s, q⟩ => k v H' s q) hs hf
theorem b_asg {tg : Expr} {g : TG} (hg : PG X tg g) (h : wE X e σ H (fun v H' => g v σ H' (fun σ2 H2 => wB X sts D σ2 H2))) (hs : swapsWithSole [tg] e pos.line X.env = pure false := by rfl) (hw : swappedStores [tg] e X.env = pure none := by rfl)
    (h1 : (assignEach [tg] X.env).map (·.2) = [assign tg X.env] := by rfl) : wB X (.Assign [tg] e pos :: sts) D σ H := b_cons (w_S (ps_asg pw_E hg hs hw h1) h)
theorem b_asgE {tg : Expr} {g : TG} (hg : PG X tg g) (he : Ev X σ H e P) (k : ∀ v H', Same H H' → P v H' → g v σ H' (fun σ2 H2 => wB X sts D σ2 H2)) (hs : swapsWithSole [tg] e pos.line X.env = pure false := by rfl) (hw : swappedStores [tg] e X.env = pure none := by rfl)
    (h1 : (assignEach [tg] X.env).map (·.2) = [assign tg X.env] := by rfl) : wB X (.Assign [tg] e pos :: sts) D σ H := b_asg hg (wE_mono (he H (.refl _)) fun v H' ⟨s, q⟩ => k v H' s q) hs hw h1
theorem b_ret (h : wE X e σ H D.rt) : wB X (.Return (some e) pos :: sts) D σ H := b_cons (w_S (ps_ret pw_E) h)
theorem b_retE (he : Ev X σ H e P) (k : ∀ v H', Same H H' → P v H' → D.rt v H') : wB X (.Return (some e) pos :: sts) D σ H := b_ret (wE_mono (he H (.refl _)) fun v H' ⟨s, q⟩ => k v H' s q)
theorem b_if (h : wT X c σ H fun k H1 => if k = true then wB X body { D with nx := wB X sts D } σ H1 else wB X els { D with nx := wB X sts D } σ H1) : wB X (.If c body els pos :: sts) D σ H := b_cons (w_S (ps_if pw_T pw_B pw_B) h)
theorem b_ifE {k : Bool} (hc : EvT X σ H c k) (h1 : k = true → ∀ H', Same H H' → wB X body { D with nx := wB X sts D } σ H') (h2 : k = false → ∀ H', Same H H' → wB X els { D with nx := wB X sts D } σ H') : wB X (.If c body els pos :: sts) D σ H :=
  b_if (wT_mono (hc H (.refl _)) fun k' H' ⟨s, q⟩ => by
    subst q
    cases k' with
    | true => rw [if_pos rfl]; exact h1 rfl H' s
    | false => rw [if_neg Bool.false_ne_true]; exact h2 rfl H' s)
/-- an if, both ways joined by a word J -/
theorem b_ifJ {k : Bool} (J : L2.St → Hp → Prop) (hc : EvT X σ H c k) (h1 : k = true → ∀ H', Same H H' → wB X body { D with nx := J } σ H') (h2 : k = false → ∀ H', Same H H' → wB X els { D with nx := J } σ H') (kk : ∀ σ' H', J σ' H' → wB X sts D σ' H') : wB X (.If c body els pos :: sts) D σ H :=
  b_if (wT_mono (hc H (.refl _)) fun k' H' ⟨s, q⟩ => by
    subst q
    cases k' with
    | true => rw [if_pos rfl]; exact wB_mono (h1 rfl H' s) kk (fun _ _ z => z) (fun _ _ z => z) fun _ _ z => z
    | false => rw [if_neg Bool.false_ne_true]; exact wB_mono (h2 rfl H' s) kk (fun _ _ z => z) (fun _ _ z => z) fun _ _ z => z)
/-- an if that isn't taken, no else -/
theorem b_ifF (hc : EvT X σ H c false) (h : ∀ H', Same H H' → wB X sts D σ H') : wB X (.If c body [] pos :: sts) D σ H := b_ifE hc (fun q => nomatch q) fun _ H' s => b_nil (h H' s)
theorem b_ifT (hc : EvT X σ H c true) (h : ∀ H', Same H H' → wB X body { D with nx := wB X sts D } σ H') : wB X (.If c body els pos :: sts) D σ H := b_ifE hc (fun _ => h) fun q => nomatch q
theorem b_exprE (he : wE X e σ H fun _ H' => wB X sts D σ H') (hs : swapsWith e none pos.line X.env = pure false := by rfl) : wB X (.Expr e pos :: sts) D σ H := b_cons (w_S (ps_expr pw_E hs) he)
/-! tests of and, or, not -/
theorem ew_or {k k' : Bool} (h : EvT X σ H a k) (h' : k = false → EvW X σ H (.BoolOp .Or (b :: es) p) k') : EvW X σ H (.BoolOp .Or (a :: b :: es) p) (k || k') := fun H1 s1 => w_W (pw_or pw_T pw_W) (wT_mono (h H1 s1) fun v H2 ⟨s2, q⟩ => by
  subst q
  cases v with
  | true => rw [if_pos rfl]; exact ⟨s2, rfl⟩
  | false => rw [if_neg Bool.false_ne_true]; exact wW_mono (h' rfl H2 (s1.trans s2)) fun v H3 ⟨s3, q⟩ => ⟨s2.trans s3, q⟩)
theorem ew_and {k k' : Bool} (h : EvT X σ H a k) (h' : k = true → EvW X σ H (.BoolOp .And (b :: es) p) k') : EvW X σ H (.BoolOp .And (a :: b :: es) p) (k && k') := fun H1 s1 => w_W (pw_and pw_T pw_W) (wT_mono (h H1 s1) fun v H2 ⟨s2, q⟩ => by
  subst q
  cases v with
  | true => rw [if_pos rfl]; exact wW_mono (h' rfl H2 (s1.trans s2)) fun v H3 ⟨s3, q⟩ => ⟨s2.trans s3, q⟩
  | false => rw [if_neg Bool.false_ne_true]; exact ⟨s2, rfl⟩)
/-- all are false: or -/
theorem ew_orF (h : EvT X σ H a false) (h' : EvW X σ H (.BoolOp .Or (b :: es) p) false) : EvW X σ H (.BoolOp .Or (a :: b :: es) p) false := ew_or h fun _ => h'
theorem et_not {k : Bool} (h : EvT X σ H a k) : EvT X σ H (.UnaryOp .Not a pos) (!k) := fun H1 s1 => w_T (pt_not pw_T) (wT_mono (h H1 s1) fun v H2 ⟨s2, q⟩ => ⟨s2, by rw [q]⟩)
theorem EvT.is {k k' : Bool} (h : EvT X σ H e k) (q : k = k') : EvT X σ H e k' := q ▸ h
theorem EvW.is {k k' : Bool} (h : EvW X σ H e k) (q : k = k') : EvW X σ H e k' := q ▸ h
/-! values of and, or -/
theorem ev_and1 {k : Bool} (h : Ev X σ H a (Is (.bl k))) : Ev X σ H (.BoolOp .And [a] p) (Is (.bl k)) := fun H1 s1 => w_E (pe_one pw_E) (h H1 s1)
theorem ev_or1 {k : Bool} (h : Ev X σ H a (Is (.bl k))) : Ev X σ H (.BoolOp .Or [a] p) (Is (.bl k)) := fun H1 s1 => w_E (pe_one pw_E) (h H1 s1)
theorem ev_and {k k' : Bool} (h : Ev X σ H a (Is (.bl k))) (h' : k = true → Ev X σ H (.BoolOp .And (b :: es) p) (Is (.bl k'))) : Ev X σ H (.BoolOp .And (a :: b :: es) p) (Is (.bl (k && k'))) := fun H1 s1 => w_E (pe_and pw_E pw_E) (wE_mono (h H1 s1) fun v H2 ⟨s2, q⟩ => ⟨k, q, by
  cases k with
  | true => rw [if_pos rfl]; exact wE_mono (h' rfl H2 (s1.trans s2)) fun v H3 ⟨s3, q⟩ => ⟨s2.trans s3, q⟩
  | false => rw [if_neg Bool.false_ne_true]; exact ⟨s2, rfl⟩⟩)
theorem ev_or {k k' : Bool} (h : Ev X σ H a (Is (.bl k))) (h' : k = false → Ev X σ H (.BoolOp .Or (b :: es) p) (Is (.bl k'))) : Ev X σ H (.BoolOp .Or (a :: b :: es) p) (Is (.bl (k || k'))) := fun H1 s1 => w_E (pe_or pw_E pw_E) (wE_mono (h H1 s1) fun v H2 ⟨s2, q⟩ => ⟨k, q, by
  cases k with
  | true => rw [if_pos rfl]; exact ⟨s2, rfl⟩
  | false => rw [if_neg Bool.false_ne_true]; exact wE_mono (h' rfl H2 (s1.trans s2)) fun v H3 ⟨s3, q⟩ => ⟨s2.trans s3, q⟩⟩)
theorem ev_not {k : Bool} (h : Ev X σ H a (Is (.bl k))) : Ev X σ H (.UnaryOp .Not a p) (Is (.bl (!k))) := fun H1 s1 => w_E (pe_not pw_E) (wE_mono (h H1 s1) fun v H2 ⟨s2, q⟩ => ⟨k, q, s2, rfl⟩)
theorem ev_if {k : Bool} (h : EvT X σ H c k) (h1 : k = true → Ev X σ H a P) (h2 : k = false → Ev X σ H b P) : Ev X σ H (.IfExp c a b p) P := fun H1 s1 => w_E (pe_ifExp pw_T pw_E pw_E) (wT_mono (h H1 s1) fun v H2 ⟨s2, q⟩ => by
  subst q
  cases v with
  | true => rw [if_pos rfl]; exact wE_mono (h1 rfl H2 (s1.trans s2)) fun v H3 ⟨s3, q⟩ => ⟨s2.trans s3, q⟩
  | false => rw [if_neg Bool.false_ne_true]; exact wE_mono (h2 rfl H2 (s1.trans s2)) fun v H3 ⟨s3, q⟩ => ⟨s2.trans s3, q⟩)
/-! tuples -/
def TupI (xs : List V) : Pd := fun v H => ∃ q, v = .ref q ∧ H q = some (.tup xs)
theorem mono_tup {xs : List V} : Mono (TupI xs) := fun v H H' s ⟨q, e, h⟩ => ⟨q, e, s _ _ h⟩
/-- a new tuple of values told by predicates -/
def TupP (Ps : List Pd) : Pd := fun v H => ∃ q xs, v = .ref q ∧ H q = some (.tup xs) ∧ Pws Ps xs H
theorem same_new {H : Hp} {q : Addr} {o : HO} (h : H q = none) : Same H (upd H q o) := fun b x e => by
  rw [upd_ne (ne_of_none e h)]
  exact e
def Monos : List Pd → Prop
  | [] => True
  | P :: Ps => Mono P ∧ Monos Ps
theorem Pws.mono : ∀ {Ps : List Pd} {vs : List V}, Monos Ps → Same H H' → Pws Ps vs H → Pws Ps vs H'
  | [], _, _, _, h => h
  | P :: Ps, vs, m, s, ⟨v, r, e, h, t⟩ => ⟨v, r, e, m.1 _ _ _ s h, Pws.mono m.2 s t⟩
theorem Pws.len : ∀ {Ps : List Pd} {vs : List V}, Pws Ps vs H → vs.length = Ps.length
  | [], _, h => by subst h; rfl
  | P :: Ps, vs, ⟨v, r, e, h, t⟩ => by subst e; rw [List.length_cons, Pws.len t]; rfl
theorem ev_tup {k : Nat} (h : EvA X σ H es Ps) (m : Monos Ps) (hl : Ps.length ≤ 1000) : Ev X σ H (.Tuple es k p) (TupP Ps) := ev_of (pe_tup pw_A) fun H1 s1 => wA_mono (h H1 s1) fun vs H2 ⟨s2, pv⟩ => ⟨by
  rw [pv.len]
  exact Nat.le_of_lt (small1000 hl), fun q hq => ⟨s2.trans (same_new hq), q, vs, rfl, upd_same, pv.mono m (same_new hq)⟩⟩
def isAll : List V → List Pd := List.map Is
theorem pws_is : ∀ {vs xs : List V}, Pws (isAll xs) vs H → vs = xs
  | vs, [], h => h
  | vs, x :: xs, ⟨v, r, e, h, t⟩ => by
    have h1 : v = x := h
    subst h1 e
    rw [pws_is (xs := xs) t]
theorem monos_is : ∀ {xs : List V}, Monos (isAll xs)
  | [] => True.intro
  | _ :: _ => ⟨mono_is, monos_is⟩
theorem ev_tupI {k : Nat} {xs : List V} (h : EvA X σ H es (isAll xs)) (hl : xs.length ≤ 1000) : Ev X σ H (.Tuple es k p) (TupI xs) := (ev_tup h monos_is (by unfold isAll; rw [List.length_map]; exact hl)).imp fun v H' _ ⟨q, ys, e, h1, h2⟩ => ⟨q, e, by rw [pws_is h2] at h1; exact h1⟩
/-! calls of defs -/
variable {k : Nat} {f : Addr} {fd : FuncData} {ps : List Str} {sp : Sp} {x : Str}
/-- a def of the module -/
structure GDef (X : Cx) (x : Str) (k : Nat) (f : Addr) (fd : FuncData) (ps : List Str) (sp : Sp) : Prop where
  ok : FnOk X.prog X.w X.K X.mg X.base CX0 k f fd ps sp
  room : Room k X.A
  gl : X.mg x = some (.ref f)
  kp : PySem.W.keepIn X.K (.ref f) = true
  bs : Binds X.K fd ps []
theorem ev_call {q : Pos} (g : GDef X x k f fd ps sp) (h : EvA X σ H (e :: es) Ps) (hsp : ∀ vs H2, Same H H2 → Pws Ps vs H2 → sp vs H2 (fun v H3 => Same H2 H3 ∧ P v H3) E0)
    (hm : ∀ vs H2 (Q Q' : VK), (∀ v H', Q v H' → Q' v H') → sp vs H2 Q E0 → sp vs H2 Q' E0) (hg : Gl X x := by rfl)
    (hdb : (x == ("__debug__" : Str)) = false := by decide) (he : starEach (e :: es) X.env = (false, eval e X.env) :: starEach es X.env := by rfl) (hpl : (backTo p (starEach es X.env)).any (·.1) = false := by rfl) :
    Ev X σ H (.Call (.Name x q) (e :: es) [] p) P := ev_of (pe_call g.ok g.room hg g.gl g.kp g.bs .nil pass0 pw_A hdb he hpl) fun H1 s1 => wA_mono (h H1 s1) fun vs H2 ⟨s2, pv⟩ => by
  rw [List.append_nil]
  exact hm _ _ _ _ (fun v H' ⟨s3, pv'⟩ => ⟨s2.trans s3, pv'⟩) (hsp vs H2 (s1.trans s2) pv)
end
end Cb

/-! fractions -/
namespace Cb
/-- what lowest hands back, the way Python reckons it -/
def lowS (o u : Int) : Int := if u < 0 then -((Nat.gcd o.natAbs u.natAbs : Nat) : Int) else ((Nat.gcd o.natAbs u.natAbs : Nat) : Int)
theorem low_pos {o u : Int} (h : 0 < u) : o / lowS o u = (Rat.divInt o u).num ∧ u / lowS o u = ((Rat.divInt o u).den : Int) := by
  unfold lowS
  rw [if_neg (by omega)]
  constructor
  · rw [Rat.num_divInt, Int.sign_eq_one_of_pos h, Int.one_mul, Int.gcd_comm]
    rfl
  · rw [Rat.den_divInt, if_neg (by omega), Int.gcd_comm]
    show u / ((Int.gcd o u : Nat) : Int) = _
    rw [Int.natCast_ediv]
    congr 1
    omega
theorem low_neg {o u : Int} (h : u < 0) : o.fdiv (lowS o u) = (Rat.divInt o u).num ∧ u.fdiv (lowS o u) = ((Rat.divInt o u).den : Int) := by
  unfold lowS
  rw [if_pos h]
  have g1 : ((Int.gcd o u : Nat) : Int) ∣ o := Int.gcd_dvd_left ..
  have g2 : ((Int.gcd o u : Nat) : Int) ∣ u := Int.gcd_dvd_right ..
  have e : ((Nat.gcd o.natAbs u.natAbs : Nat) : Int) = ((Int.gcd o u : Nat) : Int) := rfl
  rw [e]
  constructor
  · rw [Rat.num_divInt, Int.sign_eq_neg_one_of_neg h, Int.gcd_comm u o, Int.fdiv_eq_ediv_of_dvd (Int.neg_dvd.mpr g1), Int.ediv_neg, Int.neg_mul, Int.one_mul, Int.neg_ediv_of_dvd g1]
  · rw [Rat.den_divInt, if_neg (by omega), Int.gcd_comm u o, Int.fdiv_eq_ediv_of_dvd (Int.neg_dvd.mpr g2), Int.ediv_neg, Int.natCast_ediv, ← Int.neg_ediv_of_dvd g2]
    congr 1
    omega
theorem lowS_pos {o u : Int} (h : 0 < u) : 0 < lowS o u ∧ lowS o u ≤ u := by
  unfold lowS
  rw [if_neg (by omega)]
  have g : 0 < Nat.gcd o.natAbs u.natAbs := Nat.gcd_pos_of_pos_right _ (by omega)
  have l : Nat.gcd o.natAbs u.natAbs ≤ u.natAbs := Nat.gcd_le_right _ (by omega)
  omega
theorem lowS_neg {o u : Int} (h : u < 0) : lowS o u < 0 ∧ u ≤ lowS o u := by
  unfold lowS
  rw [if_pos h]
  have g : 0 < Nat.gcd o.natAbs u.natAbs := Nat.gcd_pos_of_pos_right _ (by omega)
  have l : Nat.gcd o.natAbs u.natAbs ≤ u.natAbs := Nat.gcd_le_right _ (by omega)
  omega
/-! sizes -/
def Bd (n : Nat) (r : Rat) : Prop := r.num.natAbs < 2 ^ n ∧ r.den < 2 ^ n
theorem Bd.mono {n m : Nat} {r : Rat} (h : Bd n r) (l : n ≤ m) : Bd m r := ⟨Nat.lt_of_lt_of_le h.1 (Nat.pow_le_pow_right (by decide) l), Nat.lt_of_lt_of_le h.2 (Nat.pow_le_pow_right (by decide) l)⟩
theorem bd_div {o u : Int} {n : Nat} (h : u ≠ 0) (ho : o.natAbs < 2 ^ n) (hu : u.natAbs < 2 ^ n) : Bd n (Rat.divInt o u) := by
  constructor
  · rw [Rat.num_divInt]
    refine Nat.lt_of_le_of_lt ?_ ho
    refine Nat.le_trans (Int.natAbs_ediv_le_natAbs _ _) ?_
    rw [Int.natAbs_mul]
    rcases Int.lt_or_lt_of_ne h with q | q
    · rw [Int.sign_eq_neg_one_of_neg q]; simp
    · rw [Int.sign_eq_one_of_pos q]; simp
  · rw [Rat.den_divInt, if_neg h]
    exact Nat.lt_of_le_of_lt (Nat.div_le_self _ _) hu
theorem den_pos (r : Rat) : (0 : Int) < (r.den : Int) := Int.natCast_pos.mpr r.den_pos
theorem lt_mul {a b : Int} {n m : Nat} (ha : a.natAbs < 2 ^ n) (hb : b.natAbs < 2 ^ m) : (a * b).natAbs < 2 ^ (n + m) := by
  rw [Int.natAbs_mul, Nat.pow_add]
  exact Nat.mul_lt_mul'' ha hb
theorem lt_add {a b : Int} {n : Nat} (ha : a.natAbs < 2 ^ n) (hb : b.natAbs < 2 ^ n) : (a + b).natAbs < 2 ^ (n + 1) := by
  have := Int.natAbs_add_le a b
  rw [Nat.pow_succ]
  omega
theorem lt_sub {a b : Int} {n : Nat} (ha : a.natAbs < 2 ^ n) (hb : b.natAbs < 2 ^ n) : (a - b).natAbs < 2 ^ (n + 1) := by
  have := Int.natAbs_sub_le a b
  rw [Nat.pow_succ]
  omega
theorem add_eq (r q : Rat) : Rat.divInt (r.num * q.den + q.num * r.den) (r.den * q.den : Int) = r + q := by
  rw [Rat.add_def', ← Rat.divInt_ofNat, Int.natCast_mul]
theorem sub_eq (r q : Rat) : Rat.divInt (r.num * q.den - q.num * r.den) (r.den * q.den : Int) = r - q := by
  rw [Rat.sub_def', ← Rat.divInt_ofNat, Int.natCast_mul]
theorem mul_eq (r q : Rat) : Rat.divInt (r.num * q.num) (r.den * q.den : Int) = r * q := by
  rw [Rat.mul_def', ← Rat.divInt_ofNat, Int.natCast_mul]
theorem neg_eq (r : Rat) : Rat.divInt (-r.num) (r.den : Int) = -r := by
  rw [← Rat.neg_divInt, Rat.num_divInt_den]
theorem div_one (o : Int) : Rat.divInt o 1 = (o : Rat) := by
  have h := Rat.num_divInt_den (o : Rat)
  rw [Rat.num_intCast, Rat.den_intCast] at h
  exact h
/-- -1, 0, 1 -/
def cmpR (r q : Rat) : Int := if r < q then -1 else if q < r then 1 else 0
end Cb

/-! built-ins, items, attributes -/
namespace Cb
open PySem PySem.Spec PyProof.Rows L2
section
variable {X : Cx} {e a b c : Expr} {es : List Expr} {σ : L2.St} {H H' : Hp} {pos pos' p p' q : Pos} {P Pa Pb : Pd} {Ps : List Pd} {x : Str} {id : String} {r : List V → Hp → VK → Prop}
def RMono (r : List V → Hp → VK → Prop) : Prop := ∀ vs H (Q Q' : VK), (∀ v H', Q v H' → Q' v H') → r vs H Q → r vs H Q'
theorem ev_cb (hc : CallR X (.builtin id) r) (hm : X.mg x = none) (hv : bootBuiltins x = some (.builtin id)) (h : EvA X σ H (e :: es) Ps) (hr : ∀ vs H2, Same H H2 → Pws Ps vs H2 → r vs H2 (fun v H3 => Same H2 H3 ∧ P v H3)) (mr : RMono r) (hg : Gl X x := by rfl)
    (hn : x ≠ "__name__" := by decide) (hdb : (x == ("__debug__" : Str)) = false := by decide) (he : starEach (e :: es) X.env = (false, eval e X.env) :: starEach es X.env := by rfl) (hpl : (backTo p (starEach es X.env)).any (·.1) = false := by rfl) : Ev X σ H (.Call (.Name x q) (e :: es) [] p) P :=
  ev_of (pe_callB hc hg hm hv pw_A hn hdb he hpl) fun H1 s1 => wA_mono (h H1 s1) fun vs H2 ⟨s2, pv⟩ => mr _ _ _ _ (fun v H' ⟨s3, pv'⟩ => ⟨s2.trans s3, pv'⟩) (hr vs H2 (s1.trans s2) pv)
theorem ev_cty {T : String} (hc : CallR X (.type T) r) (hm : X.mg x = none) (hv : bootBuiltins x = some (.type T)) (h : EvA X σ H (e :: es) Ps) (hr : ∀ vs H2, Same H H2 → Pws Ps vs H2 → r vs H2 (fun v H3 => Same H2 H3 ∧ P v H3)) (mr : RMono r) (hg : Gl X x := by rfl)
    (hn : x ≠ "__name__" := by decide) (hdb : (x == ("__debug__" : Str)) = false := by decide) (he : starEach (e :: es) X.env = (false, eval e X.env) :: starEach es X.env := by rfl) (hpl : (backTo p (starEach es X.env)).any (·.1) = false := by rfl) : Ev X σ H (.Call (.Name x q) (e :: es) [] p) P :=
  ev_of (pe_callTy hc hg hm hv pw_A hn hdb he hpl) fun H1 s1 => wA_mono (h H1 s1) fun vs H2 ⟨s2, pv⟩ => mr _ _ _ _ (fun v H' ⟨s3, pv'⟩ => ⟨s2.trans s3, pv'⟩) (hr vs H2 (s1.trans s2) pv)
theorem ev_cfun (hc : CallR X (.builtin id) r) (hm : X.mg x = some (.builtin id)) (h : EvA X σ H (e :: es) Ps) (hr : ∀ vs H2, Same H H2 → Pws Ps vs H2 → r vs H2 (fun v H3 => Same H2 H3 ∧ P v H3)) (mr : RMono r) (hg : Gl X x := by rfl)
    (hdb : (x == ("__debug__" : Str)) = false := by decide) (he : starEach (e :: es) X.env = (false, eval e X.env) :: starEach es X.env := by rfl) (hpl : (backTo p (starEach es X.env)).any (·.1) = false := by rfl) : Ev X σ H (.Call (.Name x q) (e :: es) [] p) P :=
  ev_of (pe_callBfun hc hg hm pw_A hdb he hpl) fun H1 s1 => wA_mono (h H1 s1) fun vs H2 ⟨s2, pv⟩ => mr _ _ _ _ (fun v H' ⟨s3, pv'⟩ => ⟨s2.trans s3, pv'⟩) (hr vs H2 (s1.trans s2) pv)
theorem ev_gcd {i j : Int} (hm : X.mg "gcd" = some (.builtin "math.gcd")) (h : EvA X σ H [a, b] [Is (.int i), Is (.int j)]) (hg : Gl X "gcd" := by rfl)
    (he : starEach [a, b] X.env = (false, eval a X.env) :: starEach [b] X.env := by rfl) (hpl : (backTo p (starEach [b] X.env)).any (·.1) = false := by rfl) : Ev X σ H (.Call (.Name "gcd" q) [a, b] [] p) (Is (.int ((Nat.gcd i.natAbs j.natAbs : Nat) : Int))) :=
  ev_cfun cr_gcd hm h (fun vs H2 _ ⟨v, r, e, h1, w, r2, e2, h2, h3⟩ => by
    have h1 : v = .int i := h1
    have h2 : w = .int j := h2
    have h3 : r2 = [] := h3
    subst h1 h2 h3 e2 e
    exact ⟨i, j, rfl, .refl _, rfl⟩) (fun vs H Q Q' k ⟨i, j, e, q⟩ => ⟨i, j, e, k _ _ q⟩) hg (by decide) he hpl
theorem ev_isi {t : Value} {T : String} {k : Bool} {P : Pd} (m : X.mg "isinstance" = none) (ha : Ev X σ H a P) (mP : Mono P) (hb : Ev X σ H b (Is (.ty T))) (ty : ∀ x H', P x H' → TyX X.K H' x t) (kk : PySem.W.kitOne X.K t (.type T) = some k) (hg : Gl X "isinstance" := by rfl)
    (h1 : starEach [a, b] X.env = (false, eval a X.env) :: starEach [b] X.env := by rfl) (h2 : starEach [b] X.env = (false, eval b X.env) :: starEach [] X.env := by rfl) (hpl : (backTo p (starEach [b] X.env)).any (·.1) = false := by rfl) : Ev X σ H (.Call (.Name "isinstance" q) [a, b] [] p) (Is (.bl k)) :=
  ev_of (pe_callB call_isi hg m (by decide +kernel) (pa_cons pw_E (pa_cons pw_E pa_nil h2) h1) (he := h1) (hpl := hpl)) fun H1 s1 => wE_mono (ha H1 s1) fun x H2 ⟨s2, px⟩ => wE_mono (hb H2 (s1.trans s2)) fun y H3 ⟨s3, py⟩ =>
    ⟨x, y, t, .type T, k, rfl, by cases py; exact .ty T, ty _ _ (mP _ _ _ s3 px), kk, s2.trans s3, rfl⟩
/-- isinstance(x, C), C an own class -/
theorem ev_isiC {C : Addr} {t : Value} {k : Bool} {P : Pd} (m : X.mg "isinstance" = none) (ha : Ev X σ H a P) (mP : Mono P) (hb : Ev X σ H b (Is (.ref C))) (ty : ∀ x H', P x H' → TyX X.K H' x t) (kk : PySem.W.kitOne X.K t (.ref C) = some k) (hg : Gl X "isinstance" := by rfl)
    (h1 : starEach [a, b] X.env = (false, eval a X.env) :: starEach [b] X.env := by rfl) (h2 : starEach [b] X.env = (false, eval b X.env) :: starEach [] X.env := by rfl) (hpl : (backTo p (starEach [b] X.env)).any (·.1) = false := by rfl) : Ev X σ H (.Call (.Name "isinstance" q) [a, b] [] p) (Is (.bl k)) :=
  ev_of (pe_callB call_isi hg m (by decide +kernel) (pa_cons pw_E (pa_cons pw_E pa_nil h2) h1) (he := h1) (hpl := hpl)) fun H1 s1 => wE_mono (ha H1 s1) fun x H2 ⟨s2, px⟩ => wE_mono (hb H2 (s1.trans s2)) fun y H3 ⟨s3, py⟩ =>
    ⟨x, y, t, .ref C, k, rfl, by cases py; exact .own C, ty _ _ (mP _ _ _ s3 px), kk, s2.trans s3, rfl⟩
/-! // of any kind -/
def CDivA (_ j : Int) : Prop := (0 < j ∧ j.natAbs.log2 < 9000) ∨ (j ≠ 0 ∧ j.natAbs < 1073741824)
theorem op_fdivA : OpR X (binaryOp .FloorDiv) (rI CDivA fun i j => .int (i.fdiv j)) := opI fun i j _ _ _ _ _ hc q => by
  rcases hc with hc | hc
  · exact floordiv_int (by omega) q (.inl (PyProof.noPylong_of_log2 hc.2))
  · exact floordiv_int hc.1 q (.inl (PyProof.noPylong_small hc.2))
/-! items of a tuple -/
theorem ev_ixT {xs : List V} {i : Int} {v : V} (ho : Ev X σ H a (TupI xs)) (hi : Ev X σ H b (Is (.int i))) (ha : atI xs i = some v) (hs : PlainIxT b := by exact fun _ _ => rfl) : Ev X σ H (.Subscript a b p) (Is v) :=
  ev_of (pe_ix ix_tup pw_E pw_E hs) fun H1 s1 => wE_mono (ho H1 s1) fun x H2 ⟨s2, q, ex, hq⟩ => wE_mono (hi H2 (s1.trans s2)) fun y H3 ⟨s3, py⟩ =>
    ⟨q, xs, i, v, ex, py, .of (s3 _ _ hq), ha, s2.trans s3, rfl⟩
/-! attributes -/
def Ins (C : Addr) (fs : List (Str × V)) : Pd := fun v H => ∃ a dx, v = .ref a ∧ H a = some (.ins C dx fs)
theorem mono_ins {C : Addr} {fs : List (Str × V)} : Mono (Ins C fs) := fun v H H' s ⟨a, dx, e, h⟩ => ⟨a, dx, e, s _ _ h⟩
theorem ev_fld {C : Addr} {fs : List (Str × V)} {f : Str} {v : V} (c : Cls X.K C) (n : NoAttr X.K C f) (ho : Ev X σ H a (Ins C fs)) (hl : fs.lookup f = some v) (hb : attributeBase a f X.env (eval a X.env) = eval a X.env := by rfl) : Ev X σ H (.Attribute a f p) (Is v) :=
  ev_of (pe_fld pw_E hb) fun H1 s1 => wE_mono (ho H1 s1) fun x H2 ⟨s2, q, dx, ex, hq⟩ => ⟨q, C, dx, fs, v, ex, hq, c, n, hl, s2, rfl⟩
/-! defs as conditions on the call -/
theorem EvA.one {v : V} (h : Ev X σ H e (Is v)) (hs : starEach [e] X.env = (false, eval e X.env) :: starEach [] X.env := by rfl) : EvA X σ H [e] (isAll [v]) := ea_cons h mono_is ea_nil hs
theorem ea_1 {P : Pd} (h : Ev X σ H a P) (m : Mono P) (hs : starEach [a] X.env = (false, eval a X.env) :: starEach [] X.env := by rfl) : EvA X σ H [a] [P] := ea_cons h m ea_nil hs
theorem ea_2 {P P' : Pd} (h : Ev X σ H a P) (m : Mono P) (h' : Ev X σ H b P') (m' : Mono P') (hs : starEach [a, b] X.env = (false, eval a X.env) :: starEach [b] X.env := by rfl) (hs' : starEach [b] X.env = (false, eval b X.env) :: starEach [] X.env := by rfl) : EvA X σ H [a, b] [P, P'] := ea_cons h m (ea_1 h' m' hs') hs
theorem ea_3 {P P' P'' : Pd} (h : Ev X σ H a P) (m : Mono P) (h' : Ev X σ H b P') (m' : Mono P') (h'' : Ev X σ H c P'') (m'' : Mono P'') (hs : starEach [a, b, c] X.env = (false, eval a X.env) :: starEach [b, c] X.env := by rfl) (hs' : starEach [b, c] X.env = (false, eval b X.env) :: starEach [c] X.env := by rfl)
    (hs'' : starEach [c] X.env = (false, eval c X.env) :: starEach [] X.env := by rfl) : EvA X σ H [a, b, c] [P, P', P''] := ea_cons h m (ea_2 h' m' h'' m'' hs' hs'') hs
theorem Pws.one {P : Pd} {vs : List V} (h : Pws [P] vs H) : ∃ v, vs = [v] ∧ P v H := by
  obtain ⟨v, r, rfl, h1, h2⟩ := h
  have h2 : r = [] := h2
  subst h2
  exact ⟨v, rfl, h1⟩
theorem Pws.two {P P' : Pd} {vs : List V} (h : Pws [P, P'] vs H) : ∃ v w, vs = [v, w] ∧ P v H ∧ P' w H := by
  obtain ⟨v, r, rfl, h1, h2⟩ := h
  obtain ⟨w, rfl, h3⟩ := h2.one
  exact ⟨v, w, rfl, h1, h3⟩
theorem Pws.three {P P' P'' : Pd} {vs : List V} (h : Pws [P, P', P''] vs H) : ∃ u v w, vs = [u, v, w] ∧ P u H ∧ P' v H ∧ P'' w H := by
  obtain ⟨v, r, rfl, h1, h2⟩ := h
  obtain ⟨u, w, rfl, h3, h4⟩ := h2.two
  exact ⟨v, u, w, rfl, h1, h3, h4⟩
/-- a promise that is monotone in what is wanted -/
def SpMono (sp : Sp) : Prop := ∀ vs H2 (Q Q' : VK), (∀ v H', Q v H' → Q' v H') → sp vs H2 Q E0 → sp vs H2 Q' E0
/-- pure promise: from the arguments (that A holds of them) a value of which R holds; A and R over a datum -/
def spP {α : Type} (A : α → List V → Hp → Prop) (R : α → Pd) : Sp := fun vs H Q _ => ∃ d : α, A d vs H ∧ ∀ v H', Same H H' → R d v H' → Q v H'
theorem spP_mono {α : Type} {A : α → List V → Hp → Prop} {R : α → Pd} : SpMono (spP A R) := fun vs H Q Q' k ⟨d, h, q⟩ => ⟨d, h, fun v H' s r => k _ _ (q v H' s r)⟩
theorem ev_callP {α : Type} {A : α → List V → Hp → Prop} {R : α → Pd} {k : Nat} {f : Addr} {fd : FuncData} {ps : List Str} (d : α) (g : GDef X x k f fd ps (spP A R)) (h : EvA X σ H (e :: es) Ps) (hA : ∀ vs H2, Same H H2 → Pws Ps vs H2 → A d vs H2) (hg : Gl X x := by rfl)
    (hdb : (x == ("__debug__" : Str)) = false := by decide) (he : starEach (e :: es) X.env = (false, eval e X.env) :: starEach es X.env := by rfl) (hpl : (backTo p (starEach es X.env)).any (·.1) = false := by rfl) :
    Ev X σ H (.Call (.Name x q) (e :: es) [] p) (R d) := ev_call g h (fun vs H2 s pv => ⟨d, hA vs H2 s pv, fun v H' s' r => ⟨s', r⟩⟩) spP_mono hg hdb he hpl
end
end Cb

/-! a dict of four texts; rules for dicts, lists -/
namespace Cb
open PySem PySem.Spec PyProof.Rows L2
abbrev Kc : Key := .inr "cells"
abbrev Kn : Key := .inr "next"
abbrev Kr : Key := .inr "rest"
abbrev Kd : Key := .inr "draws"
theorem kcn : ¬ Kc = Kn := by decide +kernel
theorem kcr : ¬ Kc = Kr := by decide +kernel
theorem kcd : ¬ Kc = Kd := by decide +kernel
theorem knr : ¬ Kn = Kr := by decide +kernel
theorem knd : ¬ Kn = Kd := by decide +kernel
theorem krd : ¬ Kr = Kd := by decide +kernel
theorem scn : ¬ (Str.ofString "cells" = Str.ofString "next") := by decide +kernel
theorem scr : ¬ (Str.ofString "cells" = Str.ofString "rest") := by decide +kernel
theorem scd : ¬ (Str.ofString "cells" = Str.ofString "draws") := by decide +kernel
theorem snc : ¬ (Str.ofString "next" = Str.ofString "cells") := by decide +kernel
theorem snr : ¬ (Str.ofString "next" = Str.ofString "rest") := by decide +kernel
theorem snd : ¬ (Str.ofString "next" = Str.ofString "draws") := by decide +kernel
theorem src : ¬ (Str.ofString "rest" = Str.ofString "cells") := by decide +kernel
theorem srn : ¬ (Str.ofString "rest" = Str.ofString "next") := by decide +kernel
theorem srd : ¬ (Str.ofString "rest" = Str.ofString "draws") := by decide +kernel
theorem sdc : ¬ (Str.ofString "draws" = Str.ofString "cells") := by decide +kernel
theorem sdn : ¬ (Str.ofString "draws" = Str.ofString "next") := by decide +kernel
theorem sdr : ¬ (Str.ofString "draws" = Str.ofString "rest") := by decide +kernel
def kv4 (c nx rs dr : V) : List (Key × V) := [(Kc, c), (Kn, nx), (Kr, rs), (Kd, dr)]
theorem kv4_c (c nx rs dr : V) : valV (kv4 c nx rs dr) Kc = some c := valV_pos rfl
theorem kv4_n (c nx rs dr : V) : valV (kv4 c nx rs dr) Kn = some nx := (valV_neg kcn).trans (valV_pos rfl)
theorem kv4_r (c nx rs dr : V) : valV (kv4 c nx rs dr) Kr = some rs := (valV_neg kcr).trans ((valV_neg knr).trans (valV_pos rfl))
theorem kv4_d (c nx rs dr : V) : valV (kv4 c nx rs dr) Kd = some dr := (valV_neg kcd).trans ((valV_neg knd).trans ((valV_neg krd).trans (valV_pos rfl)))
theorem kv4_putD (c nx rs dr z : V) : putK (kv4 c nx rs dr) Kd z = kv4 c nx rs z := by
  simp [putK, kv4, scn, scr, scd, snc, snr, snd, src, srn, srd, sdc, sdn, sdr]
theorem kv4_putR (c nx rs dr z : V) : putK (kv4 c nx rs dr) Kr z = kv4 c nx z dr := by
  simp [putK, kv4, scn, scr, scd, snc, snr, snd, src, srn, srd, sdc, sdn, sdr]
theorem kv4_putN (c nx rs dr z : V) : putK (kv4 c nx rs dr) Kn z = kv4 c z rs dr := by
  simp [putK, kv4, scn, scr, scd, snc, snr, snd, src, srn, srd, sdc, sdn, sdr]
theorem kv4_len (c nx rs dr : V) : (kv4 c nx rs dr).length < sizeLine := by
  show 4 < sizeLine
  decide
theorem kv4_merge (c nx rs dr : V) : mergeK [] (kv4 c nx rs dr) = kv4 c nx rs dr := by
  simp [mergeK, kv4, putK, scn, scr, scd, snc, snr, snd, src, srn, srd, sdc, sdn, sdr]
section
variable {X : Cx} {e a b c o i value : Expr} {es : List Expr} {sts : List Stmt} {σ : L2.St} {H H' : Hp} {pos pos' p p' : Pos} {D : Ends} {P Pa Pb : Pd}
theorem ev_dget {d : Addr} {kvs : List (Key × V)} {k : Key} {v : V} (hu : X.A.units + 1 < cLine) (ho : Ev X σ H o (Is (.ref d))) (hi : Ev X σ H i (Is (kV k))) (hd : H d = some (.dK kvs)) (hv : valV kvs k = some v) (hs : NoSl i := by exact fun _ _ => rfl) : Ev X σ H (.Subscript o i p) (Is v) :=
  ev_of (pe_dget hu pw_E pw_E hs) fun H1 s1 => wE_mono (ho H1 s1) fun x H2 ⟨s2, px⟩ => wE_mono (hi H2 (s1.trans s2)) fun y H3 ⟨s3, py⟩ => by
    cases px
    cases py
    refine ⟨d, v, rfl, ?_, s2.trans s3, rfl⟩
    rw [← hv]
    exact DGet.k (s3 _ _ (s2 _ _ (s1 _ _ hd)))
theorem b_dput {d : Addr} {kvs : List (Key × V)} {k : Key} {v : V} (hu : X.A.units + 1 < cLine) (hv : Ev X σ H value (Is v)) (ho : Ev X σ H o (Is (.ref d))) (hi : Ev X σ H i (Is (kV k))) (hd : H d = some (.dK kvs)) (hl : kvs.length < sizeLine)
    (kk : ∀ H', Same H H' → wB X sts D σ (upd H' d (.dK (putK kvs k v)))) (hs : swapsWith value (some (.Subscript o i pos')) pos.line X.env = pure false := by rfl) : wB X (.Assign [.Subscript o i pos'] value pos :: sts) D σ H :=
  b_cons (w_S (ps_dput hu pw_E pw_E pw_E hs) (wE_mono (hv H (.refl _)) fun z H1 ⟨s1, pz⟩ => wE_mono (ho H1 s1) fun x H2 ⟨s2, px⟩ => wE_mono (hi H2 (s1.trans s2)) fun y H3 ⟨s3, py⟩ => by
    cases pz
    cases px
    cases py
    have s := (s1.trans s2).trans s3
    exact ⟨d, _, rfl, DPut.k (s _ _ hd) hl, kk H3 s⟩))
/-- len of a tracked list -/
theorem ev_lenL {q : Addr} {xs : List V} (hm : X.mg "len" = none) (ha : Ev X σ H a (Is (.ref q))) (hq : H q = some (.lst xs)) (hg : Gl X "len" := by rfl) (hs : starEach [a] X.env = (false, eval a X.env) :: starEach [] X.env := by rfl) (hpl : (backTo p (starEach [] X.env)).any (·.1) = false := by rfl) : Ev X σ H (.Call (.Name "len" p') [a] [] p) (Is (.int (xs.length : Int))) :=
  ev_cb call_len hm PySem.boot_len (ea_1 ha mono_is hs) (fun vs H2 s h => by
    obtain ⟨v, rfl, e⟩ := h.one
    cases e
    exact ⟨_, _, rfl, .inl ⟨_, SqL.of (s _ _ hq), rfl⟩, .refl _, rfl⟩) (fun vs H2 Q Q' k ⟨x, n, e, h, q⟩ => ⟨x, n, e, h, k _ _ q⟩) hg (by decide) (by decide) hs hpl
theorem ev_ixL {q : Addr} {xs : List V} {j : Int} {v : V} (ho : Ev X σ H a (Is (.ref q))) (hi : Ev X σ H b (Is (.int j))) (hq : H q = some (.lst xs)) (ha : atI xs j = some v) (hs : PlainIxT b := by exact fun _ _ => rfl) : Ev X σ H (.Subscript a b p) (Is v) :=
  ev_of (pe_ix ix_list pw_E pw_E hs) fun H1 s1 => wE_mono (ho H1 s1) fun x H2 ⟨s2, ex⟩ => wE_mono (hi H2 (s1.trans s2)) fun y H3 ⟨s3, py⟩ => by
    cases ex
    cases py
    exact ⟨q, xs, j, v, rfl, rfl, .of (s3 _ _ (s2 _ _ (s1 _ _ hq))), ha, s2.trans s3, rfl⟩
/-- a new list -/
def LstI (xs : List V) : Pd := fun v H => ∃ q, v = .ref q ∧ H q = some (.lst xs)
theorem mono_lst {xs : List V} : Mono (LstI xs) := fun v H H' s ⟨q, e, h⟩ => ⟨q, e, s _ _ h⟩
theorem ev_lstI {xs : List V} (h : EvA X σ H es (isAll xs)) (hl : xs.length ≤ 1000) : Ev X σ H (.List es p) (LstI xs) := ev_of (pe_lst pw_A) fun H1 s1 => wA_mono (h H1 s1) fun vs H2 ⟨s2, pv⟩ => by
  rw [pws_is pv]
  exact ⟨Nat.le_of_lt (small1000 hl), fun q hq => ⟨s2.trans (same_new hq), q, rfl, upd_same⟩⟩
/-- == and != of data -/
theorem c_eqD {Pa Pb : Pd} {d e' : PyData} (hu : X.A.units + 64 < cLine) (ha : Ev X σ H a Pa) (hb : Ev X σ H b Pb) (ma : Mono Pa) (da : ∀ x H', Same H H' → Pa x H' → Dp X.K H' x d) (db : ∀ x H', Same H H' → Pb x H' → Dp X.K H' x e') (sd : SeqAt.shaped d = true) (se : SeqAt.shaped e' = true) (hm : behindInMarks .Eq b = false := by exact nomark _) : CC X σ H .Eq a b (.bl (PyData.eqv d e')) :=
  ⟨_, _, _, op_eqD hu, hm, ha, hb, ma, fun x y H2 s px py => ⟨d, e', da x H2 s px, db y H2 s py, sd, se, .refl _, rfl⟩, fun x y H2 Q Q' k ⟨d, e, h1, h2, h3, h4, q⟩ => ⟨d, e, h1, h2, h3, h4, k _ _ q⟩⟩
theorem c_neD {Pa Pb : Pd} {d e' : PyData} (hu : X.A.units + 64 < cLine) (ha : Ev X σ H a Pa) (hb : Ev X σ H b Pb) (ma : Mono Pa) (da : ∀ x H', Same H H' → Pa x H' → Dp X.K H' x d) (db : ∀ x H', Same H H' → Pb x H' → Dp X.K H' x e') (sd : SeqAt.shaped d = true) (se : SeqAt.shaped e' = true) (hm : behindInMarks .NotEq b = false := by exact nomark _) : CC X σ H .NotEq a b (.bl (!PyData.eqv d e')) :=
  ⟨_, _, _, op_neD hu, hm, ha, hb, ma, fun x y H2 s px py => ⟨d, e', da x H2 s px, db y H2 s py, sd, se, .refl _, rfl⟩, fun x y H2 Q Q' k ⟨d, e, h1, h2, h3, h4, q⟩ => ⟨d, e, h1, h2, h3, h4, k _ _ q⟩⟩
theorem dp_ints {K : PySem.W.Frag} {H : Hp} : ∀ ns : List Int, DpAll K H (ns.map V.int) (ns.map PyData.int)
  | [] => .nil
  | n :: ns => .cons (.int n) (dp_ints ns)
theorem eqv_nil (ns : List Int) : PyData.eqv (.list (ns.map PyData.int)) (.list []) = ns.isEmpty := by
  cases ns with
  | nil => rfl
  | cons n ns => rfl
theorem canLay_ints : ∀ ns : List Int, PyData.canLayAll0 (ns.map PyData.int) = true
  | [] => rfl
  | n :: ns => by
    show (PyData.canLay0 (.int n) && PyData.canLayAll0 (ns.map PyData.int)) = true
    rw [canLay_ints ns]
    rfl
theorem depth_ints : ∀ ns : List Int, PyData.depthAll (ns.map PyData.int) = 0
  | [] => rfl
  | n :: ns => by
    show max (PyData.depth (.int n)) (PyData.depthAll (ns.map PyData.int)) = 0
    rw [depth_ints ns]
    rfl
theorem shaped_ints (ns : List Int) : SeqAt.shaped (.list (ns.map PyData.int)) = true := by
  show (PyData.canLayAll0 (ns.map PyData.int) && decide (PyData.depthAll (ns.map PyData.int) + 1 ≤ 64)) = true
  rw [canLay_ints, depth_ints]
  rfl
end
end Cb

namespace Cb
open PySem PySem.Spec PyProof.Rows L2
/-! ### loops and comprehensions -/
section
variable {X : Cx} {e a b c : Expr} {es : List Expr} {σ : L2.St} {H H' : Hp} {p p' pos : Pos} {D : Ends} {P : Pd} {sts body : List Stmt} {tg iter : Expr}
theorem for_enum {K : PySem.W.Frag} {a : Addr} {xs : List V} {g : TG} {tb : TS} {D : Ends} {σ : L2.St} {H : Hp} (Pv : Nat → L2.St → Hp → Prop) (h0 : Pv 0 σ H) (hl : ∀ i σ H, i ≤ xs.length → Pv i σ H → SqL K H a xs)
    (hs : ∀ i x σ H T, xs[i]? = some x → Pv i σ H → H T = none → g (.ref T) σ (upd H T (.tup [.int (i : Nat), x])) fun σ2 H2 => tb { D with nx := Pv (i + 1), ct := Pv (i + 1), bk := D.nx } σ2 H2) (hd : ∀ σ H, Pv xs.length σ H → D.nx σ H) :
    ∃ W : Nat → Nat → L2.St → Hp → Prop, (∃ m, W 0 m σ H) ∧ ∀ i m σ H, W i m σ H →
      ((Ite K a).stop i H ∧ D.nx σ H) ∨ ((Ite K a).go i H ∧ ∃ N : L2.St → Hp → Prop, (∀ σ' H', N σ' H' → ∃ m', m' < m ∧ W (i + 1) m' σ' H') ∧ ∀ x H', (Ite K a).yld i H x H' → g x σ H' fun σ2 H2 => tb { D with nx := N, ct := N, bk := D.nx } σ2 H2) := by
  refine ⟨fun i m σ H => m = xs.length - i ∧ i ≤ xs.length ∧ Pv i σ H, ⟨xs.length, by simp, Nat.zero_le _, h0⟩, ?_⟩
  rintro i m σ H ⟨rfl, hi, p⟩
  have q := hl i σ H hi p
  by_cases hlt : i < xs.length
  · refine .inr ⟨⟨xs, xs[i], q, by simp [hlt]⟩, Pv (i + 1), fun σ' H' p' => ⟨xs.length - (i + 1), by omega, rfl, hlt, p'⟩, fun v H' y => ?_⟩
    obtain ⟨T, x, rfl, hT, rfl, y⟩ := y
    exact hs i x σ H T (y xs q) p hT
  · have e : i = xs.length := by omega
    subst e
    exact .inl ⟨⟨xs, q, Nat.le_refl _⟩, hd σ H p⟩
theorem b_for {wi : TI} {g : TG} (hc : X.calm = true) (hi : PI X tg iter wi) (hg : PG X tg g) (h : tFor wi g (wB X body) { D with nx := wB X sts D } σ H) (hp : PassesOwn (model X.prog X.w) X.A X.env X.xe)
    (hs : ∀ x, foldedSetIterable iter X.env x = pure x := by intro _; rfl) : wB X (.For tg iter body [] pos :: sts) D σ H := b_cons (w_S (ps_for hp hc hi hg pw_B hs) h)
/-- the element, the test of a comprehension -/
def wEb (X : Cx) (scope : Scope) (elt : Expr) : TE := fun σ H Q => ∀ (s : Shared) (H0 : Hp) (C : Addr) (cl : List (Str × Addr)) (fp : List Addr), wE (X.blk s H0 scope (compEnvC scope cl C X.env) fp) elt σ H Q
def wTb (X : Cx) (scope : Scope) (c : Expr) : TT := fun σ H Q => ∀ (s : Shared) (H0 : Hp) (C : Addr) (cl : List (Str × Addr)) (fp : List Addr), wT (X.blk s H0 scope (compEnvC scope cl C X.env) fp) c σ H Q
theorem pw_Eb {scope : Scope} {elt : Expr} (s : Shared) (H : Hp) (C : Addr) (cl : List (Str × Addr)) (fp : List Addr) : PE (X.blk s H scope (compEnvC scope cl C X.env) fp) elt (wEb X scope elt) := ⟨fun pins s1 σ H1 Q I h => wE.run (h s H C cl fp) pins s1 I⟩
theorem pw_Tb {scope : Scope} {c : Expr} (s : Shared) (H : Hp) (C : Addr) (cl : List (Str × Addr)) (fp : List Addr) : PTs (X.blk s H scope (compEnvC scope cl C X.env) fp) [c] (wTb X scope c) := pts_one ⟨fun pins s1 σ H1 Q I h => wT.run (h s H C cl fp) pins s1 I⟩
/-- an item of a tracked list, told by a predicate -/
theorem ev_ixLP {q : Addr} {xs : List V} {j : Nat} {v : V} (ho : Ev X σ H a (Is (.ref q))) (hi : Ev X σ H b (Is (.int (j : Int)))) (hq : H q = some (.lst xs)) (ha : xs[j]? = some v) (hP : P v H) (m : Mono P) (hs : PlainIxT b := by exact fun _ _ => rfl) : Ev X σ H (.Subscript a b p) P :=
  (ev_ixL ho hi hq (atI_nat ha) hs).imp fun w H' s e => by
    cases e
    exact m _ _ _ s hP
end
end Cb

/-! defs that run where no guard stands on the stack: so that repr of nested data can be asked -/
namespace Cb
open PySem PySem.Spec PyProof.Rows L2
structure FnG (P : Program) (w : World) (K : PySem.W.Frag) (mg : Str → Option Value) (base : Heap) (k : Nat) (f : Addr) (fd : FuncData) (ps : List Str) (sp : Sp) : Prop where
  arity : ∀ {vs H Q E}, sp vs H Q E → vs.length = ps.length
  go : ∀ {A : Around} {out : List Env} {st : Shared} {H : Hp} {ar : Args} {us : List Value} {vs : List V} {Q : VK} {E : XK}, A.guards = some [] → Room k A → Env0 P w K mg base A out st H →
    BindsTo st fd ar (ps.zip us) → Vals vs us → sp vs H Q E → codeAny (model P w) A (.call (.ref f) ar) (CR CX0 out P w H st Q E) st
section
variable {P : Program} {w : World} {K : PySem.W.Frag} {mg : Str → Option Value} {base : Heap} {k : Nat} {f : Addr} {fd : FuncData} {ps : List Str} {sp : Sp}
theorem FnG.of (F : FnOk P w K mg base CX0 k f fd ps sp) : FnG P w K mg base k f fd ps sp := ⟨fun h => F.len _ _ _ _ h, fun _ hr e b r h => F.run _ _ _ _ _ _ _ _ _ hr e b r h⟩
theorem guards_deeper {A : Around} {env : Env} (g : A.guards = some []) : (A.deeper env).guards = some [] := g
theorem okG {x qual : Str} {st : Stmt} {N : List Str} (F : Fun K x qual st f fd) (S : FnScope N ps (defScope st)) (ar : ∀ {vs H Q E}, sp vs H Q E → vs.length = ps.length)
    (body : ∀ (cdv : Value) (A : Around) (out : List Env) (s : Shared) (H : Hp) (vs : List V) (Q : VK) (E : XK), A.guards = some [] → Room k (A.deeper (envOfC qual (defScope st) s.heap.objs.size f cdv)) → sp vs H Q E →
      wB (cxOf CX0 P w K mg base N qual (defScope st) f cdv A out s H E).nox (defBody st) { nx := fun _ H' => Q .non H', rt := Q } (start N vs) H) : FnG P w K mg base (k + 1) f fd ps sp := by
  obtain ⟨oc, od, kV, doc, pm, an, cdv, ct, osl, rfl, look, isCode⟩ := F.ex
  refine ⟨ar, fun {A out s H ags us vs Q E} gd room ev bnd rel want => ?_⟩
  have inK : K.In s.heap := ev.mod.kin.keeps fun b o z => (ev.bs b o z).1
  have noLim : s.heap.NoLimit := ev.mod.nolimit.keeps fun b o z => (ev.bs b o z).1
  have kinds : ∀ y ∈ ps.zip us, (defScope st).names.lookup y.1 = some .local ∨ ((defScope st).names.lookup y.1 = some .cell ∧ ((cellsFrom (s.heap.objs.size + 1) (defScope st).names []).lookup y.1).isSome = true) := by
    rintro ⟨n, v⟩ hy
    cases S.par n (List.of_mem_zip hy).1 with
    | inl q => exact .inl q
    | inr q => exact .inr ⟨q, PySem.W.cellsFrom_some _ _ _ (.inl q)⟩
  apply codeAny_call_function (o := ⟨oc, od, .func _, osl⟩) room.depth (inK _ _ look) rfl S.co S.gen rfl (PySem.W.codeRec_of inK isCode)
  apply bnd
  apply wpAny_newFunctionEnv_cells S.kind kinds
  intro env he s1 x
  subst he
  refine ⟨noLim.keeps x.toInCall.keep, codeAny_func ?_⟩
  have J := inv_start (CX := CX0) (N := N) (E := E) S room.hd ev (ar want) rel x
  have main := PSs.nox (st := defBody st) (X := cxOf CX0 P w K mg base N qual (defScope st) f cdv A out s H E) pw_B
  refine wpAny_mono (main.run [] s1 _ H _ J (body cdv A out s H vs Q E gd (room.deeper _) want)) (fun fl s' z => ?_) (fun e s' z => z)
  match fl, z with
  | .ret u, ⟨v, _, H', I', rv, q⟩ => exact ⟨v, H', I'.os, I'.bare, I'.base, I'.hok, rv, q⟩
  | .next, ⟨_, H', I', q⟩ => exact ⟨.non, H', I'.os, I'.bare, I'.base, I'.hok, rfl, q⟩
  | .brk, ⟨_, _, _, q⟩ => exact q.elim
  | .cont, ⟨_, _, _, q⟩ => exact q.elim
end
section
variable {X : Cx} {k : Nat} {f : Addr} {fd : FuncData} {ps : List Str} {sp : Sp} {x : Str} {p pos : Pos} {e : Expr} {es : List Expr} {σ : L2.St} {H : Hp} {Ps : List Pd} {P : Pd}
/-- a def of the module, called where no guard stands -/
structure GDefG (X : Cx) (x : Str) (k : Nat) (f : Addr) (fd : FuncData) (ps : List Str) (sp : Sp) : Prop where
  ok : FnG X.prog X.w X.K X.mg X.base k f fd ps sp
  gd : X.A.guards = some []
  room : Room k X.A
  gl : X.mg x = some (.ref f)
  kp : PySem.W.keepIn X.K (.ref f) = true
  bs : Binds X.K fd ps []
theorem runG {pins : List (Addr × Obj)} {s : Shared} {Q : VK} {us : List Value} {vs : List V} (g : GDefG X x k f fd ps sp) (I : Inv X pins σ H s) (r : Vals vs us) (h : sp vs H Q E0) : wpAny (model X.prog X.w) X.A (call (.ref f) us) (EP X pins σ Q) X.xe s := by
  have bnd := g.bs s us I.kIn (by rw [List.append_nil, ← r.length]; exact g.ok.arity h)
  rw [List.append_nil] at bnd
  refine wpAny_call (codeAny_mono (g.ok.go g.gd g.room I.env0 bnd r h) ?_)
  rintro (z | fl) s' q
  · exact False.elim q
  · match fl, q with
    | .ret u, q => exact I.after q
theorem w_callG {Q : VK} (g : GDefG X x k f fd ps sp) (h : wA X (e :: es) σ H fun vs H1 => sp vs H1 Q E0) (hg : Gl X x := by rfl)
    (hdb : (x == ("__debug__" : Str)) = false := by decide) (he : starEach (e :: es) X.env = (false, eval e X.env) :: starEach es X.env := by rfl) (hpl : (backTo pos (starEach es X.env)).any (·.1) = false := by rfl) : wE X (.Call (.Name x p) (e :: es) [] pos) σ H Q := by
  refine wE_i fun pins s I => ?_
  apply wpAny_Call_Name_kw
  apply ld_glob I hg g.gl _ hdb
  apply PySem.W.callWith_K (h₀ := X.base) I.ok.mod.kin g.kp _ he hpl
  exact thn (wA.run h _ pins s I) fun us s1 ⟨vs, H1, I1, r, q⟩ => ⟨I1.kIn, runG g I1 r q⟩
/-! ### repr of data -/
def rReprD (K : PySem.W.Frag) : List V → Hp → VK → Prop := fun vs H Q => ∃ (a : Addr) (d : PyData), vs = [.ref a] ∧ Dp K H (.ref a) d ∧ d.showable = true ∧ d.hasDict = false ∧ d.depth ≤ 60 ∧ d.shown.length ≤ sizeLine ∧ Q (.str d.shown) H
theorem call_reprD (gd : X.A.guards = some []) (hu : X.A.units + 64 < cLine) : CallR X (.builtin "repr") (rReprD X.K) := by
  rintro pins s σ H xs us Q I rv ⟨a, d, rfl, hd, hs, hn, hp, hz, q⟩
  cases rv with
  | cons r rest =>
    cases rest
    obtain ⟨as, r1⟩ := Dp.reads I d _ _ hd r
    obtain rfl := r
    exact repr_of_reads' r1 hs (fun z => by rw [hn] at z; cases z) gd (by omega) (fun _ _ z => z) (fun h' u tk kp => ⟨.str d.shown, H, I.kept kp, ⟨u, rfl⟩, q⟩) hz
theorem ev_repr {d : PyData} (gd : X.A.guards = some []) (hu : X.A.units + 64 < cLine) (hm : X.mg "repr" = none) (ha : Ev X σ H e P) (mP : Mono P) (hd : ∀ v H', Same H H' → P v H' → Dp X.K H' v d ∧ ∃ a, v = .ref a) (hs : d.showable = true) (hn : d.hasDict = false) (hp : d.depth ≤ 60) (hz : d.shown.length ≤ sizeLine)
    (hg : Gl X "repr" := by rfl) (he : starEach [e] X.env = (false, eval e X.env) :: starEach [] X.env := by rfl) (hpl : (backTo pos (starEach [] X.env)).any (·.1) = false := by rfl) : Ev X σ H (.Call (.Name "repr" p) [e] [] pos) (Is (.str d.shown)) :=
  ev_cb (call_reprD gd hu) hm (by decide +kernel) (ea_1 ha mP he) (fun vs H2 s pv => by
    obtain ⟨v, rfl, h⟩ := pv.one
    obtain ⟨h1, a, rfl⟩ := hd v H2 s h
    exact ⟨a, d, rfl, h1, hs, hn, hp, hz, .refl _, rfl⟩) (fun vs H Q Q' kk ⟨a, d, h1, h2, h3, h4, h5, h6, q⟩ => ⟨a, d, h1, h2, h3, h4, h5, h6, kk _ _ q⟩) hg (by decide) (by decide) he hpl
end
end Cb

/-! from the promise of the law's def, made where no guard stands, to the walk -/
namespace Cb
open PySem PySem.Spec PyProof.Rows L2
section
variable {P : Program} {w : World} {K : PySem.W.Frag} {mg mb : Str → Option Value} {k : Nat} {fa a : Addr} {fd : FuncData} {x : Str} {sp : Sp} {s : Shared} {vs : List Value} {ns : List Int}
/-- nothing is tracked, or the script alone; then the module's names are as they were in the heap without it -/
theorem modG {H : Hp} (KX : K.In s.heap) (hns : s.heap.Ns mainGlobals mg) (hb : s.heap.Ns builtinsNs mb) (hbb : ∀ x : Str, x ≠ "__name__" → mb x = bootBuiltins x) (hlim : s.heap.NoLimit)
    (ha : s.heap.get? a = some { cls := .type "list", data := .seq vs.toArray }) (only : ∀ b, b ≠ a → H b = none) (out : H a ≠ none → K.lookup a = none) : L2.Mod K mg (hidT s.heap H) := by
  have stays : ∀ {b : Addr} {m : Str → Option Value}, s.heap.Ns b m → (hidT s.heap H).Ns b m := by
    rintro b m ⟨o, es, ep, e, d, r⟩
    refine ⟨o, es, ep, hidT_get e (only b ?_), d, r⟩
    rintro rfl
    rw [ha] at e
    cases e
    have d' : Data.seq vs.toArray _ = Data.dict es ep := d
    cases d'
  refine ⟨fun b o e => hidT_get (KX b o e) ?_, stays hns, ⟨mb, stays hb, hbb⟩, ?_⟩
  · by_cases hba : b = a
    · cases q : H b with
      | none => rfl
      | some u =>
        have := out (by rw [← hba, q]; simp)
        rw [hba, this] at e
        cases e
    · exact only b hba
  · obtain ⟨mc, h1, h2⟩ := hlim
    exact ⟨mc, stays h1, h2⟩
theorem coreG {H : Hp} (KX : K.In s.heap) (hns : s.heap.Ns mainGlobals mg) (hb : s.heap.Ns builtinsNs mb) (hbb : ∀ x : Str, x ≠ "__name__" → mb x = bootBuiltins x) (hlim : s.heap.NoLimit) (hg : s.gens = #[])
    (ha : s.heap.get? a = some { cls := .type "list", data := .seq vs.toArray }) (only : ∀ b, b ≠ a → H b = none) (out : H a ≠ none → K.lookup a = none) (fz : ∀ o, H a = some o → ∃ u xs, o = .frz u (.lst xs)) (hok : HOk P w H s.heap) (hr : Room k callerA)
    (F : ∀ base : Heap, K.In base → base.Ns mainGlobals mg → FnG P w K mg base k fa fd [x] sp) (bnd : ∀ (s : Shared) (u : Value), BindsTo s fd ⟨[u], []⟩ [(x, u)]) (want : sp [.ref a] H (fun v _ => v = .bl true) E0) :
    codeAny (model P w) callerA (.call (.ref fa) ⟨[.ref a], []⟩) (fun r s' => r = .ok (.ret (.bool true)) ∧ OldK s.heap s'.heap ∧ s'.os = s.os ∧ AllBare s'.gens) s := by
  have M := modG KX hns hb hbb hlim ha only out
  have ev : Env0 P w K mg (hidT s.heap H) callerA [] s H := { frames := rfl, mod := M, bs := fun b o e => of_hidT e, bsz := Nat.le_of_eq (hidT_size _ _), funs := trivial, frf := (fun b hb => by cases hb), hok := hok, bare := .of_eq hg }
  refine codeAny_mono ((F _ M.kin M.glob).go (us := [.ref a]) rfl hr ev (bnd s _) (.cons (show RelV (V.ref a) (Value.ref a) from rfl) .nil) want) ?_
  rintro (e | fl) s' q
  · exact False.elim q
  · match fl, q with
    | .ret u, ⟨v, H', os, bare, un, hok', rel, q⟩ =>
      have q : v = .bl true := q
      subst q
      obtain rfl : u = Value.bool true := rel
      refine ⟨rfl, OldK.of_keep fun b o e => ?_, os, bare⟩
      cases z : H b with
      | none => exact un.keep b o e z (fun t => by cases t) (fun t => by cases t)
      | some u =>
        have hba : b = a := Decidable.byContradiction fun n => by
          rw [only b n] at z
          cases z
        subst hba
        obtain ⟨ob, xs, rfl⟩ := fz u z
        have z1 := (hok b _ z).1
        have z2 := (hok' b _ (un.frzs b ob _ z)).1
        rw [e] at z1
        cases z1
        exact z2
theorem callG (KX : K.In s.heap) (hns : s.heap.Ns mainGlobals mg) (hb : s.heap.Ns builtinsNs mb) (hbb : ∀ x : Str, x ≠ "__name__" → mb x = bootBuiltins x) (hlim : s.heap.NoLimit) (hg : s.gens = #[])
    (ha : s.heap.get? a = some { cls := .type "list", data := .seq vs.toArray }) (hi : IntsAre vs ns) (hl : ns.length ≤ sizeLine) (hr : Room k callerA)
    (F : ∀ base : Heap, K.In base → base.Ns mainGlobals mg → FnG P w K mg base k fa fd [x] sp) (bnd : ∀ (s : Shared) (u : Value), BindsTo s fd ⟨[u], []⟩ [(x, u)])
    (want : ∀ H : Hp, SqL K H a (ns.map V.int) → sp [.ref a] H (fun v _ => v = .bl true) E0) :
    codeAny (model P w) callerA (.call (.ref fa) ⟨[.ref a], []⟩) (fun r s' => r = .ok (.ret (.bool true)) ∧ OldK s.heap s'.heap ∧ s'.os = s.os ∧ AllBare s'.gens) s := by
  have rel := vals_ints hi
  have len := hi.length
  cases q : K.lookup a with
  | some o =>
    have e := KX a o q
    rw [ha] at e
    cases e
    refine coreG (H := fun _ => none) KX hns hb hbb hlim hg ha (fun _ _ => rfl) (fun z => absurd rfl z) (fun o z => by cases z) (fun b u z => by
      have z : (none : Option HO) = some u := z
      cases z) hr F bnd (want _ (.inr ⟨_, vs.toArray, _, q, rfl, rfl, rfl, ?_, ?_⟩))
    · rw [List.size_toArray, len]
      exact hl
    · simpa using rel
  | none =>
    let H : Hp := fun b => if b = a then some (.frz { cls := .type "list", data := .seq vs.toArray } (.lst (ns.map V.int))) else none
    have Ha : H a = some (.frz { cls := .type "list", data := .seq vs.toArray } (.lst (ns.map V.int))) := if_pos rfl
    refine coreG (H := H) KX hns hb hbb hlim hg ha (fun b n => if_neg n) (fun _ => q) (fun o z => ?_) (fun b u z => ?_) hr F bnd (want _ (.inl (.inr ⟨_, Ha⟩)))
    · rw [Ha] at z
      cases z
      exact ⟨_, _, rfl⟩
    · by_cases hba : b = a
      · subst hba
        rw [Ha] at z
        cases z
        refine ⟨ha, ?_, vs, _, rel, ha⟩
        rw [List.length_map]
        exact hl
      · rw [show H b = none from if_neg hba] at z
        cases z
end
theorem walkG {l : PySem.W.OpenLaw} {n k : Nat} {q : Program} {loose : List Str} {XP : (Str → Option Value) → Heap → Prop} {YP : World → Heap → Prop} {d : DefRec} {K : Params → PySem.W.Frag} {sp : World → Sp} {x : Str}
    (hn : l.most = some n) (hn2 : n ≤ sizeLine) (hdf : d.params.defaults = []) (hr : Room k callerA) (hY : ∀ (w : World) (h : Heap), YP w h → (K w.params).In h)
    (F : ∀ (w : World) (mg : Str → Option Value) (fa : Addr) (h : Heap), (K w.params).In h → h.Ns mainGlobals mg → mg d.name = some (.ref fa) →
      ∃ fd : FuncData, (∀ (s : Shared) (u : Value), BindsTo s fd ⟨[u], []⟩ [(x, u)]) ∧ ∀ base : Heap, (K w.params).In base → base.Ns mainGlobals mg → FnG l.prog w (K w.params) mg base k fa fd [x] (sp w))
    (want : ∀ (w : World) (H : Hp) (a : Addr) (ns : List Int), ns.length ≤ n → SqL (K w.params) H a (ns.map V.int) → sp w [.ref a] H (fun v _ => v = .bl true) E0) : PySem.W.WalkO q loose XP YP l.row.toRowW d [] (fun f vs => PySem.call f vs) := by
  apply Att.attach_call hn hdf
  intro w s₀ s₁ mg mb fa o pm cd doc a vs ns G Y ho hd hcd hmg hobj hints hlen hg
  have KX := hY w _ Y
  obtain ⟨fd, bnd, hF⟩ := F w mg fa _ KX G.T.g hmg
  exact callG KX G.T.g G.T.b G.T.builtins G.T.nolimit hg hobj hints (Nat.le_trans hlen hn2) hr hF bnd fun H hS => want w H a ns hlen hS
end Cb

/-! nested tuples as data -/
namespace Cb
open PySem PySem.Spec PyProof.Rows L2
mutual
/-- v stands for the datum, all its tuples are new ones -/
def Td (H : Hp) : PyData → V → Prop
  | .none, v => v = .non
  | .bool b, v => v = .bl b
  | .int i, v => v = .int i
  | .str x, v => v = .str x
  | .tuple ds, v => ∃ a xs, v = .ref a ∧ H a = some (.tup xs) ∧ Tds H ds xs
  | .list _, _ => False
  | .dict _, _ => False
def Tds (H : Hp) : List PyData → List V → Prop
  | [], xs => xs = []
  | d :: ds, xs => ∃ v r, xs = v :: r ∧ Td H d v ∧ Tds H ds r
end
/-- tuples stay -/
def TupK (H H' : Hp) : Prop := ∀ a xs, H a = some (.tup xs) → H' a = some (.tup xs)
theorem TupK.refl {H : Hp} : TupK H H := fun _ _ h => h
theorem TupK.of {H H' : Hp} (s : Same H H') : TupK H H' := fun _ _ h => s _ _ h
theorem TupK.trans {H H1 H2 : Hp} (a : TupK H H1) (b : TupK H1 H2) : TupK H H2 := fun _ _ h => b _ _ (a _ _ h)
theorem TupK.put {H : Hp} {S : Addr} {o : HO} (h : ∀ xs, H S ≠ some (.tup xs)) : TupK H (upd H S o) := fun a xs e => by
  by_cases q : a = S
  · rw [q] at e
    exact absurd e (h xs)
  · rw [upd_ne q]
    exact e
theorem TupK.app {H : Hp} {S : Addr} {us : List V} {o : HO} (h : H S = some (.lst us)) : TupK H (upd H S o) := .put fun xs e => by
  rw [h] at e
  cases e
mutual
theorem Td.keep {H H' : Hp} (k : TupK H H') : ∀ (d : PyData) (v : V), Td H d v → Td H' d v
  | .none, v, h => by simpa only [Td] using h
  | .bool b, v, h => by simpa only [Td] using h
  | .int i, v, h => by simpa only [Td] using h
  | .str x, v, h => by simpa only [Td] using h
  | .tuple ds, v, h => by
    simp only [Td] at h ⊢
    obtain ⟨a, xs, e, h1, h2⟩ := h
    exact ⟨a, xs, e, k _ _ h1, Tds.keep k ds xs h2⟩
  | .list ds, v, h => by simp only [Td] at h
  | .dict ds, v, h => by simp only [Td] at h
theorem Tds.keep {H H' : Hp} (k : TupK H H') : ∀ (ds : List PyData) (xs : List V), Tds H ds xs → Tds H' ds xs
  | [], xs, h => by simpa only [Tds] using h
  | d :: ds, xs, h => by
    simp only [Tds] at h ⊢
    obtain ⟨v, r, e, h1, h2⟩ := h
    exact ⟨v, r, e, Td.keep k d v h1, Tds.keep k ds r h2⟩
end
mutual
theorem Td.dp {K : PySem.W.Frag} {H : Hp} : ∀ (d : PyData) (v : V), Td H d v → Dp K H v d
  | .none, v, h => by simp only [Td] at h; subst h; exact .non
  | .bool b, v, h => by simp only [Td] at h; subst h; exact .bl b
  | .int i, v, h => by simp only [Td] at h; subst h; exact .int i
  | .str x, v, h => by simp only [Td] at h; subst h; exact .str x
  | .tuple ds, v, h => by
    simp only [Td] at h
    obtain ⟨a, xs, e, h1, h2⟩ := h
    subst e
    exact .tup (.of h1) (Tds.dp ds xs h2)
  | .list ds, v, h => by simp only [Td] at h
  | .dict ds, v, h => by simp only [Td] at h
theorem Tds.dp {K : PySem.W.Frag} {H : Hp} : ∀ (ds : List PyData) (xs : List V), Tds H ds xs → DpAll K H xs ds
  | [], xs, h => by simp only [Tds] at h; subst h; exact .nil
  | d :: ds, xs, h => by
    simp only [Tds] at h
    obtain ⟨v, r, e, h1, h2⟩ := h
    subst e
    exact .cons (Td.dp d v h1) (Tds.dp ds r h2)
end
section
variable {H H' : Hp} {ds : List PyData} {xs : List V} {d : PyData} {v : V}
theorem Td.un (h : Td H (.tuple ds) v) : ∃ a xs, v = .ref a ∧ H a = some (.tup xs) ∧ Tds H ds xs := by simpa only [Td] using h
theorem Td.mk {a : Addr} (h : H a = some (.tup xs)) (t : Tds H ds xs) : Td H (.tuple ds) (.ref a) := by
  simp only [Td]
  exact ⟨a, xs, rfl, h, t⟩
theorem Td.int {i : Int} (h : Td H (.int i) v) : v = .int i := by simpa only [Td] using h
theorem Td.bool {b : Bool} (h : Td H (.bool b) v) : v = .bl b := by simpa only [Td] using h
theorem Td.str {x : Str} (h : Td H (.str x) v) : v = .str x := by simpa only [Td] using h
theorem td_int {i : Int} : Td H (.int i) (.int i) := by simp only [Td]
theorem td_bool {b : Bool} : Td H (.bool b) (.bl b) := by simp only [Td]
theorem td_str {x : Str} : Td H (.str x) (.str x) := by simp only [Td]
theorem Tds.nil : Tds H [] [] := by simp only [Tds]
theorem Tds.cons (h : Td H d v) (t : Tds H ds xs) : Tds H (d :: ds) (v :: xs) := by
  simp only [Tds]
  exact ⟨v, xs, rfl, h, t⟩
theorem Tds.un (h : Tds H (d :: ds) xs) : ∃ v r, xs = v :: r ∧ Td H d v ∧ Tds H ds r := by simpa only [Tds] using h
theorem Tds.nil' (h : Tds H [] xs) : xs = [] := by simpa only [Tds] using h
theorem Tds.len : ∀ {ds : List PyData} {xs : List V}, Tds H ds xs → xs.length = ds.length
  | [], xs, h => by rw [h.nil']; rfl
  | d :: ds, xs, h => by
    obtain ⟨v, r, rfl, _, t⟩ := h.un
    rw [List.length_cons, t.len]
    rfl
theorem Tds.at : ∀ {ds : List PyData} {xs : List V} {j : Nat} {d : PyData}, Tds H ds xs → ds[j]? = some d → ∃ v, xs[j]? = some v ∧ Td H d v
  | [], xs, j, d, h, e => by simp at e
  | c :: ds, xs, j, d, h, e => by
    obtain ⟨v, r, rfl, h1, t⟩ := h.un
    cases j with
    | zero =>
      have e : c = d := by simpa using e
      subst e
      exact ⟨v, rfl, h1⟩
    | succ j => exact t.at (by simpa using e)
theorem Tds.at' {j : Nat} {v : V} (h : Tds H ds xs) (e : xs[j]? = some v) : ∃ d, ds[j]? = some d ∧ Td H d v := by
  have hj : j < ds.length := by
    rw [← h.len]
    exact (List.getElem?_eq_some_iff.mp e).1
  obtain ⟨w, h1, h2⟩ := h.at (List.getElem?_eq_getElem hj)
  rw [e] at h1
  cases h1
  exact ⟨_, List.getElem?_eq_getElem hj, h2⟩
theorem Tds.app : ∀ {ds es : List PyData} {xs ys : List V}, Tds H ds xs → Tds H es ys → Tds H (ds ++ es) (xs ++ ys)
  | [], es, xs, ys, h, t => by
    rw [h.nil']
    exact t
  | d :: ds, es, xs, ys, h, t => by
    obtain ⟨v, r, rfl, h1, h2⟩ := h.un
    exact .cons h1 (h2.app t)
theorem Tds.snoc (h : Tds H ds xs) (t : Td H d v) : Tds H (ds ++ [d]) (xs ++ [v]) := h.app (.cons t .nil)
theorem Tds.drop : ∀ (n : Nat) {ds : List PyData} {xs : List V}, Tds H ds xs → Tds H (ds.drop n) (xs.drop n)
  | 0, ds, xs, h => h
  | n + 1, [], xs, h => by
    rw [h.nil']
    exact .nil
  | n + 1, d :: ds, xs, h => by
    obtain ⟨v, r, rfl, h1, h2⟩ := h.un
    exact Tds.drop n h2
theorem Tds.take : ∀ (n : Nat) {ds : List PyData} {xs : List V}, Tds H ds xs → Tds H (ds.take n) (xs.take n)
  | 0, ds, xs, h => .nil
  | n + 1, [], xs, h => by
    rw [h.nil']
    exact .nil
  | n + 1, d :: ds, xs, h => by
    obtain ⟨v, r, rfl, h1, h2⟩ := h.un
    exact .cons h1 (Tds.take n h2)
theorem Tds.eraseIdx : ∀ (n : Nat) {ds : List PyData} {xs : List V}, Tds H ds xs → Tds H (ds.eraseIdx n) (xs.eraseIdx n)
  | n, [], xs, h => by
    rw [h.nil']
    exact .nil
  | 0, d :: ds, xs, h => by
    obtain ⟨v, r, rfl, h1, h2⟩ := h.un
    exact h2
  | n + 1, d :: ds, xs, h => by
    obtain ⟨v, r, rfl, h1, h2⟩ := h.un
    exact .cons h1 (Tds.eraseIdx n h2)
theorem tds_strs : ∀ (ys : List Str), Tds H (ys.map PyData.str) (ys.map V.str)
  | [] => .nil
  | y :: ys => .cons td_str (tds_strs ys)
theorem Tds.strs : ∀ {ys : List Str} {xs : List V}, Tds H (ys.map PyData.str) xs → xs = ys.map V.str
  | [], xs, h => h.nil'
  | y :: ys, xs, h => by
    obtain ⟨v, r, rfl, h1, h2⟩ := h.un
    rw [h1.str, h2.strs]
    rfl
end
def Da (d : PyData) : Pd := fun v H => Td H d v
/-- a tracked list of data -/
def LstD (ds : List PyData) : Pd := fun v H => ∃ a xs, v = .ref a ∧ H a = some (.lst xs) ∧ Tds H ds xs
theorem mono_da {d : PyData} : Mono (Da d) := fun v H H' s h => Td.keep (.of s) d v h
theorem mono_lstD {ds : List PyData} : Mono (LstD ds) := fun v H H' s ⟨a, xs, e, h, t⟩ => ⟨a, xs, e, s _ _ h, Tds.keep (.of s) ds xs t⟩
theorem da_int {i : Int} : Da (.int i) = Is (.int i) := by
  funext v H
  simp only [Da, Td, Is]
theorem da_bool {b : Bool} : Da (.bool b) = Is (.bl b) := by
  funext v H
  simp only [Da, Td, Is]
theorem da_str {x : Str} : Da (.str x) = Is (.str x) := by
  funext v H
  simp only [Da, Td, Is]
theorem pws_da : ∀ {ds : List PyData} {xs : List V} {H : Hp}, Pws (ds.map Da) xs H → Tds H ds xs
  | [], xs, H, h => by
    rw [show xs = [] from h]
    exact .nil
  | d :: ds, xs, H, ⟨v, r, e, h1, h2⟩ => by
    subst e
    exact .cons h1 (pws_da h2)
theorem monos_da : ∀ {ds : List PyData}, Monos (ds.map Da)
  | [] => True.intro
  | _ :: _ => ⟨mono_da, monos_da⟩
section
variable {X : Cx} {e a b c : Expr} {es : List Expr} {σ : L2.St} {H H' : Hp} {pos pos' p p' q : Pos} {P : Pd} {ds : List PyData} {d : PyData} {i : Int} {j : Nat}
theorem Ev.int (h : Ev X σ H e (Is (.int i))) : Ev X σ H e (Da (.int i)) := by rw [da_int]; exact h
theorem Ev.bool {k : Bool} (h : Ev X σ H e (Is (.bl k))) : Ev X σ H e (Da (.bool k)) := by rw [da_bool]; exact h
theorem Ev.str {x : Str} (h : Ev X σ H e (Is (.str x))) : Ev X σ H e (Da (.str x)) := by rw [da_str]; exact h
theorem Ev.ofInt (h : Ev X σ H e (Da (.int i))) : Ev X σ H e (Is (.int i)) := by rw [← da_int]; exact h
theorem Ev.ofBool {k : Bool} (h : Ev X σ H e (Da (.bool k))) : Ev X σ H e (Is (.bl k)) := by rw [← da_bool]; exact h
theorem Ev.ofStr {x : Str} (h : Ev X σ H e (Da (.str x))) : Ev X σ H e (Is (.str x)) := by rw [← da_str]; exact h
theorem ed_nil : EvA X σ H [] (([] : List PyData).map Da) := ea_nil
theorem ed_cons (h : Ev X σ H e (Da d)) (t : EvA X σ H es (ds.map Da)) (hs : starEach (e :: es) X.env = (false, eval e X.env) :: starEach es X.env := by rfl) : EvA X σ H (e :: es) ((d :: ds).map Da) := ea_cons h mono_da t hs
theorem ev_tupD {k : Nat} (h : EvA X σ H es (ds.map Da)) (hl : ds.length ≤ 1000) : Ev X σ H (.Tuple es k p) (Da (.tuple ds)) := (ev_tup h monos_da (by rw [List.length_map]; exact hl)).imp fun v H' _ ⟨q, xs, e, h1, h2⟩ => by
  subst e
  exact .mk h1 (pws_da h2)
theorem ev_lstD (h : EvA X σ H es (ds.map Da)) (hl : ds.length ≤ 1000) : Ev X σ H (.List es p) (LstD ds) := ev_of (pe_lst pw_A) fun H1 s1 => wA_mono (h H1 s1) fun vs H2 ⟨s2, pv⟩ => by
  have t := pws_da pv
  refine ⟨?_, fun q hq => ⟨s2.trans (same_new hq), q, vs, rfl, upd_same, Tds.keep (.of (same_new hq)) _ _ t⟩⟩
  rw [t.len]
  exact Nat.le_of_lt (small1000 hl)
theorem ev_ixD (ho : Ev X σ H a (Da (.tuple ds))) (hi : Ev X σ H b (Is (.int (j : Int)))) (hd : ds[j]? = some d) (hs : PlainIxT b := by exact fun _ _ => rfl) : Ev X σ H (.Subscript a b p) (Da d) :=
  ev_of (pe_ix ix_tup pw_E pw_E hs) fun H1 s1 => wE_mono (ho H1 s1) fun x H2 ⟨s2, px⟩ => wE_mono (hi H2 (s1.trans s2)) fun y H3 ⟨s3, py⟩ => by
    obtain ⟨q, xs, rfl, hq, t⟩ := px.un
    obtain ⟨v, h1, h2⟩ := t.at hd
    exact ⟨q, xs, j, v, rfl, py, .of (s3 _ _ hq), atI_nat h1, s2.trans s3, Td.keep (.of s3) _ _ h2⟩
theorem ev_ixLD (ho : Ev X σ H a (LstD ds)) (hi : Ev X σ H b (Is (.int (j : Int)))) (hd : ds[j]? = some d) (hs : PlainIxT b := by exact fun _ _ => rfl) : Ev X σ H (.Subscript a b p) (Da d) :=
  ev_of (pe_ix ix_list pw_E pw_E hs) fun H1 s1 => wE_mono (ho H1 s1) fun x H2 ⟨s2, q, xs, ex, hq, t⟩ => wE_mono (hi H2 (s1.trans s2)) fun y H3 ⟨s3, py⟩ => by
    subst ex
    obtain ⟨v, h1, h2⟩ := t.at hd
    exact ⟨q, xs, j, v, rfl, py, .of (s3 _ _ hq), atI_nat h1, s2.trans s3, Td.keep (.of s3) _ _ h2⟩
theorem ev_lenT (hm : X.mg "len" = none) (ha : Ev X σ H a (Da (.tuple ds))) (hg : Gl X "len" := by rfl) (hs : starEach [a] X.env = (false, eval a X.env) :: starEach [] X.env := by rfl) (hpl : (backTo p (starEach [] X.env)).any (·.1) = false := by rfl) : Ev X σ H (.Call (.Name "len" p') [a] [] p) (Is (.int (ds.length : Int))) :=
  ev_cb call_len hm PySem.boot_len (ea_1 ha mono_da hs) (fun vs H2 s h => by
    obtain ⟨v, rfl, e⟩ := h.one
    obtain ⟨q, xs, rfl, hq, t⟩ := e.un
    refine ⟨_, xs.length, rfl, ?_, .refl _, by rw [t.len]; rfl⟩
    first
    | exact .inr (.inl ⟨_, SqT.of hq, rfl⟩)
    | exact .inr ⟨_, SqT.of hq, rfl⟩) (fun vs H2 Q Q' k ⟨x, n, e, h, q⟩ => ⟨x, n, e, h, k _ _ q⟩) hg (by decide) (by decide) hs hpl
theorem ev_lenLD (hm : X.mg "len" = none) (ha : Ev X σ H a (LstD ds)) (hg : Gl X "len" := by rfl) (hs : starEach [a] X.env = (false, eval a X.env) :: starEach [] X.env := by rfl) (hpl : (backTo p (starEach [] X.env)).any (·.1) = false := by rfl) : Ev X σ H (.Call (.Name "len" p') [a] [] p) (Is (.int (ds.length : Int))) :=
  ev_cb call_len hm PySem.boot_len (ea_1 ha mono_lstD hs) (fun vs H2 s h => by
    obtain ⟨v, rfl, q, xs, rfl, hq, t⟩ := h.one
    exact ⟨_, xs.length, rfl, .inl ⟨_, SqL.of hq, rfl⟩, .refl _, by rw [t.len]; rfl⟩) (fun vs H2 Q Q' k ⟨x, n, e, h, q⟩ => ⟨x, n, e, h, k _ _ q⟩) hg (by decide) (by decide) hs hpl
/-- tuple(list) -/
theorem ev_tupleL (hm : X.mg "tuple" = none) (ha : Ev X σ H a (LstD ds)) (hg : Gl X "tuple" := by rfl) (hs : starEach [a] X.env = (false, eval a X.env) :: starEach [] X.env := by rfl) (hpl : (backTo p (starEach [] X.env)).any (·.1) = false := by rfl) : Ev X σ H (.Call (.Name "tuple" p') [a] [] p) (Da (.tuple ds)) :=
  ev_cty call_tuple_of hm (by decide +kernel) (ea_1 ha mono_lstD hs) (fun vs H2 s h => by
    obtain ⟨v, rfl, q, xs, rfl, hq, t⟩ := h.one
    exact ⟨q, xs, rfl, .inl ⟨SqL.of hq, fun l hl => ⟨same_new hl, .mk upd_same (Tds.keep (.of (same_new hl)) _ _ t)⟩⟩⟩) (fun vs H2 Q Q' k ⟨p, ys, e, h⟩ => ⟨p, ys, e, h.elim (fun ⟨h1, h2⟩ => .inl ⟨h1, fun l hl => k _ _ (h2 l hl)⟩) fun ⟨h1, h2⟩ => .inr ⟨h1, k _ _ h2⟩⟩) hg (by decide) (by decide) hs hpl
end
end Cb

/-! comprehensions over data, repr, unpacking, slices -/
namespace Cb
open PySem PySem.Spec PyProof.Rows L2
theorem wipeD {σ : L2.St} {x : V} {i : Nat} : wipe ((wipe σ [i]).set i (some x)) [i] = wipe σ [i] := by
  show ((σ.set i none).set i (some x)).set i none = σ.set i none
  rw [List.set_set, List.set_set]
theorem take_snoc {α : Type} {l : List α} {k : Nat} {a : α} (h : l[k]? = some a) : l.take (k + 1) = l.take k ++ [a] := by
  obtain ⟨hk, e⟩ := List.getElem?_eq_some_iff.mp h
  rw [← e, List.take_succ_eq_append_getElem hk]
section
variable {X : Cx} {e a b c : Expr} {es : List Expr} {σ : L2.St} {H H' : Hp} {pos pos' p p' q : Pos} {P : Pd} {ds : List PyData} {d : PyData} {i : Nat} {j : Nat} {sts : List Stmt} {D : Ends}
theorem ev_lcT {elt iter : Expr} {x : Str} {xp : Pos} {scope : Scope} {f : PyData → PyData} (hc : X.calm = true) (nd : X.N.Nodup) (ok : BlkOk X.N X.env.scope scope [(x, i)])
    (hg : ∀ (s : Shared) (H : Hp) (C : Addr) (cl : List (Str × Addr)) (fp : List Addr), PG (X.blk s H scope (compEnvC scope cl C X.env) fp) (.Name x xp) (gName i)) (hi : Ev X σ H iter (Da (.tuple ds))) (hl : ds.length ≤ 1000)
    (he : ∀ (k : Nat) d v H', ds[k]? = some d → Same H H' → Td H' d v → ∀ (s : Shared) (H0 : Hp) (C : Addr) (cl : List (Str × Addr)) (fp : List Addr), Ev (X.blk s H0 scope (compEnvC scope cl C X.env) fp) ((wipe σ [i]).set i (some v)) H' elt (Da (f d)))
    (hs : ∀ x, foldedSetIterable iter X.env x = pure x := by intro _; rfl) : Ev X σ H (.ListComp elt [⟨.Name x xp, iter, [], 0⟩] scope pos) (LstD (ds.map f)) := fun H1 s1 =>
  w_E (pe_lc (own := [(x, i)]) (g := gName i) (tt := tYes) hc nd (pi_tup pw_E) ok hg (fun _ _ _ _ _ => pts_nil) pw_Eb hs) (wE_mono (hi H1 s1) fun v H2 ⟨s2, pv⟩ => by
    obtain ⟨q, xs, rfl, hq, t⟩ := pv.un
    refine ⟨q, rfl, ⟨xs, .of hq⟩, fun M hM => lc_tup (K := X.K) (a := q) (xs := xs) (fun k H => Same H2 H ∧ ∃ acc, H M = some (.lst acc) ∧ acc.length = k ∧ Tds H ((ds.take k).map f) acc) ?_ (fun k H _ h => .of (h.1 _ _ hq)) ?_ ?_⟩
    · exact ⟨same_new hM, [], upd_same, rfl, .nil⟩
    · rintro k y H3 hy ⟨s3, acc, hm, hk, ht⟩
      obtain ⟨d, hd, td⟩ := t.at' hy
      refine ⟨wipeD, ?_⟩
      unfold tYes
      dsimp only
      rw [if_pos rfl]
      intro s' H0 C' cl' fp'
      have hk2 : k < ds.length := (List.getElem?_eq_some_iff.mp hd).1
      refine wE_mono (he k d y H3 hd ((s1.trans s2).trans s3) (Td.keep (.of s3) _ _ td) s' H0 C' cl' fp' H3 (.refl _)) fun z H4 ⟨s4, pz⟩ => ?_
      have hm4 := s4 _ _ hm
      refine ⟨acc, hm4, by rw [hk]; exact small1000 (by omega), fun b o e => ?_, acc ++ [z], upd_same, by rw [List.length_append, hk]; rfl, ?_⟩
      · rw [upd_ne (ne_of_none e hM)]
        exact s4 _ _ (s3 _ _ e)
      · rw [take_snoc hd, List.map_append]
        have kp : TupK H4 (upd H4 M (.lst (acc ++ [z]))) := .app hm4
        exact (Tds.keep ((TupK.of s4).trans kp) _ _ ht).snoc (Td.keep kp _ _ pz)
    · rintro H3 ⟨s3, acc, hm, hk, ht⟩
      rw [t.len, List.take_length] at ht
      exact ⟨s2.trans s3, M, acc, rfl, hm, ht⟩)
theorem ev_lcL {elt iter : Expr} {x : Str} {xp : Pos} {scope : Scope} {f : PyData → PyData} (hc : X.calm = true) (nd : X.N.Nodup) (ok : BlkOk X.N X.env.scope scope [(x, i)])
    (hg : ∀ (s : Shared) (H : Hp) (C : Addr) (cl : List (Str × Addr)) (fp : List Addr), PG (X.blk s H scope (compEnvC scope cl C X.env) fp) (.Name x xp) (gName i)) (hi : Ev X σ H iter (LstD ds)) (hl : ds.length ≤ 1000)
    (he : ∀ (k : Nat) d v H', ds[k]? = some d → Same H H' → Td H' d v → ∀ (s : Shared) (H0 : Hp) (C : Addr) (cl : List (Str × Addr)) (fp : List Addr), Ev (X.blk s H0 scope (compEnvC scope cl C X.env) fp) ((wipe σ [i]).set i (some v)) H' elt (Da (f d)))
    (hs : ∀ x, foldedSetIterable iter X.env x = pure x := by intro _; rfl) : Ev X σ H (.ListComp elt [⟨.Name x xp, iter, [], 0⟩] scope pos) (LstD (ds.map f)) := fun H1 s1 =>
  w_E (pe_lc (own := [(x, i)]) (g := gName i) (tt := tYes) hc nd (pi_list pw_E) ok hg (fun _ _ _ _ _ => pts_nil) pw_Eb hs) (wE_mono (hi H1 s1) fun v H2 ⟨s2, q, xs, ev, hq, t⟩ => by
    subst ev
    refine ⟨q, rfl, ⟨xs, .of hq⟩, fun M hM => lc_list (K := X.K) (a := q) (xs := xs) (fun k H => Same H2 H ∧ ∃ acc, H M = some (.lst acc) ∧ acc.length = k ∧ Tds H ((ds.take k).map f) acc) ?_ (fun k H _ h => .of (h.1 _ _ hq)) ?_ ?_⟩
    · exact ⟨same_new hM, [], upd_same, rfl, .nil⟩
    · rintro k y H3 hy ⟨s3, acc, hm, hk, ht⟩
      obtain ⟨d, hd, td⟩ := t.at' hy
      refine ⟨wipeD, ?_⟩
      unfold tYes
      dsimp only
      rw [if_pos rfl]
      intro s' H0 C' cl' fp'
      have hk2 : k < ds.length := (List.getElem?_eq_some_iff.mp hd).1
      refine wE_mono (he k d y H3 hd ((s1.trans s2).trans s3) (Td.keep (.of s3) _ _ td) s' H0 C' cl' fp' H3 (.refl _)) fun z H4 ⟨s4, pz⟩ => ?_
      have hm4 := s4 _ _ hm
      refine ⟨acc, hm4, by rw [hk]; exact small1000 (by omega), fun b o e => ?_, acc ++ [z], upd_same, by rw [List.length_append, hk]; rfl, ?_⟩
      · rw [upd_ne (ne_of_none e hM)]
        exact s4 _ _ (s3 _ _ e)
      · rw [take_snoc hd, List.map_append]
        have kp : TupK H4 (upd H4 M (.lst (acc ++ [z]))) := .app hm4
        exact (Tds.keep ((TupK.of s4).trans kp) _ _ ht).snoc (Td.keep kp _ _ pz)
    · rintro H3 ⟨s3, acc, hm, hk, ht⟩
      rw [t.len, List.take_length] at ht
      exact ⟨s2.trans s3, M, acc, rfl, hm, ht⟩)
/-- repr of nested tuples -/
theorem ev_reprT (gd : X.A.guards = some []) (hu : X.A.units + 64 < cLine) (hm : X.mg "repr" = none) (ha : Ev X σ H e (Da (.tuple ds))) (hs : (PyData.tuple ds).showable = true) (hn : (PyData.tuple ds).hasDict = false) (hp : (PyData.tuple ds).depth ≤ 60) (hz : (PyData.tuple ds).shown.length ≤ sizeLine)
    (hg : Gl X "repr" := by rfl) (he : starEach [e] X.env = (false, eval e X.env) :: starEach [] X.env := by rfl) (hpl : (backTo pos (starEach [] X.env)).any (·.1) = false := by rfl) : Ev X σ H (.Call (.Name "repr" p) [e] [] pos) (Is (.str (PyData.tuple ds).shown)) :=
  ev_repr gd hu hm ha mono_da (fun v H' _ h => ⟨Td.dp _ _ h, let ⟨a, _, ea, _⟩ := Td.un h; ⟨a, ea⟩⟩) hs hn hp hz hg he hpl
/-! slices of tuples -/
theorem cut_slice {α : Type} {l : List α} {i k : Nat} : (l.drop (min i l.length)).take (min k l.length - min i l.length) = (l.drop i).take (k - i) := by
  by_cases h1 : i ≤ l.length
  · rw [Nat.min_eq_left h1]
    by_cases h2 : k ≤ l.length
    · rw [Nat.min_eq_left h2]
    · rw [Nat.min_eq_right (by omega), List.take_of_length_le (by rw [List.length_drop]; omega), List.take_of_length_le (by rw [List.length_drop]; omega)]
  · rw [List.drop_eq_nil_of_le (i := i) (by omega), List.drop_eq_nil_of_le (by omega)]
    simp
end
end Cb

/-! enumerate over a tuple -/
namespace Cb
open PySem PySem.Spec PyProof.Rows L2
open PySem.Sem (wp)
set_option maxHeartbeats 4000000 in
theorem meets_enumT (a : Addr) (items : Array Value) :
    Meets (Builtin.«enumerate.__new__» ⟨[.type "enumerate", .ref a], []⟩) (fun _ R st => st.heap.IsTuple a items ∧
      R (.ok (.ret (.ref (st.heap.push { cls := .type "tuple_iterator", data := .fields #[.ref a, .int 0 0] }).objs.size)))
        { st with heap := (st.heap.push { cls := .type "tuple_iterator", data := .fields #[.ref a, .int 0 0] }).push { cls := .type "enumerate", data := .fields #[.none, .bool false, .ref st.heap.objs.size, rawInt 0, .none, .none] } }) :=
  .of_wp fun prog w A R st hh => by
    obtain ⟨hp, gs, dr, tk, os⟩ := st
    obtain ⟨isT, hR⟩ := hh
    have hsub := sub_enumerate
    have go : ∀ {A' : Around} {E : Value → Shared → Prop} {Q : Value → Shared → Prop}, Q (.ref hp.objs.size) ⟨hp.push { cls := .type "tuple_iterator", data := .fields #[.ref a, .int 0 0] }, gs, dr, tk, os⟩ → wpAny (model prog w) A' (pyIter (.ref a)) Q E ⟨hp, gs, dr, tk, os⟩ :=
      fun q => wpAny_pyIter_tuple isT q
    wp_walk using go
    refine wpAny_stack_any fun stk => wpAny_pure ?_
    split
    · rename_i c _ _ _ _ _
      cases (c == Value.type "enumerate") <;>
      · wp_walk using go
        exact ⟨_, rfl, hR⟩
    · wp_walk using go
      exact ⟨_, rfl, hR⟩
theorem call_enumT {prog : Program} {w : World} {A : Around} {E : Value → Shared → Prop} {s : Shared} {a : Addr} {items : Array Value} {Q : Value → Shared → Prop} (isT : s.heap.IsTuple a items)
    (k : ∀ h', IsEnum h' (s.heap.objs.size + 1) s.heap.objs.size 0 .none → h'.IsTupleIter s.heap.objs.size a 0 → (∀ b o, s.heap.get? b = some o → h'.get? b = some o) → Q (.ref (s.heap.objs.size + 1)) { s with heap := h' }) :
    wpAny (model prog w) A (call (.type "enumerate") [.ref a]) Q E s := by
  refine callType_new F.called_enumerate (by decide) (F.typeCall_enumerate_1 _) (F.newCall_enumerate_1 _) (fun obj => F.args_object_init_2 obj _) F.entry_enumerate_new (meets_enumT a items) ⟨isT, ?_⟩
  have size1 : (s.heap.push { cls := .type "tuple_iterator", data := .fields #[.ref a, .int 0 0] }).objs.size = s.heap.objs.size + 1 := Heap.size_push ..
  show _ ∧ _
  rw [size1]
  have isE : IsEnum ((s.heap.push { cls := .type "tuple_iterator", data := .fields #[.ref a, .int 0 0] }).push { cls := .type "enumerate", data := .fields #[.none, .bool false, .ref s.heap.objs.size, rawInt 0, .none, .none] }) (s.heap.objs.size + 1) s.heap.objs.size 0 .none := by
    have z := Heap.get?_push_size (s.heap.push { cls := .type "tuple_iterator", data := .fields #[.ref a, .int 0 0] }) (o := { cls := .type "enumerate", data := .fields #[.none, .bool false, .ref s.heap.objs.size, rawInt 0, .none, .none] }) rfl
    rw [size1] at z
    exact z
  exact ⟨⟨_, isE, rfl⟩, k _ isE ⟨_, Heap.get?_push_of_some _ (Heap.get?_push_size _ rfl), rfl, rfl⟩ fun b o x => Heap.get?_push_of_some _ (Heap.get?_push_of_some _ x)⟩
/-- the tuple at a, each item in a new pair -/
def IteT (K : PySem.W.Frag) (a : Addr) : It where
  go := fun i H => ∃ (xs : List V) (x : V), SqT K H a xs ∧ xs[i]? = some x
  yld := fun i H v H' => ∃ T x, v = .ref T ∧ H T = none ∧ H' = upd H T (.tup [.int (i : Nat), x]) ∧ ∀ xs, SqT K H a xs → xs[i]? = some x
  stop := fun i H => ∃ xs : List V, SqT K H a xs ∧ xs.length ≤ i
theorem turn_enumT {P : Program} {w : World} {K : PySem.W.Frag} {elts : List Expr} {kk : Nat} {tpos : Pos} (a en it : Addr) :
    Turn P w K (.Tuple elts kk tpos) (IteT K a) [en, it] en (fun i h => (∃ old, IsEnum h en it ((i : Nat) : Int) old) ∧ h.IsTupleIter it a i ∧ en ≠ it) where
  mem := List.mem_cons_self ..
  obj := fun i h ⟨⟨old, isE⟩, ⟨o, ho, _, hd⟩, _⟩ b hb => by
    rcases List.mem_cons.mp hb with q | q
    · rw [q]
      exact ⟨_, isE, fun v z => by cases z⟩
    · rw [List.mem_singleton.mp q]
      exact ⟨o, ho, fun v z => by rw [hd] at z; cases z⟩
  keep := fun i h h' ⟨⟨old, isE⟩, isI, ne⟩ kp => ⟨⟨old, kp en (by simp) _ isE⟩, isI.at fun o z => kp it (by simp) o z, ne⟩
  item := by
    rintro X rfl rfl rfl calm i pins s σ H E I free ⟨⟨old, isE⟩, isI, ne⟩ ⟨xs, x, hq, hx⟩
    obtain ⟨its, rv, isT, hz⟩ := I.tuple hq
    obtain ⟨u, hu, ru⟩ := rv.get hx
    have hlt : i < its.toArray.size := by
      have := (List.getElem?_eq_some_iff.mp hu).1
      simpa using this
    have nea : a ≠ en := fun q => by
      obtain ⟨o, ho, hc, _⟩ := isT
      rw [q, isE] at ho
      cases ho
      injection hc with z
      exact absurd z (by decide)
    have nit : a ≠ it := fun q => by
      obtain ⟨o, ho, hc, _⟩ := isT
      obtain ⟨o2, ho2, hc2, _⟩ := isI
      rw [q, ho2] at ho
      cases ho
      rw [hc2] at hc
      injection hc with z
      exact absurd z (by decide)
    have le1 : en < s.heap.objs.size := Heap.lt_size isE
    have le2 : it < s.heap.objs.size := by
      obtain ⟨_, z, _⟩ := isI
      exact Heap.lt_size z
    refine wpAny_pyNext_enum_itemD (Draws.tuple (A := X.A.in1) (show X.A.in1.handled = none from I.ok.hd calm) it a nit its.toArray) isE ⟨isI, isT⟩ hlt ne (fun q => by
      rcases List.mem_cons.mp q with q | q
      · exact ne q
      · exact nea (List.mem_singleton.mp q).symm) fun y h1 tk hy out st hT _ kp => ?_
    have hy' : y = u := by
      rw [List.getElem?_toArray, hu] at hy
      cases hy
      rfl
    subst hy'
    refine ⟨_, rfl, wpAny_letOwnedTupleGo_enum (s := { s with heap := h1, toks := tk + 1 }) out fun h2 isE2 same => ?_⟩
    have hT2 : h2.get? s.heap.objs.size = some { cls := .type "tuple", data := .seq #[.int i tk, y] } := (same.2 _ (Nat.ne_of_gt le1)).trans hT
    have fresh : ObjOk X.prog X.w (upd H s.heap.objs.size (.tup [.int (i : Nat), x])) h2 s.heap.objs.size (.tup [.int (i : Nat), x]) := ⟨by show 2 ≤ sizeLine; decide, [.int i tk, y], .cons ⟨_, rfl⟩ (.cons ru .nil), ⟨_, hT2, rfl, _, rfl⟩⟩
    have J : Inv X pins σ (upd H s.heap.objs.size (.tup [.int (i : Nat), x])) { s with heap := h2, toks := tk + 1 } :=
      I.turnedNew (ch := [en, it]) (fun b o hb z => (same.2 b (fun q => hb (by simp [q]))).trans (kp b o (fun q => hb (by simp [q])) (fun q => hb (by simp [q])) z)) free (Nat.le_refl _) fresh
    refine ⟨.ref s.heap.objs.size, _, J, rfl, ⟨_, x, rfl, I.hok.fresh (Nat.le_refl _), rfl, fun ys hy2 => by rw [I.tuple_inj hy2 hq]; exact hx⟩, ⟨⟨y, ?_⟩, st.1.at fun o z => (same.2 it (Ne.symm ne)).trans z, ne⟩, fun b hb => ?_⟩
    · rw [show ((i + 1 : Nat) : Int) = (i : Int) + 1 by omega]
      exact isE2
    · have lt : b < s.heap.objs.size := by
        rcases List.mem_cons.mp hb with q | q
        · rw [q]; exact le1
        · rw [List.mem_singleton.mp q]; exact le2
      rw [upd_ne (Nat.ne_of_lt lt)]
      exact (free b hb).1
  done := by
    rintro X rfl rfl rfl calm i pins s σ H E I free ⟨⟨old, isE⟩, isI, ne⟩ ⟨xs, hq, hx⟩
    obtain ⟨its, rv, isT, hz⟩ := I.tuple hq
    have hl := rv.length
    have nit : a ≠ it := fun q => by
      obtain ⟨o, ho, hc, _⟩ := isT
      obtain ⟨o2, ho2, hc2, _⟩ := isI
      rw [q, ho2] at ho
      cases ho
      rw [hc2] at hc
      injection hc with z
      exact absurd z (by decide)
    have D : Draws X.prog X.w X.A.in1 it [it, a] i (fun _ _ => False) (fun j h => j = i ∧ h.IsTupleIter it a i ∧ h.IsTuple a its.toArray) :=
      { live := fun j h z => let ⟨o, ho, _⟩ := z.2.1; ⟨o, ho⟩
        frame := fun j h h' z kp => ⟨z.1, z.2.1.at fun o e => kp it (by simp) o e, z.2.2.at fun o e => kp a (by simp) o e⟩
        item := fun j s Q E lt z => absurd z.1 (Nat.ne_of_lt lt)
        done := fun s Q E z hE => PySem.wpAny_nextOf_tuple_end (show X.A.in1.handled = none from I.ok.hd calm) z.2.1 z.2.2 (by simp; omega) hE }
    obtain ⟨f0, f1, f2, f3, f4, f5⟩ := free it (by simp)
    exact wpAny_pyNext_enum_endD D isE ⟨rfl, isI, isT⟩ fun h' eb => ⟨rfl, I.turned (t' := s.toks) (fun b o hb q => eb b o hb q) f0 f1 f3 f4 f5⟩
  self := fun A i s Q E ⟨⟨_, isE⟩, _⟩ h => wpAny_pyIter_enum isE h
def iEnumT (K : PySem.W.Frag) (ta : TA) : TI := fun σ H R => ta σ H fun vs H1 => ∃ a xs, vs = [.ref a] ∧ SqT K H1 a xs ∧ R (IteT K a) H1
theorem pi_enumT {X : Cx} {e : Expr} {ta : TA} {p pos tpos : Pos} {elts : List Expr} {kk : Nat} (hg : Gl X "enumerate") (hm : X.mg "enumerate" = none) (ha : PA X [e] ta) (hs : starEach [e] X.env = [(false, eval e X.env)] := by rfl) :
    PI X (.Tuple elts kk tpos) (.Call (.Name "enumerate" p) [e] [] pos) (iEnumT X.K ta) := by
  constructor
  intro pins s σ H R I h
  have args := ha.run pos pins s σ H _ I h
  refine Call_ (ld_blt I hg hm boot_enumerate
    (PyProof.Rows.callWith_type1 (thn args ?_) hs rfl))
  rintro us s1 ⟨vs, H1, I1, r1, a, xs, rfl, hq, q⟩
  cases r1 with
  | cons r rest =>
    cases rest
    cases r
    obtain ⟨its, rv, isT, hz⟩ := I1.tuple hq
    refine call_enumT (items := its.toArray) isT fun h' isE isI kp => wpAny_pyIter_enum isE ?_
    refine ⟨s1.heap.objs.size + 1, [s1.heap.objs.size + 1, s1.heap.objs.size], _, _, H1, rfl, I1.kept (t' := s1.toks) kp, turn_enumT a (s1.heap.objs.size + 1) s1.heap.objs.size, ⟨⟨.none, isE⟩, isI, Nat.succ_ne_self _⟩, fun b hb => ?_, q⟩
    have le : s1.heap.objs.size ≤ b := by
      rcases List.mem_cons.mp hb with z | z
      · rw [z]
        exact Nat.le_succ _
      · rw [List.mem_singleton.mp z]
        exact Nat.le_refl _
    exact I1.fpOk le (I1.hok.fresh le)
theorem for_enumT {K : PySem.W.Frag} {a : Addr} {xs : List V} {g : TG} {tb : TS} {D : Ends} {σ : L2.St} {H : Hp} (Pv : Nat → L2.St → Hp → Prop) (h0 : Pv 0 σ H) (hl : ∀ i σ H, i ≤ xs.length → Pv i σ H → SqT K H a xs)
    (hs : ∀ i x σ H T, xs[i]? = some x → Pv i σ H → H T = none → g (.ref T) σ (upd H T (.tup [.int (i : Nat), x])) fun σ2 H2 => tb { D with nx := Pv (i + 1), ct := Pv (i + 1), bk := D.nx } σ2 H2) (hd : ∀ σ H, Pv xs.length σ H → D.nx σ H) :
    ∃ W : Nat → Nat → L2.St → Hp → Prop, (∃ m, W 0 m σ H) ∧ ∀ i m σ H, W i m σ H →
      ((IteT K a).stop i H ∧ D.nx σ H) ∨ ((IteT K a).go i H ∧ ∃ N : L2.St → Hp → Prop, (∀ σ' H', N σ' H' → ∃ m', m' < m ∧ W (i + 1) m' σ' H') ∧ ∀ x H', (IteT K a).yld i H x H' → g x σ H' fun σ2 H2 => tb { D with nx := N, ct := N, bk := D.nx } σ2 H2) := by
  refine ⟨fun i m σ H => m = xs.length - i ∧ i ≤ xs.length ∧ Pv i σ H, ⟨xs.length, by simp, Nat.zero_le _, h0⟩, ?_⟩
  rintro i m σ H ⟨rfl, hi, p⟩
  have q := hl i σ H hi p
  rcases Nat.lt_or_ge i xs.length with lt | ge
  · refine .inr ⟨⟨xs, xs[i], q, List.getElem?_eq_getElem lt⟩, Pv (i + 1), fun σ' H' p' => ⟨xs.length - (i + 1), by omega, rfl, lt, p'⟩, ?_⟩
    rintro v H' ⟨T, x, rfl, hT, rfl, y⟩
    exact hs i x σ H T (y xs q) p hT
  · obtain rfl : i = xs.length := by omega
    exact .inl ⟨⟨xs, q, Nat.le_refl _⟩, hd σ H p⟩
end Cb

/-! data sorted, data compared -/
namespace Cb
open PySem PySem.Spec PyProof.Rows L2
section
variable {X : Cx} {pins : List (Addr × Obj)} {σ : L2.St} {H : Hp} {s : Shared}
mutual
theorem reads_td (I : Inv X pins σ H s) : ∀ (d : PyData) (v : V) (u : Value), Td H d v → RelV v u → Reads s.heap u d []
  | .none, v, u, h, r => by
    simp only [Td] at h
    subst h
    obtain rfl : u = Value.none := r
    exact .none
  | .bool b, v, u, h, r => by
    simp only [Td] at h
    subst h
    obtain rfl : u = Value.bool b := r
    exact .bool b
  | .int i, v, u, h, r => by
    simp only [Td] at h
    subst h
    obtain ⟨t, rfl⟩ := r
    exact .int i t
  | .str x, v, u, h, r => by
    simp only [Td] at h
    subst h
    obtain ⟨t, rfl⟩ := r
    exact .str x t
  | .tuple ds, v, u, h, r => by
    obtain ⟨a, xs, rfl, hq, t⟩ := h.un
    obtain rfl : u = Value.ref a := r
    obtain ⟨its, rv, ⟨o, ho, hc, n, hd⟩, _⟩ := I.tuple (.of hq)
    have z := reads_tds I ds xs its t rv
    exact .tuple ho hc hd (by simpa using z)
  | .list ds, v, u, h, r => by simp only [Td] at h
  | .dict ds, v, u, h, r => by simp only [Td] at h
theorem reads_tds (I : Inv X pins σ H s) : ∀ (ds : List PyData) (vs : List V) (us : List Value), Tds H ds vs → Vals vs us → ReadsAll s.heap us ds []
  | [], vs, us, h, r => by
    obtain rfl := h.nil'
    cases r
    exact .nil
  | d :: ds, vs, us, h, r => by
    obtain ⟨v, w, rfl, h1, h2⟩ := h.un
    cases r with
    | cons r1 r2 =>
      have a := reads_td I d v _ h1 r1
      have b := reads_tds I ds w _ h2 r2
      exact ReadsAll.cons (as := []) (bs := []) a b
end
end
/-! ### sorted(x), x a list or a tuple -/
section
variable {prog : Program} {w : World} {A : Around} {E : Value → Shared → Prop} {s : Shared} {β : Type} {R : Value → β → Prop} {vs : List Value} {bs : List β} {enc : β → PyData}
/-- the items of a list or a tuple, collected; the heap only grows -/
theorem collect_seq2 {Q : List Value → Shared → Prop} {a : Addr} {T : String} {o : Obj} {items : Array Value} {n : Nat} (hT : T = "list" ∨ T = "tuple") (ho : s.heap.get? a = some o) (hc : o.cls = .type T) (hd : o.data = .seq items n) (hz : items.size ≤ sizeLine)
    (hQ : ∀ h', (∀ b u, s.heap.get? b = some u → h'.get? b = some u) → s.heap.objs.size ≤ h'.objs.size → Q items.toList { s with heap := h' }) : wpAny (model prog w) A (collect (.ref a)) Q E s := by
  generalize hL : s.heap.objs.size = L at hQ
  generalize h1e : s.heap.push { cls := .type "list", data := .seq ([] : List Value).toArray } = h1
  have at1 : h1.get? L = some { cls := .type "list", data := .seq #[] 0 } := by
    rw [← h1e, ← hL]
    exact Heap.get?_push_size _ rfl
  have old1 : ∀ b u, s.heap.get? b = some u → h1.get? b = some u := fun b u z => by
    rw [← h1e]
    exact Heap.get?_push_of_some _ z
  have sz1 : h1.objs.size = L + 1 := by
    rw [← h1e, ← hL]
    exact Heap.size_push ..
  generalize h2e : h1.update L (Obj.mapSeq (· ++ items)) = h2
  have at2 : h2.get? L = some (Obj.mapSeq (· ++ items) { cls := .type "list", data := .seq #[] 0 }) := by
    rw [← h2e]
    exact Heap.get?_update_self (Obj.mapSeq (· ++ items)) at1 rfl
  have old2 : ∀ b u, s.heap.get? b = some u → h2.get? b = some u := fun b u z => by
    have lt := Heap.lt_size z
    rw [← h2e]
    exact (Heap.get?_update_other _ _ (by rw [hL] at lt; exact Nat.ne_of_gt lt)).trans (old1 b u z)
  have sz2 : L ≤ h2.objs.size := by
    rw [← h2e, Heap.size_update, sz1]
    exact Nat.le_succ _
  have last : wpAny (model prog w) A (match Value.ref L with
      | Value.ref b => do
        match (← load b).data with
          | Data.seq xs _ => pure xs.toList
          | _ => unsupported "internal:collect"
      | _ => unsupported "internal:collect") Q E { s with heap := h2 } := by
    refine wpAny_bind (m := load L) (wpAny_load at2 (wpAny_pure ?_))
    have z : ((#[] : Array Value) ++ items).toList = items.toList := by simp
    exact z ▸ hQ h2 old2 sz2
  unfold collect
  refine wpAny_bind (wpAny_runValue (codeAny_builtin F.entry_proto_collect ?_))
  rw [Around.under_plainId F.plain_proto_collect _]
  refine wpAny_bind (m := newList []) (wpAny_newObj_type ?_)
  refine wpAny_pure ⟨plainId_quiet F.plain_list_iadd _, codeAny_builtin F.entry_list_iadd ?_⟩
  rw [Around.under_plainId F.plain_list_iadd _]
  rw [show s.heap.objs.size = L from hL, show s.heap.push { cls := .type "list", data := .seq ([] : List Value).toArray } = h1 from h1e]
  have ext := wpAny_extend_seq (prog := prog) (w := w) (A := A) (R := fun r s' => r = .ok (.ret (.ref L)) ∧ s' = { s with heap := h2 }) (s := { s with heap := h1 }) L a (.ref L) 0 hT at1 (old1 _ _ ho) hc hd ⟨rfl, by rw [h2e]⟩ (hsz := hz)
  refine wpAny_mono ext (fun fin s' z => ?_) (fun _ _ z => absurd z.1 (by simp))
  cases fin with
  | done f =>
    obtain ⟨e1, rfl⟩ := z
    cases e1
    exact last
  | again c =>
    exact ⟨z.1, codeAny_mono z.2 fun r s2 q => by
      obtain ⟨rfl, rfl⟩ := q
      exact last⟩
theorem sorted_seq {l : Addr} {T : String} {o : Obj} {n : Nat} {Q : Value → Shared → Prop} (hT : T = "list" ∨ T = "tuple") (ho : s.heap.get? l = some o) (hc : o.cls = .type T) (hd : o.data = .seq vs.toArray n) (e : PySem.W.EachIs R vs bs) (er : PySem.W.EachIs (fun v b => Reads s.heap v (enc b) []) vs bs)
    (hal : PySem.W.AllAlike (bs.map enc)) (hk : PySem.W.Sortable (bs.map enc)) (hL : vs.length ≤ sizeLine) (hu : ∀ b, b ∈ bs → A.units + 3 + (enc b).depth < cLine)
    (h : ∀ (h' : Heap) (d : Addr) (out : List Value) (k : Nat), (∀ b u, s.heap.get? b = some u → h'.get? b = some u) → s.heap.objs.size ≤ d → h'.get? d = some (seqObj "list" out.toArray k) → PySem.W.EachIs R out (bs.mergeSort (PySem.W.dataLe false enc)) → Q (.ref d) { s with heap := h' }) :
    wpAny (model prog w) A (call (.builtin "sorted") [.ref l]) Q E s := by
  have lb : bs.length ≤ sizeLine := by
    rw [← e.length]
    exact hL
  refine Calls.call_function_entry kind_sorted plain_sorted entry_sorted (args_sorted1 _) ?_
  unfold Builtin.«sorted»
  refine wpAny_bind (m := checkCount "sorted" 1 1 _) (wpAny_pure ?_)
  refine wpAny_bind (collect_seq2 hT ho hc hd (by rw [List.size_toArray]; exact hL) fun h1 k1 z1 => ?_)
  rw [show vs.toArray.toList = vs by simp]
  refine wpAny_bind (wpAny_newList ?_ hL)
  have at2 : (h1.push (seqObj "list" vs.toArray 0)).get? h1.objs.size = some (seqObj "list" vs.toArray 0) := Heap.get?_push_size _ rfl
  have k2 : ∀ b u, s.heap.get? b = some u → (h1.push (seqObj "list" vs.toArray 0)).get? b = some u := fun b u z => Heap.get?_push_of_some _ (k1 b u z)
  show wpAny _ _ _ _ _ { s with heap := h1.push (seqObj "list" vs.toArray 0) }
  have er2 : PySem.W.EachIs (fun v b => ∃ as, Reads (h1.push (seqObj "list" vs.toArray 0)) v (enc b) as ∧ h1.objs.size ∉ as) vs bs := er.mono fun v b r => ⟨[], PyProof.Rows.Reads.keeps k2 r, by simp⟩
  refine wpAny_bind (wpAny_holding (PySem.W.list_sort_data (s := { s with heap := h1.push (seqObj "list" vs.toArray 0) }) at2 e er2 hal hk lb ?_ fun out lo eo => ?_))
  · intro b hb
    have := hu b hb
    first
    | (show A.units + 1 + 1 + (enc b).depth < cLine; omega)
    | (show A.in1.units + 1 + (enc b).depth < cLine
       have q : A.in1.units = A.units + 1 := rfl
       omega)
  · refine wpAny_pure ?_
    obtain ⟨k, hk2⟩ := sortedHeap_at (h := h1.push (seqObj "list" vs.toArray 0)) (a := h1.objs.size) (out := out.toArray) at2
    refine ⟨_, rfl, h _ _ out k (fun b u z => ?_) z1 hk2 eo⟩
    have lt : b < h1.objs.size := Heap.lt_size (k1 b u z)
    exact (sortedHeap_old (Nat.ne_of_lt lt) (by rw [size_push']; exact Nat.lt_succ_of_lt lt)).trans (k2 b u z)
end
section
variable {X : Cx} {pins : List (Addr × Obj)} {σ : L2.St} {H : Hp} {s : Shared}
/-- what a value of the model is, beside the value it stands for -/
structure VD (H : Hp) (X : Cx) (u : Value) (b : V × PyData) : Prop where
  rel : RelV b.1 u
  td : Td H b.2 b.1
theorem each_vd : ∀ {vs : List V} {us : List Value} {ds : List PyData}, Vals vs us → Tds H ds vs → PySem.W.EachIs (VD H X) us (vs.zip ds)
  | [], us, ds, r, t => by
    cases r
    exact .nil
  | v :: vs, us, [], r, t => by
    have := t.nil'
    cases this
  | v :: vs, us, d :: ds, r, t => by
    obtain ⟨v', w, e, h1, h2⟩ := t.un
    cases e
    cases r with
    | cons r1 r2 => exact .cons ⟨r1, h1⟩ (each_vd r2 h2)
theorem vals_vd : ∀ {us : List Value} {bs : List (V × PyData)}, PySem.W.EachIs (VD H X) us bs → Vals (bs.map (·.1)) us ∧ Tds H (bs.map (·.2)) (bs.map (·.1))
  | _, _, .nil => ⟨.nil, .nil⟩
  | _, _, .cons h t => ⟨.cons h.rel (vals_vd t).1, .cons h.td (vals_vd t).2⟩
/-- sorted(x): x a tracked list or a tuple of data that are alike -/
def sortD (ds : List PyData) : List PyData := ds.mergeSort (PySem.W.dataLe false id)
def rSortD (K : PySem.W.Frag) : List V → Hp → VK → Prop := fun vs H Q => ∃ (a : Addr) (xs : List V) (ds : List PyData), vs = [.ref a] ∧ (H a = some (.lst xs) ∨ H a = some (.tup xs)) ∧ Tds H ds xs ∧ PySem.W.AllAlike ds ∧ PySem.W.Sortable ds ∧ (∀ d ∈ ds, d.depth ≤ 50) ∧
  ∀ (ys : List V) (p : Addr), ys.length = xs.length → Tds H (sortD ds) ys → H p = none → Q (.ref p) (upd H p (.lst ys))
theorem cr_sortD (hu : X.A.units + 64 < cLine) : CallR X (.builtin "sorted") (rSortD X.K) := by
  rintro pins s σ H vs us Q I rv ⟨a, xs, ds, rfl, hq, t, hal, hk, hdp, q⟩
  rw [Vals.ref1 rv]
  obtain ⟨its, T, o, n, hT, ho, hc, hd, rv2, hz⟩ : ∃ (its : List Value) (T : String) (o : Obj) (n : Nat), (T = "list" ∨ T = "tuple") ∧ s.heap.get? a = some o ∧ o.cls = .type T ∧ o.data = .seq its.toArray n ∧ Vals xs its ∧ xs.length ≤ sizeLine := by
    rcases hq with hq | hq
    · obtain ⟨its, r, pl, z⟩ := I.list (SqL.of hq)
      obtain ⟨o, ho, hc, n, hd⟩ := pl.isList
      exact ⟨its, "list", o, n, .inl rfl, ho, hc, hd, r, z⟩
    · obtain ⟨its, r, ⟨o, ho, hc, n, hd⟩, z⟩ := I.tuple (.of hq)
      exact ⟨its, "tuple", o, n, .inr rfl, ho, hc, hd, r, z⟩
  have e := each_vd (X := X) rv2 t
  have m2 : (xs.zip ds).map (fun b => b.2) = ds := List.map_snd_zip (by rw [t.len]; exact Nat.le_refl _)
  refine sorted_seq (enc := fun b : V × PyData => b.2) hT ho hc hd e (e.mono fun u b h => reads_td I _ _ _ h.td h.rel) (by rw [m2]; exact hal) (by rw [m2]; exact hk) (by rw [← rv2.length]; exact hz) (fun b hb => ?_) fun h' p out k kp le hp eo => ?_
  · have z : b.2 ∈ ds := by
      rw [← m2]
      exact List.mem_map_of_mem hb
    have := hdp _ z
    omega
  · obtain ⟨r1, t1⟩ := vals_vd eo
    have sd : ((xs.zip ds).mergeSort (PySem.W.dataLe false fun b => b.2)).map (·.2) = sortD ds := by
      have z := List.map_mergeSort (r := PySem.W.dataLe false fun b : V × PyData => b.2) (s := PySem.W.dataLe false id) (f := fun b : V × PyData => b.2) (l := xs.zip ds) (fun a _ b _ => rfl)
      rw [m2] at z
      exact z
    have ln : (((xs.zip ds).mergeSort (PySem.W.dataLe false fun b => b.2)).map (·.1)).length = xs.length := by
      rw [List.length_map, (List.mergeSort_perm _ _).length_eq, List.length_zip, t.len, Nat.min_self]
    rw [sd] at t1
    have hn : H p = none := I.hok.fresh le
    exact ⟨.ref p, upd H p (.lst _), I.laid (t' := s.toks) kp le ⟨by rw [ln]; exact hz, out, k, r1, hp⟩, rfl, q _ p ln t1 hn⟩
end
end Cb

/-! defs with *more -/
namespace Cb
open PySem PySem.Spec PyProof.Rows L2
/-- how f(a, b, *more) binds: n values by name, the rest as a new tuple -/
def BindsV (fd : FuncData) (n : Nat) (ps : List Str) : Prop := ∀ us : List Value, n ≤ us.length → bindArgs fd ⟨us, []⟩ = (do
  let t ← newTuple (us.drop n)
  pure (ps.zip (us.take n ++ [t])))
/-- f(..), its *more at T when the body begins -/
structure FnV (P : Program) (w : World) (K : PySem.W.Frag) (mg : Str → Option Value) (base : Heap) (k : Nat) (f : Addr) (n : Nat) (sp : List V → Addr → Hp → VK → Prop) : Prop where
  go : ∀ {A : Around} {out : List Env} {st : Shared} {H : Hp} {us : List Value} {vs : List V} {Q : VK}, Room k A → n ≤ vs.length → Vals vs us → us.length ≤ sizeLine →
    Env0 P w K mg base A out { st with heap := st.heap.push { cls := .type "tuple", data := .seq (us.drop n).toArray } } (upd H st.heap.objs.size (.tup (vs.drop n))) → sp (vs.take n) st.heap.objs.size (upd H st.heap.objs.size (.tup (vs.drop n))) Q →
    codeAny (model P w) A (.call (.ref f) ⟨us, []⟩) (CR CX0 out P w (upd H st.heap.objs.size (.tup (vs.drop n))) { st with heap := st.heap.push { cls := .type "tuple", data := .seq (us.drop n).toArray } } Q E0) st
section
variable {P : Program} {w : World} {K : PySem.W.Frag} {mg : Str → Option Value} {base : Heap} {k : Nat} {f : Addr} {fd : FuncData} {ps : List Str} {n : Nat} {sp : List V → Addr → Hp → VK → Prop}
theorem okV {x qual : Str} {st : Stmt} {N : List Str} (F : Fun K x qual st f fd) (S : FnScope N ps (defScope st)) (hn : ps.length = n + 1) (bv : BindsV fd n ps)
    (body : ∀ (cdv : Value) (A : Around) (out : List Env) (s : Shared) (H : Hp) (vs : List V) (T : Addr) (Q : VK) (E : XK), Room k (A.deeper (envOfC qual (defScope st) s.heap.objs.size f cdv)) → vs.length = n → sp vs T H Q →
      wB (cxOf CX0 P w K mg base N qual (defScope st) f cdv A out s H E).nox (defBody st) { nx := fun _ H' => Q .non H', rt := Q } (start N (vs ++ [.ref T])) H) : FnV P w K mg base (k + 1) f n sp := by
  obtain ⟨oc, od, kV, doc, pm, an, cdv, ct, osl, rfl, look, isCode⟩ := F.ex
  refine ⟨fun {A out s H us vs Q} room hl rel hz ev want => ?_⟩
  have inK : K.In s.heap := ev.mod.kin.keeps fun b o z => by
    obtain ⟨z1, z2⟩ := ev.bs b o z
    have ne : b ≠ s.heap.objs.size := fun q => by
      rw [q, upd_same] at z2
      cases z2
    rw [← z1]
    exact (Heap.get?_push_ne _ _ _ ne).symm
  have relT : Vals (vs.take n ++ [V.ref s.heap.objs.size]) (us.take n ++ [Value.ref s.heap.objs.size]) := (rel.take n).append (.cons (show RelV (V.ref s.heap.objs.size) (Value.ref s.heap.objs.size) from rfl) .nil)
  have lenT : (vs.take n ++ [V.ref s.heap.objs.size]).length = ps.length := by
    rw [hn, List.length_append, List.length_take, Nat.min_eq_left hl]
    rfl
  generalize hs1 : ({ s with heap := s.heap.push { cls := .type "tuple", data := .seq (us.drop n).toArray } } : Shared) = s1 at ev ⊢
  generalize hH1 : upd H s.heap.objs.size (.tup (vs.drop n)) = H1 at ev want ⊢
  have noLim : s1.heap.NoLimit := ev.mod.nolimit.keeps fun b o z => (ev.bs b o z).1
  have kinds : ∀ y ∈ ps.zip (us.take n ++ [Value.ref s.heap.objs.size]), (defScope st).names.lookup y.1 = some .local ∨ ((defScope st).names.lookup y.1 = some .cell ∧ ((cellsFrom (s1.heap.objs.size + 1) (defScope st).names []).lookup y.1).isSome = true) := by
    rintro ⟨m, v⟩ hy
    cases S.par m (List.of_mem_zip hy).1 with
    | inl q => exact .inl q
    | inr q => exact .inr ⟨q, PySem.W.cellsFrom_some _ _ _ (.inl q)⟩
  apply codeAny_call_function (o := ⟨oc, od, .func _, osl⟩) room.depth (inK _ _ look) rfl S.co S.gen rfl (PySem.W.codeRec_of inK isCode)
  rw [bv us (by rw [← rel.length]; exact hl)]
  refine wpAny_bind (wpAny_newTuple ?_ (Nat.le_trans (by rw [List.length_drop]; exact Nat.sub_le _ _) hz))
  rw [hs1]
  refine wpAny_pure ?_
  apply wpAny_newFunctionEnv_cells S.kind kinds
  intro env he s2 x
  subst he
  refine ⟨noLim.keeps x.toInCall.keep, codeAny_func ?_⟩
  have J := inv_start (CX := CX0) (N := N) (E := E0) S room.hd ev lenT relT x
  have main := PSs.nox (st := defBody st) (X := cxOf CX0 P w K mg base N qual (defScope st) f cdv A out s1 H1 E0) pw_B
  refine wpAny_mono (main.run [] s2 _ H1 _ J (body cdv A out s1 H1 (vs.take n) s.heap.objs.size Q E0 (room.deeper _) (by rw [List.length_take, Nat.min_eq_left hl]) want)) (fun fl s' z => ?_) (fun e s' z => z)
  match fl, z with
  | .ret u, ⟨v, _, H', I', rv, q⟩ => exact ⟨v, H', I'.os, I'.bare, I'.base, I'.hok, rv, q⟩
  | .next, ⟨_, H', I', q⟩ => exact ⟨.non, H', I'.os, I'.bare, I'.base, I'.hok, rfl, q⟩
  | .brk, ⟨_, _, _, q⟩ => exact q.elim
  | .cont, ⟨_, _, _, q⟩ => exact q.elim
end
section
variable {X : Cx} {k : Nat} {f : Addr} {n : Nat} {sp : List V → Addr → Hp → VK → Prop} {x : Str} {p pos : Pos} {e : Expr} {es : List Expr} {σ : L2.St} {H : Hp}
structure GDefV (X : Cx) (x : Str) (k : Nat) (f : Addr) (n : Nat) (sp : List V → Addr → Hp → VK → Prop) : Prop where
  ok : FnV X.prog X.w X.K X.mg X.base k f n sp
  room : Room k X.A
  gl : X.mg x = some (.ref f)
  kp : PySem.W.keepIn X.K (.ref f) = true
theorem runV {pins : List (Addr × Obj)} {s : Shared} {Q : VK} {us : List Value} {vs : List V} (g : GDefV X x k f n sp) (I : Inv X pins σ H s) (r : Vals vs us) (hl : n ≤ vs.length) (hz : vs.length ≤ sizeLine) (h : ∀ T, H T = none → sp (vs.take n) T (upd H T (.tup (vs.drop n))) Q) :
    wpAny (model X.prog X.w) X.A (call (.ref f) us) (EP X pins σ Q) X.xe s := by
  have hn : H s.heap.objs.size = none := I.hok.fresh (Nat.le_refl _)
  have hz2 : (vs.drop n).length ≤ sizeLine := Nat.le_trans (by rw [List.length_drop]; exact Nat.sub_le _ _) hz
  have J : Inv X pins σ (upd H s.heap.objs.size (.tup (vs.drop n))) { s with heap := s.heap.push { cls := .type "tuple", data := .seq (us.drop n).toArray } } :=
    I.laid (t' := s.toks) (fun b u z => Heap.get?_push_of_some _ z) (Nat.le_refl _) ⟨hz2, us.drop n, r.drop n, ⟨_, Heap.get?_push_size _ rfl, rfl, _, rfl⟩⟩
  refine wpAny_call (codeAny_mono (g.ok.go g.room hl r (by rw [← r.length]; exact hz) J.env0 (h _ hn)) ?_)
  rintro (z | fl) s' q
  · exact False.elim q
  · match fl, q with
    | .ret u, q => exact J.after q
theorem w_callV {Q : VK} (g : GDefV X x k f n sp) (h : wA X (e :: es) σ H fun vs H1 => n ≤ vs.length ∧ vs.length ≤ sizeLine ∧ ∀ T, H1 T = none → sp (vs.take n) T (upd H1 T (.tup (vs.drop n))) Q) (hg : Gl X x := by rfl)
    (hdb : (x == ("__debug__" : Str)) = false := by decide) (he : starEach (e :: es) X.env = (false, eval e X.env) :: starEach es X.env := by rfl) (hpl : (backTo pos (starEach es X.env)).any (·.1) = false := by rfl) : wE X (.Call (.Name x p) (e :: es) [] pos) σ H Q := by
  refine wE_i fun pins s I => ?_
  apply wpAny_Call_Name_kw
  apply ld_glob I hg g.gl _ hdb
  apply PySem.W.callWith_K (h₀ := X.base) I.ok.mod.kin g.kp _ he hpl
  exact thn (wA.run h _ pins s I) fun us s1 ⟨vs, H1, I1, r, hl, hz, q⟩ => ⟨I1.kIn, runV g I1 r hl hz q⟩
end
end Cb

/-! literals -/
namespace Cb
open PySem PySem.Spec PyProof.Rows L2
def lits (f : Expr → Option PyData) : List Expr → Option (List PyData)
  | [] => some []
  | e :: es => match f e, lits f es with
    | some d, some ds => some (d :: ds)
    | _, _ => none
def litD : Nat → Expr → Option PyData
  | 0 => fun _ => none
  | n + 1 => fun e => match e with
    | .Constant (.int i) _ _ => some (.int i)
    | .Constant (.str x) _ _ => some (.str x)
    | .Constant (.bool b) _ _ => some (.bool b)
    | .UnaryOp .USub e _ => match litD n e with
      | some (.int i) => some (.int (-i))
      | _ => none
    | .Tuple es _ _ => match lits (litD n) es with
      | some ds => if ds.length ≤ 1000 then some (.tuple ds) else none
      | none => none
    | _ => none
section
variable {X : Cx} {σ : L2.St} {H : Hp}
theorem lits_ev {f : Expr → Option PyData} (hf : ∀ e d, f e = some d → Ev X σ H e (Da d) ∧ ∀ es, starEach (e :: es) X.env = (false, eval e X.env) :: starEach es X.env) : ∀ {es : List Expr} {ds : List PyData}, lits f es = some ds → EvA X σ H es (ds.map Da)
  | [], ds, h => by
    unfold lits at h
    cases h
    exact ea_nil
  | e :: es, ds, h => by
    unfold lits at h
    split at h
    · rename_i d ds' h1 h2
      cases h
      obtain ⟨a, b⟩ := hf e d h1
      exact ea_cons a mono_da (lits_ev hf h2) (b es)
    · cases h
theorem lit_ev : ∀ (n : Nat) (e : Expr) (d : PyData), litD n e = some d → Ev X σ H e (Da d) ∧ ∀ es, starEach (e :: es) X.env = (false, eval e X.env) :: starEach es X.env := by
  intro n
  induction n with
  | zero =>
    intro e d h
    unfold litD at h
    cases h
  | succ n ih =>
    intro e d h
    unfold litD at h
    split at h
    · cases h
      exact ⟨Ev.int (ev_c pe_int), fun _ => rfl⟩
    · cases h
      exact ⟨Ev.str (ev_c pe_str), fun _ => rfl⟩
    · cases h
      exact ⟨Ev.bool (ev_c pe_bl), fun _ => rfl⟩
    · split at h
      · rename_i h1
        cases h
        exact ⟨Ev.int (ev_negI (Ev.ofInt (ih _ _ h1).1)), fun _ => rfl⟩
      · cases h
    · split at h
      · rename_i ds h1
        split at h
        · rename_i hl
          cases h
          exact ⟨ev_tupD (lits_ev (fun e d q => ih e d q) h1) hl, fun _ => rfl⟩
        · cases h
      · cases h
    · cases h
theorem ev_lit {e : Expr} {d : PyData} (n : Nat) (h : litD n e = some d) : Ev X σ H e (Da d) := (lit_ev n e d h).1
theorem ea_lits {es : List Expr} {ds : List PyData} (n : Nat) (h : lits (litD n) es = some ds) : EvA X σ H es (ds.map Da) := lits_ev (fun e d q => lit_ev n e d q) h
/-- [1, 2, ..], all literals -/
theorem ev_litL {es : List Expr} {ds : List PyData} {p : Pos} (n : Nat) (h : lits (litD n) es = some ds) (hl : ds.length ≤ 1000) : Ev X σ H (.List es p) (LstD ds) := ev_lstD (ea_lits n h) hl
end
end Cb

namespace Kn
open PySem PySem.Spec PyProof.Rows L2 Cb
def top (i : Nat) : Stmt := PySem.Challenge.pw_centbook_k45_states_told.main.body.getD i (.Pass ⟨0, 0, 0, 0⟩)
abbrev sLow : Stmt := top 4
abbrev sPSum : Stmt := top 5
abbrev sPTotal : Stmt := top 6
abbrev sDown : Stmt := top 7
abbrev sUp : Stmt := top 8
abbrev sTurned : Stmt := top 9
abbrev sLess : Stmt := top 10
abbrev sBelow : Stmt := top 11
abbrev sOffs : Stmt := top 13
abbrev sBalances : Stmt := top 14
abbrev sIsRounded : Stmt := top 15
abbrev sIsClose : Stmt := top 16
abbrev sIsOpen : Stmt := top 17
abbrev sStream : Stmt := top 19
abbrev sDraw : Stmt := top 20
abbrev sPick : Stmt := top 21
abbrev sSample : Stmt := top 22
abbrev sLLow : Stmt := top 23
abbrev sPlus : Stmt := top 24
abbrev sMinus : Stmt := top 25
abbrev sLLess : Stmt := top 26
abbrev sTotal : Stmt := top 27
abbrev sLDown : Stmt := top 28
abbrev sLUp : Stmt := top 29
abbrev sGaps : Stmt := top 30
abbrev sScales : Stmt := top 31
abbrev sBetween : Stmt := top 32
abbrev sIsNear : Stmt := top 33
abbrev sIsFree : Stmt := top 34
abbrev sChoices : Stmt := top 35
abbrev sRoundWays : Stmt := top 36
abbrev sWithCounts : Stmt := top 37
abbrev sMakeExact : Stmt := top 38
abbrev sMakeBare : Stmt := top 39
abbrev sMakeNear : Stmt := top 40
abbrev sLaw : Stmt := top 41
end Kn

namespace Kn
open PySem PySem.Spec PyProof.Rows L2 Cb
section
variable {P : Program} {w : World} {K : PySem.W.Frag} {mg : Str → Option Value} {base : Heap}
/-! ### lowest -/
def LowOk (u : Int) : Prop := u ≠ 0 ∧ ((0 < u ∧ u.natAbs < 2 ^ 8000) ∨ u.natAbs < 1073741824)
theorem LowOk.div {o u : Int} (h : LowOk u) : CDivA o (lowS o u) := by
  rcases Int.lt_or_lt_of_ne h.1 with q | q
  · have := lowS_neg (o := o) q
    rcases h.2 with z | z
    · omega
    · exact .inr ⟨by omega, by omega⟩
  · have := lowS_pos (o := o) q
    rcases h.2 with z | z
    · refine .inl ⟨this.1, Nat.lt_trans (PySem.Flt.log2_lt_of (by decide) (Nat.lt_of_le_of_lt ?_ z.2)) (by decide)⟩
      omega
    · exact .inr ⟨by omega, by omega⟩
theorem LowOk.num {o u : Int} (h : LowOk u) : o.fdiv (lowS o u) = (Rat.divInt o u).num ∧ u.fdiv (lowS o u) = ((Rat.divInt o u).den : Int) := by
  rcases Int.lt_or_lt_of_ne h.1 with q | q
  · exact low_neg q
  · have l := (lowS_pos (o := o) q).1
    rw [Int.fdiv_eq_ediv_of_nonneg _ (by omega), Int.fdiv_eq_ediv_of_nonneg _ (by omega)]
    exact low_pos q
def spLow : Sp := spP (fun (d : Int × Int) vs _ => vs = [.int d.1, .int d.2] ∧ LowOk d.2) (fun d => TupI [.int (Rat.divInt d.1 d.2).num, .int ((Rat.divInt d.1 d.2).den : Int)])
theorem scLow : FnScope ["over", "under", "shared"] ["over", "under"] (defScope sLow) := ⟨rfl, rfl, rfl, by decide +kernel, rfl, by decide +kernel, by decide +kernel⟩
theorem ok_low {f : Addr} {fd : FuncData} (F : Fun K "lowest" "lowest" sLow f fd) (z1 : mg "gcd" = some (.builtin "math.gcd")) : FnOk P w K mg base CX0 1 f fd ["over", "under"] spLow := by
  refine F.ok scLow (fun vs H Q E h => ?_) (fun cdv A outer s H vs Q E hr h => ?_)
  · obtain ⟨d, ⟨rfl, _⟩, _⟩ := h
    rfl
  · obtain ⟨⟨o, u⟩, ⟨rfl, hu⟩, q⟩ := h
    dsimp only at hu q ⊢
    refine ⟨_, pw_B, b_setE (i := 2) scLow.nd rfl (.inl rfl) (ev_gcd z1 (ea_2 (ev_vi (pv 0) rfl) mono_is (ev_vi (pv 1) rfl) mono_is)) fun v H1 s1 e => ?_⟩
    cases e
    refine b_ifJ (fun σ' H' => σ' = [some (.int o), some (.int u), some (.int (lowS o u))] ∧ Same H H') (c_I op_lt (nomark _) (ev_vi (pv 1) rfl) (ev_c pe_int)).et (fun h H2 s2 => ?_) (fun h H2 s2 => ?_) fun σ' H2 j => ?_
    · have hl : u < 0 := of_decide_eq_true h
      refine b_setE (i := 2) scLow.nd rfl (.inl rfl) (ev_negI (ev_vi (pv 2) rfl)) fun v H3 s3 e => ?_
      cases e
      refine b_nil ⟨?_, (s1.trans s2).trans s3⟩
      unfold lowS
      rw [if_pos hl]
      rfl
    · have hl : ¬ u < 0 := of_decide_eq_false h
      refine b_nil ⟨?_, s1.trans s2⟩
      unfold lowS
      rw [if_neg hl]
      rfl
    · obtain ⟨rfl, s2⟩ := j
      refine b_retE (ev_tupI (xs := [.int (o.fdiv (lowS o u)), .int (u.fdiv (lowS o u))]) (ea_2 (ev_opC op_fdivA (ev_vi (pv 0) rfl) (ev_vi (pv 2) rfl) hu.div) mono_is (ev_opC op_fdivA (ev_vi (pv 1) rfl) (ev_vi (pv 2) rfl) hu.div) mono_is) (by show 2 ≤ 1000; decide)) fun v H3 s3 h => ?_
      rw [hu.num.1, hu.num.2] at h
      exact q v H3 (s2.trans s3) h

theorem atI0 {x : V} {r : List V} : atI (x :: r) 0 = some x := atI_nat (j := 0) rfl
theorem atI1 {x y : V} {r : List V} : atI (x :: y :: r) 1 = some y := atI_nat (j := 1) rfl
def DivOk (u : Int) : Prop := 0 < u ∧ u.natAbs < 2 ^ 8000
theorem DivOk.div {o u : Int} (h : DivOk u) : CDivA o u := .inl ⟨h.1, Nat.lt_trans (PySem.Flt.log2_lt_of (by decide) h.2) (by decide)⟩
theorem DivOk.eq {o u : Int} (h : DivOk u) : o.fdiv u = o / u := Int.fdiv_eq_ediv_of_nonneg _ (Int.le_of_lt h.1)
/-- one argument told -/
theorem isOne {v : V} {vs : List V} {H : Hp} (h : Pws [Is v] vs H) : vs = [v] := by
  obtain ⟨u, rfl, e⟩ := h.one
  rw [show u = v from e]
theorem isTwo {v w : V} {vs : List V} {H : Hp} (h : Pws [Is v, Is w] vs H) : vs = [v, w] := by
  obtain ⟨u, u2, rfl, e, e2⟩ := h.two
  rw [show u = v from e, show u2 = w from e2]
theorem ev_low {X : Cx} {σ : L2.St} {H : Hp} {a b : Expr} {p q : Pos} {o u : Int} {k : Nat} {f : Addr} {fd : FuncData} {ps : List Str} (g : GDef X "lowest" k f fd ps spLow) (hu : LowOk u) (ha : Ev X σ H a (Is (.int o))) (hb : Ev X σ H b (Is (.int u))) (hg : Gl X "lowest" := by rfl) (hs : starEach [a, b] X.env = (false, eval a X.env) :: starEach [b] X.env := by rfl) (hs' : starEach [b] X.env = (false, eval b X.env) :: starEach [] X.env := by rfl)
    (hpl : (backTo p (starEach [b] X.env)).any (·.1) = false := by rfl) : Ev X σ H (.Call (.Name "lowest" q) [a, b] [] p) (TupI [.int (Rat.divInt o u).num, .int ((Rat.divInt o u).den : Int)]) := ev_callP (o, u) g (ea_2 ha mono_is hb mono_is hs hs') (fun vs H2 _ h => ⟨isTwo h, hu⟩) hg (by decide) hs hpl

theorem den2_ok {r q : Rat} (h : Bd 2000 r) (h' : Bd 2000 q) : LowOk ((r.den : Int) * (q.den : Int)) := by
  have z : (0 : Int) < (r.den : Int) * (q.den : Int) := Int.mul_pos (den_pos r) (den_pos q)
  exact ⟨Int.ne_of_gt z, .inl ⟨z, Nat.lt_of_lt_of_le (lt_mul (n := 2000) (m := 2000) h.2 h'.2) (Nat.pow_le_pow_right (by decide) (by decide))⟩⟩
theorem divOk {r : Rat} (h : Bd 2000 r) : DivOk (r.den : Int) := ⟨den_pos r, Nat.lt_of_lt_of_le h.2 (Nat.pow_le_pow_right (by decide) (by decide))⟩
theorem mulOk {i j : Int} (h : i.natAbs < 2 ^ 2000) (h' : j.natAbs < 2 ^ 2000) : CMulW i j := wide_mul h h' (by decide) (by decide) (by decide)
/-! ### fractions as data -/
def qd (r : Rat) : PyData := .tuple [.int r.num, .int (r.den : Int)]
theorem td_qd {r : Rat} {v : V} {H : Hp} (h : TupI [.int r.num, .int (r.den : Int)] v H) : Td H (qd r) v := by
  obtain ⟨q, rfl, h⟩ := h
  exact .mk h (.cons td_int (.cons td_int .nil))
section
variable {X : Cx} {σ : L2.St} {H : Hp} {a b : Expr} {p q : Pos} {r s : Rat} {k : Nat} {f : Addr} {fd : FuncData} {ps : List Str}
theorem ev_q0 (h : Ev X σ H a (Da (qd r))) (hi : Ev X σ H b (Is (.int 0))) (hs : PlainIxT b := by exact fun _ _ => rfl) : Ev X σ H (.Subscript a b p) (Is (.int r.num)) := (ev_ixD (j := 0) h hi rfl hs).ofInt
theorem ev_q1 (h : Ev X σ H a (Da (qd r))) (hi : Ev X σ H b (Is (.int 1))) (hs : PlainIxT b := by exact fun _ _ => rfl) : Ev X σ H (.Subscript a b p) (Is (.int (r.den : Int))) := (ev_ixD (j := 1) h hi rfl hs).ofInt
def spQ2 (g : Rat → Rat → Rat) : Sp := spP (fun (d : Rat × Rat) vs H => (∃ v w, vs = [v, w] ∧ Td H (qd d.1) v ∧ Td H (qd d.2) w) ∧ Bd 2000 d.1 ∧ Bd 2000 d.2) (fun d => Da (qd (g d.1 d.2)))
theorem scPSum : FnScope ["one", "other"] ["one", "other"] (defScope sPSum) := ⟨rfl, rfl, rfl, by decide +kernel, rfl, by decide +kernel, by decide +kernel⟩
theorem ok_psum {f f1 : Addr} {fd fd1 : FuncData} (F : Fun K "pair_sum" "pair_sum" sPSum f fd) (F1 : Fun K "lowest" "lowest" sLow f1 fd1) (b1 : Binds K fd1 ["over", "under"] []) (g1 : mg "lowest" = some (.ref f1)) (z1 : mg "gcd" = some (.builtin "math.gcd")) : FnOk P w K mg base CX0 2 f fd ["one", "other"] (spQ2 fun r q => r + q) := by
  have G1 : FnOk P w K mg base CX0 1 f1 fd1 ["over", "under"] spLow := ok_low F1 z1
  refine F.ok scPSum (fun vs H Q E h => ?_) (fun cdv A outer s H vs Q E hr h => ?_)
  · obtain ⟨d, ⟨⟨v, w, rfl, _⟩, _⟩, _⟩ := h
    rfl
  · obtain ⟨⟨r, q⟩, ⟨⟨v, w, rfl, hv, hw⟩, hr1, hq1⟩, k⟩ := h
    dsimp only at hv hw hr1 hq1
    refine ⟨_, pw_B, b_retE (ev_low (o := r.num * (q.den : Int) + q.num * (r.den : Int)) (u := (r.den : Int) * (q.den : Int)) ⟨G1, hr, g1, F1.kp, b1⟩ (den2_ok hr1 hq1) ?_ ?_) fun v' H2 s2 h => k v' H2 s2 (by
      rw [add_eq] at h
      exact td_qd h)⟩
    · exact ev_opI op_add (ev_opC op_mulW (ev_q0 (ev_v (pv 0) rfl hv mono_da) (ev_c pe_int)) (ev_q1 (ev_v (pv 1) rfl hw mono_da) (ev_c pe_int)) (mulOk hr1.1 hq1.2)) (ev_opC op_mulW (ev_q0 (ev_v (pv 1) rfl hw mono_da) (ev_c pe_int)) (ev_q1 (ev_v (pv 0) rfl hv mono_da) (ev_c pe_int)) (mulOk hq1.1 hr1.2))
    · exact ev_opC op_mulW (ev_q1 (ev_v (pv 0) rfl hv mono_da) (ev_c pe_int)) (ev_q1 (ev_v (pv 1) rfl hw mono_da) (ev_c pe_int)) (mulOk hr1.2 hq1.2)
theorem ev_q2 {g : Rat → Rat → Rat} {x : Str} (G : GDef X x k f fd ps (spQ2 g)) (ha : Ev X σ H a (Da (qd r))) (hb : Ev X σ H b (Da (qd s))) (h1 : Bd 2000 r) (h2 : Bd 2000 s) (hg : Gl X x := by rfl) (hdb : (x == ("__debug__" : Str)) = false := by decide) (hs : starEach [a, b] X.env = (false, eval a X.env) :: starEach [b] X.env := by rfl) (hs' : starEach [b] X.env = (false, eval b X.env) :: starEach [] X.env := by rfl)
    (hpl : (backTo p (starEach [b] X.env)).any (·.1) = false := by rfl) : Ev X σ H (.Call (.Name x q) [a, b] [] p) (Da (qd (g r s))) := ev_callP (r, s) G (ea_2 ha mono_da hb mono_da hs hs') (fun vs H2 _ h => ⟨h.two, h1, h2⟩) hg hdb hs hpl
end
end
end Kn

namespace Kn
open PySem PySem.Spec PyProof.Rows L2 Cb
theorem two_le {n m : Nat} (h : n ≤ m) : 2 ^ n ≤ 2 ^ m := Nat.pow_le_pow_right (by decide) h
theorem bd_add {r q : Rat} {n m : Nat} (h : Bd n r) (h' : Bd m q) : Bd (n + m + 1) (r + q) := by
  rw [← add_eq]
  refine bd_div (Int.ne_of_gt (Int.mul_pos (den_pos r) (den_pos q))) (lt_add (lt_mul h.1 h'.2) ?_) (Nat.lt_of_lt_of_le (lt_mul h.2 h'.2) (two_le (by omega)))
  rw [Nat.add_comm n m]
  exact lt_mul h'.1 h.2

/-! ### sheets as data -/
structure Ln where
  nm : Str
  ex : Rat
  ct : Int
  on : Bool
def ld (l : Ln) : PyData := .tuple [.str l.nm, qd l.ex, .int l.ct, .bool l.on]
def rowsD (r : List Ln) : PyData := .tuple (r.map ld)
def dayD (d : List Rat) : PyData := .tuple (d.map qd)
def daysD (ds : List (List Rat)) : PyData := .tuple (ds.map dayD)
def rowI (r : List Int) : PyData := .tuple (r.map .int)
def bkD (b : List (List Int)) : PyData := .tuple (b.map rowI)
def shD (rows : List Ln) (parts : List PyData) (days : List (List Rat)) : PyData := .tuple [rowsD rows, .tuple parts, daysD days]
def sumQ (l : List Rat) : Rat := l.foldl (· + ·) 0
theorem sumQ_snoc {l : List Rat} {r : Rat} : sumQ (l ++ [r]) = sumQ l + r := by
  unfold sumQ
  rw [List.foldl_append]
  rfl
theorem bd_fold : ∀ (l : List Rat) (a : Rat) (n : Nat), Bd n a → (∀ r ∈ l, Bd 60 r) → Bd (n + 61 * l.length) (l.foldl (· + ·) a)
  | [], a, n, h, _ => h
  | r :: l, a, n, h, hl => by
    have := bd_fold l (a + r) (n + 60 + 1) (bd_add h (hl r (List.mem_cons_self ..))) fun q hq => hl q (List.mem_cons_of_mem _ hq)
    rw [List.length_cons]
    exact this.mono (by omega)
theorem bd_zero : Bd 1 (0 : Rat) := ⟨by decide, by decide⟩
theorem bd_sumQ {l : List Rat} (h : ∀ r ∈ l, Bd 60 r) : Bd (1 + 61 * l.length) (sumQ l) := bd_fold l 0 1 bd_zero h
section
variable {P : Program} {w : World} {K : PySem.W.Frag} {mg : Str → Option Value} {base : Heap}
def spTot : Sp := spP (fun (rs : List Rat) vs H => (∃ v, vs = [v] ∧ LstD (rs.map qd) v H) ∧ (∀ r ∈ rs, Bd 60 r) ∧ rs.length ≤ 20) (fun rs => Da (qd (sumQ rs)))
theorem scTot : FnScope ["pairs", "total", "pair"] ["pairs"] (defScope sPTotal) := ⟨rfl, rfl, rfl, by decide +kernel, rfl, by decide +kernel, by decide +kernel⟩
theorem ok_tot {f f1 : Addr} {fd fd1 : FuncData} (F : Fun K "pair_total" "pair_total" sPTotal f fd) (G1 : FnOk P w K mg base CX0 2 f1 fd1 ["one", "other"] (spQ2 fun r q => r + q)) (k1 : PySem.W.keepIn K (.ref f1) = true) (b1 : Binds K fd1 ["one", "other"] []) (g1 : mg "pair_sum" = some (.ref f1)) : FnOk P w K mg base CX0 3 f fd ["pairs"] spTot := by
  refine F.ok scTot (fun vs H Q E h => ?_) (fun cdv A outer s H vs Q E hr h => ?_)
  · obtain ⟨d, ⟨⟨v, rfl, _⟩, _⟩, _⟩ := h
    rfl
  · obtain ⟨rs, ⟨⟨v, rfl, a, xs, rfl, ha, t⟩, hb, hl⟩, k⟩ := h
    refine ⟨_, pw_B, ?_⟩
    refine b_setE (i := 1) scTot.nd rfl (.inl rfl) (ev_tupD (ds := [.int 0, .int 1]) (ed_cons (Ev.int (ev_c pe_int)) (ed_cons (Ev.int (ev_c pe_int)) ed_nil)) (by decide)) fun t0 H1 s1 h0 => ?_
    refine b_for rfl (pi_list (pv 0)) (pg_name (i := 2) scTot.nd rfl (.inl rfl)) ?_ PassesOwn.never
    refine ⟨_, rfl, a, rfl, ⟨_, SqL.of (s1 _ _ ha)⟩, for_list (K := K) (a := a) (xs := xs) (fun i σ H' => ∃ u y, σ = [some (.ref a), some u, y] ∧ Same H1 H' ∧ Td H' (qd (sumQ (rs.take i))) u) ⟨t0, none, rfl, .refl _, h0⟩ (fun i σ H' _ ⟨_, _, _, s, _⟩ => SqL.of (s _ _ (s1 _ _ ha))) ?_ ?_⟩
    · rintro i x σ H2 hx ⟨u, y, rfl, s2, hu⟩
      obtain ⟨d, hd, td⟩ := t.at' hx
      obtain ⟨r, hr1, rfl⟩ : ∃ r, rs[i]? = some r ∧ qd r = d := by
        rw [List.getElem?_map] at hd
        cases e : rs[i]? with
        | none =>
          rw [e] at hd
          cases hd
        | some r =>
          rw [e] at hd
          cases hd
          exact ⟨r, rfl, rfl⟩
      have tx := Td.keep (.of (s1.trans s2)) _ _ td
      have hm : r ∈ rs := List.mem_of_getElem? hr1
      have bi : Bd 2000 (sumQ (rs.take i)) := (bd_sumQ fun q hq => hb q (List.mem_of_mem_take hq)).mono (by
        have : (rs.take i).length ≤ rs.length := by
          rw [List.length_take]
          omega
        omega)
      refine b_setE (i := 1) scTot.nd rfl (.inl rfl) (ev_q2 ⟨G1, hr, g1, k1, b1⟩ (ev_v (pv 1) rfl hu mono_da) (ev_v (pv 2) rfl tx mono_da) bi ((hb r hm).mono (by decide))) fun v H3 s3 hv => b_nil ⟨v, _, rfl, s2.trans s3, ?_⟩
      rw [take_snoc hr1, sumQ_snoc]
      exact hv
    · rintro σ H2 ⟨u, y, rfl, s2, hu⟩
      have hxl : xs.length = rs.length := by
        rw [t.len, List.length_map]
      rw [hxl, List.take_length] at hu
      exact b_retE (ev_v (pv 1) rfl hu mono_da) fun v H3 s3 hv => k v H3 ((s1.trans s2).trans s3) hv
end
end Kn

namespace Cb
open PySem PySem.Spec PyProof.Rows L2
theorem ev_sliceT {X : Cx} {σ : L2.St} {H : Hp} {a lo hi : Expr} {p p2 : Pos} {ds : List PyData} {i k : Nat} (ha : Ev X σ H a (Da (.tuple ds))) (hl : Ev X σ H lo (Is (.int (i : Int)))) (hh : Ev X σ H hi (Is (.int (k : Int)))) : Ev X σ H (.Subscript a (.Slice (some lo) (some hi) none p2) p) (Da (.tuple ((ds.drop i).take (k - i)))) :=
  ev_of (pe_slice sl_tupA pw_E (po_some pw_E) (po_some pw_E)) fun H1 s1 => wE_mono (ha H1 s1) fun x H2 ⟨s2, px⟩ => wE_mono (hl H2 (s1.trans s2)) fun y H3 ⟨s3, py⟩ => by
    refine ⟨_, py, wE_mono (hh H3 ((s1.trans s2).trans s3)) fun z H4 ⟨s4, pz⟩ => ⟨_, pz, ?_⟩⟩
    obtain ⟨q, xs, rfl, hq, t⟩ := px.un
    have s24 := s3.trans s4
    have hq4 := s24 _ _ hq
    have t4 := Tds.keep (.of s24) _ _ t
    have st := s2.trans s24
    have e1 : HT.sIx xs.length 0 (some (i : Int)) = min i xs.length := HT.sIx_nat ..
    have e2 : HT.sIx xs.length xs.length (some (k : Int)) = min k xs.length := HT.sIx_nat ..
    have cut : cutV xs (some (i : Int)) (some (k : Int)) = (xs.drop i).take (k - i) := by
      unfold cutV
      rw [e1, e2]
      exact cut_slice
    have tc : Tds H4 ((ds.drop i).take (k - i)) (cutV xs (some (i : Int)) (some (k : Int))) := by
      rw [cut]
      exact (t4.drop i).take _
    refine ⟨q, xs, rfl, .of hq4, fun ⟨w1, w2⟩ => ⟨st, ?_⟩, fun _ d hd => ⟨st.trans (same_new hd), .mk upd_same (Tds.keep (.of (same_new hd)) _ _ tc)⟩⟩
    refine .mk hq4 ?_
    have all : cutV xs (some (i : Int)) (some (k : Int)) = xs := by
      unfold cutV
      rw [w1, w2, List.drop_zero, Nat.sub_zero, List.take_length]
    rw [all] at tc
    exact tc
end Cb
namespace Cb
open PySem PySem.Spec PyProof.Rows L2
theorem Tds.ints {H : Hp} : ∀ {ns : List Int} {xs : List V}, Tds H (ns.map PyData.int) xs → xs = ns.map V.int
  | [], xs, h => h.nil'
  | n :: ns, xs, h => by
    obtain ⟨v, r, rfl, h1, h2⟩ := h.un
    rw [h1.int, h2.ints]
    rfl
section
variable {X : Cx} {e a b c o : Expr} {es : List Expr} {σ : L2.St} {H H' : Hp} {pos pos' p p' q apos cpos : Pos} {P : Pd} {ds : List PyData} {d : PyData} {i : Nat} {sts : List Stmt} {D : Ends} {S : Addr} {us : List V}
theorem ev_sum {ns : List Int} (hc : X.calm = true) (hm : X.mg "sum" = none) (ha : Ev X σ H a (LstD (ns.map PyData.int))) (hg : Gl X "sum" := by rfl) (hs : starEach [a] X.env = (false, eval a X.env) :: starEach [] X.env := by rfl) (hpl : (backTo p (starEach [] X.env)).any (·.1) = false := by rfl) : Ev X σ H (.Call (.Name "sum" p') [a] [] p) (Is (.int ns.sum)) :=
  ev_cb (cr_sum hc) hm (by decide +kernel) (ea_1 ha mono_lstD hs) (fun vs H2 s h => by
    obtain ⟨v, rfl, q, xs, rfl, hq, t⟩ := h.one
    rw [t.ints] at hq
    exact ⟨q, ns, rfl, SqL.of hq, .refl _, rfl⟩) (fun vs H2 Q Q' k ⟨x, n, e, h, q⟩ => ⟨x, n, e, h, k _ _ q⟩) hg (by decide) (by decide) hs hpl
/-- o.append(e), o a variable that is a tracked list -/
theorem b_appW (hp : PE X o (tVar i)) (hσ : σ[i]? = some (some (.ref S))) (hS0 : ∃ us0, H S = some (.lst us0)) (he : wE X e σ H fun v H' => ∃ us, H' S = some (.lst us) ∧ us.length ≤ 900 ∧ wB X sts D σ (upd H' S (.lst (us ++ [v]))))
    (hb : attributeBase o "append" X.env (eval o X.env) = eval o X.env := by rfl) (hl : (apos.endLine == cpos.line) = true := by rfl) (hs : starEach [e] X.env = (false, eval e X.env) :: starEach [] X.env := by rfl)
    (hfew : ((backTo cpos (starEach [e] X.env)).all (fun x => !x.1) && (backToKw cpos (keywordEach [] X.env)).all (fun x => x.1.isSome) && decide (([e] : List Expr).length + ([] : List Keyword).length + (if ([] : List Keyword).isEmpty then 0 else 1) < 30)) = true := by rfl) (hpl : (backTo cpos (starEach [] X.env)).any (·.1) = false := by rfl)
    (hsw : swapsWith (.Call (.Attribute o "append" apos) [e] [] cpos) none pos.line X.env = pure false := by rfl) : wB X (.Expr (.Call (.Attribute o "append" apos) [e] [] cpos) pos :: sts) D σ H := by
  obtain ⟨us0, hS0⟩ := hS0
  refine b_cons (w_S (ps_expr (pe_bm PySem.F.plainAttrs_list PySem.F.slot_list_append PySem.F.type_list_append mt_append hp (pa_cons pw_E pa_nil hs) (hbase := hb) (hfew := hfew) (hline := hl) (hs := hs) (hplain := hpl)) hsw) ?_)
  refine ⟨_, hσ, .inl ⟨rfl, _, SqL.of hS0⟩, wE_mono he fun v H1 ⟨us, h1, h2, h3⟩ => ⟨S, us, v, rfl, rfl, h1, small1000 (by omega), h3⟩⟩
theorem b_app (hp : PE X o (tVar i)) (hσ : σ[i]? = some (some (.ref S))) (hS : H S = some (.lst us)) (hl9 : us.length ≤ 900) (he : Ev X σ H e P) (k : ∀ v H', Same H H' → P v H' → wB X sts D σ (upd H' S (.lst (us ++ [v]))))
    (hb : attributeBase o "append" X.env (eval o X.env) = eval o X.env := by rfl) (hl : (apos.endLine == cpos.line) = true := by rfl) (hs : starEach [e] X.env = (false, eval e X.env) :: starEach [] X.env := by rfl)
    (hfew : ((backTo cpos (starEach [e] X.env)).all (fun x => !x.1) && (backToKw cpos (keywordEach [] X.env)).all (fun x => x.1.isSome) && decide (([e] : List Expr).length + ([] : List Keyword).length + (if ([] : List Keyword).isEmpty then 0 else 1) < 30)) = true := by rfl) (hpl : (backTo cpos (starEach [] X.env)).any (·.1) = false := by rfl)
    (hsw : swapsWith (.Call (.Attribute o "append" apos) [e] [] cpos) none pos.line X.env = pure false := by rfl) : wB X (.Expr (.Call (.Attribute o "append" apos) [e] [] cpos) pos :: sts) D σ H :=
  b_appW hp hσ ⟨us, hS⟩ (w_ev he fun v H' s hv => ⟨us, s _ _ hS, hl9, k v H' s hv⟩) hb hl hs hfew hpl hsw
/-- x = [] -/
theorem b_newL {x : Str} (hN : X.N.Nodup) (hi : X.N[i]? = some x) (hx : Loc X.env.scope x) (k : ∀ S, H S = none → wB X sts D (σ.set i (some (.ref S))) (upd H S (.lst [])))
    (hs : swapsWith (.List [] p) (some (.Name x pos')) pos.line X.env = pure false := by rfl) (hf : X.fn x = true ∨ X.env.scope.names.lookup x = some .local := by first | exact .inl rfl | exact .inr rfl | assumption) : wB X (.Assign [.Name x pos'] (.List [] p) pos :: sts) D σ H :=
  b_set hN hi hx (w_E (pe_lst pa_nil) ⟨Nat.zero_le _, fun q hq => k q hq⟩) hs hf
theorem same_put {H H' : Hp} {S : Addr} {o : HO} (s : Same H H') (n : H S = none) : Same H (upd H' S o) := fun b u e => by
  rw [upd_ne (ne_of_none e n)]
  exact s b u e
end
end Cb

namespace Kn
open PySem PySem.Spec PyProof.Rows L2 Cb
theorem ev_sliceN {X : Cx} {σ : L2.St} {H : Hp} {a lo hi : Expr} {p p2 : Pos} {ds : List PyData} {i n : Nat} (ha : Ev X σ H a (Da (.tuple ds))) (hl : Ev X σ H lo (Is (.int (i : Int)))) (hh : Ev X σ H hi (Is (.int ((i + n : Nat) : Int)))) : Ev X σ H (.Subscript a (.Slice (some lo) (some hi) none p2) p) (Da (.tuple ((ds.drop i).take n))) := by
  have z := ev_sliceT (p := p) (p2 := p2) ha hl hh
  rw [Nat.add_sub_cancel_left] at z
  exact z
def itemD (i : Nat) : PyData → PyData
  | .tuple es => es.getD i .none
  | _ => .none
theorem itemD_at {i : Nat} {es : List PyData} {d : PyData} (h : es[i]? = some d) : itemD i (.tuple es) = d := by
  show es.getD i .none = d
  rw [List.getD_eq_getElem?_getD, h]
  rfl
theorem map_at {α β : Type} {f : α → β} {l : List α} {k : Nat} {b : β} (h : (l.map f)[k]? = some b) : ∃ a, l[k]? = some a ∧ f a = b := by
  rw [List.getElem?_map] at h
  cases e : l[k]? with
  | none =>
    rw [e] at h
    cases h
  | some a =>
    rw [e] at h
    cases h
    exact ⟨a, rfl, rfl⟩
theorem day_at {d : List Rat} {i n : Nat} (h : d.length = n) (hi : i < n) : (d.map qd)[i]? = some (qd (d.getD i 0)) := by
  have hd : i < d.length := by omega
  rw [List.getElem?_map, List.getElem?_eq_getElem hd, List.getD_eq_getElem?_getD, List.getElem?_eq_getElem hd]
  rfl
theorem row_at {r : List Int} {i n : Nat} (h : r.length = n) (hi : i < n) : (r.map PyData.int)[i]? = some (.int (r.getD i 0)) := by
  have hd : i < r.length := by omega
  rw [List.getElem?_map, List.getElem?_eq_getElem hd, List.getD_eq_getElem?_getD, List.getElem?_eq_getElem hd]
  rfl
end Kn
namespace Cb
open PySem PySem.Spec PyProof.Rows L2
section
variable {X : Cx} {a : Expr} {σ : L2.St} {H H' : Hp} {p p' : Pos} {ds : List PyData}
theorem rmono_sort {K : PySem.W.Frag} : RMono (rSortD K) := fun vs H Q Q' k ⟨a, xs, ds, h1, h2, h3, h4, h5, h6, q⟩ => ⟨a, xs, ds, h1, h2, h3, h4, h5, h6, fun ys p l t n => k _ _ (q ys p l t n)⟩
theorem ev_sortT (hu : X.A.units + 64 < cLine) (hm : X.mg "sorted" = none) (ha : Ev X σ H a (Da (.tuple ds))) (hal : PySem.W.AllAlike ds) (hk : PySem.W.Sortable ds) (hd : ∀ d ∈ ds, d.depth ≤ 50) (hg : Gl X "sorted" := by rfl) (hs : starEach [a] X.env = (false, eval a X.env) :: starEach [] X.env := by rfl) (hpl : (backTo p (starEach [] X.env)).any (·.1) = false := by rfl) :
    Ev X σ H (.Call (.Name "sorted" p') [a] [] p) (LstD (sortD ds)) := ev_cb (cr_sortD hu) hm (by decide +kernel) (ea_1 ha mono_da hs) (fun vs H2 s h => by
  obtain ⟨v, rfl, hv⟩ := h.one
  obtain ⟨q, xs, rfl, hq, t⟩ := Td.un hv
  exact ⟨q, xs, ds, rfl, .inr hq, t, hal, hk, hd, fun ys p l ty hp => ⟨same_new hp, p, ys, rfl, upd_same, Tds.keep (.of (same_new hp)) _ _ ty⟩⟩) rmono_sort hg (by decide) (by decide) hs hpl
theorem ev_sortL (hu : X.A.units + 64 < cLine) (hm : X.mg "sorted" = none) (ha : Ev X σ H a (LstD ds)) (hal : PySem.W.AllAlike ds) (hk : PySem.W.Sortable ds) (hd : ∀ d ∈ ds, d.depth ≤ 50) (hg : Gl X "sorted" := by rfl) (hs : starEach [a] X.env = (false, eval a X.env) :: starEach [] X.env := by rfl) (hpl : (backTo p (starEach [] X.env)).any (·.1) = false := by rfl) :
    Ev X σ H (.Call (.Name "sorted" p') [a] [] p) (LstD (sortD ds)) := ev_cb (cr_sortD hu) hm (by decide +kernel) (ea_1 ha mono_lstD hs) (fun vs H2 s h => by
  obtain ⟨v, rfl, q, xs, rfl, hq, t⟩ := h.one
  exact ⟨q, xs, ds, rfl, .inl hq, t, hal, hk, hd, fun ys p l ty hp => ⟨same_new hp, p, ys, rfl, upd_same, Tds.keep (.of (same_new hp)) _ _ ty⟩⟩) rmono_sort hg (by decide) (by decide) hs hpl
end
theorem alike_strs (xs : List Str) : PySem.W.AllAlike (xs.map PyData.str) := PySem.W.AllAlike.of (enc := PyData.str) fun _ _ => by simp [PySem.W.alike]
theorem sortable_strs (xs : List Str) : PySem.W.Sortable (xs.map PyData.str) := by
  refine .inr fun d hd => ?_
  obtain ⟨x, _, rfl⟩ := List.mem_map.mp hd
  exact ⟨fun z => PyData.noConfusion z, fun _ z => PyData.noConfusion z⟩
theorem depth_strs (xs : List Str) : ∀ d ∈ xs.map PyData.str, d.depth ≤ 50 := fun d hd => by
  obtain ⟨x, _, rfl⟩ := List.mem_map.mp hd
  show 0 ≤ 50
  decide
end Cb
namespace Cb
open PySem PySem.Spec PyProof.Rows L2
section
variable {X : Cx} {a b c : Expr} {σ : L2.St} {H H' : Hp} {pos p p' px py pt pt2 : Pos} {sts body : List Stmt} {D : Ends} {kt k2 : Nat}
theorem b_par {x y : Str} {i j : Nat} {Pa Pb : Pd} (hc : X.calm = true) (hN : X.N.Nodup) (hi : X.N[i]? = some x) (hj : X.N[j]? = some y) (hij : i ≠ j) (ha : Ev X σ H a Pa) (ma : Mono Pa) (hb : Ev X σ H b Pb) (mb : Mono Pb) (k : ∀ v w H', Same H H' → Pa v H' → Pb w H' → wB X sts D ((σ.set i (some v)).set j (some w)) H')
    (hx : X.env.scope.names.lookup x = some .local := by rfl) (hy : X.env.scope.names.lookup y = some .local := by rfl) (hw : swappedStores [.Tuple [.Name x px, .Name y py] kt pt] (.Tuple [a, b] k2 pt2) X.env = pure (some [x, y]) := by rfl)
    (hs : starEach [a, b] X.env = (false, eval a X.env) :: starEach [b] X.env := by rfl) (hs' : starEach [b] X.env = (false, eval b X.env) :: starEach [] X.env := by rfl) : wB X (.Assign [.Tuple [.Name x px, .Name y py] kt pt] (.Tuple [a, b] k2 pt2) pos :: sts) D σ H := by
  refine b_cons (w_S (ps_par hc hN hi hj hij hx hy pw_A hw) ?_)
  refine wA_mono (ea_2 ha ma hb mb hs hs' H (.refl _)) fun vs H1 ⟨s1, pv⟩ => ?_
  obtain ⟨v, w, rfl, h1, h2⟩ := pv.two
  exact ⟨v, w, rfl, k v w H1 s1 h1 h2⟩
theorem b_while (Wn : Nat → L2.St → Hp → Prop) (h0 : ∃ m, Wn m σ H) (hp : PassesOwn (model X.prog X.w) X.A X.env X.xe) (h : ∀ m σ H, Wn m σ H → wT X c σ H fun b H1 => if b = true then wB X body { D with nx := fun σ' H' => ∃ m', m' < m ∧ Wn m' σ' H', ct := fun σ' H' => ∃ m', m' < m ∧ Wn m' σ' H', bk := wB X sts D } σ H1 else wB X sts D σ H1) : wB X (.While c body [] pos :: sts) D σ H :=
  b_cons (w_S (ps_while hp pw_T pw_B) ⟨Wn, h0, fun m σ H hw => wT_mono (h m σ H hw) fun b H1 q => by
    by_cases e : b = true
    · rw [if_pos e] at q ⊢
      exact ⟨_, fun σ' H' z => z, q⟩
    · rw [if_neg e] at q ⊢
      exact q⟩)
theorem ev_absI {i : Int} (hm : X.mg "abs" = none) (ha : Ev X σ H a (Is (.int i))) (hg : Gl X "abs" := by rfl) (hs : starEach [a] X.env = (false, eval a X.env) :: starEach [] X.env := by rfl) (hpl : (backTo p (starEach [] X.env)).any (·.1) = false := by rfl) : Ev X σ H (.Call (.Name "abs" p') [a] [] p) (Is (.int (if i < 0 then -i else i))) :=
  ev_cb call_abs hm (by decide +kernel) (ea_1 ha mono_is hs) (fun vs H2 s h => by
    obtain ⟨v, rfl, e⟩ := h.one
    obtain rfl : v = .int i := e
    exact ⟨i, rfl, .refl _, rfl⟩) (fun vs H2 Q Q' k ⟨i, h, q⟩ => ⟨i, h, k _ _ q⟩) hg (by decide) (by decide) hs hpl
end
end Cb
namespace Cb
open PySem PySem.Spec PyProof.Rows L2
theorem b_parW {X : Cx} {a b : Expr} {σ : L2.St} {H : Hp} {pos px py pt pt2 : Pos} {sts : List Stmt} {D : Ends} {kt k2 : Nat} {x y : Str} {i j : Nat} (hc : X.calm = true) (hN : X.N.Nodup) (hi : X.N[i]? = some x) (hj : X.N[j]? = some y) (hij : i ≠ j) (h : wE X a σ H fun v H1 => wE X b σ H1 fun w H2 => wB X sts D ((σ.set i (some v)).set j (some w)) H2)
    (hx : X.env.scope.names.lookup x = some .local := by rfl) (hy : X.env.scope.names.lookup y = some .local := by rfl) (hw : swappedStores [.Tuple [.Name x px, .Name y py] kt pt] (.Tuple [a, b] k2 pt2) X.env = pure (some [x, y]) := by rfl)
    (hs : starEach [a, b] X.env = (false, eval a X.env) :: starEach [b] X.env := by rfl) (hs' : starEach [b] X.env = (false, eval b X.env) :: starEach [] X.env := by rfl)
    (hsw : swapsWithSole [.Tuple [.Name x px, .Name y py] kt pt] (.Tuple [a, b] k2 pt2) pos.line X.env = pure false := by rfl) : wB X (.Assign [.Tuple [.Name x px, .Name y py] kt pt] (.Tuple [a, b] k2 pt2) pos :: sts) D σ H := by
  refine b_cons (w_S (ps_par hc hN hi hj hij hx hy (pa_cons pw_E (pa_cons pw_E pa_nil hs') hs) hw hsw) ?_)
  exact wE_mono h fun v H1 q => wE_mono q fun w H2 q => ⟨v, w, rfl, q⟩
theorem erase_map {α β : Type} {f : α → β} : ∀ (l : List α) (n : Nat), (l.map f).eraseIdx n = (l.eraseIdx n).map f
  | [], n => rfl
  | a :: l, 0 => rfl
  | a :: l, n + 1 => by
    show f a :: (l.map f).eraseIdx n = f a :: (l.eraseIdx n).map f
    rw [erase_map l n]
theorem w_sortL {X : Cx} {a : Expr} {σ : L2.St} {H : Hp} {p p' : Pos} {ds : List PyData} {Q : VK} (hu : X.A.units + 64 < cLine) (hm : X.mg "sorted" = none) (ha : Ev X σ H a (LstD ds)) (hal : PySem.W.AllAlike ds) (hk : PySem.W.Sortable ds) (hd : ∀ d ∈ ds, d.depth ≤ 50) (k : ∀ S ys H', Same H H' → H S = none → H' S = none → Tds H' (sortD ds) ys → Q (.ref S) (upd H' S (.lst ys)))
    (hg : Gl X "sorted" := by rfl) (hs : starEach [a] X.env = (false, eval a X.env) :: starEach [] X.env := by rfl) (hpl : (backTo p (starEach [] X.env)).any (·.1) = false := by rfl) : wE X (.Call (.Name "sorted" p') [a] [] p) σ H Q :=
  w_E (pe_callB (cr_sortD hu) hg hm (by decide +kernel) (pa_cons pw_E pa_nil hs) (he := hs) (hpl := hpl)) (w_ev ha fun v H1 s1 ⟨S, xs, ev, hS, t⟩ => by
    subst ev
    refine ⟨S, xs, ds, rfl, .inl hS, t, hal, hk, hd, fun ys q _ ty n => k q ys H1 s1 ?_ n ty⟩
    cases e : H q with
    | none => rfl
    | some o =>
      rw [s1 _ _ e] at n
      cases n)
/-- a new list, anywhere -/
theorem w_newL {X : Cx} {es : List Expr} {σ : L2.St} {H : Hp} {p : Pos} {ds : List PyData} {Q : VK} (h : EvA X σ H es (ds.map Da)) (hl : ds.length ≤ 1000) (k : ∀ S xs H', Same H H' → H S = none → H' S = none → Tds H' ds xs → Q (.ref S) (upd H' S (.lst xs))) : wE X (.List es p) σ H Q :=
  w_E (pe_lst pw_A) (wA_mono (h H (.refl _)) fun vs H1 ⟨s1, pv⟩ => by
    have t := pws_da pv
    refine ⟨by rw [t.len]; exact Nat.le_of_lt (small1000 hl), fun S n1 => k S vs H1 s1 ?_ n1 t⟩
    cases e : H S with
    | none => rfl
    | some o =>
      rw [s1 _ _ e] at n1
      cases n1)
end Cb
namespace Cb
open PySem PySem.Spec PyProof.Rows L2
section
variable {X : Cx} {a b : Expr} {σ : L2.St} {H : Hp}
def rNeP (K : PySem.W.Frag) : R2 := fun x y H Q => ∃ d e, Dp K H x d ∧ Dp K H y e ∧ d.plain = true ∧ e.plain = true ∧ d.depth ≤ 60 ∧ Q (.bl (!PyData.eqv d e)) H
theorem op_neP (hu : X.A.units + 64 < cLine) : OpR X (compareOp .NotEq) (rNeP X.K) := by
  rintro pins s σ H x y v u Q I rx ry ⟨d, e, hd, he, pd, pe, dp, q⟩
  obtain ⟨as, r1⟩ := Dp.reads I d x v hd rx
  obtain ⟨bs, r2⟩ := Dp.reads I e y u he ry
  exact SeqAt.ne_plain r1 r2 pd pe (by omega) ⟨.bl _, H, I, rfl, q⟩
/-- != of data of any texts -/
theorem c_neP {Pa Pb : Pd} {d e' : PyData} (hu : X.A.units + 64 < cLine) (ha : Ev X σ H a Pa) (hb : Ev X σ H b Pb) (ma : Mono Pa) (da : ∀ x H', Same H H' → Pa x H' → Dp X.K H' x d) (db : ∀ x H', Same H H' → Pb x H' → Dp X.K H' x e') (pd : d.plain = true) (pe : e'.plain = true) (dp : d.depth ≤ 60) (hm : behindInMarks .NotEq b = false := by exact nomark _) : CC X σ H .NotEq a b (.bl (!PyData.eqv d e')) :=
  ⟨_, _, _, op_neP hu, hm, ha, hb, ma, fun x y H2 s px py => ⟨d, e', da x H2 s px, db y H2 s py, pd, pe, dp, .refl _, rfl⟩, fun x y H2 Q Q' k ⟨d, e, h1, h2, h3, h4, h5, q⟩ => ⟨d, e, h1, h2, h3, h4, h5, k _ _ q⟩⟩
end
end Cb
namespace Kn
open PySem PySem.Spec PyProof.Rows L2 Cb
theorem plain_strs : ∀ ns : List Str, PyData.plainAll (ns.map PyData.str) = true
  | [] => rfl
  | n :: ns => by
    show (PyData.plain (.str n) && PyData.plainAll (ns.map PyData.str)) = true
    rw [plain_strs ns]
    rfl
theorem depthAll_strs : ∀ ns : List Str, PyData.depthAll (ns.map PyData.str) = 0
  | [] => rfl
  | n :: ns => by
    show max (PyData.depth (.str n)) (PyData.depthAll (ns.map PyData.str)) = 0
    rw [depthAll_strs ns]
    rfl
theorem flat_strs (ys : List Str) : (ys.map V.str).all flatV = true := by
  rw [List.all_eq_true]
  intro x hx
  obtain ⟨y, _, rfl⟩ := List.mem_map.mp hx
  rfl
theorem ev_min2 {X : Cx} {σ : L2.St} {H : Hp} {a b : Expr} {p p' : Pos} {i j : Int} (hc : X.calm = true) (hm : X.mg "min" = none) (ha : Ev X σ H a (Is (.int i))) (hb : Ev X σ H b (Is (.int j))) (hg : Gl X "min" := by rfl) (hs : starEach [a, b] X.env = (false, eval a X.env) :: starEach [b] X.env := by rfl) (hs' : starEach [b] X.env = (false, eval b X.env) :: starEach [] X.env := by rfl)
    (hpl : (backTo p (starEach [b] X.env)).any (·.1) = false := by rfl) : Ev X σ H (.Call (.Name "min" p') [a, b] [] p) (Is (.int (if j < i then j else i))) :=
  ev_cb (call_min2 hc) hm (by decide +kernel) (ea_2 ha mono_is hb mono_is hs hs') (fun vs H2 s h => by
    obtain ⟨v, w, rfl, e1, e2⟩ := h.two
    exact ⟨i, j, by rw [show v = .int i from e1, show w = .int j from e2], .refl _, rfl⟩) (fun vs H2 Q Q' k ⟨i, j, h, q⟩ => ⟨i, j, h, k _ _ q⟩) hg (by decide) (by decide) hs hpl
def sortS (xs : List Str) : List Str := xs.mergeSort fun a b => PySem.W.dataLe false id (PyData.str a) (PyData.str b)
theorem sort_strs (xs : List Str) : sortD (xs.map PyData.str) = (sortS xs).map PyData.str := by
  have z := List.map_mergeSort (r := fun a b => PySem.W.dataLe false id (PyData.str a) (PyData.str b)) (s := PySem.W.dataLe false id) (f := PyData.str) (l := xs) (fun a _ b _ => rfl)
  exact z.symm
/-- a short name -/
abbrev NmOk (x : Str) : Prop := x.cps.size ≤ 8 ∧ (x.cps.toList.all fun c => decide (c < 16 ^ 8)) = true
def Short (xs : List Str) : Prop := ∀ x ∈ xs, NmOk x
end Kn
namespace Cb
open PySem PySem.Spec PyProof.Rows L2
section
variable {X : Cx} {a b c : Expr} {σ : L2.St} {H : Hp} {sts body els : List Stmt} {D : Ends} {pos : Pos}
theorem b_ifJW (J : L2.St → Hp → Prop) (h : wT X c σ H fun k H1 => if k = true then wB X body { D with nx := J } σ H1 else wB X els { D with nx := J } σ H1) (kk : ∀ σ' H', J σ' H' → wB X sts D σ' H') : wB X (.If c body els pos :: sts) D σ H :=
  b_if (wT_mono h fun k H1 q => by
    by_cases e : k = true
    · rw [if_pos e] at q ⊢
      exact wB_mono q kk (fun _ _ z => z) (fun _ _ z => z) fun _ _ z => z
    · rw [if_neg e] at q ⊢
      exact wB_mono q kk (fun _ _ z => z) (fun _ _ z => z) fun _ _ z => z)
def rEqP (K : PySem.W.Frag) : R2 := fun x y H Q => ∃ d e, Dp K H x d ∧ Dp K H y e ∧ d.plain = true ∧ e.plain = true ∧ d.depth ≤ 60 ∧ Q (.bl (PyData.eqv d e)) H
theorem op_eqP (hu : X.A.units + 64 < cLine) : OpR X (compareOp .Eq) (rEqP X.K) := by
  rintro pins s σ H x y v u Q I rx ry ⟨d, e, hd, he, pd, pe, dp, q⟩
  obtain ⟨as, r1⟩ := Dp.reads I d x v hd rx
  obtain ⟨bs, r2⟩ := Dp.reads I e y u he ry
  exact SeqAt.eq_plain r1 r2 pd pe (by omega) ⟨.bl _, H, I, rfl, q⟩
theorem c_eqP {Pa Pb : Pd} {d e' : PyData} (hu : X.A.units + 64 < cLine) (ha : Ev X σ H a Pa) (hb : Ev X σ H b Pb) (ma : Mono Pa) (da : ∀ x H', Same H H' → Pa x H' → Dp X.K H' x d) (db : ∀ x H', Same H H' → Pb x H' → Dp X.K H' x e') (pd : d.plain = true) (pe : e'.plain = true) (dp : d.depth ≤ 60) (hm : behindInMarks .Eq b = false := by exact nomark _) : CC X σ H .Eq a b (.bl (PyData.eqv d e')) :=
  ⟨_, _, _, op_eqP hu, hm, ha, hb, ma, fun x y H2 s px py => ⟨d, e', da x H2 s px, db y H2 s py, pd, pe, dp, .refl _, rfl⟩, fun x y H2 Q Q' k ⟨d, e, h1, h2, h3, h4, h5, q⟩ => ⟨d, e, h1, h2, h3, h4, h5, k _ _ q⟩⟩
theorem lst_dp {K : PySem.W.Frag} {H : Hp} {ds : List PyData} {v : V} (h : LstD ds v H) : Dp K H v (.list ds) := by
  obtain ⟨a, us, e, h, t⟩ := h
  subst e
  exact .lst (.of h) (Tds.dp _ _ t)
end
end Cb
namespace Cb
open PySem PySem.Spec PyProof.Rows L2
/-! ### what repr of a datum needs: its depth and its length -/
structure Shw (k L : Nat) (d : PyData) : Prop where
  s : d.showable = true
  h : d.hasDict = false
  dp : d.depth ≤ k
  z : d.shown.length ≤ L
variable {k L k' L' : Nat} {d : PyData} {ds : List PyData}
theorem Shw.mono (h : Shw k L d) (hk : k ≤ k') (hl : L ≤ L') : Shw k' L' d := ⟨h.s, h.h, Nat.le_trans h.dp hk, Nat.le_trans h.z hl⟩
theorem shw_none : Shw 0 5 .none := ⟨rfl, rfl, Nat.le_refl _, by decide⟩
theorem shw_bool {b : Bool} : Shw 0 5 (.bool b) := ⟨rfl, rfl, Nat.le_refl _, by cases b <;> decide⟩
theorem log2_lt_pow {n k : Nat} (h : n < 2 ^ k) : n.log2 < k + 1 := by
  by_cases hz : n = 0
  · subst hz
    rw [show Nat.log2 0 = 0 by decide]
    omega
  · exact Nat.lt_succ_of_lt ((Nat.log2_lt hz).mpr h)
theorem shw_int {i : Int} {n : Nat} (h : i.natAbs < 2 ^ n) (hn : n ≤ 1900) : Shw 0 (n + 2) (.int i) := by
  have hl := log2_lt_pow h
  refine ⟨?_, rfl, Nat.le_refl _, ?_⟩
  · show decide (i.natAbs.log2 < 1920) = true
    exact decide_eq_true (by omega)
  · have z := int_text_length_le (a := i) (k := n + 1) (by omega) hl
    have e : (PyData.int i).shown.length = (toString i).length := by
      rw [PyData.shown_int]
      exact PySem.ofString_length _
    omega
theorem shw_str {x : Str} (h : x.cps.size ≤ 8) (hc : (x.cps.toList.all fun c => decide (c < 16 ^ 8)) = true) : Shw 0 82 (.str x) := by
  refine ⟨rfl, rfl, Nat.le_refl _, ?_⟩
  have z := StrLaws.reprText_len x (by simpa only [List.all_eq_true, decide_eq_true_eq] using hc)
  have e : x.length = x.cps.size := rfl
  show (reprText x).length ≤ 82
  omega
theorem shw_all : ∀ {ds : List PyData}, (∀ d ∈ ds, Shw k L d) → PyData.showableAll ds = true ∧ PyData.hasDictAll ds = false ∧ PyData.depthAll ds ≤ k ∧ ((PyData.shownAll ds).map (·.length)).sum ≤ ds.length * L
  | [], _ => ⟨rfl, rfl, Nat.zero_le _, Nat.zero_le _⟩
  | d :: ds, h => by
    have h1 := h d (List.mem_cons_self ..)
    obtain ⟨a1, a2, a3, a4⟩ := shw_all (ds := ds) fun e he => h e (List.mem_cons_of_mem _ he)
    refine ⟨?_, ?_, ?_, ?_⟩
    · show (PyData.showable d && PyData.showableAll ds) = true
      rw [h1.s, a1]
      rfl
    · show (PyData.hasDict d || PyData.hasDictAll ds) = false
      rw [h1.h, a2]
      rfl
    · show max (PyData.depth d) (PyData.depthAll ds) ≤ k
      exact Nat.max_le.mpr ⟨h1.dp, a3⟩
    · show d.shown.length + ((PyData.shownAll ds).map (·.length)).sum ≤ (ds.length + 1) * L
      rw [Nat.add_mul, Nat.one_mul]
      have := h1.z
      omega
theorem shw_tup {n : Nat} (h : ∀ d ∈ ds, Shw k L d) (hn : ds.length ≤ n) : Shw (k + 1) (n * (L + 2) + 3) (.tuple ds) := by
  obtain ⟨a1, a2, a3, a4⟩ := shw_all h
  refine ⟨a1, a2, ?_, ?_⟩
  · show PyData.depthAll ds + 1 ≤ k + 1
    omega
  · have z := tupleText_len_le (PyData.shownAll ds)
    rw [PyData.shownAll_length] at z
    show (tupleText (PyData.shownAll ds)).length ≤ _
    have e1 : ds.length * L ≤ n * L := Nat.mul_le_mul_right _ hn
    rw [Nat.mul_add]
    omega
theorem shw_lst {n : Nat} (h : ∀ d ∈ ds, Shw k L d) (hn : ds.length ≤ n) : Shw (k + 1) (n * (L + 2) + 3) (.list ds) := by
  obtain ⟨a1, a2, a3, a4⟩ := shw_all h
  refine ⟨a1, a2, ?_, ?_⟩
  · show PyData.depthAll ds + 1 ≤ k + 1
    omega
  · have z := listText_len_le (PyData.shownAll ds)
    rw [PyData.shownAll_length] at z
    show (listText (PyData.shownAll ds)).length ≤ _
    have e1 : ds.length * L ≤ n * L := Nat.mul_le_mul_right _ hn
    rw [Nat.mul_add]
    omega
theorem mem2 {a b x : PyData} {Q : PyData → Prop} (ha : Q a) (hb : Q b) (h : x ∈ [a, b]) : Q x := by
  rcases List.mem_cons.mp h with rfl | h
  · exact ha
  · rw [List.mem_singleton.mp h]
    exact hb
section
variable {X : Cx} {e : Expr} {σ : L2.St} {H : Hp} {p pos : Pos} {d : PyData} {ds : List PyData}
/-- repr of a tuple of which Shw is known -/
theorem ev_reprS {k L : Nat} (gd : X.A.guards = some []) (hu : X.A.units + 64 < cLine) (hm : X.mg "repr" = none) (ha : Ev X σ H e (Da (.tuple ds))) (h : Shw k L (.tuple ds)) (hk : k ≤ 60) (hL : L ≤ 16000000)
    (hg : Gl X "repr" := by rfl) (he : starEach [e] X.env = (false, eval e X.env) :: starEach [] X.env := by rfl) (hpl : (backTo pos (starEach [] X.env)).any (·.1) = false := by rfl) : Ev X σ H (.Call (.Name "repr" p) [e] [] pos) (Is (.str (PyData.tuple ds).shown)) :=
  ev_reprT gd hu hm ha h.s h.h (Nat.le_trans h.dp hk) (Nat.le_trans h.z (Nat.le_trans hL (by decide))) hg he hpl
end
end Cb
namespace Kn
open PySem PySem.Spec PyProof.Rows L2 Cb
theorem shw_qd {r : Rat} {n : Nat} (h : Bd n r) (hn : n ≤ 1900) : Shw 1 (2 * (n + 4) + 3) (qd r) := shw_tup (n := 2) (fun d hd => mem2 (shw_int h.1 hn) (shw_int (i := (r.den : Int)) h.2 hn) hd) (Nat.le_refl _)
theorem shw_ld {l : Ln} {n : Nat} (h : NmOk l.nm) (he : Bd n l.ex) (hn : n ≤ 1500) (hc : l.ct.natAbs < 2 ^ 1500) : Shw 2 13000 (ld l) := by
  have a2 := shw_qd he (by omega)
  refine (shw_tup (k := 1) (L := 3100) (n := 4) (fun d hd => ?_) (Nat.le_refl _)).mono (Nat.le_refl _) (by decide)
  rcases List.mem_cons.mp hd with rfl | hd
  · exact (shw_str h.1 h.2).mono (by decide) (by decide)
  rcases List.mem_cons.mp hd with rfl | hd
  · exact a2.mono (Nat.le_refl _) (by omega)
  rcases List.mem_cons.mp hd with rfl | hd
  · exact (shw_int hc (by decide)).mono (by decide) (by decide)
  rw [List.mem_singleton.mp hd]
  exact shw_bool.mono (by decide) (by decide)
end Kn
namespace Cb
open PySem PySem.Spec PyProof.Rows L2
/-! ### further rules: a comprehension over enumerate(list) or a range, in a tuple, sums and multiples of lists and tuples -/
theorem lc_enum {K : PySem.W.Frag} {a : Addr} {xs : List V} {g : TG} {tt : TT} {te : TE} {vs : List Nat} {σ : L2.St} {H1 : Hp} {D : Addr} {Qd : Hp → Prop} (Pv : Nat → Hp → Prop) (h0 : Pv 0 (upd H1 D (.lst []))) (hl : ∀ i H, i ≤ xs.length → Pv i H → SqL K H a xs)
    (hs : ∀ i x H T, xs[i]? = some x → Pv i H → H T = none → g (.ref T) (wipe σ vs) (upd H T (.tup [.int (i : Nat), x])) fun σ2 H2 => wipe σ2 vs = wipe σ vs ∧ tt σ2 H2 fun b H3 =>
      if b = true then te σ2 H3 fun y H4 => ∃ acc, H4 D = some (.lst acc) ∧ acc.length < sizeLine ∧ Pv (i + 1) (upd H4 D (.lst (acc ++ [y]))) else Pv (i + 1) H3) (hd : ∀ H, Pv xs.length H → Qd H) :
    ∃ W : Nat → Nat → Hp → Prop, (∃ m, W 0 m (upd H1 D (.lst []))) ∧ ∀ i m H, W i m H →
      ((Ite K a).stop i H ∧ Qd H) ∨ ((Ite K a).go i H ∧ ∃ Nx : Hp → Prop, (∀ H', Nx H' → ∃ m', m' < m ∧ W (i + 1) m' H') ∧ ∀ x H', (Ite K a).yld i H x H' → g x (wipe σ vs) H' fun σ2 H2 => wipe σ2 vs = wipe σ vs ∧ tt σ2 H2 fun b H3 =>
        if b = true then te σ2 H3 fun y H4 => ∃ acc, H4 D = some (.lst acc) ∧ acc.length < sizeLine ∧ Nx (upd H4 D (.lst (acc ++ [y]))) else Nx H3) := by
  refine ⟨fun i m H => m = xs.length - i ∧ i ≤ xs.length ∧ Pv i H, ⟨xs.length, by simp, Nat.zero_le _, h0⟩, ?_⟩
  rintro i m H ⟨rfl, hi, p⟩
  have q := hl i H hi p
  by_cases hlt : i < xs.length
  · refine .inr ⟨⟨xs, xs[i], q, by simp [hlt]⟩, Pv (i + 1), fun H' p' => ⟨xs.length - (i + 1), by omega, rfl, hlt, p'⟩, fun v H' y => ?_⟩
    obtain ⟨T, x, rfl, hT, rfl, y⟩ := y
    exact hs i x H T (y xs q) p hT
  · have e : i = xs.length := by omega
    subst e
    exact .inl ⟨⟨xs, q, Nat.le_refl _⟩, hd H p⟩
theorem none_back {H H' : Hp} {p : Addr} (s : Same H H') (h : H' p = none) : H p = none := by
  cases e : H p with
  | none => rfl
  | some o =>
    rw [s _ _ e] at h
    cases h
/-- a list of data, new since H0 -/
def LstN (H0 : Hp) (ds : List PyData) : Pd := fun v H => ∃ a xs, v = .ref a ∧ H0 a = none ∧ H a = some (.lst xs) ∧ Tds H ds xs
theorem mono_lstN {H0 : Hp} {ds : List PyData} : Mono (LstN H0 ds) := fun v H H' s ⟨a, xs, e, n, h, t⟩ => ⟨a, xs, e, n, s _ _ h, Tds.keep (.of s) ds xs t⟩
theorem LstN.d {H0 H : Hp} {ds : List PyData} {v : V} (h : LstN H0 ds v H) : LstD ds v H := let ⟨a, xs, e, _, h, t⟩ := h; ⟨a, xs, e, h, t⟩
theorem tds_rep {H : Hp} {ds : List PyData} {xs : List V} (t : Tds H ds xs) : ∀ n : Nat, Tds H (List.replicate n ds).flatten (List.replicate n xs).flatten
  | 0 => .nil
  | n + 1 => by
    rw [List.replicate_succ, List.replicate_succ, List.flatten_cons, List.flatten_cons]
    exact t.app (tds_rep t n)
/-! a tuple times 1 is itself -/
theorem tuple_mul1 (l : Addr) (items : Array Value) (n : Nat) (dd : Option Addr) (sl : Array (Option Value)) (u : Tok) :
    Meets (Builtin.«tuple.__mul__» ⟨[.ref l, .int 1 u], []⟩) (fun _ R s => s.heap.get? l = some { cls := .type "tuple", dict := dd, data := .seq items n, slots := sl } ∧ R (.ok (.ret (Value.ref l))) s) :=
  .of_wp fun prog w A R s h => by
    obtain ⟨hp, g, d, tk, os⟩ := s
    obtain ⟨hl, h⟩ := h
    have f1 := AutoSeq1.idx_int
    have c1 : (items.isEmpty || (1 : Int) == 1) = true := by rw [Bool.or_eq_true]; exact .inr rfl
    wp_walk using wpAny_loadPart' hl
    repeat (first
      | (refine wpAny_ite_false (decide_eq_false (by decide)) ?_; wp_walk using wpAny_loadPart' hl)
      | (refine wpAny_ite_true (decide_eq_true c1) ?_; wp_walk using wpAny_loadPart' hl))
    exact ⟨_, rfl, h⟩
def rRepT1 (K : PySem.W.Frag) : R2 := fun x y H Q => ∃ l xs, x = .ref l ∧ y = .int 1 ∧ SqT K H l xs ∧ Q (.ref l) H
theorem op_repT1 {X : Cx} : OpR X (binaryOp .Mult) (rRepT1 X.K) := by
  intro pins s σ H x y v u Q I rx ry h
  obtain ⟨l, xs, rfl, rfl, hT, q⟩ := h
  cases rx
  obtain ⟨t, rfl⟩ := ry
  obtain ⟨its, r, ⟨⟨cls, dd, data, sl⟩, ho, hc, n, hd⟩, hs⟩ := I.tuple hT
  simp only at hc hd
  subst hc hd
  refine wpAny_binaryOp_repeat_ref (T := "tuple") (U := "int") (by decide) ⟨_, ho, rfl⟩ (fun s' => typeIs_int s' 1 t) noFill_tuple_mul F.fills_int_mul F.slot_int_rmul repeat_tuple F.slot_int_index.lookup
    (call_meets F.slot_int_rmul (typeIs_int s 1 t) F.entry_int_rmul (F.args_int_rmul_2 _ _) (int_rmul_tuple 1 t l its.toArray n dd sl)
      ⟨ho, rfl, ⟨_, ho, rfl⟩, call_meets F.slot_tuple_mul ⟨_, ho, rfl⟩ F.entry_tuple_mul (F.args_tuple_mul_2 _ _) (tuple_mul1 l its.toArray n dd sl t) ⟨ho, ?_⟩⟩)
  exact ⟨.ref l, H, I, rfl, q⟩
section
variable {X : Cx} {e a b c : Expr} {es : List Expr} {σ : L2.St} {H H' : Hp} {pos pos' p p' q : Pos} {P : Pd} {ds es' : List PyData} {d : PyData} {i : Nat} {x : V} {xs : List V}
theorem et_in (ha : Ev X σ H a (Is x)) (hb : Ev X σ H b (TupI xs)) (fx : flatV x = true) (fs : xs.all flatV = true) (hm : behindInMarks .In b = false := by rfl) : EvT X σ H (.Compare a [.In] [b] pos) (inV x xs) := fun H1 s1 =>
  w_T (pt_cmpR op_in_seq pw_E pw_E hm) (wE_mono (ha H1 s1) fun v H2 ⟨s2, e⟩ => wE_mono (hb H2 (s1.trans s2)) fun u H3 ⟨s3, q, eu, hq⟩ => by
    cases e
    exact ⟨q, xs, eu, .inr (.of hq), fx, fs, _, rfl, s2.trans s3, rfl⟩)
theorem ev_repT {k : Int} (ha : Ev X σ H a (Da (.tuple ds))) (hb : Ev X σ H b (Is (.int k))) (ne : ds ≠ []) (k1 : 1 ≤ k) (k2 : k ≤ 1000) (hl : ds.length ≤ 1000) : Ev X σ H (.BinOp a .Mult b pos) (Da (.tuple (List.replicate k.toNat ds).flatten)) := by
  by_cases h : k = 1
  · subst h
    have e1 : (List.replicate (1 : Int).toNat ds).flatten = ds := by
      show (List.replicate 1 ds).flatten = ds
      simp
    rw [e1]
    refine ev_op op_repT1 ha hb mono_da (fun x y H2 _ px py => ?_) (fun x y H2 Q Q' k ⟨l, xs, h1, h2, h3, q⟩ => ⟨l, xs, h1, h2, h3, k _ _ q⟩)
    obtain ⟨q, xs, rfl, hq, t⟩ := Td.un px
    exact ⟨q, xs, rfl, py, .of hq, .refl _, .mk hq t⟩
  · refine ev_op op_repT ha hb mono_da (fun x y H2 _ px py => ?_) (fun x y H2 Q Q' k ⟨l, n, xs, h1, h2, h3, h4, h5, h6, h7, q⟩ => ⟨l, n, xs, h1, h2, h3, h4, h5, h6, h7, fun p hp => k _ _ (q p hp)⟩)
    obtain ⟨q, xs, rfl, hq, t⟩ := Td.un px
    refine ⟨q, k, xs, rfl, py, .of hq, fun z => ?_, by omega, k2, by rw [t.len]; exact hl, fun p hp => ⟨same_new hp, .mk upd_same (Tds.keep (.of (same_new hp)) _ _ (tds_rep t _))⟩⟩
    subst z
    exact ne (List.eq_nil_of_length_eq_zero (by rw [← t.len]; rfl))
theorem ev_repL {k : Int} (ha : Ev X σ H a (LstD ds)) (hb : Ev X σ H b (Is (.int k))) (k1 : 0 ≤ k) (k2 : k ≤ 1000) (hl : ds.length ≤ 1000) : Ev X σ H (.BinOp a .Mult b pos) (LstD (List.replicate k.toNat ds).flatten) := by
  refine ev_op op_rep ha hb mono_lstD (fun x y H2 _ ⟨q, xs, ex, hq, t⟩ py => ?_) (fun x y H2 Q Q' k ⟨l, n, xs, h1, h2, h3, h4, h5, h6, q⟩ => ⟨l, n, xs, h1, h2, h3, h4, h5, h6, fun p hp => k _ _ (q p hp)⟩)
  subst ex
  refine ⟨q, k, xs, rfl, py, hq, by omega, by omega, ?_, fun p hp => ⟨same_new hp, p, _, rfl, upd_same, Tds.keep (.of (same_new hp)) _ _ (tds_rep t _)⟩⟩
  rw [t.len]
  exact Nat.le_trans (Nat.mul_le_mul hl (show k.toNat ≤ 1000 by omega)) (by decide)
theorem ev_cat (ha : Ev X σ H a (LstD ds)) (hb : Ev X σ H b (LstD es')) (h1 : ds.length ≤ 1000) (h2 : es'.length ≤ 1000) : Ev X σ H (.BinOp a .Add b pos) (LstN H (ds ++ es')) := by
  refine ev_op op_cat ha hb mono_lstD (fun x y H2 s2 ⟨q, xs, ex, hq, t⟩ ⟨q', xs', ex', hq', t'⟩ => ?_) (fun x y H2 Q Q' k ⟨l, n, xs, zs, h1, h2, h3, h4, h5, q⟩ => ⟨l, n, xs, zs, h1, h2, h3, h4, h5, fun p hp => k _ _ (q p hp)⟩)
  subst ex ex'
  refine ⟨q, q', xs, xs', rfl, rfl, hq, hq', ?_, fun p hp => ⟨same_new hp, p, _, rfl, none_back s2 hp, upd_same, Tds.keep (.of (same_new hp)) _ _ (t.app t')⟩⟩
  rw [t.len, t'.len]
  exact Nat.le_trans (Nat.add_le_add h1 h2) (by decide)
theorem ev_lcR {elt : Expr} {x : Str} {xp p1 p2 : Pos} {scope : Scope} {n : Nat} {f : Nat → PyData} (hc : X.calm = true) (nd : X.N.Nodup) (zr : X.mg "range" = none) (ok : BlkOk X.N X.env.scope scope [(x, i)])
    (hg : ∀ (s : Shared) (H : Hp) (C : Addr) (cl : List (Str × Addr)) (fp : List Addr), PG (X.blk s H scope (compEnvC scope cl C X.env) fp) (.Name x xp) (gName i)) (hb : Ev X σ H b (Is (.int (n : Int)))) (hl : n ≤ 1000)
    (he : ∀ (k : Nat) H', k < n → Same H H' → ∀ (s : Shared) (H0 : Hp) (C : Addr) (cl : List (Str × Addr)) (fp : List Addr), Ev (X.blk s H0 scope (compEnvC scope cl C X.env) fp) ((wipe σ [i]).set i (some (.int (k : Int)))) H' elt (Da (f k)))
    (hr : Gl X "range" := by rfl) (hs1 : starEach [b] X.env = (false, eval b X.env) :: starEach [] X.env := by rfl) (hs : ∀ x, foldedSetIterable (.Call (.Name "range" p1) [b] [] p2) X.env x = pure x := by intro _; rfl) : Ev X σ H (.ListComp elt [⟨.Name x xp, .Call (.Name "range" p1) [b] [] p2, [], 0⟩] scope pos) (LstD ((List.range n).map f)) := fun H1 s1 =>
  w_E (pe_lc (own := [(x, i)]) (g := gName i) (tt := tYes) hc nd (pi_range1 hr zr (pa_cons pw_E pa_nil hs1) (hs := hs1)) ok hg (fun _ _ _ _ _ => pts_nil) pw_Eb hs) (wE_mono (hb H1 s1) fun v H2 ⟨s2, e⟩ => by
    cases e
    have en : ((n : Int) - 0).toNat = n := by omega
    refine ⟨_, rfl, by omega, by omega, fun M hM => lc_range (lo := 0) (n := ((n : Int) - 0).toNat) (fun k H => Same H2 H ∧ ∃ acc, H M = some (.lst acc) ∧ acc.length = k ∧ Tds H ((List.range k).map f) acc) ?_ ?_ ?_⟩
    · exact ⟨same_new hM, [], upd_same, rfl, .nil⟩
    · rintro k H3 hk ⟨s3, acc, hm, hk', ht⟩
      refine ⟨wipeD, ?_⟩
      unfold tYes
      dsimp only
      rw [if_pos rfl]
      intro s' H0 C' cl' fp'
      rw [Int.zero_add]
      refine wE_mono (he k H3 (by omega) ((s1.trans s2).trans s3) s' H0 C' cl' fp' H3 (.refl _)) fun z H4 ⟨s4, pz⟩ => ?_
      have hm4 := s4 _ _ hm
      refine ⟨acc, hm4, by rw [hk']; exact small1000 (by omega), fun b o e => ?_, acc ++ [z], upd_same, by rw [List.length_append, hk']; rfl, ?_⟩
      · rw [upd_ne (ne_of_none e hM)]
        exact s4 _ _ (s3 _ _ e)
      · rw [List.range_succ, List.map_append]
        have kp : TupK H4 (upd H4 M (.lst (acc ++ [z]))) := .app hm4
        exact (Tds.keep ((TupK.of s4).trans kp) _ _ ht).snoc (Td.keep kp _ _ pz)
    · rintro H3 ⟨s3, acc, hm, hk, ht⟩
      rw [en] at ht
      exact ⟨s2.trans s3, M, acc, rfl, hm, ht⟩)
end
end Cb

namespace Cb
open PySem PySem.Spec PyProof.Rows L2
/-! ### xs[::-1] of a list -/
theorem pe_revL {X : Cx} {e st : Expr} {te ts : TE} {p2 pos : Pos} (he : PE X e te) (hst : PE X st ts) : PE X (.Subscript e (.Slice none none (some st) p2) pos) (fun σ H Q => te σ H fun x H1 => ts σ H1 fun y H2 => ∃ a xs, x = .ref a ∧ y = .int (-1) ∧ SqL X.K H2 a xs ∧ ∀ p, H2 p = none → Q (.ref p) (upd H2 p (.lst xs.reverse))) := by
  refine ⟨fun pins s σ H Q I h => ?_⟩
  refine Subscript_ (thn (he.run pins s σ H _ I h) fun v s1 ⟨x, H1, I1, r1, q1⟩ => ?_)
  refine wpAny_Slice ?_
  rw [evalPart_none]
  refine wpAny_pure ?_
  show wpAny _ _ (evalPart none X.env) _ _ s1
  rw [evalPart_none]
  refine wpAny_pure ?_
  show wpAny _ _ (evalPart (some st) X.env) _ _ s1
  rw [evalPart_some]
  refine thn (hst.run pins s1 σ H1 _ I1 q1) fun u s2 ⟨y, H2, I2, r2, q2⟩ => ?_
  obtain ⟨a, xs, rfl, rfl, hq, q⟩ := q2
  obtain ⟨t, rfl⟩ := r2
  cases r1
  have I4 : Inv X pins σ H2 { s2 with heap := s2.heap.push { cls := .type "slice", data := .fields #[.none, .none, .int (-1) t] } } := I2.kept (t' := s2.toks) fun b ob q => Heap.get?_push_of_some _ q
  obtain ⟨its, r, ht, hz⟩ := I4.list hq
  have hlen := r.length
  refine tail_any (ops := [.ref a, .ref s2.heap.objs.size]) ht.isList.typeIs slot_list_getitem.lookup ?_ (by with_unfolding_all rfl)
  refine wpAny_getItem_list_slice ht.isList (Heap.IsSliceOf.new ..) .none .none (.int (-1) t) (by decide) ?_ (by rw [List.size_toArray] <;> omega)
  rw [PySem.W.krv_pick]
  refine ⟨.ref _, _, I4.laid (t' := s2.toks) (o := .lst xs.reverse) (fun b ob q => Heap.get?_push_of_some _ q) (Nat.le_refl _) ?_, rfl, q _ (I4.hok.fresh (Nat.le_refl _))⟩
  exact ⟨by rw [List.length_reverse]; exact hz, _, 0, r.reverse, Heap.get?_push_size _ rfl⟩
theorem tds_reverse {H : Hp} : ∀ {ds : List PyData} {xs : List V}, Tds H ds xs → Tds H ds.reverse xs.reverse
  | [], xs, t => by
    rw [t.nil']
    exact .nil
  | d :: ds, xs, t => by
    obtain ⟨v, r, rfl, h1, h2⟩ := t.un
    rw [List.reverse_cons, List.reverse_cons]
    exact (tds_reverse h2).snoc h1
theorem ev_revL {X : Cx} {σ : L2.St} {H : Hp} {a st : Expr} {p p2 : Pos} {ds : List PyData} (ha : Ev X σ H a (LstD ds)) (hs : Ev X σ H st (Is (.int (-1)))) : Ev X σ H (.Subscript a (.Slice none none (some st) p2) p) (LstD ds.reverse) :=
  ev_of (pe_revL pw_E pw_E) fun H1 s1 => wE_mono (ha H1 s1) fun x H2 ⟨s2, q, xs, ex, hq, t⟩ => wE_mono (hs H2 (s1.trans s2)) fun y H3 ⟨s3, py⟩ =>
    ⟨q, xs, ex, py, .of (s3 _ _ hq), fun p hp => ⟨(s2.trans s3).trans (same_new hp), p, _, rfl, upd_same, Tds.keep ((TupK.of s3).trans (.of (same_new hp))) _ _ (tds_reverse t)⟩⟩
end Cb

namespace Cb
open PySem PySem.Spec PyProof.Rows L2
abbrev Mc : Key := .inr "numbers"
abbrev Mn : Key := .inr "next"
abbrev Mr : Key := .inr "rest"
abbrev Md : Key := .inr "count"
theorem mcn : ¬ Mc = Mn := by decide +kernel
theorem mcr : ¬ Mc = Mr := by decide +kernel
theorem mcd : ¬ Mc = Md := by decide +kernel
theorem mnr : ¬ Mn = Mr := by decide +kernel
theorem mnd : ¬ Mn = Md := by decide +kernel
theorem mrd : ¬ Mr = Md := by decide +kernel
theorem tcn : ¬ (Str.ofString "numbers" = Str.ofString "next") := by decide +kernel
theorem tcr : ¬ (Str.ofString "numbers" = Str.ofString "rest") := by decide +kernel
theorem tcd : ¬ (Str.ofString "numbers" = Str.ofString "count") := by decide +kernel
theorem tnc : ¬ (Str.ofString "next" = Str.ofString "numbers") := by decide +kernel
theorem tnr : ¬ (Str.ofString "next" = Str.ofString "rest") := by decide +kernel
theorem tnd : ¬ (Str.ofString "next" = Str.ofString "count") := by decide +kernel
theorem trc : ¬ (Str.ofString "rest" = Str.ofString "numbers") := by decide +kernel
theorem trn : ¬ (Str.ofString "rest" = Str.ofString "next") := by decide +kernel
theorem trd : ¬ (Str.ofString "rest" = Str.ofString "count") := by decide +kernel
theorem tdc : ¬ (Str.ofString "count" = Str.ofString "numbers") := by decide +kernel
theorem tdn : ¬ (Str.ofString "count" = Str.ofString "next") := by decide +kernel
theorem tdr : ¬ (Str.ofString "count" = Str.ofString "rest") := by decide +kernel
def kw4 (c nx rs dr : V) : List (Key × V) := [(Mc, c), (Mn, nx), (Mr, rs), (Md, dr)]
theorem kw4_c (c nx rs dr : V) : valV (kw4 c nx rs dr) Mc = some c := valV_pos rfl
theorem kw4_n (c nx rs dr : V) : valV (kw4 c nx rs dr) Mn = some nx := (valV_neg mcn).trans (valV_pos rfl)
theorem kw4_r (c nx rs dr : V) : valV (kw4 c nx rs dr) Mr = some rs := (valV_neg mcr).trans ((valV_neg mnr).trans (valV_pos rfl))
theorem kw4_d (c nx rs dr : V) : valV (kw4 c nx rs dr) Md = some dr := (valV_neg mcd).trans ((valV_neg mnd).trans ((valV_neg mrd).trans (valV_pos rfl)))
theorem kw4_putD (c nx rs dr z : V) : putK (kw4 c nx rs dr) Md z = kw4 c nx rs z := by
  simp [putK, kw4, tcn, tcr, tcd, tnc, tnr, tnd, trc, trn, trd, tdc, tdn, tdr]
theorem kw4_putR (c nx rs dr z : V) : putK (kw4 c nx rs dr) Mr z = kw4 c nx z dr := by
  simp [putK, kw4, tcn, tcr, tcd, tnc, tnr, tnd, trc, trn, trd, tdc, tdn, tdr]
theorem kw4_putN (c nx rs dr z : V) : putK (kw4 c nx rs dr) Mn z = kw4 c z rs dr := by
  simp [putK, kw4, tcn, tcr, tcd, tnc, tnr, tnd, trc, trn, trd, tdc, tdn, tdr]
theorem kw4_len (c nx rs dr : V) : (kw4 c nx rs dr).length < sizeLine := by
  show 4 < sizeLine
  decide
theorem kw4_merge (c nx rs dr : V) : mergeK [] (kw4 c nx rs dr) = kw4 c nx rs dr := by
  simp [mergeK, kw4, putK, tcn, tcr, tcd, tnc, tnr, tnd, trc, trn, trd, tdc, tdn, tdr]
end Cb
namespace Kn
open PySem PySem.Spec PyProof.Rows L2 Cb
/-- what stands at d: the reader, over a list of ints -/
def Rd (d c : Addr) (H : Hp) : Prop := ∃ (ns : List Int) (nx rs dr : Int), H d = some (.dK (kw4 (.ref c) (.int nx) (.int rs) (.int dr))) ∧ H c = some (.lst (ns.map V.int))
/-- all but d stays -/
def KeepX (d : Addr) (H H' : Hp) : Prop := ∀ b o, b ≠ d → H b = some o → H' b = some o
theorem KeepX.of {d : Addr} {H H' : Hp} (s : Same H H') : KeepX d H H' := fun b o _ e => s b o e
theorem KeepX.trans {d : Addr} {H H1 H2 : Hp} (a : KeepX d H H1) (b : KeepX d H1 H2) : KeepX d H H2 := fun c o n e => b c o n (a c o n e)
theorem KeepX.put {d : Addr} {H : Hp} {o : HO} : KeepX d H (upd H d o) := fun b u n e => by
  rw [upd_ne n]
  exact e
theorem same_dict {H : Hp} {p : Addr} {o : HO} (hp : H p = none) : Same H (upd H p o) := same_new hp
theorem Rd.same {d c : Addr} {H H' : Hp} (r : Rd d c H) (s : Same H H') : Rd d c H' := by
  obtain ⟨ns, nx, rs, dr, hd, hc⟩ := r
  exact ⟨ns, nx, rs, dr, s _ _ hd, s _ _ hc⟩
theorem Rd.at {d c : Addr} {H : Hp} (r : Rd d c H) : ∃ kvs, H d = some (.dK kvs) := by
  obtain ⟨ns, nx, rs, dr, hd, _⟩ := r
  exact ⟨_, hd⟩
section
variable {X : Cx} {σ : L2.St} {H : Hp} {p : Pos} {Q : VK}
theorem w_ix {xs : Expr} {i : Expr} (h : wE X xs σ H fun x H1 => wE X i σ H1 fun y H2 => rIxL X.K x y H2 Q) (hs : PlainIxT i := by exact fun _ _ => rfl) : wE X (.Subscript xs i p) σ H Q := w_E (pe_ix ix_list pw_E pw_E hs) h
end
theorem at_of_mem {ns : List Int} {z : Int} (h0 : 0 ≤ z) (h1 : z < (ns.length : Int)) : ∃ w ∈ ns, atI (ns.map V.int) z = some (.int w) := by
  obtain ⟨j, rfl⟩ := Int.eq_ofNat_of_zero_le h0
  have hj : j < ns.length := by omega
  exact ⟨ns[j], List.getElem_mem hj, atI_nat (by rw [List.getElem?_map, List.getElem?_eq_getElem hj]; rfl)⟩
/-- a def of the module, of the law's own -/
structure LD (P : Program) (w : World) (K : PySem.W.Frag) (mg : Str → Option Value) (base : Heap) (x : Str) (k : Nat) (ps : List Str) (sp : Sp) : Prop where
  ex : ∃ (f : Addr) (fd : FuncData), FnOk P w K mg base CX0 k f fd ps sp ∧ mg x = some (.ref f) ∧ PySem.W.keepIn K (.ref f) = true ∧ Binds K fd ps []
theorem LD.g {X : Cx} {x : Str} {k : Nat} {ps : List Str} {sp : Sp} (h : LD X.prog X.w X.K X.mg X.base x k ps sp) {n : Nat} (hr : Room n X.A) (l : k ≤ n) : ∃ f fd, GDef X x k f fd ps sp := by
  obtain ⟨f, fd, F, g, kp, b⟩ := h.ex
  exact ⟨f, fd, F, hr.mono l, g, kp, b⟩
theorem Rd.app {d c S : Addr} {H : Hp} {xs ys : List V} (r : Rd d c H) (n : S ≠ c) (h : H S = some (.lst xs)) : Rd d c (upd H S (.lst ys)) := by
  obtain ⟨ns, nx, rs, dr, hd, hc⟩ := r
  exact ⟨ns, nx, rs, dr, by rw [upd_ne (ne_of hd h (by intro z; cases z))]; exact hd, by rw [upd_ne n.symm]; exact hc⟩
theorem Rd.ne {d c S : Addr} {H : Hp} {o : HO} (r : Rd d c H) (h : H S = some o) (n : ∀ kvs, o ≠ .dK kvs) : S ≠ d := fun e => by
  obtain ⟨kvs, hd⟩ := r.at
  rw [e, hd] at h
  cases h
  exact n _ rfl

theorem KeepX.tup {d c : Addr} {H H' : Hp} (r : Rd d c H) (k : KeepX d H H') : TupK H H' := fun b xs e => k b _ (fun q => by
  obtain ⟨kvs, hd⟩ := r.at
  rw [q, hd] at e
  cases e) e
theorem KeepX.lst {d c S : Addr} {H H' : Hp} {us : List V} (r : Rd d c H) (k : KeepX d H H') (h : H S = some (.lst us)) : H' S = some (.lst us) := k _ _ (fun q => by
  obtain ⟨kvs, hd⟩ := r.at
  rw [q, hd] at h
  cases h) h
theorem keepX_put {d S : Addr} {H H' : Hp} {o : HO} (k : KeepX d H H') (n : H S = none) : KeepX d H (upd H' S o) := fun b u nb e => by
  rw [upd_ne (ne_of_none e n)]
  exact k b u nb e
theorem at_data {ns : List Int} {xs : List V} {H : Hp} {z : Int} (t : Tds H (ns.map PyData.int) xs) (h0 : 0 ≤ z) (h1 : z < (ns.length : Int)) : ∃ w ∈ ns, atI xs z = some (.int w) := by
  rw [t.ints]
  exact at_of_mem h0 h1
section
variable {X : Cx} {σ : L2.St} {H : Hp} {a b e : Expr} {es : List Expr} {p q p' q' : Pos} {k : Nat} {f : Addr} {fd : FuncData} {ps : List Str} {d c : Addr} {Q : VK} {sp : Sp} {x : Str}
theorem w_call1 (g : GDef X x k f fd ps sp) (h : wE X a σ H fun v H1 => sp [v] H1 Q E0) (hg : Gl X x := by rfl) (hdb : (x == ("__debug__" : Str)) = false := by decide) (he : starEach [a] X.env = (false, eval a X.env) :: starEach [] X.env := by rfl) (hpl : (backTo p (starEach [] X.env)).any (·.1) = false := by rfl) : wE X (.Call (.Name x q) [a] [] p) σ H Q :=
  w_E (pe_call g.ok g.room hg g.gl g.kp g.bs .nil pass0 (pa_cons pw_E pa_nil he) hdb he hpl) h
theorem w_call2 (g : GDef X x k f fd ps sp) (h : wE X a σ H fun v H1 => wE X b σ H1 fun w H2 => sp [v, w] H2 Q E0) (hg : Gl X x := by rfl) (hdb : (x == ("__debug__" : Str)) = false := by decide) (he : starEach [a, b] X.env = (false, eval a X.env) :: starEach [b] X.env := by rfl) (he' : starEach [b] X.env = (false, eval b X.env) :: starEach [] X.env := by rfl)
    (hpl : (backTo p (starEach [b] X.env)).any (·.1) = false := by rfl) : wE X (.Call (.Name x q) [a, b] [] p) σ H Q :=
  w_E (pe_call g.ok g.room hg g.gl g.kp g.bs .nil pass0 (pa_cons pw_E (pa_cons pw_E pa_nil he') he) hdb he hpl) h
end
theorem KeepX.rd {d c S : Addr} {H : Hp} {o : HO} {o' : HO} (r : Rd d c H) (h : H S = some o) (n : ∀ kvs, o ≠ .dK kvs) (nc : S ≠ c) : Rd d c (upd H S o') := by
  obtain ⟨ns, nx, rs, dr, hd, hc⟩ := r
  have nd : d ≠ S := fun e => by
    rw [e, h] at hd
    cases hd
    exact n _ rfl
  exact ⟨ns, nx, rs, dr, by rw [upd_ne nd]; exact hd, by rw [upd_ne nc.symm]; exact hc⟩
theorem rd_new {d c S : Addr} {H : Hp} (r : Rd d c H) (n : H S = none) : S ≠ c := fun e => by
  obtain ⟨_, _, _, _, _, hc⟩ := r
  rw [← e, n] at hc
  cases hc
theorem gdef_blk {X : Cx} {x : Str} {k : Nat} {f : Addr} {fd : FuncData} {ps : List Str} {sp : Sp} {s : Shared} {H : Hp} {sc : Scope} {env : Env} {fp : List Addr} (g : GDef X x k f fd ps sp) : GDef (X.blk s H sc env fp) x k f fd ps sp := ⟨g.ok, g.room, g.gl, g.kp, g.bs⟩
theorem w_call3 {X : Cx} {σ : L2.St} {H : Hp} {a b e : Expr} {p q : Pos} {k : Nat} {f : Addr} {fd : FuncData} {ps : List Str} {Q : VK} {sp : Sp} {x : Str} (g : GDef X x k f fd ps sp) (h : wE X a σ H fun v H1 => wE X b σ H1 fun w H2 => wE X e σ H2 fun u H3 => sp [v, w, u] H3 Q E0) (hg : Gl X x := by rfl) (hdb : (x == ("__debug__" : Str)) = false := by decide) (he : starEach [a, b, e] X.env = (false, eval a X.env) :: starEach [b, e] X.env := by rfl) (he' : starEach [b, e] X.env = (false, eval b X.env) :: starEach [e] X.env := by rfl) (he'' : starEach [e] X.env = (false, eval e X.env) :: starEach [] X.env := by rfl)
    (hpl : (backTo p (starEach [b, e] X.env)).any (·.1) = false := by rfl) : wE X (.Call (.Name x q) [a, b, e] [] p) σ H Q :=
  w_E (pe_call g.ok g.room hg g.gl g.kp g.bs .nil pass0 (pa_cons pw_E (pa_cons pw_E (pa_cons pw_E pa_nil he'') he') he) hdb he hpl) h
theorem neS_self {s : Str} : (!decide (V.str s = V.str s)) = false := by simp
theorem et_same {X : Cx} {σ : L2.St} {H : Hp} {a b : Expr} {pos : Pos} (s : Str) (ha : Ev X σ H a (Is (.str s))) (hb : Ev X σ H b (Is (.str s))) : EvT X σ H (.Compare a [.NotEq] [b] pos) false := EvT.is (CC.et (c_neS ha hb rfl)) neS_self
end Kn

namespace Cb
open PySem PySem.Spec PyProof.Rows L2 Kn
/-! ### the slots of a comprehension's names -/
theorem wipe_get {σ : L2.St} : ∀ (vs : List Nat) (j : Nat), (wipe σ vs)[j]? = if j ∈ vs ∧ j < σ.length then some none else σ[j]?
  | [], j => by simp [wipe]
  | v :: vs, j => by
    show ((wipe σ vs).set v none)[j]? = _
    rw [List.getElem?_set, wipe_length, wipe_get vs j]
    by_cases h : v = j
    · subst h
      rw [if_pos rfl]
      by_cases hl : v < σ.length
      · rw [if_pos hl, if_pos ⟨List.mem_cons_self .., hl⟩]
      · rw [if_neg hl, if_neg (fun z => hl z.2), List.getElem?_eq_none (by omega)]
    · rw [if_neg h]
      by_cases hm : j ∈ vs ∧ j < σ.length
      · rw [if_pos hm, if_pos ⟨List.mem_cons_of_mem _ hm.1, hm.2⟩]
      · rw [if_neg hm, if_neg (fun z => hm ⟨(List.mem_cons.mp z.1).resolve_left (fun q => h q.symm), z.2⟩)]
theorem wipe_eq {σ τ : L2.St} {vs : List Nat} (hl : σ.length = τ.length) (h : ∀ j, j ∉ vs → σ[j]? = τ[j]?) : wipe σ vs = wipe τ vs := List.ext_getElem? fun j => by
  rw [wipe_get, wipe_get, hl]
  by_cases hj : j ∈ vs
  · by_cases hn : j < τ.length
    · rw [if_pos ⟨hj, hn⟩, if_pos ⟨hj, hn⟩]
    · rw [if_neg (fun z => hn z.2), if_neg (fun z => hn z.2), List.getElem?_eq_none (by omega), List.getElem?_eq_none (by omega)]
  · rw [if_neg (fun z => hj z.1), if_neg (fun z => hj z.1)]
    exact h j hj
theorem wipe_set {σ : L2.St} {vs : List Nat} {i : Nat} {x : Option V} (h : i ∈ vs) : wipe (σ.set i x) vs = wipe σ vs := wipe_eq (List.length_set ..) fun j hj => List.getElem?_set_ne fun e => hj (by rw [← e]; exact h)
theorem wipe_idem {σ : L2.St} {vs : List Nat} : wipe (wipe σ vs) vs = wipe σ vs := wipe_eq (wipe_length ..) fun j hj => by rw [wipe_get, if_neg (fun z => hj z.1)]
def TTok (tt : TT) (σ : L2.St) (H : Hp) (k : Bool) : Prop := ∀ Q : Bool → Hp → Prop, (∀ H', Same H H' → Q k H') → tt σ H Q
def TEok (te : TE) (σ : L2.St) (H : Hp) (P : Pd) : Prop := ∀ Q : VK, (∀ v H', Same H H' → P v H' → Q v H') → te σ H Q
theorem ttok_yes {σ : L2.St} {H : Hp} : TTok tYes σ H true := fun Q h => h H (.refl _)
theorem ttok_of {X : Cx} {scope : Scope} {c : Expr} {σ : L2.St} {H : Hp} {k : Bool} (h : ∀ (s : Shared) (H0 : Hp) (C : Addr) (cl : List (Str × Addr)) (fp : List Addr), EvT (X.blk s H0 scope (compEnvC scope cl C X.env) fp) σ H c k) : TTok (wTb X scope c) σ H k := fun Q kk s H0 C cl fp => w_evT (h s H0 C cl fp) kk
theorem teok_of {X : Cx} {scope : Scope} {c : Expr} {σ : L2.St} {H : Hp} {P : Pd} (h : ∀ (s : Shared) (H0 : Hp) (C : Addr) (cl : List (Str × Addr)) (fp : List Addr), Ev (X.blk s H0 scope (compEnvC scope cl C X.env) fp) σ H c P) : TEok (wEb X scope c) σ H P := fun Q kk s H0 C cl fp => w_ev (h s H0 C cl fp) kk
theorem teok_ev {X : Cx} {c : Expr} {σ : L2.St} {H : Hp} {P : Pd} (h : Ev X σ H c P) : TEok (wE X c) σ H P := fun Q kk => w_ev h kk
theorem filter_snoc {α : Type} {p : α → Bool} {l : List α} {k : Nat} {a : α} (h : l[k]? = some a) : (l.take (k + 1)).filter p = (l.take k).filter p ++ (if p a = true then [a] else []) := by
  rw [take_snoc h, List.filter_append]
  by_cases hp : p a = true
  · rw [if_pos hp, List.filter_cons_of_pos hp, List.filter_nil]
  · rw [if_neg hp, List.filter_cons_of_neg hp, List.filter_nil]
theorem filter_all {α : Type} {l : List α} : l.filter (fun _ => true) = l := List.filter_eq_self.mpr fun _ _ => rfl
/-- one turn's end: the item kept or not -/
theorem turn_lc {H H4 : Hp} {M : Addr} {α : Type} {p : α → Bool} {f : α → PyData} {as : List α} {k : Nat} {a : α} {acc : List V} {te : TE} {σ : L2.St} (n : H M = none) (s24 : Same H H4) (hm : H4 M = some (.lst acc)) (hk : acc.length ≤ k) (hk2 : k < 1000) (ht : Tds H4 (((as.take k).filter p).map f) acc) (ha : as[k]? = some a)
    (he : p a = true → TEok te σ H4 (Da (f a))) : (if p a = true then te σ H4 fun y H5 => ∃ acc, H5 M = some (.lst acc) ∧ acc.length < sizeLine ∧ (Same H (upd H5 M (.lst (acc ++ [y]))) ∧ ∃ acc', (upd H5 M (.lst (acc ++ [y]))) M = some (.lst acc') ∧ acc'.length ≤ k + 1 ∧ Tds (upd H5 M (.lst (acc ++ [y]))) (((as.take (k + 1)).filter p).map f) acc') else (Same H H4 ∧ ∃ acc, H4 M = some (.lst acc) ∧ acc.length ≤ k + 1 ∧ Tds H4 (((as.take (k + 1)).filter p).map f) acc)) := by
  by_cases hp : p a = true
  · rw [if_pos hp]
    refine he hp _ fun z H5 s5 pz => ?_
    have hm5 := s5 _ _ hm
    have kp : TupK H5 (upd H5 M (.lst (acc ++ [z]))) := .app hm5
    refine ⟨acc, hm5, small1000 (by omega), same_put (s24.trans s5) n, acc ++ [z], upd_same, by rw [List.length_append]; simp; omega, ?_⟩
    rw [filter_snoc ha, if_pos hp, List.map_append]
    exact (Tds.keep ((TupK.of s5).trans kp) _ _ ht).snoc (Td.keep kp _ _ pz)
  · rw [if_neg hp]
    refine ⟨s24, acc, hm, by omega, ?_⟩
    rw [filter_snoc ha, if_neg hp, List.append_nil]
    exact ht
theorem rd_lcL {K : PySem.W.Frag} {α : Type} {enc : α → PyData} {as : List α} {p : α → Bool} {f : α → PyData} {t te : TE} {tt : TT} {i : Nat} {σ : L2.St} {H : Hp} {Q : VK} (hi : TEok t σ H (LstD (as.map enc))) (hl : as.length ≤ 1000)
    (ht : ∀ a v H', a ∈ as → Same H H' → Td H' (enc a) v → TTok tt ((wipe σ [i]).set i (some v)) H' (p a)) (he : ∀ a v H', a ∈ as → p a = true → Same H H' → Td H' (enc a) v → TEok te ((wipe σ [i]).set i (some v)) H' (Da (f a)))
    (kk : ∀ v H', Same H H' → LstD ((as.filter p).map f) v H' → Q v H') : tLc (iList K t) (gName i) tt te [i] σ H Q := hi _ fun v H2 s2 hv => by
  obtain ⟨q, xs, rfl, hq, tq⟩ := hv
  refine ⟨q, rfl, ⟨xs, .of hq⟩, fun M hM => lc_list (K := K) (a := q) (xs := xs) (fun k H => Same H2 H ∧ ∃ acc, H M = some (.lst acc) ∧ acc.length ≤ k ∧ Tds H (((as.take k).filter p).map f) acc) ⟨same_new hM, [], upd_same, Nat.le_refl _, .nil⟩ (fun k H _ h => .of (h.1 _ _ hq)) ?_ ?_⟩
  · rintro k y H3 hy ⟨s3, acc, hm, hk, htt⟩
    obtain ⟨d, hd, td⟩ := tq.at' hy
    obtain ⟨a, ha, rfl⟩ := map_at hd
    have hk2 : k < as.length := (List.getElem?_eq_some_iff.mp ha).1
    have hma := List.mem_of_getElem? ha
    refine ⟨wipeD, ht a y H3 hma (s2.trans s3) (Td.keep (.of s3) _ _ td) _ fun H4 s4 => ?_⟩
    exact turn_lc hM (s3.trans s4) (s4 _ _ hm) hk (by omega) (Tds.keep (.of s4) _ _ htt) ha fun hp => he a y H4 hma hp ((s2.trans s3).trans s4) (Td.keep (.of (s3.trans s4)) _ _ td)
  · rintro H3 ⟨s3, acc, hm, hk, htt⟩
    have e : xs.length = as.length := by rw [tq.len, List.length_map]
    rw [e, List.take_length] at htt
    exact kk _ _ (s2.trans s3) ⟨M, acc, rfl, hm, htt⟩
theorem rd_lcT {K : PySem.W.Frag} {α : Type} {enc : α → PyData} {as : List α} {p : α → Bool} {f : α → PyData} {t te : TE} {tt : TT} {i : Nat} {σ : L2.St} {H : Hp} {Q : VK} (hi : TEok t σ H (Da (.tuple (as.map enc)))) (hl : as.length ≤ 1000)
    (ht : ∀ a v H', a ∈ as → Same H H' → Td H' (enc a) v → TTok tt ((wipe σ [i]).set i (some v)) H' (p a)) (he : ∀ a v H', a ∈ as → p a = true → Same H H' → Td H' (enc a) v → TEok te ((wipe σ [i]).set i (some v)) H' (Da (f a)))
    (kk : ∀ v H', Same H H' → LstD ((as.filter p).map f) v H' → Q v H') : tLc (iTup K t) (gName i) tt te [i] σ H Q := hi _ fun v H2 s2 hv => by
  obtain ⟨q, xs, rfl, hq, tq⟩ := Td.un hv
  refine ⟨q, rfl, ⟨xs, .of hq⟩, fun M hM => lc_tup (K := K) (a := q) (xs := xs) (fun k H => Same H2 H ∧ ∃ acc, H M = some (.lst acc) ∧ acc.length ≤ k ∧ Tds H (((as.take k).filter p).map f) acc) ⟨same_new hM, [], upd_same, Nat.le_refl _, .nil⟩ (fun k H _ h => .of (h.1 _ _ hq)) ?_ ?_⟩
  · rintro k y H3 hy ⟨s3, acc, hm, hk, htt⟩
    obtain ⟨d, hd, td⟩ := tq.at' hy
    obtain ⟨a, ha, rfl⟩ := map_at hd
    have hk2 : k < as.length := (List.getElem?_eq_some_iff.mp ha).1
    have hma := List.mem_of_getElem? ha
    refine ⟨wipeD, ht a y H3 hma (s2.trans s3) (Td.keep (.of s3) _ _ td) _ fun H4 s4 => ?_⟩
    exact turn_lc hM (s3.trans s4) (s4 _ _ hm) hk (by omega) (Tds.keep (.of s4) _ _ htt) ha fun hp => he a y H4 hma hp ((s2.trans s3).trans s4) (Td.keep (.of (s3.trans s4)) _ _ td)
  · rintro H3 ⟨s3, acc, hm, hk, htt⟩
    have e : xs.length = as.length := by rw [tq.len, List.length_map]
    rw [e, List.take_length] at htt
    exact kk _ _ (s2.trans s3) ⟨M, acc, rfl, hm, htt⟩
theorem lc_zipT {K : PySem.W.Frag} {a b : Addr} {xs ys : List V} {g : TG} {tt : TT} {te : TE} {vs : List Nat} {σ : L2.St} {H1 : Hp} {D : Addr} {Qd : Hp → Prop} (hl : xs.length = ys.length) (Pv : Nat → Hp → Prop) (h0 : Pv 0 (upd H1 D (.lst []))) (hq : ∀ i H, Pv i H → SqT K H a xs ∧ SqT K H b ys)
    (hs : ∀ i x y H T, xs[i]? = some x → ys[i]? = some y → Pv i H → H T = none → g (.ref T) (wipe σ vs) (upd H T (.tup [x, y])) fun σ2 H2 => wipe σ2 vs = wipe σ vs ∧ tt σ2 H2 fun b H3 =>
      if b = true then te σ2 H3 fun y H4 => ∃ acc, H4 D = some (.lst acc) ∧ acc.length < sizeLine ∧ Pv (i + 1) (upd H4 D (.lst (acc ++ [y]))) else Pv (i + 1) H3) (hd : ∀ H, Pv xs.length H → Qd H) :
    ∃ W : Nat → Nat → Hp → Prop, (∃ m, W 0 m (upd H1 D (.lst []))) ∧ ∀ i m H, W i m H →
      ((RZ.ItzT K a b).stop i H ∧ Qd H) ∨ ((RZ.ItzT K a b).go i H ∧ ∃ Nx : Hp → Prop, (∀ H', Nx H' → ∃ m', m' < m ∧ W (i + 1) m' H') ∧ ∀ x H', (RZ.ItzT K a b).yld i H x H' → g x (wipe σ vs) H' fun σ2 H2 => wipe σ2 vs = wipe σ vs ∧ tt σ2 H2 fun b H3 =>
        if b = true then te σ2 H3 fun y H4 => ∃ acc, H4 D = some (.lst acc) ∧ acc.length < sizeLine ∧ Nx (upd H4 D (.lst (acc ++ [y]))) else Nx H3) := by
  refine ⟨fun i m H => m = xs.length - i ∧ i ≤ xs.length ∧ Pv i H, ⟨xs.length, rfl, Nat.zero_le _, h0⟩, ?_⟩
  rintro i m H ⟨rfl, hi, p⟩
  obtain ⟨qx, qy⟩ := hq i H p
  rcases Nat.lt_or_ge i xs.length with lt | ge
  · have hx : xs[i]? = some xs[i] := List.getElem?_eq_getElem lt
    have lt2 : i < ys.length := by omega
    have hy : ys[i]? = some ys[i] := List.getElem?_eq_getElem lt2
    refine .inr ⟨⟨xs, ys, xs[i], ys[i], qx, qy, hx, hy⟩, Pv (i + 1), fun H' p' => ⟨xs.length - (i + 1), by omega, rfl, lt, p'⟩, ?_⟩
    rintro v H' ⟨T, x, y, rfl, hT, rfl, y1, y2⟩
    exact hs i x y H T (y1 xs qx) (y2 ys qy) p hT
  · obtain rfl : i = xs.length := by omega
    exact .inl ⟨⟨xs, ys, qx, qy, .inl (Nat.le_refl _)⟩, hd H p⟩
/-- [.. for x, y in zip(t, u) if ..], both tuples written from one list -/
theorem rd_lcZ {K : PySem.W.Frag} {α : Type} {e1 e2 : α → PyData} {as : List α} {p : α → Bool} {f : α → PyData} {ta : TA} {te : TE} {tt : TT} {i j : Nat} {σ : L2.St} {H : Hp} {Q : VK} (hi : ∀ R : List V → Hp → Prop, (∀ v w H', Same H H' → Td H' (.tuple (as.map e1)) v → Td H' (.tuple (as.map e2)) w → R [v, w] H') → ta σ H R) (hl : as.length ≤ 1000)
    (ht : ∀ a v w H', a ∈ as → Same H H' → Td H' (e1 a) v → Td H' (e2 a) w → TTok tt (((wipe σ [i, j]).set i (some v)).set j (some w)) H' (p a)) (he : ∀ a v w H', a ∈ as → p a = true → Same H H' → Td H' (e1 a) v → Td H' (e2 a) w → TEok te (((wipe σ [i, j]).set i (some v)).set j (some w)) H' (Da (f a)))
    (kk : ∀ v H', Same H H' → LstD ((as.filter p).map f) v H' → Q v H') : tLc (RZ.iZipA K ta) (gTup K 2 (gCons (gName i) (gCons (gName j) gNil))) tt te [i, j] σ H Q := hi _ fun v w H2 s2 hv hw => by
  obtain ⟨q, xs, rfl, hq, tq⟩ := Td.un hv
  obtain ⟨q', ys, rfl, hq', tq'⟩ := Td.un hw
  have lx : xs.length = as.length := by rw [tq.len, List.length_map]
  have ly : ys.length = as.length := by rw [tq'.len, List.length_map]
  refine ⟨q, q', xs, ys, rfl, .inr ⟨.of hq, .of hq', fun M hM => lc_zipT (K := K) (a := q) (b := q') (xs := xs) (ys := ys) (lx.trans ly.symm) (fun k H => Same H2 H ∧ ∃ acc, H M = some (.lst acc) ∧ acc.length ≤ k ∧ Tds H (((as.take k).filter p).map f) acc) ⟨same_new hM, [], upd_same, Nat.le_refl _, .nil⟩ (fun k H h => ⟨.of (h.1 _ _ hq), .of (h.1 _ _ hq')⟩) ?_ ?_⟩⟩
  · rintro k y z H3 T hy hz ⟨s3, acc, hm, hk, htt⟩ hT
    have sT : Same H3 (upd H3 T (.tup [y, z])) := same_new hT
    have hT4 : (upd H3 T (.tup [y, z])) T = some (.tup [y, z]) := upd_same
    generalize upd H3 T (.tup [y, z]) = H4 at sT hT4 ⊢
    obtain ⟨d, hd, td⟩ := tq.at' hy
    obtain ⟨a, ha, rfl⟩ := map_at hd
    obtain ⟨d', hd', td'⟩ := tq'.at' hz
    obtain ⟨a', ha', rfl⟩ := map_at hd'
    rw [ha] at ha'
    cases ha'
    have hk2 : k < as.length := (List.getElem?_eq_some_iff.mp ha).1
    have hma := List.mem_of_getElem? ha
    refine ⟨T, _, rfl, .of hT4, rfl, _, _, rfl, _, _, rfl, rfl, ?_, ?_⟩
    · rw [wipe_set (by simp), wipe_set (by simp), wipe_idem]
    · refine ht a y z H4 hma ((s2.trans s3).trans sT) (Td.keep (.of (s3.trans sT)) _ _ td) (Td.keep (.of (s3.trans sT)) _ _ td') _ fun H5 s5 => ?_
      have s35 := sT.trans s5
      exact turn_lc hM (s3.trans s35) (s35 _ _ hm) hk (by omega) (Tds.keep (.of s35) _ _ htt) ha fun hp => he a y z H5 hma hp (s2.trans (s3.trans s35)) (Td.keep (.of (s3.trans s35)) _ _ td) (Td.keep (.of (s3.trans s35)) _ _ td')
  · rintro H3 ⟨s3, acc, hm, hk, htt⟩
    rw [lx, List.take_length] at htt
    exact kk _ _ (s2.trans s3) ⟨M, acc, rfl, hm, htt⟩
/-- [.. for _, x, y, _ in t] -/
theorem rd_lc4 {K : PySem.W.Frag} {α : Type} {e1 e2 e3 e4 : α → PyData} {as : List α} {f : α → PyData} {t te : TE} {i j l : Nat} {σ : L2.St} {H : Hp} {Q : VK} (hi : TEok t σ H (Da (.tuple (as.map fun a => .tuple [e1 a, e2 a, e3 a, e4 a])))) (hl : as.length ≤ 1000)
    (he : ∀ a v1 v2 v3 v4 H', a ∈ as → Same H H' → Td H' (e2 a) v2 → Td H' (e3 a) v3 → TEok te (((((wipe σ [i, j, l]).set i (some v1)).set j (some v2)).set l (some v3)).set i (some v4)) H' (Da (f a)))
    (kk : ∀ v H', Same H H' → LstD (as.map f) v H' → Q v H') : tLc (iTup K t) (gTup K 4 (gCons (gName i) (gCons (gName j) (gCons (gName l) (gCons (gName i) gNil))))) tYes te [i, j, l] σ H Q := hi _ fun v H2 s2 hv => by
  obtain ⟨q, xs, rfl, hq, tq⟩ := Td.un hv
  refine ⟨q, rfl, ⟨xs, .of hq⟩, fun M hM => lc_tup (K := K) (a := q) (xs := xs) (fun k H => Same H2 H ∧ ∃ acc, H M = some (.lst acc) ∧ acc.length ≤ k ∧ Tds H (((as.take k).filter fun _ => true).map f) acc) ⟨same_new hM, [], upd_same, Nat.le_refl _, .nil⟩ (fun k H _ h => .of (h.1 _ _ hq)) ?_ ?_⟩
  · rintro k y H3 hy ⟨s3, acc, hm, hk, htt⟩
    obtain ⟨d, hd, td⟩ := tq.at' hy
    obtain ⟨a, ha, rfl⟩ := map_at hd
    have hk2 : k < as.length := (List.getElem?_eq_some_iff.mp ha).1
    have hma := List.mem_of_getElem? ha
    obtain ⟨qx, xx, rfl, hqx, tx⟩ := Td.un (Td.keep (.of s3) _ _ td)
    obtain ⟨n1, w1, rfl, t1, tx⟩ := tx.un
    obtain ⟨n2, w2, rfl, t2, tx⟩ := tx.un
    obtain ⟨n3, w3, rfl, t3, tx⟩ := tx.un
    obtain ⟨n4, w4, rfl, t4, tx⟩ := tx.un
    obtain rfl := tx.nil'
    refine ⟨qx, _, rfl, .of hqx, rfl, _, _, rfl, _, _, rfl, _, _, rfl, _, _, rfl, rfl, ?_, ?_⟩
    · rw [wipe_set (by simp), wipe_set (by simp), wipe_set (by simp), wipe_set (by simp), wipe_idem]
    · unfold tYes
      exact turn_lc (p := fun _ => true) hM s3 hm hk (by omega) htt ha fun hp => he a n1 n2 n3 n4 H3 hma (s2.trans s3) t2 t3
  · rintro H3 ⟨s3, acc, hm, hk, htt⟩
    have e : xs.length = as.length := by rw [tq.len, List.length_map]
    rw [e, List.take_length, filter_all] at htt
    exact kk _ _ (s2.trans s3) ⟨M, acc, rfl, hm, htt⟩
section
variable {X : Cx} {elt iter test : Expr} {x : Str} {xp pos : Pos} {scope : Scope} {σ : L2.St} {H : Hp} {i : Nat} {α : Type} {enc : α → PyData} {as : List α} {p : α → Bool} {f : α → PyData}
theorem ev_mL (hc : X.calm = true) (nd : X.N.Nodup) (ok : BlkOk X.N X.env.scope scope [(x, i)]) (hg : ∀ (s : Shared) (H : Hp) (C : Addr) (cl : List (Str × Addr)) (fp : List Addr), PG (X.blk s H scope (compEnvC scope cl C X.env) fp) (.Name x xp) (gName i)) (hi : Ev X σ H iter (LstD (as.map enc))) (hl : as.length ≤ 1000)
    (he : ∀ a v H', a ∈ as → Same H H' → Td H' (enc a) v → ∀ (s : Shared) (H0 : Hp) (C : Addr) (cl : List (Str × Addr)) (fp : List Addr), Ev (X.blk s H0 scope (compEnvC scope cl C X.env) fp) ((wipe σ [i]).set i (some v)) H' elt (Da (f a)))
    (hs : ∀ x, foldedSetIterable iter X.env x = pure x := by intro _; rfl) : Ev X σ H (.ListComp elt [⟨.Name x xp, iter, [], 0⟩] scope pos) (LstD (as.map f)) := fun H1 s1 =>
  w_E (pe_lc (own := [(x, i)]) (g := gName i) (tt := tYes) hc nd (pi_list pw_E) ok hg (fun _ _ _ _ _ => pts_nil) pw_Eb hs) (rd_lcL (p := fun _ => true) (teok_ev (hi.mono s1)) hl (fun a v H' ha s td => ttok_yes) (fun a v H' ha hp s td => teok_of (he a v H' ha (s1.trans s) td)) fun v H' s h => ⟨s, by rw [filter_all] at h; exact h⟩)
theorem ev_mT (hc : X.calm = true) (nd : X.N.Nodup) (ok : BlkOk X.N X.env.scope scope [(x, i)]) (hg : ∀ (s : Shared) (H : Hp) (C : Addr) (cl : List (Str × Addr)) (fp : List Addr), PG (X.blk s H scope (compEnvC scope cl C X.env) fp) (.Name x xp) (gName i)) (hi : Ev X σ H iter (Da (.tuple (as.map enc)))) (hl : as.length ≤ 1000)
    (he : ∀ a v H', a ∈ as → Same H H' → Td H' (enc a) v → ∀ (s : Shared) (H0 : Hp) (C : Addr) (cl : List (Str × Addr)) (fp : List Addr), Ev (X.blk s H0 scope (compEnvC scope cl C X.env) fp) ((wipe σ [i]).set i (some v)) H' elt (Da (f a)))
    (hs : ∀ x, foldedSetIterable iter X.env x = pure x := by intro _; rfl) : Ev X σ H (.ListComp elt [⟨.Name x xp, iter, [], 0⟩] scope pos) (LstD (as.map f)) := fun H1 s1 =>
  w_E (pe_lc (own := [(x, i)]) (g := gName i) (tt := tYes) hc nd (pi_tup pw_E) ok hg (fun _ _ _ _ _ => pts_nil) pw_Eb hs) (rd_lcT (p := fun _ => true) (teok_ev (hi.mono s1)) hl (fun a v H' ha s td => ttok_yes) (fun a v H' ha hp s td => teok_of (he a v H' ha (s1.trans s) td)) fun v H' s h => ⟨s, by rw [filter_all] at h; exact h⟩)
theorem ev_fL (hc : X.calm = true) (nd : X.N.Nodup) (ok : BlkOk X.N X.env.scope scope [(x, i)]) (hg : ∀ (s : Shared) (H : Hp) (C : Addr) (cl : List (Str × Addr)) (fp : List Addr), PG (X.blk s H scope (compEnvC scope cl C X.env) fp) (.Name x xp) (gName i)) (hi : Ev X σ H iter (LstD (as.map enc))) (hl : as.length ≤ 1000)
    (ht : ∀ a v H', a ∈ as → Same H H' → Td H' (enc a) v → ∀ (s : Shared) (H0 : Hp) (C : Addr) (cl : List (Str × Addr)) (fp : List Addr), EvT (X.blk s H0 scope (compEnvC scope cl C X.env) fp) ((wipe σ [i]).set i (some v)) H' test (p a)) (he : ∀ a v H', a ∈ as → p a = true → Same H H' → Td H' (enc a) v → ∀ (s : Shared) (H0 : Hp) (C : Addr) (cl : List (Str × Addr)) (fp : List Addr), Ev (X.blk s H0 scope (compEnvC scope cl C X.env) fp) ((wipe σ [i]).set i (some v)) H' elt (Da (f a)))
    (hs : ∀ x, foldedSetIterable iter X.env x = pure x := by intro _; rfl) : Ev X σ H (.ListComp elt [⟨.Name x xp, iter, [test], 0⟩] scope pos) (LstD ((as.filter p).map f)) := fun H1 s1 =>
  w_E (pe_lc (own := [(x, i)]) (g := gName i) (tt := wTb X scope test) hc nd (pi_list pw_E) ok hg pw_Tb pw_Eb hs) (rd_lcL (teok_ev (hi.mono s1)) hl (fun a v H' ha s td => ttok_of (ht a v H' ha (s1.trans s) td)) (fun a v H' ha hp s td => teok_of (he a v H' ha hp (s1.trans s) td)) fun v H' s h => ⟨s, h⟩)
theorem ev_fT (hc : X.calm = true) (nd : X.N.Nodup) (ok : BlkOk X.N X.env.scope scope [(x, i)]) (hg : ∀ (s : Shared) (H : Hp) (C : Addr) (cl : List (Str × Addr)) (fp : List Addr), PG (X.blk s H scope (compEnvC scope cl C X.env) fp) (.Name x xp) (gName i)) (hi : Ev X σ H iter (Da (.tuple (as.map enc)))) (hl : as.length ≤ 1000)
    (ht : ∀ a v H', a ∈ as → Same H H' → Td H' (enc a) v → ∀ (s : Shared) (H0 : Hp) (C : Addr) (cl : List (Str × Addr)) (fp : List Addr), EvT (X.blk s H0 scope (compEnvC scope cl C X.env) fp) ((wipe σ [i]).set i (some v)) H' test (p a)) (he : ∀ a v H', a ∈ as → p a = true → Same H H' → Td H' (enc a) v → ∀ (s : Shared) (H0 : Hp) (C : Addr) (cl : List (Str × Addr)) (fp : List Addr), Ev (X.blk s H0 scope (compEnvC scope cl C X.env) fp) ((wipe σ [i]).set i (some v)) H' elt (Da (f a)))
    (hs : ∀ x, foldedSetIterable iter X.env x = pure x := by intro _; rfl) : Ev X σ H (.ListComp elt [⟨.Name x xp, iter, [test], 0⟩] scope pos) (LstD ((as.filter p).map f)) := fun H1 s1 =>
  w_E (pe_lc (own := [(x, i)]) (g := gName i) (tt := wTb X scope test) hc nd (pi_tup pw_E) ok hg pw_Tb pw_Eb hs) (rd_lcT (teok_ev (hi.mono s1)) hl (fun a v H' ha s td => ttok_of (ht a v H' ha (s1.trans s) td)) (fun a v H' ha hp s td => teok_of (he a v H' ha hp (s1.trans s) td)) fun v H' s h => ⟨s, h⟩)
end
end Cb

namespace Cb
open PySem PySem.Spec PyProof.Rows L2
theorem sameT {K : PySem.W.Frag} {H H' : Hp} {a : Addr} {xs : List V} (e : Same H H') (h : SqT K H a xs) : SqT K H' a xs := by
  rcases h with (h | ⟨o, h⟩) | h
  · exact .inl (.inl (e _ _ h))
  · exact .inl (.inr ⟨o, e _ _ h⟩)
  · exact .inr h
/-- a tuple, new or of the module's top -/
def SqP (K : PySem.W.Frag) (xs : List V) : Pd := fun v H => ∃ q, v = .ref q ∧ SqT K H q xs
theorem mono_sq {K : PySem.W.Frag} {xs : List V} : Mono (SqP K xs) := fun v H H' s ⟨q, e, h⟩ => ⟨q, e, sameT s h⟩
section
variable {X : Cx} {e a b c : Expr} {es : List Expr} {σ : L2.St} {H H' : Hp} {pos pos' p p' q : Pos} {P : Pd} {x : Str}
theorem ev_ixS {xs : List V} {i : Int} {v : V} (ho : Ev X σ H a (SqP X.K xs)) (hi : Ev X σ H b (Is (.int i))) (ha : atI xs i = some v) (hs : PlainIxT b := by exact fun _ _ => rfl) : Ev X σ H (.Subscript a b p) (Is v) :=
  ev_of (pe_ix ix_tup pw_E pw_E hs) fun H1 s1 => wE_mono (ho H1 s1) fun x H2 ⟨s2, q, ex, hq⟩ => wE_mono (hi H2 (s1.trans s2)) fun y H3 ⟨s3, py⟩ =>
    ⟨q, xs, i, v, ex, py, sameT s3 hq, ha, s2.trans s3, rfl⟩
/-- a < b < c and its like, of ints -/
theorem ev_chainI {op op' : CmpOp} {g g' : Int → Int → Bool} {i j l : Int} (ho : OpR X (compareOp op) (rI0 fun i j => .bl (g i j))) (ho' : OpR X (compareOp op') (rI0 fun i j => .bl (g' i j))) (ha : Ev X σ H a (Is (.int i))) (hb : Ev X σ H b (Is (.int j))) (hc : Ev X σ H c (Is (.int l)))
    (hm : lastMarks [op, op'] [b, c] = false := by with_unfolding_all rfl) : Ev X σ H (.Compare a [op, op'] [b, c] pos) (Is (.bl (g i j && g' j l))) :=
  ev_of (pe_chain ho ho' pw_E pw_E pw_E hm) fun H1 s1 => wE_mono (ha H1 s1) fun x H2 ⟨s2, px⟩ => wE_mono (hb H2 (s1.trans s2)) fun y H3 ⟨s3, py⟩ => by
    refine ⟨i, j, px, py, g i j, rfl, ?_⟩
    cases h : g i j with
    | false => exact ⟨s2.trans s3, rfl⟩
    | true => exact wE_mono (hc H3 ((s1.trans s2).trans s3)) fun z H4 ⟨s4, pz⟩ => ⟨j, l, py, pz, (s2.trans s3).trans s4, rfl⟩
theorem Tds.bools : ∀ {bs : List Bool} {xs : List V} {H : Hp}, Tds H (bs.map PyData.bool) xs → xs = bs.map V.bl
  | [], xs, H, h => h.nil'
  | b :: bs, xs, H, h => by
    obtain ⟨v, r, rfl, h1, h2⟩ := h.un
    rw [show v = .bl b from (congrFun (congrFun da_bool v) H).mp h1, h2.bools]
    rfl
theorem ev_all {bs : List Bool} (hc : X.calm = true) (hm : X.mg "all" = none) (ha : Ev X σ H a (LstD (bs.map PyData.bool))) (hg : Gl X "all" := by rfl) (hs : starEach [a] X.env = (false, eval a X.env) :: starEach [] X.env := by rfl) (hpl : (backTo p (starEach [] X.env)).any (·.1) = false := by rfl) : Ev X σ H (.Call (.Name "all" p') [a] [] p) (Is (.bl (bs.all id))) :=
  ev_cb (cr_all hc) hm (by decide +kernel) (ea_1 ha mono_lstD hs) (fun vs H2 s h => by
    obtain ⟨v, rfl, q, xs, rfl, hq, t⟩ := h.one
    obtain rfl := t.bools
    exact ⟨q, bs, rfl, SqL.of hq, .refl _, rfl⟩) (fun vs H2 Q Q' k ⟨x, n, e, h, q⟩ => ⟨x, n, e, h, k _ _ q⟩) hg (by decide) (by decide) hs hpl
end
end Cb
namespace Kn
open PySem PySem.Spec PyProof.Rows L2 Cb
/-! ### fractions, rounded, turned, compared -/
def dn (r : Rat) : Int := r.num.fdiv (r.den : Int)
def upp (r : Rat) : Int := -((-r.num).fdiv (r.den : Int))
def Qi (K : PySem.W.Frag) (r : Rat) : Pd := SqP K [.int r.num, .int (r.den : Int)]
theorem qi_of {K : PySem.W.Frag} {r : Rat} {v : V} {H : Hp} (h : Td H (qd r) v) : Qi K r v H := by
  obtain ⟨q, xs, rfl, hq, t⟩ := Td.un h
  obtain ⟨v1, r1, rfl, t1, t⟩ := t.un
  obtain ⟨v2, r2, rfl, t2, t⟩ := t.un
  obtain rfl := t.nil'
  obtain rfl := t1.int
  obtain rfl := t2.int
  exact ⟨q, rfl, .of hq⟩
section
variable {P : Program} {w : World} {K : PySem.W.Frag} {mg : Str → Option Value} {base : Heap}
theorem Ev.qi {X : Cx} {σ : L2.St} {H : Hp} {a : Expr} {r : Rat} (h : Ev X σ H a (Da (qd r))) : Ev X σ H a (Qi X.K r) := h.imp fun v H' _ h => qi_of h
def spR1 (g : Rat → Pd) : Sp := spP (fun (r : Rat) vs H => (∃ v, vs = [v] ∧ Td H (qd r) v) ∧ Bd 2000 r) g
def spDn : Sp := spR1 fun r => Is (.int (dn r))
def spUp : Sp := spR1 fun r => Is (.int (upp r))
def spTurned : Sp := spR1 fun r => Da (qd (-r))
theorem scDn : FnScope ["pair"] ["pair"] (defScope sDown) := ⟨rfl, rfl, rfl, by decide +kernel, rfl, by decide +kernel, by decide +kernel⟩
theorem scUp : FnScope ["pair"] ["pair"] (defScope sUp) := ⟨rfl, rfl, rfl, by decide +kernel, rfl, by decide +kernel, by decide +kernel⟩
theorem scTurned : FnScope ["pair"] ["pair"] (defScope sTurned) := ⟨rfl, rfl, rfl, by decide +kernel, rfl, by decide +kernel, by decide +kernel⟩
theorem ok_dn {f : Addr} {fd : FuncData} (F : Fun K "rounded_down" "rounded_down" sDown f fd) : FnOk P w K mg base CX0 1 f fd ["pair"] spDn := by
  refine F.ok scDn (fun vs H Q E h => ?_) (fun cdv A outer s H vs Q E hr h => ?_)
  · obtain ⟨d, ⟨⟨v, rfl, _⟩, _⟩, _⟩ := h
    rfl
  · obtain ⟨r, ⟨⟨v, rfl, hv⟩, hb⟩, k⟩ := h
    exact ⟨_, pw_B, b_retE (ev_opC op_fdivA (ev_q0 (ev_v (pv 0) rfl hv mono_da) (ev_c pe_int)) (ev_q1 (ev_v (pv 0) rfl hv mono_da) (ev_c pe_int)) (divOk hb).div) fun v H' s h => k v H' s h⟩
theorem ok_up {f : Addr} {fd : FuncData} (F : Fun K "rounded_up" "rounded_up" sUp f fd) : FnOk P w K mg base CX0 1 f fd ["pair"] spUp := by
  refine F.ok scUp (fun vs H Q E h => ?_) (fun cdv A outer s H vs Q E hr h => ?_)
  · obtain ⟨d, ⟨⟨v, rfl, _⟩, _⟩, _⟩ := h
    rfl
  · obtain ⟨r, ⟨⟨v, rfl, hv⟩, hb⟩, k⟩ := h
    exact ⟨_, pw_B, b_retE (ev_negI (ev_opC op_fdivA (ev_negI (ev_q0 (ev_v (pv 0) rfl hv mono_da) (ev_c pe_int))) (ev_q1 (ev_v (pv 0) rfl hv mono_da) (ev_c pe_int)) (divOk hb).div)) fun v H' s h => k v H' s h⟩
theorem ok_turned {f : Addr} {fd : FuncData} (F : Fun K "pair_turned" "pair_turned" sTurned f fd) : FnOk P w K mg base CX0 1 f fd ["pair"] spTurned := by
  refine F.ok scTurned (fun vs H Q E h => ?_) (fun cdv A outer s H vs Q E hr h => ?_)
  · obtain ⟨d, ⟨⟨v, rfl, _⟩, _⟩, _⟩ := h
    rfl
  · obtain ⟨r, ⟨⟨v, rfl, hv⟩, hb⟩, k⟩ := h
    refine ⟨_, pw_B, b_retE (ev_tupD (ds := [.int (-r.num), .int (r.den : Int)]) (ed_cons (Ev.int (ev_negI (ev_q0 (ev_v (pv 0) rfl hv mono_da) (ev_c pe_int)))) (ed_cons (Ev.int (ev_q1 (ev_v (pv 0) rfl hv mono_da) (ev_c pe_int))) ed_nil)) (by show 2 ≤ 1000; decide)) fun v H' s h => k v H' s ?_⟩
    show Td H' (qd (-r)) v
    unfold qd
    rw [Rat.neg_num, Rat.neg_den]
    exact h
theorem ev_r1 {X : Cx} {σ : L2.St} {H : Hp} {a : Expr} {p q : Pos} {r : Rat} {k : Nat} {f : Addr} {fd : FuncData} {ps : List Str} {x : Str} {g : Rat → Pd} (G : GDef X x k f fd ps (spR1 g)) (ha : Ev X σ H a (Da (qd r))) (hb : Bd 2000 r) (hg : Gl X x := by rfl) (hdb : (x == ("__debug__" : Str)) = false := by decide) (hs : starEach [a] X.env = (false, eval a X.env) :: starEach [] X.env := by rfl)
    (hpl : (backTo p (starEach [] X.env)).any (·.1) = false := by rfl) : Ev X σ H (.Call (.Name x q) [a] [] p) (g r) := ev_callP r G (ea_1 ha mono_da hs) (fun vs H2 _ h => ⟨h.one, hb⟩) hg hdb hs hpl
theorem ev_turned {X : Cx} {σ : L2.St} {H : Hp} {a : Expr} {p q : Pos} {r : Rat} {k : Nat} {f : Addr} {fd : FuncData} {ps : List Str} (G : GDef X "pair_turned" k f fd ps spTurned) (ha : Ev X σ H a (Da (qd r))) (hb : Bd 2000 r) (hg : Gl X "pair_turned" := by rfl) (hs : starEach [a] X.env = (false, eval a X.env) :: starEach [] X.env := by rfl)
    (hpl : (backTo p (starEach [] X.env)).any (·.1) = false := by rfl) : Ev X σ H (.Call (.Name "pair_turned" q) [a] [] p) (Da (qd (-r))) := ev_r1 G ha hb hg (by decide) hs hpl
theorem ev_dn {X : Cx} {σ : L2.St} {H : Hp} {a : Expr} {p q : Pos} {r : Rat} {k : Nat} {f : Addr} {fd : FuncData} {ps : List Str} (G : GDef X "rounded_down" k f fd ps spDn) (ha : Ev X σ H a (Da (qd r))) (hb : Bd 2000 r) (hg : Gl X "rounded_down" := by rfl) (hs : starEach [a] X.env = (false, eval a X.env) :: starEach [] X.env := by rfl)
    (hpl : (backTo p (starEach [] X.env)).any (·.1) = false := by rfl) : Ev X σ H (.Call (.Name "rounded_down" q) [a] [] p) (Is (.int (dn r))) := ev_r1 G ha hb hg (by decide) hs hpl
theorem ev_up {X : Cx} {σ : L2.St} {H : Hp} {a : Expr} {p q : Pos} {r : Rat} {k : Nat} {f : Addr} {fd : FuncData} {ps : List Str} (G : GDef X "rounded_up" k f fd ps spUp) (ha : Ev X σ H a (Da (qd r))) (hb : Bd 2000 r) (hg : Gl X "rounded_up" := by rfl) (hs : starEach [a] X.env = (false, eval a X.env) :: starEach [] X.env := by rfl)
    (hpl : (backTo p (starEach [] X.env)).any (·.1) = false := by rfl) : Ev X σ H (.Call (.Name "rounded_up" q) [a] [] p) (Is (.int (upp r))) := ev_r1 G ha hb hg (by decide) hs hpl
theorem scLess : FnScope ["one", "other"] ["one", "other"] (defScope sLess) := ⟨rfl, rfl, rfl, by decide +kernel, rfl, by decide +kernel, by decide +kernel⟩
theorem bd_neg {n : Nat} {r : Rat} (h : Bd n r) : Bd n (-r) := by
  refine ⟨?_, ?_⟩
  · rw [Rat.neg_num, Int.natAbs_neg]
    exact h.1
  · rw [Rat.neg_den]
    exact h.2
theorem ok_less {f f1 f2 : Addr} {fd fd1 fd2 : FuncData} (F : Fun K "pair_less" "pair_less" sLess f fd) (G1 : FnOk P w K mg base CX0 2 f1 fd1 ["one", "other"] (spQ2 fun r q => r + q)) (k1 : PySem.W.keepIn K (.ref f1) = true) (b1 : Binds K fd1 ["one", "other"] []) (g1 : mg "pair_sum" = some (.ref f1))
    (G2 : FnOk P w K mg base CX0 1 f2 fd2 ["pair"] spTurned) (k2 : PySem.W.keepIn K (.ref f2) = true) (b2 : Binds K fd2 ["pair"] []) (g2 : mg "pair_turned" = some (.ref f2)) : FnOk P w K mg base CX0 3 f fd ["one", "other"] (spQ2 fun r q => r - q) := by
  refine F.ok scLess (fun vs H Q E h => ?_) (fun cdv A outer s H vs Q E hr h => ?_)
  · obtain ⟨d, ⟨⟨v, w, rfl, _⟩, _⟩, _⟩ := h
    rfl
  · obtain ⟨⟨r, q⟩, ⟨⟨v, w, rfl, hv, hw⟩, hr1, hq1⟩, k⟩ := h
    dsimp only at hv hw hr1 hq1 k
    refine ⟨_, pw_B, b_retE (ev_q2 (r := r) (s := -q) ⟨G1, hr, g1, k1, b1⟩ (ev_v (pv 0) rfl hv mono_da) (ev_turned ⟨G2, hr.mono (by decide), g2, k2, b2⟩ (ev_v (pv 1) rfl hw mono_da) hq1) hr1 (bd_neg hq1)) fun v H' s h => k v H' s ?_⟩
    rw [← Rat.sub_eq_add_neg] at h
    exact h
def spBelow (K : PySem.W.Frag) : Sp := spP (fun (d : Rat × Rat) vs H => (∃ v w, vs = [v, w] ∧ Qi K d.1 v H ∧ Qi K d.2 w H) ∧ Bd 2000 d.1 ∧ Bd 2000 d.2) (fun d => Is (.bl (decide (d.1 < d.2))))
theorem scBelow : FnScope ["one", "other"] ["one", "other"] (defScope sBelow) := ⟨rfl, rfl, rfl, by decide +kernel, rfl, by decide +kernel, by decide +kernel⟩
theorem ok_below {f : Addr} {fd : FuncData} (F : Fun K "is_below" "is_below" sBelow f fd) : FnOk P w K mg base CX0 1 f fd ["one", "other"] (spBelow K) := by
  refine F.ok scBelow (fun vs H Q E h => ?_) (fun cdv A outer s H vs Q E hr h => ?_)
  · obtain ⟨d, ⟨⟨v, w, rfl, _⟩, _⟩, _⟩ := h
    rfl
  · obtain ⟨⟨r, q⟩, ⟨⟨v, w', rfl, hv, hw⟩, hr1, hq1⟩, k⟩ := h
    dsimp only at hv hw hr1 hq1 k
    refine ⟨_, pw_B, b_retE (CC.ev (c_I op_lt (nomark _) (ev_opC op_mulW (ev_ixS (ev_v (pv 0) rfl hv mono_sq) (ev_c pe_int) atI0) (ev_ixS (ev_v (pv 1) rfl hw mono_sq) (ev_c pe_int) atI1) (mulOk hr1.1 hq1.2)) (ev_opC op_mulW (ev_ixS (ev_v (pv 1) rfl hw mono_sq) (ev_c pe_int) atI0) (ev_ixS (ev_v (pv 0) rfl hv mono_sq) (ev_c pe_int) atI1) (mulOk hq1.1 hr1.2)))) fun v H' s h => k v H' s ?_⟩
    have z : decide (r.num * (q.den : Int) < q.num * (r.den : Int)) = decide (r < q) := by
      exact decide_eq_decide.mpr (Rat.lt_iff r q).symm
    rw [z] at h
    exact h
theorem ev_below {X : Cx} {σ : L2.St} {H : Hp} {a b : Expr} {p q : Pos} {r s : Rat} {k : Nat} {f : Addr} {fd : FuncData} {ps : List Str} (g : GDef X "is_below" k f fd ps (spBelow X.K)) (ha : Ev X σ H a (Qi X.K r)) (hb : Ev X σ H b (Qi X.K s)) (h1 : Bd 2000 r) (h2 : Bd 2000 s) (hg : Gl X "is_below" := by rfl) (hs : starEach [a, b] X.env = (false, eval a X.env) :: starEach [b] X.env := by rfl) (hs' : starEach [b] X.env = (false, eval b X.env) :: starEach [] X.env := by rfl)
    (hpl : (backTo p (starEach [b] X.env)).any (·.1) = false := by rfl) : Ev X σ H (.Call (.Name "is_below" q) [a, b] [] p) (Is (.bl (decide (r < s)))) := ev_callP (r, s) g (ea_2 ha mono_sq hb mono_sq hs hs') (fun vs H2 _ h => ⟨h.two, h1, h2⟩) hg (by decide) hs hpl
theorem ev_tot {X : Cx} {σ : L2.St} {H : Hp} {a : Expr} {p q : Pos} {rs : List Rat} {k : Nat} {f : Addr} {fd : FuncData} {ps : List Str} (g : GDef X "pair_total" k f fd ps spTot) (ha : Ev X σ H a (LstD (rs.map qd))) (hb : ∀ r ∈ rs, Bd 60 r) (hl : rs.length ≤ 20) (hg : Gl X "pair_total" := by rfl) (hs : starEach [a] X.env = (false, eval a X.env) :: starEach [] X.env := by rfl)
    (hpl : (backTo p (starEach [] X.env)).any (·.1) = false := by rfl) : Ev X σ H (.Call (.Name "pair_total" q) [a] [] p) (Da (qd (sumQ rs))) := ev_callP rs g (ea_1 ha mono_lstD hs) (fun vs H2 _ h => ⟨h.one, hb, hl⟩) hg (by decide) hs hpl
end
end Kn

namespace Kn
open PySem PySem.Spec PyProof.Rows L2 Cb
/-! ### states, how far they are off -/
def LnK (l : Ln) : Prop := NmOk l.nm ∧ 0 ≤ l.ex ∧ Bd 20 l.ex ∧ l.ct.natAbs < 2 ^ 20
def RowsK (rows : List Ln) : Prop := rows.length ≤ 8 ∧ ∀ l ∈ rows, LnK l
def gap (l : Ln) : Rat := (l.ct : Rat) - l.ex
def going (rows : List Ln) : List Rat := (rows.filter fun l => l.on).map gap
def aheadR (rows : List Ln) : Rat := sumQ ((going rows).filter fun g => decide (0 < g))
def behindR (rows : List Ln) : Rat := sumQ (((going rows).filter fun g => decide (g < 0)).map fun g => -g)
def endedR (rows : List Ln) : Rat := sumQ ((rows.filter fun l => !l.on).map gap)
def btw (c : Int) (r : Rat) : Bool := decide (dn r ≤ c) && decide (c ≤ upp r)
def near (rows : List Ln) : Bool := (rows.all fun l => btw l.ct l.ex) && btw (rows.map fun l => l.ct).sum (sumQ (rows.map fun l => l.ex))
def four (rows : List Ln) : List Rat := [aheadR rows, behindR rows, aheadR rows + endedR rows, behindR rows - endedR rows]
def free (rows : List Ln) : Bool := near rows && (four rows).all fun r => decide (r < 1)
theorem bd_int {z : Int} {n : Nat} (h : z.natAbs < 2 ^ n) (hn : 1 ≤ n) : Bd n (z : Rat) := by
  refine ⟨by rw [Rat.num_intCast]; exact h, ?_⟩
  rw [Rat.den_intCast]
  exact Nat.lt_of_lt_of_le (by decide) (two_le hn)
theorem bd_gap {l : Ln} (h : LnK l) : Bd 60 (gap l) := by
  unfold gap
  rw [Rat.sub_eq_add_neg]
  exact (bd_add (bd_int h.2.2.2 (by decide)) (bd_neg h.2.2.1)).mono (by decide)
theorem qd_int (z : Int) : qd (z : Rat) = .tuple [.int z, .int 1] := by
  unfold qd
  rw [Rat.num_intCast, Rat.den_intCast]
  rfl
theorem going_ok {rows : List Ln} (h : RowsK rows) : (∀ g ∈ going rows, Bd 60 g) ∧ (going rows).length ≤ 8 := by
  refine ⟨fun g hg => ?_, ?_⟩
  · obtain ⟨l, hl, rfl⟩ := List.mem_map.mp hg
    exact bd_gap (h.2 l ((List.mem_filter.mp hl).1))
  · unfold going
    rw [List.length_map]
    exact Nat.le_trans (List.length_filter_le _ _) h.1
theorem bd_sum8 {l : List Rat} (h : ∀ r ∈ l, Bd 60 r) (hl : l.length ≤ 8) : Bd 500 (sumQ l) := (bd_sumQ h).mono (by omega)
theorem bd_ahead {rows : List Ln} (h : RowsK rows) : Bd 500 (aheadR rows) := bd_sum8 (fun r hr => (going_ok h).1 r ((List.mem_filter.mp hr).1)) (Nat.le_trans (List.length_filter_le _ _) (going_ok h).2)
theorem bd_behind {rows : List Ln} (h : RowsK rows) : Bd 500 (behindR rows) := bd_sum8 (fun r hr => by
  obtain ⟨g, hg, rfl⟩ := List.mem_map.mp hr
  exact bd_neg ((going_ok h).1 g ((List.mem_filter.mp hg).1))) (by rw [List.length_map]; exact Nat.le_trans (List.length_filter_le _ _) (going_ok h).2)
theorem ended_ok {rows : List Ln} (h : RowsK rows) : (∀ g ∈ (rows.filter fun l => !l.on).map gap, Bd 60 g) ∧ ((rows.filter fun l => !l.on).map gap).length ≤ 8 := by
  refine ⟨fun g hg => ?_, ?_⟩
  · obtain ⟨l, hl, rfl⟩ := List.mem_map.mp hg
    exact bd_gap (h.2 l ((List.mem_filter.mp hl).1))
  · rw [List.length_map]
    exact Nat.le_trans (List.length_filter_le _ _) h.1
theorem bd_ended {rows : List Ln} (h : RowsK rows) : Bd 500 (endedR rows) := bd_sum8 (ended_ok h).1 (ended_ok h).2
theorem ex_ok {rows : List Ln} (h : RowsK rows) : (∀ r ∈ rows.map (fun l => l.ex), Bd 60 r) ∧ (rows.map fun l => l.ex).length ≤ 8 := by
  refine ⟨fun r hr => ?_, by rw [List.length_map]; exact h.1⟩
  obtain ⟨l, hl, rfl⟩ := List.mem_map.mp hr
  exact (h.2 l hl).2.2.1.mono (by decide)
def spRows (R : List Ln → Pd) : Sp := spP (fun (rows : List Ln) vs H => (∃ v, vs = [v] ∧ Td H (rowsD rows) v) ∧ RowsK rows) R
def spOffs : Sp := spRows fun rows => Da (.tuple (rows.map fun l => qd (gap l)))
def spBal : Sp := spRows fun rows => Da (.tuple [qd (aheadR rows), qd (behindR rows), qd (endedR rows)])
def spIsR : Sp := spP (fun (d : Int × Rat) vs H => (∃ v, vs = [.int d.1, v] ∧ Td H (qd d.2) v) ∧ Bd 2000 d.2) (fun d => Is (.bl (btw d.1 d.2)))
def spClose : Sp := spRows fun rows => Is (.bl (near rows))
def spOpen : Sp := spRows fun rows => Is (.bl (free rows))
abbrev NOf : List Str := ["state", "_", "exact", "cents"]
theorem scOffs : FnScope NOf ["state"] (defScope sOffs) := ⟨rfl, rfl, rfl, by decide +kernel, rfl, by decide +kernel, by decide +kernel⟩
abbrev NBa : List Str := ["state", "going", "ahead", "behind", "ended", "off", "line"]
theorem scBal : FnScope NBa ["state"] (defScope sBalances) := ⟨rfl, rfl, rfl, by decide +kernel, rfl, by decide +kernel, by decide +kernel⟩
theorem scIsR : FnScope ["cents", "exact"] ["cents", "exact"] (defScope sIsRounded) := ⟨rfl, rfl, rfl, by decide +kernel, rfl, by decide +kernel, by decide +kernel⟩
abbrev NCl : List Str := ["state", "_", "exact", "cents", "line"]
theorem scClose : FnScope NCl ["state"] (defScope sIsClose) := ⟨rfl, rfl, rfl, by decide +kernel, rfl, by decide +kernel, by decide +kernel⟩
abbrev NOp : List Str := ["state", "ahead", "behind", "ended", "limited", "amount"]
theorem scOpen : FnScope NOp ["state"] (defScope sIsOpen) := ⟨rfl, rfl, rfl, by decide +kernel, rfl, by decide +kernel, by decide +kernel⟩
section
variable {X : Cx} {σ : L2.St} {H : Hp} {a b : Expr} {p q : Pos} {k : Nat} {f : Addr} {fd : FuncData} {ps : List Str} {rows : List Ln}
theorem ev_less {r s : Rat} (g : GDef X "pair_less" k f fd ps (spQ2 fun r q => r - q)) (ha : Ev X σ H a (Da (qd r))) (hb : Ev X σ H b (Da (qd s))) (h1 : Bd 2000 r) (h2 : Bd 2000 s) (hg : Gl X "pair_less" := by rfl) (hs : starEach [a, b] X.env = (false, eval a X.env) :: starEach [b] X.env := by rfl) (hs' : starEach [b] X.env = (false, eval b X.env) :: starEach [] X.env := by rfl)
    (hpl : (backTo p (starEach [b] X.env)).any (·.1) = false := by rfl) : Ev X σ H (.Call (.Name "pair_less" q) [a, b] [] p) (Da (qd (r - s))) := ev_q2 g ha hb h1 h2 hg (by decide) hs hs' hpl
theorem ev_rows {x : Str} {R : List Ln → Pd} (g : GDef X x k f fd ps (spRows R)) (ha : Ev X σ H a (Da (rowsD rows))) (h : RowsK rows) (hg : Gl X x := by rfl) (hdb : (x == ("__debug__" : Str)) = false := by decide) (hs : starEach [a] X.env = (false, eval a X.env) :: starEach [] X.env := by rfl) (hpl : (backTo p (starEach [] X.env)).any (·.1) = false := by rfl) : Ev X σ H (.Call (.Name x q) [a] [] p) (R rows) :=
  ev_callP rows g (ea_1 ha mono_da hs) (fun vs H2 _ h' => ⟨h'.one, h⟩) hg hdb hs hpl
theorem ev_offs (g : GDef X "offs" k f fd ps spOffs) (ha : Ev X σ H a (Da (rowsD rows))) (h : RowsK rows) (hg : Gl X "offs" := by rfl) (hs : starEach [a] X.env = (false, eval a X.env) :: starEach [] X.env := by rfl) (hpl : (backTo p (starEach [] X.env)).any (·.1) = false := by rfl) : Ev X σ H (.Call (.Name "offs" q) [a] [] p) (Da (.tuple (rows.map fun l => qd (gap l)))) := ev_rows g ha h hg (by decide) hs hpl
theorem ev_bal (g : GDef X "balances" k f fd ps spBal) (ha : Ev X σ H a (Da (rowsD rows))) (h : RowsK rows) (hg : Gl X "balances" := by rfl) (hs : starEach [a] X.env = (false, eval a X.env) :: starEach [] X.env := by rfl) (hpl : (backTo p (starEach [] X.env)).any (·.1) = false := by rfl) : Ev X σ H (.Call (.Name "balances" q) [a] [] p) (Da (.tuple [qd (aheadR rows), qd (behindR rows), qd (endedR rows)])) := ev_rows g ha h hg (by decide) hs hpl
theorem ev_close (g : GDef X "is_close_state" k f fd ps spClose) (ha : Ev X σ H a (Da (rowsD rows))) (h : RowsK rows) (hg : Gl X "is_close_state" := by rfl) (hs : starEach [a] X.env = (false, eval a X.env) :: starEach [] X.env := by rfl) (hpl : (backTo p (starEach [] X.env)).any (·.1) = false := by rfl) : Ev X σ H (.Call (.Name "is_close_state" q) [a] [] p) (Is (.bl (near rows))) := ev_rows g ha h hg (by decide) hs hpl
theorem ev_open (g : GDef X "is_open" k f fd ps spOpen) (ha : Ev X σ H a (Da (rowsD rows))) (h : RowsK rows) (hg : Gl X "is_open" := by rfl) (hs : starEach [a] X.env = (false, eval a X.env) :: starEach [] X.env := by rfl) (hpl : (backTo p (starEach [] X.env)).any (·.1) = false := by rfl) : Ev X σ H (.Call (.Name "is_open" q) [a] [] p) (Is (.bl (free rows))) := ev_rows g ha h hg (by decide) hs hpl
theorem ev_isR {z : Int} {r : Rat} (g : GDef X "is_rounded" k f fd ps spIsR) (ha : Ev X σ H a (Is (.int z))) (hb : Ev X σ H b (Da (qd r))) (h1 : Bd 2000 r) (hg : Gl X "is_rounded" := by rfl) (hs : starEach [a, b] X.env = (false, eval a X.env) :: starEach [b] X.env := by rfl) (hs' : starEach [b] X.env = (false, eval b X.env) :: starEach [] X.env := by rfl)
    (hpl : (backTo p (starEach [b] X.env)).any (·.1) = false := by rfl) : Ev X σ H (.Call (.Name "is_rounded" q) [a, b] [] p) (Is (.bl (btw z r))) := ev_callP (z, r) g (ea_2 ha mono_is hb mono_da hs hs') (fun vs H2 _ h => by
  obtain ⟨v, w, rfl, e, hw⟩ := h.two
  obtain rfl : v = .int z := e
  exact ⟨⟨w, rfl, hw⟩, h1⟩) hg (by decide) hs hpl
end
section
variable {P : Program} {w : World} {K : PySem.W.Frag} {mg : Str → Option Value} {base : Heap}
theorem ok_offs {f : Addr} {fd : FuncData} (F : Fun K "offs" "offs" sOffs f fd) (LL : LD P w K mg base "pair_less" 3 ["one", "other"] (spQ2 fun r q => r - q)) (zt : mg "tuple" = none) : FnOk P w K mg base CX0 4 f fd ["state"] spOffs := by
  refine F.ok scOffs (fun vs H Q E h => ?_) (fun cdv A outer s H vs Q E hr h => ?_)
  · obtain ⟨d, ⟨⟨v, rfl, _⟩, _⟩, _⟩ := h
    rfl
  · obtain ⟨rows, ⟨⟨v, rfl, hv⟩, ok⟩, k⟩ := h
    obtain ⟨fL, fdL, GL⟩ := LD.g (X := (cxOf CX0 P w K mg base NOf "offs" (defScope sOffs) f cdv A outer s H E).nox) LL hr (by decide)
    have hl := ok.1
    refine ⟨_, pw_B, b_retE (ev_tupleL zt (ds := rows.map fun l => qd (gap l)) (fun H1 s1 => w_E (pe_lc (own := [("_", 1), ("exact", 2), ("cents", 3)]) (g := gTup K 4 (gCons (gName 1) (gCons (gName 2) (gCons (gName 3) (gCons (gName 1) gNil))))) (tt := tYes) rfl scOffs.nd (pi_tup pw_E) (blkOk_by (N := NOf) (sc := defScope sOffs) (by decide +kernel)) (fun _ _ _ _ _ => pg_tup rfl (pgs_cons (pg_name (i := 1) scOffs.nd rfl (Or.inl rfl)) (pgs_cons (pg_name (i := 2) scOffs.nd rfl (Or.inl rfl)) (pgs_cons (pg_name (i := 3) scOffs.nd rfl (Or.inl rfl)) (pgs_cons (pg_name (i := 1) scOffs.nd rfl (Or.inl rfl)) pgs_nil))))) (fun _ _ _ _ _ => pts_nil) pw_Eb) (rd_lc4 (as := rows) (e1 := fun l : Ln => PyData.str l.nm) (e2 := fun l : Ln => qd l.ex) (e3 := fun l : Ln => PyData.int l.ct) (e4 := fun l : Ln => PyData.bool l.on) (teok_ev (ev_v (pv 0) rfl (mono_da _ _ _ s1 hv) mono_da)) (by omega) ?_ fun v H' s h => ⟨s, h⟩))) fun v H' s h => k v H' s h⟩
    intro l v1 v2 v3 v4 H' hm sx t2 t3
    refine teok_of fun s' H0 C cl fp => ?_
    obtain rfl := t3.int
    have hb := ok.2 l hm
    refine ev_less (gdef_blk GL) (r := (l.ct : Rat)) ?_ (ev_v (pv 2) rfl t2 mono_da) ((bd_int hb.2.2.2 (by decide)).mono (by decide)) (hb.2.2.1.mono (by decide))
    rw [qd_int]
    exact ev_tupD (ds := [.int l.ct, .int 1]) (ed_cons (Ev.int (ev_vi (pv 3) rfl)) (ed_cons (Ev.int (ev_c pe_int)) ed_nil)) (by show 2 ≤ 1000; decide)
theorem ok_isR {f : Addr} {fd : FuncData} (F : Fun K "is_rounded" "is_rounded" sIsRounded f fd) (LDn : LD P w K mg base "rounded_down" 1 ["pair"] spDn) (LU : LD P w K mg base "rounded_up" 1 ["pair"] spUp) : FnOk P w K mg base CX0 2 f fd ["cents", "exact"] spIsR := by
  refine F.ok scIsR (fun vs H Q E h => ?_) (fun cdv A outer s H vs Q E hr h => ?_)
  · obtain ⟨d, ⟨⟨v, rfl, _⟩, _⟩, _⟩ := h
    rfl
  · obtain ⟨⟨z, r⟩, ⟨⟨v, rfl, hv⟩, hb⟩, k⟩ := h
    dsimp only at hv hb k ⊢
    obtain ⟨fD, fdD, GD⟩ := LD.g (X := (cxOf CX0 P w K mg base ["cents", "exact"] "is_rounded" (defScope sIsRounded) f cdv A outer s H E).nox) LDn hr (by decide)
    obtain ⟨fU, fdU, GU⟩ := LD.g (X := (cxOf CX0 P w K mg base ["cents", "exact"] "is_rounded" (defScope sIsRounded) f cdv A outer s H E).nox) LU hr (by decide)
    exact ⟨_, pw_B, b_retE (ev_chainI op_le op_le (ev_dn GD (ev_v (pv 1) rfl hv mono_da) hb) (ev_vi (pv 0) rfl) (ev_up GU (ev_v (pv 1) rfl hv mono_da) hb)) fun v H' s h => k v H' s h⟩
theorem ok_close {f : Addr} {fd : FuncData} (F : Fun K "is_close_state" "is_close_state" sIsClose f fd) (LR : LD P w K mg base "is_rounded" 2 ["cents", "exact"] spIsR) (LT : LD P w K mg base "pair_total" 3 ["pairs"] spTot) (za : mg "all" = none) (zs : mg "sum" = none) : FnOk P w K mg base CX0 4 f fd ["state"] spClose := by
  refine F.ok scClose (fun vs H Q E h => ?_) (fun cdv A outer s H vs Q E hr h => ?_)
  · obtain ⟨d, ⟨⟨v, rfl, _⟩, _⟩, _⟩ := h
    rfl
  · obtain ⟨rows, ⟨⟨v, rfl, hv⟩, ok⟩, k⟩ := h
    obtain ⟨fR, fdR, GR⟩ := LD.g (X := (cxOf CX0 P w K mg base NCl "is_close_state" (defScope sIsClose) f cdv A outer s H E).nox) LR hr (by decide)
    obtain ⟨fT, fdT, GT⟩ := LD.g (X := (cxOf CX0 P w K mg base NCl "is_close_state" (defScope sIsClose) f cdv A outer s H E).nox) LT hr (by decide)
    have hl := ok.1
    refine ⟨_, pw_B, ?_⟩
    refine b_ifE (k := !((rows.map fun l => btw l.ct l.ex).all id)) (et_not (et_v (ev_all rfl za ?_))) (fun hk H1 s1 => ?_) (fun hk H1 s1 => b_nil ?_)
    · rw [List.map_map]
      refine fun H1 s1 => w_E (pe_lc (own := [("_", 1), ("exact", 2), ("cents", 3)]) (g := gTup K 4 (gCons (gName 1) (gCons (gName 2) (gCons (gName 3) (gCons (gName 1) gNil))))) (tt := tYes) rfl scClose.nd (pi_tup pw_E) (blkOk_by (N := NCl) (sc := defScope sIsClose) (by decide +kernel)) (fun _ _ _ _ _ => pg_tup rfl (pgs_cons (pg_name (i := 1) scClose.nd rfl (Or.inl rfl)) (pgs_cons (pg_name (i := 2) scClose.nd rfl (Or.inl rfl)) (pgs_cons (pg_name (i := 3) scClose.nd rfl (Or.inl rfl)) (pgs_cons (pg_name (i := 1) scClose.nd rfl (Or.inl rfl)) pgs_nil))))) (fun _ _ _ _ _ => pts_nil) pw_Eb) (rd_lc4 (as := rows) (e1 := fun l : Ln => PyData.str l.nm) (e2 := fun l : Ln => qd l.ex) (e3 := fun l : Ln => PyData.int l.ct) (e4 := fun l : Ln => PyData.bool l.on) (teok_ev (ev_v (pv 0) rfl (mono_da _ _ _ s1 hv) mono_da)) (by omega) ?_ fun v H' s h => ⟨s, h⟩)
      intro l v1 v2 v3 v4 H' hm sx t2 t3
      refine teok_of fun s' H0 C cl fp => ?_
      obtain rfl := t3.int
      exact Ev.bool (ev_isR (gdef_blk GR) (ev_vi (pv 3) rfl) (ev_v (pv 2) rfl t2 mono_da) ((ok.2 l hm).2.2.1.mono (by decide)))
    · refine b_retE (ev_c pe_bl) fun v H2 s2 e => ?_
      cases e
      refine k _ H2 (s1.trans s2) ?_
      show V.bl false = V.bl (near rows)
      unfold near
      have z : (rows.all fun l => btw l.ct l.ex) = false := by
        rw [List.all_map] at hk
        cases e : rows.all (fun l => btw l.ct l.ex) with
        | false => rfl
        | true =>
          rw [show (rows.all (id ∘ fun l => btw l.ct l.ex)) = rows.all (fun l => btw l.ct l.ex) from rfl, e] at hk
          cases hk
      rw [z, Bool.false_and]
    · have z : (rows.all fun l => btw l.ct l.ex) = true := by
        rw [List.all_map] at hk
        cases e : rows.all (fun l => btw l.ct l.ex) with
        | true => rfl
        | false =>
          rw [show (rows.all (id ∘ fun l => btw l.ct l.ex)) = rows.all (fun l => btw l.ct l.ex) from rfl, e] at hk
          cases hk
      have hv1 := mono_da _ _ _ s1 hv
      refine b_retE (ev_isR GR (ev_sum (ns := rows.map fun l => l.ct) rfl zs ?_) (ev_tot GT (rs := rows.map fun l => l.ex) ?_ (ex_ok ok).1 (Nat.le_trans (ex_ok ok).2 (by decide))) ((bd_sum8 (ex_ok ok).1 (ex_ok ok).2).mono (by decide))) fun v H2 s2 h => k v H2 (s1.trans s2) ?_
      · rw [List.map_map]
        exact ev_mT (enc := ld) (as := rows) (i := 4) rfl scClose.nd (blkOk_by (N := NCl) (sc := defScope sIsClose) (by decide +kernel)) (fun _ _ _ _ _ => pg_name (i := 4) scClose.nd rfl (Or.inl rfl)) (ev_v (pv 0) rfl hv1 mono_da) (by omega) fun l v H' hm sx td s' H0 C cl fp => ev_ixD (j := 2) (ev_v (pv 4) rfl td mono_da) (ev_c pe_int) rfl
      · rw [List.map_map]
        exact ev_mT (enc := ld) (as := rows) (i := 4) rfl scClose.nd (blkOk_by (N := NCl) (sc := defScope sIsClose) (by decide +kernel)) (fun _ _ _ _ _ => pg_name (i := 4) scClose.nd rfl (Or.inl rfl)) (ev_v (pv 0) rfl hv1 mono_da) (by omega) fun l v H' hm sx td s' H0 C cl fp => ev_ixD (j := 1) (ev_v (pv 4) rfl td mono_da) (ev_c pe_int) rfl
      · have h : v = .bl (btw (rows.map fun l => l.ct).sum (sumQ (rows.map fun l => l.ex))) := h
        show v = .bl (near rows)
        unfold near
        rw [z, Bool.true_and]
        exact h
end
end Kn

namespace Kn
open PySem PySem.Spec PyProof.Rows L2 Cb
theorem wA_two {X : Cx} {σ : L2.St} {H : Hp} {a b : Expr} {Pa Pb : Pd} {R : List V → Hp → Prop} (ha : Ev X σ H a Pa) (ma : Mono Pa) (hb : Ev X σ H b Pb) (mb : Mono Pb) (kk : ∀ v w H', Same H H' → Pa v H' → Pb w H' → R [v, w] H') (hs : starEach [a, b] X.env = (false, eval a X.env) :: starEach [b] X.env := by rfl) (hs' : starEach [b] X.env = (false, eval b X.env) :: starEach [] X.env := by rfl) : wA X [a, b] σ H R :=
  wA_mono ((ea_2 ha ma hb mb hs hs') H (.refl _)) fun vs H' ⟨s, pv⟩ => by
    obtain ⟨v, w, rfl, h1, h2⟩ := pv.two
    exact kk v w H' s h1 h2
theorem ev_const {X : Cx} {σ : L2.St} {H : Hp} {x : Str} {a : Addr} {xs : List V} {pos : Pos} (hm : X.mg x = some (.ref a)) (hN : ∀ H, SqT X.K H a xs) (hg : Gl X x := by rfl) (hd : (x == ("__debug__" : Str)) = false := by decide) : Ev X σ H (.Name x pos) (SqP X.K xs) :=
  (ev_c (v := .ref a) (pe_glob hg hm rfl hd)).imp fun v H' _ e => ⟨a, e, hN H'⟩
theorem all_qd {rows : List Ln} : (rows.filter fun l => l.on).map (fun l => qd (gap l)) = (going rows).map qd := by
  unfold going
  rw [List.map_map]
  rfl
theorem four_bd {rows : List Ln} (h : RowsK rows) : ∀ r ∈ four rows, Bd 2000 r := by
  intro r hr
  have a := bd_ahead h
  have b := bd_behind h
  have e := bd_ended h
  unfold four at hr
  rcases List.mem_cons.mp hr with rfl | hr
  · exact a.mono (by decide)
  rcases List.mem_cons.mp hr with rfl | hr
  · exact b.mono (by decide)
  rcases List.mem_cons.mp hr with rfl | hr
  · exact (bd_add a e).mono (by decide)
  rw [List.mem_singleton.mp hr, Rat.sub_eq_add_neg]
  exact (bd_add b (bd_neg e)).mono (by decide)
section
variable {P : Program} {w : World} {K : PySem.W.Frag} {mg : Str → Option Value} {base : Heap}
theorem ok_bal {f aN : Addr} {fd : FuncData} (F : Fun K "balances" "balances" sBalances f fd) (LO : LD P w K mg base "offs" 4 ["state"] spOffs) (LT : LD P w K mg base "pair_total" 3 ["pairs"] spTot) (LB : LD P w K mg base "is_below" 1 ["one", "other"] (spBelow K)) (LN : LD P w K mg base "pair_turned" 1 ["pair"] spTurned)
    (gN : mg "NO_CENTS" = some (.ref aN)) (hN : ∀ H, SqT K H aN [.int 0, .int 1]) (zz : mg "zip" = none) : FnOk P w K mg base CX0 5 f fd ["state"] spBal := by
  refine F.ok scBal (fun vs H Q E h => ?_) (fun cdv A outer s H vs Q E hr h => ?_)
  · obtain ⟨d, ⟨⟨v, rfl, _⟩, _⟩, _⟩ := h
    rfl
  · obtain ⟨rows, ⟨⟨v, rfl, hv⟩, ok⟩, k⟩ := h
    obtain ⟨fO, fdO, GO⟩ := LD.g (X := (cxOf CX0 P w K mg base NBa "balances" (defScope sBalances) f cdv A outer s H E).nox) LO hr (by decide)
    obtain ⟨fT, fdT, GT⟩ := LD.g (X := (cxOf CX0 P w K mg base NBa "balances" (defScope sBalances) f cdv A outer s H E).nox) LT hr (by decide)
    obtain ⟨fB, fdB, GB⟩ := LD.g (X := (cxOf CX0 P w K mg base NBa "balances" (defScope sBalances) f cdv A outer s H E).nox) LB hr (by decide)
    obtain ⟨fN, fdN, GN⟩ := LD.g (X := (cxOf CX0 P w K mg base NBa "balances" (defScope sBalances) f cdv A outer s H E).nox) LN hr (by decide)
    have hl := ok.1
    have go := going_ok ok
    have en := ended_ok ok
    refine ⟨_, pw_B, ?_⟩
    -- going
    refine b_cons (w_S (ps_setLc (i := 1) (own := [("off", 5), ("line", 6)]) (g := gTup K 2 (gCons (gName 5) (gCons (gName 6) gNil))) rfl scBal.nd rfl rfl rfl (RZ.pi_zipA (by rfl) zz pw_A) (blkOk_by (N := NBa) (sc := defScope sBalances) (by decide +kernel)) (fun _ _ _ _ _ => pg_tup rfl (pgs_cons (pg_name (i := 5) scBal.nd rfl (Or.inl rfl)) (pgs_cons (pg_name (i := 6) scBal.nd rfl (Or.inl rfl)) pgs_nil))) pw_Tb pw_Eb) ?_)
    refine rd_lcZ (as := rows) (e1 := fun l => qd (gap l)) (e2 := ld) (p := fun l => l.on) (f := fun l => qd (gap l)) (fun R kk => wA_two (ev_offs GO (ev_v (pv 0) rfl hv mono_da) ok) mono_da (ev_v (pv 0) rfl hv mono_da) mono_da fun a b H' s ha hb => kk a b H' s ha hb) (by omega) (fun l v1 v2 H' hm sx t1 t2 => ttok_of fun s' H0 C cl fp => et_v (Ev.ofBool (ev_ixD (j := 3) (ev_v (pv 6) rfl t2 mono_da) (ev_c pe_int) rfl))) (fun l v1 v2 H' hm hp sx t1 t2 => teok_of fun s' H0 C cl fp => ev_v (pv 5) rfl t1 mono_da) fun v1 H1 s1 h1 => ?_
    rw [all_qd] at h1
    -- ahead, behind, ended
    refine b_setE (i := 2) scBal.nd rfl (.inl rfl) (ev_tot GT (rs := (going rows).filter fun g => decide (0 < g)) (ev_fL (enc := qd) (as := going rows) (p := fun g => decide (0 < g)) (f := qd) (i := 5) rfl scBal.nd (blkOk_by (N := NBa) (sc := defScope sBalances) (by decide +kernel)) (fun _ _ _ _ _ => pg_name (i := 5) scBal.nd rfl (Or.inl rfl)) (ev_v (pv 1) rfl h1 mono_lstD) (by omega) (fun g v H' hm sx td s' H0 C cl fp => et_v (ev_below (r := 0) (gdef_blk GB) (ev_const gN hN) (Ev.qi (ev_v (pv 5) rfl td mono_da)) ⟨by decide, by decide⟩ ((go.1 g hm).mono (by decide)))) (fun g v H' hm hp sx td s' H0 C cl fp => ev_v (pv 5) rfl td mono_da)) (fun r hr => go.1 r (List.mem_filter.mp hr).1) (Nat.le_trans (List.length_filter_le _ _) (by omega))) fun v2 H2 s2 h2 => ?_
    have h12 := mono_lstD _ _ _ s2 h1
    refine b_setE (i := 3) scBal.nd rfl (.inl rfl) (ev_tot GT (rs := ((going rows).filter fun g => decide (g < 0)).map fun g => -g) ?_ (fun r hr => by
      obtain ⟨g, hg, rfl⟩ := List.mem_map.mp hr
      exact bd_neg (go.1 g (List.mem_filter.mp hg).1)) (by rw [List.length_map]; exact Nat.le_trans (List.length_filter_le _ _) (by omega))) fun v3 H3 s3 h3 => ?_
    · rw [List.map_map]
      exact ev_fL (enc := qd) (as := going rows) (p := fun g => decide (g < 0)) (f := qd ∘ fun g => -g) (i := 5) rfl scBal.nd (blkOk_by (N := NBa) (sc := defScope sBalances) (by decide +kernel)) (fun _ _ _ _ _ => pg_name (i := 5) scBal.nd rfl (Or.inl rfl)) (ev_v (pv 1) rfl h12 mono_lstD) (by omega) (fun g v H' hm sx td s' H0 C cl fp => et_v (ev_below (s := 0) (gdef_blk GB) (Ev.qi (ev_v (pv 5) rfl td mono_da)) (ev_const gN hN) ((go.1 g hm).mono (by decide)) ⟨by decide, by decide⟩)) (fun g v H' hm hp sx td s' H0 C cl fp => ev_turned (gdef_blk GN) (ev_v (pv 5) rfl td mono_da) ((go.1 g hm).mono (by decide)))
    have s13 := (s1.trans s2).trans s3
    have hv3 := mono_da _ _ _ s13 hv
    refine b_setE (i := 4) scBal.nd rfl (.inl rfl) (ev_tot GT (rs := (rows.filter fun l => !l.on).map gap) (fun HA sA => w_E (pe_lc (own := [("off", 5), ("line", 6)]) (g := gTup K 2 (gCons (gName 5) (gCons (gName 6) gNil))) rfl scBal.nd (RZ.pi_zipA (by rfl) zz pw_A) (blkOk_by (N := NBa) (sc := defScope sBalances) (by decide +kernel)) (fun _ _ _ _ _ => pg_tup rfl (pgs_cons (pg_name (i := 5) scBal.nd rfl (Or.inl rfl)) (pgs_cons (pg_name (i := 6) scBal.nd rfl (Or.inl rfl)) pgs_nil))) pw_Tb pw_Eb) (rd_lcZ (as := rows) (e1 := fun l => qd (gap l)) (e2 := ld) (p := fun l => !l.on) (f := fun l => qd (gap l)) (fun R kk => wA_two (ev_offs GO (ev_v (pv 0) rfl (mono_da _ _ _ sA hv3) mono_da) ok) mono_da (ev_v (pv 0) rfl (mono_da _ _ _ sA hv3) mono_da) mono_da fun a b H' s ha hb => kk a b H' s ha hb) (by omega) (fun l v1 v2 H' hm sx t1 t2 => ttok_of fun s' H0 C cl fp => et_not (et_v (Ev.ofBool (ev_ixD (j := 3) (ev_v (pv 6) rfl t2 mono_da) (ev_c pe_int) rfl)))) (fun l v1 v2 H' hm hp sx t1 t2 => teok_of fun s' H0 C cl fp => ev_v (pv 5) rfl t1 mono_da) fun v1 H1 s1 h1 => ⟨s1, ?_⟩)) en.1 (Nat.le_trans en.2 (by decide))) fun v4 H4 s4 h4 => ?_
    · rw [List.map_map]
      exact h1
    refine b_retE (ev_tupD (ds := [qd (aheadR rows), qd (behindR rows), qd (endedR rows)]) (ed_cons (ev_v (pv 2) rfl (mono_da _ _ _ (s3.trans s4) h2) mono_da) (ed_cons (ev_v (pv 3) rfl (mono_da _ _ _ s4 h3) mono_da) (ed_cons (ev_v (pv 4) rfl h4 mono_da) ed_nil))) (by show 3 ≤ 1000; decide)) fun v5 H5 s5 h5 => k v5 H5 ((s13.trans s4).trans s5) h5
theorem ok_open {f aO : Addr} {fd : FuncData} (F : Fun K "is_open" "is_open" sIsOpen f fd) (LBa : LD P w K mg base "balances" 5 ["state"] spBal) (LS : LD P w K mg base "pair_sum" 2 ["one", "other"] (spQ2 fun r q => r + q)) (LL : LD P w K mg base "pair_less" 3 ["one", "other"] (spQ2 fun r q => r - q)) (LC : LD P w K mg base "is_close_state" 4 ["state"] spClose) (LB : LD P w K mg base "is_below" 1 ["one", "other"] (spBelow K))
    (gO : mg "ONE_CENT" = some (.ref aO)) (hO : ∀ H, SqT K H aO [.int 1, .int 1]) (za : mg "all" = none) : FnOk P w K mg base CX0 6 f fd ["state"] spOpen := by
  refine F.ok scOpen (fun vs H Q E h => ?_) (fun cdv A outer s H vs Q E hr h => ?_)
  · obtain ⟨d, ⟨⟨v, rfl, _⟩, _⟩, _⟩ := h
    rfl
  · obtain ⟨rows, ⟨⟨v, rfl, hv⟩, ok⟩, k⟩ := h
    obtain ⟨fA, fdA, GA⟩ := LD.g (X := (cxOf CX0 P w K mg base NOp "is_open" (defScope sIsOpen) f cdv A outer s H E).nox) LBa hr (by decide)
    obtain ⟨fS, fdS, GS⟩ := LD.g (X := (cxOf CX0 P w K mg base NOp "is_open" (defScope sIsOpen) f cdv A outer s H E).nox) LS hr (by decide)
    obtain ⟨fL, fdL, GL⟩ := LD.g (X := (cxOf CX0 P w K mg base NOp "is_open" (defScope sIsOpen) f cdv A outer s H E).nox) LL hr (by decide)
    obtain ⟨fC, fdC, GC⟩ := LD.g (X := (cxOf CX0 P w K mg base NOp "is_open" (defScope sIsOpen) f cdv A outer s H E).nox) LC hr (by decide)
    obtain ⟨fB, fdB, GB⟩ := LD.g (X := (cxOf CX0 P w K mg base NOp "is_open" (defScope sIsOpen) f cdv A outer s H E).nox) LB hr (by decide)
    have ba := bd_ahead ok
    have bb := bd_behind ok
    have be := bd_ended ok
    refine ⟨_, pw_B, ?_⟩
    refine b_asgE (pg_tup rfl (pgs_cons (pg_name (i := 1) scOpen.nd rfl (.inl rfl)) (pgs_cons (pg_name (i := 2) scOpen.nd rfl (.inl rfl)) (pgs_cons (pg_name (i := 3) scOpen.nd rfl (.inl rfl)) pgs_nil)))) (ev_bal GA (ev_v (pv 0) rfl hv mono_da) ok) fun u H1 s1 hu => ?_
    obtain ⟨q, xs, rfl, hq, t⟩ := Td.un hu
    obtain ⟨x1, r1, rfl, t1, t⟩ := t.un
    obtain ⟨x2, r2, rfl, t2, t⟩ := t.un
    obtain ⟨x3, r3, rfl, t3, t⟩ := t.un
    obtain rfl := t.nil'
    refine ⟨q, _, rfl, .of hq, rfl, _, _, rfl, _, _, rfl, _, _, rfl, rfl, ?_⟩
    refine b_setE (i := 4) scOpen.nd rfl (.inl rfl) (ev_tupD (ds := (four rows).map qd) (ed_cons (ev_v (pv 1) rfl t1 mono_da) (ed_cons (ev_v (pv 2) rfl t2 mono_da) (ed_cons (ev_q2 GS (ev_v (pv 1) rfl t1 mono_da) (ev_v (pv 3) rfl t3 mono_da) (ba.mono (by decide)) (be.mono (by decide))) (ed_cons (ev_less GL (ev_v (pv 2) rfl t2 mono_da) (ev_v (pv 3) rfl t3 mono_da) (bb.mono (by decide)) (be.mono (by decide))) ed_nil)))) (by show 4 ≤ 1000; decide)) fun v2 H2 s2 h2 => ?_
    have hv2 := mono_da _ _ _ (s1.trans s2) hv
    refine b_retE (ev_and (ev_close GC (ev_v (pv 0) rfl hv2 mono_da) ok) fun _ => ev_and1 (ev_all (bs := (four rows).map fun r => decide (r < 1)) rfl za ?_)) fun v3 H3 s3 h3 => k v3 H3 ((s1.trans s2).trans s3) ?_
    · rw [List.map_map]
      exact ev_mT (enc := qd) (as := four rows) (f := PyData.bool ∘ fun r => decide (r < 1)) (i := 5) rfl scOpen.nd (blkOk_by (N := NOp) (sc := defScope sIsOpen) (by decide +kernel)) (fun _ _ _ _ _ => pg_name (i := 5) scOpen.nd rfl (Or.inl rfl)) (ev_v (pv 4) rfl h2 mono_da) (by show 4 ≤ 1000; decide) fun r v H' hm sx td s' H0 C cl fp => Ev.bool (ev_below (s := 1) (gdef_blk GB) (Ev.qi (ev_v (pv 5) rfl td mono_da)) (ev_const gO hO) (four_bd ok r hm) ⟨by decide, by decide⟩)
    · have h3 : v3 = .bl (near rows && ((four rows).map fun r => decide (r < 1)).all id) := h3
      rw [List.all_map] at h3
      exact h3
end
end Kn

namespace Kn
open PySem PySem.Spec PyProof.Rows L2 Cb
/-! ### the law's stream and its draws: at most N of them so far -/
def RdN (d c : Addr) (N : Nat) (H : Hp) : Prop := ∃ (ns : List Int) (nx rs dr : Int), H d = some (.dK (kw4 (.ref c) (.int nx) (.int rs) (.int dr))) ∧ H c = some (.lst (ns.map V.int)) ∧ 0 ≤ dr ∧ dr ≤ (N : Int)
theorem RdN.rd {d c : Addr} {N : Nat} {H : Hp} (r : RdN d c N H) : Rd d c H := let ⟨ns, nx, rs, dr, h1, h2, _⟩ := r; ⟨ns, nx, rs, dr, h1, h2⟩
theorem RdN.same {d c : Addr} {N : Nat} {H H' : Hp} (r : RdN d c N H) (s : Same H H') : RdN d c N H' := let ⟨ns, nx, rs, dr, h1, h2, h3⟩ := r; ⟨ns, nx, rs, dr, s _ _ h1, s _ _ h2, h3⟩
theorem RdN.le {d c : Addr} {N M : Nat} {H : Hp} (r : RdN d c N H) (h : N ≤ M) : RdN d c M H := let ⟨ns, nx, rs, dr, h1, h2, h3, h4⟩ := r; ⟨ns, nx, rs, dr, h1, h2, h3, by omega⟩
theorem RdN.put {d c S : Addr} {N : Nat} {H : Hp} {o o' : HO} (r : RdN d c N H) (h : H S = some o) (n : ∀ kvs, o ≠ .dK kvs) (nc : S ≠ c) : RdN d c N (upd H S o') := by
  obtain ⟨ns, nx, rs, dr, hd, hc, h3⟩ := r
  have nd : d ≠ S := fun e => by
    rw [e, h] at hd
    cases hd
    exact n _ rfl
  exact ⟨ns, nx, rs, dr, by rw [upd_ne nd]; exact hd, by rw [upd_ne nc.symm]; exact hc, h3⟩
def spStream (K : PySem.W.Frag) : Sp := fun vs H Q _ => ∃ (a : Addr) (ns : List Int), vs = [.ref a] ∧ SqL K H a (ns.map V.int) ∧ ∀ d c H', Same H H' → RdN d c 0 H' → H d = none → Q (.ref d) H'
def spDrawN : Sp := fun vs H Q _ => ∃ (d c : Addr) (N : Nat) (m : Int), vs = [.ref d, .int m] ∧ 0 < m ∧ m < 1000000000000 ∧ N ≤ 5000 ∧ RdN d c N H ∧ ∀ z H', 0 ≤ z → z < m → KeepX d H H' → RdN d c (N + 1) H' → Q (.int z) H'
theorem divM {o m : Int} (h0 : 0 < m) (hm : m < 1000000000000) : CDivA o m := .inl ⟨h0, Nat.lt_trans (PySem.Flt.log2_lt_of (k := 40) (by decide) (Nat.lt_trans (by omega : m.natAbs < 1000000000000) (by decide))) (by decide)⟩
theorem mod_at {ns : List Int} {i : Int} (h : ns ≠ []) : ∃ z, atI (ns.map V.int) (i % ((ns.map V.int).length : Int)) = some (.int z) := by
  have hl : 0 < (ns.map V.int).length := by
    rw [List.length_map]
    exact List.length_pos_iff.mpr h
  have h0 : 0 ≤ i % ((ns.map V.int).length : Int) := Int.emod_nonneg _ (by omega)
  have h1 : i % ((ns.map V.int).length : Int) < ((ns.map V.int).length : Int) := Int.emod_lt_of_pos _ (by omega)
  obtain ⟨j, ej⟩ := Int.eq_ofNat_of_zero_le h0
  rw [ej] at h1 ⊢
  have hj : j < ns.length := by
    rw [List.length_map] at h1
    omega
  exact ⟨ns[j], atI_nat (by rw [List.getElem?_map, List.getElem?_eq_getElem hj]; rfl)⟩
theorem mod_bd {x m : Int} (h : 0 < m) : 0 ≤ x % m ∧ x % m < m := ⟨Int.emod_nonneg _ (by omega), Int.emod_lt_of_pos _ h⟩
theorem p64 : (2 : Nat) ^ 64 = 18446744073709551616 := by decide
theorem p64i : (2 : Int) ^ 64 = 18446744073709551616 := by decide
section
variable {P : Program} {w : World} {K : PySem.W.Frag} {mg : Str → Option Value} {base : Heap}
theorem scStream : FnScope ["_law_script"] ["_law_script"] (defScope sStream) := ⟨rfl, rfl, rfl, by decide +kernel, rfl, by decide +kernel, by decide +kernel⟩
theorem ok_stream {f : Addr} {fd : FuncData} (F : Fun K "_law_stream" "_law_stream" sStream f fd) (zl : mg "list" = none) : FnOk P w K mg base CX0 1 f fd ["_law_script"] (spStream K) := by
  refine F.ok scStream (fun vs H Q E h => ?_) (fun cdv A outer s H vs Q E hr h => ?_)
  · obtain ⟨a, ns, rfl, _⟩ := h
    rfl
  · obtain ⟨a, ns, rfl, hS, k⟩ := h
    refine ⟨_, pw_B, b_ret (w_E (pe_disp (pps_cons pe_str (pe_callTy call_list_of (by rfl) zl (by decide +kernel) (pa_cons (pe_slice sl_list (pv 0) po_none (po_some pe_int)) pa_nil)) (pps_cons pe_str pe_int (pps_cons pe_str pe_int (pps_cons pe_str pe_int pps_nil)))) (by rfl) (by rfl) (fun z => by cases z) (by decide)) ?_)⟩
    intro d hd
    have hS1 : SqL K (upd H d (.dK [])) a (ns.map V.int) := (same_new hd).seq hS
    refine ⟨.ref a, rfl, 60, rfl, a, _, rfl, hS1, fun p hp => ?_⟩
    have npd : d ≠ p := fun e => by
      rw [← e, upd_same] at hp
      cases hp
    refine ⟨p, _, rfl, .inl (.inl (.inl upd_same)), fun q hq => ?_⟩
    have nqd : d ≠ q := fun e => by
      rw [← e, upd_ne npd, upd_same] at hq
      cases hq
    have nqp : p ≠ q := fun e => by
      rw [← e, upd_same] at hq
      cases hq
    have hp0 : H p = none := by
      rw [upd_ne npd.symm] at hp
      exact hp
    have hq0 : H q = none := by
      rw [upd_ne nqp.symm, upd_ne nqd.symm] at hq
      exact hq
    refine ⟨by rw [upd_ne nqd, upd_ne npd, upd_same], kw4 (.ref q) (.int 0) (.int 0) (.int 0), rfl, by show 4 ≤ 15; decide, ?_⟩
    rw [kw4_merge]
    obtain ⟨xs, hx⟩ : ∃ xs : List Int, cutV (ns.map V.int) none (some 60) = xs.map V.int := by
      unfold cutV
      exact ⟨(ns.drop _).take _, by rw [List.map_take, List.map_drop]⟩
    refine k d q _ (fun b o e => ?_) ⟨xs, 0, 0, 0, upd_same, ?_, by decide, by decide⟩ hd
    · rw [upd_ne (ne_of_none e hd), upd_ne (ne_of_none e hq0), upd_ne (ne_of_none e hp0), upd_ne (ne_of_none e hd)]
      exact e
    · rw [upd_ne nqd.symm, upd_same, hx]
abbrev NDr : List Str := ["_law_rng", "_law_size", "_law_count", "_law_digit", "_law_index", "_law_number", "_law_mixed"]
theorem scDraw : FnScope NDr ["_law_rng", "_law_size"] (defScope sDraw) := ⟨rfl, rfl, rfl, by decide +kernel, rfl, by decide +kernel, by decide +kernel⟩
theorem ok_draw {f : Addr} {fd : FuncData} (F : Fun K "_law_draw" "_law_draw" sDraw f fd) (zl : mg "len" = none) : FnOk P w K mg base CX0 1 f fd ["_law_rng", "_law_size"] spDrawN := by
  refine F.ok scDraw (fun vs H Q E h => ?_) (fun cdv A outer s H vs Q E hr h => ?_)
  · obtain ⟨d, c, N, m, rfl, _⟩ := h
    rfl
  · obtain ⟨d, c, N, m, rfl, h0, hm, hN, ⟨ns, nx, rs, dr, hd, hc, d0, dN⟩, k⟩ := h
    have hu := hu_of hr
    have ncd : c ≠ d := ne_of hc hd (by intro z; cases z)
    refine ⟨_, pw_B, ?_⟩
    -- count
    refine b_setE (i := 2) scDraw.nd rfl (.inl rfl) (ev_opI op_add (ev_dget (k := Md) hu (ev_vi (pv 0) rfl) (ev_c pe_str) hd (kw4_d _ _ _ _)) (ev_c pe_int)) fun _ H0 s0 e => ?_
    cases e
    have hd0 := s0 _ _ hd
    have hc0 := s0 _ _ hc
    refine b_dput (k := Md) hu (ev_vi (pv 2) rfl) (ev_vi (pv 0) rfl) (ev_c pe_str) hd0 (kw4_len _ _ _ _) fun H1 s1 => ?_
    rw [kw4_putD]
    generalize hH2 : upd H1 d (.dK (kw4 (.ref c) (.int nx) (.int rs) (.int (dr + 1)))) = H2
    have hd2 : H2 d = some (.dK (kw4 (.ref c) (.int nx) (.int rs) (.int (dr + 1)))) := by rw [← hH2, upd_same]
    have hc2 : H2 c = some (.lst (ns.map V.int)) := by
      rw [← hH2, upd_ne ncd]
      exact s1 _ _ hc0
    have k2 : KeepX d H H2 := hH2 ▸ ((KeepX.of s0).trans (.of s1)).trans KeepX.put
    clear hH2 hd0 hc0 s1 s0
    generalize hct : dr + 1 = ct at hd2 ⊢
    have c0 : 0 ≤ ct := by omega
    have cN : ct ≤ ((N + 1 : Nat) : Int) := by omega
    have c5 : ct ≤ 5001 := by omega
    clear hct
    -- if rest > 0
    refine b_ifE (CC.et (c_I op_gt (nomark _) (ev_dget (k := Mr) hu (ev_vi (pv 0) rfl) (ev_c pe_str) hd2 (kw4_r _ _ _ _)) (ev_c pe_int))) (fun h H3 s3 => ?_) (fun h H3 s3 => ?_)
    · have hd3 := s3 _ _ hd2
      have hc3 := s3 _ _ hc2
      refine b_setE (i := 3) scDraw.nd rfl (.inl rfl) (ev_opC op_mod (ev_dget (k := Mr) hu (ev_vi (pv 0) rfl) (ev_c pe_str) hd3 (kw4_r _ _ _ _)) (ev_vi (pv 1) rfl) h0) fun _ H4 s4 e => ?_
      cases e
      have hd4 := s4 _ _ hd3
      have hc4 := s4 _ _ hc3
      refine b_dput (k := Mr) hu (ev_opC op_fdivA (ev_dget (k := Mr) hu (ev_vi (pv 0) rfl) (ev_c pe_str) hd4 (kw4_r _ _ _ _)) (ev_vi (pv 1) rfl) (divM h0 hm)) (ev_vi (pv 0) rfl) (ev_c pe_str) hd4 (kw4_len _ _ _ _) fun H5 s5 => ?_
      rw [kw4_putR]
      refine b_retE (ev_vi (pv 3) rfl) fun v H6 s6 e => ?_
      cases e
      refine k _ H6 (Int.emod_nonneg _ (by omega)) (Int.emod_lt_of_pos _ h0) ?_ ⟨ns, nx, _, _, s6 _ _ upd_same, s6 _ _ (by rw [upd_ne ncd]; exact s5 _ _ hc4), c0, cN⟩
      exact (((k2.trans (.of s3)).trans (.of s4)).trans (.of s5)).trans (KeepX.put.trans (.of s6))
    · refine b_nil ?_
      have hd3 := s3 _ _ hd2
      have hc3 := s3 _ _ hc2
      have k3 := k2.trans (.of s3)
      -- index, number
      refine b_par (i := 4) (j := 5) rfl scDraw.nd rfl rfl (by decide) (ev_dget (k := Mn) hu (ev_vi (pv 0) rfl) (ev_c pe_str) hd3 (kw4_n _ _ _ _)) mono_is (ev_c pe_int) mono_is fun v4 v5 H4 s4 e1 e2 => ?_
      cases e1
      cases e2
      have hd4 := s4 _ _ hd3
      have hc4 := s4 _ _ hc3
      refine b_dput (k := Mn) hu (ev_opI op_add (ev_vi (pv 4) rfl) (ev_c pe_int)) (ev_vi (pv 0) rfl) (ev_c pe_str) hd4 (kw4_len _ _ _ _) fun H5 s5 => ?_
      rw [kw4_putN]
      generalize hH6 : upd H5 d (.dK (kw4 (.ref c) (.int (nx + 1)) (.int rs) (.int ct))) = H6
      have hd6 : H6 d = some (.dK (kw4 (.ref c) (.int (nx + 1)) (.int rs) (.int ct))) := by rw [← hH6, upd_same]
      have hc6 : H6 c = some (.lst (ns.map V.int)) := by
        rw [← hH6, upd_ne ncd]
        exact s5 _ _ hc4
      have k6 : KeepX d H H6 := hH6 ▸ ((k3.trans (.of s4)).trans (.of s5)).trans KeepX.put
      clear hH6
      -- number
      refine b_ifJ (fun σ' H' => ∃ z : Int, σ' = [some (.ref d), some (.int m), some (.int ct), none, some (.int nx), some (.int z), none] ∧ Same H6 H') (k := !ns.isEmpty) ?_ (fun h H7 s7 => ?_) (fun h H7 s7 => b_nil ⟨31, rfl, s7⟩) fun σ' H7 ⟨z, e, s7⟩ => ?_
      · exact EvT.is (CC.et (c_neD hr.units (ev_dget (k := Mc) hu (ev_vi (pv 0) rfl) (ev_c pe_str) hd6 (kw4_c _ _ _ _)) (ev_lstI (xs := []) ea_nil (by show 0 ≤ 1000; decide)) mono_is (fun x H' s e => by
          cases e
          exact .lst (.of (s _ _ hc6)) (dp_ints ns)) (fun x H' s ⟨q, e, hq⟩ => by
          subst e
          exact .lst (.of hq) .nil) (shaped_ints ns) rfl)) (by rw [eqv_nil])
      · have hne : ns ≠ [] := by
          intro e
          rw [e] at h
          exact Bool.noConfusion h
        obtain ⟨z, hz⟩ := mod_at (ns := ns) (i := nx) hne
        have hl : (0 : Int) < ((ns.map V.int).length : Int) := by
          rw [List.length_map]
          have := List.length_pos_iff.mpr hne
          omega
        have hd7 := s7 _ _ hd6
        have hc7 := s7 _ _ hc6
        refine b_setE (i := 5) scDraw.nd rfl (.inl rfl) (ev_ixL (ev_dget (k := Mc) hu (ev_vi (pv 0) rfl) (ev_c pe_str) hd7 (kw4_c _ _ _ _)) (ev_opC op_mod (ev_vi (pv 4) rfl) (ev_lenL zl (ev_dget (k := Mc) hu (ev_vi (pv 0) rfl) (ev_c pe_str) hd7 (kw4_c _ _ _ _)) hc7) hl) hc7 hz) fun _ H8 s8 e => ?_
        cases e
        exact b_nil ⟨z, rfl, s7.trans s8⟩
      subst e
      have hd7 := s7 _ _ hd6
      have hc7 := s7 _ _ hc6
      have k7 := k6.trans (.of s7)
      -- if number >= 10 ** 18 and index < len(..)
      refine b_ifE (et_w (ew_and (CC.et (c_I op_ge (nomark _) (ev_vi (pv 5) rfl) (ev_opC op_pow (ev_c pe_int) (ev_c pe_int) ⟨by decide, by decide, by decide⟩))) fun _ => ew_and1 (CC.et (c_I op_lt (nomark _) (ev_vi (pv 4) rfl) (ev_lenL zl (ev_dget (k := Mc) hu (ev_vi (pv 0) rfl) (ev_c pe_str) hd7 (kw4_c _ _ _ _)) hc7))))) (fun h H8 s8 => ?_) (fun h H8 s8 => ?_)
      · have hd8 := s8 _ _ hd7
        have hc8 := s8 _ _ hc7
        refine b_dput (k := Mr) hu (ev_opC op_fdivA (ev_vi (pv 5) rfl) (ev_vi (pv 1) rfl) (divM h0 hm)) (ev_vi (pv 0) rfl) (ev_c pe_str) hd8 (kw4_len _ _ _ _) fun H9 s9 => ?_
        rw [kw4_putR]
        refine b_retE (ev_opC op_mod (ev_vi (pv 5) rfl) (ev_vi (pv 1) rfl) h0) fun v H10 s10 e => ?_
        cases e
        refine k _ H10 (Int.emod_nonneg _ (by omega)) (Int.emod_lt_of_pos _ h0) ?_ ⟨ns, _, _, _, s10 _ _ upd_same, s10 _ _ (by rw [upd_ne ncd]; exact s9 _ _ hc8), c0, cN⟩
        exact ((k7.trans (.of s8)).trans (.of s9)).trans (KeepX.put.trans (.of s10))
      · refine b_nil ?_
        have hd8 := s8 _ _ hd7
        have hc8 := s8 _ _ hc7
        have m1 := mod_bd (x := z) (m := 2147483563) (by decide)
        refine b_setE (i := 6) scDraw.nd rfl (.inl rfl) (ev_opC op_mod (ev_opC op_pow (ev_opI op_add (ev_opI op_add (ev_opC op_mod (ev_vi (pv 5) rfl) (ev_c pe_int) (by decide)) (ev_opC op_mul (ev_c pe_int) (ev_vi (pv 2) rfl) (.inl (by decide)))) (ev_c pe_int)) (ev_c pe_int) ⟨by decide, by decide, by rw [p64]; omega⟩) (ev_c pe_int) (by decide)) fun _ H9 s9 e => ?_
        cases e
        generalize hy : ((z % 2147483563 + 6029 * ct + 17) ^ (3 : Int).toNat) % 2147483647 = y
        have m2 := mod_bd (x := (z % 2147483563 + 6029 * ct + 17) ^ (3 : Int).toNat) (m := 2147483647) (by decide)
        rw [hy] at m2
        clear hy
        have q1 : 32003 * ct * ct ≤ 32003 * 5001 * 5001 := Int.mul_le_mul (by omega) c5 c0 (by omega)
        have q0 : 0 ≤ 32003 * ct * ct := Int.mul_nonneg (by omega) c0
        have hd9 := s9 _ _ hd8
        have hc9 := s9 _ _ hc8
        refine b_setE (i := 6) scDraw.nd rfl (.inl rfl) (ev_opC op_mod (ev_opC op_pow (ev_opI op_add (ev_vi (pv 6) rfl) (ev_opC op_mul (ev_opC op_mul (ev_c pe_int) (ev_vi (pv 2) rfl) (.inl (by decide))) (ev_vi (pv 2) rfl) (.inl ⟨by omega, by omega⟩))) (ev_c pe_int) ⟨by decide, by decide, by rw [p64]; omega⟩) (ev_c pe_int) (by decide)) fun _ H10 s10 e => ?_
        cases e
        refine b_retE (ev_opC op_mod (ev_opC op_fdiv (ev_vi (pv 6) rfl) (ev_c pe_int) ⟨by decide, by decide⟩) (ev_vi (pv 1) rfl) h0) fun v H11 s11 e => ?_
        cases e
        exact k _ H11 (Int.emod_nonneg _ (by omega)) (Int.emod_lt_of_pos _ h0) ((((k7.trans (.of s8)).trans (.of s9)).trans (.of s10)).trans (.of s11)) ⟨ns, _, _, _, s11 _ _ (s10 _ _ hd9), s11 _ _ (s10 _ _ hc9), c0, cN⟩
end
end Kn

/-! set([..]) of ints, sorted -/
namespace Cb
open PySem PySem.Spec PyProof.Rows L2
abbrev eset (w : World) : Obj := { cls := .type "set", dict := none, data := .set #[] 0 (.fresh 0 0 (!w.params.followText "set-order")) }
section
variable {P : Program} {w : World} {A : Around} {E : Value → Shared → Prop} {s : Shared}
/-- what stands behind set(xs), xs the ints ns -/
def Filled (w : World) (s : Shared) (ns : List Int) (s2 : Shared) : Prop := ∃ h' tk c, s2 = { s with heap := h', toks := tk } ∧ SetR w h' s.heap.objs.size (fun j => decide (j ∈ ns)) c ∧ c ≤ ns.length ∧ ∀ b o, s.heap.get? b = some o → h'.get? b = some o
theorem fill_walk {l : Addr} {items : Array Value} (ns : List Int) {R : Result → Shared → Prop} (hh : A.in1.handled = none) (hl : (s.heap.push (eset w)).IsList l items) (lt : l < s.heap.objs.size) (hit : IntsAre items.toList ns) (hb : ns.length + 1 < scanBound) (h : ∀ s2, Filled w s ns s2 → R (.ok (.ret .none)) s2) :
    codeAny (model P w) A (.builtin "set.update.loop" ⟨[.ref s.heap.objs.size, .ref (s.heap.push (eset w)).objs.size], []⟩) R { s with heap := (s.heap.push (eset w)).push { cls := .type "list_iterator", data := .fields #[.ref l, .int 0 0] } } := by
  have z : (s.heap.push (eset w)).objs.size = s.heap.objs.size + 1 := Heap.size_push ..
  have hn : items.size = ns.length := by
    have q := IntsAre.length hit
    rw [Array.length_toList] at q
    exact q
  have off : s.heap.objs.size ∉ [(s.heap.push (eset w)).objs.size, l] := by
    rw [z]
    intro m
    rcases List.mem_cons.mp m with e | m
    · exact absurd e (Nat.ne_of_lt (Nat.lt_succ_self _))
    · exact absurd (List.mem_singleton.mp m) (Nat.ne_of_gt lt)
  refine set_update_ints ((Walks.list hh (s.heap.push (eset w)).objs.size l (by rw [z]; exact Nat.ne_of_lt (Nat.lt_succ_of_lt lt)) items).toS) s.heap.objs.size off ns hn hb (fun i v hv => ?_) (items.size - 0) 0 _ (by omega) (Nat.zero_le _) ⟨⟨_, Heap.get?_push_size _ rfl, rfl, rfl⟩, hl.push _⟩ ⟨0, Nat.le_refl 0, setR_new_at (Heap.get?_push_of_some _ (Heap.get?_push_size _ rfl))⟩ fun s' c hm hc hS => ?_
  · have hi : i < ns.length := by
      rw [← hn]
      exact (Array.getElem?_eq_some_iff.mp hv).1
    obtain ⟨t, e⟩ := IntsAre.int_at hit i v (by rw [Array.getElem?_toList]; exact hv)
    refine ⟨ns[i], t, List.getElem?_eq_getElem hi, ?_⟩
    rw [e, List.getD_eq_getElem?_getD, List.getElem?_eq_getElem hi]
    rfl
  · obtain ⟨h', g2, d', tk', os'⟩ := s'
    obtain rfl : g2 = s.gens := hm.gens
    obtain rfl : d' = s.drawn := hm.drawn
    obtain rfl : os' = s.os := hm.os
    refine h _ ⟨h', tk', c, rfl, hS, by omega, fun b o e => hm.heap b o (fun m => ?_) (Heap.get?_push_of_some _ (Heap.get?_push_of_some _ e))⟩
    have lb := Heap.lt_size e
    rcases List.mem_cons.mp m with q | m
    · exact absurd q (Nat.ne_of_lt lb)
    · exact absurd ((List.mem_singleton.mp m).trans z) (Nat.ne_of_lt (Nat.lt_succ_of_lt lb))
set_option maxHeartbeats 8000000 in
theorem call_setL {l : Addr} {items : Array Value} (ns : List Int) {Q : Value → Shared → Prop} (hh : A.handled = none) (hl : s.heap.IsList l items) (hit : IntsAre items.toList ns) (hb : ns.length + 1 < scanBound) (h : ∀ s2, Filled w s ns s2 → Q (.ref s.heap.objs.size) s2) : wpAny (model P w) A (call (.type "set") [.ref l]) Q E s := by
  obtain ⟨c, tl, hmro⟩ := F.called_set.mro
  have k1 := F.called_set.made
  have k2 := F.called_set.sub
  refine wpAny_call (codeAny_of_tree ?_)
  show wpAny _ _ (callAny (.type "set") _) _ _ _
  refine wpAny_pure ⟨Code.quiet_builtin _ (by decide +kernel), codeAny_builtin F.entry_type_call ?_⟩
  rw [Around.under_plain (weight_type_call_type "set" [.ref l] []) rfl]
  have k3 := F.called_set.notType
  have k4 := F.called_set.canCreate
  have k5 := F.typeCall_set_1 (.ref l)
  repeat (any_goals (first | assumption | wp_step))
  refine codeAny_mono (code_set_led1 (.ref l) (E := E) (Q₁ := fun obj s₁ => obj = .ref s.heap.objs.size ∧ s₁ = { s with heap := s.heap.push (eset w) }) ⟨rfl, rfl⟩) fun r s₁ hr => ?_
  rcases r with e | fl
  · exact hr
  match fl, hr with
  | .ret obj, hr =>
    obtain ⟨rfl, rfl⟩ := hr
    have at0 : (s.heap.push (eset w)).get? s.heap.objs.size = some (eset w) := Heap.get?_push_size _ rfl
    have ty0 : Shared.TypeIs { s with heap := s.heap.push (eset w) } (.ref s.heap.objs.size) "set" := ⟨_, at0, rfl⟩
    have k6 := F.called_set.init.lookup
    have k7 := F.called_set.init.bind (.ref s.heap.objs.size)
    repeat (any_goals (first | assumption | wp_step))
    refine codeAny_mono (codeAny_call_builtin (R := wants (fun r s₂ => r = .none ∧ Filled w s ns s₂) E) F.called_set.init.plain F.entry_set_init (check_set_init_1 ty0 ?_)) fun r₂ s₂ hr₂ => ?_
    · obtain ⟨⟨ocls, odict, odata, oslots⟩, hol, hcl, nl, hdl⟩ := hl
      simp only at hcl hdl
      subst hcl hdl
      have ho : (s.heap.push (eset w)).get? l = some { cls := .type "list", dict := odict, data := .seq items nl, slots := oslots } := Heap.get?_push_of_some _ hol
      have n1 := F.sub_list_set
      have n2 := F.sub_list_frozenset
      have n3 : (Value.type "list" == Value.type "dict") = false := by decide
      have il : (s.heap.push (eset w)).IsList l items := ⟨_, ho, rfl, nl, rfl⟩
      unfold Builtin.«set.__init__» noKeywords Builtin.Frozenset.updateFrom
      generalize hPI : pyIter = PI
      wp_walk
      subst hPI
      refine wpAny_pyIter_list il ?_
      refine wpAny_bind (wpAny_runValue ?_)
      refine fill_walk ns (by simp [hh]) il (Heap.lt_size hol) hit hb fun s2 f => ?_
      show wpAny _ _ _ _ _ _
      refine wpAny_pure ?_
      show wpAny _ _ (ret Value.none) _ _ _
      exact wpAny_pure ⟨rfl, f⟩
    · rcases r₂ with e | fl2
      · exact hr₂
      match fl2, hr₂ with
      | .ret r, hr₂ =>
        obtain ⟨rfl, f⟩ := hr₂
        repeat (any_goals (first | assumption | wp_step))
        exact h _ f
end
/-! over the layer -/
section
variable {X : Cx} {e a b c : Expr} {es : List Expr} {σ : L2.St} {H H' : Hp} {p p' q q' : Pos}
def rSetL (X : Cx) : List V → Hp → VK → Prop := fun vs H Q => ∃ (l : Addr) (ns : List Int), vs = [.ref l] ∧ SqL X.K H l (ns.map V.int) ∧ ns.length ≤ 60 ∧ ∀ c p, c ≤ ns.length → H p = none → Q (.ref p) (upd H p (SetO X.w p (fun j => decide (j ∈ ns)) c))
theorem cr_setL (hc : X.calm = true) : CallR X (.type "set") (rSetL X) := by
  intro pins s σ H xs us Q I r h
  obtain ⟨l, ns, rfl, hq, hl, q⟩ := h
  rw [Vals.ref1 r]
  obtain ⟨its, rv, pl, hz⟩ := I.list hq
  refine call_setL ns (I.ok.hd hc) pl.isList (by simpa using RZ.intsAre_vals rv) (by unfold scanBound; omega) fun s2 ⟨h', tk, c, e, R, hc2, kp⟩ => ?_
  subst e
  exact ⟨.ref _, upd H s.heap.objs.size (SetO X.w s.heap.objs.size (fun j => decide (j ∈ ns)) c), I.laid (t' := tk) kp (Nat.le_refl _) (setO_new R), rfl, q c _ hc2 (I.hok.fresh (Nat.le_refl _))⟩
theorem rising_two {a b : Int} (h : a ≤ b) {l : List Int} (s : l.Pairwise (· < ·)) (m : ∀ k, k ∈ l ↔ k = a ∨ k = b) : l = if a = b then [a] else [a, b] := by
  have nd : l.Nodup := s.imp fun h => Int.ne_of_lt h
  have key : ∀ r : List Int, r.Pairwise (· < ·) → (∀ k, k ∈ r ↔ k = a ∨ k = b) → l = r := fun r sr mr => by
    have p : l.Perm r := (List.perm_ext_iff_of_nodup nd (sr.imp fun h => Int.ne_of_lt h)).mpr fun k => (m k).trans (mr k).symm
    exact p.eq_of_pairwise (fun x y _ _ h1 h2 => Int.le_antisymm h1 h2) (s.imp Int.le_of_lt) (sr.imp Int.le_of_lt)
  by_cases e : a = b
  · subst e
    rw [if_pos rfl]
    exact key [a] (List.pairwise_singleton ..) fun k => by simp
  · rw [if_neg e]
    exact key [a, b] (by simp; omega) fun k => by simp
theorem tds_ints {H : Hp} : ∀ ns : List Int, Tds H (ns.map PyData.int) (ns.map V.int)
  | [] => .nil
  | n :: ns => .cons td_int (tds_ints ns)
/-- sorted(set([a, b])), a not above b -/
theorem ev_sort2 {i j : Int} (hc : X.calm = true) (hs : X.mg "sorted" = none) (ht : X.mg "set" = none) (hij : i ≤ j) (ha : Ev X σ H a (Is (.int i))) (hb : Ev X σ H b (Is (.int j))) (hg : Gl X "sorted" := by rfl) (hg' : Gl X "set" := by rfl)
    (h1 : starEach [a, b] X.env = (false, eval a X.env) :: starEach [b] X.env := by rfl) (h2 : starEach [b] X.env = (false, eval b X.env) :: starEach [] X.env := by rfl) (h3 : starEach [.List [a, b] q'] X.env = (false, eval (.List [a, b] q') X.env) :: starEach [] X.env := by rfl) (h4 : starEach [.Call (.Name "set" q) [.List [a, b] q'] [] p'] X.env = (false, eval (.Call (.Name "set" q) [.List [a, b] q'] [] p') X.env) :: starEach [] X.env := by rfl)
    (l1 : (backTo p' (starEach [] X.env)).any (·.1) = false := by rfl) (l2 : (backTo p (starEach [] X.env)).any (·.1) = false := by rfl) : Ev X σ H (.Call (.Name "sorted" pos) [.Call (.Name "set" q) [.List [a, b] q'] [] p'] [] p) (LstN H ((if i = j then [i] else [i, j]).map PyData.int)) :=
  ev_of (pe_callB (cr_sortedSet hc) hg hs (by decide +kernel) (pa_cons (pe_callTy (cr_setL hc) hg' ht (by decide +kernel) (pa_cons pw_E pa_nil h3) (he := h3) (hpl := l1)) pa_nil h4) (he := h4) (hpl := l2)) fun H1 s1 => by
    refine wE_mono ((ev_lstD (ds := [.int i, .int j]) (ed_cons (Ev.int ha) (ed_cons (Ev.int hb) ed_nil h2) h1) (by show 2 ≤ 1000; decide)) H1 s1) fun v H2 ⟨s2, S, xs, ev, hS, t⟩ => ?_
    subst ev
    have e : xs = [i, j].map V.int := t.ints
    subst e
    refine ⟨S, [i, j], rfl, .of hS, by show 2 ≤ 60; decide, fun c p hc hp => ⟨p, _, c, rfl, upd_same, by have : c ≤ 2 := hc; omega, fun ns T rs mem hl hT => ?_⟩⟩
    have e := rising_two hij rs fun k => (mem k).trans (by simp)
    subst e
    have sp : Same H2 (upd H2 p (SetO X.w p (fun j_1 => decide (j_1 ∈ [i, j])) c)) := same_new hp
    exact ⟨(s2.trans sp).trans (same_new hT), T, _, rfl, none_back ((s1.trans s2).trans sp) hT, upd_same, tds_ints _⟩
end
end Cb

namespace Kn
open PySem PySem.Spec PyProof.Rows L2 Cb
theorem w_drawN {X : Cx} {σ : L2.St} {H : Hp} {a b : Expr} {p q : Pos} {k : Nat} {f : Addr} {fd : FuncData} {ps : List Str} {d c : Addr} {m : Int} {N : Nat} {Q : VK} (g : GDef X "_law_draw" k f fd ps spDrawN) (ha : Ev X σ H a (Is (.ref d))) (hb : Ev X σ H b (Is (.int m))) (r : RdN d c N H) (hN : N ≤ 5000) (h0 : 0 < m) (hm : m < 1000000000000) (kk : ∀ z H', 0 ≤ z → z < m → KeepX d H H' → RdN d c (N + 1) H' → Q (.int z) H')
    (hg : Gl X "_law_draw" := by rfl) (hs : starEach [a, b] X.env = (false, eval a X.env) :: starEach [b] X.env := by rfl) (hs' : starEach [b] X.env = (false, eval b X.env) :: starEach [] X.env := by rfl)
    (hpl : (backTo p (starEach [b] X.env)).any (·.1) = false := by rfl) : wE X (.Call (.Name "_law_draw" q) [a, b] [] p) σ H Q :=
  w_E (pe_call g.ok g.room hg g.gl g.kp g.bs .nil pass0 pw_A (by decide) hs hpl) (wA_mono (ea_2 ha mono_is hb mono_is hs hs' H (.refl _)) fun vs H1 ⟨s1, pv⟩ => by
    cases isTwo pv
    exact ⟨d, c, N, m, rfl, h0, hm, hN, r.same s1, fun z H' z0 z1 k1 r1 => kk z H' z0 z1 ((KeepX.of s1).trans k1) r1⟩)
def spPick : Sp := fun vs H Q _ => ∃ (d c : Addr) (N : Nat) (S : Addr) (xs : List V), vs = [.ref d, .ref S] ∧ H S = some (.lst xs) ∧ 0 < xs.length ∧ xs.length < 1000 ∧ N ≤ 5000 ∧ RdN d c N H ∧ ∀ v H', v ∈ xs → KeepX d H H' → RdN d c (N + 1) H' → Q v H'
theorem scPick : FnScope ["_law_rng", "_law_pool"] ["_law_rng", "_law_pool"] (defScope sPick) := ⟨rfl, rfl, rfl, by decide +kernel, rfl, by decide +kernel, by decide +kernel⟩
def NamesN (H0 : Hp) (n : Nat) : Pd := fun v H => ∃ S names, v = .ref S ∧ H0 S = none ∧ H S = some (.lst (names.map V.str)) ∧ names.length = n ∧ Short names
def spSample : Sp := fun vs H Q _ => ∃ (d c : Addr) (N : Nat) (S : Addr) (pool : List Str) (m : Nat), vs = [.ref d, .ref S, .int (m : Int)] ∧ H S = some (.lst (pool.map V.str)) ∧ Short pool ∧ m ≤ pool.length ∧ pool.length ≤ 60 ∧ N + m ≤ 5000 ∧ RdN d c N H ∧ ∀ v H', KeepX d H H' → RdN d c (N + m) H' → NamesN H m v H' → Q v H'
abbrev NSm : List Str := ["_law_rng", "_law_pool", "_law_size", "_law_rest", "_law_k"]
theorem scSample : FnScope NSm ["_law_rng", "_law_pool", "_law_size"] (defScope sSample) := ⟨rfl, rfl, rfl, by decide +kernel, rfl, by decide +kernel, by decide +kernel⟩
theorem none_keep {d S : Addr} {H H' : Hp} {o : HO} (k : KeepX d H H') (hd : H d = some o) (n : H' S = none) (nd : ∃ o', H' d = some o') : H S = none := by
  cases e : H S with
  | none => rfl
  | some u =>
    by_cases q : S = d
    · obtain ⟨o', h⟩ := nd
      rw [q, h] at n
      cases n
    · rw [k _ _ q e] at n
      cases n
theorem RdN.at {d c : Addr} {N : Nat} {H : Hp} (r : RdN d c N H) : ∃ o, H d = some o := let ⟨_, _, _, _, h, _⟩ := r; ⟨_, h⟩
theorem none_rd {d c S : Addr} {N N' : Nat} {H H' : Hp} (r : RdN d c N H) (k : KeepX d H H') (r' : RdN d c N' H') (n : H' S = none) : H S = none := let ⟨_, h⟩ := r.at; none_keep k h n r'.at
theorem new_c {d c S : Addr} {N : Nat} {H : Hp} (r : RdN d c N H) (n : H S = none) : S ≠ c := fun e => by
  obtain ⟨_, _, _, _, _, hc, _⟩ := r
  rw [← e, n] at hc
  cases hc
section
variable {P : Program} {w : World} {K : PySem.W.Frag} {mg : Str → Option Value} {base : Heap}
theorem ok_pick {f : Addr} {fd : FuncData} (F : Fun K "_law_pick" "_law_pick" sPick f fd) (LDr : LD P w K mg base "_law_draw" 1 ["_law_rng", "_law_size"] spDrawN) (zl : mg "len" = none) : FnOk P w K mg base CX0 2 f fd ["_law_rng", "_law_pool"] spPick := by
  refine F.ok scPick (fun vs H Q E h => ?_) (fun cdv A outer s H vs Q E hr h => ?_)
  · obtain ⟨d, c, N, S, xs, rfl, _⟩ := h
    rfl
  · obtain ⟨d, c, N, S, xs, rfl, hS, l0, l1, hN, rd, k⟩ := h
    obtain ⟨fD, fdD, GD⟩ := LD.g (X := (cxOf CX0 P w K mg base ["_law_rng", "_law_pool"] "_law_pick" (defScope sPick) f cdv A outer s H E).nox) LDr hr (by decide)
    refine ⟨_, pw_B, b_ret (w_ix (w_E (pv 1) ⟨_, rfl, w_drawN GD (ev_vi (pv 0) rfl) (ev_lenL zl (ev_vi (pv 1) rfl) hS) rd hN (by omega) (by omega) fun z H1 z0 z1 k1 rd1 => ?_⟩))⟩
    obtain ⟨j, rfl⟩ := Int.eq_ofNat_of_zero_le z0
    have hj : j < xs.length := by omega
    exact ⟨S, xs, _, _, rfl, rfl, .of (KeepX.lst rd.rd k1 hS), atI_nat (List.getElem?_eq_getElem hj), k _ H1 (List.getElem_mem hj) k1 rd1⟩
theorem ok_sample {f : Addr} {fd : FuncData} (F : Fun K "_law_sample" "_law_sample" sSample f fd) (LDr : LD P w K mg base "_law_draw" 1 ["_law_rng", "_law_size"] spDrawN) (zl : mg "len" = none) (zi : mg "list" = none) (zr : mg "range" = none) : FnOk P w K mg base CX0 2 f fd ["_law_rng", "_law_pool", "_law_size"] spSample := by
  refine F.ok scSample (fun vs H Q E h => ?_) (fun cdv A outer s H vs Q E hr h => ?_)
  · obtain ⟨d, c, N, S, pool, m, rfl, _⟩ := h
    rfl
  · obtain ⟨d, c, N, S, pool, m, rfl, hS, sh, hm, p60, hN, rd, k⟩ := h
    obtain ⟨fD, fdD, GD⟩ := LD.g (X := (cxOf CX0 P w K mg base NSm "_law_sample" (defScope sSample) f cdv A outer s H E).nox) LDr hr (by decide)
    refine ⟨_, pw_B, ?_⟩
    refine b_set (i := 3) scSample.nd rfl (.inr rfl) (w_E (pe_callTy call_list_of (by rfl) zi (by decide +kernel) (pa_cons (pv 1) pa_nil)) ?_)
    refine ⟨_, rfl, S, _, rfl, .inl (SqL.of hS), fun R hR => ?_⟩
    have sR : Same H (upd H R (.lst (pool.map V.str))) := same_new hR
    have hR1 : (upd H R (.lst (pool.map V.str))) R = some (.lst (pool.map V.str)) := upd_same
    have nRc := new_c rd hR
    generalize upd H R (.lst (pool.map V.str)) = H1 at sR hR1 ⊢
    have rd1 := rd.same sR
    refine b_ret (w_E (pe_lc (own := [("_law_k", 4)]) (g := gName 4) (tt := tYes) rfl scSample.nd (pi_range1 (by rfl) zr (pa_cons (pv 2) pa_nil)) (blkOk_by (N := NSm) (sc := defScope sSample) (by decide +kernel)) (fun _ _ _ _ _ => pg_name (i := 4) scSample.nd rfl (Or.inl rfl)) (fun _ _ _ _ _ => pts_nil) pw_Eb) ?_)
    refine ⟨_, rfl, (m : Int), rfl, by omega, by omega, fun M hM => lc_range (lo := 0) (n := ((m : Nat) : Int).toNat) (fun i H' => KeepX d H H' ∧ RdN d c (N + i) H' ∧ ∃ rest names : List Str, H' R = some (.lst (rest.map V.str)) ∧ H' M = some (.lst (names.map V.str)) ∧ rest.length = pool.length - i ∧ names.length = i ∧ Short (rest ++ names)) ?_ ?_ ?_⟩
    · refine ⟨keepX_put (.of sR) (none_back sR hM), ?_, pool, [], ?_, upd_same, rfl, rfl, fun x hx => sh x (by simpa using hx)⟩
      · exact (rd1.same (same_new hM)).le (by omega)
      · exact same_new hM _ _ hR1
    · rintro i H3 hi ⟨k3, rd3, rest, names, h1, h2, l1, l2, sh3⟩
      have hi' : i < m := by
        rw [Int.toNat_natCast] at hi
        exact hi
      have np : 0 < (rest.map V.str).length := by
        rw [List.length_map]
        omega
      have nMR : M ≠ R := fun e => by
        rw [e, hR1] at hM
        cases hM
      have nM : H M = none := none_back sR hM
      refine ⟨wipeD, ?_⟩
      unfold tYes
      dsimp only
      rw [if_pos rfl]
      intro s' H0 C' cl' fp'
      refine w_E (pe_bm PySem.F.plainAttrs_list PySem.F.slot_list_pop PySem.F.type_list_pop mt_popAt (pv 3) (pa_cons pw_E pa_nil)) ?_
      refine ⟨_, rfl, .inl ⟨rfl, _, SqL.of h1⟩, w_drawN (gdef_blk GD) (ev_vi (pv 0) rfl) (ev_lenL zl (ev_vi (pv 3) rfl) h1) rd3 (by omega) (by omega) (by rw [List.length_map]; omega) fun z H4 z0 z1 k4 rd4 => ?_⟩
      obtain ⟨zn, rfl⟩ := Int.eq_ofNat_of_zero_le z0
      have hz : zn < rest.length := by
        rw [List.length_map] at z1
        omega
      have h14 := KeepX.lst rd3.rd k4 h1
      have h24 := KeepX.lst rd3.rd k4 h2
      refine ⟨R, rest.map V.str, (zn : Int), zn, V.str rest[zn], rfl, rfl, h14, by omega, by omega, ?_, ?_, ?_⟩
      · rw [seqIndex_of (by omega) (by rw [List.length_map]; omega), Int.toNat_natCast]
      · rw [List.getElem?_map, List.getElem?_eq_getElem hz]
        rfl
      · have e1 : (rest.map V.str).eraseIdx zn = (rest.eraseIdx zn).map V.str := erase_map _ _
        have rdA : RdN d c (N + (i + 1)) (upd H4 R (.lst ((rest.map V.str).eraseIdx zn))) := RdN.put rd4 h14 (fun _ z => by cases z) nRc
        have h2A : (upd H4 R (.lst ((rest.map V.str).eraseIdx zn))) M = some (.lst (names.map V.str)) := by
          rw [upd_ne nMR]
          exact h24
        refine ⟨names.map V.str, h2A, by rw [List.length_map, l2]; exact small1000 (by omega), ?_, ?_, rest.eraseIdx zn, names ++ [rest[zn]], ?_, ?_, ?_, ?_, ?_⟩
        · exact keepX_put (keepX_put (k3.trans k4) hR) nM
        · exact RdN.put rdA h2A (fun _ z => by cases z) (new_c rd nM)
        · rw [upd_ne nMR.symm, upd_same, e1]
        · rw [upd_same, List.map_append]
          rfl
        · rw [List.length_eraseIdx, if_pos hz]
          omega
        · rw [List.length_append]
          simp
          omega
        · intro x hx
          rcases List.mem_append.mp hx with hx | hx
          · exact sh3 x (List.mem_append_left _ (List.mem_of_mem_eraseIdx hx))
          · rcases List.mem_append.mp hx with hx | hx
            · exact sh3 x (List.mem_append_right _ hx)
            · rw [List.mem_singleton.mp hx]
              exact sh3 _ (List.mem_append_left _ (List.getElem_mem _))
    · rintro H3 ⟨k3, rd3, rest, names, h1, h2, l1, l2, sh3⟩
      rw [Int.toNat_natCast] at l2 rd3
      exact k _ H3 k3 rd3 ⟨M, names, rfl, none_back sR hM, h2, l2, fun x hx => sh3 x (List.mem_append_right _ hx)⟩
end
end Kn

namespace Kn
open PySem PySem.Spec PyProof.Rows L2 Cb
/-! ### the law's own fractions -/
def spLL : Sp := spP (fun (d : Int × Int) vs _ => vs = [.int d.1, .int d.2] ∧ LowOk d.2 ∧ 0 < d.2) (fun d => Da (qd (Rat.divInt d.1 d.2)))
abbrev NLl : List Str := ["_law_over", "_law_under", "_law_one", "_law_other"]
theorem scLL : FnScope NLl ["_law_over", "_law_under"] (defScope sLLow) := ⟨rfl, rfl, rfl, by decide +kernel, rfl, by decide +kernel, by decide +kernel⟩
abbrev N2 : List Str := ["_law_one", "_law_other"]
theorem scPlus : FnScope N2 N2 (defScope sPlus) := ⟨rfl, rfl, rfl, by decide +kernel, rfl, by decide +kernel, by decide +kernel⟩
theorem scMinus : FnScope N2 N2 (defScope sMinus) := ⟨rfl, rfl, rfl, by decide +kernel, rfl, by decide +kernel, by decide +kernel⟩
theorem scLLess : FnScope N2 N2 (defScope sLLess) := ⟨rfl, rfl, rfl, by decide +kernel, rfl, by decide +kernel, by decide +kernel⟩
abbrev NTo : List Str := ["_law_values", "_law_found", "_law_value"]
theorem scTotal : FnScope NTo ["_law_values"] (defScope sTotal) := ⟨rfl, rfl, rfl, by decide +kernel, rfl, by decide +kernel, by decide +kernel⟩
theorem scLDown : FnScope ["_law_value"] ["_law_value"] (defScope sLDown) := ⟨rfl, rfl, rfl, by decide +kernel, rfl, by decide +kernel, by decide +kernel⟩
theorem scLUp : FnScope ["_law_value"] ["_law_value"] (defScope sLUp) := ⟨rfl, rfl, rfl, by decide +kernel, rfl, by decide +kernel, by decide +kernel⟩
def spLLess : Sp := spP (fun (d : Rat × Rat) vs H => (∃ v w, vs = [v, w] ∧ Td H (qd d.1) v ∧ Td H (qd d.2) w) ∧ Bd 2000 d.1 ∧ Bd 2000 d.2) (fun d => Is (.bl (decide (d.1 < d.2))))
section
variable {X : Cx} {σ : L2.St} {H : Hp} {a b : Expr} {p q : Pos} {k : Nat} {f : Addr} {fd : FuncData} {ps : List Str} {r s : Rat} {rs : List Rat} {o u : Int}
theorem ev_ll (g : GDef X "_law_low" k f fd ps spLL) (hu : LowOk u) (h0 : 0 < u) (ha : Ev X σ H a (Is (.int o))) (hb : Ev X σ H b (Is (.int u))) (hg : Gl X "_law_low" := by rfl) (hs : starEach [a, b] X.env = (false, eval a X.env) :: starEach [b] X.env := by rfl) (hs' : starEach [b] X.env = (false, eval b X.env) :: starEach [] X.env := by rfl)
    (hpl : (backTo p (starEach [b] X.env)).any (·.1) = false := by rfl) : Ev X σ H (.Call (.Name "_law_low" q) [a, b] [] p) (Da (qd (Rat.divInt o u))) := ev_callP (o, u) g (ea_2 ha mono_is hb mono_is hs hs') (fun vs H2 _ h => ⟨isTwo h, hu, h0⟩) hg (by decide) hs hpl
theorem ev_plus (g : GDef X "_law_plus" k f fd ps (spQ2 fun r q => r + q)) (ha : Ev X σ H a (Da (qd r))) (hb : Ev X σ H b (Da (qd s))) (h1 : Bd 2000 r) (h2 : Bd 2000 s) (hg : Gl X "_law_plus" := by rfl) (hs : starEach [a, b] X.env = (false, eval a X.env) :: starEach [b] X.env := by rfl) (hs' : starEach [b] X.env = (false, eval b X.env) :: starEach [] X.env := by rfl)
    (hpl : (backTo p (starEach [b] X.env)).any (·.1) = false := by rfl) : Ev X σ H (.Call (.Name "_law_plus" q) [a, b] [] p) (Da (qd (r + s))) := ev_q2 g ha hb h1 h2 hg (by decide) hs hs' hpl
theorem ev_minus (g : GDef X "_law_minus" k f fd ps (spQ2 fun r q => r - q)) (ha : Ev X σ H a (Da (qd r))) (hb : Ev X σ H b (Da (qd s))) (h1 : Bd 2000 r) (h2 : Bd 2000 s) (hg : Gl X "_law_minus" := by rfl) (hs : starEach [a, b] X.env = (false, eval a X.env) :: starEach [b] X.env := by rfl) (hs' : starEach [b] X.env = (false, eval b X.env) :: starEach [] X.env := by rfl)
    (hpl : (backTo p (starEach [b] X.env)).any (·.1) = false := by rfl) : Ev X σ H (.Call (.Name "_law_minus" q) [a, b] [] p) (Da (qd (r - s))) := ev_q2 g ha hb h1 h2 hg (by decide) hs hs' hpl
theorem ev_lless (g : GDef X "_law_less" k f fd ps spLLess) (ha : Ev X σ H a (Da (qd r))) (hb : Ev X σ H b (Da (qd s))) (h1 : Bd 2000 r) (h2 : Bd 2000 s) (hg : Gl X "_law_less" := by rfl) (hs : starEach [a, b] X.env = (false, eval a X.env) :: starEach [b] X.env := by rfl) (hs' : starEach [b] X.env = (false, eval b X.env) :: starEach [] X.env := by rfl)
    (hpl : (backTo p (starEach [b] X.env)).any (·.1) = false := by rfl) : Ev X σ H (.Call (.Name "_law_less" q) [a, b] [] p) (Is (.bl (decide (r < s)))) := ev_callP (r, s) g (ea_2 ha mono_da hb mono_da hs hs') (fun vs H2 _ h => ⟨h.two, h1, h2⟩) hg (by decide) hs hpl
theorem ev_total (g : GDef X "_law_total" k f fd ps spTot) (ha : Ev X σ H a (LstD (rs.map qd))) (hb : ∀ r ∈ rs, Bd 60 r) (hl : rs.length ≤ 20) (hg : Gl X "_law_total" := by rfl) (hs : starEach [a] X.env = (false, eval a X.env) :: starEach [] X.env := by rfl)
    (hpl : (backTo p (starEach [] X.env)).any (·.1) = false := by rfl) : Ev X σ H (.Call (.Name "_law_total" q) [a] [] p) (Da (qd (sumQ rs))) := ev_callP rs g (ea_1 ha mono_lstD hs) (fun vs H2 _ h => ⟨h.one, hb, hl⟩) hg (by decide) hs hpl
theorem ev_ldn (G : GDef X "_law_down" k f fd ps spDn) (ha : Ev X σ H a (Da (qd r))) (hb : Bd 2000 r) (hg : Gl X "_law_down" := by rfl) (hs : starEach [a] X.env = (false, eval a X.env) :: starEach [] X.env := by rfl)
    (hpl : (backTo p (starEach [] X.env)).any (·.1) = false := by rfl) : Ev X σ H (.Call (.Name "_law_down" q) [a] [] p) (Is (.int (dn r))) := ev_r1 G ha hb hg (by decide) hs hpl
theorem ev_lup (G : GDef X "_law_up" k f fd ps spUp) (ha : Ev X σ H a (Da (qd r))) (hb : Bd 2000 r) (hg : Gl X "_law_up" := by rfl) (hs : starEach [a] X.env = (false, eval a X.env) :: starEach [] X.env := by rfl)
    (hpl : (backTo p (starEach [] X.env)).any (·.1) = false := by rfl) : Ev X σ H (.Call (.Name "_law_up" q) [a] [] p) (Is (.int (upp r))) := ev_r1 G ha hb hg (by decide) hs hpl
end
section
variable {P : Program} {w : World} {K : PySem.W.Frag} {mg : Str → Option Value} {base : Heap}
theorem ok_ll {f : Addr} {fd : FuncData} (F : Fun K "_law_low" "_law_low" sLLow f fd) (za : mg "abs" = none) : FnOk P w K mg base CX0 1 f fd ["_law_over", "_law_under"] spLL := by
  refine F.ok scLL (fun vs H Q E h => ?_) (fun cdv A outer s H vs Q E hr h => ?_)
  · obtain ⟨d, ⟨rfl, _⟩, _⟩ := h
    rfl
  · obtain ⟨⟨o, u⟩, ⟨rfl, hu, h0⟩, k⟩ := h
    dsimp only at hu h0 k ⊢
    obtain ⟨un, rfl⟩ := Int.eq_ofNat_of_zero_le (Int.le_of_lt h0)
    have elow : lowS o (un : Int) = ((Nat.gcd o.natAbs un : Nat) : Int) := by
      unfold lowS
      rw [if_neg (by omega)]
      rfl
    have eabs : (if o < 0 then -o else o) = ((o.natAbs : Nat) : Int) := by
      split <;> omega
    refine ⟨_, pw_B, ?_⟩
    refine b_par (i := 2) (j := 3) rfl scLL.nd rfl rfl (by decide) (ev_absI za (ev_vi (pv 0) rfl)) mono_is (ev_vi (pv 1) rfl) mono_is fun v2 v3 H1 s1 e1 e2 => ?_
    cases e1
    cases e2
    rw [eabs]
    refine b_while (fun m σ H' => ∃ x y : Nat, σ = [some (.int o), some (.int (un : Int)), some (.int (x : Int)), some (.int (y : Int))] ∧ m = y ∧ Nat.gcd x y = Nat.gcd o.natAbs un ∧ Same H H') ⟨un, o.natAbs, un, rfl, rfl, rfl, s1⟩ PassesOwn.never ?_
    rintro m σ H1 ⟨x, y, rfl, hm, hg, s1⟩
    subst m
    refine w_evT (CC.et (c_I op_gt (nomark _) (ev_vi (pv 3) rfl) (ev_c pe_int))) fun H2 s2 => ?_
    by_cases hy : y = 0
    · subst hy
      rw [if_neg (by simp)]
      rw [Nat.gcd_zero_right] at hg
      subst hg
      refine b_retE (ev_tupI (xs := [.int (o.fdiv (lowS o un)), .int ((un : Int).fdiv (lowS o un))]) (ea_2 (ev_opC op_fdivA (ev_vi (pv 0) rfl) (ev_vi (pv 2) (by rw [elow]; rfl)) hu.div) mono_is (ev_opC op_fdivA (ev_vi (pv 1) rfl) (ev_vi (pv 2) (by rw [elow]; rfl)) hu.div) mono_is) (by show 2 ≤ 1000; decide)) fun v H3 s3 h => ?_
      rw [hu.num.1, hu.num.2] at h
      exact k v H3 ((s1.trans s2).trans s3) (td_qd h)
    · rw [if_pos (by simp; omega)]
      refine b_par (i := 2) (j := 3) rfl scLL.nd rfl rfl (by decide) (ev_vi (pv 3) rfl) mono_is (ev_opC op_mod (ev_vi (pv 2) rfl) (ev_vi (pv 3) rfl) (by omega)) mono_is fun v w H3 s3 e1 e2 => ?_
      cases e1
      cases e2
      refine b_nil ⟨x % y, Nat.mod_lt _ (by omega), y, x % y, ?_, rfl, ?_, (s1.trans s2).trans s3⟩
      · rw [← Int.natCast_emod]
        rfl
      · rw [← hg, Nat.gcd_comm x y, Nat.gcd_rec y x, Nat.gcd_comm]
theorem den2_pos {r q : Rat} : (0 : Int) < (r.den : Int) * (q.den : Int) := Int.mul_pos (den_pos r) (den_pos q)
theorem ok_plus {f : Addr} {fd : FuncData} (F : Fun K "_law_plus" "_law_plus" sPlus f fd) (L : LD P w K mg base "_law_low" 1 ["_law_over", "_law_under"] spLL) : FnOk P w K mg base CX0 2 f fd ["_law_one", "_law_other"] (spQ2 fun r q => r + q) := by
  refine F.ok scPlus (fun vs H Q E h => ?_) (fun cdv A outer s H vs Q E hr h => ?_)
  · obtain ⟨d, ⟨⟨v, w, rfl, _⟩, _⟩, _⟩ := h
    rfl
  · obtain ⟨⟨r, q⟩, ⟨⟨v, w', rfl, hv, hw⟩, hr1, hq1⟩, k⟩ := h
    dsimp only at hv hw hr1 hq1
    obtain ⟨fL, fdL, GL⟩ := LD.g (X := (cxOf CX0 P w K mg base N2 "_law_plus" (defScope sPlus) f cdv A outer s H E).nox) L hr (by decide)
    refine ⟨_, pw_B, b_retE (ev_ll (o := r.num * (q.den : Int) + q.num * (r.den : Int)) (u := (r.den : Int) * (q.den : Int)) GL (den2_ok hr1 hq1) den2_pos ?_ ?_) fun v' H2 s2 h => k v' H2 s2 (by
      rw [add_eq] at h
      exact h)⟩
    · exact ev_opI op_add (ev_opC op_mulW (ev_q0 (ev_v (pv 0) rfl hv mono_da) (ev_c pe_int)) (ev_q1 (ev_v (pv 1) rfl hw mono_da) (ev_c pe_int)) (mulOk hr1.1 hq1.2)) (ev_opC op_mulW (ev_q0 (ev_v (pv 1) rfl hw mono_da) (ev_c pe_int)) (ev_q1 (ev_v (pv 0) rfl hv mono_da) (ev_c pe_int)) (mulOk hq1.1 hr1.2))
    · exact ev_opC op_mulW (ev_q1 (ev_v (pv 0) rfl hv mono_da) (ev_c pe_int)) (ev_q1 (ev_v (pv 1) rfl hw mono_da) (ev_c pe_int)) (mulOk hr1.2 hq1.2)
theorem ok_minus {f : Addr} {fd : FuncData} (F : Fun K "_law_minus" "_law_minus" sMinus f fd) (L : LD P w K mg base "_law_low" 1 ["_law_over", "_law_under"] spLL) : FnOk P w K mg base CX0 2 f fd ["_law_one", "_law_other"] (spQ2 fun r q => r - q) := by
  refine F.ok scMinus (fun vs H Q E h => ?_) (fun cdv A outer s H vs Q E hr h => ?_)
  · obtain ⟨d, ⟨⟨v, w, rfl, _⟩, _⟩, _⟩ := h
    rfl
  · obtain ⟨⟨r, q⟩, ⟨⟨v, w', rfl, hv, hw⟩, hr1, hq1⟩, k⟩ := h
    dsimp only at hv hw hr1 hq1
    obtain ⟨fL, fdL, GL⟩ := LD.g (X := (cxOf CX0 P w K mg base N2 "_law_minus" (defScope sMinus) f cdv A outer s H E).nox) L hr (by decide)
    refine ⟨_, pw_B, b_retE (ev_ll (o := r.num * (q.den : Int) - q.num * (r.den : Int)) (u := (r.den : Int) * (q.den : Int)) GL (den2_ok hr1 hq1) den2_pos ?_ ?_) fun v' H2 s2 h => k v' H2 s2 (by
      rw [sub_eq] at h
      exact h)⟩
    · exact ev_opI op_sub (ev_opC op_mulW (ev_q0 (ev_v (pv 0) rfl hv mono_da) (ev_c pe_int)) (ev_q1 (ev_v (pv 1) rfl hw mono_da) (ev_c pe_int)) (mulOk hr1.1 hq1.2)) (ev_opC op_mulW (ev_q0 (ev_v (pv 1) rfl hw mono_da) (ev_c pe_int)) (ev_q1 (ev_v (pv 0) rfl hv mono_da) (ev_c pe_int)) (mulOk hq1.1 hr1.2))
    · exact ev_opC op_mulW (ev_q1 (ev_v (pv 0) rfl hv mono_da) (ev_c pe_int)) (ev_q1 (ev_v (pv 1) rfl hw mono_da) (ev_c pe_int)) (mulOk hr1.2 hq1.2)
theorem ok_lless {f : Addr} {fd : FuncData} (F : Fun K "_law_less" "_law_less" sLLess f fd) : FnOk P w K mg base CX0 1 f fd ["_law_one", "_law_other"] spLLess := by
  refine F.ok scLLess (fun vs H Q E h => ?_) (fun cdv A outer s H vs Q E hr h => ?_)
  · obtain ⟨d, ⟨⟨v, w, rfl, _⟩, _⟩, _⟩ := h
    rfl
  · obtain ⟨⟨r, q⟩, ⟨⟨v, w', rfl, hv, hw⟩, hr1, hq1⟩, k⟩ := h
    dsimp only at hv hw hr1 hq1 k
    refine ⟨_, pw_B, b_retE (CC.ev (c_I op_lt (nomark _) (ev_opC op_mulW (ev_q0 (ev_v (pv 0) rfl hv mono_da) (ev_c pe_int)) (ev_q1 (ev_v (pv 1) rfl hw mono_da) (ev_c pe_int)) (mulOk hr1.1 hq1.2)) (ev_opC op_mulW (ev_q0 (ev_v (pv 1) rfl hw mono_da) (ev_c pe_int)) (ev_q1 (ev_v (pv 0) rfl hv mono_da) (ev_c pe_int)) (mulOk hq1.1 hr1.2)))) fun v H' s h => k v H' s ?_⟩
    have z : decide (r.num * (q.den : Int) < q.num * (r.den : Int)) = decide (r < q) := decide_eq_decide.mpr (Rat.lt_iff r q).symm
    rw [z] at h
    exact h
theorem ok_total {f : Addr} {fd : FuncData} (F : Fun K "_law_total" "_law_total" sTotal f fd) (L : LD P w K mg base "_law_plus" 2 ["_law_one", "_law_other"] (spQ2 fun r q => r + q)) : FnOk P w K mg base CX0 3 f fd ["_law_values"] spTot := by
  refine F.ok scTotal (fun vs H Q E h => ?_) (fun cdv A outer s H vs Q E hr h => ?_)
  · obtain ⟨d, ⟨⟨v, rfl, _⟩, _⟩, _⟩ := h
    rfl
  · obtain ⟨rs, ⟨⟨v, rfl, a, xs, rfl, ha, t⟩, hb, hl⟩, k⟩ := h
    obtain ⟨fL, fdL, GL⟩ := LD.g (X := (cxOf CX0 P w K mg base NTo "_law_total" (defScope sTotal) f cdv A outer s H E).nox) L hr (by decide)
    refine ⟨_, pw_B, ?_⟩
    refine b_setE (i := 1) scTotal.nd rfl (.inl rfl) (ev_tupD (ds := [.int 0, .int 1]) (ed_cons (Ev.int (ev_c pe_int)) (ed_cons (Ev.int (ev_c pe_int)) ed_nil)) (by decide)) fun t0 H1 s1 h0 => ?_
    refine b_for rfl (pi_list (pv 0)) (pg_name (i := 2) scTotal.nd rfl (.inl rfl)) ?_ PassesOwn.never
    refine ⟨_, rfl, a, rfl, ⟨_, SqL.of (s1 _ _ ha)⟩, for_list (K := K) (a := a) (xs := xs) (fun i σ H' => ∃ u y, σ = [some (.ref a), some u, y] ∧ Same H1 H' ∧ Td H' (qd (sumQ (rs.take i))) u) ⟨t0, none, rfl, .refl _, h0⟩ (fun i σ H' _ ⟨_, _, _, s, _⟩ => SqL.of (s _ _ (s1 _ _ ha))) ?_ ?_⟩
    · rintro i x σ H2 hx ⟨u, y, rfl, s2, hu⟩
      obtain ⟨d, hd, td⟩ := t.at' hx
      obtain ⟨r, hr1, rfl⟩ := map_at hd
      have tx := Td.keep (.of (s1.trans s2)) _ _ td
      have hm : r ∈ rs := List.mem_of_getElem? hr1
      have bi : Bd 2000 (sumQ (rs.take i)) := (bd_sumQ fun q hq => hb q (List.mem_of_mem_take hq)).mono (by
        have : (rs.take i).length ≤ rs.length := by
          rw [List.length_take]
          omega
        omega)
      refine b_setE (i := 1) scTotal.nd rfl (.inl rfl) (ev_plus GL (ev_v (pv 1) rfl hu mono_da) (ev_v (pv 2) rfl tx mono_da) bi ((hb r hm).mono (by decide))) fun v H3 s3 hv => b_nil ⟨v, _, rfl, s2.trans s3, ?_⟩
      rw [take_snoc hr1, sumQ_snoc]
      exact hv
    · rintro σ H2 ⟨u, y, rfl, s2, hu⟩
      have hxl : xs.length = rs.length := by
        rw [t.len, List.length_map]
      rw [hxl, List.take_length] at hu
      exact b_retE (ev_v (pv 1) rfl hu mono_da) fun v H3 s3 hv => k v H3 ((s1.trans s2).trans s3) hv
theorem ok_ldn {f : Addr} {fd : FuncData} (F : Fun K "_law_down" "_law_down" sLDown f fd) : FnOk P w K mg base CX0 1 f fd ["_law_value"] spDn := by
  refine F.ok scLDown (fun vs H Q E h => ?_) (fun cdv A outer s H vs Q E hr h => ?_)
  · obtain ⟨d, ⟨⟨v, rfl, _⟩, _⟩, _⟩ := h
    rfl
  · obtain ⟨r, ⟨⟨v, rfl, hv⟩, hb⟩, k⟩ := h
    exact ⟨_, pw_B, b_retE (ev_opC op_fdivA (ev_q0 (ev_v (pv 0) rfl hv mono_da) (ev_c pe_int)) (ev_q1 (ev_v (pv 0) rfl hv mono_da) (ev_c pe_int)) (divOk hb).div) fun v H' s h => k v H' s h⟩
theorem ok_lup {f : Addr} {fd : FuncData} (F : Fun K "_law_up" "_law_up" sLUp f fd) : FnOk P w K mg base CX0 1 f fd ["_law_value"] spUp := by
  refine F.ok scLUp (fun vs H Q E h => ?_) (fun cdv A outer s H vs Q E hr h => ?_)
  · obtain ⟨d, ⟨⟨v, rfl, _⟩, _⟩, _⟩ := h
    rfl
  · obtain ⟨r, ⟨⟨v, rfl, hv⟩, hb⟩, k⟩ := h
    refine ⟨_, pw_B, b_retE (ev_opI op_sub (ev_c pe_int) (ev_opC op_fdivA (ev_opI op_sub (ev_c pe_int) (ev_q0 (ev_v (pv 0) rfl hv mono_da) (ev_c pe_int))) (ev_q1 (ev_v (pv 0) rfl hv mono_da) (ev_c pe_int)) (divOk hb).div)) fun v H' s h => k v H' s ?_⟩
    rw [Int.zero_sub, Int.zero_sub] at h
    exact h
end
end Kn

namespace Cb
open PySem PySem.Spec PyProof.Rows L2
/-! ### a place of a list written; an empty list told -/
section
variable {X : Cx} {o i value : Expr} {σ : L2.St} {H : Hp} {pos pos' : Pos} {sts : List Stmt} {D : Ends} {P : Pd} {S : Addr} {us : List V} {k : Int} {j : Nat}
theorem b_lput (hv : Ev X σ H value P) (mP : Mono P) (ho : Ev X σ H o (Is (.ref S))) (hi : Ev X σ H i (Is (.int k))) (hS : H S = some (.lst us)) (hj : ixN us.length k = some j) (kk : ∀ v H', Same H H' → P v H' → wB X sts D σ (upd H' S (.lst (us.set j v))))
    (ha : ∀ v, assign (.Subscript o i pos') X.env v = (do
      let ov ← holding [v] (eval o X.env)
      let iv ← holding [v, ov] (eval i X.env)
      standAt pos'
      holding [v, ov, iv] (setItem ov iv v)
      release [v, ov, iv] []) := by intro _; rfl)
    (hs : swapsWithSole [.Subscript o i pos'] value pos.line X.env = pure false := by rfl) (hw : swappedStores [.Subscript o i pos'] value X.env = pure none := by rfl)
    (h1 : (assignEach [.Subscript o i pos'] X.env).map (·.2) = [assign (.Subscript o i pos') X.env] := by rfl) : wB X (.Assign [.Subscript o i pos'] value pos :: sts) D σ H :=
  b_asg (pg_sub pw_E pw_E set_list ha) (wE_mono (hv H (.refl _)) fun v H1 ⟨s1, pv⟩ => wE_mono (ho H1 s1) fun x H2 ⟨s2, px⟩ => wE_mono (hi H2 (s1.trans s2)) fun y H3 ⟨s3, py⟩ => by
    cases px
    cases py
    have s := (s1.trans s2).trans s3
    exact ⟨S, us, k, j, rfl, rfl, s _ _ hS, hj, kk v H3 s (mP _ _ _ (s2.trans s3) pv)⟩) hs hw h1
end
theorem eqv_nilD (ds : List PyData) : PyData.eqv (.list ds) (.list []) = ds.isEmpty := by
  cases ds with
  | nil => rfl
  | cons n ns => rfl
theorem plain_all : ∀ {ds : List PyData}, (∀ d ∈ ds, d.plain = true) → PyData.plainAll ds = true
  | [], _ => rfl
  | d :: ds, h => by
    show (PyData.plain d && PyData.plainAll ds) = true
    rw [h d (List.mem_cons_self ..), plain_all fun e he => h e (List.mem_cons_of_mem _ he)]
    rfl
theorem depth_all {k : Nat} : ∀ {ds : List PyData}, (∀ d ∈ ds, d.depth ≤ k) → PyData.depthAll ds ≤ k
  | [], _ => Nat.zero_le _
  | d :: ds, h => by
    show max (PyData.depth d) (PyData.depthAll ds) ≤ k
    exact Nat.max_le.mpr ⟨h d (List.mem_cons_self ..), depth_all fun e he => h e (List.mem_cons_of_mem _ he)⟩
theorem lstD_dp {K : PySem.W.Frag} {H : Hp} {ds : List PyData} {v : V} (h : LstD ds v H) : Dp K H v (.list ds) := by
  obtain ⟨a, xs, rfl, ha, t⟩ := h
  exact .lst (.of ha) (Tds.dp _ _ t)
section
variable {X : Cx} {a b : Expr} {σ : L2.St} {H : Hp} {ds : List PyData} {pos p : Pos}
/-- xs != [], xs == [] -/
theorem c_neNil (hu : X.A.units + 64 < cLine) (ha : Ev X σ H a (LstD ds)) (pl : ∀ d ∈ ds, d.plain = true) (dp : ∀ d ∈ ds, d.depth ≤ 50) : CC X σ H .NotEq a (.List [] p) (.bl (!ds.isEmpty)) :=
  (c_neP hu ha (ev_lstD (ds := []) ed_nil (by show 0 ≤ 1000; decide)) mono_lstD (fun x H' s h => lstD_dp h) (fun x H' s h => lstD_dp h) (plain_all pl) rfl (Nat.succ_le_of_lt (Nat.lt_of_le_of_lt (depth_all dp) (by decide)))).is (by rw [eqv_nilD])
theorem c_eqNil (hu : X.A.units + 64 < cLine) (ha : Ev X σ H a (LstD ds)) (pl : ∀ d ∈ ds, d.plain = true) (dp : ∀ d ∈ ds, d.depth ≤ 50) : CC X σ H .Eq a (.List [] p) (.bl ds.isEmpty) :=
  (c_eqP hu ha (ev_lstD (ds := []) ed_nil (by show 0 ≤ 1000; decide)) mono_lstD (fun x H' s h => lstD_dp h) (fun x H' s h => lstD_dp h) (plain_all pl) rfl (Nat.succ_le_of_lt (Nat.lt_of_le_of_lt (depth_all dp) (by decide)))).is (by rw [eqv_nilD])
end
end Cb
namespace Kn
open PySem PySem.Spec PyProof.Rows L2 Cb
/-! ### the law's own measures of a state -/
theorem none_all {α : Type} {p : α → Bool} {l : List α} : (l.filter fun x => !p x).isEmpty = l.all p := by
  induction l with
  | nil => rfl
  | cons a l ih =>
    rw [List.all_cons]
    cases h : p a with
    | true => rw [List.filter_cons_of_neg (by rw [h]; decide), ih, Bool.true_and]
    | false => rw [List.filter_cons_of_pos (by rw [h]; decide), Bool.false_and]; rfl
theorem map_empty {α β : Type} {f : α → β} {l : List α} : (l.map f).isEmpty = l.isEmpty := by cases l <;> rfl
theorem plain_ld (l : Ln) : (ld l).plain = true := rfl
theorem depth_ld (l : Ln) : (ld l).depth ≤ 50 := by
  show 2 ≤ 50
  decide
theorem plain_qd (r : Rat) : (qd r).plain = true := rfl
theorem depth_qd (r : Rat) : (qd r).depth ≤ 50 := by
  show 1 ≤ 50
  decide
theorem num_pos_iff {r : Rat} : 0 < r ↔ 0 < r.num := by
  rw [Rat.lt_iff]
  simp
theorem filter_one {α : Type} {p : α → Bool} {x : α} : [x].filter p = if p x = true then [x] else [] := by
  by_cases h : p x = true
  · rw [if_pos h, List.filter_cons_of_pos h, List.filter_nil]
  · rw [if_neg h, List.filter_cons_of_neg h, List.filter_nil]
theorem going_snoc {rows : List Ln} {l : Ln} : going (rows ++ [l]) = going rows ++ (if l.on = true then [gap l] else []) := by
  unfold going
  rw [List.filter_append, List.map_append]
  by_cases h : l.on = true
  · rw [if_pos h, List.filter_cons_of_pos h, List.filter_nil, List.map_cons, List.map_nil]
  · rw [if_neg h, List.filter_cons_of_neg h, List.filter_nil, List.map_nil]
theorem ended_snoc {rows : List Ln} {l : Ln} : endedR (rows ++ [l]) = if l.on = true then endedR rows else endedR rows + gap l := by
  unfold endedR
  rw [List.filter_append, List.map_append]
  by_cases h : l.on = true
  · rw [if_pos h, List.filter_cons_of_neg (by rw [h]; decide), List.filter_nil, List.map_nil, List.append_nil]
  · rw [if_neg h, List.filter_cons_of_pos (by simpa using h), List.filter_nil, List.map_cons, List.map_nil, sumQ_snoc]
theorem ahead_snoc {rows : List Ln} {l : Ln} : aheadR (rows ++ [l]) = if l.on = true ∧ 0 < gap l then aheadR rows + gap l else aheadR rows := by
  unfold aheadR
  rw [going_snoc, List.filter_append]
  by_cases h : l.on = true
  · rw [if_pos h]
    by_cases g : 0 < gap l
    · rw [if_pos ⟨h, g⟩, filter_one, if_pos (decide_eq_true g), sumQ_snoc]
    · rw [if_neg (fun z => g z.2), filter_one, if_neg (by rw [decide_eq_false g]; decide), List.append_nil]
  · rw [if_neg h, if_neg (fun z => h z.1), List.filter_nil, List.append_nil]
theorem behind_snoc {rows : List Ln} {l : Ln} : behindR (rows ++ [l]) = if l.on = true ∧ ¬ 0 < gap l then behindR rows - gap l else behindR rows := by
  unfold behindR
  rw [going_snoc, List.filter_append, List.map_append]
  by_cases h : l.on = true
  · rw [if_pos h]
    by_cases g : gap l < 0
    · rw [if_pos ⟨h, fun z => by grind⟩, filter_one, if_pos (decide_eq_true g), List.map_cons, List.map_nil, sumQ_snoc, Rat.sub_eq_add_neg]
    · rw [filter_one, if_neg (by rw [decide_eq_false g]; decide), List.map_nil, List.append_nil]
      by_cases z : 0 < gap l
      · rw [if_neg (fun y => y.2 z)]
      · rw [if_pos ⟨h, z⟩]
        have e : gap l = 0 := by grind
        rw [e]
        grind
  · rw [if_neg h, if_neg (fun z => h z.1), List.filter_nil, List.map_nil, List.append_nil]
theorem RowsK.take {rows : List Ln} (h : RowsK rows) (i : Nat) : RowsK (rows.take i) := ⟨by rw [List.length_take]; have := h.1; omega, fun l hl => h.2 l (List.mem_of_mem_take hl)⟩
def spGaps : Sp := spRows fun rows => LstD (rows.map fun l => qd (gap l))
def spScales : Sp := spRows fun rows => Da (.tuple [qd (aheadR rows), qd (behindR rows), qd (endedR rows)])
theorem scGaps : FnScope ["_law_here", "_law_row"] ["_law_here"] (defScope sGaps) := ⟨rfl, rfl, rfl, by decide +kernel, rfl, by decide +kernel, by decide +kernel⟩
abbrev NSc : List Str := ["_law_here", "_law_gaps_here", "_law_found", "_law_k"]
theorem scScales : FnScope NSc ["_law_here"] (defScope sScales) := ⟨rfl, rfl, rfl, by decide +kernel, rfl, by decide +kernel, by decide +kernel⟩
theorem scBtw : FnScope ["_law_count", "_law_value"] ["_law_count", "_law_value"] (defScope sBetween) := ⟨rfl, rfl, rfl, by decide +kernel, rfl, by decide +kernel, by decide +kernel⟩
theorem scNear : FnScope ["_law_here", "_law_row"] ["_law_here"] (defScope sIsNear) := ⟨rfl, rfl, rfl, by decide +kernel, rfl, by decide +kernel, by decide +kernel⟩
abbrev NFr : List Str := ["_law_here", "_law_ahead", "_law_behind", "_law_ended", "_law_some", "_law_value"]
theorem scFree : FnScope NFr ["_law_here"] (defScope sIsFree) := ⟨rfl, rfl, rfl, by decide +kernel, rfl, by decide +kernel, by decide +kernel⟩
section
variable {X : Cx} {σ : L2.St} {H : Hp} {a b : Expr} {p q : Pos} {k : Nat} {f : Addr} {fd : FuncData} {ps : List Str} {rows : List Ln}
theorem ev_gaps (g : GDef X "_law_gaps" k f fd ps spGaps) (ha : Ev X σ H a (Da (rowsD rows))) (h : RowsK rows) (hg : Gl X "_law_gaps" := by rfl) (hs : starEach [a] X.env = (false, eval a X.env) :: starEach [] X.env := by rfl) (hpl : (backTo p (starEach [] X.env)).any (·.1) = false := by rfl) : Ev X σ H (.Call (.Name "_law_gaps" q) [a] [] p) (LstD (rows.map fun l => qd (gap l))) := ev_rows g ha h hg (by decide) hs hpl
theorem ev_scales (g : GDef X "_law_scales" k f fd ps spScales) (ha : Ev X σ H a (Da (rowsD rows))) (h : RowsK rows) (hg : Gl X "_law_scales" := by rfl) (hs : starEach [a] X.env = (false, eval a X.env) :: starEach [] X.env := by rfl) (hpl : (backTo p (starEach [] X.env)).any (·.1) = false := by rfl) : Ev X σ H (.Call (.Name "_law_scales" q) [a] [] p) (Da (.tuple [qd (aheadR rows), qd (behindR rows), qd (endedR rows)])) := ev_rows g ha h hg (by decide) hs hpl
theorem ev_near (g : GDef X "_law_is_near" k f fd ps spClose) (ha : Ev X σ H a (Da (rowsD rows))) (h : RowsK rows) (hg : Gl X "_law_is_near" := by rfl) (hs : starEach [a] X.env = (false, eval a X.env) :: starEach [] X.env := by rfl) (hpl : (backTo p (starEach [] X.env)).any (·.1) = false := by rfl) : Ev X σ H (.Call (.Name "_law_is_near" q) [a] [] p) (Is (.bl (near rows))) := ev_rows g ha h hg (by decide) hs hpl
theorem ev_free (g : GDef X "_law_is_free" k f fd ps spOpen) (ha : Ev X σ H a (Da (rowsD rows))) (h : RowsK rows) (hg : Gl X "_law_is_free" := by rfl) (hs : starEach [a] X.env = (false, eval a X.env) :: starEach [] X.env := by rfl) (hpl : (backTo p (starEach [] X.env)).any (·.1) = false := by rfl) : Ev X σ H (.Call (.Name "_law_is_free" q) [a] [] p) (Is (.bl (free rows))) := ev_rows g ha h hg (by decide) hs hpl
theorem ev_btw {z : Int} {r : Rat} (g : GDef X "_law_between" k f fd ps spIsR) (ha : Ev X σ H a (Is (.int z))) (hb : Ev X σ H b (Da (qd r))) (h1 : Bd 2000 r) (hg : Gl X "_law_between" := by rfl) (hs : starEach [a, b] X.env = (false, eval a X.env) :: starEach [b] X.env := by rfl) (hs' : starEach [b] X.env = (false, eval b X.env) :: starEach [] X.env := by rfl)
    (hpl : (backTo p (starEach [b] X.env)).any (·.1) = false := by rfl) : Ev X σ H (.Call (.Name "_law_between" q) [a, b] [] p) (Is (.bl (btw z r))) := ev_callP (z, r) g (ea_2 ha mono_is hb mono_da hs hs') (fun vs H2 _ h => by
  obtain ⟨v, w, rfl, e, hw⟩ := h.two
  obtain rfl : v = .int z := e
  exact ⟨⟨w, rfl, hw⟩, h1⟩) hg (by decide) hs hpl
end
section
variable {P : Program} {w : World} {K : PySem.W.Frag} {mg : Str → Option Value} {base : Heap}
theorem ok_gaps {f : Addr} {fd : FuncData} (F : Fun K "_law_gaps" "_law_gaps" sGaps f fd) (LM : LD P w K mg base "_law_minus" 2 ["_law_one", "_law_other"] (spQ2 fun r q => r - q)) : FnOk P w K mg base CX0 3 f fd ["_law_here"] spGaps := by
  refine F.ok scGaps (fun vs H Q E h => ?_) (fun cdv A outer s H vs Q E hr h => ?_)
  · obtain ⟨d, ⟨⟨v, rfl, _⟩, _⟩, _⟩ := h
    rfl
  · obtain ⟨rows, ⟨⟨v, rfl, hv⟩, ok⟩, k⟩ := h
    obtain ⟨fM, fdM, GM⟩ := LD.g (X := (cxOf CX0 P w K mg base ["_law_here", "_law_row"] "_law_gaps" (defScope sGaps) f cdv A outer s H E).nox) LM hr (by decide)
    have hl := ok.1
    refine ⟨_, pw_B, b_retE (ev_mT (enc := ld) (as := rows) (f := fun l => qd (gap l)) (i := 1) rfl scGaps.nd (blkOk_by (N := ["_law_here", "_law_row"]) (sc := defScope sGaps) (by decide +kernel)) (fun _ _ _ _ _ => pg_name (i := 1) scGaps.nd rfl (Or.inl rfl)) (ev_v (pv 0) rfl hv mono_da) (by omega) ?_) fun v H' s h => k v H' s h⟩
    intro l v' H' hm sx td s' H0 C cl fp
    have hb := ok.2 l hm
    refine ev_minus (gdef_blk GM) (r := (l.ct : Rat)) ?_ (ev_ixD (j := 1) (ev_v (pv 1) rfl td mono_da) (ev_c pe_int) rfl) ((bd_int hb.2.2.2 (by decide)).mono (by decide)) (hb.2.2.1.mono (by decide))
    rw [qd_int]
    exact ev_tupD (ds := [.int l.ct, .int 1]) (ed_cons (ev_ixD (j := 2) (ev_v (pv 1) rfl td mono_da) (ev_c pe_int) rfl) (ed_cons (Ev.int (ev_c pe_int)) ed_nil)) (by show 2 ≤ 1000; decide)
theorem ok_btw {f : Addr} {fd : FuncData} (F : Fun K "_law_between" "_law_between" sBetween f fd) (LDn : LD P w K mg base "_law_down" 1 ["_law_value"] spDn) (LU : LD P w K mg base "_law_up" 1 ["_law_value"] spUp) : FnOk P w K mg base CX0 2 f fd ["_law_count", "_law_value"] spIsR := by
  refine F.ok scBtw (fun vs H Q E h => ?_) (fun cdv A outer s H vs Q E hr h => ?_)
  · obtain ⟨d, ⟨⟨v, rfl, _⟩, _⟩, _⟩ := h
    rfl
  · obtain ⟨⟨z, r⟩, ⟨⟨v, rfl, hv⟩, hb⟩, k⟩ := h
    dsimp only at hv hb k ⊢
    obtain ⟨fD, fdD, GD⟩ := LD.g (X := (cxOf CX0 P w K mg base ["_law_count", "_law_value"] "_law_between" (defScope sBetween) f cdv A outer s H E).nox) LDn hr (by decide)
    obtain ⟨fU, fdU, GU⟩ := LD.g (X := (cxOf CX0 P w K mg base ["_law_count", "_law_value"] "_law_between" (defScope sBetween) f cdv A outer s H E).nox) LU hr (by decide)
    exact ⟨_, pw_B, b_retE (ev_chainI op_le op_le (ev_ldn GD (ev_v (pv 1) rfl hv mono_da) hb) (ev_vi (pv 0) rfl) (ev_lup GU (ev_v (pv 1) rfl hv mono_da) hb)) fun v H' s h => k v H' s h⟩
theorem ok_scales {f : Addr} {fd : FuncData} (F : Fun K "_law_scales" "_law_scales" sScales f fd) (LG : LD P w K mg base "_law_gaps" 3 ["_law_here"] spGaps) (LP : LD P w K mg base "_law_plus" 2 ["_law_one", "_law_other"] (spQ2 fun r q => r + q)) (LM : LD P w K mg base "_law_minus" 2 ["_law_one", "_law_other"] (spQ2 fun r q => r - q)) (zr : mg "range" = none) (zl : mg "len" = none) (zt : mg "tuple" = none) : FnOk P w K mg base CX0 4 f fd ["_law_here"] spScales := by
  refine F.ok scScales (fun vs H Q E h => ?_) (fun cdv A outer s H vs Q E hr h => ?_)
  · obtain ⟨d, ⟨⟨v, rfl, _⟩, _⟩, _⟩ := h
    rfl
  · obtain ⟨rows, ⟨⟨v, rfl, hv⟩, ok⟩, k⟩ := h
    obtain ⟨fG, fdG, GG⟩ := LD.g (X := (cxOf CX0 P w K mg base NSc "_law_scales" (defScope sScales) f cdv A outer s H E).nox) LG hr (by decide)
    obtain ⟨fP, fdP, GP⟩ := LD.g (X := (cxOf CX0 P w K mg base NSc "_law_scales" (defScope sScales) f cdv A outer s H E).nox) LP hr (by decide)
    obtain ⟨fM, fdM, GM⟩ := LD.g (X := (cxOf CX0 P w K mg base NSc "_law_scales" (defScope sScales) f cdv A outer s H E).nox) LM hr (by decide)
    have hl := ok.1
    refine ⟨_, pw_B, ?_⟩
    refine b_parW (i := 1) (j := 2) rfl scScales.nd rfl rfl (by decide) (w_ev (ev_gaps GG (ev_v (pv 0) rfl hv mono_da) ok) fun v1 H1 s1 h1 => w_newL (ds := [qd 0, qd 0, qd 0]) (ed_cons (ev_lit 3 rfl) (ed_cons (ev_lit 3 rfl) (ed_cons (ev_lit 3 rfl) ed_nil))) (by show 3 ≤ 1000; decide) fun S xs H2 s2 m2 n2 t2 => ?_)
    have s12 : Same H1 (upd H2 S (.lst xs)) := same_put s2 m2
    have hS : (upd H2 S (.lst xs)) S = some (.lst xs) := upd_same
    have t3 : Tds (upd H2 S (.lst xs)) [qd 0, qd 0, qd 0] xs := Tds.keep (.of (same_new n2)) _ _ t2
    generalize upd H2 S (.lst xs) = H3 at s12 hS t3 ⊢
    obtain ⟨G, gs, rfl, hG1, tG1⟩ := id h1
    have neG : G ≠ S := fun e => by
      rw [e, m2] at hG1
      cases hG1
    have hG := s12 _ _ hG1
    have tG := Tds.keep (.of s12) _ _ tG1
    have hv3 := mono_da _ _ _ (s1.trans s12) hv
    have nS : H S = none := none_back s1 m2
    refine b_for rfl (pi_range1 (by rfl) zr (pa_cons pw_E pa_nil)) (pg_name (i := 3) scScales.nd rfl (.inl rfl)) ?_ PassesOwn.never
    refine w_ev (ev_lenT zl (ev_v (pv 0) rfl hv3 mono_da)) fun v0 H4 s4 e0 => ?_
    cases e0
    refine ⟨_, rfl, by omega, by rw [List.length_map]; omega, for_range (n := (((rows.map ld).length : Int) - 0).toNat) (fun i σ H' => ∃ y3, σ = [some v, some (.ref G), some (.ref S), y3] ∧ Same H H' ∧ Td H' (rowsD rows) v ∧ LstD (rows.map fun l => qd (gap l)) (.ref G) H' ∧ ∃ us, H' S = some (.lst us) ∧ Tds H' [qd (aheadR (rows.take i)), qd (behindR (rows.take i)), qd (endedR (rows.take i))] us) ?_ ?_ ?_⟩
    · exact ⟨none, rfl, (s1.trans s12).trans s4, mono_da _ _ _ s4 hv3, ⟨G, gs, rfl, s4 _ _ hG, Tds.keep (.of s4) _ _ tG⟩, xs, s4 _ _ hS, Tds.keep (.of s4) _ _ t3⟩
    · rintro i σ H5 hi ⟨y3, rfl, s5, hv5, hG5, us, hS5, t5⟩
      have hi : i < rows.length := by
        rw [List.length_map] at hi
        omega
      have hl' : rows[i]? = some rows[i] := List.getElem?_eq_getElem hi
      have hlm : rows[i] ∈ rows := List.getElem_mem hi
      generalize rows[i] = l at hl' hlm
      obtain ⟨u0, w0, rfl, ta, t5⟩ := t5.un
      obtain ⟨u1, w1, rfl, tb, t5⟩ := t5.un
      obtain ⟨u2, w2, rfl, te, t5⟩ := t5.un
      obtain rfl := t5.nil'
      have okT := ok.take i
      have ba := bd_ahead okT
      have bb := bd_behind okT
      have be := bd_ended okT
      have bg := bd_gap (ok.2 l hlm)
      have ek : V.int ((0 : Int) + (i : Nat)) = .int (i : Int) := by rw [Int.zero_add]
      have hld : (rows.map ld)[i]? = some (ld l) := by rw [List.getElem?_map, hl']; rfl
      have hgp : (rows.map fun l => qd (gap l))[i]? = some (qd (gap l)) := by rw [List.getElem?_map, hl']; rfl
      have tk : rows.take (i + 1) = rows.take i ++ [l] := take_snoc hl'
      have fin : ∀ (ws : List V) (H7 : Hp), Same H5 H7 → (∃ us, H7 S = some (.lst us)) → Tds (upd H7 S (.lst ws)) [qd (aheadR (rows.take (i + 1))), qd (behindR (rows.take (i + 1))), qd (endedR (rows.take (i + 1)))] ws →
          Same H (upd H7 S (.lst ws)) ∧ Td (upd H7 S (.lst ws)) (rowsD rows) v ∧ LstD (rows.map fun l => qd (gap l)) (.ref G) (upd H7 S (.lst ws)) ∧ ∃ us, (upd H7 S (.lst ws)) S = some (.lst us) ∧ Tds (upd H7 S (.lst ws)) [qd (aheadR (rows.take (i + 1))), qd (behindR (rows.take (i + 1))), qd (endedR (rows.take (i + 1)))] us := fun ws H7 s7 ⟨us7, h7⟩ tw => by
        have kp : TupK H7 (upd H7 S (.lst ws)) := .app h7
        obtain ⟨G', gs', e, hG', tG'⟩ := hG5
        cases e
        exact ⟨same_put (s5.trans s7) nS, Td.keep ((TupK.of s7).trans kp) _ _ hv5, ⟨G, gs', rfl, by rw [upd_ne neG]; exact s7 _ _ hG', Tds.keep ((TupK.of s7).trans kp) _ _ tG'⟩, ws, upd_same, tw⟩
      refine b_ifE (k := !l.on) (et_not (et_v (Ev.ofBool (ev_ixD (j := 3) (ev_ixD (j := i) (ev_v (pv 0) rfl hv5 mono_da) (Ev.is (ev_vi (pv 3) rfl) ek) hld) (ev_c pe_int) rfl)))) (fun hk H6 s6 => ?_) (fun hk H6 s6 => ?_)
      · have on : ¬ l.on = true := by
          intro z
          rw [z] at hk
          cases hk
        refine b_lput (k := 2) (j := 2) (ev_plus GP (r := endedR (rows.take i)) (s := gap l) (ev_ixLD (j := 2) (ds := [qd (aheadR (rows.take i)), qd (behindR (rows.take i)), qd (endedR (rows.take i))]) (ev_v (pv 2) rfl ⟨S, _, rfl, s6 _ _ hS5, Tds.keep (.of s6) _ _ (.cons ta (.cons tb (.cons te .nil)))⟩ mono_lstD) (ev_c pe_int) rfl) (ev_ixLD (j := i) (ev_v (pv 1) rfl (mono_lstD _ _ _ s6 hG5) mono_lstD) (Ev.is (ev_vi (pv 3) rfl) ek) hgp) (be.mono (by decide)) (bg.mono (by decide))) mono_da (ev_vi (pv 2) rfl) (ev_c pe_int) (s6 _ _ hS5) rfl fun vz H7 s7 hz => b_nil (b_nil ⟨_, rfl, fin [u0, u1, vz] H7 (s6.trans s7) ⟨_, s7 _ _ (s6 _ _ hS5)⟩ ?_⟩)
        have kp : TupK H5 (upd H7 S (.lst [u0, u1, vz])) := (TupK.of (s6.trans s7)).trans (.app (s7 _ _ (s6 _ _ hS5)))
        have kp7 : TupK H7 (upd H7 S (.lst [u0, u1, vz])) := .app (s7 _ _ (s6 _ _ hS5))
        rw [tk, ahead_snoc, behind_snoc, ended_snoc, if_neg (fun z => on z.1), if_neg (fun z => on z.1), if_neg on]
        exact .cons (Td.keep kp _ _ ta) (.cons (Td.keep kp _ _ tb) (.cons (Td.keep kp7 _ _ hz) .nil))
      · have on : l.on = true := by
          cases e : l.on with
          | true => rfl
          | false =>
            rw [e] at hk
            cases hk
        refine b_ifE (CC.et (c_I op_gt (nomark _) (ev_q0 (r := gap l) (ev_ixLD (j := i) (ev_v (pv 1) rfl (mono_lstD _ _ _ s6 hG5) mono_lstD) (Ev.is (ev_vi (pv 3) rfl) ek) hgp) (ev_c pe_int)) (ev_c pe_int))) (fun hg H7 s7 => ?_) (fun hg H7 s7 => ?_)
        · have pos : 0 < gap l := num_pos_iff.mpr (of_decide_eq_true hg)
          have s67 := s6.trans s7
          refine b_lput (k := 0) (j := 0) (ev_plus GP (r := aheadR (rows.take i)) (s := gap l) (ev_ixLD (j := 0) (ds := [qd (aheadR (rows.take i)), qd (behindR (rows.take i)), qd (endedR (rows.take i))]) (ev_v (pv 2) rfl ⟨S, _, rfl, s67 _ _ hS5, Tds.keep (.of s67) _ _ (.cons ta (.cons tb (.cons te .nil)))⟩ mono_lstD) (ev_c pe_int) rfl) (ev_ixLD (j := i) (ev_v (pv 1) rfl (mono_lstD _ _ _ s67 hG5) mono_lstD) (Ev.is (ev_vi (pv 3) rfl) ek) hgp) (ba.mono (by decide)) (bg.mono (by decide))) mono_da (ev_vi (pv 2) rfl) (ev_c pe_int) (s67 _ _ hS5) rfl fun vz H8 s8 hz => b_nil (b_nil (b_nil ⟨_, rfl, fin [vz, u1, u2] H8 (s67.trans s8) ⟨_, s8 _ _ (s67 _ _ hS5)⟩ ?_⟩))
          have kp : TupK H5 (upd H8 S (.lst [vz, u1, u2])) := (TupK.of (s67.trans s8)).trans (.app (s8 _ _ (s67 _ _ hS5)))
          have kp8 : TupK H8 (upd H8 S (.lst [vz, u1, u2])) := .app (s8 _ _ (s67 _ _ hS5))
          rw [tk, ahead_snoc, behind_snoc, ended_snoc, if_pos ⟨on, pos⟩, if_neg (fun z => z.2 pos), if_pos on]
          exact .cons (Td.keep kp8 _ _ hz) (.cons (Td.keep kp _ _ tb) (.cons (Td.keep kp _ _ te) .nil))
        · have pos : ¬ 0 < gap l := fun z => of_decide_eq_false hg (num_pos_iff.mp z)
          have s67 := s6.trans s7
          refine b_lput (k := 1) (j := 1) (ev_minus GM (r := behindR (rows.take i)) (s := gap l) (ev_ixLD (j := 1) (ds := [qd (aheadR (rows.take i)), qd (behindR (rows.take i)), qd (endedR (rows.take i))]) (ev_v (pv 2) rfl ⟨S, _, rfl, s67 _ _ hS5, Tds.keep (.of s67) _ _ (.cons ta (.cons tb (.cons te .nil)))⟩ mono_lstD) (ev_c pe_int) rfl) (ev_ixLD (j := i) (ev_v (pv 1) rfl (mono_lstD _ _ _ s67 hG5) mono_lstD) (Ev.is (ev_vi (pv 3) rfl) ek) hgp) (bb.mono (by decide)) (bg.mono (by decide))) mono_da (ev_vi (pv 2) rfl) (ev_c pe_int) (s67 _ _ hS5) rfl fun vz H8 s8 hz => b_nil (b_nil (b_nil ⟨_, rfl, fin [u0, vz, u2] H8 (s67.trans s8) ⟨_, s8 _ _ (s67 _ _ hS5)⟩ ?_⟩))
          have kp : TupK H5 (upd H8 S (.lst [u0, vz, u2])) := (TupK.of (s67.trans s8)).trans (.app (s8 _ _ (s67 _ _ hS5)))
          have kp8 : TupK H8 (upd H8 S (.lst [u0, vz, u2])) := .app (s8 _ _ (s67 _ _ hS5))
          rw [tk, ahead_snoc, behind_snoc, ended_snoc, if_neg (fun z => pos z.2), if_pos ⟨on, pos⟩, if_pos on]
          exact .cons (Td.keep kp _ _ ta) (.cons (Td.keep kp8 _ _ hz) (.cons (Td.keep kp _ _ te) .nil))
    · rintro σ H5 ⟨y3, rfl, s5, hv5, hG5, us, hS5, t5⟩
      have e : (((rows.map ld).length : Int) - 0).toNat = rows.length := by
        rw [List.length_map]
        omega
      rw [e, List.take_length] at t5
      exact b_retE (ev_tupleL zt (ev_v (pv 2) rfl ⟨S, us, rfl, hS5, t5⟩ mono_lstD)) fun v6 H6 s6 h6 => k v6 H6 (s5.trans s6) h6
end
end Kn

namespace Kn
open PySem PySem.Spec PyProof.Rows L2 Cb
section
variable {P : Program} {w : World} {K : PySem.W.Frag} {mg : Str → Option Value} {base : Heap}
theorem ok_near {f : Addr} {fd : FuncData} (F : Fun K "_law_is_near" "_law_is_near" sIsNear f fd) (LB : LD P w K mg base "_law_between" 2 ["_law_count", "_law_value"] spIsR) (LT : LD P w K mg base "_law_total" 3 ["_law_values"] spTot) (zs : mg "sum" = none) : FnOk P w K mg base CX0 4 f fd ["_law_here"] spClose := by
  refine F.ok scNear (fun vs H Q E h => ?_) (fun cdv A outer s H vs Q E hr h => ?_)
  · obtain ⟨d, ⟨⟨v, rfl, _⟩, _⟩, _⟩ := h
    rfl
  · obtain ⟨rows, ⟨⟨v, rfl, hv⟩, ok⟩, k⟩ := h
    obtain ⟨fB, fdB, GB⟩ := LD.g (X := (cxOf CX0 P w K mg base ["_law_here", "_law_row"] "_law_is_near" (defScope sIsNear) f cdv A outer s H E).nox) LB hr (by decide)
    obtain ⟨fT, fdT, GT⟩ := LD.g (X := (cxOf CX0 P w K mg base ["_law_here", "_law_row"] "_law_is_near" (defScope sIsNear) f cdv A outer s H E).nox) LT hr (by decide)
    have hl := ok.1
    have un := hr.units
    have en : (((rows.filter fun l => !btw l.ct l.ex).map ld).isEmpty) = rows.all fun l => btw l.ct l.ex := by
      rw [map_empty]
      exact none_all
    refine ⟨_, pw_B, ?_⟩
    refine b_ifE (k := !((rows.filter fun l => !btw l.ct l.ex).map ld).isEmpty) (CC.et (c_neNil un (ev_fT (enc := ld) (as := rows) (p := fun l => !btw l.ct l.ex) (f := ld) (i := 1) rfl scNear.nd (blkOk_by (N := ["_law_here", "_law_row"]) (sc := defScope sIsNear) (by decide +kernel)) (fun _ _ _ _ _ => pg_name (i := 1) scNear.nd rfl (Or.inl rfl)) (ev_v (pv 0) rfl hv mono_da) (by omega) (fun l v' H' hm sx td s' H0 C cl fp => et_not (et_v (ev_btw (gdef_blk GB) (Ev.ofInt (ev_ixD (j := 2) (ev_v (pv 1) rfl td mono_da) (ev_c pe_int) rfl)) (ev_ixD (j := 1) (ev_v (pv 1) rfl td mono_da) (ev_c pe_int) rfl) ((ok.2 l hm).2.2.1.mono (by decide))))) (fun l v' H' hm hp sx td s' H0 C cl fp => ev_v (pv 1) rfl td mono_da)) (fun d hd => by
      obtain ⟨l, _, rfl⟩ := List.mem_map.mp hd
      exact plain_ld l) (fun d hd => by
      obtain ⟨l, _, rfl⟩ := List.mem_map.mp hd
      exact depth_ld l))) (fun hk H1 s1 => ?_) (fun hk H1 s1 => b_nil ?_)
    · rw [en] at hk
      have z : (rows.all fun l => btw l.ct l.ex) = false := by
        cases e : rows.all (fun l => btw l.ct l.ex) with
        | false => rfl
        | true =>
          rw [e] at hk
          cases hk
      refine b_retE (ev_c pe_bl) fun v H2 s2 e => ?_
      cases e
      refine k _ H2 (s1.trans s2) ?_
      show V.bl false = V.bl (near rows)
      unfold near
      rw [z, Bool.false_and]
    · rw [en] at hk
      have z : (rows.all fun l => btw l.ct l.ex) = true := by
        cases e : rows.all (fun l => btw l.ct l.ex) with
        | true => rfl
        | false =>
          rw [e] at hk
          cases hk
      have hv1 := mono_da _ _ _ s1 hv
      refine b_retE (ev_btw GB (ev_sum (ns := rows.map fun l => l.ct) rfl zs ?_) (ev_total GT (rs := rows.map fun l => l.ex) ?_ (ex_ok ok).1 (Nat.le_trans (ex_ok ok).2 (by decide))) ((bd_sum8 (ex_ok ok).1 (ex_ok ok).2).mono (by decide))) fun v H2 s2 h => k v H2 (s1.trans s2) ?_
      · rw [List.map_map]
        exact ev_mT (enc := ld) (as := rows) (i := 1) rfl scNear.nd (blkOk_by (N := ["_law_here", "_law_row"]) (sc := defScope sIsNear) (by decide +kernel)) (fun _ _ _ _ _ => pg_name (i := 1) scNear.nd rfl (Or.inl rfl)) (ev_v (pv 0) rfl hv1 mono_da) (by omega) fun l v H' hm sx td s' H0 C cl fp => ev_ixD (j := 2) (ev_v (pv 1) rfl td mono_da) (ev_c pe_int) rfl
      · rw [List.map_map]
        exact ev_mT (enc := ld) (as := rows) (i := 1) rfl scNear.nd (blkOk_by (N := ["_law_here", "_law_row"]) (sc := defScope sIsNear) (by decide +kernel)) (fun _ _ _ _ _ => pg_name (i := 1) scNear.nd rfl (Or.inl rfl)) (ev_v (pv 0) rfl hv1 mono_da) (by omega) fun l v H' hm sx td s' H0 C cl fp => ev_ixD (j := 1) (ev_v (pv 1) rfl td mono_da) (ev_c pe_int) rfl
      · have h : v = .bl (btw (rows.map fun l => l.ct).sum (sumQ (rows.map fun l => l.ex))) := h
        show v = .bl (near rows)
        unfold near
        rw [z, Bool.true_and]
        exact h
theorem ok_free {f : Addr} {fd : FuncData} (F : Fun K "_law_is_free" "_law_is_free" sIsFree f fd) (LS : LD P w K mg base "_law_scales" 4 ["_law_here"] spScales) (LP : LD P w K mg base "_law_plus" 2 ["_law_one", "_law_other"] (spQ2 fun r q => r + q)) (LM : LD P w K mg base "_law_minus" 2 ["_law_one", "_law_other"] (spQ2 fun r q => r - q)) (LN : LD P w K mg base "_law_is_near" 4 ["_law_here"] spClose)
    (LL : LD P w K mg base "_law_less" 1 ["_law_one", "_law_other"] spLLess) : FnOk P w K mg base CX0 5 f fd ["_law_here"] spOpen := by
  refine F.ok scFree (fun vs H Q E h => ?_) (fun cdv A outer s H vs Q E hr h => ?_)
  · obtain ⟨d, ⟨⟨v, rfl, _⟩, _⟩, _⟩ := h
    rfl
  · obtain ⟨rows, ⟨⟨v, rfl, hv⟩, ok⟩, k⟩ := h
    obtain ⟨fA, fdA, GA⟩ := LD.g (X := (cxOf CX0 P w K mg base NFr "_law_is_free" (defScope sIsFree) f cdv A outer s H E).nox) LS hr (by decide)
    obtain ⟨fS, fdS, GS⟩ := LD.g (X := (cxOf CX0 P w K mg base NFr "_law_is_free" (defScope sIsFree) f cdv A outer s H E).nox) LP hr (by decide)
    obtain ⟨fL, fdL, GL⟩ := LD.g (X := (cxOf CX0 P w K mg base NFr "_law_is_free" (defScope sIsFree) f cdv A outer s H E).nox) LM hr (by decide)
    obtain ⟨fC, fdC, GC⟩ := LD.g (X := (cxOf CX0 P w K mg base NFr "_law_is_free" (defScope sIsFree) f cdv A outer s H E).nox) LN hr (by decide)
    obtain ⟨fB, fdB, GB⟩ := LD.g (X := (cxOf CX0 P w K mg base NFr "_law_is_free" (defScope sIsFree) f cdv A outer s H E).nox) LL hr (by decide)
    have un := hr.units
    have ba := bd_ahead ok
    have bb := bd_behind ok
    have be := bd_ended ok
    refine ⟨_, pw_B, ?_⟩
    refine b_asgE (pg_tup rfl (pgs_cons (pg_name (i := 1) scFree.nd rfl (.inl rfl)) (pgs_cons (pg_name (i := 2) scFree.nd rfl (.inl rfl)) (pgs_cons (pg_name (i := 3) scFree.nd rfl (.inl rfl)) pgs_nil)))) (ev_scales GA (ev_v (pv 0) rfl hv mono_da) ok) fun u H1 s1 hu => ?_
    obtain ⟨q, xs, rfl, hq, t⟩ := Td.un hu
    obtain ⟨x1, r1, rfl, t1, t⟩ := t.un
    obtain ⟨x2, r2, rfl, t2, t⟩ := t.un
    obtain ⟨x3, r3, rfl, t3, t⟩ := t.un
    obtain rfl := t.nil'
    refine ⟨q, _, rfl, .of hq, rfl, _, _, rfl, _, _, rfl, _, _, rfl, rfl, ?_⟩
    refine b_setE (i := 4) scFree.nd rfl (.inl rfl) (ev_lstD (ds := (four rows).map qd) (ed_cons (ev_v (pv 1) rfl t1 mono_da) (ed_cons (ev_v (pv 2) rfl t2 mono_da) (ed_cons (ev_plus GS (ev_v (pv 1) rfl t1 mono_da) (ev_v (pv 3) rfl t3 mono_da) (ba.mono (by decide)) (be.mono (by decide))) (ed_cons (ev_minus GL (ev_v (pv 2) rfl t2 mono_da) (ev_v (pv 3) rfl t3 mono_da) (bb.mono (by decide)) (be.mono (by decide))) ed_nil)))) (by show 4 ≤ 1000; decide)) fun v2 H2 s2 h2 => ?_
    have hv2 := mono_da _ _ _ (s1.trans s2) hv
    have en : (((four rows).filter fun r => !decide (r < 1)).map qd).isEmpty = (four rows).all fun r => decide (r < 1) := by
      rw [map_empty]
      exact none_all
    refine b_retE (ev_and (ev_near GC (ev_v (pv 0) rfl hv2 mono_da) ok) fun _ => ev_and1 (CC.ev (c_eqNil (ds := ((four rows).filter fun r => !decide (r < 1)).map qd) un (ev_fL (enc := qd) (as := four rows) (p := fun r => !decide (r < 1)) (f := qd) (i := 5) rfl scFree.nd (blkOk_by (N := NFr) (sc := defScope sIsFree) (by decide +kernel)) (fun _ _ _ _ _ => pg_name (i := 5) scFree.nd rfl (Or.inl rfl)) (ev_v (pv 4) rfl h2 mono_lstD) (by show 4 ≤ 1000; decide) (fun r v H' hm sx td s' H0 C cl fp => et_not (et_v (ev_lless (s := 1) (gdef_blk GB) (ev_v (pv 5) rfl td mono_da) (ev_lit 3 rfl) (four_bd ok r hm) ⟨by decide, by decide⟩))) (fun r v H' hm hp sx td s' H0 C cl fp => ev_v (pv 5) rfl td mono_da)) (fun d hd => by
      obtain ⟨l, _, rfl⟩ := List.mem_map.mp hd
      exact plain_qd l) (fun d hd => by
      obtain ⟨l, _, rfl⟩ := List.mem_map.mp hd
      exact depth_qd l)))) fun v3 H3 s3 h3 => k v3 H3 ((s1.trans s2).trans s3) ?_
    rw [en] at h3
    exact h3
end
end Kn

namespace Cb
open PySem PySem.Spec PyProof.Rows L2
section
variable {X : Cx} {a b e o : Expr} {σ : L2.St} {H : Hp} {ds es' : List PyData} {pos p apos cpos : Pos} {sts : List Stmt} {D : Ends} {i : Nat} {S : Addr}
theorem ev_catT (ha : Ev X σ H a (Da (.tuple ds))) (hb : Ev X σ H b (Da (.tuple es'))) (h1 : ds.length ≤ 1000) (h2 : es'.length ≤ 1000) : Ev X σ H (.BinOp a .Add b pos) (Da (.tuple (ds ++ es'))) := by
  refine ev_op op_catA ha hb mono_da (fun x y H2 s2 px py => ?_) (fun x y H2 Q Q' k ⟨l, n, xs, zs, h1, h2, h3, h4, h5, q0, q1, q2⟩ => ⟨l, n, xs, zs, h1, h2, h3, h4, h5, fun e => k _ _ (q0 e), fun e1 e2 => k _ _ (q1 e1 e2), fun e1 e2 p hp => k _ _ (q2 e1 e2 p hp)⟩)
  obtain ⟨q, xs, rfl, hq, t⟩ := Td.un px
  obtain ⟨q', ys, rfl, hq', t'⟩ := Td.un py
  refine ⟨q, q', xs, ys, rfl, rfl, .of hq, .of hq', ?_, fun ex => ⟨.refl _, ?_⟩, fun ex ey => ⟨.refl _, ?_⟩, fun ex ey p hp => ⟨same_new hp, .mk upd_same (Tds.keep (.of (same_new hp)) _ _ (t.app t'))⟩⟩
  · rw [t.len, t'.len]
    exact Nat.le_trans (Nat.add_le_add h1 h2) (by decide)
  · subst ex
    have e : ds = [] := List.eq_nil_of_length_eq_zero t.len.symm
    subst e
    exact .mk hq' t'
  · subst ey
    have e : es' = [] := List.eq_nil_of_length_eq_zero t'.len.symm
    subst e
    rw [List.append_nil]
    exact .mk hq t
/-- o.extend(e), o a variable that is a tracked list -/
theorem b_extW {us0 : List V} (hp : PE X o (tVar i)) (hσ : σ[i]? = some (some (.ref S))) (hS0 : H S = some (.lst us0)) (he : wE X e σ H fun v H' => ∃ B us zs, v = .ref B ∧ H' S = some (.lst us) ∧ H' B = some (.lst zs) ∧ us.length + zs.length ≤ 100000 ∧ wB X sts D σ (upd H' S (.lst (us ++ zs))))
    (hb : attributeBase o "extend" X.env (eval o X.env) = eval o X.env := by rfl) (hl : (apos.endLine == cpos.line) = true := by rfl) (hs : starEach [e] X.env = (false, eval e X.env) :: starEach [] X.env := by rfl)
    (hfew : ((backTo cpos (starEach [e] X.env)).all (fun x => !x.1) && (backToKw cpos (keywordEach [] X.env)).all (fun x => x.1.isSome) && decide (([e] : List Expr).length + ([] : List Keyword).length + (if ([] : List Keyword).isEmpty then 0 else 1) < 30)) = true := by rfl) (hpl : (backTo cpos (starEach [] X.env)).any (·.1) = false := by rfl)
    (hsw : swapsWith (.Call (.Attribute o "extend" apos) [e] [] cpos) none pos.line X.env = pure false := by rfl) : wB X (.Expr (.Call (.Attribute o "extend" apos) [e] [] cpos) pos :: sts) D σ H := by
  refine b_cons (w_S (ps_expr (pe_bm PySem.F.plainAttrs_list PySem.F.slot_list_extend PySem.F.type_list_extend mt_extend hp (pa_cons pw_E pa_nil hs) (hbase := hb) (hfew := hfew) (hline := hl) (hs := hs) (hplain := hpl)) hsw) ?_)
  refine ⟨_, hσ, .inl ⟨rfl, _, SqL.of hS0⟩, wE_mono he fun v H1 ⟨B, us, zs, e, h1, h2, h3, h4⟩ => ?_⟩
  subst e
  exact ⟨S, B, us, zs, rfl, rfl, h1, h2, Nat.le_trans h3 (by decide), h4⟩
end
/-- lists of ints, place by place -/
def LsAt (H : Hp) : List (List Int) → List V → Prop
  | [], us => us = []
  | ns :: nss, us => ∃ q r, us = .ref q :: r ∧ H q = some (.lst (ns.map V.int)) ∧ LsAt H nss r
theorem LsAt.keep {H H' : Hp} (s : Same H H') : ∀ {nss : List (List Int)} {us : List V}, LsAt H nss us → LsAt H' nss us
  | [], us, h => h
  | ns :: nss, us, ⟨q, r, e, h, t⟩ => ⟨q, r, e, s _ _ h, LsAt.keep s t⟩
theorem LsAt.len {H : Hp} : ∀ {nss : List (List Int)} {us : List V}, LsAt H nss us → us.length = nss.length
  | [], us, h => by
    rw [show us = [] from h]
    rfl
  | ns :: nss, us, ⟨q, r, e, h, t⟩ => by
    subst e
    rw [List.length_cons, List.length_cons, LsAt.len t]
theorem LsAt.at {H : Hp} : ∀ {nss : List (List Int)} {us : List V} {i : Nat} {v : V}, LsAt H nss us → us[i]? = some v → ∃ q ns, v = .ref q ∧ nss[i]? = some ns ∧ H q = some (.lst (ns.map V.int))
  | [], us, i, v, h, e => by
    rw [show us = [] from h] at e
    simp at e
  | ns :: nss, us, i, v, ⟨q, r, e, h, t⟩, ei => by
    subst e
    cases i with
    | zero =>
      cases ei
      exact ⟨q, ns, rfl, rfl, h⟩
    | succ i => exact LsAt.at (nss := nss) (us := r) (i := i) t (by simpa using ei)
theorem LsAt.snoc {H : Hp} {ns : List Int} {q : Addr} : ∀ {nss : List (List Int)} {us : List V}, LsAt H nss us → H q = some (.lst (ns.map V.int)) → LsAt H (nss ++ [ns]) (us ++ [.ref q])
  | [], us, h, hq => by
    rw [show us = [] from h]
    exact ⟨q, [], rfl, hq, rfl⟩
  | ns' :: nss, us, ⟨q', r, e, h, t⟩, hq => by
    subst e
    exact ⟨q', _, rfl, h, LsAt.snoc t hq⟩
def LstL (nss : List (List Int)) : Pd := fun v H => ∃ S us, v = .ref S ∧ H S = some (.lst us) ∧ LsAt H nss us
theorem mono_lstL {nss : List (List Int)} : Mono (LstL nss) := fun v H H' s ⟨S, us, e, h, t⟩ => ⟨S, us, e, s _ _ h, t.keep s⟩
end Cb
namespace Kn
open PySem PySem.Spec PyProof.Rows L2 Cb
/-! ### all choices -/
def longer (found : List (List Int)) (row : List Int) : List (List Int) := found.flatMap fun s => row.map fun v => s ++ [v]
def chooseL (nss : List (List Int)) : List (List Int) := nss.foldl longer [[]]
theorem choose_snoc {nss : List (List Int)} {ns : List Int} : chooseL (nss ++ [ns]) = longer (chooseL nss) ns := by
  unfold chooseL
  rw [List.foldl_append]
  rfl
theorem longer_len {found : List (List Int)} {row : List Int} (h : row.length ≤ 2) : (longer found row).length ≤ 2 * found.length := by
  unfold longer
  induction found with
  | nil => simp
  | cons a l ih =>
    rw [List.flatMap_cons, List.length_append, List.length_map, List.length_cons]
    omega
theorem longer_snoc {l : List (List Int)} {a row : List Int} : longer (l ++ [a]) row = longer l row ++ row.map fun v => a ++ [v] := by
  unfold longer
  rw [List.flatMap_append]
  simp
theorem choose_len : ∀ (n : Nat) (nss : List (List Int)), nss.length = n → (∀ ns ∈ nss, ns.length ≤ 2) → (chooseL nss).length ≤ 2 ^ n
  | 0, nss, h, _ => by
    rw [List.eq_nil_of_length_eq_zero h]
    decide
  | n + 1, nss, h, hb => by
    have hne : nss ≠ [] := fun e => by
      rw [e] at h
      cases h
    have e := (List.dropLast_concat_getLast hne).symm
    have ih := choose_len n nss.dropLast (by rw [List.length_dropLast]; omega) fun ns hn => hb ns (List.dropLast_subset _ hn)
    rw [e, choose_snoc]
    have := longer_len (found := chooseL nss.dropLast) (hb (nss.getLast hne) (List.getLast_mem hne))
    rw [Nat.pow_succ]
    omega
theorem choose_el : ∀ (n : Nat) (nss : List (List Int)), nss.length = n → ∀ c ∈ chooseL nss, c.length = n
  | 0, nss, h, c, hc => by
    rw [List.eq_nil_of_length_eq_zero h] at hc
    rw [List.mem_singleton.mp hc]
    rfl
  | n + 1, nss, h, c, hc => by
    have hne : nss ≠ [] := fun e => by
      rw [e] at h
      cases h
    rw [(List.dropLast_concat_getLast hne).symm, choose_snoc] at hc
    obtain ⟨s, hs, hc⟩ := List.mem_flatMap.mp hc
    obtain ⟨v, _, rfl⟩ := List.mem_map.mp hc
    rw [List.length_append, choose_el n nss.dropLast (by rw [List.length_dropLast]; omega) s hs]
    rfl
def spChoices : Sp := spP (fun (nss : List (List Int)) vs H => (∃ v, vs = [v] ∧ LstL nss v H) ∧ nss.length ≤ 8 ∧ ∀ ns ∈ nss, ns.length ≤ 2) (fun nss => LstD ((chooseL nss).map rowI))
abbrev NCh : List Str := ["_law_rows", "_law_found", "_law_row", "_law_longer", "_law_some", "_law_value"]
theorem scChoices : FnScope NCh ["_law_rows"] (defScope sChoices) := ⟨rfl, rfl, rfl, by decide +kernel, rfl, by decide +kernel, by decide +kernel⟩
def ways1 (r : Rat) : List Int := if dn r = upp r then [dn r] else [dn r, upp r]
def spWays : Sp := spP (fun (rs : List Rat) vs H => (∃ v, vs = [v] ∧ LstD (rs.map qd) v H) ∧ rs.length ≤ 8 ∧ ∀ r ∈ rs, Bd 2000 r) (fun rs => LstD ((chooseL (rs.map ways1)).map rowI))
theorem scWays : FnScope ["_law_values", "_law_value"] ["_law_values"] (defScope sRoundWays) := ⟨rfl, rfl, rfl, by decide +kernel, rfl, by decide +kernel, by decide +kernel⟩
theorem dn_le (r : Rat) : dn r ≤ upp r := by
  unfold dn upp
  have h := den_pos r
  rw [Int.fdiv_eq_ediv_of_nonneg _ (by omega), Int.fdiv_eq_ediv_of_nonneg _ (by omega)]
  have h1 := Int.ediv_mul_le r.num (show (r.den : Int) ≠ 0 by omega)
  have h2 := Int.ediv_mul_le (-r.num) (show (r.den : Int) ≠ 0 by omega)
  have h3 : (r.num / (r.den : Int) + (-r.num) / (r.den : Int)) * (r.den : Int) ≤ 0 := by
    rw [Int.add_mul]
    omega
  have h4 : r.num / (r.den : Int) + (-r.num) / (r.den : Int) ≤ 0 := by
    apply Int.not_lt.mp
    intro z
    have := Int.mul_pos z h
    omega
  omega
section
variable {P : Program} {w : World} {K : PySem.W.Frag} {mg : Str → Option Value} {base : Heap}
theorem ok_choices {f : Addr} {fd : FuncData} (F : Fun K "_law_choices" "_law_choices" sChoices f fd) : FnOk P w K mg base CX0 1 f fd ["_law_rows"] spChoices := by
  refine F.ok scChoices (fun vs H Q E h => ?_) (fun cdv A outer s H vs Q E hr h => ?_)
  · obtain ⟨d, ⟨⟨v, rfl, _⟩, _⟩, _⟩ := h
    rfl
  · obtain ⟨nss, ⟨⟨v, rfl, R, rs, rfl, hR, tR⟩, n8, h2⟩, k⟩ := h
    refine ⟨_, pw_B, ?_⟩
    refine b_setE (i := 1) scChoices.nd rfl (.inl rfl) (ev_litL (ds := [rowI []]) 3 rfl (by show 1 ≤ 1000; decide)) fun v1 H1 s1 h1 => ?_
    have lr : rs.length = nss.length := tR.len
    refine b_for rfl (pi_list (pv 0)) (pg_name (i := 2) scChoices.nd rfl (.inl rfl)) ?_ PassesOwn.never
    refine ⟨_, rfl, R, rfl, ⟨_, SqL.of (s1 _ _ hR)⟩, for_list (K := K) (a := R) (xs := rs) (fun i σ H' => ∃ u y2 y3 y4, σ = [some (.ref R), some u, y2, y3, y4, none] ∧ Same H H' ∧ LstD ((chooseL (nss.take i)).map rowI) u H') ⟨v1, none, none, none, rfl, s1, h1⟩ (fun i σ H' _ ⟨_, _, _, _, _, sx, _⟩ => SqL.of (sx _ _ hR)) ?_ ?_⟩
    · rintro i x σ H2 hx ⟨u, y2, y3, y4, rfl, s2, S, us, rfl, hS, tS⟩
      obtain ⟨q, ns, rfl, hn, hq⟩ := tR.at hx
      have hi : i < nss.length := (List.getElem?_eq_some_iff.mp hn).1
      have hnm := List.mem_of_getElem? hn
      have hq2 := s2 _ _ hq
      have lc : (chooseL (nss.take i)).length ≤ 256 := Nat.le_trans (choose_len i (nss.take i) (by rw [List.length_take]; omega) fun m hm => h2 m (List.mem_of_mem_take hm)) (Nat.pow_le_pow_right (by decide) (show i ≤ 8 by omega))
      have lus : us.length = (chooseL (nss.take i)).length := by rw [tS.len, List.length_map]
      refine b_newL (i := 3) scChoices.nd rfl (.inl rfl) fun L nL => ?_
      have sL : Same H2 (upd H2 L (.lst [])) := same_new nL
      have hL : (upd H2 L (.lst [])) L = some (.lst []) := upd_same
      have nLH : H L = none := none_back s2 nL
      generalize upd H2 L (.lst []) = H3 at sL hL ⊢
      refine b_for rfl (pi_list (pv 1)) (pg_name (i := 4) scChoices.nd rfl (.inr rfl)) ?_ PassesOwn.never
      refine ⟨_, rfl, S, rfl, ⟨_, SqL.of (sL _ _ hS)⟩, for_list (K := K) (a := S) (xs := us) (fun j σ H' => ∃ y4, σ = [some (.ref R), some (.ref S), some (.ref q), some (.ref L), y4, none] ∧ Same H2 H' ∧ ∃ ls, H' L = some (.lst ls) ∧ Tds H' ((longer ((chooseL (nss.take i)).take j) ns).map rowI) ls) ⟨y4, rfl, sL, [], hL, .nil⟩ (fun j σ H' _ ⟨_, _, sx, _⟩ => SqL.of (sx _ _ hS)) ?_ ?_⟩
      · rintro j y σ H4 hy ⟨z4, rfl, s4, ls, hL4, tL4⟩
        obtain ⟨d, hd, td⟩ := tS.at' hy
        obtain ⟨c, hc, rfl⟩ := map_at hd
        have hj : j < (chooseL (nss.take i)).length := (List.getElem?_eq_some_iff.mp hc).1
        have lcc : c.length ≤ 8 := by
          rw [choose_el i (nss.take i) (by rw [List.length_take]; omega) c (List.mem_of_getElem? hc)]
          omega
        have l4 : ls.length ≤ 600 := by
          rw [tL4.len, List.length_map]
          have a1 := longer_len (found := (chooseL (nss.take i)).take j) (h2 ns hnm)
          have a2 : ((chooseL (nss.take i)).take j).length ≤ 256 := by
            rw [List.length_take]
            omega
          omega
        have nn := h2 ns hnm
        refine b_extW (i := 3) (pv 3) rfl hL4 (w_ev (ev_mL (enc := PyData.int) (as := ns) (f := fun v => rowI (c ++ [v])) (i := 5) rfl scChoices.nd (blkOk_by (N := NCh) (sc := defScope sChoices) (by decide +kernel)) (fun _ _ _ _ _ => pg_name (i := 5) scChoices.nd rfl (Or.inl rfl)) (ev_v (pv 2) rfl ⟨q, _, rfl, s4 _ _ hq2, tds_ints ns⟩ mono_lstD) (by omega) ?_) fun vb H5 s5 ⟨B, zs, eb, hB, tB⟩ => ?_)
        · intro z v' H' hm sx tz s' H0 C cl fp
          obtain rfl := tz.int
          have e : rowI (c ++ [z]) = .tuple (c.map PyData.int ++ [PyData.int z]) := by
            unfold rowI
            rw [List.map_append]
            rfl
          rw [e]
          exact ev_catT (ev_v (pv 4) rfl (Td.keep (.of (s4.trans sx)) _ _ td) mono_da) (ev_tupD (ds := [.int z]) (ed_cons (Ev.int (ev_vi (pv 5) rfl)) ed_nil) (by show 1 ≤ 1000; decide)) (by rw [List.length_map]; omega) (by show 1 ≤ 1000; decide)
        · have hL5 := s5 _ _ hL4
          have lz : zs.length = ns.length := by rw [tB.len, List.length_map]
          refine ⟨B, ls, zs, eb, hL5, hB, by omega, b_nil ⟨_, rfl, same_put (s4.trans s5) nL, ls ++ zs, upd_same, ?_⟩⟩
          have kp : TupK H5 (upd H5 L (.lst (ls ++ zs))) := .put fun xs e => by
            rw [hL5] at e
            cases e
          rw [take_snoc hc, longer_snoc, List.map_append]
          refine (Tds.keep ((TupK.of s5).trans kp) _ _ tL4).app ?_
          rw [List.map_map]
          exact Tds.keep kp _ _ tB
      · rintro σ H4 ⟨z4, rfl, s4, ls, hL4, tL4⟩
        rw [lus, List.take_length] at tL4
        refine b_setE (i := 1) scChoices.nd rfl (.inl rfl) (ev_v (P := LstD ((chooseL (nss.take (i + 1))).map rowI)) (pv 3) rfl ⟨L, ls, rfl, hL4, ?_⟩ mono_lstD) fun v5 H5 s5 h5 => b_nil ⟨v5, _, _, _, rfl, (s2.trans s4).trans s5, h5⟩
        rw [take_snoc hn, choose_snoc]
        exact tL4
    · rintro σ H2 ⟨u, y2, y3, y4, rfl, s2, h⟩
      rw [lr, List.take_length] at h
      exact b_retE (ev_v (pv 1) rfl h mono_lstD) fun v' H' s h => k v' H' (s2.trans s) h
end
end Kn

namespace Cb
open PySem PySem.Spec PyProof.Rows L2
theorem LsAt.put {H : Hp} {M : Addr} {o : HO} : ∀ {nss : List (List Int)} {us : List V}, LsAt H nss us → (∀ u ∈ us, u ≠ .ref M) → LsAt (upd H M o) nss us
  | [], us, h, _ => h
  | ns :: nss, us, ⟨q, r, e, h, t⟩, n => by
    subst e
    have nq : q ≠ M := fun z => n (.ref q) (List.mem_cons_self ..) (by rw [z])
    exact ⟨q, r, rfl, by rw [upd_ne nq]; exact h, LsAt.put t fun u hu => n u (List.mem_cons_of_mem _ hu)⟩
section
variable {X : Cx} {a b hi : Expr} {σ : L2.St} {H : Hp} {ds : List PyData} {p p2 p' : Pos} {k : Nat} {i j : Int}
/-- t[:k] -/
theorem ev_sliceTo (ha : Ev X σ H a (Da (.tuple ds))) (hh : Ev X σ H hi (Is (.int (k : Int)))) : Ev X σ H (.Subscript a (.Slice none (some hi) none p2) p) (Da (.tuple (ds.take k))) :=
  ev_of (pe_slice sl_tupA pw_E po_none (po_some pw_E)) fun H1 s1 => wE_mono (ha H1 s1) fun x H2 ⟨s2, px⟩ => by
    refine wE_mono (hh H2 (s1.trans s2)) fun z H4 ⟨s4, pz⟩ => ⟨_, pz, ?_⟩
    obtain ⟨q, xs, rfl, hq, t⟩ := Td.un px
    have hq4 := s4 _ _ hq
    have t4 := Tds.keep (.of s4) _ _ t
    have st := s2.trans s4
    have e1 : HT.sIx xs.length 0 none = 0 := rfl
    have e2 : HT.sIx xs.length xs.length (some (k : Int)) = min k xs.length := HT.sIx_nat ..
    have cut : cutV xs none (some (k : Int)) = xs.take k := by
      unfold cutV
      rw [e1, e2, List.drop_zero, Nat.sub_zero]
      by_cases h : k ≤ xs.length
      · rw [Nat.min_eq_left h]
      · rw [Nat.min_eq_right (by omega), List.take_length, List.take_of_length_le (by omega)]
    have tc : Tds H4 (ds.take k) (cutV xs none (some (k : Int))) := by
      rw [cut]
      exact t4.take k
    refine ⟨q, xs, rfl, .of hq4, fun ⟨w1, w2⟩ => ⟨st, ?_⟩, fun _ d hd => ⟨st.trans (same_new hd), .mk upd_same (Tds.keep (.of (same_new hd)) _ _ tc)⟩⟩
    refine .mk hq4 ?_
    have all : cutV xs none (some (k : Int)) = xs := by
      unfold cutV
      rw [w1, w2, List.drop_zero, Nat.sub_zero, List.take_length]
    rw [all] at tc
    exact tc
theorem ev_max2 (hc : X.calm = true) (hm : X.mg "max" = none) (ha : Ev X σ H a (Is (.int i))) (hb : Ev X σ H b (Is (.int j))) (hg : Gl X "max" := by rfl) (hs : starEach [a, b] X.env = (false, eval a X.env) :: starEach [b] X.env := by rfl) (hs' : starEach [b] X.env = (false, eval b X.env) :: starEach [] X.env := by rfl)
    (hpl : (backTo p (starEach [b] X.env)).any (·.1) = false := by rfl) : Ev X σ H (.Call (.Name "max" p') [a, b] [] p) (Is (.int (if i < j then j else i))) :=
  ev_cb (call_max2 hc) hm (by decide +kernel) (ea_2 ha mono_is hb mono_is hs hs') (fun vs H2 s h => by
    obtain ⟨v, w, rfl, e1, e2⟩ := h.two
    exact ⟨i, j, by rw [show v = .int i from e1, show w = .int j from e2], .refl _, rfl⟩) (fun vs H2 Q Q' k ⟨i, j, h, q⟩ => ⟨i, j, h, k _ _ q⟩) hg (by decide) (by decide) hs hpl
end
end Cb
namespace Kn
open PySem PySem.Spec PyProof.Rows L2 Cb
def withC (rows : List Ln) (ns : List Int) : List Ln := rows.mapIdx fun i l => ⟨l.nm, l.ex, ns.getD i 0, l.on⟩
def nil0 : Ln := ⟨Str.empty, 0, 0, true⟩
theorem withC_len {rows : List Ln} {ns : List Int} : (withC rows ns).length = rows.length := List.length_mapIdx ..
theorem withC_at {rows : List Ln} {ns : List Int} {i : Nat} {l : Ln} (h : rows[i]? = some l) : (withC rows ns)[i]? = some ⟨l.nm, l.ex, ns.getD i 0, l.on⟩ := by
  unfold withC
  rw [List.getElem?_mapIdx, h]
  rfl
theorem range_map {α β : Type} {l : List α} {f : α → β} {z : α} : (List.range l.length).map (fun k => f ((l[k]?).getD z)) = l.map f := by
  refine List.ext_getElem? fun k => ?_
  rw [List.getElem?_map, List.getElem?_map]
  by_cases h : k < l.length
  · rw [List.getElem?_range h, List.getElem?_eq_getElem h]
    simp [h]
  · rw [List.getElem?_eq_none (by rw [List.length_range]; omega), List.getElem?_eq_none (by omega)]
    rfl
def CountsV (ns : List Int) : Pd := fun v H => LstD (ns.map PyData.int) v H ∨ Td H (.tuple (ns.map PyData.int)) v
theorem mono_counts {ns : List Int} : Mono (CountsV ns) := fun v H H' s h => h.imp (mono_lstD _ _ _ s) (mono_da _ _ _ s)
def spWith : Sp := spP (fun (d : List Ln × List Int) vs H => (∃ v c, vs = [v, c] ∧ Td H (rowsD d.1) v ∧ CountsV d.2 c H) ∧ d.1.length ≤ 20 ∧ d.2.length = d.1.length) (fun d => Da (rowsD (withC d.1 d.2)))
abbrev NWi : List Str := ["_law_here", "_law_counts", "_law_k"]
theorem scWith : FnScope NWi ["_law_here", "_law_counts"] (defScope sWithCounts) := ⟨rfl, rfl, rfl, by decide +kernel, rfl, by decide +kernel, by decide +kernel⟩
/-- a drawn exact sum -/
def ExV : Pd := fun v H => ∃ r : Rat, Td H (qd r) v ∧ 0 ≤ r ∧ Bd 15 r
def spExact : Sp := fun vs H Q _ => ∃ (d c : Addr) (N : Nat), vs = [.ref d] ∧ N + 3 ≤ 5000 ∧ RdN d c N H ∧ ∀ v H', KeepX d H H' → RdN d c (N + 3) H' → ExV v H' → Q v H'
theorem scExact : FnScope ["_law_rng", "_law_under"] ["_law_rng"] (defScope sMakeExact) := ⟨rfl, rfl, rfl, by decide +kernel, rfl, by decide +kernel, by decide +kernel⟩
section
variable {P : Program} {w : World} {K : PySem.W.Frag} {mg : Str → Option Value} {base : Heap}
theorem ok_ways {f : Addr} {fd : FuncData} (F : Fun K "_law_round_ways" "_law_round_ways" sRoundWays f fd) (LC : LD P w K mg base "_law_choices" 1 ["_law_rows"] spChoices) (LDn : LD P w K mg base "_law_down" 1 ["_law_value"] spDn) (LU : LD P w K mg base "_law_up" 1 ["_law_value"] spUp) (zs : mg "sorted" = none) (zt : mg "set" = none) : FnOk P w K mg base CX0 2 f fd ["_law_values"] spWays := by
  refine F.ok scWays (fun vs H Q E h => ?_) (fun cdv A outer s H vs Q E hr h => ?_)
  · obtain ⟨d, ⟨⟨v, rfl, _⟩, _⟩, _⟩ := h
    rfl
  · obtain ⟨es, ⟨⟨v, rfl, R, rs, rfl, hR, tR⟩, e8, eb⟩, k⟩ := h
    obtain ⟨fC, fdC, GC⟩ := LD.g (X := (cxOf CX0 P w K mg base ["_law_values", "_law_value"] "_law_round_ways" (defScope sRoundWays) f cdv A outer s H E).nox) LC hr (by decide)
    obtain ⟨fD, fdD, GD⟩ := LD.g (X := (cxOf CX0 P w K mg base ["_law_values", "_law_value"] "_law_round_ways" (defScope sRoundWays) f cdv A outer s H E).nox) LDn hr (by decide)
    obtain ⟨fU, fdU, GU⟩ := LD.g (X := (cxOf CX0 P w K mg base ["_law_values", "_law_value"] "_law_round_ways" (defScope sRoundWays) f cdv A outer s H E).nox) LU hr (by decide)
    have lr : rs.length = es.length := by rw [tR.len, List.length_map]
    refine ⟨_, pw_B, b_ret (w_call1 GC (w_E (pe_lc (own := [("_law_value", 1)]) (g := gName 1) (tt := tYes) rfl scWays.nd (pi_list (pv 0)) (blkOk_by (N := ["_law_values", "_law_value"]) (sc := defScope sRoundWays) (by decide +kernel)) (fun _ _ _ _ _ => pg_name (i := 1) scWays.nd rfl (Or.inl rfl)) (fun _ _ _ _ _ => pts_nil) pw_Eb) ?_))⟩
    refine ⟨_, rfl, R, rfl, ⟨_, SqL.of hR⟩, fun M hM => lc_list (K := K) (a := R) (xs := rs) (fun i H' => Same H H' ∧ ∃ acc, H' M = some (.lst acc) ∧ LsAt H' ((es.take i).map ways1) acc ∧ ∀ u ∈ acc, u ≠ .ref M) ⟨same_new hM, [], upd_same, rfl, fun u hu => by cases hu⟩ (fun i H' _ h => SqL.of (h.1 _ _ hR)) ?_ ?_⟩
    · rintro i x H3 hx ⟨s3, acc, hm, tl, nM⟩
      obtain ⟨dd, hd, td⟩ := tR.at' hx
      obtain ⟨r, hr1, rfl⟩ := map_at hd
      have hi : i < es.length := (List.getElem?_eq_some_iff.mp hr1).1
      have tx := Td.keep (.of s3) _ _ td
      have hb := eb r (List.mem_of_getElem? hr1)
      have la : acc.length = i := by
        rw [tl.len, List.length_map, List.length_take]
        omega
      refine ⟨wipeD, ?_⟩
      unfold tYes
      dsimp only
      rw [if_pos rfl]
      intro s' H0 C' cl' fp'
      refine w_ev (ev_sort2 (i := dn r) (j := upp r) rfl zs zt (dn_le r) (ev_ldn (gdef_blk GD) (ev_v (pv 1) rfl tx mono_da) hb) (ev_lup (gdef_blk GU) (ev_v (pv 1) rfl tx mono_da) hb)) fun v4 H4 s4 ⟨q, xs, e4, nq, hq, tq⟩ => ?_
      subst e4
      have hm4 := s4 _ _ hm
      have neq : q ≠ M := fun e => by
        rw [e, hm] at nq
        cases nq
      have ex : xs = (ways1 r).map V.int := tq.ints
      subst ex
      refine ⟨acc, hm4, by rw [la]; exact small1000 (by omega), same_put (s3.trans s4) hM, acc ++ [.ref q], upd_same, ?_, fun u hu => ?_⟩
      · rw [take_snoc hr1, List.map_append]
        exact LsAt.put ((tl.keep s4).snoc hq) fun u hu => by
          rcases List.mem_append.mp hu with hu | hu
          · exact nM u hu
          · rw [List.mem_singleton.mp hu]
            intro e
            cases e
            exact neq rfl
      · rcases List.mem_append.mp hu with hu | hu
        · exact nM u hu
        · rw [List.mem_singleton.mp hu]
          intro e
          cases e
          exact neq rfl
    · rintro H3 ⟨s3, acc, hm, tl, nM⟩
      rw [lr, List.take_length] at tl
      refine ⟨es.map ways1, ⟨⟨_, rfl, M, acc, rfl, hm, tl⟩, by rw [List.length_map]; exact e8, fun ns hn => ?_⟩, fun v H' s h => k v H' (s3.trans s) h⟩
      obtain ⟨r, _, rfl⟩ := List.mem_map.mp hn
      show (if dn r = upp r then [dn r] else [dn r, upp r]).length ≤ 2
      split <;> simp
theorem ok_with {f : Addr} {fd : FuncData} (F : Fun K "_law_with_counts" "_law_with_counts" sWithCounts f fd) (zt : mg "tuple" = none) (zr : mg "range" = none) (zl : mg "len" = none) : FnOk P w K mg base CX0 1 f fd ["_law_here", "_law_counts"] spWith := by
  refine F.ok scWith (fun vs H Q E h => ?_) (fun cdv A outer s H vs Q E hr h => ?_)
  · obtain ⟨d, ⟨⟨v, c, rfl, _⟩, _⟩, _⟩ := h
    rfl
  · obtain ⟨⟨rows, ns⟩, ⟨⟨v, c, rfl, hv, hc⟩, l20, ln⟩, k⟩ := h
    dsimp only at hv hc l20 ln k
    refine ⟨_, pw_B, b_retE (ev_tupleL zt (ds := (List.range rows.length).map fun k => ld (((withC rows ns)[k]?).getD nil0)) (ev_lcR (i := 2) (n := rows.length) rfl scWith.nd zr (blkOk_by (N := NWi) (sc := defScope sWithCounts) (by decide +kernel)) (fun _ _ _ _ _ => pg_name (i := 2) scWith.nd rfl (Or.inl rfl)) (Ev.is (ev_lenT zl (ev_v (pv 0) rfl hv mono_da)) (by rw [List.length_map])) (by omega) ?_)) fun v' H' s h => k v' H' s ?_⟩
    · intro i H' hi sx s' H0 C cl fp
      have hl : rows[i]? = some rows[i] := List.getElem?_eq_getElem hi
      have hn : (ns.map PyData.int)[i]? = some (.int (ns.getD i 0)) := row_at ln hi
      generalize rows[i] = l at hl
      have hld : (rows.map ld)[i]? = some (ld l) := by rw [List.getElem?_map, hl]; rfl
      have e : ld (((withC rows ns)[i]?).getD nil0) = .tuple ([PyData.str l.nm, qd l.ex] ++ [PyData.int (ns.getD i 0), PyData.bool l.on]) := by
        rw [withC_at hl]
        rfl
      rw [e]
      refine ev_catT (ev_sliceTo (k := 2) (ds := [.str l.nm, qd l.ex, .int l.ct, .bool l.on]) (ev_ixD (j := i) (ev_v (pv 0) rfl (mono_da _ _ _ sx hv) mono_da) (ev_vi (pv 2) rfl) hld) (ev_c pe_int)) (ev_tupD (ds := [.int (ns.getD i 0), .bool l.on]) (ed_cons ?_ (ed_cons (ev_ixD (j := 3) (ev_ixD (j := i) (ev_v (pv 0) rfl (mono_da _ _ _ sx hv) mono_da) (ev_vi (pv 2) rfl) hld) (ev_c pe_int) rfl) ed_nil)) (by show 2 ≤ 1000; decide)) (by show 2 ≤ 1000; decide) (by show 2 ≤ 1000; decide)
      rcases hc with hc | hc
      · exact ev_ixLD (j := i) (ev_v (pv 1) rfl (mono_lstD _ _ _ sx hc) mono_lstD) (ev_vi (pv 2) rfl) hn
      · exact ev_ixD (j := i) (ev_v (pv 1) rfl (mono_da _ _ _ sx hc) mono_da) (ev_vi (pv 2) rfl) hn
    · have e : (List.range rows.length).map (fun k => ld (((withC rows ns)[k]?).getD nil0)) = (withC rows ns).map ld := by
        rw [← withC_len (rows := rows) (ns := ns)]
        exact range_map
      rw [e] at h
      exact h
theorem ok_exact {f : Addr} {fd : FuncData} (F : Fun K "_law_make_exact" "_law_make_exact" sMakeExact f fd) (LDr : LD P w K mg base "_law_draw" 1 ["_law_rng", "_law_size"] spDrawN) (LP : LD P w K mg base "_law_pick" 2 ["_law_rng", "_law_pool"] spPick) (L : LD P w K mg base "_law_low" 1 ["_law_over", "_law_under"] spLL) (zm : mg "max" = none) : FnOk P w K mg base CX0 3 f fd ["_law_rng"] spExact := by
  refine F.ok scExact (fun vs H Q E h => ?_) (fun cdv A outer s H vs Q E hr h => ?_)
  · obtain ⟨d, c, N, rfl, _⟩ := h
    rfl
  · obtain ⟨d, c, N, rfl, hN, rd, k⟩ := h
    obtain ⟨fD, fdD, GD⟩ := LD.g (X := (cxOf CX0 P w K mg base ["_law_rng", "_law_under"] "_law_make_exact" (defScope sMakeExact) f cdv A outer s H E).nox) LDr hr (by decide)
    obtain ⟨fP, fdP, GP⟩ := LD.g (X := (cxOf CX0 P w K mg base ["_law_rng", "_law_under"] "_law_make_exact" (defScope sMakeExact) f cdv A outer s H E).nox) LP hr (by decide)
    obtain ⟨fL, fdL, GL⟩ := LD.g (X := (cxOf CX0 P w K mg base ["_law_rng", "_law_under"] "_law_make_exact" (defScope sMakeExact) f cdv A outer s H E).nox) L hr (by decide)
    refine ⟨_, pw_B, ?_⟩
    refine b_set (i := 1) scExact.nd rfl (.inl rfl) (w_call2 GP (w_ev (ev_vi (pv 0) rfl) fun v0 H1 s1 e0 => w_ev (ev_litL (ds := ([1, 2, 2, 2, 3, 3, 4, 5, 10] : List Int).map PyData.int) 3 rfl (by show 9 ≤ 1000; decide)) fun v1 H2 s2 ⟨S, xs, e1, hS, tS⟩ => ?_))
    cases e0
    subst e1
    obtain rfl := tS.ints
    refine ⟨d, c, N, S, _, rfl, hS, by decide, by decide, by omega, rd.same (s1.trans s2), fun v H3 hv k3 rd3 => ?_⟩
    obtain ⟨u, hu, rfl⟩ := List.mem_map.mp hv
    have ub : 1 ≤ u ∧ u ≤ 10 := by
      have z : ∀ x ∈ ([1, 2, 2, 2, 3, 3, 4, 5, 10] : List Int), 1 ≤ x ∧ x ≤ 10 := by decide
      exact z u hu
    have k03 : KeepX d H H3 := ((KeepX.of s1).trans (.of s2)).trans k3
    have mx : 0 < (if 1 < u - 1 then u - 1 else 1) ∧ (if 1 < u - 1 then u - 1 else 1) ≤ 10 := by split <;> omega
    refine b_ret (w_call2 GL (w_E (pe_op op_add pw_E pw_E) (w_E (pe_op op_add pw_E pw_E) (w_ev (ev_c pe_int) fun v4 H4 s4 e4 => w_drawN GD (ev_vi (pv 0) rfl) (ev_max2 rfl zm (ev_c pe_int) (ev_opI op_sub (ev_vi (pv 1) rfl) (ev_c pe_int))) (rd3.same s4) (by omega) mx.1 (by omega) fun z H5 z0 z1 k5 rd5 => ⟨1, z, e4, rfl, ?_⟩))))
    refine w_E (pe_op op_mul pw_E pw_E) (w_ev (ev_vi (pv 1) rfl) fun v6 H6 s6 e6 => w_call2 GP (w_ev (ev_vi (pv 0) rfl) fun v7 H7 s7 e7 => w_ev (ev_litL (ds := ([0, 0, 0, 1, 7, 999] : List Int).map PyData.int) 3 rfl (by show 6 ≤ 1000; decide)) fun v8 H8 s8 ⟨S8, xs8, e8, hS8, tS8⟩ => ?_))
    cases e6
    cases e7
    subst e8
    obtain rfl := tS8.ints
    refine ⟨d, c, N + 1 + 1, S8, _, rfl, hS8, by decide, by decide, by omega, ((rd5.same s6).same s7).same s8, fun v9 H9 hv9 k9 rd9 => ?_⟩
    obtain ⟨m, hm, rfl⟩ := List.mem_map.mp hv9
    have mb : 0 ≤ m ∧ m ≤ 999 := by
      have z : ∀ x ∈ ([0, 0, 0, 1, 7, 999] : List Int), 0 ≤ x ∧ x ≤ 999 := by decide
      exact z m hm
    have ku : 0 ≤ u * m ∧ u * m ≤ 10 * 999 := ⟨Int.mul_nonneg (by omega) (by omega), Int.mul_le_mul ub.2 mb.2 (by omega) (by omega)⟩
    refine ⟨u, m, rfl, rfl, .inl ⟨(by rw [p64i]; omega), (by rw [p64i]; omega)⟩, ?_⟩
    refine ⟨_, _, rfl, rfl, w_ev (ev_vi (pv 1) rfl) fun v10 H10 s10 e10 => ?_⟩
    cases e10
    have hlow : LowOk u := ⟨by omega, .inr (by omega)⟩
    refine ⟨(1 + z + u * m, u), ⟨rfl, hlow, by show 0 < u; omega⟩, fun v11 H11 s11 h11 => k v11 H11 ?_ ?_ ⟨_, h11, Rat.divInt_nonneg (by show 0 ≤ 1 + z + u * m; omega) (by show 0 ≤ u; omega), bd_div (by show u ≠ 0; omega) (Nat.lt_trans (by show (1 + z + u * m).natAbs < 20000; omega) (by decide)) (Nat.lt_trans (by show u.natAbs < 11; omega) (by decide))⟩⟩
    · exact k03.trans (((KeepX.of s4).trans k5).trans ((((KeepX.of s6).trans (.of s7)).trans (.of s8)).trans (k9.trans ((KeepX.of s10).trans (.of s11)))))
    · exact (rd9.same s10).same s11
end
end Kn

namespace Kn
open PySem PySem.Spec PyProof.Rows L2 Cb
/-- a line with an exact sum and without cents -/
def LnB (l : Ln) : Prop := NmOk l.nm ∧ 0 ≤ l.ex ∧ Bd 15 l.ex ∧ l.ct = 0
def BareV : Pd := fun v H => ∃ rows : List Ln, Td H (rowsD rows) v ∧ 1 ≤ rows.length ∧ rows.length ≤ 6 ∧ ∀ l ∈ rows, LnB l
def spBare : Sp := fun vs H Q _ => ∃ (d c : Addr) (N : Nat), vs = [.ref d, .int 1, .int 6] ∧ N + 40 ≤ 5000 ∧ RdN d c N H ∧ ∀ v H', KeepX d H H' → RdN d c (N + 40) H' → BareV v H' → Q v H'
abbrev NBr : List Str := ["_law_rng", "_law_least", "_law_most", "_law_names", "_law_name"]
theorem scBare : FnScope NBr ["_law_rng", "_law_least", "_law_most"] (defScope sMakeBare) := ⟨rfl, rfl, rfl, by decide +kernel, rfl, by decide +kernel, by decide +kernel⟩
def pool7 : List Str := ["a", "add", "bob", "cy", "line", "ted", "zzzzzzzz"]
theorem short7 : Short pool7 := by unfold Short; decide +kernel
section
variable {P : Program} {w : World} {K : PySem.W.Frag} {mg : Str → Option Value} {base : Heap}
theorem ok_bare {f : Addr} {fd : FuncData} (F : Fun K "_law_make_bare" "_law_make_bare" sMakeBare f fd) (LDr : LD P w K mg base "_law_draw" 1 ["_law_rng", "_law_size"] spDrawN) (LS : LD P w K mg base "_law_sample" 2 ["_law_rng", "_law_pool", "_law_size"] spSample) (LE : LD P w K mg base "_law_make_exact" 3 ["_law_rng"] spExact) (zs : mg "sorted" = none) (zt : mg "tuple" = none) : FnOk P w K mg base CX0 4 f fd ["_law_rng", "_law_least", "_law_most"] spBare := by
  refine F.ok scBare (fun vs H Q E h => ?_) (fun cdv A outer s H vs Q E hr h => ?_)
  · obtain ⟨d, c, N, rfl, _⟩ := h
    rfl
  · obtain ⟨d, c, N, rfl, hN, rd, k⟩ := h
    obtain ⟨fD, fdD, GD⟩ := LD.g (X := (cxOf CX0 P w K mg base NBr "_law_make_bare" (defScope sMakeBare) f cdv A outer s H E).nox) LDr hr (by decide)
    obtain ⟨fS, fdS, GS⟩ := LD.g (X := (cxOf CX0 P w K mg base NBr "_law_make_bare" (defScope sMakeBare) f cdv A outer s H E).nox) LS hr (by decide)
    obtain ⟨fE, fdE, GE⟩ := LD.g (X := (cxOf CX0 P w K mg base NBr "_law_make_bare" (defScope sMakeBare) f cdv A outer s H E).nox) LE hr (by decide)
    have un := hr.units
    refine ⟨_, pw_B, ?_⟩
    refine b_set (i := 3) scBare.nd rfl (.inl rfl) (w_E (pe_callB (cr_sortD un) (by rfl) zs (by decide +kernel) (pa_cons pw_E pa_nil)) ?_)
    refine w_call3 GS (w_ev (ev_vi (pv 0) rfl) fun v0 H1 s1 e0 => w_ev (ev_litL (ds := pool7.map PyData.str) 3 rfl (by show 7 ≤ 1000; decide)) fun v1 H2 s2 ⟨S, xs, e1, hS, tS⟩ => w_E (pe_op op_add pw_E pw_E) (w_ev (ev_vi (pv 1) rfl) fun v2 H3 s3 e2 => w_drawN GD (ev_vi (pv 0) rfl) (ev_vi (pv 2) rfl) (((rd.same s1).same s2).same s3) (by omega) (by decide) (by decide) fun z H4 z0 z1 k4 rd4 => ⟨1, z, e2, rfl, ?_⟩))
    cases e0
    subst e1
    obtain rfl := tS.strs
    obtain ⟨zn, rfl⟩ := Int.eq_ofNat_of_zero_le z0
    have k14 : KeepX d H H4 := (((KeepX.of s1).trans (.of s2)).trans (.of s3)).trans k4
    have hS4 := KeepX.lst (((rd.same s1).same s2).same s3).rd k4 (s3 _ _ hS)
    refine ⟨d, c, N + 1, S, pool7, 1 + zn, by rw [Int.natCast_add]; rfl, hS4, short7, by show 1 + zn ≤ 7; omega, by decide, by omega, rd4, fun v5 H5 k5 rd5 hv5 => ?_⟩
    obtain ⟨Nm, names, rfl, nN, hNm, ln, sh⟩ := hv5
    refine ⟨Nm, _, names.map PyData.str, rfl, .inl hNm, tds_strs names, alike_strs names, sortable_strs names, depth_strs names, fun ys R _ ty nR => ?_⟩
    rw [sort_strs] at ty
    obtain rfl := ty.strs
    have sR : Same H5 (upd H5 R (.lst ((sortS names).map V.str))) := same_new nR
    have hR0 : (upd H5 R (.lst ((sortS names).map V.str))) R = some (.lst ((sortS names).map V.str)) := upd_same
    have shs : ∀ x ∈ sortS names, NmOk x := fun x hx => sh x ((List.mergeSort_perm _ _).mem_iff.mp hx)
    have lns : (sortS names).length = 1 + zn := by
      unfold sortS
      rw [(List.mergeSort_perm _ _).length_eq, ln]
    generalize sortS names = nms at hR0 shs lns sR ⊢
    generalize upd H5 R (.lst (nms.map V.str)) = H6 at hR0 sR ⊢
    have k06 : KeepX d H H6 := (k14.trans k5).trans (.of sR)
    have rd6 := (rd5.same sR).le (show N + 1 + (1 + zn) ≤ N + 8 by omega)
    refine b_ret (w_E (pe_callTy call_tuple_of (by rfl) zt (by decide +kernel) (pa_cons (pe_lc (own := [("_law_name", 4)]) (g := gName 4) (tt := tYes) rfl scBare.nd (pi_list (pv 3)) (blkOk_by (N := NBr) (sc := defScope sMakeBare) (by decide +kernel)) (fun _ _ _ _ _ => pg_name (i := 4) scBare.nd rfl (Or.inl rfl)) (fun _ _ _ _ _ => pts_nil) pw_Eb) pa_nil)) ?_)
    refine ⟨_, rfl, R, rfl, ⟨_, SqL.of hR0⟩, fun M hM => lc_list (K := K) (a := R) (xs := nms.map V.str) (fun j H' => KeepX d H6 H' ∧ RdN d c (N + 8 + 4 * j) H' ∧ ∃ (us : List V) (rows : List Ln), H' M = some (.lst us) ∧ Tds H' (rows.map ld) us ∧ rows.length = j ∧ ∀ l ∈ rows, LnB l) ?_ (fun j H' _ h => SqL.of (KeepX.lst rd6.rd h.1 hR0)) ?_ ?_⟩
    · exact ⟨.of (same_new hM), rd6.same (same_new hM), [], [], upd_same, .nil, rfl, fun z hz => by cases hz⟩
    · rintro j y H7 hy ⟨k7, rd7, us, rows, hm, tr, lr, okr⟩
      obtain ⟨nm, hnm, rfl⟩ := map_at hy
      have hj : j < 7 := by
        have := (List.getElem?_eq_some_iff.mp hnm).1
        omega
      have lus : us.length = j := by rw [tr.len, List.length_map, lr]
      refine ⟨wipeD, ?_⟩
      unfold tYes
      dsimp only
      rw [if_pos rfl]
      intro s' H0 C' cl' fp'
      refine w_E (pe_tup (pa_cons (pv 4) (pa_cons pw_E (pa_cons pe_int (pa_cons pw_E pa_nil))))) ⟨_, rfl, w_call1 (gdef_blk GE) (w_ev (ev_vi (pv 0) rfl) fun v8 H8 s8 e8 => ?_)⟩
      cases e8
      refine ⟨d, c, N + 8 + 4 * j, rfl, by omega, rd7.same s8, fun v9 H9 k9 rd9 ⟨r, tr9, r0, rb⟩ => ?_⟩
      refine w_E (pe_cmpR op_gt pw_E pw_E (nomark _)) (w_drawN (gdef_blk GD) (ev_vi (pv 0) rfl) (ev_c pe_int) rd9 (by omega) (by decide) (by decide) fun z4 H10 _ _ k10 rd10 => w_ev (ev_c pe_int) fun v3 H11 s11 e3 => ⟨z4, 0, rfl, e3, by show 4 ≤ sizeLine; decide, fun T hT => ?_⟩)
      have kB : KeepX d H7 H11 := (((KeepX.of s8).trans k9).trans k10).trans (.of s11)
      have sT : Same H11 (upd H11 T (.tup [V.str nm, v9, V.int 0, V.bl (decide (z4 > 0))])) := same_new hT
      have hT2 : (upd H11 T (.tup [V.str nm, v9, V.int 0, V.bl (decide (z4 > 0))])) T = some (.tup [V.str nm, v9, V.int 0, V.bl (decide (z4 > 0))]) := upd_same
      have trC : Td (upd H11 T (.tup [V.str nm, v9, V.int 0, V.bl (decide (z4 > 0))])) (qd r) v9 := Td.keep ((KeepX.tup rd9.rd k10).trans ((TupK.of s11).trans (.of sT))) _ _ tr9
      generalize upd H11 T (.tup [V.str nm, v9, V.int 0, V.bl (decide (z4 > 0))]) = HC at sT hT2 trC ⊢
      have kC : KeepX d H7 HC := kB.trans (.of sT)
      have rdC := (rd10.same s11).same sT
      have hmC := KeepX.lst rd7.rd kC hm
      have ka : TupK HC (upd HC M (.lst (us ++ [V.ref T]))) := .app hmC
      refine ⟨us, hmC, by rw [lus]; exact small1000 (by omega), keepX_put (k7.trans kC) hM, ?_, us ++ [V.ref T], rows ++ [⟨nm, r, 0, decide (z4 > 0)⟩], upd_same, ?_, by rw [List.length_append, lr]; rfl, ?_⟩
      · exact (RdN.put rdC hmC (fun _ z => by cases z) (new_c rd6 hM)).le (by omega)
      · rw [List.map_append]
        exact (Tds.keep ((KeepX.tup rd7.rd kC).trans ka) _ _ tr).snoc (Td.keep ka _ _ (.mk hT2 (.cons td_str (.cons trC (.cons td_int (.cons td_bool .nil))))))
      · intro l hl
        rcases List.mem_append.mp hl with hl | hl
        · exact okr l hl
        · rw [List.mem_singleton.mp hl]
          exact ⟨shs nm (List.mem_of_getElem? hnm), r0, rb, rfl⟩
    · rintro H7 ⟨k7, rd7, us, rows, hm, tr, lr, okr⟩
      rw [List.length_map, lns] at lr
      rw [List.length_map, lns] at rd7
      refine ⟨M, us, rfl, .inl ⟨SqL.of hm, fun T hT => ?_⟩⟩
      have sT : Same H7 (upd H7 T (.tup us)) := same_new hT
      have hT2 : (upd H7 T (.tup us)) T = some (.tup us) := upd_same
      exact k _ _ ((k06.trans k7).trans (.of sT)) ((rd7.same sT).le (by omega)) ⟨rows, .mk hT2 (Tds.keep (.of sT) _ _ tr), by omega, by omega, okr⟩
end
end Kn

namespace Kn
open PySem PySem.Spec PyProof.Rows L2 Cb
/-! ### some way to round is close -/
theorem dn_floor (r : Rat) : dn r = r.floor := by
  unfold dn
  rw [Rat.floor_def, Int.fdiv_eq_ediv_of_nonneg _ (by have := den_pos r; omega)]
theorem dn_rat (r : Rat) : ((dn r : Int) : Rat) ≤ r := by
  rw [dn_floor]
  exact Rat.floor_le r
theorem dn_int {r : Rat} {z : Int} (h : (z : Rat) ≤ r) : z ≤ dn r := by
  rw [dn_floor]
  exact Rat.le_floor_iff.mpr h
theorem upp_neg (r : Rat) : upp r = -dn (-r) := by
  unfold dn upp
  rw [Rat.neg_num, Rat.neg_den]
theorem upp_rat (r : Rat) : r ≤ ((upp r : Int) : Rat) := by
  have h := dn_rat (-r)
  rw [upp_neg]
  have e : ((-dn (-r) : Int) : Rat) = -((dn (-r) : Int) : Rat) := by simp
  rw [e]
  grind
theorem upp_one (r : Rat) : upp r ≤ dn r + 1 := by
  unfold dn upp
  have h := den_pos r
  rw [Int.fdiv_eq_ediv_of_nonneg _ (by omega), Int.fdiv_eq_ediv_of_nonneg _ (by omega)]
  generalize (r.den : Int) = d at h
  generalize r.num = n
  have h1 := Int.mul_ediv_add_emod n d
  have h2 := Int.emod_lt_of_pos n h
  have h3 : -(n / d) - 1 ≤ (-n) / d := Int.le_ediv_of_mul_le h (by
    have e : (-(n / d) - 1) * d = -(d * (n / d)) - d := by grind
    rw [e]
    omega)
  omega
theorem mem_dn (r : Rat) : dn r ∈ ways1 r := by
  unfold ways1
  split <;> simp
theorem mem_up (r : Rat) : upp r ∈ ways1 r := by
  unfold ways1
  split <;> simp_all
theorem ways_btw {r : Rat} {c : Int} (h : c ∈ ways1 r) : dn r ≤ c ∧ c ≤ upp r := by
  have z := dn_le r
  unfold ways1 at h
  split at h <;> simp at h <;> omega
theorem longer_mem {found : List (List Int)} {row : List Int} {s : List Int} {v : Int} (h : s ∈ found) (h' : v ∈ row) : s ++ [v] ∈ longer found row := List.mem_flatMap.mpr ⟨s, h, List.mem_map.mpr ⟨v, h', rfl⟩⟩
/-- place by place a way of the value -/
def WaysOf : List Rat → List Int → Prop
  | [], c => c = []
  | r :: rs, c => ∃ x t, c = x :: t ∧ x ∈ ways1 r ∧ WaysOf rs t
theorem WaysOf.snoc {r : Rat} {x : Int} (h : x ∈ ways1 r) : ∀ {rs : List Rat} {c : List Int}, WaysOf rs c → WaysOf (rs ++ [r]) (c ++ [x])
  | [], c, e => by
    rw [show c = [] from e]
    exact ⟨x, [], rfl, h, rfl⟩
  | q :: rs, c, ⟨y, t, e, hy, ht⟩ => by
    subst e
    exact ⟨y, t ++ [x], rfl, hy, WaysOf.snoc h ht⟩
theorem ways_all : ∀ (n : Nat) (rs : List Rat), rs.length = n → ∀ c ∈ chooseL (rs.map ways1), WaysOf rs c
  | 0, rs, h, c, hc => by
    obtain rfl := List.eq_nil_of_length_eq_zero h
    exact List.mem_singleton.mp hc
  | n + 1, rs, h, c, hc => by
    have hne : rs ≠ [] := fun e => by
      rw [e] at h
      cases h
    have e := (List.dropLast_concat_getLast hne).symm
    rw [e, List.map_append, List.map_cons, List.map_nil, choose_snoc] at hc
    obtain ⟨s, hs, hc⟩ := List.mem_flatMap.mp hc
    obtain ⟨v, hv, rfl⟩ := List.mem_map.mp hc
    rw [e]
    exact (ways_all n rs.dropLast (by rw [List.length_dropLast]; omega) s hs).snoc hv
theorem sum_snoc (l : List Int) (a : Int) : (l ++ [a]).sum = l.sum + a := by simp
theorem ways_sum : ∀ (n : Nat) (rs : List Rat), rs.length = n → ∀ t : Int, (rs.map dn).sum ≤ t → t ≤ (rs.map upp).sum → ∃ c ∈ chooseL (rs.map ways1), c.sum = t
  | 0, rs, h, t, h1, h2 => by
    obtain rfl := List.eq_nil_of_length_eq_zero h
    have e1 : 0 ≤ t := h1
    have e2 : t ≤ 0 := h2
    exact ⟨[], List.mem_singleton.mpr rfl, by show (0 : Int) = t; omega⟩
  | n + 1, rs, h, t, h1, h2 => by
    have hne : rs ≠ [] := fun e => by
      rw [e] at h
      cases h
    have e := (List.dropLast_concat_getLast hne).symm
    have ih := ways_sum n rs.dropLast (by rw [List.length_dropLast]; omega)
    rw [e, List.map_append, List.map_cons, List.map_nil, sum_snoc] at h1 h2
    rw [e, List.map_append, List.map_cons, List.map_nil, choose_snoc]
    have le : (rs.dropLast.map dn).sum ≤ (rs.dropLast.map upp).sum := by
      clear ih h1 h2
      generalize rs.dropLast = l
      induction l with
      | nil => exact Int.le_refl _
      | cons a l ih =>
        rw [List.map_cons, List.map_cons, List.sum_cons, List.sum_cons]
        have := dn_le a
        omega
    generalize rs.getLast hne = r at h1 h2 ⊢
    have u1 := upp_one r
    by_cases q : t - dn r ≤ (rs.dropLast.map upp).sum
    · obtain ⟨c, hc, hs⟩ := ih (t - dn r) (by omega) q
      exact ⟨c ++ [dn r], longer_mem hc (mem_dn r), by rw [sum_snoc]; omega⟩
    · obtain ⟨c, hc, hs⟩ := ih (t - upp r) (by omega) (by omega)
      exact ⟨c ++ [upp r], longer_mem hc (mem_up r), by rw [sum_snoc]; omega⟩
theorem foldl_add (x : Rat) : ∀ l : List Rat, l.foldl (· + ·) x = x + l.foldl (· + ·) 0
  | [] => by show x = x + 0; grind
  | a :: l => by
    rw [List.foldl_cons, List.foldl_cons, foldl_add (x + a) l, foldl_add (0 + a) l]
    grind
theorem sumQ_cons {r : Rat} {rs : List Rat} : sumQ (r :: rs) = r + sumQ rs := by
  unfold sumQ
  rw [List.foldl_cons, foldl_add]
  grind
theorem sum_low : ∀ rs : List Rat, ((((rs.map dn).sum : Int) : Rat)) ≤ sumQ rs
  | [] => by show ((0 : Int) : Rat) ≤ sumQ []; simp [sumQ]
  | r :: rs => by
    have h := sum_low rs
    have d := dn_rat r
    rw [List.map_cons, List.sum_cons, Rat.intCast_add]
    have e : sumQ (r :: rs) = r + sumQ rs := sumQ_cons
    rw [e]
    grind
theorem sum_high : ∀ rs : List Rat, sumQ rs ≤ ((((rs.map upp).sum : Int) : Rat))
  | [] => by show sumQ [] ≤ ((0 : Int) : Rat); simp [sumQ]
  | r :: rs => by
    have h := sum_high rs
    have d := upp_rat r
    rw [List.map_cons, List.sum_cons, Rat.intCast_add]
    have e : sumQ (r :: rs) = r + sumQ rs := sumQ_cons
    rw [e]
    grind
/-- rows with these counts -/
def zipC (rows : List Ln) (ns : List Int) : List Ln := List.zipWith (fun l n => (⟨l.nm, l.ex, n, l.on⟩ : Ln)) rows ns
theorem withC_zip {rows : List Ln} {ns : List Int} (h : ns.length = rows.length) : withC rows ns = zipC rows ns := by
  unfold withC zipC
  refine List.ext_getElem? fun i => ?_
  rw [List.getElem?_mapIdx, List.getElem?_zipWith]
  by_cases q : i < rows.length
  · rw [List.getElem?_eq_getElem q, List.getElem?_eq_getElem (h ▸ q)]
    simp [List.getD, List.getElem?_eq_getElem (h ▸ q : i < ns.length)]
  · rw [List.getElem?_eq_none (by omega : rows.length ≤ i)]
    rfl
theorem zip_ok : ∀ {rows : List Ln} {c : List Int}, WaysOf (rows.map fun l => l.ex) c → (zipC rows c).map (fun l => l.ct) = c ∧ (zipC rows c).map (fun l => l.ex) = rows.map (fun l => l.ex) ∧ ((zipC rows c).all fun l => btw l.ct l.ex) = true ∧ (∀ l ∈ zipC rows c, ∃ l0 ∈ rows, l.nm = l0.nm ∧ l.ex = l0.ex ∧ dn l0.ex ≤ l.ct ∧ l.ct ≤ upp l0.ex)
  | [], c, h => by
    rw [show c = [] from h]
    exact ⟨rfl, rfl, rfl, fun l hl => by cases hl⟩
  | l :: rows, c, h => by
    obtain ⟨x, t, rfl, hx, ht⟩ := h
    obtain ⟨h1, h2, h3, h4⟩ := zip_ok ht
    have b := ways_btw hx
    have e : zipC (l :: rows) (x :: t) = ⟨l.nm, l.ex, x, l.on⟩ :: zipC rows t := rfl
    rw [e]
    refine ⟨by rw [List.map_cons, h1], by rw [List.map_cons, h2, List.map_cons], ?_, fun m hm => ?_⟩
    · rw [List.all_cons, h3]
      unfold btw
      simp [b.1, b.2]
    · rcases List.mem_cons.mp hm with hm | hm
      · subst hm
        exact ⟨l, List.mem_cons_self .., rfl, rfl, b.1, b.2⟩
      · obtain ⟨l0, a1, a2⟩ := h4 m hm
        exact ⟨l0, List.mem_cons_of_mem _ a1, a2⟩
theorem WaysOf.len : ∀ {rs : List Rat} {c : List Int}, WaysOf rs c → c.length = rs.length
  | [], c, h => by rw [show c = [] from h]; rfl
  | r :: rs, c, ⟨x, t, e, _, h⟩ => by subst e; rw [List.length_cons, List.length_cons, h.len]
/-- all ways are rows, and one of them is close -/
theorem near_one (rows : List Ln) : ∃ c ∈ chooseL ((rows.map fun l => l.ex).map ways1), near (withC rows c) = true := by
  have sd : ((rows.map fun l => l.ex).map dn).sum ≤ dn (sumQ (rows.map fun l => l.ex)) := dn_int (sum_low _)
  have su : dn (sumQ (rows.map fun l => l.ex)) ≤ ((rows.map fun l => l.ex).map upp).sum := by
    have a := dn_rat (sumQ (rows.map fun l => l.ex))
    have b := sum_high (rows.map fun l => l.ex)
    exact Rat.intCast_le_intCast.mp (Rat.le_trans a b)
  obtain ⟨c, hc, hs⟩ := ways_sum _ (rows.map fun l => l.ex) rfl _ sd su
  have wo := ways_all _ _ rfl c hc
  refine ⟨c, hc, ?_⟩
  have wl := wo.len
  rw [List.length_map] at wl
  obtain ⟨h1, h2, h3, _⟩ := zip_ok wo
  rw [withC_zip wl]
  unfold near
  rw [h1, h2, h3, hs]
  unfold btw
  have := dn_le (sumQ (rows.map fun l => l.ex))
  simp [this]
theorem dn_small {r : Rat} (r0 : 0 ≤ r) (rb : Bd 15 r) : 0 ≤ dn r ∧ dn r < 32768 := by
  have n0 := Rat.num_nonneg.mpr r0
  have dp := den_pos r
  have f4 : r.num.natAbs < 2 ^ 15 := rb.1
  unfold dn
  rw [Int.fdiv_eq_ediv_of_nonneg _ (by omega)]
  have f2 : 0 ≤ r.num / (r.den : Int) := Int.ediv_nonneg n0 (by omega)
  have f3 : r.num / (r.den : Int) ≤ r.num := Int.ediv_le_self _ n0
  have f5 : (2 : Nat) ^ 15 = 32768 := by decide
  omega
theorem rowsK_with {rows : List Ln} {c : List Int} (l6 : rows.length ≤ 6) (ok : ∀ l ∈ rows, LnB l) (h : WaysOf (rows.map fun l => l.ex) c) : RowsK (withC rows c) := by
  have wl := h.len
  rw [List.length_map] at wl
  obtain ⟨_, _, _, h4⟩ := zip_ok h
  refine ⟨by rw [withC_len]; omega, fun l hl => ?_⟩
  rw [withC_zip wl] at hl
  obtain ⟨l0, m, e1, e2, b1, b2⟩ := h4 l hl
  obtain ⟨k1, k2, k3, _⟩ := ok l0 m
  have s := dn_small k2 k3
  have u := upp_one l0.ex
  refine ⟨by rw [e1]; exact k1, by rw [e2]; exact k2, by rw [e2]; exact k3.mono (by decide), ?_⟩
  have f5 : (2 : Nat) ^ 20 = 1048576 := by decide
  rw [f5]
  omega
end Kn

namespace Cb
open PySem PySem.Spec PyProof.Rows L2 Kn
section
variable {X : Cx} {elt iter test : Expr} {x y : Str} {xp pos py spos : Pos} {scope : Scope} {σ : L2.St} {H : Hp} {i j : Nat} {α : Type} {enc : α → PyData} {as : List α} {p : α → Bool} {f : α → PyData} {sts : List Stmt} {D : Ends}
/-- y = [..] where the value goes to the name at once -/
theorem b_mL (hc : X.calm = true) (nd : X.N.Nodup) (hj : X.N[j]? = some y) (hy : X.env.scope.names.lookup y = some .local) (ok : BlkOk X.N X.env.scope scope [(x, i)]) (hg : ∀ (s : Shared) (H : Hp) (C : Addr) (cl : List (Str × Addr)) (fp : List Addr), PG (X.blk s H scope (compEnvC scope cl C X.env) fp) (.Name x xp) (gName i)) (hi : Ev X σ H iter (LstD (as.map enc))) (hl : as.length ≤ 1000)
    (he : ∀ a v H', a ∈ as → Same H H' → Td H' (enc a) v → ∀ (s : Shared) (H0 : Hp) (C : Addr) (cl : List (Str × Addr)) (fp : List Addr), Ev (X.blk s H0 scope (compEnvC scope cl C X.env) fp) ((wipe σ [i]).set i (some v)) H' elt (Da (f a)))
    (k : ∀ v H', Same H H' → LstD (as.map f) v H' → wB X sts D (σ.set j (some v)) H') (hk : X.env.scope.kind = .function := by rfl) (hln : (py.line == pos.line) = true := by rfl) (ha : (scope.names.any fun (n, k) => n == y && (k == .local || k == .cell)) = false := by rfl)
    (hs : ∀ x, foldedSetIterable iter X.env x = pure x := by intro _; rfl) : wB X (.Assign [.Name y py] (.ListComp elt [⟨.Name x xp, iter, [], 0⟩] scope pos) spos :: sts) D σ H :=
  b_cons (w_S (ps_setLc (own := [(x, i)]) (g := gName i) (tt := tYes) hc nd hj hy (sw_true hk hy hln ha) (pi_list pw_E) ok hg (fun _ _ _ _ _ => pts_nil) pw_Eb hs) (rd_lcL (p := fun _ => true) (teok_ev hi) hl (fun a v H' ha s td => ttok_yes) (fun a v H' ha hp s td => teok_of (he a v H' ha s td)) fun v H' s h => by
    rw [filter_all] at h
    exact k v H' s h))
theorem b_fL (hc : X.calm = true) (nd : X.N.Nodup) (hj : X.N[j]? = some y) (hy : X.env.scope.names.lookup y = some .local) (ok : BlkOk X.N X.env.scope scope [(x, i)]) (hg : ∀ (s : Shared) (H : Hp) (C : Addr) (cl : List (Str × Addr)) (fp : List Addr), PG (X.blk s H scope (compEnvC scope cl C X.env) fp) (.Name x xp) (gName i)) (hi : Ev X σ H iter (LstD (as.map enc))) (hl : as.length ≤ 1000)
    (ht : ∀ a v H', a ∈ as → Same H H' → Td H' (enc a) v → ∀ (s : Shared) (H0 : Hp) (C : Addr) (cl : List (Str × Addr)) (fp : List Addr), EvT (X.blk s H0 scope (compEnvC scope cl C X.env) fp) ((wipe σ [i]).set i (some v)) H' test (p a)) (he : ∀ a v H', a ∈ as → p a = true → Same H H' → Td H' (enc a) v → ∀ (s : Shared) (H0 : Hp) (C : Addr) (cl : List (Str × Addr)) (fp : List Addr), Ev (X.blk s H0 scope (compEnvC scope cl C X.env) fp) ((wipe σ [i]).set i (some v)) H' elt (Da (f a)))
    (k : ∀ v H', Same H H' → LstD ((as.filter p).map f) v H' → wB X sts D (σ.set j (some v)) H') (hk : X.env.scope.kind = .function := by rfl) (hln : (py.line == pos.line) = true := by rfl) (ha : (scope.names.any fun (n, k) => n == y && (k == .local || k == .cell)) = false := by rfl)
    (hs : ∀ x, foldedSetIterable iter X.env x = pure x := by intro _; rfl) : wB X (.Assign [.Name y py] (.ListComp elt [⟨.Name x xp, iter, [test], 0⟩] scope pos) spos :: sts) D σ H :=
  b_cons (w_S (ps_setLc (own := [(x, i)]) (g := gName i) (tt := wTb X scope test) hc nd hj hy (sw_true hk hy hln ha) (pi_list pw_E) ok hg pw_Tb pw_Eb hs) (rd_lcL (teok_ev hi) hl (fun a v H' ha s td => ttok_of (ht a v H' ha s td)) (fun a v H' ha hp s td => teok_of (he a v H' ha hp s td)) fun v H' s h => k v H' s h))
end
end Cb
namespace Kn
open PySem PySem.Spec PyProof.Rows L2 Cb
theorem plainAll_ld : ∀ rows : List Ln, PyData.plainAll (rows.map ld) = true
  | [] => rfl
  | l :: rows => by
    rw [List.map_cons, PyData.plainAll, plain_ld, plainAll_ld rows]
    rfl
theorem depthAll_ld : ∀ rows : List Ln, PyData.depthAll (rows.map ld) ≤ 2
  | [] => Nat.zero_le _
  | l :: rows => by
    rw [List.map_cons, PyData.depthAll]
    have h := depthAll_ld rows
    have d : (ld l).depth = 2 := rfl
    omega
theorem plain_rows (rows : List Ln) : (rowsD rows).plain = true := plainAll_ld rows
theorem depth_rows (rows : List Ln) : (rowsD rows).depth ≤ 50 := by
  have h := depthAll_ld rows
  show PyData.depthAll (rows.map ld) + 1 ≤ 50
  omega
section
variable {X : Cx} {a b : Expr} {σ : L2.St} {H : Hp} {p q : Pos} {k : Nat} {f : Addr} {fd : FuncData} {ps : List Str} {rows : List Ln} {ns : List Int} {rs : List Rat}
theorem ev_with (g : GDef X "_law_with_counts" k f fd ps spWith) (ha : Ev X σ H a (Da (rowsD rows))) (hb : Ev X σ H b (CountsV ns)) (h20 : rows.length ≤ 20) (hl : ns.length = rows.length) (hg : Gl X "_law_with_counts" := by rfl) (hs : starEach [a, b] X.env = (false, eval a X.env) :: starEach [b] X.env := by rfl) (hs' : starEach [b] X.env = (false, eval b X.env) :: starEach [] X.env := by rfl)
    (hpl : (backTo p (starEach [b] X.env)).any (·.1) = false := by rfl) : Ev X σ H (.Call (.Name "_law_with_counts" q) [a, b] [] p) (Da (rowsD (withC rows ns))) := ev_callP (rows, ns) g (ea_2 ha mono_da hb mono_counts hs hs') (fun vs H2 _ h => ⟨by
    obtain ⟨v, c, rfl, h1, h2⟩ := h.two
    exact ⟨v, c, rfl, h1, h2⟩, h20, hl⟩) hg (by decide) hs hpl
theorem ev_ways (g : GDef X "_law_round_ways" k f fd ps spWays) (ha : Ev X σ H a (LstD (rs.map qd))) (h8 : rs.length ≤ 8) (hb : ∀ r ∈ rs, Bd 2000 r) (hg : Gl X "_law_round_ways" := by rfl) (hs : starEach [a] X.env = (false, eval a X.env) :: starEach [] X.env := by rfl) (hpl : (backTo p (starEach [] X.env)).any (·.1) = false := by rfl) : Ev X σ H (.Call (.Name "_law_round_ways" q) [a] [] p) (LstD ((chooseL (rs.map ways1)).map rowI)) :=
  ev_callP rs g (ea_1 ha mono_lstD hs) (fun vs H2 _ h => ⟨h.one, h8, hb⟩) hg (by decide) hs hpl
end
def StV : Pd := fun v H => ∃ rows : List Ln, Td H (rowsD rows) v ∧ RowsK rows
def spNear : Sp := fun vs H Q _ => ∃ (d c : Addr) (N : Nat), vs = [.ref d, .int 1, .int 6] ∧ N + 50 ≤ 5000 ∧ RdN d c N H ∧ ∀ v H', KeepX d H H' → RdN d c (N + 50) H' → StV v H' → Q v H'
abbrev NNr : List Str := ["_law_rng", "_law_least", "_law_most", "_law_bare", "_law_ways", "_law_near", "_law_bad", "_law_way", "_law_row", "_law_here"]
theorem scMNear : FnScope NNr ["_law_rng", "_law_least", "_law_most"] (defScope sMakeNear) := ⟨rfl, rfl, rfl, by decide +kernel, rfl, by decide +kernel, by decide +kernel⟩
theorem empty_len {α : Type} {l : List α} (h : (!l.isEmpty) = true) : 0 < l.length := by
  cases l with
  | nil => cases h
  | cons a l => exact Nat.succ_pos _
theorem KeepX.lstD {d c : Addr} {H H' : Hp} {ds : List PyData} {v : V} (r : Rd d c H) (k : KeepX d H H') (h : LstD ds v H) : LstD ds v H' := by
  obtain ⟨S, us, e, hS, t⟩ := h
  exact ⟨S, us, e, KeepX.lst r k hS, Tds.keep (KeepX.tup r k) _ _ t⟩
section
variable {P : Program} {w : World} {K : PySem.W.Frag} {mg : Str → Option Value} {base : Heap}
theorem ok_mnear {f : Addr} {fd : FuncData} (F : Fun K "_law_make_near" "_law_make_near" sMakeNear f fd) (LDr : LD P w K mg base "_law_draw" 1 ["_law_rng", "_law_size"] spDrawN) (LB : LD P w K mg base "_law_make_bare" 4 ["_law_rng", "_law_least", "_law_most"] spBare) (LW : LD P w K mg base "_law_with_counts" 1 ["_law_here", "_law_counts"] spWith) (LY : LD P w K mg base "_law_round_ways" 2 ["_law_values"] spWays)
    (LN : LD P w K mg base "_law_is_near" 4 ["_law_here"] spClose) (LF : LD P w K mg base "_law_is_free" 5 ["_law_here"] spOpen) (LP : LD P w K mg base "_law_pick" 2 ["_law_rng", "_law_pool"] spPick) : FnOk P w K mg base CX0 6 f fd ["_law_rng", "_law_least", "_law_most"] spNear := by
  refine F.ok scMNear (fun vs H Q E h => ?_) (fun cdv A outer s H vs Q E hr h => ?_)
  · obtain ⟨d, c, N, rfl, _⟩ := h
    rfl
  · obtain ⟨d, c, N, rfl, hN, rd, k⟩ := h
    obtain ⟨fD, fdD, GD⟩ := LD.g (X := (cxOf CX0 P w K mg base NNr "_law_make_near" (defScope sMakeNear) f cdv A outer s H E).nox) LDr hr (by decide)
    obtain ⟨fB, fdB, GB⟩ := LD.g (X := (cxOf CX0 P w K mg base NNr "_law_make_near" (defScope sMakeNear) f cdv A outer s H E).nox) LB hr (by decide)
    obtain ⟨fW, fdW, GW⟩ := LD.g (X := (cxOf CX0 P w K mg base NNr "_law_make_near" (defScope sMakeNear) f cdv A outer s H E).nox) LW hr (by decide)
    obtain ⟨fY, fdY, GY⟩ := LD.g (X := (cxOf CX0 P w K mg base NNr "_law_make_near" (defScope sMakeNear) f cdv A outer s H E).nox) LY hr (by decide)
    obtain ⟨fN, fdN, GN⟩ := LD.g (X := (cxOf CX0 P w K mg base NNr "_law_make_near" (defScope sMakeNear) f cdv A outer s H E).nox) LN hr (by decide)
    obtain ⟨fF, fdF, GF⟩ := LD.g (X := (cxOf CX0 P w K mg base NNr "_law_make_near" (defScope sMakeNear) f cdv A outer s H E).nox) LF hr (by decide)
    obtain ⟨fP, fdP, GP⟩ := LD.g (X := (cxOf CX0 P w K mg base NNr "_law_make_near" (defScope sMakeNear) f cdv A outer s H E).nox) LP hr (by decide)
    have un := hr.units
    refine ⟨_, pw_B, ?_⟩
    refine b_set (i := 3) scMNear.nd rfl (.inr rfl) (w_call3 GB (w_ev (ev_vi (pv 0) rfl) fun v0 H1 s1 e0 => w_ev (ev_vi (pv 1) rfl) fun v1 H2 s2 e1 => w_ev (ev_vi (pv 2) rfl) fun v2 H3 s3 e2 => ?_))
    cases e0
    cases e1
    cases e2
    refine ⟨d, c, N, rfl, by omega, ((rd.same s1).same s2).same s3, fun v4 H4 k4 rd4 hv4 => ?_⟩
    obtain ⟨rows, tb, l1, l6, okb⟩ := hv4
    have k04 : KeepX d H H4 := (((KeepX.of s1).trans (.of s2)).trans (.of s3)).trans k4
    have xl : (rows.map fun l => l.ex).length = rows.length := List.length_map ..
    have rk : ∀ n ∈ chooseL ((rows.map fun l => l.ex).map ways1), RowsK (withC rows n) := fun n hn => rowsK_with l6 okb (ways_all _ _ rfl n hn)
    have nl : ∀ n ∈ chooseL ((rows.map fun l => l.ex).map ways1), n.length = rows.length := fun n hn => by rw [(ways_all _ _ rfl n hn).len, xl]
    have cl : (chooseL ((rows.map fun l => l.ex).map ways1)).length ≤ 64 := by
      refine Nat.le_trans (choose_len rows.length _ (by rw [List.length_map, xl]) fun ns hn => ?_) (Nat.le_trans (Nat.pow_le_pow_right (by decide) l6) (by decide))
      obtain ⟨r, _, rfl⟩ := List.mem_map.mp hn
      show (if dn r = upp r then [dn r] else [dn r, upp r]).length ≤ 2
      split <;> simp
    obtain ⟨c1, hc1, hc2⟩ := near_one rows
    generalize hL : chooseL ((rows.map fun l => l.ex).map ways1) = L at rk nl cl hc1
    refine b_mL (j := 4) (enc := rowI) (as := L) (f := fun n => rowsD (withC rows n)) (i := 7) rfl scMNear.nd rfl rfl (blkOk_by (N := NNr) (sc := defScope sMakeNear) (by decide +kernel)) (fun _ _ _ _ _ => pg_name (i := 7) scMNear.nd rfl (Or.inl rfl)) (hL ▸ ev_ways GY (rs := rows.map fun l => l.ex) (by
        rw [List.map_map]
        exact ev_mT (enc := ld) (as := rows) (f := fun l => qd l.ex) (i := 8) rfl scMNear.nd (blkOk_by (N := NNr) (sc := defScope sMakeNear) (by decide +kernel)) (fun _ _ _ _ _ => pg_name (i := 8) scMNear.nd rfl (Or.inl rfl)) (ev_v (pv 3) rfl tb mono_da) (by omega) (fun l v H' hm sx td s' H0 C cl fp => ev_ixD (j := 1) (ev_v (pv 8) rfl td mono_da) (ev_c pe_int) rfl)) (by omega) (fun r hr' => by
        obtain ⟨l, hl, rfl⟩ := List.mem_map.mp hr'
        exact (okb l hl).2.2.1.mono (by decide))) (by omega) (fun n v H' hm sx td s' H0 C cl fp => ev_with (gdef_blk GW) (ev_v (pv 3) rfl (mono_da _ _ _ sx tb) mono_da) (Ev.imp (ev_v (pv 7) rfl td mono_da) fun v H' _ h => Or.inr h) (by omega) (nl n hm)) fun v5 H5 s5 h5 => ?_
    refine b_fL (j := 5) (enc := fun n => rowsD (withC rows n)) (as := L) (p := fun n => near (withC rows n)) (f := fun n => rowsD (withC rows n)) (i := 9) rfl scMNear.nd rfl rfl (blkOk_by (N := NNr) (sc := defScope sMakeNear) (by decide +kernel)) (fun _ _ _ _ _ => pg_name (i := 9) scMNear.nd rfl (Or.inl rfl)) (ev_v (pv 4) rfl h5 mono_lstD) (by omega) (fun n v H' hm sx td s' H0 C cl fp => et_v (ev_near (gdef_blk GN) (ev_v (pv 9) rfl td mono_da) (rk n hm))) (fun n v H' hm hp sx td s' H0 C cl fp => ev_v (pv 9) rfl td mono_da) fun v6 H6 s6 h6 => ?_
    have sub1 : ∀ n ∈ L.filter (fun n => near (withC rows n)), n ∈ L := fun n hn => (List.mem_filter.mp hn).1
    have nl1 : (L.filter (fun n => near (withC rows n))).length ≤ 64 := Nat.le_trans (List.length_filter_le _ _) cl
    have pos1 : 0 < (L.filter (fun n => near (withC rows n))).length := List.length_pos_of_mem (List.mem_filter.mpr ⟨hc1, hc2⟩)
    generalize L.filter (fun n => near (withC rows n)) = L1 at sub1 nl1 pos1 h6
    refine b_fL (j := 6) (enc := fun n => rowsD (withC rows n)) (as := L1) (p := fun n => !free (withC rows n)) (f := fun n => rowsD (withC rows n)) (i := 9) rfl scMNear.nd rfl rfl (blkOk_by (N := NNr) (sc := defScope sMakeNear) (by decide +kernel)) (fun _ _ _ _ _ => pg_name (i := 9) scMNear.nd rfl (Or.inl rfl)) (ev_v (pv 5) rfl h6 mono_lstD) (by omega) (fun n v H' hm sx td s' H0 C cl fp => et_not (et_v (ev_free (gdef_blk GF) (ev_v (pv 9) rfl td mono_da) (rk n (sub1 n hm))))) (fun n v H' hm hp sx td s' H0 C cl fp => ev_v (pv 9) rfl td mono_da) fun v7 H7 s7 h7 => ?_
    have sub2 : ∀ n ∈ L1.filter (fun n => !free (withC rows n)), n ∈ L := fun n hn => sub1 n (List.mem_filter.mp hn).1
    have nl2 : (L1.filter (fun n => !free (withC rows n))).length ≤ 64 := Nat.le_trans (List.length_filter_le _ _) nl1
    generalize L1.filter (fun n => !free (withC rows n)) = L2 at sub2 nl2 h7
    have h6 := mono_lstD _ _ _ s7 h6
    have k07 : KeepX d H H7 := ((k04.trans (.of s5)).trans (.of s6)).trans (.of s7)
    have rd7 := ((rd4.same s5).same s6).same s7
    -- the pick
    have fin : ∀ (l : List (List Int)) (n : Nat) (H8 : Hp) (u : V) (Q' : VK), (∀ v H', KeepX d H H' → RdN d c (N + 50) H' → StV v H' → Q' v H') → (∀ n ∈ l, n ∈ L) → 0 < l.length → l.length ≤ 64 → KeepX d H7 H8 → RdN d c n H8 → n ≤ N + 41 → LstD (l.map fun n => rowsD (withC rows n)) u H8 → spPick [.ref d, u] H8 Q' E0 := by
      rintro l n H8 u Q' kq hsub h0 h64 k8 rd8 hn ⟨S, us, rfl, hS, t⟩
      have lus : us.length = l.length := by rw [t.len, List.length_map]
      refine ⟨d, c, n, S, us, rfl, hS, by omega, by omega, by omega, rd8, fun v H' hv kk rr => kq v H' ((k07.trans k8).trans kk) (rr.le (by omega)) ?_⟩
      obtain ⟨i, hi⟩ := List.mem_iff_getElem?.mp hv
      obtain ⟨e, he, te⟩ := t.at' hi
      obtain ⟨m, hm, rfl⟩ := map_at he
      exact ⟨withC rows m, Td.keep (KeepX.tup rd8.rd kk) _ _ te, rk m (hsub m (List.mem_of_getElem? hm))⟩
    refine b_ret (w_call2 GP (w_ev (ev_vi (pv 0) rfl) fun v8 H8 s8 e8 => w_E (pe_ifExp pw_W.pt pw_E pw_E) (w_W (pw_and pw_T pw_W) (w_evT (CC.et (c_neNil (ds := L2.map fun n => rowsD (withC rows n)) un (ev_v (pv 6) rfl (mono_lstD _ _ _ s8 h7) mono_lstD) (fun dd hd => by
      obtain ⟨l, _, rfl⟩ := List.mem_map.mp hd
      exact plain_rows _) (fun dd hd => by
      obtain ⟨l, _, rfl⟩ := List.mem_map.mp hd
      exact depth_rows _))) fun H9 s9 => ?_))))
    cases e8
    have k79 : KeepX d H7 H9 := (KeepX.of s8).trans (.of s9)
    have rd9 := (rd7.same s8).same s9
    by_cases on : (!(L2.map fun n => rowsD (withC rows n)).isEmpty) = true
    · rw [if_pos on]
      refine w_W (pw_and1 pw_T) (w_T (pt_cmpR op_eq pw_E pw_E (nomark _)) (w_drawN GD (ev_vi (pv 0) rfl) (ev_c pe_int) rd9 (by omega) (by decide) (by decide) fun z4 H10 _ _ k10 rd10 => w_ev (ev_c pe_int) fun v3 H12 s12 e3 => ?_))
      cases e3
      refine ⟨rfl, decide (V.int z4 = V.int 0), rfl, ?_⟩
      have kB : KeepX d H7 H12 := (k79.trans k10).trans (.of s12)
      have rdB := rd10.same s12
      have p2 := empty_len on
      rw [List.length_map] at p2
      show (if decide (V.int z4 = V.int 0) = true then _ else _)
      by_cases z : decide (V.int z4 = V.int 0) = true
      · rw [if_pos z]
        exact w_ev (ev_v (pv 6) rfl (KeepX.lstD rd7.rd kB h7) mono_lstD) fun v13 H13 s13 h13 => fin L2 _ H13 v13 _ k sub2 p2 nl2 (kB.trans (.of s13)) (rdB.same s13) (by omega) h13
      · rw [if_neg z]
        exact w_ev (ev_v (pv 5) rfl (KeepX.lstD rd7.rd kB h6) mono_lstD) fun v13 H13 s13 h13 => fin L1 _ H13 v13 _ k sub1 pos1 nl1 (kB.trans (.of s13)) (rdB.same s13) (by omega) h13
    · rw [if_neg on]
      exact w_ev (ev_v (pv 5) rfl (KeepX.lstD rd7.rd k79 h6) mono_lstD) fun v13 H13 s13 h13 => fin L1 _ H13 v13 _ k sub1 pos1 nl1 (k79.trans (.of s13)) (rd9.same s13) (by omega) h13
end
end Kn

namespace Cb
open PySem PySem.Spec PyProof.Rows L2
/-! ### calls with keywords only -/
section
variable {X : Cx} {CX : CXT} {k : Nat} {f : Addr} {fd : FuncData} {ps ks : List Str} {sp : Sp} {E : XK} {x : Str} {p pos : Pos} {kws : List Keyword} {tk : TA} {g : List Value → List Value → List Value} {gV : List V → List V → List V}
theorem pe_callK0 (F : FnOk X.prog X.w X.K X.mg X.base CX k f fd ps sp) (hr : Room k X.A) (hg : Gl X x) (hm : X.mg x = some (.ref f)) (hk : PySem.W.keepIn X.K (.ref f) = true) (hb : KBinds X.K fd ps ks g gV) (hx : Passes CX X E)
    (hkw : PK X kws tk) (hall : (backToKw pos (keywordEach kws X.env)).all (·.1.isSome) = true := by rfl) (hks : (backToKw pos (keywordEach kws X.env)).filterMap (·.1) = ks := by rfl)
    (hdb : (x == ("__debug__" : Str)) = false := by decide)
    (hpl : ((backTo pos (starEach [] X.env)).any (·.1) || (backToKw pos (keywordEach kws X.env)).any (·.1.isNone)) = false := by rfl) :
    PE X (.Call (.Name x p) [] kws pos) (tCallK sp gV E tNil tk) := by
  refine ⟨fun pins s σ H Q I h => ?_⟩
  refine wpAny_Call_Name_kw (ld_glob I hg hm ?_ hdb)
  refine PySem.W.callWith_KW0 (h₀ := X.base) I.ok.mod.kin hk hall ?_ hpl
  refine thn (hkw.run pos pins s σ H _ I h) fun ws s2 ⟨zs, H2, I2, rz, q2⟩ => ⟨I2.kIn, ?_⟩
  rw [hks]
  exact run_fnk (us := []) (vs := []) F hr hb hx I2 .nil rz q2
end
/-- list + list -/
theorem ev_catD {X : Cx} {a b : Expr} {σ : L2.St} {H : Hp} {pos : Pos} {ds es : List PyData} (ha : Ev X σ H a (LstD ds)) (hb : Ev X σ H b (LstD es)) (hl : ds.length + es.length ≤ 1000) : Ev X σ H (.BinOp a .Add b pos) (LstD (ds ++ es)) :=
  ev_op op_cat ha hb mono_lstD (fun x y H2 s px py => by
    obtain ⟨l, xs, rfl, h1, t1⟩ := px
    obtain ⟨b, zs, rfl, h2, t2⟩ := py
    exact ⟨l, b, xs, zs, rfl, rfl, h1, h2, by rw [t1.len, t2.len]; exact Nat.le_trans hl (by decide), fun q hq => ⟨same_new hq, q, _, rfl, upd_same, Tds.keep (.of (same_new hq)) _ _ (t1.app t2)⟩⟩) (fun x y H Q Q' kk ⟨l, b, xs, zs, h1, h2, h3, h4, h5, q⟩ => ⟨l, b, xs, zs, h1, h2, h3, h4, h5, fun p hp => kk _ _ (q p hp)⟩)
end Cb
namespace Kn
open PySem PySem.Spec PyProof.Rows L2 Cb
/-- repr of a list of which Shw is known -/
theorem ev_reprL {X : Cx} {e : Expr} {σ : L2.St} {H : Hp} {p pos : Pos} {ds : List PyData} {k L : Nat} (gd : X.A.guards = some []) (hu : X.A.units + 64 < cLine) (hm : X.mg "repr" = none) (ha : Ev X σ H e (LstD ds)) (h : Shw k L (.list ds)) (hk : k ≤ 60) (hL : L ≤ 16000000)
    (hg : Gl X "repr" := by rfl) (he : starEach [e] X.env = (false, eval e X.env) :: starEach [] X.env := by rfl) (hpl : (backTo pos (starEach [] X.env)).any (·.1) = false := by rfl) : Ev X σ H (.Call (.Name "repr" p) [e] [] pos) (Is (.str (PyData.list ds).shown)) :=
  ev_repr gd hu hm ha mono_lstD (fun v H' _ h => ⟨lstD_dp h, by obtain ⟨a, xs, e, _⟩ := h; exact ⟨a, e⟩⟩) h.s h.h (Nat.le_trans h.dp hk) (Nat.le_trans h.z (Nat.le_trans hL (by decide))) hg he hpl
/-- a def of the program, by position or by its keyword -/
structure LDK (P : Program) (w : World) (K : PySem.W.Frag) (mg : Str → Option Value) (base : Heap) (x : Str) (k : Nat) (sp : Sp) : Prop where
  ex : ∃ (f : Addr) (fd : FuncData), FnOk P w K mg base CX0 k f fd ["state"] sp ∧ mg x = some (.ref f) ∧ PySem.W.keepIn K (.ref f) = true ∧ Binds K fd ["state"] [] ∧ KBinds K fd ["state"] ["state"] (fun us ws => us ++ ws) (fun us ws => us ++ ws)
structure GDefK (X : Cx) (x : Str) (k : Nat) (f : Addr) (fd : FuncData) (sp : Sp) : Prop where
  g : GDef X x k f fd ["state"] sp
  kb : KBinds X.K fd ["state"] ["state"] (fun us ws => us ++ ws) (fun us ws => us ++ ws)
theorem LDK.g {X : Cx} {x : Str} {k : Nat} {sp : Sp} (h : LDK X.prog X.w X.K X.mg X.base x k sp) {n : Nat} (hr : Room n X.A) (l : k ≤ n) : ∃ f fd, GDefK X x k f fd sp := by
  obtain ⟨f, fd, F, g, kp, b, kb⟩ := h.ex
  exact ⟨f, fd, ⟨F, hr.mono l, g, kp, b⟩, kb⟩
theorem ev_rowsK {X : Cx} {σ : L2.St} {H : Hp} {a : Expr} {p q kp : Pos} {k : Nat} {f : Addr} {fd : FuncData} {rows : List Ln} {x : Str} {R : List Ln → Pd} (g : GDefK X x k f fd (spRows R)) (ha : Ev X σ H a (Da (rowsD rows))) (h : RowsK rows) (hg : Gl X x := by rfl) (hdb : (x == ("__debug__" : Str)) = false := by decide)
    (hall : (backToKw p (keywordEach [⟨some "state", a, kp⟩] X.env)).all (·.1.isSome) = true := by rfl) (hks : (backToKw p (keywordEach [⟨some "state", a, kp⟩] X.env)).filterMap (·.1) = (["state"] : List Str) := by rfl) (hpl : ((backTo p (starEach [] X.env)).any (·.1) || (backToKw p (keywordEach [⟨some "state", a, kp⟩] X.env)).any (·.1.isNone)) = false := by rfl) :
    Ev X σ H (.Call (.Name x q) [] [⟨some "state", a, kp⟩] p) (R rows) := fun H1 s1 =>
  w_E (pe_callK0 g.g.ok g.g.room hg g.g.gl g.g.kp g.kb pass0 (pk_cons pw_E pk_nil) hall hks hdb hpl) (show wE X a σ H1 _ from wE_mono (ha H1 s1) fun v H2 ⟨s2, pv⟩ => ⟨rows, ⟨⟨v, rfl, pv⟩, h⟩, fun v' H' s' r => ⟨s2.trans s', r⟩⟩)
/-! ### what the law writes of a state -/
def wantL (rows : List Ln) : List PyData := [.tuple (rows.map fun l => qd (gap l)), .tuple [qd (aheadR rows), qd (behindR rows), qd (endedR rows)], .bool (near rows), .bool (free rows)]
theorem shw_want {rows : List Ln} (ok : RowsK rows) : Shw 3 40000 (.list (wantL rows)) := by
  have h1 : Shw 2 8900 (.tuple (rows.map fun l => qd (gap l))) := (shw_tup (k := 1) (L := 1100) (n := 8) (fun d hd => by
    obtain ⟨l, hl, rfl⟩ := List.mem_map.mp hd
    exact (shw_qd (bd_gap (ok.2 l hl)) (by decide)).mono (Nat.le_refl _) (by decide)) (by rw [List.length_map]; exact ok.1)).mono (Nat.le_refl _) (by decide)
  have b1 := shw_qd (bd_ahead ok) (by decide)
  have b2 := shw_qd (bd_behind ok) (by decide)
  have b3 := shw_qd (bd_ended ok) (by decide)
  have h2 : Shw 2 8900 (.tuple [qd (aheadR rows), qd (behindR rows), qd (endedR rows)]) := (shw_tup (k := 1) (L := 1100) (n := 8) (fun d hd => by
    rcases List.mem_cons.mp hd with rfl | hd
    · exact b1.mono (Nat.le_refl _) (by decide)
    · exact mem2 (Q := Shw 1 1100) (b2.mono (Nat.le_refl _) (by decide)) (b3.mono (Nat.le_refl _) (by decide)) hd) (by show 3 ≤ 8; decide)).mono (Nat.le_refl _) (by decide)
  refine (shw_lst (k := 2) (L := 8900) (n := 4) (fun d hd => ?_) (Nat.le_refl _)).mono (Nat.le_refl _) (by decide)
  rcases List.mem_cons.mp hd with rfl | hd
  · exact h1
  · rcases List.mem_cons.mp hd with rfl | hd
    · exact h2
    · exact mem2 (Q := Shw 2 8900) (shw_bool.mono (by decide) (by decide)) (shw_bool.mono (by decide) (by decide)) hd
theorem shw_rows8 {rows : List Ln} (ok : RowsK rows) : Shw 3 261000 (rowsD rows) := by
  refine (shw_tup (k := 2) (L := 13000) (n := 20) (fun d hd => ?_) (by rw [List.length_map]; have := ok.1; omega)).mono (Nat.le_refl _) (by decide)
  obtain ⟨l, hl, rfl⟩ := List.mem_map.mp hd
  obtain ⟨a, _, b, c⟩ := ok.2 l hl
  exact shw_ld a b (by decide) (Nat.lt_of_lt_of_le c (Nat.pow_le_pow_right (by decide) (by decide)))
theorem eqv_two (s : Str) : PyData.eqv (.list [.str s, .str s]) (.list [.str s, .str s]) = true := by simp [PyData.eqv, PyData.eqvAll]
/-- with any small counts -/
theorem zip_any : ∀ {rows : List Ln} {ns : List Int}, ∀ l ∈ zipC rows ns, ∃ l0 ∈ rows, l.nm = l0.nm ∧ l.ex = l0.ex ∧ l.ct ∈ ns
  | [], ns, l, hl => by
    unfold zipC at hl
    simp at hl
  | r :: rows, [], l, hl => by
    unfold zipC at hl
    simp at hl
  | r :: rows, n :: ns, l, hl => by
    have e : zipC (r :: rows) (n :: ns) = ⟨r.nm, r.ex, n, r.on⟩ :: zipC rows ns := rfl
    rw [e] at hl
    rcases List.mem_cons.mp hl with hl | hl
    · subst hl
      exact ⟨r, List.mem_cons_self .., rfl, rfl, List.mem_cons_self ..⟩
    · obtain ⟨l0, a1, a2, a3, a4⟩ := zip_any l hl
      exact ⟨l0, List.mem_cons_of_mem _ a1, a2, a3, List.mem_cons_of_mem _ a4⟩
theorem rowsK_any {rows : List Ln} {ns : List Int} (l6 : rows.length ≤ 6) (ok : ∀ l ∈ rows, LnB l) (hl : ns.length = rows.length) (h : ∀ z ∈ ns, z.natAbs < 2 ^ 20) : RowsK (withC rows ns) := by
  refine ⟨by rw [withC_len]; omega, fun l hm => ?_⟩
  rw [withC_zip hl] at hm
  obtain ⟨l0, m, e1, e2, e3⟩ := zip_any l hm
  obtain ⟨k1, k2, k3, _⟩ := ok l0 m
  exact ⟨by rw [e1]; exact k1, by rw [e2]; exact k2, by rw [e2]; exact k3.mono (by decide), h _ e3⟩
end Kn

namespace Kn
open PySem PySem.Spec PyProof.Rows L2 Cb
def spLaw (K : PySem.W.Frag) : Sp := fun vs H Q _ => ∃ (a : Addr) (ns : List Int), vs = [.ref a] ∧ SqL K H a (ns.map V.int) ∧ ns.length ≤ 63 ∧ ∀ H', Q (.bl true) H'
abbrev NL : List Str := ["_law_script", "_law_rng", "_law_lap", "_law_bare", "_law_here", "_law_near", "_law_one", "_law_before", "_law_want", "_law_got", "_law_some", "_law_row"]
theorem scLaw : FnScope NL ["_law_script"] (defScope sLaw) := ⟨rfl, rfl, rfl, by decide +kernel, rfl, by decide +kernel, by decide +kernel⟩
section
variable {P : Program} {w : World} {K : PySem.W.Frag} {mg : Str → Option Value} {base : Heap}
theorem ok_law {f : Addr} {fd : FuncData} (F : Fun K "law" "law" sLaw f fd) (LR : LD P w K mg base "_law_stream" 1 ["_law_script"] (spStream K)) (LB : LD P w K mg base "_law_make_bare" 4 ["_law_rng", "_law_least", "_law_most"] spBare) (LW : LD P w K mg base "_law_with_counts" 1 ["_law_here", "_law_counts"] spWith) (LDn : LD P w K mg base "_law_down" 1 ["_law_value"] spDn)
    (LP : LD P w K mg base "_law_pick" 2 ["_law_rng", "_law_pool"] spPick) (LN : LD P w K mg base "_law_make_near" 6 ["_law_rng", "_law_least", "_law_most"] spNear) (LGa : LD P w K mg base "_law_gaps" 3 ["_law_here"] spGaps) (LSc : LD P w K mg base "_law_scales" 4 ["_law_here"] spScales) (LIN : LD P w K mg base "_law_is_near" 4 ["_law_here"] spClose) (LIF : LD P w K mg base "_law_is_free" 5 ["_law_here"] spOpen)
    (LO : LDK P w K mg base "offs" 4 spOffs) (LBa : LDK P w K mg base "balances" 5 spBal) (LC : LDK P w K mg base "is_close_state" 4 spClose) (LOp : LDK P w K mg base "is_open" 6 spOpen)
    (zr : mg "range" = none) (zt : mg "tuple" = none) (zp : mg "repr" = none) : FnG P w K mg base 7 f fd ["_law_script"] (spLaw K) := by
  refine okG F scLaw (fun {vs H Q E} h => ?_) (fun cdv A0 outer s H vs Q E gd hr h => ?_)
  · obtain ⟨a, ns, rfl, _⟩ := h
    rfl
  · obtain ⟨a, ns, rfl, hS0, _, k⟩ := h
    obtain ⟨fR, fdR, GR⟩ := LD.g (X := (cxOf CX0 P w K mg base NL "law" (defScope sLaw) f cdv A0 outer s H E).nox) LR hr (by decide)
    obtain ⟨fB, fdB, GB⟩ := LD.g (X := (cxOf CX0 P w K mg base NL "law" (defScope sLaw) f cdv A0 outer s H E).nox) LB hr (by decide)
    obtain ⟨fW, fdW, GW⟩ := LD.g (X := (cxOf CX0 P w K mg base NL "law" (defScope sLaw) f cdv A0 outer s H E).nox) LW hr (by decide)
    obtain ⟨fD, fdD, GD⟩ := LD.g (X := (cxOf CX0 P w K mg base NL "law" (defScope sLaw) f cdv A0 outer s H E).nox) LDn hr (by decide)
    obtain ⟨fP, fdP, GP⟩ := LD.g (X := (cxOf CX0 P w K mg base NL "law" (defScope sLaw) f cdv A0 outer s H E).nox) LP hr (by decide)
    obtain ⟨fN, fdN, GN⟩ := LD.g (X := (cxOf CX0 P w K mg base NL "law" (defScope sLaw) f cdv A0 outer s H E).nox) LN hr (by decide)
    obtain ⟨fG, fdG, GG⟩ := LD.g (X := (cxOf CX0 P w K mg base NL "law" (defScope sLaw) f cdv A0 outer s H E).nox) LGa hr (by decide)
    obtain ⟨fS, fdS, GS⟩ := LD.g (X := (cxOf CX0 P w K mg base NL "law" (defScope sLaw) f cdv A0 outer s H E).nox) LSc hr (by decide)
    obtain ⟨fI, fdI, GI⟩ := LD.g (X := (cxOf CX0 P w K mg base NL "law" (defScope sLaw) f cdv A0 outer s H E).nox) LIN hr (by decide)
    obtain ⟨fF, fdF, GF⟩ := LD.g (X := (cxOf CX0 P w K mg base NL "law" (defScope sLaw) f cdv A0 outer s H E).nox) LIF hr (by decide)
    obtain ⟨f1, fd1, G1⟩ := LDK.g (X := (cxOf CX0 P w K mg base NL "law" (defScope sLaw) f cdv A0 outer s H E).nox) LO hr (by decide)
    obtain ⟨f2, fd2, G2⟩ := LDK.g (X := (cxOf CX0 P w K mg base NL "law" (defScope sLaw) f cdv A0 outer s H E).nox) LBa hr (by decide)
    obtain ⟨f3, fd3, G3⟩ := LDK.g (X := (cxOf CX0 P w K mg base NL "law" (defScope sLaw) f cdv A0 outer s H E).nox) LC hr (by decide)
    obtain ⟨f4, fd4, G4⟩ := LDK.g (X := (cxOf CX0 P w K mg base NL "law" (defScope sLaw) f cdv A0 outer s H E).nox) LOp hr (by decide)
    have un := hr.units
    -- the numbers
    refine b_set (i := 1) scLaw.nd rfl (.inr rfl) (w_call1 GR (w_ev (ev_vi (pv 0) rfl) fun v0 H1 s1 e0 => ?_))
    cases e0
    refine ⟨a, ns, rfl, s1.seq hS0, fun d c H2 s2 rd2 nd => ?_⟩
    -- ten laps
    refine b_for rfl (pi_range1 (by rfl) zr (pa_cons pe_int pa_nil)) (pg_name (i := 2) scLaw.nd rfl (.inl rfl)) ?_ PassesOwn.never
    refine ⟨10, rfl, by decide, by decide, for_range (n := 10) (fun i σ H' => ∃ y2 y3 y4 y5 y6 y7 y8 y9 y10, σ = [some (.ref a), some (.ref d), y2, y3, y4, y5, y6, y7, y8, y9, y10, none] ∧ RdN d c (100 * i) H') ⟨none, none, none, none, none, none, none, none, none, rfl, rd2⟩ ?_ ?_⟩
    · rintro i σ H3 hi ⟨y2, y3, y4, y5, y6, y7, y8, y9, y10, rfl, rd3⟩
      -- the lines
      refine b_set (i := 3) scLaw.nd rfl (.inl rfl) (w_call3 GB (w_ev (ev_vi (pv 1) rfl) fun v0 H4 s4 e0 => w_ev (ev_c pe_int) fun v1 H5 s5 e1 => w_ev (ev_c pe_int) fun v2 H6 s6 e2 => ?_))
      cases e0
      cases e1
      cases e2
      refine ⟨d, c, 100 * i, rfl, by omega, ((rd3.same s4).same s5).same s6, fun v7 H7 k7 rd7 ⟨rows, tb, l1, l6, okb⟩ => ?_⟩
      -- cents up to two off
      obtain ⟨qb, xb, rfl, hqb, tb0⟩ := id tb.un
      refine b_set (i := 4) scLaw.nd rfl (.inl rfl) (w_call2 GW (w_ev (ev_v (pv 3) rfl tb mono_da) fun v8 H8 s8 t8 => w_E (pe_lc (own := [("_law_row", 11)]) (g := gName 11) (tt := tYes) rfl scLaw.nd (pi_tup (pv 3)) (blkOk_by (N := NL) (sc := defScope sLaw) (by decide +kernel)) (fun _ _ _ _ _ => pg_name (i := 11) scLaw.nd rfl (Or.inl rfl)) (fun _ _ _ _ _ => pts_nil) pw_Eb) ?_))
      have hq8 := s8 _ _ hqb
      have tb8 := Tds.keep (.of s8) _ _ tb0
      have rd8 := rd7.same s8
      have lxb : xb.length = rows.length := by rw [tb0.len, List.length_map]
      refine ⟨_, rfl, qb, rfl, ⟨_, .of hq8⟩, fun M hM => lc_tup (K := K) (a := qb) (xs := xb) (fun j H' => KeepX d H8 H' ∧ RdN d c (100 * i + 40 + j) H' ∧ ∃ ns : List Int, H' M = some (.lst (ns.map V.int)) ∧ ns.length = j ∧ ∀ z ∈ ns, z.natAbs < 2 ^ 20) ?_ (fun j H' _ h => .of (KeepX.tup rd8.rd h.1 _ _ hq8)) ?_ ?_⟩
      · exact ⟨.of (same_new hM), rd8.same (same_new hM), [], upd_same, rfl, fun z hz => by cases hz⟩
      · rintro j y H9 hy ⟨k9, rd9, ms, hm, hn, hms⟩
        obtain ⟨e, he, te⟩ := tb8.at' hy
        obtain ⟨l, hl, rfl⟩ := map_at he
        have hj : j < 7 := by
          have := (List.getElem?_eq_some_iff.mp hl).1
          omega
        have okl := okb l (List.mem_of_getElem? hl)
        have te9 := Td.keep (KeepX.tup rd8.rd k9) _ _ te
        refine ⟨wipeD, ?_⟩
        unfold tYes
        dsimp only
        rw [if_pos rfl]
        intro s' H0 C' cl' fp'
        refine w_E (pe_op op_add pw_E pw_E) (w_ev (ev_ldn (gdef_blk GD) (ev_ixD (j := 1) (ev_v (pv 11) rfl te9 mono_da) (ev_c pe_int) rfl) (okl.2.2.1.mono (by decide))) fun v10 H10 s10 e10 => w_call2 (gdef_blk GP) (w_ev (ev_vi (pv 1) rfl) fun v11 H11 s11 e11 => w_ev (ev_litL (ds := ([0, 0, 0, 1, 1, -1, 2] : List Int).map PyData.int) 3 rfl (by show 7 ≤ 1000; decide)) fun v12 H12 s12 ⟨S, us, e12, hS, tS⟩ => ?_))
        cases e11
        subst e12
        obtain rfl := tS.ints
        refine ⟨d, c, 100 * i + 40 + j, S, _, rfl, hS, by decide, by decide, by omega, ((rd9.same s10).same s11).same s12, fun v13 H13 hv k13 rd13 => ?_⟩
        obtain ⟨m, hm2, rfl⟩ := List.mem_map.mp hv
        have k93 : KeepX d H9 H13 := (((KeepX.of s10).trans (.of s11)).trans (.of s12)).trans k13
        have hm13 := KeepX.lst rd9.rd k93 hm
        refine ⟨_, m, e10, rfl, ms.map V.int, hm13, by rw [List.length_map]; exact small1000 (by omega), keepX_put (k9.trans k93) hM, RdN.put rd13 hm13 (fun _ z => by cases z) (new_c rd8 hM), ms ++ [dn l.ex + m], ?_, by rw [List.length_append, hn]; rfl, fun z hz => ?_⟩
        · rw [upd_same, List.map_append]
          rfl
        · rcases List.mem_append.mp hz with hz | hz
          · exact hms z hz
          · rw [List.mem_singleton.mp hz]
            have q : ∀ z ∈ ([0, 0, 0, 1, 1, -1, 2] : List Int), -1 ≤ z ∧ z ≤ 2 := by decide
            have q := q m hm2
            have b := dn_small okl.2.1 okl.2.2.1
            have f5 : (2 : Nat) ^ 20 = 1048576 := by decide
            rw [f5]
            omega
      · rintro H9 ⟨k9, rd9, ms, hm, hn, hms⟩
        have lms : ms.length = rows.length := by rw [hn, lxb]
        have t89 : Td H9 (rowsD rows) v8 := Td.keep (KeepX.tup rd8.rd k9) _ _ t8
        refine ⟨(rows, ms), ⟨⟨v8, .ref M, rfl, t89, .inl ⟨M, _, rfl, hm, tds_ints ms⟩⟩, by show rows.length ≤ 20; omega, lms⟩, fun v10 H10 s10 t10 => ?_⟩
        have t10 : Td H10 (rowsD (withC rows ms)) v10 := t10
        have ok1 : RowsK (withC rows ms) := rowsK_any l6 okb lms hms
        have rdA := (rd9.same s10).le (show 100 * i + 40 + xb.length ≤ 100 * i + 50 by omega)
        generalize withC rows ms = rows1 at t10 ok1
        -- a close state
        refine b_set (i := 5) scLaw.nd rfl (.inl rfl) (w_call3 GN (w_ev (ev_vi (pv 1) rfl) fun v0 H11 s11 e0 => w_ev (ev_c pe_int) fun v1 H12 s12 e1 => w_ev (ev_c pe_int) fun v2 H13 s13 e2 => ?_))
        cases e0
        cases e1
        cases e2
        refine ⟨d, c, 100 * i + 50, rfl, by omega, ((rdA.same s11).same s12).same s13, fun v14 H14 k14 rd14 ⟨rows2, t14, ok2⟩ => ?_⟩
        have kA4 : KeepX d H10 H14 := (((KeepX.of s11).trans (.of s12)).trans (.of s13)).trans k14
        have t10' : Td H14 (rowsD rows1) v10 := Td.keep (KeepX.tup rdA.rd kA4) _ _ t10
        -- both
        refine b_for rfl (pi_tup pw_E) (pg_name (i := 6) scLaw.nd rfl (.inl rfl)) ?_ PassesOwn.never
        refine w_ev (ev_tupD (ds := [rowsD rows1, rowsD rows2]) (ed_cons (ev_v (pv 4) rfl t10' mono_da) (ed_cons (ev_v (pv 5) rfl t14 mono_da) ed_nil)) (by show 2 ≤ 1000; decide)) fun v15 H15 s15 h15 => ?_
        obtain ⟨q, xs, rfl, hq, tq⟩ := Td.un h15
        refine ⟨q, rfl, ⟨_, .of hq⟩, for_tup (K := K) (a := q) (xs := xs) (fun j σ H' => ∃ y6 y7 y8 y9 y10, σ = [some (.ref a), some (.ref d), some (.int (0 + (i : Int))), some (.ref qb), some v10, some v14, y6, y7, y8, y9, y10, none] ∧ Same H15 H') ⟨_, _, _, _, _, rfl, .refl _⟩ (fun i σ H' _ ⟨_, _, _, _, _, _, h⟩ => .of (h _ _ hq)) ?_ ?_⟩
        · rintro j x σ H16 hx ⟨y6, y7, y8, y9, y10, rfl, s16⟩
          obtain ⟨dd, hd, td⟩ := tq.at' hx
          obtain ⟨rs, ok, rfl⟩ : ∃ rs, RowsK rs ∧ dd = rowsD rs := by
            rcases List.mem_cons.mp (List.mem_of_getElem? hd) with e | e
            · exact ⟨rows1, ok1, e⟩
            · exact ⟨rows2, ok2, List.mem_singleton.mp e⟩
          have tx := Td.keep (.of s16) _ _ td
          have sR := shw_rows8 ok
          have sW := shw_want ok
          refine b_setE (i := 7) scLaw.nd rfl (.inl rfl) (ev_reprS gd un zp (ev_v (pv 6) rfl tx mono_da) sR (by decide) (by decide)) fun v17 H17 s17 e17 => ?_
          cases e17
          have tx := mono_da _ _ _ s17 tx
          refine b_setE (i := 8) scLaw.nd rfl (.inl rfl) (ev_reprL (ds := wantL rs) gd un zp (ev_lstD (ed_cons (ev_tupleL zt (ev_gaps GG (ev_v (pv 6) rfl tx mono_da) ok)) (ed_cons (ev_scales GS (ev_v (pv 6) rfl tx mono_da) ok) (ed_cons (Ev.bool (ev_near GI (ev_v (pv 6) rfl tx mono_da) ok)) (ed_cons (Ev.bool (ev_free GF (ev_v (pv 6) rfl tx mono_da) ok)) ed_nil)))) (by show 4 ≤ 1000; decide)) sW (by decide) (by decide)) fun v18 H18 s18 e18 => ?_
          cases e18
          have tx := mono_da _ _ _ s18 tx
          refine b_setE (i := 9) scLaw.nd rfl (.inl rfl) (ev_lstD (ds := [.str (PyData.list (wantL rs)).shown]) (ed_cons (Ev.str (ev_reprL (ds := wantL rs) gd un zp (ev_lstD (ed_cons (ev_offs G1.g (ev_v (pv 6) rfl tx mono_da) ok) (ed_cons (ev_bal G2.g (ev_v (pv 6) rfl tx mono_da) ok) (ed_cons (Ev.bool (ev_close G3.g (ev_v (pv 6) rfl tx mono_da) ok)) (ed_cons (Ev.bool (ev_open G4.g (ev_v (pv 6) rfl tx mono_da) ok)) ed_nil)))) (by show 4 ≤ 1000; decide)) sW (by decide) (by decide))) ed_nil) (by show 1 ≤ 1000; decide)) fun v19 H19 s19 h19 => ?_
          have tx := mono_da _ _ _ s19 tx
          refine b_setE (i := 10) scLaw.nd rfl (.inl rfl) (ev_lstD (ds := wantL rs) (ed_cons (ev_rowsK G1 (ev_v (pv 6) rfl tx mono_da) ok) (ed_cons (ev_rowsK G2 (ev_v (pv 6) rfl tx mono_da) ok) (ed_cons (Ev.bool (ev_rowsK (R := fun rows => Is (.bl (near rows))) G3 (ev_v (pv 6) rfl tx mono_da) ok)) (ed_cons (Ev.bool (ev_rowsK (R := fun rows => Is (.bl (free rows))) G4 (ev_v (pv 6) rfl tx mono_da) ok)) ed_nil)))) (by show 4 ≤ 1000; decide)) fun v20 H20 s20 h20 => ?_
          have tx := mono_da _ _ _ s20 tx
          have h19 := mono_lstD _ _ _ s20 h19
          refine b_ifF (et_w (ew_orF ?_ (ew_or1 ?_))) fun H21 s21 => ?_
          · refine EvT.is (CC.et (c_neP (d := .list [.str (PyData.list (wantL rs)).shown, .str (PyData.list (wantL rs)).shown]) (e' := .list [.str (PyData.list (wantL rs)).shown, .str (PyData.list (wantL rs)).shown]) un (ev_catD (ds := [.str (PyData.list (wantL rs)).shown]) (es := [.str (PyData.list (wantL rs)).shown]) (ev_v (pv 9) rfl h19 mono_lstD) (ev_lstD (ed_cons (Ev.str (ev_reprL (ds := wantL rs) gd un zp (ev_v (pv 10) rfl h20 mono_lstD) sW (by decide) (by decide))) ed_nil) (by show 1 ≤ 1000; decide)) (by show 2 ≤ 1000; decide))
              (ev_lstD (ds := [.str (PyData.list (wantL rs)).shown, .str (PyData.list (wantL rs)).shown]) (ed_cons (Ev.str (ev_vi (pv 8) rfl)) (ed_cons (Ev.str (ev_vi (pv 8) rfl)) ed_nil)) (by show 2 ≤ 1000; decide)) mono_lstD (fun x H' s h => lstD_dp h) (fun x H' s h => lstD_dp h) rfl rfl (by show 1 ≤ 60; decide))) ?_
            rw [eqv_two]
            rfl
          · exact et_same (rowsD rs).shown (ev_reprS gd un zp (ev_v (pv 6) rfl tx mono_da) sR (by decide) (by decide)) (ev_vi (pv 7) rfl)
          exact b_nil ⟨_, _, _, _, _, rfl, s16.trans ((((s17.trans s18).trans s19).trans s20).trans s21)⟩
        · rintro σ H16 ⟨y6, y7, y8, y9, y10, rfl, s16⟩
          exact b_nil ⟨_, _, _, _, _, _, _, _, _, rfl, ((rd14.same s15).same s16).le (by omega)⟩
    · rintro σ H3 ⟨y2, y3, y4, y5, y6, y7, y8, y9, y10, rfl, rd3⟩
      exact b_retE (ev_c pe_bl) fun v H4 s4 e => by
        cases e
        exact k H4
end
end Kn

namespace Kn
open PySem PySem.Spec PyProof.Rows L2 Cb
/-! ### what the top has written -/
theorem kb_state {K : PySem.W.Frag} {fd : FuncData} (h1 : ∀ (s : Shared) (v : Value), BindsTo s fd ⟨[v], []⟩ [("state", v)]) (h2 : ∀ (s : Shared) (v : Value), BindsTo s fd ⟨[], [("state", v)]⟩ [("state", v)]) : KBinds K fd ["state"] ["state"] (fun us ws => us ++ ws) (fun us ws => us ++ ws) :=
  ⟨fun s us ws _ hl => by
    have e : us.length + ws.length = 1 := by rw [← List.length_append]; exact hl
    match us, ws, e with
    | [], [w], _ => exact h2 s w
    | [u], [], _ => exact h1 s u, fun a b => a.append b⟩
theorem all_mk {l : PySem.W.OpenLaw} {w : World} {K : PySem.W.Frag} {h : Heap} {mg : Str → Option Value} {fa : Addr} (X : K.In h) (G : h.Ns mainGlobals mg) (hfa : mg "law" = some (.ref fa))
    {f1 f2 f3 f4 f5 f6 f7 f8 f9 f10 f11 f12 f13 f14 f15 f16 f17 f18 f19 f20 f21 f22 f23 f24 f25 f26 f27 f28 f29 f30 f31 f32 f33 f34 f35 f36 fN fO : Addr} {od1 an1 od2 an2 od3 an3 od4 an4 od5 an5 od6 an6 od7 an7 od8 an8 od9 an9 od10 an10 od11 an11 od12 an12 od13 an13 od14 an14 od15 an15 od16 an16 od17 an17 od18 an18 od19 an19 od20 an20 od21 an21 od22 an22 od23 an23 od24 an24 od25 an25 od26 an26 od27 an27 od28 an28 od29 an29 od30 an30 od31 an31 od32 an32 od33 an33 od34 an34 od35 an35 od36 an36 odN odO : Option Addr} {oc1 kV1 dc1 pm1 cd1 ct1 oc2 kV2 dc2 pm2 cd2 ct2 oc3 kV3 dc3 pm3 cd3 ct3 oc4 kV4 dc4 pm4 cd4 ct4 oc5 kV5 dc5 pm5 cd5 ct5 oc6 kV6 dc6 pm6 cd6 ct6 oc7 kV7 dc7 pm7 cd7 ct7 oc8 kV8 dc8 pm8 cd8 ct8 oc9 kV9 dc9 pm9 cd9 ct9 oc10 kV10 dc10 pm10 cd10 ct10 oc11 kV11 dc11 pm11 cd11 ct11 oc12 kV12 dc12 pm12 cd12 ct12 oc13 kV13 dc13 pm13 cd13 ct13 oc14 kV14 dc14 pm14 cd14 ct14 oc15 kV15 dc15 pm15 cd15 ct15 oc16 kV16 dc16 pm16 cd16 ct16 oc17 kV17 dc17 pm17 cd17 ct17 oc18 kV18 dc18 pm18 cd18 ct18 oc19 kV19 dc19 pm19 cd19 ct19 oc20 kV20 dc20 pm20 cd20 ct20 oc21 kV21 dc21 pm21 cd21 ct21 oc22 kV22 dc22 pm22 cd22 ct22 oc23 kV23 dc23 pm23 cd23 ct23 oc24 kV24 dc24 pm24 cd24 ct24 oc25 kV25 dc25 pm25 cd25 ct25 oc26 kV26 dc26 pm26 cd26 ct26 oc27 kV27 dc27 pm27 cd27 ct27 oc28 kV28 dc28 pm28 cd28 ct28 oc29 kV29 dc29 pm29 cd29 ct29 oc30 kV30 dc30 pm30 cd30 ct30 oc31 kV31 dc31 pm31 cd31 ct31 oc32 kV32 dc32 pm32 cd32 ct32 oc33 kV33 dc33 pm33 cd33 ct33 oc34 kV34 dc34 pm34 cd34 ct34 oc35 kV35 dc35 pm35 cd35 ct35 oc36 kV36 dc36 pm36 cd36 ct36 : Value} {sl1 sl2 sl3 sl4 sl5 sl6 sl7 sl8 sl9 sl10 sl11 sl12 sl13 sl14 sl15 sl16 sl17 sl18 sl19 sl20 sl21 sl22 sl23 sl24 sl25 sl26 sl27 sl28 sl29 sl30 sl31 sl32 sl33 sl34 sl35 sl36 slN slO : Array (Option Value)} {tN uN tO uO : Tok} {nN nO : Nat}
    (a1 : PySem.W.nsIn K mainGlobals "lowest" = some (some (.ref f1)))
    (l1 : K.lookup f1 = some ⟨oc1, od1, .func (PySem.W.fnOf "lowest" "lowest" (defArgs sLow) (defBody sLow) (defScope sLow) .none kV1 dc1 pm1 an1 cd1 ct1), sl1⟩)
    (c1 : PySem.W.codeIn K cd1 "lowest" = true)
    (k1 : PySem.W.keepIn K (.ref f1) = true)
    (a2 : PySem.W.nsIn K mainGlobals "pair_sum" = some (some (.ref f2)))
    (l2 : K.lookup f2 = some ⟨oc2, od2, .func (PySem.W.fnOf "pair_sum" "pair_sum" (defArgs sPSum) (defBody sPSum) (defScope sPSum) .none kV2 dc2 pm2 an2 cd2 ct2), sl2⟩)
    (c2 : PySem.W.codeIn K cd2 "pair_sum" = true)
    (k2 : PySem.W.keepIn K (.ref f2) = true)
    (a3 : PySem.W.nsIn K mainGlobals "pair_total" = some (some (.ref f3)))
    (l3 : K.lookup f3 = some ⟨oc3, od3, .func (PySem.W.fnOf "pair_total" "pair_total" (defArgs sPTotal) (defBody sPTotal) (defScope sPTotal) .none kV3 dc3 pm3 an3 cd3 ct3), sl3⟩)
    (c3 : PySem.W.codeIn K cd3 "pair_total" = true)
    (k3 : PySem.W.keepIn K (.ref f3) = true)
    (a4 : PySem.W.nsIn K mainGlobals "rounded_down" = some (some (.ref f4)))
    (l4 : K.lookup f4 = some ⟨oc4, od4, .func (PySem.W.fnOf "rounded_down" "rounded_down" (defArgs sDown) (defBody sDown) (defScope sDown) .none kV4 dc4 pm4 an4 cd4 ct4), sl4⟩)
    (c4 : PySem.W.codeIn K cd4 "rounded_down" = true)
    (k4 : PySem.W.keepIn K (.ref f4) = true)
    (a5 : PySem.W.nsIn K mainGlobals "rounded_up" = some (some (.ref f5)))
    (l5 : K.lookup f5 = some ⟨oc5, od5, .func (PySem.W.fnOf "rounded_up" "rounded_up" (defArgs sUp) (defBody sUp) (defScope sUp) .none kV5 dc5 pm5 an5 cd5 ct5), sl5⟩)
    (c5 : PySem.W.codeIn K cd5 "rounded_up" = true)
    (k5 : PySem.W.keepIn K (.ref f5) = true)
    (a6 : PySem.W.nsIn K mainGlobals "pair_turned" = some (some (.ref f6)))
    (l6 : K.lookup f6 = some ⟨oc6, od6, .func (PySem.W.fnOf "pair_turned" "pair_turned" (defArgs sTurned) (defBody sTurned) (defScope sTurned) .none kV6 dc6 pm6 an6 cd6 ct6), sl6⟩)
    (c6 : PySem.W.codeIn K cd6 "pair_turned" = true)
    (k6 : PySem.W.keepIn K (.ref f6) = true)
    (a7 : PySem.W.nsIn K mainGlobals "pair_less" = some (some (.ref f7)))
    (l7 : K.lookup f7 = some ⟨oc7, od7, .func (PySem.W.fnOf "pair_less" "pair_less" (defArgs sLess) (defBody sLess) (defScope sLess) .none kV7 dc7 pm7 an7 cd7 ct7), sl7⟩)
    (c7 : PySem.W.codeIn K cd7 "pair_less" = true)
    (k7 : PySem.W.keepIn K (.ref f7) = true)
    (a8 : PySem.W.nsIn K mainGlobals "is_below" = some (some (.ref f8)))
    (l8 : K.lookup f8 = some ⟨oc8, od8, .func (PySem.W.fnOf "is_below" "is_below" (defArgs sBelow) (defBody sBelow) (defScope sBelow) .none kV8 dc8 pm8 an8 cd8 ct8), sl8⟩)
    (c8 : PySem.W.codeIn K cd8 "is_below" = true)
    (k8 : PySem.W.keepIn K (.ref f8) = true)
    (a9 : PySem.W.nsIn K mainGlobals "offs" = some (some (.ref f9)))
    (l9 : K.lookup f9 = some ⟨oc9, od9, .func (PySem.W.fnOf "offs" "offs" (defArgs sOffs) (defBody sOffs) (defScope sOffs) .none kV9 dc9 pm9 an9 cd9 ct9), sl9⟩)
    (c9 : PySem.W.codeIn K cd9 "offs" = true)
    (k9 : PySem.W.keepIn K (.ref f9) = true)
    (a10 : PySem.W.nsIn K mainGlobals "balances" = some (some (.ref f10)))
    (l10 : K.lookup f10 = some ⟨oc10, od10, .func (PySem.W.fnOf "balances" "balances" (defArgs sBalances) (defBody sBalances) (defScope sBalances) .none kV10 dc10 pm10 an10 cd10 ct10), sl10⟩)
    (c10 : PySem.W.codeIn K cd10 "balances" = true)
    (k10 : PySem.W.keepIn K (.ref f10) = true)
    (a11 : PySem.W.nsIn K mainGlobals "is_rounded" = some (some (.ref f11)))
    (l11 : K.lookup f11 = some ⟨oc11, od11, .func (PySem.W.fnOf "is_rounded" "is_rounded" (defArgs sIsRounded) (defBody sIsRounded) (defScope sIsRounded) .none kV11 dc11 pm11 an11 cd11 ct11), sl11⟩)
    (c11 : PySem.W.codeIn K cd11 "is_rounded" = true)
    (k11 : PySem.W.keepIn K (.ref f11) = true)
    (a12 : PySem.W.nsIn K mainGlobals "is_close_state" = some (some (.ref f12)))
    (l12 : K.lookup f12 = some ⟨oc12, od12, .func (PySem.W.fnOf "is_close_state" "is_close_state" (defArgs sIsClose) (defBody sIsClose) (defScope sIsClose) .none kV12 dc12 pm12 an12 cd12 ct12), sl12⟩)
    (c12 : PySem.W.codeIn K cd12 "is_close_state" = true)
    (k12 : PySem.W.keepIn K (.ref f12) = true)
    (a13 : PySem.W.nsIn K mainGlobals "is_open" = some (some (.ref f13)))
    (l13 : K.lookup f13 = some ⟨oc13, od13, .func (PySem.W.fnOf "is_open" "is_open" (defArgs sIsOpen) (defBody sIsOpen) (defScope sIsOpen) .none kV13 dc13 pm13 an13 cd13 ct13), sl13⟩)
    (c13 : PySem.W.codeIn K cd13 "is_open" = true)
    (k13 : PySem.W.keepIn K (.ref f13) = true)
    (a14 : PySem.W.nsIn K mainGlobals "_law_stream" = some (some (.ref f14)))
    (l14 : K.lookup f14 = some ⟨oc14, od14, .func (PySem.W.fnOf "_law_stream" "_law_stream" (defArgs sStream) (defBody sStream) (defScope sStream) .none kV14 dc14 pm14 an14 cd14 ct14), sl14⟩)
    (c14 : PySem.W.codeIn K cd14 "_law_stream" = true)
    (k14 : PySem.W.keepIn K (.ref f14) = true)
    (a15 : PySem.W.nsIn K mainGlobals "_law_draw" = some (some (.ref f15)))
    (l15 : K.lookup f15 = some ⟨oc15, od15, .func (PySem.W.fnOf "_law_draw" "_law_draw" (defArgs sDraw) (defBody sDraw) (defScope sDraw) .none kV15 dc15 pm15 an15 cd15 ct15), sl15⟩)
    (c15 : PySem.W.codeIn K cd15 "_law_draw" = true)
    (k15 : PySem.W.keepIn K (.ref f15) = true)
    (a16 : PySem.W.nsIn K mainGlobals "_law_pick" = some (some (.ref f16)))
    (l16 : K.lookup f16 = some ⟨oc16, od16, .func (PySem.W.fnOf "_law_pick" "_law_pick" (defArgs sPick) (defBody sPick) (defScope sPick) .none kV16 dc16 pm16 an16 cd16 ct16), sl16⟩)
    (c16 : PySem.W.codeIn K cd16 "_law_pick" = true)
    (k16 : PySem.W.keepIn K (.ref f16) = true)
    (a17 : PySem.W.nsIn K mainGlobals "_law_sample" = some (some (.ref f17)))
    (l17 : K.lookup f17 = some ⟨oc17, od17, .func (PySem.W.fnOf "_law_sample" "_law_sample" (defArgs sSample) (defBody sSample) (defScope sSample) .none kV17 dc17 pm17 an17 cd17 ct17), sl17⟩)
    (c17 : PySem.W.codeIn K cd17 "_law_sample" = true)
    (k17 : PySem.W.keepIn K (.ref f17) = true)
    (a18 : PySem.W.nsIn K mainGlobals "_law_low" = some (some (.ref f18)))
    (l18 : K.lookup f18 = some ⟨oc18, od18, .func (PySem.W.fnOf "_law_low" "_law_low" (defArgs sLLow) (defBody sLLow) (defScope sLLow) .none kV18 dc18 pm18 an18 cd18 ct18), sl18⟩)
    (c18 : PySem.W.codeIn K cd18 "_law_low" = true)
    (k18 : PySem.W.keepIn K (.ref f18) = true)
    (a19 : PySem.W.nsIn K mainGlobals "_law_plus" = some (some (.ref f19)))
    (l19 : K.lookup f19 = some ⟨oc19, od19, .func (PySem.W.fnOf "_law_plus" "_law_plus" (defArgs sPlus) (defBody sPlus) (defScope sPlus) .none kV19 dc19 pm19 an19 cd19 ct19), sl19⟩)
    (c19 : PySem.W.codeIn K cd19 "_law_plus" = true)
    (k19 : PySem.W.keepIn K (.ref f19) = true)
    (a20 : PySem.W.nsIn K mainGlobals "_law_minus" = some (some (.ref f20)))
    (l20 : K.lookup f20 = some ⟨oc20, od20, .func (PySem.W.fnOf "_law_minus" "_law_minus" (defArgs sMinus) (defBody sMinus) (defScope sMinus) .none kV20 dc20 pm20 an20 cd20 ct20), sl20⟩)
    (c20 : PySem.W.codeIn K cd20 "_law_minus" = true)
    (k20 : PySem.W.keepIn K (.ref f20) = true)
    (a21 : PySem.W.nsIn K mainGlobals "_law_less" = some (some (.ref f21)))
    (l21 : K.lookup f21 = some ⟨oc21, od21, .func (PySem.W.fnOf "_law_less" "_law_less" (defArgs sLLess) (defBody sLLess) (defScope sLLess) .none kV21 dc21 pm21 an21 cd21 ct21), sl21⟩)
    (c21 : PySem.W.codeIn K cd21 "_law_less" = true)
    (k21 : PySem.W.keepIn K (.ref f21) = true)
    (a22 : PySem.W.nsIn K mainGlobals "_law_total" = some (some (.ref f22)))
    (l22 : K.lookup f22 = some ⟨oc22, od22, .func (PySem.W.fnOf "_law_total" "_law_total" (defArgs sTotal) (defBody sTotal) (defScope sTotal) .none kV22 dc22 pm22 an22 cd22 ct22), sl22⟩)
    (c22 : PySem.W.codeIn K cd22 "_law_total" = true)
    (k22 : PySem.W.keepIn K (.ref f22) = true)
    (a23 : PySem.W.nsIn K mainGlobals "_law_down" = some (some (.ref f23)))
    (l23 : K.lookup f23 = some ⟨oc23, od23, .func (PySem.W.fnOf "_law_down" "_law_down" (defArgs sLDown) (defBody sLDown) (defScope sLDown) .none kV23 dc23 pm23 an23 cd23 ct23), sl23⟩)
    (c23 : PySem.W.codeIn K cd23 "_law_down" = true)
    (k23 : PySem.W.keepIn K (.ref f23) = true)
    (a24 : PySem.W.nsIn K mainGlobals "_law_up" = some (some (.ref f24)))
    (l24 : K.lookup f24 = some ⟨oc24, od24, .func (PySem.W.fnOf "_law_up" "_law_up" (defArgs sLUp) (defBody sLUp) (defScope sLUp) .none kV24 dc24 pm24 an24 cd24 ct24), sl24⟩)
    (c24 : PySem.W.codeIn K cd24 "_law_up" = true)
    (k24 : PySem.W.keepIn K (.ref f24) = true)
    (a25 : PySem.W.nsIn K mainGlobals "_law_gaps" = some (some (.ref f25)))
    (l25 : K.lookup f25 = some ⟨oc25, od25, .func (PySem.W.fnOf "_law_gaps" "_law_gaps" (defArgs sGaps) (defBody sGaps) (defScope sGaps) .none kV25 dc25 pm25 an25 cd25 ct25), sl25⟩)
    (c25 : PySem.W.codeIn K cd25 "_law_gaps" = true)
    (k25 : PySem.W.keepIn K (.ref f25) = true)
    (a26 : PySem.W.nsIn K mainGlobals "_law_scales" = some (some (.ref f26)))
    (l26 : K.lookup f26 = some ⟨oc26, od26, .func (PySem.W.fnOf "_law_scales" "_law_scales" (defArgs sScales) (defBody sScales) (defScope sScales) .none kV26 dc26 pm26 an26 cd26 ct26), sl26⟩)
    (c26 : PySem.W.codeIn K cd26 "_law_scales" = true)
    (k26 : PySem.W.keepIn K (.ref f26) = true)
    (a27 : PySem.W.nsIn K mainGlobals "_law_between" = some (some (.ref f27)))
    (l27 : K.lookup f27 = some ⟨oc27, od27, .func (PySem.W.fnOf "_law_between" "_law_between" (defArgs sBetween) (defBody sBetween) (defScope sBetween) .none kV27 dc27 pm27 an27 cd27 ct27), sl27⟩)
    (c27 : PySem.W.codeIn K cd27 "_law_between" = true)
    (k27 : PySem.W.keepIn K (.ref f27) = true)
    (a28 : PySem.W.nsIn K mainGlobals "_law_is_near" = some (some (.ref f28)))
    (l28 : K.lookup f28 = some ⟨oc28, od28, .func (PySem.W.fnOf "_law_is_near" "_law_is_near" (defArgs sIsNear) (defBody sIsNear) (defScope sIsNear) .none kV28 dc28 pm28 an28 cd28 ct28), sl28⟩)
    (c28 : PySem.W.codeIn K cd28 "_law_is_near" = true)
    (k28 : PySem.W.keepIn K (.ref f28) = true)
    (a29 : PySem.W.nsIn K mainGlobals "_law_is_free" = some (some (.ref f29)))
    (l29 : K.lookup f29 = some ⟨oc29, od29, .func (PySem.W.fnOf "_law_is_free" "_law_is_free" (defArgs sIsFree) (defBody sIsFree) (defScope sIsFree) .none kV29 dc29 pm29 an29 cd29 ct29), sl29⟩)
    (c29 : PySem.W.codeIn K cd29 "_law_is_free" = true)
    (k29 : PySem.W.keepIn K (.ref f29) = true)
    (a30 : PySem.W.nsIn K mainGlobals "_law_choices" = some (some (.ref f30)))
    (l30 : K.lookup f30 = some ⟨oc30, od30, .func (PySem.W.fnOf "_law_choices" "_law_choices" (defArgs sChoices) (defBody sChoices) (defScope sChoices) .none kV30 dc30 pm30 an30 cd30 ct30), sl30⟩)
    (c30 : PySem.W.codeIn K cd30 "_law_choices" = true)
    (k30 : PySem.W.keepIn K (.ref f30) = true)
    (a31 : PySem.W.nsIn K mainGlobals "_law_round_ways" = some (some (.ref f31)))
    (l31 : K.lookup f31 = some ⟨oc31, od31, .func (PySem.W.fnOf "_law_round_ways" "_law_round_ways" (defArgs sRoundWays) (defBody sRoundWays) (defScope sRoundWays) .none kV31 dc31 pm31 an31 cd31 ct31), sl31⟩)
    (c31 : PySem.W.codeIn K cd31 "_law_round_ways" = true)
    (k31 : PySem.W.keepIn K (.ref f31) = true)
    (a32 : PySem.W.nsIn K mainGlobals "_law_with_counts" = some (some (.ref f32)))
    (l32 : K.lookup f32 = some ⟨oc32, od32, .func (PySem.W.fnOf "_law_with_counts" "_law_with_counts" (defArgs sWithCounts) (defBody sWithCounts) (defScope sWithCounts) .none kV32 dc32 pm32 an32 cd32 ct32), sl32⟩)
    (c32 : PySem.W.codeIn K cd32 "_law_with_counts" = true)
    (k32 : PySem.W.keepIn K (.ref f32) = true)
    (a33 : PySem.W.nsIn K mainGlobals "_law_make_exact" = some (some (.ref f33)))
    (l33 : K.lookup f33 = some ⟨oc33, od33, .func (PySem.W.fnOf "_law_make_exact" "_law_make_exact" (defArgs sMakeExact) (defBody sMakeExact) (defScope sMakeExact) .none kV33 dc33 pm33 an33 cd33 ct33), sl33⟩)
    (c33 : PySem.W.codeIn K cd33 "_law_make_exact" = true)
    (k33 : PySem.W.keepIn K (.ref f33) = true)
    (a34 : PySem.W.nsIn K mainGlobals "_law_make_bare" = some (some (.ref f34)))
    (l34 : K.lookup f34 = some ⟨oc34, od34, .func (PySem.W.fnOf "_law_make_bare" "_law_make_bare" (defArgs sMakeBare) (defBody sMakeBare) (defScope sMakeBare) .none kV34 dc34 pm34 an34 cd34 ct34), sl34⟩)
    (c34 : PySem.W.codeIn K cd34 "_law_make_bare" = true)
    (k34 : PySem.W.keepIn K (.ref f34) = true)
    (a35 : PySem.W.nsIn K mainGlobals "_law_make_near" = some (some (.ref f35)))
    (l35 : K.lookup f35 = some ⟨oc35, od35, .func (PySem.W.fnOf "_law_make_near" "_law_make_near" (defArgs sMakeNear) (defBody sMakeNear) (defScope sMakeNear) .none kV35 dc35 pm35 an35 cd35 ct35), sl35⟩)
    (c35 : PySem.W.codeIn K cd35 "_law_make_near" = true)
    (k35 : PySem.W.keepIn K (.ref f35) = true)
    (a36 : PySem.W.nsIn K mainGlobals "law" = some (some (.ref f36)))
    (l36 : K.lookup f36 = some ⟨oc36, od36, .func (PySem.W.fnOf "law" "law" (defArgs sLaw) (defBody sLaw) (defScope sLaw) .none kV36 dc36 pm36 an36 cd36 ct36), sl36⟩)
    (c36 : PySem.W.codeIn K cd36 "law" = true)
    (k36 : PySem.W.keepIn K (.ref f36) = true)
    (ag : PySem.W.nsIn K mainGlobals "gcd" = some (some (.builtin "math.gcd")))
    (aN : PySem.W.nsIn K mainGlobals "NO_CENTS" = some (some (.ref fN)))
    (lN : K.lookup fN = some ⟨.type "tuple", odN, .seq #[.int 0 tN, .int 1 uN] nN, slN⟩)
    (aO : PySem.W.nsIn K mainGlobals "ONE_CENT" = some (some (.ref fO)))
    (lO : K.lookup fO = some ⟨.type "tuple", odO, .seq #[.int 1 tO, .int 1 uO] nO, slO⟩)
    (z_range : PySem.W.nsIn K mainGlobals "range" = some none)
    (z_len : PySem.W.nsIn K mainGlobals "len" = some none)
    (z_list : PySem.W.nsIn K mainGlobals "list" = some none)
    (z_tuple : PySem.W.nsIn K mainGlobals "tuple" = some none)
    (z_sum : PySem.W.nsIn K mainGlobals "sum" = some none)
    (z_sorted : PySem.W.nsIn K mainGlobals "sorted" = some none)
    (z_set : PySem.W.nsIn K mainGlobals "set" = some none)
    (z_abs : PySem.W.nsIn K mainGlobals "abs" = some none)
    (z_max : PySem.W.nsIn K mainGlobals "max" = some none)
    (z_all : PySem.W.nsIn K mainGlobals "all" = some none)
    (z_zip : PySem.W.nsIn K mainGlobals "zip" = some none)
    (z_repr : PySem.W.nsIn K mainGlobals "repr" = some none)
    : ∃ fd : FuncData, (∀ (s : Shared) (v : Value), BindsTo s fd ⟨[v], []⟩ [("_law_script", v)]) ∧ ∀ base : Heap, K.In base → base.Ns mainGlobals mg → FnG l.prog w K mg base 7 fa fd ["_law_script"] (spLaw K) := by
  have e := hfa.symm.trans (PySem.W.mg_of X G a36)
  cases e
  have zg := PySem.W.mg_of X G ag
  have gN := PySem.W.mg_of X G aN
  have hN : ∀ H, SqT K H fN [.int 0, .int 1] := fun H => .inr ⟨_, _, _, lN, rfl, rfl, (by show 2 ≤ sizeLine; decide), .cons ⟨_, rfl⟩ (.cons ⟨_, rfl⟩ .nil)⟩
  have gO := PySem.W.mg_of X G aO
  have hO : ∀ H, SqT K H fO [.int 1, .int 1] := fun H => .inr ⟨_, _, _, lO, rfl, rfl, (by show 2 ≤ sizeLine; decide), .cons ⟨_, rfl⟩ (.cons ⟨_, rfl⟩ .nil)⟩
  have o_range := PySem.W.mg_none_of X G z_range
  have o_len := PySem.W.mg_none_of X G z_len
  have o_list := PySem.W.mg_none_of X G z_list
  have o_tuple := PySem.W.mg_none_of X G z_tuple
  have o_sum := PySem.W.mg_none_of X G z_sum
  have o_sorted := PySem.W.mg_none_of X G z_sorted
  have o_set := PySem.W.mg_none_of X G z_set
  have o_abs := PySem.W.mg_none_of X G z_abs
  have o_max := PySem.W.mg_none_of X G z_max
  have o_all := PySem.W.mg_none_of X G z_all
  have o_zip := PySem.W.mg_none_of X G z_zip
  have o_repr := PySem.W.mg_none_of X G z_repr
  have F1 := fun_mk (st := sLow) l1 c1 k1
  have m1 := PySem.W.mg_of X G a1
  have b1 := F1.binds (ps := ["over", "under"]) fun _ _ _ _ _ _ us hl => match us, hl with | [_, _], _ => rfl
  have F2 := fun_mk (st := sPSum) l2 c2 k2
  have m2 := PySem.W.mg_of X G a2
  have b2 := F2.binds (ps := ["one", "other"]) fun _ _ _ _ _ _ us hl => match us, hl with | [_, _], _ => rfl
  have F3 := fun_mk (st := sPTotal) l3 c3 k3
  have m3 := PySem.W.mg_of X G a3
  have b3 := F3.binds (ps := ["pairs"]) fun _ _ _ _ _ _ us hl => match us, hl with | [_], _ => rfl
  have F4 := fun_mk (st := sDown) l4 c4 k4
  have m4 := PySem.W.mg_of X G a4
  have b4 := F4.binds (ps := ["pair"]) fun _ _ _ _ _ _ us hl => match us, hl with | [_], _ => rfl
  have F5 := fun_mk (st := sUp) l5 c5 k5
  have m5 := PySem.W.mg_of X G a5
  have b5 := F5.binds (ps := ["pair"]) fun _ _ _ _ _ _ us hl => match us, hl with | [_], _ => rfl
  have F6 := fun_mk (st := sTurned) l6 c6 k6
  have m6 := PySem.W.mg_of X G a6
  have b6 := F6.binds (ps := ["pair"]) fun _ _ _ _ _ _ us hl => match us, hl with | [_], _ => rfl
  have F7 := fun_mk (st := sLess) l7 c7 k7
  have m7 := PySem.W.mg_of X G a7
  have b7 := F7.binds (ps := ["one", "other"]) fun _ _ _ _ _ _ us hl => match us, hl with | [_, _], _ => rfl
  have F8 := fun_mk (st := sBelow) l8 c8 k8
  have m8 := PySem.W.mg_of X G a8
  have b8 := F8.binds (ps := ["one", "other"]) fun _ _ _ _ _ _ us hl => match us, hl with | [_, _], _ => rfl
  have F9 := fun_mk (st := sOffs) l9 c9 k9
  have m9 := PySem.W.mg_of X G a9
  have b9 := F9.binds (ps := ["state"]) fun _ _ _ _ _ _ us hl => match us, hl with | [_], _ => rfl
  have kb9 : KBinds K (PySem.W.fnOf "offs" "offs" (defArgs sOffs) (defBody sOffs) (defScope sOffs) .none kV9 dc9 pm9 an9 cd9 ct9) ["state"] ["state"] (fun us ws => us ++ ws) (fun us ws => us ++ ws) := kb_state (fun s v => .of_eq rfl) (fun s v => .of_eq rfl)
  have F10 := fun_mk (st := sBalances) l10 c10 k10
  have m10 := PySem.W.mg_of X G a10
  have b10 := F10.binds (ps := ["state"]) fun _ _ _ _ _ _ us hl => match us, hl with | [_], _ => rfl
  have kb10 : KBinds K (PySem.W.fnOf "balances" "balances" (defArgs sBalances) (defBody sBalances) (defScope sBalances) .none kV10 dc10 pm10 an10 cd10 ct10) ["state"] ["state"] (fun us ws => us ++ ws) (fun us ws => us ++ ws) := kb_state (fun s v => .of_eq rfl) (fun s v => .of_eq rfl)
  have F11 := fun_mk (st := sIsRounded) l11 c11 k11
  have m11 := PySem.W.mg_of X G a11
  have b11 := F11.binds (ps := ["cents", "exact"]) fun _ _ _ _ _ _ us hl => match us, hl with | [_, _], _ => rfl
  have F12 := fun_mk (st := sIsClose) l12 c12 k12
  have m12 := PySem.W.mg_of X G a12
  have b12 := F12.binds (ps := ["state"]) fun _ _ _ _ _ _ us hl => match us, hl with | [_], _ => rfl
  have kb12 : KBinds K (PySem.W.fnOf "is_close_state" "is_close_state" (defArgs sIsClose) (defBody sIsClose) (defScope sIsClose) .none kV12 dc12 pm12 an12 cd12 ct12) ["state"] ["state"] (fun us ws => us ++ ws) (fun us ws => us ++ ws) := kb_state (fun s v => .of_eq rfl) (fun s v => .of_eq rfl)
  have F13 := fun_mk (st := sIsOpen) l13 c13 k13
  have m13 := PySem.W.mg_of X G a13
  have b13 := F13.binds (ps := ["state"]) fun _ _ _ _ _ _ us hl => match us, hl with | [_], _ => rfl
  have kb13 : KBinds K (PySem.W.fnOf "is_open" "is_open" (defArgs sIsOpen) (defBody sIsOpen) (defScope sIsOpen) .none kV13 dc13 pm13 an13 cd13 ct13) ["state"] ["state"] (fun us ws => us ++ ws) (fun us ws => us ++ ws) := kb_state (fun s v => .of_eq rfl) (fun s v => .of_eq rfl)
  have F14 := fun_mk (st := sStream) l14 c14 k14
  have m14 := PySem.W.mg_of X G a14
  have b14 := F14.binds (ps := ["_law_script"]) fun _ _ _ _ _ _ us hl => match us, hl with | [_], _ => rfl
  have F15 := fun_mk (st := sDraw) l15 c15 k15
  have m15 := PySem.W.mg_of X G a15
  have b15 := F15.binds (ps := ["_law_rng", "_law_size"]) fun _ _ _ _ _ _ us hl => match us, hl with | [_, _], _ => rfl
  have F16 := fun_mk (st := sPick) l16 c16 k16
  have m16 := PySem.W.mg_of X G a16
  have b16 := F16.binds (ps := ["_law_rng", "_law_pool"]) fun _ _ _ _ _ _ us hl => match us, hl with | [_, _], _ => rfl
  have F17 := fun_mk (st := sSample) l17 c17 k17
  have m17 := PySem.W.mg_of X G a17
  have b17 := F17.binds (ps := ["_law_rng", "_law_pool", "_law_size"]) fun _ _ _ _ _ _ us hl => match us, hl with | [_, _, _], _ => rfl
  have F18 := fun_mk (st := sLLow) l18 c18 k18
  have m18 := PySem.W.mg_of X G a18
  have b18 := F18.binds (ps := ["_law_over", "_law_under"]) fun _ _ _ _ _ _ us hl => match us, hl with | [_, _], _ => rfl
  have F19 := fun_mk (st := sPlus) l19 c19 k19
  have m19 := PySem.W.mg_of X G a19
  have b19 := F19.binds (ps := ["_law_one", "_law_other"]) fun _ _ _ _ _ _ us hl => match us, hl with | [_, _], _ => rfl
  have F20 := fun_mk (st := sMinus) l20 c20 k20
  have m20 := PySem.W.mg_of X G a20
  have b20 := F20.binds (ps := ["_law_one", "_law_other"]) fun _ _ _ _ _ _ us hl => match us, hl with | [_, _], _ => rfl
  have F21 := fun_mk (st := sLLess) l21 c21 k21
  have m21 := PySem.W.mg_of X G a21
  have b21 := F21.binds (ps := ["_law_one", "_law_other"]) fun _ _ _ _ _ _ us hl => match us, hl with | [_, _], _ => rfl
  have F22 := fun_mk (st := sTotal) l22 c22 k22
  have m22 := PySem.W.mg_of X G a22
  have b22 := F22.binds (ps := ["_law_values"]) fun _ _ _ _ _ _ us hl => match us, hl with | [_], _ => rfl
  have F23 := fun_mk (st := sLDown) l23 c23 k23
  have m23 := PySem.W.mg_of X G a23
  have b23 := F23.binds (ps := ["_law_value"]) fun _ _ _ _ _ _ us hl => match us, hl with | [_], _ => rfl
  have F24 := fun_mk (st := sLUp) l24 c24 k24
  have m24 := PySem.W.mg_of X G a24
  have b24 := F24.binds (ps := ["_law_value"]) fun _ _ _ _ _ _ us hl => match us, hl with | [_], _ => rfl
  have F25 := fun_mk (st := sGaps) l25 c25 k25
  have m25 := PySem.W.mg_of X G a25
  have b25 := F25.binds (ps := ["_law_here"]) fun _ _ _ _ _ _ us hl => match us, hl with | [_], _ => rfl
  have F26 := fun_mk (st := sScales) l26 c26 k26
  have m26 := PySem.W.mg_of X G a26
  have b26 := F26.binds (ps := ["_law_here"]) fun _ _ _ _ _ _ us hl => match us, hl with | [_], _ => rfl
  have F27 := fun_mk (st := sBetween) l27 c27 k27
  have m27 := PySem.W.mg_of X G a27
  have b27 := F27.binds (ps := ["_law_count", "_law_value"]) fun _ _ _ _ _ _ us hl => match us, hl with | [_, _], _ => rfl
  have F28 := fun_mk (st := sIsNear) l28 c28 k28
  have m28 := PySem.W.mg_of X G a28
  have b28 := F28.binds (ps := ["_law_here"]) fun _ _ _ _ _ _ us hl => match us, hl with | [_], _ => rfl
  have F29 := fun_mk (st := sIsFree) l29 c29 k29
  have m29 := PySem.W.mg_of X G a29
  have b29 := F29.binds (ps := ["_law_here"]) fun _ _ _ _ _ _ us hl => match us, hl with | [_], _ => rfl
  have F30 := fun_mk (st := sChoices) l30 c30 k30
  have m30 := PySem.W.mg_of X G a30
  have b30 := F30.binds (ps := ["_law_rows"]) fun _ _ _ _ _ _ us hl => match us, hl with | [_], _ => rfl
  have F31 := fun_mk (st := sRoundWays) l31 c31 k31
  have m31 := PySem.W.mg_of X G a31
  have b31 := F31.binds (ps := ["_law_values"]) fun _ _ _ _ _ _ us hl => match us, hl with | [_], _ => rfl
  have F32 := fun_mk (st := sWithCounts) l32 c32 k32
  have m32 := PySem.W.mg_of X G a32
  have b32 := F32.binds (ps := ["_law_here", "_law_counts"]) fun _ _ _ _ _ _ us hl => match us, hl with | [_, _], _ => rfl
  have F33 := fun_mk (st := sMakeExact) l33 c33 k33
  have m33 := PySem.W.mg_of X G a33
  have b33 := F33.binds (ps := ["_law_rng"]) fun _ _ _ _ _ _ us hl => match us, hl with | [_], _ => rfl
  have F34 := fun_mk (st := sMakeBare) l34 c34 k34
  have m34 := PySem.W.mg_of X G a34
  have b34 := F34.binds (ps := ["_law_rng", "_law_least", "_law_most"]) fun _ _ _ _ _ _ us hl => match us, hl with | [_, _, _], _ => rfl
  have F35 := fun_mk (st := sMakeNear) l35 c35 k35
  have m35 := PySem.W.mg_of X G a35
  have b35 := F35.binds (ps := ["_law_rng", "_law_least", "_law_most"]) fun _ _ _ _ _ _ us hl => match us, hl with | [_, _, _], _ => rfl
  have F36 := fun_mk (st := sLaw) l36 c36 k36
  have m36 := PySem.W.mg_of X G a36
  refine ⟨(PySem.W.fnOf "law" "law" (defArgs sLaw) (defBody sLaw) (defScope sLaw) .none kV36 dc36 pm36 an36 cd36 ct36), fun s v => .of_eq rfl, fun base _ _ => ?_⟩
  have Gs := ok_psum (P := l.prog) (w := w) (mg := mg) (base := base) F2 F1 b1 m1 zg
  have Gt := ok_turned (P := l.prog) (w := w) (mg := mg) (base := base) F6
  have L2 : LD l.prog w K mg base "pair_sum" 2 ["one", "other"] (spQ2 fun r q => r + q) := ⟨f2, _, Gs, m2, k2, b2⟩
  have L6 : LD l.prog w K mg base "pair_turned" 1 ["pair"] spTurned := ⟨f6, _, Gt, m6, k6, b6⟩
  have L3 : LD l.prog w K mg base "pair_total" 3 ["pairs"] spTot := ⟨f3, _, ok_tot (P := l.prog) (w := w) (mg := mg) (base := base) F3 Gs k2 b2 m2, m3, k3, b3⟩
  have L4 : LD l.prog w K mg base "rounded_down" 1 ["pair"] spDn := ⟨f4, _, ok_dn F4, m4, k4, b4⟩
  have L5 : LD l.prog w K mg base "rounded_up" 1 ["pair"] spUp := ⟨f5, _, ok_up F5, m5, k5, b5⟩
  have L7 : LD l.prog w K mg base "pair_less" 3 ["one", "other"] (spQ2 fun r q => r - q) := ⟨f7, _, ok_less F7 Gs k2 b2 m2 Gt k6 b6 m6, m7, k7, b7⟩
  have L8 : LD l.prog w K mg base "is_below" 1 ["one", "other"] (spBelow K) := ⟨f8, _, ok_below F8, m8, k8, b8⟩
  have O9 := ok_offs (P := l.prog) (w := w) (mg := mg) (base := base) F9 L7 o_tuple
  have L9 : LD l.prog w K mg base "offs" 4 ["state"] spOffs := ⟨f9, _, O9, m9, k9, b9⟩
  have LK9 : LDK l.prog w K mg base "offs" 4 spOffs := ⟨f9, _, O9, m9, k9, b9, kb9⟩
  have O10 := ok_bal (P := l.prog) (w := w) (mg := mg) (base := base) F10 L9 L3 L8 L6 gN hN o_zip
  have L10 : LD l.prog w K mg base "balances" 5 ["state"] spBal := ⟨f10, _, O10, m10, k10, b10⟩
  have LK10 : LDK l.prog w K mg base "balances" 5 spBal := ⟨f10, _, O10, m10, k10, b10, kb10⟩
  have L11 : LD l.prog w K mg base "is_rounded" 2 ["cents", "exact"] spIsR := ⟨f11, _, ok_isR F11 L4 L5, m11, k11, b11⟩
  have O12 := ok_close (P := l.prog) (w := w) (mg := mg) (base := base) F12 L11 L3 o_all o_sum
  have L12 : LD l.prog w K mg base "is_close_state" 4 ["state"] spClose := ⟨f12, _, O12, m12, k12, b12⟩
  have LK12 : LDK l.prog w K mg base "is_close_state" 4 spClose := ⟨f12, _, O12, m12, k12, b12, kb12⟩
  have O13 := ok_open (P := l.prog) (w := w) (mg := mg) (base := base) F13 L10 L2 L7 L12 L8 gO hO o_all
  have L13 : LD l.prog w K mg base "is_open" 6 ["state"] spOpen := ⟨f13, _, O13, m13, k13, b13⟩
  have LK13 : LDK l.prog w K mg base "is_open" 6 spOpen := ⟨f13, _, O13, m13, k13, b13, kb13⟩
  have L14 : LD l.prog w K mg base "_law_stream" 1 ["_law_script"] (spStream K) := ⟨f14, _, ok_stream F14 o_list, m14, k14, b14⟩
  have L15 : LD l.prog w K mg base "_law_draw" 1 ["_law_rng", "_law_size"] spDrawN := ⟨f15, _, ok_draw F15 o_len, m15, k15, b15⟩
  have L16 : LD l.prog w K mg base "_law_pick" 2 ["_law_rng", "_law_pool"] spPick := ⟨f16, _, ok_pick F16 L15 o_len, m16, k16, b16⟩
  have L17 : LD l.prog w K mg base "_law_sample" 2 ["_law_rng", "_law_pool", "_law_size"] spSample := ⟨f17, _, ok_sample F17 L15 o_len o_list o_range, m17, k17, b17⟩
  have L18 : LD l.prog w K mg base "_law_low" 1 ["_law_over", "_law_under"] spLL := ⟨f18, _, ok_ll F18 o_abs, m18, k18, b18⟩
  have L19 : LD l.prog w K mg base "_law_plus" 2 ["_law_one", "_law_other"] (spQ2 fun r q => r + q) := ⟨f19, _, ok_plus F19 L18, m19, k19, b19⟩
  have L20 : LD l.prog w K mg base "_law_minus" 2 ["_law_one", "_law_other"] (spQ2 fun r q => r - q) := ⟨f20, _, ok_minus F20 L18, m20, k20, b20⟩
  have L21 : LD l.prog w K mg base "_law_less" 1 ["_law_one", "_law_other"] spLLess := ⟨f21, _, ok_lless F21, m21, k21, b21⟩
  have L22 : LD l.prog w K mg base "_law_total" 3 ["_law_values"] spTot := ⟨f22, _, ok_total F22 L19, m22, k22, b22⟩
  have L23 : LD l.prog w K mg base "_law_down" 1 ["_law_value"] spDn := ⟨f23, _, ok_ldn F23, m23, k23, b23⟩
  have L24 : LD l.prog w K mg base "_law_up" 1 ["_law_value"] spUp := ⟨f24, _, ok_lup F24, m24, k24, b24⟩
  have L25 : LD l.prog w K mg base "_law_gaps" 3 ["_law_here"] spGaps := ⟨f25, _, ok_gaps F25 L20, m25, k25, b25⟩
  have L26 : LD l.prog w K mg base "_law_scales" 4 ["_law_here"] spScales := ⟨f26, _, ok_scales F26 L25 L19 L20 o_range o_len o_tuple, m26, k26, b26⟩
  have L27 : LD l.prog w K mg base "_law_between" 2 ["_law_count", "_law_value"] spIsR := ⟨f27, _, ok_btw F27 L23 L24, m27, k27, b27⟩
  have L28 : LD l.prog w K mg base "_law_is_near" 4 ["_law_here"] spClose := ⟨f28, _, ok_near F28 L27 L22 o_sum, m28, k28, b28⟩
  have L29 : LD l.prog w K mg base "_law_is_free" 5 ["_law_here"] spOpen := ⟨f29, _, ok_free F29 L26 L19 L20 L28 L21, m29, k29, b29⟩
  have L30 : LD l.prog w K mg base "_law_choices" 1 ["_law_rows"] spChoices := ⟨f30, _, ok_choices F30, m30, k30, b30⟩
  have L31 : LD l.prog w K mg base "_law_round_ways" 2 ["_law_values"] spWays := ⟨f31, _, ok_ways F31 L30 L23 L24 o_sorted o_set, m31, k31, b31⟩
  have L32 : LD l.prog w K mg base "_law_with_counts" 1 ["_law_here", "_law_counts"] spWith := ⟨f32, _, ok_with F32 o_tuple o_range o_len, m32, k32, b32⟩
  have L33 : LD l.prog w K mg base "_law_make_exact" 3 ["_law_rng"] spExact := ⟨f33, _, ok_exact F33 L15 L16 L18 o_max, m33, k33, b33⟩
  have L34 : LD l.prog w K mg base "_law_make_bare" 4 ["_law_rng", "_law_least", "_law_most"] spBare := ⟨f34, _, ok_bare F34 L15 L17 L33 o_sorted o_tuple, m34, k34, b34⟩
  have L35 : LD l.prog w K mg base "_law_make_near" 6 ["_law_rng", "_law_least", "_law_most"] spNear := ⟨f35, _, ok_mnear F35 L15 L34 L32 L31 L28 L29 L16, m35, k35, b35⟩
  exact ok_law F36 L14 L34 L32 L23 L16 L35 L25 L26 L28 L29 LK9 LK10 LK12 LK13 o_range o_tuple o_repr
end Kn

open PySem PySem.W PyProof.Rows in
set_option maxRecDepth 100000 in
set_option maxHeartbeats 0 in
theorem PySem.Challenge.cw_centbook_k45_states_told_holds : PySem.Challenge.rw_centbook_k45_states_told.Holds := by
  w_on; o_law; k_head; (case hw => w_witness2)
  k_fill
  refine Cb.walkG (l := PySem.Challenge.rw_centbook_k45_states_told) (n := 63) (k := 7) (x := "_law_script") (sp := fun w => Kn.spLaw _) rfl (by decide) rfl ⟨rfl, by decide, by decide⟩ (fun w h Y => PySem.W.kIn_of Y) ?F (fun _ _ a ns hl hS => ⟨a, ns, rfl, hS, hl, fun _ => rfl⟩)
  case F =>
    intro w mg fa h KX G hmg
    refine' Kn.all_mk KX G hmg ?a1 ?l1 ?c1 ?k1 ?a2 ?l2 ?c2 ?k2 ?a3 ?l3 ?c3 ?k3 ?a4 ?l4 ?c4 ?k4 ?a5 ?l5 ?c5 ?k5 ?a6 ?l6 ?c6 ?k6 ?a7 ?l7 ?c7 ?k7 ?a8 ?l8 ?c8 ?k8 ?a9 ?l9 ?c9 ?k9 ?a10 ?l10 ?c10 ?k10 ?a11 ?l11 ?c11 ?k11 ?a12 ?l12 ?c12 ?k12 ?a13 ?l13 ?c13 ?k13 ?a14 ?l14 ?c14 ?k14 ?a15 ?l15 ?c15 ?k15 ?a16 ?l16 ?c16 ?k16 ?a17 ?l17 ?c17 ?k17 ?a18 ?l18 ?c18 ?k18 ?a19 ?l19 ?c19 ?k19 ?a20 ?l20 ?c20 ?k20 ?a21 ?l21 ?c21 ?k21 ?a22 ?l22 ?c22 ?k22 ?a23 ?l23 ?c23 ?k23 ?a24 ?l24 ?c24 ?k24 ?a25 ?l25 ?c25 ?k25 ?a26 ?l26 ?c26 ?k26 ?a27 ?l27 ?c27 ?k27 ?a28 ?l28 ?c28 ?k28 ?a29 ?l29 ?c29 ?k29 ?a30 ?l30 ?c30 ?k30 ?a31 ?l31 ?c31 ?k31 ?a32 ?l32 ?c32 ?k32 ?a33 ?l33 ?c33 ?k33 ?a34 ?l34 ?c34 ?k34 ?a35 ?l35 ?c35 ?k35 ?a36 ?l36 ?c36 ?k36 ?ag ?aN ?lN ?aO ?lO ?z_range ?z_len ?z_list ?z_tuple ?z_sum ?z_sorted ?z_set ?z_abs ?z_max ?z_all ?z_zip ?z_repr
    (case a1 => k_is)
    (case l1 => k_is)
    (case c1 => k_is)
    (case k1 => k_is)
    (case a2 => k_is)
    (case l2 => k_is)
    (case c2 => k_is)
    (case k2 => k_is)
    (case a3 => k_is)
    (case l3 => k_is)
    (case c3 => k_is)
    (case k3 => k_is)
    (case a4 => k_is)
    (case l4 => k_is)
    (case c4 => k_is)
    (case k4 => k_is)
    (case a5 => k_is)
    (case l5 => k_is)
    (case c5 => k_is)
    (case k5 => k_is)
    (case a6 => k_is)
    (case l6 => k_is)
    (case c6 => k_is)
    (case k6 => k_is)
    (case a7 => k_is)
    (case l7 => k_is)
    (case c7 => k_is)
    (case k7 => k_is)
    (case a8 => k_is)
    (case l8 => k_is)
    (case c8 => k_is)
    (case k8 => k_is)
    (case a9 => k_is)
    (case l9 => k_is)
    (case c9 => k_is)
    (case k9 => k_is)
    (case a10 => k_is)
    (case l10 => k_is)
    (case c10 => k_is)
    (case k10 => k_is)
    (case a11 => k_is)
    (case l11 => k_is)
    (case c11 => k_is)
    (case k11 => k_is)
    (case a12 => k_is)
    (case l12 => k_is)
    (case c12 => k_is)
    (case k12 => k_is)
    (case a13 => k_is)
    (case l13 => k_is)
    (case c13 => k_is)
    (case k13 => k_is)
    (case a14 => k_is)
    (case l14 => k_is)
    (case c14 => k_is)
    (case k14 => k_is)
    (case a15 => k_is)
    (case l15 => k_is)
    (case c15 => k_is)
    (case k15 => k_is)
    (case a16 => k_is)
    (case l16 => k_is)
    (case c16 => k_is)
    (case k16 => k_is)
    (case a17 => k_is)
    (case l17 => k_is)
    (case c17 => k_is)
    (case k17 => k_is)
    (case a18 => k_is)
    (case l18 => k_is)
    (case c18 => k_is)
    (case k18 => k_is)
    (case a19 => k_is)
    (case l19 => k_is)
    (case c19 => k_is)
    (case k19 => k_is)
    (case a20 => k_is)
    (case l20 => k_is)
    (case c20 => k_is)
    (case k20 => k_is)
    (case a21 => k_is)
    (case l21 => k_is)
    (case c21 => k_is)
    (case k21 => k_is)
    (case a22 => k_is)
    (case l22 => k_is)
    (case c22 => k_is)
    (case k22 => k_is)
    (case a23 => k_is)
    (case l23 => k_is)
    (case c23 => k_is)
    (case k23 => k_is)
    (case a24 => k_is)
    (case l24 => k_is)
    (case c24 => k_is)
    (case k24 => k_is)
    (case a25 => k_is)
    (case l25 => k_is)
    (case c25 => k_is)
    (case k25 => k_is)
    (case a26 => k_is)
    (case l26 => k_is)
    (case c26 => k_is)
    (case k26 => k_is)
    (case a27 => k_is)
    (case l27 => k_is)
    (case c27 => k_is)
    (case k27 => k_is)
    (case a28 => k_is)
    (case l28 => k_is)
    (case c28 => k_is)
    (case k28 => k_is)
    (case a29 => k_is)
    (case l29 => k_is)
    (case c29 => k_is)
    (case k29 => k_is)
    (case a30 => k_is)
    (case l30 => k_is)
    (case c30 => k_is)
    (case k30 => k_is)
    (case a31 => k_is)
    (case l31 => k_is)
    (case c31 => k_is)
    (case k31 => k_is)
    (case a32 => k_is)
    (case l32 => k_is)
    (case c32 => k_is)
    (case k32 => k_is)
    (case a33 => k_is)
    (case l33 => k_is)
    (case c33 => k_is)
    (case k33 => k_is)
    (case a34 => k_is)
    (case l34 => k_is)
    (case c34 => k_is)
    (case k34 => k_is)
    (case a35 => k_is)
    (case l35 => k_is)
    (case c35 => k_is)
    (case k35 => k_is)
    (case a36 => k_is)
    (case l36 => k_is)
    (case c36 => k_is)
    (case k36 => k_is)
    (case ag => k_is)
    (case aN => k_is)
    (case lN => k_is)
    (case aO => k_is)
    (case lO => k_is)
    (case z_range => k_is)
    (case z_len => k_is)
    (case z_list => k_is)
    (case z_tuple => k_is)
    (case z_sum => k_is)
    (case z_sorted => k_is)
    (case z_set => k_is)
    (case z_abs => k_is)
    (case z_max => k_is)
    (case z_all => k_is)
    (case z_zip => k_is)
    (case z_repr => k_is)

