import PyProof.Rows.All
import Wide.All
import OpenK.AllK
import Wide.FinOn
import HandS.ForMost
import HandS.Property
import HandS.Gcd
import HandS.Wide
import HandS.Defaults
import HandS.IsInst
import HandS.OwnEq
import HandS.Ends
import KE.GoesEnum
import KE.SortData
import KE.DataCmp
import PyProof.TupleOfSeq
import HandS.TupAny
import HandS.NoneIn
import HandS.TupMul
import HandS.Zip
import HandS.SetFor
import HandS.Strs
import KE.DataEq
import KE.KRevSl
import HandS.Conv
import HandS.RaiseMore
import HandS.Deep
import HandS.GenList
import PySem.Challenge.RW_centbook_k47_whole_open_states
set_option Elab.async false
set_option linter.all false
set_option maxRecDepth 100000
set_option maxHeartbeats 4000000
set_option exponentiation.threshold 100000
/-! own operators over the hand layer -/
namespace Cb
open PySem PySem.Spec PyProof.Rows L2

section
variable {X : Cx}
/-- a class has the def at f under the name nm -/
structure Own (K : PySem.W.Frag) (C : Addr) (nm : Str) (f : Addr) : Prop where
  at_ : PySem.W.findIn K (.ref C) nm = some (some (.ref f))
  fn : PySem.W.isFn K (.ref f) = true

theorem ins_at {pins : List (Addr × Obj)} {s : Shared} {σ : L2.St} {H : Hp} {a C dx : Addr} {fs : List (Str × V)} (I : Inv X pins σ H s) (h : H a = some (.ins C dx fs)) :
    ∃ od, PySem.W.InstAt s.heap a (PySem.W.instObj C dx) C (some od) := by
  obtain ⟨mA, J, _⟩ := ins_get I.hok h
  obtain ⟨od, J, _⟩ := J.look
  exact ⟨od, J⟩
theorem EP.cmp {pins : List (Addr × Obj)} {σ : L2.St} {Q : VK} {u : Value} {s' : Shared} (h : EP X pins σ Q u s') : PySem.W.CmpBack (EP X pins σ Q) u s' := by
  obtain ⟨v, H', I, r, q⟩ := id h
  cases u <;> first | exact h | (exfalso; cases v <;> first | (exact nomatch r) | (obtain ⟨t, r⟩ := (show ∃ t, _ from r); exact nomatch r))

/-- an operator of two values of which the left one is an instance with the def f for it -/
def rOwn (C : Addr) (sp : Sp) (Y : V → Hp → Prop) : R2 := fun x y H Q => ∃ a dx fs, x = .ref a ∧ H a = some (.ins C dx fs) ∧ Y y H ∧ sp [x, y] H Q E0
def YIns (C : Addr) : V → Hp → Prop := fun y H => ∃ b dy gs, y = .ref b ∧ H b = some (.ins C dy gs)
def YInt : V → Hp → Prop := fun y _ => ∃ i, y = .int i

variable {k : Nat} {f C g : Addr} {fd : FuncData} {ps : List Str} {sp : Sp}
/-- the call of the def at f on values -/
theorem run2 {pins : List (Addr × Obj)} {s : Shared} {σ : L2.St} {H : Hp} {Q : VK} {vs : List V} {us : List Value} (F : FnOk X.prog X.w X.K X.mg X.base CX0 k f fd ps sp) (hr : Room k X.A) (hb : Binds X.K fd ps []) (I : Inv X pins σ H s) (r : Vals vs us)
    (h : sp vs H Q E0) : wpAny (model X.prog X.w) X.A (call (.ref f) us) (EP X pins σ Q) X.xe s :=
  run_fn F hr hb (.nil) pass0 I r (by rw [List.append_nil]; exact h)

theorem op_own {op : Operator} (F : FnOk X.prog X.w X.K X.mg X.base CX0 k f fd ps sp) (hr : Room k X.A) (hb : Binds X.K fd ps []) (hc : PySem.W.selfFirst X.K C = true) (o : Own X.K C (PySem.dunder op.info.2) f) : OpR X (binaryOp op) (rOwn C sp (YIns C)) := by
  intro pins s σ H x y v u Q I rx ry h
  obtain ⟨a, dx, fs, rfl, ha, ⟨b, dy, gs, rfl, hb'⟩, h⟩ := h
  cases rx
  cases ry
  obtain ⟨od, J⟩ := ins_at I ha
  obtain ⟨od', J'⟩ := ins_at I hb'
  obtain ⟨m, hF⟩ := I.fr
  exact PySem.W.binop_K hF I.ok.mod.kin J J'.type hc o.at_ o.fn (thn (run2 (vs := [.ref a, .ref b]) F hr hb I (.cons rfl (.cons rfl .nil)) h) fun u s' q => EP.cmp q)

theorem op_ownI {op : Operator} {fo ro rc : Option Value} (F : FnOk X.prog X.w X.K X.mg X.base CX0 k f fd ps sp) (hr : Room k X.A) (hb : Binds X.K fd ps []) (hc : PySem.W.selfFirst X.K C = true) (o : Own X.K C (PySem.dunder op.info.2) f)
    (hR : PySem.W.findIn X.K (.ref C) (dunderR op.info.2) = some rc) (hp : rc = none ∨ ∃ g : Addr, rc = some (.ref g))
    (h1 : PySem.W.findIn X.K (.type "int") (PySem.dunder op.info.2) = some fo) (h2 : PySem.W.findIn X.K (.type "int") (dunderR op.info.2) = some ro) (hsub : PySem.W.subIn X.K (.type "int") (.ref C) = some false) :
    OpR X (binaryOp op) (rOwn C sp YInt) := by
  intro pins s σ H x y v u Q I rx ry h
  obtain ⟨a, dx, fs, rfl, ha, ⟨i, rfl⟩, h⟩ := h
  cases rx
  obtain ⟨t, rfl⟩ := ry
  obtain ⟨od, J⟩ := ins_at I ha
  obtain ⟨m, hF⟩ := I.fr
  exact PySem.W.ksp_binT hF I.ok.mod.kin J rfl hc o.at_ o.fn hR hp h1 h2 hsub (thn (run2 (vs := [.ref a, .int i]) F hr hb I (.cons rfl (.cons ⟨_, rfl⟩ .nil)) h) fun u s' q => EP.cmp q)

/-- -x of an instance -/
def rUOwn (C : Addr) (sp : Sp) : V → Hp → VK → Prop := fun x H Q => ∃ a dx fs, x = .ref a ∧ H a = some (.ins C dx fs) ∧ sp [x] H Q E0
theorem un_own (F : FnOk X.prog X.w X.K X.mg X.base CX0 k f fd ps sp) (hr : Room k X.A) (hb : Binds X.K fd ps []) (o : Own X.K C "__neg__" f) : UnR X (unaryOp .USub) (rUOwn C sp) := by
  intro pins s σ H x v Q I rx h
  obtain ⟨a, dx, fs, rfl, ha, h⟩ := h
  cases rx
  obtain ⟨od, J⟩ := ins_at I ha
  obtain ⟨m, hF⟩ := I.fr
  exact PySem.W.ksp_neg hF I.ok.mod.kin J o.at_ o.fn (run2 (vs := [.ref a]) F hr hb I (.cons rfl .nil) h)

/-- ==, != by the own def -/
theorem op_cmpOwn {op : CmpOp} (ho : ∀ u v, compareOp op u v = richCompare op u v) (F : FnOk X.prog X.w X.K X.mg X.base CX0 k f fd ps sp) (hr : Room k X.A) (hb : Binds X.K fd ps []) (o : Own X.K C (cmpInfo op).2.1 f) : OpR X (compareOp op) (rOwn C sp (YIns C)) := by
  intro pins s σ H x y v u Q I rx ry h
  obtain ⟨a, dx, fs, rfl, ha, ⟨b, dy, gs, rfl, hb'⟩, h⟩ := h
  cases rx
  cases ry
  obtain ⟨od, J⟩ := ins_at I ha
  obtain ⟨od', J'⟩ := ins_at I hb'
  obtain ⟨m, hF⟩ := I.fr
  rw [ho]
  refine PySem.W.cmp_K (tb := .ref C) hr.units0 hF I.ok.mod.kin J J'.type (by simp [PySem.W.notFirst]) o.at_ o.fn (thn (run2 (vs := [.ref a, .ref b]) F hr hb I (.cons rfl (.cons rfl .nil)) h) fun u s' q => EP.cmp q)

/-- abs(x) of an instance -/
theorem call_absOwn (F : FnOk X.prog X.w X.K X.mg X.base CX0 k f fd ps sp) (hr : Room (k + 1) X.A) (hb : Binds X.K fd ps []) (o : Own X.K C "__abs__" f) : CallR X (.builtin "abs") (fun vs H Q => ∃ x, vs = [x] ∧ rUOwn C sp x H Q) := by
  intro pins s σ H vs us Q I r h
  obtain ⟨x, rfl, a, dx, fs, rfl, ha, h⟩ := h
  obtain ⟨u, rfl, r1⟩ := vals1 r
  cases r1
  obtain ⟨od, J⟩ := ins_at I ha
  refine Calls.call_function_entry kind_abs plain_abs entry_abs (args_abs _) ?_
  unfold Builtin.«abs»
  refine wpAny_bind (m := oneArg "abs" _) (wpAny_pure ?_)
  have F' := F.run X.A.in1 X.stack s H ⟨[.ref a], []⟩ ([Value.ref a] ++ []) [V.ref a] Q E0 hr.in1 I.env0.in1 (hb s [.ref a] I.kIn (by rw [List.append_nil, ← F.len _ _ _ _ h]; rfl)) (show Vals [V.ref a] ([Value.ref a] ++ []) from .cons rfl .nil) h
  refine wpAny_bind (m := callSpecial? (.ref a) (Str.ofString "__abs__")) (PySem.W.special_fn I.kIn J o.at_ (beq_iff_eq.mp o.fn) (wpAny_call (codeAny_mono F' fun r s' hq => ?_)))
  cases r with
  | error e => exact False.elim hq
  | ok fl =>
    cases fl with
    | ret w =>
      exact wpAny_pure ⟨_, rfl, I.after hq⟩
    | next => exact False.elim hq
    | brk => exact False.elim hq
    | cont => exact False.elim hq
end
end Cb

namespace GCb
open PySem
open PySem.Sem (wp)
abbrev NI (x C dx : Addr) : Spec := fun _ R s => s.heap.get? x = some (PySem.W.instObj C dx) ∧ R (.ok (.ret .notImplemented)) s
theorem int_mul_ref (i : Int) (t : Tok) (x C dx : Addr) : Meets (Builtin.«int.__mul__» ⟨[.int i t, .ref x], []⟩) (NI x C dx) :=
  Meets.of_wp fun prog w A R s hs => by
    obtain ⟨hl, hs⟩ := hs
    obtain ⟨hp, g, d, tk, os⟩ := s
    unfold PySem.W.instObj at hl
    wp_walk using wpAny_load hl
    exact ⟨_, rfl, hs⟩
theorem int_add_ref (i : Int) (t : Tok) (x C dx : Addr) : Meets (Builtin.«int.__add__» ⟨[.int i t, .ref x], []⟩) (NI x C dx) :=
  Meets.of_wp fun prog w A R s hs => by
    obtain ⟨hl, hs⟩ := hs
    obtain ⟨hp, g, d, tk, os⟩ := s
    unfold PySem.W.instObj at hl
    wp_walk using wpAny_load hl
    exact ⟨_, rfl, hs⟩
theorem int_sub_ref (i : Int) (t : Tok) (x C dx : Addr) : Meets (Builtin.«int.__sub__» ⟨[.int i t, .ref x], []⟩) (NI x C dx) :=
  Meets.of_wp fun prog w A R s hs => by
    obtain ⟨hl, hs⟩ := hs
    obtain ⟨hp, g, d, tk, os⟩ := s
    unfold PySem.W.instObj at hl
    wp_walk using wpAny_load hl
    exact ⟨_, rfl, hs⟩

section
open PySem.W PySem.Calls PyProof.Rows
variable {prog : Program} {w : World} {A : Around} {E : Value → Shared → Prop} {s : Shared} {K : Frag} {x C L f g dx : Addr} {h₀ : Heap} {m : Str → Option Value} {od : Option Obj}
/-- an int on the left, an instance with the reflected def on the right -/
theorem binR {op : Operator} {idl : String} {B : Builtin} {i : Int} {t : Tok} {Q : Value → Shared → Prop} (F : Fr h₀ L s.heap m) (X₀ : K.In h₀) (I : InstAt s.heap x (instObj C dx) C od) (hc : selfFirst K C = true)
    (hd : findIn K (.ref C) (PySem.dunder op.info.2) = some (some (.ref g))) (hs : findIn K (.ref C) (dunderR op.info.2) = some (some (.ref f))) (hf : isFn K (.ref f) = true) (hsub : subIn K (.ref C) (.type "int") = some false)
    (fillsT : fillsNumberSlot (.type "int") op.info.2 = pure true) (slot : Slot "int" (PySem.dunder op.info.2) idl) (entry : entryFor table idl = some B) (args : argsOk idl ⟨[.int i t, .ref x], []⟩)
    (ni : Meets (B ⟨[.int i t, .ref x], []⟩) (NI x C dx))
    (h : wpAny (model prog w) A (call (.ref f) [.ref x, .int i t]) (PySem.W.CmpBack Q) E s) : wpAny (model prog w) A (binaryOp op (.int i t) (.ref x)) Q E s := by
  have X := X₀.keeps F.keep
  obtain ⟨cd, rest, hcd, hm⟩ := ksp_first hc
  rcases hi : op.info with ⟨sym, nm'⟩
  rw [hi] at hd hs fillsT slot
  dsimp only at hd hs fillsT slot
  have one := ksp_try X I hs hf h
  have zero : wpAny (model prog w) A (tryMethod (.int i t) (PySem.dunder nm') (.ref x)) (fun r s' => r = none ∧ s' = s) E s :=
    wpAny_tryMethod_declines (typeIs_int s i t) slot (call_meets slot (typeIs_int s i t) entry args ni ⟨I.at_, rfl, rfl, rfl⟩)
  obtain ⟨hh, g, d, tt, os⟩ := s
  have L1 : Looks (model prog w) hh (typeOf (.ref x)) (.ref C) := I.type
  have L2 : Looks (model prog w) hh (typeOf (.int i t)) (.type "int") := Looks.of_pure rfl
  have L3 : Looks (model prog w) hh (fillsNumberSlot (.ref C) nm') true := fills_K X hcd hm hd
  have L4 : Looks (model prog w) hh (fillsNumberSlot (.type "int") nm') true := Looks.of_pure fillsT
  have L5 : Looks (model prog w) hh (isSubtype (.ref C) (.type "int")) false := looks_subIn X hsub
  have L7 : Looks (model prog w) hh (numberSlotInPython (.type "int") nm') false := Looks.of_pure rfl
  have hne : (Value.type "int" == Value.ref C) = false := Bool.eq_false_iff.mpr fun q => by cases beq_iff_eq.mp q
  simp only [binaryOp, hi]
  refine wpAny_holding (wpAny_bind ?_)
  unfold binaryOp1
  refine wpAny_bind (L2.at (wpAny_bind (L1.at (wpAny_bind (L4.at ?_)))))
  simp only [hne, Bool.false_eq_true, if_false]
  ksp_lk
  refine wpAny_mono zero (fun r s' hr' => ?_) fun _ _ e => e
  obtain ⟨rfl, rfl⟩ := hr'
  ksp_lk
  refine wpAny_mono one (fun r s' hr' => ?_) fun _ _ e => e
  obtain ⟨v, rfl, hq⟩ := hr'
  ksp_lk
  exact hq
end
end GCb
namespace Cb
open PySem PySem.Spec PyProof.Rows L2
section
variable {X : Cx} {k : Nat} {f C g : Addr} {fd : FuncData} {ps : List Str} {sp : Sp}
def rOwnR (C : Addr) (sp : Sp) : R2 := fun x y H Q => ∃ i b dy gs, x = .int i ∧ y = .ref b ∧ H b = some (.ins C dy gs) ∧ sp [y, x] H Q E0
theorem op_ownR {op : Operator} {idl : String} {B : Builtin} (F : FnOk X.prog X.w X.K X.mg X.base CX0 k f fd ps sp) (hr : Room k X.A) (hb : Binds X.K fd ps []) (hc : PySem.W.selfFirst X.K C = true)
    (hd : PySem.W.findIn X.K (.ref C) (PySem.dunder op.info.2) = some (some (.ref g))) (o : Own X.K C (dunderR op.info.2) f) (hsub : PySem.W.subIn X.K (.ref C) (.type "int") = some false)
    (fillsT : fillsNumberSlot (.type "int") op.info.2 = pure true) (slot : Slot "int" (PySem.dunder op.info.2) idl) (entry : entryFor table idl = some B) (args : ∀ a b, argsOk idl ⟨[a, b], []⟩)
    (ni : ∀ (i : Int) (t : Tok) (x C dx : Addr), Meets (B ⟨[.int i t, .ref x], []⟩) (GCb.NI x C dx)) : OpR X (binaryOp op) (rOwnR C sp) := by
  intro pins s σ H x y v u Q I rx ry h
  obtain ⟨i, b, dx, fs, rfl, rfl, ha, h⟩ := h
  obtain ⟨t, rfl⟩ := rx
  cases ry
  obtain ⟨od, J⟩ := ins_at I ha
  obtain ⟨m, hF⟩ := I.fr
  exact GCb.binR hF I.ok.mod.kin J hc hd o.at_ o.fn hsub fillsT slot entry (args _ _) (ni _ _ _ _ _) (thn (run2 (vs := [.ref b, .int i]) F hr hb I (.cons rfl (.cons ⟨_, rfl⟩ .nil)) h) fun u s' q => EP.cmp q)

/-- a, b.f, ..: an attribute as a target -/
def gFld (K : PySem.W.Frag) (ta : TE) (f : Str) : TG := fun v σ H Q => ta σ H fun x H2 => ∃ a C dx fs, x = .ref a ∧ H2 a = some (.ins C dx fs) ∧ Cls K C ∧ NoAttr K C f ∧ fs.length < 1000 ∧ Q σ (upd H2 a (.ins C dx (putF f v fs)))
theorem pg_fld {o : Expr} {f : Str} {pos : Pos} {ta : TE} (ha : PE X o ta) : PG X (.Attribute o f pos) (gFld X.K ta f) := by
  refine ⟨fun pins s σ H v u Q I r h => ?_⟩
  rw [assign_Attribute]
  refine wpAny_bind (wpAny_holding (thn (ha.run pins s σ H _ I h) fun ov s1 ⟨x, H1, I1, r1, a, C, dx, fs, ex, ea, c, n, l, q⟩ => ?_))
  subst ex
  obtain rfl : ov = Value.ref a := r1
  refine wpAny_bind (wpAny_standAt (wpAny_bind (wpAny_holding (setattr_ok I1 ea c n l r fun s3 I3 => ?_))))
  exact wpAny_release ⟨σ, _, I3, q⟩
end
end Cb

/-! weakest readings, pure evaluation -/
namespace Cb
open PySem PySem.Spec PyProof.Rows L2
section
variable {X : Cx}
@[irreducible] def wE (X : Cx) (e : Expr) : TE := fun σ H Q => ∀ (pins : List (Addr × Obj)) (s : Shared), Inv X pins σ H s → wpAny (model X.prog X.w) X.A (eval e X.env) (EP X pins σ Q) X.xe s
@[irreducible] def wT (X : Cx) (e : Expr) : TT := fun σ H Q => ∀ (pins : List (Addr × Obj)) (s : Shared), Inv X pins σ H s → wpAny (model X.prog X.w) X.A (isTrue e X.env (eval e X.env)) (TP X pins σ Q) X.xe s
@[irreducible] def wW (X : Cx) (e : Expr) : TT := fun σ H Q => ∀ (whole : Sem Value) (pins : List (Addr × Obj)) (s : Shared), Inv X pins σ H s → wpAny (model X.prog X.w) X.A (isTrue e X.env whole) (TP X pins σ Q) X.xe s
@[irreducible] def wA (X : Cx) (es : List Expr) : TA := fun σ H Q => ∀ (pos : Pos) (pins : List (Addr × Obj)) (s : Shared), Inv X pins σ H s → wpAny (model X.prog X.w) X.A (spliced (backTo pos (starEach es X.env))) (AP X pins σ Q) X.xe s
@[irreducible] def wS (X : Cx) (st : Stmt) : TS := fun D σ H => ∀ (pins : List (Addr × Obj)) (s : Shared), Inv X pins σ H s → wpAny (model X.prog X.w) X.A (exec st X.env) (SP X pins D) X.xe s
@[irreducible] def wB (X : Cx) (sts : List Stmt) : TS := fun D σ H => ∀ (pins : List (Addr × Obj)) (s : Shared), Inv X pins σ H s → wpAny (model X.prog X.w) X.A (execs sts X.env) (SP X pins D) X.xe s
variable {e a b c : Expr} {es : List Expr} {st : Stmt} {sts els : List Stmt} {t : TE} {tt : TT} {ta : TA} {ts : TS} {σ : L2.St} {H H' : Hp} {pos : Pos} {D D' : Ends}
theorem wE_i {Q : VK} (h : ∀ (pins : List (Addr × Obj)) (s : Shared), Inv X pins σ H s → wpAny (model X.prog X.w) X.A (eval e X.env) (EP X pins σ Q) X.xe s) : wE X e σ H Q := by
  unfold wE
  exact h
theorem wE.run {Q : VK} (h : wE X e σ H Q) : ∀ (pins : List (Addr × Obj)) (s : Shared), Inv X pins σ H s → wpAny (model X.prog X.w) X.A (eval e X.env) (EP X pins σ Q) X.xe s := by
  unfold wE at h
  exact h
theorem wT_i {Q : Bool → Hp → Prop} (h : ∀ (pins : List (Addr × Obj)) (s : Shared), Inv X pins σ H s → wpAny (model X.prog X.w) X.A (isTrue e X.env (eval e X.env)) (TP X pins σ Q) X.xe s) : wT X e σ H Q := by
  unfold wT
  exact h
theorem wT.run {Q : Bool → Hp → Prop} (h : wT X e σ H Q) : ∀ (pins : List (Addr × Obj)) (s : Shared), Inv X pins σ H s → wpAny (model X.prog X.w) X.A (isTrue e X.env (eval e X.env)) (TP X pins σ Q) X.xe s := by
  unfold wT at h
  exact h
theorem wW_i {Q : Bool → Hp → Prop} (h : ∀ (whole : Sem Value) (pins : List (Addr × Obj)) (s : Shared), Inv X pins σ H s → wpAny (model X.prog X.w) X.A (isTrue e X.env whole) (TP X pins σ Q) X.xe s) : wW X e σ H Q := by
  unfold wW
  exact h
theorem wW.run {Q : Bool → Hp → Prop} (h : wW X e σ H Q) : ∀ (whole : Sem Value) (pins : List (Addr × Obj)) (s : Shared), Inv X pins σ H s → wpAny (model X.prog X.w) X.A (isTrue e X.env whole) (TP X pins σ Q) X.xe s := by
  unfold wW at h
  exact h
theorem wA_i {Q : List V → Hp → Prop} (h : ∀ (pos : Pos) (pins : List (Addr × Obj)) (s : Shared), Inv X pins σ H s → wpAny (model X.prog X.w) X.A (spliced (backTo pos (starEach es X.env))) (AP X pins σ Q) X.xe s) : wA X es σ H Q := by
  unfold wA
  exact h
theorem wA.run {Q : List V → Hp → Prop} (h : wA X es σ H Q) : ∀ (pos : Pos) (pins : List (Addr × Obj)) (s : Shared), Inv X pins σ H s → wpAny (model X.prog X.w) X.A (spliced (backTo pos (starEach es X.env))) (AP X pins σ Q) X.xe s := by
  unfold wA at h
  exact h
theorem wS_i  (h : ∀ (pins : List (Addr × Obj)) (s : Shared), Inv X pins σ H s → wpAny (model X.prog X.w) X.A (exec st X.env) (SP X pins D) X.xe s) : wS X st D σ H := by
  unfold wS
  exact h
theorem wS.run  (h : wS X st D σ H) : ∀ (pins : List (Addr × Obj)) (s : Shared), Inv X pins σ H s → wpAny (model X.prog X.w) X.A (exec st X.env) (SP X pins D) X.xe s := by
  unfold wS at h
  exact h
theorem wB_i  (h : ∀ (pins : List (Addr × Obj)) (s : Shared), Inv X pins σ H s → wpAny (model X.prog X.w) X.A (execs sts X.env) (SP X pins D) X.xe s) : wB X sts D σ H := by
  unfold wB
  exact h
theorem wB.run  (h : wB X sts D σ H) : ∀ (pins : List (Addr × Obj)) (s : Shared), Inv X pins σ H s → wpAny (model X.prog X.w) X.A (execs sts X.env) (SP X pins D) X.xe s := by
  unfold wB at h
  exact h
theorem pw_E : PE X e (wE X e) := ⟨fun pins s _ _ _ I h => wE.run h pins s I⟩
theorem pw_T : PT X e (wT X e) := ⟨fun pins s _ _ _ I h => wT.run h pins s I⟩
theorem pw_W : PW X e (wW X e) := ⟨fun whole pins s _ _ _ I h => wW.run h whole pins s I⟩
theorem pw_A : PA X es (wA X es) := ⟨fun pos pins s _ _ _ I h => wA.run h pos pins s I⟩
theorem pw_S : PS X st (wS X st) := ⟨fun pins s _ _ _ I h => wS.run h pins s I⟩
theorem pw_B : PSs X sts (wB X sts) := ⟨fun pins s _ _ _ I h => wB.run h pins s I⟩
theorem w_E (p : PE X e t) {Q : VK} (h : t σ H Q) : wE X e σ H Q := wE_i fun pins s I => p.run pins s σ H Q I h
theorem w_T (p : PT X e tt) {Q : Bool → Hp → Prop} (h : tt σ H Q) : wT X e σ H Q := wT_i fun pins s I => p.run pins s σ H Q I h
theorem w_W (p : PW X e tt) {Q : Bool → Hp → Prop} (h : tt σ H Q) : wW X e σ H Q := wW_i fun whole pins s I => p.run whole pins s σ H Q I h
theorem w_A (p : PA X es ta) {Q : List V → Hp → Prop} (h : ta σ H Q) : wA X es σ H Q := wA_i fun pos pins s I => p.run pos pins s σ H Q I h
theorem w_S (p : PS X st ts) (h : ts D σ H) : wS X st D σ H := wS_i fun pins s I => p.run pins s σ H D I h
theorem w_B (p : PSs X sts ts) (h : ts D σ H) : wB X sts D σ H := wB_i fun pins s I => p.run pins s σ H D I h
theorem wE_mono {Q Q' : VK} (h : wE X e σ H Q) (k : ∀ v H', Q v H' → Q' v H') : wE X e σ H Q' := wE_i fun pins s I => thn (wE.run h pins s I) fun u s' ⟨v, H1, I1, r, q⟩ => ⟨v, H1, I1, r, k v H1 q⟩
theorem wT_mono {Q Q' : Bool → Hp → Prop} (h : wT X e σ H Q) (k : ∀ v H', Q v H' → Q' v H') : wT X e σ H Q' := wT_i fun pins s I => thn (wT.run h pins s I) fun u s' ⟨H1, I1, q⟩ => ⟨H1, I1, k u H1 q⟩
theorem wW_mono {Q Q' : Bool → Hp → Prop} (h : wW X e σ H Q) (k : ∀ v H', Q v H' → Q' v H') : wW X e σ H Q' := wW_i fun whole pins s I => thn (wW.run h whole pins s I) fun u s' ⟨H1, I1, q⟩ => ⟨H1, I1, k u H1 q⟩
theorem wA_mono {Q Q' : List V → Hp → Prop} (h : wA X es σ H Q) (k : ∀ v H', Q v H' → Q' v H') : wA X es σ H Q' := wA_i fun pos pins s I => thn (wA.run h pos pins s I) fun u s' ⟨v, H1, I1, r, q⟩ => ⟨v, H1, I1, r, k v H1 q⟩
theorem wB_mono (h : wB X sts D σ H) (k1 : ∀ σ' H', D.nx σ' H' → D'.nx σ' H') (k2 : ∀ v H', D.rt v H' → D'.rt v H') (k3 : ∀ σ' H', D.bk σ' H' → D'.bk σ' H') (k4 : ∀ σ' H', D.ct σ' H' → D'.ct σ' H') : wB X sts D' σ H := wB_i fun pins s I =>
  thn (wB.run h pins s I) fun f s' q => by
    cases f with
    | next => obtain ⟨σ', H', I', q⟩ := q; exact ⟨σ', H', I', k1 _ _ q⟩
    | brk => obtain ⟨σ', H', I', q⟩ := q; exact ⟨σ', H', I', k3 _ _ q⟩
    | cont => obtain ⟨σ', H', I', q⟩ := q; exact ⟨σ', H', I', k4 _ _ q⟩
    | ret u => obtain ⟨v, σ', H', I', r, q⟩ := q; exact ⟨v, σ', H', I', r, k2 _ _ q⟩
/-! blocks -/
theorem b_nil (h : D.nx σ H) : wB X [] D σ H := w_B pss_nil h
theorem b_cons (h : wS X st { D with nx := wB X sts D } σ H) : wB X (st :: sts) D σ H := w_B (pss_cons pw_S pw_B) h
/-! ### predicates on values -/
abbrev Pd := V → Hp → Prop
def Mono (P : Pd) : Prop := ∀ v H H', Same H H' → P v H → P v H'
def Is (v : V) : Pd := fun x _ => x = v
theorem mono_is {v : V} : Mono (Is v) := fun _ _ _ _ h => h
def Ev (X : Cx) (σ : L2.St) (H : Hp) (e : Expr) (P : Pd) : Prop := ∀ H1, Same H H1 → wE X e σ H1 (fun v H2 => Same H1 H2 ∧ P v H2)
def EvT (X : Cx) (σ : L2.St) (H : Hp) (e : Expr) (k : Bool) : Prop := ∀ H1, Same H H1 → wT X e σ H1 (fun v H2 => Same H1 H2 ∧ v = k)
def EvW (X : Cx) (σ : L2.St) (H : Hp) (e : Expr) (k : Bool) : Prop := ∀ H1, Same H H1 → wW X e σ H1 (fun v H2 => Same H1 H2 ∧ v = k)
def Pws : List Pd → List V → Hp → Prop
  | [], vs, _ => vs = []
  | P :: Ps, vs, H => ∃ v r, vs = v :: r ∧ P v H ∧ Pws Ps r H
def EvA (X : Cx) (σ : L2.St) (H : Hp) (es : List Expr) (Ps : List Pd) : Prop := ∀ H1, Same H H1 → wA X es σ H1 (fun vs H2 => Same H1 H2 ∧ Pws Ps vs H2)
variable {P Pa Pb : Pd} {Ps : List Pd}
theorem Ev.mono (h : Ev X σ H e P) (s : Same H H') : Ev X σ H' e P := fun H1 s1 => h H1 (s.trans s1)
theorem EvT.mono {k : Bool} (h : EvT X σ H e k) (s : Same H H') : EvT X σ H' e k := fun H1 s1 => h H1 (s.trans s1)
theorem Ev.imp {P' : Pd} (h : Ev X σ H e P) (k : ∀ v H', Same H H' → P v H' → P' v H') : Ev X σ H e P' := fun H1 s1 => wE_mono (h H1 s1) fun v H' ⟨s, p⟩ => ⟨s, k v H' (s1.trans s) p⟩
theorem ev_of (p : PE X e t) (h : ∀ H1, Same H H1 → t σ H1 (fun v H2 => Same H1 H2 ∧ P v H2)) : Ev X σ H e P := fun H1 s1 => w_E p (h H1 s1)
theorem w_ev {Q : VK} (h : Ev X σ H e P) (k : ∀ v H', Same H H' → P v H' → Q v H') : wE X e σ H Q := wE_mono (h H (.refl _)) fun v H' ⟨s, p⟩ => k v H' s p
theorem w_evT {k : Bool} {Q : Bool → Hp → Prop} (h : EvT X σ H e k) (kk : ∀ H', Same H H' → Q k H') : wT X e σ H Q := wT_mono (h H (.refl _)) fun v H' ⟨s, p⟩ => by
  subst p
  exact kk H' s
theorem ev_c {v : V} (p : PE X e (tC v)) : Ev X σ H e (Is v) := ev_of p fun H1 _ => ⟨.refl _, rfl⟩
theorem ev_v {i : Nat} {v : V} (p : PE X e (tVar i)) (hi : σ[i]? = some (some v)) (h : P v H) (m : Mono P) : Ev X σ H e P := ev_of p fun H1 s1 => ⟨v, hi, .refl _, m _ _ _ s1 h⟩
theorem ev_vi {i : Nat} {v : V} (p : PE X e (tVar i)) (hi : σ[i]? = some (some v)) : Ev X σ H e (Is v) := ev_v p hi rfl mono_is
theorem ev_op {op : Operator} {r : R2} (ho : OpR X (binaryOp op) r) (ha : Ev X σ H a Pa) (hb : Ev X σ H b Pb) (ma : Mono Pa)
    (h : ∀ x y H2, Same H H2 → Pa x H2 → Pb y H2 → r x y H2 (fun v H3 => Same H2 H3 ∧ P v H3)) (hr : ∀ x y H2 (Q Q' : VK), (∀ v H', Q v H' → Q' v H') → r x y H2 Q → r x y H2 Q') : Ev X σ H (.BinOp a op b pos) P :=
  ev_of (pe_op ho pw_E pw_E) fun H1 s1 => wE_mono (ha H1 s1) fun x H2 ⟨s2, px⟩ => wE_mono (hb H2 (s1.trans s2)) fun y H3 ⟨s3, py⟩ =>
    hr _ _ _ _ _ (fun v H' ⟨s4, pv⟩ => ⟨(s2.trans s3).trans s4, pv⟩) (h x y H3 ((s1.trans s2).trans s3) (ma _ _ _ s3 px) py)
theorem ev_cmp {op : CmpOp} {r : R2} (ho : OpR X (compareOp op) r) (hm : behindInMarks op b = false) (ha : Ev X σ H a Pa) (hb : Ev X σ H b Pb) (ma : Mono Pa)
    (h : ∀ x y H2, Same H H2 → Pa x H2 → Pb y H2 → r x y H2 (fun v H3 => Same H2 H3 ∧ P v H3)) (hr : ∀ x y H2 (Q Q' : VK), (∀ v H', Q v H' → Q' v H') → r x y H2 Q → r x y H2 Q') : Ev X σ H (.Compare a [op] [b] pos) P :=
  ev_of (pe_cmpR ho pw_E pw_E hm) fun H1 s1 => wE_mono (ha H1 s1) fun x H2 ⟨s2, px⟩ => wE_mono (hb H2 (s1.trans s2)) fun y H3 ⟨s3, py⟩ =>
    hr _ _ _ _ _ (fun v H' ⟨s4, pv⟩ => ⟨(s2.trans s3).trans s4, pv⟩) (h x y H3 ((s1.trans s2).trans s3) (ma _ _ _ s3 px) py)
theorem ev_un {op : UnaryOp} {r : V → Hp → VK → Prop} (ho : UnR X (unaryOp op) r) (ha : Ev X σ H a Pa) (h : ∀ x H2, Same H H2 → Pa x H2 → r x H2 (fun v H3 => Same H2 H3 ∧ P v H3)) (hr : ∀ x H2 (Q Q' : VK), (∀ v H', Q v H' → Q' v H') → r x H2 Q → r x H2 Q') :
    Ev X σ H (.UnaryOp op a pos) P :=
  ev_of (pe_un ho pw_E) fun H1 s1 => wE_mono (ha H1 s1) fun x H2 ⟨s2, px⟩ => hr _ _ _ _ (fun v H' ⟨s4, pv⟩ => ⟨s2.trans s4, pv⟩) (h x H2 (s1.trans s2) px)
/-! ints -/
theorem ev_opI {op : Operator} {g : Int → Int → Int} {i j : Int} (ho : OpR X (binaryOp op) (rI0 fun i j => .int (g i j))) (ha : Ev X σ H a (Is (.int i))) (hb : Ev X σ H b (Is (.int j))) : Ev X σ H (.BinOp a op b pos) (Is (.int (g i j))) :=
  ev_op ho ha hb mono_is (fun x y H2 _ px py => ⟨i, j, px, py, .refl _, rfl⟩) fun x y H2 Q Q' k ⟨i, j, h1, h2, q⟩ => ⟨i, j, h1, h2, k _ _ q⟩
theorem ev_opC {op : Operator} {C : Int → Int → Prop} {g : Int → Int → Int} {i j : Int} (ho : OpR X (binaryOp op) (rI C fun i j => .int (g i j))) (ha : Ev X σ H a (Is (.int i))) (hb : Ev X σ H b (Is (.int j))) (hc : C i j) : Ev X σ H (.BinOp a op b pos) (Is (.int (g i j))) :=
  ev_op ho ha hb mono_is (fun x y H2 _ px py => ⟨i, j, px, py, hc, .refl _, rfl⟩) fun x y H2 Q Q' k ⟨i, j, h1, h2, h3, q⟩ => ⟨i, j, h1, h2, h3, k _ _ q⟩
/-- a comparison whose answer is v -/
structure CC (X : Cx) (σ : L2.St) (H : Hp) (op : CmpOp) (a b : Expr) (v : V) : Prop where
  ex : ∃ (r : R2) (Pa Pb : Pd), OpR X (compareOp op) r ∧ behindInMarks op b = false ∧ Ev X σ H a Pa ∧ Ev X σ H b Pb ∧ Mono Pa ∧ (∀ x y H2, Same H H2 → Pa x H2 → Pb y H2 → r x y H2 (fun z H3 => Same H2 H3 ∧ z = v)) ∧ (∀ x y H2 (Q Q' : VK), (∀ v H', Q v H' → Q' v H') → r x y H2 Q → r x y H2 Q')
theorem CC.ev {op : CmpOp} {v : V} (h : CC X σ H op a b v) : Ev X σ H (.Compare a [op] [b] pos) (Is v) := by
  obtain ⟨r, Pa, Pb, ho, hm, ha, hb, ma, h, hr⟩ := h.ex
  exact ev_cmp ho hm ha hb ma h hr
theorem CC.et {op : CmpOp} {k : Bool} (h : CC X σ H op a b (.bl k)) : EvT X σ H (.Compare a [op] [b] pos) k := by
  obtain ⟨r, Pa, Pb, ho, hm, ha, hb, ma, h, hr⟩ := h.ex
  exact fun H1 s1 => w_T (pt_cmpR ho pw_E pw_E hm) (wE_mono (ha H1 s1) fun x H2 ⟨s2, px⟩ => wE_mono (hb H2 (s1.trans s2)) fun y H3 ⟨s3, py⟩ =>
    hr _ _ _ _ _ (fun v H' ⟨s4, pv⟩ => ⟨k, pv, (s2.trans s3).trans s4, rfl⟩) (h x y H3 ((s1.trans s2).trans s3) (ma _ _ _ s3 px) py))
theorem CC.is {op : CmpOp} {v w : V} (h : CC X σ H op a b v) (e : v = w) : CC X σ H op a b w := e ▸ h
theorem c_I {op : CmpOp} {g : Int → Int → Bool} {i j : Int} (ho : OpR X (compareOp op) (rI0 fun i j => .bl (g i j))) (hm : behindInMarks op b = false) (ha : Ev X σ H a (Is (.int i))) (hb : Ev X σ H b (Is (.int j))) : CC X σ H op a b (.bl (g i j)) :=
  ⟨_, _, _, ho, hm, ha, hb, mono_is, fun x y H2 _ px py => ⟨i, j, px, py, .refl _, rfl⟩, fun x y H2 Q Q' k ⟨i, j, h1, h2, q⟩ => ⟨i, j, h1, h2, k _ _ q⟩⟩
/-- == and != of two scalars -/
theorem c_eqS {x y : V} (ha : Ev X σ H a (Is x)) (hb : Ev X σ H b (Is y)) (hs : scal x y = true) (hm : behindInMarks .Eq b = false := by exact nomark _) : CC X σ H .Eq a b (.bl (decide (x = y))) :=
  ⟨_, _, _, op_eq, hm, ha, hb, mono_is, fun x' y' H2 _ px py => by cases px; cases py; exact ⟨hs, .refl _, rfl⟩, fun x y H2 Q Q' k ⟨h1, q⟩ => ⟨h1, k _ _ q⟩⟩
theorem c_neS {x y : V} (ha : Ev X σ H a (Is x)) (hb : Ev X σ H b (Is y)) (hs : scal x y = true) (hm : behindInMarks .NotEq b = false := by exact nomark _) : CC X σ H .NotEq a b (.bl (!decide (x = y))) :=
  ⟨_, _, _, op_ne, hm, ha, hb, mono_is, fun x' y' H2 _ px py => by cases px; cases py; exact ⟨hs, .refl _, rfl⟩, fun x y H2 Q Q' k ⟨h1, q⟩ => ⟨h1, k _ _ q⟩⟩
theorem ev_negI {i : Int} (ha : Ev X σ H a (Is (.int i))) : Ev X σ H (.UnaryOp .USub a pos) (Is (.int (-i))) :=
  ev_un un_neg ha (fun x H2 _ px => ⟨i, px, .refl _, rfl⟩) fun x H2 Q Q' k ⟨i, h1, q⟩ => ⟨i, h1, k _ _ q⟩
theorem Ev.is {v w : V} (h : Ev X σ H e (Is v)) (q : v = w) : Ev X σ H e (Is w) := q ▸ h
/-! arguments -/
theorem ea_nil : EvA X σ H [] [] := fun H1 _ => w_A pa_nil ⟨.refl _, rfl⟩
theorem ea_cons (ha : Ev X σ H e P) (m : Mono P) (hr : EvA X σ H es Ps) (hs : starEach (e :: es) X.env = (false, eval e X.env) :: starEach es X.env := by rfl) : EvA X σ H (e :: es) (P :: Ps) := fun H1 s1 =>
  w_A (pa_cons pw_E pw_A hs) (wE_mono (ha H1 s1) fun x H2 ⟨s2, px⟩ => wA_mono (hr H2 (s1.trans s2)) fun vs H3 ⟨s3, pv⟩ => ⟨s2.trans s3, x, vs, rfl, m _ _ _ s3 px, pv⟩)
/-! tests -/
theorem et_v {k : Bool} (h : Ev X σ H e (Is (.bl k))) (he : ∀ whole, isTrue e X.env whole = (do let v ← whole; standAt e.pos; holding [v] (truthy v)) := by intro _; rfl) : EvT X σ H e k := fun H1 s1 =>
  w_T (pt_val pw_E he) (wE_mono (h H1 s1) fun v H2 ⟨s2, p⟩ => ⟨k, p, s2, rfl⟩)
theorem et_w {k : Bool} (h : EvW X σ H e k) : EvT X σ H e k := fun H1 s1 => w_T pw_W.pt (h H1 s1)
theorem ew_or1 {k : Bool} {p : Pos} (h : EvT X σ H a k) : EvW X σ H (.BoolOp .Or [a] p) k := fun H1 s1 => w_W (pw_or1 pw_T) (h H1 s1)
theorem ew_and1 {k : Bool} {p : Pos} (h : EvT X σ H a k) : EvW X σ H (.BoolOp .And [a] p) k := fun H1 s1 => w_W (pw_and1 pw_T) (h H1 s1)
end
end Cb

/-! blocks, calls -/
namespace Cb
open PySem PySem.Spec PyProof.Rows L2
section
variable {X : Cx} {e a b c : Expr} {es : List Expr} {st : Stmt} {sts els body : List Stmt} {t : TE} {tt : TT} {ta : TA} {ts : TS} {σ : L2.St} {H H' : Hp} {pos pos' p p' : Pos} {D D' : Ends} {P Pa Pb : Pd} {Ps : List Pd}
theorem b_set {i : Nat} {x : Str} (hN : X.N.Nodup) (hi : X.N[i]? = some x) (hx : Loc X.env.scope x) (h : wE X e σ H (fun v H' => wB X sts D (σ.set i (some v)) H'))
    (hs : swapsWith e (some (.Name x pos')) pos.line X.env = pure false := by rfl) (hf : X.fn x = true ∨ X.env.scope.names.lookup x = some .local := by first | exact .inl rfl | exact .inr rfl | assumption) :
    wB X (.Assign [.Name x pos'] e pos :: sts) D σ H := b_cons (w_S (ps_set hN hi hx pw_E hs hf) h)
theorem b_setE {i : Nat} {x : Str} (hN : X.N.Nodup) (hi : X.N[i]? = some x) (hx : Loc X.env.scope x) (he : Ev X σ H e P) (k : ∀ v H', Same H H' → P v H' → wB X sts D (σ.set i (some v)) H')
    (hs : swapsWith e (some (.Name x pos')) pos.line X.env = pure false := by rfl) (hf : X.fn x = true ∨ X.env.scope.names.lookup x = some .local := by first | exact .inl rfl | exact .inr rfl | assumption) :
    wB X (.Assign [.Name x pos'] e pos :: sts) D σ H := b_set hN hi hx (wE_mono (he H (.refl _)) fun v H' ⟨s, q⟩ => k v H' s q) hs hf
theorem b_asg {tg : Expr} {g : TG} (hg : PG X tg g) (h : wE X e σ H (fun v H' => g v σ H' (fun σ2 H2 => wB X sts D σ2 H2))) (hs : swapsWithSole [tg] e pos.line X.env = pure false := by rfl) (hw : swappedStores [tg] e X.env = pure none := by rfl)
    (h1 : (assignEach [tg] X.env).map (·.2) = [assign tg X.env] := by rfl) : wB X (.Assign [tg] e pos :: sts) D σ H := b_cons (w_S (ps_asg pw_E hg hs hw h1) h)
theorem b_asgE {tg : Expr} {g : TG} (hg : PG X tg g) (he : Ev X σ H e P) (k : ∀ v H', Same H H' → P v H' → g v σ H' (fun σ2 H2 => wB X sts D σ2 H2)) (hs : swapsWithSole [tg] e pos.line X.env = pure false := by rfl) (hw : swappedStores [tg] e X.env = pure none := by rfl)
    (h1 : (assignEach [tg] X.env).map (·.2) = [assign tg X.env] := by rfl) : wB X (.Assign [tg] e pos :: sts) D σ H := b_asg hg (wE_mono (he H (.refl _)) fun v H' ⟨s, q⟩ => k v H' s q) hs hw h1
theorem b_ret (h : wE X e σ H D.rt) : wB X (.Return (some e) pos :: sts) D σ H := b_cons (w_S (ps_ret pw_E) h)
theorem b_retE (he : Ev X σ H e P) (k : ∀ v H', Same H H' → P v H' → D.rt v H') : wB X (.Return (some e) pos :: sts) D σ H := b_ret (wE_mono (he H (.refl _)) fun v H' ⟨s, q⟩ => k v H' s q)
theorem b_if (h : wT X c σ H fun k H1 => if k = true then wB X body { D with nx := wB X sts D } σ H1 else wB X els { D with nx := wB X sts D } σ H1) : wB X (.If c body els pos :: sts) D σ H := b_cons (w_S (ps_if pw_T pw_B pw_B) h)
theorem b_ifE {k : Bool} (hc : EvT X σ H c k) (h1 : k = true → ∀ H', Same H H' → wB X body { D with nx := wB X sts D } σ H') (h2 : k = false → ∀ H', Same H H' → wB X els { D with nx := wB X sts D } σ H') : wB X (.If c body els pos :: sts) D σ H :=
  b_if (wT_mono (hc H (.refl _)) fun k' H' ⟨s, q⟩ => by
    subst q
    cases k' with
    | true => rw [if_pos rfl]; exact h1 rfl H' s
    | false => rw [if_neg Bool.false_ne_true]; exact h2 rfl H' s)
/-- an if, both ways joined by a word J -/
theorem b_ifJ {k : Bool} (J : L2.St → Hp → Prop) (hc : EvT X σ H c k) (h1 : k = true → ∀ H', Same H H' → wB X body { D with nx := J } σ H') (h2 : k = false → ∀ H', Same H H' → wB X els { D with nx := J } σ H') (kk : ∀ σ' H', J σ' H' → wB X sts D σ' H') : wB X (.If c body els pos :: sts) D σ H :=
  b_if (wT_mono (hc H (.refl _)) fun k' H' ⟨s, q⟩ => by
    subst q
    cases k' with
    | true => rw [if_pos rfl]; exact wB_mono (h1 rfl H' s) kk (fun _ _ z => z) (fun _ _ z => z) fun _ _ z => z
    | false => rw [if_neg Bool.false_ne_true]; exact wB_mono (h2 rfl H' s) kk (fun _ _ z => z) (fun _ _ z => z) fun _ _ z => z)
/-- an if that isn't taken, no else -/
theorem b_ifF (hc : EvT X σ H c false) (h : ∀ H', Same H H' → wB X sts D σ H') : wB X (.If c body [] pos :: sts) D σ H := b_ifE hc (fun q => nomatch q) fun _ H' s => b_nil (h H' s)
theorem b_ifT (hc : EvT X σ H c true) (h : ∀ H', Same H H' → wB X body { D with nx := wB X sts D } σ H') : wB X (.If c body els pos :: sts) D σ H := b_ifE hc (fun _ => h) fun q => nomatch q
theorem b_exprE (he : wE X e σ H fun _ H' => wB X sts D σ H') (hs : swapsWith e none pos.line X.env = pure false := by rfl) : wB X (.Expr e pos :: sts) D σ H := b_cons (w_S (ps_expr pw_E hs) he)
/-! tests of and, or, not -/
theorem ew_or {k k' : Bool} (h : EvT X σ H a k) (h' : k = false → EvW X σ H (.BoolOp .Or (b :: es) p) k') : EvW X σ H (.BoolOp .Or (a :: b :: es) p) (k || k') := fun H1 s1 => w_W (pw_or pw_T pw_W) (wT_mono (h H1 s1) fun v H2 ⟨s2, q⟩ => by
  subst q
  cases v with
  | true => rw [if_pos rfl]; exact ⟨s2, rfl⟩
  | false => rw [if_neg Bool.false_ne_true]; exact wW_mono (h' rfl H2 (s1.trans s2)) fun v H3 ⟨s3, q⟩ => ⟨s2.trans s3, q⟩)
theorem ew_and {k k' : Bool} (h : EvT X σ H a k) (h' : k = true → EvW X σ H (.BoolOp .And (b :: es) p) k') : EvW X σ H (.BoolOp .And (a :: b :: es) p) (k && k') := fun H1 s1 => w_W (pw_and pw_T pw_W) (wT_mono (h H1 s1) fun v H2 ⟨s2, q⟩ => by
  subst q
  cases v with
  | true => rw [if_pos rfl]; exact wW_mono (h' rfl H2 (s1.trans s2)) fun v H3 ⟨s3, q⟩ => ⟨s2.trans s3, q⟩
  | false => rw [if_neg Bool.false_ne_true]; exact ⟨s2, rfl⟩)
/-- all are false: or -/
theorem ew_orF (h : EvT X σ H a false) (h' : EvW X σ H (.BoolOp .Or (b :: es) p) false) : EvW X σ H (.BoolOp .Or (a :: b :: es) p) false := ew_or h fun _ => h'
theorem et_not {k : Bool} (h : EvT X σ H a k) : EvT X σ H (.UnaryOp .Not a pos) (!k) := fun H1 s1 => w_T (pt_not pw_T) (wT_mono (h H1 s1) fun v H2 ⟨s2, q⟩ => ⟨s2, by rw [q]⟩)
theorem EvT.is {k k' : Bool} (h : EvT X σ H e k) (q : k = k') : EvT X σ H e k' := q ▸ h
theorem EvW.is {k k' : Bool} (h : EvW X σ H e k) (q : k = k') : EvW X σ H e k' := q ▸ h
/-! values of and, or -/
theorem ev_and1 {k : Bool} (h : Ev X σ H a (Is (.bl k))) : Ev X σ H (.BoolOp .And [a] p) (Is (.bl k)) := fun H1 s1 => w_E (pe_one pw_E) (h H1 s1)
theorem ev_or1 {k : Bool} (h : Ev X σ H a (Is (.bl k))) : Ev X σ H (.BoolOp .Or [a] p) (Is (.bl k)) := fun H1 s1 => w_E (pe_one pw_E) (h H1 s1)
theorem ev_and {k k' : Bool} (h : Ev X σ H a (Is (.bl k))) (h' : k = true → Ev X σ H (.BoolOp .And (b :: es) p) (Is (.bl k'))) : Ev X σ H (.BoolOp .And (a :: b :: es) p) (Is (.bl (k && k'))) := fun H1 s1 => w_E (pe_and pw_E pw_E) (wE_mono (h H1 s1) fun v H2 ⟨s2, q⟩ => ⟨k, q, by
  cases k with
  | true => rw [if_pos rfl]; exact wE_mono (h' rfl H2 (s1.trans s2)) fun v H3 ⟨s3, q⟩ => ⟨s2.trans s3, q⟩
  | false => rw [if_neg Bool.false_ne_true]; exact ⟨s2, rfl⟩⟩)
theorem ev_or {k k' : Bool} (h : Ev X σ H a (Is (.bl k))) (h' : k = false → Ev X σ H (.BoolOp .Or (b :: es) p) (Is (.bl k'))) : Ev X σ H (.BoolOp .Or (a :: b :: es) p) (Is (.bl (k || k'))) := fun H1 s1 => w_E (pe_or pw_E pw_E) (wE_mono (h H1 s1) fun v H2 ⟨s2, q⟩ => ⟨k, q, by
  cases k with
  | true => rw [if_pos rfl]; exact ⟨s2, rfl⟩
  | false => rw [if_neg Bool.false_ne_true]; exact wE_mono (h' rfl H2 (s1.trans s2)) fun v H3 ⟨s3, q⟩ => ⟨s2.trans s3, q⟩⟩)
theorem ev_not {k : Bool} (h : Ev X σ H a (Is (.bl k))) : Ev X σ H (.UnaryOp .Not a p) (Is (.bl (!k))) := fun H1 s1 => w_E (pe_not pw_E) (wE_mono (h H1 s1) fun v H2 ⟨s2, q⟩ => ⟨k, q, s2, rfl⟩)
theorem ev_if {k : Bool} (h : EvT X σ H c k) (h1 : k = true → Ev X σ H a P) (h2 : k = false → Ev X σ H b P) : Ev X σ H (.IfExp c a b p) P := fun H1 s1 => w_E (pe_ifExp pw_T pw_E pw_E) (wT_mono (h H1 s1) fun v H2 ⟨s2, q⟩ => by
  subst q
  cases v with
  | true => rw [if_pos rfl]; exact wE_mono (h1 rfl H2 (s1.trans s2)) fun v H3 ⟨s3, q⟩ => ⟨s2.trans s3, q⟩
  | false => rw [if_neg Bool.false_ne_true]; exact wE_mono (h2 rfl H2 (s1.trans s2)) fun v H3 ⟨s3, q⟩ => ⟨s2.trans s3, q⟩)
/-! tuples -/
def TupI (xs : List V) : Pd := fun v H => ∃ q, v = .ref q ∧ H q = some (.tup xs)
theorem mono_tup {xs : List V} : Mono (TupI xs) := fun v H H' s ⟨q, e, h⟩ => ⟨q, e, s _ _ h⟩
/-- a new tuple of values told by predicates -/
def TupP (Ps : List Pd) : Pd := fun v H => ∃ q xs, v = .ref q ∧ H q = some (.tup xs) ∧ Pws Ps xs H
theorem same_new {H : Hp} {q : Addr} {o : HO} (h : H q = none) : Same H (upd H q o) := fun b x e => by
  rw [upd_ne (ne_of_none e h)]
  exact e
def Monos : List Pd → Prop
  | [] => True
  | P :: Ps => Mono P ∧ Monos Ps
theorem Pws.mono : ∀ {Ps : List Pd} {vs : List V}, Monos Ps → Same H H' → Pws Ps vs H → Pws Ps vs H'
  | [], _, _, _, h => h
  | P :: Ps, vs, m, s, ⟨v, r, e, h, t⟩ => ⟨v, r, e, m.1 _ _ _ s h, Pws.mono m.2 s t⟩
theorem Pws.len : ∀ {Ps : List Pd} {vs : List V}, Pws Ps vs H → vs.length = Ps.length
  | [], _, h => by subst h; rfl
  | P :: Ps, vs, ⟨v, r, e, h, t⟩ => by subst e; rw [List.length_cons, Pws.len t]; rfl
theorem ev_tup {k : Nat} (h : EvA X σ H es Ps) (m : Monos Ps) (hl : Ps.length ≤ 1000) : Ev X σ H (.Tuple es k p) (TupP Ps) := ev_of (pe_tup pw_A) fun H1 s1 => wA_mono (h H1 s1) fun vs H2 ⟨s2, pv⟩ => ⟨by
  rw [pv.len]
  exact Nat.le_of_lt (small1000 hl), fun q hq => ⟨s2.trans (same_new hq), q, vs, rfl, upd_same, pv.mono m (same_new hq)⟩⟩
def isAll : List V → List Pd := List.map Is
theorem pws_is : ∀ {vs xs : List V}, Pws (isAll xs) vs H → vs = xs
  | vs, [], h => h
  | vs, x :: xs, ⟨v, r, e, h, t⟩ => by
    have h1 : v = x := h
    subst h1 e
    rw [pws_is (xs := xs) t]
theorem monos_is : ∀ {xs : List V}, Monos (isAll xs)
  | [] => True.intro
  | _ :: _ => ⟨mono_is, monos_is⟩
theorem ev_tupI {k : Nat} {xs : List V} (h : EvA X σ H es (isAll xs)) (hl : xs.length ≤ 1000) : Ev X σ H (.Tuple es k p) (TupI xs) := (ev_tup h monos_is (by unfold isAll; rw [List.length_map]; exact hl)).imp fun v H' _ ⟨q, ys, e, h1, h2⟩ => ⟨q, e, by rw [pws_is h2] at h1; exact h1⟩
/-! calls of defs -/
variable {k : Nat} {f : Addr} {fd : FuncData} {ps : List Str} {sp : Sp} {x : Str}
/-- a def of the module -/
structure GDef (X : Cx) (x : Str) (k : Nat) (f : Addr) (fd : FuncData) (ps : List Str) (sp : Sp) : Prop where
  ok : FnOk X.prog X.w X.K X.mg X.base CX0 k f fd ps sp
  room : Room k X.A
  gl : X.mg x = some (.ref f)
  kp : PySem.W.keepIn X.K (.ref f) = true
  bs : Binds X.K fd ps []
theorem ev_call {q : Pos} (g : GDef X x k f fd ps sp) (h : EvA X σ H (e :: es) Ps) (hsp : ∀ vs H2, Same H H2 → Pws Ps vs H2 → sp vs H2 (fun v H3 => Same H2 H3 ∧ P v H3) E0)
    (hm : ∀ vs H2 (Q Q' : VK), (∀ v H', Q v H' → Q' v H') → sp vs H2 Q E0 → sp vs H2 Q' E0) (hg : Gl X x := by rfl)
    (hdb : (x == ("__debug__" : Str)) = false := by decide) (he : starEach (e :: es) X.env = (false, eval e X.env) :: starEach es X.env := by rfl) (hpl : (backTo p (starEach es X.env)).any (·.1) = false := by rfl) :
    Ev X σ H (.Call (.Name x q) (e :: es) [] p) P := ev_of (pe_call g.ok g.room hg g.gl g.kp g.bs .nil pass0 pw_A hdb he hpl) fun H1 s1 => wA_mono (h H1 s1) fun vs H2 ⟨s2, pv⟩ => by
  rw [List.append_nil]
  exact hm _ _ _ _ (fun v H' ⟨s3, pv'⟩ => ⟨s2.trans s3, pv'⟩) (hsp vs H2 (s1.trans s2) pv)
end
end Cb

/-! fractions -/
namespace Cb
/-- what lowest hands back, the way Python reckons it -/
def lowS (o u : Int) : Int := if u < 0 then -((Nat.gcd o.natAbs u.natAbs : Nat) : Int) else ((Nat.gcd o.natAbs u.natAbs : Nat) : Int)
theorem low_pos {o u : Int} (h : 0 < u) : o / lowS o u = (Rat.divInt o u).num ∧ u / lowS o u = ((Rat.divInt o u).den : Int) := by
  unfold lowS
  rw [if_neg (by omega)]
  constructor
  · rw [Rat.num_divInt, Int.sign_eq_one_of_pos h, Int.one_mul, Int.gcd_comm]
    rfl
  · rw [Rat.den_divInt, if_neg (by omega), Int.gcd_comm]
    show u / ((Int.gcd o u : Nat) : Int) = _
    rw [Int.natCast_ediv]
    congr 1
    omega
theorem low_neg {o u : Int} (h : u < 0) : o.fdiv (lowS o u) = (Rat.divInt o u).num ∧ u.fdiv (lowS o u) = ((Rat.divInt o u).den : Int) := by
  unfold lowS
  rw [if_pos h]
  have g1 : ((Int.gcd o u : Nat) : Int) ∣ o := Int.gcd_dvd_left ..
  have g2 : ((Int.gcd o u : Nat) : Int) ∣ u := Int.gcd_dvd_right ..
  have e : ((Nat.gcd o.natAbs u.natAbs : Nat) : Int) = ((Int.gcd o u : Nat) : Int) := rfl
  rw [e]
  constructor
  · rw [Rat.num_divInt, Int.sign_eq_neg_one_of_neg h, Int.gcd_comm u o, Int.fdiv_eq_ediv_of_dvd (Int.neg_dvd.mpr g1), Int.ediv_neg, Int.neg_mul, Int.one_mul, Int.neg_ediv_of_dvd g1]
  · rw [Rat.den_divInt, if_neg (by omega), Int.gcd_comm u o, Int.fdiv_eq_ediv_of_dvd (Int.neg_dvd.mpr g2), Int.ediv_neg, Int.natCast_ediv, ← Int.neg_ediv_of_dvd g2]
    congr 1
    omega
theorem lowS_pos {o u : Int} (h : 0 < u) : 0 < lowS o u ∧ lowS o u ≤ u := by
  unfold lowS
  rw [if_neg (by omega)]
  have g : 0 < Nat.gcd o.natAbs u.natAbs := Nat.gcd_pos_of_pos_right _ (by omega)
  have l : Nat.gcd o.natAbs u.natAbs ≤ u.natAbs := Nat.gcd_le_right _ (by omega)
  omega
theorem lowS_neg {o u : Int} (h : u < 0) : lowS o u < 0 ∧ u ≤ lowS o u := by
  unfold lowS
  rw [if_pos h]
  have g : 0 < Nat.gcd o.natAbs u.natAbs := Nat.gcd_pos_of_pos_right _ (by omega)
  have l : Nat.gcd o.natAbs u.natAbs ≤ u.natAbs := Nat.gcd_le_right _ (by omega)
  omega
/-! sizes -/
def Bd (n : Nat) (r : Rat) : Prop := r.num.natAbs < 2 ^ n ∧ r.den < 2 ^ n
theorem Bd.mono {n m : Nat} {r : Rat} (h : Bd n r) (l : n ≤ m) : Bd m r := ⟨Nat.lt_of_lt_of_le h.1 (Nat.pow_le_pow_right (by decide) l), Nat.lt_of_lt_of_le h.2 (Nat.pow_le_pow_right (by decide) l)⟩
theorem bd_div {o u : Int} {n : Nat} (h : u ≠ 0) (ho : o.natAbs < 2 ^ n) (hu : u.natAbs < 2 ^ n) : Bd n (Rat.divInt o u) := by
  constructor
  · rw [Rat.num_divInt]
    refine Nat.lt_of_le_of_lt ?_ ho
    refine Nat.le_trans (Int.natAbs_ediv_le_natAbs _ _) ?_
    rw [Int.natAbs_mul]
    rcases Int.lt_or_lt_of_ne h with q | q
    · rw [Int.sign_eq_neg_one_of_neg q]; simp
    · rw [Int.sign_eq_one_of_pos q]; simp
  · rw [Rat.den_divInt, if_neg h]
    exact Nat.lt_of_le_of_lt (Nat.div_le_self _ _) hu
theorem den_pos (r : Rat) : (0 : Int) < (r.den : Int) := Int.natCast_pos.mpr r.den_pos
theorem lt_mul {a b : Int} {n m : Nat} (ha : a.natAbs < 2 ^ n) (hb : b.natAbs < 2 ^ m) : (a * b).natAbs < 2 ^ (n + m) := by
  rw [Int.natAbs_mul, Nat.pow_add]
  exact Nat.mul_lt_mul'' ha hb
theorem lt_add {a b : Int} {n : Nat} (ha : a.natAbs < 2 ^ n) (hb : b.natAbs < 2 ^ n) : (a + b).natAbs < 2 ^ (n + 1) := by
  have := Int.natAbs_add_le a b
  rw [Nat.pow_succ]
  omega
theorem lt_sub {a b : Int} {n : Nat} (ha : a.natAbs < 2 ^ n) (hb : b.natAbs < 2 ^ n) : (a - b).natAbs < 2 ^ (n + 1) := by
  have := Int.natAbs_sub_le a b
  rw [Nat.pow_succ]
  omega
theorem add_eq (r q : Rat) : Rat.divInt (r.num * q.den + q.num * r.den) (r.den * q.den : Int) = r + q := by
  rw [Rat.add_def', ← Rat.divInt_ofNat, Int.natCast_mul]
theorem sub_eq (r q : Rat) : Rat.divInt (r.num * q.den - q.num * r.den) (r.den * q.den : Int) = r - q := by
  rw [Rat.sub_def', ← Rat.divInt_ofNat, Int.natCast_mul]
theorem mul_eq (r q : Rat) : Rat.divInt (r.num * q.num) (r.den * q.den : Int) = r * q := by
  rw [Rat.mul_def', ← Rat.divInt_ofNat, Int.natCast_mul]
theorem neg_eq (r : Rat) : Rat.divInt (-r.num) (r.den : Int) = -r := by
  rw [← Rat.neg_divInt, Rat.num_divInt_den]
theorem div_one (o : Int) : Rat.divInt o 1 = (o : Rat) := by
  have h := Rat.num_divInt_den (o : Rat)
  rw [Rat.num_intCast, Rat.den_intCast] at h
  exact h
/-- -1, 0, 1 -/
def cmpR (r q : Rat) : Int := if r < q then -1 else if q < r then 1 else 0
end Cb

/-! built-ins, items, attributes -/
namespace Cb
open PySem PySem.Spec PyProof.Rows L2
section
variable {X : Cx} {e a b c : Expr} {es : List Expr} {σ : L2.St} {H H' : Hp} {pos pos' p p' q : Pos} {P Pa Pb : Pd} {Ps : List Pd} {x : Str} {id : String} {r : List V → Hp → VK → Prop}
def RMono (r : List V → Hp → VK → Prop) : Prop := ∀ vs H (Q Q' : VK), (∀ v H', Q v H' → Q' v H') → r vs H Q → r vs H Q'
theorem ev_cb (hc : CallR X (.builtin id) r) (hm : X.mg x = none) (hv : bootBuiltins x = some (.builtin id)) (h : EvA X σ H (e :: es) Ps) (hr : ∀ vs H2, Same H H2 → Pws Ps vs H2 → r vs H2 (fun v H3 => Same H2 H3 ∧ P v H3)) (mr : RMono r) (hg : Gl X x := by rfl)
    (hn : x ≠ "__name__" := by decide) (hdb : (x == ("__debug__" : Str)) = false := by decide) (he : starEach (e :: es) X.env = (false, eval e X.env) :: starEach es X.env := by rfl) (hpl : (backTo p (starEach es X.env)).any (·.1) = false := by rfl) : Ev X σ H (.Call (.Name x q) (e :: es) [] p) P :=
  ev_of (pe_callB hc hg hm hv pw_A hn hdb he hpl) fun H1 s1 => wA_mono (h H1 s1) fun vs H2 ⟨s2, pv⟩ => mr _ _ _ _ (fun v H' ⟨s3, pv'⟩ => ⟨s2.trans s3, pv'⟩) (hr vs H2 (s1.trans s2) pv)
theorem ev_cty {T : String} (hc : CallR X (.type T) r) (hm : X.mg x = none) (hv : bootBuiltins x = some (.type T)) (h : EvA X σ H (e :: es) Ps) (hr : ∀ vs H2, Same H H2 → Pws Ps vs H2 → r vs H2 (fun v H3 => Same H2 H3 ∧ P v H3)) (mr : RMono r) (hg : Gl X x := by rfl)
    (hn : x ≠ "__name__" := by decide) (hdb : (x == ("__debug__" : Str)) = false := by decide) (he : starEach (e :: es) X.env = (false, eval e X.env) :: starEach es X.env := by rfl) (hpl : (backTo p (starEach es X.env)).any (·.1) = false := by rfl) : Ev X σ H (.Call (.Name x q) (e :: es) [] p) P :=
  ev_of (pe_callTy hc hg hm hv pw_A hn hdb he hpl) fun H1 s1 => wA_mono (h H1 s1) fun vs H2 ⟨s2, pv⟩ => mr _ _ _ _ (fun v H' ⟨s3, pv'⟩ => ⟨s2.trans s3, pv'⟩) (hr vs H2 (s1.trans s2) pv)
theorem ev_cfun (hc : CallR X (.builtin id) r) (hm : X.mg x = some (.builtin id)) (h : EvA X σ H (e :: es) Ps) (hr : ∀ vs H2, Same H H2 → Pws Ps vs H2 → r vs H2 (fun v H3 => Same H2 H3 ∧ P v H3)) (mr : RMono r) (hg : Gl X x := by rfl)
    (hdb : (x == ("__debug__" : Str)) = false := by decide) (he : starEach (e :: es) X.env = (false, eval e X.env) :: starEach es X.env := by rfl) (hpl : (backTo p (starEach es X.env)).any (·.1) = false := by rfl) : Ev X σ H (.Call (.Name x q) (e :: es) [] p) P :=
  ev_of (pe_callBfun hc hg hm pw_A hdb he hpl) fun H1 s1 => wA_mono (h H1 s1) fun vs H2 ⟨s2, pv⟩ => mr _ _ _ _ (fun v H' ⟨s3, pv'⟩ => ⟨s2.trans s3, pv'⟩) (hr vs H2 (s1.trans s2) pv)
theorem ev_gcd {i j : Int} (hm : X.mg "gcd" = some (.builtin "math.gcd")) (h : EvA X σ H [a, b] [Is (.int i), Is (.int j)]) (hg : Gl X "gcd" := by rfl)
    (he : starEach [a, b] X.env = (false, eval a X.env) :: starEach [b] X.env := by rfl) (hpl : (backTo p (starEach [b] X.env)).any (·.1) = false := by rfl) : Ev X σ H (.Call (.Name "gcd" q) [a, b] [] p) (Is (.int ((Nat.gcd i.natAbs j.natAbs : Nat) : Int))) :=
  ev_cfun cr_gcd hm h (fun vs H2 _ ⟨v, r, e, h1, w, r2, e2, h2, h3⟩ => by
    have h1 : v = .int i := h1
    have h2 : w = .int j := h2
    have h3 : r2 = [] := h3
    subst h1 h2 h3 e2 e
    exact ⟨i, j, rfl, .refl _, rfl⟩) (fun vs H Q Q' k ⟨i, j, e, q⟩ => ⟨i, j, e, k _ _ q⟩) hg (by decide) he hpl
theorem ev_isi {t : Value} {T : String} {k : Bool} {P : Pd} (m : X.mg "isinstance" = none) (ha : Ev X σ H a P) (mP : Mono P) (hb : Ev X σ H b (Is (.ty T))) (ty : ∀ x H', P x H' → TyX X.K H' x t) (kk : PySem.W.kitOne X.K t (.type T) = some k) (hg : Gl X "isinstance" := by rfl)
    (h1 : starEach [a, b] X.env = (false, eval a X.env) :: starEach [b] X.env := by rfl) (h2 : starEach [b] X.env = (false, eval b X.env) :: starEach [] X.env := by rfl) (hpl : (backTo p (starEach [b] X.env)).any (·.1) = false := by rfl) : Ev X σ H (.Call (.Name "isinstance" q) [a, b] [] p) (Is (.bl k)) :=
  ev_of (pe_callB call_isi hg m (by decide +kernel) (pa_cons pw_E (pa_cons pw_E pa_nil h2) h1) (he := h1) (hpl := hpl)) fun H1 s1 => wE_mono (ha H1 s1) fun x H2 ⟨s2, px⟩ => wE_mono (hb H2 (s1.trans s2)) fun y H3 ⟨s3, py⟩ =>
    ⟨x, y, t, .type T, k, rfl, by cases py; exact .ty T, ty _ _ (mP _ _ _ s3 px), kk, s2.trans s3, rfl⟩
/-- isinstance(x, C), C an own class -/
theorem ev_isiC {C : Addr} {t : Value} {k : Bool} {P : Pd} (m : X.mg "isinstance" = none) (ha : Ev X σ H a P) (mP : Mono P) (hb : Ev X σ H b (Is (.ref C))) (ty : ∀ x H', P x H' → TyX X.K H' x t) (kk : PySem.W.kitOne X.K t (.ref C) = some k) (hg : Gl X "isinstance" := by rfl)
    (h1 : starEach [a, b] X.env = (false, eval a X.env) :: starEach [b] X.env := by rfl) (h2 : starEach [b] X.env = (false, eval b X.env) :: starEach [] X.env := by rfl) (hpl : (backTo p (starEach [b] X.env)).any (·.1) = false := by rfl) : Ev X σ H (.Call (.Name "isinstance" q) [a, b] [] p) (Is (.bl k)) :=
  ev_of (pe_callB call_isi hg m (by decide +kernel) (pa_cons pw_E (pa_cons pw_E pa_nil h2) h1) (he := h1) (hpl := hpl)) fun H1 s1 => wE_mono (ha H1 s1) fun x H2 ⟨s2, px⟩ => wE_mono (hb H2 (s1.trans s2)) fun y H3 ⟨s3, py⟩ =>
    ⟨x, y, t, .ref C, k, rfl, by cases py; exact .own C, ty _ _ (mP _ _ _ s3 px), kk, s2.trans s3, rfl⟩
/-! // of any kind -/
def CDivA (_ j : Int) : Prop := (0 < j ∧ j.natAbs.log2 < 9000) ∨ (j ≠ 0 ∧ j.natAbs < 1073741824)
theorem op_fdivA : OpR X (binaryOp .FloorDiv) (rI CDivA fun i j => .int (i.fdiv j)) := opI fun i j _ _ _ _ _ hc q => by
  rcases hc with hc | hc
  · exact floordiv_int (by omega) q (.inl (PyProof.noPylong_of_log2 hc.2))
  · exact floordiv_int hc.1 q (.inl (PyProof.noPylong_small hc.2))
/-! items of a tuple -/
theorem ev_ixT {xs : List V} {i : Int} {v : V} (ho : Ev X σ H a (TupI xs)) (hi : Ev X σ H b (Is (.int i))) (ha : atI xs i = some v) (hs : PlainIxT b := by exact fun _ _ => rfl) : Ev X σ H (.Subscript a b p) (Is v) :=
  ev_of (pe_ix ix_tup pw_E pw_E hs) fun H1 s1 => wE_mono (ho H1 s1) fun x H2 ⟨s2, q, ex, hq⟩ => wE_mono (hi H2 (s1.trans s2)) fun y H3 ⟨s3, py⟩ =>
    ⟨q, xs, i, v, ex, py, .of (s3 _ _ hq), ha, s2.trans s3, rfl⟩
/-! attributes -/
def Ins (C : Addr) (fs : List (Str × V)) : Pd := fun v H => ∃ a dx, v = .ref a ∧ H a = some (.ins C dx fs)
theorem mono_ins {C : Addr} {fs : List (Str × V)} : Mono (Ins C fs) := fun v H H' s ⟨a, dx, e, h⟩ => ⟨a, dx, e, s _ _ h⟩
theorem ev_fld {C : Addr} {fs : List (Str × V)} {f : Str} {v : V} (c : Cls X.K C) (n : NoAttr X.K C f) (ho : Ev X σ H a (Ins C fs)) (hl : fs.lookup f = some v) (hb : attributeBase a f X.env (eval a X.env) = eval a X.env := by rfl) : Ev X σ H (.Attribute a f p) (Is v) :=
  ev_of (pe_fld pw_E hb) fun H1 s1 => wE_mono (ho H1 s1) fun x H2 ⟨s2, q, dx, ex, hq⟩ => ⟨q, C, dx, fs, v, ex, hq, c, n, hl, s2, rfl⟩
/-! defs as conditions on the call -/
theorem EvA.one {v : V} (h : Ev X σ H e (Is v)) (hs : starEach [e] X.env = (false, eval e X.env) :: starEach [] X.env := by rfl) : EvA X σ H [e] (isAll [v]) := ea_cons h mono_is ea_nil hs
theorem ea_1 {P : Pd} (h : Ev X σ H a P) (m : Mono P) (hs : starEach [a] X.env = (false, eval a X.env) :: starEach [] X.env := by rfl) : EvA X σ H [a] [P] := ea_cons h m ea_nil hs
theorem ea_2 {P P' : Pd} (h : Ev X σ H a P) (m : Mono P) (h' : Ev X σ H b P') (m' : Mono P') (hs : starEach [a, b] X.env = (false, eval a X.env) :: starEach [b] X.env := by rfl) (hs' : starEach [b] X.env = (false, eval b X.env) :: starEach [] X.env := by rfl) : EvA X σ H [a, b] [P, P'] := ea_cons h m (ea_1 h' m' hs') hs
theorem ea_3 {P P' P'' : Pd} (h : Ev X σ H a P) (m : Mono P) (h' : Ev X σ H b P') (m' : Mono P') (h'' : Ev X σ H c P'') (m'' : Mono P'') (hs : starEach [a, b, c] X.env = (false, eval a X.env) :: starEach [b, c] X.env := by rfl) (hs' : starEach [b, c] X.env = (false, eval b X.env) :: starEach [c] X.env := by rfl)
    (hs'' : starEach [c] X.env = (false, eval c X.env) :: starEach [] X.env := by rfl) : EvA X σ H [a, b, c] [P, P', P''] := ea_cons h m (ea_2 h' m' h'' m'' hs' hs'') hs
theorem Pws.one {P : Pd} {vs : List V} (h : Pws [P] vs H) : ∃ v, vs = [v] ∧ P v H := by
  obtain ⟨v, r, rfl, h1, h2⟩ := h
  have h2 : r = [] := h2
  subst h2
  exact ⟨v, rfl, h1⟩
theorem Pws.two {P P' : Pd} {vs : List V} (h : Pws [P, P'] vs H) : ∃ v w, vs = [v, w] ∧ P v H ∧ P' w H := by
  obtain ⟨v, r, rfl, h1, h2⟩ := h
  obtain ⟨w, rfl, h3⟩ := h2.one
  exact ⟨v, w, rfl, h1, h3⟩
theorem Pws.three {P P' P'' : Pd} {vs : List V} (h : Pws [P, P', P''] vs H) : ∃ u v w, vs = [u, v, w] ∧ P u H ∧ P' v H ∧ P'' w H := by
  obtain ⟨v, r, rfl, h1, h2⟩ := h
  obtain ⟨u, w, rfl, h3, h4⟩ := h2.two
  exact ⟨v, u, w, rfl, h1, h3, h4⟩
/-- a promise that is monotone in what is wanted -/
def SpMono (sp : Sp) : Prop := ∀ vs H2 (Q Q' : VK), (∀ v H', Q v H' → Q' v H') → sp vs H2 Q E0 → sp vs H2 Q' E0
/-- pure promise: from the arguments (that A holds of them) a value of which R holds; A and R over a datum -/
def spP {α : Type} (A : α → List V → Hp → Prop) (R : α → Pd) : Sp := fun vs H Q _ => ∃ d : α, A d vs H ∧ ∀ v H', Same H H' → R d v H' → Q v H'
theorem spP_mono {α : Type} {A : α → List V → Hp → Prop} {R : α → Pd} : SpMono (spP A R) := fun vs H Q Q' k ⟨d, h, q⟩ => ⟨d, h, fun v H' s r => k _ _ (q v H' s r)⟩
theorem ev_callP {α : Type} {A : α → List V → Hp → Prop} {R : α → Pd} {k : Nat} {f : Addr} {fd : FuncData} {ps : List Str} (d : α) (g : GDef X x k f fd ps (spP A R)) (h : EvA X σ H (e :: es) Ps) (hA : ∀ vs H2, Same H H2 → Pws Ps vs H2 → A d vs H2) (hg : Gl X x := by rfl)
    (hdb : (x == ("__debug__" : Str)) = false := by decide) (he : starEach (e :: es) X.env = (false, eval e X.env) :: starEach es X.env := by rfl) (hpl : (backTo p (starEach es X.env)).any (·.1) = false := by rfl) :
    Ev X σ H (.Call (.Name x q) (e :: es) [] p) (R d) := ev_call g h (fun vs H2 s pv => ⟨d, hA vs H2 s pv, fun v H' s' r => ⟨s', r⟩⟩) spP_mono hg hdb he hpl
end
end Cb

/-! a dict of four texts; rules for dicts, lists -/
namespace Cb
open PySem PySem.Spec PyProof.Rows L2
abbrev Kc : Key := .inr "cells"
abbrev Kn : Key := .inr "next"
abbrev Kr : Key := .inr "rest"
abbrev Kd : Key := .inr "draws"
theorem kcn : ¬ Kc = Kn := by decide +kernel
theorem kcr : ¬ Kc = Kr := by decide +kernel
theorem kcd : ¬ Kc = Kd := by decide +kernel
theorem knr : ¬ Kn = Kr := by decide +kernel
theorem knd : ¬ Kn = Kd := by decide +kernel
theorem krd : ¬ Kr = Kd := by decide +kernel
theorem scn : ¬ (Str.ofString "cells" = Str.ofString "next") := by decide +kernel
theorem scr : ¬ (Str.ofString "cells" = Str.ofString "rest") := by decide +kernel
theorem scd : ¬ (Str.ofString "cells" = Str.ofString "draws") := by decide +kernel
theorem snc : ¬ (Str.ofString "next" = Str.ofString "cells") := by decide +kernel
theorem snr : ¬ (Str.ofString "next" = Str.ofString "rest") := by decide +kernel
theorem snd : ¬ (Str.ofString "next" = Str.ofString "draws") := by decide +kernel
theorem src : ¬ (Str.ofString "rest" = Str.ofString "cells") := by decide +kernel
theorem srn : ¬ (Str.ofString "rest" = Str.ofString "next") := by decide +kernel
theorem srd : ¬ (Str.ofString "rest" = Str.ofString "draws") := by decide +kernel
theorem sdc : ¬ (Str.ofString "draws" = Str.ofString "cells") := by decide +kernel
theorem sdn : ¬ (Str.ofString "draws" = Str.ofString "next") := by decide +kernel
theorem sdr : ¬ (Str.ofString "draws" = Str.ofString "rest") := by decide +kernel
def kv4 (c nx rs dr : V) : List (Key × V) := [(Kc, c), (Kn, nx), (Kr, rs), (Kd, dr)]
theorem kv4_c (c nx rs dr : V) : valV (kv4 c nx rs dr) Kc = some c := valV_pos rfl
theorem kv4_n (c nx rs dr : V) : valV (kv4 c nx rs dr) Kn = some nx := (valV_neg kcn).trans (valV_pos rfl)
theorem kv4_r (c nx rs dr : V) : valV (kv4 c nx rs dr) Kr = some rs := (valV_neg kcr).trans ((valV_neg knr).trans (valV_pos rfl))
theorem kv4_d (c nx rs dr : V) : valV (kv4 c nx rs dr) Kd = some dr := (valV_neg kcd).trans ((valV_neg knd).trans ((valV_neg krd).trans (valV_pos rfl)))
theorem kv4_putD (c nx rs dr z : V) : putK (kv4 c nx rs dr) Kd z = kv4 c nx rs z := by
  simp [putK, kv4, scn, scr, scd, snc, snr, snd, src, srn, srd, sdc, sdn, sdr]
theorem kv4_putR (c nx rs dr z : V) : putK (kv4 c nx rs dr) Kr z = kv4 c nx z dr := by
  simp [putK, kv4, scn, scr, scd, snc, snr, snd, src, srn, srd, sdc, sdn, sdr]
theorem kv4_putN (c nx rs dr z : V) : putK (kv4 c nx rs dr) Kn z = kv4 c z rs dr := by
  simp [putK, kv4, scn, scr, scd, snc, snr, snd, src, srn, srd, sdc, sdn, sdr]
theorem kv4_len (c nx rs dr : V) : (kv4 c nx rs dr).length < sizeLine := by
  show 4 < sizeLine
  decide
theorem kv4_merge (c nx rs dr : V) : mergeK [] (kv4 c nx rs dr) = kv4 c nx rs dr := by
  simp [mergeK, kv4, putK, scn, scr, scd, snc, snr, snd, src, srn, srd, sdc, sdn, sdr]
section
variable {X : Cx} {e a b c o i value : Expr} {es : List Expr} {sts : List Stmt} {σ : L2.St} {H H' : Hp} {pos pos' p p' : Pos} {D : Ends} {P Pa Pb : Pd}
theorem ev_dget {d : Addr} {kvs : List (Key × V)} {k : Key} {v : V} (hu : X.A.units + 1 < cLine) (ho : Ev X σ H o (Is (.ref d))) (hi : Ev X σ H i (Is (kV k))) (hd : H d = some (.dK kvs)) (hv : valV kvs k = some v) (hs : NoSl i := by exact fun _ _ => rfl) : Ev X σ H (.Subscript o i p) (Is v) :=
  ev_of (pe_dget hu pw_E pw_E hs) fun H1 s1 => wE_mono (ho H1 s1) fun x H2 ⟨s2, px⟩ => wE_mono (hi H2 (s1.trans s2)) fun y H3 ⟨s3, py⟩ => by
    cases px
    cases py
    refine ⟨d, v, rfl, ?_, s2.trans s3, rfl⟩
    rw [← hv]
    exact DGet.k (s3 _ _ (s2 _ _ (s1 _ _ hd)))
theorem b_dput {d : Addr} {kvs : List (Key × V)} {k : Key} {v : V} (hu : X.A.units + 1 < cLine) (hv : Ev X σ H value (Is v)) (ho : Ev X σ H o (Is (.ref d))) (hi : Ev X σ H i (Is (kV k))) (hd : H d = some (.dK kvs)) (hl : kvs.length < sizeLine)
    (kk : ∀ H', Same H H' → wB X sts D σ (upd H' d (.dK (putK kvs k v)))) (hs : swapsWith value (some (.Subscript o i pos')) pos.line X.env = pure false := by rfl) : wB X (.Assign [.Subscript o i pos'] value pos :: sts) D σ H :=
  b_cons (w_S (ps_dput hu pw_E pw_E pw_E hs) (wE_mono (hv H (.refl _)) fun z H1 ⟨s1, pz⟩ => wE_mono (ho H1 s1) fun x H2 ⟨s2, px⟩ => wE_mono (hi H2 (s1.trans s2)) fun y H3 ⟨s3, py⟩ => by
    cases pz
    cases px
    cases py
    have s := (s1.trans s2).trans s3
    exact ⟨d, _, rfl, DPut.k (s _ _ hd) hl, kk H3 s⟩))
/-- len of a tracked list -/
theorem ev_lenL {q : Addr} {xs : List V} (hm : X.mg "len" = none) (ha : Ev X σ H a (Is (.ref q))) (hq : H q = some (.lst xs)) (hg : Gl X "len" := by rfl) (hs : starEach [a] X.env = (false, eval a X.env) :: starEach [] X.env := by rfl) (hpl : (backTo p (starEach [] X.env)).any (·.1) = false := by rfl) : Ev X σ H (.Call (.Name "len" p') [a] [] p) (Is (.int (xs.length : Int))) :=
  ev_cb call_len hm PySem.boot_len (ea_1 ha mono_is hs) (fun vs H2 s h => by
    obtain ⟨v, rfl, e⟩ := h.one
    cases e
    exact ⟨_, _, rfl, .inl ⟨_, SqL.of (s _ _ hq), rfl⟩, .refl _, rfl⟩) (fun vs H2 Q Q' k ⟨x, n, e, h, q⟩ => ⟨x, n, e, h, k _ _ q⟩) hg (by decide) (by decide) hs hpl
theorem ev_ixL {q : Addr} {xs : List V} {j : Int} {v : V} (ho : Ev X σ H a (Is (.ref q))) (hi : Ev X σ H b (Is (.int j))) (hq : H q = some (.lst xs)) (ha : atI xs j = some v) (hs : PlainIxT b := by exact fun _ _ => rfl) : Ev X σ H (.Subscript a b p) (Is v) :=
  ev_of (pe_ix ix_list pw_E pw_E hs) fun H1 s1 => wE_mono (ho H1 s1) fun x H2 ⟨s2, ex⟩ => wE_mono (hi H2 (s1.trans s2)) fun y H3 ⟨s3, py⟩ => by
    cases ex
    cases py
    exact ⟨q, xs, j, v, rfl, rfl, .of (s3 _ _ (s2 _ _ (s1 _ _ hq))), ha, s2.trans s3, rfl⟩
/-- a new list -/
def LstI (xs : List V) : Pd := fun v H => ∃ q, v = .ref q ∧ H q = some (.lst xs)
theorem mono_lst {xs : List V} : Mono (LstI xs) := fun v H H' s ⟨q, e, h⟩ => ⟨q, e, s _ _ h⟩
theorem ev_lstI {xs : List V} (h : EvA X σ H es (isAll xs)) (hl : xs.length ≤ 1000) : Ev X σ H (.List es p) (LstI xs) := ev_of (pe_lst pw_A) fun H1 s1 => wA_mono (h H1 s1) fun vs H2 ⟨s2, pv⟩ => by
  rw [pws_is pv]
  exact ⟨Nat.le_of_lt (small1000 hl), fun q hq => ⟨s2.trans (same_new hq), q, rfl, upd_same⟩⟩
/-- == and != of data -/
theorem c_eqD {Pa Pb : Pd} {d e' : PyData} (hu : X.A.units + 64 < cLine) (ha : Ev X σ H a Pa) (hb : Ev X σ H b Pb) (ma : Mono Pa) (da : ∀ x H', Same H H' → Pa x H' → Dp X.K H' x d) (db : ∀ x H', Same H H' → Pb x H' → Dp X.K H' x e') (sd : SeqAt.shaped d = true) (se : SeqAt.shaped e' = true) (hm : behindInMarks .Eq b = false := by exact nomark _) : CC X σ H .Eq a b (.bl (PyData.eqv d e')) :=
  ⟨_, _, _, op_eqD hu, hm, ha, hb, ma, fun x y H2 s px py => ⟨d, e', da x H2 s px, db y H2 s py, sd, se, .refl _, rfl⟩, fun x y H2 Q Q' k ⟨d, e, h1, h2, h3, h4, q⟩ => ⟨d, e, h1, h2, h3, h4, k _ _ q⟩⟩
theorem c_neD {Pa Pb : Pd} {d e' : PyData} (hu : X.A.units + 64 < cLine) (ha : Ev X σ H a Pa) (hb : Ev X σ H b Pb) (ma : Mono Pa) (da : ∀ x H', Same H H' → Pa x H' → Dp X.K H' x d) (db : ∀ x H', Same H H' → Pb x H' → Dp X.K H' x e') (sd : SeqAt.shaped d = true) (se : SeqAt.shaped e' = true) (hm : behindInMarks .NotEq b = false := by exact nomark _) : CC X σ H .NotEq a b (.bl (!PyData.eqv d e')) :=
  ⟨_, _, _, op_neD hu, hm, ha, hb, ma, fun x y H2 s px py => ⟨d, e', da x H2 s px, db y H2 s py, sd, se, .refl _, rfl⟩, fun x y H2 Q Q' k ⟨d, e, h1, h2, h3, h4, q⟩ => ⟨d, e, h1, h2, h3, h4, k _ _ q⟩⟩
theorem dp_ints {K : PySem.W.Frag} {H : Hp} : ∀ ns : List Int, DpAll K H (ns.map V.int) (ns.map PyData.int)
  | [] => .nil
  | n :: ns => .cons (.int n) (dp_ints ns)
theorem eqv_nil (ns : List Int) : PyData.eqv (.list (ns.map PyData.int)) (.list []) = ns.isEmpty := by
  cases ns with
  | nil => rfl
  | cons n ns => rfl
theorem canLay_ints : ∀ ns : List Int, PyData.canLayAll0 (ns.map PyData.int) = true
  | [] => rfl
  | n :: ns => by
    show (PyData.canLay0 (.int n) && PyData.canLayAll0 (ns.map PyData.int)) = true
    rw [canLay_ints ns]
    rfl
theorem depth_ints : ∀ ns : List Int, PyData.depthAll (ns.map PyData.int) = 0
  | [] => rfl
  | n :: ns => by
    show max (PyData.depth (.int n)) (PyData.depthAll (ns.map PyData.int)) = 0
    rw [depth_ints ns]
    rfl
theorem shaped_ints (ns : List Int) : SeqAt.shaped (.list (ns.map PyData.int)) = true := by
  show (PyData.canLayAll0 (ns.map PyData.int) && decide (PyData.depthAll (ns.map PyData.int) + 1 ≤ 64)) = true
  rw [canLay_ints, depth_ints]
  rfl
end
end Cb

namespace Cb
open PySem PySem.Spec PyProof.Rows L2
/-! ### loops and comprehensions -/
section
variable {X : Cx} {e a b c : Expr} {es : List Expr} {σ : L2.St} {H H' : Hp} {p p' pos : Pos} {D : Ends} {P : Pd} {sts body : List Stmt} {tg iter : Expr}
theorem for_enum {K : PySem.W.Frag} {a : Addr} {xs : List V} {g : TG} {tb : TS} {D : Ends} {σ : L2.St} {H : Hp} (Pv : Nat → L2.St → Hp → Prop) (h0 : Pv 0 σ H) (hl : ∀ i σ H, i ≤ xs.length → Pv i σ H → SqL K H a xs)
    (hs : ∀ i x σ H T, xs[i]? = some x → Pv i σ H → H T = none → g (.ref T) σ (upd H T (.tup [.int (i : Nat), x])) fun σ2 H2 => tb { D with nx := Pv (i + 1), ct := Pv (i + 1), bk := D.nx } σ2 H2) (hd : ∀ σ H, Pv xs.length σ H → D.nx σ H) :
    ∃ W : Nat → Nat → L2.St → Hp → Prop, (∃ m, W 0 m σ H) ∧ ∀ i m σ H, W i m σ H →
      ((Ite K a).stop i H ∧ D.nx σ H) ∨ ((Ite K a).go i H ∧ ∃ N : L2.St → Hp → Prop, (∀ σ' H', N σ' H' → ∃ m', m' < m ∧ W (i + 1) m' σ' H') ∧ ∀ x H', (Ite K a).yld i H x H' → g x σ H' fun σ2 H2 => tb { D with nx := N, ct := N, bk := D.nx } σ2 H2) := by
  refine ⟨fun i m σ H => m = xs.length - i ∧ i ≤ xs.length ∧ Pv i σ H, ⟨xs.length, by simp, Nat.zero_le _, h0⟩, ?_⟩
  rintro i m σ H ⟨rfl, hi, p⟩
  have q := hl i σ H hi p
  by_cases hlt : i < xs.length
  · refine .inr ⟨⟨xs, xs[i], q, by simp [hlt]⟩, Pv (i + 1), fun σ' H' p' => ⟨xs.length - (i + 1), by omega, rfl, hlt, p'⟩, fun v H' y => ?_⟩
    obtain ⟨T, x, rfl, hT, rfl, y⟩ := y
    exact hs i x σ H T (y xs q) p hT
  · have e : i = xs.length := by omega
    subst e
    exact .inl ⟨⟨xs, q, Nat.le_refl _⟩, hd σ H p⟩
theorem b_for {wi : TI} {g : TG} (hc : X.calm = true) (hi : PI X tg iter wi) (hg : PG X tg g) (h : tFor wi g (wB X body) { D with nx := wB X sts D } σ H) (hp : PassesOwn (model X.prog X.w) X.A X.env X.xe)
    (hs : ∀ x, foldedSetIterable iter X.env x = pure x := by intro _; rfl) : wB X (.For tg iter body [] pos :: sts) D σ H := b_cons (w_S (ps_for hp hc hi hg pw_B hs) h)
/-- the element, the test of a comprehension -/
def wEb (X : Cx) (scope : Scope) (elt : Expr) : TE := fun σ H Q => ∀ (s : Shared) (H0 : Hp) (C : Addr) (cl : List (Str × Addr)) (fp : List Addr), wE (X.blk s H0 scope (compEnvC scope cl C X.env) fp) elt σ H Q
def wTb (X : Cx) (scope : Scope) (c : Expr) : TT := fun σ H Q => ∀ (s : Shared) (H0 : Hp) (C : Addr) (cl : List (Str × Addr)) (fp : List Addr), wT (X.blk s H0 scope (compEnvC scope cl C X.env) fp) c σ H Q
theorem pw_Eb {scope : Scope} {elt : Expr} (s : Shared) (H : Hp) (C : Addr) (cl : List (Str × Addr)) (fp : List Addr) : PE (X.blk s H scope (compEnvC scope cl C X.env) fp) elt (wEb X scope elt) := ⟨fun pins s1 σ H1 Q I h => wE.run (h s H C cl fp) pins s1 I⟩
theorem pw_Tb {scope : Scope} {c : Expr} (s : Shared) (H : Hp) (C : Addr) (cl : List (Str × Addr)) (fp : List Addr) : PTs (X.blk s H scope (compEnvC scope cl C X.env) fp) [c] (wTb X scope c) := pts_one ⟨fun pins s1 σ H1 Q I h => wT.run (h s H C cl fp) pins s1 I⟩
/-- an item of a tracked list, told by a predicate -/
theorem ev_ixLP {q : Addr} {xs : List V} {j : Nat} {v : V} (ho : Ev X σ H a (Is (.ref q))) (hi : Ev X σ H b (Is (.int (j : Int)))) (hq : H q = some (.lst xs)) (ha : xs[j]? = some v) (hP : P v H) (m : Mono P) (hs : PlainIxT b := by exact fun _ _ => rfl) : Ev X σ H (.Subscript a b p) P :=
  (ev_ixL ho hi hq (atI_nat ha) hs).imp fun w H' s e => by
    cases e
    exact m _ _ _ s hP
end
end Cb

/-! defs that run where no guard stands on the stack: so that repr of nested data can be asked -/
namespace Cb
open PySem PySem.Spec PyProof.Rows L2
structure FnG (P : Program) (w : World) (K : PySem.W.Frag) (mg : Str → Option Value) (base : Heap) (k : Nat) (f : Addr) (fd : FuncData) (ps : List Str) (sp : Sp) : Prop where
  arity : ∀ {vs H Q E}, sp vs H Q E → vs.length = ps.length
  go : ∀ {A : Around} {out : List Env} {st : Shared} {H : Hp} {ar : Args} {us : List Value} {vs : List V} {Q : VK} {E : XK}, A.guards = some [] → Room k A → Env0 P w K mg base A out st H →
    BindsTo st fd ar (ps.zip us) → Vals vs us → sp vs H Q E → codeAny (model P w) A (.call (.ref f) ar) (CR CX0 out P w H st Q E) st
section
variable {P : Program} {w : World} {K : PySem.W.Frag} {mg : Str → Option Value} {base : Heap} {k : Nat} {f : Addr} {fd : FuncData} {ps : List Str} {sp : Sp}
theorem FnG.of (F : FnOk P w K mg base CX0 k f fd ps sp) : FnG P w K mg base k f fd ps sp := ⟨fun h => F.len _ _ _ _ h, fun _ hr e b r h => F.run _ _ _ _ _ _ _ _ _ hr e b r h⟩
theorem guards_deeper {A : Around} {env : Env} (g : A.guards = some []) : (A.deeper env).guards = some [] := g
theorem okG {x qual : Str} {st : Stmt} {N : List Str} (F : Fun K x qual st f fd) (S : FnScope N ps (defScope st)) (ar : ∀ {vs H Q E}, sp vs H Q E → vs.length = ps.length)
    (body : ∀ (cdv : Value) (A : Around) (out : List Env) (s : Shared) (H : Hp) (vs : List V) (Q : VK) (E : XK), A.guards = some [] → Room k (A.deeper (envOfC qual (defScope st) s.heap.objs.size f cdv)) → sp vs H Q E →
      wB (cxOf CX0 P w K mg base N qual (defScope st) f cdv A out s H E).nox (defBody st) { nx := fun _ H' => Q .non H', rt := Q } (start N vs) H) : FnG P w K mg base (k + 1) f fd ps sp := by
  obtain ⟨oc, od, kV, doc, pm, an, cdv, ct, osl, rfl, look, isCode⟩ := F.ex
  refine ⟨ar, fun {A out s H ags us vs Q E} gd room ev bnd rel want => ?_⟩
  have inK : K.In s.heap := ev.mod.kin.keeps fun b o z => (ev.bs b o z).1
  have noLim : s.heap.NoLimit := ev.mod.nolimit.keeps fun b o z => (ev.bs b o z).1
  have kinds : ∀ y ∈ ps.zip us, (defScope st).names.lookup y.1 = some .local ∨ ((defScope st).names.lookup y.1 = some .cell ∧ ((cellsFrom (s.heap.objs.size + 1) (defScope st).names []).lookup y.1).isSome = true) := by
    rintro ⟨n, v⟩ hy
    cases S.par n (List.of_mem_zip hy).1 with
    | inl q => exact .inl q
    | inr q => exact .inr ⟨q, PySem.W.cellsFrom_some _ _ _ (.inl q)⟩
  apply codeAny_call_function (o := ⟨oc, od, .func _, osl⟩) room.depth (inK _ _ look) rfl S.co S.gen rfl (PySem.W.codeRec_of inK isCode)
  apply bnd
  apply wpAny_newFunctionEnv_cells S.kind kinds
  intro env he s1 x
  subst he
  refine ⟨noLim.keeps x.toInCall.keep, codeAny_func ?_⟩
  have J := inv_start (CX := CX0) (N := N) (E := E) S room.hd ev (ar want) rel x
  have main := PSs.nox (st := defBody st) (X := cxOf CX0 P w K mg base N qual (defScope st) f cdv A out s H E) pw_B
  refine wpAny_mono (main.run [] s1 _ H _ J (body cdv A out s H vs Q E gd (room.deeper _) want)) (fun fl s' z => ?_) (fun e s' z => z)
  match fl, z with
  | .ret u, ⟨v, _, H', I', rv, q⟩ => exact ⟨v, H', I'.os, I'.bare, I'.base, I'.hok, rv, q⟩
  | .next, ⟨_, H', I', q⟩ => exact ⟨.non, H', I'.os, I'.bare, I'.base, I'.hok, rfl, q⟩
  | .brk, ⟨_, _, _, q⟩ => exact q.elim
  | .cont, ⟨_, _, _, q⟩ => exact q.elim
end
section
variable {X : Cx} {k : Nat} {f : Addr} {fd : FuncData} {ps : List Str} {sp : Sp} {x : Str} {p pos : Pos} {e : Expr} {es : List Expr} {σ : L2.St} {H : Hp} {Ps : List Pd} {P : Pd}
/-- a def of the module, called where no guard stands -/
structure GDefG (X : Cx) (x : Str) (k : Nat) (f : Addr) (fd : FuncData) (ps : List Str) (sp : Sp) : Prop where
  ok : FnG X.prog X.w X.K X.mg X.base k f fd ps sp
  gd : X.A.guards = some []
  room : Room k X.A
  gl : X.mg x = some (.ref f)
  kp : PySem.W.keepIn X.K (.ref f) = true
  bs : Binds X.K fd ps []
theorem runG {pins : List (Addr × Obj)} {s : Shared} {Q : VK} {us : List Value} {vs : List V} (g : GDefG X x k f fd ps sp) (I : Inv X pins σ H s) (r : Vals vs us) (h : sp vs H Q E0) : wpAny (model X.prog X.w) X.A (call (.ref f) us) (EP X pins σ Q) X.xe s := by
  have bnd := g.bs s us I.kIn (by rw [List.append_nil, ← r.length]; exact g.ok.arity h)
  rw [List.append_nil] at bnd
  refine wpAny_call (codeAny_mono (g.ok.go g.gd g.room I.env0 bnd r h) ?_)
  rintro (z | fl) s' q
  · exact False.elim q
  · match fl, q with
    | .ret u, q => exact I.after q
theorem w_callG {Q : VK} (g : GDefG X x k f fd ps sp) (h : wA X (e :: es) σ H fun vs H1 => sp vs H1 Q E0) (hg : Gl X x := by rfl)
    (hdb : (x == ("__debug__" : Str)) = false := by decide) (he : starEach (e :: es) X.env = (false, eval e X.env) :: starEach es X.env := by rfl) (hpl : (backTo pos (starEach es X.env)).any (·.1) = false := by rfl) : wE X (.Call (.Name x p) (e :: es) [] pos) σ H Q := by
  refine wE_i fun pins s I => ?_
  apply wpAny_Call_Name_kw
  apply ld_glob I hg g.gl _ hdb
  apply PySem.W.callWith_K (h₀ := X.base) I.ok.mod.kin g.kp _ he hpl
  exact thn (wA.run h _ pins s I) fun us s1 ⟨vs, H1, I1, r, q⟩ => ⟨I1.kIn, runG g I1 r q⟩
/-! ### repr of data -/
def rReprD (K : PySem.W.Frag) : List V → Hp → VK → Prop := fun vs H Q => ∃ (a : Addr) (d : PyData), vs = [.ref a] ∧ Dp K H (.ref a) d ∧ d.showable = true ∧ d.hasDict = false ∧ d.depth ≤ 60 ∧ d.shown.length ≤ sizeLine ∧ Q (.str d.shown) H
theorem call_reprD (gd : X.A.guards = some []) (hu : X.A.units + 64 < cLine) : CallR X (.builtin "repr") (rReprD X.K) := by
  rintro pins s σ H xs us Q I rv ⟨a, d, rfl, hd, hs, hn, hp, hz, q⟩
  cases rv with
  | cons r rest =>
    cases rest
    obtain ⟨as, r1⟩ := Dp.reads I d _ _ hd r
    obtain rfl := r
    exact repr_of_reads' r1 hs (fun z => by rw [hn] at z; cases z) gd (by omega) (fun _ _ z => z) (fun h' u tk kp => ⟨.str d.shown, H, I.kept kp, ⟨u, rfl⟩, q⟩) hz
theorem ev_repr {d : PyData} (gd : X.A.guards = some []) (hu : X.A.units + 64 < cLine) (hm : X.mg "repr" = none) (ha : Ev X σ H e P) (mP : Mono P) (hd : ∀ v H', Same H H' → P v H' → Dp X.K H' v d ∧ ∃ a, v = .ref a) (hs : d.showable = true) (hn : d.hasDict = false) (hp : d.depth ≤ 60) (hz : d.shown.length ≤ sizeLine)
    (hg : Gl X "repr" := by rfl) (he : starEach [e] X.env = (false, eval e X.env) :: starEach [] X.env := by rfl) (hpl : (backTo pos (starEach [] X.env)).any (·.1) = false := by rfl) : Ev X σ H (.Call (.Name "repr" p) [e] [] pos) (Is (.str d.shown)) :=
  ev_cb (call_reprD gd hu) hm (by decide +kernel) (ea_1 ha mP he) (fun vs H2 s pv => by
    obtain ⟨v, rfl, h⟩ := pv.one
    obtain ⟨h1, a, rfl⟩ := hd v H2 s h
    exact ⟨a, d, rfl, h1, hs, hn, hp, hz, .refl _, rfl⟩) (fun vs H Q Q' kk ⟨a, d, h1, h2, h3, h4, h5, h6, q⟩ => ⟨a, d, h1, h2, h3, h4, h5, h6, kk _ _ q⟩) hg (by decide) (by decide) he hpl
end
end Cb

/-! from the promise of the law's def, made where no guard stands, to the walk -/
namespace Cb
open PySem PySem.Spec PyProof.Rows L2
section
variable {P : Program} {w : World} {K : PySem.W.Frag} {mg mb : Str → Option Value} {k : Nat} {fa a : Addr} {fd : FuncData} {x : Str} {sp : Sp} {s : Shared} {vs : List Value} {ns : List Int}
/-- nothing is tracked, or the script alone; then the module's names are as they were in the heap without it -/
theorem modG {H : Hp} (KX : K.In s.heap) (hns : s.heap.Ns mainGlobals mg) (hb : s.heap.Ns builtinsNs mb) (hbb : ∀ x : Str, x ≠ "__name__" → mb x = bootBuiltins x) (hlim : s.heap.NoLimit)
    (ha : s.heap.get? a = some { cls := .type "list", data := .seq vs.toArray }) (only : ∀ b, b ≠ a → H b = none) (out : H a ≠ none → K.lookup a = none) : L2.Mod K mg (hidT s.heap H) := by
  have stays : ∀ {b : Addr} {m : Str → Option Value}, s.heap.Ns b m → (hidT s.heap H).Ns b m := by
    rintro b m ⟨o, es, ep, e, d, r⟩
    refine ⟨o, es, ep, hidT_get e (only b ?_), d, r⟩
    rintro rfl
    rw [ha] at e
    cases e
    have d' : Data.seq vs.toArray _ = Data.dict es ep := d
    cases d'
  refine ⟨fun b o e => hidT_get (KX b o e) ?_, stays hns, ⟨mb, stays hb, hbb⟩, ?_⟩
  · by_cases hba : b = a
    · cases q : H b with
      | none => rfl
      | some u =>
        have := out (by rw [← hba, q]; simp)
        rw [hba, this] at e
        cases e
    · exact only b hba
  · obtain ⟨mc, h1, h2⟩ := hlim
    exact ⟨mc, stays h1, h2⟩
theorem coreG {H : Hp} (KX : K.In s.heap) (hns : s.heap.Ns mainGlobals mg) (hb : s.heap.Ns builtinsNs mb) (hbb : ∀ x : Str, x ≠ "__name__" → mb x = bootBuiltins x) (hlim : s.heap.NoLimit) (hg : s.gens = #[])
    (ha : s.heap.get? a = some { cls := .type "list", data := .seq vs.toArray }) (only : ∀ b, b ≠ a → H b = none) (out : H a ≠ none → K.lookup a = none) (fz : ∀ o, H a = some o → ∃ u xs, o = .frz u (.lst xs)) (hok : HOk P w H s.heap) (hr : Room k callerA)
    (F : ∀ base : Heap, K.In base → base.Ns mainGlobals mg → FnG P w K mg base k fa fd [x] sp) (bnd : ∀ (s : Shared) (u : Value), BindsTo s fd ⟨[u], []⟩ [(x, u)]) (want : sp [.ref a] H (fun v _ => v = .bl true) E0) :
    codeAny (model P w) callerA (.call (.ref fa) ⟨[.ref a], []⟩) (fun r s' => r = .ok (.ret (.bool true)) ∧ OldK s.heap s'.heap ∧ s'.os = s.os ∧ AllBare s'.gens) s := by
  have M := modG KX hns hb hbb hlim ha only out
  have ev : Env0 P w K mg (hidT s.heap H) callerA [] s H := { frames := rfl, mod := M, bs := fun b o e => of_hidT e, bsz := Nat.le_of_eq (hidT_size _ _), funs := trivial, frf := (fun b hb => by cases hb), hok := hok, bare := .of_eq hg }
  refine codeAny_mono ((F _ M.kin M.glob).go (us := [.ref a]) rfl hr ev (bnd s _) (.cons (show RelV (V.ref a) (Value.ref a) from rfl) .nil) want) ?_
  rintro (e | fl) s' q
  · exact False.elim q
  · match fl, q with
    | .ret u, ⟨v, H', os, bare, un, hok', rel, q⟩ =>
      have q : v = .bl true := q
      subst q
      obtain rfl : u = Value.bool true := rel
      refine ⟨rfl, OldK.of_keep fun b o e => ?_, os, bare⟩
      cases z : H b with
      | none => exact un.keep b o e z (fun t => by cases t) (fun t => by cases t)
      | some u =>
        have hba : b = a := Decidable.byContradiction fun n => by
          rw [only b n] at z
          cases z
        subst hba
        obtain ⟨ob, xs, rfl⟩ := fz u z
        have z1 := (hok b _ z).1
        have z2 := (hok' b _ (un.frzs b ob _ z)).1
        rw [e] at z1
        cases z1
        exact z2
theorem callG (KX : K.In s.heap) (hns : s.heap.Ns mainGlobals mg) (hb : s.heap.Ns builtinsNs mb) (hbb : ∀ x : Str, x ≠ "__name__" → mb x = bootBuiltins x) (hlim : s.heap.NoLimit) (hg : s.gens = #[])
    (ha : s.heap.get? a = some { cls := .type "list", data := .seq vs.toArray }) (hi : IntsAre vs ns) (hl : ns.length ≤ sizeLine) (hr : Room k callerA)
    (F : ∀ base : Heap, K.In base → base.Ns mainGlobals mg → FnG P w K mg base k fa fd [x] sp) (bnd : ∀ (s : Shared) (u : Value), BindsTo s fd ⟨[u], []⟩ [(x, u)])
    (want : ∀ H : Hp, SqL K H a (ns.map V.int) → sp [.ref a] H (fun v _ => v = .bl true) E0) :
    codeAny (model P w) callerA (.call (.ref fa) ⟨[.ref a], []⟩) (fun r s' => r = .ok (.ret (.bool true)) ∧ OldK s.heap s'.heap ∧ s'.os = s.os ∧ AllBare s'.gens) s := by
  have rel := vals_ints hi
  have len := hi.length
  cases q : K.lookup a with
  | some o =>
    have e := KX a o q
    rw [ha] at e
    cases e
    refine coreG (H := fun _ => none) KX hns hb hbb hlim hg ha (fun _ _ => rfl) (fun z => absurd rfl z) (fun o z => by cases z) (fun b u z => by
      have z : (none : Option HO) = some u := z
      cases z) hr F bnd (want _ (.inr ⟨_, vs.toArray, _, q, rfl, rfl, rfl, ?_, ?_⟩))
    · rw [List.size_toArray, len]
      exact hl
    · simpa using rel
  | none =>
    let H : Hp := fun b => if b = a then some (.frz { cls := .type "list", data := .seq vs.toArray } (.lst (ns.map V.int))) else none
    have Ha : H a = some (.frz { cls := .type "list", data := .seq vs.toArray } (.lst (ns.map V.int))) := if_pos rfl
    refine coreG (H := H) KX hns hb hbb hlim hg ha (fun b n => if_neg n) (fun _ => q) (fun o z => ?_) (fun b u z => ?_) hr F bnd (want _ (.inl (.inr ⟨_, Ha⟩)))
    · rw [Ha] at z
      cases z
      exact ⟨_, _, rfl⟩
    · by_cases hba : b = a
      · subst hba
        rw [Ha] at z
        cases z
        refine ⟨ha, ?_, vs, _, rel, ha⟩
        rw [List.length_map]
        exact hl
      · rw [show H b = none from if_neg hba] at z
        cases z
end
theorem walkG {l : PySem.W.OpenLaw} {n k : Nat} {q : Program} {loose : List Str} {XP : (Str → Option Value) → Heap → Prop} {YP : World → Heap → Prop} {d : DefRec} {K : Params → PySem.W.Frag} {sp : World → Sp} {x : Str}
    (hn : l.most = some n) (hn2 : n ≤ sizeLine) (hdf : d.params.defaults = []) (hr : Room k callerA) (hY : ∀ (w : World) (h : Heap), YP w h → (K w.params).In h)
    (F : ∀ (w : World) (mg : Str → Option Value) (fa : Addr) (h : Heap), (K w.params).In h → h.Ns mainGlobals mg → mg d.name = some (.ref fa) →
      ∃ fd : FuncData, (∀ (s : Shared) (u : Value), BindsTo s fd ⟨[u], []⟩ [(x, u)]) ∧ ∀ base : Heap, (K w.params).In base → base.Ns mainGlobals mg → FnG l.prog w (K w.params) mg base k fa fd [x] (sp w))
    (want : ∀ (w : World) (H : Hp) (a : Addr) (ns : List Int), ns.length ≤ n → SqL (K w.params) H a (ns.map V.int) → sp w [.ref a] H (fun v _ => v = .bl true) E0) : PySem.W.WalkO q loose XP YP l.row.toRowW d [] (fun f vs => PySem.call f vs) := by
  apply Att.attach_call hn hdf
  intro w s₀ s₁ mg mb fa o pm cd doc a vs ns G Y ho hd hcd hmg hobj hints hlen hg
  have KX := hY w _ Y
  obtain ⟨fd, bnd, hF⟩ := F w mg fa _ KX G.T.g hmg
  exact callG KX G.T.g G.T.b G.T.builtins G.T.nolimit hg hobj hints (Nat.le_trans hlen hn2) hr hF bnd fun H hS => want w H a ns hlen hS
end Cb

/-! nested tuples as data -/
namespace Cb
open PySem PySem.Spec PyProof.Rows L2
mutual
/-- v stands for the datum, all its tuples are new ones -/
def Td (H : Hp) : PyData → V → Prop
  | .none, v => v = .non
  | .bool b, v => v = .bl b
  | .int i, v => v = .int i
  | .str x, v => v = .str x
  | .tuple ds, v => ∃ a xs, v = .ref a ∧ H a = some (.tup xs) ∧ Tds H ds xs
  | .list _, _ => False
  | .dict _, _ => False
def Tds (H : Hp) : List PyData → List V → Prop
  | [], xs => xs = []
  | d :: ds, xs => ∃ v r, xs = v :: r ∧ Td H d v ∧ Tds H ds r
end
/-- tuples stay -/
def TupK (H H' : Hp) : Prop := ∀ a xs, H a = some (.tup xs) → H' a = some (.tup xs)
theorem TupK.refl {H : Hp} : TupK H H := fun _ _ h => h
theorem TupK.of {H H' : Hp} (s : Same H H') : TupK H H' := fun _ _ h => s _ _ h
theorem TupK.trans {H H1 H2 : Hp} (a : TupK H H1) (b : TupK H1 H2) : TupK H H2 := fun _ _ h => b _ _ (a _ _ h)
theorem TupK.put {H : Hp} {S : Addr} {o : HO} (h : ∀ xs, H S ≠ some (.tup xs)) : TupK H (upd H S o) := fun a xs e => by
  by_cases q : a = S
  · rw [q] at e
    exact absurd e (h xs)
  · rw [upd_ne q]
    exact e
theorem TupK.app {H : Hp} {S : Addr} {us : List V} {o : HO} (h : H S = some (.lst us)) : TupK H (upd H S o) := .put fun xs e => by
  rw [h] at e
  cases e
mutual
theorem Td.keep {H H' : Hp} (k : TupK H H') : ∀ (d : PyData) (v : V), Td H d v → Td H' d v
  | .none, v, h => by simpa only [Td] using h
  | .bool b, v, h => by simpa only [Td] using h
  | .int i, v, h => by simpa only [Td] using h
  | .str x, v, h => by simpa only [Td] using h
  | .tuple ds, v, h => by
    simp only [Td] at h ⊢
    obtain ⟨a, xs, e, h1, h2⟩ := h
    exact ⟨a, xs, e, k _ _ h1, Tds.keep k ds xs h2⟩
  | .list ds, v, h => by simp only [Td] at h
  | .dict ds, v, h => by simp only [Td] at h
theorem Tds.keep {H H' : Hp} (k : TupK H H') : ∀ (ds : List PyData) (xs : List V), Tds H ds xs → Tds H' ds xs
  | [], xs, h => by simpa only [Tds] using h
  | d :: ds, xs, h => by
    simp only [Tds] at h ⊢
    obtain ⟨v, r, e, h1, h2⟩ := h
    exact ⟨v, r, e, Td.keep k d v h1, Tds.keep k ds r h2⟩
end
mutual
theorem Td.dp {K : PySem.W.Frag} {H : Hp} : ∀ (d : PyData) (v : V), Td H d v → Dp K H v d
  | .none, v, h => by simp only [Td] at h; subst h; exact .non
  | .bool b, v, h => by simp only [Td] at h; subst h; exact .bl b
  | .int i, v, h => by simp only [Td] at h; subst h; exact .int i
  | .str x, v, h => by simp only [Td] at h; subst h; exact .str x
  | .tuple ds, v, h => by
    simp only [Td] at h
    obtain ⟨a, xs, e, h1, h2⟩ := h
    subst e
    exact .tup (.of h1) (Tds.dp ds xs h2)
  | .list ds, v, h => by simp only [Td] at h
  | .dict ds, v, h => by simp only [Td] at h
theorem Tds.dp {K : PySem.W.Frag} {H : Hp} : ∀ (ds : List PyData) (xs : List V), Tds H ds xs → DpAll K H xs ds
  | [], xs, h => by simp only [Tds] at h; subst h; exact .nil
  | d :: ds, xs, h => by
    simp only [Tds] at h
    obtain ⟨v, r, e, h1, h2⟩ := h
    subst e
    exact .cons (Td.dp d v h1) (Tds.dp ds r h2)
end
section
variable {H H' : Hp} {ds : List PyData} {xs : List V} {d : PyData} {v : V}
theorem Td.un (h : Td H (.tuple ds) v) : ∃ a xs, v = .ref a ∧ H a = some (.tup xs) ∧ Tds H ds xs := by simpa only [Td] using h
theorem Td.mk {a : Addr} (h : H a = some (.tup xs)) (t : Tds H ds xs) : Td H (.tuple ds) (.ref a) := by
  simp only [Td]
  exact ⟨a, xs, rfl, h, t⟩
theorem Td.int {i : Int} (h : Td H (.int i) v) : v = .int i := by simpa only [Td] using h
theorem Td.bool {b : Bool} (h : Td H (.bool b) v) : v = .bl b := by simpa only [Td] using h
theorem Td.str {x : Str} (h : Td H (.str x) v) : v = .str x := by simpa only [Td] using h
theorem td_int {i : Int} : Td H (.int i) (.int i) := by simp only [Td]
theorem td_bool {b : Bool} : Td H (.bool b) (.bl b) := by simp only [Td]
theorem td_str {x : Str} : Td H (.str x) (.str x) := by simp only [Td]
theorem Tds.nil : Tds H [] [] := by simp only [Tds]
theorem Tds.cons (h : Td H d v) (t : Tds H ds xs) : Tds H (d :: ds) (v :: xs) := by
  simp only [Tds]
  exact ⟨v, xs, rfl, h, t⟩
theorem Tds.un (h : Tds H (d :: ds) xs) : ∃ v r, xs = v :: r ∧ Td H d v ∧ Tds H ds r := by simpa only [Tds] using h
theorem Tds.nil' (h : Tds H [] xs) : xs = [] := by simpa only [Tds] using h
theorem Tds.len : ∀ {ds : List PyData} {xs : List V}, Tds H ds xs → xs.length = ds.length
  | [], xs, h => by rw [h.nil']; rfl
  | d :: ds, xs, h => by
    obtain ⟨v, r, rfl, _, t⟩ := h.un
    rw [List.length_cons, t.len]
    rfl
theorem Tds.at : ∀ {ds : List PyData} {xs : List V} {j : Nat} {d : PyData}, Tds H ds xs → ds[j]? = some d → ∃ v, xs[j]? = some v ∧ Td H d v
  | [], xs, j, d, h, e => by simp at e
  | c :: ds, xs, j, d, h, e => by
    obtain ⟨v, r, rfl, h1, t⟩ := h.un
    cases j with
    | zero =>
      have e : c = d := by simpa using e
      subst e
      exact ⟨v, rfl, h1⟩
    | succ j => exact t.at (by simpa using e)
theorem Tds.at' {j : Nat} {v : V} (h : Tds H ds xs) (e : xs[j]? = some v) : ∃ d, ds[j]? = some d ∧ Td H d v := by
  have hj : j < ds.length := by
    rw [← h.len]
    exact (List.getElem?_eq_some_iff.mp e).1
  obtain ⟨w, h1, h2⟩ := h.at (List.getElem?_eq_getElem hj)
  rw [e] at h1
  cases h1
  exact ⟨_, List.getElem?_eq_getElem hj, h2⟩
theorem Tds.app : ∀ {ds es : List PyData} {xs ys : List V}, Tds H ds xs → Tds H es ys → Tds H (ds ++ es) (xs ++ ys)
  | [], es, xs, ys, h, t => by
    rw [h.nil']
    exact t
  | d :: ds, es, xs, ys, h, t => by
    obtain ⟨v, r, rfl, h1, h2⟩ := h.un
    exact .cons h1 (h2.app t)
theorem Tds.snoc (h : Tds H ds xs) (t : Td H d v) : Tds H (ds ++ [d]) (xs ++ [v]) := h.app (.cons t .nil)
theorem Tds.drop : ∀ (n : Nat) {ds : List PyData} {xs : List V}, Tds H ds xs → Tds H (ds.drop n) (xs.drop n)
  | 0, ds, xs, h => h
  | n + 1, [], xs, h => by
    rw [h.nil']
    exact .nil
  | n + 1, d :: ds, xs, h => by
    obtain ⟨v, r, rfl, h1, h2⟩ := h.un
    exact Tds.drop n h2
theorem Tds.take : ∀ (n : Nat) {ds : List PyData} {xs : List V}, Tds H ds xs → Tds H (ds.take n) (xs.take n)
  | 0, ds, xs, h => .nil
  | n + 1, [], xs, h => by
    rw [h.nil']
    exact .nil
  | n + 1, d :: ds, xs, h => by
    obtain ⟨v, r, rfl, h1, h2⟩ := h.un
    exact .cons h1 (Tds.take n h2)
theorem Tds.eraseIdx : ∀ (n : Nat) {ds : List PyData} {xs : List V}, Tds H ds xs → Tds H (ds.eraseIdx n) (xs.eraseIdx n)
  | n, [], xs, h => by
    rw [h.nil']
    exact .nil
  | 0, d :: ds, xs, h => by
    obtain ⟨v, r, rfl, h1, h2⟩ := h.un
    exact h2
  | n + 1, d :: ds, xs, h => by
    obtain ⟨v, r, rfl, h1, h2⟩ := h.un
    exact .cons h1 (Tds.eraseIdx n h2)
theorem tds_strs : ∀ (ys : List Str), Tds H (ys.map PyData.str) (ys.map V.str)
  | [] => .nil
  | y :: ys => .cons td_str (tds_strs ys)
theorem Tds.strs : ∀ {ys : List Str} {xs : List V}, Tds H (ys.map PyData.str) xs → xs = ys.map V.str
  | [], xs, h => h.nil'
  | y :: ys, xs, h => by
    obtain ⟨v, r, rfl, h1, h2⟩ := h.un
    rw [h1.str, h2.strs]
    rfl
end
def Da (d : PyData) : Pd := fun v H => Td H d v
/-- a tracked list of data -/
def LstD (ds : List PyData) : Pd := fun v H => ∃ a xs, v = .ref a ∧ H a = some (.lst xs) ∧ Tds H ds xs
theorem mono_da {d : PyData} : Mono (Da d) := fun v H H' s h => Td.keep (.of s) d v h
theorem mono_lstD {ds : List PyData} : Mono (LstD ds) := fun v H H' s ⟨a, xs, e, h, t⟩ => ⟨a, xs, e, s _ _ h, Tds.keep (.of s) ds xs t⟩
theorem da_int {i : Int} : Da (.int i) = Is (.int i) := by
  funext v H
  simp only [Da, Td, Is]
theorem da_bool {b : Bool} : Da (.bool b) = Is (.bl b) := by
  funext v H
  simp only [Da, Td, Is]
theorem da_str {x : Str} : Da (.str x) = Is (.str x) := by
  funext v H
  simp only [Da, Td, Is]
theorem pws_da : ∀ {ds : List PyData} {xs : List V} {H : Hp}, Pws (ds.map Da) xs H → Tds H ds xs
  | [], xs, H, h => by
    rw [show xs = [] from h]
    exact .nil
  | d :: ds, xs, H, ⟨v, r, e, h1, h2⟩ => by
    subst e
    exact .cons h1 (pws_da h2)
theorem monos_da : ∀ {ds : List PyData}, Monos (ds.map Da)
  | [] => True.intro
  | _ :: _ => ⟨mono_da, monos_da⟩
section
variable {X : Cx} {e a b c : Expr} {es : List Expr} {σ : L2.St} {H H' : Hp} {pos pos' p p' q : Pos} {P : Pd} {ds : List PyData} {d : PyData} {i : Int} {j : Nat}
theorem Ev.int (h : Ev X σ H e (Is (.int i))) : Ev X σ H e (Da (.int i)) := by rw [da_int]; exact h
theorem Ev.bool {k : Bool} (h : Ev X σ H e (Is (.bl k))) : Ev X σ H e (Da (.bool k)) := by rw [da_bool]; exact h
theorem Ev.str {x : Str} (h : Ev X σ H e (Is (.str x))) : Ev X σ H e (Da (.str x)) := by rw [da_str]; exact h
theorem Ev.ofInt (h : Ev X σ H e (Da (.int i))) : Ev X σ H e (Is (.int i)) := by rw [← da_int]; exact h
theorem Ev.ofBool {k : Bool} (h : Ev X σ H e (Da (.bool k))) : Ev X σ H e (Is (.bl k)) := by rw [← da_bool]; exact h
theorem Ev.ofStr {x : Str} (h : Ev X σ H e (Da (.str x))) : Ev X σ H e (Is (.str x)) := by rw [← da_str]; exact h
theorem ed_nil : EvA X σ H [] (([] : List PyData).map Da) := ea_nil
theorem ed_cons (h : Ev X σ H e (Da d)) (t : EvA X σ H es (ds.map Da)) (hs : starEach (e :: es) X.env = (false, eval e X.env) :: starEach es X.env := by rfl) : EvA X σ H (e :: es) ((d :: ds).map Da) := ea_cons h mono_da t hs
theorem ev_tupD {k : Nat} (h : EvA X σ H es (ds.map Da)) (hl : ds.length ≤ 1000) : Ev X σ H (.Tuple es k p) (Da (.tuple ds)) := (ev_tup h monos_da (by rw [List.length_map]; exact hl)).imp fun v H' _ ⟨q, xs, e, h1, h2⟩ => by
  subst e
  exact .mk h1 (pws_da h2)
theorem ev_lstD (h : EvA X σ H es (ds.map Da)) (hl : ds.length ≤ 1000) : Ev X σ H (.List es p) (LstD ds) := ev_of (pe_lst pw_A) fun H1 s1 => wA_mono (h H1 s1) fun vs H2 ⟨s2, pv⟩ => by
  have t := pws_da pv
  refine ⟨?_, fun q hq => ⟨s2.trans (same_new hq), q, vs, rfl, upd_same, Tds.keep (.of (same_new hq)) _ _ t⟩⟩
  rw [t.len]
  exact Nat.le_of_lt (small1000 hl)
theorem ev_ixD (ho : Ev X σ H a (Da (.tuple ds))) (hi : Ev X σ H b (Is (.int (j : Int)))) (hd : ds[j]? = some d) (hs : PlainIxT b := by exact fun _ _ => rfl) : Ev X σ H (.Subscript a b p) (Da d) :=
  ev_of (pe_ix ix_tup pw_E pw_E hs) fun H1 s1 => wE_mono (ho H1 s1) fun x H2 ⟨s2, px⟩ => wE_mono (hi H2 (s1.trans s2)) fun y H3 ⟨s3, py⟩ => by
    obtain ⟨q, xs, rfl, hq, t⟩ := px.un
    obtain ⟨v, h1, h2⟩ := t.at hd
    exact ⟨q, xs, j, v, rfl, py, .of (s3 _ _ hq), atI_nat h1, s2.trans s3, Td.keep (.of s3) _ _ h2⟩
theorem ev_ixLD (ho : Ev X σ H a (LstD ds)) (hi : Ev X σ H b (Is (.int (j : Int)))) (hd : ds[j]? = some d) (hs : PlainIxT b := by exact fun _ _ => rfl) : Ev X σ H (.Subscript a b p) (Da d) :=
  ev_of (pe_ix ix_list pw_E pw_E hs) fun H1 s1 => wE_mono (ho H1 s1) fun x H2 ⟨s2, q, xs, ex, hq, t⟩ => wE_mono (hi H2 (s1.trans s2)) fun y H3 ⟨s3, py⟩ => by
    subst ex
    obtain ⟨v, h1, h2⟩ := t.at hd
    exact ⟨q, xs, j, v, rfl, py, .of (s3 _ _ hq), atI_nat h1, s2.trans s3, Td.keep (.of s3) _ _ h2⟩
theorem ev_lenT (hm : X.mg "len" = none) (ha : Ev X σ H a (Da (.tuple ds))) (hg : Gl X "len" := by rfl) (hs : starEach [a] X.env = (false, eval a X.env) :: starEach [] X.env := by rfl) (hpl : (backTo p (starEach [] X.env)).any (·.1) = false := by rfl) : Ev X σ H (.Call (.Name "len" p') [a] [] p) (Is (.int (ds.length : Int))) :=
  ev_cb call_len hm PySem.boot_len (ea_1 ha mono_da hs) (fun vs H2 s h => by
    obtain ⟨v, rfl, e⟩ := h.one
    obtain ⟨q, xs, rfl, hq, t⟩ := e.un
    refine ⟨_, xs.length, rfl, ?_, .refl _, by rw [t.len]; rfl⟩
    first
    | exact .inr (.inl ⟨_, SqT.of hq, rfl⟩)
    | exact .inr ⟨_, SqT.of hq, rfl⟩) (fun vs H2 Q Q' k ⟨x, n, e, h, q⟩ => ⟨x, n, e, h, k _ _ q⟩) hg (by decide) (by decide) hs hpl
theorem ev_lenLD (hm : X.mg "len" = none) (ha : Ev X σ H a (LstD ds)) (hg : Gl X "len" := by rfl) (hs : starEach [a] X.env = (false, eval a X.env) :: starEach [] X.env := by rfl) (hpl : (backTo p (starEach [] X.env)).any (·.1) = false := by rfl) : Ev X σ H (.Call (.Name "len" p') [a] [] p) (Is (.int (ds.length : Int))) :=
  ev_cb call_len hm PySem.boot_len (ea_1 ha mono_lstD hs) (fun vs H2 s h => by
    obtain ⟨v, rfl, q, xs, rfl, hq, t⟩ := h.one
    exact ⟨_, xs.length, rfl, .inl ⟨_, SqL.of hq, rfl⟩, .refl _, by rw [t.len]; rfl⟩) (fun vs H2 Q Q' k ⟨x, n, e, h, q⟩ => ⟨x, n, e, h, k _ _ q⟩) hg (by decide) (by decide) hs hpl
/-- tuple(list) -/
theorem ev_tupleL (hm : X.mg "tuple" = none) (ha : Ev X σ H a (LstD ds)) (hg : Gl X "tuple" := by rfl) (hs : starEach [a] X.env = (false, eval a X.env) :: starEach [] X.env := by rfl) (hpl : (backTo p (starEach [] X.env)).any (·.1) = false := by rfl) : Ev X σ H (.Call (.Name "tuple" p') [a] [] p) (Da (.tuple ds)) :=
  ev_cty call_tuple_of hm (by decide +kernel) (ea_1 ha mono_lstD hs) (fun vs H2 s h => by
    obtain ⟨v, rfl, q, xs, rfl, hq, t⟩ := h.one
    exact ⟨q, xs, rfl, .inl ⟨SqL.of hq, fun l hl => ⟨same_new hl, .mk upd_same (Tds.keep (.of (same_new hl)) _ _ t)⟩⟩⟩) (fun vs H2 Q Q' k ⟨p, ys, e, h⟩ => ⟨p, ys, e, h.elim (fun ⟨h1, h2⟩ => .inl ⟨h1, fun l hl => k _ _ (h2 l hl)⟩) fun ⟨h1, h2⟩ => .inr ⟨h1, k _ _ h2⟩⟩) hg (by decide) (by decide) hs hpl
end
end Cb

/-! comprehensions over data, repr, unpacking, slices -/
namespace Cb
open PySem PySem.Spec PyProof.Rows L2
theorem wipeD {σ : L2.St} {x : V} {i : Nat} : wipe ((wipe σ [i]).set i (some x)) [i] = wipe σ [i] := by
  show ((σ.set i none).set i (some x)).set i none = σ.set i none
  rw [List.set_set, List.set_set]
theorem take_snoc {α : Type} {l : List α} {k : Nat} {a : α} (h : l[k]? = some a) : l.take (k + 1) = l.take k ++ [a] := by
  obtain ⟨hk, e⟩ := List.getElem?_eq_some_iff.mp h
  rw [← e, List.take_succ_eq_append_getElem hk]
section
variable {X : Cx} {e a b c : Expr} {es : List Expr} {σ : L2.St} {H H' : Hp} {pos pos' p p' q : Pos} {P : Pd} {ds : List PyData} {d : PyData} {i : Nat} {j : Nat} {sts : List Stmt} {D : Ends}
theorem ev_lcT {elt iter : Expr} {x : Str} {xp : Pos} {scope : Scope} {f : PyData → PyData} (hc : X.calm = true) (nd : X.N.Nodup) (ok : BlkOk X.N X.env.scope scope [(x, i)])
    (hg : ∀ (s : Shared) (H : Hp) (C : Addr) (cl : List (Str × Addr)) (fp : List Addr), PG (X.blk s H scope (compEnvC scope cl C X.env) fp) (.Name x xp) (gName i)) (hi : Ev X σ H iter (Da (.tuple ds))) (hl : ds.length ≤ 1000)
    (he : ∀ (k : Nat) d v H', ds[k]? = some d → Same H H' → Td H' d v → ∀ (s : Shared) (H0 : Hp) (C : Addr) (cl : List (Str × Addr)) (fp : List Addr), Ev (X.blk s H0 scope (compEnvC scope cl C X.env) fp) ((wipe σ [i]).set i (some v)) H' elt (Da (f d)))
    (hs : ∀ x, foldedSetIterable iter X.env x = pure x := by intro _; rfl) : Ev X σ H (.ListComp elt [⟨.Name x xp, iter, [], 0⟩] scope pos) (LstD (ds.map f)) := fun H1 s1 =>
  w_E (pe_lc (own := [(x, i)]) (g := gName i) (tt := tYes) hc nd (pi_tup pw_E) ok hg (fun _ _ _ _ _ => pts_nil) pw_Eb hs) (wE_mono (hi H1 s1) fun v H2 ⟨s2, pv⟩ => by
    obtain ⟨q, xs, rfl, hq, t⟩ := pv.un
    refine ⟨q, rfl, ⟨xs, .of hq⟩, fun M hM => lc_tup (K := X.K) (a := q) (xs := xs) (fun k H => Same H2 H ∧ ∃ acc, H M = some (.lst acc) ∧ acc.length = k ∧ Tds H ((ds.take k).map f) acc) ?_ (fun k H _ h => .of (h.1 _ _ hq)) ?_ ?_⟩
    · exact ⟨same_new hM, [], upd_same, rfl, .nil⟩
    · rintro k y H3 hy ⟨s3, acc, hm, hk, ht⟩
      obtain ⟨d, hd, td⟩ := t.at' hy
      refine ⟨wipeD, ?_⟩
      unfold tYes
      dsimp only
      rw [if_pos rfl]
      intro s' H0 C' cl' fp'
      have hk2 : k < ds.length := (List.getElem?_eq_some_iff.mp hd).1
      refine wE_mono (he k d y H3 hd ((s1.trans s2).trans s3) (Td.keep (.of s3) _ _ td) s' H0 C' cl' fp' H3 (.refl _)) fun z H4 ⟨s4, pz⟩ => ?_
      have hm4 := s4 _ _ hm
      refine ⟨acc, hm4, by rw [hk]; exact small1000 (by omega), fun b o e => ?_, acc ++ [z], upd_same, by rw [List.length_append, hk]; rfl, ?_⟩
      · rw [upd_ne (ne_of_none e hM)]
        exact s4 _ _ (s3 _ _ e)
      · rw [take_snoc hd, List.map_append]
        have kp : TupK H4 (upd H4 M (.lst (acc ++ [z]))) := .app hm4
        exact (Tds.keep ((TupK.of s4).trans kp) _ _ ht).snoc (Td.keep kp _ _ pz)
    · rintro H3 ⟨s3, acc, hm, hk, ht⟩
      rw [t.len, List.take_length] at ht
      exact ⟨s2.trans s3, M, acc, rfl, hm, ht⟩)
theorem ev_lcL {elt iter : Expr} {x : Str} {xp : Pos} {scope : Scope} {f : PyData → PyData} (hc : X.calm = true) (nd : X.N.Nodup) (ok : BlkOk X.N X.env.scope scope [(x, i)])
    (hg : ∀ (s : Shared) (H : Hp) (C : Addr) (cl : List (Str × Addr)) (fp : List Addr), PG (X.blk s H scope (compEnvC scope cl C X.env) fp) (.Name x xp) (gName i)) (hi : Ev X σ H iter (LstD ds)) (hl : ds.length ≤ 1000)
    (he : ∀ (k : Nat) d v H', ds[k]? = some d → Same H H' → Td H' d v → ∀ (s : Shared) (H0 : Hp) (C : Addr) (cl : List (Str × Addr)) (fp : List Addr), Ev (X.blk s H0 scope (compEnvC scope cl C X.env) fp) ((wipe σ [i]).set i (some v)) H' elt (Da (f d)))
    (hs : ∀ x, foldedSetIterable iter X.env x = pure x := by intro _; rfl) : Ev X σ H (.ListComp elt [⟨.Name x xp, iter, [], 0⟩] scope pos) (LstD (ds.map f)) := fun H1 s1 =>
  w_E (pe_lc (own := [(x, i)]) (g := gName i) (tt := tYes) hc nd (pi_list pw_E) ok hg (fun _ _ _ _ _ => pts_nil) pw_Eb hs) (wE_mono (hi H1 s1) fun v H2 ⟨s2, q, xs, ev, hq, t⟩ => by
    subst ev
    refine ⟨q, rfl, ⟨xs, .of hq⟩, fun M hM => lc_list (K := X.K) (a := q) (xs := xs) (fun k H => Same H2 H ∧ ∃ acc, H M = some (.lst acc) ∧ acc.length = k ∧ Tds H ((ds.take k).map f) acc) ?_ (fun k H _ h => .of (h.1 _ _ hq)) ?_ ?_⟩
    · exact ⟨same_new hM, [], upd_same, rfl, .nil⟩
    · rintro k y H3 hy ⟨s3, acc, hm, hk, ht⟩
      obtain ⟨d, hd, td⟩ := t.at' hy
      refine ⟨wipeD, ?_⟩
      unfold tYes
      dsimp only
      rw [if_pos rfl]
      intro s' H0 C' cl' fp'
      have hk2 : k < ds.length := (List.getElem?_eq_some_iff.mp hd).1
      refine wE_mono (he k d y H3 hd ((s1.trans s2).trans s3) (Td.keep (.of s3) _ _ td) s' H0 C' cl' fp' H3 (.refl _)) fun z H4 ⟨s4, pz⟩ => ?_
      have hm4 := s4 _ _ hm
      refine ⟨acc, hm4, by rw [hk]; exact small1000 (by omega), fun b o e => ?_, acc ++ [z], upd_same, by rw [List.length_append, hk]; rfl, ?_⟩
      · rw [upd_ne (ne_of_none e hM)]
        exact s4 _ _ (s3 _ _ e)
      · rw [take_snoc hd, List.map_append]
        have kp : TupK H4 (upd H4 M (.lst (acc ++ [z]))) := .app hm4
        exact (Tds.keep ((TupK.of s4).trans kp) _ _ ht).snoc (Td.keep kp _ _ pz)
    · rintro H3 ⟨s3, acc, hm, hk, ht⟩
      rw [t.len, List.take_length] at ht
      exact ⟨s2.trans s3, M, acc, rfl, hm, ht⟩)
/-- repr of nested tuples -/
theorem ev_reprT (gd : X.A.guards = some []) (hu : X.A.units + 64 < cLine) (hm : X.mg "repr" = none) (ha : Ev X σ H e (Da (.tuple ds))) (hs : (PyData.tuple ds).showable = true) (hn : (PyData.tuple ds).hasDict = false) (hp : (PyData.tuple ds).depth ≤ 60) (hz : (PyData.tuple ds).shown.length ≤ sizeLine)
    (hg : Gl X "repr" := by rfl) (he : starEach [e] X.env = (false, eval e X.env) :: starEach [] X.env := by rfl) (hpl : (backTo pos (starEach [] X.env)).any (·.1) = false := by rfl) : Ev X σ H (.Call (.Name "repr" p) [e] [] pos) (Is (.str (PyData.tuple ds).shown)) :=
  ev_repr gd hu hm ha mono_da (fun v H' _ h => ⟨Td.dp _ _ h, let ⟨a, _, ea, _⟩ := Td.un h; ⟨a, ea⟩⟩) hs hn hp hz hg he hpl
/-! slices of tuples -/
theorem cut_slice {α : Type} {l : List α} {i k : Nat} : (l.drop (min i l.length)).take (min k l.length - min i l.length) = (l.drop i).take (k - i) := by
  by_cases h1 : i ≤ l.length
  · rw [Nat.min_eq_left h1]
    by_cases h2 : k ≤ l.length
    · rw [Nat.min_eq_left h2]
    · rw [Nat.min_eq_right (by omega), List.take_of_length_le (by rw [List.length_drop]; omega), List.take_of_length_le (by rw [List.length_drop]; omega)]
  · rw [List.drop_eq_nil_of_le (i := i) (by omega), List.drop_eq_nil_of_le (by omega)]
    simp
end
end Cb

/-! enumerate over a tuple -/
namespace Cb
open PySem PySem.Spec PyProof.Rows L2
open PySem.Sem (wp)
set_option maxHeartbeats 4000000 in
theorem meets_enumT (a : Addr) (items : Array Value) :
    Meets (Builtin.«enumerate.__new__» ⟨[.type "enumerate", .ref a], []⟩) (fun _ R st => st.heap.IsTuple a items ∧
      R (.ok (.ret (.ref (st.heap.push { cls := .type "tuple_iterator", data := .fields #[.ref a, .int 0 0] }).objs.size)))
        { st with heap := (st.heap.push { cls := .type "tuple_iterator", data := .fields #[.ref a, .int 0 0] }).push { cls := .type "enumerate", data := .fields #[.none, .bool false, .ref st.heap.objs.size, rawInt 0, .none, .none] } }) :=
  .of_wp fun prog w A R st hh => by
    obtain ⟨hp, gs, dr, tk, os⟩ := st
    obtain ⟨isT, hR⟩ := hh
    have hsub := sub_enumerate
    have go : ∀ {A' : Around} {E : Value → Shared → Prop} {Q : Value → Shared → Prop}, Q (.ref hp.objs.size) ⟨hp.push { cls := .type "tuple_iterator", data := .fields #[.ref a, .int 0 0] }, gs, dr, tk, os⟩ → wpAny (model prog w) A' (pyIter (.ref a)) Q E ⟨hp, gs, dr, tk, os⟩ :=
      fun q => wpAny_pyIter_tuple isT q
    wp_walk using go
    refine wpAny_stack_any fun stk => wpAny_pure ?_
    split
    · rename_i c _ _ _ _ _
      cases (c == Value.type "enumerate") <;>
      · wp_walk using go
        exact ⟨_, rfl, hR⟩
    · wp_walk using go
      exact ⟨_, rfl, hR⟩
theorem call_enumT {prog : Program} {w : World} {A : Around} {E : Value → Shared → Prop} {s : Shared} {a : Addr} {items : Array Value} {Q : Value → Shared → Prop} (isT : s.heap.IsTuple a items)
    (k : ∀ h', IsEnum h' (s.heap.objs.size + 1) s.heap.objs.size 0 .none → h'.IsTupleIter s.heap.objs.size a 0 → (∀ b o, s.heap.get? b = some o → h'.get? b = some o) → Q (.ref (s.heap.objs.size + 1)) { s with heap := h' }) :
    wpAny (model prog w) A (call (.type "enumerate") [.ref a]) Q E s := by
  refine callType_new F.called_enumerate (by decide) (F.typeCall_enumerate_1 _) (F.newCall_enumerate_1 _) (fun obj => F.args_object_init_2 obj _) F.entry_enumerate_new (meets_enumT a items) ⟨isT, ?_⟩
  have size1 : (s.heap.push { cls := .type "tuple_iterator", data := .fields #[.ref a, .int 0 0] }).objs.size = s.heap.objs.size + 1 := Heap.size_push ..
  show _ ∧ _
  rw [size1]
  have isE : IsEnum ((s.heap.push { cls := .type "tuple_iterator", data := .fields #[.ref a, .int 0 0] }).push { cls := .type "enumerate", data := .fields #[.none, .bool false, .ref s.heap.objs.size, rawInt 0, .none, .none] }) (s.heap.objs.size + 1) s.heap.objs.size 0 .none := by
    have z := Heap.get?_push_size (s.heap.push { cls := .type "tuple_iterator", data := .fields #[.ref a, .int 0 0] }) (o := { cls := .type "enumerate", data := .fields #[.none, .bool false, .ref s.heap.objs.size, rawInt 0, .none, .none] }) rfl
    rw [size1] at z
    exact z
  exact ⟨⟨_, isE, rfl⟩, k _ isE ⟨_, Heap.get?_push_of_some _ (Heap.get?_push_size _ rfl), rfl, rfl⟩ fun b o x => Heap.get?_push_of_some _ (Heap.get?_push_of_some _ x)⟩
/-- the tuple at a, each item in a new pair -/
def IteT (K : PySem.W.Frag) (a : Addr) : It where
  go := fun i H => ∃ (xs : List V) (x : V), SqT K H a xs ∧ xs[i]? = some x
  yld := fun i H v H' => ∃ T x, v = .ref T ∧ H T = none ∧ H' = upd H T (.tup [.int (i : Nat), x]) ∧ ∀ xs, SqT K H a xs → xs[i]? = some x
  stop := fun i H => ∃ xs : List V, SqT K H a xs ∧ xs.length ≤ i
theorem turn_enumT {P : Program} {w : World} {K : PySem.W.Frag} {elts : List Expr} {kk : Nat} {tpos : Pos} (a en it : Addr) :
    Turn P w K (.Tuple elts kk tpos) (IteT K a) [en, it] en (fun i h => (∃ old, IsEnum h en it ((i : Nat) : Int) old) ∧ h.IsTupleIter it a i ∧ en ≠ it) where
  mem := List.mem_cons_self ..
  obj := fun i h ⟨⟨old, isE⟩, ⟨o, ho, _, hd⟩, _⟩ b hb => by
    rcases List.mem_cons.mp hb with q | q
    · rw [q]
      exact ⟨_, isE, fun v z => by cases z⟩
    · rw [List.mem_singleton.mp q]
      exact ⟨o, ho, fun v z => by rw [hd] at z; cases z⟩
  keep := fun i h h' ⟨⟨old, isE⟩, isI, ne⟩ kp => ⟨⟨old, kp en (by simp) _ isE⟩, isI.at fun o z => kp it (by simp) o z, ne⟩
  item := by
    rintro X rfl rfl rfl calm i pins s σ H E I free ⟨⟨old, isE⟩, isI, ne⟩ ⟨xs, x, hq, hx⟩
    obtain ⟨its, rv, isT, hz⟩ := I.tuple hq
    obtain ⟨u, hu, ru⟩ := rv.get hx
    have hlt : i < its.toArray.size := by
      have := (List.getElem?_eq_some_iff.mp hu).1
      simpa using this
    have nea : a ≠ en := fun q => by
      obtain ⟨o, ho, hc, _⟩ := isT
      rw [q, isE] at ho
      cases ho
      injection hc with z
      exact absurd z (by decide)
    have nit : a ≠ it := fun q => by
      obtain ⟨o, ho, hc, _⟩ := isT
      obtain ⟨o2, ho2, hc2, _⟩ := isI
      rw [q, ho2] at ho
      cases ho
      rw [hc2] at hc
      injection hc with z
      exact absurd z (by decide)
    have le1 : en < s.heap.objs.size := Heap.lt_size isE
    have le2 : it < s.heap.objs.size := by
      obtain ⟨_, z, _⟩ := isI
      exact Heap.lt_size z
    refine wpAny_pyNext_enum_itemD (Draws.tuple (A := X.A.in1) (show X.A.in1.handled = none from I.ok.hd calm) it a nit its.toArray) isE ⟨isI, isT⟩ hlt ne (fun q => by
      rcases List.mem_cons.mp q with q | q
      · exact ne q
      · exact nea (List.mem_singleton.mp q).symm) fun y h1 tk hy out st hT _ kp => ?_
    have hy' : y = u := by
      rw [List.getElem?_toArray, hu] at hy
      cases hy
      rfl
    subst hy'
    refine ⟨_, rfl, wpAny_letOwnedTupleGo_enum (s := { s with heap := h1, toks := tk + 1 }) out fun h2 isE2 same => ?_⟩
    have hT2 : h2.get? s.heap.objs.size = some { cls := .type "tuple", data := .seq #[.int i tk, y] } := (same.2 _ (Nat.ne_of_gt le1)).trans hT
    have fresh : ObjOk X.prog X.w (upd H s.heap.objs.size (.tup [.int (i : Nat), x])) h2 s.heap.objs.size (.tup [.int (i : Nat), x]) := ⟨by show 2 ≤ sizeLine; decide, [.int i tk, y], .cons ⟨_, rfl⟩ (.cons ru .nil), ⟨_, hT2, rfl, _, rfl⟩⟩
    have J : Inv X pins σ (upd H s.heap.objs.size (.tup [.int (i : Nat), x])) { s with heap := h2, toks := tk + 1 } :=
      I.turnedNew (ch := [en, it]) (fun b o hb z => (same.2 b (fun q => hb (by simp [q]))).trans (kp b o (fun q => hb (by simp [q])) (fun q => hb (by simp [q])) z)) free (Nat.le_refl _) fresh
    refine ⟨.ref s.heap.objs.size, _, J, rfl, ⟨_, x, rfl, I.hok.fresh (Nat.le_refl _), rfl, fun ys hy2 => by rw [I.tuple_inj hy2 hq]; exact hx⟩, ⟨⟨y, ?_⟩, st.1.at fun o z => (same.2 it (Ne.symm ne)).trans z, ne⟩, fun b hb => ?_⟩
    · rw [show ((i + 1 : Nat) : Int) = (i : Int) + 1 by omega]
      exact isE2
    · have lt : b < s.heap.objs.size := by
        rcases List.mem_cons.mp hb with q | q
        · rw [q]; exact le1
        · rw [List.mem_singleton.mp q]; exact le2
      rw [upd_ne (Nat.ne_of_lt lt)]
      exact (free b hb).1
  done := by
    rintro X rfl rfl rfl calm i pins s σ H E I free ⟨⟨old, isE⟩, isI, ne⟩ ⟨xs, hq, hx⟩
    obtain ⟨its, rv, isT, hz⟩ := I.tuple hq
    have hl := rv.length
    have nit : a ≠ it := fun q => by
      obtain ⟨o, ho, hc, _⟩ := isT
      obtain ⟨o2, ho2, hc2, _⟩ := isI
      rw [q, ho2] at ho
      cases ho
      rw [hc2] at hc
      injection hc with z
      exact absurd z (by decide)
    have D : Draws X.prog X.w X.A.in1 it [it, a] i (fun _ _ => False) (fun j h => j = i ∧ h.IsTupleIter it a i ∧ h.IsTuple a its.toArray) :=
      { live := fun j h z => let ⟨o, ho, _⟩ := z.2.1; ⟨o, ho⟩
        frame := fun j h h' z kp => ⟨z.1, z.2.1.at fun o e => kp it (by simp) o e, z.2.2.at fun o e => kp a (by simp) o e⟩
        item := fun j s Q E lt z => absurd z.1 (Nat.ne_of_lt lt)
        done := fun s Q E z hE => PySem.wpAny_nextOf_tuple_end (show X.A.in1.handled = none from I.ok.hd calm) z.2.1 z.2.2 (by simp; omega) hE }
    obtain ⟨f0, f1, f2, f3, f4, f5⟩ := free it (by simp)
    exact wpAny_pyNext_enum_endD D isE ⟨rfl, isI, isT⟩ fun h' eb => ⟨rfl, I.turned (t' := s.toks) (fun b o hb q => eb b o hb q) f0 f1 f3 f4 f5⟩
  self := fun A i s Q E ⟨⟨_, isE⟩, _⟩ h => wpAny_pyIter_enum isE h
def iEnumT (K : PySem.W.Frag) (ta : TA) : TI := fun σ H R => ta σ H fun vs H1 => ∃ a xs, vs = [.ref a] ∧ SqT K H1 a xs ∧ R (IteT K a) H1
theorem pi_enumT {X : Cx} {e : Expr} {ta : TA} {p pos tpos : Pos} {elts : List Expr} {kk : Nat} (hg : Gl X "enumerate") (hm : X.mg "enumerate" = none) (ha : PA X [e] ta) (hs : starEach [e] X.env = [(false, eval e X.env)] := by rfl) :
    PI X (.Tuple elts kk tpos) (.Call (.Name "enumerate" p) [e] [] pos) (iEnumT X.K ta) := by
  constructor
  intro pins s σ H R I h
  have args := ha.run pos pins s σ H _ I h
  refine Call_ (ld_blt I hg hm boot_enumerate
    (PyProof.Rows.callWith_type1 (thn args ?_) hs rfl))
  rintro us s1 ⟨vs, H1, I1, r1, a, xs, rfl, hq, q⟩
  cases r1 with
  | cons r rest =>
    cases rest
    cases r
    obtain ⟨its, rv, isT, hz⟩ := I1.tuple hq
    refine call_enumT (items := its.toArray) isT fun h' isE isI kp => wpAny_pyIter_enum isE ?_
    refine ⟨s1.heap.objs.size + 1, [s1.heap.objs.size + 1, s1.heap.objs.size], _, _, H1, rfl, I1.kept (t' := s1.toks) kp, turn_enumT a (s1.heap.objs.size + 1) s1.heap.objs.size, ⟨⟨.none, isE⟩, isI, Nat.succ_ne_self _⟩, fun b hb => ?_, q⟩
    have le : s1.heap.objs.size ≤ b := by
      rcases List.mem_cons.mp hb with z | z
      · rw [z]
        exact Nat.le_succ _
      · rw [List.mem_singleton.mp z]
        exact Nat.le_refl _
    exact I1.fpOk le (I1.hok.fresh le)
theorem for_enumT {K : PySem.W.Frag} {a : Addr} {xs : List V} {g : TG} {tb : TS} {D : Ends} {σ : L2.St} {H : Hp} (Pv : Nat → L2.St → Hp → Prop) (h0 : Pv 0 σ H) (hl : ∀ i σ H, i ≤ xs.length → Pv i σ H → SqT K H a xs)
    (hs : ∀ i x σ H T, xs[i]? = some x → Pv i σ H → H T = none → g (.ref T) σ (upd H T (.tup [.int (i : Nat), x])) fun σ2 H2 => tb { D with nx := Pv (i + 1), ct := Pv (i + 1), bk := D.nx } σ2 H2) (hd : ∀ σ H, Pv xs.length σ H → D.nx σ H) :
    ∃ W : Nat → Nat → L2.St → Hp → Prop, (∃ m, W 0 m σ H) ∧ ∀ i m σ H, W i m σ H →
      ((IteT K a).stop i H ∧ D.nx σ H) ∨ ((IteT K a).go i H ∧ ∃ N : L2.St → Hp → Prop, (∀ σ' H', N σ' H' → ∃ m', m' < m ∧ W (i + 1) m' σ' H') ∧ ∀ x H', (IteT K a).yld i H x H' → g x σ H' fun σ2 H2 => tb { D with nx := N, ct := N, bk := D.nx } σ2 H2) := by
  refine ⟨fun i m σ H => m = xs.length - i ∧ i ≤ xs.length ∧ Pv i σ H, ⟨xs.length, by simp, Nat.zero_le _, h0⟩, ?_⟩
  rintro i m σ H ⟨rfl, hi, p⟩
  have q := hl i σ H hi p
  rcases Nat.lt_or_ge i xs.length with lt | ge
  · refine .inr ⟨⟨xs, xs[i], q, List.getElem?_eq_getElem lt⟩, Pv (i + 1), fun σ' H' p' => ⟨xs.length - (i + 1), by omega, rfl, lt, p'⟩, ?_⟩
    rintro v H' ⟨T, x, rfl, hT, rfl, y⟩
    exact hs i x σ H T (y xs q) p hT
  · obtain rfl : i = xs.length := by omega
    exact .inl ⟨⟨xs, q, Nat.le_refl _⟩, hd σ H p⟩
end Cb

/-! data sorted, data compared -/
namespace Cb
open PySem PySem.Spec PyProof.Rows L2
section
variable {X : Cx} {pins : List (Addr × Obj)} {σ : L2.St} {H : Hp} {s : Shared}
mutual
theorem reads_td (I : Inv X pins σ H s) : ∀ (d : PyData) (v : V) (u : Value), Td H d v → RelV v u → Reads s.heap u d []
  | .none, v, u, h, r => by
    simp only [Td] at h
    subst h
    obtain rfl : u = Value.none := r
    exact .none
  | .bool b, v, u, h, r => by
    simp only [Td] at h
    subst h
    obtain rfl : u = Value.bool b := r
    exact .bool b
  | .int i, v, u, h, r => by
    simp only [Td] at h
    subst h
    obtain ⟨t, rfl⟩ := r
    exact .int i t
  | .str x, v, u, h, r => by
    simp only [Td] at h
    subst h
    obtain ⟨t, rfl⟩ := r
    exact .str x t
  | .tuple ds, v, u, h, r => by
    obtain ⟨a, xs, rfl, hq, t⟩ := h.un
    obtain rfl : u = Value.ref a := r
    obtain ⟨its, rv, ⟨o, ho, hc, n, hd⟩, _⟩ := I.tuple (.of hq)
    have z := reads_tds I ds xs its t rv
    exact .tuple ho hc hd (by simpa using z)
  | .list ds, v, u, h, r => by simp only [Td] at h
  | .dict ds, v, u, h, r => by simp only [Td] at h
theorem reads_tds (I : Inv X pins σ H s) : ∀ (ds : List PyData) (vs : List V) (us : List Value), Tds H ds vs → Vals vs us → ReadsAll s.heap us ds []
  | [], vs, us, h, r => by
    obtain rfl := h.nil'
    cases r
    exact .nil
  | d :: ds, vs, us, h, r => by
    obtain ⟨v, w, rfl, h1, h2⟩ := h.un
    cases r with
    | cons r1 r2 =>
      have a := reads_td I d v _ h1 r1
      have b := reads_tds I ds w _ h2 r2
      exact ReadsAll.cons (as := []) (bs := []) a b
end
end
/-! ### sorted(x), x a list or a tuple -/
section
variable {prog : Program} {w : World} {A : Around} {E : Value → Shared → Prop} {s : Shared} {β : Type} {R : Value → β → Prop} {vs : List Value} {bs : List β} {enc : β → PyData}
/-- the items of a list or a tuple, collected; the heap only grows -/
theorem collect_seq2 {Q : List Value → Shared → Prop} {a : Addr} {T : String} {o : Obj} {items : Array Value} {n : Nat} (hT : T = "list" ∨ T = "tuple") (ho : s.heap.get? a = some o) (hc : o.cls = .type T) (hd : o.data = .seq items n) (hz : items.size ≤ sizeLine)
    (hQ : ∀ h', (∀ b u, s.heap.get? b = some u → h'.get? b = some u) → s.heap.objs.size ≤ h'.objs.size → Q items.toList { s with heap := h' }) : wpAny (model prog w) A (collect (.ref a)) Q E s := by
  generalize hL : s.heap.objs.size = L at hQ
  generalize h1e : s.heap.push { cls := .type "list", data := .seq ([] : List Value).toArray } = h1
  have at1 : h1.get? L = some { cls := .type "list", data := .seq #[] 0 } := by
    rw [← h1e, ← hL]
    exact Heap.get?_push_size _ rfl
  have old1 : ∀ b u, s.heap.get? b = some u → h1.get? b = some u := fun b u z => by
    rw [← h1e]
    exact Heap.get?_push_of_some _ z
  have sz1 : h1.objs.size = L + 1 := by
    rw [← h1e, ← hL]
    exact Heap.size_push ..
  generalize h2e : h1.update L (Obj.mapSeq (· ++ items)) = h2
  have at2 : h2.get? L = some (Obj.mapSeq (· ++ items) { cls := .type "list", data := .seq #[] 0 }) := by
    rw [← h2e]
    exact Heap.get?_update_self (Obj.mapSeq (· ++ items)) at1 rfl
  have old2 : ∀ b u, s.heap.get? b = some u → h2.get? b = some u := fun b u z => by
    have lt := Heap.lt_size z
    rw [← h2e]
    exact (Heap.get?_update_other _ _ (by rw [hL] at lt; exact Nat.ne_of_gt lt)).trans (old1 b u z)
  have sz2 : L ≤ h2.objs.size := by
    rw [← h2e, Heap.size_update, sz1]
    exact Nat.le_succ _
  have last : wpAny (model prog w) A (match Value.ref L with
      | Value.ref b => do
        match (← load b).data with
          | Data.seq xs _ => pure xs.toList
          | _ => unsupported "internal:collect"
      | _ => unsupported "internal:collect") Q E { s with heap := h2 } := by
    refine wpAny_bind (m := load L) (wpAny_load at2 (wpAny_pure ?_))
    have z : ((#[] : Array Value) ++ items).toList = items.toList := by simp
    exact z ▸ hQ h2 old2 sz2
  unfold collect
  refine wpAny_bind (wpAny_runValue (codeAny_builtin F.entry_proto_collect ?_))
  rw [Around.under_plainId F.plain_proto_collect _]
  refine wpAny_bind (m := newList []) (wpAny_newObj_type ?_)
  refine wpAny_pure ⟨plainId_quiet F.plain_list_iadd _, codeAny_builtin F.entry_list_iadd ?_⟩
  rw [Around.under_plainId F.plain_list_iadd _]
  rw [show s.heap.objs.size = L from hL, show s.heap.push { cls := .type "list", data := .seq ([] : List Value).toArray } = h1 from h1e]
  have ext := wpAny_extend_seq (prog := prog) (w := w) (A := A) (R := fun r s' => r = .ok (.ret (.ref L)) ∧ s' = { s with heap := h2 }) (s := { s with heap := h1 }) L a (.ref L) 0 hT at1 (old1 _ _ ho) hc hd ⟨rfl, by rw [h2e]⟩ (hsz := hz)
  refine wpAny_mono ext (fun fin s' z => ?_) (fun _ _ z => absurd z.1 (by simp))
  cases fin with
  | done f =>
    obtain ⟨e1, rfl⟩ := z
    cases e1
    exact last
  | again c =>
    exact ⟨z.1, codeAny_mono z.2 fun r s2 q => by
      obtain ⟨rfl, rfl⟩ := q
      exact last⟩
theorem sorted_seq {l : Addr} {T : String} {o : Obj} {n : Nat} {Q : Value → Shared → Prop} (hT : T = "list" ∨ T = "tuple") (ho : s.heap.get? l = some o) (hc : o.cls = .type T) (hd : o.data = .seq vs.toArray n) (e : PySem.W.EachIs R vs bs) (er : PySem.W.EachIs (fun v b => Reads s.heap v (enc b) []) vs bs)
    (hal : PySem.W.AllAlike (bs.map enc)) (hk : PySem.W.Sortable (bs.map enc)) (hL : vs.length ≤ sizeLine) (hu : ∀ b, b ∈ bs → A.units + 3 + (enc b).depth < cLine)
    (h : ∀ (h' : Heap) (d : Addr) (out : List Value) (k : Nat), (∀ b u, s.heap.get? b = some u → h'.get? b = some u) → s.heap.objs.size ≤ d → h'.get? d = some (seqObj "list" out.toArray k) → PySem.W.EachIs R out (bs.mergeSort (PySem.W.dataLe false enc)) → Q (.ref d) { s with heap := h' }) :
    wpAny (model prog w) A (call (.builtin "sorted") [.ref l]) Q E s := by
  have lb : bs.length ≤ sizeLine := by
    rw [← e.length]
    exact hL
  refine Calls.call_function_entry kind_sorted plain_sorted entry_sorted (args_sorted1 _) ?_
  unfold Builtin.«sorted»
  refine wpAny_bind (m := checkCount "sorted" 1 1 _) (wpAny_pure ?_)
  refine wpAny_bind (collect_seq2 hT ho hc hd (by rw [List.size_toArray]; exact hL) fun h1 k1 z1 => ?_)
  rw [show vs.toArray.toList = vs by simp]
  refine wpAny_bind (wpAny_newList ?_ hL)
  have at2 : (h1.push (seqObj "list" vs.toArray 0)).get? h1.objs.size = some (seqObj "list" vs.toArray 0) := Heap.get?_push_size _ rfl
  have k2 : ∀ b u, s.heap.get? b = some u → (h1.push (seqObj "list" vs.toArray 0)).get? b = some u := fun b u z => Heap.get?_push_of_some _ (k1 b u z)
  show wpAny _ _ _ _ _ { s with heap := h1.push (seqObj "list" vs.toArray 0) }
  have er2 : PySem.W.EachIs (fun v b => ∃ as, Reads (h1.push (seqObj "list" vs.toArray 0)) v (enc b) as ∧ h1.objs.size ∉ as) vs bs := er.mono fun v b r => ⟨[], PyProof.Rows.Reads.keeps k2 r, by simp⟩
  refine wpAny_bind (wpAny_holding (PySem.W.list_sort_data (s := { s with heap := h1.push (seqObj "list" vs.toArray 0) }) at2 e er2 hal hk lb ?_ fun out lo eo => ?_))
  · intro b hb
    have := hu b hb
    first
    | (show A.units + 1 + 1 + (enc b).depth < cLine; omega)
    | (show A.in1.units + 1 + (enc b).depth < cLine
       have q : A.in1.units = A.units + 1 := rfl
       omega)
  · refine wpAny_pure ?_
    obtain ⟨k, hk2⟩ := sortedHeap_at (h := h1.push (seqObj "list" vs.toArray 0)) (a := h1.objs.size) (out := out.toArray) at2
    refine ⟨_, rfl, h _ _ out k (fun b u z => ?_) z1 hk2 eo⟩
    have lt : b < h1.objs.size := Heap.lt_size (k1 b u z)
    exact (sortedHeap_old (Nat.ne_of_lt lt) (by rw [size_push']; exact Nat.lt_succ_of_lt lt)).trans (k2 b u z)
end
section
variable {X : Cx} {pins : List (Addr × Obj)} {σ : L2.St} {H : Hp} {s : Shared}
/-- what a value of the model is, beside the value it stands for -/
structure VD (H : Hp) (X : Cx) (u : Value) (b : V × PyData) : Prop where
  rel : RelV b.1 u
  td : Td H b.2 b.1
theorem each_vd : ∀ {vs : List V} {us : List Value} {ds : List PyData}, Vals vs us → Tds H ds vs → PySem.W.EachIs (VD H X) us (vs.zip ds)
  | [], us, ds, r, t => by
    cases r
    exact .nil
  | v :: vs, us, [], r, t => by
    have := t.nil'
    cases this
  | v :: vs, us, d :: ds, r, t => by
    obtain ⟨v', w, e, h1, h2⟩ := t.un
    cases e
    cases r with
    | cons r1 r2 => exact .cons ⟨r1, h1⟩ (each_vd r2 h2)
theorem vals_vd : ∀ {us : List Value} {bs : List (V × PyData)}, PySem.W.EachIs (VD H X) us bs → Vals (bs.map (·.1)) us ∧ Tds H (bs.map (·.2)) (bs.map (·.1))
  | _, _, .nil => ⟨.nil, .nil⟩
  | _, _, .cons h t => ⟨.cons h.rel (vals_vd t).1, .cons h.td (vals_vd t).2⟩
/-- sorted(x): x a tracked list or a tuple of data that are alike -/
def sortD (ds : List PyData) : List PyData := ds.mergeSort (PySem.W.dataLe false id)
def rSortD (K : PySem.W.Frag) : List V → Hp → VK → Prop := fun vs H Q => ∃ (a : Addr) (xs : List V) (ds : List PyData), vs = [.ref a] ∧ (H a = some (.lst xs) ∨ H a = some (.tup xs)) ∧ Tds H ds xs ∧ PySem.W.AllAlike ds ∧ PySem.W.Sortable ds ∧ (∀ d ∈ ds, d.depth ≤ 50) ∧
  ∀ (ys : List V) (p : Addr), ys.length = xs.length → Tds H (sortD ds) ys → H p = none → Q (.ref p) (upd H p (.lst ys))
theorem cr_sortD (hu : X.A.units + 64 < cLine) : CallR X (.builtin "sorted") (rSortD X.K) := by
  rintro pins s σ H vs us Q I rv ⟨a, xs, ds, rfl, hq, t, hal, hk, hdp, q⟩
  rw [Vals.ref1 rv]
  obtain ⟨its, T, o, n, hT, ho, hc, hd, rv2, hz⟩ : ∃ (its : List Value) (T : String) (o : Obj) (n : Nat), (T = "list" ∨ T = "tuple") ∧ s.heap.get? a = some o ∧ o.cls = .type T ∧ o.data = .seq its.toArray n ∧ Vals xs its ∧ xs.length ≤ sizeLine := by
    rcases hq with hq | hq
    · obtain ⟨its, r, pl, z⟩ := I.list (SqL.of hq)
      obtain ⟨o, ho, hc, n, hd⟩ := pl.isList
      exact ⟨its, "list", o, n, .inl rfl, ho, hc, hd, r, z⟩
    · obtain ⟨its, r, ⟨o, ho, hc, n, hd⟩, z⟩ := I.tuple (.of hq)
      exact ⟨its, "tuple", o, n, .inr rfl, ho, hc, hd, r, z⟩
  have e := each_vd (X := X) rv2 t
  have m2 : (xs.zip ds).map (fun b => b.2) = ds := List.map_snd_zip (by rw [t.len]; exact Nat.le_refl _)
  refine sorted_seq (enc := fun b : V × PyData => b.2) hT ho hc hd e (e.mono fun u b h => reads_td I _ _ _ h.td h.rel) (by rw [m2]; exact hal) (by rw [m2]; exact hk) (by rw [← rv2.length]; exact hz) (fun b hb => ?_) fun h' p out k kp le hp eo => ?_
  · have z : b.2 ∈ ds := by
      rw [← m2]
      exact List.mem_map_of_mem hb
    have := hdp _ z
    omega
  · obtain ⟨r1, t1⟩ := vals_vd eo
    have sd : ((xs.zip ds).mergeSort (PySem.W.dataLe false fun b => b.2)).map (·.2) = sortD ds := by
      have z := List.map_mergeSort (r := PySem.W.dataLe false fun b : V × PyData => b.2) (s := PySem.W.dataLe false id) (f := fun b : V × PyData => b.2) (l := xs.zip ds) (fun a _ b _ => rfl)
      rw [m2] at z
      exact z
    have ln : (((xs.zip ds).mergeSort (PySem.W.dataLe false fun b => b.2)).map (·.1)).length = xs.length := by
      rw [List.length_map, (List.mergeSort_perm _ _).length_eq, List.length_zip, t.len, Nat.min_self]
    rw [sd] at t1
    have hn : H p = none := I.hok.fresh le
    exact ⟨.ref p, upd H p (.lst _), I.laid (t' := s.toks) kp le ⟨by rw [ln]; exact hz, out, k, r1, hp⟩, rfl, q _ p ln t1 hn⟩
end
end Cb

/-! defs with *more -/
namespace Cb
open PySem PySem.Spec PyProof.Rows L2
/-- how f(a, b, *more) binds: n values by name, the rest as a new tuple -/
def BindsV (fd : FuncData) (n : Nat) (ps : List Str) : Prop := ∀ us : List Value, n ≤ us.length → bindArgs fd ⟨us, []⟩ = (do
  let t ← newTuple (us.drop n)
  pure (ps.zip (us.take n ++ [t])))
/-- f(..), its *more at T when the body begins -/
structure FnV (P : Program) (w : World) (K : PySem.W.Frag) (mg : Str → Option Value) (base : Heap) (k : Nat) (f : Addr) (n : Nat) (sp : List V → Addr → Hp → VK → Prop) : Prop where
  go : ∀ {A : Around} {out : List Env} {st : Shared} {H : Hp} {us : List Value} {vs : List V} {Q : VK}, Room k A → n ≤ vs.length → Vals vs us → us.length ≤ sizeLine →
    Env0 P w K mg base A out { st with heap := st.heap.push { cls := .type "tuple", data := .seq (us.drop n).toArray } } (upd H st.heap.objs.size (.tup (vs.drop n))) → sp (vs.take n) st.heap.objs.size (upd H st.heap.objs.size (.tup (vs.drop n))) Q →
    codeAny (model P w) A (.call (.ref f) ⟨us, []⟩) (CR CX0 out P w (upd H st.heap.objs.size (.tup (vs.drop n))) { st with heap := st.heap.push { cls := .type "tuple", data := .seq (us.drop n).toArray } } Q E0) st
section
variable {P : Program} {w : World} {K : PySem.W.Frag} {mg : Str → Option Value} {base : Heap} {k : Nat} {f : Addr} {fd : FuncData} {ps : List Str} {n : Nat} {sp : List V → Addr → Hp → VK → Prop}
theorem okV {x qual : Str} {st : Stmt} {N : List Str} (F : Fun K x qual st f fd) (S : FnScope N ps (defScope st)) (hn : ps.length = n + 1) (bv : BindsV fd n ps)
    (body : ∀ (cdv : Value) (A : Around) (out : List Env) (s : Shared) (H : Hp) (vs : List V) (T : Addr) (Q : VK) (E : XK), Room k (A.deeper (envOfC qual (defScope st) s.heap.objs.size f cdv)) → vs.length = n → sp vs T H Q →
      wB (cxOf CX0 P w K mg base N qual (defScope st) f cdv A out s H E).nox (defBody st) { nx := fun _ H' => Q .non H', rt := Q } (start N (vs ++ [.ref T])) H) : FnV P w K mg base (k + 1) f n sp := by
  obtain ⟨oc, od, kV, doc, pm, an, cdv, ct, osl, rfl, look, isCode⟩ := F.ex
  refine ⟨fun {A out s H us vs Q} room hl rel hz ev want => ?_⟩
  have inK : K.In s.heap := ev.mod.kin.keeps fun b o z => by
    obtain ⟨z1, z2⟩ := ev.bs b o z
    have ne : b ≠ s.heap.objs.size := fun q => by
      rw [q, upd_same] at z2
      cases z2
    rw [← z1]
    exact (Heap.get?_push_ne _ _ _ ne).symm
  have relT : Vals (vs.take n ++ [V.ref s.heap.objs.size]) (us.take n ++ [Value.ref s.heap.objs.size]) := (rel.take n).append (.cons (show RelV (V.ref s.heap.objs.size) (Value.ref s.heap.objs.size) from rfl) .nil)
  have lenT : (vs.take n ++ [V.ref s.heap.objs.size]).length = ps.length := by
    rw [hn, List.length_append, List.length_take, Nat.min_eq_left hl]
    rfl
  generalize hs1 : ({ s with heap := s.heap.push { cls := .type "tuple", data := .seq (us.drop n).toArray } } : Shared) = s1 at ev ⊢
  generalize hH1 : upd H s.heap.objs.size (.tup (vs.drop n)) = H1 at ev want ⊢
  have noLim : s1.heap.NoLimit := ev.mod.nolimit.keeps fun b o z => (ev.bs b o z).1
  have kinds : ∀ y ∈ ps.zip (us.take n ++ [Value.ref s.heap.objs.size]), (defScope st).names.lookup y.1 = some .local ∨ ((defScope st).names.lookup y.1 = some .cell ∧ ((cellsFrom (s1.heap.objs.size + 1) (defScope st).names []).lookup y.1).isSome = true) := by
    rintro ⟨m, v⟩ hy
    cases S.par m (List.of_mem_zip hy).1 with
    | inl q => exact .inl q
    | inr q => exact .inr ⟨q, PySem.W.cellsFrom_some _ _ _ (.inl q)⟩
  apply codeAny_call_function (o := ⟨oc, od, .func _, osl⟩) room.depth (inK _ _ look) rfl S.co S.gen rfl (PySem.W.codeRec_of inK isCode)
  rw [bv us (by rw [← rel.length]; exact hl)]
  refine wpAny_bind (wpAny_newTuple ?_ (Nat.le_trans (by rw [List.length_drop]; exact Nat.sub_le _ _) hz))
  rw [hs1]
  refine wpAny_pure ?_
  apply wpAny_newFunctionEnv_cells S.kind kinds
  intro env he s2 x
  subst he
  refine ⟨noLim.keeps x.toInCall.keep, codeAny_func ?_⟩
  have J := inv_start (CX := CX0) (N := N) (E := E0) S room.hd ev lenT relT x
  have main := PSs.nox (st := defBody st) (X := cxOf CX0 P w K mg base N qual (defScope st) f cdv A out s1 H1 E0) pw_B
  refine wpAny_mono (main.run [] s2 _ H1 _ J (body cdv A out s1 H1 (vs.take n) s.heap.objs.size Q E0 (room.deeper _) (by rw [List.length_take, Nat.min_eq_left hl]) want)) (fun fl s' z => ?_) (fun e s' z => z)
  match fl, z with
  | .ret u, ⟨v, _, H', I', rv, q⟩ => exact ⟨v, H', I'.os, I'.bare, I'.base, I'.hok, rv, q⟩
  | .next, ⟨_, H', I', q⟩ => exact ⟨.non, H', I'.os, I'.bare, I'.base, I'.hok, rfl, q⟩
  | .brk, ⟨_, _, _, q⟩ => exact q.elim
  | .cont, ⟨_, _, _, q⟩ => exact q.elim
end
section
variable {X : Cx} {k : Nat} {f : Addr} {n : Nat} {sp : List V → Addr → Hp → VK → Prop} {x : Str} {p pos : Pos} {e : Expr} {es : List Expr} {σ : L2.St} {H : Hp}
structure GDefV (X : Cx) (x : Str) (k : Nat) (f : Addr) (n : Nat) (sp : List V → Addr → Hp → VK → Prop) : Prop where
  ok : FnV X.prog X.w X.K X.mg X.base k f n sp
  room : Room k X.A
  gl : X.mg x = some (.ref f)
  kp : PySem.W.keepIn X.K (.ref f) = true
theorem runV {pins : List (Addr × Obj)} {s : Shared} {Q : VK} {us : List Value} {vs : List V} (g : GDefV X x k f n sp) (I : Inv X pins σ H s) (r : Vals vs us) (hl : n ≤ vs.length) (hz : vs.length ≤ sizeLine) (h : ∀ T, H T = none → sp (vs.take n) T (upd H T (.tup (vs.drop n))) Q) :
    wpAny (model X.prog X.w) X.A (call (.ref f) us) (EP X pins σ Q) X.xe s := by
  have hn : H s.heap.objs.size = none := I.hok.fresh (Nat.le_refl _)
  have hz2 : (vs.drop n).length ≤ sizeLine := Nat.le_trans (by rw [List.length_drop]; exact Nat.sub_le _ _) hz
  have J : Inv X pins σ (upd H s.heap.objs.size (.tup (vs.drop n))) { s with heap := s.heap.push { cls := .type "tuple", data := .seq (us.drop n).toArray } } :=
    I.laid (t' := s.toks) (fun b u z => Heap.get?_push_of_some _ z) (Nat.le_refl _) ⟨hz2, us.drop n, r.drop n, ⟨_, Heap.get?_push_size _ rfl, rfl, _, rfl⟩⟩
  refine wpAny_call (codeAny_mono (g.ok.go g.room hl r (by rw [← r.length]; exact hz) J.env0 (h _ hn)) ?_)
  rintro (z | fl) s' q
  · exact False.elim q
  · match fl, q with
    | .ret u, q => exact J.after q
theorem w_callV {Q : VK} (g : GDefV X x k f n sp) (h : wA X (e :: es) σ H fun vs H1 => n ≤ vs.length ∧ vs.length ≤ sizeLine ∧ ∀ T, H1 T = none → sp (vs.take n) T (upd H1 T (.tup (vs.drop n))) Q) (hg : Gl X x := by rfl)
    (hdb : (x == ("__debug__" : Str)) = false := by decide) (he : starEach (e :: es) X.env = (false, eval e X.env) :: starEach es X.env := by rfl) (hpl : (backTo pos (starEach es X.env)).any (·.1) = false := by rfl) : wE X (.Call (.Name x p) (e :: es) [] pos) σ H Q := by
  refine wE_i fun pins s I => ?_
  apply wpAny_Call_Name_kw
  apply ld_glob I hg g.gl _ hdb
  apply PySem.W.callWith_K (h₀ := X.base) I.ok.mod.kin g.kp _ he hpl
  exact thn (wA.run h _ pins s I) fun us s1 ⟨vs, H1, I1, r, hl, hz, q⟩ => ⟨I1.kIn, runV g I1 r hl hz q⟩
end
end Cb

/-! literals -/
namespace Cb
open PySem PySem.Spec PyProof.Rows L2
def lits (f : Expr → Option PyData) : List Expr → Option (List PyData)
  | [] => some []
  | e :: es => match f e, lits f es with
    | some d, some ds => some (d :: ds)
    | _, _ => none
def litD : Nat → Expr → Option PyData
  | 0 => fun _ => none
  | n + 1 => fun e => match e with
    | .Constant (.int i) _ _ => some (.int i)
    | .Constant (.str x) _ _ => some (.str x)
    | .Constant (.bool b) _ _ => some (.bool b)
    | .UnaryOp .USub e _ => match litD n e with
      | some (.int i) => some (.int (-i))
      | _ => none
    | .Tuple es _ _ => match lits (litD n) es with
      | some ds => if ds.length ≤ 1000 then some (.tuple ds) else none
      | none => none
    | _ => none
section
variable {X : Cx} {σ : L2.St} {H : Hp}
theorem lits_ev {f : Expr → Option PyData} (hf : ∀ e d, f e = some d → Ev X σ H e (Da d) ∧ ∀ es, starEach (e :: es) X.env = (false, eval e X.env) :: starEach es X.env) : ∀ {es : List Expr} {ds : List PyData}, lits f es = some ds → EvA X σ H es (ds.map Da)
  | [], ds, h => by
    unfold lits at h
    cases h
    exact ea_nil
  | e :: es, ds, h => by
    unfold lits at h
    split at h
    · rename_i d ds' h1 h2
      cases h
      obtain ⟨a, b⟩ := hf e d h1
      exact ea_cons a mono_da (lits_ev hf h2) (b es)
    · cases h
theorem lit_ev : ∀ (n : Nat) (e : Expr) (d : PyData), litD n e = some d → Ev X σ H e (Da d) ∧ ∀ es, starEach (e :: es) X.env = (false, eval e X.env) :: starEach es X.env := by
  intro n
  induction n with
  | zero =>
    intro e d h
    unfold litD at h
    cases h
  | succ n ih =>
    intro e d h
    unfold litD at h
    split at h
    · cases h
      exact ⟨Ev.int (ev_c pe_int), fun _ => rfl⟩
    · cases h
      exact ⟨Ev.str (ev_c pe_str), fun _ => rfl⟩
    · cases h
      exact ⟨Ev.bool (ev_c pe_bl), fun _ => rfl⟩
    · split at h
      · rename_i h1
        cases h
        exact ⟨Ev.int (ev_negI (Ev.ofInt (ih _ _ h1).1)), fun _ => rfl⟩
      · cases h
    · split at h
      · rename_i ds h1
        split at h
        · rename_i hl
          cases h
          exact ⟨ev_tupD (lits_ev (fun e d q => ih e d q) h1) hl, fun _ => rfl⟩
        · cases h
      · cases h
    · cases h
theorem ev_lit {e : Expr} {d : PyData} (n : Nat) (h : litD n e = some d) : Ev X σ H e (Da d) := (lit_ev n e d h).1
theorem ea_lits {es : List Expr} {ds : List PyData} (n : Nat) (h : lits (litD n) es = some ds) : EvA X σ H es (ds.map Da) := lits_ev (fun e d q => lit_ev n e d q) h
/-- [1, 2, ..], all literals -/
theorem ev_litL {es : List Expr} {ds : List PyData} {p : Pos} (n : Nat) (h : lits (litD n) es = some ds) (hl : ds.length ≤ 1000) : Ev X σ H (.List es p) (LstD ds) := ev_lstD (ea_lits n h) hl
end
end Cb

/-! the slots of a comprehension's names; small things -/
namespace Wl
open PySem PySem.Spec PyProof.Rows L2 Cb
theorem wipe_get {σ : L2.St} : ∀ (vs : List Nat) (j : Nat), (wipe σ vs)[j]? = if j ∈ vs ∧ j < σ.length then some none else σ[j]?
  | [], j => by simp [wipe]
  | v :: vs, j => by
    show ((wipe σ vs).set v none)[j]? = _
    rw [List.getElem?_set, wipe_length, wipe_get vs j]
    by_cases h : v = j
    · subst h
      rw [if_pos rfl]
      by_cases hl : v < σ.length
      · rw [if_pos hl, if_pos ⟨List.mem_cons_self .., hl⟩]
      · rw [if_neg hl, if_neg (fun z => hl z.2), List.getElem?_eq_none (by omega)]
    · rw [if_neg h]
      by_cases hm : j ∈ vs ∧ j < σ.length
      · rw [if_pos hm, if_pos ⟨List.mem_cons_of_mem _ hm.1, hm.2⟩]
      · rw [if_neg hm, if_neg (fun z => hm ⟨(List.mem_cons.mp z.1).resolve_left (fun q => h q.symm), z.2⟩)]
theorem wipe_eq {σ τ : L2.St} {vs : List Nat} (hl : σ.length = τ.length) (h : ∀ j, j ∉ vs → σ[j]? = τ[j]?) : wipe σ vs = wipe τ vs := List.ext_getElem? fun j => by
  rw [wipe_get, wipe_get, hl]
  by_cases hj : j ∈ vs
  · by_cases hn : j < τ.length
    · rw [if_pos ⟨hj, hn⟩, if_pos ⟨hj, hn⟩]
    · rw [if_neg (fun z => hn z.2), if_neg (fun z => hn z.2), List.getElem?_eq_none (by omega), List.getElem?_eq_none (by omega)]
  · rw [if_neg (fun z => hj z.1), if_neg (fun z => hj z.1)]
    exact h j hj
theorem wipe_set {σ : L2.St} {vs : List Nat} {i : Nat} {x : Option V} (h : i ∈ vs) : wipe (σ.set i x) vs = wipe σ vs := wipe_eq (List.length_set ..) fun j hj => List.getElem?_set_ne fun e => hj (by rw [← e]; exact h)
theorem wipe_idem {σ : L2.St} {vs : List Nat} : wipe (wipe σ vs) vs = wipe σ vs := wipe_eq (wipe_length ..) fun j hj => by rw [wipe_get, if_neg (fun z => hj z.1)]
end Wl

/-! values without addresses, their world -/
namespace Wl
open PySem PySem.Spec PyProof.Rows L2 Cb
/-- a value: a datum (no address in it is ever seen), a thing of the shared heap, a constant of the model, rows of values, an object that never changes -/
inductive W where
  | dat (d : PyData)
  | ref (n : Nat)
  | cst (v : V)
  | scr (ns : List Int)
  | tup (ws : List W)
  | lst (ws : List W)
  | obj (C : Addr) (ns : List Str) (ws : List W)
/-- what an expression gives: a value, or a thing of this def's own that may still change -/
inductive U where
  | v (w : W)
  | l (n : Nat)
inductive Ob where
  | lsd (ds : List PyData)
  | lst (ws : List W)
  | dK (kvs : List (Key × W))
  | dT (kvs : List (List Key × W))
  | ins (C : Addr) (fs : List (Str × W))
  | gone
structure Hw where
  g : List Ob
  l : List Ob
structure Wd where
  gs : List Addr
  ls : List Addr
  F : Addr → Prop
/-- a list of the module's top -/
def KL (K : PySem.W.Frag) (a : Addr) (xs : List V) : Prop := ∃ (o : Obj) (its : Array Value) (n : Nat), K.lookup a = some o ∧ o.cls = .type "list" ∧ o.dict = none ∧ o.data = .seq its n ∧ its.size ≤ sizeLine ∧ Vals xs its.toList
/-- a list that nobody changes any more -/
def LsF (K : PySem.W.Frag) (F : Addr → Prop) (H : Hp) (a : Addr) (xs : List V) : Prop := F a ∧ H a = some (.lst xs)
theorem LsF.sq {K : PySem.W.Frag} {F : Addr → Prop} {H : Hp} {a : Addr} {xs : List V} (h : LsF K F H a xs) : SqL K H a xs := .of h.2
/-- the script -/
def ScL (K : PySem.W.Frag) (H : Hp) (a : Addr) (xs : List V) : Prop := (∃ o, H a = some (.frz o (.lst xs))) ∨ KL K a xs
theorem ScL.sq {K : PySem.W.Frag} {H : Hp} {a : Addr} {xs : List V} (h : ScL K H a xs) : SqL K H a xs := h.elim (fun ⟨o, h⟩ => .inl (.inr ⟨o, h⟩)) .inr
mutual
inductive RD (K : PySem.W.Frag) (F : Addr → Prop) (H : Hp) : PyData → V → Prop
  | non : RD K F H .none .non
  | bl (b : Bool) : RD K F H (.bool b) (.bl b)
  | int (i : Int) : RD K F H (.int i) (.int i)
  | str (x : Str) : RD K F H (.str x) (.str x)
  | tup {a : Addr} {xs : List V} {ds : List PyData} : SqT K H a xs → RDs K F H ds xs → RD K F H (.tuple ds) (.ref a)
  | lst {a : Addr} {xs : List V} {ds : List PyData} : LsF K F H a xs → RDs K F H ds xs → RD K F H (.list ds) (.ref a)
inductive RDs (K : PySem.W.Frag) (F : Addr → Prop) (H : Hp) : List PyData → List V → Prop
  | nil : RDs K F H [] []
  | cons {d : PyData} {v : V} {ds : List PyData} {vs : List V} : RD K F H d v → RDs K F H ds vs → RDs K F H (d :: ds) (v :: vs)
end
mutual
inductive RV (K : PySem.W.Frag) (gs : List Addr) (F : Addr → Prop) (H : Hp) : W → V → Prop
  | dat {d : PyData} {v : V} : RD K F H d v → RV K gs F H (.dat d) v
  | ref {n : Nat} {a : Addr} : gs[n]? = some a → RV K gs F H (.ref n) (.ref a)
  | cst {v : V} : RV K gs F H (.cst v) v
  | scr {a : Addr} {ns : List Int} : ScL K H a (ns.map V.int) → RV K gs F H (.scr ns) (.ref a)
  | tup {a : Addr} {vs : List V} {ws : List W} : SqT K H a vs → RVs K gs F H ws vs → RV K gs F H (.tup ws) (.ref a)
  | lst {a : Addr} {vs : List V} {ws : List W} : LsF K F H a vs → RVs K gs F H ws vs → RV K gs F H (.lst ws) (.ref a)
  | obj {a C dx : Addr} {fs : List (Str × V)} {ns : List Str} {vs : List V} {ws : List W} : F a → H a = some (.ins C dx fs) → ns = fs.map (·.1) → vs = fs.map (·.2) → RVs K gs F H ws vs → RV K gs F H (.obj C ns ws) (.ref a)
inductive RVs (K : PySem.W.Frag) (gs : List Addr) (F : Addr → Prop) (H : Hp) : List W → List V → Prop
  | nil : RVs K gs F H [] []
  | cons {w : W} {v : V} {ws : List W} {vs : List V} : RV K gs F H w v → RVs K gs F H ws vs → RVs K gs F H (w :: ws) (v :: vs)
end
/-- what values lean on stays -/
structure Stay (F F' : Addr → Prop) (H H' : Hp) : Prop where
  f : ∀ a, F a → F' a
  o : ∀ a o, F a → H a = some o → H' a = some o
  t : ∀ a xs, H a = some (.tup xs) → H' a = some (.tup xs)
  z : ∀ a o u, H a = some (.frz o u) → H' a = some (.frz o u)
section
variable {K : PySem.W.Frag} {F F' : Addr → Prop} {H H' : Hp} {gs gs' : List Addr}
theorem Stay.sqT (s : Stay F F' H H') {a : Addr} {xs : List V} (h : SqT K H a xs) : SqT K H' a xs := by
  rcases h with (h | ⟨o, h⟩) | h
  · exact .inl (.inl (s.t _ _ h))
  · exact .inl (.inr ⟨o, s.z _ _ _ h⟩)
  · exact .inr h
theorem Stay.lsF (s : Stay F F' H H') {a : Addr} {xs : List V} (h : LsF K F H a xs) : LsF K F' H' a xs := ⟨s.f _ h.1, s.o _ _ h.1 h.2⟩
theorem Stay.scL (s : Stay F F' H H') {a : Addr} {xs : List V} (h : ScL K H a xs) : ScL K H' a xs := h.elim (fun ⟨o, h⟩ => .inl ⟨o, s.z _ _ _ h⟩) .inr
mutual
theorem RD.mono (s : Stay F F' H H') : ∀ (d : PyData) (v : V), RD K F H d v → RD K F' H' d v
  | .none, _, h => by cases h; exact .non
  | .bool _, _, h => by cases h; exact .bl _
  | .int _, _, h => by cases h; exact .int _
  | .str _, _, h => by cases h; exact .str _
  | .tuple ds, _, h => by
    cases h with
    | tup q r => exact .tup (s.sqT q) (RDs.mono s ds _ r)
  | .list ds, _, h => by
    cases h with
    | lst q r => exact .lst (s.lsF q) (RDs.mono s ds _ r)
  | .dict _, _, h => by cases h
theorem RDs.mono (s : Stay F F' H H') : ∀ (ds : List PyData) (vs : List V), RDs K F H ds vs → RDs K F' H' ds vs
  | [], _, h => by cases h; exact .nil
  | d :: ds, _, h => by
    cases h with
    | cons q r => exact .cons (RD.mono s d _ q) (RDs.mono s ds _ r)
end
mutual
theorem RV.mono (s : Stay F F' H H') (g : ∀ (n : Nat) (a : Addr), gs[n]? = some a → gs'[n]? = some a) : ∀ (w : W) (v : V), RV K gs F H w v → RV K gs' F' H' w v
  | .dat d, _, h => by
    cases h with
    | dat h => exact .dat (RD.mono s d _ h)
  | .ref n, _, h => by
    cases h with
    | ref h => exact .ref (g _ _ h)
  | .cst _, _, h => by cases h; exact .cst
  | .scr _, _, h => by
    cases h with
    | scr q => exact .scr (s.scL q)
  | .tup ws, _, h => by
    cases h with
    | tup q r => exact .tup (s.sqT q) (RVs.mono s g ws _ r)
  | .lst ws, _, h => by
    cases h with
    | lst q r => exact .lst (s.lsF q) (RVs.mono s g ws _ r)
  | .obj C ns ws, _, h => by
    cases h with
    | obj f q e e2 r => exact .obj (s.f _ f) (s.o _ _ f q) e e2 (RVs.mono s g ws _ r)
theorem RVs.mono (s : Stay F F' H H') (g : ∀ (n : Nat) (a : Addr), gs[n]? = some a → gs'[n]? = some a) : ∀ (ws : List W) (vs : List V), RVs K gs F H ws vs → RVs K gs' F' H' ws vs
  | [], _, h => by cases h; exact .nil
  | w :: ws, _, h => by
    cases h with
    | cons q r => exact .cons (RV.mono s g w _ q) (RVs.mono s g ws _ r)
end
mutual
theorem RD.dp : ∀ (d : PyData) (v : V), RD K F H d v → Dp K H v d
  | .none, _, h => by cases h; exact .non
  | .bool _, _, h => by cases h; exact .bl _
  | .int _, _, h => by cases h; exact .int _
  | .str _, _, h => by cases h; exact .str _
  | .tuple ds, _, h => by
    cases h with
    | tup q r => exact .tup q (RDs.dp ds _ r)
  | .list ds, _, h => by
    cases h with
    | lst q r => exact .lst q.sq (RDs.dp ds _ r)
  | .dict _, _, h => by cases h
theorem RDs.dp : ∀ (ds : List PyData) (vs : List V), RDs K F H ds vs → DpAll K H vs ds
  | [], _, h => by cases h; exact .nil
  | d :: ds, _, h => by
    cases h with
    | cons q r => exact .cons (RD.dp d _ q) (RDs.dp ds _ r)
end
theorem RDs.len : ∀ {ds : List PyData} {vs : List V}, RDs K F H ds vs → vs.length = ds.length
  | [], _, .nil => rfl
  | _ :: _, _, .cons _ r => by rw [List.length_cons, RDs.len r]; rfl
theorem RVs.len : ∀ {ds : List W} {vs : List V}, RVs K gs F H ds vs → vs.length = ds.length
  | [], _, .nil => rfl
  | _ :: _, _, .cons _ r => by rw [List.length_cons, RVs.len r]; rfl
theorem RDs.rvs : ∀ {ds : List PyData} {vs : List V}, RDs K F H ds vs → RVs K gs F H (ds.map .dat) vs
  | [], _, .nil => .nil
  | _ :: _, _, .cons q r => .cons (.dat q) r.rvs
theorem RVs.rds : ∀ {ds : List PyData} {vs : List V}, RVs K gs F H (ds.map .dat) vs → RDs K F H ds vs
  | [], _, .nil => .nil
  | _ :: _, _, .cons (.dat q) r => .cons q r.rds
theorem RVs.at : ∀ {ws : List W} {vs : List V} {j : Nat} {w : W}, RVs K gs F H ws vs → ws[j]? = some w → ∃ v, vs[j]? = some v ∧ RV K gs F H w v
  | [], _, j, w, h, e => by simp at e
  | c :: ws, _ :: us, j, w, .cons q r, e => by
    cases j with
    | zero =>
      have e : c = w := by simpa using e
      subst e
      exact ⟨_, rfl, q⟩
    | succ j => exact RVs.at (ws := ws) (vs := us) r (by simpa using e)
theorem RVs.at' {ws : List W} {vs : List V} {j : Nat} {v : V} (h : RVs K gs F H ws vs) (e : vs[j]? = some v) : ∃ w, ws[j]? = some w ∧ RV K gs F H w v := by
  have hj : j < ws.length := by
    rw [← h.len]
    exact (List.getElem?_eq_some_iff.mp e).1
  obtain ⟨w, h1, h2⟩ := h.at (List.getElem?_eq_getElem hj)
  rw [e] at h1
  cases h1
  exact ⟨_, List.getElem?_eq_getElem hj, h2⟩
theorem RDs.at {ds : List PyData} {vs : List V} {j : Nat} {d : PyData} (h : RDs K F H ds vs) (e : ds[j]? = some d) : ∃ v, vs[j]? = some v ∧ RD K F H d v := by
  obtain ⟨v, h1, h2⟩ := (h.rvs (gs := [])).at (w := .dat d) (j := j) (by rw [List.getElem?_map, e]; rfl)
  cases h2 with
  | dat h2 => exact ⟨v, h1, h2⟩
theorem RVs.app : ∀ {ds es : List W} {xs ys : List V}, RVs K gs F H ds xs → RVs K gs F H es ys → RVs K gs F H (ds ++ es) (xs ++ ys)
  | [], es, _, ys, .nil, t => t
  | d :: ds, es, _, ys, .cons q r, t => .cons q (r.app t)
theorem RDs.app : ∀ {ds es : List PyData} {xs ys : List V}, RDs K F H ds xs → RDs K F H es ys → RDs K F H (ds ++ es) (xs ++ ys)
  | [], es, _, ys, .nil, t => t
  | d :: ds, es, _, ys, .cons q r, t => .cons q (r.app t)
theorem RDs.drop : ∀ (n : Nat) {ds : List PyData} {xs : List V}, RDs K F H ds xs → RDs K F H (ds.drop n) (xs.drop n)
  | 0, ds, xs, h => h
  | n + 1, [], _, .nil => .nil
  | n + 1, d :: ds, _, .cons _ r => RDs.drop n r
theorem RDs.take : ∀ (n : Nat) {ds : List PyData} {xs : List V}, RDs K F H ds xs → RDs K F H (ds.take n) (xs.take n)
  | 0, ds, xs, h => .nil
  | n + 1, [], _, .nil => .nil
  | n + 1, d :: ds, _, .cons q r => .cons q (RDs.take n r)
theorem RDs.eraseIdx : ∀ (n : Nat) {ds : List PyData} {xs : List V}, RDs K F H ds xs → RDs K F H (ds.eraseIdx n) (xs.eraseIdx n)
  | n, [], _, .nil => .nil
  | 0, d :: ds, _, .cons _ r => r
  | n + 1, d :: ds, _, .cons q r => .cons q (RDs.eraseIdx n r)
theorem RDs.set : ∀ (n : Nat) {ds : List PyData} {xs : List V} {d : PyData} {v : V}, RDs K F H ds xs → RD K F H d v → RDs K F H (ds.set n d) (xs.set n v)
  | n, [], _, _, _, .nil, _ => .nil
  | 0, d :: ds, _, _, _, .cons _ r, h => .cons h r
  | n + 1, d :: ds, _, _, _, .cons q r, h => .cons q (RDs.set n r h)
end
/-! ### the world -/
def RO (K : PySem.W.Frag) (gs : List Addr) (F : Addr → Prop) (H : Hp) : Ob → Addr → Prop
  | .lsd ds, a => ∃ vs, H a = some (.lst vs) ∧ RDs K F H ds vs
  | .lst ws, a => ∃ vs, H a = some (.lst vs) ∧ RVs K gs F H ws vs
  | .dK kvs, a => ∃ kvs', H a = some (.dK kvs') ∧ Paired (fun (p : Key × W) (q : Key × V) => p.1 = q.1 ∧ RV K gs F H p.2 q.2) kvs kvs'
  | .dT kvs, a => ∃ kvs', H a = some (.dT kvs') ∧ Paired (fun (p : List Key × W) (q : List Key × V) => p.1 = q.1 ∧ RV K gs F H p.2 q.2) kvs kvs'
  | .ins C fs, a => ∃ dx fs', H a = some (.ins C dx fs') ∧ Paired (fun (p : Str × W) (q : Str × V) => p.1 = q.1 ∧ RV K gs F H p.2 q.2) fs fs'
  | .gone, a => ∃ o, H a = some o
def Liv (A : Wd) (h : Hw) (a : Addr) : Prop := ∃ (n : Nat) (o : Ob), o ≠ Ob.gone ∧ ((A.gs[n]? = some a ∧ h.g[n]? = some o) ∨ (A.ls[n]? = some a ∧ h.l[n]? = some o))
structure WR (K : PySem.W.Frag) (A : Wd) (h : Hw) (H : Hp) : Prop where
  gl : A.gs.length = h.g.length
  ll : A.ls.length = h.l.length
  gc : ∀ (n : Nat) (a : Addr) (o : Ob), A.gs[n]? = some a → h.g[n]? = some o → RO K A.gs A.F H o a
  lc : ∀ (n : Nat) (a : Addr) (o : Ob), A.ls[n]? = some a → h.l[n]? = some o → RO K A.gs A.F H o a
  nd : (A.gs ++ A.ls).Nodup
  nf : ∀ a, Liv A h a → ¬ A.F a
  ft : ∀ a, A.F a → H a ≠ none
structure Ext (A : Wd) (h : Hw) (H : Hp) (B : Wd) (h' : Hw) (H' : Hp) : Prop where
  gs : ∀ (n : Nat) (a : Addr), A.gs[n]? = some a → B.gs[n]? = some a
  ls : ∀ (n : Nat) (a : Addr), A.ls[n]? = some a → B.ls[n]? = some a
  kp : ∀ a o, H a = some o → ¬ Liv A h a → H' a = some o
  th : ∀ a, H' a = none → H a = none
  fs : ∀ a, A.F a → B.F a
  fn : ∀ a, B.F a → A.F a ∨ H a = none ∨ Liv A h a
  lv : ∀ a, Liv B h' a → Liv A h a ∨ H a = none
  gn : ∀ a, a ∈ B.gs → a ∈ A.gs ∨ H a = none
  ln : ∀ a, a ∈ B.ls → a ∈ A.ls ∨ H a = none
section
variable {K : PySem.W.Frag} {A B C : Wd} {h h1 h2 : Hw} {H H1 H2 : Hp}
theorem Ext.refl : Ext A h H A h H := ⟨fun _ _ e => e, fun _ _ e => e, fun _ _ e _ => e, fun _ n => n, fun _ f => f, fun _ f => .inl f, fun _ l => .inl l, fun _ m => .inl m, fun _ m => .inl m⟩
theorem RO.sm {o : Ob} {a : Addr} {gs : List Addr} {F : Addr → Prop} (r : RO K gs F H o a) : ∃ x, H a = some x := by
  cases o with
  | lsd ds => exact ⟨_, r.choose_spec.1⟩
  | lst ws => exact ⟨_, r.choose_spec.1⟩
  | dK kvs => exact ⟨_, r.choose_spec.1⟩
  | dT kvs => exact ⟨_, r.choose_spec.1⟩
  | ins C fs => obtain ⟨dx, fs', q, _⟩ := r; exact ⟨_, q⟩
  | gone => exact r
/-- a live thing is no tuple, nothing frozen -/
theorem RO.kind {o : Ob} {a : Addr} {gs : List Addr} {F : Addr → Prop} (r : RO K gs F H o a) (ho : o ≠ .gone) : (∀ xs, H a ≠ Option.some (.tup xs)) ∧ ∀ ob u, H a ≠ Option.some (.frz ob u) := by
  cases o with
  | gone => exact absurd rfl ho
  | lsd ds => obtain ⟨_, q, _⟩ := r; rw [q]; exact ⟨fun _ e => (by cases e), fun _ _ e => (by cases e)⟩
  | lst ws => obtain ⟨_, q, _⟩ := r; rw [q]; exact ⟨fun _ e => (by cases e), fun _ _ e => (by cases e)⟩
  | dK kvs => obtain ⟨_, q, _⟩ := r; rw [q]; exact ⟨fun _ e => (by cases e), fun _ _ e => (by cases e)⟩
  | dT kvs => obtain ⟨_, q, _⟩ := r; rw [q]; exact ⟨fun _ e => (by cases e), fun _ _ e => (by cases e)⟩
  | ins C fs => obtain ⟨_, _, q, _⟩ := r; rw [q]; exact ⟨fun _ e => (by cases e), fun _ _ e => (by cases e)⟩
theorem WR.liv (w : WR K A h H) {a : Addr} (l : Liv A h a) : ∃ o, o ≠ Ob.gone ∧ RO K A.gs A.F H o a := by
  obtain ⟨n, o, ho, ⟨e, q⟩ | ⟨e, q⟩⟩ := l
  · exact ⟨o, ho, w.gc n a o e q⟩
  · exact ⟨o, ho, w.lc n a o e q⟩
theorem WR.nin (w : WR K A h H) {a : Addr} (n : H a = none) : a ∉ A.gs ∧ a ∉ A.ls := by
  refine ⟨fun m => ?_, fun m => ?_⟩
  · obtain ⟨i, hi⟩ := List.mem_iff_getElem?.mp m
    have hl : i < h.g.length := by rw [← w.gl]; exact (List.getElem?_eq_some_iff.mp hi).1
    obtain ⟨x, e⟩ := (w.gc i a _ hi (List.getElem?_eq_getElem hl)).sm
    rw [n] at e
    cases e
  · obtain ⟨i, hi⟩ := List.mem_iff_getElem?.mp m
    have hl : i < h.l.length := by rw [← w.ll]; exact (List.getElem?_eq_some_iff.mp hi).1
    obtain ⟨x, e⟩ := (w.lc i a _ hi (List.getElem?_eq_getElem hl)).sm
    rw [n] at e
    cases e
theorem Ext.trans (a : Ext A h H B h1 H1) (b : Ext B h1 H1 C h2 H2) : Ext A h H C h2 H2 where
  gs := fun n x e => b.gs n x (a.gs n x e)
  ls := fun n x e => b.ls n x (a.ls n x e)
  kp := fun x o e l => b.kp x o (a.kp x o e l) fun l' => by
    rcases a.lv x l' with z | z
    · exact l z
    · rw [e] at z
      cases z
  th := fun x n => a.th x (b.th x n)
  fs := fun x f => b.fs x (a.fs x f)
  fn := fun x f => by
    rcases b.fn x f with z | z | z
    · exact a.fn x z
    · exact .inr (.inl (a.th x z))
    · exact .inr (a.lv x z).symm
  lv := fun x l => by
    rcases b.lv x l with z | z
    · exact a.lv x z
    · exact .inr (a.th x z)
  gn := fun x m => by
    rcases b.gn x m with z | z
    · exact a.gn x z
    · exact .inr (a.th x z)
  ln := fun x m => by
    rcases b.ln x m with z | z
    · exact a.ln x z
    · exact .inr (a.th x z)
theorem Ext.stay (e : Ext A h H B h1 H1) (w : WR K A h H) : Stay A.F B.F H H1 where
  f := e.fs
  o := fun a o f q => e.kp a o q fun l => w.nf a l f
  t := fun a xs q => e.kp a _ q fun l => by
    obtain ⟨o, ho, r⟩ := w.liv l
    exact (r.kind ho).1 xs q
  z := fun a o u q => e.kp a _ q fun l => by
    obtain ⟨o, ho, r⟩ := w.liv l
    exact (r.kind ho).2 _ _ q
theorem RV.ext {w : W} {v : V} (r : RV K A.gs A.F H w v) (wr : WR K A h H) (e : Ext A h H B h1 H1) : RV K B.gs B.F H1 w v := RV.mono (e.stay wr) e.gs w v r
theorem RVs.ext {w : List W} {v : List V} (r : RVs K A.gs A.F H w v) (wr : WR K A h H) (e : Ext A h H B h1 H1) : RVs K B.gs B.F H1 w v := RVs.mono (e.stay wr) e.gs w v r
theorem Paired.rmono {α : Type} {gs gs' : List Addr} {F F' : Addr → Prop} (s : Stay F F' H H1) (g : ∀ (n : Nat) (a : Addr), gs[n]? = some a → gs'[n]? = some a) : ∀ {l : List (α × W)} {l' : List (α × V)}, Paired (fun (p : α × W) (q : α × V) => p.1 = q.1 ∧ RV K gs F H p.2 q.2) l l' → Paired (fun (p : α × W) (q : α × V) => p.1 = q.1 ∧ RV K gs' F' H1 p.2 q.2) l l'
  | _, _, .nil => .nil
  | _, _, .cons q r => .cons ⟨q.1, RV.mono s g _ _ q.2⟩ (Paired.rmono s g r)
/-- what stands at a cell stays if its own thing stays -/
theorem RO.mono {o : Ob} {a : Addr} {gs gs' : List Addr} {F F' : Addr → Prop} (r : RO K gs F H o a) (s : Stay F F' H H1) (g : ∀ (n : Nat) (a : Addr), gs[n]? = some a → gs'[n]? = some a) (k : ∀ x, H a = Option.some x → H1 a = Option.some x) : RO K gs' F' H1 o a := by
  cases o with
  | lsd ds => obtain ⟨vs, q, t⟩ := r; exact ⟨vs, k _ q, RDs.mono s _ _ t⟩
  | lst ws => obtain ⟨vs, q, t⟩ := r; exact ⟨vs, k _ q, RVs.mono s g _ _ t⟩
  | dK kvs => obtain ⟨vs, q, t⟩ := r; exact ⟨vs, k _ q, Paired.rmono s g t⟩
  | dT kvs => obtain ⟨vs, q, t⟩ := r; exact ⟨vs, k _ q, Paired.rmono s g t⟩
  | ins C fs => obtain ⟨dx, vs, q, t⟩ := r; exact ⟨dx, vs, k _ q, Paired.rmono s g t⟩
  | gone => obtain ⟨x, q⟩ := r; exact ⟨x, k _ q⟩
/-- all stays, new things may have come -/
theorem Ext.same (s : Same H H1) : Ext A h H A h H1 := ⟨fun _ _ e => e, fun _ _ e => e, fun _ _ e _ => s _ _ e, fun a n => (by
  cases q : H a with
  | none => rfl
  | some o =>
    rw [s _ _ q] at n
    cases n), fun _ f => f, fun _ f => .inl f, fun _ l => .inl l, fun _ m => .inl m, fun _ m => .inl m⟩
theorem WR.same (w : WR K A h H) (s : Same H H1) : WR K A h H1 :=
  ⟨w.gl, w.ll, fun n a o e q => (w.gc n a o e q).mono ((Ext.same s).stay w) (fun _ _ e => e) fun x e => s _ _ e, fun n a o e q => (w.lc n a o e q).mono ((Ext.same s).stay w) (fun _ _ e => e) fun x e => s _ _ e, w.nd, w.nf, fun a f n => w.ft a f ((Ext.same (A := A) (h := h) s).th a n)⟩
end
end Wl

/-! judgements over values -/
namespace Wl
open PySem PySem.Spec PyProof.Rows L2 Cb
abbrev Sw := List (Option U)
abbrev QU := U → Hw → Prop
abbrev TW := Sw → Hw → QU → Prop
abbrev TTW := Sw → Hw → (Bool → Hw → Prop) → Prop
abbrev TAW := Sw → Hw → (List U → Hw → Prop) → Prop
structure EnW where
  nx : Sw → Hw → Prop
  rt : W → Hw → Prop
  bk : Sw → Hw → Prop := fun _ _ => False
  ct : Sw → Hw → Prop := fun _ _ => False
abbrev TSW := EnW → Sw → Hw → Prop
def RU (K : PySem.W.Frag) (A : Wd) (H : Hp) : U → V → Prop
  | .v w, v => RV K A.gs A.F H w v
  | .l n, v => ∃ a, A.ls[n]? = some a ∧ v = .ref a
theorem RU.of {K : PySem.W.Frag} {A : Wd} {H : Hp} {w : W} {v : V} (r : RV K A.gs A.F H w v) : RU K A H (.v w) v := r
theorem RU.dat {K : PySem.W.Frag} {A : Wd} {H : Hp} {d : PyData} {v : V} (r : RD K A.F H d v) : RU K A H (.v (.dat d)) v := RV.dat r
structure RS (K : PySem.W.Frag) (A : Wd) (H : Hp) (σ : Sw) (τ : L2.St) : Prop where
  len : σ.length = τ.length
  at_ : ∀ (i : Nat) (u : U), σ[i]? = some (some u) → ∃ v, τ[i]? = some (some v) ∧ RU K A H u v
section
variable {K : PySem.W.Frag} {A B C : Wd} {h h1 h2 : Hw} {H H1 H2 : Hp} {u : U} {v : V} {σ : Sw} {τ : L2.St}
theorem RU.ext (r : RU K A H u v) (wr : WR K A h H) (e : Ext A h H B h1 H1) : RU K B H1 u v := by
  cases u with
  | v w => exact RV.ext r wr e
  | l n =>
    obtain ⟨a, q, z⟩ := r
    exact ⟨a, e.ls _ _ q, z⟩
theorem RS.ext (r : RS K A H σ τ) (wr : WR K A h H) (e : Ext A h H B h1 H1) : RS K B H1 σ τ := ⟨r.len, fun i u q => by
  obtain ⟨v, z, y⟩ := r.at_ i u q
  exact ⟨v, z, y.ext wr e⟩⟩
theorem RS.set (r : RS K A H σ τ) (i : Nat) (q : RU K A H u v) : RS K A H (σ.set i (some u)) (τ.set i (some v)) := ⟨by rw [List.length_set, List.length_set, r.len], fun j u' z => by
  by_cases e : i = j
  · subst e
    rw [List.getElem?_set] at z
    rw [if_pos rfl] at z
    by_cases l : i < σ.length
    · rw [if_pos l] at z
      cases z
      exact ⟨v, by rw [List.getElem?_set, if_pos rfl, if_pos (by rw [← r.len]; exact l)], q⟩
    · rw [if_neg l] at z
      cases z
  · rw [List.getElem?_set_ne e] at z
    obtain ⟨v', y, x⟩ := r.at_ j u' z
    exact ⟨v', by rw [List.getElem?_set_ne e]; exact y, x⟩⟩
/-- slots that are forgotten -/
theorem RS.weak {σ' : Sw} {τ' : L2.St} (r : RS K A H σ τ) (hl : σ'.length = τ'.length) (w : ∀ (i : Nat) u, σ'[i]? = some (some u) → σ[i]? = some (some u) ∧ τ'[i]? = τ[i]?) : RS K A H σ' τ' := ⟨hl, fun i u q => by
  obtain ⟨z, y⟩ := w i u q
  rw [y]
  exact r.at_ i u z⟩
def EPw (K : PySem.W.Frag) (A : Wd) (h : Hw) (H : Hp) (Q : QU) : VK := fun v H' => ∃ B h' u, Ext A h H B h' H' ∧ WR K B h' H' ∧ RU K B H' u v ∧ Q u h'
def TPw (K : PySem.W.Frag) (A : Wd) (h : Hw) (H : Hp) (Q : Bool → Hw → Prop) : Bool → Hp → Prop := fun b H' => ∃ B h', Ext A h H B h' H' ∧ WR K B h' H' ∧ Q b h'
inductive RUs (K : PySem.W.Frag) (A : Wd) (H : Hp) : List U → List V → Prop
  | nil : RUs K A H [] []
  | cons {u : U} {v : V} {us : List U} {vs : List V} : RU K A H u v → RUs K A H us vs → RUs K A H (u :: us) (v :: vs)
theorem RUs.ext : ∀ {us : List U} {vs : List V}, RUs K A H us vs → WR K A h H → Ext A h H B h1 H1 → RUs K B H1 us vs
  | [], _, .nil, _, _ => .nil
  | _ :: _, _, .cons q r, wr, e => .cons (q.ext wr e) (r.ext wr e)
theorem RUs.len : ∀ {us : List U} {vs : List V}, RUs K A H us vs → vs.length = us.length
  | [], _, .nil => rfl
  | _ :: _, _, .cons _ r => by rw [List.length_cons, r.len]; rfl
def APw (K : PySem.W.Frag) (A : Wd) (h : Hw) (H : Hp) (Q : List U → Hw → Prop) : List V → Hp → Prop := fun vs H' => ∃ B h' us, Ext A h H B h' H' ∧ WR K B h' H' ∧ RUs K B H' us vs ∧ Q us h'
/-- behind a statement, from the world at A, h, H on -/
def EnV (K : PySem.W.Frag) (A : Wd) (h : Hw) (H : Hp) (D : EnW) : Ends where
  nx := fun τ H' => ∃ B h' σ, Ext A h H B h' H' ∧ WR K B h' H' ∧ RS K B H' σ τ ∧ D.nx σ h'
  rt := fun v H' => ∃ B h' w, Ext A h H B h' H' ∧ WR K B h' H' ∧ RV K B.gs B.F H' w v ∧ D.rt w h'
  bk := fun τ H' => ∃ B h' σ, Ext A h H B h' H' ∧ WR K B h' H' ∧ RS K B H' σ τ ∧ D.bk σ h'
  ct := fun τ H' => ∃ B h' σ, Ext A h H B h' H' ∧ WR K B h' H' ∧ RS K B H' σ τ ∧ D.ct σ h'
end
structure TrE (X : Cx) (e : Expr) (t : TW) : Prop where
  run : ∀ {σ : Sw} {h : Hw} {Q : QU} {A : Wd} {H : Hp} {τ : L2.St}, t σ h Q → WR X.K A h H → RS X.K A H σ τ → wE X e τ H (EPw X.K A h H Q)
structure TrT (X : Cx) (e : Expr) (t : TTW) : Prop where
  run : ∀ {σ : Sw} {h : Hw} {Q : Bool → Hw → Prop} {A : Wd} {H : Hp} {τ : L2.St}, t σ h Q → WR X.K A h H → RS X.K A H σ τ → wT X e τ H (TPw X.K A h H Q)
/-- a test whatever the whole is -/
structure TrW (X : Cx) (e : Expr) (t : TTW) : Prop where
  run : ∀ {σ : Sw} {h : Hw} {Q : Bool → Hw → Prop} {A : Wd} {H : Hp} {τ : L2.St}, t σ h Q → WR X.K A h H → RS X.K A H σ τ → wW X e τ H (TPw X.K A h H Q)
structure TrA (X : Cx) (es : List Expr) (t : TAW) : Prop where
  run : ∀ {σ : Sw} {h : Hw} {Q : List U → Hw → Prop} {A : Wd} {H : Hp} {τ : L2.St}, t σ h Q → WR X.K A h H → RS X.K A H σ τ → wA X es τ H (APw X.K A h H Q)
structure TrB (X : Cx) (sts : List Stmt) (t : TSW) : Prop where
  run : ∀ {σ : Sw} {h h0 : Hw} {D : EnW} {A A0 : Wd} {H H0 : Hp} {τ : L2.St}, t D σ h → Ext A0 h0 H0 A h H → WR X.K A h H → RS X.K A H σ τ → wB X sts (EnV X.K A0 h0 H0 D) τ H
section
variable {X : Cx} {e a b c : Expr} {es : List Expr} {sts body els : List Stmt} {t ta tb tc : TW} {tt tt' : TTW} {tas : TAW} {σ : Sw} {h : Hw} {A : Wd} {H : Hp} {τ : L2.St} {pos p q : Pos} {Q : QU}
theorem TrE.bind {R : VK} (r : TrE X e t) (ht : t σ h Q) (wr : WR X.K A h H) (rs : RS X.K A H σ τ)
    (k : ∀ v H' B h' u, Ext A h H B h' H' → WR X.K B h' H' → RU X.K B H' u v → RS X.K B H' σ τ → Q u h' → R v H') : wE X e τ H R :=
  wE_mono (r.run ht wr rs) fun v H' ⟨B, h', u, e1, w1, r1, q1⟩ => k v H' B h' u e1 w1 r1 (rs.ext wr e1) q1
theorem TrT.bind {R : Bool → Hp → Prop} {Q : Bool → Hw → Prop} (r : TrT X e tt) (ht : tt σ h Q) (wr : WR X.K A h H) (rs : RS X.K A H σ τ)
    (k : ∀ v H' B h', Ext A h H B h' H' → WR X.K B h' H' → RS X.K B H' σ τ → Q v h' → R v H') : wT X e τ H R :=
  wT_mono (r.run ht wr rs) fun v H' ⟨B, h', e1, w1, q1⟩ => k v H' B h' e1 w1 (rs.ext wr e1) q1
theorem TrA.bind {R : List V → Hp → Prop} {Q : List U → Hw → Prop} (r : TrA X es tas) (ht : tas σ h Q) (wr : WR X.K A h H) (rs : RS X.K A H σ τ)
    (k : ∀ vs H' B h' us, Ext A h H B h' H' → WR X.K B h' H' → RUs X.K B H' us vs → RS X.K B H' σ τ → Q us h' → R vs H') : wA X es τ H R :=
  wA_mono (r.run ht wr rs) fun v H' ⟨B, h', u, e1, w1, r1, q1⟩ => k v H' B h' u e1 w1 r1 (rs.ext wr e1) q1
theorem EPw.trans {K : PySem.W.Frag} {B : Wd} {h1 : Hw} {H1 : Hp} {v : V} {H' : Hp} (e : Ext A h H B h1 H1) (r : EPw K B h1 H1 Q v H') : EPw K A h H Q v H' := by
  obtain ⟨C, h', u, e1, w1, r1, q1⟩ := r
  exact ⟨C, h', u, e.trans e1, w1, r1, q1⟩
/-- an answer that leaves the world as it is, up to new things -/
theorem EPw.mk {K : PySem.W.Frag} {u : U} {v : V} {H' : Hp} (wr : WR K A h H) (s : Same H H') (r : RU K A H' u v) (q : Q u h) : EPw K A h H Q v H' := ⟨A, h, u, .same s, wr.same s, r, q⟩
/-! ### names, constants -/
def sVar (i : Nat) : TW := fun σ h Q => match σ[i]? with
  | some (some u) => Q u h
  | _ => False
theorem tr_name {i : Nat} {x : Str} (pe : PE X (.Name x p) (tVar i)) : TrE X (.Name x p) (sVar i) := ⟨fun {σ h Q A H τ} ht wr rs => by
  unfold sVar at ht
  split at ht
  · rename_i u eq
    obtain ⟨v, z, y⟩ := rs.at_ i u eq
    exact w_E pe ⟨v, z, .mk wr (.refl _) y ht⟩
  · exact ht.elim⟩
def sC (w : W) : TW := fun _ h Q => Q (.v w) h
theorem tr_c {w : W} {v : V} (pe : PE X e (tC v)) (hr : ∀ gs F H, RV X.K gs F H w v) : TrE X e (sC w) := ⟨fun {σ h Q A H τ} ht wr rs => w_E pe (.mk wr (.refl _) (.of (hr _ _ _)) ht)⟩
abbrev sI (i : Int) : TW := sC (.dat (.int i))
abbrev sBl (b : Bool) : TW := sC (.dat (.bool b))
abbrev sStr (x : Str) : TW := sC (.dat (.str x))
abbrev sNone : TW := sC (.dat .none)
theorem tr_int {i : Int} {j} : TrE X (.Constant (.int i) j p) (sI i) := tr_c pe_int fun _ _ _ => .dat (.int _)
theorem tr_bl {i : Bool} {j} : TrE X (.Constant (.bool i) j p) (sBl i) := tr_c pe_bl fun _ _ _ => .dat (.bl _)
theorem tr_str {i : Str} {j} : TrE X (.Constant (.str i) j p) (sStr i) := tr_c pe_str fun _ _ _ => .dat (.str _)
theorem tr_none {j} : TrE X (.Constant .none j p) sNone := tr_c pe_non fun _ _ _ => .dat .non
/-! ### operators -/
def OpW (X : Cx) (f : Value → Value → Sem Value) (g : U → U → Hw → QU → Prop) : Prop := ∀ (A : Wd) (h : Hw) (H : Hp) (x y : U) (v u : V) (Q : QU) (R : VK), WR X.K A h H → RU X.K A H x v → RU X.K A H y u → g x y h Q → (∀ z H', EPw X.K A h H Q z H' → R z H') → ∃ r : R2, OpR X f r ∧ r v u H R
def rAny (X : Cx) (f : Value → Value → Sem Value) : R2 := fun x y H Q => ∃ r : R2, OpR X f r ∧ r x y H Q
theorem op_any {f : Value → Value → Sem Value} : OpR X f (rAny X f) := fun pins s σ H x y v u Q I rx ry ⟨r, ho, hr⟩ => ho pins s σ H x y v u Q I rx ry hr
def s2 (ta tb : TW) (g : U → U → Hw → QU → Prop) : TW := fun σ h Q => ta σ h fun x h1 => tb σ h1 fun y h2 => g x y h2 Q
theorem tr_op {op : Operator} {g : U → U → Hw → QU → Prop} (ho : OpW X (binaryOp op) g) (ha : TrE X a ta) (hb : TrE X b tb) : TrE X (.BinOp a op b pos) (s2 ta tb g) := ⟨fun {σ h Q A H τ} ht wr rs => w_E (pe_op op_any pw_E pw_E)
  (ha.bind ht wr rs fun v H1 B h1 x e1 w1 r1 rs1 q1 => hb.bind q1 w1 rs1 fun u H2 C h2 y e2 w2 r2 rs2 q2 => ho C h2 H2 x y v u Q _ w2 (r1.ext w1 e2) r2 q2 fun z H' r => .trans (e1.trans e2) r)⟩
theorem tr_cmp {op : CmpOp} {g : U → U → Hw → QU → Prop} (ho : OpW X (compareOp op) g) (ha : TrE X a ta) (hb : TrE X b tb) (hm : behindInMarks op b = false) : TrE X (.Compare a [op] [b] pos) (s2 ta tb g) := ⟨fun {σ h Q A H τ} ht wr rs => w_E (pe_cmpR op_any pw_E pw_E hm)
  (ha.bind ht wr rs fun v H1 B h1 x e1 w1 r1 rs1 q1 => hb.bind q1 w1 rs1 fun u H2 C h2 y e2 w2 r2 rs2 q2 => ho C h2 H2 x y v u Q _ w2 (r1.ext w1 e2) r2 q2 fun z H' r => .trans (e1.trans e2) r)⟩
/-- an answer that is to be a bool -/
def asB (Q : Bool → Hw → Prop) : QU := fun u h => match u with
  | .v (.dat (.bool b)) => Q b h
  | _ => False
theorem asB.out {Q : Bool → Hw → Prop} {u : U} {h : Hw} (q : asB Q u h) : ∃ b, u = .v (.dat (.bool b)) ∧ Q b h := by
  unfold asB at q
  split at q
  · exact ⟨_, rfl, q⟩
  · exact q.elim
theorem EPw.bool {K : PySem.W.Frag} {Q : Bool → Hw → Prop} {v : V} {H' : Hp} (r : EPw K A h H (asB Q) v H') : ∃ k, v = .bl k ∧ TPw K A h H Q k H' := by
  obtain ⟨B, h', u, e1, w1, r1, q1⟩ := r
  obtain ⟨k, rfl, q⟩ := q1.out
  have r1 : RV K B.gs B.F H' (.dat (.bool k)) v := r1
  cases r1 with
  | dat r1 =>
    cases r1
    exact ⟨k, rfl, B, h', e1, w1, q⟩
def sB (t : TW) : TTW := fun σ h Q => t σ h (asB Q)
theorem trt_cmp {op : CmpOp} {g : U → U → Hw → QU → Prop} (ho : OpW X (compareOp op) g) (ha : TrE X a ta) (hb : TrE X b tb) (hm : behindInMarks op b = false) : TrT X (.Compare a [op] [b] pos) (sB (s2 ta tb g)) := ⟨fun {σ h Q A H τ} ht wr rs => w_T (pt_cmpR op_any pw_E pw_E hm)
  (ha.bind ht wr rs fun v H1 B h1 x e1 w1 r1 rs1 q1 => hb.bind q1 w1 rs1 fun u H2 C h2 y e2 w2 r2 rs2 q2 => ho C h2 H2 x y v u (asB Q) _ w2 (r1.ext w1 e2) r2 q2 fun z H' r => EPw.bool (.trans (e1.trans e2) r))⟩
theorem trt_val (he : TrE X e t) (hv : ∀ whole, isTrue e X.env whole = (do let v ← whole; standAt e.pos; holding [v] (truthy v)) := by intro _; rfl) : TrT X e (sB t) := ⟨fun {σ h Q A H τ} ht wr rs => w_T (pt_val pw_E hv) (wE_mono (he.run ht wr rs) fun z H' r => EPw.bool r)⟩
theorem trt_w (hw : TrW X e tt) : TrT X e tt := ⟨fun {σ h Q A H τ} ht wr rs => w_T pw_W.pt (hw.run ht wr rs)⟩
def sNot (t : TTW) : TTW := fun σ h Q => t σ h fun b h1 => Q (!b) h1
theorem trt_not (ha : TrT X a tt) : TrT X (.UnaryOp .Not a pos) (sNot tt) := ⟨fun {σ h Q A H τ} ht wr rs => w_T (pt_not pw_T) (wT_mono (ha.run ht wr rs) fun z H' r => r)⟩
theorem trw_or1 (ha : TrT X a tt) : TrW X (.BoolOp .Or [a] p) tt := ⟨fun {σ h Q A H τ} ht wr rs => w_W (pw_or1 pw_T) (ha.run ht wr rs)⟩
theorem trw_and1 (ha : TrT X a tt) : TrW X (.BoolOp .And [a] p) tt := ⟨fun {σ h Q A H τ} ht wr rs => w_W (pw_and1 pw_T) (ha.run ht wr rs)⟩
def sAnd (t t' : TTW) : TTW := fun σ h Q => t σ h fun b h1 => if b = true then t' σ h1 Q else Q false h1
def sOr (t t' : TTW) : TTW := fun σ h Q => t σ h fun b h1 => if b = true then Q true h1 else t' σ h1 Q
theorem TPw.trans {K : PySem.W.Frag} {B : Wd} {h1 : Hw} {H1 : Hp} {v : Bool} {H' : Hp} {Q : Bool → Hw → Prop} (e : Ext A h H B h1 H1) (r : TPw K B h1 H1 Q v H') : TPw K A h H Q v H' := by
  obtain ⟨C, h', e1, w1, q1⟩ := r
  exact ⟨C, h', e.trans e1, w1, q1⟩
theorem trw_or (ha : TrT X a tt) (hb : TrW X (.BoolOp .Or (b :: es) p) tt') : TrW X (.BoolOp .Or (a :: b :: es) p) (sOr tt tt') := ⟨fun {σ h Q A H τ} ht wr rs => w_W (pw_or pw_T pw_W) (ha.bind ht wr rs fun v H1 B h1 e1 w1 rs1 q1 => by
  cases v with
  | true => exact ⟨B, h1, e1, w1, q1⟩
  | false => exact wW_mono (hb.run q1 w1 rs1) fun z H' r => .trans e1 r)⟩
theorem trw_and (ha : TrT X a tt) (hb : TrW X (.BoolOp .And (b :: es) p) tt') : TrW X (.BoolOp .And (a :: b :: es) p) (sAnd tt tt') := ⟨fun {σ h Q A H τ} ht wr rs => w_W (pw_and pw_T pw_W) (ha.bind ht wr rs fun v H1 B h1 e1 w1 rs1 q1 => by
  cases v with
  | true => exact wW_mono (hb.run q1 w1 rs1) fun z H' r => .trans e1 r
  | false => exact ⟨B, h1, e1, w1, q1⟩)⟩
/-! and, or, not as values, of bools -/
def sAndV (t t' : TW) : TW := fun σ h Q => t σ h (asB fun b h1 => if b = true then t' σ h1 Q else Q (.v (.dat (.bool false))) h1)
def sOrV (t t' : TW) : TW := fun σ h Q => t σ h (asB fun b h1 => if b = true then Q (.v (.dat (.bool true))) h1 else t' σ h1 Q)
theorem EPw.ofBool {K : PySem.W.Frag} {b : Bool} (wr : WR K A h H) (q : Q (.v (.dat (.bool b))) h) : EPw K A h H Q (.bl b) H := .mk wr (.refl _) (.dat (.bl _)) q
theorem tr_one {op} (ha : TrE X a ta) : TrE X (.BoolOp op [a] p) ta := ⟨fun {σ h Q A H τ} ht wr rs => w_E (pe_one pw_E) (ha.run ht wr rs)⟩
theorem tr_and (ha : TrE X a ta) (hb : TrE X (.BoolOp .And (b :: es) p) tb) : TrE X (.BoolOp .And (a :: b :: es) p) (sAndV ta tb) := ⟨fun {σ h Q A H τ} ht wr rs => w_E (pe_and pw_E pw_E) (wE_mono (ha.run ht wr rs) fun z H1 r => by
  obtain ⟨k, rfl, B, h1, e1, w1, q1⟩ := r.bool
  refine ⟨k, rfl, ?_⟩
  cases k with
  | true => exact wE_mono (hb.run q1 w1 (rs.ext wr e1)) fun z H' r => .trans e1 r
  | false => exact .trans e1 (.ofBool w1 q1))⟩
theorem tr_or (ha : TrE X a ta) (hb : TrE X (.BoolOp .Or (b :: es) p) tb) : TrE X (.BoolOp .Or (a :: b :: es) p) (sOrV ta tb) := ⟨fun {σ h Q A H τ} ht wr rs => w_E (pe_or pw_E pw_E) (wE_mono (ha.run ht wr rs) fun z H1 r => by
  obtain ⟨k, rfl, B, h1, e1, w1, q1⟩ := r.bool
  refine ⟨k, rfl, ?_⟩
  cases k with
  | true => exact .trans e1 (.ofBool w1 q1)
  | false => exact wE_mono (hb.run q1 w1 (rs.ext wr e1)) fun z H' r => .trans e1 r)⟩
def sNotV (t : TW) : TW := fun σ h Q => t σ h (asB fun b h1 => Q (.v (.dat (.bool (!b)))) h1)
theorem tr_not (ha : TrE X a ta) : TrE X (.UnaryOp .Not a p) (sNotV ta) := ⟨fun {σ h Q A H τ} ht wr rs => w_E (pe_not pw_E) (wE_mono (ha.run ht wr rs) fun z H1 r => by
  obtain ⟨k, rfl, B, h1, e1, w1, q1⟩ := r.bool
  exact ⟨k, rfl, .trans e1 (.ofBool w1 q1)⟩)⟩
def sIf (t : TTW) (ta tb : TW) : TW := fun σ h Q => t σ h fun b h1 => if b = true then ta σ h1 Q else tb σ h1 Q
theorem tr_if (hc : TrT X c tt) (ha : TrE X a ta) (hb : TrE X b tb) : TrE X (.IfExp c a b p) (sIf tt ta tb) := ⟨fun {σ h Q A H τ} ht wr rs => w_E (pe_ifExp pw_T pw_E pw_E) (hc.bind ht wr rs fun v H1 B h1 e1 w1 rs1 q1 => by
  cases v with
  | true => exact wE_mono (ha.run q1 w1 rs1) fun z H' r => .trans e1 r
  | false => exact wE_mono (hb.run q1 w1 rs1) fun z H' r => .trans e1 r)⟩
/-! ### arguments, tuples -/
def sNil : TAW := fun _ h Q => Q [] h
def sCons (t : TW) (r : TAW) : TAW := fun σ h Q => t σ h fun u h1 => r σ h1 fun us h2 => Q (u :: us) h2
theorem tra_nil : TrA X [] sNil := ⟨fun {σ h Q A H τ} ht wr rs => w_A pa_nil ⟨A, h, [], .refl, wr, .nil, ht⟩⟩
theorem tra_cons (ha : TrE X e t) (hr : TrA X es tas) (hs : starEach (e :: es) X.env = (false, eval e X.env) :: starEach es X.env := by rfl) : TrA X (e :: es) (sCons t tas) := ⟨fun {σ h Q A H τ} ht wr rs =>
  w_A (pa_cons pw_E pw_A hs) (ha.bind ht wr rs fun v H1 B h1 x e1 w1 r1 rs1 q1 => hr.bind q1 w1 rs1 fun us H2 C h2 y e2 w2 r2 rs2 q2 => ⟨C, h2, x :: y, e1.trans e2, w2, .cons (r1.ext w1 e2) r2, q2⟩)⟩
/-- all are data -/
def datU : List U → Option (List PyData)
  | [] => some []
  | .v (.dat d) :: us => match datU us with
    | some ds => some (d :: ds)
    | none => none
  | _ => none
def valU : List U → Option (List W)
  | [] => some []
  | .v w :: us => match valU us with
    | some ds => some (w :: ds)
    | none => none
  | _ => none
theorem datU.rds {K : PySem.W.Frag} : ∀ {us : List U} {vs : List V} {ds : List PyData}, datU us = some ds → RUs K A H us vs → RDs K A.F H ds vs
  | [], _, ds, e, .nil => by
    cases e
    exact .nil
  | .l n :: us, _, ds, e, _ => by cases e
  | .v w :: us, _, ds, e, .cons q r => by
    cases w with
    | dat d =>
      unfold datU at e
      split at e
      · rename_i ds' e'
        cases e
        cases q with
        | dat q => exact .cons q (datU.rds e' r)
      · cases e
    | _ => cases e
theorem valU.rvs {K : PySem.W.Frag} : ∀ {us : List U} {vs : List V} {ds : List W}, valU us = some ds → RUs K A H us vs → RVs K A.gs A.F H ds vs
  | [], _, ds, e, .nil => by
    cases e
    exact .nil
  | .l n :: us, _, ds, e, _ => by cases e
  | .v w :: us, _, ds, e, .cons q r => by
    unfold valU at e
    split at e
    · rename_i ds' e'
      cases e
      exact .cons q (valU.rvs e' r)
    · cases e
theorem datU.len : ∀ {us : List U} {ds : List PyData}, datU us = some ds → us.length = ds.length
  | [], ds, e => by cases e; rfl
  | .l n :: us, ds, e => by cases e
  | .v w :: us, ds, e => by
    cases w with
    | dat d =>
      unfold datU at e
      split at e
      · rename_i ds' e'
        cases e
        rw [List.length_cons, datU.len e']
        rfl
      · cases e
    | _ => cases e
theorem valU.len : ∀ {us : List U} {ds : List W}, valU us = some ds → us.length = ds.length
  | [], ds, e => by cases e; rfl
  | .l n :: us, ds, e => by cases e
  | .v w :: us, ds, e => by
    unfold valU at e
    split at e
    · rename_i ds' e'
      cases e
      rw [List.length_cons, valU.len e']
      rfl
    · cases e
/-- a row of values as one value: a datum, if all are -/
def mkT (us : List U) (h : Hw) (Q : QU) : Prop := match datU us with
  | some ds => Q (.v (.dat (.tuple ds))) h
  | none => match valU us with
    | some ws => Q (.v (.tup ws)) h
    | none => False
def sTup (t : TAW) : TW := fun σ h Q => t σ h fun us h1 => us.length ≤ 1000 ∧ mkT us h1 Q
theorem small_sz {n : Nat} (h : n ≤ 1000) : n ≤ sizeLine := Nat.le_of_lt (small1000 h)
theorem Stay.new {H : Hp} {F : Addr → Prop} {q : Addr} {o : HO} (n : H q = none) : Stay F F H (upd H q o) := by
  have s : Same H (upd H q o) := same_new n
  exact ⟨fun _ f => f, fun a x _ e => s _ _ e, fun a xs e => s _ _ e, fun a x u e => s _ _ e⟩
theorem tr_tup {k : Nat} (ha : TrA X es tas) : TrE X (.Tuple es k p) (sTup tas) := ⟨fun {σ h Q A H τ} ht wr rs => w_E (pe_tup pw_A) (ha.bind ht wr rs fun vs H1 B h1 us e1 w1 r1 rs1 ⟨hl, q1⟩ => by
  refine ⟨by rw [r1.len]; exact small_sz hl, fun a ha => .trans e1 ?_⟩
  have s := same_new (o := .tup vs) ha
  unfold mkT at q1
  split at q1
  · rename_i ds e
    exact .mk w1 s (.dat (.tup (.of upd_same) (RDs.mono (.new ha) _ _ (datU.rds e r1)))) q1
  · split at q1
    · rename_i ws e
      exact .mk w1 s (.of (.tup (.of upd_same) (RVs.mono (.new ha) (fun _ _ z => z) _ _ (valU.rvs e r1)))) q1
    · exact q1.elim)⟩
end
end Wl

/-! the world: new things, frozen things, calls -/
namespace Wl
open PySem PySem.Spec PyProof.Rows L2 Cb
section
variable {K : PySem.W.Frag} {A B C : Wd} {h h1 h2 : Hw} {H H1 H2 : Hp}
theorem WR.ndg (w : WR K A h H) : A.gs.Nodup := (List.nodup_append.mp w.nd).1
theorem WR.ndl (w : WR K A h H) : A.ls.Nodup := (List.nodup_append.mp w.nd).2.1
theorem WR.dis (w : WR K A h H) {a : Addr} (m : a ∈ A.gs) (n : a ∈ A.ls) : False := (List.nodup_append.mp w.nd).2.2 a m a n rfl
/-- the callers' world of a call that may reach the shared heap -/
def Wd.bare (A : Wd) : Wd := ⟨A.gs, [], A.F⟩
theorem liv_bare {g l : List Ob} {a : Addr} (q : Liv A.bare ⟨g, []⟩ a) : Liv A ⟨g, l⟩ a ∧ a ∈ A.gs := by
  obtain ⟨n, o, ho, ⟨e, z⟩ | ⟨e, z⟩⟩ := q
  · exact ⟨⟨n, o, ho, .inl ⟨e, z⟩⟩, List.mem_of_getElem? e⟩
  · exact absurd e (by show ¬ ([] : List Addr)[n]? = some a; simp)
theorem WR.bare {g l : List Ob} (w : WR K A ⟨g, l⟩ H) : WR K A.bare ⟨g, []⟩ H :=
  ⟨w.gl, rfl, w.gc, fun n a o e _ => absurd e (by show ¬ ([] : List Addr)[n]? = some a; simp), by show (A.gs ++ []).Nodup; rw [List.append_nil]; exact w.ndg, fun a q => w.nf a (liv_bare (l := l) q).1, w.ft⟩
/-- behind such a call -/
theorem call_back {g g' l : List Ob} (w : WR K A ⟨g, l⟩ H) (e : Ext A.bare ⟨g, []⟩ H B ⟨g', []⟩ H1) (w1 : WR K B ⟨g', []⟩ H1) :
    Ext A ⟨g, l⟩ H ⟨B.gs, A.ls, B.F⟩ ⟨g', l⟩ H1 ∧ WR K ⟨B.gs, A.ls, B.F⟩ ⟨g', l⟩ H1 := by
  have nl : ∀ a, a ∈ A.ls → ¬ Liv A.bare ⟨g, []⟩ a := fun a m q => w.dis (liv_bare (l := l) q).2 m
  have st := e.stay w.bare
  have bl : B.ls = [] := List.length_eq_zero_iff.mp w1.ll
  have lvc : ∀ a, Liv ⟨B.gs, A.ls, B.F⟩ ⟨g', l⟩ a → Liv B ⟨g', []⟩ a ∨ ∃ (n : Nat) (o : Ob), o ≠ Ob.gone ∧ A.ls[n]? = some a ∧ l[n]? = some o := by
    rintro a ⟨n, o, ho, ⟨q, z⟩ | ⟨q, z⟩⟩
    · exact .inl ⟨n, o, ho, .inl ⟨q, z⟩⟩
    · exact .inr ⟨n, o, ho, q, z⟩
  refine ⟨⟨e.gs, fun _ _ q => q, fun a o q n => e.kp a o q fun z => n (liv_bare z).1, e.th, e.fs, fun a f => ?_, fun a q => ?_, e.gn, fun a m => .inl m⟩, ⟨w1.gl, w.ll, w1.gc, fun n a o q z => ?_, ?_, fun a q f => ?_, w1.ft⟩⟩
  · rcases e.fn a f with z | z | z
    · exact .inl z
    · exact .inr (.inl z)
    · exact .inr (.inr (liv_bare z).1)
  · rcases lvc a q with z | ⟨n, o, ho, q, z⟩
    · rcases e.lv a z with y | y
      · exact .inl (liv_bare y).1
      · exact .inr y
    · exact .inl ⟨n, o, ho, .inr ⟨q, z⟩⟩
  · exact (w.lc n a o q z).mono st e.gs fun x hx => e.kp a x hx (nl a (List.mem_of_getElem? q))
  · refine List.nodup_append.mpr ⟨w1.ndg, w.ndl, fun a m b n eq => ?_⟩
    subst eq
    rcases e.gn a m with z | z
    · exact w.dis z n
    · exact (w.nin z).2 n
  · rcases lvc a q with z | ⟨n, o, ho, q, z⟩
    · exact w1.nf a z f
    · have la : Liv A ⟨g, l⟩ a := ⟨n, o, ho, .inr ⟨q, z⟩⟩
      rcases e.fn a f with y | y | y
      · exact w.nf a la y
      · exact (w.nin y).2 (List.mem_of_getElem? q)
      · exact nl a (List.mem_of_getElem? q) y
/-- a world without shared things, for a call that reaches none -/
def Wd.pure (F : Addr → Prop) : Wd := ⟨[], [], F⟩
theorem liv_pure {F : Addr → Prop} {a : Addr} : ¬ Liv (.pure F) ⟨[], []⟩ a := by
  rintro ⟨n, o, _, ⟨e, _⟩ | ⟨e, _⟩⟩ <;> exact absurd e (by show ¬ ([] : List Addr)[n]? = some a; simp)
theorem wr_pure {F : Addr → Prop} (ft : ∀ a, F a → H a ≠ none) : WR K (.pure F) ⟨[], []⟩ H :=
  ⟨rfl, rfl, fun n a o e _ => absurd e (by show ¬ ([] : List Addr)[n]? = some a; simp), fun n a o e _ => absurd e (by show ¬ ([] : List Addr)[n]? = some a; simp), List.nodup_nil, fun a q => absurd q liv_pure, ft⟩
theorem pure_back {F : Addr → Prop} {g' : List Ob} (w : WR K A h H) (w1 : WR K B ⟨g', []⟩ H1) (e : Ext (.pure F) ⟨[], []⟩ H B ⟨g', []⟩ H1) :
    Ext A h H ⟨A.gs, A.ls, fun a => A.F a ∨ (B.F a ∧ H a = none)⟩ h H1 ∧ WR K ⟨A.gs, A.ls, fun a => A.F a ∨ (B.F a ∧ H a = none)⟩ h H1 := by
  have kp : ∀ a o, H a = some o → H1 a = some o := fun a o q => e.kp a o q liv_pure
  have st : Stay A.F (fun a => A.F a ∨ (B.F a ∧ H a = none)) H H1 := ⟨fun _ f => .inl f, fun a o _ q => kp a o q, fun a xs q => kp a _ q, fun a o u q => kp a _ q⟩
  refine ⟨⟨fun _ _ q => q, fun _ _ q => q, fun a o q _ => kp a o q, e.th, fun _ f => .inl f, fun a f => f.elim .inl fun f => .inr (.inl f.2), fun a q => .inl q, fun a m => .inl m, fun a m => .inl m⟩,
    ⟨w.gl, w.ll, fun n a o q z => (w.gc n a o q z).mono st (fun _ _ q => q) (kp a), fun n a o q z => (w.lc n a o q z).mono st (fun _ _ q => q) (kp a), w.nd, fun a q f => ?_, fun a f => ?_⟩⟩
  · rcases f with f | f
    · exact w.nf a q f
    · obtain ⟨o, ho, r⟩ := w.liv q
      obtain ⟨x, hx⟩ := r.sm
      rw [f.2] at hx
      cases hx
  · rcases f with f | f
    · exact fun n => w.ft a f (e.th a n)
    · exact w1.ft a f.1
/-- a new list that nobody will change -/
def Wd.frz (A : Wd) (a : Addr) : Wd := ⟨A.gs, A.ls, fun b => A.F b ∨ b = a⟩
theorem new_frz {a : Addr} {o : HO} (w : WR K A h H) (n : H a = none) : Ext A h H (A.frz a) h (upd H a o) ∧ WR K (A.frz a) h (upd H a o) := by
  have s : Same H (upd H a o) := same_new n
  have st : Stay A.F (A.frz a).F H (upd H a o) := ⟨fun _ f => .inl f, fun b x _ q => s _ _ q, fun b xs q => s _ _ q, fun b x u q => s _ _ q⟩
  refine ⟨⟨fun _ _ q => q, fun _ _ q => q, fun b x q _ => s _ _ q, (Ext.same (A := A) (h := h) s).th, fun _ f => .inl f, fun b f => f.elim .inl fun e => .inr (.inl (e ▸ n)), fun b q => .inl q, fun b m => .inl m, fun b m => .inl m⟩,
    ⟨w.gl, w.ll, fun i b x q z => (w.gc i b x q z).mono st (fun _ _ q => q) fun x hx => s _ _ hx, fun i b x q z => (w.lc i b x q z).mono st (fun _ _ q => q) fun x hx => s _ _ hx, w.nd, fun b q f => ?_, fun b f => ?_⟩⟩
  · have q' : Liv A h b := q
    rcases f with f | f
    · exact w.nf b q' f
    · obtain ⟨o', ho, r⟩ := w.liv q'
      obtain ⟨x, hx⟩ := r.sm
      rw [f, n] at hx
      cases hx
  · rcases f with f | f
    · exact fun z => w.ft b f ((Ext.same (A := A) (h := h) s).th b z)
    · rw [f, upd_same]
      exact fun z => by cases z
/-- a new thing of this def's own -/
def Wd.own (A : Wd) (a : Addr) : Wd := ⟨A.gs, A.ls ++ [a], A.F⟩
def Hw.own (h : Hw) (o : Ob) : Hw := ⟨h.g, h.l ++ [o]⟩
theorem snoc_at {α : Type} {l : List α} {x y : α} {n : Nat} (e : (l ++ [x])[n]? = some y) : l[n]? = some y ∨ (n = l.length ∧ y = x) := by
  by_cases q : n < l.length
  · rw [List.getElem?_append_left q] at e
    exact .inl e
  · rw [List.getElem?_append_right (by omega)] at e
    by_cases z : n - l.length = 0
    · rw [z] at e
      cases e
      exact .inr ⟨by omega, rfl⟩
    · have : ([x] : List α)[n - l.length]? = none := List.getElem?_eq_none_iff.mpr (by simp; omega)
      rw [this] at e
      cases e
theorem new_own {a : Addr} {o : HO} {ob : Ob} (w : WR K A h H) (n : H a = none) (r : RO K A.gs A.F (upd H a o) ob a) : Ext A h H (A.own a) (h.own ob) (upd H a o) ∧ WR K (A.own a) (h.own ob) (upd H a o) := by
  have s : Same H (upd H a o) := same_new n
  have st : Stay A.F A.F H (upd H a o) := ⟨fun _ f => f, fun b x _ q => s _ _ q, fun b xs q => s _ _ q, fun b x u q => s _ _ q⟩
  have lv : ∀ b, Liv (A.own a) (h.own ob) b → Liv A h b ∨ b = a := by
    rintro b ⟨i, x, hx, ⟨q, z⟩ | ⟨q, z⟩⟩
    · exact .inl ⟨i, x, hx, .inl ⟨q, z⟩⟩
    · rcases snoc_at q with q | ⟨q, e⟩
      · rcases snoc_at z with z | ⟨z, _⟩
        · exact .inl ⟨i, x, hx, .inr ⟨q, z⟩⟩
        · have := (List.getElem?_eq_some_iff.mp q).1
          have := w.ll
          omega
      · exact .inr e
  refine ⟨⟨fun _ _ q => q, fun i b q => ?_, fun b x q _ => s _ _ q, (Ext.same (A := A) (h := h) s).th, fun _ f => f, fun b f => .inl f, fun b q => ?_, fun b m => .inl m, fun b m => ?_⟩,
    ⟨w.gl, ?_, fun i b x q z => (w.gc i b x q z).mono st (fun _ _ q => q) fun x hx => s _ _ hx, fun i b x q z => ?_, ?_, fun b q f => ?_, fun b f z => w.ft b f ((Ext.same (A := A) (h := h) s).th b z)⟩⟩
  · show (A.ls ++ [a])[i]? = some b
    rw [List.getElem?_append_left (List.getElem?_eq_some_iff.mp q).1]
    exact q
  · rcases lv b q with z | z
    · exact .inl z
    · exact .inr (z ▸ n)
  · rcases List.mem_append.mp m with m | m
    · exact .inl m
    · rw [List.mem_singleton.mp m]
      exact .inr n
  · show (A.ls ++ [a]).length = (h.l ++ [ob]).length
    rw [List.length_append, List.length_append, w.ll]
    rfl
  · rcases snoc_at q with q | ⟨q, e⟩
    · rcases snoc_at z with z | ⟨z, _⟩
      · exact (w.lc i b x q z).mono st (fun _ _ q => q) fun x hx => s _ _ hx
      · have := (List.getElem?_eq_some_iff.mp q).1
        have := w.ll
        omega
    · subst e
      rcases snoc_at z with z | ⟨_, z⟩
      · have := (List.getElem?_eq_some_iff.mp z).1
        have := w.ll
        omega
      · rw [z]
        exact r
  · show (A.gs ++ (A.ls ++ [a])).Nodup
    rw [← List.append_assoc]
    refine List.nodup_append.mpr ⟨w.nd, by simp, fun b m c m' e => ?_⟩
    rw [List.mem_singleton.mp m'] at e
    subst e
    rcases List.mem_append.mp m with m | m
    · exact (w.nin n).1 m
    · exact (w.nin n).2 m
  · rcases lv b q with z | z
    · exact w.nf b z f
    · subst z
      exact w.ft b f n
end
end Wl

/-! freezing, calls, statements, defs -/
namespace Wl
open PySem PySem.Spec PyProof.Rows L2 Cb
def Hw.kill (h : Hw) (n : Nat) : Hw := ⟨h.g, h.l.set n .gone⟩
section
variable {K : PySem.W.Frag} {A B C : Wd} {h h1 h2 : Hw} {H H1 H2 : Hp}
theorem set_gone {l : List Ob} {n i : Nat} {o : Ob} (e : (l.set n .gone)[i]? = some o) : (i = n ∧ o = .gone) ∨ (i ≠ n ∧ l[i]? = some o) := by
  by_cases q : n = i
  · subst q
    rw [List.getElem?_set, if_pos rfl] at e
    split at e
    · cases e
      exact .inl ⟨rfl, rfl⟩
    · cases e
  · rw [List.getElem?_set_ne q] at e
    exact .inr ⟨Ne.symm q, e⟩
/-- a thing of this def's own becomes a value -/
theorem own_frz {n : Nat} {a : Addr} {o : Ob} (w : WR K A h H) (ea : A.ls[n]? = some a) (eo : h.l[n]? = some o) (ho : o ≠ .gone) : Ext A h H (A.frz a) (h.kill n) H ∧ WR K (A.frz a) (h.kill n) H := by
  have st : Stay A.F (A.frz a).F H H := ⟨fun _ f => .inl f, fun _ _ _ q => q, fun _ _ q => q, fun _ _ _ q => q⟩
  have la : Liv A h a := ⟨n, o, ho, .inr ⟨ea, eo⟩⟩
  have lv : ∀ b, Liv (A.frz a) (h.kill n) b → Liv A h b ∧ b ≠ a := by
    rintro b ⟨i, x, hx, ⟨q, z⟩ | ⟨q, z⟩⟩
    · exact ⟨⟨i, x, hx, .inl ⟨q, z⟩⟩, fun e => w.dis (List.mem_of_getElem? q) (e ▸ List.mem_of_getElem? ea)⟩
    · rcases set_gone z with ⟨_, z⟩ | ⟨ne, z⟩
      · exact absurd z hx
      · exact ⟨⟨i, x, hx, .inr ⟨q, z⟩⟩, fun e => ne ((List.getElem?_inj (by exact (List.getElem?_eq_some_iff.mp q).1) w.ndl).mp (by
          have q' : A.ls[i]? = some b := q
          rw [q', ea, e]))⟩
  have ta : ∃ x, H a = some x := (w.lc n a o ea eo).sm
  refine ⟨⟨fun _ _ q => q, fun _ _ q => q, fun _ _ q _ => q, fun _ q => q, fun _ f => .inl f, fun b f => f.elim .inl fun e => .inr (.inr (e ▸ la)), fun b q => .inl (lv b q).1, fun _ m => .inl m, fun _ m => .inl m⟩,
    ⟨w.gl, ?_, fun i b x q z => (w.gc i b x q z).mono st (fun _ _ q => q) fun _ e => e, fun i b x q z => ?_, w.nd, fun b q f => ?_, fun b f => ?_⟩⟩
  · show A.ls.length = (h.l.set n .gone).length
    rw [List.length_set]
    exact w.ll
  · rcases set_gone z with ⟨e, y⟩ | ⟨ne, z⟩
    · subst e
      subst y
      have q' : A.ls[i]? = some b := q
      rw [ea] at q'
      cases q'
      exact ta
    · exact (w.lc i b x q z).mono st (fun _ _ q => q) fun _ e => e
  · rcases f with f | f
    · exact w.nf b (lv b q).1 f
    · exact (lv b q).2 f
  · rcases f with f | f
    · exact w.ft b f
    · obtain ⟨x, e⟩ := ta
      rw [f, e]
      exact fun z => by cases z
/-- what a def gives back -/
def frzU (u : U) (h : Hw) (Q : W → Hw → Prop) : Prop := match u with
  | .v w => Q w h
  | .l n => match h.l[n]? with
    | some (.lsd ds) => Q (.dat (.list ds)) (h.kill n)
    | some (.lst ws) => Q (.lst ws) (h.kill n)
    | _ => False
theorem frz_ok {u : U} {v : V} {Q : W → Hw → Prop} (w : WR K A h H) (r : RU K A H u v) (q : frzU u h Q) : ∃ B h' x, Ext A h H B h' H ∧ WR K B h' H ∧ RV K B.gs B.F H x v ∧ Q x h' := by
  cases u with
  | v x => exact ⟨A, h, x, .refl, w, r, q⟩
  | l n =>
    obtain ⟨a, ea, rfl⟩ := r
    unfold frzU at q
    dsimp only at q
    split at q
    · rename_i ds eo
      obtain ⟨e1, w1⟩ := own_frz w ea eo (by intro z; cases z)
      obtain ⟨vs, z, t⟩ := w.lc n a _ ea eo
      exact ⟨_, _, _, e1, w1, .dat (.lst (⟨.inr rfl, z⟩) (RDs.mono (e1.stay w) _ _ t)), q⟩
    · rename_i ds eo
      obtain ⟨e1, w1⟩ := own_frz w ea eo (by intro z; cases z)
      obtain ⟨vs, z, t⟩ := w.lc n a _ ea eo
      exact ⟨_, _, _, e1, w1, .lst (⟨.inr rfl, z⟩) (RVs.mono (e1.stay w) e1.gs _ _ t), q⟩
    · exact q.elim
theorem WR.drop {g l : List Ob} (w : WR K A ⟨g, l⟩ H) : WR K A.bare ⟨g, []⟩ H := w.bare
theorem Ext.drop {g g' l : List Ob} (e : Ext A ⟨g, []⟩ H B ⟨g', l⟩ H1) (w : WR K A ⟨g, []⟩ H) (w1 : WR K B ⟨g', l⟩ H1) : Ext A ⟨g, []⟩ H B.bare ⟨g', []⟩ H1 :=
  ⟨e.gs, fun n a q => (by
    have z : A.ls = [] := List.length_eq_zero_iff.mp w.ll
    rw [z] at q
    simp at q), e.kp, e.th, e.fs, e.fn, fun a q => e.lv a (liv_bare (l := l) q).1, e.gn, fun a m => (by cases (show a ∈ ([] : List Addr) from m))⟩
end
/-! ### what a def promises, over values -/
abbrev CW := List W → List Ob → (W → List Ob → Prop) → Prop
def spW (K : PySem.W.Frag) (c : CW) : Sp := fun vs H Q _ => ∃ (A : Wd) (g : List Ob) (ws : List W) (Q0 : W → List Ob → Prop), WR K A ⟨g, []⟩ H ∧ RVs K A.gs A.F H ws vs ∧ c ws g Q0 ∧ ∀ w g', Q0 w g' → ∀ (B : Wd) (H' : Hp) (v : V), Ext A ⟨g, []⟩ H B ⟨g', []⟩ H' → WR K B ⟨g', []⟩ H' → RV K B.gs B.F H' w v → Q v H'
def startW (N : List Str) (ws : List W) : Sw := (ws.map fun w => some (U.v w)) ++ List.replicate (N.length - ws.length) none
def Ar (c : CW) (n : Nat) : Prop := ∀ ws g Q, c ws g Q → ws.length = n
theorem rs_start {K : PySem.W.Frag} {A : Wd} {H : Hp} {N : List Str} {ws : List W} {vs : List V} (r : RVs K A.gs A.F H ws vs) : RS K A H (startW N ws) (L2.start N vs) := by
  refine ⟨?_, fun i u e => ?_⟩
  · unfold startW L2.start
    rw [List.length_append, List.length_append, List.length_map, List.length_map, List.length_replicate, List.length_replicate, r.len]
  · unfold startW at e
    by_cases q : i < ws.length
    · rw [List.getElem?_append_left (by rw [List.length_map]; exact q), List.getElem?_map, List.getElem?_eq_getElem q] at e
      cases e
      obtain ⟨v, hv, rv⟩ := r.at (List.getElem?_eq_getElem q)
      refine ⟨v, ?_, rv⟩
      unfold L2.start
      rw [List.getElem?_append_left (by rw [List.length_map, r.len]; exact q), List.getElem?_map, hv]
      rfl
    · rw [List.getElem?_append_right (by rw [List.length_map]; omega), List.getElem?_replicate] at e
      split at e <;> cases e
def endW (Q : W → List Ob → Prop) : EnW := { nx := fun _ h => Q (.dat .none) h.g, rt := fun w h => Q w h.g }
section
variable {P : Program} {w : World} {K : PySem.W.Frag} {mg : Str → Option Value} {base : Heap} {x qual : Str} {st : Stmt} {f : Addr} {fd : FuncData} {N ps : List Str} {k : Nat} {c : CW}
theorem end_ok {A : Wd} {g : List Ob} {H : Hp} {Q : W → List Ob → Prop} {QV : VK} (wr : WR K A ⟨g, []⟩ H) (q : ∀ w g', Q w g' → ∀ (B : Wd) (H' : Hp) (v : V), Ext A ⟨g, []⟩ H B ⟨g', []⟩ H' → WR K B ⟨g', []⟩ H' → RV K B.gs B.F H' w v → QV v H') :
    (∀ τ H', (EnV K A ⟨g, []⟩ H (endW Q)).nx τ H' → QV .non H') ∧ ∀ v H', (EnV K A ⟨g, []⟩ H (endW Q)).rt v H' → QV v H' := by
  refine ⟨fun τ H' ⟨B, h', σ, e, w1, _, z⟩ => ?_, fun v H' ⟨B, h', y, e, w1, r, z⟩ => ?_⟩
  · obtain ⟨g', l⟩ := h'
    exact q _ _ z B.bare H' _ (e.drop wr w1) w1.drop (.dat .non)
  · obtain ⟨g', l⟩ := h'
    exact q _ _ z B.bare H' _ (e.drop wr w1) w1.drop r
theorem fn_w (F : Fun K x qual st f fd) (S : FnScope N ps (defScope st)) (ar : Ar c ps.length)
    (hb : ∀ (cdv : Value) (A : Around) (outer : List Env) (s : Shared) (H : Hp) (E : XK), Room k (A.deeper (envOfC qual (defScope st) s.heap.objs.size f cdv)) →
      ∃ t, TrB (cxOf CX0 P w K mg base N qual (defScope st) f cdv A outer s H E).nox (defBody st) t ∧ ∀ ws g Q, c ws g Q → t (endW Q) (startW N ws) ⟨g, []⟩) : FnOk P w K mg base CX0 (k + 1) f fd ps (spW K c) := by
  refine F.ok S (fun vs H Q E ⟨A, g, ws, Q0, wr, r, q, _⟩ => by rw [r.len]; exact ar _ _ _ q) fun cdv A0 outer s H vs Q E hr ⟨A, g, ws, Q0, wr, r, q, kq⟩ => ?_
  obtain ⟨t, ht, kk⟩ := hb cdv A0 outer s H E hr
  refine ⟨_, pw_B, ?_⟩
  have z := end_ok (Q := Q0) (QV := Q) wr kq
  exact wB_mono (ht.run (A0 := A) (h0 := ⟨g, []⟩) (H0 := H) (kk ws g _ q) .refl wr (rs_start r)) z.1 z.2 (fun τ H' ⟨_, _, _, _, _, _, b⟩ => b.elim) fun τ H' ⟨_, _, _, _, _, _, b⟩ => b.elim
/-- .. of a def that runs where no guard stands -/
theorem fn_wG (F : Fun K x qual st f fd) (S : FnScope N ps (defScope st)) (ar : Ar c ps.length)
    (hb : ∀ (cdv : Value) (A : Around) (outer : List Env) (s : Shared) (H : Hp) (E : XK), A.guards = some [] → Room k (A.deeper (envOfC qual (defScope st) s.heap.objs.size f cdv)) →
      ∃ t, TrB (cxOf CX0 P w K mg base N qual (defScope st) f cdv A outer s H E).nox (defBody st) t ∧ ∀ ws g Q, c ws g Q → t (endW Q) (startW N ws) ⟨g, []⟩) : FnG P w K mg base (k + 1) f fd ps (spW K c) := by
  refine okG F S (fun {vs H Q E} ⟨A, g, ws, Q0, wr, r, q, _⟩ => by rw [r.len]; exact ar _ _ _ q) fun cdv A0 outer s H vs Q E gd hr ⟨A, g, ws, Q0, wr, r, q, kq⟩ => ?_
  obtain ⟨t, ht, kk⟩ := hb cdv A0 outer s H E gd hr
  have z := end_ok (Q := Q0) (QV := Q) wr kq
  exact wB_mono (ht.run (A0 := A) (h0 := ⟨g, []⟩) (H0 := H) (kk ws g _ q) .refl wr (rs_start r)) z.1 z.2 (fun τ H' ⟨_, _, _, _, _, _, b⟩ => b.elim) fun τ H' ⟨_, _, _, _, _, _, b⟩ => b.elim
end
/-! ### calls -/
/-- no list, nothing shared in it -/
def flatD : PyData → Bool
  | .list _ => false
  | .dict _ => false
  | .tuple ds => flatDs ds
  | _ => true
where flatDs : List PyData → Bool
  | [] => true
  | d :: ds => flatD d && flatDs ds
mutual
def noRef : W → Bool
  | .ref _ => false
  | .tup ws => noRefs ws
  | .lst ws => noRefs ws
  | .obj _ _ ws => noRefs ws
  | _ => true
def noRefs : List W → Bool
  | [] => true
  | w :: ws => noRef w && noRefs ws
end
def flatW : W → Bool
  | .dat d => flatD d
  | .cst _ => true
  | _ => false
section
variable {K : PySem.W.Frag} {F F' : Addr → Prop} {gs gs' : List Addr} {H H' : Hp}
mutual
theorem RD.flat (t : ∀ a xs, SqT K H a xs → SqT K H' a xs) : ∀ (d : PyData) (v : V), flatD d = true → RD K F H d v → RD K F' H' d v
  | .none, _, _, h => by cases h; exact .non
  | .bool _, _, _, h => by cases h; exact .bl _
  | .int _, _, _, h => by cases h; exact .int _
  | .str _, _, _, h => by cases h; exact .str _
  | .tuple ds, _, f, h => by
    cases h with
    | tup q r => exact .tup (t _ _ q) (RDs.flat t ds _ (by simpa only [flatD] using f) r)
  | .list ds, _, f, h => by simp only [flatD] at f; cases f
  | .dict _, _, _, h => by cases h
theorem RDs.flat (t : ∀ a xs, SqT K H a xs → SqT K H' a xs) : ∀ (ds : List PyData) (vs : List V), flatD.flatDs ds = true → RDs K F H ds vs → RDs K F' H' ds vs
  | [], _, _, h => by cases h; exact .nil
  | d :: ds, _, f, h => by
    cases h with
    | cons q r =>
      rw [flatD.flatDs, Bool.and_eq_true] at f
      exact .cons (RD.flat t d _ f.1 q) (RDs.flat t ds _ f.2 r)
end
theorem RV.flat (t : ∀ a xs, SqT K H a xs → SqT K H' a xs) {w : W} {v : V} (f : flatW w = true) (h : RV K gs F H w v) : RV K gs' F' H' w v := by
  cases h with
  | dat h => exact .dat (RD.flat t _ _ (by simpa only [flatW] using f) h)
  | cst => exact .cst
  | _ => cases f
mutual
theorem RV.noref : ∀ (w : W) (v : V), noRef w = true → RV K gs F H w v → RV K gs' F H w v
  | .dat _, _, _, h => by
    cases h with
    | dat h => exact .dat h
  | .ref _, _, f, h => by simp only [noRef] at f; cases f
  | .cst _, _, _, h => by cases h; exact .cst
  | .scr _, _, _, h => by
    cases h with
    | scr q => exact .scr q
  | .tup ws, _, f, h => by
    cases h with
    | tup q r => exact .tup q (RVs.noref ws _ (by simpa only [noRef] using f) r)
  | .lst ws, _, f, h => by
    cases h with
    | lst q r => exact .lst q (RVs.noref ws _ (by simpa only [noRef] using f) r)
  | .obj C ns ws, _, f, h => by
    cases h with
    | obj q e e1 e2 r => exact .obj q e e1 e2 (RVs.noref ws _ (by simpa only [noRef] using f) r)
theorem RVs.noref : ∀ (ws : List W) (vs : List V), noRefs ws = true → RVs K gs F H ws vs → RVs K gs' F H ws vs
  | [], _, _, h => by cases h; exact .nil
  | w :: ws, _, f, h => by
    cases h with
    | cons q r =>
      rw [noRefs, Bool.and_eq_true] at f
      exact .cons (RV.noref w _ f.1 q) (RVs.noref ws _ f.2 r)
end
end
/-- the arguments of a call that reaches nothing shared; own lists are lent -/
def lend (l : List Ob) : U → Option W
  | .v w => if noRef w = true then some w else none
  | .l n => match l[n]? with
    | some (.lsd ds) => some (.dat (.list ds))
    | some (.lst ws) => if noRefs ws = true then some (.lst ws) else none
    | _ => none
def lends (l : List Ob) : List U → Option (List W)
  | [] => some []
  | u :: us => match lend l u, lends l us with
    | some w, some ws => some (w :: ws)
    | _, _ => none
def plainU : List U → Bool
  | [] => true
  | .v _ :: us => plainU us
  | .l _ :: _ => false
def sCallG (c : CW) (t : TAW) : TW := fun σ h Q => t σ h fun us h1 => ∃ ws, valU us = some ws ∧ c ws h1.g fun w g' => Q (.v w) ⟨g', h1.l⟩
def sCallP (c : CW) (t : TAW) : TW := fun σ h Q => t σ h fun us h1 => ∃ ws, lends h1.l us = some ws ∧ c ws [] fun w _ => (if plainU us = true then noRef w else flatW w) = true ∧ Q (.v w) h1
section
variable {K : PySem.W.Frag} {A : Wd} {h : Hw} {H : Hp}
def Lent (A : Wd) (us : List U) (a : Addr) : Prop := ∃ n, U.l n ∈ us ∧ A.ls[n]? = some a
theorem lend_rv {F : Addr → Prop} (wr : WR K A h H) (fa : ∀ a, A.F a → F a) : ∀ {us : List U} {vs : List V} {ws : List W}, (∀ a, Lent A us a → F a) → lends h.l us = some ws → RUs K A H us vs → RVs K [] F H ws vs
  | [], _, ws, _, e, .nil => by
    cases e
    exact .nil
  | u :: us, _, ws, fl, e, .cons q r => by
    unfold lends at e
    split at e
    · rename_i w ws' e1 e2
      cases e
      have st : Stay A.F F H H := ⟨fa, fun _ _ _ q => q, fun _ _ q => q, fun _ _ _ q => q⟩
      refine .cons ?_ (lend_rv wr fa (fun a ⟨n, m, z⟩ => fl a ⟨n, List.mem_cons_of_mem _ m, z⟩) e2 r)
      cases u with
      | v y =>
        unfold lend at e1
        dsimp only at e1
        split at e1
        · rename_i nr
          cases e1
          exact RV.noref _ _ nr (RV.mono st (fun _ _ z => z) _ _ q)
        · cases e1
      | l n =>
        obtain ⟨a, ea, rfl⟩ := q
        have f : F a := fl a ⟨n, List.mem_cons_self, ea⟩
        unfold lend at e1
        dsimp only at e1
        split at e1
        · rename_i ds eo
          cases e1
          obtain ⟨vs, z, t⟩ := wr.lc n a _ ea eo
          exact .dat (.lst (⟨f, z⟩) (RDs.mono st _ _ t))
        · rename_i ds eo
          split at e1
          · rename_i nr
            cases e1
            obtain ⟨vs, z, t⟩ := wr.lc n a _ ea eo
            exact .lst (⟨f, z⟩) (RVs.noref _ _ nr (RVs.mono st (fun _ _ z => z) _ _ t))
          · cases e1
        · cases e1
    · cases e
theorem plain_lent : ∀ {us : List U} {a : Addr}, plainU us = true → ¬ Lent A us a
  | [], a, _, ⟨n, m, _⟩ => by cases m
  | .v _ :: us, a, e, ⟨n, m, z⟩ => by
    cases m with
    | tail _ m => exact plain_lent (us := us) e ⟨n, m, z⟩
  | .l _ :: _, a, e, _ => by cases e
end
section
variable {X : Cx} {e : Expr} {es : List Expr} {x : Str} {k : Nat} {f : Addr} {fd : FuncData} {ps : List Str} {c : CW} {tas : TAW} {p q : Pos}
theorem EPw.of {K : PySem.W.Frag} {A B : Wd} {h h1 : Hw} {H H1 : Hp} {u : U} {v : V} {Q : QU} (e : Ext A h H B h1 H1) (w : WR K B h1 H1) (r : RU K B H1 u v) (q : Q u h1) : EPw K A h H Q v H1 := ⟨B, h1, u, e, w, r, q⟩
theorem sp_G {A : Wd} {h : Hw} {H : Hp} {us : List U} {vs : List V} {ws : List W} {Q : QU} (wr : WR X.K A h H) (r : RUs X.K A H us vs) (ew : valU us = some ws) (cw : c ws h.g fun w g' => Q (.v w) ⟨g', h.l⟩) : spW X.K c vs H (EPw X.K A h H Q) E0 := by
  obtain ⟨g1, l1⟩ := h
  refine ⟨A.bare, g1, ws, _, wr.bare, valU.rvs (A := A) ew r, cw, fun w g' q B H' v e1 w1 r1 => ?_⟩
  obtain ⟨e2, w2⟩ := call_back wr e1 w1
  exact .of e2 w2 (.of r1) q
theorem sp_P {A : Wd} {h : Hw} {H : Hp} {us : List U} {vs : List V} {ws : List W} {Q : QU} (wr : WR X.K A h H) (r : RUs X.K A H us vs) (ew : lends h.l us = some ws) (cw : c ws [] fun w _ => (if plainU us = true then noRef w else flatW w) = true ∧ Q (.v w) h) : spW X.K c vs H (EPw X.K A h H Q) E0 := by
  have ft : ∀ a, (A.F a ∨ Lent A us a) → H a ≠ none := fun a f => f.elim (wr.ft a) fun ⟨n, _, z⟩ q => (wr.nin q).2 (List.mem_of_getElem? z)
  refine ⟨.pure fun a => A.F a ∨ Lent A us a, [], ws, _, wr_pure ft, lend_rv wr (fun _ f => .inl f) (fun _ f => .inr f) ew r, cw, fun w g' ⟨fl, q⟩ B H' v e1 w1 r1 => ?_⟩
  obtain ⟨e2, w2⟩ := pure_back wr w1 e1
  refine .of e2 w2 (.of ?_) q
  by_cases pl : plainU us = true
  · rw [if_pos pl] at fl
    refine RV.noref _ _ fl (RV.mono (gs := B.gs) (gs' := B.gs) (F := B.F) ⟨fun a f => ?_, fun _ _ _ q => q, fun _ _ q => q, fun _ _ _ q => q⟩ (fun _ _ z => z) _ _ r1)
    rcases e1.fn a f with (z | z) | z | z
    · exact .inl z
    · exact absurd z (plain_lent pl)
    · exact .inr ⟨f, z⟩
    · exact absurd z liv_pure
  · rw [if_neg pl] at fl
    exact RV.flat (fun _ _ z => z) fl r1
theorem tr_callG (g : GDef X x k f fd ps (spW X.K c)) (ha : TrA X (e :: es) tas) (hg : Gl X x := by rfl)
    (hdb : (x == ("__debug__" : Str)) = false := by decide) (he : starEach (e :: es) X.env = (false, eval e X.env) :: starEach es X.env := by rfl) (hpl : (backTo p (starEach es X.env)).any (·.1) = false := by rfl) :
    TrE X (.Call (.Name x q) (e :: es) [] p) (sCallG c tas) := ⟨fun {σ h Q A H τ} ht wr rs =>
  w_E (pe_call g.ok g.room hg g.gl g.kp g.bs .nil pass0 pw_A hdb he hpl) (ha.bind ht wr rs fun vs H1 B h1 us e1 w1 r1 rs1 ⟨ws, ew, cw⟩ => by
    rw [List.append_nil]
    obtain ⟨A2, g2, ws2, Q2, y1, y2, y3, y4⟩ := sp_G (Q := Q) w1 r1 ew cw
    exact ⟨A2, g2, ws2, Q2, y1, y2, y3, fun w g' q B' H' v z1 z2 z3 => .trans e1 (y4 w g' q B' H' v z1 z2 z3)⟩)⟩
theorem tr_callP (g : GDef X x k f fd ps (spW X.K c)) (ha : TrA X (e :: es) tas) (hg : Gl X x := by rfl)
    (hdb : (x == ("__debug__" : Str)) = false := by decide) (he : starEach (e :: es) X.env = (false, eval e X.env) :: starEach es X.env := by rfl) (hpl : (backTo p (starEach es X.env)).any (·.1) = false := by rfl) :
    TrE X (.Call (.Name x q) (e :: es) [] p) (sCallP c tas) := ⟨fun {σ h Q A H τ} ht wr rs =>
  w_E (pe_call g.ok g.room hg g.gl g.kp g.bs .nil pass0 pw_A hdb he hpl) (ha.bind ht wr rs fun vs H1 B h1 us e1 w1 r1 rs1 ⟨ws, ew, cw⟩ => by
    rw [List.append_nil]
    obtain ⟨A2, g2, ws2, Q2, y1, y2, y3, y4⟩ := sp_P (Q := Q) w1 r1 ew cw
    exact ⟨A2, g2, ws2, Q2, y1, y2, y3, fun w g' q B' H' v z1 z2 z3 => .trans e1 (y4 w g' q B' H' v z1 z2 z3)⟩)⟩
end
/-! ### statements -/
section
variable {X : Cx} {e a b c tg iter : Expr} {es : List Expr} {sts body els : List Stmt} {t ta tb tc : TW} {tt : TTW} {tas : TAW} {ts tk tb1 tb2 : TSW} {pos p pos' : Pos} {x : Str} {i : Nat}
def sEnd : TSW := fun D σ h => D.nx σ h
theorem trb_nil : TrB X [] sEnd := ⟨fun {σ h h0 D A A0 H H0 τ} ht e wr rs => b_nil ⟨A, h, σ, e, wr, rs, ht⟩⟩
def sSet (i : Nat) (t : TW) (k : TSW) : TSW := fun D σ h => t σ h fun u h1 => k D (σ.set i (some u)) h1
theorem trb_set (hN : X.N.Nodup) (hi : X.N[i]? = some x) (hx : Loc X.env.scope x) (he : TrE X e t) (hk : TrB X sts tk)
    (hs : swapsWith e (some (.Name x pos')) pos.line X.env = pure false := by rfl) (hf : X.fn x = true ∨ X.env.scope.names.lookup x = some .local := by first | exact .inl rfl | exact .inr rfl | assumption) :
    TrB X (.Assign [.Name x pos'] e pos :: sts) (sSet i t tk) := ⟨fun {σ h h0 D A A0 H H0 τ} ht e0 wr rs =>
  b_set hN hi hx (he.bind ht wr rs fun v H1 B h1 u e1 w1 r1 rs1 q1 => hk.run q1 (e0.trans e1) w1 (rs1.set i r1)) hs hf⟩
def sRet (t : TW) : TSW := fun D σ h => t σ h fun u h1 => frzU u h1 D.rt
theorem trb_ret (he : TrE X e t) : TrB X (.Return (some e) pos :: sts) (sRet t) := ⟨fun {σ h h0 D A A0 H H0 τ} ht e0 wr rs =>
  b_ret (he.bind ht wr rs fun v H1 B h1 u e1 w1 r1 rs1 q1 => by
    obtain ⟨C, h2, y, e2, w2, r2, q2⟩ := frz_ok w1 r1 q1
    exact ⟨C, h2, y, (e0.trans e1).trans e2, w2, r2, q2⟩)⟩
theorem seqW {A0 : Wd} {h0 : Hw} {H0 : Hp} {D : EnW} {τ : L2.St} {H : Hp} (hk : TrB X sts tk) (hb : wB X body (EnV X.K A0 h0 H0 { D with nx := tk D }) τ H) : wB X body { EnV X.K A0 h0 H0 D with nx := wB X sts (EnV X.K A0 h0 H0 D) } τ H :=
  wB_mono hb (fun τ' H' ⟨B, h', σ', e, w, rs, q⟩ => hk.run q e w rs) (fun _ _ z => z) (fun _ _ z => z) fun _ _ z => z
def sIfS (c : TTW) (t1 t2 k : TSW) : TSW := fun D σ h => c σ h fun b h1 => if b = true then t1 { D with nx := k D } σ h1 else t2 { D with nx := k D } σ h1
theorem trb_if (hc : TrT X c tt) (h1 : TrB X body tb1) (h2 : TrB X els tb2) (hk : TrB X sts tk) : TrB X (.If c body els pos :: sts) (sIfS tt tb1 tb2 tk) := ⟨fun {σ h h0 D A A0 H H0 τ} ht e0 wr rs =>
  b_if (hc.bind ht wr rs fun v H1 B hh e1 w1 rs1 q1 => by
    cases v with
    | true => exact seqW hk (h1.run q1 (e0.trans e1) w1 rs1)
    | false => exact seqW hk (h2.run q1 (e0.trans e1) w1 rs1))⟩
/-- an if without else whose body leaves -/
def sExpr (t : TW) (k : TSW) : TSW := fun D σ h => t σ h fun _ h1 => k D σ h1
theorem trb_expr (he : TrE X e t) (hk : TrB X sts tk) (hs : swapsWith e none pos.line X.env = pure false := by rfl) : TrB X (.Expr e pos :: sts) (sExpr t tk) := ⟨fun {σ h h0 D A A0 H H0 τ} ht e0 wr rs =>
  b_exprE (he.bind ht wr rs fun v H1 B hh u e1 w1 r1 rs1 q1 => hk.run q1 (e0.trans e1) w1 rs1) hs⟩
end
end Wl

/-! new lists, iteration, comprehensions, loops -/
namespace Wl
open PySem PySem.Spec PyProof.Rows L2 Cb
section
variable {K : PySem.W.Frag} {A B C : Wd} {h h1 h2 : Hw} {H H1 H2 : Hp}
/-- M is no thing of the world -/
structure Off (A : Wd) (M : Addr) : Prop where
  g : M ∉ A.gs
  l : M ∉ A.ls
  f : ¬ A.F M
theorem WR.off (w : WR K A h H) {M : Addr} (n : H M = none) : Off A M := ⟨(w.nin n).1, (w.nin n).2, fun f => w.ft M f n⟩
theorem Off.liv {M : Addr} (o : Off A M) : ¬ Liv A h M := by
  rintro ⟨n, x, _, ⟨e, _⟩ | ⟨e, _⟩⟩
  · exact o.g (List.mem_of_getElem? e)
  · exact o.l (List.mem_of_getElem? e)
theorem Off.ext {M : Addr} (o : Off A M) (e : Ext A h H B h1 H1) (t : H M ≠ none) : Off B M := by
  refine ⟨fun m => ?_, fun m => ?_, fun f => ?_⟩
  · exact (e.gn M m).elim o.g t
  · exact (e.ln M m).elim o.l t
  · rcases e.fn M f with z | z | z
    · exact o.f z
    · exact t z
    · exact o.liv z
/-- something off the world is changed -/
theorem WR.upd_off {M : Addr} {x : HO} (w : WR K A h H) (o : Off A M) (k : ∀ xs, H M ≠ some (.tup xs)) (z : ∀ ob u, H M ≠ some (.frz ob u)) (hx : (∀ xs, x ≠ .tup xs)) : WR K A h (upd H M x) := by
  have st : Stay A.F A.F H (upd H M x) := ⟨fun _ f => f, fun a y f e => by
    have : a ≠ M := fun q => o.f (q ▸ f)
    rw [upd_ne this]
    exact e, fun a xs e => by
    have : a ≠ M := fun q => k xs (q ▸ e)
    rw [upd_ne this]
    exact e, fun a ob u e => by
    have : a ≠ M := fun q => z ob u (q ▸ e)
    rw [upd_ne this]
    exact e⟩
  refine ⟨w.gl, w.ll, fun n a y e q => (w.gc n a y e q).mono st (fun _ _ e => e) fun v hv => ?_, fun n a y e q => (w.lc n a y e q).mono st (fun _ _ e => e) fun v hv => ?_, w.nd, w.nf, fun a f => ?_⟩
  · rw [upd_ne fun (e' : a = M) => o.g (e' ▸ List.mem_of_getElem? e)]
    exact hv
  · rw [upd_ne fun (e' : a = M) => o.l (e' ▸ List.mem_of_getElem? e)]
    exact hv
  · rw [upd_ne fun (e' : a = M) => o.f (e' ▸ f)]
    exact w.ft a f
theorem stay_off {F : Addr → Prop} {M : Addr} {x : HO} (f : ¬ F M) (k : ∀ xs, H M ≠ some (.tup xs)) (z : ∀ ob u, H M ≠ some (.frz ob u)) : Stay F F H (upd H M x) := ⟨fun _ f => f, fun a y fa e => by
    have : a ≠ M := fun q => f (q ▸ fa)
    rw [upd_ne this]
    exact e, fun a xs e => by
    have : a ≠ M := fun q => k xs (q ▸ e)
    rw [upd_ne this]
    exact e, fun a ob u e => by
    have : a ≠ M := fun q => z ob u (q ▸ e)
    rw [upd_ne this]
    exact e⟩
theorem Ext.upd_new {M : Addr} {x : HO} (e : Ext A h H B h1 H1) (n : H M = none) : Ext A h H B h1 (upd H1 M x) :=
  ⟨e.gs, e.ls, fun a o q l => by
    rw [upd_ne (ne_of_none q n)]
    exact e.kp a o q l, fun a q => by
    by_cases z : a = M
    · rw [z]
      exact n
    · rw [upd_ne z] at q
      exact e.th a q, e.fs, e.fn, e.lv, e.gn, e.ln⟩
/-- a list that has come: no thing of the world yet -/
structure NewL (K : PySem.W.Frag) (A : Wd) (h : Hw) (H : Hp) (B : Wd) (h' : Hw) (H' : Hp) (ds : List PyData) (M : Addr) (vs : List V) : Prop where
  e : Ext A h H B h' H'
  w : WR K B h' H'
  n : H M = none
  o : Off B M
  at_ : H' M = some (.lst vs)
  r : RDs K B.F H' ds vs
theorem NewL.frz {ds : List PyData} {M : Addr} {vs : List V} (x : NewL K A h H B h1 H1 ds M vs) : Ext A h H (B.frz M) h1 H1 ∧ WR K (B.frz M) h1 H1 ∧ RV K (B.frz M).gs (B.frz M).F H1 (.dat (.list ds)) (.ref M) := by
  have st : Stay B.F (B.frz M).F H1 H1 := ⟨fun _ f => .inl f, fun _ _ _ e => e, fun _ _ e => e, fun _ _ _ e => e⟩
  refine ⟨⟨x.e.gs, x.e.ls, x.e.kp, x.e.th, fun a f => .inl (x.e.fs a f), fun a f => ?_, x.e.lv, x.e.gn, x.e.ln⟩, ⟨x.w.gl, x.w.ll, fun n a o e q => (x.w.gc n a o e q).mono st (fun _ _ e => e) fun _ e => e, fun n a o e q => (x.w.lc n a o e q).mono st (fun _ _ e => e) fun _ e => e, x.w.nd, fun a l f => ?_, fun a f => ?_⟩, ?_⟩
  · rcases f with f | f
    · exact x.e.fn a f
    · exact .inr (.inl (f ▸ x.n))
  · rcases f with f | f
    · exact x.w.nf a l f
    · exact x.o.liv (h := h1) (f ▸ l)
  · rcases f with f | f
    · exact x.w.ft a f
    · rw [f, x.at_]
      exact fun z => by cases z
  · exact .dat (.lst (⟨.inr rfl, x.at_⟩) (RDs.mono st _ _ x.r))
theorem NewL.own {ds : List PyData} {M : Addr} {vs : List V} (x : NewL K A h H B h1 H1 ds M vs) : Ext A h H (B.own M) (h1.own (.lsd ds)) H1 ∧ WR K (B.own M) (h1.own (.lsd ds)) H1 ∧ RU K (B.own M) H1 (.l h1.l.length) (.ref M) := by
  have lv : ∀ b, Liv (B.own M) (h1.own (.lsd ds)) b → Liv B h1 b ∨ b = M := by
    rintro b ⟨i, y, hy, ⟨q, z⟩ | ⟨q, z⟩⟩
    · exact .inl ⟨i, y, hy, .inl ⟨q, z⟩⟩
    · rcases snoc_at q with q | ⟨q, e⟩
      · rcases snoc_at z with z | ⟨z, _⟩
        · exact .inl ⟨i, y, hy, .inr ⟨q, z⟩⟩
        · have := (List.getElem?_eq_some_iff.mp q).1
          have := x.w.ll
          omega
      · exact .inr e
  refine ⟨⟨x.e.gs, fun i b q => ?_, x.e.kp, x.e.th, x.e.fs, x.e.fn, fun b q => ?_, x.e.gn, fun b m => ?_⟩, ⟨x.w.gl, ?_, x.w.gc, fun i b y q z => ?_, ?_, fun b q f => ?_, x.w.ft⟩, ?_⟩
  · show (B.ls ++ [M])[i]? = some b
    have q' := x.e.ls _ _ q
    rw [List.getElem?_append_left (List.getElem?_eq_some_iff.mp q').1]
    exact q'
  · rcases lv b q with z | z
    · exact x.e.lv b z
    · exact .inr (z ▸ x.n)
  · rcases List.mem_append.mp m with m | m
    · exact x.e.ln b m
    · rw [List.mem_singleton.mp m]
      exact .inr x.n
  · show (B.ls ++ [M]).length = (h1.l ++ [Ob.lsd ds]).length
    rw [List.length_append, List.length_append, x.w.ll]
    rfl
  · rcases snoc_at q with q | ⟨q, e⟩
    · rcases snoc_at z with z | ⟨z, _⟩
      · exact x.w.lc i b y q z
      · have := (List.getElem?_eq_some_iff.mp q).1
        have := x.w.ll
        omega
    · subst e
      rcases snoc_at z with z | ⟨_, z⟩
      · have := (List.getElem?_eq_some_iff.mp z).1
        have := x.w.ll
        omega
      · rw [z]
        exact ⟨vs, x.at_, x.r⟩
  · show (B.gs ++ (B.ls ++ [M])).Nodup
    rw [← List.append_assoc]
    refine List.nodup_append.mpr ⟨x.w.nd, by simp, fun b m c m' e => ?_⟩
    rw [List.mem_singleton.mp m'] at e
    subst e
    rcases List.mem_append.mp m with m | m
    · exact x.o.g m
    · exact x.o.l m
  · rcases lv b q with z | z
    · exact x.w.nf b z f
    · exact x.o.f (z ▸ f)
  · refine ⟨M, ?_, rfl⟩
    show (B.ls ++ [M])[h1.l.length]? = some M
    rw [← x.w.ll, List.getElem?_append_right (Nat.le_refl _), Nat.sub_self]
    rfl
end
abbrev TLW := Sw → Hw → (List PyData → Hw → Prop) → Prop
/-- an expression that makes a list of data -/
structure TrL (X : Cx) (e : Expr) (t : TLW) : Prop where
  run : ∀ {σ : Sw} {h : Hw} {Q : List PyData → Hw → Prop} {A : Wd} {H : Hp} {τ : L2.St}, t σ h Q → WR X.K A h H → RS X.K A H σ τ → wE X e τ H fun v H' => ∃ B h' ds M vs, v = .ref M ∧ NewL X.K A h H B h' H' ds M vs ∧ Q ds h'
def sFrz (t : TLW) : TW := fun σ h Q => t σ h fun ds h1 => Q (.v (.dat (.list ds))) h1
def sOwn (t : TLW) : TW := fun σ h Q => t σ h fun ds h1 => Q (.l h1.l.length) (h1.own (.lsd ds))
section
variable {X : Cx} {e a b c tg iter elt : Expr} {es : List Expr} {t ta tb : TW} {tl : TLW} {tas : TAW} {p q pos : Pos}
theorem trl_frz (r : TrL X e tl) : TrE X e (sFrz tl) := ⟨fun {σ h Q A H τ} ht wr rs => wE_mono (r.run ht wr rs) fun v H' ⟨B, h', ds, M, vs, e, n, q⟩ => by
  subst e
  obtain ⟨e1, w1, r1⟩ := n.frz
  exact ⟨_, h', _, e1, w1, .of r1, q⟩⟩
theorem trl_own (r : TrL X e tl) : TrE X e (sOwn tl) := ⟨fun {σ h Q A H τ} ht wr rs => wE_mono (r.run ht wr rs) fun v H' ⟨B, h', ds, M, vs, e, n, q⟩ => by
  subst e
  obtain ⟨e1, w1, r1⟩ := n.own
  exact ⟨_, _, _, e1, w1, r1, q⟩⟩
theorem newL_upd {K : PySem.W.Frag} {A B : Wd} {h h1 : Hw} {H H1 : Hp} {M : Addr} {vs : List V} {ds : List PyData} (e : Ext A h H B h1 H1) (w : WR K B h1 H1) (n : H1 M = none) (r : RDs K B.F H1 ds vs) : NewL K A h H B h1 (upd H1 M (.lst vs)) ds M vs :=
  have s : Same H1 (upd H1 M (.lst vs)) := same_new n
  ⟨e.trans (.same s), w.same s, e.th M n, w.off n, upd_same, RDs.mono (.new n) _ _ r⟩
/-- [a, b, ..] -/
def sLst (t : TAW) : TLW := fun σ h Q => t σ h fun us h1 => us.length ≤ 1000 ∧ match datU us with
  | some ds => Q ds h1
  | none => False
theorem trl_lst (ha : TrA X es tas) : TrL X (.List es p) (sLst tas) := ⟨fun {σ h Q A H τ} ht wr rs => w_E (pe_lst pw_A) (ha.bind ht wr rs fun vs H1 B h1 us e1 w1 r1 rs1 ⟨hl, q1⟩ => by
  split at q1
  · rename_i ds e
    exact ⟨by rw [r1.len]; exact small_sz hl, fun M hM => ⟨B, h1, ds, M, vs, rfl, newL_upd e1 w1 hM (datU.rds e r1), q1⟩⟩
  · exact q1.elim)⟩
end
/-! ### iteration -/
/-- J runs through ws, whatever happens to the world meanwhile -/
def Seq (K : PySem.W.Frag) (J : It) (A : Wd) (H : Hp) (ws : List W) : Prop := ∀ (i : Nat) (C : Wd) (H2 : Hp), Stay A.F C.F H H2 → (∀ (n : Nat) (a : Addr), A.gs[n]? = some a → C.gs[n]? = some a) →
  (ws.length ≤ i → J.stop i H2) ∧ (∀ w, ws[i]? = some w → J.go i H2 ∧ ∀ x H3, J.yld i H2 x H3 → Same H2 H3 ∧ RV K C.gs C.F H3 w x)
abbrev TIW := Sw → Hw → (List W → Hw → Prop) → Prop
structure TrI (X : Cx) (tg iter : Expr) (wi : TI) (t : TIW) : Prop where
  pi : PI X tg iter wi
  run : ∀ {σ : Sw} {h : Hw} {Q : List W → Hw → Prop} {A : Wd} {H : Hp} {τ : L2.St} {R : It → Hp → Prop}, t σ h Q → WR X.K A h H → RS X.K A H σ τ →
    (∀ J H1 B h1 ws, Ext A h H B h1 H1 → WR X.K B h1 H1 → Seq X.K J B H1 ws → Q ws h1 → R J H1) → wi τ H R
def iAny (K : PySem.W.Frag) (tl : TE) : TI := fun σ H R => tl σ H fun x H1 => ∃ a, x = .ref a ∧ ((∃ xs, SqL K H1 a xs ∧ R (Itl K a) H1) ∨ ∃ xs, SqT K H1 a xs ∧ R (Itt K a) H1)
theorem pi_any {X : Cx} {tg l : Expr} {tl : TE} (hl : PE X l tl) : PI X tg l (iAny X.K tl) := by
  refine ⟨fun pins s σ H R I h => ?_⟩
  refine thn (hl.run pins s σ H _ I h) fun v s1 ⟨x, H1, I1, r1, q1⟩ => ?_
  obtain ⟨a, e, q1⟩ := q1
  subst e
  cases r1
  rcases q1 with ⟨xs, hq, q⟩ | ⟨xs, hq, q⟩
  · obtain ⟨its, rv, p, hz⟩ := I1.list hq
    refine wpAny_pyIter_list p.isList ?_
    refine ⟨s1.heap.objs.size, [s1.heap.objs.size], _, _, H1, rfl, I1.kept (t' := s1.toks) fun b o e => Heap.get?_push_of_some _ e, turn_list a _, ⟨_, Heap.get?_push_size _ rfl, rfl, rfl⟩, fun b hb => ?_, q⟩
    have e : b = s1.heap.objs.size := by simpa using hb
    subst e
    exact I1.fpOk (Nat.le_refl _) (I1.hok.fresh (Nat.le_refl _))
  · obtain ⟨its, rv, p, hz⟩ := I1.tuple hq
    refine wpAny_pyIter_tuple (show s1.heap.IsTuple a its.toArray from p) ?_
    refine ⟨s1.heap.objs.size, [s1.heap.objs.size], _, _, H1, rfl, I1.kept (t' := s1.toks) fun b o e => Heap.get?_push_of_some _ e, turn_tuple a _, ⟨_, Heap.get?_push_size _ rfl, rfl, rfl⟩, fun b hb => ?_, q⟩
    have e : b = s1.heap.objs.size := by simpa using hb
    subst e
    exact I1.fpOk (Nat.le_refl _) (I1.hok.fresh (Nat.le_refl _))
section
variable {K : PySem.W.Frag} {A B C : Wd} {h h1 h2 : Hw} {H H1 H2 : Hp}
theorem seq_tup {a : Addr} {ws : List W} {vs : List V} (q : SqT K H a vs) (r : RVs K A.gs A.F H ws vs) : Seq K (Itt K a) A H ws := fun i C H2 e g => by
  have q2 := e.sqT q
  have r2 := RVs.mono e g _ _ r
  refine ⟨fun hi => ⟨vs, q2, by rw [r.len]; exact hi⟩, fun w hw => ?_⟩
  obtain ⟨v, hv, rv⟩ := r2.at hw
  exact ⟨⟨vs, v, q2, hv⟩, fun x H3 ⟨e3, y⟩ => by
    subst e3
    have z := y vs q2
    rw [hv] at z
    cases z
    exact ⟨.refl _, rv⟩⟩
theorem seq_lst {a : Addr} {ws : List W} {vs : List V} (q : LsF K A.F H a vs) (r : RVs K A.gs A.F H ws vs) : Seq K (Itl K a) A H ws := fun i C H2 e g => by
  have q2 := (e.lsF q).sq
  have r2 := RVs.mono e g _ _ r
  refine ⟨fun hi => ⟨vs, q2, by rw [r.len]; exact hi⟩, fun w hw => ?_⟩
  obtain ⟨v, hv, rv⟩ := r2.at hw
  exact ⟨⟨vs, v, q2, hv⟩, fun x H3 ⟨e3, y⟩ => by
    subst e3
    have z := y vs q2
    rw [hv] at z
    cases z
    exact ⟨.refl _, rv⟩⟩
/-- the items of a value -/
def items : U → Option (List W)
  | .v (.dat (.list ds)) => some (ds.map .dat)
  | .v (.dat (.tuple ds)) => some (ds.map .dat)
  | .v (.lst ws) => some ws
  | .v (.tup ws) => some ws
  | .v (.scr ns) => some (ns.map fun n => .dat (.int n))
  | _ => none
theorem rds_ints {gs0 : List Addr} {F : Addr → Prop} : ∀ ns : List Int, RVs K gs0 F H (ns.map fun n => .dat (.int n)) (ns.map V.int)
  | [] => .nil
  | n :: ns => .cons (.dat (.int n)) (rds_ints ns)
theorem seq_scr {a : Addr} {ns : List Int} (q : ScL K H a (ns.map V.int)) : Seq K (Itl K a) A H (ns.map fun n => .dat (.int n)) := fun i C H2 e g => by
  have q2 := (e.scL q).sq
  have r2 : RVs K C.gs C.F H2 (ns.map fun n => W.dat (.int n)) (ns.map V.int) := rds_ints ns
  refine ⟨fun hi => ⟨_, q2, by rw [r2.len]; exact hi⟩, fun w hw => ?_⟩
  obtain ⟨v, hv, rv⟩ := r2.at hw
  exact ⟨⟨_, v, q2, hv⟩, fun x H3 ⟨e3, y⟩ => by
    subst e3
    have z := y _ q2
    rw [hv] at z
    cases z
    exact ⟨.refl _, rv⟩⟩
def sItems (t : TW) : TIW := fun σ h Q => t σ h fun u h1 => match items u with
  | some ws => Q ws h1
  | none => False
/-! targets -/
abbrev BW := W → Sw → Option Sw
structure TrG (K : PySem.W.Frag) (g : TG) (vs : List Nat) (b : BW) : Prop where
  run : ∀ {w : W} {v : V} {A : Wd} {h : Hw} {H : Hp} {σ σ' : Sw} {τ : L2.St} {Q : L2.St → Hp → Prop}, WR K A h H → RV K A.gs A.F H w v → RS K A H σ τ → b w σ = some σ' → (∀ τ', RS K A H σ' τ' → wipe τ' vs = wipe τ vs → Q τ' H) → g v τ H Q
def bName (i : Nat) : BW := fun w σ => some (σ.set i (some (.v w)))
theorem trg_name {i : Nat} : TrG K (gName i) [i] (bName i) := ⟨fun {w v A h H σ σ' τ Q} wr r rs e k => by
  cases e
  exact k _ (rs.set i (.of r)) (wipe_set (by simp))⟩
def setAll : List Nat → List W → Sw → Option Sw
  | [], [], σ => some σ
  | i :: is, w :: ws, σ => setAll is ws (σ.set i (some (.v w)))
  | _, _, _ => none
def bTup (is : List Nat) : BW := fun w σ => match w with
  | .dat (.tuple ds) => setAll is (ds.map .dat) σ
  | .tup ws => setAll is ws σ
  | _ => none
def gNames : List Nat → TGs
  | [] => gNil
  | i :: is => gCons (gName i) (gNames is)
theorem gNames_run {all : List Nat} : ∀ {is : List Nat} {ws : List W} {vs : List V} {A : Wd} {H : Hp} {σ σ' : Sw} {τ : L2.St} {Q : L2.St → Hp → Prop}, (∀ i ∈ is, i ∈ all) → RVs K A.gs A.F H ws vs → RS K A H σ τ → setAll is ws σ = some σ' → (∀ τ', RS K A H σ' τ' → wipe τ' all = wipe τ all → Q τ' H) → gNames is vs τ H Q ∧ vs.length = is.length
  | [], [], _, A, H, σ, σ', τ, Q, _, .nil, rs, e, k => by
    cases e
    exact ⟨⟨rfl, k _ rs rfl⟩, rfl⟩
  | i :: is, [], _, A, H, σ, σ', τ, Q, _, .nil, rs, e, k => by cases e
  | [], w :: ws, _, A, H, σ, σ', τ, Q, _, _, rs, e, k => by cases e
  | i :: is, w :: ws, _ :: vs, A, H, σ, σ', τ, Q, m, .cons q r, rs, e, k => by
    obtain ⟨z, l⟩ := gNames_run (all := all) (is := is) (ws := ws) (fun j hj => m j (List.mem_cons_of_mem _ hj)) r (rs.set i (.of q)) e fun τ' r' hw => k τ' r' (hw.trans (wipe_set (m i List.mem_cons_self)))
    exact ⟨⟨_, _, rfl, z⟩, by rw [List.length_cons, l]; rfl⟩
theorem trg_tup {is all : List Nat} (m : ∀ i ∈ is, i ∈ all) : TrG K (gTup K is.length (gNames is)) all (bTup is) := ⟨fun {w v A h H σ σ' τ Q} wr r rs e k => by
  cases w with
  | dat d =>
    cases d with
    | tuple ds =>
      cases r with
      | dat r =>
        cases r with
        | tup q r =>
          obtain ⟨z, l⟩ := gNames_run m r.rvs rs e k
          exact ⟨_, _, rfl, q, l, z⟩
    | _ => cases e
  | tup ws =>
    cases r with
    | tup q r =>
      obtain ⟨z, l⟩ := gNames_run m r rs e k
      exact ⟨_, _, rfl, q, l, z⟩
  | _ => cases e⟩
end
/-! for -/
def forR (b : BW) (tb : TSW) : List W → TSW
  | [], D, σ, h => D.nx σ h
  | w :: ws, D, σ, h => ∃ σ', b w σ = some σ' ∧ tb { nx := forR b tb ws D, rt := D.rt, ct := forR b tb ws D, bk := D.nx } σ' h
def sFor (ti : TIW) (b : BW) (tb tk : TSW) : TSW := fun D σ h => ti σ h fun ws h1 => forR b tb ws { D with nx := tk D } σ h1
theorem same_drop {α : Type} {ws : List α} {i : Nat} {w : α} (e : ws[i]? = some w) : ws.drop i = w :: ws.drop (i + 1) := by
  obtain ⟨hl, e⟩ := List.getElem?_eq_some_iff.mp e
  rw [List.drop_eq_getElem_cons hl, e]
theorem trb_for {X : Cx} {tg iter : Expr} {body sts : List Stmt} {wi : TI} {ti : TIW} {g : TG} {vs : List Nat} {b : BW} {tb tk : TSW} {pos : Pos} (hc : X.calm = true) (hi : TrI X tg iter wi ti) (hg : PG X tg g) (hgw : TrG X.K g vs b) (hb : TrB X body tb) (hk : TrB X sts tk) (hp : PassesOwn (model X.prog X.w) X.A X.env X.xe)
    (hs : ∀ x, foldedSetIterable iter X.env x = pure x := by intro _; rfl) : TrB X (.For tg iter body [] pos :: sts) (sFor ti b tb tk) := ⟨fun {σ h h0 D A A0 H H0 τ} ht e0 wr rs =>
  b_for hc hi.pi hg (hi.run ht wr rs fun J H1 B h1 ws e1 w1 sq q1 => by
    refine ⟨fun i m τ' H' => m = ws.length - i ∧ i ≤ ws.length ∧ ∃ C h2 σ', Ext B h1 H1 C h2 H' ∧ WR X.K C h2 H' ∧ RS X.K C H' σ' τ' ∧ forR b tb (ws.drop i) { D with nx := tk D } σ' h2, ⟨ws.length, by simp, Nat.zero_le _, B, h1, σ, .refl, w1, rs.ext wr e1, q1⟩, ?_⟩
    rintro i m τ' H' ⟨rfl, hi, C, h2, σ', e2, w2, rs2, q2⟩
    by_cases hlt : i < ws.length
    · right
      have ew := List.getElem?_eq_getElem hlt
      rw [same_drop ew] at q2
      obtain ⟨σ2, es, q2⟩ := q2
      obtain ⟨go, yl⟩ := (sq i C H' (e2.stay w1) e2.gs).2 _ ew
      refine ⟨go, fun τ3 H3 => ∃ C' h3 σ3, Ext B h1 H1 C' h3 H3 ∧ WR X.K C' h3 H3 ∧ RS X.K C' H3 σ3 τ3 ∧ forR b tb (ws.drop (i + 1)) { D with nx := tk D } σ3 h3, fun τ3 H3 q => ⟨ws.length - (i + 1), by omega, rfl, hlt, q⟩, fun x H3 y => ?_⟩
      obtain ⟨s3, r3⟩ := yl x H3 y
      refine hgw.run (w2.same s3) r3 (rs2.ext w2 (.same s3)) es fun τ4 rs4 _ => ?_
      have ee : Ext A0 h0 H0 C h2 H3 := ((e0.trans e1).trans e2).trans (.same s3)
      refine wB_mono (hb.run (A0 := C) (h0 := h2) (H0 := H3) q2 .refl (w2.same s3) rs4) ?_ ?_ ?_ ?_
      · rintro τ5 H5 ⟨C5, h5, σ5, e5, w5, rs5, q5⟩
        exact ⟨C5, h5, σ5, (e2.trans (.same s3)).trans e5, w5, rs5, q5⟩
      · rintro v H5 ⟨C5, h5, u5, e5, w5, r5, q5⟩
        exact ⟨C5, h5, u5, ee.trans e5, w5, r5, q5⟩
      · rintro τ5 H5 ⟨C5, h5, σ5, e5, w5, rs5, q5⟩
        exact hk.run q5 (ee.trans e5) w5 rs5
      · rintro τ5 H5 ⟨C5, h5, σ5, e5, w5, rs5, q5⟩
        exact ⟨C5, h5, σ5, (e2.trans (.same s3)).trans e5, w5, rs5, q5⟩
    · left
      have : i = ws.length := by omega
      rw [this, List.drop_length] at q2
      exact ⟨(sq i C H' (e2.stay w1) e2.gs).1 (by omega), hk.run q2 ((e0.trans e1).trans e2) w2 rs2⟩) hp hs⟩
end Wl

/-! comprehensions -/
namespace Wl
open PySem PySem.Spec PyProof.Rows L2 Cb
def TEr (K : PySem.W.Frag) (te : TE) (t : TW) : Prop := ∀ {σ : Sw} {h : Hw} {Q : QU} {A : Wd} {H : Hp} {τ : L2.St} {R : VK}, t σ h Q → WR K A h H → RS K A H σ τ →
  (∀ v H' B h' u, Ext A h H B h' H' → WR K B h' H' → RU K B H' u v → RS K B H' σ τ → Q u h' → R v H') → te τ H R
def TTr (K : PySem.W.Frag) (te : TT) (t : TTW) : Prop := ∀ {σ : Sw} {h : Hw} {Q : Bool → Hw → Prop} {A : Wd} {H : Hp} {τ : L2.St} {R : Bool → Hp → Prop}, t σ h Q → WR K A h H → RS K A H σ τ →
  (∀ v H' B h', Ext A h H B h' H' → WR K B h' H' → RS K B H' σ τ → Q v h' → R v H') → te τ H R
def TAr (K : PySem.W.Frag) (te : TA) (t : TAW) : Prop := ∀ {σ : Sw} {h : Hw} {Q : List U → Hw → Prop} {A : Wd} {H : Hp} {τ : L2.St} {R : List V → Hp → Prop}, t σ h Q → WR K A h H → RS K A H σ τ →
  (∀ v H' B h' u, Ext A h H B h' H' → WR K B h' H' → RUs K B H' u v → RS K B H' σ τ → Q u h' → R v H') → te τ H R
def TIr (K : PySem.W.Frag) (wi : TI) (t : TIW) : Prop := ∀ {σ : Sw} {h : Hw} {Q : List W → Hw → Prop} {A : Wd} {H : Hp} {τ : L2.St} {R : It → Hp → Prop}, t σ h Q → WR K A h H → RS K A H σ τ →
    (∀ J H1 B h1 ws, Ext A h H B h1 H1 → WR K B h1 H1 → Seq K J B H1 ws → Q ws h1 → R J H1) → wi τ H R
/-- the arguments in a comprehension's block -/
def wAb (X : Cx) (scope : Scope) (es : List Expr) : TA := fun σ H Q => ∀ (s : Shared) (H0 : Hp) (C : Addr) (cl : List (Str × Addr)) (fp : List Addr), wA (X.blk s H0 scope (compEnvC scope cl C X.env) fp) es σ H Q
theorem pw_Ab {X : Cx} {scope : Scope} {es : List Expr} (s : Shared) (H : Hp) (C : Addr) (cl : List (Str × Addr)) (fp : List Addr) : PA (X.blk s H scope (compEnvC scope cl C X.env) fp) es (wAb X scope es) := ⟨fun pos pins s1 σ H1 Q I h => wA.run (h s H C cl fp) pos pins s1 I⟩
section
variable {X : Cx} {e a b c tg iter elt test : Expr} {es : List Expr} {t ta tb : TW} {tt : TTW} {tl : TLW} {tas : TAW} {p q pos : Pos} {scope : Scope}
theorem TrE.er (he : TrE X e t) : TEr X.K (wE X e) t := fun ht wr rs k => he.bind ht wr rs k
theorem TrT.er (he : TrT X e tt) : TTr X.K (wT X e) tt := fun ht wr rs k => he.bind ht wr rs k
theorem TrA.er (he : TrA X es tas) : TAr X.K (wA X es) tas := fun ht wr rs k => he.bind ht wr rs k
theorem eb_er (he : ∀ (s : Shared) (H0 : Hp) (C : Addr) (cl : List (Str × Addr)) (fp : List Addr), TrE (X.blk s H0 scope (compEnvC scope cl C X.env) fp) e t) : TEr X.K (wEb X scope e) t := fun ht wr rs k s H0 C cl fp => (he s H0 C cl fp).bind ht wr rs k
theorem tb_er (he : ∀ (s : Shared) (H0 : Hp) (C : Addr) (cl : List (Str × Addr)) (fp : List Addr), TrT (X.blk s H0 scope (compEnvC scope cl C X.env) fp) e tt) : TTr X.K (wTb X scope e) tt := fun ht wr rs k s H0 C cl fp => (he s H0 C cl fp).bind ht wr rs k
theorem ab_er (he : ∀ (s : Shared) (H0 : Hp) (C : Addr) (cl : List (Str × Addr)) (fp : List Addr), TrA (X.blk s H0 scope (compEnvC scope cl C X.env) fp) es tas) : TAr X.K (wAb X scope es) tas := fun ht wr rs k s H0 C cl fp => (he s H0 C cl fp).bind ht wr rs k
def sYes : TTW := fun _ h Q => Q true h
theorem yes_er {K : PySem.W.Frag} : TTr K tYes sYes := fun {σ h Q A H τ R} ht wr rs k => k true H A h .refl wr rs ht
theorem any_ir {K : PySem.W.Frag} {te : TE} (he : TEr K te t) : TIr K (iAny K te) (sItems t) := fun {σ h Q A H τ R} ht wr rs k => he ht wr rs fun v H1 B h1 u e1 w1 r1 rs1 q1 => by
  split at q1
  · rename_i ws ei
    cases u with
    | l n => cases ei
    | v w =>
      cases w with
      | dat d =>
        have r1 : RV K B.gs B.F H1 (.dat d) v := r1
        cases r1 with
        | dat r1 =>
          cases d with
          | list ds =>
            cases ei
            cases r1 with
            | lst q r => exact ⟨_, rfl, .inl ⟨_, q.sq, k _ _ B h1 _ e1 w1 (seq_lst q r.rvs) q1⟩⟩
          | tuple ds =>
            cases ei
            cases r1 with
            | tup q r => exact ⟨_, rfl, .inr ⟨_, q, k _ _ B h1 _ e1 w1 (seq_tup q r.rvs) q1⟩⟩
          | _ => cases ei
      | lst ws' =>
        cases ei
        have r1 : RV K B.gs B.F H1 (.lst ws) v := r1
        cases r1 with
        | lst q r => exact ⟨_, rfl, .inl ⟨_, q.sq, k _ _ B h1 _ e1 w1 (seq_lst q r) q1⟩⟩
      | tup ws' =>
        cases ei
        have r1 : RV K B.gs B.F H1 (.tup ws) v := r1
        cases r1 with
        | tup q r => exact ⟨_, rfl, .inr ⟨_, q, k _ _ B h1 _ e1 w1 (seq_tup q r) q1⟩⟩
      | scr ns =>
        cases ei
        have r1 : RV K B.gs B.F H1 (.scr ns) v := r1
        cases r1 with
        | scr q => exact ⟨_, rfl, .inl ⟨_, q.sq, k _ _ B h1 _ e1 w1 (seq_scr q) q1⟩⟩
      | _ => cases ei
  · exact q1.elim
theorem tri_val (he : TrE X e t) : TrI X tg e (iAny X.K (wE X e)) (sItems t) := ⟨pi_any pw_E, fun ht wr rs k => any_ir he.er ht wr rs k⟩
theorem tib_val (he : ∀ (s : Shared) (H0 : Hp) (C : Addr) (cl : List (Str × Addr)) (fp : List Addr), TrE (X.blk s H0 scope (compEnvC scope cl C X.env) fp) iter t) :
    (∀ (s : Shared) (H : Hp) (C : Addr) (cl : List (Str × Addr)) (fp : List Addr), PI (X.blk s H scope (compEnvC scope cl C X.env) fp) tg iter (iAny X.K (wEb X scope iter))) ∧ TIr X.K (iAny X.K (wEb X scope iter)) (sItems t) :=
  ⟨fun s H C cl fp => pi_any (X := X.blk s H scope (compEnvC scope cl C X.env) fp) (pw_Eb s H C cl fp), any_ir (eb_er he)⟩
/-! range -/
def rangeW (lo : Int) (n : Nat) : List W := (List.range n).map fun (i : Nat) => W.dat (.int (lo + (i : Int)))
theorem rangeW_at {lo : Int} {n i : Nat} {w : W} (e : (rangeW lo n)[i]? = some w) : i < n ∧ w = .dat (.int (lo + (i : Int))) := by
  unfold rangeW at e
  rw [List.getElem?_map] at e
  by_cases h : i < n
  · rw [List.getElem?_range h] at e
    cases e
    exact ⟨h, rfl⟩
  · rw [List.getElem?_eq_none (by rw [List.length_range]; omega)] at e
    cases e
theorem rangeW_len {lo : Int} {n : Nat} : (rangeW lo n).length = n := by unfold rangeW; rw [List.length_map, List.length_range]
theorem seq_rng {K : PySem.W.Frag} {A : Wd} {H : Hp} {lo : Int} {n : Nat} : Seq K (Itr lo n) A H (rangeW lo n) := fun i C H2 e g => by
  rw [rangeW_len]
  refine ⟨fun hi => hi, fun w hw => ?_⟩
  obtain ⟨hl, rfl⟩ := rangeW_at hw
  refine ⟨hl, fun x H3 ⟨e3, y⟩ => ?_⟩
  subst e3 y
  exact ⟨.refl _, .dat (.int _)⟩
def iW (u : U) : Option Int := match u with
  | .v (.dat (.int i)) => some i
  | _ => none
theorem iW.out {K : PySem.W.Frag} {A : Wd} {H : Hp} {u : U} {i : Int} {v : V} (e : iW u = some i) (r : RU K A H u v) : v = .int i := by
  unfold iW at e
  split at e
  · cases e
    have r : RV K A.gs A.F H (.dat (.int i)) v := r
    cases r with
    | dat r =>
      cases r
      rfl
  · cases e
def sRng1 (t : TAW) : TIW := fun σ h Q => t σ h fun us h1 => match us with
  | [.v (.dat (.int j))] => -(2 ^ 62) ≤ j ∧ j < 2 ^ 62 ∧ Q (rangeW 0 j.toNat) h1
  | _ => False
def sRng2 (t : TAW) : TIW := fun σ h Q => t σ h fun us h1 => match us with
  | [.v (.dat (.int i)), .v (.dat (.int j))] => (-(2 ^ 62) ≤ i ∧ i < 2 ^ 62 ∧ -(2 ^ 62) ≤ j ∧ j < 2 ^ 62) ∧ Q (rangeW i (j - i).toNat) h1
  | _ => False
theorem ru_int {K : PySem.W.Frag} {A : Wd} {H : Hp} {i : Int} {v : V} (r : RU K A H (.v (.dat (.int i))) v) : v = .int i := iW.out rfl r
theorem ru_str {K : PySem.W.Frag} {A : Wd} {H : Hp} {i : Str} {v : V} (r : RU K A H (.v (.dat (.str i))) v) : v = .str i := by
  have r : RV K A.gs A.F H (.dat (.str i)) v := r
  cases r with
  | dat r =>
    cases r
    rfl
theorem ru_bool {K : PySem.W.Frag} {A : Wd} {H : Hp} {i : Bool} {v : V} (r : RU K A H (.v (.dat (.bool i))) v) : v = .bl i := by
  have r : RV K A.gs A.F H (.dat (.bool i)) v := r
  cases r with
  | dat r =>
    cases r
    rfl
theorem ru_none {K : PySem.W.Frag} {A : Wd} {H : Hp} {v : V} (r : RU K A H (.v (.dat .none)) v) : v = .non := by
  have r : RV K A.gs A.F H (.dat .none) v := r
  cases r with
  | dat r =>
    cases r
    rfl
theorem ru_dat {K : PySem.W.Frag} {A : Wd} {H : Hp} {d : PyData} {v : V} (r : RU K A H (.v (.dat d)) v) : RD K A.F H d v := by
  have r : RV K A.gs A.F H (.dat d) v := r
  cases r with
  | dat r => exact r
theorem rng1_ir {K : PySem.W.Frag} {te : TA} (he : TAr K te tas) : TIr K (iRng1 te) (sRng1 tas) := fun {σ h Q A H τ R} ht wr rs k => he ht wr rs fun vs H1 B h1 us e1 w1 r1 rs1 q1 => by
  split at q1
  · obtain ⟨q2, q3, q4⟩ := q1
    cases r1 with
    | cons r1 rr =>
      cases rr
      exact ⟨_, by rw [ru_int r1], q2, q3, k _ _ B h1 _ e1 w1 seq_rng q4⟩
  · exact q1.elim
theorem rng2_ir {K : PySem.W.Frag} {te : TA} (he : TAr K te tas) : TIr K (iRng2 te) (sRng2 tas) := fun {σ h Q A H τ R} ht wr rs k => he ht wr rs fun vs H1 B h1 us e1 w1 r1 rs1 q1 => by
  split at q1
  · obtain ⟨q2, q4⟩ := q1
    cases r1 with
    | cons r1 rr =>
      cases rr with
      | cons r2 rr =>
        cases rr
        exact ⟨_, _, by rw [ru_int r1, ru_int r2], q2, k _ _ B h1 _ e1 w1 seq_rng q4⟩
  · exact q1.elim
theorem tri_rng1 (hm : X.mg "range" = none) (ha : TrA X [a] tas) (hg : Gl X "range" := by rfl) (hs : starEach [a] X.env = [(false, eval a X.env)] := by rfl) : TrI X tg (.Call (.Name "range" p) [a] [] pos) (iRng1 (wA X [a])) (sRng1 tas) := ⟨pi_range1 hg hm pw_A hs, fun ht wr rs k => rng1_ir ha.er ht wr rs k⟩
theorem tri_rng2 (hm : X.mg "range" = none) (ha : TrA X [a, b] tas) (hg : Gl X "range" := by rfl) (hs : starEach [a, b] X.env = [(false, eval a X.env), (false, eval b X.env)] := by rfl) (hs2 : starEach [b] X.env = [(false, eval b X.env)] := by rfl) : TrI X tg (.Call (.Name "range" p) [a, b] [] pos) (iRng2 (wA X [a, b])) (sRng2 tas) := ⟨pi_range2 hg hm pw_A hs hs2, fun ht wr rs k => rng2_ir ha.er ht wr rs k⟩
theorem tib_rng1 (hm : X.mg "range" = none) (ha : ∀ (s : Shared) (H0 : Hp) (C : Addr) (cl : List (Str × Addr)) (fp : List Addr), TrA (X.blk s H0 scope (compEnvC scope cl C X.env) fp) [a] tas)
    (hg : ∀ (s : Shared) (H0 : Hp) (C : Addr) (cl : List (Str × Addr)) (fp : List Addr), Gl (X.blk s H0 scope (compEnvC scope cl C X.env) fp) "range" := by intros; rfl)
    (hs : ∀ (s : Shared) (H0 : Hp) (C : Addr) (cl : List (Str × Addr)) (fp : List Addr), starEach [a] (X.blk s H0 scope (compEnvC scope cl C X.env) fp).env = [(false, eval a (X.blk s H0 scope (compEnvC scope cl C X.env) fp).env)] := by intros; rfl) :
    (∀ (s : Shared) (H : Hp) (C : Addr) (cl : List (Str × Addr)) (fp : List Addr), PI (X.blk s H scope (compEnvC scope cl C X.env) fp) tg (.Call (.Name "range" p) [a] [] pos) (iRng1 (wAb X scope [a]))) ∧ TIr X.K (iRng1 (wAb X scope [a])) (sRng1 tas) :=
  ⟨fun s H C cl fp => pi_range1 (hg s H C cl fp) hm (pw_Ab s H C cl fp) (hs s H C cl fp), rng1_ir (ab_er ha)⟩
theorem tib_rng2 (hm : X.mg "range" = none) (ha : ∀ (s : Shared) (H0 : Hp) (C : Addr) (cl : List (Str × Addr)) (fp : List Addr), TrA (X.blk s H0 scope (compEnvC scope cl C X.env) fp) [a, b] tas)
    (hg : ∀ (s : Shared) (H0 : Hp) (C : Addr) (cl : List (Str × Addr)) (fp : List Addr), Gl (X.blk s H0 scope (compEnvC scope cl C X.env) fp) "range" := by intros; rfl)
    (hs : ∀ (s : Shared) (H0 : Hp) (C : Addr) (cl : List (Str × Addr)) (fp : List Addr), starEach [a, b] (X.blk s H0 scope (compEnvC scope cl C X.env) fp).env = [(false, eval a (X.blk s H0 scope (compEnvC scope cl C X.env) fp).env), (false, eval b (X.blk s H0 scope (compEnvC scope cl C X.env) fp).env)] := by intros; rfl)
    (hs2 : ∀ (s : Shared) (H0 : Hp) (C : Addr) (cl : List (Str × Addr)) (fp : List Addr), starEach [b] (X.blk s H0 scope (compEnvC scope cl C X.env) fp).env = [(false, eval b (X.blk s H0 scope (compEnvC scope cl C X.env) fp).env)] := by intros; rfl) :
    (∀ (s : Shared) (H : Hp) (C : Addr) (cl : List (Str × Addr)) (fp : List Addr), PI (X.blk s H scope (compEnvC scope cl C X.env) fp) tg (.Call (.Name "range" p) [a, b] [] pos) (iRng2 (wAb X scope [a, b]))) ∧ TIr X.K (iRng2 (wAb X scope [a, b])) (sRng2 tas) :=
  ⟨fun s H C cl fp => pi_range2 (hg s H C cl fp) hm (pw_Ab s H C cl fp) (hs s H C cl fp) (hs2 s H C cl fp), rng2_ir (ab_er ha)⟩
end
/-! the walk of a comprehension -/
def asD (Q : PyData → Hw → Prop) : QU := fun u h => match u with
  | .v (.dat d) => Q d h
  | _ => False
theorem asD.out {Q : PyData → Hw → Prop} {u : U} {h : Hw} (q : asD Q u h) : ∃ b, u = .v (.dat b) ∧ Q b h := by
  unfold asD at q
  split at q
  · exact ⟨_, rfl, q⟩
  · exact q.elim
def wipeW (σ : Sw) : List Nat → Sw
  | [] => σ
  | v :: vs => (wipeW σ vs).set v none
theorem RS.wipe {K : PySem.W.Frag} {A : Wd} {H : Hp} {σ : Sw} {τ : L2.St} (r : RS K A H σ τ) : ∀ vs : List Nat, RS K A H (wipeW σ vs) (wipe τ vs)
  | [] => r
  | v :: vs => by
    have r' := RS.wipe r vs
    refine ⟨?_, fun i u e => ?_⟩
    · show ((wipeW σ vs).set v none).length = ((L2.wipe τ vs).set v none).length
      rw [List.length_set, List.length_set, r'.len]
    · have e : ((wipeW σ vs).set v none)[i]? = some (some u) := e
      show ∃ w, ((L2.wipe τ vs).set v none)[i]? = some (some w) ∧ _
      by_cases q : v = i
      · subst q
        rw [List.getElem?_set, if_pos rfl] at e
        split at e <;> cases e
      · rw [List.getElem?_set_ne q] at e ⊢
        exact r'.at_ i u e
def compR (b : BW) (tt : TTW) (te : TW) : List W → List PyData → Sw → Hw → (List PyData → Hw → Prop) → Prop
  | [], acc, _, h, Q => Q acc h
  | w :: ws, acc, σ, h, Q => ∃ σ', b w σ = some σ' ∧ tt σ' h fun k h1 => if k = true then te σ' h1 (asD fun d h2 => compR b tt te ws (acc ++ [d]) σ h2 Q) else compR b tt te ws acc σ h1 Q
def sLc (ti : TIW) (b : BW) (tt : TTW) (te : TW) (vs : List Nat) : TLW := fun σ h Q => ti σ h fun ws h1 => ws.length ≤ 100000 ∧ compR b tt te ws [] (wipeW σ vs) h1 Q
/-- two fors -/
def sLc2 (ti : TIW) (b : BW) (tt : TTW) (ti1 : TIW) (b1 : BW) (tt1 : TTW) (te : TW) (vs vs1 : List Nat) : TLW := fun σ h Q => ti σ h fun ws h1 => ws.length ≤ 1000 ∧ compR2 ws [] (wipeW σ vs) h1 Q
where compR2 : List W → List PyData → Sw → Hw → (List PyData → Hw → Prop) → Prop
  | [], acc, _, h, Q => Q acc h
  | w :: ws, acc, σ, h, Q => ∃ σ', b w σ = some σ' ∧ tt σ' h fun k h1 => if k = true then ti1 σ' h1 (fun ws1 h2 => ws1.length ≤ 1000 ∧ compR b1 tt1 te ws1 acc (wipeW σ' vs1) h2 fun acc' h3 => compR2 ws acc' σ h3 Q) else compR2 ws acc σ h1 Q
/-- what lies between two turns: the new list M and what is in it -/
structure Mid (K : PySem.W.Frag) (B : Wd) (h1 : Hw) (H1 : Hp) (M : Addr) (m : Nat) (C : Wd) (h2 : Hw) (H2 : Hp) (acc : List PyData) : Prop where
  e : Ext B h1 H1 C h2 H2
  w : WR K C h2 H2
  o : Off C M
  at_ : ∃ vs, H2 M = some (.lst vs) ∧ RDs K C.F H2 acc vs
  le : acc.length ≤ m
section
variable {K : PySem.W.Frag} {B C D : Wd} {h1 h2 h3 : Hw} {H1 H2 H3 : Hp} {M : Addr} {m : Nat} {acc : List PyData}
theorem Mid.ext (x : Mid K B h1 H1 M m C h2 H2 acc) (e : Ext C h2 H2 D h3 H3) (w : WR K D h3 H3) : Mid K B h1 H1 M m D h3 H3 acc := by
  obtain ⟨vs, q, r⟩ := x.at_
  exact ⟨x.e.trans e, w, x.o.ext e (by rw [q]; exact fun z => by cases z), ⟨vs, e.kp M _ q x.o.liv, RDs.mono (e.stay x.w) _ _ r⟩, x.le⟩
theorem Mid.add (x : Mid K B h1 H1 M m C h2 H2 acc) (n : H1 M = none) {d : PyData} {v : V} (r : RD K C.F H2 d v) : ∃ vs, H2 M = some (.lst vs) ∧ vs.length ≤ m ∧ Mid K B h1 H1 M (m + 1) C h2 (upd H2 M (.lst (vs ++ [v]))) (acc ++ [d]) := by
  obtain ⟨vs, q, rr⟩ := x.at_
  have k : ∀ xs, H2 M ≠ some (.tup xs) := fun xs z => by rw [q] at z; cases z
  have z : ∀ ob u, H2 M ≠ some (.frz ob u) := fun ob u z => by rw [q] at z; cases z
  have st : Stay C.F C.F H2 (upd H2 M (.lst (vs ++ [v]))) := stay_off x.o.f k z
  refine ⟨vs, q, by rw [rr.len]; exact x.le, x.e.upd_new n, x.w.upd_off x.o k z (fun _ z => by cases z), x.o, ⟨_, upd_same, (RDs.mono st _ _ rr).app (.cons (RD.mono st _ _ r) .nil)⟩, ?_⟩
  rw [List.length_append]
  exact Nat.add_le_add_right x.le 1
theorem Mid.start (w : WR K B h1 H1) (n : H1 M = none) : Mid K B h1 H1 M 0 B h1 (upd H1 M (.lst [])) [] := by
  have s : Same H1 (upd H1 M (.lst [])) := same_new n
  exact ⟨.same s, w.same s, w.off n, ⟨[], upd_same, .nil⟩, Nat.le_refl _⟩
theorem Mid.le' (x : Mid K B h1 H1 M m C h2 H2 acc) {m' : Nat} (l : m ≤ m') : Mid K B h1 H1 M m' C h2 H2 acc := ⟨x.e, x.w, x.o, x.at_, Nat.le_trans x.le l⟩
theorem Mid.newL {A : Wd} {h : Hw} {H : Hp} (x : Mid K B h1 H1 M m C h2 H2 acc) (n : H1 M = none) (e : Ext A h H B h1 H1) : ∃ vs, NewL K A h H C h2 H2 acc M vs := by
  obtain ⟨vs, q, r⟩ := x.at_
  exact ⟨vs, e.trans x.e, x.w, e.th M n, x.o, q, r⟩
end
theorem Stay.trans {F F' F'' : Addr → Prop} {H H' H'' : Hp} (a : Stay F F' H H') (b : Stay F' F'' H' H'') : Stay F F'' H H'' :=
  ⟨fun x f => b.f x (a.f x f), fun x o f e => b.o x o (a.f x f) (a.o x o f e), fun x xs e => b.t x xs (a.t x xs e), fun x o u e => b.z x o u (a.z x o u e)⟩
theorem Stay.refl {F : Addr → Prop} {H : Hp} : Stay F F H H := ⟨fun _ f => f, fun _ _ _ e => e, fun _ _ e => e, fun _ _ _ e => e⟩
theorem RS.stay {K : PySem.W.Frag} {A C : Wd} {H H' : Hp} {σ : Sw} {τ : L2.St} (r : RS K A H σ τ) (st : Stay A.F C.F H H') (g : ∀ (n : Nat) (a : Addr), A.gs[n]? = some a → C.gs[n]? = some a) (l : ∀ (n : Nat) (a : Addr), A.ls[n]? = some a → C.ls[n]? = some a) : RS K C H' σ τ := ⟨r.len, fun i u e => by
  obtain ⟨v, z, y⟩ := r.at_ i u e
  refine ⟨v, z, ?_⟩
  cases u with
  | v w => exact RV.mono st g _ _ y
  | l n =>
    obtain ⟨a, q, e⟩ := y
    exact ⟨a, l _ _ q, e⟩⟩
theorem sz100 {n : Nat} (h : n < 2000001) : n < sizeLine := Nat.lt_of_lt_of_le h (by decide)
section
variable {K : PySem.W.Frag} {wi wi1 : TI} {ti ti1 : TIW} {g g1 : TG} {vs vs1 : List Nat} {b b1 : BW} {te : TE} {ttv tt1v : TT} {t : TW} {tt tt1 : TTW} {σ : Sw} {h : Hw} {A : Wd} {H : Hp} {τ : L2.St} {Q : List PyData → Hw → Prop}
/-- one turn: the element or not -/
theorem turn_el {B C : Wd} {h1 h2 : Hw} {H1 H2 : Hp} {M : Addr} {m : Nat} {acc : List PyData} {σ' : Sw} {τ' : L2.St} {Qk : List PyData → Hw → Prop} {Nx : Hp → Prop} (her : TEr K te t) (htr : TTr K ttv tt) (n : H1 M = none) (hm : m < 2000000)
    (x : Mid K B h1 H1 M m C h2 H2 acc) (rs : RS K C H2 σ' τ') (q : tt σ' h2 fun k h3 => if k = true then t σ' h3 (asD fun d h4 => Qk (acc ++ [d]) h4) else Qk acc h3)
    (kk : ∀ C' h' H' acc', Mid K B h1 H1 M (m + 1) C' h' H' acc' → Stay C.F C'.F H2 H' → (∀ (n : Nat) (a : Addr), C.gs[n]? = some a → C'.gs[n]? = some a) → (∀ (n : Nat) (a : Addr), C.ls[n]? = some a → C'.ls[n]? = some a) → Qk acc' h' → Nx H') :
    ttv τ' H2 fun k H3 => if k = true then te τ' H3 fun y H4 => ∃ acc', H4 M = some (.lst acc') ∧ acc'.length < sizeLine ∧ Nx (upd H4 M (.lst (acc' ++ [y]))) else Nx H3 :=
  htr q x.w rs fun k H3 C3 h3 e3 w3 rs3 q3 => by
    have x3 := x.ext e3 w3
    cases k with
    | true =>
      show te τ' H3 _
      exact her q3 w3 rs3 fun v H4 C4 h4 u e4 w4 r4 rs4 q4 => by
        obtain ⟨d, rfl, q4⟩ := q4.out
        obtain ⟨vs, hv, hl, x5⟩ := (x3.ext e4 w4).add n (ru_dat r4)
        exact ⟨vs, hv, sz100 (by omega), kk _ _ _ _ x5 (((e3.trans e4).stay x.w).trans (stay_off (x3.ext e4 w4).o.f (fun xs z => by rw [hv] at z; cases z) fun ob u z => by rw [hv] at z; cases z)) (e3.trans e4).gs (e3.trans e4).ls q4⟩
    | false => exact kk _ _ _ _ (x3.le' (Nat.le_succ _)) (e3.stay x.w) e3.gs e3.ls q3
theorem lc_run (hir : TIr K wi ti) (hgw : TrG K g vs b) (htr : TTr K ttv tt) (her : TEr K te t) (ht : sLc ti b tt t vs σ h Q) (wr : WR K A h H) (rs : RS K A H σ τ) {R : VK} (kR : ∀ v H', (∃ B h' ds M us, v = .ref M ∧ NewL K A h H B h' H' ds M us ∧ Q ds h') → R v H') :
    tLc wi g ttv te vs τ H R := hir ht wr rs fun J H1 B h1 ws e1 w1 sq ⟨hl, q1⟩ => by
  intro M n
  refine ⟨fun i m H' => m = ws.length - i ∧ i ≤ ws.length ∧ ∃ C h2 acc, Mid K B h1 H1 M i C h2 H' acc ∧ compR b tt t (ws.drop i) acc (wipeW σ vs) h2 Q, ⟨ws.length, by simp, Nat.zero_le _, B, h1, [], .start w1 n, q1⟩, ?_⟩
  rintro i m H' ⟨rfl, hi, C, h2, acc, x, q2⟩
  by_cases hlt : i < ws.length
  · right
    have ew := List.getElem?_eq_getElem hlt
    rw [same_drop ew] at q2
    obtain ⟨σ2, es, q2⟩ := q2
    obtain ⟨go, yl⟩ := (sq i C H' (x.e.stay w1) x.e.gs).2 _ ew
    refine ⟨go, fun H3 => ∃ C' h3 acc', Mid K B h1 H1 M (i + 1) C' h3 H3 acc' ∧ compR b tt t (ws.drop (i + 1)) acc' (wipeW σ vs) h3 Q, fun H3 q => ⟨ws.length - (i + 1), by omega, rfl, hlt, q⟩, fun y H3 yy => ?_⟩
    obtain ⟨s3, r3⟩ := yl y H3 yy
    have x3 := x.ext (.same s3) (x.w.same s3)
    exact hgw.run x3.w r3 ((rs.ext wr (e1.trans x3.e)).wipe vs) es fun τ4 rs4 hw => ⟨hw.trans wipe_idem, turn_el her htr n (by omega) x3 rs4 q2 fun C' h' H' acc' x' _ _ _ q' => ⟨C', h', acc', x', q'⟩⟩
  · left
    have : i = ws.length := by omega
    rw [this, List.drop_length] at q2
    obtain ⟨us, nl⟩ := x.newL n e1
    exact ⟨(sq i C H' (x.e.stay w1) x.e.gs).1 (by omega), kR _ _ ⟨C, h2, acc, M, us, rfl, nl, q2⟩⟩
theorem lc2_run (hir : TIr K wi ti) (hgw : TrG K g vs b) (htr : TTr K ttv tt) (hir1 : TIr K wi1 ti1) (hgw1 : TrG K g1 vs1 b1) (htr1 : TTr K tt1v tt1) (her : TEr K te t) (ht : sLc2 ti b tt ti1 b1 tt1 t vs vs1 σ h Q) (wr : WR K A h H) (rs : RS K A H σ τ) {R : VK} (kR : ∀ v H', (∃ B h' ds M us, v = .ref M ∧ NewL K A h H B h' H' ds M us ∧ Q ds h') → R v H') :
    tLc2 wi g ttv wi1 g1 tt1v te vs vs1 τ H R := hir ht wr rs fun J H1 B h1 ws e1 w1 sq ⟨hl, q1⟩ => by
  intro M n
  refine ⟨fun i m H' => m = ws.length - i ∧ i ≤ ws.length ∧ ∃ C h2 acc, Mid K B h1 H1 M (i * 1000) C h2 H' acc ∧ sLc2.compR2 b tt ti1 b1 tt1 t vs1 (ws.drop i) acc (wipeW σ vs) h2 Q, ⟨ws.length, by simp, Nat.zero_le _, B, h1, [], (Mid.start w1 n).le' (Nat.zero_le _), q1⟩, ?_⟩
  rintro i m H' ⟨rfl, hi, C, h2, acc, x, q2⟩
  by_cases hlt : i < ws.length
  · right
    have ew := List.getElem?_eq_getElem hlt
    rw [same_drop ew] at q2
    obtain ⟨σ2, es, q2⟩ := q2
    obtain ⟨go, yl⟩ := (sq i C H' (x.e.stay w1) x.e.gs).2 _ ew
    refine ⟨go, fun H3 => ∃ C' h3 acc', Mid K B h1 H1 M ((i + 1) * 1000) C' h3 H3 acc' ∧ sLc2.compR2 b tt ti1 b1 tt1 t vs1 (ws.drop (i + 1)) acc' (wipeW σ vs) h3 Q, fun H3 q => ⟨ws.length - (i + 1), by omega, rfl, hlt, q⟩, fun y H3 yy => ?_⟩
    obtain ⟨s3, r3⟩ := yl y H3 yy
    have x3 := x.ext (.same s3) (x.w.same s3)
    refine hgw.run x3.w r3 ((rs.ext wr (e1.trans x3.e)).wipe vs) es fun τ4 rs4 hw => ⟨hw.trans wipe_idem, ?_⟩
    refine htr q2 x3.w rs4 fun k H5 C5 h5 e5 w5 rs5 q5 => ?_
    have x5 := x3.ext e5 w5
    cases k with
    | false => exact ⟨C5, h5, acc, x5.le' (by omega), q5⟩
    | true =>
      show wi1 τ4 H5 _
      refine hir1 q5 w5 rs5 fun J1 H6 B6 h6 ws1 e6 w6 sq6 ⟨hl6, q6⟩ => ?_
      have x6 := x5.ext e6 w6
      refine ⟨fun j m H' => m = ws1.length - j ∧ j ≤ ws1.length ∧ ∃ C h2 acc, Mid K B h1 H1 M (i * 1000 + j) C h2 H' acc ∧ (Stay B6.F C.F H6 H' ∧ (∀ (n : Nat) (a : Addr), B6.gs[n]? = some a → C.gs[n]? = some a)) ∧ RS K C H' (wipeW σ2 vs1) (wipe τ4 vs1) ∧ compR b1 tt1 t (ws1.drop j) acc (wipeW σ2 vs1) h2 (fun acc' h3 => sLc2.compR2 b tt ti1 b1 tt1 t vs1 (ws.drop (i + 1)) acc' (wipeW σ vs) h3 Q), ⟨ws1.length, by simp, Nat.zero_le _, B6, h6, acc, x6, ⟨.refl, fun _ _ z => z⟩, (rs5.ext w5 e6).wipe vs1, q6⟩, ?_⟩
      rintro j m H7 ⟨rfl, hj, C7, h7, acc7, x7, ⟨e7, g7⟩, rs7, q7⟩
      have s7 := sq6 j C7 H7 e7 g7
      by_cases hl7 : j < ws1.length
      · right
        have ew7 := List.getElem?_eq_getElem hl7
        rw [same_drop ew7] at q7
        obtain ⟨σ8, es8, q8⟩ := q7
        obtain ⟨go8, yl8⟩ := s7.2 _ ew7
        refine ⟨go8, fun H3 => ∃ C h2 acc, Mid K B h1 H1 M (i * 1000 + (j + 1)) C h2 H3 acc ∧ (Stay B6.F C.F H6 H3 ∧ (∀ (n : Nat) (a : Addr), B6.gs[n]? = some a → C.gs[n]? = some a)) ∧ RS K C H3 (wipeW σ2 vs1) (wipe τ4 vs1) ∧ compR b1 tt1 t (ws1.drop (j + 1)) acc (wipeW σ2 vs1) h2 (fun acc' h3 => sLc2.compR2 b tt ti1 b1 tt1 t vs1 (ws.drop (i + 1)) acc' (wipeW σ vs) h3 Q), fun H3 q => ⟨ws1.length - (j + 1), by omega, rfl, hl7, q⟩, fun y8 H8 yy8 => ?_⟩
        obtain ⟨s8, r8⟩ := yl8 y8 H8 yy8
        have x8 := x7.ext (.same s8) (x7.w.same s8)
        have rs8 := rs7.ext x7.w (.same s8)
        refine hgw1.run x8.w r8 rs8 es8 fun τ9 rs9 hw9 => ⟨hw9.trans wipe_idem, turn_el (m := i * 1000 + j) her htr1 n (by omega) x8 rs9 q8 fun C' h' H' acc' x' st' g' l' q' => ⟨C', h', acc', x', ⟨(e7.trans ((Ext.same (A := C7) (h := h7) s8).stay x7.w)).trans st', fun n a z => g' n a (g7 n a z)⟩, ?_, q'⟩⟩
        exact rs8.stay st' g' l'
      · left
        have : j = ws1.length := by omega
        rw [this, List.drop_length] at q7
        exact ⟨s7.1 (by omega), C7, h7, acc7, x7.le' (by omega), q7⟩
  · left
    have : i = ws.length := by omega
    rw [this, List.drop_length] at q2
    obtain ⟨us, nl⟩ := x.newL n e1
    exact ⟨(sq i C H' (x.e.stay w1) x.e.gs).1 (by omega), kR _ _ ⟨C, h2, acc, M, us, rfl, nl, q2⟩⟩
end
end Wl

/-! operators, items, built-ins -/
namespace Wl
open PySem PySem.Spec PyProof.Rows L2 Cb
/-- a list of data, as it may be read -/
def rowD (h : Hw) : U → Option (List PyData)
  | .v (.dat (.list ds)) => some ds
  | .v (.ref n) => match h.g[n]? with
    | some (.lsd ds) => some ds
    | _ => none
  | .l n => match h.l[n]? with
    | some (.lsd ds) => some ds
    | _ => none
  | _ => none
/-- a datum, as it may be read -/
def rdU (h : Hw) : U → Option PyData
  | .v (.dat d) => some d
  | .v (.scr ns) => some (.list (ns.map .int))
  | .v (.ref n) => match h.g[n]? with
    | some (.lsd ds) => some (.list ds)
    | _ => none
  | .l n => match h.l[n]? with
    | some (.lsd ds) => some (.list ds)
    | _ => none
  | _ => none
section
variable {K : PySem.W.Frag} {A B C : Wd} {h h1 h2 : Hw} {H H1 H2 : Hp} {u : U} {v : V}
theorem row_ok {ds : List PyData} (w : WR K A h H) (r : RU K A H u v) (e : rowD h u = some ds) : ∃ a vs, v = .ref a ∧ H a = some (.lst vs) ∧ RDs K A.F H ds vs := by
  unfold rowD at e
  split at e
  · cases e
    have r := ru_dat r
    cases r with
    | lst q r => exact ⟨_, _, rfl, q.2, by assumption⟩
  · rename_i n
    split at e
    · rename_i ds' eo
      cases e
      have r : RV K A.gs A.F H (.ref n) v := r
      cases r with
      | ref ea =>
        obtain ⟨vs, q, t⟩ := w.gc n _ _ ea eo
        exact ⟨_, vs, rfl, q, t⟩
    · cases e
  · rename_i n
    split at e
    · rename_i ds' eo
      cases e
      obtain ⟨a, ea, rfl⟩ := r
      obtain ⟨vs, q, t⟩ := w.lc n a _ ea eo
      exact ⟨a, vs, rfl, q, t⟩
    · cases e
  · cases e
theorem dpAll_ints : ∀ ns : List Int, DpAll K H (ns.map V.int) (ns.map PyData.int)
  | [] => .nil
  | n :: ns => .cons (.int n) (dpAll_ints ns)
theorem rd_ok {d : PyData} (w : WR K A h H) (r : RU K A H u v) (e : rdU h u = some d) : Dp K H v d := by
  unfold rdU at e
  split at e
  · cases e
    exact RD.dp _ _ (ru_dat r)
  · cases e
    rename_i ns
    have r : RV K A.gs A.F H (.scr ns) v := r
    cases r with
    | scr q => exact .lst q.sq (dpAll_ints _)
  · rename_i n
    split at e
    · rename_i ds' eo
      cases e
      have r : RV K A.gs A.F H (.ref n) v := r
      cases r with
      | ref ea =>
        obtain ⟨vs, q, t⟩ := w.gc n _ _ ea eo
        exact .lst (.of q) (RDs.dp _ _ t)
    · cases e
  · rename_i n
    split at e
    · rename_i ds' eo
      cases e
      obtain ⟨a, ea, rfl⟩ := r
      obtain ⟨vs, q, t⟩ := w.lc n a _ ea eo
      exact .lst (.of q) (RDs.dp _ _ t)
    · cases e
  · cases e
theorem ru_tup {ds : List PyData} (r : RU K A H (.v (.dat (.tuple ds))) v) : ∃ a vs, v = .ref a ∧ SqT K H a vs ∧ RDs K A.F H ds vs := by
  have r := ru_dat r
  cases r with
  | tup q r => exact ⟨_, _, rfl, q, by assumption⟩
theorem RDs.ints : ∀ {ns : List Int} {xs : List V}, RDs K F H (ns.map PyData.int) xs → xs = ns.map V.int
  | [], _, .nil => rfl
  | n :: ns, _, .cons q r => by
    cases q
    rw [RDs.ints r]
    rfl
theorem RDs.bools : ∀ {ns : List Bool} {xs : List V}, RDs K F H (ns.map PyData.bool) xs → xs = ns.map V.bl
  | [], _, .nil => rfl
  | n :: ns, _, .cons q r => by
    cases q
    rw [RDs.bools r]
    rfl
/-! ints -/
def gI0 (f : Int → Int → PyData) : U → U → Hw → QU → Prop := fun x y h Q => match x, y with
  | .v (.dat (.int i)), .v (.dat (.int j)) => Q (.v (.dat (f i j))) h
  | _, _ => False
def gI (C : Int → Int → Prop) (f : Int → Int → PyData) : U → U → Hw → QU → Prop := fun x y h Q => match x, y with
  | .v (.dat (.int i)), .v (.dat (.int j)) => C i j ∧ Q (.v (.dat (f i j))) h
  | _, _ => False
section
variable {X : Cx} {f : Value → Value → Sem Value}
theorem opw_I0 {g : Int → Int → V} {fd : Int → Int → PyData} (ho : OpR X f (rI0 g)) (hd : ∀ i j F H, RD X.K F H (fd i j) (g i j)) : OpW X f (gI0 fd) := fun A h H x y v u Q R wr rx ry q k => by
  unfold gI0 at q
  split at q
  · exact ⟨_, ho, _, _, ru_int rx, ru_int ry, k _ _ (.mk wr (.refl _) (.dat (hd _ _ _ _)) q)⟩
  · exact q.elim
theorem opw_I {g : Int → Int → V} {C : Int → Int → Prop} {fd : Int → Int → PyData} (ho : OpR X f (rI C g)) (hd : ∀ i j F H, RD X.K F H (fd i j) (g i j)) : OpW X f (gI C fd) := fun A h H x y v u Q R wr rx ry q k => by
  unfold gI at q
  split at q
  · exact ⟨_, ho, _, _, ru_int rx, ru_int ry, q.1, k _ _ (.mk wr (.refl _) (.dat (hd _ _ _ _)) q.2)⟩
  · exact q.elim
abbrev gSub := gI0 fun i j => .int (i - j)
def CMulA (i j : Int) : Prop := CMulW i j ∨ CMul i j
theorem op_mulA : OpR X (binaryOp .Mult) (rI CMulA fun i j => .int (i * j)) := opI fun _ _ _ _ _ _ _ hc q => mul_int q (hc.elim CMulW.ok CMul.ok)
abbrev gMul := gI CMulA fun i j => .int (i * j)
abbrev gDiv := gI CDivA fun i j => .int (i.fdiv j)
abbrev gMod := gI (fun _ j => 0 < j) fun i j => .int (i % j)
abbrev gPow := gI CPow fun i j => .int (i ^ j.toNat)
abbrev gLt := gI0 fun i j => .bool (decide (i < j))
abbrev gLe := gI0 fun i j => .bool (decide (i ≤ j))
abbrev gGt := gI0 fun i j => .bool (decide (j < i))
abbrev gGe := gI0 fun i j => .bool (decide (j ≤ i))
theorem ow_sub : OpW X (binaryOp .Sub) gSub := opw_I0 op_sub fun _ _ _ _ => .int _
theorem ow_mul : OpW X (binaryOp .Mult) gMul := opw_I op_mulA fun _ _ _ _ => .int _
theorem ow_div : OpW X (binaryOp .FloorDiv) gDiv := opw_I op_fdivA fun _ _ _ _ => .int _
theorem ow_mod : OpW X (binaryOp .Mod) gMod := opw_I op_mod fun _ _ _ _ => .int _
theorem ow_pow : OpW X (binaryOp .Pow) gPow := opw_I op_pow fun _ _ _ _ => .int _
theorem ow_lt : OpW X (compareOp .Lt) gLt := opw_I0 op_lt fun _ _ _ _ => .bl _
theorem ow_le : OpW X (compareOp .LtE) gLe := opw_I0 op_le fun _ _ _ _ => .bl _
theorem ow_gt : OpW X (compareOp .Gt) gGt := opw_I0 op_gt fun _ _ _ _ => .bl _
theorem ow_ge : OpW X (compareOp .GtE) gGe := opw_I0 op_ge fun _ _ _ _ => .bl _
/-- + of ints, of tuples of data, of texts -/
def gAdd : U → U → Hw → QU → Prop := fun x y h Q => match x, y with
  | .v (.dat (.int i)), .v (.dat (.int j)) => Q (.v (.dat (.int (i + j)))) h
  | .v (.dat (.tuple a)), .v (.dat (.tuple b)) => a.length + b.length ≤ 100000 ∧ Q (.v (.dat (.tuple (a ++ b)))) h
  | .v (.dat (.str a)), .v (.dat (.str b)) => a.length + b.length ≤ sizeLine ∧ Q (.v (.dat (.str (a ++ b)))) h
  | _, _ => False
theorem ow_add : OpW X (binaryOp .Add) gAdd := fun A h H x y v u Q R wr rx ry q k => by
  unfold gAdd at q
  split at q
  · exact ⟨_, op_add, _, _, ru_int rx, ru_int ry, k _ _ (.mk wr (.refl _) (.dat (.int _)) q)⟩
  · rename_i a b
    obtain ⟨p, vs, rfl, hp, rp⟩ := ru_tup rx
    obtain ⟨p2, us, rfl, hp2, rp2⟩ := ru_tup ry
    refine ⟨_, op_catA, p, p2, vs, us, rfl, rfl, hp, hp2, ?_, fun e => ?_, fun e e2 => ?_, fun e e2 M hM => ?_⟩
    · rw [rp.len, rp2.len]
      exact Nat.le_trans q.1 (by decide)
    · have : a = [] := by
        have := rp.len
        rw [e] at this
        exact List.length_eq_zero_iff.mp this.symm
      subst this
      exact k _ _ (.mk wr (.refl _) ry q.2)
    · have : b = [] := by
        have := rp2.len
        rw [e2] at this
        exact List.length_eq_zero_iff.mp this.symm
      subst this
      rw [List.append_nil] at q
      exact k _ _ (.mk wr (.refl _) rx q.2)
    · have s : Same H (upd H M (.tup (vs ++ us))) := same_new hM
      exact k _ _ (.mk wr s (.dat (.tup (.of upd_same) (RDs.mono (.new hM) _ _ (rp.app rp2)))) q.2)
  · exact ⟨_, op_add_str, _, _, ru_str rx, ru_str ry, q.1, k _ _ (.mk wr (.refl _) (.dat (.str _)) q.2)⟩
  · exact q.elim
/-! == and != of data -/
def rEqP (K : PySem.W.Frag) : R2 := fun x y H Q => ∃ d e, Dp K H x d ∧ Dp K H y e ∧ d.plain = true ∧ e.plain = true ∧ d.depth ≤ 60 ∧ Q (.bl (PyData.eqv d e)) H
def rNeP (K : PySem.W.Frag) : R2 := fun x y H Q => ∃ d e, Dp K H x d ∧ Dp K H y e ∧ d.plain = true ∧ e.plain = true ∧ d.depth ≤ 60 ∧ Q (.bl (!PyData.eqv d e)) H
theorem op_eqP (hu : X.A.units + 64 < cLine) : OpR X (compareOp .Eq) (rEqP X.K) := by
  rintro pins s σ H x y v u Q I rx ry ⟨d, e, hd, he, pd, pe, dp, q⟩
  obtain ⟨as, r1⟩ := Dp.reads I d x v hd rx
  obtain ⟨bs, r2⟩ := Dp.reads I e y u he ry
  exact SeqAt.eq_plain r1 r2 pd pe (by omega) ⟨.bl _, H, I, rfl, q⟩
theorem op_neP (hu : X.A.units + 64 < cLine) : OpR X (compareOp .NotEq) (rNeP X.K) := by
  rintro pins s σ H x y v u Q I rx ry ⟨d, e, hd, he, pd, pe, dp, q⟩
  obtain ⟨as, r1⟩ := Dp.reads I d x v hd rx
  obtain ⟨bs, r2⟩ := Dp.reads I e y u he ry
  exact SeqAt.ne_plain r1 r2 pd pe (by omega) ⟨.bl _, H, I, rfl, q⟩
def gEq (f : Bool → Bool) : U → U → Hw → QU → Prop := fun x y h Q => match rdU h x, rdU h y with
  | some d, some e => ((d.plain && e.plain) = true ∧ d.depth ≤ 60) ∧ Q (.v (.dat (.bool (f (PyData.eqv d e))))) h
  | _, _ => False
theorem ow_eq (hu : X.A.units + 64 < cLine) : OpW X (compareOp .Eq) (gEq id) := fun A h H x y v u Q R wr rx ry q k => by
  unfold gEq at q
  split at q
  · rename_i d e e1 e2
    obtain ⟨⟨p, dp⟩, q⟩ := q
    rw [Bool.and_eq_true] at p
    exact ⟨_, op_eqP hu, d, e, rd_ok wr rx e1, rd_ok wr ry e2, p.1, p.2, dp, k _ _ (.mk wr (.refl _) (.dat (.bl _)) q)⟩
  · exact q.elim
theorem ow_ne (hu : X.A.units + 64 < cLine) : OpW X (compareOp .NotEq) (gEq not) := fun A h H x y v u Q R wr rx ry q k => by
  unfold gEq at q
  split at q
  · rename_i d e e1 e2
    obtain ⟨⟨p, dp⟩, q⟩ := q
    rw [Bool.and_eq_true] at p
    exact ⟨_, op_neP hu, d, e, rd_ok wr rx e1, rd_ok wr ry e2, p.1, p.2, dp, k _ _ (.mk wr (.refl _) (.dat (.bl _)) q)⟩
  · exact q.elim
/-! is None -/
def isN : U → Bool
  | .v (.dat .none) => true
  | _ => false
theorem isN_ok {K : PySem.W.Frag} {A : Wd} {H : Hp} {u : U} {v : V} (c : ∀ x, u ≠ .v (.cst x)) (r : RU K A H u v) : decide (v = V.non) = isN u := by
  cases u with
  | l n =>
    obtain ⟨a, _, rfl⟩ := r
    rfl
  | v w =>
    have r : RV K A.gs A.F H w v := r
    cases r with
    | dat r => cases r <;> rfl
    | cst => exact absurd rfl (c _)
    | _ => rfl
def gIs (f : Bool → Bool) : U → U → Hw → QU → Prop := fun x y h Q => match x, y with
  | .v (.cst _), _ => False
  | x, .v (.dat .none) => Q (.v (.dat (.bool (f (isN x))))) h
  | _, _ => False
theorem ow_is : OpW X (compareOp .Is) (gIs id) := fun A h H x y v u Q R wr rx ry q k => by
  unfold gIs at q
  split at q
  · exact q.elim
  · rename_i hc
    refine ⟨_, op_isN, ru_none ry, k _ _ (.mk wr (.refl _) ?_ q)⟩
    rw [isN_ok hc rx]
    exact .dat (.bl _)
  · exact q.elim
theorem ow_isnot : OpW X (compareOp .IsNot) (gIs not) := fun A h H x y v u Q R wr rx ry q k => by
  unfold gIs at q
  split at q
  · exact q.elim
  · rename_i hc
    refine ⟨_, op_notN, ru_none ry, k _ _ (.mk wr (.refl _) ?_ q)⟩
    rw [isN_ok hc rx]
    exact .dat (.bl _)
  · exact q.elim
end
end
section
variable {X : Cx} {e a b c o i tg iter elt : Expr} {es : List Expr} {sts : List Stmt} {t ta tb tc : TW} {tl : TLW} {tas : TAW} {tk : TSW} {p q pos p2 : Pos} {x : Str}
/-! unary minus, chains -/
def sNeg (t : TW) : TW := fun σ h Q => t σ h fun u h1 => match u with
  | .v (.dat (.int i)) => Q (.v (.dat (.int (-i)))) h1
  | _ => False
theorem tr_neg (ha : TrE X a ta) : TrE X (.UnaryOp .USub a p) (sNeg ta) := ⟨fun {σ h Q A H τ} ht wr rs => w_E (pe_un un_neg pw_E) (ha.bind ht wr rs fun v H1 B h1 u e1 w1 r1 rs1 q1 => by
  split at q1
  · exact ⟨_, ru_int r1, .of e1 w1 (.dat (.int _)) q1⟩
  · exact q1.elim)⟩
/-- a ≤ b ≤ c and its like, of ints -/
def sChain (f g : Int → Int → Bool) (ta tb tc : TW) : TW := fun σ h Q => ta σ h fun x h1 => tb σ h1 fun y h2 => match x, y with
  | .v (.dat (.int i)), .v (.dat (.int j)) => if f i j = true then tc σ h2 (fun z h3 => match z with
    | .v (.dat (.int l)) => Q (.v (.dat (.bool (g j l)))) h3
    | _ => False) else Q (.v (.dat (.bool false))) h2
  | _, _ => False
theorem tr_chain {op op' : CmpOp} {f g : Int → Int → Bool} (ho : OpR X (compareOp op) (rI0 fun i j => .bl (f i j))) (ho' : OpR X (compareOp op') (rI0 fun i j => .bl (g i j))) (ha : TrE X a ta) (hb : TrE X b tb) (hc : TrE X c tc) (hm : lastMarks [op, op'] [b, c] = false := by with_unfolding_all rfl) :
    TrE X (.Compare a [op, op'] [b, c] pos) (sChain f g ta tb tc) := ⟨fun {σ h Q A H τ} ht wr rs => w_E (pe_chain ho ho' pw_E pw_E pw_E hm) (ha.bind ht wr rs fun v H1 B h1 u e1 w1 r1 rs1 q1 => hb.bind q1 w1 rs1 fun v2 H2 B2 h2 u2 e2 w2 r2 rs2 q2 => by
  split at q2
  · rename_i i j
    refine ⟨i, j, ru_int r1, ru_int r2, f i j, rfl, ?_⟩
    cases hf : f i j with
    | false =>
      rw [hf, if_neg Bool.false_ne_true] at q2
      exact .of (e1.trans e2) w2 (.dat (.bl _)) q2
    | true =>
      rw [hf, if_pos rfl] at q2
      show wE X c τ H2 _
      exact hc.bind q2 w2 rs2 fun v3 H3 B3 h3 u3 e3 w3 r3 rs3 q3 => by
        split at q3
        · exact ⟨j, _, ru_int r2, ru_int r3, .of ((e1.trans e2).trans e3) w3 (.dat (.bl _)) q3⟩
        · exact q3.elim
  · exact q2.elim)⟩
/-! items -/
def gIx : U → U → Hw → QU → Prop := fun x y h Q => match y with
  | .v (.dat (.int i)) => match x with
    | .v (.dat (.tuple ds)) => ∃ d, atI ds i = some d ∧ Q (.v (.dat d)) h
    | .v (.tup ws) => ∃ w, atI ws i = some w ∧ Q (.v w) h
    | .v (.scr ns) => ∃ n, atI ns i = some n ∧ Q (.v (.dat (.int n))) h
    | .v (.lst ws) => ∃ w, atI ws i = some w ∧ Q (.v w) h
    | x => match rowD h x with
      | some ds => ∃ d, atI ds i = some d ∧ Q (.v (.dat d)) h
      | none => False
  | _ => False
def rIxAny (X : Cx) : R2 := fun x y H Q => ∃ r : R2, IxR X r ∧ r x y H Q
theorem ix_any : IxR X (rIxAny X) := fun value slice pins s σ H x y v u Q I rx ry ⟨r, hr, h⟩ hs => hr value slice pins s σ H x y v u Q I rx ry h hs
theorem atI_len {α β : Type} {xs : List α} {ys : List β} {i : Int} {y : β} (hl : xs.length = ys.length) (e : atI ys i = some y) : ∃ (j : Nat) (x : α), ys[j]? = some y ∧ xs[j]? = some x ∧ atI xs i = some x := by
  unfold atI at e ⊢
  rw [hl]
  cases h : ixN ys.length i with
  | none =>
    rw [h] at e
    cases e
  | some j =>
    rw [h] at e
    have e : ys[j]? = some y := e
    have lj := (List.getElem?_eq_some_iff.mp e).1
    exact ⟨j, xs[j]'(by omega), e, List.getElem?_eq_getElem (by omega), List.getElem?_eq_getElem (by omega)⟩
theorem RVs.atI {K : PySem.W.Frag} {gs : List Addr} {F : Addr → Prop} {H : Hp} {ws : List W} {vs : List V} {i : Int} {w : W} (r : RVs K gs F H ws vs) (e : L2.atI ws i = some w) : ∃ v, L2.atI vs i = some v ∧ RV K gs F H w v := by
  obtain ⟨j, x, e1, e2, e3⟩ := atI_len r.len e
  obtain ⟨v, hv, rv⟩ := r.at e1
  rw [hv] at e2
  cases e2
  exact ⟨_, e3, rv⟩
theorem RDs.atI {K : PySem.W.Frag} {F : Addr → Prop} {H : Hp} {ds : List PyData} {vs : List V} {i : Int} {d : PyData} (r : RDs K F H ds vs) (e : L2.atI ds i = some d) : ∃ v, L2.atI vs i = some v ∧ RD K F H d v := by
  obtain ⟨j, x, e1, e2, e3⟩ := atI_len r.len e
  obtain ⟨v, hv, rv⟩ := r.at e1
  rw [hv] at e2
  cases e2
  exact ⟨_, e3, rv⟩
theorem ix_run {A : Wd} {h : Hw} {H : Hp} {x y : U} {v u : V} {Q : QU} {R : VK} (wr : WR X.K A h H) (rx : RU X.K A H x v) (ry : RU X.K A H y u) (q : gIx x y h Q) (k : ∀ z H', EPw X.K A h H Q z H' → R z H') : rIxAny X v u H R := by
  unfold gIx at q
  split at q
  · rename_i i
    obtain rfl := ru_int ry
    split at q
    · obtain ⟨a, vs, rfl, hq, r⟩ := ru_tup rx
      obtain ⟨d, e, q⟩ := q
      obtain ⟨z, ez, rz⟩ := r.atI e
      exact ⟨_, ix_tup, a, vs, i, z, rfl, rfl, hq, ez, k _ _ (.mk wr (.refl _) (.dat rz) q)⟩
    · rename_i ws
      have rx : RV X.K A.gs A.F H (.tup ws) v := rx
      cases rx with
      | tup hq r =>
        obtain ⟨d, e, q⟩ := q
        obtain ⟨z, ez, rz⟩ := r.atI e
        exact ⟨_, ix_tup, _, _, i, z, rfl, rfl, hq, ez, k _ _ (.mk wr (.refl _) (.of rz) q)⟩
    · rename_i ns
      have rx : RV X.K A.gs A.F H (.scr ns) v := rx
      cases rx with
      | scr hq =>
        obtain ⟨d, e, q⟩ := q
        obtain ⟨j, z, e1, e2, e3⟩ := atI_len (xs := ns.map V.int) (by rw [List.length_map]) e
        rw [List.getElem?_map, e1] at e2
        cases e2
        exact ⟨_, ix_list, _, _, i, _, rfl, rfl, hq.sq, e3, k _ _ (.mk wr (.refl _) (.dat (.int _)) q)⟩
    · rename_i ws
      have rx : RV X.K A.gs A.F H (.lst ws) v := rx
      cases rx with
      | lst hq r =>
        obtain ⟨d, e, q⟩ := q
        obtain ⟨z, ez, rz⟩ := r.atI e
        exact ⟨_, ix_list, _, _, i, z, rfl, rfl, hq.sq, ez, k _ _ (.mk wr (.refl _) (.of rz) q)⟩
    · split at q
      · rename_i ds er
        obtain ⟨a, vs, rfl, hq, r⟩ := row_ok wr rx er
        obtain ⟨d, e, q⟩ := q
        obtain ⟨z, ez, rz⟩ := r.atI e
        exact ⟨_, ix_list, a, vs, i, z, rfl, rfl, .of hq, ez, k _ _ (.mk wr (.refl _) (.dat rz) q)⟩
      · exact q.elim
  · exact q.elim
theorem tr_ix (ha : TrE X a ta) (hb : TrE X b tb) (hs : PlainIxT b := by exact fun _ _ => rfl) : TrE X (.Subscript a b p) (s2 ta tb gIx) := ⟨fun {σ h Q A H τ} ht wr rs => w_E (pe_ix ix_any pw_E pw_E hs)
  (ha.bind ht wr rs fun v H1 B h1 x e1 w1 r1 rs1 q1 => hb.bind q1 w1 rs1 fun u H2 C h2 y e2 w2 r2 rs2 q2 => ix_run w2 (r1.ext w1 e2) r2 q2 fun z H' r => .trans (e1.trans e2) r)⟩
/-! built-ins -/
def CalW (X : Cx) (f : Value) (g : List U → Hw → QU → Prop) : Prop := ∀ (A : Wd) (h : Hw) (H : Hp) (us : List U) (vs : List V) (Q : QU) (R : VK), WR X.K A h H → RUs X.K A H us vs → g us h Q → (∀ z H', EPw X.K A h H Q z H' → R z H') → ∃ r, CallR X f r ∧ r vs H R
def rCalAny (X : Cx) (f : Value) : List V → Hp → VK → Prop := fun vs H Q => ∃ r, CallR X f r ∧ r vs H Q
theorem cr_any {f : Value} : CallR X f (rCalAny X f) := fun pins s σ H xs us Q I rv ⟨r, hr, h⟩ => hr pins s σ H xs us Q I rv h
def sCal (g : List U → Hw → QU → Prop) (t : TAW) : TW := fun σ h Q => t σ h fun us h1 => g us h1 Q
variable {id T : String} {g : List U → Hw → QU → Prop}
theorem tr_cb (hc : CalW X (.builtin id) g) (hm : X.mg x = none) (hv : bootBuiltins x = some (.builtin id)) (ha : TrA X (e :: es) tas) (hg : Gl X x := by rfl)
    (hn : x ≠ "__name__" := by decide) (hdb : (x == ("__debug__" : Str)) = false := by decide) (he : starEach (e :: es) X.env = (false, eval e X.env) :: starEach es X.env := by rfl) (hpl : (backTo p (starEach es X.env)).any (·.1) = false := by rfl) : TrE X (.Call (.Name x q) (e :: es) [] p) (sCal g tas) := ⟨fun {σ h Q A H τ} ht wr rs =>
  w_E (pe_callB cr_any hg hm hv pw_A hn hdb he hpl) (ha.bind ht wr rs fun vs H1 B h1 us e1 w1 r1 rs1 q1 => hc B h1 H1 us vs Q _ w1 r1 q1 fun z H' r => .trans e1 r)⟩
theorem tr_cty (hc : CalW X (.type T) g) (hm : X.mg x = none) (hv : bootBuiltins x = some (.type T)) (ha : TrA X (e :: es) tas) (hg : Gl X x := by rfl)
    (hn : x ≠ "__name__" := by decide) (hdb : (x == ("__debug__" : Str)) = false := by decide) (he : starEach (e :: es) X.env = (false, eval e X.env) :: starEach es X.env := by rfl) (hpl : (backTo p (starEach es X.env)).any (·.1) = false := by rfl) : TrE X (.Call (.Name x q) (e :: es) [] p) (sCal g tas) := ⟨fun {σ h Q A H τ} ht wr rs =>
  w_E (pe_callTy cr_any hg hm hv pw_A hn hdb he hpl) (ha.bind ht wr rs fun vs H1 B h1 us e1 w1 r1 rs1 q1 => hc B h1 H1 us vs Q _ w1 r1 q1 fun z H' r => .trans e1 r)⟩
theorem tr_cfun (hc : CalW X (.builtin id) g) (hm : X.mg x = some (.builtin id)) (ha : TrA X (e :: es) tas) (hg : Gl X x := by rfl)
    (hdb : (x == ("__debug__" : Str)) = false := by decide) (he : starEach (e :: es) X.env = (false, eval e X.env) :: starEach es X.env := by rfl) (hpl : (backTo p (starEach es X.env)).any (·.1) = false := by rfl) : TrE X (.Call (.Name x q) (e :: es) [] p) (sCal g tas) := ⟨fun {σ h Q A H τ} ht wr rs =>
  w_E (pe_callBfun cr_any hg hm pw_A hdb he hpl) (ha.bind ht wr rs fun vs H1 B h1 us e1 w1 r1 rs1 q1 => hc B h1 H1 us vs Q _ w1 r1 q1 fun z H' r => .trans e1 r)⟩
/-- one argument -/
def g1 (k : U → Hw → QU → Prop) : List U → Hw → QU → Prop := fun us h Q => match us with
  | [u] => k u h Q
  | _ => False
def g2 (k : U → U → Hw → QU → Prop) : List U → Hw → QU → Prop := fun us h Q => match us with
  | [u, v] => k u v h Q
  | _ => False
theorem RUs.one {K : PySem.W.Frag} {A : Wd} {H : Hp} {u : U} {vs : List V} (r : RUs K A H [u] vs) : ∃ v, vs = [v] ∧ RU K A H u v := by
  cases r with
  | cons r rr =>
    cases rr
    exact ⟨_, rfl, r⟩
theorem RUs.two {K : PySem.W.Frag} {A : Wd} {H : Hp} {u u' : U} {vs : List V} (r : RUs K A H [u, u'] vs) : ∃ v v', vs = [v, v'] ∧ RU K A H u v ∧ RU K A H u' v' := by
  cases r with
  | cons r rr =>
    cases rr with
    | cons r' rr =>
      cases rr
      exact ⟨_, _, rfl, r, r'⟩
theorem calw_1 {f : Value} {k : U → Hw → QU → Prop} (hk : ∀ (A : Wd) (h : Hw) (H : Hp) (u : U) (v : V) (Q : QU) (R : VK), WR X.K A h H → RU X.K A H u v → k u h Q → (∀ z H', EPw X.K A h H Q z H' → R z H') → ∃ r, CallR X f r ∧ r [v] H R) : CalW X f (g1 k) := fun A h H us vs Q R wr r q kk => by
  unfold g1 at q
  split at q
  · obtain ⟨v, rfl, r1⟩ := r.one
    exact hk A h H _ v Q R wr r1 q kk
  · exact q.elim
theorem calw_2 {f : Value} {k : U → U → Hw → QU → Prop} (hk : ∀ (A : Wd) (h : Hw) (H : Hp) (u u' : U) (v v' : V) (Q : QU) (R : VK), WR X.K A h H → RU X.K A H u v → RU X.K A H u' v' → k u u' h Q → (∀ z H', EPw X.K A h H Q z H' → R z H') → ∃ r, CallR X f r ∧ r [v, v'] H R) : CalW X f (g2 k) := fun A h H us vs Q R wr r q kk => by
  unfold g2 at q
  split at q
  · obtain ⟨v, v', rfl, r1, r2⟩ := r.two
    exact hk A h H _ _ v v' Q R wr r1 r2 q kk
  · exact q.elim
/-- len -/
def kLen : U → Hw → QU → Prop := fun u h Q => match u with
  | .v (.dat (.tuple ds)) => Q (.v (.dat (.int ds.length))) h
  | .v (.tup ws) => Q (.v (.dat (.int ws.length))) h
  | .v (.lst ws) => Q (.v (.dat (.int ws.length))) h
  | .v (.scr ns) => Q (.v (.dat (.int ns.length))) h
  | .v (.dat (.str z)) => z.length ≤ sizeLine ∧ Q (.v (.dat (.int z.length))) h
  | u => match rowD h u with
    | some ds => Q (.v (.dat (.int ds.length))) h
    | none => False
theorem cw_len : CalW X (.builtin "len") (g1 kLen) := calw_1 fun A h H u v Q R wr r q k => by
  unfold kLen at q
  split at q
  · obtain ⟨a, vs, rfl, hq, rr⟩ := ru_tup r
    refine ⟨_, call_len_seq, a, vs, rfl, .inr hq, ?_⟩
    rw [rr.len]
    exact k _ _ (.mk wr (.refl _) (.dat (.int _)) q)
  · rename_i ws
    have r : RV X.K A.gs A.F H (.tup ws) v := r
    cases r with
    | tup hq rr =>
      refine ⟨_, call_len_seq, _, _, rfl, .inr hq, ?_⟩
      rw [rr.len]
      exact k _ _ (.mk wr (.refl _) (.dat (.int _)) q)
  · rename_i ws
    have r : RV X.K A.gs A.F H (.lst ws) v := r
    cases r with
    | lst hq rr =>
      refine ⟨_, call_len_seq, _, _, rfl, .inl hq.sq, ?_⟩
      rw [rr.len]
      exact k _ _ (.mk wr (.refl _) (.dat (.int _)) q)
  · rename_i ns
    have r : RV X.K A.gs A.F H (.scr ns) v := r
    cases r with
    | scr hq =>
      refine ⟨_, call_len_seq, _, _, rfl, .inl hq.sq, ?_⟩
      rw [List.length_map]
      exact k _ _ (.mk wr (.refl _) (.dat (.int _)) q)
  · exact ⟨_, call_len_str, _, by rw [ru_str r], q.1, k _ _ (.mk wr (.refl _) (.dat (.int _)) q.2)⟩
  · split at q
    · rename_i ds er
      obtain ⟨a, vs, rfl, hq, rr⟩ := row_ok wr r er
      refine ⟨_, call_len_seq, a, vs, rfl, .inl (.of hq), ?_⟩
      rw [rr.len]
      exact k _ _ (.mk wr (.refl _) (.dat (.int _)) q)
    · exact q.elim
/-- tuple(x) of a list of data -/
def kTup : U → Hw → QU → Prop := fun u h Q => match rowD h u with
  | some ds => Q (.v (.dat (.tuple ds))) h
  | none => False
theorem cw_tuple : CalW X (.type "tuple") (g1 kTup) := calw_1 fun A h H u v Q R wr r q k => by
  unfold kTup at q
  split at q
  · rename_i ds er
    obtain ⟨a, vs, rfl, hq, rr⟩ := row_ok wr r er
    exact ⟨_, call_tuple_of, a, vs, rfl, .inl ⟨.of hq, fun M hM => k _ _ (.mk wr (same_new hM) (.dat (.tup (.of upd_same) (RDs.mono (.new hM) _ _ rr))) q)⟩⟩
  · exact q.elim
def kAbs : U → Hw → QU → Prop := fun u h Q => match u with
  | .v (.dat (.int i)) => Q (.v (.dat (.int (if i < 0 then -i else i)))) h
  | _ => False
theorem cw_abs : CalW X (.builtin "abs") (g1 kAbs) := calw_1 fun A h H u v Q R wr r q k => by
  unfold kAbs at q
  split at q
  · exact ⟨_, call_abs, _, by rw [ru_int r], k _ _ (.mk wr (.refl _) (.dat (.int _)) q)⟩
  · exact q.elim
def kGcd : U → U → Hw → QU → Prop := fun u v h Q => match u, v with
  | .v (.dat (.int i)), .v (.dat (.int j)) => Q (.v (.dat (.int ((Nat.gcd i.natAbs j.natAbs : Nat) : Int)))) h
  | _, _ => False
theorem cw_gcd : CalW X (.builtin "math.gcd") (g2 kGcd) := calw_2 fun A h H u u' v v' Q R wr r r' q k => by
  unfold kGcd at q
  split at q
  · exact ⟨_, cr_gcd, _, _, by rw [ru_int r, ru_int r'], k _ _ (.mk wr (.refl _) (.dat (.int _)) q)⟩
  · exact q.elim
def kMax2 : U → U → Hw → QU → Prop := fun u v h Q => match u, v with
  | .v (.dat (.int i)), .v (.dat (.int j)) => Q (.v (.dat (.int (if j > i then j else i)))) h
  | _, _ => False
theorem cw_max2 (hc : X.calm = true) : CalW X (.builtin "max") (g2 kMax2) := calw_2 fun A h H u u' v v' Q R wr r r' q k => by
  unfold kMax2 at q
  split at q
  · exact ⟨_, call_max2 hc, _, _, by rw [ru_int r, ru_int r'], k _ _ (.mk wr (.refl _) (.dat (.int _)) q)⟩
  · exact q.elim
def kMin2 : U → U → Hw → QU → Prop := fun u v h Q => match u, v with
  | .v (.dat (.int i)), .v (.dat (.int j)) => Q (.v (.dat (.int (if j < i then j else i)))) h
  | _, _ => False
theorem cw_min2 (hc : X.calm = true) : CalW X (.builtin "min") (g2 kMin2) := calw_2 fun A h H u u' v v' Q R wr r r' q k => by
  unfold kMin2 at q
  split at q
  · exact ⟨_, call_min2 hc, _, _, by rw [ru_int r, ru_int r'], k _ _ (.mk wr (.refl _) (.dat (.int _)) q)⟩
  · exact q.elim
/-- sum of a list of ints; ns is told -/
def kSum : U → Hw → QU → Prop := fun u h Q => ∃ ns : List Int, rowD h u = some (ns.map .int) ∧ Q (.v (.dat (.int ns.sum))) h
theorem cw_sum (hc : X.calm = true) : CalW X (.builtin "sum") (g1 kSum) := calw_1 fun A h H u v Q R wr r ⟨ns, er, q⟩ k => by
  obtain ⟨a, vs, rfl, hq, rr⟩ := row_ok wr r er
  rw [rr.ints] at hq
  exact ⟨_, cr_sum hc, a, ns, rfl, .of hq, k _ _ (.mk wr (.refl _) (.dat (.int _)) q)⟩
def kAll : U → Hw → QU → Prop := fun u h Q => ∃ ns : List Bool, rowD h u = some (ns.map .bool) ∧ Q (.v (.dat (.bool (ns.all fun b => b)))) h
theorem cw_all (hc : X.calm = true) : CalW X (.builtin "all") (g1 kAll) := calw_1 fun A h H u v Q R wr r ⟨ns, er, q⟩ k => by
  obtain ⟨a, vs, rfl, hq, rr⟩ := row_ok wr r er
  rw [rr.bools] at hq
  exact ⟨_, L2.cr_all hc, a, ns, rfl, .of hq, k _ _ (.mk wr (.refl _) (.dat (.bl _)) q)⟩
def kAny : U → Hw → QU → Prop := fun u h Q => ∃ ns : List Bool, rowD h u = some (ns.map .bool) ∧ Q (.v (.dat (.bool (ns.any fun b => b)))) h
theorem cw_any (hc : X.calm = true) : CalW X (.builtin "any") (g1 kAny) := calw_1 fun A h H u v Q R wr r ⟨ns, er, q⟩ k => by
  obtain ⟨a, vs, rfl, hq, rr⟩ := row_ok wr r er
  rw [rr.bools] at hq
  exact ⟨_, L2.cr_any hc, a, ns, rfl, .of hq, k _ _ (.mk wr (.refl _) (.dat (.bl _)) q)⟩
def kMinL : U → Hw → QU → Prop := fun u h Q => ∃ ns : List Int, rowD h u = some (ns.map .int) ∧ 0 < ns.length ∧ ∀ m, m ∈ ns → (∀ y, y ∈ ns → m ≤ y) → Q (.v (.dat (.int m))) h
theorem cw_minL (hc : X.calm = true) : CalW X (.builtin "min") (g1 kMinL) := calw_1 fun A h H u v Q R wr r ⟨ns, er, hl, q⟩ k => by
  obtain ⟨a, vs, rfl, hq, rr⟩ := row_ok wr r er
  rw [rr.ints] at hq
  exact ⟨_, cr_min hc, a, ns, rfl, .of hq, hl, fun m hm hy => k _ _ (.mk wr (.refl _) (.dat (.int _)) (q m hm hy))⟩
/-- repr of a datum -/
def kRepr : U → Hw → QU → Prop := fun u h Q => match rdU h u with
  | some d => (d.showable = true ∧ d.hasDict = false ∧ d.depth ≤ 60 ∧ d.shown.length ≤ sizeLine) ∧ (match d with
    | .tuple _ => True
    | .list _ => True
    | _ => False) ∧ Q (.v (.dat (.str d.shown))) h
  | none => False
theorem cw_repr (gd : X.A.guards = some []) (hu : X.A.units + 64 < cLine) : CalW X (.builtin "repr") (g1 kRepr) := calw_1 fun A h H u v Q R wr r q k => by
  unfold kRepr at q
  split at q
  · rename_i d er
    obtain ⟨⟨h1, h2, h3, h4⟩, hd, q⟩ := q
    have dp := rd_ok wr r er
    have ev : ∃ a, v = .ref a := by
      cases dp with
      | lst _ _ => exact ⟨_, rfl⟩
      | tup _ _ => exact ⟨_, rfl⟩
      | _ => exact hd.elim
    obtain ⟨a, rfl⟩ := ev
    exact ⟨_, call_reprD gd hu, a, d, rfl, dp, h1, h2, h3, h4, k _ _ (.mk wr (.refl _) (.dat (.str _)) q)⟩
  · exact q.elim
end
end Wl

/-! comprehensions as expressions, own lists, dicts, further statements -/
namespace Wl
open PySem PySem.Spec PyProof.Rows L2 Cb
section
variable {X : Cx} {e a b c o i iter elt test tg1 iter1 tg : Expr} {es : List Expr} {sts body : List Stmt} {t ta tb tc te : TW} {tt : TTW} {tl : TLW} {tas : TAW} {ts tk tb1 : TSW} {p q pos p2 xp pos' py spos : Pos} {x y : Str} {scope : Scope} {own : List (Str × Nat)} {g gg1 : TG} {bw bw1 : BW} {ti ti1 : TIW} {wi wi1 : TI} {vs1 : List Nat}
/-! ### comprehensions -/
theorem trl_lc (hc : X.calm = true) (nd : X.N.Nodup) (hi : TrI X tg iter wi ti) (ok : BlkOk X.N X.env.scope scope own) (hg : ∀ (s : Shared) (H : Hp) (C : Addr) (cl : List (Str × Addr)) (fp : List Addr), PG (X.blk s H scope (compEnvC scope cl C X.env) fp) tg g) (hgw : TrG X.K g (own.map (·.2)) bw)
    (he : ∀ (s : Shared) (H0 : Hp) (C : Addr) (cl : List (Str × Addr)) (fp : List Addr), TrE (X.blk s H0 scope (compEnvC scope cl C X.env) fp) elt te) (hs : ∀ x, foldedSetIterable iter X.env x = pure x := by intro _; rfl) : TrL X (.ListComp elt [⟨tg, iter, [], 0⟩] scope pos) (sLc ti bw sYes te (own.map (·.2))) := ⟨fun {σ h Q A H τ} ht wr rs =>
  w_E (pe_lc (tt := tYes) hc nd hi.pi ok hg (fun _ _ _ _ _ => pts_nil) pw_Eb hs) (lc_run (fun ht wr rs k => hi.run ht wr rs k) hgw yes_er (eb_er he) ht wr rs fun _ _ z => z)⟩
theorem trl_lcT (hc : X.calm = true) (nd : X.N.Nodup) (hi : TrI X tg iter wi ti) (ok : BlkOk X.N X.env.scope scope own) (hg : ∀ (s : Shared) (H : Hp) (C : Addr) (cl : List (Str × Addr)) (fp : List Addr), PG (X.blk s H scope (compEnvC scope cl C X.env) fp) tg g) (hgw : TrG X.K g (own.map (·.2)) bw)
    (htt : ∀ (s : Shared) (H0 : Hp) (C : Addr) (cl : List (Str × Addr)) (fp : List Addr), TrT (X.blk s H0 scope (compEnvC scope cl C X.env) fp) test tt)
    (he : ∀ (s : Shared) (H0 : Hp) (C : Addr) (cl : List (Str × Addr)) (fp : List Addr), TrE (X.blk s H0 scope (compEnvC scope cl C X.env) fp) elt te) (hs : ∀ x, foldedSetIterable iter X.env x = pure x := by intro _; rfl) : TrL X (.ListComp elt [⟨tg, iter, [test], 0⟩] scope pos) (sLc ti bw tt te (own.map (·.2))) := ⟨fun {σ h Q A H τ} ht wr rs =>
  w_E (pe_lc (tt := wTb X scope test) hc nd hi.pi ok hg pw_Tb pw_Eb hs) (lc_run (fun ht wr rs k => hi.run ht wr rs k) hgw (tb_er htt) (eb_er he) ht wr rs fun _ _ z => z)⟩
theorem trl_lc2 (hc : X.calm = true) (nd : X.N.Nodup) (hi : TrI X tg iter wi ti) (ok : BlkOk X.N X.env.scope scope own) (hv : ∀ i ∈ vs1, i ∈ own.map (·.2)) (hg : ∀ (s : Shared) (H : Hp) (C : Addr) (cl : List (Str × Addr)) (fp : List Addr), PG (X.blk s H scope (compEnvC scope cl C X.env) fp) tg g) (hgw : TrG X.K g (own.map (·.2)) bw)
    (hi1 : (∀ (s : Shared) (H : Hp) (C : Addr) (cl : List (Str × Addr)) (fp : List Addr), PI (X.blk s H scope (compEnvC scope cl C X.env) fp) tg1 iter1 wi1) ∧ TIr X.K wi1 ti1) (hg1 : ∀ (s : Shared) (H : Hp) (C : Addr) (cl : List (Str × Addr)) (fp : List Addr), PG (X.blk s H scope (compEnvC scope cl C X.env) fp) tg1 gg1) (hgw1 : TrG X.K gg1 vs1 bw1)
    (he : ∀ (s : Shared) (H0 : Hp) (C : Addr) (cl : List (Str × Addr)) (fp : List Addr), TrE (X.blk s H0 scope (compEnvC scope cl C X.env) fp) elt te) (hs : ∀ x, foldedSetIterable iter X.env x = pure x := by intro _; rfl) (hs1 : ∀ env x, foldedSetIterable iter1 env x = pure x := by intro _ _; rfl) : TrL X (.ListComp elt [⟨tg, iter, [], 0⟩, ⟨tg1, iter1, [], 0⟩] scope pos) (sLc2 ti bw sYes ti1 bw1 sYes te (own.map (·.2)) vs1) := ⟨fun {σ h Q A H τ} ht wr rs =>
  w_E (pe_lc2 (tt := tYes) (tt1 := tYes) hc nd hi.pi ok hv hg (fun _ _ _ _ _ => pts_nil) hi1.1 hg1 (fun _ _ _ _ _ => pts_nil) pw_Eb hs hs1) (lc2_run (fun ht wr rs k => hi.run ht wr rs k) hgw yes_er hi1.2 hgw1 yes_er (eb_er he) ht wr rs fun _ _ z => z)⟩
theorem trl_lc2T (hc : X.calm = true) (nd : X.N.Nodup) (hi : TrI X tg iter wi ti) (ok : BlkOk X.N X.env.scope scope own) (hv : ∀ i ∈ vs1, i ∈ own.map (·.2)) (hg : ∀ (s : Shared) (H : Hp) (C : Addr) (cl : List (Str × Addr)) (fp : List Addr), PG (X.blk s H scope (compEnvC scope cl C X.env) fp) tg g) (hgw : TrG X.K g (own.map (·.2)) bw)
    (hi1 : (∀ (s : Shared) (H : Hp) (C : Addr) (cl : List (Str × Addr)) (fp : List Addr), PI (X.blk s H scope (compEnvC scope cl C X.env) fp) tg1 iter1 wi1) ∧ TIr X.K wi1 ti1) (hg1 : ∀ (s : Shared) (H : Hp) (C : Addr) (cl : List (Str × Addr)) (fp : List Addr), PG (X.blk s H scope (compEnvC scope cl C X.env) fp) tg1 gg1) (hgw1 : TrG X.K gg1 vs1 bw1)
    (htt : ∀ (s : Shared) (H0 : Hp) (C : Addr) (cl : List (Str × Addr)) (fp : List Addr), TrT (X.blk s H0 scope (compEnvC scope cl C X.env) fp) test tt)
    (he : ∀ (s : Shared) (H0 : Hp) (C : Addr) (cl : List (Str × Addr)) (fp : List Addr), TrE (X.blk s H0 scope (compEnvC scope cl C X.env) fp) elt te) (hs : ∀ x, foldedSetIterable iter X.env x = pure x := by intro _; rfl) (hs1 : ∀ env x, foldedSetIterable iter1 env x = pure x := by intro _ _; rfl) : TrL X (.ListComp elt [⟨tg, iter, [], 0⟩, ⟨tg1, iter1, [test], 0⟩] scope pos) (sLc2 ti bw sYes ti1 bw1 tt te (own.map (·.2)) vs1) := ⟨fun {σ h Q A H τ} ht wr rs =>
  w_E (pe_lc2 (tt := tYes) (tt1 := wTb X scope test) hc nd hi.pi ok hv hg (fun _ _ _ _ _ => pts_nil) hi1.1 hg1 pw_Tb pw_Eb hs hs1) (lc2_run (fun ht wr rs k => hi.run ht wr rs k) hgw yes_er hi1.2 hgw1 (tb_er htt) (eb_er he) ht wr rs fun _ _ z => z)⟩
/-! y = [..], where the value goes to the name at once -/
theorem set_lc {j : Nat} {K : PySem.W.Frag} {A A0 B : Wd} {h h0 h' : Hw} {H H0 H' : Hp} {σ : Sw} {τ : L2.St} {D : EnW} {ds : List PyData} {M : Addr} {us : List V} (hk : TrB X sts tk) (e0 : Ext A0 h0 H0 A h H) (wr : WR X.K A h H) (rs : RS X.K A H σ τ) (n : NewL X.K A h H B h' H' ds M us) :
    (tk D (σ.set j (some (.v (.dat (.list ds))))) h' → wB X sts (EnV X.K A0 h0 H0 D) (τ.set j (some (.ref M))) H') ∧ (tk D (σ.set j (some (.l h'.l.length))) (h'.own (.lsd ds)) → wB X sts (EnV X.K A0 h0 H0 D) (τ.set j (some (.ref M))) H') := by
  refine ⟨fun q => ?_, fun q => ?_⟩
  · obtain ⟨e1, w1, r1⟩ := n.frz
    exact hk.run q (e0.trans e1) w1 ((rs.ext wr e1).set j (.of r1))
  · obtain ⟨e1, w1, r1⟩ := n.own
    exact hk.run q (e0.trans e1) w1 ((rs.ext wr e1).set j r1)
/-- y = e, e a new list, kept as a value or as an own thing; the store happens inside the comprehension -/
structure SetLc (X : Cx) (y : Str) (py : Pos) (elt : Expr) (gens : List Comprehension) (scope : Scope) (pos spos : Pos) (j : Nat) (tl : TLW) : Prop where
  run : ∀ {σ : Sw} {h : Hw} {Q : List PyData → Hw → Prop} {A : Wd} {H : Hp} {τ : L2.St} {D : Ends} {sts : List Stmt}, tl σ h Q → WR X.K A h H → RS X.K A H σ τ →
    (∀ B h' H' ds M us, NewL X.K A h H B h' H' ds M us → Q ds h' → wB X sts D (τ.set j (some (.ref M))) H') → wB X (.Assign [.Name y py] (.ListComp elt gens scope pos) spos :: sts) D τ H
theorem setlc_1 {j : Nat} (hc : X.calm = true) (nd : X.N.Nodup) (hj : X.N[j]? = some y) (hy : X.env.scope.names.lookup y = some .local) (hi : TrI X tg iter wi ti) (ok : BlkOk X.N X.env.scope scope own) (hg : ∀ (s : Shared) (H : Hp) (C : Addr) (cl : List (Str × Addr)) (fp : List Addr), PG (X.blk s H scope (compEnvC scope cl C X.env) fp) tg g) (hgw : TrG X.K g (own.map (·.2)) bw)
    (he : ∀ (s : Shared) (H0 : Hp) (C : Addr) (cl : List (Str × Addr)) (fp : List Addr), TrE (X.blk s H0 scope (compEnvC scope cl C X.env) fp) elt te)
    (hsw : swapsWith (.ListComp elt [⟨tg, iter, [], 0⟩] scope pos) (some (.Name y py)) spos.line X.env = pure true) (hs : ∀ x, foldedSetIterable iter X.env x = pure x := by intro _; rfl) : SetLc X y py elt [⟨tg, iter, [], 0⟩] scope pos spos j (sLc ti bw sYes te (own.map (·.2))) := ⟨fun {σ h Q A H τ D sts} ht wr rs k =>
  b_cons (w_S (ps_setLc (tt := tYes) hc nd hj hy hsw hi.pi ok hg (fun _ _ _ _ _ => pts_nil) pw_Eb hs) (lc_run (fun ht wr rs k => hi.run ht wr rs k) hgw yes_er (eb_er he) ht wr rs fun v H' ⟨B, h', ds, M, us, e, n, q⟩ => by
    subst e
    exact k B h' H' ds M us n q))⟩
theorem setlc_1T {j : Nat} (hc : X.calm = true) (nd : X.N.Nodup) (hj : X.N[j]? = some y) (hy : X.env.scope.names.lookup y = some .local) (hi : TrI X tg iter wi ti) (ok : BlkOk X.N X.env.scope scope own) (hg : ∀ (s : Shared) (H : Hp) (C : Addr) (cl : List (Str × Addr)) (fp : List Addr), PG (X.blk s H scope (compEnvC scope cl C X.env) fp) tg g) (hgw : TrG X.K g (own.map (·.2)) bw)
    (htt : ∀ (s : Shared) (H0 : Hp) (C : Addr) (cl : List (Str × Addr)) (fp : List Addr), TrT (X.blk s H0 scope (compEnvC scope cl C X.env) fp) test tt)
    (he : ∀ (s : Shared) (H0 : Hp) (C : Addr) (cl : List (Str × Addr)) (fp : List Addr), TrE (X.blk s H0 scope (compEnvC scope cl C X.env) fp) elt te)
    (hsw : swapsWith (.ListComp elt [⟨tg, iter, [test], 0⟩] scope pos) (some (.Name y py)) spos.line X.env = pure true) (hs : ∀ x, foldedSetIterable iter X.env x = pure x := by intro _; rfl) : SetLc X y py elt [⟨tg, iter, [test], 0⟩] scope pos spos j (sLc ti bw tt te (own.map (·.2))) := ⟨fun {σ h Q A H τ D sts} ht wr rs k =>
  b_cons (w_S (ps_setLc (tt := wTb X scope test) hc nd hj hy hsw hi.pi ok hg pw_Tb pw_Eb hs) (lc_run (fun ht wr rs k => hi.run ht wr rs k) hgw (tb_er htt) (eb_er he) ht wr rs fun v H' ⟨B, h', ds, M, us, e, n, q⟩ => by
    subst e
    exact k B h' H' ds M us n q))⟩
theorem setlc_2 {j : Nat} (hc : X.calm = true) (nd : X.N.Nodup) (hj : X.N[j]? = some y) (hy : X.env.scope.names.lookup y = some .local) (hi : TrI X tg iter wi ti) (ok : BlkOk X.N X.env.scope scope own) (hv : ∀ i ∈ vs1, i ∈ own.map (·.2)) (hg : ∀ (s : Shared) (H : Hp) (C : Addr) (cl : List (Str × Addr)) (fp : List Addr), PG (X.blk s H scope (compEnvC scope cl C X.env) fp) tg g) (hgw : TrG X.K g (own.map (·.2)) bw)
    (hi1 : (∀ (s : Shared) (H : Hp) (C : Addr) (cl : List (Str × Addr)) (fp : List Addr), PI (X.blk s H scope (compEnvC scope cl C X.env) fp) tg1 iter1 wi1) ∧ TIr X.K wi1 ti1) (hg1 : ∀ (s : Shared) (H : Hp) (C : Addr) (cl : List (Str × Addr)) (fp : List Addr), PG (X.blk s H scope (compEnvC scope cl C X.env) fp) tg1 gg1) (hgw1 : TrG X.K gg1 vs1 bw1)
    (he : ∀ (s : Shared) (H0 : Hp) (C : Addr) (cl : List (Str × Addr)) (fp : List Addr), TrE (X.blk s H0 scope (compEnvC scope cl C X.env) fp) elt te)
    (hsw : swapsWith (.ListComp elt [⟨tg, iter, [], 0⟩, ⟨tg1, iter1, [], 0⟩] scope pos) (some (.Name y py)) spos.line X.env = pure true) (hs : ∀ x, foldedSetIterable iter X.env x = pure x := by intro _; rfl) (hs1 : ∀ env x, foldedSetIterable iter1 env x = pure x := by intro _ _; rfl) : SetLc X y py elt [⟨tg, iter, [], 0⟩, ⟨tg1, iter1, [], 0⟩] scope pos spos j (sLc2 ti bw sYes ti1 bw1 sYes te (own.map (·.2)) vs1) := ⟨fun {σ h Q A H τ D sts} ht wr rs k =>
  b_cons (w_S (ps_setLc2 (tt := tYes) (tt1 := tYes) hc nd hj hy hsw hi.pi ok hv hg (fun _ _ _ _ _ => pts_nil) hi1.1 hg1 (fun _ _ _ _ _ => pts_nil) pw_Eb hs hs1) (lc2_run (fun ht wr rs k => hi.run ht wr rs k) hgw yes_er hi1.2 hgw1 yes_er (eb_er he) ht wr rs fun v H' ⟨B, h', ds, M, us, e, n, q⟩ => by
    subst e
    exact k B h' H' ds M us n q))⟩
def sSetLF (j : Nat) (tl : TLW) (k : TSW) : TSW := fun D σ h => tl σ h fun ds h1 => k D (σ.set j (some (.v (.dat (.list ds))))) h1
def sSetLO (j : Nat) (tl : TLW) (k : TSW) : TSW := fun D σ h => tl σ h fun ds h1 => k D (σ.set j (some (.l h1.l.length))) (h1.own (.lsd ds))
theorem trb_setLF {j : Nat} {gens : List Comprehension} (hl : SetLc X y py elt gens scope pos spos j tl) (hk : TrB X sts tk) : TrB X (.Assign [.Name y py] (.ListComp elt gens scope pos) spos :: sts) (sSetLF j tl tk) := ⟨fun {σ h h0 D A A0 H H0 τ} ht e0 wr rs =>
  hl.run ht wr rs fun B h' H' ds M us n q => (set_lc (K := X.K) hk e0 wr rs n).1 q⟩
theorem trb_setLO {j : Nat} {gens : List Comprehension} (hl : SetLc X y py elt gens scope pos spos j tl) (hk : TrB X sts tk) : TrB X (.Assign [.Name y py] (.ListComp elt gens scope pos) spos :: sts) (sSetLO j tl tk) := ⟨fun {σ h h0 D A A0 H H0 τ} ht e0 wr rs =>
  hl.run ht wr rs fun B h' H' ds M us n q => (set_lc (K := X.K) hk e0 wr rs n).2 q⟩
/-! ### own lists that change -/
def Hw.putL (h : Hw) (n : Nat) (o : Ob) : Hw := ⟨h.g, h.l.set n o⟩
def Hw.putG (h : Hw) (n : Nat) (o : Ob) : Hw := ⟨h.g.set n o, h.l⟩
end
section
variable {K : PySem.W.Frag} {A B C : Wd} {h h1 h2 : Hw} {H H1 H2 : Hp}
theorem set_at {l : List Ob} {n i : Nat} {o x : Ob} (e : (l.set n x)[i]? = some o) : (i = n ∧ o = x) ∨ (i ≠ n ∧ l[i]? = some o) := by
  by_cases q : n = i
  · subst q
    rw [List.getElem?_set, if_pos rfl] at e
    split at e
    · cases e
      exact .inl ⟨rfl, rfl⟩
    · cases e
  · rw [List.getElem?_set_ne q] at e
    exact .inr ⟨Ne.symm q, e⟩
theorem nodup_at {l : List Addr} (nd : l.Nodup) {i j : Nat} {a : Addr} (e : l[i]? = some a) (e' : l[j]? = some a) : i = j := (List.getElem?_inj (List.getElem?_eq_some_iff.mp e).1 nd).mp (by rw [e, e'])
theorem stay_live {a : Addr} {x : HO} (w : WR K A h H) (l : Liv A h a) : Stay A.F A.F H (upd H a x) := by
  obtain ⟨o, ho, r⟩ := w.liv l
  exact stay_off (w.nf a l) (r.kind ho).1 (r.kind ho).2
theorem putL {n : Nat} {a : Addr} {o o' : Ob} {x : HO} (w : WR K A h H) (ea : A.ls[n]? = some a) (eo : h.l[n]? = some o) (ho : o ≠ .gone) (r : RO K A.gs A.F (upd H a x) o' a) : Ext A h H A (h.putL n o') (upd H a x) ∧ WR K A (h.putL n o') (upd H a x) := by
  have la : Liv A h a := ⟨n, o, ho, .inr ⟨ea, eo⟩⟩
  have st : Stay A.F A.F H (upd H a x) := stay_live w la
  have lv : ∀ b, Liv A (h.putL n o') b → Liv A h b := by
    rintro b ⟨i, y, hy, ⟨q, z⟩ | ⟨q, z⟩⟩
    · exact ⟨i, y, hy, .inl ⟨q, z⟩⟩
    · rcases set_at z with ⟨e, _⟩ | ⟨_, z⟩
      · subst e
        rw [ea] at q
        cases q
        exact la
      · exact ⟨i, y, hy, .inr ⟨q, z⟩⟩
  refine ⟨⟨fun _ _ q => q, fun _ _ q => q, fun b y q nl => ?_, fun b q => ?_, fun _ f => f, fun b f => .inl f, fun b q => .inl (lv b q), fun _ m => .inl m, fun _ m => .inl m⟩,
    ⟨w.gl, ?_, fun i b y q z => (w.gc i b y q z).mono st (fun _ _ e => e) fun v hv => ?_, fun i b y q z => ?_, w.nd, fun b q => w.nf b (lv b q), fun b f => ?_⟩⟩
  · rw [upd_ne fun (e : b = a) => nl (e ▸ la)]
    exact q
  · by_cases e : b = a
    · rw [e, upd_same] at q
      cases q
    · rw [upd_ne e] at q
      exact q
  · show A.ls.length = (h.l.set n o').length
    rw [List.length_set]
    exact w.ll
  · rw [upd_ne fun (e : b = a) => w.dis (List.mem_of_getElem? q) (e ▸ List.mem_of_getElem? ea)]
    exact hv
  · rcases set_at z with ⟨e, z'⟩ | ⟨ne, z⟩
    · subst e
      subst z'
      rw [ea] at q
      cases q
      exact r
    · refine (w.lc i b y q z).mono st (fun _ _ e => e) fun v hv => ?_
      rw [upd_ne fun (e : b = a) => ne (nodup_at w.ndl q (e ▸ ea))]
      exact hv
  · by_cases e : b = a
    · rw [e, upd_same]
      exact fun z => by cases z
    · rw [upd_ne e]
      exact w.ft b f
theorem putG {n : Nat} {a : Addr} {o o' : Ob} {x : HO} (w : WR K A h H) (ea : A.gs[n]? = some a) (eo : h.g[n]? = some o) (ho : o ≠ .gone) (r : RO K A.gs A.F (upd H a x) o' a) : Ext A h H A (h.putG n o') (upd H a x) ∧ WR K A (h.putG n o') (upd H a x) := by
  have la : Liv A h a := ⟨n, o, ho, .inl ⟨ea, eo⟩⟩
  have st : Stay A.F A.F H (upd H a x) := stay_live w la
  have lv : ∀ b, Liv A (h.putG n o') b → Liv A h b := by
    rintro b ⟨i, y, hy, ⟨q, z⟩ | ⟨q, z⟩⟩
    · rcases set_at z with ⟨e, _⟩ | ⟨_, z⟩
      · subst e
        rw [ea] at q
        cases q
        exact la
      · exact ⟨i, y, hy, .inl ⟨q, z⟩⟩
    · exact ⟨i, y, hy, .inr ⟨q, z⟩⟩
  refine ⟨⟨fun _ _ q => q, fun _ _ q => q, fun b y q nl => ?_, fun b q => ?_, fun _ f => f, fun b f => .inl f, fun b q => .inl (lv b q), fun _ m => .inl m, fun _ m => .inl m⟩,
    ⟨?_, w.ll, fun i b y q z => ?_, fun i b y q z => (w.lc i b y q z).mono st (fun _ _ e => e) fun v hv => ?_, w.nd, fun b q => w.nf b (lv b q), fun b f => ?_⟩⟩
  · rw [upd_ne fun (e : b = a) => nl (e ▸ la)]
    exact q
  · by_cases e : b = a
    · rw [e, upd_same] at q
      cases q
    · rw [upd_ne e] at q
      exact q
  · show A.gs.length = (h.g.set n o').length
    rw [List.length_set]
    exact w.gl
  · rcases set_at z with ⟨e, z'⟩ | ⟨ne, z⟩
    · subst e
      subst z'
      rw [ea] at q
      cases q
      exact r
    · refine (w.gc i b y q z).mono st (fun _ _ e => e) fun v hv => ?_
      rw [upd_ne fun (e : b = a) => ne (nodup_at w.ndg q (e ▸ ea))]
      exact hv
  · rw [upd_ne fun (e : b = a) => w.dis (List.mem_of_getElem? ea) (e ▸ List.mem_of_getElem? q)]
    exact hv
  · by_cases e : b = a
    · rw [e, upd_same]
      exact fun z => by cases z
    · rw [upd_ne e]
      exact w.ft b f
/-- an own list of data gets other contents -/
theorem putLD {n : Nat} {a : Addr} {ds ds' : List PyData} {vs : List V} (w : WR K A h H) (ea : A.ls[n]? = some a) (eo : h.l[n]? = some (.lsd ds)) (r : RDs K A.F H ds' vs) : Ext A h H A (h.putL n (.lsd ds')) (upd H a (.lst vs)) ∧ WR K A (h.putL n (.lsd ds')) (upd H a (.lst vs)) :=
  putL w ea eo (by intro z; cases z) ⟨vs, upd_same, RDs.mono (stay_live w ⟨n, _, (by intro z; cases z), .inr ⟨ea, eo⟩⟩) _ _ r⟩
end
end Wl

/-! own lists that change, dicts, further statements, new lists from built-ins -/
namespace Wl
open PySem PySem.Spec PyProof.Rows L2 Cb
section
variable {X : Cx} {e a b c o i lo hi tg f : Expr} {es : List Expr} {sts body : List Stmt} {t ta tb tc te : TW} {tt : TTW} {tl tl2 : TLW} {tas : TAW} {tk tb1 : TSW} {p q pos p2 pos' apos cpos px py pt pt2 : Pos} {x y : Str} {n j kt k2 : Nat} {name : Str} {id : String} {r : V → List V → Hp → VK → Prop}
/-! ### methods of an own list -/
abbrev OwnF := List PyData → List U → Hw → (List PyData → PyData → Prop) → Prop
def OwnRule (X : Cx) (r : V → List V → Hp → VK → Prop) (f : OwnF) : Prop := ∀ (A : Wd) (h : Hw) (H : Hp) (S : Addr) (vs : List V) (ds : List PyData) (us : List U) (xs : List V) (Q : VK) (k : List PyData → PyData → Prop), WR X.K A h H → RUs X.K A H us xs → H S = some (.lst vs) → RDs X.K A.F H ds vs → f ds us h k →
  (∀ ds' vs' d v, RDs X.K A.F H ds' vs' → RD X.K A.F H d v → k ds' d → Q v (upd H S (.lst vs'))) → r (.ref S) xs H Q
def sOwnM (n : Nat) (f : OwnF) (tas : TAW) : TW := fun σ h Q => match σ[n]? with
  | some (some (.l m)) => match h.l[m]? with
    | some (.lsd _) => tas σ h fun us h1 => match h1.l[m]? with
      | some (.lsd ds) => f ds us h1 fun ds' d => Q (.v (.dat d)) (h1.putL m (.lsd ds'))
      | _ => False
    | _ => False
  | _ => False
theorem own_core {f : OwnF} (hf : OwnRule X r f) {A B : Wd} {h h1 : Hw} {H H1 : Hp} {m : Nat} {S : Addr} {ds : List PyData} {us : List U} {xs : List V} {Q : QU} (e1 : Ext A h H B h1 H1) (w1 : WR X.K B h1 H1) (r1 : RUs X.K B H1 us xs) (eS : A.ls[m]? = some S) (eo : h1.l[m]? = some (.lsd ds)) (q : f ds us h1 fun ds' d => Q (.v (.dat d)) (h1.putL m (.lsd ds'))) : r (.ref S) xs H1 (EPw X.K A h H Q) := by
  have eS1 := e1.ls _ _ eS
  obtain ⟨vs, hv, rv⟩ := w1.lc m S _ eS1 eo
  refine hf B h1 H1 S vs ds us xs _ _ w1 r1 hv rv q fun ds' vs' d v rd' rd k => ?_
  obtain ⟨e2, w2⟩ := putLD w1 eS1 eo rd'
  exact .trans e1 (.of e2 w2 (.dat (RD.mono (e2.stay w1) _ _ rd)) k)
theorem tr_ownM {f : OwnF} (hf : OwnRule X r f) (slot : Slot "list" name id) (hty : typeOf (.builtin id) = pure (.type "method_descriptor")) (hm : MtM X id r) (hp : PE X o (tVar n)) (ha : TrA X (e :: es) tas)
    (hb : attributeBase o name X.env (eval o X.env) = eval o X.env := by rfl) (hl : (apos.endLine == cpos.line) = true := by rfl) (hs : starEach (e :: es) X.env = (false, eval e X.env) :: starEach es X.env := by rfl)
    (hfew : ((backTo cpos (starEach (e :: es) X.env)).all (fun x => !x.1) && (backToKw cpos (keywordEach [] X.env)).all (fun x => x.1.isSome) && decide ((e :: es).length + ([] : List Keyword).length + (if ([] : List Keyword).isEmpty then 0 else 1) < 30)) = true := by rfl) (hpl : (backTo cpos (starEach es X.env)).any (·.1) = false := by rfl) :
    TrE X (.Call (.Attribute o name apos) (e :: es) [] cpos) (sOwnM n f tas) := ⟨fun {σ h Q A H τ} ht wr rs => by
  unfold sOwnM at ht
  split at ht
  · rename_i m em
    split at ht
    · rename_i ds0 eo0
      obtain ⟨v, ev, S, eS, rfl⟩ := rs.at_ n _ em
      obtain ⟨vs0, hv0, _⟩ := wr.lc m S _ eS eo0
      refine w_E (pe_bm PySem.F.plainAttrs_list slot hty hm hp pw_A (hbase := hb) (hfew := hfew) (hline := hl) (hs := hs) (hplain := hpl)) ⟨_, ev, .inl ⟨rfl, _, SqL.of hv0⟩, ha.bind ht wr rs fun xs H1 B h1 us e1 w1 r1 rs1 q1 => ?_⟩
      split at q1
      · rename_i ds eo
        exact own_core hf e1 w1 r1 eS eo q1
      · exact q1.elim
    · exact ht.elim
  · exact ht.elim⟩
theorem tr_ownM0 {f : OwnF} (hf : OwnRule X r f) (slot : Slot "list" name id) (hty : typeOf (.builtin id) = pure (.type "method_descriptor")) (hm : MtM X id r) (hp : PE X o (tVar n))
    (hb : attributeBase o name X.env (eval o X.env) = eval o X.env := by rfl) (hl : (apos.endLine == cpos.line) = true := by rfl) :
    TrE X (.Call (.Attribute o name apos) [] [] cpos) (sOwnM n f sNil) := ⟨fun {σ h Q A H τ} ht wr rs => by
  unfold sOwnM at ht
  split at ht
  · rename_i m em
    split at ht
    · rename_i ds0 eo0
      obtain ⟨v, ev, S, eS, rfl⟩ := rs.at_ n _ em
      obtain ⟨vs0, hv0, _⟩ := wr.lc m S _ eS eo0
      refine w_E (pe_bm0 PySem.F.plainAttrs_list slot hty hm hp (hbase := hb) (hline := hl)) ⟨_, ev, .inl ⟨rfl, _, SqL.of hv0⟩, ?_⟩
      unfold sNil at ht
      dsimp only at ht
      split at ht
      · rename_i ds eo
        exact own_core hf .refl wr .nil eS eo ht
      · exact ht.elim
    · exact ht.elim
  · exact ht.elim⟩
def fApp : OwnF := fun ds us h k => match us with
  | [.v (.dat d)] => ds.length ≤ 1000000 ∧ k (ds ++ [d]) .none
  | _ => False
theorem or_app : OwnRule X rAppend fApp := fun A h H S vs ds us xs Q k wr r hv rv q kk => by
  unfold fApp at q
  split at q
  · obtain ⟨v, rfl, r1⟩ := r.one
    refine ⟨S, vs, v, rfl, rfl, hv, by rw [rv.len]; exact Nat.lt_of_le_of_lt q.1 (by decide), kk _ _ _ _ (rv.app (.cons (ru_dat r1) .nil)) .non q.2⟩
  · exact q.elim
def fExt : OwnF := fun ds us h k => match us with
  | [u] => match rowD h u with
    | some es => ds.length + es.length ≤ 1000000 ∧ k (ds ++ es) .none
    | none => False
  | _ => False
theorem or_ext : OwnRule X rExtend fExt := fun A h H S vs ds us xs Q k wr r hv rv q kk => by
  unfold fExt at q
  split at q
  · split at q
    · rename_i es er
      obtain ⟨v, rfl, r1⟩ := r.one
      obtain ⟨a2, us2, rfl, h2, r2⟩ := row_ok wr r1 er
      refine ⟨S, a2, vs, us2, rfl, rfl, hv, h2, by rw [rv.len, r2.len]; exact Nat.le_trans q.1 (by decide), kk _ _ _ _ (rv.app r2) .non q.2⟩
    · exact q.elim
  · exact q.elim
def fPopAt : OwnF := fun ds us h k => match us with
  | [.v (.dat (.int i))] => ds.length ≤ 1000000 ∧ ∃ j d, ixN ds.length i = some j ∧ ds[j]? = some d ∧ k (ds.eraseIdx j) d
  | _ => False
theorem or_popAt : OwnRule X rPopAt fPopAt := fun A h H S vs ds us xs Q k wr r hv rv q kk => by
  unfold fPopAt at q
  split at q
  · rename_i i
    obtain ⟨hz, j, d, e1, e2, q⟩ := q
    obtain ⟨v, rfl, r1⟩ := r.one
    obtain rfl := ru_int r1
    obtain ⟨z, ez, rz⟩ := rv.at e2
    obtain ⟨s1, s2, s3, s4⟩ := ixN_seq e1
    have hl := rv.len
    exact ⟨S, vs, i, j, z, rfl, rfl, hv, by omega, by omega, by rw [hl]; exact s1, ez, kk _ _ _ _ (rv.eraseIdx j) rz q⟩
  · exact q.elim
/-! x[i] = v, x an own list -/
def sSetI (n : Nat) (ti tv : TW) (k : TSW) : TSW := fun D σ h => tv σ h (asD fun d h1 => match σ[n]? with
  | some (some (.l m)) => ti σ h1 fun u h2 => match u with
    | .v (.dat (.int z)) => match h2.l[m]? with
      | some (.lsd ds) => ∃ j, ixN ds.length z = some j ∧ k D σ (h2.putL m (.lsd (ds.set j d)))
      | _ => False
    | _ => False
  | _ => False)
theorem trb_setI (hpg : PG X (.Subscript o i pos') (L2.gSub (tVar n) (wE X i) rSetL)) (hi : TrE X i te) (he : TrE X e t) (hk : TrB X sts tk)
    (hs : swapsWithSole [.Subscript o i pos'] e pos.line X.env = pure false := by rfl) (hw : swappedStores [.Subscript o i pos'] e X.env = pure none := by rfl) (h1 : (assignEach [.Subscript o i pos'] X.env).map (·.2) = [assign (.Subscript o i pos') X.env] := by rfl) : TrB X (.Assign [.Subscript o i pos'] e pos :: sts) (sSetI n te t tk) := ⟨fun {σ h h0 D A A0 H H0 τ} ht e0 wr rs =>
  b_asg hpg (he.bind ht wr rs fun v H1 B h1 u e1 w1 r1 rs1 q1 => by
    obtain ⟨d, rfl, q1⟩ := q1.out
    split at q1
    · rename_i m em
      obtain ⟨v0, ev, S, eS, rfl⟩ := rs1.at_ n _ em
      refine ⟨_, ev, hi.bind q1 w1 rs1 fun v2 H2 C h2 u2 e2 w2 r2 rs2 q2 => ?_⟩
      split at q2
      · rename_i z
        split at q2
        · rename_i ds eo
          obtain ⟨j, ej, q⟩ := q2
          have eS2 := e2.ls _ _ eS
          obtain ⟨vs, hv, rr⟩ := w2.lc m S _ eS2 eo
          have rd : RD X.K C.F H2 d v := ru_dat (r1.ext w1 e2)
          obtain ⟨e3, w3⟩ := putLD w2 eS2 eo (RDs.set j rr rd)
          exact ⟨S, vs, z, j, rfl, ru_int r2, hv, by rw [rr.len]; exact ej, hk.run q (((e0.trans e1).trans e2).trans e3) w3 (rs2.ext w2 e3)⟩
        · exact q2.elim
      · exact q2.elim
    · exact q1.elim) hs hw h1⟩
/-! ### unpacking -/
def sUnp (t : TW) (b : BW) (k : TSW) : TSW := fun D σ h => t σ h fun u h1 => match u with
  | .v w => ∃ σ', b w σ = some σ' ∧ k D σ' h1
  | _ => False
theorem trb_unp {g : TG} {vs : List Nat} {b : BW} (hg : PG X tg g) (hgw : TrG X.K g vs b) (he : TrE X e t) (hk : TrB X sts tk) (hs : swapsWithSole [tg] e pos.line X.env = pure false := by rfl) (hw : swappedStores [tg] e X.env = pure none := by rfl)
    (h1 : (assignEach [tg] X.env).map (·.2) = [assign tg X.env] := by rfl) : TrB X (.Assign [tg] e pos :: sts) (sUnp t b tk) := ⟨fun {σ h h0 D A A0 H H0 τ} ht e0 wr rs =>
  b_asg hg (he.bind ht wr rs fun v H1 B h1 u e1 w1 r1 rs1 q1 => by
    split at q1
    · obtain ⟨σ', es, q1⟩ := q1
      exact hgw.run w1 r1 rs1 es fun τ' rs' _ => hk.run q1 (e0.trans e1) w1 rs'
    · exact q1.elim) hs hw h1⟩
/-- x, y = a, b -/
def sPar (i j : Nat) (ta tb : TW) (k : TSW) : TSW := fun D σ h => ta σ h fun u h1 => tb σ h1 fun v h2 => k D ((σ.set i (some u)).set j (some v)) h2
theorem trb_par {i : Nat} (hc : X.calm = true) (hN : X.N.Nodup) (hi : X.N[i]? = some x) (hj : X.N[j]? = some y) (hij : i ≠ j) (ha : TrE X a ta) (hb : TrE X b tb) (hk : TrB X sts tk)
    (hx : X.env.scope.names.lookup x = some .local := by rfl) (hy : X.env.scope.names.lookup y = some .local := by rfl) (hw : swappedStores [.Tuple [.Name x px, .Name y py] kt pt] (.Tuple [a, b] k2 pt2) X.env = pure (some [x, y]) := by rfl)
    (hs : starEach [a, b] X.env = (false, eval a X.env) :: starEach [b] X.env := by rfl) (hs' : starEach [b] X.env = (false, eval b X.env) :: starEach [] X.env := by rfl)
    (hsw : swapsWithSole [.Tuple [.Name x px, .Name y py] kt pt] (.Tuple [a, b] k2 pt2) pos.line X.env = pure false := by rfl) : TrB X (.Assign [.Tuple [.Name x px, .Name y py] kt pt] (.Tuple [a, b] k2 pt2) pos :: sts) (sPar i j ta tb tk) := ⟨fun {σ h h0 D A A0 H H0 τ} ht e0 wr rs =>
  b_cons (w_S (ps_par hc hN hi hj hij hx hy (pa_cons pw_E (pa_cons pw_E pa_nil hs') hs) hw hsw) (ha.bind ht wr rs fun v H1 B h1 u e1 w1 r1 rs1 q1 => hb.bind q1 w1 rs1 fun v2 H2 C h2 u2 e2 w2 r2 rs2 q2 => ⟨v, v2, rfl, hk.run q2 ((e0.trans e1).trans e2) w2 ((rs2.set i (r1.ext w1 e2)).set j r2)⟩))⟩
/-! ### while -/
def whileN (c : TTW) (tb : TSW) : Nat → TSW
  | 0, _, _, _ => False
  | n + 1, D, σ, h => c σ h fun b h1 => if b = true then tb { nx := whileN c tb n D, rt := D.rt, ct := whileN c tb n D, bk := D.nx } σ h1 else D.nx σ h1
def sWhile (c : TTW) (tb k : TSW) : TSW := fun D σ h => ∃ n, whileN c tb n { D with nx := k D } σ h
theorem b_while {D : Ends} {σ : L2.St} {H : Hp} (Wn : Nat → L2.St → Hp → Prop) (h0 : ∃ m, Wn m σ H) (hp : PassesOwn (model X.prog X.w) X.A X.env X.xe) (h : ∀ m σ H, Wn m σ H → wT X c σ H fun b H1 => if b = true then wB X body { D with nx := fun σ' H' => ∃ m', m' < m ∧ Wn m' σ' H', ct := fun σ' H' => ∃ m', m' < m ∧ Wn m' σ' H', bk := wB X sts D } σ H1 else wB X sts D σ H1) : wB X (.While c body [] pos :: sts) D σ H :=
  b_cons (w_S (ps_while hp pw_T pw_B) ⟨Wn, h0, fun m σ H hw => wT_mono (h m σ H hw) fun b H1 q => by
    by_cases e : b = true
    · rw [if_pos e] at q ⊢
      exact ⟨_, fun σ' H' z => z, q⟩
    · rw [if_neg e] at q ⊢
      exact q⟩)
theorem trb_while (hp : PassesOwn (model X.prog X.w) X.A X.env X.xe) (hc : TrT X c tt) (hb : TrB X body tb1) (hk : TrB X sts tk) : TrB X (.While c body [] pos :: sts) (sWhile tt tb1 tk) := ⟨fun {σ h h0 D A A0 H H0 τ} ⟨n0, ht⟩ e0 wr rs => by
  refine b_while (fun m τ' H' => ∃ C h2 σ', Ext A h H C h2 H' ∧ WR X.K C h2 H' ∧ RS X.K C H' σ' τ' ∧ whileN tt tb1 m { D with nx := tk D } σ' h2) ⟨n0, A, h, σ, .refl, wr, rs, ht⟩ hp ?_
  rintro m τ' H' ⟨C, h2, σ', e2, w2, rs2, q2⟩
  cases m with
  | zero => exact q2.elim
  | succ m =>
    refine hc.bind q2 w2 rs2 fun k H3 B h3 e3 w3 rs3 q3 => ?_
    cases k with
    | false => exact hk.run q3 ((e0.trans e2).trans e3) w3 rs3
    | true =>
      show wB X body _ τ' H3
      have ee := e2.trans e3
      refine wB_mono (hb.run (A0 := B) (h0 := h3) (H0 := H3) q3 .refl w3 rs3) ?_ ?_ ?_ ?_
      · rintro τ5 H5 ⟨C5, h5, σ5, e5, w5, rs5, q5⟩
        exact ⟨m, Nat.lt_succ_self m, C5, h5, σ5, ee.trans e5, w5, rs5, q5⟩
      · rintro v H5 ⟨C5, h5, u5, e5, w5, r5, q5⟩
        exact ⟨C5, h5, u5, (e0.trans ee).trans e5, w5, r5, q5⟩
      · rintro τ5 H5 ⟨C5, h5, σ5, e5, w5, rs5, q5⟩
        exact hk.run q5 ((e0.trans ee).trans e5) w5 rs5
      · rintro τ5 H5 ⟨C5, h5, σ5, e5, w5, rs5, q5⟩
        exact ⟨m, Nat.lt_succ_self m, C5, h5, σ5, ee.trans e5, w5, rs5, q5⟩⟩
/-! ### dicts that are shared -/
def keyU : U → Option Key
  | .v (.dat (.int i)) => some (.inl i)
  | .v (.dat (.str x)) => some (.inr x)
  | _ => none
theorem keyU_ok {K : PySem.W.Frag} {A : Wd} {H : Hp} {u : U} {v : V} {k : Key} (e : keyU u = some k) (r : RU K A H u v) : v = kV k := by
  unfold keyU at e
  split at e
  · cases e
    exact ru_int r
  · cases e
    exact ru_str r
  · cases e
theorem valV_rel {K : PySem.W.Frag} {gs : List Addr} {F : Addr → Prop} {H : Hp} {k : Key} : ∀ {kvs : List (Key × W)} {kvs' : List (Key × V)} {w : W}, Paired (fun (p : Key × W) (q : Key × V) => p.1 = q.1 ∧ RV K gs F H p.2 q.2) kvs kvs' → (kvs.find? fun kv => decide (kv.1 = k)).map (·.2) = some w → ∃ v, valV kvs' k = some v ∧ RV K gs F H w v
  | _, _, w, .nil, e => by cases e
  | (k1, w1) :: kvs, (k2, v2) :: kvs', w, .cons q r, e => by
    have q1 : k1 = k2 := q.1
    subst q1
    by_cases h : k1 = k
    · rw [List.find?_cons_of_pos (by simpa using h)] at e
      cases e
      exact ⟨v2, valV_pos h, q.2⟩
    · rw [List.find?_cons_of_neg (by simpa using h)] at e
      obtain ⟨v, ev, rv⟩ := valV_rel r e
      exact ⟨v, (valV_neg h).trans ev, rv⟩
def getK (kvs : List (Key × W)) (k : Key) : Option W := (kvs.find? fun kv => decide (kv.1 = k)).map (·.2)
def setK (kvs : List (Key × W)) (k : Key) (w : W) : List (Key × W) := if (kvs.any fun kv => decide (kv.1 = k)) = true then kvs.map (fun kv => if kv.1 = k then (kv.1, w) else kv) else kvs ++ [(k, w)]
theorem paired_any {K : PySem.W.Frag} {gs : List Addr} {F : Addr → Prop} {H : Hp} {k : Key} : ∀ {kvs : List (Key × W)} {kvs' : List (Key × V)}, Paired (fun (p : Key × W) (q : Key × V) => p.1 = q.1 ∧ RV K gs F H p.2 q.2) kvs kvs' → (kvs.any fun kv => decide (kv.1 = k)) = (kvs'.any fun kv => decide (kv.1 = k))
  | _, _, .nil => rfl
  | _ :: _, _ :: _, .cons q r => by rw [List.any_cons, List.any_cons, q.1, paired_any r]
theorem paired_map {K : PySem.W.Frag} {gs : List Addr} {F : Addr → Prop} {H : Hp} {k : Key} {w : W} {v : V} (rv : RV K gs F H w v) : ∀ {kvs : List (Key × W)} {kvs' : List (Key × V)}, Paired (fun (p : Key × W) (q : Key × V) => p.1 = q.1 ∧ RV K gs F H p.2 q.2) kvs kvs' →
    Paired (fun (p : Key × W) (q : Key × V) => p.1 = q.1 ∧ RV K gs F H p.2 q.2) (kvs.map fun kv => if kv.1 = k then (kv.1, w) else kv) (kvs'.map fun kv => if kv.1 = k then (kv.1, v) else kv)
  | _, _, .nil => .nil
  | (k1, w1) :: kvs, (k2, v2) :: kvs', .cons q r => by
    have q1 : k1 = k2 := q.1
    subst q1
    refine .cons ?_ (paired_map rv r)
    dsimp only
    by_cases h : k1 = k
    · rw [if_pos h, if_pos h]
      exact ⟨rfl, rv⟩
    · rw [if_neg h, if_neg h]
      exact q
theorem paired_app {α β : Type} {R : α → β → Prop} : ∀ {l l2 : List α} {m m2 : List β}, Paired R l m → Paired R l2 m2 → Paired R (l ++ l2) (m ++ m2)
  | _, _, _, _, .nil, t => t
  | _, _, _, _, .cons q r, t => .cons q (paired_app r t)
theorem paired_put {K : PySem.W.Frag} {gs : List Addr} {F : Addr → Prop} {H : Hp} {k : Key} {w : W} {v : V} (rv : RV K gs F H w v) {kvs : List (Key × W)} {kvs' : List (Key × V)} (r : Paired (fun (p : Key × W) (q : Key × V) => p.1 = q.1 ∧ RV K gs F H p.2 q.2) kvs kvs') :
    Paired (fun (p : Key × W) (q : Key × V) => p.1 = q.1 ∧ RV K gs F H p.2 q.2) (setK kvs k w) (putK kvs' k v) := by
  unfold setK putK
  rw [paired_any r]
  split
  · exact paired_map rv r
  · exact paired_app r (.cons ⟨rfl, rv⟩ .nil)
@[irreducible] def sDGet (td ty : TW) : TW := fun σ h Q => td σ h fun x h1 => ty σ h1 fun y h2 => match x with
  | .v (.ref n) => match h2.g[n]? with
    | some (.dK kvs) => ∃ k w, keyU y = some k ∧ getK kvs k = some w ∧ Q (.v w) h2
    | _ => False
  | _ => False
theorem tr_dget (hu : X.A.units + 1 < cLine) (ha : TrE X a ta) (hb : TrE X b tb) (hs : NoSl b := by exact fun _ _ => rfl) : TrE X (.Subscript a b p) (sDGet ta tb) := ⟨fun {σ h Q A H τ} ht wr rs => by
  unfold sDGet at ht
  exact w_E (pe_dget hu pw_E pw_E hs) (ha.bind ht wr rs fun v H1 B h1 x e1 w1 r1 rs1 q1 => hb.bind q1 w1 rs1 fun u H2 C h2 y e2 w2 r2 rs2 q2 => by
    split at q2
    · rename_i n
      split at q2
      · rename_i kvs eg
        obtain ⟨k, w, ek, ew, q⟩ := q2
        have r1' : RV X.K C.gs C.F H2 (.ref n) v := r1.ext w1 e2
        cases r1' with
        | ref ea =>
          obtain ⟨kvs', hk, pr⟩ := w2.gc n _ _ ea eg
          obtain ⟨z, ez, rz⟩ := valV_rel pr ew
          obtain rfl := keyU_ok ek r2
          refine ⟨_, z, rfl, ?_, .of (e1.trans e2) w2 (.of rz) q⟩
          rw [← ez]
          exact DGet.k hk
      · exact q2.elim
    · exact q2.elim)⟩
@[irreducible] def sDPut2 (td ty : TW) (σ : Sw) (k : Hw → Prop) : QU := fun w h1 => td σ h1 fun x h2 => ty σ h2 fun y h3 => match w, x with
  | .v w, .v (.ref n) => match h3.g[n]? with
    | some (.dK kvs) => ∃ kk, keyU y = some kk ∧ kvs.length ≤ 100000 ∧ k (h3.putG n (.dK (setK kvs kk w)))
    | _ => False
  | _, _ => False
def sDPutW (td ty tv : TW) (k : TSW) : TSW := fun D σ h => tv σ h (sDPut2 td ty σ (k D σ))
theorem dget_ok {i n : Nat} {σ : Sw} {h : Hw} {kvs : List (Key × W)} {key : Str} {w : W} {Q : QU} (eg : h.g[n]? = some (.dK kvs)) (ew : getK kvs (.inr key) = some w) (q : Q (.v w) h) (e : σ[i]? = some (some (.v (.ref n)))) : sDGet (sVar i) (sStr key) σ h Q := by
  unfold sDGet sVar
  rw [e]
  show match h.g[n]? with
    | some (.dK kvs) => ∃ k w, keyU (.v (.dat (.str key))) = some k ∧ getK kvs k = some w ∧ Q (.v w) h
    | _ => False
  rw [eg]
  exact ⟨_, w, rfl, ew, q⟩
theorem dput_ok {i n : Nat} {σ : Sw} {h : Hw} {kvs : List (Key × W)} {key : Str} {w : W} {k : Hw → Prop} (eg : h.g[n]? = some (.dK kvs)) (hl : kvs.length ≤ 100000) (q : k (h.putG n (.dK (setK kvs (.inr key) w)))) (e : σ[i]? = some (some (.v (.ref n)))) : sDPut2 (sVar i) (sStr key) σ k (.v w) h := by
  unfold sDPut2 sVar
  rw [e]
  show match h.g[n]? with
    | some (.dK kvs) => ∃ kk, keyU (.v (.dat (.str key))) = some kk ∧ kvs.length ≤ 100000 ∧ k (h.putG n (.dK (setK kvs kk w)))
    | _ => False
  rw [eg]
  exact ⟨_, rfl, hl, q⟩
theorem paired_len {α β : Type} {R : α → β → Prop} : ∀ {l : List α} {m : List β}, Paired R l m → l.length = m.length
  | _, _, .nil => rfl
  | _, _, .cons _ r => by rw [List.length_cons, List.length_cons, paired_len r]
theorem trb_dput (hu : X.A.units + 1 < cLine) (hv : TrE X e t) (ha : TrE X a ta) (hb : TrE X b tb) (hk : TrB X sts tk) (hs : swapsWith e (some (.Subscript a b pos')) pos.line X.env = pure false := by rfl) : TrB X (.Assign [.Subscript a b pos'] e pos :: sts) (sDPutW ta tb t tk) := ⟨fun {σ h h0 D A A0 H H0 τ} ht e0 wr rs =>
  b_cons (w_S (ps_dput hu pw_E pw_E pw_E hs) (hv.bind ht wr rs fun v1 H1 B1 h1 u1 e1 w1 r1 rs1 q1 => by
    unfold sDPut2 at q1
    exact ha.bind q1 w1 rs1 fun v2 H2 B2 h2 u2 e2 w2 r2 rs2 q2 => hb.bind q2 w2 rs2 fun v3 H3 B3 h3 u3 e3 w3 r3 rs3 q3 => by
      split at q3
      · rename_i w n
        split at q3
        · rename_i kvs eg
          obtain ⟨kk, ek, hl, q⟩ := q3
          have r2' : RV X.K B3.gs B3.F H3 (.ref n) v2 := r2.ext w2 e3
          have r1' : RV X.K B3.gs B3.F H3 w v1 := RU.ext (u := .v w) r1 w1 (e2.trans e3)
          cases r2' with
          | ref ea =>
            obtain ⟨kvs', hk', pr⟩ := w3.gc n _ _ ea eg
            obtain rfl := keyU_ok ek r3
            have la : Liv B3 h3 _ := ⟨n, _, (by intro z; cases z), .inl ⟨ea, eg⟩⟩
            obtain ⟨e4, w4⟩ := putG (o' := .dK (setK kvs kk w)) (x := .dK (putK kvs' kk v1)) w3 ea eg (by intro z; cases z) ⟨_, upd_same, Paired.rmono (stay_live w3 la) (fun _ _ z => z) (paired_put r1' pr)⟩
            exact ⟨_, _, rfl, .inl ⟨kvs', kk, hk', rfl, by rw [← paired_len pr]; exact Nat.lt_of_le_of_lt hl (by decide), rfl⟩, hk.run q (((e0.trans e1).trans (e2.trans e3)).trans e4) w4 (rs3.ext w3 e4)⟩
        · exact q3.elim
      · exact q3.elim))⟩
/-! ### new lists -/
/-- a + b of lists -/
def sCat (ta tb : TW) : TLW := fun σ h Q => ta σ h fun x h1 => tb σ h1 fun y h2 => match rowD h2 x, rowD h2 y with
  | some ds, some es => ds.length + es.length ≤ 1000000 ∧ Q (ds ++ es) h2
  | _, _ => False
theorem trl_cat (ha : TrE X a ta) (hb : TrE X b tb) : TrL X (.BinOp a .Add b pos) (sCat ta tb) := ⟨fun {σ h Q A H τ} ht wr rs => w_E (pe_op op_cat pw_E pw_E)
  (ha.bind ht wr rs fun v H1 B h1 x e1 w1 r1 rs1 q1 => hb.bind q1 w1 rs1 fun u H2 C h2 y e2 w2 r2 rs2 q2 => by
    split at q2
    · rename_i ds es e3 e4
      obtain ⟨a1, vs1, rfl, h3, r3⟩ := row_ok w2 (r1.ext w1 e2) e3
      obtain ⟨a2, vs2, rfl, h4, r4⟩ := row_ok w2 r2 e4
      exact ⟨a1, a2, vs1, vs2, rfl, rfl, h3, h4, by rw [r3.len, r4.len]; exact Nat.le_trans q2.1 (by decide), fun M hM => ⟨C, h2, _, M, _, rfl, newL_upd (e1.trans e2) w2 hM (r3.app r4), q2.2⟩⟩
    · exact q2.elim)⟩
/-- a built-in that makes a list -/
def CalL (X : Cx) (f : Value) (g : List U → Hw → (List PyData → Hw → Prop) → Prop) : Prop := ∀ (A : Wd) (h : Hw) (H : Hp) (us : List U) (vs : List V) (Q : List PyData → Hw → Prop) (R : VK), WR X.K A h H → RUs X.K A H us vs → g us h Q → (∀ v H', (∃ B h' ds M us, v = .ref M ∧ NewL X.K A h H B h' H' ds M us ∧ Q ds h') → R v H') → ∃ r, CallR X f r ∧ r vs H R
def sCalL (g : List U → Hw → (List PyData → Hw → Prop) → Prop) (t : TAW) : TLW := fun σ h Q => t σ h fun us h1 => g us h1 Q
theorem NewL.trans {K : PySem.W.Frag} {A B C : Wd} {h h1 h2 : Hw} {H H1 H2 : Hp} {ds : List PyData} {M : Addr} {us : List V} (e : Ext A h H B h1 H1) (n : NewL K B h1 H1 C h2 H2 ds M us) : NewL K A h H C h2 H2 ds M us := ⟨e.trans n.e, n.w, e.th M n.n, n.o, n.at_, n.r⟩
variable {T : String} {gl : List U → Hw → (List PyData → Hw → Prop) → Prop}
theorem trl_cb (hc : CalL X (.builtin id) gl) (hm : X.mg x = none) (hv : bootBuiltins x = some (.builtin id)) (ha : TrA X (e :: es) tas) (hg : Gl X x := by rfl)
    (hn : x ≠ "__name__" := by decide) (hdb : (x == ("__debug__" : Str)) = false := by decide) (he : starEach (e :: es) X.env = (false, eval e X.env) :: starEach es X.env := by rfl) (hpl : (backTo p (starEach es X.env)).any (·.1) = false := by rfl) : TrL X (.Call (.Name x q) (e :: es) [] p) (sCalL gl tas) := ⟨fun {σ h Q A H τ} ht wr rs =>
  w_E (pe_callB cr_any hg hm hv pw_A hn hdb he hpl) (ha.bind ht wr rs fun vs H1 B h1 us e1 w1 r1 rs1 q1 => hc B h1 H1 us vs Q _ w1 r1 q1 fun z H' ⟨C, h', ds, M, us, e, n, q⟩ => ⟨C, h', ds, M, us, e, n.trans e1, q⟩)⟩
theorem trl_cty (hc : CalL X (.type T) gl) (hm : X.mg x = none) (hv : bootBuiltins x = some (.type T)) (ha : TrA X (e :: es) tas) (hg : Gl X x := by rfl)
    (hn : x ≠ "__name__" := by decide) (hdb : (x == ("__debug__" : Str)) = false := by decide) (he : starEach (e :: es) X.env = (false, eval e X.env) :: starEach es X.env := by rfl) (hpl : (backTo p (starEach es X.env)).any (·.1) = false := by rfl) : TrL X (.Call (.Name x q) (e :: es) [] p) (sCalL gl tas) := ⟨fun {σ h Q A H τ} ht wr rs =>
  w_E (pe_callTy cr_any hg hm hv pw_A hn hdb he hpl) (ha.bind ht wr rs fun vs H1 B h1 us e1 w1 r1 rs1 q1 => hc B h1 H1 us vs Q _ w1 r1 q1 fun z H' ⟨C, h', ds, M, us, e, n, q⟩ => ⟨C, h', ds, M, us, e, n.trans e1, q⟩)⟩
/-- list(x) of a list or a tuple of data -/
def rowT (h : Hw) (u : U) : Option (List PyData) := match u with
  | .v (.dat (.tuple ds)) => some ds
  | u => rowD h u
def kList : List U → Hw → (List PyData → Hw → Prop) → Prop := fun us h Q => match us with
  | [u] => match rowT h u with
    | some ds => Q ds h
    | none => False
  | _ => False
theorem rowT_ok {K : PySem.W.Frag} {A : Wd} {h : Hw} {H : Hp} {u : U} {v : V} {ds : List PyData} (w : WR K A h H) (r : RU K A H u v) (e : rowT h u = some ds) : ∃ a vs, v = .ref a ∧ (H a = some (.lst vs) ∨ SqT K H a vs) ∧ RDs K A.F H ds vs := by
  unfold rowT at e
  split at e
  · cases e
    obtain ⟨a, vs, h1, h2, h3⟩ := ru_tup r
    exact ⟨a, vs, h1, .inr h2, h3⟩
  · obtain ⟨a, vs, h1, h2, h3⟩ := row_ok w r e
    exact ⟨a, vs, h1, .inl h2, h3⟩
theorem cl_list : CalL X (.type "list") kList := fun A h H us vs Q R wr r q k => by
  unfold kList at q
  split at q
  · split at q
    · rename_i ds er
      obtain ⟨v, rfl, r1⟩ := r.one
      obtain ⟨a, zs, rfl, hq, rr⟩ := rowT_ok wr r1 er
      exact ⟨_, call_list_of, a, zs, rfl, hq.imp (fun z => .of z) fun z => z, fun M hM => k _ _ ⟨A, h, ds, M, zs, rfl, newL_upd .refl wr hM rr, q⟩⟩
    · exact q.elim
  · exact q.elim
/-- list(range(a)), list(range(a, b)) -/
def rgD (a b : Int) : List PyData := (List.range (b - a).toNat).map fun (i : Nat) => .int (a + (i : Int))
theorem rds_rg {K : PySem.W.Frag} {F : Addr → Prop} {H : Hp} {a b : Int} : RDs K F H (rgD a b) (rgV a b) := by
  unfold rgD rgV
  generalize (b - a).toNat = n
  have : ∀ l : List Nat, RDs K F H (l.map fun (i : Nat) => PyData.int (a + (i : Int))) (l.map fun i => V.int (a + (i : Nat))) := fun l => by
    induction l with
    | nil => exact .nil
    | cons i l ih => exact .cons (.int _) ih
  exact this _
def asI (Q : Int → Hw → Prop) : QU := fun u h => match u with
  | .v (.dat (.int i)) => Q i h
  | _ => False
def sLrg1 (ta : TW) : TLW := fun σ h Q => ta σ h (asI fun b h1 => RgOk 0 b ∧ Q (rgD 0 b) h1)
def sLrg2 (ta tb : TW) : TLW := fun σ h Q => ta σ h (asI fun a h1 => tb σ h1 (asI fun b h2 => RgOk a b ∧ Q (rgD a b) h2))
theorem asI.out {Q : Int → Hw → Prop} {u : U} {h : Hw} (q : asI Q u h) : ∃ i, u = .v (.dat (.int i)) ∧ Q i h := by
  unfold asI at q
  split at q
  · exact ⟨_, rfl, q⟩
  · exact q.elim
theorem trl_lrg1 (hc : X.calm = true) (hm : X.mg "list" = none) (hr : X.mg "range" = none) (ha : TrE X a ta) (hg : Gl X "list" := by rfl) (hg2 : Gl X "range" := by rfl) (na : starEach [a] X.env = (false, eval a X.env) :: starEach [] X.env := by rfl) (na2 : starEach [.Call (.Name "range" q) [a] [] p2] X.env = (false, eval (.Call (.Name "range" q) [a] [] p2) X.env) :: starEach [] X.env := by rfl) : TrL X (.Call (.Name "list" p) [.Call (.Name "range" q) [a] [] p2] [] pos) (sLrg1 ta) := ⟨fun {σ h Q A H τ} ht wr rs =>
  w_E (pe_listRg hc hg hm (prg_1 hg2 hr pw_E na) na2) (ha.bind ht wr rs fun v H1 B h1 u e1 w1 r1 rs1 q1 => by
    obtain ⟨b, rfl, ok, q⟩ := q1.out
    exact ⟨b, ru_int r1, ok, fun M hM => ⟨B, h1, _, M, _, rfl, newL_upd e1 w1 hM rds_rg, q⟩⟩)⟩
theorem trl_lrg2 (hc : X.calm = true) (hm : X.mg "list" = none) (hr : X.mg "range" = none) (ha : TrE X a ta) (hb : TrE X b tb) (hg : Gl X "list" := by rfl) (hg2 : Gl X "range" := by rfl) (na : starEach [a, b] X.env = (false, eval a X.env) :: starEach [b] X.env := by rfl) (nb : starEach [b] X.env = (false, eval b X.env) :: starEach [] X.env := by rfl) (hp : (backTo p2 (starEach [b] X.env)).any (·.1) = false := by rfl) (na2 : starEach [.Call (.Name "range" q) [a, b] [] p2] X.env = (false, eval (.Call (.Name "range" q) [a, b] [] p2) X.env) :: starEach [] X.env := by rfl) : TrL X (.Call (.Name "list" p) [.Call (.Name "range" q) [a, b] [] p2] [] pos) (sLrg2 ta tb) := ⟨fun {σ h Q A H τ} ht wr rs =>
  w_E (pe_listRg hc hg hm (prg_2 hg2 hr pw_E pw_E na nb hp) na2) (ha.bind ht wr rs fun v H1 B h1 u e1 w1 r1 rs1 q1 => by
    obtain ⟨i, rfl, q1⟩ := q1.out
    exact hb.bind q1 w1 rs1 fun v2 H2 C h2 u2 e2 w2 r2 rs2 q2 => by
      obtain ⟨j, rfl, ok, q⟩ := q2.out
      exact ⟨i, j, ru_int r1, ru_int r2, ok, fun M hM => ⟨C, h2, _, M, _, rfl, newL_upd (e1.trans e2) w2 hM rds_rg, q⟩⟩)⟩
/-! ### slices of tuples, of lists -/
def TPr (K : PySem.W.Frag) (to : L2.TO) (t : Sw → Hw → (Option Int → Hw → Prop) → Prop) : Prop := ∀ {σ : Sw} {h : Hw} {Q : Option Int → Hw → Prop} {A : Wd} {H : Hp} {τ : L2.St} {R : Option Int → Hp → Prop}, t σ h Q → WR K A h H → RS K A H σ τ → (∀ z H' B h', Ext A h H B h' H' → WR K B h' H' → RS K B H' σ τ → Q z h' → R z H') → to τ H R
abbrev TOW := Sw → Hw → (Option Int → Hw → Prop) → Prop
def sNoP : TOW := fun _ h Q => Q none h
def sPart (t : TW) : TOW := fun σ h Q => t σ h (asI fun i h1 => Q (some i) h1)
structure TrO (X : Cx) (e : Option Expr) (t : TOW) : Prop where
  ex : ∃ to, PO X e to ∧ TPr X.K to t
theorem tro_none : TrO X none sNoP := ⟨_, po_none, fun {σ h Q A H τ R} ht wr rs k => k none H A h .refl wr rs ht⟩
theorem tro_some (ha : TrE X a ta) : TrO X (some a) (sPart ta) := ⟨_, po_some pw_E, fun {σ h Q A H τ R} ht wr rs k => ha.bind ht wr rs fun v H1 B h1 u e1 w1 r1 rs1 q1 => by
  obtain ⟨i, rfl, q⟩ := q1.out
  exact ⟨i, ru_int r1, k _ _ B h1 e1 w1 rs1 q⟩⟩
def cutD (xs : List PyData) (lo hi : Option Int) : List PyData := (xs.drop (HT.sIx xs.length 0 lo)).take (HT.sIx xs.length xs.length hi - HT.sIx xs.length 0 lo)
theorem RDs.cut {K : PySem.W.Frag} {F : Addr → Prop} {H : Hp} {ds : List PyData} {vs : List V} {lo hi : Option Int} (r : RDs K F H ds vs) : RDs K F H (cutD ds lo hi) (cutV vs lo hi) := by
  unfold cutD cutV
  rw [← r.len]
  exact (RDs.drop _ r).take _
def sSlT (te : TW) (tl th : TOW) : TW := fun σ h Q => te σ h fun x h1 => tl σ h1 fun l h2 => th σ h2 fun u h3 => match x with
  | .v (.dat (.tuple ds)) => Q (.v (.dat (.tuple (cutD ds l u)))) h3
  | _ => False
theorem cutD_all {ds : List PyData} {lo hi : Option Int} (h : HT.sIx ds.length 0 lo = 0 ∧ HT.sIx ds.length ds.length hi = ds.length) : cutD ds lo hi = ds := by
  unfold cutD
  rw [h.1, h.2, List.drop_zero, Nat.sub_zero, List.take_length]
theorem tr_slT {l u : Option Expr} {tlo thi : TOW} (ha : TrE X a ta) (hl : TrO X l tlo) (hu : TrO X u thi) : TrE X (.Subscript a (.Slice l u none p2) pos) (sSlT ta tlo thi) := ⟨fun {σ h Q A H τ} ht wr rs => by
  obtain ⟨to1, po1, k1⟩ := hl.ex
  obtain ⟨to2, po2, k2⟩ := hu.ex
  refine w_E (pe_slice sl_tupA pw_E po1 po2) (ha.bind ht wr rs fun v H1 B h1 x e1 w1 r1 rs1 q1 => k1 q1 w1 rs1 fun lo H2 B2 h2 e2 w2 rs2 q2 => k2 q2 w2 rs2 fun hi H3 B3 h3 e3 w3 rs3 q3 => ?_)
  split at q3
  · rename_i ds
    have r3 : RU X.K B3 H3 (.v (.dat (.tuple ds))) v := RU.ext r1 w1 (e2.trans e3)
    obtain ⟨q, vs, rfl, hq, rr⟩ := ru_tup r3
    have ee := e1.trans (e2.trans e3)
    refine ⟨q, vs, rfl, hq, fun hw => ?_, fun _ M hM => ?_⟩
    · rw [rr.len] at hw
      rw [cutD_all hw] at q3
      exact .of ee w3 r3 q3
    · have s : Same H3 (upd H3 M (.tup (cutV vs lo hi))) := same_new hM
      exact .trans ee (.mk w3 s (.dat (.tup (.of upd_same) (RDs.mono (.new hM) _ _ rr.cut))) q3)
  · exact q3.elim⟩
def sSlL (te : TW) (tl th : TOW) : TLW := fun σ h Q => te σ h fun x h1 => tl σ h1 fun l h2 => th σ h2 fun u h3 => match rowD h3 x with
  | some ds => Q (cutD ds l u) h3
  | none => False
theorem trl_slL {l u : Option Expr} {tlo thi : TOW} (ha : TrE X a ta) (hl : TrO X l tlo) (hu : TrO X u thi) : TrL X (.Subscript a (.Slice l u none p2) pos) (sSlL ta tlo thi) := ⟨fun {σ h Q A H τ} ht wr rs => by
  obtain ⟨to1, po1, k1⟩ := hl.ex
  obtain ⟨to2, po2, k2⟩ := hu.ex
  refine w_E (pe_slice sl_list pw_E po1 po2) (ha.bind ht wr rs fun v H1 B h1 x e1 w1 r1 rs1 q1 => k1 q1 w1 rs1 fun lo H2 B2 h2 e2 w2 rs2 q2 => k2 q2 w2 rs2 fun hi H3 B3 h3 e3 w3 rs3 q3 => ?_)
  split at q3
  · rename_i ds er
    obtain ⟨q, vs, rfl, hq, rr⟩ := row_ok w3 (RU.ext r1 w1 (e2.trans e3)) er
    exact ⟨q, vs, rfl, .of hq, fun M hM => ⟨B3, h3, _, M, _, rfl, newL_upd (e1.trans (e2.trans e3)) w3 hM rr.cut, q3⟩⟩
  · exact q3.elim⟩
end
end Wl

/-! names that are frozen, constants, keyword calls, in, index, enumerate, zip, sorted -/
namespace Wl
open PySem PySem.Spec PyProof.Rows L2 Cb
structure LD (P : Program) (w : World) (K : PySem.W.Frag) (mg : Str → Option Value) (base : Heap) (x : Str) (k : Nat) (ps : List Str) (sp : Sp) : Prop where
  ex : ∃ (f : Addr) (fd : FuncData), FnOk P w K mg base CX0 k f fd ps sp ∧ mg x = some (.ref f) ∧ PySem.W.keepIn K (.ref f) = true ∧ Binds K fd ps []
theorem LD.g {X : Cx} {x : Str} {k : Nat} {ps : List Str} {sp : Sp} (h : LD X.prog X.w X.K X.mg X.base x k ps sp) {n : Nat} (hr : Room n X.A) (l : k ≤ n) : ∃ f fd, GDef X x k f fd ps sp := by
  obtain ⟨f, fd, F, g, kp, b⟩ := h.ex
  exact ⟨f, fd, F, hr.mono l, g, kp, b⟩
theorem gdef_blk {X : Cx} {x : Str} {k : Nat} {f : Addr} {fd : FuncData} {ps : List Str} {sp : Sp} {s : Shared} {H : Hp} {sc : Scope} {env : Env} {fp : List Addr} (g : GDef X x k f fd ps sp) : GDef (X.blk s H sc env fp) x k f fd ps sp := ⟨g.ok, g.room, g.gl, g.kp, g.bs⟩
/-- a def of which repr is asked inside: no guard may stand on the stack -/
structure LG (P : Program) (w : World) (K : PySem.W.Frag) (mg : Str → Option Value) (base : Heap) (x : Str) (k : Nat) (ps : List Str) (sp : Sp) : Prop where
  ex : ∃ (f : Addr) (fd : FuncData), FnG P w K mg base k f fd ps sp ∧ mg x = some (.ref f) ∧ PySem.W.keepIn K (.ref f) = true ∧ Binds K fd ps []
theorem LG.g {X : Cx} {x : Str} {k : Nat} {ps : List Str} {sp : Sp} (h : LG X.prog X.w X.K X.mg X.base x k ps sp) {n : Nat} (gd : X.A.guards = some []) (hr : Room n X.A) (l : k ≤ n) : ∃ f fd, GDefG X x k f fd ps sp := by
  obtain ⟨f, fd, F, g, kp, b⟩ := h.ex
  exact ⟨f, fd, F, gd, hr.mono l, g, kp, b⟩
theorem LD.lg {P : Program} {w : World} {K : PySem.W.Frag} {mg : Str → Option Value} {base : Heap} {x : Str} {k : Nat} {ps : List Str} {sp : Sp} (h : LD P w K mg base x k ps sp) : LG P w K mg base x k ps sp := by
  obtain ⟨f, fd, F, g, kp, b⟩ := h.ex
  exact ⟨f, fd, .of F, g, kp, b⟩
/-- a constant of the module's top -/
def LC (K : PySem.W.Frag) (mg : Str → Option Value) (x : Str) (w : W) : Prop := ∃ (v : V) (u : Value), mg x = some u ∧ RelV v u ∧ ∀ gs F H, RV K gs F H w v
section
variable {X : Cx} {e a b c o i : Expr} {es : List Expr} {t ta tb tc : TW} {tas : TAW} {p q pos p2 apos cpos : Pos} {x : Str} {k : Nat} {f : Addr} {fd : FuncData} {ps : List Str} {cc : CW}
theorem LC.g {w : W} (h : LC X.K X.mg x w) : ∃ v u, X.mg x = some u ∧ RelV v u ∧ ∀ gs F H, RV X.K gs F H w v := h
theorem tr_const {w : W} (h : LC X.K X.mg x w) (hg : Gl X x := by rfl) (hdb : (x == ("__debug__" : Str)) = false := by decide) : TrE X (.Name x p) (sC w) := by
  obtain ⟨v, u, hm, r, k⟩ := h
  exact tr_c (pe_glob hg hm r hdb) k
theorem tr_callGG (g : GDefG X x k f fd ps (spW X.K cc)) (ha : TrA X (e :: es) tas) (hg : Gl X x := by rfl)
    (hdb : (x == ("__debug__" : Str)) = false := by decide) (he : starEach (e :: es) X.env = (false, eval e X.env) :: starEach es X.env := by rfl) (hpl : (backTo p (starEach es X.env)).any (·.1) = false := by rfl) :
    TrE X (.Call (.Name x q) (e :: es) [] p) (sCallG cc tas) := ⟨fun {σ h Q A H τ} ht wr rs =>
  w_callG g (ha.bind ht wr rs fun vs H1 B h1 us e1 w1 r1 rs1 ⟨ws, ew, cw⟩ => by
    obtain ⟨A2, g2, ws2, Q2, y1, y2, y3, y4⟩ := sp_G (Q := Q) w1 r1 ew cw
    exact ⟨A2, g2, ws2, Q2, y1, y2, y3, fun w g' q B' H' v z1 z2 z3 => .trans e1 (y4 w g' q B' H' v z1 z2 z3)⟩) hg hdb he hpl⟩
theorem tr_callPG (g : GDefG X x k f fd ps (spW X.K cc)) (ha : TrA X (e :: es) tas) (hg : Gl X x := by rfl)
    (hdb : (x == ("__debug__" : Str)) = false := by decide) (he : starEach (e :: es) X.env = (false, eval e X.env) :: starEach es X.env := by rfl) (hpl : (backTo p (starEach es X.env)).any (·.1) = false := by rfl) :
    TrE X (.Call (.Name x q) (e :: es) [] p) (sCallP cc tas) := ⟨fun {σ h Q A H τ} ht wr rs =>
  w_callG g (ha.bind ht wr rs fun vs H1 B h1 us e1 w1 r1 rs1 ⟨ws, ew, cw⟩ => by
    obtain ⟨A2, g2, ws2, Q2, y1, y2, y3, y4⟩ := sp_P (Q := Q) w1 r1 ew cw
    exact ⟨A2, g2, ws2, Q2, y1, y2, y3, fun w g' q B' H' v z1 z2 z3 => .trans e1 (y4 w g' q B' H' v z1 z2 z3)⟩) hg hdb he hpl⟩
/-- f(), a def without parameters -/
theorem tr_callP0 (g : GDef X x k f fd [] (spW X.K cc)) (hg : Gl X x := by rfl) (hdb : (x == ("__debug__" : Str)) = false := by decide) : TrE X (.Call (.Name x q) [] [] p) (sCallP cc sNil) := ⟨fun {σ h Q A H τ} ht wr rs =>
  w_E (pe_call0 g.ok g.room hg g.gl g.kp g.bs .nil pass0 hdb) (by
    obtain ⟨ws, ew, cw⟩ := ht
    exact sp_P (Q := Q) wr .nil ew cw)⟩
theorem w_callG0 {τ : L2.St} {H : Hp} {Q : VK} {sp : Sp} (g : GDefG X x k f fd [] sp) (h : sp [] H Q E0) (hg : Gl X x := by rfl) (hdb : (x == ("__debug__" : Str)) = false := by decide) : wE X (.Call (.Name x q) [] [] p) τ H Q := by
  refine wE_i fun pins s I => ?_
  apply wpAny_Call_Name_kw
  apply ld_glob I hg g.gl _ hdb
  exact PySem.W.callWith_K0 I.kIn g.kp (runG (us := []) g I .nil h)
theorem tr_callPG0 (g : GDefG X x k f fd [] (spW X.K cc)) (hg : Gl X x := by rfl) (hdb : (x == ("__debug__" : Str)) = false := by decide) : TrE X (.Call (.Name x q) [] [] p) (sCallP cc sNil) := ⟨fun {σ h Q A H τ} ht wr rs =>
  w_callG0 g (by
    obtain ⟨ws, ew, cw⟩ := ht
    exact sp_P (Q := Q) wr .nil ew cw) hg hdb⟩
/-- an own list that is read for good: from here on it is a value -/
def sVarF (i : Nat) : TW := fun σ h Q => match σ[i]? with
  | some (some (.l m)) => match h.l[m]? with
    | some (.lsd ds) => Q (.v (.dat (.list ds))) (h.kill m)
    | _ => False
  | _ => False
theorem tr_nameF {i : Nat} (pe : PE X (.Name x p) (tVar i)) : TrE X (.Name x p) (sVarF i) := ⟨fun {σ h Q A H τ} ht wr rs => by
  unfold sVarF at ht
  split at ht
  · rename_i m em
    split at ht
    · rename_i ds eo
      obtain ⟨v, z, a, ea, rfl⟩ := rs.at_ i _ em
      obtain ⟨e1, w1⟩ := own_frz wr ea eo (by intro z; cases z)
      obtain ⟨vs, hv, t⟩ := wr.lc m a _ ea eo
      exact w_E pe ⟨_, z, .of e1 w1 (.dat (.lst ⟨.inr rfl, hv⟩ (RDs.mono (e1.stay wr) _ _ t))) ht⟩
    · exact ht.elim
  · exact ht.elim⟩
/-! a chain as a test -/
theorem trt_chain {op op' : CmpOp} {f g : Int → Int → Bool} (ho : OpR X (compareOp op) (rI0 fun i j => .bl (f i j))) (ho' : OpR X (compareOp op') (rI0 fun i j => .bl (g i j))) (ha : TrE X a ta) (hb : TrE X b tb) (hc : TrE X c tc) (hm : lastMarks [op, op'] [b, c] = false := by with_unfolding_all rfl) :
    TrT X (.Compare a [op, op'] [b, c] pos) (sB (sChain f g ta tb tc)) := ⟨fun {σ h Q A H τ} ht wr rs => w_T (pt_chain ho ho' pw_E pw_E pw_E hm) (ha.bind ht wr rs fun v H1 B h1 u e1 w1 r1 rs1 q1 => hb.bind q1 w1 rs1 fun v2 H2 B2 h2 u2 e2 w2 r2 rs2 q2 => by
  split at q2
  · rename_i i j
    refine ⟨i, j, ru_int r1, ru_int r2, f i j, rfl, ?_⟩
    cases hf : f i j with
    | false =>
      rw [hf, if_neg Bool.false_ne_true] at q2
      exact ⟨_, rfl, B2, h2, e1.trans e2, w2, q2⟩
    | true =>
      rw [hf, if_pos rfl] at q2
      show wE X c τ H2 _
      exact hc.bind q2 w2 rs2 fun v3 H3 B3 h3 u3 e3 w3 r3 rs3 q3 => by
        split at q3
        · exact ⟨j, _, ru_int r2, ru_int r3, _, rfl, B3, h3, (e1.trans e2).trans e3, w3, q3⟩
        · exact q3.elim
  · exact q2.elim)⟩
/-! in, index, of scalars -/
def flatS : PyData → Bool
  | .none => true
  | .bool _ => true
  | .int _ => true
  | .str _ => true
  | _ => false
theorem flatS_ok {K : PySem.W.Frag} {F : Addr → Prop} {H : Hp} {d : PyData} {v : V} (f : flatS d = true) (r : RD K F H d v) : flatV v = true := by
  cases r <;> first | rfl | cases f
theorem flatS_all {K : PySem.W.Frag} {F : Addr → Prop} {H : Hp} : ∀ {ds : List PyData} {vs : List V}, ds.all flatS = true → RDs K F H ds vs → vs.all flatV = true
  | [], _, _, .nil => rfl
  | d :: ds, _, f, .cons q r => by
    rw [List.all_cons, Bool.and_eq_true] at f
    rw [List.all_cons, flatS_ok f.1 q, flatS_all f.2 r]
    rfl
def eqS : PyData → PyData → Bool
  | .none, .none => true
  | .bool a, .bool b => a == b
  | .bool a, .int b => (if a then 1 else 0) == b
  | .int a, .bool b => a == (if b then 1 else 0)
  | .int a, .int b => a == b
  | .str a, .str b => a == b
  | _, _ => false
theorem eqS_ok {K : PySem.W.Frag} {F : Addr → Prop} {H : Hp} {d e : PyData} {v w : V} (rd : RD K F H d v) (re : RD K F H e w) : eqV v w = eqS d e := by
  cases rd <;> cases re <;> rfl
theorem any_ok {K : PySem.W.Frag} {F : Addr → Prop} {H : Hp} {d : PyData} {v : V} (rd : RD K F H d v) : ∀ {ds : List PyData} {vs : List V}, RDs K F H ds vs → (vs.any fun y => eqV y v) = ds.any fun e => eqS e d
  | [], _, .nil => rfl
  | e :: ds, _, .cons q r => by rw [List.any_cons, List.any_cons, eqS_ok q rd, any_ok rd r]
def gIn (neg : Bool) : U → U → Hw → QU → Prop := fun x y h Q => match x, rowT h y with
  | .v (.dat d), some ds => (flatS d && ds.all flatS) = true ∧ Q (.v (.dat (.bool (if neg then !(ds.any fun e => eqS e d) else ds.any fun e => eqS e d)))) h
  | _, _ => False
theorem in_core {neg : Bool} {op : CmpOp} (ho : OpR X (compareOp op) (rIn X.K neg)) : OpW X (compareOp op) (gIn neg) := fun A h H x y v u Q R wr rx ry q k => by
  unfold gIn at q
  split at q
  · rename_i d ds er
    obtain ⟨a, vs, rfl, hq, rr⟩ := rowT_ok wr ry er
    obtain ⟨f, q⟩ := q
    rw [Bool.and_eq_true] at f
    have rd := ru_dat rx
    refine ⟨_, ho, a, vs, rfl, hq.imp (fun z => .of z) fun z => z, flatS_ok f.1 rd, flatS_all f.2 rr, k _ _ (.mk wr (.refl _) ?_ q)⟩
    show RU X.K A H _ (V.bl (if neg = true then !inV v vs else inV v vs))
    unfold inV
    rw [any_ok rd rr]
    exact .dat (.bl _)
  · exact q.elim
theorem ow_in : OpW X (compareOp .In) (gIn false) := in_core op_in_seq
theorem ow_notin : OpW X (compareOp .NotIn) (gIn true) := in_core op_notIn_seq
/-- xs.index(y): j is told -/
def sIndex (ta tb : TW) : TW := fun σ h Q => ta σ h fun x h1 => match rowD h1 x with
  | some _ => tb σ h1 fun y h2 => match rowD h2 x, y with
    | some ds, .v (.dat d) => (flatS d && ds.all flatS) = true ∧ ∃ (j : Nat) (e : PyData), ds[j]? = some e ∧ eqS e d = true ∧ (∀ (m : Nat) (e' : PyData), m < j → ds[m]? = some e' → eqS e' d = false) ∧ Q (.v (.dat (.int (j : Int)))) h2
    | _, _ => False
  | none => False
theorem RDs.at2 {K : PySem.W.Frag} {F : Addr → Prop} {H : Hp} {ds : List PyData} {vs : List V} {j : Nat} {v : V} (r : RDs K F H ds vs) (e : vs[j]? = some v) : ∃ d, ds[j]? = some d ∧ RD K F H d v := by
  obtain ⟨w, h1, h2⟩ := (r.rvs (gs := [])).at' e
  rw [List.getElem?_map] at h1
  cases q : ds[j]? with
  | none =>
    rw [q] at h1
    cases h1
  | some d =>
    rw [q] at h1
    cases h1
    cases h2 with
    | dat h2 => exact ⟨d, rfl, h2⟩
theorem tr_index (ha : TrE X o ta) (hb : TrE X e tb)
    (hbs : attributeBase o "index" X.env (eval o X.env) = eval o X.env := by rfl) (hl : (apos.endLine == cpos.line) = true := by rfl) (hs : starEach [e] X.env = (false, eval e X.env) :: starEach [] X.env := by rfl)
    (hfew : ((backTo cpos (starEach [e] X.env)).all (fun x => !x.1) && (backToKw cpos (keywordEach [] X.env)).all (fun x => x.1.isSome) && decide (([e] : List Expr).length + ([] : List Keyword).length + (if ([] : List Keyword).isEmpty then 0 else 1) < 30)) = true := by rfl) (hpl : (backTo cpos (starEach [] X.env)).any (·.1) = false := by rfl) :
    TrE X (.Call (.Attribute o "index" apos) [e] [] cpos) (sIndex ta tb) := ⟨fun {σ h Q A H τ} ht wr rs =>
  w_E (pe_bm PySem.F.plainAttrs_list PySem.F.slot_list_index PySem.F.type_list_index mt_index pw_E (pa_cons pw_E pa_nil hs) (hbase := hbs) (hfew := hfew) (hline := hl) (hs := hs) (hplain := hpl))
  (ha.bind ht wr rs fun v H1 B h1 u e1 w1 r1 rs1 q1 => by
    split at q1
    · rename_i ds0 er0
      obtain ⟨a, vs0, rfl, hv0, _⟩ := row_ok w1 r1 er0
      refine ⟨.inl ⟨rfl, _, .of hv0⟩, hb.bind q1 w1 rs1 fun v2 H2 B2 h2 u2 e2 w2 r2 rs2 q2 => ?_⟩
      split at q2
      · rename_i ds d er
        obtain ⟨f, j, e', hj, hej, hno, q⟩ := q2
        rw [Bool.and_eq_true] at f
        obtain ⟨a2, vs, ea, hv, rr⟩ := row_ok w2 (r1.ext w1 e2) er
        cases ea
        have rd := ru_dat r2
        obtain ⟨z, hz, rz⟩ := rr.at hj
        refine ⟨a, vs, v2, j, z, rfl, rfl, .of hv, flatS_ok f.1 rd, flatS_all f.2 rr, hz, by rw [eqS_ok rz rd]; exact hej, fun m z' hm hz' => ?_, .of (e1.trans e2) w2 (.dat (.int _)) q⟩
        obtain ⟨d', hd', rd'⟩ := rr.at2 hz'
        rw [eqS_ok rd' rd]
        exact hno m d' hm hd'
      · exact q2.elim
    · exact q1.elim)⟩
end
end Wl

/-! enumerate, zip, sorted -/
namespace Wl
open PySem PySem.Spec PyProof.Rows L2 Cb
def mk2 : W → W → W
  | .dat x, .dat y => .dat (.tuple [x, y])
  | a, b => .tup [a, b]
def enumW : Nat → List W → List W
  | _, [] => []
  | i, w :: ws => mk2 (.dat (.int (i : Int))) w :: enumW (i + 1) ws
def zipW : List W → List W → List W
  | a :: as, b :: bs => mk2 a b :: zipW as bs
  | _, _ => []
section
variable {K : PySem.W.Frag} {A B C : Wd} {h h1 h2 : Hw} {H H1 H2 : Hp}
theorem mk2_ok {gs : List Addr} {F : Addr → Prop} {a b : W} {u v : V} {T : Addr} (ra : RV K gs F H a u) (rb : RV K gs F H b v) (q : SqT K H T [u, v]) : RV K gs F H (mk2 a b) (.ref T) := by
  unfold mk2
  split
  · cases ra with
    | dat ra =>
      cases rb with
      | dat rb => exact .dat (.tup q (.cons ra (.cons rb .nil)))
  · exact .tup q (.cons ra (.cons rb .nil))
theorem enumW_at : ∀ {ws : List W} {k i : Nat} {x : W}, (enumW k ws)[i]? = some x → ∃ w, ws[i]? = some w ∧ x = mk2 (.dat (.int ((k + i : Nat) : Int))) w
  | [], k, i, x, e => by simp [enumW] at e
  | w :: ws, k, 0, x, e => by
    have e : some (mk2 (.dat (.int (k : Int))) w) = some x := e
    cases e
    exact ⟨w, rfl, rfl⟩
  | w :: ws, k, i + 1, x, e => by
    obtain ⟨y, h1, h2⟩ := enumW_at (ws := ws) (k := k + 1) (i := i) e
    refine ⟨y, h1, ?_⟩
    rw [h2, show k + 1 + i = k + (i + 1) by omega]
theorem enumW_len : ∀ {ws : List W} {k : Nat}, (enumW k ws).length = ws.length
  | [], _ => rfl
  | w :: ws, k => by rw [enumW, List.length_cons, List.length_cons, enumW_len]
theorem zipW_at : ∀ {as bs : List W} {i : Nat} {x : W}, (zipW as bs)[i]? = some x → ∃ a b, as[i]? = some a ∧ bs[i]? = some b ∧ x = mk2 a b
  | a :: as, b :: bs, 0, x, e => by
    have e : some (mk2 a b) = some x := e
    cases e
    exact ⟨a, b, rfl, rfl, rfl⟩
  | a :: as, b :: bs, i + 1, x, e => zipW_at (as := as) (bs := bs) (i := i) e
  | [], bs, i, x, e => by simp [zipW] at e
  | a :: as, [], i, x, e => by simp [zipW] at e
theorem zipW_len : ∀ {as bs : List W}, (zipW as bs).length = min as.length bs.length
  | a :: as, b :: bs => by rw [zipW, List.length_cons, List.length_cons, List.length_cons, zipW_len]; omega
  | [], bs => by rw [zipW]; simp; intro a; simp [zipW]
  | a :: as, [] => by simp [zipW]
theorem seq_enumT {a : Addr} {ws : List W} {vs : List V} (q : SqT K H a vs) (r : RVs K A.gs A.F H ws vs) : Seq K (IteT K a) A H (enumW 0 ws) := fun i C H2 e g => by
  have q2 := e.sqT q
  have r2 := RVs.mono e g _ _ r
  refine ⟨fun hi => ⟨vs, q2, by rw [r2.len]; rw [enumW_len] at hi; exact hi⟩, fun w hw => ?_⟩
  obtain ⟨w0, hw0, rfl⟩ := enumW_at hw
  obtain ⟨v, hv, rv⟩ := r2.at hw0
  refine ⟨⟨vs, v, q2, hv⟩, fun x H3 ⟨T, x0, e1, hT, e2, y⟩ => ?_⟩
  subst e1 e2
  have z := y vs q2
  rw [hv] at z
  cases z
  refine ⟨same_new hT, ?_⟩
  rw [Nat.zero_add]
  exact mk2_ok (.dat (.int _)) (RV.mono (.new hT) (fun _ _ z => z) _ _ rv) (.of upd_same)
theorem seq_zipT {a b : Addr} {ws ws2 : List W} {vs vs2 : List V} (q : SqT K H a vs) (r : RVs K A.gs A.F H ws vs) (q' : SqT K H b vs2) (r' : RVs K A.gs A.F H ws2 vs2) : Seq K (RZ.ItzT K a b) A H (zipW ws ws2) := fun i C H2 e g => by
  have q2 := e.sqT q
  have q2' := e.sqT q'
  have r2 := RVs.mono e g _ _ r
  have r2' := RVs.mono e g _ _ r'
  refine ⟨fun hi => ⟨vs, vs2, q2, q2', by rw [r2.len, r2'.len]; rw [zipW_len] at hi; omega⟩, fun w hw => ?_⟩
  obtain ⟨w0, w1, hw0, hw1, rfl⟩ := zipW_at hw
  obtain ⟨v, hv, rv⟩ := r2.at hw0
  obtain ⟨v', hv', rv'⟩ := r2'.at hw1
  refine ⟨⟨vs, vs2, v, v', q2, q2', hv, hv'⟩, fun x H3 ⟨T, x0, y0, e1, hT, e2, y, y'⟩ => ?_⟩
  subst e1 e2
  have z := y vs q2
  rw [hv] at z
  cases z
  have z := y' vs2 q2'
  rw [hv'] at z
  cases z
  exact ⟨same_new hT, mk2_ok (RV.mono (.new hT) (fun _ _ z => z) _ _ rv) (RV.mono (.new hT) (fun _ _ z => z) _ _ rv') (.of upd_same)⟩
/-- the items of a tuple -/
def tupW : U → Option (List W)
  | .v (.dat (.tuple ds)) => some (ds.map .dat)
  | .v (.tup ws) => some ws
  | _ => none
theorem tupW_ok {u : U} {v : V} {ws : List W} (r : RU K A H u v) (e : tupW u = some ws) : ∃ a vs, v = .ref a ∧ SqT K H a vs ∧ RVs K A.gs A.F H ws vs := by
  unfold tupW at e
  split at e
  · cases e
    obtain ⟨a, vs, h1, h2, h3⟩ := ru_tup r
    exact ⟨a, vs, h1, h2, h3.rvs⟩
  · cases e
    have r : RV K A.gs A.F H (.tup ws) v := r
    cases r with
    | tup q r => exact ⟨_, _, rfl, q, by assumption⟩
  · cases e
def sEnum (t : TAW) : TIW := fun σ h Q => t σ h fun us h1 => match us with
  | [u] => match tupW u with
    | some ws => Q (enumW 0 ws) h1
    | none => False
  | _ => False
def sZip (t : TAW) : TIW := fun σ h Q => t σ h fun us h1 => match us with
  | [u, v] => match tupW u, tupW v with
    | some ws, some ws2 => Q (zipW ws ws2) h1
    | _, _ => False
  | _ => False
theorem enum_ir {te : TA} {tas : TAW} (he : TAr K te tas) : TIr K (iEnumT K te) (sEnum tas) := fun {σ h Q A H τ R} ht wr rs k => he ht wr rs fun vs H1 B h1 us e1 w1 r1 rs1 q1 => by
  split at q1
  · split at q1
    · rename_i ws et
      obtain ⟨v, rfl, r⟩ := r1.one
      obtain ⟨a, xs, rfl, q, rr⟩ := tupW_ok r et
      exact ⟨a, xs, rfl, q, k _ _ B h1 _ e1 w1 (seq_enumT q rr) q1⟩
    · exact q1.elim
  · exact q1.elim
theorem zip_ir {te : TA} {tas : TAW} (he : TAr K te tas) : TIr K (RZ.iZipA K te) (sZip tas) := fun {σ h Q A H τ R} ht wr rs k => he ht wr rs fun vs H1 B h1 us e1 w1 r1 rs1 q1 => by
  split at q1
  · split at q1
    · rename_i ws ws2 et et2
      obtain ⟨v, v', rfl, r, r'⟩ := r1.two
      obtain ⟨a, xs, rfl, q, rr⟩ := tupW_ok r et
      obtain ⟨b, ys, rfl, q', rr'⟩ := tupW_ok r' et2
      exact ⟨a, b, xs, ys, rfl, .inr ⟨q, q', k _ _ B h1 _ e1 w1 (seq_zipT q rr q' rr') q1⟩⟩
    · exact q1.elim
  · exact q1.elim
end
section
variable {X : Cx} {e e2 : Expr} {elts : List Expr} {kk : Nat} {tas : TAW} {p pos tpos : Pos}
theorem tri_enum (hm : X.mg "enumerate" = none) (ha : TrA X [e] tas) (hg : Gl X "enumerate" := by rfl) (hs : starEach [e] X.env = [(false, eval e X.env)] := by rfl) : TrI X (.Tuple elts kk tpos) (.Call (.Name "enumerate" p) [e] [] pos) (iEnumT X.K (wA X [e])) (sEnum tas) := ⟨pi_enumT hg hm pw_A hs, fun ht wr rs k => enum_ir ha.er ht wr rs k⟩
theorem tri_zip (hm : X.mg "zip" = none) (ha : TrA X [e, e2] tas) (hg : Gl X "zip" := by rfl) (hs : starEach [e, e2] X.env = (false, eval e X.env) :: starEach [e2] X.env := by rfl) (hpl : (backTo pos (starEach [e2] X.env)).any (·.1) = false := by rfl) : TrI X (.Tuple elts kk tpos) (.Call (.Name "zip" p) [e, e2] [] pos) (RZ.iZipA X.K (wA X [e, e2])) (sZip tas) := ⟨RZ.pi_zipA hg hm pw_A hs hpl, fun ht wr rs k => zip_ir ha.er ht wr rs k⟩
end
/-! sorted of alike data -/
section
variable {X : Cx} {pins : List (Addr × Obj)} {σ : L2.St} {H : Hp} {s : Shared}
structure VD2 (F : Addr → Prop) (H : Hp) (X : Cx) (u : Value) (b : V × PyData) : Prop where
  rel : RelV b.1 u
  rd : RD X.K F H b.2 b.1
theorem each_vd2 {F : Addr → Prop} : ∀ {vs : List V} {us : List Value} {ds : List PyData}, Vals vs us → RDs X.K F H ds vs → PySem.W.EachIs (VD2 F H X) us (vs.zip ds)
  | [], us, [], r, .nil => by
    cases r
    exact .nil
  | v :: vs, us, d :: ds, r, .cons q t => by
    cases r with
    | cons r1 r2 => exact .cons ⟨r1, q⟩ (each_vd2 r2 t)
theorem vals_vd2 {F : Addr → Prop} : ∀ {us : List Value} {bs : List (V × PyData)}, PySem.W.EachIs (VD2 F H X) us bs → Vals (bs.map (·.1)) us ∧ RDs X.K F H (bs.map (·.2)) (bs.map (·.1))
  | _, _, .nil => ⟨.nil, .nil⟩
  | _, _, .cons h t => ⟨.cons h.rel (vals_vd2 t).1, .cons h.rd (vals_vd2 t).2⟩
mutual
/-- no list in it: then it reads without an address of a list -/
theorem reads_flat {F : Addr → Prop} (I : Inv X pins σ H s) : ∀ (d : PyData) (v : V) (u : Value), flatD d = true → RD X.K F H d v → RelV v u → Reads s.heap u d []
  | .none, _, _, _, h, r => by cases h; cases r; exact .none
  | .bool b, _, _, _, h, r => by cases h; cases r; exact .bool b
  | .int i, _, _, _, h, r => by
    cases h
    obtain ⟨t, rfl⟩ := r
    exact .int i t
  | .str x, _, _, _, h, r => by
    cases h
    obtain ⟨t, rfl⟩ := r
    exact .str x t
  | .list ds, _, _, f, _, _ => by simp only [flatD] at f; cases f
  | .dict _, _, _, _, h, _ => by cases h
  | .tuple ds, _, _, f, h, r => by
    cases h with
    | tup q t =>
      cases r
      obtain ⟨its, rv, ⟨o, ho, hc, n, hd⟩, _⟩ := I.tuple q
      have z := reads_flats I ds _ its (by simpa only [flatD] using f) t rv
      exact .tuple ho hc hd (by simpa using z)
theorem reads_flats {F : Addr → Prop} (I : Inv X pins σ H s) : ∀ (ds : List PyData) (vs : List V) (us : List Value), flatD.flatDs ds = true → RDs X.K F H ds vs → Vals vs us → ReadsAll s.heap us ds []
  | [], _, _, _, h, r => by cases h; cases r; exact .nil
  | d :: ds, _, _, f, h, r => by
    cases h with
    | cons h1 h2 =>
      cases r with
      | cons r1 r2 =>
        rw [flatD.flatDs, Bool.and_eq_true] at f
        exact ReadsAll.cons (as := []) (bs := []) (reads_flat I d _ _ f.1 h1 r1) (reads_flats I ds _ _ f.2 h2 r2)
end
end
def rSortW (K : PySem.W.Frag) (F : Addr → Prop) : List V → Hp → VK → Prop := fun vs H Q => ∃ (a : Addr) (xs : List V) (ds : List PyData), vs = [.ref a] ∧ (SqL K H a xs ∨ SqT K H a xs) ∧ RDs K F H ds xs ∧ flatD.flatDs ds = true ∧ PySem.W.AllAlike ds ∧ PySem.W.Sortable ds ∧ (∀ d ∈ ds, d.depth ≤ 50) ∧
  ∀ (ys : List V) (p : Addr), RDs K F H (sortD ds) ys → H p = none → Q (.ref p) (upd H p (.lst ys))
theorem flatDs_mem : ∀ {ds : List PyData} {d : PyData}, flatD.flatDs ds = true → d ∈ ds → flatD d = true
  | d :: ds, x, f, m => by
    rw [flatD.flatDs, Bool.and_eq_true] at f
    rcases List.mem_cons.mp m with e | m
    · rw [e]
      exact f.1
    · exact flatDs_mem f.2 m
section
variable {X : Cx}
theorem each_reads {pins : List (Addr × Obj)} {σ : L2.St} {H : Hp} {s : Shared} {F : Addr → Prop} (I : Inv X pins σ H s) : ∀ {vs : List V} {us : List Value} {ds : List PyData}, Vals vs us → RDs X.K F H ds vs → flatD.flatDs ds = true → PySem.W.EachIs (fun v (b : V × PyData) => Reads s.heap v b.2 []) us (vs.zip ds)
  | [], us, [], r, .nil, _ => by
    cases r
    exact .nil
  | v :: vs, us, d :: ds, r, .cons q t, f => by
    rw [flatD.flatDs, Bool.and_eq_true] at f
    cases r with
    | cons r1 r2 => exact .cons (reads_flat I _ _ _ f.1 q r1) (each_reads I r2 t f.2)
theorem cr_sortW {F : Addr → Prop} (hu : X.A.units + 64 < cLine) : CallR X (.builtin "sorted") (rSortW X.K F) := by
  rintro pins s σ H vs us Q I rv ⟨a, xs, ds, rfl, hq, t, hf, hal, hk, hdp, q⟩
  rw [Vals.ref1 rv]
  obtain ⟨its, T, o, n, hT, ho, hc, hd, rv2, hz⟩ : ∃ (its : List Value) (T : String) (o : Obj) (n : Nat), (T = "list" ∨ T = "tuple") ∧ s.heap.get? a = some o ∧ o.cls = .type T ∧ o.data = .seq its.toArray n ∧ Vals xs its ∧ xs.length ≤ sizeLine := by
    rcases hq with hq | hq
    · obtain ⟨its, r, pl, z⟩ := I.list hq
      obtain ⟨o, ho, hc, n, hd⟩ := pl.isList
      exact ⟨its, "list", o, n, .inl rfl, ho, hc, hd, r, z⟩
    · obtain ⟨its, r, ⟨o, ho, hc, n, hd⟩, z⟩ := I.tuple hq
      exact ⟨its, "tuple", o, n, .inr rfl, ho, hc, hd, r, z⟩
  have e := each_vd2 (X := X) rv2 t
  have m2 : (xs.zip ds).map (fun b => b.2) = ds := List.map_snd_zip (by rw [t.len]; exact Nat.le_refl _)
  have er := each_reads I rv2 t hf
  refine sorted_seq (enc := fun b : V × PyData => b.2) hT ho hc hd e er (by rw [m2]; exact hal) (by rw [m2]; exact hk) (by rw [← rv2.length]; exact hz) (fun b hb => ?_) fun h' p out k kp le hp eo => ?_
  · have z : b.2 ∈ ds := by
      rw [← m2]
      exact List.mem_map_of_mem hb
    have := hdp _ z
    omega
  · obtain ⟨r1, t1⟩ := vals_vd2 eo
    have sd : ((xs.zip ds).mergeSort (PySem.W.dataLe false fun b => b.2)).map (·.2) = sortD ds := by
      have z := List.map_mergeSort (r := PySem.W.dataLe false fun b : V × PyData => b.2) (s := PySem.W.dataLe false id) (f := fun b : V × PyData => b.2) (l := xs.zip ds) (fun a _ b _ => rfl)
      rw [m2] at z
      exact z
    have ln : (((xs.zip ds).mergeSort (PySem.W.dataLe false fun b => b.2)).map (·.1)).length = xs.length := by
      rw [List.length_map, (List.mergeSort_perm _ _).length_eq, List.length_zip, t.len, Nat.min_self]
    rw [sd] at t1
    have hn : H p = none := I.hok.fresh le
    exact ⟨.ref p, upd H p (.lst _), I.laid (t' := s.toks) kp le ⟨by rw [ln]; exact hz, out, k, r1, hp⟩, rfl, q _ p t1 hn⟩
/-- sorted(x): x a list or a tuple of data that are alike, no lists in them -/
def kSort : List U → Hw → (List PyData → Hw → Prop) → Prop := fun us h Q => match us with
  | [u] => match rowT h u with
    | some ds => (flatD.flatDs ds = true ∧ PySem.W.AllAlike ds ∧ PySem.W.Sortable ds ∧ ∀ d ∈ ds, d.depth ≤ 50) ∧ Q (sortD ds) h
    | none => False
  | _ => False
theorem cl_sort (hu : X.A.units + 64 < cLine) : CalL X (.builtin "sorted") kSort := fun A h H us vs Q R wr r q k => by
  unfold kSort at q
  split at q
  · split at q
    · rename_i ds er
      obtain ⟨v, rfl, r1⟩ := r.one
      obtain ⟨a, zs, rfl, hq, rr⟩ := rowT_ok wr r1 er
      obtain ⟨⟨h1, h2, h3, h4⟩, q⟩ := q
      exact ⟨_, cr_sortW hu, a, zs, ds, rfl, hq.imp (fun z => .of z) fun z => z, rr, h1, h2, h3, h4, fun ys M t hM => k _ _ ⟨A, h, _, M, ys, rfl, newL_upd .refl wr hM t, q⟩⟩
    · exact q.elim
  · exact q.elim
end
end Wl

/-! centbook.pairs over values -/
namespace Wl
open PySem PySem.Spec PyProof.Rows L2 Cb
def LowOk (u : Int) : Prop := u ≠ 0 ∧ ((0 < u ∧ u.natAbs < 2 ^ 8000) ∨ u.natAbs < 1073741824)
theorem LowOk.div {o u : Int} (h : LowOk u) : CDivA o (lowS o u) := by
  rcases Int.lt_or_lt_of_ne h.1 with q | q
  · have := lowS_neg (o := o) q
    rcases h.2 with z | z
    · omega
    · exact .inr ⟨by omega, by omega⟩
  · have := lowS_pos (o := o) q
    rcases h.2 with z | z
    · refine .inl ⟨this.1, Nat.lt_trans (PySem.Flt.log2_lt_of (by decide) (Nat.lt_of_le_of_lt ?_ z.2)) (by decide)⟩
      omega
    · exact .inr ⟨by omega, by omega⟩
theorem LowOk.num {o u : Int} (h : LowOk u) : o.fdiv (lowS o u) = (Rat.divInt o u).num ∧ u.fdiv (lowS o u) = ((Rat.divInt o u).den : Int) := by
  rcases Int.lt_or_lt_of_ne h.1 with q | q
  · exact low_neg q
  · have l := (lowS_pos (o := o) q).1
    rw [Int.fdiv_eq_ediv_of_nonneg _ (by omega), Int.fdiv_eq_ediv_of_nonneg _ (by omega)]
    exact low_pos q
theorem mulOk {i j : Int} (h : i.natAbs < 2 ^ 2000) (h' : j.natAbs < 2 ^ 2000) : CMulA i j := .inl (wide_mul h h' (by decide) (by decide) (by decide))
theorem two_le {n m : Nat} (h : n ≤ m) : 2 ^ n ≤ 2 ^ m := Nat.pow_le_pow_right (by decide) h
theorem den2_ok {r q : Rat} (h : Bd 2000 r) (h' : Bd 2000 q) : LowOk ((r.den : Int) * (q.den : Int)) := by
  have z : (0 : Int) < (r.den : Int) * (q.den : Int) := Int.mul_pos (den_pos r) (den_pos q)
  exact ⟨Int.ne_of_gt z, .inl ⟨z, Nat.lt_of_lt_of_le (lt_mul (n := 2000) (m := 2000) h.2 h'.2) (two_le (by decide))⟩⟩
theorem divOk {r : Rat} (h : Bd 2000 r) {o : Int} : CDivA o (r.den : Int) := .inl ⟨den_pos r, Nat.lt_trans (PySem.Flt.log2_lt_of (k := 2000) (by decide) h.2) (by decide)⟩
theorem bd_add {r q : Rat} {n m : Nat} (h : Bd n r) (h' : Bd m q) : Bd (n + m + 1) (r + q) := by
  rw [← add_eq]
  refine bd_div (Int.ne_of_gt (Int.mul_pos (den_pos r) (den_pos q))) (lt_add (lt_mul h.1 h'.2) ?_) (Nat.lt_of_lt_of_le (lt_mul h.2 h'.2) (two_le (by omega)))
  rw [Nat.add_comm n m]
  exact lt_mul h'.1 h.2
theorem bd_neg {n : Nat} {r : Rat} (h : Bd n r) : Bd n (-r) := by
  refine ⟨?_, ?_⟩
  · rw [Rat.neg_num, Int.natAbs_neg]
    exact h.1
  · rw [Rat.neg_den]
    exact h.2
theorem bd_zero : Bd 1 (0 : Rat) := ⟨by decide, by decide⟩
def qd (r : Rat) : PyData := .tuple [.int r.num, .int (r.den : Int)]
def sumQ (l : List Rat) : Rat := l.foldl (· + ·) 0
theorem bd_fold : ∀ (l : List Rat) (a : Rat) (n : Nat), Bd n a → (∀ r ∈ l, Bd 60 r) → Bd (n + 61 * l.length) (l.foldl (· + ·) a)
  | [], a, n, h, _ => h
  | r :: l, a, n, h, hl => by
    have := bd_fold l (a + r) (n + 60 + 1) (bd_add h (hl r (List.mem_cons_self ..))) fun q hq => hl q (List.mem_cons_of_mem _ hq)
    rw [List.length_cons]
    exact this.mono (by omega)
theorem bd_sumQ {l : List Rat} (h : ∀ r ∈ l, Bd 60 r) : Bd (1 + 61 * l.length) (sumQ l) := bd_fold l 0 1 bd_zero h
def dn (r : Rat) : Int := r.num.fdiv (r.den : Int)
def upp (r : Rat) : Int := -((-r.num).fdiv (r.den : Int))
/-! ### what the defs promise -/
def c_lowest : CW := fun ws g Q => ∃ o u, ws = [.dat (.int o), .dat (.int u)] ∧ LowOk u ∧ Q (.dat (qd (Rat.divInt o u))) g
def cQ2 (f : Rat → Rat → Rat) : CW := fun ws g Q => ∃ r s, ws = [.dat (qd r), .dat (qd s)] ∧ Bd 2000 r ∧ Bd 2000 s ∧ Q (.dat (qd (f r s))) g
def cQ1 (f : Rat → PyData) : CW := fun ws g Q => ∃ r, ws = [.dat (qd r)] ∧ Bd 2000 r ∧ Q (.dat (f r)) g
abbrev c_pair_sum : CW := cQ2 fun r s => r + s
def c_pair_total : CW := fun ws g Q => ∃ rs : List Rat, ws = [.dat (.list (rs.map qd))] ∧ (∀ r ∈ rs, Bd 60 r) ∧ rs.length ≤ 30 ∧ Q (.dat (qd (sumQ rs))) g
abbrev c_rounded_down : CW := cQ1 fun r => .int (dn r)
abbrev c_rounded_up : CW := cQ1 fun r => .int (upp r)
abbrev N_lowest : List Str := ["over", "under", "shared"]
def t_lowest : TSW := sSet 2 (sCal (g2 kGcd) (sCons (sVar 0) (sCons (sVar 1) (sNil)))) (sIfS (sB (s2 (sVar 1) (sI 0) (gLt))) (sSet 2 (sNeg (sVar 2)) (sEnd)) (sEnd) (sRet (sTup (sCons (s2 (sVar 0) (sVar 2) gDiv) (sCons (s2 (sVar 1) (sVar 2) gDiv) (sNil))))))
theorem me_lowest : ∀ ws g Q, c_lowest ws g Q → t_lowest (endW Q) (startW N_lowest ws) ⟨g, []⟩ := by
  rintro ws g Q ⟨o, u, rfl, hu, q⟩
  have fin : ∀ s : Int, s = lowS o u → sRet (sTup (sCons (s2 (sVar 0) (sVar 2) gDiv) (sCons (s2 (sVar 1) (sVar 2) gDiv) (sNil)))) (endW Q) [some (.v (.dat (.int o))), some (.v (.dat (.int u))), some (.v (.dat (.int s)))] ⟨g, []⟩ := by
    rintro s rfl
    refine ⟨hu.div, hu.div, (by show 2 ≤ 1000; decide), ?_⟩
    show Q (.dat (.tuple [.int (o.fdiv (lowS o u)), .int (u.fdiv (lowS o u))])) g
    rw [hu.num.1, hu.num.2]
    exact q
  show (if decide (u < 0) = true then _ else _)
  by_cases hl : u < 0
  · rw [if_pos (decide_eq_true hl)]
    refine fin _ ?_
    unfold lowS
    rw [if_pos hl]
  · rw [if_neg (by simpa using hl)]
    refine fin _ ?_
    unfold lowS
    rw [if_neg hl]
abbrev N_pair_sum : List Str := ["one", "other"]
def t_pair_sum : TSW := sRet (sCallP c_lowest (sCons (s2 (s2 (s2 (sVar 0) (sI 0) gIx) (s2 (sVar 1) (sI 1) gIx) gMul) (s2 (s2 (sVar 1) (sI 0) gIx) (s2 (sVar 0) (sI 1) gIx) gMul) gAdd) (sCons (s2 (s2 (sVar 0) (sI 1) gIx) (s2 (sVar 1) (sI 1) gIx) gMul) (sNil))))
theorem me_pair_sum : ∀ ws g Q, c_pair_sum ws g Q → t_pair_sum (endW Q) (startW N_pair_sum ws) ⟨g, []⟩ := by
  rintro ws g Q ⟨r, s, rfl, hr, hs, q⟩
  refine ⟨_, rfl, _, rfl, mulOk hr.1 hs.2, _, rfl, _, rfl, mulOk hs.1 hr.2, _, rfl, _, rfl, mulOk hr.2 hs.2, _, rfl, _, _, rfl, den2_ok hr hs, rfl, ?_⟩
  show Q (.dat (qd _)) g
  rw [add_eq]
  exact q
abbrev N_pair_total : List Str := ["pairs", "total", "pair"]
def t_pair_total : TSW := sSet 1 (sTup (sCons (sI 0) (sCons (sI 1) (sNil)))) (sFor (sItems (sVar 0)) (bName 2) (sSet 1 (sCallP c_pair_sum (sCons (sVar 1) (sCons (sVar 2) (sNil)))) (sEnd)) (sRet (sVar 1)))
theorem me_pair_total : ∀ ws g Q, c_pair_total ws g Q → t_pair_total (endW Q) (startW N_pair_total ws) ⟨g, []⟩ := by
  rintro ws g Q ⟨rs, rfl, hr, hl, q⟩
  refine ⟨by decide, ?_⟩
  have go : ∀ (l : List Rat) (a : Rat) (n : Nat) (x : Option U), Bd n a → n + 61 * l.length ≤ 2000 → (∀ r ∈ l, Bd 60 r) → Q (.dat (qd (l.foldl (· + ·) a))) g →
      forR (bName 2) (sSet 1 (sCallP c_pair_sum (sCons (sVar 1) (sCons (sVar 2) (sNil)))) (sEnd)) ((l.map qd).map .dat) { (endW Q) with nx := sRet (sVar 1) (endW Q) } [some (.v (.dat (.list (rs.map qd)))), some (.v (.dat (qd a))), x] ⟨g, []⟩ := by
    intro l
    induction l with
    | nil => exact fun a n x _ _ _ q => q
    | cons r l ih =>
      intro a n x ha hn hl q
      rw [List.length_cons] at hn
      have hr := hl r List.mem_cons_self
      exact ⟨_, rfl, _, rfl, a, r, rfl, ha.mono (by omega), hr.mono (by decide), rfl, ih (a + r) (n + 60 + 1) _ (bd_add ha hr) (by omega) (fun r hr => hl r (List.mem_cons_of_mem _ hr)) q⟩
  exact go rs 0 1 none bd_zero (by omega) hr q
abbrev N_rounded_down : List Str := ["pair"]
def t_rounded_down : TSW := sRet (s2 (s2 (sVar 0) (sI 0) gIx) (s2 (sVar 0) (sI 1) gIx) gDiv)
abbrev N_rounded_up : List Str := ["pair"]
def t_rounded_up : TSW := sRet (sNeg (s2 (sNeg (s2 (sVar 0) (sI 0) gIx)) (s2 (sVar 0) (sI 1) gIx) gDiv))
theorem me_rounded_down : ∀ ws g Q, c_rounded_down ws g Q → t_rounded_down (endW Q) (startW N_rounded_down ws) ⟨g, []⟩ := by
  rintro ws g Q ⟨r, rfl, hr, q⟩
  exact ⟨_, rfl, _, rfl, divOk hr, q⟩
theorem me_rounded_up : ∀ ws g Q, c_rounded_up ws g Q → t_rounded_up (endW Q) (startW N_rounded_up ws) ⟨g, []⟩ := by
  rintro ws g Q ⟨r, rfl, hr, q⟩
  exact ⟨_, rfl, _, rfl, divOk hr, q⟩
end Wl

/-! centbook.sums over values -/
namespace Wl
open PySem PySem.Spec PyProof.Rows L2 Cb
structure Ln where
  nm : Str
  ex : Rat
  ct : Int
  on : Bool
def ld (l : Ln) : PyData := .tuple [.str l.nm, qd l.ex, .int l.ct, .bool l.on]
/-- a sheet -/
structure Sh where
  rows : List Ln
  secs : List (List Str)
  days : List (List Rat)
def strsD (x : List Str) : PyData := .tuple (x.map .str)
def dayD (d : List Rat) : PyData := .tuple (d.map qd)
def shD (s : Sh) : PyData := .tuple [.tuple (s.rows.map ld), .tuple (s.secs.map strsD), .tuple (s.days.map dayD)]
def rowI (r : List Int) : PyData := .tuple (r.map .int)
def bkD (b : List (List Int)) : PyData := .tuple (b.map rowI)
def names (s : Sh) : List Str := s.rows.map (·.nm)
/-- within bounds: at most six lines, four days; names are told once; each section names lines; each day has a charge a line -/
structure ShOk (s : Sh) : Prop where
  n : s.rows.length ≤ 6
  m : s.days.length ≤ 4
  nd : (names s).Nodup
  sec : ∀ x ∈ s.secs, ∀ y ∈ x, y ∈ names s
  secl : ∀ x ∈ s.secs, x.length ≤ 6
  sn : s.secs.length ≤ 20
  day : ∀ d ∈ s.days, d.length = s.rows.length ∧ ∀ q ∈ d, Bd 60 q
  ex : ∀ l ∈ s.rows, Bd 60 l.ex
/-- a sum -/
inductive Wh where
  | acc (d : Nat) | day (d : Nat) | entry (d i : Nat) | line (i d : Nat) | sec (s d : Nat)
def whD : Wh → PyData
  | .acc d => .tuple [.str "account", .int d]
  | .day d => .tuple [.str "day", .int d]
  | .entry d i => .tuple [.str "entry", .int d, .int i]
  | .line i d => .tuple [.str "line", .int i, .int d]
  | .sec s d => .tuple [.str "section", .int s, .int d]
def WhOk (s : Sh) : Wh → Prop
  | .acc d => d < s.days.length
  | .day d => d < s.days.length
  | .entry d i => d < s.days.length ∧ i < s.rows.length
  | .line i d => i < s.rows.length ∧ d < s.days.length
  | .sec k d => k < s.secs.length ∧ d < s.days.length
def daysOf : Wh → List Nat
  | .acc d => List.range (d + 1)
  | .day d => [d]
  | .entry d _ => [d]
  | .line _ d => List.range (d + 1)
  | .sec _ d => [d]
def linesOf (s : Sh) : Wh → List Nat
  | .acc _ => List.range s.rows.length
  | .day _ => List.range s.rows.length
  | .entry _ i => [i]
  | .line i _ => [i]
  | .sec k _ => (s.secs.getD k []).map fun x => (names s).idxOf x
def entsOf (s : Sh) (k : Wh) : List (Nat × Nat) := (daysOf k).flatMap fun d => (linesOf s k).map fun i => (d, i)
def stOf (s : Sh) : Wh → List Ln
  | .acc _ => s.rows
  | .line i _ => (s.rows.drop i).take 1
  | _ => []
def chg (s : Sh) (d i : Nat) : Rat := (s.days.getD d []).getD i 0
def exactOf (s : Sh) (k : Wh) : Rat := sumQ ((stOf s k).map (·.ex) ++ (entsOf s k).map fun e => chg s e.1 e.2)
def fixedOf (s : Sh) (k : Wh) : Int := ((stOf s k).map (·.ct)).sum
def centsOf (s : Sh) (b : List (List Int)) (k : Wh) : Int := fixedOf s k + ((entsOf s k).map fun e => (b.getD e.1 []).getD e.2 0).sum
def entD (e : Nat × Nat) : PyData := .tuple [.int e.1, .int e.2]
def natD (n : Nat) : PyData := .int n
def c_days_in : CW := fun ws g Q => ∃ k : Wh, ws = [.dat (whD k)] ∧ (∀ d ∈ daysOf k, d < 1000) ∧ Q (.dat (.list ((daysOf k).map natD))) g
def cSW (f : Sh → Wh → PyData) : CW := fun ws g Q => ∃ (s : Sh) (k : Wh), ws = [.dat (shD s), .dat (whD k)] ∧ ShOk s ∧ WhOk s k ∧ Q (.dat (f s k)) g
abbrev c_lines_in : CW := cSW fun s k => .list ((linesOf s k).map natD)
abbrev c_lines_with_state_in : CW := cSW fun s k => .list ((stOf s k).map ld)
abbrev c_entries_of : CW := cSW fun s k => .tuple ((entsOf s k).map entD)
abbrev c_exact_of : CW := cSW fun s k => qd (exactOf s k)
abbrev c_least_of : CW := cSW fun s k => .int (dn (exactOf s k))
abbrev c_most_of : CW := cSW fun s k => .int (upp (exactOf s k))
abbrev c_fixed_of : CW := cSW fun s k => .int (fixedOf s k)
def BkOk (s : Sh) (b : List (List Int)) : Prop := b.length = s.days.length ∧ ∀ r ∈ b, r.length = s.rows.length
def c_cents_of : CW := fun ws g Q => ∃ (s : Sh) (b : List (List Int)) (k : Wh), ws = [.dat (shD s), .dat (bkD b), .dat (whD k)] ∧ ShOk s ∧ WhOk s k ∧ BkOk s b ∧ Q (.dat (.int (centsOf s b k))) g
/-! ### comprehensions that only reckon -/
/-- each item gives f of it -/
theorem comp_map {α : Type} {enc f : α → PyData} {b : BW} {te : TW} {σ : Sw} {h : Hw} {Q : List PyData → Hw → Prop} (sb : α → Sw) : ∀ (as : List α) (acc : List PyData), (∀ a ∈ as, b (.dat (enc a)) σ = some (sb a)) → (∀ a ∈ as, ∀ Q', Q' (.v (.dat (f a))) h → te (sb a) h Q') → Q (acc ++ as.map f) h → compR b sYes te ((as.map enc).map .dat) acc σ h Q
  | [], acc, _, _, q => by
    rw [List.map_nil, List.append_nil] at q
    exact q
  | a :: as, acc, hb, he, q => ⟨sb a, hb a List.mem_cons_self, he a List.mem_cons_self _ (comp_map sb as (acc ++ [f a]) (fun x m => hb x (List.mem_cons_of_mem _ m)) (fun x m => he x (List.mem_cons_of_mem _ m)) (by rw [List.append_assoc]; exact q))⟩
theorem comp_filter {α : Type} {enc f : α → PyData} {p : α → Bool} {b : BW} {tt : TTW} {te : TW} {σ : Sw} {h : Hw} {Q : List PyData → Hw → Prop} (sb : α → Sw) : ∀ (as : List α) (acc : List PyData), (∀ a ∈ as, b (.dat (enc a)) σ = some (sb a)) → (∀ a ∈ as, ∀ Q', Q' (p a) h → tt (sb a) h Q') → (∀ a ∈ as, p a = true → ∀ Q', Q' (.v (.dat (f a))) h → te (sb a) h Q') → Q (acc ++ (as.filter p).map f) h → compR b tt te ((as.map enc).map .dat) acc σ h Q
  | [], acc, _, _, _, q => by
    rw [List.filter_nil, List.map_nil, List.append_nil] at q
    exact q
  | a :: as, acc, hb, ht, he, q => by
    refine ⟨sb a, hb a List.mem_cons_self, ht a List.mem_cons_self _ ?_⟩
    have ih := fun acc q => comp_filter (Q := Q) sb as acc (fun x m => hb x (List.mem_cons_of_mem _ m)) (fun x m => ht x (List.mem_cons_of_mem _ m)) (fun x m => he x (List.mem_cons_of_mem _ m)) q
    by_cases hp : p a = true
    · rw [if_pos hp]
      rw [List.filter_cons_of_pos hp] at q
      exact he a List.mem_cons_self hp _ (ih (acc ++ [f a]) (by rw [List.append_assoc]; exact q))
    · rw [if_neg hp]
      rw [List.filter_cons_of_neg hp] at q
      exact ih acc q
theorem len_mm {α : Type} {as : List α} {enc : α → PyData} {n : Nat} (h : as.length ≤ n) : ((as.map enc).map W.dat).length ≤ n := by rw [List.length_map, List.length_map]; exact h
/-- two fors that only reckon -/
theorem comp2_map {α β : Type} {enc : α → PyData} {enc1 : β → PyData} {f : α → β → PyData} {b b1 : BW} {ti1 : TIW} {te : TW} {vs1 : List Nat} {σ : Sw} {h : Hw} {Q : List PyData → Hw → Prop} (bs : α → List β) (sb : α → Sw) (sb1 : α → β → Sw) : ∀ (as : List α) (acc : List PyData), (∀ a ∈ as, b (.dat (enc a)) σ = some (sb a)) → (∀ a ∈ as, ∀ Q', Q' (((bs a).map enc1).map .dat) h → ti1 (sb a) h Q') → (∀ a ∈ as, (bs a).length ≤ 1000) →
    (∀ a ∈ as, ∀ x ∈ bs a, b1 (.dat (enc1 x)) (wipeW (sb a) vs1) = some (sb1 a x)) → (∀ a ∈ as, ∀ x ∈ bs a, ∀ Q', Q' (.v (.dat (f a x))) h → te (sb1 a x) h Q') → Q (acc ++ as.flatMap fun a => (bs a).map (f a)) h → sLc2.compR2 b sYes ti1 b1 sYes te vs1 ((as.map enc).map .dat) acc σ h Q
  | [], acc, _, _, _, _, _, q => by
    rw [List.flatMap_nil, List.append_nil] at q
    exact q
  | a :: as, acc, hb, hi, hl, hb1, he, q => by
    refine ⟨sb a, hb a List.mem_cons_self, hi a List.mem_cons_self _ ⟨len_mm (hl a List.mem_cons_self), comp_map (f := f a) (sb1 a) (bs a) acc (hb1 a List.mem_cons_self) (he a List.mem_cons_self) ?_⟩⟩
    exact comp2_map bs sb sb1 as _ (fun x m => hb x (List.mem_cons_of_mem _ m)) (fun x m => hi x (List.mem_cons_of_mem _ m)) (fun x m => hl x (List.mem_cons_of_mem _ m)) (fun x m => hb1 x (List.mem_cons_of_mem _ m)) (fun x m => he x (List.mem_cons_of_mem _ m)) (by
      rw [List.append_assoc]
      rw [List.flatMap_cons] at q
      exact q)
abbrev N_days_in : List Str := ["which", "word"]
def t_days_in : TSW := sSet 1 (s2 (sVar 0) (sI 0) gIx) (sIfS (sB (s2 (sVar 1) (sStr "account") (gEq id))) (sRet (sFrz (sLrg1 (s2 (s2 (sVar 0) (sI 1) gIx) (sI 1) gAdd)))) (sEnd) (sIfS (sB (s2 (sVar 1) (sStr "line") (gEq id))) (sRet (sFrz (sLrg1 (s2 (s2 (sVar 0) (sI 2) gIx) (sI 1) gAdd)))) (sEnd) (sRet (sFrz (sLst (sCons (sIf (sB (s2 (sVar 1) (sStr "section") (gEq id))) (s2 (sVar 0) (sI 2) gIx) (s2 (sVar 0) (sI 1) gIx)) (sNil)))))))
theorem l1 : 1 ≤ 1000 := by decide
theorem l2 : 2 ≤ 1000 := by decide
theorem l3 : 3 ≤ 1000 := by decide
theorem l4 : 4 ≤ 1000 := by decide
theorem rgD_nat (n : Nat) : rgD 0 (n : Int) = (List.range n).map natD := by
  unfold rgD
  rw [show ((n : Int) - 0).toNat = n by omega]
  exact List.map_congr_left fun i _ => by
    unfold natD
    rw [Int.zero_add]
theorem rgOk_nat {n : Nat} (h : n ≤ 1000) : RgOk 0 (n : Int) := .of_le (by omega) (by omega) (by omega) (by omega)
theorem cast_succ (n : Nat) : (n : Int) + 1 = ((n + 1 : Nat) : Int) := by omega
theorem me_days_in : ∀ ws g Q, c_days_in ws g Q → t_days_in (endW Q) (startW N_days_in ws) ⟨g, []⟩ := by
  rintro ws g Q ⟨k, rfl, hd, q⟩
  cases k with
  | acc d =>
    refine ⟨_, rfl, ⟨rfl, by decide⟩, _, rfl, ?_⟩
    show RgOk 0 ((d : Int) + 1) ∧ Q (.dat (.list (rgD 0 ((d : Int) + 1)))) g
    rw [cast_succ, rgD_nat]
    exact ⟨rgOk_nat (hd d (List.mem_range.mpr (Nat.lt_succ_self d))), q⟩
  | day d => exact ⟨_, rfl, ⟨rfl, by decide⟩, ⟨rfl, by decide⟩, ⟨rfl, by decide⟩, _, rfl, l1, q⟩
  | entry d i => exact ⟨_, rfl, ⟨rfl, by decide⟩, ⟨rfl, by decide⟩, ⟨rfl, by decide⟩, _, rfl, l1, q⟩
  | line i d =>
    refine ⟨_, rfl, ⟨rfl, by decide⟩, ⟨rfl, by decide⟩, _, rfl, ?_⟩
    show RgOk 0 ((d : Int) + 1) ∧ Q (.dat (.list (rgD 0 ((d : Int) + 1)))) g
    rw [cast_succ, rgD_nat]
    exact ⟨rgOk_nat (hd d (List.mem_range.mpr (Nat.lt_succ_self d))), q⟩
  | sec s d => exact ⟨_, rfl, ⟨rfl, by decide⟩, ⟨rfl, by decide⟩, ⟨rfl, by decide⟩, _, rfl, l1, q⟩
abbrev N_lines_in : List Str := ["sheet", "which", "state", "sections", "_", "word", "names", "line", "name"]
def t_lines_in : TSW := sUnp (sVar 0) (bTup [2, 3, 4]) (sSet 5 (s2 (sVar 1) (sI 0) gIx) (sIfS (sB (s2 (sVar 5) (sStr "entry") (gEq id))) (sRet (sFrz (sLst (sCons (s2 (sVar 1) (sI 2) gIx) (sNil))))) (sEnd) (sIfS (sB (s2 (sVar 5) (sStr "line") (gEq id))) (sRet (sFrz (sLst (sCons (s2 (sVar 1) (sI 1) gIx) (sNil))))) (sEnd) (sIfS (sB (s2 (sVar 5) (sStr "section") (gEq id))) (sSet 6 (sFrz (sLc (sItems (sVar 2)) (bName 7) sYes (s2 (sVar 7) (sI 0) gIx) [7])) (sRet (sFrz (sLc (sItems (s2 (sVar 3) (s2 (sVar 1) (sI 1) gIx) gIx)) (bName 8) sYes (sIndex (sVar 6) (sVar 8)) [8])))) (sEnd) (sRet (sFrz (sLrg1 (sCal (g1 kLen) (sCons (sVar 2) (sNil))))))))))
theorem flat_strs : ∀ xs : List Str, (xs.map PyData.str).all flatS = true
  | [] => rfl
  | x :: xs => by rw [List.map_cons, List.all_cons, flat_strs xs]; rfl
theorem eqS_str {x y : Str} : eqS (.str x) (.str y) = (x == y) := rfl
theorem idx_lt {x : Str} : ∀ {ns : List Str}, x ∈ ns → ns.idxOf x < ns.length := fun h => List.idxOf_lt_length_of_mem h
theorem me_lines_in : ∀ ws g Q, c_lines_in ws g Q → t_lines_in (endW Q) (startW N_lines_in ws) ⟨g, []⟩ := by
  rintro ws g Q ⟨s, k, rfl, hs, hk, q⟩
  refine ⟨_, rfl, ?_⟩
  cases k with
  | acc d =>
    refine ⟨_, rfl, ⟨rfl, by decide⟩, ⟨rfl, by decide⟩, ⟨rfl, by decide⟩, ?_⟩
    show RgOk 0 (((s.rows.map ld).length : Nat) : Int) ∧ Q (.dat (.list (rgD 0 (((s.rows.map ld).length : Nat) : Int)))) g
    rw [rgD_nat, List.length_map]
    exact ⟨rgOk_nat (by have := hs.n; omega), q⟩
  | day d =>
    refine ⟨_, rfl, ⟨rfl, by decide⟩, ⟨rfl, by decide⟩, ⟨rfl, by decide⟩, ?_⟩
    show RgOk 0 (((s.rows.map ld).length : Nat) : Int) ∧ Q (.dat (.list (rgD 0 (((s.rows.map ld).length : Nat) : Int)))) g
    rw [rgD_nat, List.length_map]
    exact ⟨rgOk_nat (by have := hs.n; omega), q⟩
  | entry d i => exact ⟨_, rfl, ⟨rfl, by decide⟩, _, rfl, l1, q⟩
  | line i d => exact ⟨_, rfl, ⟨rfl, by decide⟩, ⟨rfl, by decide⟩, _, rfl, l1, q⟩
  | sec k d =>
    refine ⟨_, rfl, ⟨rfl, by decide⟩, ⟨rfl, by decide⟩, ⟨rfl, by decide⟩, ?_⟩
    refine ⟨len_mm (by have := hs.n; omega), ?_⟩
    refine comp_map (enc := ld) (f := fun (l : Ln) => .str l.nm) (fun l => _) s.rows [] (fun l _ => rfl) (fun l _ Q' q' => ⟨_, rfl, q'⟩) ?_
    have hk1 : k < s.secs.length := hk.1
    have em : (s.secs.map strsD)[k]? = some (strsD (s.secs.getD k [])) := by
      rw [List.getElem?_map, List.getElem?_eq_getElem hk1, List.getD_eq_getElem?_getD, List.getElem?_eq_getElem hk1]
      rfl
    have mm : s.secs.getD k [] ∈ s.secs := by
      rw [List.getD_eq_getElem?_getD, List.getElem?_eq_getElem hk1]
      exact List.getElem_mem hk1
    refine ⟨_, rfl, strsD (s.secs.getD k []), atI_nat em, len_mm (by have := hs.secl _ mm; omega), ?_⟩
    refine comp_map (enc := .str) (f := fun x => natD ((names s).idxOf x)) (fun x => _) (s.secs.getD k []) [] (fun x _ => rfl) (fun x hx Q' q' => ?_) ?_
    · have hn : s.rows.map (fun (l : Ln) => PyData.str l.nm) = (names s).map .str := by
        unfold names
        rw [List.map_map]
        rfl
      have hx' := hs.sec _ mm x hx
      have il := idx_lt hx'
      show (flatS (.str x) && (([] ++ s.rows.map fun (l : Ln) => PyData.str l.nm)).all flatS) = true ∧ _
      rw [List.nil_append, hn]
      refine ⟨by rw [flat_strs]; rfl, (names s).idxOf x, .str x, ?_, ?_, fun m e' hm he => ?_, q'⟩
      · rw [List.getElem?_map, List.getElem?_eq_getElem il, List.getElem_idxOf il]
        rfl
      · rw [eqS_str]
        exact beq_self_eq_true x
      · rw [List.getElem?_map, List.getElem?_eq_getElem (Nat.lt_trans hm il)] at he
        cases he
        rw [eqS_str]
        have z := List.not_of_lt_findIdx (xs := names s) (p := fun y => y == x) (i := m) hm
        simpa using z
    · show Q (.dat (.list ([] ++ (s.secs.getD k []).map fun x => natD ((names s).idxOf x)))) g
      rw [List.nil_append]
      have e : (s.secs.getD k []).map (fun x => natD ((names s).idxOf x)) = (linesOf s (.sec k d)).map natD := by
        show _ = ((s.secs.getD k []).map fun x => (names s).idxOf x).map natD
        rw [List.map_map]
        rfl
      rw [e]
      exact q
end Wl

/-! centbook.sums over values: the rest -/
namespace Wl
open PySem PySem.Spec PyProof.Rows L2 Cb
def pairE (e : Ln × Nat) : PyData := .tuple [.int (e.2 : Int), ld e.1]
theorem enumW_eq : ∀ (rows : List Ln) (k : Nat), enumW k ((rows.map ld).map .dat) = ((rows.zipIdx k).map pairE).map .dat
  | [], _ => rfl
  | l :: rows, k => by
    rw [List.map_cons, List.map_cons, enumW, enumW_eq rows (k + 1), List.zipIdx_cons, List.map_cons, List.map_cons]
    rfl
theorem pick_line : ∀ (rows : List Ln) (k i : Nat), ((rows.zipIdx k).filter fun e => decide (e.2 = k + i)).map (fun e => ld e.1) = ((rows.drop i).take 1).map ld
  | [], k, i => by simp
  | l :: rows, k, 0 => by
    rw [List.zipIdx_cons, List.filter_cons_of_pos (by simp), List.map_cons, List.drop_zero, List.take_one]
    have : (rows.zipIdx (k + 1)).filter (fun e => decide (e.2 = k + 0)) = [] := List.filter_eq_nil_iff.mpr fun e he => by
      have := List.le_snd_of_mem_zipIdx he
      simp
      omega
    rw [this]
    rfl
  | l :: rows, k, i + 1 => by
    rw [List.zipIdx_cons, List.filter_cons_of_neg (by simp), List.drop_succ_cons, ← pick_line rows (k + 1) i]
    congr 2
    funext e
    rw [show k + (i + 1) = k + 1 + i by omega]
theorem zip_all : ∀ (rows : List Ln) (k : Nat), (rows.zipIdx k).map (fun e => ld e.1) = rows.map ld
  | [], _ => rfl
  | l :: rows, k => by rw [List.zipIdx_cons, List.map_cons, zip_all rows (k + 1), List.map_cons]
abbrev N_lines_with_state_in : List Str := ["sheet", "which", "word", "i", "line"]
def t_lines_with_state_in : TSW := sSet 2 (s2 (sVar 1) (sI 0) gIx) (sRet (sFrz (sLc (sEnum (sCons (s2 (sVar 0) (sI 0) gIx) (sNil))) (bTup [3, 4]) (sOr (sB (s2 (sVar 2) (sStr "account") (gEq id))) (sAnd (sB (s2 (sVar 2) (sStr "line") (gEq id))) (sB (s2 (sVar 3) (s2 (sVar 1) (sI 1) gIx) (gEq id))))) (sVar 4) [3, 4])))
theorem me_lines_with_state_in : ∀ ws g Q, c_lines_with_state_in ws g Q → t_lines_with_state_in (endW Q) (startW N_lines_with_state_in ws) ⟨g, []⟩ := by
  rintro ws g Q ⟨s, k, rfl, hs, hk, q⟩
  have hl : (enumW 0 ((s.rows.map ld).map .dat)).length ≤ 100000 := by
    rw [enumW_len]
    exact len_mm (by have := hs.n; omega)
  cases k with
  | acc d =>
    refine ⟨_, rfl, _, rfl, hl, ?_⟩
    rw [enumW_eq]
    refine comp_filter (enc := pairE) (f := fun e => ld e.1) (p := fun _ => true) (fun e => _) (s.rows.zipIdx 0) [] (fun e _ => rfl) (fun e _ Q' q' => ⟨⟨rfl, by decide⟩, q'⟩) (fun e _ _ Q' q' => q') ?_
    rw [List.filter_eq_self.mpr (fun _ _ => rfl), zip_all]
    exact q
  | day d =>
    refine ⟨_, rfl, _, rfl, hl, ?_⟩
    rw [enumW_eq]
    refine comp_filter (enc := pairE) (f := fun e => ld e.1) (p := fun _ => false) (fun e => _) (s.rows.zipIdx 0) [] (fun e _ => rfl) (fun e _ Q' q' => ⟨⟨rfl, by decide⟩, ⟨rfl, by decide⟩, q'⟩) (fun e _ _ Q' q' => q') ?_
    rw [List.filter_eq_nil_iff.mpr (fun _ _ => by simp)]
    exact q
  | entry d i =>
    refine ⟨_, rfl, _, rfl, hl, ?_⟩
    rw [enumW_eq]
    refine comp_filter (enc := pairE) (f := fun e => ld e.1) (p := fun _ => false) (fun e => _) (s.rows.zipIdx 0) [] (fun e _ => rfl) (fun e _ Q' q' => ⟨⟨rfl, by decide⟩, ⟨rfl, by decide⟩, q'⟩) (fun e _ _ Q' q' => q') ?_
    rw [List.filter_eq_nil_iff.mpr (fun _ _ => by simp)]
    exact q
  | sec k d =>
    refine ⟨_, rfl, _, rfl, hl, ?_⟩
    rw [enumW_eq]
    refine comp_filter (enc := pairE) (f := fun e => ld e.1) (p := fun _ => false) (fun e => _) (s.rows.zipIdx 0) [] (fun e _ => rfl) (fun e _ Q' q' => ⟨⟨rfl, by decide⟩, ⟨rfl, by decide⟩, q'⟩) (fun e _ _ Q' q' => q') ?_
    rw [List.filter_eq_nil_iff.mpr (fun _ _ => by simp)]
    exact q
  | line i d =>
    refine ⟨_, rfl, _, rfl, hl, ?_⟩
    rw [enumW_eq]
    refine comp_filter (enc := pairE) (f := fun e => ld e.1) (p := fun e => ((e.2 : Int) == (i : Int))) (fun e => _) (s.rows.zipIdx 0) [] (fun e _ => rfl) (fun e _ Q' q' => ⟨⟨rfl, by decide⟩, ⟨rfl, by decide⟩, _, rfl, ⟨rfl, by show 0 ≤ 60; decide⟩, q'⟩) (fun e _ _ Q' q' => q') ?_
    have z : (s.rows.zipIdx 0).filter (fun e => ((e.2 : Int) == (i : Int))) = (s.rows.zipIdx 0).filter fun e => decide (e.2 = 0 + i) := by
      congr 1
      funext e
      rw [Nat.zero_add, Bool.eq_iff_iff]
      simp
      omega
    rw [z, pick_line]
    exact q
abbrev N_entries_of : List Str := ["sheet", "which", "lines", "d", "i"]
def t_entries_of : TSW := sSet 2 (sCallP c_lines_in (sCons (sVar 0) (sCons (sVar 1) (sNil)))) (sRet (sCal (g1 kTup) (sCons (sFrz (sLc2 (sItems (sCallP c_days_in (sCons (sVar 1) (sNil)))) (bName 3) sYes (sItems (sVar 2)) (bName 4) sYes (sTup (sCons (sVar 3) (sCons (sVar 4) (sNil)))) [3, 4] [4])) (sNil))))
theorem daysOf_lt {s : Sh} {k : Wh} (hs : ShOk s) (hk : WhOk s k) : ∀ d ∈ daysOf k, d < s.days.length := by
  cases k with
  | acc d => exact fun x hx => by have := List.mem_range.mp hx; have : d < s.days.length := hk; omega
  | day d => exact fun x hx => by rw [List.mem_singleton.mp hx]; exact hk
  | entry d i => exact fun x hx => by rw [List.mem_singleton.mp hx]; exact hk.1
  | line i d => exact fun x hx => by have := List.mem_range.mp hx; have : d < s.days.length := hk.2; omega
  | sec k d => exact fun x hx => by rw [List.mem_singleton.mp hx]; exact hk.2
theorem linesOf_lt {s : Sh} {k : Wh} (hs : ShOk s) (hk : WhOk s k) : ∀ i ∈ linesOf s k, i < s.rows.length := by
  cases k with
  | acc d => exact fun x hx => List.mem_range.mp hx
  | day d => exact fun x hx => List.mem_range.mp hx
  | entry d i => exact fun x hx => by rw [List.mem_singleton.mp hx]; exact hk.2
  | line i d => exact fun x hx => by rw [List.mem_singleton.mp hx]; exact hk.1
  | sec k d =>
    intro x hx
    obtain ⟨y, hy, rfl⟩ := List.mem_map.mp hx
    have hk1 : k < s.secs.length := hk.1
    rw [List.getD_eq_getElem?_getD, List.getElem?_eq_getElem hk1] at hy
    have := idx_lt (hs.sec _ (List.getElem_mem hk1) y hy)
    unfold names at this
    rw [List.length_map] at this
    exact this
theorem linesOf_len {s : Sh} {k : Wh} (hs : ShOk s) (hk : WhOk s k) : (linesOf s k).length ≤ 6 := by
  have := hs.n
  cases k with
  | acc d => show (List.range _).length ≤ 6; rw [List.length_range]; exact this
  | day d => show (List.range _).length ≤ 6; rw [List.length_range]; exact this
  | entry d i => show 1 ≤ 6; decide
  | line i d => show 1 ≤ 6; decide
  | sec k d =>
    show (List.map _ _).length ≤ 6
    rw [List.length_map]
    have hk1 : k < s.secs.length := hk.1
    rw [List.getD_eq_getElem?_getD, List.getElem?_eq_getElem hk1]
    exact hs.secl _ (List.getElem_mem hk1)
theorem daysOf_len {s : Sh} {k : Wh} (hs : ShOk s) (hk : WhOk s k) : (daysOf k).length ≤ 4 := by
  have := hs.m
  cases k with
  | acc d => show (List.range _).length ≤ 4; rw [List.length_range]; have : d < s.days.length := hk; omega
  | day d => show 1 ≤ 4; decide
  | entry d i => show 1 ≤ 4; decide
  | line i d => show (List.range _).length ≤ 4; rw [List.length_range]; have : d < s.days.length := hk.2; omega
  | sec k d => show 1 ≤ 4; decide
theorem ents_mem {s : Sh} {k : Wh} (hs : ShOk s) (hk : WhOk s k) {e : Nat × Nat} (h : e ∈ entsOf s k) : e.1 < s.days.length ∧ e.2 < s.rows.length := by
  obtain ⟨d, hd, h⟩ := List.mem_flatMap.mp h
  obtain ⟨i, hi, rfl⟩ := List.mem_map.mp h
  exact ⟨daysOf_lt hs hk d hd, linesOf_lt hs hk i hi⟩
theorem noRef_dat {d : PyData} : noRef (.dat d) = true := rfl
theorem me_entries_of : ∀ ws g Q, c_entries_of ws g Q → t_entries_of (endW Q) (startW N_entries_of ws) ⟨g, []⟩ := by
  rintro ws g Q ⟨s, k, rfl, hs, hk, q⟩
  refine ⟨_, rfl, s, k, rfl, hs, hk, rfl, ?_⟩
  refine ⟨_, rfl, k, rfl, fun d hd => by have := daysOf_lt hs hk d hd; have := hs.m; omega, rfl, ?_⟩
  refine ⟨len_mm (by have := daysOf_len hs hk; omega), ?_⟩
  refine comp2_map (enc := natD) (enc1 := natD) (f := fun d i => entD (d, i)) (fun _ => linesOf s k) (fun d => _) (fun d i => _) (daysOf k) [] (fun d _ => rfl) (fun d _ Q' q' => q') (fun d _ => by have := linesOf_len hs hk; omega) (fun d _ i _ => rfl) (fun d _ i _ Q' q' => ⟨l2, q'⟩) ?_
  show Q (.dat (.tuple ([] ++ (daysOf k).flatMap fun d => (linesOf s k).map fun i => entD (d, i)))) g
  have e : ((daysOf k).flatMap fun d => (linesOf s k).map fun i => entD (d, i)) = (entsOf s k).map entD := by
    unfold entsOf
    rw [List.map_flatMap]
    congr 1
    funext d
    rw [List.map_map]
    rfl
  rw [List.nil_append, e]
  exact q
abbrev N_exact_of : List Str := ["sheet", "which", "days", "before", "line", "d", "i"]
def t_exact_of : TSW := sSet 2 (s2 (sVar 0) (sI 2) gIx) (sSetLF 3 (sLc (sItems (sCallP c_lines_with_state_in (sCons (sVar 0) (sCons (sVar 1) (sNil))))) (bName 4) sYes (s2 (sVar 4) (sI 1) gIx) [4]) (sRet (sCallP c_pair_total (sCons (sFrz (sCat (sVar 3) (sFrz (sLc (sItems (sCallP c_entries_of (sCons (sVar 0) (sCons (sVar 1) (sNil))))) (bTup [5, 6]) sYes (s2 (s2 (sVar 2) (sVar 5) gIx) (sVar 6) gIx) [5, 6])))) (sNil)))))
theorem at_map {α β : Type} {f : α → β} {l : List α} {i : Nat} (d : α) (h : i < l.length) : (l.map f)[i]? = some (f (l.getD i d)) := by
  rw [List.getElem?_map, List.getElem?_eq_getElem h, List.getD_eq_getElem?_getD, List.getElem?_eq_getElem h]
  rfl
theorem getD_mem {α : Type} {l : List α} {i : Nat} {d : α} (h : i < l.length) : l.getD i d ∈ l := by
  rw [List.getD_eq_getElem?_getD, List.getElem?_eq_getElem h]
  exact List.getElem_mem h
theorem ents_len {s : Sh} {k : Wh} (hs : ShOk s) (hk : WhOk s k) : (entsOf s k).length ≤ 24 := by
  unfold entsOf
  rw [List.length_flatMap]
  simp only [List.length_map]
  have h1 := linesOf_len hs hk
  have h2 := daysOf_len hs hk
  rw [List.map_const', List.sum_replicate_nat]
  exact Nat.mul_le_mul h2 h1
theorem stOf_sub {s : Sh} {k : Wh} : ∀ l ∈ stOf s k, l ∈ s.rows := by
  cases k with
  | acc d => exact fun l h => h
  | line i d => exact fun l h => List.mem_of_mem_drop (List.mem_of_mem_take h)
  | _ => exact fun l h => by cases h
theorem stOf_len {s : Sh} {k : Wh} (hs : ShOk s) : (stOf s k).length ≤ 6 := by
  have := hs.n
  cases k with
  | acc d => exact this
  | line i d => show ((s.rows.drop i).take 1).length ≤ 6; rw [List.length_take]; omega
  | _ => exact Nat.zero_le _
theorem me_exact_of : ∀ ws g Q, c_exact_of ws g Q → t_exact_of (endW Q) (startW N_exact_of ws) ⟨g, []⟩ := by
  rintro ws g Q ⟨s, k, rfl, hs, hk, q⟩
  refine ⟨_, rfl, _, rfl, s, k, rfl, hs, hk, rfl, len_mm (by have := stOf_len (k := k) hs; omega), ?_⟩
  refine comp_map (enc := ld) (f := fun (l : Ln) => qd l.ex) (fun l => _) (stOf s k) [] (fun l _ => rfl) (fun l _ Q' q' => ⟨_, rfl, q'⟩) ?_
  refine ⟨_, rfl, s, k, rfl, hs, hk, rfl, len_mm (by have := ents_len hs hk; omega), ?_⟩
  refine comp_map (enc := entD) (f := fun e => qd (chg s e.1 e.2)) (fun e => _) (entsOf s k) [] (fun e _ => rfl) (fun e he Q' q' => ?_) ?_
  · have h := ents_mem hs hk he
    have hd := (hs.day _ (getD_mem (d := []) h.1)).1
    exact ⟨_, atI_nat (at_map (f := dayD) [] h.1), _, atI_nat (at_map (f := qd) 0 (by rw [hd]; exact h.2)), q'⟩
  · have e1 : ([] ++ (stOf s k).map fun (l : Ln) => qd l.ex) ++ ([] ++ (entsOf s k).map fun e => qd (chg s e.1 e.2)) = ((stOf s k).map (·.ex) ++ (entsOf s k).map fun e => chg s e.1 e.2).map qd := by
      rw [List.nil_append, List.nil_append, List.map_append, List.map_map, List.map_map]
      rfl
    have bl : ((stOf s k).map (fun (l : Ln) => l.ex) ++ (entsOf s k).map fun e => chg s e.1 e.2).length ≤ 30 := by
      rw [List.length_append, List.length_map, List.length_map]
      have := ents_len hs hk
      have := stOf_len (k := k) hs
      omega
    have bb : ∀ r ∈ ((stOf s k).map (fun (l : Ln) => l.ex) ++ (entsOf s k).map fun e => chg s e.1 e.2), Bd 60 r := by
      intro r hr
      rcases List.mem_append.mp hr with hr | hr
      · obtain ⟨l, hl, rfl⟩ := List.mem_map.mp hr
        exact hs.ex l (stOf_sub l hl)
      · obtain ⟨e, he, rfl⟩ := List.mem_map.mp hr
        have h := ents_mem hs hk he
        have hd := hs.day _ (getD_mem (d := []) h.1)
        exact hd.2 _ (getD_mem (by rw [hd.1]; exact h.2))
    refine ⟨?_, _, rfl, _, congrArg (fun z => [W.dat (.list z)]) e1, bb, bl, rfl, q⟩
    show (List.length _) + (List.length _) ≤ 1000000
    rw [List.nil_append, List.nil_append, List.length_map, List.length_map]
    have := ents_len hs hk
    have := stOf_len (k := k) hs
    omega
theorem bd_exact {s : Sh} {k : Wh} (hs : ShOk s) (hk : WhOk s k) : Bd 2000 (exactOf s k) := by
  have bl : ((stOf s k).map (fun (l : Ln) => l.ex) ++ (entsOf s k).map fun e => chg s e.1 e.2).length ≤ 30 := by
    rw [List.length_append, List.length_map, List.length_map]
    have := ents_len hs hk
    have := stOf_len (k := k) hs
    omega
  refine (bd_sumQ (l := (stOf s k).map (fun (l : Ln) => l.ex) ++ (entsOf s k).map fun e => chg s e.1 e.2) fun r hr => ?_).mono (by omega)
  rcases List.mem_append.mp hr with hr | hr
  · obtain ⟨l, hl, rfl⟩ := List.mem_map.mp hr
    exact hs.ex l (stOf_sub l hl)
  · obtain ⟨e, he, rfl⟩ := List.mem_map.mp hr
    have h := ents_mem hs hk he
    have hd := hs.day _ (getD_mem (d := []) h.1)
    exact hd.2 _ (getD_mem (by rw [hd.1]; exact h.2))
abbrev N_least_of : List Str := ["sheet", "which"]
def t_least_of : TSW := sRet (sCallP c_rounded_down (sCons (sCallP c_exact_of (sCons (sVar 0) (sCons (sVar 1) (sNil)))) (sNil)))
theorem me_least_of : ∀ ws g Q, c_least_of ws g Q → t_least_of (endW Q) (startW N_least_of ws) ⟨g, []⟩ := by
  rintro ws g Q ⟨s, k, rfl, hs, hk, q⟩
  exact ⟨_, rfl, s, k, rfl, hs, hk, rfl, _, rfl, _, rfl, bd_exact hs hk, rfl, q⟩
abbrev N_most_of : List Str := ["sheet", "which"]
def t_most_of : TSW := sRet (sCallP c_rounded_up (sCons (sCallP c_exact_of (sCons (sVar 0) (sCons (sVar 1) (sNil)))) (sNil)))
theorem me_most_of : ∀ ws g Q, c_most_of ws g Q → t_most_of (endW Q) (startW N_most_of ws) ⟨g, []⟩ := by
  rintro ws g Q ⟨s, k, rfl, hs, hk, q⟩
  exact ⟨_, rfl, s, k, rfl, hs, hk, rfl, _, rfl, _, rfl, bd_exact hs hk, rfl, q⟩
abbrev N_fixed_of : List Str := ["sheet", "which", "line"]
def t_fixed_of : TSW := sRet (sCal (g1 kSum) (sCons (sFrz (sLc (sItems (sCallP c_lines_with_state_in (sCons (sVar 0) (sCons (sVar 1) (sNil))))) (bName 2) sYes (s2 (sVar 2) (sI 2) gIx) [2])) (sNil)))
theorem map_int {α : Type} {f : α → Int} {l : List α} : l.map (fun a => PyData.int (f a)) = (l.map f).map .int := by
  rw [List.map_map]
  rfl
theorem me_fixed_of : ∀ ws g Q, c_fixed_of ws g Q → t_fixed_of (endW Q) (startW N_fixed_of ws) ⟨g, []⟩ := by
  rintro ws g Q ⟨s, k, rfl, hs, hk, q⟩
  refine ⟨_, rfl, s, k, rfl, hs, hk, rfl, len_mm (by have := stOf_len (k := k) hs; omega), ?_⟩
  refine comp_map (enc := ld) (f := fun (l : Ln) => .int l.ct) (fun l => _) (stOf s k) [] (fun l _ => rfl) (fun l _ Q' q' => ⟨_, rfl, q'⟩) ?_
  exact ⟨(stOf s k).map (fun (l : Ln) => l.ct), congrArg some (map_int (f := fun (l : Ln) => l.ct)), q⟩
abbrev N_cents_of : List Str := ["sheet", "booking", "which", "d", "i"]
def t_cents_of : TSW := sRet (s2 (sCallP c_fixed_of (sCons (sVar 0) (sCons (sVar 2) (sNil)))) (sCal (g1 kSum) (sCons (sFrz (sLc (sItems (sCallP c_entries_of (sCons (sVar 0) (sCons (sVar 2) (sNil))))) (bTup [3, 4]) sYes (s2 (s2 (sVar 1) (sVar 3) gIx) (sVar 4) gIx) [3, 4])) (sNil))) gAdd)
theorem me_cents_of : ∀ ws g Q, c_cents_of ws g Q → t_cents_of (endW Q) (startW N_cents_of ws) ⟨g, []⟩ := by
  rintro ws g Q ⟨s, bk, k, rfl, hs, hk, hb, q⟩
  refine ⟨_, rfl, s, k, rfl, hs, hk, rfl, ?_⟩
  refine ⟨_, rfl, s, k, rfl, hs, hk, rfl, len_mm (by have := ents_len hs hk; omega), ?_⟩
  refine comp_map (enc := entD) (f := fun e => .int ((bk.getD e.1 []).getD e.2 0)) (fun e => _) (entsOf s k) [] (fun e _ => rfl) (fun e he Q' q' => ?_) ?_
  · have h := ents_mem hs hk he
    have h1 : e.1 < bk.length := by rw [hb.1]; exact h.1
    have hd := hb.2 _ (getD_mem (d := []) h1)
    exact ⟨_, atI_nat (at_map (f := rowI) [] h1), _, atI_nat (at_map (f := PyData.int) 0 (by rw [hd]; exact h.2)), q'⟩
  · exact ⟨(entsOf s k).map fun (e : Nat × Nat) => (bk.getD e.1 []).getD e.2 0, congrArg some (map_int (f := fun (e : Nat × Nat) => (bk.getD e.1 []).getD e.2 0)), q⟩
end Wl

/-! states: how far they are off, over Rat -/
namespace Wl
open PySem PySem.Spec PyProof.Rows L2 Cb
def LnK (l : Ln) : Prop := Bd 20 l.ex ∧ l.ct.natAbs < 2 ^ 20
def RowsK (rows : List Ln) : Prop := rows.length ≤ 8 ∧ ∀ l ∈ rows, LnK l
def gap (l : Ln) : Rat := (l.ct : Rat) - l.ex
def going (rows : List Ln) : List Rat := (rows.filter fun l => l.on).map gap
def aheadR (rows : List Ln) : Rat := sumQ ((going rows).filter fun g => decide (0 < g))
def behindR (rows : List Ln) : Rat := sumQ (((going rows).filter fun g => decide (g < 0)).map fun g => -g)
def endedR (rows : List Ln) : Rat := sumQ ((rows.filter fun l => !l.on).map gap)
def btw (c : Int) (r : Rat) : Bool := decide (dn r ≤ c) && decide (c ≤ upp r)
def near (rows : List Ln) : Bool := (rows.all fun l => btw l.ct l.ex) && btw (rows.map fun l => l.ct).sum (sumQ (rows.map fun l => l.ex))
def four (rows : List Ln) : List Rat := [aheadR rows, behindR rows, aheadR rows + endedR rows, behindR rows - endedR rows]
def free (rows : List Ln) : Bool := near rows && (four rows).all fun r => decide (r < 1)
theorem bd_int {z : Int} {n : Nat} (h : z.natAbs < 2 ^ n) (hn : 1 ≤ n) : Bd n (z : Rat) := by
  refine ⟨by rw [Rat.num_intCast]; exact h, ?_⟩
  rw [Rat.den_intCast]
  exact Nat.lt_of_lt_of_le (by decide) (two_le hn)
theorem bd_gap {l : Ln} (h : LnK l) : Bd 60 (gap l) := by
  unfold gap
  rw [Rat.sub_eq_add_neg]
  exact (bd_add (bd_int h.2 (by decide)) (bd_neg h.1)).mono (by decide)
theorem qd_int (z : Int) : qd (z : Rat) = .tuple [.int z, .int 1] := by
  unfold qd
  rw [Rat.num_intCast, Rat.den_intCast]
  rfl
theorem qd_neg (r : Rat) : qd (-r) = .tuple [.int (-r.num), .int (r.den : Int)] := by
  unfold qd
  rw [Rat.neg_num, Rat.neg_den]
theorem going_ok {rows : List Ln} (h : RowsK rows) : (∀ g ∈ going rows, Bd 60 g) ∧ (going rows).length ≤ 8 := by
  refine ⟨fun g hg => ?_, ?_⟩
  · obtain ⟨l, hl, rfl⟩ := List.mem_map.mp hg
    exact bd_gap (h.2 l ((List.mem_filter.mp hl).1))
  · unfold going
    rw [List.length_map]
    exact Nat.le_trans (List.length_filter_le _ _) h.1
theorem bd_sum8 {l : List Rat} (h : ∀ r ∈ l, Bd 60 r) (hl : l.length ≤ 8) : Bd 500 (sumQ l) := (bd_sumQ h).mono (by omega)
theorem bd_ahead {rows : List Ln} (h : RowsK rows) : Bd 500 (aheadR rows) := bd_sum8 (fun r hr => (going_ok h).1 r ((List.mem_filter.mp hr).1)) (Nat.le_trans (List.length_filter_le _ _) (going_ok h).2)
theorem bd_behind {rows : List Ln} (h : RowsK rows) : Bd 500 (behindR rows) := bd_sum8 (fun r hr => by
  obtain ⟨g, hg, rfl⟩ := List.mem_map.mp hr
  exact bd_neg ((going_ok h).1 g ((List.mem_filter.mp hg).1))) (by rw [List.length_map]; exact Nat.le_trans (List.length_filter_le _ _) (going_ok h).2)
theorem ended_ok {rows : List Ln} (h : RowsK rows) : (∀ g ∈ (rows.filter fun l => !l.on).map gap, Bd 60 g) ∧ ((rows.filter fun l => !l.on).map gap).length ≤ 8 := by
  refine ⟨fun g hg => ?_, ?_⟩
  · obtain ⟨l, hl, rfl⟩ := List.mem_map.mp hg
    exact bd_gap (h.2 l ((List.mem_filter.mp hl).1))
  · rw [List.length_map]
    exact Nat.le_trans (List.length_filter_le _ _) h.1
theorem bd_ended {rows : List Ln} (h : RowsK rows) : Bd 500 (endedR rows) := bd_sum8 (ended_ok h).1 (ended_ok h).2
theorem ex_ok {rows : List Ln} (h : RowsK rows) : (∀ r ∈ rows.map (fun l => l.ex), Bd 60 r) ∧ (rows.map fun l => l.ex).length ≤ 8 := by
  refine ⟨fun r hr => ?_, by rw [List.length_map]; exact h.1⟩
  obtain ⟨l, hl, rfl⟩ := List.mem_map.mp hr
  exact (h.2 l hl).1.mono (by decide)
theorem four_bd {rows : List Ln} (h : RowsK rows) : ∀ r ∈ four rows, Bd 2000 r := by
  intro r hr
  have a := bd_ahead h
  have b := bd_behind h
  have e := bd_ended h
  unfold four at hr
  rcases List.mem_cons.mp hr with rfl | hr
  · exact a.mono (by decide)
  rcases List.mem_cons.mp hr with rfl | hr
  · exact b.mono (by decide)
  rcases List.mem_cons.mp hr with rfl | hr
  · exact (bd_add a e).mono (by decide)
  rw [List.mem_singleton.mp hr, Rat.sub_eq_add_neg]
  exact (bd_add b (bd_neg e)).mono (by decide)
theorem RowsK.take {rows : List Ln} (h : RowsK rows) (i : Nat) : RowsK (rows.take i) := ⟨by rw [List.length_take]; have := h.1; omega, fun l hl => h.2 l (List.mem_of_mem_take hl)⟩
theorem num_pos_iff {r : Rat} : 0 < r ↔ 0 < r.num := by
  rw [Rat.lt_iff]
  simp
theorem filter_one {α : Type} {p : α → Bool} {x : α} : [x].filter p = if p x = true then [x] else [] := by
  by_cases h : p x = true
  · rw [if_pos h, List.filter_cons_of_pos h, List.filter_nil]
  · rw [if_neg h, List.filter_cons_of_neg h, List.filter_nil]
theorem sumQ_snoc' {l : List Rat} {r : Rat} : sumQ (l ++ [r]) = sumQ l + r := by
  unfold sumQ
  rw [List.foldl_append]
  rfl
theorem going_snoc {rows : List Ln} {l : Ln} : going (rows ++ [l]) = going rows ++ (if l.on = true then [gap l] else []) := by
  unfold going
  rw [List.filter_append, List.map_append]
  by_cases h : l.on = true
  · rw [if_pos h, List.filter_cons_of_pos h, List.filter_nil, List.map_cons, List.map_nil]
  · rw [if_neg h, List.filter_cons_of_neg h, List.filter_nil, List.map_nil]
theorem ended_snoc {rows : List Ln} {l : Ln} : endedR (rows ++ [l]) = if l.on = true then endedR rows else endedR rows + gap l := by
  unfold endedR
  rw [List.filter_append, List.map_append]
  by_cases h : l.on = true
  · rw [if_pos h, List.filter_cons_of_neg (by rw [h]; decide), List.filter_nil, List.map_nil, List.append_nil]
  · rw [if_neg h, List.filter_cons_of_pos (by simpa using h), List.filter_nil, List.map_cons, List.map_nil, sumQ_snoc']
theorem ahead_snoc {rows : List Ln} {l : Ln} : aheadR (rows ++ [l]) = if l.on = true ∧ 0 < gap l then aheadR rows + gap l else aheadR rows := by
  unfold aheadR
  rw [going_snoc, List.filter_append]
  by_cases h : l.on = true
  · rw [if_pos h]
    by_cases g : 0 < gap l
    · rw [if_pos ⟨h, g⟩, filter_one, if_pos (decide_eq_true g), sumQ_snoc']
    · rw [if_neg (fun z => g z.2), filter_one, if_neg (by rw [decide_eq_false g]; decide), List.append_nil]
  · rw [if_neg h, if_neg (fun z => h z.1), List.filter_nil, List.append_nil]
theorem behind_snoc {rows : List Ln} {l : Ln} : behindR (rows ++ [l]) = if l.on = true ∧ ¬ 0 < gap l then behindR rows - gap l else behindR rows := by
  unfold behindR
  rw [going_snoc, List.filter_append, List.map_append]
  by_cases h : l.on = true
  · rw [if_pos h]
    by_cases g : gap l < 0
    · rw [if_pos ⟨h, fun z => by grind⟩, filter_one, if_pos (decide_eq_true g), List.map_cons, List.map_nil, sumQ_snoc', Rat.sub_eq_add_neg]
    · rw [filter_one, if_neg (by rw [decide_eq_false g]; decide), List.map_nil, List.append_nil]
      by_cases z : 0 < gap l
      · rw [if_neg (fun y => y.2 z)]
      · rw [if_pos ⟨h, z⟩]
        have e : gap l = 0 := by grind
        rw [e]
        grind
  · rw [if_neg h, if_neg (fun z => h z.1), List.filter_nil, List.map_nil, List.append_nil]
/-! ### all ways to round -/
def longer (found : List (List Int)) (row : List Int) : List (List Int) := found.flatMap fun s => row.map fun v => s ++ [v]
def chooseL (nss : List (List Int)) : List (List Int) := nss.foldl longer [[]]
theorem choose_snoc {nss : List (List Int)} {ns : List Int} : chooseL (nss ++ [ns]) = longer (chooseL nss) ns := by
  unfold chooseL
  rw [List.foldl_append]
  rfl
theorem longer_len {found : List (List Int)} {row : List Int} (h : row.length ≤ 2) : (longer found row).length ≤ 2 * found.length := by
  unfold longer
  induction found with
  | nil => simp
  | cons a l ih =>
    rw [List.flatMap_cons, List.length_append, List.length_map, List.length_cons]
    omega
theorem longer_snoc {l : List (List Int)} {a row : List Int} : longer (l ++ [a]) row = longer l row ++ row.map fun v => a ++ [v] := by
  unfold longer
  rw [List.flatMap_append]
  simp
theorem choose_len : ∀ (n : Nat) (nss : List (List Int)), nss.length = n → (∀ ns ∈ nss, ns.length ≤ 2) → (chooseL nss).length ≤ 2 ^ n
  | 0, nss, h, _ => by
    rw [List.eq_nil_of_length_eq_zero h]
    decide
  | n + 1, nss, h, hb => by
    have hne : nss ≠ [] := fun e => by
      rw [e] at h
      cases h
    have e := (List.dropLast_concat_getLast hne).symm
    have ih := choose_len n nss.dropLast (by rw [List.length_dropLast]; omega) fun ns hn => hb ns (List.dropLast_subset _ hn)
    rw [e, choose_snoc]
    have := longer_len (found := chooseL nss.dropLast) (hb (nss.getLast hne) (List.getLast_mem hne))
    rw [Nat.pow_succ]
    omega
theorem choose_el : ∀ (n : Nat) (nss : List (List Int)), nss.length = n → ∀ c ∈ chooseL nss, c.length = n
  | 0, nss, h, c, hc => by
    rw [List.eq_nil_of_length_eq_zero h] at hc
    rw [List.mem_singleton.mp hc]
    rfl
  | n + 1, nss, h, c, hc => by
    have hne : nss ≠ [] := fun e => by
      rw [e] at h
      cases h
    rw [(List.dropLast_concat_getLast hne).symm, choose_snoc] at hc
    obtain ⟨s, hs, hc⟩ := List.mem_flatMap.mp hc
    obtain ⟨v, _, rfl⟩ := List.mem_map.mp hc
    rw [List.length_append, choose_el n nss.dropLast (by rw [List.length_dropLast]; omega) s hs]
    rfl
def ways1 (r : Rat) : List Int := if dn r = upp r then [dn r] else [dn r, upp r]
theorem ways1_len (r : Rat) : (ways1 r).length ≤ 2 := by
  unfold ways1
  split <;> simp
theorem dn_le (r : Rat) : dn r ≤ upp r := by
  unfold dn upp
  have h := den_pos r
  rw [Int.fdiv_eq_ediv_of_nonneg _ (by omega), Int.fdiv_eq_ediv_of_nonneg _ (by omega)]
  have h1 := Int.ediv_mul_le r.num (show (r.den : Int) ≠ 0 by omega)
  have h2 := Int.ediv_mul_le (-r.num) (show (r.den : Int) ≠ 0 by omega)
  have h3 : (r.num / (r.den : Int) + (-r.num) / (r.den : Int)) * (r.den : Int) ≤ 0 := by
    rw [Int.add_mul]
    omega
  have h4 : r.num / (r.den : Int) + (-r.num) / (r.den : Int) ≤ 0 := by
    apply Int.not_lt.mp
    intro z
    have := Int.mul_pos z h
    omega
  omega
theorem dn_floor (r : Rat) : dn r = r.floor := by
  unfold dn
  rw [Rat.floor_def, Int.fdiv_eq_ediv_of_nonneg _ (by have := den_pos r; omega)]
theorem dn_rat (r : Rat) : ((dn r : Int) : Rat) ≤ r := by
  rw [dn_floor]
  exact Rat.floor_le r
theorem dn_int {r : Rat} {z : Int} (h : (z : Rat) ≤ r) : z ≤ dn r := by
  rw [dn_floor]
  exact Rat.le_floor_iff.mpr h
theorem upp_neg (r : Rat) : upp r = -dn (-r) := by
  unfold dn upp
  rw [Rat.neg_num, Rat.neg_den]
theorem upp_rat (r : Rat) : r ≤ ((upp r : Int) : Rat) := by
  have h := dn_rat (-r)
  rw [upp_neg]
  have e : ((-dn (-r) : Int) : Rat) = -((dn (-r) : Int) : Rat) := by simp
  rw [e]
  grind
theorem upp_one (r : Rat) : upp r ≤ dn r + 1 := by
  unfold dn upp
  have h := den_pos r
  rw [Int.fdiv_eq_ediv_of_nonneg _ (by omega), Int.fdiv_eq_ediv_of_nonneg _ (by omega)]
  generalize (r.den : Int) = d at h
  generalize r.num = n
  have h1 := Int.mul_ediv_add_emod n d
  have h2 := Int.emod_lt_of_pos n h
  have h3 : -(n / d) - 1 ≤ (-n) / d := Int.le_ediv_of_mul_le h (by
    have e : (-(n / d) - 1) * d = -(d * (n / d)) - d := by grind
    rw [e]
    omega)
  omega
/-- the way to round is a range -/
theorem ways1_range (r : Rat) : ways1 r = (List.range (upp r + 1 - dn r).toNat).map fun (i : Nat) => dn r + (i : Int) := by
  have h1 := dn_le r
  have h2 := upp_one r
  unfold ways1
  by_cases h : dn r = upp r
  · rw [if_pos h, show (upp r + 1 - dn r).toNat = 1 by omega]
    simp
  · rw [if_neg h, show (upp r + 1 - dn r).toNat = 2 by omega]
    simp [List.range_succ]
    omega
end Wl

/-! centbook.pairs, the rest; centbook.states -/
namespace Wl
open PySem PySem.Spec PyProof.Rows L2 Cb
abbrev c_pair_turned : CW := cQ1 fun r => qd (-r)
abbrev c_pair_less : CW := cQ2 fun r s => r - s
def cLess : CW := fun ws g Q => ∃ r s, ws = [.dat (qd r), .dat (qd s)] ∧ Bd 2000 r ∧ Bd 2000 s ∧ Q (.dat (.bool (decide (r < s)))) g
abbrev c_is_below : CW := cLess
abbrev N_pair_turned : List Str := ["pair"]
def t_pair_turned : TSW := sRet (sTup (sCons (sNeg (s2 (sVar 0) (sI 0) gIx)) (sCons (s2 (sVar 0) (sI 1) gIx) (sNil))))
theorem me_pair_turned : ∀ ws g Q, c_pair_turned ws g Q → t_pair_turned (endW Q) (startW N_pair_turned ws) ⟨g, []⟩ := by
  rintro ws g Q ⟨r, rfl, hr, q⟩
  refine ⟨_, rfl, _, rfl, l2, ?_⟩
  dsimp only at q
  rw [qd_neg] at q
  exact q
abbrev N_pair_less : List Str := ["one", "other"]
def t_pair_less : TSW := sRet (sCallP c_pair_sum (sCons (sVar 0) (sCons (sCallP c_pair_turned (sCons (sVar 1) (sNil))) (sNil))))
theorem me_pair_less : ∀ ws g Q, c_pair_less ws g Q → t_pair_less (endW Q) (startW N_pair_less ws) ⟨g, []⟩ := by
  rintro ws g Q ⟨r, s, rfl, hr, hs, q⟩
  refine ⟨_, rfl, s, rfl, hs, rfl, _, rfl, r, -s, rfl, hr, bd_neg hs, rfl, ?_⟩
  dsimp only at q
  rw [Rat.sub_eq_add_neg] at q
  exact q
abbrev N_is_below : List Str := ["one", "other"]
def t_is_below : TSW := sRet (s2 (s2 (s2 (sVar 0) (sI 0) gIx) (s2 (sVar 1) (sI 1) gIx) gMul) (s2 (s2 (sVar 1) (sI 0) gIx) (s2 (sVar 0) (sI 1) gIx) gMul) (gLt))
theorem me_is_below : ∀ ws g Q, c_is_below ws g Q → t_is_below (endW Q) (startW N_is_below ws) ⟨g, []⟩ := by
  rintro ws g Q ⟨r, s, rfl, hr, hs, q⟩
  refine ⟨_, rfl, _, rfl, mulOk hr.1 hs.2, _, rfl, _, rfl, mulOk hs.1 hr.2, ?_⟩
  rw [show decide (r < s) = decide (r.num * (s.den : Int) < s.num * (r.den : Int)) from decide_eq_decide.mpr (Rat.lt_iff r s)] at q
  exact q
def rowsD (rows : List Ln) : PyData := .tuple (rows.map ld)
def cRows (f : List Ln → PyData) : CW := fun ws g Q => ∃ rows, ws = [.dat (rowsD rows)] ∧ RowsK rows ∧ Q (.dat (f rows)) g
abbrev c_offs : CW := cRows fun rows => .tuple (rows.map fun l => qd (gap l))
abbrev c_balances : CW := cRows fun rows => .tuple [qd (aheadR rows), qd (behindR rows), qd (endedR rows)]
def cBtw : CW := fun ws g Q => ∃ (z : Int) (r : Rat), ws = [.dat (.int z), .dat (qd r)] ∧ Bd 2000 r ∧ Q (.dat (.bool (btw z r))) g
abbrev c_is_rounded : CW := cBtw
abbrev c_is_close_state : CW := cRows fun rows => .bool (near rows)
abbrev c_is_open : CW := cRows fun rows => .bool (free rows)
theorem bd_ct {l : Ln} (h : LnK l) : Bd 2000 (l.ct : Rat) := (bd_int h.2 (by decide)).mono (by decide)
abbrev N_offs : List Str := ["state", "_", "exact", "cents"]
def t_offs : TSW := sRet (sCal (g1 kTup) (sCons (sFrz (sLc (sItems (sVar 0)) (bTup [1, 2, 3, 1]) sYes (sCallP c_pair_less (sCons (sTup (sCons (sVar 3) (sCons (sI 1) (sNil)))) (sCons (sVar 2) (sNil)))) [1, 2, 3])) (sNil)))
theorem me_offs : ∀ ws g Q, c_offs ws g Q → t_offs (endW Q) (startW N_offs ws) ⟨g, []⟩ := by
  rintro ws g Q ⟨rows, rfl, ok, q⟩
  refine ⟨len_mm (by have := ok.1; omega), ?_⟩
  refine comp_map (enc := ld) (f := fun (l : Ln) => qd (gap l)) (fun l => _) rows [] (fun l _ => rfl) (fun l hl Q' q' => ?_) q
  exact ⟨l2, _, rfl, (l.ct : Rat), l.ex, by rw [qd_int], bd_ct (ok.2 l hl), (ok.2 l hl).1.mono (by decide), rfl, q'⟩
abbrev N_is_rounded : List Str := ["cents", "exact"]
def t_is_rounded : TSW := sRet (sChain (fun i j => decide (i ≤ j)) (fun i j => decide (i ≤ j)) (sCallP c_rounded_down (sCons (sVar 1) (sNil))) (sVar 0) (sCallP c_rounded_up (sCons (sVar 1) (sNil))))
theorem btw_chain {z : Int} {r : Rat} {Q : Bool → Prop} (q : Q (btw z r)) : if decide (dn r ≤ z) = true then Q (decide (z ≤ upp r)) else Q false := by
  unfold btw at q
  by_cases h : dn r ≤ z
  · rw [if_pos (decide_eq_true h)]
    rw [decide_eq_true h, Bool.true_and] at q
    exact q
  · rw [if_neg (by simpa using h)]
    rw [decide_eq_false h, Bool.false_and] at q
    exact q
theorem me_is_rounded : ∀ ws g Q, c_is_rounded ws g Q → t_is_rounded (endW Q) (startW N_is_rounded ws) ⟨g, []⟩ := by
  rintro ws g Q ⟨z, r, rfl, hr, q⟩
  refine ⟨_, rfl, r, rfl, hr, rfl, ?_⟩
  have h := btw_chain (z := z) (r := r) (Q := fun b => Q (.dat (.bool b)) g) q
  show (if decide (dn r ≤ z) = true then _ else _)
  split
  · rename_i e
    rw [if_pos e] at h
    exact ⟨_, rfl, r, rfl, hr, rfl, h⟩
  · rename_i e
    rw [if_neg e] at h
    exact h
/-- items of a list or a tuple, and what a filter by something else leaves of them -/
theorem comp_flt {α : Type} {enc f : α → PyData} (p : α → Bool) {b : BW} {tt : TTW} {te : TW} {σ : Sw} {h : Hw} {Q : List PyData → Hw → Prop} (sb : α → Sw) (as : List α) (hb : ∀ a ∈ as, b (.dat (enc a)) σ = some (sb a)) (ht : ∀ a ∈ as, ∀ Q', Q' (p a) h → tt (sb a) h Q') (he : ∀ a ∈ as, p a = true → ∀ Q', Q' (.v (.dat (f a))) h → te (sb a) h Q') (q : Q ((as.filter p).map f) h) : compR b tt te ((as.map enc).map .dat) [] σ h Q :=
  comp_filter sb as [] hb ht he q
theorem zip_gl : ∀ (rows : List Ln), zipW ((rows.map fun l => qd (gap l)).map .dat) ((rows.map ld).map .dat) = (rows.map fun l => PyData.tuple [qd (gap l), ld l]).map .dat
  | [] => rfl
  | l :: rows => by
    rw [List.map_cons, List.map_cons, List.map_cons, List.map_cons, zipW, zip_gl rows]
    rfl
/-- zero and one, constants of the module -/
abbrev zC : W := .dat (.tuple [.int 0, .int 1])
abbrev oC : W := .dat (.tuple [.int 1, .int 1])
theorem q0 : qd 0 = .tuple [.int 0, .int 1] := rfl
theorem q1 : qd 1 = .tuple [.int 1, .int 1] := rfl
theorem bd0 : Bd 2000 (0 : Rat) := ⟨by decide, by decide⟩
theorem bd1 : Bd 2000 (1 : Rat) := ⟨by decide, by decide⟩
abbrev N_balances : List Str := ["state", "going", "ahead", "behind", "ended", "off", "line"]
def t_balances : TSW := sSetLF 1 (sLc (sZip (sCons (sCallP c_offs (sCons (sVar 0) (sNil))) (sCons (sVar 0) (sNil)))) (bTup [5, 6]) (sB (s2 (sVar 6) (sI 3) gIx)) (sVar 5) [5, 6]) (sSet 2 (sCallP c_pair_total (sCons (sFrz (sLc (sItems (sVar 1)) (bName 5) (sB (sCallP c_is_below (sCons (sC (zC)) (sCons (sVar 5) (sNil))))) (sVar 5) [5])) (sNil))) (sSet 3 (sCallP c_pair_total (sCons (sFrz (sLc (sItems (sVar 1)) (bName 5) (sB (sCallP c_is_below (sCons (sVar 5) (sCons (sC (zC)) (sNil))))) (sCallP c_pair_turned (sCons (sVar 5) (sNil))) [5])) (sNil))) (sSet 4 (sCallP c_pair_total (sCons (sFrz (sLc (sZip (sCons (sCallP c_offs (sCons (sVar 0) (sNil))) (sCons (sVar 0) (sNil)))) (bTup [5, 6]) (sNot (sB (s2 (sVar 6) (sI 3) gIx))) (sVar 5) [5, 6])) (sNil))) (sRet (sTup (sCons (sVar 2) (sCons (sVar 3) (sCons (sVar 4) (sNil)))))))))
theorem me_balances : ∀ ws g Q, c_balances ws g Q → t_balances (endW Q) (startW N_balances ws) ⟨g, []⟩ := by
  rintro ws g Q ⟨rows, rfl, ok, q⟩
  have go := going_ok ok
  have en := ended_ok ok
  have l8 := ok.1
  have zl : (zipW ((rows.map fun l => qd (gap l)).map .dat) ((rows.map ld).map W.dat)).length ≤ 100000 := by
    rw [zipW_len, List.length_map, List.length_map, List.length_map, List.length_map]
    omega
  refine ⟨_, rfl, rows, rfl, ok, rfl, ?_⟩
  refine ⟨zl, ?_⟩
  rw [zip_gl]
  refine comp_flt (enc := fun (l : Ln) => PyData.tuple [qd (gap l), ld l]) (f := fun l => qd (gap l)) (fun l => l.on) (fun l => _) rows (fun l _ => rfl) (fun l _ Q' q' => ⟨_, rfl, q'⟩) (fun l _ _ Q' q' => q') ?_
  have e1 : (rows.filter fun l => l.on).map (fun l => qd (gap l)) = (going rows).map qd := by
    unfold going
    rw [List.map_map]
    rfl
  rw [e1]
  have gl : ((going rows).map qd).length ≤ 8 := by rw [List.length_map]; exact go.2
  refine ⟨len_mm (by have := go.2; omega), ?_⟩
  refine comp_flt (enc := qd) (f := qd) (fun g => decide (0 < g)) (fun l => _) (going rows) (fun l _ => rfl) (fun r hr Q' q' => ⟨_, rfl, 0, r, rfl, bd0, (go.1 r hr).mono (by decide), rfl, q'⟩) (fun l _ _ Q' q' => q') ?_
  refine ⟨_, rfl, (going rows).filter fun g => decide (0 < g), rfl, fun r hr => go.1 r (List.mem_filter.mp hr).1, Nat.le_trans (List.length_filter_le _ _) (by have := go.2; omega), rfl, ?_⟩
  refine ⟨len_mm (by have := go.2; omega), ?_⟩
  refine comp_flt (enc := qd) (f := fun r => qd (-r)) (fun g => decide (g < 0)) (fun l => _) (going rows) (fun l _ => rfl) (fun r hr Q' q' => ⟨_, rfl, r, 0, rfl, (go.1 r hr).mono (by decide), bd0, rfl, q'⟩) (fun r hr _ Q' q' => ⟨_, rfl, r, rfl, (go.1 r hr).mono (by decide), rfl, q'⟩) ?_
  refine ⟨_, rfl, ((going rows).filter fun g => decide (g < 0)).map fun g => -g, by rw [List.map_map]; rfl, fun r hr => ?_, by rw [List.length_map]; exact Nat.le_trans (List.length_filter_le _ _) (by have := go.2; omega), rfl, ?_⟩
  · obtain ⟨g, hg, rfl⟩ := List.mem_map.mp hr
    exact bd_neg (go.1 g (List.mem_filter.mp hg).1)
  refine ⟨_, rfl, rows, rfl, ok, rfl, ?_⟩
  refine ⟨zl, ?_⟩
  rw [zip_gl]
  refine comp_flt (enc := fun (l : Ln) => PyData.tuple [qd (gap l), ld l]) (f := fun l => qd (gap l)) (fun l => !l.on) (fun l => _) rows (fun l _ => rfl) (fun l _ Q' q' => ⟨_, rfl, q'⟩) (fun l _ _ Q' q' => q') ?_
  refine ⟨_, rfl, (rows.filter fun l => !l.on).map gap, by rw [List.map_map]; rfl, en.1, Nat.le_trans en.2 (by decide), rfl, ?_⟩
  exact ⟨l3, q⟩
abbrev N_is_close_state : List Str := ["state", "_", "exact", "cents", "line"]
def t_is_close_state : TSW := sIfS (sNot (sB (sCal (g1 kAll) (sCons (sFrz (sLc (sItems (sVar 0)) (bTup [1, 2, 3, 1]) sYes (sCallP c_is_rounded (sCons (sVar 3) (sCons (sVar 2) (sNil)))) [1, 2, 3])) (sNil))))) (sRet (sBl false)) (sEnd) (sRet (sCallP c_is_rounded (sCons (sCal (g1 kSum) (sCons (sFrz (sLc (sItems (sVar 0)) (bName 4) sYes (s2 (sVar 4) (sI 2) gIx) [4])) (sNil))) (sCons (sCallP c_pair_total (sCons (sFrz (sLc (sItems (sVar 0)) (bName 4) sYes (s2 (sVar 4) (sI 1) gIx) [4])) (sNil))) (sNil)))))
theorem map_bool {α : Type} {f : α → Bool} {l : List α} : l.map (fun a => PyData.bool (f a)) = (l.map f).map .bool := by
  rw [List.map_map]
  rfl
theorem me_is_close_state : ∀ ws g Q, c_is_close_state ws g Q → t_is_close_state (endW Q) (startW N_is_close_state ws) ⟨g, []⟩ := by
  rintro ws g Q ⟨rows, rfl, ok, q⟩
  have l8 := ok.1
  refine ⟨len_mm (by omega), ?_⟩
  refine comp_map (enc := ld) (f := fun (l : Ln) => .bool (btw l.ct l.ex)) (fun l => _) rows [] (fun l _ => rfl) (fun l hl Q' q' => ⟨_, rfl, l.ct, l.ex, rfl, (ok.2 l hl).1.mono (by decide), rfl, q'⟩) ?_
  refine ⟨rows.map fun (l : Ln) => btw l.ct l.ex, congrArg some (map_bool (f := fun (l : Ln) => btw l.ct l.ex)), ?_⟩
  unfold near at q
  show (if (!((rows.map fun l => btw l.ct l.ex).all fun b => b)) = true then _ else _)
  rw [List.all_map]
  cases h : rows.all fun l => btw l.ct l.ex with
  | false =>
    rw [show (rows.all ((fun b => b) ∘ fun l => btw l.ct l.ex)) = rows.all (fun l => btw l.ct l.ex) from rfl, h, if_pos (by decide)]
    dsimp only at q
    rw [h, Bool.false_and] at q
    exact q
  | true =>
    rw [show (rows.all ((fun b => b) ∘ fun l => btw l.ct l.ex)) = rows.all (fun l => btw l.ct l.ex) from rfl, h, if_neg (by decide)]
    dsimp only at q
    rw [h, Bool.true_and] at q
    refine ⟨len_mm (by omega), ?_⟩
    refine comp_map (enc := ld) (f := fun (l : Ln) => .int l.ct) (fun l => _) rows [] (fun l _ => rfl) (fun l _ Q' q' => ⟨_, rfl, q'⟩) ?_
    refine ⟨rows.map fun (l : Ln) => l.ct, congrArg some (map_int (f := fun (l : Ln) => l.ct)), ?_⟩
    refine ⟨len_mm (by omega), ?_⟩
    refine comp_map (enc := ld) (f := fun (l : Ln) => qd l.ex) (fun l => _) rows [] (fun l _ => rfl) (fun l _ Q' q' => ⟨_, rfl, q'⟩) ?_
    have ex := ex_ok ok
    refine ⟨_, rfl, rows.map fun l => l.ex, by rw [List.map_map]; rfl, ex.1, by have := ex.2; omega, rfl, ?_⟩
    exact ⟨_, rfl, _, _, rfl, (bd_sum8 ex.1 ex.2).mono (by decide), rfl, q⟩
abbrev N_is_open : List Str := ["state", "ahead", "behind", "ended", "limited", "amount"]
def t_is_open : TSW := sUnp (sCallP c_balances (sCons (sVar 0) (sNil))) (bTup [1, 2, 3]) (sSet 4 (sTup (sCons (sVar 1) (sCons (sVar 2) (sCons (sCallP c_pair_sum (sCons (sVar 1) (sCons (sVar 3) (sNil)))) (sCons (sCallP c_pair_less (sCons (sVar 2) (sCons (sVar 3) (sNil)))) (sNil)))))) (sRet (sAndV (sCallP c_is_close_state (sCons (sVar 0) (sNil))) (sCal (g1 kAll) (sCons (sFrz (sLc (sItems (sVar 4)) (bName 5) sYes (sCallP c_is_below (sCons (sVar 5) (sCons (sC (oC)) (sNil)))) [5])) (sNil))))))
theorem me_is_open : ∀ ws g Q, c_is_open ws g Q → t_is_open (endW Q) (startW N_is_open ws) ⟨g, []⟩ := by
  rintro ws g Q ⟨rows, rfl, ok, q⟩
  have ba := (bd_ahead ok).mono (show 500 ≤ 2000 by decide)
  have bb := (bd_behind ok).mono (show 500 ≤ 2000 by decide)
  have be := (bd_ended ok).mono (show 500 ≤ 2000 by decide)
  refine ⟨_, rfl, rows, rfl, ok, rfl, _, rfl, ?_⟩
  refine ⟨_, rfl, _, _, rfl, ba, be, rfl, ?_⟩
  refine ⟨_, rfl, _, _, rfl, bb, be, rfl, ?_⟩
  refine ⟨l4, ?_⟩
  refine ⟨_, rfl, rows, rfl, ok, rfl, ?_⟩
  unfold free at q
  dsimp only at q
  show (if near rows = true then _ else _)
  split
  · rename_i h
    rw [h, Bool.true_and] at q
    refine ⟨by show 4 ≤ 100000; decide, ?_⟩
    refine comp_map (enc := qd) (f := fun r => .bool (decide (r < 1))) (fun l => _) (four rows) [] (fun l _ => rfl) (fun r hr Q' q' => ⟨_, rfl, r, 1, rfl, four_bd ok r hr, bd1, rfl, q'⟩) ?_
    refine ⟨(four rows).map fun r => decide (r < 1), congrArg some (map_bool (f := fun (r : Rat) => decide (r < 1))), ?_⟩
    rw [List.all_map]
    exact q
  · rename_i h
    rw [Bool.eq_false_iff.mpr h, Bool.false_and] at q
    exact q
end Wl

/-! in, not in for nested data; repr of a number too -/
namespace Wl
open PySem PySem.Spec PyProof.Rows L2 Cb L2 SkE
section
variable {X : Cx}
theorem row_dp {K : PySem.W.Frag} {A : Wd} {h : Hw} {H : Hp} {y : U} {u : V} {ds : List PyData} (wr : WR K A h H) (r : RU K A H y u) (e : rowD h y = some ds) : Dp K H u (.list ds) := by
  obtain ⟨a, vs, rfl, hq, rr⟩ := row_ok wr r e
  exact .lst (.of hq) (RDs.dp _ _ rr)
/-- x in y, y a list of data; neg: not in -/
def gInD (neg : Bool) : U → U → Hw → QU → Prop := fun x y h Q => match x, rowD h y with
  | .v (.dat d), some ds => (SeqAt.shaped d = true ∧ SeqAt.shaped (.list ds) = true) ∧ Q (.v (.dat (.bool (if neg then !(ds.any fun e => PyData.eqv e d) else ds.any fun e => PyData.eqv e d)))) h
  | _, _ => False
theorem ow_inD (hu : X.A.units + 65 < cLine) : OpW X (compareOp .In) (gInD false) := fun A h H x y v u Q R wr rx ry q k => by
  unfold gInD at q
  split at q
  · rename_i d ds er
    exact ⟨_, op_inD hu, d, ds, RD.dp _ _ (ru_dat rx), row_dp wr ry er, q.1.1, q.1.2, k _ _ (.mk wr (.refl _) (.dat (.bl _)) q.2)⟩
  · exact q.elim
theorem ow_notinD (hu : X.A.units + 65 < cLine) : OpW X (compareOp .NotIn) (gInD true) := fun A h H x y v u Q R wr rx ry q k => by
  unfold gInD at q
  split at q
  · rename_i d ds er
    exact ⟨_, op_notInD hu, d, ds, RD.dp _ _ (ru_dat rx), row_dp wr ry er, q.1.1, q.1.2, k _ _ (.mk wr (.refl _) (.dat (.bl _)) q.2)⟩
  · exact q.elim
/-- repr of a datum or of an int -/
@[irreducible] def kReprA : U → Hw → QU → Prop := fun u h Q => match u with
  | .v (.dat (.int i)) => i.natAbs.log2 < 1920 ∧ Q (.v (.dat (.str (toString i)))) h
  | u => kRepr u h Q
theorem cw_reprA (gd : X.A.guards = some []) (hu : X.A.units + 64 < cLine) : CalW X (.builtin "repr") (g1 kReprA) := calw_1 fun A h H u v Q R wr r q k => by
  unfold kReprA at q
  split at q
  · exact ⟨_, call_repr_int, _, by rw [ru_int r], q.1, k _ _ (.mk wr (.refl _) (.dat (.str _)) q.2)⟩
  · exact cw_repr gd hu A h H [_] [v] Q R wr (.cons r .nil) q k
end
end Wl

/-! a generator that sleeps: what runs meanwhile does not see it, unless it wakes it -/
namespace Wg
open PySem PySem.Sem PyProof.Rows
def retF : Frame → Bool
  | .ret .. => true
  | .gen .. => false
def ngS : GenState → Prop
  | .suspended _ _ _ _ fs _ => fs.all retF = true
  | _ => True
def NGs (s : Shared) : Prop := ∀ (i : Nat) (x : GenState), s.gens[i]? = some x → ngS x
def ngE : End → Prop
  | .susp _ _ _ _ _ _ fs => fs.all retF = true
  | .ret _ => True
theorem ngS_of {e : End} (h : ngE e) : ngS e.genState := by cases e <;> exact h
theorem no_gen : ∀ {fs : List Frame}, fs.all retF = true → splitAtGen fs = none
  | [], _ => rfl
  | .gen g k l c p :: fs, h => by simp [retF] at h
  | .ret k h g l c p kp :: fs, e => by
    rw [List.all_cons, Bool.and_eq_true] at e
    show (splitAtGen fs).map _ = none
    rw [no_gen e.2]
    rfl
/-- the same to look at, but to wake it is not told -/
def poi : GenState → GenState
  | .suspended _ l c p fs cl => .suspended (fun _ => .unsupported "") l c p fs cl
  | x => x
def isS : GenState → Bool
  | .suspended .. => true
  | _ => false
theorem poi_seen (x : GenState) : (poi x).seen = x.seen := by cases x <;> rfl
theorem poi_bare (x : GenState) : (poi x).bare = x.bare := by cases x <;> rfl
theorem poi_same {x : GenState} (h : isS x = false) : poi x = x := by cases x <;> first | rfl | cases h
theorem ng_of {x : GenState} (h : isS x = false) : ngS x := by cases x <;> first | trivial | cases h
theorem no_uns {M : Model} {Γ : Ctx} {p : Pos} {m : String} {t : Sem PySem.Fin} {fs : List Frame} {s s' : Shared} {e : End} (h : Runs M Γ p t fs s e s') : t = .unsupported m → False := by
  induction h <;> intro q <;> first | (cases q; done) | (rename_i ih; exact ih q) | (rename_i ih _; exact ih q) | (rename_i ih _ _; exact ih q)
/-- G: as in s0, but some that sleep may not be woken, X at g among them -/
structure Asl (g : Nat) (X : GenState) (G : Array GenState) (s0 : Shared) : Prop where
  sz : G.size = s0.gens.size
  all : ∀ (i : Nat) (x : GenState), s0.gens[i]? = some x → (isS x = true ∧ G[i]? = some (poi x)) ∨ (G[i]? = some x ∧ ngS x)
  at0 : s0.gens[g]? = some X
  at1 : G[g]? = some (poi X)
  su : isS X = true
section
variable {g : Nat} {X : GenState} {G : Array GenState} {s0 : Shared}
theorem Asl.look {i : Nat} {x : GenState} (r : Asl g X G s0) (h : G[i]? = some x) : ∃ x0, s0.gens[i]? = some x0 ∧ ((isS x0 = true ∧ x = poi x0) ∨ (x = x0 ∧ ngS x0 ∧ (isS x = true → i ≠ g ∨ True))) := by
  have hl : i < G.size := (Array.getElem?_eq_some_iff.mp h).1
  have hl0 : i < s0.gens.size := by rw [← r.sz]; exact hl
  have e0 : s0.gens[i]? = some s0.gens[i] := Array.getElem?_eq_getElem hl0
  refine ⟨_, e0, ?_⟩
  rcases r.all i _ e0 with ⟨a, b⟩ | ⟨a, b⟩
  · rw [h] at b
    cases b
    exact .inl ⟨a, rfl⟩
  · rw [h] at a
    cases a
    exact .inr ⟨rfl, b, fun _ => .inr trivial⟩
/-- one that can be woken, or has not begun, or is done: it is the same there -/
theorem Asl.free {i : Nat} {x : GenState} (r : Asl g X G s0) (h : G[i]? = some x) (f : isS x = false) : i ≠ g ∧ s0.gens[i]? = some x := by
  obtain ⟨x0, e0, q⟩ := r.look h
  have hg : i ≠ g := by
    rintro rfl
    rw [r.at1] at h
    cases h
    have := r.su
    cases X <;> first | (cases this; done) | (cases f; done)
  refine ⟨hg, ?_⟩
  rcases q with ⟨a, b⟩ | ⟨a, _⟩
  · subst b
    cases x0 <;> first | (cases a; done) | (cases f; done)
  · rw [a]
    exact e0
theorem Asl.ne {i : Nat} {k : Resume → Sem PySem.Fin} {l : List Value} {c : Code} {p : Pos} {fs : List Frame} {cl : Bool} (r : Asl g X G s0) (h : G[i]? = some (.suspended k l c p fs cl)) (hk : k ≠ fun _ => .unsupported "") : i ≠ g := by
  rintro rfl
  have a := r.at1
  rw [h] at a
  have sx := r.su
  cases X with
  | suspended _ _ _ _ _ _ =>
    cases a
    exact hk rfl
  | _ => cases sx
theorem Asl.heap {h : Heap} (r : Asl g X G s0) : Asl g X G { s0 with heap := h } := ⟨r.sz, r.all, r.at0, r.at1, r.su⟩
theorem Asl.push {z : GenState} (r : Asl g X G s0) (hz : ngS z) : Asl g X (G.push z) { s0 with gens := s0.gens.push z } := by
  have hl0 : g < s0.gens.size := (Array.getElem?_eq_some_iff.mp r.at0).1
  have hl1 : g < G.size := (Array.getElem?_eq_some_iff.mp r.at1).1
  refine ⟨by show (G.push z).size = (s0.gens.push z).size; rw [Array.size_push, Array.size_push, r.sz], fun i x e => ?_, ?_, ?_, r.su⟩
  · have e : (s0.gens.push z)[i]? = some x := e
    rw [Array.getElem?_push] at e ⊢
    rw [r.sz]
    split at e
    · rename_i q
      cases e
      rw [if_pos q]
      exact .inr ⟨rfl, hz⟩
    · rename_i q
      rw [if_neg q]
      exact r.all i x e
  · show (s0.gens.push z)[g]? = _
    rw [Array.getElem?_push, if_neg (by omega)]
    exact r.at0
  · rw [Array.getElem?_push, if_neg (by omega)]
    exact r.at1
theorem Asl.set {i : Nat} {z : GenState} (r : Asl g X G s0) (hi : i ≠ g) (hz : ngS z) : Asl g X (G.setIfInBounds i z) (s0.setGen i z) := by
  refine ⟨by show (G.setIfInBounds i z).size = (s0.gens.setIfInBounds i z).size; rw [Array.size_setIfInBounds, Array.size_setIfInBounds, r.sz], fun j x e => ?_, ?_, ?_, r.su⟩
  · have e : (s0.gens.setIfInBounds i z)[j]? = some x := e
    rw [Array.getElem?_setIfInBounds] at e ⊢
    rw [r.sz]
    split at e
    · rename_i q
      rw [if_pos q]
      split at e
      · rename_i q2
        rw [if_pos q2]
        cases e
        exact .inr ⟨rfl, hz⟩
      · cases e
    · rename_i q
      rw [if_neg q]
      exact r.all j x e
  · show (s0.gens.setIfInBounds i z)[g]? = _
    rw [Array.getElem?_setIfInBounds_ne hi]
    exact r.at0
  · rw [Array.getElem?_setIfInBounds_ne hi]
    exact r.at1
end
theorem runs_sim {M : Model} {g : Nat} {X : GenState} {Γ : Ctx} {p : Pos} {t : Sem PySem.Fin} {fs : List Frame} {s s' : Shared} {e : End} (h : Runs M Γ p t fs s e s') :
    ∀ (s0 : Shared) (G : Array GenState), s = { s0 with gens := G } → Asl g X G s0 → fs.all retF = true → ∃ s0' G', s' = { s0' with gens := G' } ∧ Asl g X G' s0' ∧ ngE e ∧ Runs M Γ p t fs s0 e s0' := by
  induction h with
  | done => rintro s0 G rfl hr _; exact ⟨s0, G, rfl, hr, trivial, .done⟩
  | raise => rintro s0 G rfl hr _; exact ⟨s0, G, rfl, hr, trivial, .raise⟩
  | again hq _ ih => rintro s0 G rfl hr _; obtain ⟨s1, G1, a, b, d, r⟩ := ih s0 G rfl hr rfl; exact ⟨s1, G1, a, b, d, .again hq r⟩
  | rule _ ih => rintro s0 G rfl hr _; obtain ⟨s1, G1, a, b, d, r⟩ := ih s0 G rfl hr rfl; exact ⟨s1, G1, a, b, d, .rule r⟩
  | «at» _ ih => rintro s0 G rfl hr _; obtain ⟨s1, G1, a, b, d, r⟩ := ih s0 G rfl hr rfl; exact ⟨s1, G1, a, b, d, .at r⟩
  | load ho _ ih => rintro s0 G rfl hr _; obtain ⟨s1, G1, a, b, d, r⟩ := ih s0 G rfl hr rfl; exact ⟨s1, G1, a, b, d, .load ho r⟩
  | update ho _ ih => rintro s0 G rfl hr _; obtain ⟨s1, G1, a, b, d, r⟩ := ih { s0 with heap := s0.heap.update _ _ } G rfl hr.heap rfl; exact ⟨s1, G1, a, b, d, .update ho r⟩
  | loadIfAlive _ ih => rintro s0 G rfl hr _; obtain ⟨s1, G1, a, b, d, r⟩ := ih s0 G rfl hr rfl; exact ⟨s1, G1, a, b, d, .loadIfAlive r⟩
  | point _ ih => rintro s0 G rfl hr _; obtain ⟨s1, G1, a, b, d, r⟩ := ih s0 G rfl hr rfl; exact ⟨s1, G1, a, b, d, .point r⟩
  | alloc _ ih => rintro s0 G rfl hr _; obtain ⟨s1, G1, a, b, d, r⟩ := ih { s0 with heap := s0.heap.push _ } G rfl hr.heap rfl; exact ⟨s1, G1, a, b, d, .alloc r⟩
  | fresh _ ih => rintro s0 G rfl hr _; obtain ⟨s1, G1, a, b, d, r⟩ := ih { s0 with toks := s0.toks + 1 } G rfl ⟨hr.sz, hr.all, hr.at0, hr.at1, hr.su⟩ rfl; exact ⟨s1, G1, a, b, d, .fresh r⟩
  | ask _ ih => rintro s0 G rfl hr _; obtain ⟨s1, G1, a, b, d, r⟩ := ih s0 G rfl hr rfl; exact ⟨s1, G1, a, b, d, .ask r⟩
  | choose hz _ ih => rintro s0 G rfl hr _; obtain ⟨s1, G1, a, b, d, r⟩ := ih { s0 with drawn := s0.drawn.bump _ } G rfl ⟨hr.sz, hr.all, hr.at0, hr.at1, hr.su⟩ rfl; exact ⟨s1, G1, a, b, d, .choose hz r⟩
  | os _ ih => rintro s0 G rfl hr _; obtain ⟨s1, G1, a, b, d, r⟩ := ih { s0 with os := (Os.step s0.os _).1 } G rfl ⟨hr.sz, hr.all, hr.at0, hr.at1, hr.su⟩ rfl; exact ⟨s1, G1, a, b, d, .os r⟩
  | handled _ ih => rintro s0 G rfl hr _; obtain ⟨s1, G1, a, b, d, r⟩ := ih s0 G rfl hr rfl; exact ⟨s1, G1, a, b, d, .handled r⟩
  | genState hst _ ih =>
    rintro s0 G rfl hr _
    obtain ⟨s1, G1, a, b, d, r⟩ := ih s0 G rfl hr rfl
    obtain ⟨x0, e0, q⟩ := hr.look hst
    refine ⟨s1, G1, a, b, d, .genState e0 ?_⟩
    rcases q with ⟨_, z⟩ | ⟨z, _⟩
    · rw [z, poi_seen] at r
      exact r
    · rw [z] at r
      exact r
  | stack _ ih => rintro s0 G rfl hr _; obtain ⟨s1, G1, a, b, d, r⟩ := ih s0 G rfl hr rfl; exact ⟨s1, G1, a, b, d, .stack r⟩
  | thread _ ih => rintro s0 G rfl hr _; obtain ⟨s1, G1, a, b, d, r⟩ := ih s0 G rfl hr rfl; exact ⟨s1, G1, a, b, d, .thread r⟩
  | newGen _ ih =>
    rintro s0 G rfl hr _
    obtain ⟨s1, G1, a, b, d, r⟩ := ih { s0 with gens := s0.gens.push (.fresh _) } (G.push (.fresh _)) rfl (hr.push trivial) rfl
    refine ⟨s1, G1, a, b, d, .newGen ?_⟩
    have e : G.size = s0.gens.size := hr.sz
    rw [← e]
    exact r
  | call _ _ ih1 ih2 => rintro s0 G rfl hr _; obtain ⟨s1, G1, rfl, b, d, r⟩ := ih1 s0 G rfl hr rfl; obtain ⟨s2, G2, a2, b2, d2, r2⟩ := ih2 s1 G1 rfl b rfl; exact ⟨s2, G2, a2, b2, d2, .call r r2⟩
  | callSusp _ ih =>
    rintro s0 G rfl hr _
    obtain ⟨s1, G1, a, b, d, r⟩ := ih s0 G rfl hr rfl
    refine ⟨s1, G1, a, b, ?_, .callSusp r⟩
    show List.all (_ ++ [_]) retF = true
    rw [List.all_append, Bool.and_eq_true]
    exact ⟨d, rfl⟩
  | yield => rintro s0 G rfl hr _; exact ⟨s0, G, rfl, hr, rfl, .yield⟩
  | resumeFresh hc _ hq _ ih1 ih2 =>
    rintro s0 G rfl hr _
    obtain ⟨e, hc'⟩ := hr.free hc rfl
    obtain ⟨s1, G1, rfl, b, d, r⟩ := ih1 (s0.setGen _ .running) (G.setIfInBounds _ .running) rfl (hr.set e trivial) rfl
    obtain ⟨s2, G2, a2, b2, d2, r2⟩ := ih2 (s1.setGen _ _) (G1.setIfInBounds _ _) rfl (b.set e (ngS_of d)) rfl
    exact ⟨s2, G2, a2, b2, d2, .resumeFresh hc' r hq r2⟩
  | resumeSuspended hc h1 hq _ ih1 ih2 =>
    rintro s0 G rfl hr _
    obtain ⟨x0, e0, q⟩ := hr.look hc
    rcases q with ⟨q1, q2⟩ | ⟨q1, q2, _⟩
    · cases x0 with
      | suspended _ _ _ _ _ _ =>
        cases q2
        exact (no_uns (m := "") h1 rfl).elim
      | _ => cases q1
    · subst q1
      have e := hr.ne hc (fun z => by
        subst z
        exact no_uns (m := "") h1 rfl)
      obtain ⟨s1, G1, rfl, b, d, r⟩ := ih1 (s0.setGen _ .running) (G.setIfInBounds _ .running) rfl (hr.set e trivial) q2
      obtain ⟨s2, G2, a2, b2, d2, r2⟩ := ih2 (s1.setGen _ _) (G1.setIfInBounds _ _) rfl (b.set e (ngS_of d)) rfl
      exact ⟨s2, G2, a2, b2, d2, .resumeSuspended e0 r hq r2⟩
  | resumeJustStarted hc hv _ ih =>
    rintro s0 G rfl hr _
    obtain ⟨e, hc'⟩ := hr.free hc rfl
    obtain ⟨s1, G1, a, b, d, r⟩ := ih s0 G rfl hr rfl
    exact ⟨s1, G1, a, b, d, .resumeJustStarted hc' hv r⟩
  | resumeThrowFresh hc _ ih =>
    rintro s0 G rfl hr _
    obtain ⟨e, hc'⟩ := hr.free hc rfl
    obtain ⟨s1, G1, a, b, d, r⟩ := ih (s0.setGen _ .finished) (G.setIfInBounds _ .finished) rfl (hr.set e trivial) rfl
    exact ⟨s1, G1, a, b, d, .resumeThrowFresh hc' r⟩
  | resumeRunning hc _ ih =>
    rintro s0 G rfl hr _
    obtain ⟨e, hc'⟩ := hr.free hc rfl
    obtain ⟨s1, G1, a, b, d, r⟩ := ih s0 G rfl hr rfl
    exact ⟨s1, G1, a, b, d, .resumeRunning hc' r⟩
  | resumeFinished hc _ ih =>
    rintro s0 G rfl hr _
    obtain ⟨e, hc'⟩ := hr.free hc rfl
    obtain ⟨s1, G1, a, b, d, r⟩ := ih s0 G rfl hr rfl
    exact ⟨s1, G1, a, b, d, .resumeFinished hc' r⟩
  | segRet _ _ ih1 ih2 =>
    rintro s0 G rfl hr hf
    rw [List.all_cons, Bool.and_eq_true] at hf
    obtain ⟨s1, G1, rfl, b, d, r⟩ := ih1 s0 G rfl hr rfl
    obtain ⟨s2, G2, a2, b2, d2, r2⟩ := ih2 s1 G1 rfl b hf.2
    exact ⟨s2, G2, a2, b2, d2, .segRet r r2⟩
  | segGen _ _ ih1 ih2 => rintro s0 G rfl hr hf; simp [retF] at hf
  | segSuspOut hs _ ih =>
    rintro s0 G rfl hr hf
    obtain ⟨s1, G1, a, b, d, r⟩ := ih s0 G rfl hr rfl
    refine ⟨s1, G1, a, b, ?_, .segSuspOut hs r⟩
    show List.all (_ ++ _) retF = true
    rw [List.all_append, Bool.and_eq_true]
    exact ⟨d, hf⟩
  | segSuspGen hs _ _ _ _ _ =>
    rintro s0 G rfl hr hf
    rw [no_gen hf] at hs
    cases hs
theorem wakes_sim {M : Model} {g : Nat} {X : GenState} {G : Array GenState} {Γ : Ctx} {p : Pos} {g' : Nat} {r : Resume} {s0 s' : Shared} {res : GenResult} (h : Wakes M Γ p g' r { s0 with gens := G } res s') (hr : Asl g X G s0) :
    ∃ s0' G', s' = { s0' with gens := G' } ∧ Asl g X G' s0' ∧ Wakes M Γ p g' r s0 res s0' := by
  unfold Wakes at h
  split at h
  · exact h.elim
  · rename_i c hc
    obtain ⟨e, hc'⟩ := hr.free hc rfl
    split at h
    · obtain ⟨e₁, s₁, h1, h2, h3, rfl⟩ := h
      obtain ⟨s2, G2, rfl, b, d, r⟩ := runs_sim (g := g) h1 (s0.setGen g' .running) (G.setIfInBounds g' .running) rfl (hr.set e trivial) rfl
      refine ⟨s2.setGen g' e₁.genState, G2.setIfInBounds g' e₁.genState, rfl, b.set e (ngS_of d), ?_⟩
      unfold Wakes
      rw [hc']
      exact ⟨e₁, s2, r, h2, h3, rfl⟩
    · obtain ⟨h1, rfl⟩ := h
      refine ⟨s0, G, rfl, hr, ?_⟩
      unfold Wakes
      rw [hc']
      rename_i v hv
      cases v <;> first | exact absurd rfl hv | exact ⟨h1, rfl⟩
    · obtain ⟨h1, rfl⟩ := h
      refine ⟨s0.setGen g' .finished, G.setIfInBounds g' .finished, rfl, hr.set e trivial, ?_⟩
      unfold Wakes
      rw [hc']
      exact ⟨h1, rfl⟩
  · rename_i k₀ l₀ c₀ p₀ fs cl hc
    obtain ⟨e₁, s₁, h1, h2, h3, rfl⟩ := h
    have hc : G[g']? = some (.suspended k₀ l₀ c₀ p₀ fs cl) := hc
    have e := hr.ne hc (fun z => by
      subst z
      exact no_uns (m := "") h1 rfl)
    obtain ⟨x0, e0, q⟩ := hr.look hc
    rcases q with ⟨q1, q2⟩ | ⟨q1, q2, _⟩
    · cases x0 with
      | suspended _ _ _ _ _ _ =>
        cases q2
        exact (no_uns (m := "") h1 rfl).elim
      | _ => cases q1
    · subst q1
      obtain ⟨s2, G2, rfl, b, d, r⟩ := runs_sim (g := g) h1 (s0.setGen g' .running) (G.setIfInBounds g' .running) rfl (hr.set e trivial) q2
      refine ⟨s2.setGen g' e₁.genState, G2.setIfInBounds g' e₁.genState, rfl, b.set e (ngS_of d), ?_⟩
      unfold Wakes
      rw [e0]
      exact ⟨e₁, s2, r, h2, h3, rfl⟩
  · rename_i hc
    obtain ⟨h1, rfl⟩ := h
    obtain ⟨e, hc'⟩ := hr.free hc rfl
    refine ⟨s0, G, rfl, hr, ?_⟩
    unfold Wakes
    rw [hc']
    exact ⟨h1, rfl⟩
  · rename_i hc
    obtain ⟨h1, rfl⟩ := h
    obtain ⟨e, hc'⟩ := hr.free hc rfl
    refine ⟨s0, G, rfl, hr, ?_⟩
    unfold Wakes
    rw [hc']
    exact ⟨h1, rfl⟩
theorem wp_sim {α : Type} {M : Model} {Γ : Ctx} {g : Nat} {X : GenState} (t : Sem α) : ∀ (Q : α → Pos → Shared → Prop) (E : Value → Pos → Shared → Prop) (p : Pos) (s0 : Shared) (G : Array GenState), Asl g X G s0 → wp M Γ t Q E p { s0 with gens := G } →
    wp M Γ t (fun a p' s' => ∃ G', Asl g X G' s' ∧ Q a p' { s' with gens := G' }) (fun e p' s' => ∃ G', Asl g X G' s' ∧ E e p' { s' with gens := G' }) p s0 := by
  induction t with
  | pure a => intro Q E p s0 G hr h; exact ⟨G, hr, h⟩
  | raise e => intro Q E p s0 G hr h; exact ⟨G, hr, h⟩
  | unsupported _ => intro Q E p s0 G _ h; exact h
  | finish _ => intro Q E p s0 G _ h; exact h
  | rule _ k ih => intro Q E p s0 G hr h; exact ih () Q E p s0 G hr h
  | «at» p' k ih => intro Q E p s0 G hr h; exact ih () Q E p' s0 G hr h
  | load a _ k ih => intro Q E p s0 G hr h; obtain ⟨o, ho, h⟩ := h; exact ⟨o, ho, ih o Q E p s0 G hr h⟩
  | update a _ f k ih => intro Q E p s0 G hr h; exact ⟨h.1, ih () Q E p { s0 with heap := s0.heap.update a f } G hr.heap h.2⟩
  | loadIfAlive a k ih => intro Q E p s0 G hr h; exact ih _ Q E p s0 G hr h
  | point _ k ih => intro Q E p s0 G hr h; exact ih () Q E p s0 G hr h
  | register _ _ => intro Q E p s0 G _ h; exact h
  | alloc o k ih => intro Q E p s0 G hr h; exact ih _ Q E p { s0 with heap := s0.heap.push o } G hr.heap h
  | fresh k ih => intro Q E p s0 G hr h; exact ih _ Q E p { s0 with toks := s0.toks + 1 } G ⟨hr.sz, hr.all, hr.at0, hr.at1, hr.su⟩ h
  | ask k ih => intro Q E p s0 G hr h; exact ih _ Q E p s0 G hr h
  | choose src m k ih => intro Q E p s0 G hr h; exact ⟨h.1, ih _ Q E p { s0 with drawn := s0.drawn.bump src } G ⟨hr.sz, hr.all, hr.at0, hr.at1, hr.su⟩ h.2⟩
  | os q _ k ih => intro Q E p s0 G hr h; exact ih _ Q E p { s0 with os := (Os.step s0.os q).1 } G ⟨hr.sz, hr.all, hr.at0, hr.at1, hr.su⟩ h
  | call c hd _ _ k ih =>
    intro Q E p s0 G hr h
    obtain ⟨r, s', hrr, h⟩ := h
    obtain ⟨s1, G1, rfl, b, d, hr'⟩ := runs_sim hrr s0 G rfl hr rfl
    exact ⟨r, s1, hr', ih r Q E p s1 G1 b h⟩
  | handled own k ih => intro Q E p s0 G hr h; exact ih _ Q E p s0 G hr h
  | genState g' k ih =>
    intro Q E p s0 G hr h
    obtain ⟨st, hs, h⟩ := h
    obtain ⟨x0, e0, q⟩ := hr.look hs
    refine ⟨x0, e0, ?_⟩
    rcases q with ⟨_, z⟩ | ⟨z, _⟩
    · rw [z, poi_seen] at h
      exact ih _ Q E p s0 G hr h
    · rw [z] at h
      exact ih _ Q E p s0 G hr h
  | newGen c k ih =>
    intro Q E p s0 G hr h
    have h : wp M Γ (k G.size) Q E p { s0 with gens := G.push (.fresh c) } := h
    have e : G.size = s0.gens.size := hr.sz
    rw [e] at h
    exact ih _ Q E p { s0 with gens := s0.gens.push (.fresh c) } (G.push (.fresh c)) (hr.push trivial) h
  | resume g' r _ k ih =>
    intro Q E p s0 G hr h
    obtain ⟨res, s', hw, h⟩ := h
    obtain ⟨s1, G1, rfl, b, hw'⟩ := wakes_sim hw hr
    exact ⟨res, s1, hw', ih res Q E p s1 G1 b h⟩
  | yield _ _ _ _ => intro Q E p s0 G _ h; exact h
  | stack k ih => intro Q E p s0 G hr h; exact ih _ Q E p s0 G hr h
  | fork _ _ => intro Q E p s0 G _ h; exact h
  | thread k ih => intro Q E p s0 G hr h; exact ih _ Q E p s0 G hr h
  | await _ _ _ _ _ => intro Q E p s0 G _ h; exact h
/-- what runs while g sleeps: told of a state where none that sleeps may be woken, it holds where they sleep, and g sleeps on -/
theorem wpAny_sim {α : Type} {M : Model} {A : Around} {g : Nat} {X : GenState} {G : Array GenState} {t : Sem α} {Q : α → Shared → Prop} {E : Value → Shared → Prop} {s : Shared} (hr : Asl g X G s) (h : wpAny M A t Q E { s with gens := G }) :
    wpAny M A t (fun a s' => ∃ G', Asl g X G' s' ∧ Q a { s' with gens := G' }) (fun e s' => ∃ G', Asl g X G' s' ∧ E e { s' with gens := G' }) s :=
  fun Γ p hΓ => wp_sim t _ _ p s G hr (h Γ p hΓ)
/-- at the beginning: all that sleep -/
theorem asl_all {g : Nat} {X : GenState} {s : Shared} (hg : s.gens[g]? = some X) (hs : isS X = true) : Asl g X (s.gens.map poi) s := by
  refine ⟨Array.size_map, fun i x e => ?_, hg, by rw [Array.getElem?_map, hg]; rfl, hs⟩
  have q : (s.gens.map poi)[i]? = some (poi x) := by rw [Array.getElem?_map, e]; rfl
  cases h : isS x with
  | true => exact .inl ⟨rfl, q⟩
  | false =>
    rw [poi_same h] at q
    exact .inr ⟨q, ng_of h⟩
theorem bare_map {s : Shared} (h : AllBare s.gens) : AllBare (s.gens.map poi) := fun x hx => by
  obtain ⟨y, hy, rfl⟩ := Array.mem_map.mp hx
  rw [poi_bare]
  exact h y hy
theorem Asl.bare {g : Nat} {X : GenState} {G : Array GenState} {s : Shared} (r : Asl g X G s) (h : AllBare G) : AllBare s.gens := fun x hx => by
  obtain ⟨i, hi⟩ := Array.mem_iff_getElem?.mp hx
  rcases r.all i x hi with ⟨_, q⟩ | ⟨q, _⟩
  · have := h _ (Array.mem_of_getElem? q)
    rw [poi_bare] at this
    exact this
  · exact h _ (Array.mem_of_getElem? q)
end Wg

/-! a generator's frame, seen from a later state of its consumer: its context is told anew, as if the call had just begun -/
namespace Wg
open PySem PySem.Spec PyProof.Rows L2
/-- the first L things of a heap -/
def trunc (L : Nat) (h : Heap) : Heap := { h with objs := h.objs.extract 0 L }
theorem extract_get {α : Type} {a : Array α} {L b : Nat} (hb : b < L) : (a.extract 0 L)[b]? = a[b]? := by
  rw [Array.getElem?_extract]
  by_cases q : b < a.size
  · rw [if_pos (by omega), Nat.zero_add]
  · rw [if_neg (by omega), Array.getElem?_eq_none (by omega)]
theorem extract_size {α : Type} {a : Array α} {L : Nat} : (a.extract 0 L).size = min L a.size := by
  rw [Array.size_extract]
  omega
theorem trunc_lt {L : Nat} {h : Heap} {b : Addr} (hb : b < L) : (trunc L h).get? b = h.get? b := by
  unfold Heap.get? trunc
  dsimp only
  rw [extract_get hb]
theorem trunc_some {L : Nat} {h : Heap} {b : Addr} {o : Obj} (e : (trunc L h).get? b = some o) : b < L ∧ h.get? b = some o := by
  have hl : b < (h.objs.extract 0 L).size := Heap.lt_size e
  rw [extract_size] at hl
  have hb : b < L := Nat.lt_of_lt_of_le hl (Nat.min_le_left _ _)
  rw [trunc_lt hb] at e
  exact ⟨hb, e⟩
theorem trunc_size {L : Nat} {h : Heap} (hl : L ≤ h.objs.size) : (trunc L h).objs.size = L := by
  show (h.objs.extract 0 L).size = _
  rw [extract_size]
  exact Nat.min_eq_left hl
/-- the context told anew -/
def re (X : Cx) (s : Shared) (H : Hp) : Cx := { X with s_0 := { s with heap := trunc X.s_0.heap.objs.size s.heap }, H_0 := H }
theorem re_re {X : Cx} {s s' : Shared} {H H' : Hp} (hl : X.s_0.heap.objs.size ≤ s.heap.objs.size) : re (re X s H) s' H' = re X s' H' := by
  unfold re
  dsimp only
  rw [trunc_size hl]
/-- X is the context of a generator's frame that Xc's frame has called -/
structure Sub (Xc X : Cx) : Prop where
  prog : X.prog = Xc.prog
  w : X.w = Xc.w
  base : X.base = Xc.base
  outer : X.outer = Xc.stack
  ex : X.ex = []
  cells : ∀ x, X.env.cells.lookup x = none
  young : Xc.s_0.heap.objs.size ≤ X.s_0.heap.objs.size
theorem Sub.re {Xc X : Cx} (h : Sub Xc X) {s : Shared} {H : Hp} (hl : X.s_0.heap.objs.size ≤ s.heap.objs.size) : Sub Xc (re X s H) :=
  ⟨h.prog, h.w, h.base, h.outer, h.ex, h.cells, by
    show _ ≤ (trunc X.s_0.heap.objs.size s.heap).objs.size
    rw [trunc_size hl]
    exact h.young⟩
/-- it goes on from the consumer's state: its own things have stayed -/
theorem resume {Xc X : Cx} {ip pc ip' : List (Addr × Obj)} {σ σc : L2.St} {H H' : Hp} {s s' : Shared} {oL : Obj} (S : Sub Xc X) (I : Inv X ip σ H s) (Ic : Inv Xc pc σc H' s')
    (hL : s.heap.get? X.env.locals = some oL) (pL : (X.env.locals, oL) ∈ pc) (hp : ∀ p ∈ X.pn ++ ip', p ∈ Xc.pn ++ pc ∧ p.1 ≠ X.env.locals) (old : ∀ b ∈ frs Xc.stack, b < X.s_0.heap.objs.size) : Inv (re X s' H') ip' σ H' s' := by
  obtain ⟨e1, e2, e3, e4, e5, e6, e7⟩ := S
  have e6' : ∀ {x c}, X.env.cells.lookup x = some c → False := fun {x c} z => by
    rw [e6] at z
    cases z
  have le := I.ok.above
  have pLc := Ic.pin _ (List.mem_append_right _ pL)
  have szL : X.s_0.heap.objs.size ≤ s'.heap.objs.size := Nat.le_trans le (Nat.le_of_lt (Heap.lt_size pLc.1))
  have fsX : X.fs = frs Xc.stack := by show frs X.outer = _; rw [e4]
  have pin : ∀ p ∈ X.pn ++ ip', s'.heap.get? p.1 = some p.2 ∧ H' p.1 = none ∧ p.1 ≠ X.env.locals ∧ p.1 ∉ X.fs ∧ ∀ v, p.2.data ≠ .cell v := fun p m => by
    obtain ⟨m1, ne⟩ := hp p m
    obtain ⟨q1, q2, q3, q4, q5⟩ := Ic.pin p m1
    refine ⟨q1, q2, ne, ?_, q5⟩
    rw [fsX]
    intro z
    rcases List.mem_cons.mp (Ic.stkSub _ z) with y | y
    · exact q3 y
    · exact q4 y
  refine ⟨⟨I.ok.mod, I.ok.kind, I.ok.glob, I.ok.blt, ?_, I.ok.inj, I.ok.has, fun x c _ h => ?_, I.ok.hd, I.ok.frames, I.ok.stk, I.ok.exf, fun b o e => ?_, ?_, I.ok.noex, I.ok.exfs, ?_, fun b hb => ?_⟩, rfl, Ic.bare, ?_, ?_, fun x c h => ?_, pLc.2.1, fun x c h => ?_, pin, ?_, I.len⟩
  · show (trunc X.s_0.heap.objs.size s'.heap).objs.size ≤ _
    rw [trunc_size szL]
    exact le
  · exact (e6' h).elim
  · have e : Xc.base.get? b = some o := by rw [← e3]; exact e
    have hb : b < X.s_0.heap.objs.size := by
      have z := I.ok.bsz
      rw [e3] at z
      exact Nat.lt_of_lt_of_le (Heap.lt_size e) z
    refine ⟨?_, (Ic.bs b o e).2⟩
    show (trunc _ _).get? b = _
    rw [trunc_lt hb]
    exact Ic.bk b o e
  · show _ ≤ (trunc X.s_0.heap.objs.size s'.heap).objs.size
    rw [trunc_size szL]
    exact I.ok.bsz
  · show (trunc X.s_0.heap.objs.size s'.heap).FunFrames X.base X.outer
    have all : ∀ l : List Env, (∀ b ∈ frs l, b < X.s_0.heap.objs.size) → s'.heap.FunFrames X.base l → (trunc X.s_0.heap.objs.size s'.heap).FunFrames X.base l := by
      intro l
      induction l with
      | nil => intro _ _; trivial
      | cons env r ih =>
        intro hs hl
        obtain ⟨hk, ⟨L, o, hf, hn, ho, hd⟩, hr⟩ := hl
        have hL : L < X.s_0.heap.objs.size := hs L (by unfold frs; rw [List.filterMap_cons, hf]; exact List.mem_cons_self)
        exact ⟨hk, ⟨L, o, hf, hn, by rw [trunc_lt hL]; exact ho, hd⟩, ih (fun b hb => hs b (by unfold frs at hb ⊢; rw [List.filterMap_cons, hf]; exact List.mem_cons_of_mem _ hb)) hr⟩
    rw [e3, e4]
    have z := all Xc.stack old
    rw [e3] at z
    exact z Ic.stack
  · have hb : b ∈ frs X.outer := hb
    rw [e4] at hb
    exact Ic.stkFree b hb
  · show Un X.fs X.ex H' H' (trunc _ s'.heap) s'.heap
    exact Un.kept fun b u q => (trunc_some q).2
  · obtain ⟨m, ⟨o, es, ep, ho, hd, hm⟩, lk⟩ := I.loc
    rw [hL] at ho
    cases ho
    refine ⟨m, ⟨oL, es, ep, pLc.1, hd, hm⟩, fun i x v h1 h2 h3 => ?_⟩
    obtain ⟨u, r, q⟩ := lk i x v h1 h2 h3
    refine ⟨u, r, q.imp (fun z => z) fun ⟨_, c, hc, _⟩ => ?_⟩
    exact (e6' hc).elim
  · exact (e6' h).elim
  · exact (e6' h).elim
  · show HOk X.prog X.w H' s'.heap
    rw [e1, e2]
    exact Ic.hok
/-- back from the generator: the consumer stands as it stood -/
theorem back {Xc X : Cx} {pc pk ip2 : List (Addr × Obj)} {σ2 σc : L2.St} {H' H2 : Hp} {s' s2 : Shared} (S : Sub Xc X) (Ic : Inv Xc pc σc H' s') (I2 : Inv (re X s' H') ip2 σ2 H2 s2)
    (sub : ∀ p ∈ pk, p ∈ pc) (own : ∀ p ∈ Xc.pn ++ pk, p ∈ X.pn ++ ip2) (old : ∀ b ∈ frs Xc.stack, b < X.s_0.heap.objs.size) (oL : Xc.env.locals < X.s_0.heap.objs.size) (oc : ∀ x c, Xc.env.cells.lookup x = some c → c < X.s_0.heap.objs.size) :
    Inv Xc pk σc H2 s2 := by
  obtain ⟨e1, e2, e3, e4, e5, e6, e7⟩ := S
  have Ic0 : Inv Xc pk σc H' s' := Ic.pins_of fun p m => Ic.pin p (List.mem_append_right _ (sub p m))
  have b2 : Un (frs Xc.stack) [] H' H2 (trunc X.s_0.heap.objs.size s'.heap) s2.heap := by
    have z := I2.base
    have f : (re X s' H').fs = frs Xc.stack := by show frs X.outer = _; rw [e4]
    have g : (re X s' H').ex = [] := e5
    rw [f, g] at z
    exact z
  have no : ∀ b : Addr, b ∉ ([] : List Addr) := fun b z => by cases z
  let pd : Addr → Bool := fun b => (Xc.pn ++ pk).any fun p => decide (p.1 = b)
  have hpd : ∀ b, pd b = true → ∃ p ∈ Xc.pn ++ pk, p.1 = b := fun b h => by
    obtain ⟨p, m, e⟩ := List.any_eq_true.mp h
    exact ⟨p, m, of_decide_eq_true e⟩
  let ch : List Addr := (List.range s'.heap.objs.size).filter fun b => decide (X.s_0.heap.objs.size ≤ b) && !pd b
  have hin : ∀ b ∈ ch, X.s_0.heap.objs.size ≤ b ∧ pd b = false := fun b h => by
    have z := (List.mem_filter.mp h).2
    rw [Bool.and_eq_true] at z
    exact ⟨of_decide_eq_true z.1, by simpa using z.2⟩
  have hout : ∀ (b : Addr) (o : Obj), s'.heap.get? b = some o → b ∉ ch → b < X.s_0.heap.objs.size ∨ ∃ p ∈ Xc.pn ++ pk, p.1 = b := fun b o e h => by
    by_cases q : b < X.s_0.heap.objs.size
    · exact .inl q
    · refine .inr (hpd b ?_)
      cases z : pd b with
      | true => rfl
      | false =>
        refine absurd (List.mem_filter.mpr ⟨List.mem_range.mpr (Heap.lt_size e), ?_⟩) h
        rw [z, decide_eq_true (Nat.not_lt.mp q)]
        rfl
  have at2 : ∀ (b : Addr) (o : Obj), s'.heap.get? b = some o → (∃ p ∈ Xc.pn ++ pk, p.1 = b) → s2.heap.get? b = some o ∧ H2 b = none := fun b o e ⟨p, m, q⟩ => by
    have h1 := (Ic0.pin p m).1
    obtain ⟨h2, h3, _⟩ := I2.pin p (own p m)
    rw [q] at h1 h2 h3
    rw [e] at h1
    cases h1
    exact ⟨h2, h3⟩
  refine Ic0.call' (ch := ch) I2.os ⟨fun b o e n hb hx => ?_, fun b o e n hb hx => ?_, fun b o e n hx => ?_, fun b o e hx => ?_, b2.tups, b2.frzs, b2.tbls⟩ ?_ I2.bare fun b hb => ?_
  · rcases hout b o e hx with q | q
    · exact b2.keep b o (by rw [trunc_lt q]; exact e) n hb (no b)
    · exact (at2 b o e q).1
  · exact b2.slot b o (by rw [trunc_lt (old b hb)]; exact e) n hb (no b)
  · rcases hout b o e hx with q | q
    · exact b2.free b o (by rw [trunc_lt q]; exact e) n (no b)
    · exact (at2 b o e q).2
  · rcases hout b o e hx with q | q
    · exact b2.there b o (by rw [trunc_lt q]; exact e) (no b)
    · exact ⟨o, (at2 b o e q).1⟩
  · have z : HOk X.prog X.w H2 s2.heap := I2.hok
    rw [e1, e2] at z
    exact z
  · obtain ⟨h1, h2⟩ := hin b hb
    refine ⟨.inr (Nat.le_trans e7 h1), fun z => ?_, fun x c h z => ?_, fun p m z => ?_⟩
    · rw [z] at h1
      exact absurd oL (Nat.not_lt.mpr h1)
    · have := oc x c h
      rw [z] at this
      exact absurd this (Nat.not_lt.mpr h1)
    · have : pd b = true := List.any_eq_true.mpr ⟨p, m, decide_eq_true z⟩
      rw [h2] at this
      cases this
end Wg

/-! for, if in a generator's body: the turns of its code -/
namespace Wg
open PySem
open Sem (wp)
/-- no exception leaves it -/
abbrev noE : Value → Shared → Prop := fun _ _ => False
section
variable {M : Model} {A : Around} {R : GenEnd} {Y : Protocol} {n : Nat} {s₀ : Shared} {c : Code} {fs : List Frame} {s : Shared} {env : Env}
  {K : Flow → Sem PySem.Fin} {J : Value → Sem PySem.Fin} {gd : Bool → Bool} {lv : List Value → List Value}
theorem segw_bind {α β : Type} {m : Sem α} {f : α → Sem β} {K : β → Sem PySem.Fin}
    (h : wpAny M (A.over c fs) m (fun a s' => Seg M A R Y n s₀ c ((f a).wrap K J gd lv) fs s') noE s) : Seg M A R Y n s₀ c ((m >>= f).wrap K J gd lv) fs s :=
  seg_bind_wrap (wpAny_mono h (fun _ _ z => z) fun _ _ z => z.elim)
theorem seg_For {target iter : Expr} {body : List Stmt} {pos : Pos} (hs : ∀ x, foldedSetIterable iter env x = pure x)
    (h : wpAny M (A.over c fs) (eval iter env) (fun x s1 => wpAny M (A.over c fs) (pyIter x) (fun it s2 => ∀ p, Seg M A R Y n s₀ (.forLoop target it body [] env) (M.den (.forLoop target it body [] env))
      (.ret (fun r => ((match r with | .ok f => (.pure f : Sem Flow) | .error e => .raise e).onRaise fun (x : Value) => do
        if (← field x 1) == Value.none then PySem.unsupported "frame.own-activation:exception-without-traceback"
        setFlight x env.frame).wrap K J gd lv) none (gd false) (lv []) c p [] :: fs) s2) noE s1) noE s) :
    Seg M A R Y n s₀ c ((exec (.For target iter body [] pos) env).wrap K J gd lv) fs s := by
  rw [exec_For]
  refine segw_bind (wpAny_standAt ?_)
  refine segw_bind (wpAny_mono h (fun x s1 h1 => ?_) fun _ _ z => z)
  rw [hs x]
  refine segw_bind (wpAny_pure ?_)
  refine segw_bind (wpAny_standAt ?_)
  refine segw_bind (wpAny_holding (wpAny_mono h1 (fun it s2 h2 => ?_) fun _ _ z => z))
  exact seg_call h2
end
section
variable {prog : Program} {w : World} {A : Around} {R : GenEnd} {Y : Protocol} {n : Nat} {s₀ : Shared} {fs : List Frame} {s : Shared} {env : Env}
theorem seg_block_nil (h : Seg (model prog w) A R Y n s₀ (.block [] env) (.pure (.done .next)) fs s) : Seg (model prog w) A R Y n s₀ (.block [] env) ((model prog w).den (.block [] env)) fs s := h
theorem seg_forLoop {target : Expr} {it : Value} {body : List Stmt}
    (h : wpAny (model prog w) (A.over (.forLoop target it body [] env) fs) (pyNext it) (fun r s1 => match r with
      | none => Seg (model prog w) A R Y n s₀ (.block [] env) (.pure (.done .next)) fs s1
      | some v => wpAny (model prog w) (A.over (.forLoop target it body [] env) fs) (letOwnedTupleGo target it v) (fun _ s2 => wpAny (model prog w) (A.over (.forLoop target it body [] env) fs) (assign target env v) (fun _ s3 =>
          Seg (model prog w) A R Y n s₀ (.forLoop target it body [] env) ((execs body env).wrap (fun f => match f with
            | .next | .cont => .pure (.again (.forLoop target it body [] env))
            | .brk => .pure (.done .next)
            | .ret v => .pure (.done (.ret v))) (fun e => (do noteFrame e env; theTreesLotGoes e : Sem Unit).wrap (fun _ => .raise e) .raise id id) id id) fs s3) noE s2) noE s1) noE s) :
    Seg (model prog w) A R Y n s₀ (.forLoop target it body [] env) ((model prog w).den (.forLoop target it body [] env)) fs s := by
  show Seg _ A R Y n s₀ _ ((forTurn target it body [] env).onRaise (fun x => do noteFrame x env; theTreesLotGoes x)) fs s
  unfold forTurn
  rw [Sem.onRaise_eq_wrap]
  refine segw_bind (wpAny_standAt ?_)
  refine segw_bind (wpAny_onRaise (wpAny_mono h (fun r s1 h1 => ?_) fun _ _ z => z.elim))
  cases r with
  | none => exact seg_again rfl (seg_block_nil h1)
  | some v =>
    refine segw_bind (wpAny_mono h1 (fun _ s2 h2 => ?_) fun _ _ z => z)
    refine segw_bind (wpAny_mono h2 (fun _ s3 h3 => ?_) fun _ _ z => z)
    rw [Sem.bind_eq_wrap', Sem.wrap_wrap]
    rw [Sem.wrap_congr (execs body env) _ _ (K' := fun f => match f with
            | .next | .cont => .pure (.again (.forLoop target it body [] env))
            | .brk => .pure (.done .next)
            | .ret v => .pure (.done (.ret v))) (H' := (fun e => (do noteFrame e env; theTreesLotGoes e : Sem Unit).wrap (fun _ => .raise e) .raise id id))
        (fun f => by cases f <;> rfl)
        (fun e => by first | exact Sem.bind_eq_wrap _ _ | (show (do noteFrame e env; theTreesLotGoes e : Sem Unit).bind (fun _ => .raise e) = _; rw [Sem.bind_eq_wrap]))]
    exact h3
end
end Wg

/-! a new thing is shared from now on -/
namespace Wl
open PySem PySem.Spec PyProof.Rows L2 Cb
def Wd.shr (A : Wd) (a : Addr) : Wd := ⟨A.gs ++ [a], A.ls, A.F⟩
def Hw.shr (h : Hw) (o : Ob) : Hw := ⟨h.g ++ [o], h.l⟩
section
variable {K : PySem.W.Frag} {A B C : Wd} {h h1 h2 : Hw} {H H1 H2 : Hp}
theorem trg_nameM {i : Nat} {vs : List Nat} (m : i ∈ vs) : TrG K (gName i) vs (bName i) := ⟨fun {w v A h H σ σ' τ Q} wr r rs e k => by
  cases e
  exact k _ (rs.set i (.of r)) (wipe_set m)⟩
theorem snoc_old {gs : List Addr} {a : Addr} {n : Nat} {b : Addr} (e : gs[n]? = some b) : (gs ++ [a])[n]? = some b := by
  rw [List.getElem?_append_left (List.getElem?_eq_some_iff.mp e).1]
  exact e
theorem adopt_g {a : Addr} {ob : Ob} (e : Ext A h H B h1 H1) (w : WR K B h1 H1) (n : H a = none) (o : Off B a) (r : RO K B.gs B.F H1 ob a) : Ext A h H (B.shr a) (h1.shr ob) H1 ∧ WR K (B.shr a) (h1.shr ob) H1 := by
  have st : Stay B.F B.F H1 H1 := ⟨fun _ f => f, fun _ _ _ e => e, fun _ _ e => e, fun _ _ _ e => e⟩
  have lv : ∀ b, Liv (B.shr a) (h1.shr ob) b → Liv B h1 b ∨ b = a := by
    rintro b ⟨i, y, hy, ⟨q, z⟩ | ⟨q, z⟩⟩
    · rcases snoc_at q with q | ⟨q, e⟩
      · rcases snoc_at z with z | ⟨z, _⟩
        · exact .inl ⟨i, y, hy, .inl ⟨q, z⟩⟩
        · have := (List.getElem?_eq_some_iff.mp q).1
          have := w.gl
          omega
      · exact .inr e
    · exact .inl ⟨i, y, hy, .inr ⟨q, z⟩⟩
  refine ⟨⟨fun i b q => snoc_old (e.gs _ _ q), e.ls, e.kp, e.th, e.fs, e.fn, fun b q => ?_, fun b m => ?_, e.ln⟩, ⟨?_, w.ll, fun i b y q z => ?_, fun i b y q z => (w.lc i b y q z).mono st (fun _ _ q => snoc_old q) fun _ e => e, ?_, fun b q f => ?_, w.ft⟩⟩
  · rcases lv b q with z | z
    · exact e.lv b z
    · exact .inr (z ▸ n)
  · rcases List.mem_append.mp m with m | m
    · exact e.gn b m
    · rw [List.mem_singleton.mp m]
      exact .inr n
  · show (B.gs ++ [a]).length = (h1.g ++ [ob]).length
    rw [List.length_append, List.length_append, w.gl]
    rfl
  · rcases snoc_at q with q | ⟨q, e⟩
    · rcases snoc_at z with z | ⟨z, _⟩
      · exact (w.gc i b y q z).mono st (fun _ _ q => snoc_old q) fun _ e => e
      · have := (List.getElem?_eq_some_iff.mp q).1
        have := w.gl
        omega
    · subst e
      rcases snoc_at z with z | ⟨_, z⟩
      · have := (List.getElem?_eq_some_iff.mp z).1
        have := w.gl
        omega
      · rw [z]
        exact r.mono st (fun _ _ q => snoc_old q) fun _ e => e
  · show ((B.gs ++ [a]) ++ B.ls).Nodup
    have nd := w.nd
    have h1 := (List.nodup_append.mp nd).1
    have h2 := (List.nodup_append.mp nd).2.1
    have h3 := (List.nodup_append.mp nd).2.2
    refine List.nodup_append.mpr ⟨List.nodup_append.mpr ⟨h1, by simp, fun b m c m' e => ?_⟩, h2, fun b m c m' e => ?_⟩
    · rw [List.mem_singleton.mp m'] at e
      exact o.g (e ▸ m)
    · subst e
      rcases List.mem_append.mp m with m | m
      · exact h3 b m b m' rfl
      · rw [List.mem_singleton.mp m] at m'
        exact o.l m'
  · rcases lv b q with z | z
    · exact w.nf b z f
    · exact o.f (z ▸ f)
end
end Wl

/-! from the promise of the law's def over values to the walk -/
namespace Wl
open PySem PySem.Spec PyProof.Rows L2 Cb
section
variable {P : Program} {w : World} {K : PySem.W.Frag} {mg mb : Str → Option Value} {k : Nat} {fa a : Addr} {fd : FuncData} {x : Str} {sp : Sp} {s : Shared} {vs : List Value} {ns : List Int}
theorem callW (KX : K.In s.heap) (hns : s.heap.Ns mainGlobals mg) (hb : s.heap.Ns builtinsNs mb) (hbb : ∀ x : Str, x ≠ "__name__" → mb x = bootBuiltins x) (hlim : s.heap.NoLimit) (hg : s.gens = #[])
    (ha : s.heap.get? a = some { cls := .type "list", data := .seq vs.toArray }) (hi : IntsAre vs ns) (hl : ns.length ≤ sizeLine) (hr : Room k callerA)
    (F : ∀ base : Heap, K.In base → base.Ns mainGlobals mg → FnG P w K mg base k fa fd [x] sp) (bnd : ∀ (s : Shared) (u : Value), BindsTo s fd ⟨[u], []⟩ [(x, u)])
    (want : ∀ H : Hp, ScL K H a (ns.map V.int) → sp [.ref a] H (fun v _ => v = .bl true) E0) :
    codeAny (model P w) callerA (.call (.ref fa) ⟨[.ref a], []⟩) (fun r s' => r = .ok (.ret (.bool true)) ∧ OldK s.heap s'.heap ∧ s'.os = s.os ∧ AllBare s'.gens) s := by
  have rel := vals_ints hi
  have len := hi.length
  cases q : K.lookup a with
  | some o =>
    have e := KX a o q
    rw [ha] at e
    cases e
    refine coreG (H := fun _ => none) KX hns hb hbb hlim hg ha (fun _ _ => rfl) (fun z => absurd rfl z) (fun o z => by cases z) (fun b u z => by
      have z : (none : Option HO) = some u := z
      cases z) hr F bnd (want _ (.inr ⟨_, vs.toArray, _, q, rfl, rfl, rfl, ?_, ?_⟩))
    · rw [List.size_toArray, len]
      exact hl
    · simpa using rel
  | none =>
    let H : Hp := fun b => if b = a then some (.frz { cls := .type "list", data := .seq vs.toArray } (.lst (ns.map V.int))) else none
    have Ha : H a = some (.frz { cls := .type "list", data := .seq vs.toArray } (.lst (ns.map V.int))) := if_pos rfl
    refine coreG (H := H) KX hns hb hbb hlim hg ha (fun b n => if_neg n) (fun _ => q) (fun o z => ?_) (fun b u z => ?_) hr F bnd (want _ (.inl ⟨_, Ha⟩))
    · rw [Ha] at z
      cases z
      exact ⟨_, _, rfl⟩
    · by_cases hba : b = a
      · subst hba
        rw [Ha] at z
        cases z
        refine ⟨ha, ?_, vs, _, rel, ha⟩
        rw [List.length_map]
        exact hl
      · rw [show H b = none from if_neg hba] at z
        cases z
end
theorem walkW {l : PySem.W.OpenLaw} {n k : Nat} {q : Program} {loose : List Str} {XP : (Str → Option Value) → Heap → Prop} {YP : World → Heap → Prop} {d : DefRec} {K : Params → PySem.W.Frag} {sp : World → Sp} {x : Str}
    (hn : l.most = some n) (hn2 : n ≤ sizeLine) (hdf : d.params.defaults = []) (hr : Room k callerA) (hY : ∀ (w : World) (h : Heap), YP w h → (K w.params).In h)
    (F : ∀ (w : World) (mg : Str → Option Value) (fa : Addr) (h : Heap), (K w.params).In h → h.Ns mainGlobals mg → mg d.name = some (.ref fa) →
      ∃ fd : FuncData, (∀ (s : Shared) (u : Value), BindsTo s fd ⟨[u], []⟩ [(x, u)]) ∧ ∀ base : Heap, (K w.params).In base → base.Ns mainGlobals mg → FnG l.prog w (K w.params) mg base k fa fd [x] (sp w))
    (want : ∀ (w : World) (H : Hp) (a : Addr) (ns : List Int), ns.length ≤ n → ScL (K w.params) H a (ns.map V.int) → sp w [.ref a] H (fun v _ => v = .bl true) E0) : PySem.W.WalkO q loose XP YP l.row.toRowW d [] (fun f vs => PySem.call f vs) := by
  apply Att.attach_call hn hdf
  intro w s₀ s₁ mg mb fa o pm cd doc a vs ns G Y ho hd hcd hmg hobj hints hlen hg
  have KX := hY w _ Y
  obtain ⟨fd, bnd, hF⟩ := F w mg fa _ KX G.T.g hmg
  exact callW KX G.T.g G.T.b G.T.builtins G.T.nolimit hg hobj hints (Nat.le_trans hlen hn2) hr hF bnd fun H hS => want w H a ns hlen hS
/-- what is asked of the law's own def, over values -/
def c_lawW : CW := fun ws g Q => ∃ ns : List Int, ws = [.scr ns] ∧ ∀ g', Q (.dat (.bool true)) g'
theorem want_law {K : PySem.W.Frag} {H : Hp} {a : Addr} {ns : List Int} (hS : ScL K H a (ns.map V.int)) : spW K c_lawW [.ref a] H (fun v _ => v = .bl true) E0 :=
  ⟨.pure fun _ => False, [], [.scr ns], fun w _ => w = .dat (.bool true), wr_pure (fun _ f => f.elim), .cons (.scr hS) .nil, ⟨ns, rfl, fun _ => rfl⟩, fun w g' e B H' v _ _ rv => by
    subst e
    cases rv with
    | dat r =>
      cases r
      rfl⟩
end Wl

/-! a generator's body over values: what lies between two items, the consumer's state at each -/
namespace Wg
open PySem PySem.Spec PyProof.Rows L2 Cb Wl
abbrev hh : Hw := ⟨[], []⟩
/-- what the consumer tells: Xc its context, pk its own pins, N how many items, it what they are, C i PG F s H: it stands at s with H before it asks for item i; PG the generator's things, F what values lean on -/
structure Con where
  Xc : Cx
  X0 : Cx
  pk : List (Addr × Obj)
  N : Nat
  it : Nat → W → Prop
  C : Nat → List (Addr × Obj) → (Addr → Prop) → Shared → Hp → Prop
structure ConOk (G : Con) : Prop where
  sub : Sub G.Xc G.X0
  nox : ∀ e s, ¬ G.X0.xe e s
  old : ∀ b ∈ frs G.Xc.stack, b < G.X0.s_0.heap.objs.size
  oL : G.Xc.env.locals < G.X0.s_0.heap.objs.size
  oc : ∀ x c, G.Xc.env.cells.lookup x = some c → c < G.X0.s_0.heap.objs.size
  inv : ∀ i PG F s H, G.C i PG F s H → (∃ σc, Inv G.Xc (G.pk ++ PG) σc H s) ∧ WR G.X0.K (.pure F) hh H ∧ G.X0.s_0.heap.objs.size ≤ s.heap.objs.size
  kin : G.X0.K = G.Xc.K
/-- an item is handed out -/
def YG (G : Con) : Protocol := fun n s₀ v s1 kap => ∃ (i : Nat) (PG : List (Addr × Obj)) (F : Addr → Prop) (H' : Hp) (ip : List (Addr × Obj)) (F2 : Addr → Prop) (x : V) (τ : L2.St) (H : Hp) (oL : Obj) (w : W),
  i + n + 1 = G.N ∧ G.C i PG F s₀ H' ∧ Inv (re G.X0 s₀ H') (G.Xc.pn ++ G.pk ++ ip) τ H s1 ∧ s1.heap.get? G.X0.env.locals = some oL ∧ RelV x v ∧ Ext (.pure F) hh H' (.pure F2) hh H ∧ WR G.X0.K (.pure F2) hh H ∧ RV G.X0.K [] F2 H w x ∧ G.it i w ∧
  ∀ s'' H'' F'', G.C (i + 1) ((G.X0.env.locals, oL) :: (G.X0.pn ++ ip)) F'' s'' H'' → Stay F2 F'' H H'' → kap (.send .none) s''
/-- the end -/
def RG (G : Con) : GenEnd := fun n s₀ r s => match r with
  | .ok (.ret u) => u = .none ∧ ∃ (PG : List (Addr × Obj)) (F : Addr → Prop) (H' : Hp) (ip : List (Addr × Obj)) (F2 : Addr → Prop) (τ : L2.St) (H : Hp), G.C G.N PG F s₀ H' ∧ Inv (re G.X0 s₀ H') (G.Xc.pn ++ G.pk ++ ip) τ H s ∧ Ext (.pure F) hh H' (.pure F2) hh H ∧ WR G.X0.K (.pure F2) hh H
  | _ => False
/-- running between two items -/
structure Mid (G : Con) (i n : Nat) (s₀ s : Shared) (σ : Sw) (ip : List (Addr × Obj)) (PG : List (Addr × Obj)) (F : Addr → Prop) (H' : Hp) (F2 : Addr → Prop) (τ : L2.St) (H : Hp) (B0 : Addr → Prop) (Hb : Hp) : Prop where
  num : i + n = G.N
  c : G.C i PG F s₀ H'
  inv : Inv (re G.X0 s₀ H') (G.Xc.pn ++ G.pk ++ ip) τ H s
  ext : Ext (.pure F) hh H' (.pure F2) hh H
  wr : WR G.X0.K (.pure F2) hh H
  rs : RS G.X0.K (.pure F2) H σ τ
  st : Stay B0 F2 Hb H
def Run (G : Con) (i n : Nat) (s₀ s : Shared) (σ : Sw) (ip : List (Addr × Obj)) (B0 : Addr → Prop) (Hb : Hp) : Prop := ∃ PG F H' F2 τ H, Mid G i n s₀ s σ ip PG F H' F2 τ H B0 Hb
/-- what is wanted behind a statement -/
structure EnG where
  nx : Nat → Sw → Prop
  rt : Nat → Prop := fun _ => False
  bk : Nat → Sw → Prop := fun _ _ => False
  ct : Nat → Sw → Prop := fun _ _ => False
abbrev TYW := EnG → Nat → Sw → Prop
def Flw (G : Con) (D : EnG) (ip : List (Addr × Obj)) (B0 : Addr → Prop) (Hb : Hp) (n i : Nat) (s₀ s : Shared) (f : Flow) : Prop := match f with
  | .next => ∃ σ, Run G i n s₀ s σ ip B0 Hb ∧ D.nx i σ
  | .brk => ∃ σ, Run G i n s₀ s σ ip B0 Hb ∧ D.bk i σ
  | .cont => ∃ σ, Run G i n s₀ s σ ip B0 Hb ∧ D.ct i σ
  | .ret u => u = .none ∧ ∃ σ, Run G i n s₀ s σ ip B0 Hb ∧ D.rt i
/-- where its code stands -/
structure At (G : Con) (A : Around) (c : Code) (fs : List Frame) (gd : Bool → Bool) : Prop where
  over : A.over c fs = G.X0.A
  split : splitAtGen fs = none
  guard : fs.any Frame.guarded = false
  gd : gd false = false
/-- what follows -/
def Nxt (G : Con) (A : Around) (c : Code) (fs : List Frame) (K : Flow → Sem PySem.Fin) (D : EnG) (ip : List (Addr × Obj)) (B0 : Addr → Prop) (Hb : Hp) : Prop := ∀ n i s₀ s f, Flw G D ip B0 Hb n i s₀ s f → Seg (model G.X0.prog G.X0.w) A (RG G) (YG G) n s₀ c (K f) fs s
structure TY (G : Con) (st : Stmt) (t : TYW) : Prop where
  run : ∀ {A : Around} {c : Code} {fs : List Frame} {K : Flow → Sem PySem.Fin} {J : Value → Sem PySem.Fin} {gd : Bool → Bool} {lv : List Value → List Value} {n i : Nat} {s₀ s : Shared} {σ : Sw} {ip : List (Addr × Obj)} {D : EnG} {B0 : Addr → Prop} {Hb : Hp},
    At G A c fs gd → Nxt G A c fs K D ip B0 Hb → Run G i n s₀ s σ ip B0 Hb → t D i σ → Seg (model G.X0.prog G.X0.w) A (RG G) (YG G) n s₀ c ((exec st G.X0.env).wrap K J gd lv) fs s
structure TYs (G : Con) (sts : List Stmt) (t : TYW) : Prop where
  run : ∀ {A : Around} {c : Code} {fs : List Frame} {K : Flow → Sem PySem.Fin} {J : Value → Sem PySem.Fin} {gd : Bool → Bool} {lv : List Value → List Value} {n i : Nat} {s₀ s : Shared} {σ : Sw} {ip : List (Addr × Obj)} {D : EnG} {B0 : Addr → Prop} {Hb : Hp},
    At G A c fs gd → Nxt G A c fs K D ip B0 Hb → Run G i n s₀ s σ ip B0 Hb → t D i σ → Seg (model G.X0.prog G.X0.w) A (RG G) (YG G) n s₀ c ((execs sts G.X0.env).wrap K J gd lv) fs s
section
variable {G : Con} {st : Stmt} {sts body els : List Stmt} {t u : TYW} {e : Expr} {pos yp : Pos}
def sYEnd : TYW := fun D i σ => D.nx i σ
theorem ty_nil : TYs G [] sYEnd := ⟨fun g k r h => seg_execs_nil (k _ _ _ _ .next ⟨_, r, h⟩)⟩
def sYThen (t u : TYW) : TYW := fun D i σ => t { D with nx := u D } i σ
theorem ty_cons (a : TY G st t) (b : TYs G sts u) : TYs G (st :: sts) (sYThen t u) := ⟨fun {A c fs K J gd lv n i s₀ s σ ip D B0 Hb} g k r h => by
  refine seg_execs_cons ?_
  refine a.run (D := { D with nx := u D }) g (fun n' i' s₀' s' f hf => ?_) r h
  cases f with
  | next =>
    obtain ⟨σ', r', q⟩ := hf
    exact b.run g k r' q
  | brk => exact k _ _ _ _ .brk hf
  | cont => exact k _ _ _ _ .cont hf
  | ret v => exact k _ _ _ _ (.ret v) hf⟩
theorem pure_of {K : PySem.W.Frag} {B : Wd} {H : Hp} (w : WR K B hh H) : B = .pure B.F := by
  obtain ⟨gs, ls, F⟩ := B
  have h1 : gs = [] := List.length_eq_zero_iff.mp w.gl
  have h2 : ls = [] := List.length_eq_zero_iff.mp w.ll
  subst h1 h2
  rfl
theorem rs_stay {K : PySem.W.Frag} {F F' : Addr → Prop} {H H' : Hp} {σ : Sw} {τ : L2.St} (st : Stay F F' H H') (r : RS K (.pure F) H σ τ) : RS K (.pure F') H' σ τ := ⟨r.len, fun i u e => by
  obtain ⟨v, h1, h2⟩ := r.at_ i u e
  refine ⟨v, h1, ?_⟩
  cases u with
  | v w => exact RV.mono (gs := []) (gs' := []) st (fun _ _ z => z) _ _ h2
  | l n =>
    obtain ⟨a, z, _⟩ := h2
    cases z⟩
/-- yield e -/
def sYld (it : Nat → W → Prop) (N : Nat) (te : TW) : TYW := fun D i σ => i < N ∧ te σ hh fun u h1 => h1 = hh ∧ ∃ w, u = .v w ∧ it i w ∧ D.nx (i + 1) σ
theorem ty_yield {te : TW} (ok : ConOk G) (he : ∀ s H, TrE (re G.X0 s H) e te) (hco : G.X0.env.scope.isCoroutine = false := by rfl) (hi : interactive G.X0.env = false := by rfl) : TY G (.Expr (.Yield (some e) yp) pos) (sYld G.it G.N te) := ⟨fun {A c fs K J gd lv n i s₀ s σ ip D B0 Hb} g k ⟨PG, F, H', F2, τ, H, m⟩ ⟨hN, ht⟩ => by
  obtain ⟨n, rfl⟩ : ∃ m, n = m + 1 := ⟨n - 1, by have := m.num; omega⟩
  refine seg_Expr_Yield g.split g.gd g.guard ?_ hco hi
  rw [g.over]
  refine wpAny_mono (wE.run ((he s₀ H').run ht m.wr m.rs) _ s m.inv) (fun v s1 hv => ?_) fun x s' hx => (ok.nox _ _ hx).elim
  obtain ⟨x, H1, I1, rv, B, h', u, e1, w1, r1, rfl, w, rfl, hit, hk⟩ := hv
  intro kap hkap
  have eB := pure_of w1
  have r1 : RV G.X0.K B.gs B.F H1 w x := r1
  rw [eB] at e1 w1 r1
  obtain ⟨mm, ⟨oL, es, ep, hoL, hd, hm⟩, lk⟩ := I1.loc
  have rs1 : RS G.X0.K (.pure B.F) H1 σ τ := m.rs.ext m.wr e1
  refine ⟨i, PG, F, H', ip, B.F, x, τ, H1, oL, w, by have := m.num; omega, m.c, I1, hoL, rv, m.ext.trans e1, w1, r1, hit, fun s'' H'' F'' hC st => ?_⟩
  refine hkap .none s'' ?_
  obtain ⟨⟨σc, Ic⟩, wC, szC⟩ := ok.inv _ _ _ _ _ hC
  have szL := (ok.inv _ _ _ _ _ m.c).2.2
  have S := ok.sub.re (s := s₀) (H := H') szL
  have I2 := resume (ip' := G.Xc.pn ++ G.pk ++ ip) S I1 Ic hoL (List.mem_append_right _ List.mem_cons_self) (fun p hp => ?_) (fun b hb => ?_)
  · rw [re_re szL] at I2
    exact k _ (i + 1) _ _ .next ⟨σ, ⟨_, F'', H'', F'', τ, H'', ⟨by have := m.num; omega, hC, I2, .refl, wC, rs_stay st rs1, (m.st.trans (e1.stay m.wr)).trans st⟩⟩, hk⟩
  · refine ⟨?_, (I1.pin p hp).2.2.1⟩
    rcases List.mem_append.mp hp with z | z
    · exact List.mem_append_right _ (List.mem_append_right _ (List.mem_cons_of_mem _ (List.mem_append_left _ z)))
    · rcases List.mem_append.mp z with z | z
      · rcases List.mem_append.mp z with z | z
        · exact List.mem_append_left _ z
        · exact List.mem_append_right _ (List.mem_append_left _ z)
      · exact List.mem_append_right _ (List.mem_append_right _ (List.mem_cons_of_mem _ (List.mem_append_right _ z)))
  · show b < (trunc _ _).objs.size
    rw [trunc_size szL]
    exact ok.old b hb⟩
end
end Wg

/-! a generator's body over values: plain statements, if, for, return -/
namespace Wg
open PySem PySem.Spec PyProof.Rows L2 Cb Wl
section
variable {G : Con} {st : Stmt} {sts body els : List Stmt} {t u : TYW} {e test tg iter : Expr} {pos yp : Pos}
theorem wpAny_of_execs {M : Model} {A : Around} {env : Env} {Q : Flow → Shared → Prop} {E : Value → Shared → Prop} {s : Shared} (h : wpAny M A (execs [st] env) Q E s) : wpAny M A (exec st env) Q E s := fun Γ p hΓ => by
  have h := h Γ p hΓ
  rw [execs_cons] at h
  have h : Sem.wp M Γ (Sem.bind (exec st env) (fun f => match f with | Flow.next => execs [] env | f => Sem.pure f)) (fun a _ s' => Q a s') (fun e _ s' => E e s') p s := h
  rw [Sem.wp_bind] at h
  refine Sem.wp_mono M Γ _ (fun f p' s' z => ?_) (fun _ _ _ z => z) p s h
  cases f <;> exact z
/-- a statement that hands out nothing -/
def sPl (t : TSW) : TYW := fun D i σ => t { nx := fun σ' h' => h' = hh ∧ D.nx i σ', rt := fun w h' => h' = hh ∧ w = .dat .none ∧ D.rt i, bk := fun σ' h' => h' = hh ∧ D.bk i σ', ct := fun σ' h' => h' = hh ∧ D.ct i σ' } σ hh
theorem Mid.go {i n : Nat} {s₀ s s1 : Shared} {σ σ' : Sw} {ip PG : List (Addr × Obj)} {F F2 B0 : Addr → Prop} {H' H H1 Hb : Hp} {τ τ' : L2.St} {B : Wd} (m : Mid G i n s₀ s σ ip PG F H' F2 τ H B0 Hb) (I : Inv (re G.X0 s₀ H') (G.Xc.pn ++ G.pk ++ ip) τ' H1 s1) (e1 : Ext (.pure F2) hh H B hh H1) (w1 : WR G.X0.K B hh H1) (rs : RS G.X0.K B H1 σ' τ') : Run G i n s₀ s1 σ' ip B0 Hb := by
  have eB := pure_of w1
  rw [eB] at e1 w1 rs
  exact ⟨PG, F, H', B.F, τ', H1, m.num, m.c, I, m.ext.trans e1, w1, rs, m.st.trans (e1.stay m.wr)⟩
theorem ty_plain {tS : TSW} (ok : ConOk G) (h : ∀ s H, TrB (re G.X0 s H) [st] tS) : TY G st (sPl tS) := ⟨fun {A c fs K J gd lv n i s₀ s σ ip D B0 Hb} g k ⟨PG, F, H', F2, τ, H, m⟩ ht => by
  refine seg_wrap ?_
  rw [g.over]
  refine wpAny_mono (wpAny_of_execs (wB.run ((h s₀ H').run ht .refl m.wr m.rs) _ s m.inv)) (fun f s1 hf => ?_) fun x s' hx => (ok.nox _ _ hx).elim
  refine k n i s₀ s1 f ?_
  cases f with
  | next =>
    obtain ⟨τ1, H1, I1, B, h1, σ1, e1, w1, rs1, rfl, q⟩ := hf
    exact ⟨σ1, m.go I1 e1 w1 rs1, q⟩
  | brk =>
    obtain ⟨τ1, H1, I1, B, h1, σ1, e1, w1, rs1, rfl, q⟩ := hf
    exact ⟨σ1, m.go I1 e1 w1 rs1, q⟩
  | cont =>
    obtain ⟨τ1, H1, I1, B, h1, σ1, e1, w1, rs1, rfl, q⟩ := hf
    exact ⟨σ1, m.go I1 e1 w1 rs1, q⟩
  | ret v =>
    obtain ⟨x, τ1, H1, I1, rv, B, h1, w, e1, w1, r1, rfl, rfl, q⟩ := hf
    have eB := pure_of w1
    rw [eB] at e1 w1 r1
    cases r1 with
    | dat r1 =>
      cases r1
      have rv : v = Value.none := rv
      refine ⟨rv, List.replicate τ1.length none, m.go I1 e1 w1 ⟨by rw [List.length_replicate], fun j u z => ?_⟩, q⟩
      rw [List.getElem?_replicate] at z
      split at z <;> cases z⟩
/-- if -/
def sYIf (tt : TTW) (t1 t2 : TYW) : TYW := fun D i σ => tt σ hh fun b h1 => h1 = hh ∧ if b = true then t1 D i σ else t2 D i σ
theorem ty_if {tt : TTW} {t1 t2 : TYW} (ok : ConOk G) (hc : ∀ s H, TrT (re G.X0 s H) test tt) (h1 : TYs G body t1) (h2 : TYs G els t2) : TY G (.If test body els pos) (sYIf tt t1 t2) := ⟨fun {A c fs K J gd lv n i s₀ s σ ip D B0 Hb} g k ⟨PG, F, H', F2, τ, H, m⟩ ht => by
  rw [exec_If]
  refine segw_bind (wpAny_standAt ?_)
  refine seg_bind_wrap ?_
  rw [g.over]
  refine wpAny_mono (wT.run ((hc s₀ H').run ht m.wr m.rs) _ s m.inv) (fun b s1 hb => ?_) fun x s' hx => (ok.nox _ _ hx).elim
  obtain ⟨H1, I1, B, h', e1, w1, rfl, q⟩ := hb
  have r := m.go I1 e1 w1 (m.rs.ext m.wr e1)
  cases b with
  | true =>
    rw [if_pos rfl] at q ⊢
    exact h1.run g k r q
  | false =>
    rw [if_neg Bool.false_ne_true] at q ⊢
    exact h2.run g k r q⟩
end
end Wg

/-! a generator's body over values: for -/
namespace Wg
open PySem PySem.Spec PyProof.Rows L2 Cb Wl
section
variable {G : Con} {body : List Stmt} {tg iter : Expr} {pos : Pos}
theorem Mid.rebase {i n : Nat} {s₀ s : Shared} {σ : Sw} {ip PG : List (Addr × Obj)} {F F2 B0 B1 : Addr → Prop} {H' H Hb H1 : Hp} {τ : L2.St} (m : Mid G i n s₀ s σ ip PG F H' F2 τ H B1 H1) (st : Stay B0 B1 Hb H1) : Mid G i n s₀ s σ ip PG F H' F2 τ H B0 Hb :=
  ⟨m.num, m.c, m.inv, m.ext, m.wr, m.rs, st.trans m.st⟩
theorem Mid.unpin {i n : Nat} {s₀ s : Shared} {σ : Sw} {ip pa PG : List (Addr × Obj)} {F F2 B1 : Addr → Prop} {H' H H1 : Hp} {τ : L2.St} (m : Mid G i n s₀ s σ (ip ++ pa) PG F H' F2 τ H B1 H1) : Mid G i n s₀ s σ ip PG F H' F2 τ H B1 H1 := by
  have I := m.inv
  rw [← List.append_assoc] at I
  exact ⟨m.num, m.c, I.unpinned, m.ext, m.wr, m.rs, m.st⟩
def yfR (b : BW) (tb : TYW) : List W → TYW
  | [], D, i, σ => D.nx i σ
  | w :: ws, D, i, σ => ∃ σ', b w σ = some σ' ∧ tb { nx := yfR b tb ws D, rt := D.rt, ct := yfR b tb ws D, bk := D.nx } i σ'
def sYFor (ti : TIW) (b : BW) (tb : TYW) : TYW := fun D i σ => ti σ hh fun ws h1 => h1 = hh ∧ yfR b tb ws D i σ
theorem At.loop {A : Around} {c c' : Code} {fs : List Frame} {gd : Bool → Bool} {k : Result → Sem PySem.Fin} {l kp : List Value} {p : Pos} (g : At G A c fs gd) (hw : c'.weight = 0) (hu : c'.cUnits = 0) : At G A c' (.ret k none (gd false) l c p kp :: fs) id where
  over := (GenW.over_loop hw hu).trans g.over
  split := by
    show (splitAtGen fs).map _ = none
    rw [g.split]
    rfl
  guard := by
    show (gd false || fs.any Frame.guarded) = false
    rw [g.gd, g.guard]
    rfl
  gd := rfl
theorem ty_for {ti : TIW} {b : BW} {tb : TYW} {gg : TG} {vs : List Nat} (ok : ConOk G) (hi : ∀ s H, ∃ wi, TrI (re G.X0 s H) tg iter wi ti) (hg : ∀ s H, PG (re G.X0 s H) tg gg) (hgw : TrG G.X0.K gg vs b) (hb : TYs G body tb) (hc : G.X0.calm = true)
    (hs : ∀ x, foldedSetIterable iter G.X0.env x = pure x := by intro _; rfl) : TY G (.For tg iter body [] pos) (sYFor ti b tb) := ⟨fun {A c fs K J gd lv n i s₀ s σ ip D B0 Hb} g k ⟨PG, F, H', F2, τ, H, m⟩ ht => by
  obtain ⟨wi, hiw⟩ := hi s₀ H'
  refine seg_For hs ?_
  rw [g.over]
  have no := ok.nox
  have hR := hiw.pi.run _ s τ H (fun J H1 => ∃ B h1 ws, Ext (.pure F2) hh H B h1 H1 ∧ WR G.X0.K B h1 H1 ∧ Seq G.X0.K J B H1 ws ∧ (h1 = hh ∧ yfR b tb ws D i σ)) m.inv (hiw.run ht m.wr m.rs fun J H1 B h1 ws e1 w1 sq q => ⟨B, h1, ws, e1, w1, sq, q⟩)
  refine wpAny_mono hR (fun v s1 h1 => wpAny_mono h1 (fun itv s2 h2 => ?_) fun _ _ z => (no _ _ z).elim) fun _ _ z => (no _ _ z).elim
  obtain ⟨it, fp, tn, J', H2, rfl, I2, T, st2, f2, B, h1', ws, e1, w1, sq, rfl, q0⟩ := h2
  intro p
  have eB := pure_of w1
  obtain ⟨gsB, lsB, BF⟩ := B
  cases eB
  have st01 : Stay B0 BF Hb H2 := m.st.trans (e1.stay m.wr)
  have szL := (ok.inv _ _ _ _ _ m.c).2.2
  have exX : G.X0.ex = [] := ok.sub.ex
  -- what stays true of the iterator's things
  have stat : ∀ {b : Addr} {s₀' : Shared} {H'' Hc : Hp}, b ∈ fp → G.X0.s_0.heap.objs.size ≤ s₀'.heap.objs.size → Hc b = none → FpOk (re G.X0 s₀' H'') (G.Xc.pn ++ G.pk ++ ip) Hc b := fun {b s₀' H'' Hc} hbf sz hn => by
    obtain ⟨_, q2, q3, q4, q5, q6⟩ := f2 b hbf
    refine ⟨hn, q2, q3, ?_, q5, q6⟩
    rcases q4 with z | z
    · exact .inl z
    · refine .inr ?_
      have z : (trunc G.X0.s_0.heap.objs.size s₀.heap).objs.size ≤ b := z
      rw [trunc_size szL] at z
      show (trunc G.X0.s_0.heap.objs.size s₀'.heap).objs.size ≤ b
      rw [trunc_size sz]
      exact z
  have loop : ∀ (r j n i : Nat) (s₀ s : Shared) (σ : Sw) (PG : List (Addr × Obj)) (F : Addr → Prop) (H' : Hp) (F2 : Addr → Prop) (τ : L2.St) (H : Hp), j + r = ws.length → Mid G i n s₀ s σ ip PG F H' F2 τ H BF H2 → tn j s.heap → (∀ b ∈ fp, H b = none) → yfR b tb (ws.drop j) D i σ →
      Seg (model G.X0.prog G.X0.w) A (RG G) (YG G) n s₀ (.forLoop tg (.ref it) body [] G.X0.env) ((model G.X0.prog G.X0.w).den (.forLoop tg (.ref it) body [] G.X0.env))
        (.ret (fun r => ((match r with | .ok f => (.pure f : Sem Flow) | .error e => .raise e).onRaise fun (x : Value) => do
        if (← field x 1) == Value.none then PySem.unsupported "frame.own-activation:exception-without-traceback"
        setFlight x G.X0.env.frame).wrap K J gd lv) none (gd false) (lv []) c p [] :: fs) s := by
    intro r
    induction r with
    | zero =>
      intro j n i s₀ s σ PG F H' F2 τ H hj m st fr q
      have hjw : ws.length ≤ j := by omega
      rw [List.drop_eq_nil_of_le hjw] at q
      refine seg_forLoop ?_
      rw [(g.loop (c' := .forLoop tg (.ref it) body [] G.X0.env) rfl rfl).over]
      have sz := (ok.inv _ _ _ _ _ m.c).2.2
      refine wpAny_mono (T.done (re G.X0 s₀ H') rfl rfl rfl hc j _ s τ H noE m.inv (fun b hb => stat hb sz (fr b hb)) st ((sq j (.pure F2) H m.st (fun n a z => by cases z)).1 hjw)) (fun r s1 hr => ?_) fun _ _ z => z
      obtain ⟨rfl, I1⟩ := hr
      refine seg_leaf (.ok .next) (k n i s₀ s1 .next ⟨σ, ⟨PG, F, H', F2, τ, H, ?_⟩, q⟩)
      exact Mid.rebase ⟨m.num, m.c, I1, m.ext, m.wr, m.rs, m.st⟩ st01
    | succ r ih =>
      intro j n i s₀ s σ PG F H' F2 τ H hj m st fr q
      have hjw : j < ws.length := by omega
      have ew := List.getElem?_eq_getElem hjw
      rw [same_drop ew] at q
      obtain ⟨σ', eb, q⟩ := q
      refine seg_forLoop ?_
      have gl := g.loop (c' := .forLoop tg (.ref it) body [] G.X0.env) (k := fun r => ((match r with | .ok f => (.pure f : Sem Flow) | .error e => .raise e).onRaise fun (x : Value) => do
        if (← field x 1) == Value.none then PySem.unsupported "frame.own-activation:exception-without-traceback"
        setFlight x G.X0.env.frame).wrap K J gd lv) (l := lv []) (kp := []) (p := p) rfl rfl
      rw [gl.over]
      have sz := (ok.inv _ _ _ _ _ m.c).2.2
      obtain ⟨go, yl⟩ := (sq j (.pure F2) H m.st (fun n a z => by cases z)).2 _ ew
      refine wpAny_mono (T.item (re G.X0 s₀ H') rfl rfl rfl hc j _ s τ H noE m.inv (fun b hb => stat hb sz (fr b hb)) st go) (fun r s1 hr => ?_) fun _ _ z => z
      obtain ⟨u, rfl, h4⟩ := hr
      refine wpAny_mono h4 (fun _ s5 h5 => ?_) fun _ _ z => z
      obtain ⟨x, H5, I5, r5, y5, st5, fr5⟩ := h5
      obtain ⟨s3, rv⟩ := yl x H5 y5
      have I5' := I5.pinned (fun b hb => stat hb sz (fr5 b hb)) (T.obj _ _ st5)
      have w5 : WR G.X0.K (.pure F2) hh H5 := m.wr.same s3
      have e5 : Ext (.pure F2) hh H (.pure F2) hh H5 := .same s3
      refine wpAny_mono ((hg s₀ H').run _ s5 τ H5 x u (fun τ' H6 => H6 = H5 ∧ RS G.X0.K (.pure F2) H5 σ' τ') I5' r5 (hgw.run w5 rv (m.rs.ext m.wr e5) eb fun τ' rs' _ => ⟨rfl, rs'⟩)) (fun _ s6 h6 => ?_) fun _ _ z => (no _ _ z).elim
      obtain ⟨τ6, H6, I6, rfl, rs6⟩ := h6
      rw [List.append_assoc] at I6
      refine hb.run (ip := ip ++ pinsAt fp s5.heap) (B0 := BF) (Hb := H2) gl (fun n' i' s₀' s' f hf => ?_) ⟨PG, F, H', F2, τ6, H6, ⟨m.num, m.c, I6, m.ext.trans e5, w5, rs6, m.st.trans (e5.stay m.wr)⟩⟩ q
      have back : ∀ {σ7 : Sw}, Run G i' n' s₀' s' σ7 (ip ++ pinsAt fp s5.heap) BF H2 → ∃ PG F H' F2 τ H, Mid G i' n' s₀' s' σ7 ip PG F H' F2 τ H BF H2 ∧ tn (j + 1) s'.heap ∧ ∀ b ∈ fp, H b = none := fun {σ7} ⟨PG, F, H', F2, τ, H, m7⟩ => by
        have pin : ∀ (b : Addr) (o : Obj), b ∈ fp → s5.heap.get? b = some o → s'.heap.get? b = some o ∧ H b = none := fun b o hb e => by
          have z := m7.inv.pin (b, o) (List.mem_append_right _ (List.mem_append_right _ (List.mem_append_right _ (mem_pinsAt hb e))))
          exact ⟨z.1, z.2.1⟩
        refine ⟨PG, F, H', F2, τ, H, m7.unpin, T.keep _ _ _ st5 fun b hb o e => (pin b o hb e).1, fun b hb => ?_⟩
        obtain ⟨o, e, _⟩ := T.obj _ _ st5 b hb
        exact (pin b o hb e).2
      cases f with
      | next =>
        obtain ⟨σ7, r7, q7⟩ := hf
        obtain ⟨PG, F, H', F2, τ, H, m7, t7, f7⟩ := back r7
        exact seg_again rfl (ih (j + 1) n' i' s₀' s' σ7 PG F H' F2 τ H (by omega) m7 t7 f7 q7)
      | cont =>
        obtain ⟨σ7, r7, q7⟩ := hf
        obtain ⟨PG, F, H', F2, τ, H, m7, t7, f7⟩ := back r7
        exact seg_again rfl (ih (j + 1) n' i' s₀' s' σ7 PG F H' F2 τ H (by omega) m7 t7 f7 q7)
      | brk =>
        obtain ⟨σ7, r7, q7⟩ := hf
        obtain ⟨PG, F, H', F2, τ, H, m7, t7, f7⟩ := back r7
        exact seg_leaf (.ok .next) (k n' i' s₀' s' .next ⟨σ7, ⟨PG, F, H', F2, τ, H, m7.rebase st01⟩, q7⟩)
      | ret v =>
        obtain ⟨ev, σ7, r7, q7⟩ := hf
        obtain ⟨PG, F, H', F2, τ, H, m7, t7, f7⟩ := back r7
        exact seg_leaf (.ok (.ret v)) (k n' i' s₀' s' (.ret v) ⟨ev, σ7, ⟨PG, F, H', F2, τ, H, m7.rebase st01⟩, q7⟩)
  exact loop ws.length 0 n i s₀ s2 σ PG F H' BF τ H2 (Nat.zero_add _) ⟨m.num, m.c, I2, m.ext.trans e1, w1, m.rs.ext m.wr e1, ⟨fun _ f => f, fun _ _ _ z => z, fun _ _ z => z, fun _ _ _ z => z⟩⟩ st2 (fun b hb => (f2 b hb).1) q0⟩
end
end Wg

/-! the next item of a generator: it sleeps behind it, or it is over -/
namespace Wg
open PySem PySem.Spec PyProof.Rows L2 Cb Wl GenW
section
variable {M : Model} {A : Around} {R : GenEnd} {Y : Protocol} {n : Nat} {E : Value → Shared → Prop} {s : Shared} {g : Nat} {X : GenState} {α : Type} {k : GenResult → Sem α} {Q : α → Shared → Prop} {l : List Value}
/-- what is told of a generator's next run, by its fuel -/
def Kap (M : Model) (A : Around) (R : GenEnd) (Y : Protocol) (X : GenState) : Nat → Resume → Shared → Prop
  | 0 => fun _ _ => False
  | m + 1 => fun r s' => X.Goes M A R Y m r s'
theorem wake_s (hX : s.gens[g]? = some X) (go : X.Goes M A R Y n (.send .none) (s.setGen g .running))
    (atEnd : ∀ x s1, R n (s.setGen g .running) x s1 → wpAny M A (k (End.ret x).result) Q E (s1.setGen g .finished))
    (atYld : ∀ v s1 X', isS X' = true → X'.bare = true → Y (n - 1) (s.setGen g .running) v s1 (Kap M A R Y X' n) → wpAny M A (k (.yielded v)) Q E (s1.setGen g X')) :
    wpAny M A (.resume g (.send .none) l k) Q E s := fun Γ p hΓ => by
  have key : ∀ (c : Code) (p' : Pos) (t : Sem PySem.Fin) (fs : List Frame), Seg M A R Y n (s.setGen g .running) c t fs (s.setGen g .running) →
      ∃ e s1, Runs M (Γ.wake c p) p' t fs (s.setGen g .running) e s1 ∧ e.quiet = true ∧ Sem.wp M Γ (k e.result) (fun a _ s' => Q a s') (fun e _ s' => E e s') p (s1.setGen g e.genState) := fun c p' t fs h => by
    obtain ⟨e, s1, run, he⟩ := seg_iff.mp h (Γ.wake c p) p' rfl (hΓ.wake c p)
    refine ⟨e, s1, run, ?_⟩
    cases e with
    | ret x => exact ⟨rfl, atEnd x s1 he Γ p hΓ⟩
    | susp v g' l' k' c' p'' fs' =>
      refine ⟨he.1, atYld v s1 _ rfl (End.bare_of_quiet he.1) ?_ Γ p hΓ⟩
      cases n <;> exact he.2
  rw [Sem.wp_resume]
  cases X with
  | fresh c =>
    obtain ⟨e, s1, run, quiet, fin⟩ := key c p _ [] go.2
    refine ⟨e.result, s1.setGen g e.genState, ?_, fin⟩
    unfold Wakes
    rw [hX]
    exact ⟨e, s1, run, quiet, rfl, rfl⟩
  | suspended k0 l0 c0 p0 fs0 cl =>
    obtain ⟨e, s1, run, quiet, fin⟩ := key c0 p0 _ fs0 go
    refine ⟨e.result, s1.setGen g e.genState, ?_, fin⟩
    unfold Wakes
    rw [hX]
    exact ⟨e, s1, run, quiet, rfl, rfl⟩
  | _ => exact go.elim
end
section
variable {P : Program} {w : World} {A : Around} {E : Value → Shared → Prop} {s : Shared} {R : GenEnd} {Y : Protocol} {n g : Nat} {a : Addr} {X : GenState} {Q : Option Value → Shared → Prop}
theorem next_s (hh : A.handled = none) (lim : s.heap.NoLimit) (room : A.depth < recursionLimit) (hg : s.heap.IsGen a g) (hX : s.gens[g]? = some X)
    (go : X.Goes (model P w) A.in1 R Y n (.send .none) (s.setGen g .running))
    (atEnd : ∀ x s1, R n (s.setGen g .running) x s1 → x = .ok (.ret .none) ∧ ∀ h', (∀ b o, s1.heap.get? b = some o → h'.get? b = some o) → Q none { s1.setGen g .finished with heap := h' })
    (atYld : ∀ v s1 X', isS X' = true → X'.bare = true → Y (n - 1) (s.setGen g .running) v s1 (Kap (model P w) A.in1 R Y X' n) → Q (some v) (s1.setGen g X')) :
    wpAny (model P w) A (pyNext (.ref a)) Q E s := by
  unfold pyNext
  refine wpAny_bind (wpAny_attempt ?_)
  refine wpAny_callSpecial?_slot (name := Str.ofString "__next__") hg.typeIs slot_gen_next ?_
  refine wpAny_call_entry slot_gen_next hg.typeIs entry_gen_next ?_ (args_gen_next _)
  show wpAny _ A.in1
    (Builtin.Generator.genWake (.ref a) (.send .none)) _ _ s
  unfold Builtin.Generator.genWake
  refine wpAny_bind (wpAny_holding ?_)
  refine wpAny_genNumber hg (wpAny_bind ?_)
  refine wpAny_genState hX ?_
  have tail : ∀ (fin : Sem PySem.Fin → Prop), True := fun _ => trivial
  cases X with
  | running => exact go.elim
  | finished => exact go.elim
  | _ =>
    refine wpAny_bind ?_
    refine wpAny_roomToWake lim room ?_
    show wpAny _ A.in1
      (.resume g (.send .none) [] _) _ _ s
    refine wake_s hX go (fun x s1 hx => ?_) fun v s1 X' hs hb hy => ?_
    · obtain ⟨rfl, q⟩ := atEnd x s1 hx
      show wpAny _ A.in1
        (newExc (.type "StopIteration") [] >>= _) _ _ _
      refine wpAny_bind ?_
      unfold newExc newTuple
      refine wpAny_bind (wpAny_newObj_type ?_ ?_)
      · refine wpAny_bind (m := firstArgMember _ _)
          (wpAny_of_eq (a := Value.none) ?_ ?_)
        · first | rfl | (simp only [firstArgMember]; rfl)
        · refine wpAny_newObj_type ?_ ?_
          · simp only [raiseNew]
            refine wpAny_bind ?_
            refine wpAny_bind (wpAny_handled ?_)
            first | rw [show A.in1.handled = none from hh] | rw [hh]
            refine wpAny_throw ?_
            refine wpAny_bind ?_
            refine wpAny_isInstance (T := "StopIteration") (b := true)
              ⟨_, Heap.get?_push_size _ rfl, rfl⟩ isSubtype_stop ?_
            refine wpAny_pure (q _ fun b o hb => ?_)
            exact Heap.get?_push_of_some _ (Heap.get?_push_of_some _ hb)
          · size_fits
      · size_fits
    · exact wpAny_pure ⟨v, rfl, wpAny_pure (atYld v s1 X' hs hb hy)⟩
end
end Wg

/-! for over a generator: the consumer's side -/
namespace Wg
open PySem PySem.Spec PyProof.Rows L2 Cb Wl GenW
/-- the generators' table is another one; all in it are bare -/
theorem inv_gens {X : Cx} {pins : List (Addr × Obj)} {σ : L2.St} {H : Hp} {s : Shared} {G : Array GenState} (I : Inv X pins σ H s) (h : AllBare G) : Inv X pins σ H { s with gens := G } :=
  ⟨I.ok, I.os, h, I.base, I.loc, I.cell, I.free, I.freeC, I.pin, I.hok, I.len⟩
theorem inv_ungens {X : Cx} {pins : List (Addr × Obj)} {σ : L2.St} {H : Hp} {s : Shared} {G : Array GenState} (I : Inv X pins σ H { s with gens := G }) (h : AllBare s.gens) : Inv X pins σ H s :=
  ⟨I.ok, I.os, h, I.base, I.loc, I.cell, I.free, I.freeC, I.pin, I.hok, I.len⟩
theorem bare_set {s : Shared} {g : Nat} {x : GenState} (h : AllBare s.gens) (hx : x.bare = true) : AllBare (s.gens.setIfInBounds g x) := fun y hy => by
  obtain ⟨i, hi⟩ := Array.mem_iff_getElem?.mp hy
  rw [Array.getElem?_setIfInBounds] at hi
  split at hi
  · split at hi
    · cases hi
      exact hx
    · cases hi
  · exact h y (Array.mem_of_getElem? hi)
/-- what the consumer is, at each item -/
structure Use where
  Xc : Cx
  X0 : Cx
  pk : List (Addr × Obj)
  os : List W
  A0 : Wd
  h0 : Hw
  H0 : Hp
  b : BW
  tb : TSW
  D : EnW
structure At_ (U : Use) (j : Nat) (PG : List (Addr × Obj)) (s : Shared) (H : Hp) (Ac : Wd) (h : Hw) (σ : Sw) (τ : L2.St) : Prop where
  le : j ≤ U.os.length
  inv : Inv U.Xc (U.pk ++ PG) τ H s
  wr : WR U.Xc.K Ac h H
  rs : RS U.Xc.K Ac H σ τ
  ext : Ext U.A0 U.h0 U.H0 Ac h H
  q : forR U.b U.tb (U.os.drop j) U.D σ h
  sz : U.X0.s_0.heap.objs.size ≤ s.heap.objs.size
def Use.con (U : Use) : Con where
  Xc := U.Xc
  X0 := U.X0
  pk := U.pk
  N := U.os.length
  it := fun i w => U.os[i]? = some w
  C := fun j PG F s H => ∃ Ac h σ τ, F = Ac.F ∧ At_ U j PG s H Ac h σ τ
theorem At_.gens {U : Use} {j : Nat} {PG : List (Addr × Obj)} {s : Shared} {H : Hp} {Ac : Wd} {h : Hw} {σ : Sw} {τ : L2.St} {G : Array GenState} (m : At_ U j PG s H Ac h σ τ) (hG : AllBare G) : At_ U j PG { s with gens := G } H Ac h σ τ :=
  ⟨m.le, inv_gens m.inv hG, m.wr, m.rs, m.ext, m.q, m.sz⟩
section
variable {U : Use} {tg : Expr} {body : List Stmt} {gg : TG} {vs : List Nat} {a : Addr} {g : Nat} {go : Obj}
theorem gen_loop (ok : ConOk U.con) (nox : ∀ e s, ¬ U.Xc.xe e s) (hst : U.Xc.env.locals ∈ frs U.Xc.stack) (hfs : ∀ b ∈ U.Xc.fs, b ∈ frs U.Xc.stack) (hg : PG U.Xc tg gg) (hgw : TrG U.Xc.K gg vs U.b) (hb : TrB U.Xc body U.tb) (pnX : (a, go) ∈ U.X0.pn) (isg : ∀ h : Heap, h.get? a = some go → h.IsGen a g)
    (hd0 : U.Xc.A.handled = none) (room : U.Xc.A.depth < recursionLimit) (kin : U.X0.K = U.Xc.K)
    {s : Shared} {PG0 : List (Addr × Obj)} {H : Hp} {Ac : Wd} {h : Hw} {σ : Sw} {τ : L2.St} {X : GenState} (m : At_ U 0 PG0 s H Ac h σ τ) (pg0 : (a, go) ∈ PG0) (hX : s.gens[g]? = some X)
    (goes : X.Goes (model U.Xc.prog U.Xc.w) U.Xc.A.in1 (RG U.con) (YG U.con) U.os.length (.send .none) (s.setGen g .running)) :
    codeAny (model U.Xc.prog U.Xc.w) U.Xc.A (.forLoop tg (.ref a) body [] U.Xc.env) (fun r s' => match r with
      | .ok f => SP U.Xc U.pk (EnV U.Xc.K U.A0 U.h0 U.H0 U.D) f s'
      | .error _ => False) s := by
  refine codeAny_forLoop_any (fun k s => ∃ j PG H Ac h σ τ X, k = U.os.length - j ∧ At_ U j PG s H Ac h σ τ ∧ (a, go) ∈ PG ∧ s.gens[g]? = some X ∧
    X.Goes (model U.Xc.prog U.Xc.w) U.Xc.A.in1 (RG U.con) (YG U.con) (U.os.length - j) (.send .none) (s.setGen g .running)) ?_ U.os.length ⟨0, PG0, H, Ac, h, σ, τ, X, rfl, m, pg0, hX, goes⟩
  rintro k s ⟨j, PG, H, Ac, h, σ, τ, X, rfl, m, pg, hX, goes⟩
  have hget := (m.inv.pin (a, go) (List.mem_append_right _ (List.mem_append_right _ pg))).1
  have hgl : g + 1 ≤ s.gens.size := (Array.getElem?_eq_some_iff.mp hX).1
  refine wpAny_gsz (n := g + 1) hgl ?_
  refine next_s hd0 m.inv.nolimit room (isg _ hget) hX goes (fun x s1 hx => ?_) fun v s1 X' isX bX hy => ?_
  · cases x with
    | error e => exact hx.elim
    | ok f =>
      cases f with
      | next => exact hx.elim
      | brk => exact hx.elim
      | cont => exact hx.elim
      | ret u =>
        obtain ⟨rfl, PG', F, H', ip, F2, τ2, H2, ⟨Ac', h', σ', τ', rfl, m'⟩, I2, e2, w2⟩ := hx
        refine ⟨rfl, fun hp kp _ => ?_⟩
        have Ib := back ok.sub m'.inv I2 (fun p hp => List.mem_append_left _ hp) (fun p hp => List.mem_append_right _ (List.mem_append_left _ hp)) ok.old ok.oL ok.oc
        have w2 : WR U.Xc.K (.pure F2) hh H2 := kin ▸ w2
        obtain ⟨e3, w3⟩ := pure_back m'.wr w2 e2
        have q := m'.q
        rw [List.drop_eq_nil_of_le (show U.os.length ≤ U.con.N from Nat.le_refl _)] at q
        have If := (inv_gens Ib (bare_set Ib.bare (g := g) (x := .finished) rfl)).kept (t' := s1.toks) kp
        exact wpAny_execs_nil ⟨τ', H2, If, _, h', σ', m'.ext.trans e3, w3, m'.rs.ext m'.wr e3, q⟩
  · obtain ⟨i, PG', F, H', ip, F2, x, τ2, H2, oL, w, num, ⟨Ac', h', σ', τ', rfl, m'⟩, I2, hoL, rv, e2, w2, r2, hit, hk⟩ := hy
    intro hsz
    have Ib := back ok.sub m'.inv I2 (fun p hp => List.mem_append_left _ hp) (fun p hp => List.mem_append_right _ (List.mem_append_left _ hp)) ok.old ok.oL ok.oc
    have w2 : WR U.Xc.K (.pure F2) hh H2 := kin ▸ w2
    have r2 : RV U.Xc.K [] F2 H2 w x := kin ▸ r2
    obtain ⟨e3, w3⟩ := pure_back m'.wr w2 e2
    have szL : U.X0.s_0.heap.objs.size ≤ (s.setGen g .running).heap.objs.size := m'.sz
    have aboveX : U.X0.s_0.heap.objs.size ≤ U.X0.env.locals := by
      have z : (trunc U.X0.s_0.heap.objs.size (s.setGen g .running).heap).objs.size ≤ U.X0.env.locals := I2.ok.above
      rw [trunc_size szL] at z
      exact z
    have fsX : (re U.X0 (s.setGen g .running) H').fs = frs U.Xc.stack := by
      show frs U.X0.outer = _
      have z : U.X0.outer = U.Xc.stack := ok.sub.outer
      rw [z]
    have Ip : Inv U.Xc (U.pk ++ ((U.X0.env.locals, oL) :: (U.X0.pn ++ ip))) τ' H2 s1 := Ib.pins_of fun p hp => by
      rcases List.mem_append.mp hp with z | z
      · exact Ib.pin p (List.mem_append_right _ z)
      · rcases List.mem_cons.mp z with z | z
        · subst z
          refine ⟨hoL, I2.free, fun e => ?_, fun e => ?_, fun c e => ?_⟩
          · have := ok.oL
            have e : U.X0.env.locals = U.Xc.env.locals := e
            rw [e] at aboveX
            exact absurd this (Nat.not_lt.mpr aboveX)
          · exact absurd (ok.old _ (hfs _ e)) (Nat.not_lt.mpr aboveX)
          · obtain ⟨mm, ⟨o, es, ep, ho, hd, _⟩, _⟩ := I2.loc
            have ho : s1.heap.get? U.X0.env.locals = some o := ho
            have hoL' : s1.heap.get? U.X0.env.locals = some oL := hoL
            rw [hoL'] at ho
            cases ho
            have e : oL.data = .cell c := e
            rw [hd] at e
            cases e
        · have hp2 : p ∈ (re U.X0 (s.setGen g .running) H').pn ++ (U.Xc.pn ++ U.pk ++ ip) := by
            rcases List.mem_append.mp z with z | z
            · exact List.mem_append_left _ z
            · exact List.mem_append_right _ (List.mem_append_right _ z)
          obtain ⟨q1, q2, q3, q4, q5⟩ := I2.pin p hp2
          have q4 : p.1 ∉ (re U.X0 (s.setGen g .running) H').fs := q4
          rw [fsX] at q4
          exact ⟨q1, q2, fun e => q4 (e ▸ hst), fun e => q4 (hfs _ e), q5⟩
    have hX1 : (s1.setGen g X').gens[g]? = some X' := by
      have hl : g < s1.gens.size := by
        have z : g + 1 ≤ (s1.gens.setIfInBounds g X').size := hsz
        rw [Array.size_setIfInBounds] at z
        exact z
      show (s1.gens.setIfInBounds g X')[g]? = _
      rw [Array.getElem?_setIfInBounds_self_of_lt hl]
    have I3 := inv_gens Ip (bare_set Ip.bare (g := g) bX)
    obtain ⟨og, nm, qn, hog, hcg, hdg, _⟩ := isg _ (Ip.pin (a, go) (List.mem_append_right _ (List.mem_append_right _ (List.mem_cons_of_mem _ (List.mem_append_left _ pnX))))).1
    refine go_of (s := s1.setGen g X') hog hcg hdg (by decide) ?_
    -- the target
    have rx : RV U.Xc.K Ac'.gs (fun a => Ac'.F a ∨ (F2 a ∧ H' a = none)) H2 w x := RV.mono ⟨fun y f => by
      rcases e2.fn y f with z | z | z
      · exact .inl z
      · exact .inr ⟨f, z⟩
      · exact absurd z liv_pure, fun _ _ _ z => z, fun _ _ z => z, fun _ _ _ z => z⟩ (fun _ _ z => by cases z) _ _ r2
    have q := m'.q
    have hit : U.os[i]? = some w := hit
    rw [same_drop hit] at q
    obtain ⟨σ2, eb, q⟩ := q
    have a1 := hg.run _ { s1.setGen g X' with gens := (s1.setGen g X').gens.map poi } τ' H2 x v (fun τ6 H6 => H6 = H2 ∧ RS U.Xc.K ⟨Ac'.gs, Ac'.ls, fun a => Ac'.F a ∨ (F2 a ∧ H' a = none)⟩ H2 σ2 τ6) (inv_gens I3 (bare_map I3.bare)) rv (hgw.run w3 rx (m'.rs.ext m'.wr e3) eb fun τ6 rs6 _ => ⟨rfl, rs6⟩)
    refine wpAny_mono (wpAny_sim (asl_all hX1 isX) a1) (fun _ s6 h6 => ?_) fun _ _ ⟨_, _, z⟩ => (nox _ _ z).elim
    obtain ⟨G6, asl6, τ6, H6, I6, rfl, rs6⟩ := h6
    have I6 := inv_gens I6 (asl6.bare I6.bare)
    have I6 : Inv U.Xc (U.pk ++ ((U.X0.env.locals, oL) :: (U.X0.pn ++ ip))) τ6 H6 s6 := I6
    -- the body
    have a2 := wB.run (hb.run q .refl w3 rs6) _ { s6 with gens := s6.gens.map poi } (inv_gens I6 (bare_map I6.bare))
    refine wpAny_mono (wpAny_sim (asl_all asl6.at0 isX) a2) (fun f s7 h7 => ?_) fun _ _ ⟨_, _, z⟩ => (nox _ _ z).elim
    obtain ⟨G7, asl7, h7⟩ := h7
    have again : ∀ {τ7 : L2.St} {H7 : Hp} {B : Wd} {h7 : Hw} {σ7 : Sw}, Inv U.Xc (U.pk ++ ((U.X0.env.locals, oL) :: (U.X0.pn ++ ip))) τ7 H7 { s7 with gens := G7 } → Ext _ h' H6 B h7 H7 → WR U.Xc.K B h7 H7 → RS U.Xc.K B H7 σ7 τ7 → forR U.b U.tb (U.os.drop (i + 1)) U.D σ7 h7 →
        ∃ mm, mm < U.os.length - j ∧ ∃ j PG H Ac h σ τ X, mm = U.os.length - j ∧ At_ U j PG s7 H Ac h σ τ ∧ (a, go) ∈ PG ∧ s7.gens[g]? = some X ∧ X.Goes (model U.Xc.prog U.Xc.w) U.Xc.A.in1 (RG U.con) (YG U.con) (U.os.length - j) (.send .none) (s7.setGen g .running) := fun {τ7 H7 B h7 σ7} I7 e7 w7 rs7 q7 => by
      have I7' : Inv U.Xc (U.pk ++ ((U.X0.env.locals, oL) :: (U.X0.pn ++ ip))) τ7 H7 s7 := inv_ungens I7 (asl7.bare I7.bare)
      have hN : U.con.N = U.os.length := rfl
      have m7 : At_ U (i + 1) ((U.X0.env.locals, oL) :: (U.X0.pn ++ ip)) s7 H7 B h7 σ7 τ7 := ⟨by omega, I7', w7, rs7, (m'.ext.trans e3).trans e7, q7, by
        have z := (I7'.pin (U.X0.env.locals, oL) (List.mem_append_right _ (List.mem_append_right _ List.mem_cons_self))).1
        exact Nat.le_trans aboveX (Nat.le_of_lt (Heap.lt_size z))⟩
      have kap := hk (s7.setGen g .running) H7 B.F ⟨B, h7, σ7, τ7, rfl, m7.gens (bare_set I7'.bare rfl)⟩ (Stay.trans ⟨fun y f => by
        rcases e2.fn y f with z | z | z
        · exact .inl z
        · exact .inr ⟨f, z⟩
        · exact absurd z liv_pure, fun _ _ _ z => z, fun _ _ z => z, fun _ _ _ z => z⟩ (e7.stay w3))
      generalize hn : U.os.length - j = n at kap num ⊢
      cases n with
      | zero => exact kap.elim
      | succ n =>
        have e : n = U.os.length - (i + 1) := by
          have num : i + n + 1 = U.os.length := num
          omega
        subst e
        exact ⟨_, Nat.lt_succ_self _, i + 1, _, H7, B, h7, σ7, τ7, X', rfl, m7, List.mem_cons_of_mem _ (List.mem_append_left _ pnX), asl7.at0, kap⟩
    cases f with
    | next =>
      obtain ⟨τ7, H7, I7, B, h7, σ7, e7, w7, rs7, q7⟩ := h7
      exact again I7 e7 w7 rs7 q7
    | cont =>
      obtain ⟨τ7, H7, I7, B, h7, σ7, e7, w7, rs7, q7⟩ := h7
      exact again I7 e7 w7 rs7 q7
    | brk =>
      obtain ⟨τ7, H7, I7, B, h7, σ7, e7, w7, rs7, q7⟩ := h7
      have I7' : Inv U.Xc (U.pk ++ ((U.X0.env.locals, oL) :: (U.X0.pn ++ ip))) τ7 H7 s7 := inv_ungens I7 (asl7.bare I7.bare)
      exact ⟨τ7, H7, I7'.unpinned, B, h7, σ7, (m'.ext.trans e3).trans e7, w7, rs7, q7⟩
    | ret u =>
      obtain ⟨y, τ7, H7, I7, ry, B, h7, ww, e7, w7, r7, q7⟩ := h7
      have I7' : Inv U.Xc (U.pk ++ ((U.X0.env.locals, oL) :: (U.X0.pn ++ ip))) τ7 H7 s7 := inv_ungens I7 (asl7.bare I7.bare)
      exact ⟨y, τ7, H7, I7'.unpinned, ry, B, h7, ww, (m'.ext.trans e3).trans e7, w7, r7, q7⟩
end
end Wg

/-! a generator is made: its frame, its object -/
namespace Wg
open PySem PySem.Spec PyProof.Rows L2 Cb Wl GenW
section
variable {P : Program} {w : World} {K : PySem.W.Frag} {mg : Str → Option Value} {base : Heap} {f : Addr} {name qual : Str} {params : Arguments} {body : List Stmt} {scope : Scope} {dV kV doc pm cdv ct oc : Value} {an od : Option Addr} {osl : Array (Option Value)} {N ps : List Str}
/-- the context of the new generator's frame, its turns at Aw -/
abbrev gx (P : Program) (w : World) (K : PySem.W.Frag) (mg : Str → Option Value) (base : Heap) (N : List Str) (qual : Str) (scope : Scope) (f : Addr) (cdv : Value) (Aw : Around) (outer : List Env) (s : Shared) (H : Hp) (a : Addr) (go : Obj) : Cx :=
  gcxOf P w K mg base N qual scope f cdv Aw outer s H E0 [(a, go)]
theorem gmake (lk : K.lookup f = some ⟨oc, od, .func (PySem.W.fnOf name qual params body scope dV kV doc pm an cdv ct), osl⟩) (hcd : PySem.W.codeIn K cdv qual = true) (S : GScope N ps scope)
    {A : Around} {outer : List Env} {s : Shared} {H : Hp} {args : Args} {us : List Value} {vs : List V} (dp : A.depth < recursionLimit) (e0 : Env0 P w K mg base A outer s H)
    (hb : BindsTo s (PySem.W.fnOf name qual params body scope dV kV doc pm an cdv ct) args (ps.zip us)) (r : Vals vs us) (hl : vs.length = ps.length) :
    codeAny (model P w) A (.call (.ref f) args) (fun res s' => ∃ (a : Addr) (g : Nat) (go : Obj), res = .ok (.ret (.ref a)) ∧ s.heap.objs.size ≤ a ∧ s'.heap.get? a = some go ∧ (∀ h : Heap, h.get? a = some go → h.IsGen a g) ∧
      s'.gens[g]? = some (.fresh (.func body (envOfC qual scope s.heap.objs.size f cdv))) ∧ s'.os = s.os ∧ AllBare s'.gens ∧ (∀ b o, s.heap.get? b = some o → s'.heap.get? b = some o) ∧
      ∀ (Aw : Around) (k : Nat), Room k Aw → Aw.frames = some outer → Inv (gx P w K mg base N qual scope f cdv Aw outer s H a go) [] (start N vs) H s') s := by
  have KX : K.In s.heap := e0.mod.kin.keeps fun b o e => (e0.bs b o e).1
  have lim : s.heap.NoLimit := e0.mod.nolimit.keeps fun b o e => (e0.bs b o e).1
  have kinds : ∀ y ∈ ps.zip us, scope.names.lookup y.1 = some .local ∨
      (scope.names.lookup y.1 = some .cell ∧ ((cellsFrom (s.heap.objs.size + 1) scope.names []).lookup y.1).isSome = true) := by
    rintro ⟨n, v⟩ hy
    rcases S.par n (List.of_mem_zip hy).1 with q | q
    · exact .inl q
    · exact .inr ⟨q, PySem.W.cellsFrom_some _ _ _ (.inl q)⟩
  refine codeAny_call_generator dp (KX _ _ lk) rfl S.co S.gen rfl
    (PySem.W.codeRec_of KX hcd) ?_
  refine hb _ _ _ _ ?_
  refine wpAny_newFunctionEnv_cells S.kind kinds fun env he s1 x => ?_
  subst he
  refine ⟨lim.keeps x.toInCall.keep, ?_⟩
  obtain ⟨h1, tk, es1, hk1⟩ := x.done
  have os1 : s1.os = s.os := by rw [es1]
  have gen1 : s1.gens = s.gens := by rw [es1]
  have lt1 : s.heap.objs.size < s1.heap.objs.size := x.toInCall.ns.lt
  have I1 := fun (Aw : Around) (k : Nat) (hrw : Room k Aw) (hfr : Aw.frames = some outer) =>
    inv_startG (E := E0) S hrw.hd (A := Aw) ⟨hfr, e0.mod, e0.bs, e0.bsz, e0.funs, e0.frf, e0.hok, e0.bare⟩ hl r x
  have fin : ∀ (go : Obj) (nm qn : Value) (tk2 : Nat), go.cls = .type "generator" → go.data = .fields #[.int s1.gens.size 0, nm, qn] → go.slots = #[] → (∀ h : Heap, (h.push go).get? h.objs.size = some go) →
      ∃ (a : Addr) (g : Nat) (go' : Obj), (Except.ok (Flow.ret (.ref s1.heap.objs.size)) : Result) = .ok (.ret (.ref a)) ∧ s.heap.objs.size ≤ a ∧ (s1.heap.push go).get? a = some go' ∧ (∀ h : Heap, h.get? a = some go' → h.IsGen a g) ∧
      (s1.gens.push (.fresh (.func body (envOfC qual scope s.heap.objs.size f cdv))))[g]? = some (.fresh (.func body (envOfC qual scope s.heap.objs.size f cdv))) ∧ s1.os = s.os ∧ AllBare (s1.gens.push (.fresh (.func body (envOfC qual scope s.heap.objs.size f cdv)))) ∧ (∀ b o, s.heap.get? b = some o → (s1.heap.push go).get? b = some o) ∧
      ∀ (Aw : Around) (k : Nat), Room k Aw → Aw.frames = some outer → Inv (gx P w K mg base N qual scope f cdv Aw outer s H a go') [] (start N vs) H { s1 with gens := s1.gens.push (.fresh (.func body (envOfC qual scope s.heap.objs.size f cdv))), toks := tk2, heap := s1.heap.push go } := by
    intro go nm qn tk2 hc hd hs hp
    have bare2 : AllBare (s1.gens.push (.fresh (.func body (envOfC qual scope s.heap.objs.size f cdv)))) := .push (by rw [gen1]; exact e0.bare) rfl
    refine ⟨_, s1.gens.size, go, rfl, Nat.le_of_lt lt1, hp _, fun h e => ⟨go, nm, qn, e, hc, hd, hs⟩, Array.getElem?_push_size .., os1, bare2, fun b o e => Heap.get?_push_of_some _ (x.toInCall.keep b o e), fun Aw k hrw hfr => ?_⟩
    have I := I1 Aw k hrw hfr
    have I2 := (inv_gens I bare2).kept (h' := s1.heap.push go) (t' := tk2) fun b o e => Heap.get?_push_of_some _ e
    refine Inv.pinnedG I2 fun p hpp => ?_
    have e : p = (s1.heap.objs.size, go) := by simpa using hpp
    subst e
    refine ⟨hp _, I.hok.fresh (Nat.le_refl _), Nat.ne_of_gt lt1, I.nofs (Nat.le_refl _), fun v q => ?_⟩
    have q : go.data = .cell v := q
    rw [hd] at q
    cases q
  exact fin _ _ _ _ rfl rfl rfl fun h => Heap.get?_push_size _ rfl
end
end Wg

/-! for x in f(..): f a generator def -/
namespace Wg
open PySem PySem.Spec PyProof.Rows L2 Cb Wl GenW
/-- what a generator def hands out: the list of its items -/
abbrev GCW := List W → (List W → Prop) → Prop
structure GY (P : Program) (w : World) (K : PySem.W.Frag) (mg : Str → Option Value) (base : Heap) (k : Nat) (f : Addr) (fd : FuncData) (N ps : List Str) (c : GCW) : Prop where
  ex : ∃ (name qual : Str) (params : Arguments) (body : List Stmt) (scope : Scope) (dV kV doc pm cdv ct oc : Value) (an od : Option Addr) (osl : Array (Option Value)),
    fd = PySem.W.fnOf name qual params body scope dV kV doc pm an cdv ct ∧ K.lookup f = some ⟨oc, od, .func fd, osl⟩ ∧ PySem.W.codeIn K cdv qual = true ∧ GScope N ps scope ∧ (∀ (L : Addr) (x : Str), (envOfC qual scope L f cdv).cells.lookup x = none) ∧ (∀ ws R, c ws R → ws.length = ps.length) ∧
    ∀ ws R, c ws R → ∃ os, R os ∧ ∀ (Aw : Around) (outer : List Env) (s : Shared) (H : Hp) (a : Addr) (go : Obj) (G : Con), Room k Aw → ConOk G → G.X0 = (gx P w K mg base N qual scope f cdv Aw outer s H a go).nox → G.N = os.length → G.it = (fun i w => os[i]? = some w) →
      ∃ t, TYs G body t ∧ t { nx := fun i _ => i = os.length, rt := fun i => i = os.length } 0 (startW N ws)
/-- for x in f(..) -/
def sForG (c : GCW) (tas : TAW) (b : BW) (tb tk : TSW) : TSW := fun D σ h => tas σ h fun us h1 => ∃ ws, valU us = some ws ∧ noRefs ws = true ∧ c ws fun os => forR b tb os { D with nx := tk D } σ h1
theorem inv_wish {X : Cx} {pins : List (Addr × Obj)} {σ : L2.St} {H : Hp} {s : Shared} {E : Value → Shared → Prop} (I : Inv X pins σ H s) : Inv (X.wish E) pins σ H s :=
  ⟨I.ok.wish E, I.os, I.bare, I.base, I.loc, I.cell, I.free, I.freeC, I.pin, I.hok, I.len⟩
section
variable {X : Cx} {tg e : Expr} {es : List Expr} {body sts : List Stmt} {gg : TG} {vs : List Nat} {b : BW} {tb tk : TSW} {tas : TAW} {c : GCW} {k : Nat} {f : Addr} {fd : FuncData} {N ps : List Str} {x : Str} {p p' pos : Pos}
theorem trb_forG (gy : GY X.prog X.w X.K X.mg X.base k f fd N ps c) (hr : Room (k + 1) X.A) (gl : X.mg x = some (.ref f)) (kp : PySem.W.keepIn X.K (.ref f) = true) (bs : Binds X.K fd ps []) (nox : ∀ e s, ¬ X.xe e s) (hst : X.env.locals ∈ frs X.stack) (hfs : ∀ b ∈ X.fs, b ∈ frs X.stack)
    (ha : TrA X (e :: es) tas) (hg : PG X tg gg) (hgw : TrG X.K gg vs b) (hb : TrB X body tb) (hk : TrB X sts tk) (hgl : Gl X x := by rfl) (hdb : (x == ("__debug__" : Str)) = false := by decide)
    (he : starEach (e :: es) X.env = (false, eval e X.env) :: starEach es X.env := by rfl) (hpl : (backTo p' (starEach es X.env)).any (·.1) = false := by rfl) (hs : ∀ y : Value, foldedSetIterable (.Call (.Name x p) (e :: es) [] p') X.env y = pure y := by intro _; rfl) (hd0 : X.A.handled = none) :
    TrB X (.For tg (.Call (.Name x p) (e :: es) [] p') body [] pos :: sts) (sForG c tas b tb tk) := ⟨fun {σ h h0 D A A0 H H0 τ} ht e0 wr rs => by
  refine b_cons (wS_i fun pins s I => ?_)
  refine wpAny_For ?_ hs
  refine wpAny_Call_Name_kw (ld_glob I hgl gl ?_ hdb)
  refine PySem.W.callWith_K (h₀ := X.base) I.ok.mod.kin kp ?_ he hpl
  refine wpAny_mono (wA.run (ha.run ht wr rs) p' pins s I) (fun us s1 h1 => ?_) fun _ _ z => z
  obtain ⟨vs, H1, I1, r, B, h1, us', e1, w1, rus, ws, ew, nr, hc⟩ := h1
  refine ⟨I1.kIn, ?_⟩
  obtain ⟨name, qual, params, gb, scope, dV, kV, doc, pm, cdv, ct, oc, an, od, osl, rfl, lk, hcd, S, noc, len, prom⟩ := gy.ex
  have rv : RVs X.K B.gs B.F H1 ws vs := valU.rvs (A := B) ew rus
  have hl : vs.length = ps.length := by rw [rv.len]; exact len _ _ hc
  have hl2 : us.length = ps.length := by rw [← r.length]; exact hl
  have bt := bs s1 us I1.kIn (by rw [List.append_nil]; exact hl2)
  rw [List.append_nil] at bt
  refine wpAny_call (codeAny_mono (gmake lk hcd S hr.depth I1.env0 bt r hl) fun res s2 hq => ?_)
  obtain ⟨a, g, go, rfl, ha1, hget, isg, hX, hos, hbare, hkp, inv⟩ := hq
  show wpAny _ _ (pyIter (.ref a)) _ _ s2
  refine wpAny_pyIter_gen (isg _ hget) ?_
  obtain ⟨os, q, gen⟩ := prom ws _ hc
  have rm : Room k X.A.in1 := hr.in1
  have I0 := inv_wish (E := fun _ _ => False) (inv X.A.in1 k rm I1.ok.frames)
  have I2 : Inv X pins τ H1 s2 := I1.call' (ch := []) hos (Un.kept hkp) (I1.hok.kept hkp) hbare fun b z => by cases z
  obtain ⟨mm, ⟨oL, les, lep, hoL, hdL, hmL⟩, lk0⟩ := I0.loc
  have hoL : s2.heap.get? s1.heap.objs.size = some oL := hoL
  obtain ⟨og, nm, qn, hog, hcg, hdg, _⟩ := isg _ hget
  rw [hget] at hog
  cases hog
  have If : Inv X (pins ++ [(s1.heap.objs.size, oL), (a, go)]) τ H1 s2 := I2.pins_of fun p hp => by
    rcases List.mem_append.mp hp with z | z
    · exact I2.pin p (List.mem_append_right _ z)
    · rcases List.mem_cons.mp z with z | z
      · subst z
        exact ⟨hoL, I1.hok.fresh (Nat.le_refl _), Nat.ne_of_gt I1.lt, I1.nofs (Nat.le_refl _), fun v q => by
          have q : oL.data = .cell v := q
          rw [hdL] at q
          cases q⟩
      · rw [List.mem_singleton.mp z]
        exact ⟨hget, I1.hok.fresh ha1, Nat.ne_of_gt (Nat.lt_of_lt_of_le I1.lt ha1), I1.nofs ha1, fun v q => by
          have q : go.data = .cell v := q
          rw [hdg] at q
          cases q⟩
  let U : Use := ⟨X, (gx X.prog X.w X.K X.mg X.base N qual scope f cdv X.A.in1 X.stack s1 H1 a go).nox, pins, os, A0, h0, H0, b, tb, { D with nx := tk D }⟩
  have sz2 : s1.heap.objs.size ≤ s2.heap.objs.size := Nat.le_trans ha1 (Nat.le_of_lt (Heap.lt_size hget))
  have m0 : At_ U 0 [(s1.heap.objs.size, oL), (a, go)] s2 H1 B h1 σ τ := ⟨Nat.zero_le _, If, w1, rs.ext wr e1, e0.trans e1, q, sz2⟩
  have ok : ConOk U.con := by
    refine ⟨⟨rfl, rfl, rfl, rfl, rfl, fun x => noc _ x, I1.sz⟩, fun _ _ z => z, fun b hb => ?_, I1.lt, fun x c h => ?_, fun i PG F s' H' hC => ?_, rfl⟩
    · obtain ⟨_, o, ho, _⟩ := I1.stack.mem hb
      exact Heap.lt_size ho
    · obtain ⟨v, o, ho, _⟩ := I1.cell x c h
      exact Heap.lt_size ho
    · obtain ⟨Ac, h', σ', τ', rfl, m'⟩ := hC
      exact ⟨⟨τ', m'.inv⟩, wr_pure m'.wr.ft, m'.sz⟩
  obtain ⟨t, ty, ht0⟩ := gen X.A.in1 X.stack s1 H1 a go U.con rm ok rfl rfl rfl
  have bareR : AllBare (s2.setGen g .running).gens := bare_set hbare rfl
  have sub0 : Inv (re U.X0 (s2.setGen g .running) H1) (X.pn ++ pins ++ []) (L2.start N vs) H1 (s2.setGen g .running) := by
    refine resume (Xc := X) (pc := pins ++ [(s1.heap.objs.size, oL), (a, go)]) (ip := []) (oL := oL) ok.sub I0 (inv_gens If bareR) hoL (List.mem_append_right _ List.mem_cons_self) (fun p hp => ?_) ok.old
    have nl : ∀ p ∈ X.pn ++ pins, p.1 ≠ s1.heap.objs.size := fun p m => Nat.ne_of_lt (Heap.lt_size (I1.pin p m).1)
    rcases List.mem_append.mp hp with z | z
    · have e : p = (a, go) := List.mem_singleton.mp z
      subst e
      refine ⟨List.mem_append_right _ (List.mem_append_right _ (List.mem_cons_of_mem _ List.mem_cons_self)), ?_⟩
      exact (I0.pin (a, go) (List.mem_append_left _ (List.mem_singleton.mpr rfl))).2.2.1
    · rw [List.append_nil] at z
      refine ⟨?_, nl p z⟩
      rcases List.mem_append.mp z with z | z
      · exact List.mem_append_left _ z
      · exact List.mem_append_right _ (List.mem_append_left _ z)
  have run0 : Run U.con 0 os.length (s2.setGen g .running) (s2.setGen g .running) (startW N ws) [] B.F H1 :=
    ⟨[(s1.heap.objs.size, oL), (a, go)], B.F, H1, B.F, L2.start N vs, H1, ⟨Nat.zero_add _, ⟨B, h1, σ, τ, rfl, m0.gens bareR⟩, sub0, .refl, wr_pure w1.ft, rs_start (A := .pure B.F) (RVs.noref _ _ nr rv), ⟨fun _ f => f, fun _ _ _ z => z, fun _ _ z => z, fun _ _ _ z => z⟩⟩⟩
  have goes : (GenState.fresh (.func gb (envOfC qual scope s1.heap.objs.size f cdv))).Goes (model X.prog X.w) X.A.in1 (RG U.con) (YG U.con) os.length (.send .none) (s2.setGen g .running) := by
    refine ⟨rfl, seg_func ?_⟩
    refine ty.run (D := { nx := fun i _ => i = os.length, rt := fun i => i = os.length }) (B0 := B.F) (Hb := H1) ⟨over_func, rfl, rfl, rfl⟩ (fun n i s₀ s f hf => ?_) run0 ht0
    cases f with
    | next =>
      obtain ⟨σ', ⟨PG, F, H', F2, τ', H2, m⟩, hi⟩ := hf
      have hi : i = os.length := hi
      subst hi
      exact seg_end (.ok (.ret .none)) ⟨rfl, PG, F, H', [], F2, τ', H2, m.c, m.inv, m.ext, m.wr⟩
    | ret u =>
      obtain ⟨rfl, σ', ⟨PG, F, H', F2, τ', H2, m⟩, hi⟩ := hf
      have hi : i = os.length := hi
      subst hi
      exact seg_end (.ok (.ret .none)) ⟨rfl, PG, F, H', [], F2, τ', H2, m.c, m.inv, m.ext, m.wr⟩
    | brk => obtain ⟨_, _, z⟩ := hf; exact z.elim
    | cont => obtain ⟨_, _, z⟩ := hf; exact z.elim
  refine codeAny_mono (gen_loop (U := U) ok nox hst hfs hg hgw hb (List.mem_singleton.mpr rfl) isg hd0 hr.depth rfl m0 (List.mem_cons_of_mem _ List.mem_cons_self) hX goes) fun res s' hres => ?_
  cases res with
  | error e => exact hres.elim
  | ok fl =>
    cases fl with
    | next =>
      obtain ⟨τ', H', I', B', h', σ', e', w', rs', q'⟩ := hres
      exact ⟨τ', H', I', hk.run q' e' w' rs'⟩
    | brk => exact hres
    | cont => exact hres
    | ret u => exact hres⟩
end
end Wg

/-! the law's feed and its draws -/
namespace Wl
open PySem PySem.Spec PyProof.Rows L2 Cb
abbrev kyC : Key := .inr "cells"
abbrev kyA : Key := .inr "at"
abbrev kyL : Key := .inr "left"
abbrev kyN : Key := .inr "count"
def kv (m : Nat) (a l c : Int) : List (Key × W) := [(kyC, .ref m), (kyA, .dat (.int a)), (kyL, .dat (.int l)), (kyN, .dat (.int c))]
section
variable {m : Nat} {a l c z : Int}
theorem get_c : getK (kv m a l c) kyC = some (.ref m) := by rfl
theorem get_a : getK (kv m a l c) kyA = some (.dat (.int a)) := by rfl
theorem get_l : getK (kv m a l c) kyL = some (.dat (.int l)) := by rfl
theorem get_n : getK (kv m a l c) kyN = some (.dat (.int c)) := by rfl
theorem set_n : setK (kv m a l c) kyN (.dat (.int z)) = kv m a l z := by rfl
theorem set_a : setK (kv m a l c) kyA (.dat (.int z)) = kv m z l c := by rfl
theorem set_l : setK (kv m a l c) kyL (.dat (.int z)) = kv m a z c := by rfl
end
def Rg (n m : Nat) (g : List Ob) : Prop := ∃ (ns : List Int) (a l c : Int), g[n]? = some (.dK (kv m a l c)) ∧ g[m]? = some (.lsd (ns.map .int))
theorem Rg.set {n m : Nat} {g : List Ob} {ns : List Int} {a l c a' l' c' : Int} (h1 : g[n]? = some (.dK (kv m a l c))) (h2 : g[m]? = some (.lsd (ns.map .int))) : (g.set n (.dK (kv m a' l' c')))[n]? = some (.dK (kv m a' l' c')) ∧ (g.set n (.dK (kv m a' l' c')))[m]? = some (.lsd (ns.map .int)) := by
  have hn := (List.getElem?_eq_some_iff.mp h1).1
  have ne : n ≠ m := fun e => by
    rw [e, h2] at h1
    cases h1
  exact ⟨by rw [List.getElem?_set, if_pos rfl, if_pos hn], by rw [List.getElem?_set_ne ne]; exact h2⟩
/-- what a draw of a number below many may do -/
def c__law_draw : CW := fun ws g Q => ∃ (n m : Nat) (many : Int), ws = [.ref n, .dat (.int many)] ∧ 0 < many ∧ many < 1000000000000 ∧ Rg n m g ∧ ∀ z g', 0 ≤ z → z < many → Rg n m g' → Q (.dat (.int z)) g'
theorem divM {o m : Int} (h0 : 0 < m) (hm : m < 1000000000000) : CDivA o m := .inl ⟨h0, Nat.lt_trans (PySem.Flt.log2_lt_of (k := 40) (by decide) (Nat.lt_trans (by omega : m.natAbs < 1000000000000) (by decide))) (by decide)⟩
theorem mod_bd {x m : Int} (h : 0 < m) : 0 ≤ x % m ∧ x % m < m := ⟨Int.emod_nonneg _ (by omega), Int.emod_lt_of_pos _ h⟩
theorem mod_at {ns : List Int} {i : Int} (h : 0 < ns.length) : ∃ z, L2.atI (ns.map PyData.int) (i % (((ns.map PyData.int).length : Nat) : Int)) = some (.int z) := by
  have hl : 0 < (ns.map PyData.int).length := by
    rw [List.length_map]
    exact h
  have h0 : 0 ≤ i % ((ns.map PyData.int).length : Int) := Int.emod_nonneg _ (by omega)
  have h1 : i % ((ns.map PyData.int).length : Int) < ((ns.map PyData.int).length : Int) := Int.emod_lt_of_pos _ (by omega)
  obtain ⟨j, ej⟩ := Int.eq_ofNat_of_zero_le h0
  rw [ej] at h1 ⊢
  have hj : j < ns.length := by
    rw [List.length_map] at h1
    omega
  exact ⟨ns[j], atI_nat (by rw [List.getElem?_map, List.getElem?_eq_getElem hj]; rfl)⟩
theorem rd_ref {h : Hw} {m : Nat} {ds : List PyData} (e : h.g[m]? = some (.lsd ds)) : rdU h (.v (.ref m)) = some (.list ds) ∧ rowD h (.v (.ref m)) = some ds := by
  unfold rdU rowD
  dsimp only
  rw [e]
  exact ⟨rfl, rfl⟩
abbrev N__law_draw : List Str := ["_law_feed_here", "_law_many", "_law_figure", "_law_at", "_law_cell", "_law_mixed"]
def t__law_draw : TSW := sDPutW (sVar 0) (sStr "count") (s2 (sDGet (sVar 0) (sStr "count")) (sI 1) gAdd) (sIfS (sB (s2 (sDGet (sVar 0) (sStr "cells")) (sFrz (sLst (sNil))) (gEq id))) (sRet (s2 (sDGet (sVar 0) (sStr "count")) (sVar 1) gMod)) (sEnd) (sIfS (sB (s2 (sDGet (sVar 0) (sStr "left")) (sI 0) (gGt))) (sSet 2 (s2 (sDGet (sVar 0) (sStr "left")) (sVar 1) gMod) (sDPutW (sVar 0) (sStr "left") (s2 (sDGet (sVar 0) (sStr "left")) (sVar 1) gDiv) (sRet (sVar 2)))) (sEnd) (sSet 3 (sDGet (sVar 0) (sStr "at")) (sDPutW (sVar 0) (sStr "at") (s2 (sVar 3) (sI 1) gAdd) (sSet 4 (s2 (sDGet (sVar 0) (sStr "cells")) (s2 (sVar 3) (sCal (g1 kLen) (sCons (sDGet (sVar 0) (sStr "cells")) (sNil))) gMod) gIx) (sIfS (sAnd (sB (s2 (sVar 4) (s2 (sI 10) (sI 18) gPow) (gGe))) (sB (s2 (sVar 3) (sCal (g1 kLen) (sCons (sDGet (sVar 0) (sStr "cells")) (sNil))) (gLt)))) (sDPutW (sVar 0) (sStr "left") (s2 (sVar 4) (sVar 1) gDiv) (sRet (s2 (sVar 4) (sVar 1) gMod))) (sEnd) (sSet 5 (s2 (s2 (s2 (s2 (sVar 4) (sI 1000001723) gMod) (s2 (sI 96293) (sDGet (sVar 0) (sStr "count")) gMul) gAdd) (sI 617) gAdd) (sI 2147483587) gMod) (sSet 5 (s2 (s2 (s2 (s2 (sVar 5) (sI 3) gPow) (s2 (sI 7400377) (sDGet (sVar 0) (sStr "count")) gMul) gAdd) (sI 331) gAdd) (sI 2147483497) gMod) (sRet (s2 (s2 (s2 (s2 (s2 (sVar 5) (sI 3) gPow) (s2 (sI 323) (sVar 5) gMul) gAdd) (sI 2147483489) gMod) (sI 32) gDiv) (sVar 1) gMod))))))))))

theorem plain_ints : ∀ ns : List Int, PyData.plain (.list (ns.map .int)) = true ∧ (PyData.list (ns.map .int)).depth ≤ 60
  | ns => by
    have h : ∀ l : List Int, PyData.plainAll (l.map .int) = true ∧ PyData.depthAll (l.map .int) = 0 := fun l => by
      induction l with
      | nil => exact ⟨rfl, rfl⟩
      | cons a l ih =>
        refine ⟨?_, ?_⟩
        · show (PyData.plain (.int a) && PyData.plainAll (l.map .int)) = true
          rw [ih.1]
          rfl
        · show max (PyData.depth (.int a)) (PyData.depthAll (l.map .int)) = 0
          rw [ih.2]
          rfl
    refine ⟨(h ns).1, ?_⟩
    show PyData.depthAll (ns.map .int) + 1 ≤ 60
    rw [(h ns).2]
    decide
theorem gEq_ok {f : Bool → Bool} {x y : U} {h : Hw} {d e : PyData} {Q : QU} (ex : rdU h x = some d) (ey : rdU h y = some e) (p : d.plain = true ∧ d.depth ≤ 60) (p' : e.plain = true) (q : Q (.v (.dat (.bool (f (PyData.eqv d e))))) h) : gEq f x y h Q := by
  unfold gEq
  rw [ex, ey]
  exact ⟨⟨by rw [p.1, p']; rfl, p.2⟩, q⟩
theorem gIx_ref {h : Hw} {m : Nat} {ds : List PyData} {i : Int} {d : PyData} {Q : QU} (e : h.g[m]? = some (.lsd ds)) (ei : L2.atI ds i = some d) (q : Q (.v (.dat d)) h) : gIx (.v (.ref m)) (.v (.dat (.int i))) h Q := by
  show match rowD h (.v (.ref m)) with
    | some ds => ∃ d, L2.atI ds i = some d ∧ Q (.v (.dat d)) h
    | none => False
  rw [(rd_ref e).2]
  exact ⟨d, ei, q⟩
theorem kLen_ref {h : Hw} {m : Nat} {ds : List PyData} {Q : QU} (e : h.g[m]? = some (.lsd ds)) (q : Q (.v (.dat (.int (ds.length : Nat)))) h) : kLen (.v (.ref m)) h Q := by
  show match rowD h (.v (.ref m)) with
    | some ds => Q (.v (.dat (.int ds.length))) h
    | none => False
  rw [(rd_ref e).2]
  exact q
theorem small_mul {i j : Int} (h1 : -(2 ^ 64) < i) (h2 : i < 2 ^ 64) : CMulA i j := .inr (.inl ⟨h1, h2⟩)
theorem pow3 {x : Int} (h0 : 0 ≤ x) (h1 : x < 2147483648) : CPow x 3 := ⟨by decide, by decide, by
  have : (2 : Nat) ^ 64 = 18446744073709551616 := by decide
  omega⟩
theorem me__law_draw : ∀ ws g Q, c__law_draw ws g Q → t__law_draw (endW Q) (startW N__law_draw ws) ⟨g, []⟩ := by
  rintro ws g Q ⟨n, m, many, rfl, h0, hm, ⟨ns, a, l, c, hn, hc⟩, k⟩
  have k' : ∀ z a' l' c', 0 ≤ z → z < many → Q (.dat (.int z)) (g.set n (.dK (kv m a' l' c'))) := fun z a' l' c' z0 z1 => k z _ z0 z1 ⟨ns, a', l', c', (Rg.set hn hc).1, (Rg.set hn hc).2⟩
  have two : ∀ a1 l1 c1 a2 l2 c2, (g.set n (.dK (kv m a1 l1 c1))).set n (.dK (kv m a2 l2 c2)) = g.set n (.dK (kv m a2 l2 c2)) := fun a1 l1 c1 a2 l2 c2 => List.set_set ..
  have z4 : ∀ a l c, (kv m a l c).length ≤ 100000 := fun a l c => by show 4 ≤ 100000; decide
  show sDGet (sVar 0) (sStr "count") _ _ _
  refine dget_ok (h := ⟨g, []⟩) hn get_n ?_ (by rfl)
  refine dput_ok (h := ⟨g, []⟩) hn (z4 _ _ _) ?_ (by rfl)
  rw [set_n]
  obtain ⟨hn1, hc1⟩ := Rg.set (a' := a) (l' := l) (c' := c + 1) hn hc
  have md : ∀ x : Int, 0 ≤ x % many ∧ x % many < many := fun x => mod_bd h0
  show sDGet (sVar 0) (sStr "cells") _ _ _
  refine dget_ok (h := ⟨g.set n (.dK (kv m a l (c + 1))), []⟩) hn1 get_c ?_ (by rfl)
  refine ⟨by decide, ?_⟩
  refine gEq_ok (h := ⟨g.set n (.dK (kv m a l (c + 1))), []⟩) (rd_ref hc1).1 rfl (plain_ints ns) rfl ?_
  by_cases hns : ns = []
  · subst hns
    show sDGet (sVar 0) (sStr "count") _ _ _
    refine dget_ok (h := ⟨g.set n (.dK (kv m a l (c + 1))), []⟩) hn1 get_n ?_ (by rfl)
    exact ⟨h0, k' _ _ _ _ (md _).1 (md _).2⟩
  · have hne : PyData.eqv (.list (ns.map .int)) (.list []) = false := by
      cases ns with
      | nil => exact absurd rfl hns
      | cons x ns => rfl
    have hlen : 0 < ns.length := List.length_pos_iff.mpr hns
    show (if PyData.eqv (.list (ns.map .int)) (.list []) = true then _ else _)
    rw [hne, if_neg Bool.false_ne_true]
    show sDGet (sVar 0) (sStr "left") _ _ _
    refine dget_ok (h := ⟨g.set n (.dK (kv m a l (c + 1))), []⟩) hn1 get_l ?_ (by rfl)
    show (if decide (0 < l) = true then _ else _)
    by_cases hl : 0 < l
    · rw [if_pos (decide_eq_true hl)]
      show sDGet (sVar 0) (sStr "left") _ _ _
      refine dget_ok (h := ⟨g.set n (.dK (kv m a l (c + 1))), []⟩) hn1 get_l ?_ (by rfl)
      refine ⟨h0, ?_⟩
      show sDGet (sVar 0) (sStr "left") _ _ _
      refine dget_ok (h := ⟨g.set n (.dK (kv m a l (c + 1))), []⟩) hn1 get_l ?_ (by rfl)
      refine ⟨divM h0 hm, ?_⟩
      refine dput_ok (h := ⟨g.set n (.dK (kv m a l (c + 1))), []⟩) hn1 (z4 _ _ _) ?_ (by rfl)
      rw [set_l]
      show Q (.dat (.int (l % many))) ((g.set n _).set n _)
      rw [two]
      exact k' _ _ _ _ (md _).1 (md _).2
    · rw [if_neg (by simpa using hl)]
      show sDGet (sVar 0) (sStr "at") _ _ _
      refine dget_ok (h := ⟨g.set n (.dK (kv m a l (c + 1))), []⟩) hn1 get_a ?_ (by rfl)
      refine dput_ok (h := ⟨g.set n (.dK (kv m a l (c + 1))), []⟩) hn1 (z4 _ _ _) ?_ (by rfl)
      rw [set_a]
      obtain ⟨hn2, hc2⟩ := Rg.set (a' := a + 1) (l' := l) (c' := c + 1) hn1 hc1
      show sDGet (sVar 0) (sStr "cells") _ _ _
      refine dget_ok (h := ⟨(g.set n (.dK (kv m a l (c + 1)))).set n (.dK (kv m (a + 1) l (c + 1))), []⟩) hn2 get_c ?_ (by rfl)
      rw [two] at hn2 hc2 ⊢
      generalize hg2 : g.set n (.dK (kv m (a + 1) l (c + 1))) = g2 at hn2 hc2 ⊢
      have two2 : ∀ a2 l2 c2, g2.set n (.dK (kv m a2 l2 c2)) = g.set n (.dK (kv m a2 l2 c2)) := fun a2 l2 c2 => by rw [← hg2, two]
      show sDGet (sVar 0) (sStr "cells") _ _ _
      refine dget_ok (h := ⟨g2, []⟩) hn2 get_c ?_ (by rfl)
      dsimp only [sNil, g1]
      refine kLen_ref (h := ⟨g2, []⟩) hc2 ?_
      refine ⟨by rw [List.length_map]; omega, ?_⟩
      obtain ⟨cell, ec⟩ := mod_at (i := a) hlen
      refine gIx_ref (h := ⟨g2, []⟩) hc2 ec ?_
      refine ⟨⟨by decide, by decide, by decide⟩, ?_⟩
      have rest : sSet 5 (s2 (s2 (s2 (s2 (sVar 4) (sI 1000001723) gMod) (s2 (sI 96293) (sDGet (sVar 0) (sStr "count")) gMul) gAdd) (sI 617) gAdd) (sI 2147483587) gMod) (sSet 5 (s2 (s2 (s2 (s2 (sVar 5) (sI 3) gPow) (s2 (sI 7400377) (sDGet (sVar 0) (sStr "count")) gMul) gAdd) (sI 331) gAdd) (sI 2147483497) gMod) (sRet (s2 (s2 (s2 (s2 (s2 (sVar 5) (sI 3) gPow) (s2 (sI 323) (sVar 5) gMul) gAdd) (sI 2147483489) gMod) (sI 32) gDiv) (sVar 1) gMod))) (endW Q) [some (.v (.ref n)), some (.v (.dat (.int many))), none, some (.v (.dat (.int a))), some (.v (.dat (.int cell))), none] ⟨g2, []⟩ := by
        refine ⟨(by show (0 : Int) < 1000001723; decide), ?_⟩
        show sDGet (sVar 0) (sStr "count") _ _ _
        refine dget_ok (h := ⟨g2, []⟩) hn2 get_n ?_ (by rfl)
        refine ⟨small_mul (by decide) (by decide), (by show (0 : Int) < 2147483587; decide), ?_⟩
        refine ⟨pow3 (Int.emod_nonneg _ (by decide)) (Int.lt_trans (Int.emod_lt_of_pos _ (by decide)) (by decide)), ?_⟩
        show sDGet (sVar 0) (sStr "count") _ _ _
        refine dget_ok (h := ⟨g2, []⟩) hn2 get_n ?_ (by rfl)
        refine ⟨small_mul (by decide) (by decide), (by show (0 : Int) < 2147483497; decide), ?_⟩
        refine ⟨pow3 (Int.emod_nonneg _ (by decide)) (Int.lt_trans (Int.emod_lt_of_pos _ (by decide)) (by decide)), small_mul (by decide) (by decide), (by show (0 : Int) < 2147483489; decide), .inl ⟨by decide, by decide⟩, h0, ?_⟩
        rw [← hg2]
        exact k' _ _ _ _ (md _).1 (md _).2
      show (if decide ((10 : Int) ^ (18 : Int).toNat ≤ cell) = true then _ else _)
      by_cases hbig : (10 : Int) ^ (18 : Int).toNat ≤ cell
      · rw [if_pos (decide_eq_true hbig)]
        show sDGet (sVar 0) (sStr "cells") _ _ _
        refine dget_ok (h := ⟨g2, []⟩) hn2 get_c ?_ (by rfl)
        dsimp only [sNil, g1]
        refine kLen_ref (h := ⟨g2, []⟩) hc2 ?_
        show (if decide (a < ((ns.map PyData.int).length : Int)) = true then _ else _)
        by_cases hal : a < ((ns.map PyData.int).length : Int)
        · rw [if_pos (decide_eq_true hal)]
          refine ⟨divM h0 hm, ?_⟩
          refine dput_ok (h := ⟨g2, []⟩) hn2 (z4 _ _ _) ?_ (by rfl)
          rw [set_l]
          refine ⟨h0, ?_⟩
          show Q (.dat (.int (cell % many))) (g2.set n _)
          rw [two2]
          exact k' _ _ _ _ (md _).1 (md _).2
        · rw [if_neg (by simpa using hal)]
          exact rest
      · rw [if_neg (by simpa using hbig)]
        exact rest
end Wl

/-! k17: the law's first defs over values -/
namespace Wl
open PySem PySem.Spec PyProof.Rows L2 Cb
def c__law_laps : CW := fun ws g Q => ∃ (ns : List Int) (c : Int), ws = [.scr ns, .dat (.int c)] ∧ Q (.dat (.int (if ns = [] then 1 else c))) g
abbrev N__law_laps : List Str := ["_law_script", "_law_count"]
def t__law_laps : TSW := sRet (sIf (sB (s2 (sVar 0) (sFrz (sLst (sNil))) (gEq not))) (sVar 1) (sI 1))
theorem me__law_laps : ∀ ws g Q, c__law_laps ws g Q → t__law_laps (endW Q) (startW N__law_laps ws) ⟨g, []⟩ := by
  rintro ws g Q ⟨ns, c, rfl, q⟩
  refine ⟨by decide, ?_⟩
  refine gEq_ok (f := not) (h := ⟨g, []⟩) rfl rfl (plain_ints ns) rfl ?_
  cases ns with
  | nil => exact q
  | cons x ns => exact q
def c__law_choice : CW := fun ws g Q => ∃ (n m : Nat) (xs : List PyData), ws = [.ref n, .dat (.list xs)] ∧ 0 < xs.length ∧ xs.length < 1000000 ∧ Rg n m g ∧ ∀ x ∈ xs, ∀ g', Rg n m g' → Q (.dat x) g'
abbrev N__law_choice : List Str := ["_law_feed_here", "_law_some"]
def t__law_choice : TSW := sRet (s2 (sVar 1) (sCallG c__law_draw (sCons (sVar 0) (sCons (sCal (g1 kLen) (sCons (sVar 1) (sNil))) (sNil)))) gIx)
theorem atI_pos {α : Type} {xs : List α} {z : Int} (h0 : 0 ≤ z) (h1 : z < xs.length) : ∃ x ∈ xs, L2.atI xs z = some x := by
  obtain ⟨j, rfl⟩ := Int.eq_ofNat_of_zero_le h0
  have hj : j < xs.length := by omega
  exact ⟨xs[j], List.getElem_mem hj, atI_nat (List.getElem?_eq_getElem hj)⟩
theorem me__law_choice : ∀ ws g Q, c__law_choice ws g Q → t__law_choice (endW Q) (startW N__law_choice ws) ⟨g, []⟩ := by
  rintro ws g Q ⟨n, m, xs, rfl, h0, h1, rg, q⟩
  refine ⟨_, rfl, n, m, _, rfl, by omega, by omega, rg, fun z g' z0 z1 rg' => ?_⟩
  obtain ⟨x, hx, e⟩ := atI_pos z0 z1
  exact ⟨x, e, q x hx g' rg'⟩
def c__law_lowest : CW := fun ws g Q => ∃ o u, ws = [.dat (.int o), .dat (.int u)] ∧ 0 < u ∧ u.natAbs < 2 ^ 8000 ∧ Q (.dat (qd (Rat.divInt o u))) g
abbrev N__law_lowest : List Str := ["_law_over", "_law_under", "_law_one", "_law_two"]
def t__law_lowest : TSW := sPar 2 3 (sCal (g1 kAbs) (sCons (sVar 0) (sNil))) (sVar 1) (sWhile (sB (s2 (sVar 3) (sI 0) (gEq not))) (sPar 2 3 (sVar 3) (s2 (sVar 2) (sVar 3) gMod) (sEnd)) (sRet (sTup (sCons (s2 (sVar 0) (sVar 2) gDiv) (sCons (s2 (sVar 1) (sVar 2) gDiv) (sNil))))))
theorem eqI (a b : Int) : PyData.eqv (.int a) (.int b) = (a == b) := rfl
theorem me__law_lowest : ∀ ws g Q, c__law_lowest ws g Q → t__law_lowest (endW Q) (startW N__law_lowest ws) ⟨g, []⟩ := by
  rintro ws g Q ⟨o, u, rfl, hu, hb, q⟩
  have hO : LowOk u := ⟨Int.ne_of_gt hu, .inl ⟨hu, hb⟩⟩
  have fin : sRet (sTup (sCons (s2 (sVar 0) (sVar 2) gDiv) (sCons (s2 (sVar 1) (sVar 2) gDiv) (sNil)))) (endW Q) [some (.v (.dat (.int o))), some (.v (.dat (.int u))), some (.v (.dat (.int (lowS o u)))), some (.v (.dat (.int 0)))] ⟨g, []⟩ := by
    refine ⟨hO.div, hO.div, (by show 2 ≤ 1000; decide), ?_⟩
    show Q (.dat (.tuple [.int (o.fdiv (lowS o u)), .int (u.fdiv (lowS o u))])) g
    rw [hO.num.1, hO.num.2]
    exact q
  have loop : ∀ (n : Nat) (a b : Int), 0 ≤ a → 0 ≤ b → b < n → ((Nat.gcd a.natAbs b.natAbs : Nat) : Int) = lowS o u → ∃ k, whileN (sB (s2 (sVar 3) (sI 0) (gEq not))) (sPar 2 3 (sVar 3) (s2 (sVar 2) (sVar 3) gMod) (sEnd)) k { (endW Q) with nx := sRet (sTup (sCons (s2 (sVar 0) (sVar 2) gDiv) (sCons (s2 (sVar 1) (sVar 2) gDiv) (sNil)))) (endW Q) } [some (.v (.dat (.int o))), some (.v (.dat (.int u))), some (.v (.dat (.int a))), some (.v (.dat (.int b)))] ⟨g, []⟩ := by
    intro n
    induction n with
    | zero => intro a b h0 h1 h2 _; omega
    | succ n ih =>
      intro a b h0 h1 h2 e
      by_cases hz : b = 0
      · subst hz
        refine ⟨1, ⟨rfl, (by show 0 ≤ 60; decide)⟩, ?_⟩
        have : a = lowS o u := by
          rw [← e]
          simp
          omega
        rw [this]
        exact fin
      · obtain ⟨k, hk⟩ := ih b (a % b) h1 (Int.emod_nonneg _ hz) (by have := Int.emod_lt_of_pos a (show 0 < b by omega); omega) (by
          rw [← e, Int.natAbs_emod_of_nonneg h0, Nat.gcd_comm b.natAbs, ← Nat.gcd_rec, Nat.gcd_comm])
        refine ⟨k + 1, ⟨rfl, (by show 0 ≤ 60; decide)⟩, ?_⟩
        show (if (!(PyData.eqv (.int b) (.int 0))) = true then _ else _)
        rw [eqI, if_pos (by simpa using hz)]
        exact ⟨by show 0 < b; omega, hk⟩
  have ab : (if o < 0 then -o else o) = (o.natAbs : Int) := by split <;> omega
  show ∃ k, _
  refine loop (u.natAbs + 1) (if o < 0 then -o else o) u (by rw [ab]; omega) (by omega) (by omega) ?_
  unfold lowS
  rw [ab, Int.natAbs_natCast]
  split
  · omega
  · rfl
abbrev c__law_added : CW := cQ2 fun r s => r + s
abbrev N__law_added : List Str := ["_law_one", "_law_two"]
def t__law_added : TSW := sRet (sCallP c__law_lowest (sCons (s2 (s2 (s2 (sVar 0) (sI 0) gIx) (s2 (sVar 1) (sI 1) gIx) gMul) (s2 (s2 (sVar 1) (sI 0) gIx) (s2 (sVar 0) (sI 1) gIx) gMul) gAdd) (sCons (s2 (s2 (sVar 0) (sI 1) gIx) (s2 (sVar 1) (sI 1) gIx) gMul) (sNil))))
theorem me__law_added : ∀ ws g Q, c__law_added ws g Q → t__law_added (endW Q) (startW N__law_added ws) ⟨g, []⟩ := by
  rintro ws g Q ⟨r, s, rfl, hr, hs, q⟩
  have z : (0 : Int) < (r.den : Int) * (s.den : Int) := Int.mul_pos (den_pos r) (den_pos s)
  refine ⟨_, rfl, _, rfl, mulOk hr.1 hs.2, _, rfl, _, rfl, mulOk hs.1 hr.2, _, rfl, _, rfl, mulOk hr.2 hs.2, _, rfl, _, _, rfl, z, Nat.lt_of_lt_of_le (lt_mul (n := 2000) (m := 2000) hr.2 hs.2) (two_le (by decide)), rfl, ?_⟩
  show Q (.dat (qd _)) g
  rw [add_eq]
  exact q
abbrev c__law_down : CW := cQ1 fun r => .int (dn r)
abbrev N__law_down : List Str := ["_law_worth"]
def t__law_down : TSW := sRet (s2 (s2 (sVar 0) (sI 0) gIx) (s2 (sVar 0) (sI 1) gIx) gDiv)
theorem me__law_down : ∀ ws g Q, c__law_down ws g Q → t__law_down (endW Q) (startW N__law_down ws) ⟨g, []⟩ := by
  rintro ws g Q ⟨r, rfl, hr, q⟩
  exact ⟨_, rfl, _, rfl, divOk hr, q⟩
abbrev c__law_up : CW := cQ1 fun r => .int (upp r)
abbrev N__law_up : List Str := ["_law_worth"]
def t__law_up : TSW := sRet (s2 (sI 0) (s2 (s2 (sI 0) (s2 (sVar 0) (sI 0) gIx) gSub) (s2 (sVar 0) (sI 1) gIx) gDiv) gSub)
theorem me__law_up : ∀ ws g Q, c__law_up ws g Q → t__law_up (endW Q) (startW N__law_up ws) ⟨g, []⟩ := by
  rintro ws g Q ⟨r, rfl, hr, q⟩
  refine ⟨_, rfl, _, rfl, divOk hr, ?_⟩
  show Q (.dat (.int (0 - (0 - r.num).fdiv (r.den : Int)))) g
  rw [Int.zero_sub, Int.zero_sub]
  exact q
/-- the reader at n: a value with p comes, the reader stays one -/
def drawn (p : W → Prop) (n m : Nat) (g : List Ob) (Q : W → List Ob → Prop) : Prop := Rg n m g ∧ ∀ w g', p w → Rg n m g' → Q w g'
def IsQ (b : Nat) (w : W) : Prop := ∃ r : Rat, w = .dat (qd r) ∧ Bd b r
def c__law_charge : CW := fun ws g Q => ∃ n m, ws = [.ref n] ∧ drawn (IsQ 20) n m g Q
abbrev N__law_charge : List Str := ["_law_feed_here", "_law_under", "_law_over"]
def t__law_charge : TSW := sSet 1 (sCallG c__law_choice (sCons (sVar 0) (sCons (sFrz (sLst (sCons (sI 2) (sCons (sI 1) (sCons (sI 2) (sCons (sI 3) (sCons (sI 4) (sCons (sI 10) (sNil))))))))) (sNil)))) (sSet 2 (sCallG c__law_draw (sCons (sVar 0) (sCons (s2 (s2 (sI 2) (sVar 1) gMul) (sI 1) gAdd) (sNil)))) (sIfS (sB (s2 (sCallG c__law_draw (sCons (sVar 0) (sCons (sI 15) (sNil)))) (sI 0) (gEq id))) (sRet (sCallG c__law_choice (sCons (sVar 0) (sCons (sFrz (sLst (sCons (sTup (sCons (sI 990) (sCons (sI 1) (sNil)))) (sCons (sTup (sCons (sI 9999) (sCons (sI 10000) (sNil)))) (sCons (sTup (sCons (sI 999) (sCons (sI 10) (sNil)))) (sNil)))))) (sNil))))) (sEnd) (sRet (sCallP c__law_lowest (sCons (sVar 2) (sCons (sVar 1) (sNil)))))))
theorem qd_lit {o u : Int} {r : Rat} (h : r.num = o ∧ (r.den : Int) = u) : PyData.tuple [.int o, .int u] = qd r := by
  rw [← h.1, ← h.2]
  rfl
theorem me__law_charge : ∀ ws g Q, c__law_charge ws g Q → t__law_charge (endW Q) (startW N__law_charge ws) ⟨g, []⟩ := by
  rintro ws g Q ⟨n, m, rfl, rg, q⟩
  refine ⟨by decide, ?_⟩
  refine ⟨_, rfl, n, m, _, rfl, by show 0 < 6; decide, by show 6 < 1000000; decide, rg, fun x hx g1 rg1 => ?_⟩
  obtain ⟨u, rfl, u0, u1⟩ : ∃ u : Int, x = .int u ∧ 0 < u ∧ u ≤ 10 := by
    simp only [List.mem_cons, List.not_mem_nil, or_false] at hx
    rcases hx with rfl | rfl | rfl | rfl | rfl | rfl <;> exact ⟨_, rfl, by decide, by decide⟩
  refine ⟨small_mul (by decide) (by decide), ?_⟩
  refine ⟨_, rfl, n, m, 2 * u + 1, rfl, by omega, by omega, rg1, fun o g2 o0 o1 rg2 => ?_⟩
  refine ⟨_, rfl, n, m, 15, rfl, by decide, by decide, rg2, fun z g3 z0 z1 rg3 => ?_⟩
  refine ⟨⟨rfl, by show 0 ≤ 60; decide⟩, ?_⟩
  show (if (PyData.eqv (.int z) (.int 0)) = true then _ else _)
  by_cases hz : (PyData.eqv (.int z) (.int 0)) = true
  · rw [if_pos hz]
    refine ⟨l2, l2, l2, l3, ?_⟩
    refine ⟨_, rfl, n, m, _, rfl, by show 0 < 3; decide, by show 3 < 1000000; decide, rg3, fun x hx g1 rg1 => ?_⟩
    refine q _ _ ?_ rg1
    simp only [List.mem_cons, List.not_mem_nil, or_false] at hx
    rcases hx with rfl | rfl | rfl
    · exact ⟨⟨990, 1, by decide, by decide⟩, rfl, by decide, by decide⟩
    · exact ⟨⟨9999, 10000, by decide, by decide⟩, rfl, by decide, by decide⟩
    · exact ⟨⟨999, 10, by decide, by decide⟩, rfl, by decide, by decide⟩
  · rw [if_neg hz]
    refine ⟨_, rfl, o, u, rfl, u0, Nat.lt_trans (by omega : u.natAbs < 16) (by decide), rfl, ?_⟩
    exact q _ _ ⟨_, rfl, bd_div (by omega) (by show o.natAbs < 2 ^ 20; omega) (by show u.natAbs < 2 ^ 20; omega)⟩ rg3
end Wl

/-! k17: drawn names, heads -/
namespace Wl
open PySem PySem.Spec PyProof.Rows L2 Cb
theorem ixN_nat' {n j : Nat} (hj : j < n) : L2.ixN n (j : Int) = some j := by
  unfold L2.ixN
  rw [if_pos (by omega), if_pos (by omega)]
  rfl
def six : List Str := ["a", "bb", "day", "ended", "line", "zzzzzzzz"]
theorem ownM_ok {n k : Nat} {f : OwnF} {tas : TAW} {σ : Sw} {h : Hw} {Q : QU} {ds : List PyData} (e : σ[n]? = some (some (.l k))) (eo : h.l[k]? = some (.lsd ds))
    (q : tas σ h fun us h1 => ∃ ds, h1.l[k]? = some (.lsd ds) ∧ f ds us h1 fun ds' d => Q (.v (.dat d)) (h1.putL k (.lsd ds'))) (mono : ∀ (R R' : List U → Hw → Prop), (∀ us h1, R us h1 → R' us h1) → tas σ h R → tas σ h R') : sOwnM n f tas σ h Q := by
  unfold sOwnM
  rw [e]
  dsimp only
  rw [eo]
  dsimp only
  refine mono _ _ (fun us h1 ⟨ds, e1, q⟩ => ?_) q
  rw [e1]
  exact q
theorem eraseIdx_map {α β : Type} (f : α → β) : ∀ (xs : List α) (j : Nat), (xs.map f).eraseIdx j = (xs.eraseIdx j).map f
  | [], _ => rfl
  | _ :: _, 0 => rfl
  | x :: xs, j + 1 => by
    rw [List.map_cons, List.eraseIdx_cons_succ, List.eraseIdx_cons_succ, List.map_cons, eraseIdx_map f xs j]
/-- names that were drawn -/
def IsNms (w : W) : Prop := ∃ nms : List Str, w = .dat (.list (nms.map .str)) ∧ nms.Sublist six ∧ nms.length ≤ 4
def c__law_names : CW := fun ws g Q => ∃ n m, ws = [.ref n, .dat (.int 4)] ∧ drawn IsNms n m g Q
abbrev N__law_names : List Str := ["_law_feed_here", "_law_most", "_law_names_here", "_law_count"]
def t__law_names : TSW := sSet 2 (sOwn (sLst (sCons (sStr "a") (sCons (sStr "bb") (sCons (sStr "day") (sCons (sStr "ended") (sCons (sStr "line") (sCons (sStr "zzzzzzzz") (sNil))))))))) (sSet 3 (s2 (sI 1) (sCallG c__law_draw (sCons (sVar 0) (sCons (sVar 1) (sNil)))) gAdd) (sWhile (sB (s2 (sCal (g1 kLen) (sCons (sVar 2) (sNil))) (sVar 3) (gGt))) (sExpr (sOwnM 2 fPopAt (sCons (sCallG c__law_draw (sCons (sVar 0) (sCons (sCal (g1 kLen) (sCons (sVar 2) (sNil))) (sNil)))) (sNil))) (sEnd)) (sRet (sVar 2))))
theorem me__law_names : ∀ ws g Q, c__law_names ws g Q → t__law_names (endW Q) (startW N__law_names ws) ⟨g, []⟩ := by
  rintro ws g Q ⟨n, m, rfl, rg, q⟩
  refine ⟨by decide, ?_⟩
  refine ⟨_, rfl, n, m, 4, rfl, by decide, by decide, rg, fun c ga c0 c1 rga => ?_⟩
  have loop : ∀ (k : Nat) (nms : List Str) (ga : List Ob), nms.length ≤ k → nms.Sublist six → Rg n m ga → whileN (sB (s2 (sCal (g1 kLen) (sCons (sVar 2) (sNil))) (sVar 3) (gGt))) (sExpr (sOwnM 2 fPopAt (sCons (sCallG c__law_draw (sCons (sVar 0) (sCons (sCal (g1 kLen) (sCons (sVar 2) (sNil))) (sNil)))) (sNil))) (sEnd)) (k + 1) { (endW Q) with nx := sRet (sVar 2) (endW Q) } [some (.v (.ref n)), some (.v (.dat (.int 4))), some (.l 0), some (.v (.dat (.int (1 + c))))] ⟨ga, [.lsd (nms.map .str)]⟩ := by
    intro k
    induction k with
    | zero =>
      intro nms ga hl hs rga
      show (if decide (1 + c < ((nms.map PyData.str).length : Int)) = true then _ else _)
      rw [if_neg (by rw [List.length_map]; simp; omega)]
      exact q _ _ ⟨nms, rfl, hs, by omega⟩ rga
    | succ k ih =>
      intro nms ga hl hs rga
      show (if decide (1 + c < ((nms.map PyData.str).length : Int)) = true then _ else _)
      rw [List.length_map]
      by_cases hz : 1 + c < (nms.length : Int)
      · have h6 : nms.length ≤ 6 := hs.length_le
        rw [if_pos (decide_eq_true hz)]
        refine ⟨_, rfl, n, m, _, rfl, ?_, ?_, rga, fun z gb z0 z1 rgb => ?_⟩
        · rw [List.length_map]
          omega
        · rw [List.length_map]
          omega
        · rw [List.length_map] at z1
          obtain ⟨j, rfl⟩ := Int.eq_ofNat_of_zero_le z0
          have hj : j < (nms.map PyData.str).length := by rw [List.length_map]; omega
          refine ⟨?_, j, _, ixN_nat' hj, List.getElem?_eq_getElem hj, ?_⟩
          · rw [List.length_map]
            omega
          · have := ih _ gb (by rw [List.length_eraseIdx_of_lt (i := j) (by omega)]; omega) ((List.eraseIdx_sublist nms j).trans hs) rgb
            rw [← eraseIdx_map] at this
            exact this
      · rw [if_neg (by simpa using hz)]
        exact q _ _ ⟨nms, rfl, hs, by omega⟩ rga
  exact ⟨7, loop 6 six ga (by decide) (List.Sublist.refl _) rga⟩
theorem natAbs_fdiv_le (a : Int) {b : Int} (h : 0 < b) : (a.fdiv b).natAbs ≤ a.natAbs := by
  rw [Int.fdiv_eq_ediv_of_nonneg _ (by omega)]
  exact Int.natAbs_ediv_le_natAbs a b
theorem dn_bd {r : Rat} {b : Nat} (h : Bd b r) : (dn r).natAbs < 2 ^ b := Nat.lt_of_le_of_lt (natAbs_fdiv_le _ (den_pos r)) h.1
theorem upp_bd {r : Rat} {b : Nat} (h : Bd b r) : (upp r).natAbs < 2 ^ b := by
  unfold upp
  rw [Int.natAbs_neg]
  refine Nat.lt_of_le_of_lt (natAbs_fdiv_le _ (den_pos r)) ?_
  rw [Int.natAbs_neg]
  exact h.1
structure LnOk (l : Ln) : Prop where
  ex : Bd 20 l.ex
  ct : l.ct.natAbs < 2 ^ 30
def IsHeads (nms : List Str) (w : W) : Prop := ∃ rows : List Ln, w = .dat (.tuple (rows.map ld)) ∧ rows.map (·.nm) = nms ∧ ∀ l ∈ rows, LnOk l
def c__law_heads : CW := fun ws g Q => ∃ (n m : Nat) (nms : List Str) (b : Bool), ws = [.ref n, .dat (.list (nms.map .str)), .dat (.bool b)] ∧ nms.length ≤ 4 ∧ drawn (IsHeads nms) n m g Q
abbrev N__law_heads : List Str := ["_law_feed_here", "_law_names_here", "_law_is_fresh", "_law_found", "_law_name", "_law_worth", "_law_off", "_law_row"]
abbrev b__law_heads : TSW := (sPar 5 6 (sCallG c__law_charge (sCons (sVar 0) (sNil))) (sCallG c__law_choice (sCons (sVar 0) (sCons (sFrz (sLst (sCons (sI 0) (sCons (sI 0) (sCons (sI 0) (sCons (sI 1) (sCons (sNeg (sI 1)) (sNil)))))))) (sNil)))) (sSet 7 (sTup (sCons (sVar 4) (sCons (sVar 5) (sCons (s2 (s2 (sCallP c__law_down (sCons (sVar 5) (sNil))) (sCallG c__law_draw (sCons (sVar 0) (sCons (sI 2) (sNil)))) gAdd) (sVar 6) gAdd) (sCons (s2 (sCallG c__law_draw (sCons (sVar 0) (sCons (sI 5) (sNil)))) (sI 0) (gGt)) (sNil)))))) (sExpr (sOwnM 3 fApp (sCons (sIf (sB (sVar 2)) (sTup (sCons (sVar 4) (sCons (sTup (sCons (sI 0) (sCons (sI 1) (sNil)))) (sCons (sI 0) (sCons (sBl true) (sNil)))))) (sVar 7)) (sNil))) (sEnd))))
def t__law_heads : TSW := sSet 3 (sOwn (sLst (sNil))) (sFor (sItems (sVar 1)) (bName 4) b__law_heads (sRet (sCal (g1 kTup) (sCons (sVar 3) (sNil)))))
theorem me__law_heads : ∀ ws g Q, c__law_heads ws g Q → t__law_heads (endW Q) (startW N__law_heads ws) ⟨g, []⟩ := by
  rintro ws g Q ⟨n, m, nms, b, rfl, hl, rg, q⟩
  refine ⟨by decide, ?_⟩
  have loop : ∀ (xs : List Str) (rows : List Ln) (x4 x5 x6 x7 : Option U) (ga : List Ob), rows.map (·.nm) ++ xs = nms → (∀ l ∈ rows, LnOk l) → Rg n m ga → forR (bName 4) b__law_heads ((xs.map PyData.str).map .dat) { (endW Q) with nx := sRet (sCal (g1 kTup) (sCons (sVar 3) (sNil))) (endW Q) } [some (.v (.ref n)), some (.v (.dat (.list (nms.map .str)))), some (.v (.dat (.bool b))), some (.l 0), x4, x5, x6, x7] ⟨ga, [.lsd (rows.map ld)]⟩ := by
    intro xs
    induction xs with
    | nil =>
      intro rows x4 x5 x6 x7 ga e hr rga
      rw [List.append_nil] at e
      exact q _ _ ⟨rows, rfl, e, hr⟩ rga
    | cons x xs ih =>
      intro rows x4 x5 x6 x7 ga e hr rga
      have lr : rows.length ≤ 4 := by
        have := congrArg List.length e
        rw [List.length_append, List.length_map] at this
        omega
      have nxt : ∀ (l : Ln) (y4 y5 y6 y7 : Option U) (gz : List Ob), l.nm = x → LnOk l → Rg n m gz → forR (bName 4) b__law_heads ((xs.map PyData.str).map .dat) { (endW Q) with nx := sRet (sCal (g1 kTup) (sCons (sVar 3) (sNil))) (endW Q) } [some (.v (.ref n)), some (.v (.dat (.list (nms.map .str)))), some (.v (.dat (.bool b))), some (.l 0), y4, y5, y6, y7] ⟨gz, [.lsd (rows.map ld ++ [ld l])]⟩ := by
        intro l y4 y5 y6 y7 gz hn hk rgz
        have := ih (rows ++ [l]) y4 y5 y6 y7 gz (by rw [List.map_append, List.append_assoc, List.map_singleton, hn]; exact e) (fun l' hl' => by
          rcases List.mem_append.mp hl' with z | z
          · exact hr _ z
          · rw [List.mem_singleton.mp z]
            exact hk) rgz
        rw [List.map_append] at this
        exact this
      refine ⟨_, rfl, ?_⟩
      refine ⟨_, rfl, n, m, rfl, rga, fun w gb ⟨r, ew, br⟩ rgb => ?_⟩
      subst ew
      refine ⟨by decide, ?_⟩
      refine ⟨_, rfl, n, m, _, rfl, by show 0 < 5; decide, by show 5 < 1000000; decide, rgb, fun o ho gc rgc => ?_⟩
      obtain ⟨o, rfl, o1⟩ : ∃ i : Int, o = .int i ∧ i.natAbs ≤ 1 := by
        simp only [List.mem_cons, List.not_mem_nil, or_false] at ho
        rcases ho with rfl | rfl | rfl | rfl | rfl <;> exact ⟨_, rfl, by decide⟩
      refine ⟨_, rfl, r, rfl, br.mono (by decide), rfl, ?_⟩
      refine ⟨_, rfl, n, m, 2, rfl, by decide, by decide, rgc, fun z gd z0 z1 rgd => ?_⟩
      refine ⟨_, rfl, n, m, 5, rfl, by decide, by decide, rgd, fun y ge y0 y1 rge => ?_⟩
      refine ⟨l4, ?_⟩
      have db := dn_bd br
      cases b with
      | true =>
        refine ⟨l2, l4, ?_, ?_⟩
        · rw [List.length_map]
          omega
        · exact nxt ⟨x, ⟨0, 1, by decide, by decide⟩, 0, true⟩ _ _ _ _ ge rfl ⟨⟨by show 0 < 2 ^ 20; decide, by show 1 < 2 ^ 20; decide⟩, by show 0 < 2 ^ 30; decide⟩ rge
      | false =>
        refine ⟨?_, ?_⟩
        · rw [List.length_map]
          omega
        · exact nxt ⟨x, r, dn r + z + o, decide (0 < y)⟩ _ _ _ _ ge rfl ⟨br, by show (dn r + z + o).natAbs < 2 ^ 30; omega⟩ rge
  exact loop nms [] none none none none g rfl (fun _ h => by cases h) rg
end Wl

/-! k17: drawn sections, charges, sheets -/
namespace Wl
open PySem PySem.Spec PyProof.Rows L2 Cb
theorem plain_strs : ∀ xs : List Str, PyData.plainAll (xs.map .str) = true ∧ PyData.depthAll (xs.map .str) = 0
  | [] => ⟨rfl, rfl⟩
  | x :: xs => by
    have := plain_strs xs
    refine ⟨?_, ?_⟩
    · show (PyData.plain (.str x) && PyData.plainAll (xs.map .str)) = true
      rw [this.1]
      rfl
    · show max (PyData.depth (.str x)) (PyData.depthAll (xs.map .str)) = 0
      rw [this.2]
      rfl
theorem plain_strL (xs : List Str) : PyData.plain (.list (xs.map .str)) = true ∧ (PyData.list (xs.map .str)).depth ≤ 60 := by
  refine ⟨(plain_strs xs).1, ?_⟩
  show PyData.depthAll (xs.map .str) + 1 ≤ 60
  rw [(plain_strs xs).2]
  decide
def c__law_fits : CW := fun ws g Q => ∃ (some_ : List Str) (secs : List (List Str)), ws = [.dat (strsD some_), .dat (.list (secs.map strsD))] ∧ some_.length ≤ 6 ∧ ∀ b, Q (.dat (.bool b)) g
abbrev N__law_fits : List Str := ["_law_some", "_law_others", "_law_other", "_law_common", "_law_name"]
abbrev b__law_fits : TSW := (sSetLF 3 (sLc (sItems (sVar 0)) (bName 4) (sB (s2 (sVar 4) (sVar 2) (gIn false))) (sVar 4) [4]) (sIfS (sAnd (sB (s2 (sVar 3) (sFrz (sLst (sNil))) (gEq not))) (sAnd (sB (s2 (sCal (g1 kLen) (sCons (sVar 3) (sNil))) (sCal (g1 kLen) (sCons (sVar 0) (sNil))) (gLt))) (sB (s2 (sCal (g1 kLen) (sCons (sVar 3) (sNil))) (sCal (g1 kLen) (sCons (sVar 2) (sNil))) (gLt))))) (sRet (sBl false)) (sEnd) (sEnd)))
def t__law_fits : TSW := sFor (sItems (sVar 1)) (bName 2) b__law_fits (sRet (sBl true))
theorem me__law_fits : ∀ ws g Q, c__law_fits ws g Q → t__law_fits (endW Q) (startW N__law_fits ws) ⟨g, []⟩ := by
  rintro ws g Q ⟨sm, secs, rfl, hl, q⟩
  have loop : ∀ (xs : List (List Str)) (x2 x3 x4 : Option U), forR (bName 2) b__law_fits ((xs.map strsD).map .dat) { (endW Q) with nx := sRet (sBl true) (endW Q) } [some (.v (.dat (strsD sm))), some (.v (.dat (.list (secs.map strsD)))), x2, x3, x4] ⟨g, []⟩ := by
    intro xs
    induction xs with
    | nil => exact fun _ _ _ => q true
    | cons x xs ih =>
      intro x2 x3 x4
      refine ⟨_, rfl, len_mm (by omega), ?_⟩
      refine comp_filter (enc := .str) (f := .str) (p := fun y => (x.map PyData.str).any fun e => eqS e (.str y)) (fun y => _) sm [] (fun y _ => rfl) (fun y _ Q' q' => ⟨by rw [flat_strs]; rfl, q'⟩) (fun y _ _ Q' q' => q') ?_
      refine ⟨by decide, ?_⟩
      refine gEq_ok (f := not) (h := ⟨g, []⟩) rfl rfl (plain_strL _) rfl ?_
      show (if (!PyData.eqv _ _) = true then _ else _)
      split
      · show (if decide _ = true then _ else _)
        split
        · show (if decide _ = true then _ else _)
          split
          · exact q false
          · exact ih _ _ _
        · exact ih _ _ _
      · exact ih _ _ _
  exact loop secs none none none
/-- a comprehension that keeps what a draw says -/
theorem comp_draw {n m i : Nat} {σ : Sw} {l : List Ob} {Q : List PyData → Hw → Prop} (e0 : ∀ u, (σ.set i (some u))[0]? = some (some (.v (.ref n)))) (ei : ∀ u, (σ.set i (some u))[i]? = some (some u)) : ∀ (xs : List Str) (acc : List PyData) (ga : List Ob), Rg n m ga → (∀ (ys : List Str) (gb : List Ob), ys.Sublist xs → Rg n m gb → Q (acc ++ ys.map .str) ⟨gb, l⟩) →
    compR (bName i) (sB (s2 (sCallG c__law_draw (sCons (sVar 0) (sCons (sI 2) (sNil)))) (sI 0) (gEq id))) (sVar i) ((xs.map PyData.str).map .dat) acc σ ⟨ga, l⟩ Q
  | [], acc, ga, rg, q => by
    have := q [] ga (List.Sublist.refl _) rg
    rw [List.map_nil, List.append_nil] at this
    exact this
  | x :: xs, acc, ga, rg, q => by
    refine ⟨_, rfl, ?_⟩
    show sVar 0 (σ.set i (some (.v (.dat (.str x))))) ⟨ga, l⟩ _
    unfold sVar
    rw [e0]
    refine ⟨_, rfl, n, m, 2, rfl, by decide, by decide, rg, fun z gb z0 z1 rgb => ?_⟩
    refine ⟨⟨rfl, by show 0 ≤ 60; decide⟩, ?_⟩
    show (if (PyData.eqv (.int z) (.int 0)) = true then _ else _)
    split
    · dsimp only
      rw [ei]
      refine comp_draw e0 ei xs _ gb rgb fun ys gc hs rgc => ?_
      have := q (x :: ys) gc (hs.cons_cons x) rgc
      rw [List.map_cons] at this
      rw [List.append_assoc]
      exact this
    · exact comp_draw e0 ei xs acc gb rgb fun ys gc hs rgc => q ys gc (hs.cons x) rgc
theorem six_ok : ∀ x ∈ six, PyData.strOk x = true := by decide +kernel
theorem lay_strs : ∀ xs : List Str, (∀ x ∈ xs, x ∈ six) → PyData.canLayAll0 (xs.map .str) = true
  | [], _ => by simp [PyData.canLayAll0]
  | x :: xs, h => by
    rw [List.map_cons, PyData.canLayAll0, lay_strs xs fun y hy => h y (List.mem_cons_of_mem _ hy), Bool.and_true, PyData.canLay0]
    exact six_ok x (h x List.mem_cons_self)
theorem shaped_strs {xs : List Str} (h : ∀ x ∈ xs, x ∈ six) : SeqAt.shaped (strsD xs) = true := by
  unfold SeqAt.shaped strsD
  rw [Bool.and_eq_true]
  refine ⟨?_, decide_eq_true ?_⟩
  · rw [PyData.canLay0]
    exact lay_strs xs h
  · show PyData.depthAll (xs.map .str) + 1 ≤ 64
    rw [(plain_strs xs).2]
    decide
theorem shaped_secs {ss : List (List Str)} (h : ∀ s ∈ ss, ∀ x ∈ s, x ∈ six) : SeqAt.shaped (.list (ss.map strsD)) = true := by
  have l : PyData.canLayAll0 (ss.map strsD) = true ∧ PyData.depthAll (ss.map strsD) ≤ 1 := by
    induction ss with
    | nil => exact ⟨by simp [PyData.canLayAll0], by show 0 ≤ 1; decide⟩
    | cons s ss ih =>
      obtain ⟨i1, i2⟩ := ih fun s' hs' => h s' (List.mem_cons_of_mem _ hs')
      refine ⟨?_, ?_⟩
      · rw [List.map_cons, PyData.canLayAll0, i1, Bool.and_true]
        unfold strsD
        rw [PyData.canLay0]
        exact lay_strs s (h s List.mem_cons_self)
      · show max (PyData.depthAll (s.map .str) + 1) (PyData.depthAll (ss.map strsD)) ≤ 1
        rw [(plain_strs s).2]
        omega
  unfold SeqAt.shaped
  rw [Bool.and_eq_true]
  refine ⟨?_, decide_eq_true ?_⟩
  · rw [PyData.canLay0]
    exact l.1
  · show PyData.depthAll (ss.map strsD) + 1 ≤ 64
    omega
theorem alikeAll_strs : ∀ xs ys : List Str, PySem.W.alikeAll (xs.map PyData.str) (ys.map PyData.str) = true
  | [], _ => by simp [PySem.W.alikeAll]
  | _ :: _, [] => by simp [PySem.W.alikeAll]
  | x :: xs, y :: ys => by
    have := alikeAll_strs xs ys
    simp only [List.map_cons, PySem.W.alikeAll, PySem.W.alike, Bool.true_and]
    exact this
theorem alike_secs (ps : List (List Str)) : PySem.W.AllAlike (ps.map strsD) := PySem.W.AllAlike.of (enc := strsD) fun a b => by
  unfold strsD
  simp only [PySem.W.alike]
  exact alikeAll_strs a b
theorem sortable_secs {ps : List (List Str)} (h : ∀ p ∈ ps, 1 < p.length) : PySem.W.Sortable (ps.map strsD) := by
  refine .inl fun d hd => ?_
  obtain ⟨p, hp, rfl⟩ := List.mem_map.mp hd
  have h2 := h p hp
  match p, h2 with
  | x :: r, _ => exact ⟨_, _, rfl⟩
theorem sort_secs (ps : List (List Str)) : sortD (ps.map strsD) = (ps.mergeSort fun a b => PySem.W.dataLe false id (strsD a) (strsD b)).map strsD :=
  (List.map_mergeSort (r := fun a b => PySem.W.dataLe false id (strsD a) (strsD b)) (s := PySem.W.dataLe false id) (f := strsD) (l := ps) (fun a _ b _ => rfl)).symm
theorem flat_secs (ps : List (List Str)) : flatD.flatDs (ps.map strsD) = true := by
  have s : ∀ xs : List Str, flatD.flatDs (xs.map .str) = true := fun xs => by
    induction xs with
    | nil => rfl
    | cons x xs ih =>
      show (flatD (.str x) && flatD.flatDs (xs.map .str)) = true
      rw [ih]
      rfl
  induction ps with
  | nil => rfl
  | cons p ps ih =>
    show (flatD.flatDs (p.map .str) && flatD.flatDs (ps.map strsD)) = true
    rw [ih, s]
    rfl
theorem depth_sec (s : List Str) : (strsD s).depth ≤ 50 := by
  show PyData.depthAll (s.map .str) + 1 ≤ 50
  rw [(plain_strs s).2]
  decide
def SecOk (nms : List Str) (s : List Str) : Prop := s.Sublist nms ∧ 1 < s.length
def IsSecs (nms : List Str) (w : W) : Prop := ∃ secs : List (List Str), w = .dat (.tuple (secs.map strsD)) ∧ secs.length ≤ 3 ∧ ∀ s ∈ secs, SecOk nms s
def c__law_groups : CW := fun ws g Q => ∃ (n m : Nat) (nms : List Str), ws = [.ref n, .dat (.list (nms.map .str))] ∧ nms.length ≤ 4 ∧ nms.Sublist six ∧ drawn (IsSecs nms) n m g Q
abbrev N__law_groups : List Str := ["_law_feed_here", "_law_names_here", "_law_found", "_law_lap", "_law_some", "_law_name"]
abbrev b__law_groups : TSW := (sSet 4 (sCal (g1 kTup) (sCons (sFrz (sLc (sItems (sVar 1)) (bName 5) (sB (s2 (sCallG c__law_draw (sCons (sVar 0) (sCons (sI 2) (sNil)))) (sI 0) (gEq id))) (sVar 5) [5])) (sNil))) (sIfS (sAnd (sB (s2 (sCal (g1 kLen) (sCons (sVar 4) (sNil))) (sI 1) (gGt))) (sAnd (sB (s2 (sVar 4) (sVar 2) (gInD true))) (sB (sCallP c__law_fits (sCons (sVar 4) (sCons (sVar 2) (sNil))))))) (sExpr (sOwnM 2 fApp (sCons (sVar 4) (sNil))) (sEnd)) (sEnd) (sEnd)))
def t__law_groups : TSW := sSet 2 (sOwn (sLst (sNil))) (sFor (sRng1 (sCons (sCallG c__law_draw (sCons (sVar 0) (sCons (sI 4) (sNil)))) (sNil))) (bName 3) b__law_groups (sRet (sCal (g1 kTup) (sCons (sFrz (sCalL kSort (sCons (sVar 2) (sNil)))) (sNil)))))
theorem me__law_groups : ∀ ws g Q, c__law_groups ws g Q → t__law_groups (endW Q) (startW N__law_groups ws) ⟨g, []⟩ := by
  rintro ws g Q ⟨n, m, nms, rfl, hl, h6, rg, q⟩
  refine ⟨by decide, ?_⟩
  refine ⟨_, rfl, n, m, 4, rfl, by decide, by decide, rg, fun c ga c0 c1 rga => ?_⟩
  refine ⟨by omega, by omega, ?_⟩
  have loop : ∀ (xs : List W) (secs : List (List Str)) (x3 x4 x5 : Option U) (ga : List Ob), secs.length + xs.length ≤ 3 → (∀ s ∈ secs, SecOk nms s) → Rg n m ga → forR (bName 3) b__law_groups xs { (endW Q) with nx := sRet (sCal (g1 kTup) (sCons (sFrz (sCalL kSort (sCons (sVar 2) (sNil)))) (sNil))) (endW Q) } [some (.v (.ref n)), some (.v (.dat (.list (nms.map .str)))), some (.l 0), x3, x4, x5] ⟨ga, [.lsd (secs.map strsD)]⟩ := by
    intro xs
    induction xs with
    | nil =>
      intro secs x3 x4 x5 ga hn hs rga
      refine ⟨⟨flat_secs _, alike_secs _, sortable_secs fun s h => (hs s h).2, fun d hd => ?_⟩, ?_⟩
      · obtain ⟨s, _, rfl⟩ := List.mem_map.mp hd
        exact depth_sec s
      · rw [sort_secs]
        refine q _ _ ⟨_, rfl, ?_, fun s h => hs s ((List.mergeSort_perm _ _).mem_iff.mp h)⟩ rga
        rw [(List.mergeSort_perm _ _).length_eq]
        exact Nat.le_trans (Nat.le_add_right _ _) hn
    | cons x xs ih =>
      intro secs x3 x4 x5 ga hn hs rga
      rw [List.length_cons] at hn
      refine ⟨_, rfl, len_mm (by omega), ?_⟩
      refine comp_draw (n := n) (m := m) (i := 5) (fun u => rfl) (fun u => rfl) nms [] ga rga fun ys gb hy rgb => ?_
      rw [List.nil_append]
      have nx : ∀ y3 y4 y5, forR (bName 3) b__law_groups xs { (endW Q) with nx := sRet (sCal (g1 kTup) (sCons (sFrz (sCalL kSort (sCons (sVar 2) (sNil)))) (sNil))) (endW Q) } [some (.v (.ref n)), some (.v (.dat (.list (nms.map .str)))), some (.l 0), y3, y4, y5] ⟨gb, [.lsd (secs.map strsD)]⟩ := fun y3 y4 y5 => ih secs y3 y4 y5 gb (by omega) hs rgb
      show (if decide (1 < ((ys.map PyData.str).length : Int)) = true then _ else _)
      rw [List.length_map]
      by_cases h1 : 1 < (ys.length : Int)
      · rw [if_pos (decide_eq_true h1)]
        have ysix : ∀ y ∈ ys, y ∈ six := fun y hy' => h6.subset (hy.subset hy')
        refine ⟨⟨shaped_strs ysix, shaped_secs fun s hs' y hy' => h6.subset ((hs s hs').1.subset hy')⟩, ?_⟩
        show (if (!_) = true then _ else _)
        split
        · refine ⟨_, rfl, ys, secs, rfl, by have := hy.length_le; omega, fun b => ⟨rfl, ?_⟩⟩
          cases b with
          | true =>
            refine ⟨by rw [List.length_map]; omega, ?_⟩
            have := ih (secs ++ [ys]) (some (.v x)) (some (.v (.dat (strsD ys)))) x5 gb (by rw [List.length_append, List.length_singleton]; omega) (fun s hs' => by
              rcases List.mem_append.mp hs' with z | z
              · exact hs _ z
              · rw [List.mem_singleton.mp z]
                exact ⟨hy, by omega⟩) rgb
            rw [List.map_append] at this
            exact this
          | false => exact nx _ _ _
        · exact nx _ _ _
      · rw [if_neg (by simpa using h1)]
        exact nx _ _ _
  exact loop _ [] none none none ga (by rw [rangeW_len]; show 0 + _ ≤ 3; omega) (fun _ h => by cases h) rga
end Wl

/-! k17: drawn charges, sheets -/
namespace Wl
open PySem PySem.Spec PyProof.Rows L2 Cb
def IsDays (nr nd : Nat) (w : W) : Prop := ∃ days : List (List Rat), w = .dat (.tuple (days.map dayD)) ∧ days.length = nd ∧ ∀ d ∈ days, d.length = nr ∧ ∀ q ∈ d, Bd 20 q
def c__law_charges : CW := fun ws g Q => ∃ (n m : Nat) (rows : List Ln) (k : Nat), ws = [.ref n, .dat (.tuple (rows.map ld)), .dat (.int (k : Int))] ∧ rows.length ≤ 4 ∧ k ≤ 3 ∧ drawn (IsDays rows.length k) n m g Q
abbrev N__law_charges : List Str := ["_law_feed_here", "_law_heads_here", "_law_count", "_law_found", "_law_d", "_law_row", "_law_head", "_law_charge_here"]
abbrev b2__law_charges : TSW := (sSet 7 (sCallG c__law_charge (sCons (sVar 0) (sNil))) (sExpr (sOwnM 5 fApp (sCons (sIf (sAnd (sB (s2 (sVar 6) (sI 3) gIx)) (sB (s2 (sCallG c__law_draw (sCons (sVar 0) (sCons (sI 4) (sNil)))) (sI 0) (gGt)))) (sVar 7) (sTup (sCons (sI 0) (sCons (sI 1) (sNil))))) (sNil))) (sEnd)))
abbrev b__law_charges : TSW := (sSet 5 (sOwn (sLst (sNil))) (sFor (sItems (sVar 1)) (bName 6) b2__law_charges (sExpr (sOwnM 3 fApp (sCons (sCal (g1 kTup) (sCons (sVar 5) (sNil))) (sNil))) (sEnd))))
def t__law_charges : TSW := sSet 3 (sOwn (sLst (sNil))) (sFor (sRng1 (sCons (sVar 2) (sNil))) (bName 4) b__law_charges (sRet (sCal (g1 kTup) (sCons (sVar 3) (sNil)))))
theorem var_ok {i : Nat} {σ : Sw} {h : Hw} {u : U} {Q : QU} (e : σ[i]? = some (some u)) (q : Q u h) : sVar i σ h Q := by
  unfold sVar
  rw [e]
  exact q
def ownK (k : Nat) (f : OwnF) (Q : QU) : List U → Hw → Prop := fun us h1 => match h1.l[k]? with
  | some (.lsd ds) => f ds us h1 fun ds' d => Q (.v (.dat d)) (h1.putL k (.lsd ds'))
  | _ => False
theorem ownK_ok {k : Nat} {f : OwnF} {Q : QU} {us : List U} {h1 : Hw} {ds : List PyData} (e : h1.l[k]? = some (.lsd ds)) (q : f ds us h1 fun ds' d => Q (.v (.dat d)) (h1.putL k (.lsd ds'))) : ownK k f Q us h1 := by
  unfold ownK
  rw [e]
  exact q
theorem ownM_in {n k : Nat} {f : OwnF} {tas : TAW} {σ : Sw} {h : Hw} {Q : QU} {ds : List PyData} (e : σ[n]? = some (some (.l k))) (eo : h.l[k]? = some (.lsd ds)) (q : tas σ h (ownK k f Q)) : sOwnM n f tas σ h Q := by
  unfold sOwnM
  rw [e]
  dsimp only
  rw [eo]
  exact q
theorem kTup_l {h : Hw} {k : Nat} {ds : List PyData} {Q : QU} (e : h.l[k]? = some (.lsd ds)) (q : Q (.v (.dat (.tuple ds))) h) : kTup (.l k) h Q := by
  unfold kTup rowD
  dsimp only
  rw [e]
  exact q
theorem last_at {l : List Ob} {a x : Ob} : (a :: (l ++ [x]))[l.length + 1]? = some x := by simp
theorem set_last {l : List Ob} {a x y : Ob} : (a :: (l ++ [x])).set (l.length + 1) y = a :: (l ++ [y]) := by simp
theorem me__law_charges : ∀ ws g Q, c__law_charges ws g Q → t__law_charges (endW Q) (startW N__law_charges ws) ⟨g, []⟩ := by
  rintro ws g Q ⟨n, m, rows, k, rfl, hl, hk, rg, q⟩
  refine ⟨by decide, ?_⟩
  refine ⟨by omega, by omega, ?_⟩
  show forR (bName 4) b__law_charges (rangeW 0 ((k : Int)).toNat) _ _ _
  rw [Int.toNat_natCast]
  -- one day
  have inner : ∀ (D : EnW) (rs : List Ln) (days : List (List Rat)) (day : List Rat) (x4 x6 x7 : Option U) (ga : List Ob) (rest : List Ob), (∀ r ∈ rs, r ∈ rows) → day.length + rs.length = rows.length → (∀ q ∈ day, Bd 20 q) → Rg n m ga →
      (∀ (day : List Rat) y6 y7 gb, day.length = rows.length → (∀ q ∈ day, Bd 20 q) → Rg n m gb → D.nx [some (.v (.ref n)), some (.v (.dat (.tuple (rows.map ld)))), some (.v (.dat (.int (k : Int)))), some (.l 0), x4, some (.l (rest.length + 1)), y6, y7] ⟨gb, .lsd (days.map dayD) :: (rest ++ [.lsd (day.map qd)])⟩) →
      forR (bName 6) b2__law_charges ((rs.map ld).map .dat) D [some (.v (.ref n)), some (.v (.dat (.tuple (rows.map ld)))), some (.v (.dat (.int (k : Int)))), some (.l 0), x4, some (.l (rest.length + 1)), x6, x7] ⟨ga, .lsd (days.map dayD) :: (rest ++ [.lsd (day.map qd)])⟩ := by
    intro D rs days
    induction rs with
    | nil => exact fun day x4 x6 x7 ga rest _ e hb rga kk => kk day x6 x7 ga e hb rga
    | cons r rs ih =>
      intro day x4 x6 x7 ga rest hm e hb rga kk
      rw [List.length_cons] at e
      have nxt : ∀ (r' : Rat) y6 y7 gz, Bd 20 r' → Rg n m gz → forR (bName 6) b2__law_charges ((rs.map ld).map .dat) D [some (.v (.ref n)), some (.v (.dat (.tuple (rows.map ld)))), some (.v (.dat (.int (k : Int)))), some (.l 0), x4, some (.l (rest.length + 1)), y6, y7] ⟨gz, (Ob.lsd (days.map dayD) :: (rest ++ [Ob.lsd (day.map qd)])).set (rest.length + 1) (Ob.lsd (day.map qd ++ [qd r']))⟩ := by
        intro r' y6 y7 gz br rgz
        have := ih (day ++ [r']) x4 y6 y7 gz rest (fun a ha => hm a (List.mem_cons_of_mem _ ha)) (by rw [List.length_append, List.length_singleton]; omega) (fun a ha => by
          rcases List.mem_append.mp ha with z | z
          · exact hb a z
          · rw [List.mem_singleton.mp z]
            exact br) rgz kk
        rw [List.map_append] at this
        rw [set_last]
        exact this
      refine ⟨_, rfl, ?_⟩
      refine ⟨_, rfl, n, m, rfl, rga, fun w gb ⟨q1, ew, bq⟩ rgb => ?_⟩
      subst ew
      have hdl : (day.map qd).length ≤ 1000000 := by rw [List.length_map]; omega
      have fin : ∀ (r' : Rat) y6 y7 gz, Bd 20 r' → Rg n m gz → ownK (rest.length + 1) fApp (fun _ h1 => forR (bName 6) b2__law_charges ((rs.map ld).map .dat) D [some (.v (.ref n)), some (.v (.dat (.tuple (rows.map ld)))), some (.v (.dat (.int (k : Int)))), some (.l 0), x4, some (.l (rest.length + 1)), y6, y7] h1) [.v (.dat (qd r'))] ⟨gz, .lsd (days.map dayD) :: (rest ++ [.lsd (day.map qd)])⟩ :=
        fun r' y6 y7 gz br rgz => ownK_ok (h1 := ⟨gz, .lsd (days.map dayD) :: (rest ++ [.lsd (day.map qd)])⟩) last_at ⟨hdl, nxt r' y6 y7 gz br rgz⟩
      show sOwnM 5 fApp _ _ _ _
      refine ownM_in (k := rest.length + 1) (ds := day.map qd) rfl last_at ?_
      refine ⟨_, rfl, ?_⟩
      show (if r.on = true then _ else _)
      by_cases ho : r.on = true
      · rw [if_pos ho]
        refine ⟨_, rfl, n, m, 4, rfl, by decide, by decide, rgb, fun z gc z0 z1 rgc => ?_⟩
        show (if decide (0 < z) = true then _ else _)
        split
        · exact fin q1 _ _ gc bq rgc
        · exact ⟨l2, fin ⟨0, 1, by decide, by decide⟩ _ _ gc ⟨by decide, by decide⟩ rgc⟩
      · rw [if_neg ho]
        exact ⟨l2, fin ⟨0, 1, by decide, by decide⟩ _ _ gb ⟨by decide, by decide⟩ rgb⟩
  have outer : ∀ (xs : List W) (days : List (List Rat)) (x4 x5 x6 x7 : Option U) (ga : List Ob) (rest : List Ob), days.length + xs.length = k → (∀ d ∈ days, d.length = rows.length ∧ ∀ q ∈ d, Bd 20 q) → Rg n m ga → forR (bName 4) b__law_charges xs { (endW Q) with nx := sRet (sCal (g1 kTup) (sCons (sVar 3) (sNil))) (endW Q) } [some (.v (.ref n)), some (.v (.dat (.tuple (rows.map ld)))), some (.v (.dat (.int (k : Int)))), some (.l 0), x4, x5, x6, x7] ⟨ga, .lsd (days.map dayD) :: rest⟩ := by
    intro xs
    induction xs with
    | nil => exact fun days x4 x5 x6 x7 ga rest e hd rga => q _ _ ⟨days, rfl, e, hd⟩ rga
    | cons x xs ih =>
      intro days x4 x5 x6 x7 ga rest e hd rga
      rw [List.length_cons] at e
      refine ⟨_, rfl, (by show 0 ≤ 1000; decide), ?_⟩
      refine inner _ rows days [] (some (.v x)) x6 x7 ga rest (fun _ h => h) (by simp) (fun _ h => by cases h) rga fun day y6 y7 gb hday hb rgb => ?_
      dsimp only
      unfold sExpr
      refine ownM_in (k := 0) (ds := days.map dayD) rfl rfl ?_
      have := ih (days ++ [day]) (some (.v x)) (some (.l (rest.length + 1))) y6 y7 gb (rest ++ [.lsd (day.map qd)]) (by rw [List.length_append, List.length_singleton]; omega) (fun a ha => by
        rcases List.mem_append.mp ha with z | z
        · exact hd a z
        · rw [List.mem_singleton.mp z]
          exact ⟨hday, hb⟩) rgb
      rw [List.map_append] at this
      have fin2 : kTup (.l (rest.length + 1)) ⟨gb, .lsd (days.map dayD) :: (rest ++ [.lsd (day.map qd)])⟩ fun u h1 => ownK 0 fApp (fun _ h1 => forR (bName 4) b__law_charges xs { (endW Q) with nx := sRet (sCal (g1 kTup) (sCons (sVar 3) (sNil))) (endW Q) } [some (.v (.ref n)), some (.v (.dat (.tuple (rows.map ld)))), some (.v (.dat (.int (k : Int)))), some (.l 0), some (.v x), some (.l (rest.length + 1)), y6, y7] h1) [u] h1 :=
        kTup_l (h := ⟨gb, .lsd (days.map dayD) :: (rest ++ [.lsd (day.map qd)])⟩) last_at (ownK_ok (k := 0) rfl ⟨by rw [List.length_map]; omega, this⟩)
      exact fin2
  exact outer _ [] none none none none g [] (by rw [rangeW_len]; simp) (fun _ h => by cases h) rg
end Wl

/-! k17: a drawn sheet; what the law reckons of it -/
namespace Wl
open PySem PySem.Spec PyProof.Rows L2 Cb
/-- a sheet as the law draws it -/
structure LS (s : Sh) : Prop where
  six : (names s).Sublist six
  n : s.rows.length ≤ 4
  m : s.days.length ≤ 3
  ln : ∀ l ∈ s.rows, LnOk l
  sn : s.secs.length ≤ 3
  sec : ∀ x ∈ s.secs, SecOk (names s) x
  day : ∀ d ∈ s.days, d.length = s.rows.length ∧ ∀ q ∈ d, Bd 20 q
theorem six_nd : six.Nodup := by decide
theorem LS.nd {s : Sh} (h : LS s) : (names s).Nodup := six_nd.sublist h.six
theorem names_len (s : Sh) : (names s).length = s.rows.length := by unfold names; rw [List.length_map]
theorem LS.ok {s : Sh} (h : LS s) : ShOk s where
  n := Nat.le_trans h.n (by decide)
  m := Nat.le_trans h.m (by decide)
  nd := h.nd
  sec := fun x hx y hy => (h.sec x hx).1.subset hy
  secl := fun x hx => by have := (h.sec x hx).1.length_le; rw [names_len] at this; have := h.n; omega
  sn := Nat.le_trans h.sn (by decide)
  day := fun d hd => ⟨(h.day d hd).1, fun q hq => ((h.day d hd).2 q hq).mono (by decide)⟩
  ex := fun l hl => (h.ln l hl).ex.mono (by decide)
def IsSheet (w : W) : Prop := ∃ s : Sh, w = .dat (shD s) ∧ LS s
def c__law_case : CW := fun ws g Q => ∃ (n m : Nat) (b : Bool), ws = [.ref n, .dat (.int 4), .dat (.int 3), .dat (.bool b)] ∧ drawn IsSheet n m g Q
abbrev N__law_case : List Str := ["_law_feed_here", "_law_most_lines", "_law_most_days", "_law_is_fresh", "_law_names_here", "_law_heads_here", "_law_groups_here"]
def t__law_case : TSW := sSet 4 (sCallG c__law_names (sCons (sVar 0) (sCons (sVar 1) (sNil)))) (sSet 5 (sCallG c__law_heads (sCons (sVar 0) (sCons (sVar 4) (sCons (sVar 3) (sNil))))) (sSet 6 (sCallG c__law_groups (sCons (sVar 0) (sCons (sVar 4) (sNil)))) (sRet (sTup (sCons (sVar 5) (sCons (sVar 6) (sCons (sCallG c__law_charges (sCons (sVar 0) (sCons (sVar 5) (sCons (sCallG c__law_draw (sCons (sVar 0) (sCons (s2 (sVar 2) (sI 1) gAdd) (sNil)))) (sNil))))) (sNil))))))))
theorem me__law_case : ∀ ws g Q, c__law_case ws g Q → t__law_case (endW Q) (startW N__law_case ws) ⟨g, []⟩ := by
  rintro ws g Q ⟨n, m, b, rfl, rg, q⟩
  refine ⟨_, rfl, n, m, rfl, rg, fun w ga ⟨nms, ew, hs, hl⟩ rga => ?_⟩
  subst ew
  refine ⟨_, rfl, n, m, nms, b, rfl, hl, rga, fun w gb ⟨rows, ew, hn, hr⟩ rgb => ?_⟩
  subst ew
  refine ⟨_, rfl, n, m, nms, rfl, hl, hs, rgb, fun w gc ⟨secs, ew, hsn, hsec⟩ rgc => ?_⟩
  subst ew
  have lr : rows.length ≤ 4 := by
    have := congrArg List.length hn
    rw [List.length_map] at this
    omega
  refine ⟨_, rfl, n, m, 4, rfl, by decide, by decide, rgc, fun z gd z0 z1 rgd => ?_⟩
  obtain ⟨k, rfl⟩ := Int.eq_ofNat_of_zero_le z0
  refine ⟨_, rfl, n, m, rows, k, rfl, lr, by omega, rgd, fun w ge ⟨days, ew, hd1, hd⟩ rge => ?_⟩
  subst ew
  refine ⟨l3, ?_⟩
  exact q _ _ ⟨⟨rows, secs, days⟩, rfl, ⟨by show (rows.map (·.nm)).Sublist six; rw [hn]; exact hs, lr, by show days.length ≤ 3; omega, hr, hsn, fun x hx => by show SecOk (rows.map (·.nm)) x; rw [hn]; exact hsec x hx, hd⟩⟩ rge
/-! ### the law's own sums -/
def IsPlaces (s : Sh) (w : W) : Prop := ∃ ks : List Wh, w = .dat (.list (ks.map whD)) ∧ ks.length ≤ 60 ∧ ∀ k ∈ ks, WhOk s k
def c__law_places : CW := fun ws g Q => ∃ s : Sh, ws = [.dat (shD s)] ∧ LS s ∧ ∀ w, IsPlaces s w → Q w g
abbrev N__law_places : List Str := ["_law_place", "_law_many", "_law_found", "_law_d", "_law_i", "_law_s"]
abbrev b__law_places : TSW := (sExpr (sOwnM 2 fExt (sCons (sFrz (sLst (sCons (sTup (sCons (sStr "account") (sCons (sVar 3) (sNil)))) (sCons (sTup (sCons (sStr "day") (sCons (sVar 3) (sNil)))) (sNil))))) (sNil))) (sExpr (sOwnM 2 fExt (sCons (sFrz (sLc (sRng1 (sCons (sVar 1) (sNil))) (bName 4) sYes (sTup (sCons (sStr "entry") (sCons (sVar 3) (sCons (sVar 4) (sNil))))) [4])) (sNil))) (sExpr (sOwnM 2 fExt (sCons (sFrz (sLc (sRng1 (sCons (sVar 1) (sNil))) (bName 4) sYes (sTup (sCons (sStr "line") (sCons (sVar 4) (sCons (sVar 3) (sNil))))) [4])) (sNil))) (sExpr (sOwnM 2 fExt (sCons (sFrz (sLc (sRng1 (sCons (sCal (g1 kLen) (sCons (s2 (sVar 0) (sI 1) gIx) (sNil))) (sNil))) (bName 5) sYes (sTup (sCons (sStr "section") (sCons (sVar 5) (sCons (sVar 3) (sNil))))) [5])) (sNil))) (sEnd)))))
def t__law_places : TSW := sPar 1 2 (sCal (g1 kLen) (sCons (s2 (sVar 0) (sI 0) gIx) (sNil))) (sOwn (sLst (sNil))) (sFor (sRng1 (sCons (sCal (g1 kLen) (sCons (s2 (sVar 0) (sI 2) gIx) (sNil))) (sNil))) (bName 3) b__law_places (sRet (sFrz (sCalL kSort (sCons (sVar 2) (sNil))))))
theorem rangeW_nat (n : Nat) : rangeW 0 ((n : Int)).toNat = ((List.range n).map natD).map .dat := by
  rw [Int.toNat_natCast]
  unfold rangeW
  rw [List.map_map]
  refine List.map_congr_left fun i _ => ?_
  rw [Int.zero_add]
  rfl
/-- a comprehension over range(n) that only reckons -/
theorem comp_range {n : Nat} {f : Nat → PyData} {b : BW} {te : TW} {σ : Sw} {h : Hw} {Q : List PyData → Hw → Prop} (sb : Nat → Sw) (hb : ∀ i < n, b (.dat (natD i)) σ = some (sb i)) (he : ∀ i < n, ∀ Q', Q' (.v (.dat (f i))) h → te (sb i) h Q') (q : Q ((List.range n).map f) h) : compR b sYes te (rangeW 0 ((n : Int)).toNat) [] σ h Q := by
  rw [rangeW_nat]
  exact comp_map (f := f) sb (List.range n) [] (fun i hi => hb i (List.mem_range.mp hi)) (fun i hi => he i (List.mem_range.mp hi)) (by rw [List.nil_append]; exact q)
theorem alike_whD (a b : Wh) : PySem.W.alike (whD a) (whD b) = true := by
  cases a <;> cases b <;> simp [whD, PySem.W.alike, PySem.W.alikeAll]
theorem sort_whs (ps : List Wh) : sortD (ps.map whD) = (ps.mergeSort fun a b => PySem.W.dataLe false id (whD a) (whD b)).map whD :=
  (List.map_mergeSort (r := fun a b => PySem.W.dataLe false id (whD a) (whD b)) (s := PySem.W.dataLe false id) (f := whD) (l := ps) (fun a _ b _ => rfl)).symm
theorem flat_whs (ps : List Wh) : flatD.flatDs (ps.map whD) = true := by
  induction ps with
  | nil => rfl
  | cons p ps ih =>
    show (flatD (whD p) && flatD.flatDs (ps.map whD)) = true
    rw [ih]
    cases p <;> rfl
theorem depth_wh (k : Wh) : (whD k).depth ≤ 50 := by cases k <;> (show 1 ≤ 50; decide)
theorem me__law_places : ∀ ws g Q, c__law_places ws g Q → t__law_places (endW Q) (startW N__law_places ws) ⟨g, []⟩ := by
  rintro ws g Q ⟨s, rfl, hs, q⟩
  refine ⟨_, rfl, by decide, ?_⟩
  have e0 : (s.rows.map ld).length = s.rows.length := List.length_map ..
  have e1 : (s.secs.map strsD).length = s.secs.length := List.length_map ..
  have e2 : (s.days.map dayD).length = s.days.length := List.length_map ..
  refine ⟨_, rfl, ?_⟩
  have hn := hs.n
  have hm := hs.m
  have hsn := hs.sn
  show (-(2 ^ 62) ≤ (((s.days.map dayD).length : Nat) : Int) ∧ (((s.days.map dayD).length : Nat) : Int) < 2 ^ 62 ∧ forR (bName 3) b__law_places (rangeW 0 ((((s.days.map dayD).length : Nat) : Int)).toNat) { (endW Q) with nx := sRet (sFrz (sCalL kSort (sCons (sVar 2) (sNil)))) (endW Q) } [some (.v (.dat (shD s))), some (.v (.dat (.int (((s.rows.map ld).length : Nat) : Int)))), some (.l 0), none, none, none] ⟨g, [.lsd []]⟩)
  rw [e2, e0, rangeW_nat]
  refine ⟨by omega, by omega, ?_⟩
  have loop : ∀ (xs : List Nat) (ks : List Wh) (x3 x4 x5 : Option U), ks.length + 20 * xs.length ≤ 60 → (∀ d ∈ xs, d < s.days.length) → (∀ k ∈ ks, WhOk s k) → forR (bName 3) b__law_places ((xs.map natD).map .dat) { (endW Q) with nx := sRet (sFrz (sCalL kSort (sCons (sVar 2) (sNil)))) (endW Q) } [some (.v (.dat (shD s))), some (.v (.dat (.int (s.rows.length : Int)))), some (.l 0), x3, x4, x5] ⟨g, [.lsd (ks.map whD)]⟩ := by
    intro xs
    induction xs with
    | nil =>
      intro ks x3 x4 x5 hl _ hk
      refine ⟨⟨flat_whs _, PySem.W.AllAlike.of (enc := whD) alike_whD, .inl fun d hd => ?_, fun d hd => ?_⟩, ?_⟩
      · obtain ⟨k, _, rfl⟩ := List.mem_map.mp hd
        cases k <;> exact ⟨_, _, rfl⟩
      · obtain ⟨k, _, rfl⟩ := List.mem_map.mp hd
        exact depth_wh k
      · rw [sort_whs]
        refine q _ ⟨_, rfl, ?_, fun k h => hk k ((List.mergeSort_perm _ _).mem_iff.mp h)⟩
        rw [(List.mergeSort_perm _ _).length_eq]
        exact hl
    | cons x xs ih =>
      intro ks x3 x4 x5 hl hx hk
      rw [List.length_cons] at hl
      have hxd := hx x List.mem_cons_self
      have lk : ∀ l : List PyData, (ks.map whD).length + l.length ≤ 1000000 ↔ ks.length + l.length ≤ 1000000 := fun l => by rw [List.length_map]
      refine ⟨_, rfl, ?_⟩
      have last := ih (ks ++ ([Wh.acc x, Wh.day x] ++ (List.range s.rows.length).map (fun i => Wh.entry x i) ++ (List.range s.rows.length).map (fun i => Wh.line i x) ++ (List.range s.secs.length).map (fun i => Wh.sec i x)))
      have nl : ks.length + ([Wh.acc x, Wh.day x] ++ (List.range s.rows.length).map (fun i => Wh.entry x i) ++ (List.range s.rows.length).map (fun i => Wh.line i x) ++ (List.range s.secs.length).map (fun i => Wh.sec i x)).length ≤ ks.length + 20 := by
        simp only [List.length_append, List.length_map, List.length_range, List.length_cons, List.length_nil]
        omega
      refine ⟨l2, l2, l2, ?_, ?_⟩
      · show (ks.map whD).length + 2 ≤ 1000000
        rw [List.length_map]
        omega
      refine ⟨by omega, by omega, by rw [rangeW_nat, List.length_map, List.length_map, List.length_range]; omega, ?_⟩
      refine comp_range (f := fun i => whD (.entry x i)) (fun i => _) (fun i _ => rfl) (fun i _ Q' q' => ⟨l3, q'⟩) ?_
      refine ⟨?_, ?_⟩
      · simp only [List.length_append, List.length_map, List.length_range, List.length_cons, List.length_nil]
        omega
      refine ⟨by omega, by omega, by rw [rangeW_nat, List.length_map, List.length_map, List.length_range]; omega, ?_⟩
      refine comp_range (f := fun i => whD (.line i x)) (fun i => _) (fun i _ => rfl) (fun i _ Q' q' => ⟨l3, q'⟩) ?_
      refine ⟨?_, ?_⟩
      · simp only [List.length_append, List.length_map, List.length_range, List.length_cons, List.length_nil]
        omega
      refine ⟨_, rfl, ?_⟩
      show (-(2 ^ 62) ≤ (((s.secs.map strsD).length : Nat) : Int) ∧ (((s.secs.map strsD).length : Nat) : Int) < 2 ^ 62 ∧ _)
      rw [e1]
      refine ⟨by omega, by omega, by rw [rangeW_nat, List.length_map, List.length_map, List.length_range]; omega, ?_⟩
      refine comp_range (f := fun i => whD (.sec i x)) (fun i => _) (fun i _ => rfl) (fun i _ Q' q' => ⟨l3, q'⟩) ?_
      refine ⟨?_, ?_⟩
      · simp only [List.length_append, List.length_map, List.length_range, List.length_cons, List.length_nil]
        omega
      have := last (some (.v (.dat (natD x)))) x4 x5 (by rw [List.length_append]; omega) (fun d hd => hx d (List.mem_cons_of_mem _ hd)) (fun k hk' => by
        simp only [List.mem_append, List.mem_cons, List.not_mem_nil, or_false, List.mem_map, List.mem_range] at hk'
        rcases hk' with z | ((((rfl | rfl) | ⟨i, hi, rfl⟩) | ⟨i, hi, rfl⟩) | ⟨i, hi, rfl⟩)
        · exact hk k z
        · exact hxd
        · exact hxd
        · exact ⟨hxd, hi⟩
        · exact ⟨hi, hxd⟩
        · exact ⟨hi, hxd⟩)
      simp only [List.map_append, List.map_map, ← List.append_assoc] at this ⊢
      exact this
  refine loop (List.range s.days.length) [] none none none ?_ (fun d hd => List.mem_range.mp hd) (fun _ h => by cases h)
  rw [List.length_range]
  simp
  omega
end Wl

/-! k17: the law's own sums of a sheet -/
namespace Wl
open PySem PySem.Spec PyProof.Rows L2 Cb
/-- is the name at i in the section -/
def inSec (ns sec : List Str) (i : Nat) : Bool := match ns[i]? with
  | some x => sec.contains x
  | none => false
theorem idxOf_ne {a x : Str} {l : List Str} (h : a ≠ x) : (a :: l).idxOf x = l.idxOf x + 1 := by
  rw [List.idxOf_cons]
  have : (a == x) = false := by simpa using h
  rw [this]
  rfl
theorem map_flat {α β : Type} {f : α → β} : ∀ l : List α, l.flatMap (fun x => [f x]) = l.map f
  | [] => rfl
  | x :: l => by rw [List.flatMap_cons, map_flat l]; rfl
theorem sec_filter : ∀ {sec ns : List Str}, sec.Sublist ns → ns.Nodup → (List.range ns.length).filter (inSec ns sec) = sec.map fun x => ns.idxOf x := by
  intro sec ns h
  induction h with
  | slnil => exact fun _ => rfl
  | @cons l₁ l₂ a h ih =>
    intro nd
    have hn := List.nodup_cons.mp nd
    have ha : a ∉ l₁ := fun m => hn.1 (h.subset m)
    rw [List.length_cons, List.range_succ_eq_map, List.filter_cons_of_neg (by show ¬ (l₁.contains a = true); simpa using ha), List.filter_map]
    have : (inSec (a :: l₂) l₁ ∘ Nat.succ) = inSec l₂ l₁ := rfl
    rw [this, ih hn.2, List.map_map]
    refine List.map_congr_left fun x hx => ?_
    have : a ≠ x := fun e => ha (e ▸ hx)
    show (List.idxOf x l₂).succ = _
    exact (idxOf_ne this).symm
  | @cons_cons l₁ l₂ a h ih =>
    intro nd
    have hn := List.nodup_cons.mp nd
    rw [List.length_cons, List.range_succ_eq_map, List.filter_cons_of_pos (by show ((a :: l₁).contains a = true); simp), List.filter_map]
    have e : (List.range l₂.length).filter (inSec (a :: l₂) (a :: l₁) ∘ Nat.succ) = (List.range l₂.length).filter (inSec l₂ l₁) := by
      refine List.filter_congr fun i hi => ?_
      have hi := List.mem_range.mp hi
      show inSec (a :: l₂) (a :: l₁) (i + 1) = _
      unfold inSec
      rw [List.getElem?_cons_succ, List.getElem?_eq_getElem hi]
      have : l₂[i] ≠ a := fun e => hn.1 (e ▸ List.getElem_mem hi)
      dsimp only
      rw [List.contains_cons]
      simp [this]
    rw [e, ih hn.2, List.map_cons, List.map_map, List.idxOf_cons_self]
    congr 1
    refine List.map_congr_left fun x hx => ?_
    have : a ≠ x := fun e => hn.1 (e ▸ h.subset hx)
    show (List.idxOf x l₂).succ = _
    exact (idxOf_ne this).symm
def cL (f : Sh → Wh → PyData) : CW := fun ws g Q => ∃ (s : Sh) (k : Wh), ws = [.dat (shD s), .dat (whD k)] ∧ LS s ∧ WhOk s k ∧ Q (.dat (f s k)) g
abbrev c__law_entries : CW := cL fun s k => .list ((entsOf s k).map entD)
abbrev N__law_entries : List Str := ["_law_place", "_law_one", "_law_many", "_law_found", "_law_d", "_law_i"]
abbrev b__law_entries : TSW := (sExpr (sOwnM 3 fExt (sCons (sFrz (sLc (sRng1 (sCons (sVar 2) (sNil))) (bName 5) sYes (sTup (sCons (sVar 4) (sCons (sVar 5) (sNil)))) [5])) (sNil))) (sEnd))
def t__law_entries : TSW := sPar 2 3 (sCal (g1 kLen) (sCons (s2 (sVar 0) (sI 0) gIx) (sNil))) (sOwn (sLst (sNil))) (sIfS (sB (s2 (s2 (sVar 1) (sI 0) gIx) (sStr "entry") (gEq id))) (sRet (sFrz (sLst (sCons (sTup (sCons (s2 (sVar 1) (sI 1) gIx) (sCons (s2 (sVar 1) (sI 2) gIx) (sNil)))) (sNil))))) (sEnd) (sIfS (sB (s2 (s2 (sVar 1) (sI 0) gIx) (sStr "line") (gEq id))) (sRet (sFrz (sLc (sRng1 (sCons (s2 (s2 (sVar 1) (sI 2) gIx) (sI 1) gAdd) (sNil))) (bName 4) sYes (sTup (sCons (sVar 4) (sCons (s2 (sVar 1) (sI 1) gIx) (sNil)))) [4]))) (sEnd) (sIfS (sB (s2 (s2 (sVar 1) (sI 0) gIx) (sStr "day") (gEq id))) (sRet (sFrz (sLc (sRng1 (sCons (sVar 2) (sNil))) (bName 5) sYes (sTup (sCons (s2 (sVar 1) (sI 1) gIx) (sCons (sVar 5) (sNil)))) [5]))) (sEnd) (sIfS (sB (s2 (s2 (sVar 1) (sI 0) gIx) (sStr "section") (gEq id))) (sRet (sFrz (sLc (sRng1 (sCons (sVar 2) (sNil))) (bName 5) (sB (s2 (s2 (s2 (s2 (sVar 0) (sI 0) gIx) (sVar 5) gIx) (sI 0) gIx) (s2 (s2 (sVar 0) (sI 1) gIx) (s2 (sVar 1) (sI 1) gIx) gIx) (gIn false))) (sTup (sCons (s2 (sVar 1) (sI 2) gIx) (sCons (sVar 5) (sNil)))) [5]))) (sEnd) (sFor (sRng1 (sCons (s2 (s2 (sVar 1) (sI 1) gIx) (sI 1) gAdd) (sNil))) (bName 4) b__law_entries (sRet (sVar 3)))))))
theorem len_rangeW (n : Nat) {m : Nat} (h : n ≤ m) : (rangeW 0 ((n : Int)).toNat).length ≤ m := by rw [rangeW_nat, List.length_map, List.length_map, List.length_range]; exact h
theorem me__law_entries : ∀ ws g Q, c__law_entries ws g Q → t__law_entries (endW Q) (startW N__law_entries ws) ⟨g, []⟩ := by
  rintro ws g Q ⟨s, k, rfl, hs, hk, q⟩
  have hn := hs.n
  have hm := hs.m
  refine ⟨_, rfl, by decide, ?_⟩
  have e0 : (s.rows.map ld).length = s.rows.length := List.length_map ..
  cases k with
  | entry d i => exact ⟨_, rfl, ⟨rfl, by decide⟩, _, rfl, _, rfl, l2, l1, q⟩
  | line i d =>
    have hd : d < s.days.length := hk.2
    refine ⟨_, rfl, ⟨rfl, by decide⟩, _, rfl, ⟨rfl, by decide⟩, _, rfl, ?_⟩
    show (-(2 ^ 62) ≤ (d : Int) + 1 ∧ (d : Int) + 1 < 2 ^ 62 ∧ _)
    rw [cast_succ]
    refine ⟨by omega, by omega, len_rangeW _ (by omega), ?_⟩
    refine comp_range (f := fun x => entD (x, i)) (fun i => _) (fun i _ => rfl) (fun i _ Q' q' => ⟨_, rfl, l2, q'⟩) ?_
    have e : (List.range (d + 1)).map (fun x => entD (x, i)) = (entsOf s (.line i d)).map entD := by
      show _ = ((List.range (d + 1)).flatMap fun d => [(d, i)]).map entD
      rw [List.map_flatMap]
      show _ = (List.range (d + 1)).flatMap fun d => [entD (d, i)]
      rw [map_flat]
    rw [e]
    exact q
  | day d =>
    refine ⟨_, rfl, ⟨rfl, by decide⟩, _, rfl, ⟨rfl, by decide⟩, _, rfl, ⟨rfl, by decide⟩, ?_⟩
    show (-(2 ^ 62) ≤ (((s.rows.map ld).length : Nat) : Int) ∧ (((s.rows.map ld).length : Nat) : Int) < 2 ^ 62 ∧ _)
    rw [e0]
    refine ⟨by omega, by omega, len_rangeW _ (by omega), ?_⟩
    refine comp_range (f := fun i => entD (d, i)) (fun i => _) (fun i _ => rfl) (fun i _ Q' q' => ⟨_, rfl, l2, q'⟩) ?_
    have e : (List.range s.rows.length).map (fun i => entD (d, i)) = (entsOf s (.day d)).map entD := by
      show _ = ([d].flatMap fun d => (List.range s.rows.length).map fun i => (d, i)).map entD
      rw [List.flatMap_cons, List.flatMap_nil, List.append_nil, List.map_map]
      rfl
    rw [e]
    exact q
  | sec k d =>
    have hk1 : k < s.secs.length := hk.1
    refine ⟨_, rfl, ⟨rfl, by decide⟩, _, rfl, ⟨rfl, by decide⟩, _, rfl, ⟨rfl, by decide⟩, _, rfl, ⟨rfl, by decide⟩, ?_⟩
    show (-(2 ^ 62) ≤ (((s.rows.map ld).length : Nat) : Int) ∧ (((s.rows.map ld).length : Nat) : Int) < 2 ^ 62 ∧ _)
    rw [e0]
    refine ⟨by omega, by omega, len_rangeW _ (by omega), ?_⟩
    rw [rangeW_nat]
    have hsec := hs.sec _ (getD_mem (d := []) hk1)
    refine comp_filter (enc := natD) (f := fun i => entD (d, i)) (p := inSec (names s) (s.secs.getD k [])) (fun i => _) (List.range s.rows.length) [] (fun i _ => rfl) (fun i hi Q' q' => ?_) (fun i _ _ Q' q' => ⟨_, rfl, l2, q'⟩) ?_
    · have hi := List.mem_range.mp hi
      refine ⟨_, rfl, ld s.rows[i], atI_nat (by rw [List.getElem?_map, List.getElem?_eq_getElem hi]; rfl), _, rfl, _, rfl, _, rfl, _, atI_nat (at_map (f := strsD) [] hk1), ?_⟩
      refine ⟨by show (flatS (.str _) && _) = true; rw [flat_strs]; rfl, ?_⟩
      have e : inSec (names s) (s.secs.getD k []) i = ((s.secs.getD k []).map PyData.str).any fun e => eqS e (.str s.rows[i].nm) := by
        unfold inSec names
        rw [List.getElem?_map, List.getElem?_eq_getElem hi]
        show (s.secs.getD k []).contains s.rows[i].nm = _
        rw [List.any_map, List.contains_eq_any_beq]
        congr 1
        funext x
        show (s.rows[i].nm == x) = (x == s.rows[i].nm)
        exact Bool.beq_comm
      rw [e] at q'
      exact q'
    · have e := sec_filter hsec.1 hs.nd
      rw [names_len] at e
      rw [List.nil_append, e]
      have e2 : ((s.secs.getD k []).map fun x => (names s).idxOf x).map (fun i => entD (d, i)) = (entsOf s (.sec k d)).map entD := by
        show _ = ([d].flatMap fun d => (linesOf s (.sec k d)).map fun i => (d, i)).map entD
        rw [List.flatMap_cons, List.flatMap_nil, List.append_nil, List.map_map, List.map_map]
        show _ = ((s.secs.getD k []).map fun x => (names s).idxOf x).map _
        rw [List.map_map]
        rfl
      rw [e2]
      exact q
  | acc d =>
    have hd : d < s.days.length := hk
    refine ⟨_, rfl, ⟨rfl, by decide⟩, _, rfl, ⟨rfl, by decide⟩, _, rfl, ⟨rfl, by decide⟩, _, rfl, ⟨rfl, by decide⟩, _, rfl, ?_⟩
    show (-(2 ^ 62) ≤ (d : Int) + 1 ∧ (d : Int) + 1 < 2 ^ 62 ∧ forR (bName 4) b__law_entries (rangeW 0 ((d : Int) + 1).toNat) { (endW Q) with nx := sRet (sVar 3) (endW Q) } [some (.v (.dat (shD s))), some (.v (.dat (whD (.acc d)))), some (.v (.dat (.int (((s.rows.map ld).length : Nat) : Int)))), some (.l 0), none, none] ⟨g, [.lsd []]⟩)
    rw [cast_succ, e0]
    refine ⟨by omega, by omega, ?_⟩
    rw [rangeW_nat]
    have loop : ∀ (xs : List Nat) (acc : List (Nat × Nat)) (x4 x5 : Option U), acc.length + 4 * xs.length ≤ 100 → Q (.dat (.list ((acc ++ xs.flatMap fun d => (List.range s.rows.length).map fun i => (d, i)).map entD))) g → forR (bName 4) b__law_entries ((xs.map natD).map .dat) { (endW Q) with nx := sRet (sVar 3) (endW Q) } [some (.v (.dat (shD s))), some (.v (.dat (whD (.acc d)))), some (.v (.dat (.int (s.rows.length : Int)))), some (.l 0), x4, x5] ⟨g, [.lsd (acc.map entD)]⟩ := by
      intro xs
      induction xs with
      | nil =>
        intro acc x4 x5 hl q
        rw [List.flatMap_nil, List.append_nil] at q
        exact q
      | cons x xs ih =>
        intro acc x4 x5 hl q
        rw [List.length_cons] at hl
        rw [List.flatMap_cons, ← List.append_assoc] at q
        refine ⟨_, rfl, ?_⟩
        refine ⟨by omega, by omega, len_rangeW _ (by omega), ?_⟩
        refine comp_range (f := fun i => entD (x, i)) (fun i => _) (fun i _ => rfl) (fun i _ Q' q' => ⟨l2, q'⟩) ?_
        refine ⟨?_, ?_⟩
        · simp only [List.length_map, List.length_range]
          omega
        · have := ih (acc ++ (List.range s.rows.length).map fun i => (x, i)) (some (.v (.dat (natD x)))) x5 (by simp only [List.length_append, List.length_map, List.length_range]; omega) q
          rw [List.map_append, List.map_map (f := fun i => (x, i))] at this
          exact this
    exact loop (List.range (d + 1)) [] none none (by rw [List.length_range]; simp; omega) q
end Wl

/-! what repr of a datum needs: its depth and its length -/
namespace Wl
open PySem PySem.Spec PyProof.Rows L2 Cb
structure Shw (k L : Nat) (d : PyData) : Prop where
  s : d.showable = true
  h : d.hasDict = false
  dp : d.depth ≤ k
  z : d.shown.length ≤ L
variable {k L k' L' : Nat} {d : PyData} {ds : List PyData}
theorem Shw.mono (h : Shw k L d) (hk : k ≤ k') (hl : L ≤ L') : Shw k' L' d := ⟨h.s, h.h, Nat.le_trans h.dp hk, Nat.le_trans h.z hl⟩
theorem shw_none : Shw 0 5 .none := ⟨rfl, rfl, Nat.le_refl _, by decide⟩
theorem shw_bool {b : Bool} : Shw 0 5 (.bool b) := ⟨rfl, rfl, Nat.le_refl _, by cases b <;> decide⟩
theorem log2_lt_pow' {n k : Nat} (h : n < 2 ^ k) : n.log2 < k + 1 := by
  by_cases hz : n = 0
  · subst hz
    rw [show Nat.log2 0 = 0 by decide]
    omega
  · exact Nat.lt_succ_of_lt ((Nat.log2_lt hz).mpr h)
theorem shw_int {i : Int} {n : Nat} (h : i.natAbs < 2 ^ n) (hn : n ≤ 1900) : Shw 0 (n + 2) (.int i) := by
  have hl := log2_lt_pow' h
  refine ⟨?_, rfl, Nat.le_refl _, ?_⟩
  · show decide (i.natAbs.log2 < 1920) = true
    exact decide_eq_true (by omega)
  · have z := int_text_length_le (a := i) (k := n + 1) (by omega) hl
    have e : (PyData.int i).shown.length = (toString i).length := by
      rw [PyData.shown_int]
      exact PySem.ofString_length _
    omega
theorem shw_str {x : Str} (h : x.cps.size ≤ 8) (hc : (x.cps.toList.all fun c => decide (c < 16 ^ 8)) = true) : Shw 0 82 (.str x) := by
  refine ⟨rfl, rfl, Nat.le_refl _, ?_⟩
  have z := StrLaws.reprText_len x (by simpa only [List.all_eq_true, decide_eq_true_eq] using hc)
  have e : x.length = x.cps.size := rfl
  show (reprText x).length ≤ 82
  omega
theorem shw_all : ∀ {ds : List PyData}, (∀ d ∈ ds, Shw k L d) → PyData.showableAll ds = true ∧ PyData.hasDictAll ds = false ∧ PyData.depthAll ds ≤ k ∧ ((PyData.shownAll ds).map (·.length)).sum ≤ ds.length * L
  | [], _ => ⟨rfl, rfl, Nat.zero_le _, Nat.zero_le _⟩
  | d :: ds, h => by
    have h1 := h d (List.mem_cons_self ..)
    obtain ⟨a1, a2, a3, a4⟩ := shw_all (ds := ds) fun e he => h e (List.mem_cons_of_mem _ he)
    refine ⟨?_, ?_, ?_, ?_⟩
    · show (PyData.showable d && PyData.showableAll ds) = true
      rw [h1.s, a1]
      rfl
    · show (PyData.hasDict d || PyData.hasDictAll ds) = false
      rw [h1.h, a2]
      rfl
    · show max (PyData.depth d) (PyData.depthAll ds) ≤ k
      exact Nat.max_le.mpr ⟨h1.dp, a3⟩
    · show d.shown.length + ((PyData.shownAll ds).map (·.length)).sum ≤ (ds.length + 1) * L
      rw [Nat.add_mul, Nat.one_mul]
      have := h1.z
      omega
theorem shw_tup {n : Nat} (h : ∀ d ∈ ds, Shw k L d) (hn : ds.length ≤ n) : Shw (k + 1) (n * (L + 2) + 3) (.tuple ds) := by
  obtain ⟨a1, a2, a3, a4⟩ := shw_all h
  refine ⟨a1, a2, ?_, ?_⟩
  · show PyData.depthAll ds + 1 ≤ k + 1
    omega
  · have z := tupleText_len_le (PyData.shownAll ds)
    rw [PyData.shownAll_length] at z
    show (tupleText (PyData.shownAll ds)).length ≤ _
    have e1 : ds.length * L ≤ n * L := Nat.mul_le_mul_right _ hn
    rw [Nat.mul_add]
    omega
theorem shw_lst {n : Nat} (h : ∀ d ∈ ds, Shw k L d) (hn : ds.length ≤ n) : Shw (k + 1) (n * (L + 2) + 3) (.list ds) := by
  obtain ⟨a1, a2, a3, a4⟩ := shw_all h
  refine ⟨a1, a2, ?_, ?_⟩
  · show PyData.depthAll ds + 1 ≤ k + 1
    omega
  · have z := listText_len_le (PyData.shownAll ds)
    rw [PyData.shownAll_length] at z
    show (listText (PyData.shownAll ds)).length ≤ _
    have e1 : ds.length * L ≤ n * L := Nat.mul_le_mul_right _ hn
    rw [Nat.mul_add]
    omega
theorem mem2 {a b x : PyData} {Q : PyData → Prop} (ha : Q a) (hb : Q b) (h : x ∈ [a, b]) : Q x := by
  rcases List.mem_cons.mp h with rfl | h
  · exact ha
  · rw [List.mem_singleton.mp h]
    exact hb
theorem shw_qd {r : Rat} {n : Nat} (h : Bd n r) (hn : n ≤ 1900) : Shw 1 (2 * (n + 4) + 3) (qd r) := shw_tup (n := 2) (fun d hd => mem2 (shw_int h.1 hn) (shw_int (i := (r.den : Int)) h.2 hn) hd) (Nat.le_refl _)
def seqD : PyData → Bool
  | .tuple _ => true
  | .list _ => true
  | _ => false
theorem kRepr_ok {k L : Nat} {u : U} {h : Hw} {d : PyData} {Q : QU} (e : rdU h u = some d) (c : seqD d = true) (s : Shw k L d) (hk : k ≤ 60) (hL : L ≤ 16000000) (q : Q (.v (.dat (.str d.shown))) h) : kRepr u h Q := by
  unfold kRepr
  rw [e]
  have z := And.intro s.s (And.intro s.h (And.intro (Nat.le_trans s.dp hk) (Nat.le_trans s.z (Nat.le_trans hL (by decide : 16000000 ≤ sizeLine)))))
  cases d <;> first | exact ⟨z, trivial, q⟩ | cases c
theorem kReprA_ok {k L : Nat} {u : U} {h : Hw} {d : PyData} {Q : QU} (e : rdU h u = some d) (c : seqD d = true) (s : Shw k L d) (hk : k ≤ 60) (hL : L ≤ 16000000) (q : Q (.v (.dat (.str d.shown))) h) : kReprA u h Q := by
  unfold kReprA
  split
  · cases e
    cases c
  · exact kRepr_ok e c s hk hL q
theorem kReprA_int {i : Int} {h : Hw} {n : Nat} {Q : QU} (b : i.natAbs < 2 ^ n) (hn : n ≤ 1900) (q : Q (.v (.dat (.str (toString i)))) h) : kReprA (.v (.dat (.int i))) h Q := by
  unfold kReprA
  have := log2_lt_pow' b
  exact ⟨by omega, q⟩
theorem eqv_str (x y : Str) : PyData.eqv (.str x) (.str y) = (x == y) := rfl
end Wl

/-! k17: what the law reckons -/
namespace Wl
open PySem PySem.Spec PyProof.Rows L2 Cb
abbrev c__law_inside : CW := cL fun s k => .list ((stOf s k).map ld)
abbrev N__law_inside : List Str := ["_law_place", "_law_one"]
def t__law_inside : TSW := sIfS (sB (s2 (s2 (sVar 1) (sI 0) gIx) (sStr "line") (gEq id))) (sRet (sFrz (sLst (sCons (s2 (s2 (sVar 0) (sI 0) gIx) (s2 (sVar 1) (sI 1) gIx) gIx) (sNil))))) (sEnd) (sRet (sIf (sB (s2 (s2 (sVar 1) (sI 0) gIx) (sStr "account") (gEq id))) (sFrz (sCalL kList (sCons (s2 (sVar 0) (sI 0) gIx) (sNil)))) (sFrz (sLst (sNil)))))
theorem me__law_inside : ∀ ws g Q, c__law_inside ws g Q → t__law_inside (endW Q) (startW N__law_inside ws) ⟨g, []⟩ := by
  rintro ws g Q ⟨s, k, rfl, hs, hk, q⟩
  cases k with
  | line i d =>
    have hi : i < s.rows.length := hk.1
    refine ⟨_, rfl, ⟨rfl, by decide⟩, _, rfl, _, rfl, ld s.rows[i], atI_nat (by rw [List.getElem?_map, List.getElem?_eq_getElem hi]; rfl), l1, ?_⟩
    have e : stOf s (.line i d) = [s.rows[i]] := by
      show (s.rows.drop i).take 1 = _
      rw [List.take_one, List.head?_drop, List.getElem?_eq_getElem hi]
      rfl
    have q : Q (.dat (.list ((stOf s (.line i d)).map ld))) g := q
    rw [e] at q
    exact q
  | acc d => exact ⟨_, rfl, ⟨rfl, by decide⟩, _, rfl, ⟨rfl, by decide⟩, _, rfl, q⟩
  | day d => exact ⟨_, rfl, ⟨rfl, by decide⟩, _, rfl, ⟨rfl, by decide⟩, by decide, q⟩
  | entry d i => exact ⟨_, rfl, ⟨rfl, by decide⟩, _, rfl, ⟨rfl, by decide⟩, by decide, q⟩
  | sec x d => exact ⟨_, rfl, ⟨rfl, by decide⟩, _, rfl, ⟨rfl, by decide⟩, by decide, q⟩
abbrev c__law_exact : CW := cL fun s k => qd (exactOf s k)
abbrev N__law_exact : List Str := ["_law_place", "_law_one", "_law_worth", "_law_head", "_law_d", "_law_i"]
abbrev b1__law_exact : TSW := (sSet 2 (sCallP c__law_added (sCons (sVar 2) (sCons (s2 (sVar 3) (sI 1) gIx) (sNil)))) (sEnd))
abbrev b2__law_exact : TSW := (sSet 2 (sCallP c__law_added (sCons (sVar 2) (sCons (s2 (s2 (s2 (sVar 0) (sI 2) gIx) (sVar 4) gIx) (sVar 5) gIx) (sNil)))) (sEnd))
def t__law_exact : TSW := sSet 2 (sTup (sCons (sI 0) (sCons (sI 1) (sNil)))) (sFor (sItems (sCallP c__law_inside (sCons (sVar 0) (sCons (sVar 1) (sNil))))) (bName 3) b1__law_exact (sFor (sItems (sCallP c__law_entries (sCons (sVar 0) (sCons (sVar 1) (sNil))))) (bTup [4, 5]) b2__law_exact (sRet (sVar 2))))
theorem ents_lenL {s : Sh} {k : Wh} (hs : LS s) (hk : WhOk s k) : (entsOf s k).length ≤ 24 := ents_len hs.ok hk
theorem me__law_exact : ∀ ws g Q, c__law_exact ws g Q → t__law_exact (endW Q) (startW N__law_exact ws) ⟨g, []⟩ := by
  rintro ws g Q ⟨s, k, rfl, hs, hk, q⟩
  refine ⟨by decide, ?_⟩
  refine ⟨_, rfl, s, k, rfl, hs, hk, rfl, ?_⟩
  have two : ∀ (l : List (Nat × Nat)) (a : Rat) (n : Nat) (x3 x4 x5 : Option U), Bd n a → n + 61 * l.length ≤ 2000 → (∀ e ∈ l, e.1 < s.days.length ∧ e.2 < s.rows.length) → Q (.dat (qd ((l.map fun e => chg s e.1 e.2).foldl (· + ·) a))) g →
      forR (bTup [4, 5]) b2__law_exact ((l.map entD).map .dat) { (endW Q) with nx := sRet (sVar 2) (endW Q) } [some (.v (.dat (shD s))), some (.v (.dat (whD k))), some (.v (.dat (qd a))), x3, x4, x5] ⟨g, []⟩ := by
    intro l
    induction l with
    | nil => exact fun a n _ _ _ _ _ _ q => q
    | cons e l ih =>
      intro a n x3 x4 x5 ha hn hl q
      rw [List.length_cons] at hn
      have h := hl e List.mem_cons_self
      have hd := hs.day _ (getD_mem (d := []) h.1)
      have hq : Bd 20 (chg s e.1 e.2) := hd.2 _ (getD_mem (by rw [hd.1]; exact h.2))
      refine ⟨_, rfl, _, rfl, _, atI_nat (at_map (f := dayD) [] h.1), _, atI_nat (at_map (f := qd) 0 (by rw [hd.1]; exact h.2)), ?_⟩
      exact ⟨_, rfl, a, chg s e.1 e.2, rfl, ha.mono (by omega), hq.mono (by decide), rfl, ih (a + chg s e.1 e.2) (n + 60 + 1) _ _ _ (bd_add ha (hq.mono (by decide))) (by omega) (fun e he => hl e (List.mem_cons_of_mem _ he)) q⟩
  have one : ∀ (l : List Ln) (a : Rat) (n : Nat) (x3 : Option U), Bd n a → n + 61 * l.length + 61 * (entsOf s k).length ≤ 2000 → (∀ e ∈ l, e ∈ s.rows) → Q (.dat (qd ((l.map (·.ex) ++ (entsOf s k).map fun e => chg s e.1 e.2).foldl (· + ·) a))) g →
      forR (bName 3) b1__law_exact ((l.map ld).map .dat) { (endW Q) with nx := sFor (sItems (sCallP c__law_entries (sCons (sVar 0) (sCons (sVar 1) (sNil))))) (bTup [4, 5]) b2__law_exact (sRet (sVar 2)) (endW Q) } [some (.v (.dat (shD s))), some (.v (.dat (whD k))), some (.v (.dat (qd a))), x3, none, none] ⟨g, []⟩ := by
    intro l
    induction l with
    | nil =>
      intro a n x3 ha hn _ q
      exact ⟨_, rfl, s, k, rfl, hs, hk, rfl, two (entsOf s k) a n _ _ _ ha (by simp at hn; omega) (fun e he => ents_mem hs.ok hk he) q⟩
    | cons r l ih =>
      intro a n x3 ha hn hl q
      rw [List.length_cons] at hn
      have hq := (hs.ln r (hl r List.mem_cons_self)).ex
      exact ⟨_, rfl, _, rfl, _, rfl, a, r.ex, rfl, ha.mono (by omega), hq.mono (by decide), rfl, ih (a + r.ex) (n + 60 + 1) _ (bd_add ha (hq.mono (by decide))) (by omega) (fun e he => hl e (List.mem_cons_of_mem _ he)) q⟩
  have h1 := stOf_len (k := k) hs.ok
  have h2 := ents_lenL hs hk
  exact one (stOf s k) 0 1 none bd_zero (by omega) stOf_sub q
abbrev c__law_fixed : CW := cL fun s k => .int (fixedOf s k)
abbrev N__law_fixed : List Str := ["_law_place", "_law_one", "_law_head"]
def t__law_fixed : TSW := sRet (sCal (g1 kSum) (sCons (sFrz (sLc (sItems (sCallP c__law_inside (sCons (sVar 0) (sCons (sVar 1) (sNil))))) (bName 2) sYes (s2 (sVar 2) (sI 2) gIx) [2])) (sNil)))
theorem me__law_fixed : ∀ ws g Q, c__law_fixed ws g Q → t__law_fixed (endW Q) (startW N__law_fixed ws) ⟨g, []⟩ := by
  rintro ws g Q ⟨s, k, rfl, hs, hk, q⟩
  refine ⟨_, rfl, s, k, rfl, hs, hk, rfl, len_mm (by have := stOf_len (k := k) hs.ok; omega), ?_⟩
  refine comp_map (enc := ld) (f := fun (l : Ln) => .int l.ct) (fun l => _) (stOf s k) [] (fun l _ => rfl) (fun l _ Q' q' => ⟨_, rfl, q'⟩) ?_
  exact ⟨(stOf s k).map (fun (l : Ln) => l.ct), congrArg some (map_int (f := fun (l : Ln) => l.ct)), q⟩
def rowL (s : Sh) (k : Wh) : PyData := .tuple [whD k, .list ((entsOf s k).map entD), .int (dn (exactOf s k)), .int (upp (exactOf s k)), .int (fixedOf s k)]
def c__law_rows : CW := fun ws g Q => ∃ s : Sh, ws = [.dat (shD s)] ∧ LS s ∧ ∀ ks : List Wh, (∀ k ∈ ks, WhOk s k) → Q (.dat (.list (ks.map (rowL s)))) g
abbrev N__law_rows : List Str := ["_law_place", "_law_found", "_law_one", "_law_worth"]
abbrev b__law_rows : TSW := (sSet 3 (sCallP c__law_exact (sCons (sVar 0) (sCons (sVar 2) (sNil)))) (sExpr (sOwnM 1 fApp (sCons (sTup (sCons (sVar 2) (sCons (sCallP c__law_entries (sCons (sVar 0) (sCons (sVar 2) (sNil)))) (sCons (sCallP c__law_down (sCons (sVar 3) (sNil))) (sCons (sCallP c__law_up (sCons (sVar 3) (sNil))) (sCons (sCallP c__law_fixed (sCons (sVar 0) (sCons (sVar 2) (sNil)))) (sNil))))))) (sNil))) (sEnd)))
def t__law_rows : TSW := sSet 1 (sOwn (sLst (sNil))) (sFor (sItems (sCallP c__law_places (sCons (sVar 0) (sNil)))) (bName 2) b__law_rows (sRet (sVar 1)))
theorem l5 : 5 ≤ 1000 := by decide
theorem me__law_rows : ∀ ws g Q, c__law_rows ws g Q → t__law_rows (endW Q) (startW N__law_rows ws) ⟨g, []⟩ := by
  rintro ws g Q ⟨s, rfl, hs, q⟩
  refine ⟨by decide, ?_⟩
  refine ⟨_, rfl, s, rfl, hs, ?_⟩
  rintro w ⟨ks, ew, hl, hk⟩
  subst ew
  refine ⟨rfl, ?_⟩
  have loop : ∀ (xs acc : List Wh) (x2 x3 : Option U), acc.length + xs.length ≤ 60 → (∀ k ∈ acc, WhOk s k) → (∀ k ∈ xs, WhOk s k) → forR (bName 2) b__law_rows ((xs.map whD).map .dat) { (endW Q) with nx := sRet (sVar 1) (endW Q) } [some (.v (.dat (shD s))), some (.l 0), x2, x3] ⟨g, [.lsd (acc.map (rowL s))]⟩ := by
    intro xs
    induction xs with
    | nil => exact fun acc x2 x3 _ ha _ => q acc ha
    | cons k xs ih =>
      intro acc x2 x3 hn ha hx
      rw [List.length_cons] at hn
      have hk := hx k List.mem_cons_self
      have be := bd_exact hs.ok hk
      have := ih (acc ++ [k]) (some (.v (.dat (whD k)))) (some (.v (.dat (qd (exactOf s k))))) (by rw [List.length_append, List.length_singleton]; omega) (fun a h => by
        rcases List.mem_append.mp h with z | z
        · exact ha a z
        · rw [List.mem_singleton.mp z]
          exact hk) fun a h => hx a (List.mem_cons_of_mem _ h)
      rw [List.map_append] at this
      exact ⟨_, rfl, _, rfl, s, k, rfl, hs, hk, rfl, _, rfl, s, k, rfl, hs, hk, rfl, _, rfl, _, rfl, be, rfl, _, rfl, _, rfl, be, rfl, _, rfl, s, k, rfl, hs, hk, rfl, l5, by rw [List.length_map]; omega, this⟩
  exact loop ks [] none none (by simpa using hl) (fun _ h => by cases h) hk
end Wl

/-! k17: bookings, what is compared -/
namespace Wl
open PySem PySem.Spec PyProof.Rows L2 Cb
structure BkL (s : Sh) (b : List (List Int)) : Prop where
  ok : BkOk s b
  bd : ∀ r ∈ b, ∀ x ∈ r, x.natAbs < 2 ^ 40
def IsCoins (s : Sh) (w : W) : Prop := ∃ b, w = .dat (bkD b) ∧ BkOk s b ∧ ∀ r ∈ b, ∀ x ∈ r, x.natAbs < 2 ^ 30
def c__law_some_coins : CW := fun ws g Q => ∃ (n m : Nat) (s : Sh), ws = [.ref n, .dat (shD s)] ∧ LS s ∧ drawn (IsCoins s) n m g Q
abbrev N__law_some_coins : List Str := ["_law_feed_here", "_law_place", "_law_found", "_law_row", "_law_one"]
abbrev e__law_some_coins : TW := (sCallG c__law_choice (sCons (sVar 0) (sCons (sFrz (sLst (sCons (sCallP c__law_down (sCons (sVar 4) (sNil))) (sCons (sCallP c__law_up (sCons (sVar 4) (sNil))) (sNil))))) (sNil))))
abbrev b__law_some_coins : TSW := (sExpr (sOwnM 2 fApp (sCons (sCal (g1 kTup) (sCons (sFrz (sLc (sItems (sVar 3)) (bName 4) sYes e__law_some_coins [4])) (sNil))) (sNil))) (sEnd))
def t__law_some_coins : TSW := sSet 2 (sOwn (sLst (sNil))) (sFor (sItems (s2 (sVar 1) (sI 2) gIx)) (bName 3) b__law_some_coins (sRet (sCal (g1 kTup) (sCons (sVar 2) (sNil)))))
theorem me__law_some_coins : ∀ ws g Q, c__law_some_coins ws g Q → t__law_some_coins (endW Q) (startW N__law_some_coins ws) ⟨g, []⟩ := by
  rintro ws g Q ⟨n, m, s, rfl, hs, rg, q⟩
  refine ⟨by decide, ?_⟩
  refine ⟨_, rfl, ?_⟩
  have inner : ∀ (x1 x2 x3 : Option U) (l : List Ob) (Q : List PyData → Hw → Prop) (qs : List Rat) (acc : List Int) (ga : List Ob), (∀ q ∈ qs, Bd 20 q) → Rg n m ga → (∀ (xs : List Int) gb, xs.length = qs.length → (∀ x ∈ xs, x.natAbs < 2 ^ 30) → Rg n m gb → Q ((acc ++ xs).map .int) ⟨gb, l⟩) →
      compR (bName 4) sYes e__law_some_coins ((qs.map qd).map .dat) (acc.map .int) [some (.v (.ref n)), x1, x2, x3, none] ⟨ga, l⟩ Q := by
    intro x1 x2 x3 l Q qs
    induction qs with
    | nil =>
      intro acc ga _ rga q
      have := q [] ga rfl (fun _ h => by cases h) rga
      rw [List.append_nil] at this
      exact this
    | cons r qs ih =>
      intro acc ga hq rga q
      have br := hq r List.mem_cons_self
      refine ⟨_, rfl, ?_⟩
      refine ⟨_, rfl, r, rfl, br.mono (by decide), rfl, _, rfl, r, rfl, br.mono (by decide), rfl, l2, _, rfl, n, m, _, rfl, by show 0 < 2; decide, by show 2 < 1000000; decide, rga, fun x hx gb rgb => ?_⟩
      obtain ⟨i, rfl, hi⟩ : ∃ i : Int, x = .int i ∧ i.natAbs < 2 ^ 30 := by
        have b1 := dn_bd br
        have b2 := upp_bd br
        simp only [List.mem_cons, List.not_mem_nil, or_false] at hx
        rcases hx with rfl | rfl
        · exact ⟨_, rfl, by omega⟩
        · exact ⟨_, rfl, by omega⟩
      have := ih (acc ++ [i]) gb (fun q h => hq q (List.mem_cons_of_mem _ h)) rgb fun xs gc hl hx rgc => by
        have := q (i :: xs) gc (by rw [List.length_cons, List.length_cons, hl]) (fun x h => by
          rcases List.mem_cons.mp h with rfl | h
          · exact hi
          · exact hx x h) rgc
        rw [List.append_assoc]
        exact this
      rw [List.map_append] at this
      exact this
  have outer : ∀ (ds : List (List Rat)) (b : List (List Int)) (x3 : Option U) (ga : List Ob), b.length + ds.length = s.days.length → (∀ d ∈ ds, d ∈ s.days) → (∀ r ∈ b, r.length = s.rows.length ∧ ∀ x ∈ r, x.natAbs < 2 ^ 30) → Rg n m ga → forR (bName 3) b__law_some_coins ((ds.map dayD).map .dat) { (endW Q) with nx := sRet (sCal (g1 kTup) (sCons (sVar 2) (sNil))) (endW Q) } [some (.v (.ref n)), some (.v (.dat (shD s))), some (.l 0), x3, none] ⟨ga, [.lsd (b.map rowI)]⟩ := by
    intro ds
    induction ds with
    | nil => exact fun b x3 ga hl _ hb rga => q _ _ ⟨b, rfl, ⟨hl, fun r h => (hb r h).1⟩, fun r h => (hb r h).2⟩ rga
    | cons d ds ih =>
      intro b x3 ga hl hd hb rga
      rw [List.length_cons] at hl
      have hm := hs.m
      have hn := hs.n
      have h1 := hs.day d (hd d List.mem_cons_self)
      refine ⟨_, rfl, len_mm (by omega), ?_⟩
      refine inner _ _ _ _ _ d [] ga h1.2 rga fun xs gb hx hxb rgb => ?_
      rw [List.nil_append]
      refine ⟨?_, ?_⟩
      · rw [List.length_map]
        omega
      · have := ih (b ++ [xs]) (some (.v (.dat (dayD d)))) gb (by rw [List.length_append, List.length_singleton]; omega) (fun d h => hd d (List.mem_cons_of_mem _ h)) (fun r h => by
          rcases List.mem_append.mp h with z | z
          · exact hb r z
          · rw [List.mem_singleton.mp z]
            exact ⟨by rw [hx, h1.1], hxb⟩) rgb
        rw [List.map_append] at this
        exact this
  exact outer s.days [] none g (by simp) (fun _ h => h) (fun _ h => by cases h) rg
/-! sizes -/
theorem six_shw : ∀ x ∈ six, x.cps.size ≤ 8 ∧ (x.cps.toList.all fun c => decide (c < 16 ^ 8)) = true := by decide +kernel
theorem shw_name {x : Str} (h : x ∈ six) : Shw 0 82 (.str x) := shw_str (six_shw x h).1 (six_shw x h).2
theorem mem4 {a b c d x : PyData} {P : PyData → Prop} (ha : P a) (hb : P b) (hc : P c) (hd : P d) (h : x ∈ [a, b, c, d]) : P x := by
  simp only [List.mem_cons, List.not_mem_nil, or_false] at h
  rcases h with rfl | rfl | rfl | rfl <;> assumption
theorem mem3 {a b c x : PyData} {P : PyData → Prop} (ha : P a) (hb : P b) (hc : P c) (h : x ∈ [a, b, c]) : P x := by
  simp only [List.mem_cons, List.not_mem_nil, or_false] at h
  rcases h with rfl | rfl | rfl <;> assumption
theorem LS.shw {s : Sh} (h : LS s) : Shw 4 12009 (shD s) := by
  have hrow : ∀ l ∈ s.rows, Shw 2 811 (ld l) := fun l hl => by
    have hn : l.nm ∈ Wl.six := h.six.subset (List.mem_map_of_mem hl)
    have ho := h.ln l hl
    exact shw_tup (k := 1) (L := 200) (n := 4) (fun d hd => mem4 (P := Shw 1 200) ((shw_name hn).mono (by decide) (by decide)) ((shw_qd ho.ex (by decide)).mono (by decide) (by decide)) ((shw_int ho.ct (by decide)).mono (by decide) (by decide)) (shw_bool.mono (by decide) (by decide)) hd) (Nat.le_refl _)
  have h1 : Shw 3 4000 (.tuple (s.rows.map ld)) := (shw_tup (k := 2) (L := 811) (n := 4) (fun d hd => by
    obtain ⟨l, hl, rfl⟩ := List.mem_map.mp hd
    exact hrow l hl) (by rw [List.length_map]; exact h.n)).mono (by decide) (by decide)
  have h2 : Shw 3 4000 (.tuple (s.secs.map strsD)) := (shw_tup (k := 1) (L := 339) (n := 3) (fun d hd => by
    obtain ⟨x, hx, rfl⟩ := List.mem_map.mp hd
    have hx := h.sec x hx
    exact shw_tup (k := 0) (L := 82) (n := 4) (fun d hd => by
      obtain ⟨y, hy, rfl⟩ := List.mem_map.mp hd
      exact shw_name (h.six.subset (hx.1.subset hy))) (by rw [List.length_map]; have := hx.1.length_le; rw [names_len] at this; have := h.n; omega)) (by rw [List.length_map]; exact h.sn)).mono (by decide) (by decide)
  have h3 : Shw 3 4000 (.tuple (s.days.map dayD)) := (shw_tup (k := 2) (L := 215) (n := 3) (fun d hd => by
    obtain ⟨x, hx, rfl⟩ := List.mem_map.mp hd
    have hx := h.day x hx
    exact shw_tup (k := 1) (L := 51) (n := 4) (fun d hd => by
      obtain ⟨y, hy, rfl⟩ := List.mem_map.mp hd
      exact shw_qd (hx.2 y hy) (by decide)) (by rw [List.length_map, hx.1]; exact h.n)) (by rw [List.length_map]; exact h.m)).mono (by decide) (by decide)
  exact shw_tup (k := 3) (L := 4000) (n := 3) (fun d hd => mem3 (P := Shw 3 4000) h1 h2 h3 hd) (Nat.le_refl _)
theorem BkL.shw {s : Sh} {b : List (List Int)} (h : LS s) (hb : BkL s b) : Shw 2 546 (bkD b) := shw_tup (k := 1) (L := 179) (n := 3) (fun d hd => by
    obtain ⟨x, hx, rfl⟩ := List.mem_map.mp hd
    exact shw_tup (k := 0) (L := 42) (n := 4) (fun d hd => by
      obtain ⟨y, hy, rfl⟩ := List.mem_map.mp hd
      exact shw_int (hb.bd x hx y hy) (by decide)) (by rw [List.length_map, hb.ok.2 x hx]; exact h.n)) (by rw [List.length_map, hb.ok.1]; exact h.m)
theorem shw_both {s : Sh} {b : List (List Int)} (h : LS s) (hb : BkL s b) : Shw 5 24025 (.tuple [shD s, bkD b]) := shw_tup (k := 4) (L := 12009) (n := 2) (fun d hd => mem2 h.shw ((hb.shw h).mono (by decide) (by decide)) hd) (Nat.le_refl _)
theorem bd_exact' {s : Sh} {k : Wh} (hs : ShOk s) (hk : WhOk s k) : Bd 1831 (exactOf s k) := by
  have bl : ((stOf s k).map (fun (l : Ln) => l.ex) ++ (entsOf s k).map fun e => chg s e.1 e.2).length ≤ 30 := by
    rw [List.length_append, List.length_map, List.length_map]
    have := ents_len hs hk
    have := stOf_len (k := k) hs
    omega
  refine (bd_sumQ (l := (stOf s k).map (fun (l : Ln) => l.ex) ++ (entsOf s k).map fun e => chg s e.1 e.2) fun r hr => ?_).mono (by omega)
  rcases List.mem_append.mp hr with hr | hr
  · obtain ⟨l, hl, rfl⟩ := List.mem_map.mp hr
    exact hs.ex l (stOf_sub l hl)
  · obtain ⟨e, he, rfl⟩ := List.mem_map.mp hr
    have h := ents_mem hs hk he
    have hd := hs.day _ (getD_mem (d := []) h.1)
    exact hd.2 _ (getD_mem (by rw [hd.1]; exact h.2))
theorem sum_bd {B : Nat} : ∀ {l : List Int}, (∀ x ∈ l, x.natAbs ≤ B) → l.sum.natAbs ≤ l.length * B
  | [], _ => by simp
  | x :: l, h => by
    have h1 := h x List.mem_cons_self
    have h2 := sum_bd (l := l) fun y hy => h y (List.mem_cons_of_mem _ hy)
    rw [List.sum_cons, List.length_cons, Nat.add_mul, Nat.one_mul]
    have := Int.natAbs_add_le x l.sum
    omega
theorem fixed_bd {s : Sh} {k : Wh} (h : LS s) : (fixedOf s k).natAbs < 2 ^ 33 := by
  have := sum_bd (B := 2 ^ 30) (l := (stOf s k).map (·.ct)) fun x hx => by
    obtain ⟨l, hl, rfl⟩ := List.mem_map.mp hx
    exact Nat.le_of_lt (h.ln l (stOf_sub l hl)).ct
  rw [List.length_map] at this
  have hl := stOf_len (k := k) h.ok
  unfold fixedOf
  have := Nat.mul_le_mul_right (2 ^ 30) hl
  omega
theorem cents_bd {s : Sh} {b : List (List Int)} {k : Wh} (h : LS s) (hb : BkL s b) (hk : WhOk s k) : (centsOf s b k).natAbs < 2 ^ 46 := by
  have := sum_bd (B := 2 ^ 40) (l := (entsOf s k).map fun e => (b.getD e.1 []).getD e.2 0) fun x hx => by
    obtain ⟨e, he, rfl⟩ := List.mem_map.mp hx
    have hm := ents_mem h.ok hk he
    have h1 : e.1 < b.length := by rw [hb.ok.1]; exact hm.1
    have hr := getD_mem (d := []) h1
    exact Nat.le_of_lt (hb.bd _ hr _ (getD_mem (by rw [hb.ok.2 _ hr]; exact hm.2)))
  rw [List.length_map] at this
  have hl := ents_len h.ok hk
  have hf := fixed_bd (k := k) h
  have := Nat.mul_le_mul_right (2 ^ 40) hl
  unfold centsOf
  have := Int.natAbs_add_le (fixedOf s k) ((entsOf s k).map fun e => (b.getD e.1 []).getD e.2 0).sum
  omega
theorem shw_four {s : Sh} {k : Wh} (h : LS s) (hk : WhOk s k) : Shw 2 16019 (.list [qd (exactOf s k), .int (dn (exactOf s k)), .int (upp (exactOf s k)), .int (fixedOf s k)]) := by
  have be := bd_exact' h.ok hk
  exact (shw_lst (k := 1) (L := 4002) (n := 4) (fun d hd => mem4 (P := Shw 1 4002) ((shw_qd be (by decide)).mono (by decide) (by decide)) ((shw_int (dn_bd be) (by decide)).mono (by decide) (by decide)) ((shw_int (upp_bd be) (by decide)).mono (by decide) (by decide)) ((shw_int (fixed_bd h) (by decide)).mono (by decide) (by decide)) hd) (Nat.le_refl _))
end Wl

/-! sums_of over values: a generator's items -/
namespace Wg
open PySem PySem.Spec PyProof.Rows L2 Cb Wl
/-- it hands out these, in this order, and goes on -/
def Emits (os : List W) (t : TYW) (A B : Sw → Prop) (out : List W) : Prop := ∀ (D : EnG) (i : Nat) (σ : Sw) (rest : List W), A σ → os.drop i = out ++ rest → (∀ i' σ', B σ' → i' = i + out.length → os.drop i' = rest → D.nx i' σ') → t D i σ
section
variable {os out out2 : List W} {t u : TYW} {A B C : Sw → Prop}
theorem em_end (h : ∀ σ, A σ → B σ) : Emits os sYEnd A B [] := fun D i σ rest a e k => k i σ (h σ a) rfl e
theorem em_then (ht : Emits os t A B out) (hu : Emits os u B C out2) : Emits os (sYThen t u) A C (out ++ out2) := fun D i σ rest a e k =>
  ht _ i σ (out2 ++ rest) a (by rw [← List.append_assoc]; exact e) fun i' σ' b l e' => hu D i' σ' rest b e' fun i'' σ'' c l' e'' => k i'' σ'' c (by rw [List.length_append]; omega) e''
theorem em_yield {te : TW} (f : Sw → W) (h : ∀ σ Q, A σ → Q (.v (f σ)) hh → te σ hh Q) (w : W) (hf : ∀ σ, A σ → f σ = w) : Emits os (sYld (fun i w => os[i]? = some w) os.length te) A A [w] := fun D i σ rest a e k => by
  have hi : i < os.length := by
    have := congrArg List.length e
    rw [List.length_drop, List.length_append, List.length_singleton] at this
    omega
  rw [List.drop_eq_getElem_cons hi] at e
  have e1 : os[i] = w := by
    have := (List.cons.inj e).1
    exact this
  refine ⟨hi, h σ _ a ⟨rfl, w, by rw [hf σ a], ?_, k (i + 1) σ a rfl (List.cons.inj e).2⟩⟩
  show os[i]? = some w
  rw [List.getElem?_eq_getElem hi, e1]
/-- for over items that are told -/
theorem em_for {α : Type} {ti : TIW} {b : BW} {tb : TYW} {enc : α → W} {inner : α → List W} (xs : List α) (Ax : α → Sw → Prop) (hti : ∀ σ Q, A σ → Q (xs.map enc) hh → ti σ hh Q) (hset : ∀ x ∈ xs, ∀ σ, A σ → ∃ σ', b (enc x) σ = some σ' ∧ Ax x σ')
    (hb : ∀ x ∈ xs, Emits os tb (Ax x) A (inner x)) : Emits os (sYFor ti b tb) A A (xs.flatMap inner) := fun D i σ rest a e k => by
  refine hti σ _ a ⟨rfl, ?_⟩
  have go : ∀ (ys : List α), (∀ y ∈ ys, y ∈ xs) → ∀ j σ, A σ → j + (ys.flatMap inner).length = i + (xs.flatMap inner).length → os.drop j = ys.flatMap inner ++ rest → yfR b tb (ys.map enc) D j σ := by
    intro ys
    induction ys with
    | nil => exact fun _ j σ a l e => k j σ a l e
    | cons y ys ih =>
      intro hm i σ a l e
      obtain ⟨σ', eb, ax⟩ := hset y (hm y List.mem_cons_self) σ a
      rw [List.flatMap_cons, List.append_assoc] at e
      refine ⟨σ', eb, hb y (hm y List.mem_cons_self) _ i σ' _ ax e fun i' σ'' a' l' e' => ?_⟩
      refine ih (fun z hz => hm z (List.mem_cons_of_mem _ hz)) i' σ'' a' ?_ e'
      rw [List.flatMap_cons, List.length_append] at l
      omega
  exact go xs (fun _ h => h) i σ a rfl e
end
/-! ### sums_of -/
def sumsOf (s : Sh) : List Wh :=
  (List.range s.days.length).flatMap (fun d => [Wh.acc d]) ++ ((List.range s.days.length).flatMap (fun d => [Wh.day d]) ++ ((List.range s.days.length).flatMap (fun d => (List.range s.rows.length).flatMap fun i => [Wh.entry d i]) ++
  ((List.range s.rows.length).flatMap (fun i => (List.range s.days.length).flatMap fun d => [Wh.line i d]) ++ ((List.range s.secs.length).flatMap (fun k => (List.range s.days.length).flatMap fun d => [Wh.sec k d]) ++ []))))
def whW (k : Wh) : W := .dat (whD k)
def c_sums_of : GCW := fun ws R => ∃ s : Sh, ws = [.dat (shD s)] ∧ ShOk s ∧ R ((sumsOf s).map whW)
abbrev N_sums_of : List Str := ["sheet", "state", "sections", "days", "d", "i", "s"]
abbrev lenOf (v : Nat) : TIW := sRng1 (sCons (sCal (g1 kLen) (sCons (sVar v) (sNil))) (sNil))
def t_sums_of (it : Nat → W → Prop) (N : Nat) : TYW := sYThen (sPl (sUnp (sVar 0) (bTup [1, 2, 3]) (sEnd))) (sYThen (sYFor (lenOf 3) (bName 4) (sYThen (sYld it N (sTup (sCons (sStr "account") (sCons (sVar 4) (sNil))))) sYEnd)) (sYThen (sYFor (lenOf 3) (bName 4) (sYThen (sYld it N (sTup (sCons (sStr "day") (sCons (sVar 4) (sNil))))) sYEnd))
  (sYThen (sYFor (lenOf 3) (bName 4) (sYThen (sYFor (lenOf 1) (bName 5) (sYThen (sYld it N (sTup (sCons (sStr "entry") (sCons (sVar 4) (sCons (sVar 5) (sNil)))))) sYEnd)) sYEnd)) (sYThen (sYFor (lenOf 1) (bName 5) (sYThen (sYFor (lenOf 3) (bName 4) (sYThen (sYld it N (sTup (sCons (sStr "line") (sCons (sVar 5) (sCons (sVar 4) (sNil)))))) sYEnd)) sYEnd))
  (sYThen (sYFor (lenOf 2) (bName 6) (sYThen (sYFor (lenOf 3) (bName 4) (sYThen (sYld it N (sTup (sCons (sStr "section") (sCons (sVar 6) (sCons (sVar 4) (sNil)))))) sYEnd)) sYEnd)) sYEnd)))))
/-- the sheet is taken apart -/
def SS (s : Sh) (p : Option U → Option U → Option U → Prop) (σ : Sw) : Prop := ∃ x4 x5 x6, p x4 x5 x6 ∧ σ = [some (.v (.dat (shD s))), some (.v (.dat (.tuple (s.rows.map ld)))), some (.v (.dat (.tuple (s.secs.map strsD)))), some (.v (.dat (.tuple (s.days.map dayD)))), x4, x5, x6]
abbrev ss0 (s : Sh) : Sw → Prop := SS s fun _ _ _ => True
def nU (n : Nat) : Option U := some (.v (.dat (natD n)))
theorem len3 {s : Sh} (hs : ShOk s) {p} : ∀ σ (Q : List W → Hw → Prop), SS s p σ → Q ((List.range s.days.length).map fun d => .dat (natD d)) hh → lenOf 3 σ hh Q := by
  rintro σ Q ⟨x4, x5, x6, _, rfl⟩ q
  have hm := hs.m
  show (-(2 ^ 62) ≤ (((s.days.map dayD).length : Nat) : Int) ∧ (((s.days.map dayD).length : Nat) : Int) < 2 ^ 62 ∧ Q (rangeW 0 ((((s.days.map dayD).length : Nat) : Int)).toNat) hh)
  rw [List.length_map, rangeW_nat, List.map_map]
  exact ⟨by omega, by omega, q⟩
theorem len1 {s : Sh} (hs : ShOk s) {p} : ∀ σ (Q : List W → Hw → Prop), SS s p σ → Q ((List.range s.rows.length).map fun d => .dat (natD d)) hh → lenOf 1 σ hh Q := by
  rintro σ Q ⟨x4, x5, x6, _, rfl⟩ q
  have hm := hs.n
  show (-(2 ^ 62) ≤ (((s.rows.map ld).length : Nat) : Int) ∧ (((s.rows.map ld).length : Nat) : Int) < 2 ^ 62 ∧ Q (rangeW 0 ((((s.rows.map ld).length : Nat) : Int)).toNat) hh)
  rw [List.length_map, rangeW_nat, List.map_map]
  exact ⟨by omega, by omega, q⟩
theorem len2 {s : Sh} (hs : ShOk s) {p} : ∀ σ (Q : List W → Hw → Prop), SS s p σ → Q ((List.range s.secs.length).map fun d => .dat (natD d)) hh → lenOf 2 σ hh Q := by
  rintro σ Q ⟨x4, x5, x6, _, rfl⟩ q
  have hm := hs.sn
  show (-(2 ^ 62) ≤ (((s.secs.map strsD).length : Nat) : Int) ∧ (((s.secs.map strsD).length : Nat) : Int) < 2 ^ 62 ∧ Q (rangeW 0 ((((s.secs.map strsD).length : Nat) : Int)).toNat) hh)
  rw [List.length_map, rangeW_nat, List.map_map]
  exact ⟨by omega, by omega, q⟩
theorem me_sums_of : ∀ ws R, c_sums_of ws R → ∃ os, R os ∧ ∀ it N, it = (fun i w => os[i]? = some w) → N = os.length → t_sums_of it N { nx := fun i _ => i = os.length, rt := fun i => i = os.length } 0 (startW N_sums_of ws) := by
  rintro ws R ⟨s, rfl, hs, q⟩
  refine ⟨_, q, ?_⟩
  rintro it N rfl rfl
  generalize ho : (sumsOf s).map whW = os
  have y1 : ∀ (wd : Str) (mk : Nat → Wh) (d : Nat), (∀ n, whD (mk n) = .tuple [.str wd, .int (n : Int)]) → Emits os (sYThen (sYld (fun i w => os[i]? = some w) os.length (sTup (sCons (sStr wd) (sCons (sVar 4) (sNil))))) sYEnd) (SS s fun x4 _ _ => x4 = nU d) (ss0 s) ([whW (mk d)] ++ []) := fun wd mk d hd =>
    em_then (em_yield (fun _ => whW (mk d)) (fun σ Q ⟨x4, x5, x6, h, e⟩ q => by
      subst h e
      refine ⟨l2, ?_⟩
      unfold whW at q
      rw [hd] at q
      exact q) _ fun _ _ => rfl) (em_end fun σ ⟨x4, x5, x6, _, e⟩ => ⟨x4, x5, x6, trivial, e⟩)
  have loop1 : ∀ (wd : Str) (mk : Nat → Wh), (∀ n, whD (mk n) = .tuple [.str wd, .int (n : Int)]) → Emits os (sYFor (lenOf 3) (bName 4) (sYThen (sYld (fun i w => os[i]? = some w) os.length (sTup (sCons (sStr wd) (sCons (sVar 4) (sNil))))) sYEnd)) (ss0 s) (ss0 s) ((List.range s.days.length).flatMap fun d => [whW (mk d)] ++ []) := fun wd mk hd =>
    em_for (enc := fun d => .dat (natD d)) (List.range s.days.length) (fun d => SS s fun x4 _ _ => x4 = nU d) (len3 hs) (fun d _ σ ⟨x4, x5, x6, _, e⟩ => ⟨_, by subst e; rfl, _, x5, x6, rfl, rfl⟩) fun d _ => y1 wd mk d hd
  have entry : Emits os (sYFor (lenOf 3) (bName 4) (sYThen (sYFor (lenOf 1) (bName 5) (sYThen (sYld (fun i w => os[i]? = some w) os.length (sTup (sCons (sStr "entry") (sCons (sVar 4) (sCons (sVar 5) (sNil)))))) sYEnd)) sYEnd)) (ss0 s) (ss0 s) ((List.range s.days.length).flatMap fun d => ((List.range s.rows.length).flatMap fun i => [whW (.entry d i)] ++ []) ++ []) :=
    em_for (enc := fun d => .dat (natD d)) (List.range s.days.length) (fun d => SS s fun x4 _ _ => x4 = nU d) (len3 hs) (fun d _ σ ⟨x4, x5, x6, _, e⟩ => ⟨_, by subst e; rfl, _, x5, x6, rfl, rfl⟩) fun d _ =>
      em_then (em_for (A := SS s fun x4 _ _ => x4 = nU d) (enc := fun d => .dat (natD d)) (List.range s.rows.length) (fun i => SS s fun x4 x5 _ => x4 = nU d ∧ x5 = nU i) (len1 hs) (fun i _ σ ⟨x4, x5, x6, h, e⟩ => ⟨_, by subst e; rfl, x4, _, x6, ⟨h, rfl⟩, rfl⟩) fun i _ =>
        em_then (em_yield (fun _ => whW (.entry d i)) (fun σ Q ⟨x4, x5, x6, ⟨h4, h5⟩, e⟩ q => by
          subst h4 h5 e
          exact ⟨l3, q⟩) _ fun _ _ => rfl) (em_end fun σ ⟨x4, x5, x6, h, e⟩ => ⟨x4, x5, x6, h.1, e⟩))
        (em_end fun σ ⟨x4, x5, x6, _, e⟩ => ⟨x4, x5, x6, trivial, e⟩)
  have line : Emits os (sYFor (lenOf 1) (bName 5) (sYThen (sYFor (lenOf 3) (bName 4) (sYThen (sYld (fun i w => os[i]? = some w) os.length (sTup (sCons (sStr "line") (sCons (sVar 5) (sCons (sVar 4) (sNil)))))) sYEnd)) sYEnd)) (ss0 s) (ss0 s) ((List.range s.rows.length).flatMap fun i => ((List.range s.days.length).flatMap fun d => [whW (.line i d)] ++ []) ++ []) :=
    em_for (enc := fun d => .dat (natD d)) (List.range s.rows.length) (fun i => SS s fun _ x5 _ => x5 = nU i) (len1 hs) (fun d _ σ ⟨x4, x5, x6, _, e⟩ => ⟨_, by subst e; rfl, x4, _, x6, rfl, rfl⟩) fun i _ =>
      em_then (em_for (A := SS s fun _ x5 _ => x5 = nU i) (enc := fun d => .dat (natD d)) (List.range s.days.length) (fun d => SS s fun x4 x5 _ => x4 = nU d ∧ x5 = nU i) (len3 hs) (fun d _ σ ⟨x4, x5, x6, h, e⟩ => ⟨_, by subst e; rfl, _, x5, x6, ⟨rfl, h⟩, rfl⟩) fun d _ =>
        em_then (em_yield (fun _ => whW (.line i d)) (fun σ Q ⟨x4, x5, x6, ⟨h4, h5⟩, e⟩ q => by
          subst h4 h5 e
          exact ⟨l3, q⟩) _ fun _ _ => rfl) (em_end fun σ ⟨x4, x5, x6, h, e⟩ => ⟨x4, x5, x6, h.2, e⟩))
        (em_end fun σ ⟨x4, x5, x6, _, e⟩ => ⟨x4, x5, x6, trivial, e⟩)
  have sec : Emits os (sYFor (lenOf 2) (bName 6) (sYThen (sYFor (lenOf 3) (bName 4) (sYThen (sYld (fun i w => os[i]? = some w) os.length (sTup (sCons (sStr "section") (sCons (sVar 6) (sCons (sVar 4) (sNil)))))) sYEnd)) sYEnd)) (ss0 s) (ss0 s) ((List.range s.secs.length).flatMap fun k => ((List.range s.days.length).flatMap fun d => [whW (.sec k d)] ++ []) ++ []) :=
    em_for (enc := fun d => .dat (natD d)) (List.range s.secs.length) (fun k => SS s fun _ _ x6 => x6 = nU k) (len2 hs) (fun d _ σ ⟨x4, x5, x6, _, e⟩ => ⟨_, by subst e; rfl, x4, x5, _, rfl, rfl⟩) fun k _ =>
      em_then (em_for (A := SS s fun _ _ x6 => x6 = nU k) (enc := fun d => .dat (natD d)) (List.range s.days.length) (fun d => SS s fun x4 _ x6 => x4 = nU d ∧ x6 = nU k) (len3 hs) (fun d _ σ ⟨x4, x5, x6, h, e⟩ => ⟨_, by subst e; rfl, _, x5, x6, ⟨rfl, h⟩, rfl⟩) fun d _ =>
        em_then (em_yield (fun _ => whW (.sec k d)) (fun σ Q ⟨x4, x5, x6, ⟨h4, h5⟩, e⟩ q => by
          subst h4 h5 e
          exact ⟨l3, q⟩) _ fun _ _ => rfl) (em_end fun σ ⟨x4, x5, x6, h, e⟩ => ⟨x4, x5, x6, h.2, e⟩))
        (em_end fun σ ⟨x4, x5, x6, _, e⟩ => ⟨x4, x5, x6, trivial, e⟩)
  have all := em_then (loop1 "account" .acc fun n => rfl) (em_then (loop1 "day" .day fun n => rfl) (em_then entry (em_then line (em_then sec (em_end (os := os) (A := ss0 s) (B := ss0 s) fun σ a => a)))))
  have eo : os = (((List.range s.days.length).flatMap fun d => [whW (.acc d)] ++ []) ++ (((List.range s.days.length).flatMap fun d => [whW (.day d)] ++ []) ++ (((List.range s.days.length).flatMap fun d => ((List.range s.rows.length).flatMap fun i => [whW (.entry d i)] ++ []) ++ []) ++ (((List.range s.rows.length).flatMap fun i => ((List.range s.days.length).flatMap fun d => [whW (.line i d)] ++ []) ++ []) ++ (((List.range s.secs.length).flatMap fun k => ((List.range s.days.length).flatMap fun d => [whW (.sec k d)] ++ []) ++ []) ++ []))))) := by
    rw [← ho]
    unfold sumsOf
    simp only [List.map_append, List.map_flatMap, List.map_cons, List.map_nil, List.append_nil]
  refine ⟨_, rfl, rfl, ?_⟩
  refine all _ 0 _ [] ⟨none, none, none, trivial, rfl⟩ (by rw [List.append_nil, List.drop_zero]; exact eo) fun i' σ' _ l _ => ?_
  show i' = os.length
  rw [l, Nat.zero_add, ← eo]
end Wg

/-! centbook.states: rounded and open states; centbook.correcting -/
namespace Wl
open PySem PySem.Spec PyProof.Rows L2 Cb Wg
def zipC (rows : List Ln) (ns : List Int) : List Ln := List.zipWith (fun l n => (⟨l.nm, l.ex, n, l.on⟩ : Ln)) rows ns
def waysL (rows : List Ln) : List (List Int) := chooseL (rows.map fun l => ways1 l.ex)
abbrev c_rounded_states : CW := cRows fun rows => .list ((waysL rows).map fun c => rowsD (zipC rows c))
theorem waysL_snoc {rows : List Ln} {l : Ln} : waysL (rows ++ [l]) = longer (waysL rows) (ways1 l.ex) := by
  unfold waysL
  rw [List.map_append, List.map_cons, List.map_nil, choose_snoc]
theorem waysL_len {rows : List Ln} (h : rows.length ≤ 8) : (waysL rows).length ≤ 256 := by
  refine Nat.le_trans (choose_len rows.length _ (by rw [List.length_map]) fun ns hn => ?_) (Nat.pow_le_pow_right (by decide) h)
  obtain ⟨l, _, rfl⟩ := List.mem_map.mp hn
  exact ways1_len _
theorem waysL_el {rows : List Ln} : ∀ c ∈ waysL rows, c.length = rows.length := fun c hc => (choose_el rows.length _ (by rw [List.length_map]) c hc)
theorem zipC_snoc {rows : List Ln} {l : Ln} {c : List Int} {v : Int} (h : c.length = rows.length) : zipC (rows ++ [l]) (c ++ [v]) = zipC rows c ++ [⟨l.nm, l.ex, v, l.on⟩] := by
  unfold zipC
  rw [List.zipWith_append h.symm]
  rfl
theorem zipC_len {rows : List Ln} {c : List Int} (h : c.length = rows.length) : (zipC rows c).length = rows.length := by
  unfold zipC
  rw [List.length_zipWith, h, Nat.min_self]
theorem rnd_bd {r : Rat} {n : Nat} (h : Bd n r) : (dn r).natAbs < 2 ^ n ∧ (upp r).natAbs < 2 ^ n := by
  have hd := den_pos r
  have key : ∀ a : Int, a.natAbs < 2 ^ n → (a.fdiv (r.den : Int)).natAbs < 2 ^ n := fun a ha => by
    rw [Int.fdiv_eq_ediv_of_nonneg _ (by omega)]
    exact Nat.lt_of_le_of_lt (Int.natAbs_ediv_le_natAbs _ _) ha
  refine ⟨key _ h.1, ?_⟩
  unfold upp
  rw [Int.natAbs_neg]
  exact key _ (by rw [Int.natAbs_neg]; exact h.1)
theorem ways1_mem {r : Rat} {v : Int} (h : v ∈ ways1 r) : v = dn r ∨ v = upp r := by
  unfold ways1 at h
  split at h <;> simp at h <;> omega
/-- line by line the same, but for cents that are a way to round -/
theorem zip_mem : ∀ (n : Nat) (rows : List Ln), rows.length = n → ∀ c ∈ waysL rows, ∀ x ∈ zipC rows c, ∃ l ∈ rows, ∃ v ∈ ways1 l.ex, x = ⟨l.nm, l.ex, v, l.on⟩
  | 0, rows, hn, c, hc, x, hx => by
    rw [List.eq_nil_of_length_eq_zero hn] at hx
    cases hx
  | n + 1, rows, hn, c, hc, x, hx => by
    have hne : rows ≠ [] := fun e => by
      rw [e] at hn
      cases hn
    have e := (List.dropLast_concat_getLast hne).symm
    generalize rows.getLast hne = l at e
    have hl : rows.dropLast.length = n := by rw [List.length_dropLast]; omega
    generalize rows.dropLast = rs at e hl
    subst e
    rw [waysL_snoc] at hc
    obtain ⟨s, hs, hc⟩ := List.mem_flatMap.mp hc
    obtain ⟨v, hv, rfl⟩ := List.mem_map.mp hc
    rw [zipC_snoc (waysL_el s hs)] at hx
    rcases List.mem_append.mp hx with hx | hx
    · obtain ⟨l', h1, h2⟩ := zip_mem n rs hl s hs x hx
      exact ⟨l', List.mem_append_left _ h1, h2⟩
    · rw [List.mem_singleton.mp hx]
      exact ⟨l, List.mem_append_right _ (List.mem_singleton.mpr rfl), v, hv, rfl⟩
theorem rowsK_zip {rows : List Ln} (ok : RowsK rows) {c : List Int} (hc : c ∈ waysL rows) : RowsK (zipC rows c) := by
  refine ⟨by rw [zipC_len (waysL_el c hc)]; exact ok.1, fun x hx => ?_⟩
  obtain ⟨l, hl, v, hv, rfl⟩ := zip_mem _ rows rfl c hc x hx
  have h := (ok.2 l hl).1
  refine ⟨h, ?_⟩
  rcases ways1_mem hv with rfl | rfl
  · exact (rnd_bd h).1
  · exact (rnd_bd h).2
abbrev N_rounded_states : List Str := ["state", "states", "name", "exact", "_", "goes_on", "choices", "lines", "cents"]
abbrev b_rounded_states : TSW := (sSet 6 (sFrz (sLrg2 (sCallP c_rounded_down (sCons (sVar 3) (sNil))) (s2 (sCallP c_rounded_up (sCons (sVar 3) (sNil))) (sI 1) gAdd))) (sSetLF 1 (sLc2 (sItems (sVar 1)) (bName 7) sYes (sItems (sVar 6)) (bName 8) sYes (s2 (sVar 7) (sTup (sCons (sTup (sCons (sVar 2) (sCons (sVar 3) (sCons (sVar 8) (sCons (sVar 5) (sNil)))))) (sNil))) gAdd) [7, 8] [8]) (sEnd)))
def t_rounded_states : TSW := sSet 1 (sFrz (sLst (sCons (sTup (sNil)) (sNil)))) (sFor (sItems (sVar 0)) (bTup [2, 3, 4, 5]) b_rounded_states (sRet (sVar 1)))
theorem ways_rg (r : Rat) : rgD (dn r) (upp r + 1) = (ways1 r).map .int := by
  rw [ways1_range, List.map_map]
  rfl
theorem rgOk_ways {r : Rat} (h : Bd 20 r) : RgOk (dn r) (upp r + 1) := by
  have h1 := (rnd_bd h).1
  have h2 := (rnd_bd h).2
  have h3 := dn_le r
  have h4 := upp_one r
  have e : (2 : Nat) ^ 20 = 1048576 := by decide
  rw [e] at h1 h2
  exact ⟨by omega, by omega, by omega, by omega, by omega⟩
def statesL (rows : List Ln) : List PyData := (waysL rows).map fun c => rowsD (zipC rows c)
theorem me_rounded_states : ∀ ws g Q, c_rounded_states ws g Q → t_rounded_states (endW Q) (startW N_rounded_states ws) ⟨g, []⟩ := by
  rintro ws g Q ⟨rows, rfl, ok, q⟩
  have loop : ∀ (ls done : List Ln) (x2 x3 x4 x5 x6 x7 x8 : Option U), rows = done ++ ls → forR (bTup [2, 3, 4, 5]) b_rounded_states ((ls.map ld).map .dat) { (endW Q) with nx := sRet (sVar 1) (endW Q) } [some (.v (.dat (rowsD rows))), some (.v (.dat (.list (statesL done)))), x2, x3, x4, x5, x6, x7, x8] ⟨g, []⟩ := by
    intro ls
    induction ls with
    | nil =>
      intro done x2 x3 x4 x5 x6 x7 x8 e
      rw [List.append_nil] at e
      subst e
      exact q
    | cons l ls ih =>
      intro done x2 x3 x4 x5 x6 x7 x8 e
      have hl : l ∈ rows := by rw [e]; exact List.mem_append_right _ List.mem_cons_self
      have hb := (ok.2 l hl).1
      have d8 : done.length ≤ 8 := by
        have := ok.1
        rw [e, List.length_append] at this
        omega
      refine ⟨_, rfl, ?_⟩
      refine ⟨_, rfl, l.ex, rfl, hb.mono (by decide), rfl, ?_⟩
      refine ⟨_, rfl, l.ex, rfl, hb.mono (by decide), rfl, ?_⟩
      refine ⟨rgOk_ways hb, ?_⟩
      rw [ways_rg]
      have wl := waysL_len d8
      refine ⟨len_mm (by omega), ?_⟩
      refine comp2_map (enc := fun c => rowsD (zipC done c)) (enc1 := .int) (f := fun c v => rowsD (zipC (done ++ [l]) (c ++ [v]))) (fun _ => ways1 l.ex) (fun c => _) (fun c v => _) (waysL done) [] (fun c _ => rfl) (fun c _ Q' q' => q') (fun c _ => Nat.le_trans (ways1_len _) (by decide)) (fun c _ v _ => rfl) (fun c hc v _ Q' q' => ?_) ?_
      · refine ⟨l4, l1, ?_, ?_⟩
        · show List.length _ + 1 ≤ 100000
          rw [List.length_map, zipC_len (waysL_el c hc)]
          omega
        · rw [zipC_snoc (waysL_el c hc)] at q'
          unfold rowsD at q'
          rw [List.map_append] at q'
          exact q'
      · have e2 : ((waysL done).flatMap fun c => (ways1 l.ex).map fun v => rowsD (zipC (done ++ [l]) (c ++ [v]))) = statesL (done ++ [l]) := by
          unfold statesL
          rw [waysL_snoc]
          unfold longer
          rw [List.map_flatMap]
          congr 1
          funext c
          rw [List.map_map]
          rfl
        rw [List.nil_append, e2]
        exact ih (done ++ [l]) _ _ _ _ _ _ _ (by rw [e, List.append_assoc]; rfl)
  exact ⟨by decide, by decide, loop rows [] none none none none none none none rfl⟩
/-! ### open states -/
def openL (rows : List Ln) : List (List Ln) := ((waysL rows).map (zipC rows)).filter free
def c_open_states : GCW := fun ws R => ∃ rows, ws = [.dat (rowsD rows)] ∧ RowsK rows ∧ R ((openL rows).map fun s => .dat (rowsD s))
theorem em_if {os out out2 : List W} {t u : TYW} {A B : Sw → Prop} {tt : TTW} (p : Bool) (h : ∀ σ (Q : Bool → Hw → Prop), A σ → Q p hh → tt σ hh Q) (ht : Emits os t A B out) (hu : Emits os u A B out2) : Emits os (sYIf tt t u) A B (if p = true then out else out2) := fun D i σ rest a e k => by
  refine h σ _ a ⟨rfl, ?_⟩
  cases p with
  | true => exact ht D i σ rest a e k
  | false => exact hu D i σ rest a e k
abbrev N_open_states : List Str := ["state", "other"]
def t_open_states (it : Nat → W → Prop) (N : Nat) : TYW := sYThen (sYFor (sItems (sCallP c_rounded_states (sCons (sVar 0) (sNil)))) (bName 1) (sYThen (sYIf (sB (sCallP c_is_open (sCons (sVar 1) (sNil)))) (sYThen (sYld it N (sVar 1)) (sYEnd)) (sYEnd)) (sYEnd))) (sYEnd)
theorem me_open_states : ∀ ws R, c_open_states ws R → ∃ os, R os ∧ ∀ it N, it = (fun i w => os[i]? = some w) → N = os.length → t_open_states it N { nx := fun i _ => i = os.length, rt := fun i => i = os.length } 0 (startW N_open_states ws) := by
  rintro ws R ⟨rows, rfl, ok, q⟩
  refine ⟨_, q, ?_⟩
  rintro it N rfl rfl
  generalize ho : (openL rows).map (fun s => W.dat (rowsD s)) = os
  have all : Emits os (t_open_states (fun i w => os[i]? = some w) os.length) (fun σ => ∃ x1, σ = [some (.v (.dat (rowsD rows))), x1]) (fun _ => True) (((waysL rows).flatMap fun c => (if free (zipC rows c) = true then [W.dat (rowsD (zipC rows c))] ++ [] else []) ++ []) ++ []) := by
    refine em_then (em_for (enc := fun c => .dat (rowsD (zipC rows c))) (waysL rows) (fun c σ => σ = [some (.v (.dat (rowsD rows))), some (.v (.dat (rowsD (zipC rows c))))]) (fun σ Q ⟨x1, e⟩ q => ?_) (fun c _ σ ⟨x1, e⟩ => ⟨_, by subst e; rfl, rfl⟩) fun c hc => ?_) (em_end fun σ _ => trivial)
    · subst e
      refine ⟨_, rfl, rows, rfl, ok, rfl, ?_⟩
      show Q (List.map W.dat _) hh
      rw [List.map_map]
      exact q
    · refine em_then (em_if (free (zipC rows c)) (fun σ Q e q => ?_) (em_then (em_yield (fun σ => .dat (rowsD (zipC rows c))) (fun σ Q e q => ?_) _ fun _ _ => rfl) (em_end fun σ a => a)) (em_end fun σ a => a)) (em_end fun σ e => ⟨_, e⟩)
      · subst e
        exact ⟨_, rfl, _, rfl, rowsK_zip ok hc, rfl, q⟩
      · subst e
        exact q
  have eo : os = (((waysL rows).flatMap fun c => (if free (zipC rows c) = true then [W.dat (rowsD (zipC rows c))] ++ [] else []) ++ []) ++ []) := by
    rw [← ho, List.append_nil]
    unfold openL
    generalize waysL rows = cs
    induction cs with
    | nil => rfl
    | cons c cs ih =>
      rw [List.map_cons, List.filter_cons, List.flatMap_cons, ← ih]
      split
      · rfl
      · rfl
  refine all _ 0 _ [] ⟨none, rfl⟩ (by rw [List.append_nil, List.drop_zero]; exact eo) fun i' σ' _ l _ => ?_
  show i' = os.length
  rw [l, Nat.zero_add, ← eo]
/-! ### corrected -/
def absI (i : Int) : Int := if i < 0 then -i else i
def sizeI (ns : List Int) : Int := (ns.map absI).sum
def chgs (s rows : List Ln) : List Int := (s.zip rows).map fun p => p.1.ct - p.2.ct
def better (rows : List Ln) (best : Option (List Int)) (s : List Ln) : Option (List Int) := match best with
  | none => some (chgs s rows)
  | some b => if sizeI (chgs s rows) < sizeI b then some (chgs s rows) else some b
def bestOf (rows : List Ln) : Option (List Int) := (openL rows).foldl (better rows) none
def optD : Option (List Int) → PyData
  | none => .none
  | some ns => rowI ns
def c_size_of : CW := fun ws g Q => ∃ ns : List Int, ws = [.dat (rowI ns)] ∧ ns.length ≤ 8 ∧ Q (.dat (.int (sizeI ns))) g
abbrev c_corrected : CW := cRows fun rows => optD (bestOf rows)
abbrev N_size_of : List Str := ["changes", "change"]
def t_size_of : TSW := sRet (sCal (g1 kSum) (sCons (sFrz (sLc (sItems (sVar 0)) (bName 1) sYes (sCal (g1 kAbs) (sCons (sVar 1) (sNil))) [1])) (sNil)))
theorem me_size_of : ∀ ws g Q, c_size_of ws g Q → t_size_of (endW Q) (startW N_size_of ws) ⟨g, []⟩ := by
  rintro ws g Q ⟨ns, rfl, h, q⟩
  refine ⟨len_mm (by omega), ?_⟩
  refine comp_map (enc := .int) (f := fun i => .int (absI i)) (fun l => _) ns [] (fun l _ => rfl) (fun l _ Q' q' => q') ?_
  exact ⟨ns.map absI, congrArg some map_int, q⟩
theorem zip_ll : ∀ (s rows : List Ln), zipW ((s.map ld).map .dat) ((rows.map ld).map .dat) = ((s.zip rows).map fun p => PyData.tuple [ld p.1, ld p.2]).map .dat
  | [], _ => rfl
  | _ :: _, [] => rfl
  | l :: s, r :: rows => by
    rw [List.map_cons, List.map_cons, List.map_cons, List.map_cons, zipW, zip_ll s rows]
    rfl
abbrev N_corrected : List Str := ["state", "best", "other", "changes", "wanted", "line"]
abbrev b_corrected : TSW := (sSet 3 (sCal (g1 kTup) (sCons (sFrz (sLc (sZip (sCons (sVar 2) (sCons (sVar 0) (sNil)))) (bTup [4, 5]) sYes (s2 (s2 (sVar 4) (sI 2) gIx) (s2 (sVar 5) (sI 2) gIx) gSub) [4, 5])) (sNil))) (sIfS (sOr (sB (s2 (sVar 1) (sNone) (gIs id))) (sB (s2 (sCallP c_size_of (sCons (sVar 3) (sNil))) (sCallP c_size_of (sCons (sVar 1) (sNil))) (gLt)))) (sSet 1 (sVar 3) (sEnd)) (sEnd) (sEnd)))
def t_corrected : TSW := sSet 1 (sNone) (sForG c_open_states (sCons (sVar 0) (sNil)) (bName 2) b_corrected (sRet (sVar 1)))
theorem open_mem {rows s : List Ln} (h : s ∈ openL rows) : ∃ c ∈ waysL rows, s = zipC rows c ∧ free s = true := by
  obtain ⟨h, f⟩ := List.mem_filter.mp h
  obtain ⟨c, hc, rfl⟩ := List.mem_map.mp h
  exact ⟨c, hc, rfl, f⟩
theorem chgs_len {s rows : List Ln} : (chgs s rows).length ≤ rows.length := by
  unfold chgs
  rw [List.length_map, List.length_zip]
  omega
theorem me_corrected : ∀ ws g Q, c_corrected ws g Q → t_corrected (endW Q) (startW N_corrected ws) ⟨g, []⟩ := by
  rintro ws g Q ⟨rows, rfl, ok, q⟩
  have l8 := ok.1
  have loop : ∀ (ss : List (List Ln)) (best : Option (List Int)) (x2 x3 x4 x5 : Option U), (∀ b, best = some b → b.length ≤ 8) → Q (.dat (optD (ss.foldl (better rows) best))) g → forR (bName 2) b_corrected (ss.map fun s => .dat (rowsD s)) { (endW Q) with nx := sRet (sVar 1) (endW Q) } [some (.v (.dat (rowsD rows))), some (.v (.dat (optD best))), x2, x3, x4, x5] ⟨g, []⟩ := by
    intro ss
    induction ss with
    | nil => exact fun best x2 x3 x4 x5 _ q => q
    | cons s ss ih =>
      intro best x2 x3 x4 x5 hb q
      have hc : (chgs s rows).length ≤ 8 := Nat.le_trans chgs_len l8
      refine ⟨_, rfl, ?_⟩
      refine ⟨?_, ?_⟩
      · rw [zipW_len, List.length_map, List.length_map, List.length_map, List.length_map]
        omega
      rw [zip_ll]
      refine comp_map (enc := fun (p : Ln × Ln) => PyData.tuple [ld p.1, ld p.2]) (f := fun p => .int (p.1.ct - p.2.ct)) (fun p => _) (s.zip rows) [] (fun p _ => rfl) (fun p _ Q' q' => ⟨_, rfl, _, rfl, q'⟩) ?_
      have e : ([] ++ (s.zip rows).map fun (p : Ln × Ln) => PyData.int (p.1.ct - p.2.ct)) = (chgs s rows).map .int := by
        unfold chgs
        rw [List.map_map]
        rfl
      rw [e]
      cases best with
      | none => exact ih (some (chgs s rows)) _ _ _ _ (fun b e => by cases e; exact hc) q
      | some b =>
        refine ⟨_, rfl, chgs s rows, rfl, hc, rfl, ?_⟩
        refine ⟨_, rfl, b, rfl, hb b rfl, rfl, ?_⟩
        show (if decide (sizeI (chgs s rows) < sizeI b) = true then _ else _)
        have q : Q (.dat (optD (ss.foldl (better rows) (if sizeI (chgs s rows) < sizeI b then some (chgs s rows) else some b)))) g := q
        by_cases h : sizeI (chgs s rows) < sizeI b
        · rw [if_pos (decide_eq_true h)]
          rw [if_pos h] at q
          exact ih (some (chgs s rows)) _ _ _ _ (fun b e => by cases e; exact hc) q
        · rw [if_neg (by simpa using h)]
          rw [if_neg h] at q
          exact ih (some b) _ _ _ _ hb q
  exact ⟨_, rfl, rfl, rows, rfl, ok, loop (openL rows) none none none none none (fun b e => by cases e) q⟩
end Wl

/-! the stream of the laws from k45 on: its draws; their count is told -/
namespace W4
open PySem PySem.Spec PyProof.Rows L2 Cb Wl Wg
abbrev kyM : Key := .inr "numbers"
abbrev kyX : Key := .inr "next"
abbrev kyR : Key := .inr "rest"
abbrev kyC : Key := .inr "count"
def kw (m : Nat) (x r c : Int) : List (Key × W) := [(kyM, .ref m), (kyX, .dat (.int x)), (kyR, .dat (.int r)), (kyC, .dat (.int c))]
section
variable {m : Nat} {x r c z : Int}
theorem get_m : getK (kw m x r c) kyM = some (.ref m) := by rfl
theorem get_x : getK (kw m x r c) kyX = some (.dat (.int x)) := by rfl
theorem get_r : getK (kw m x r c) kyR = some (.dat (.int r)) := by rfl
theorem get_c : getK (kw m x r c) kyC = some (.dat (.int c)) := by rfl
theorem set_c : setK (kw m x r c) kyC (.dat (.int z)) = kw m x r z := by rfl
theorem set_x : setK (kw m x r c) kyX (.dat (.int z)) = kw m z r c := by rfl
theorem set_r : setK (kw m x r c) kyR (.dat (.int z)) = kw m x z c := by rfl
end
/-- the stream at n, its numbers at m; at most N draws so far -/
def Rg (n m N : Nat) (g : List Ob) : Prop := ∃ (ns : List Int) (x r c : Int), g[n]? = some (.dK (kw m x r c)) ∧ g[m]? = some (.lsd (ns.map .int)) ∧ 0 ≤ c ∧ c ≤ N
theorem Rg.le {n m N M : Nat} {g : List Ob} (h : Rg n m N g) (l : N ≤ M) : Rg n m M g := by
  obtain ⟨ns, x, r, c, h1, h2, h3, h4⟩ := h
  exact ⟨ns, x, r, c, h1, h2, h3, by omega⟩
theorem rset {n m : Nat} {g : List Ob} {ns : List Int} {x r c x' r' c' : Int} (h1 : g[n]? = some (.dK (kw m x r c))) (h2 : g[m]? = some (.lsd (ns.map .int))) : (g.set n (.dK (kw m x' r' c')))[n]? = some (.dK (kw m x' r' c')) ∧ (g.set n (.dK (kw m x' r' c')))[m]? = some (.lsd (ns.map .int)) := by
  have hn := (List.getElem?_eq_some_iff.mp h1).1
  have ne : n ≠ m := fun e => by
    rw [e, h2] at h1
    cases h1
  exact ⟨by rw [List.getElem?_set, if_pos rfl, if_pos hn], by rw [List.getElem?_set_ne ne]; exact h2⟩
/-- what a draw of a number below many may do -/
def c__law_draw : CW := fun ws g Q => ∃ (n m N : Nat) (many : Int), ws = [.ref n, .dat (.int many)] ∧ 0 < many ∧ many < 1000000000000 ∧ N ≤ 5000 ∧ Rg n m N g ∧ ∀ z g', 0 ≤ z → z < many → Rg n m (N + 1) g' → Q (.dat (.int z)) g'
abbrev N__law_draw : List Str := ["_law_rng", "_law_size", "_law_count", "_law_digit", "_law_index", "_law_number", "_law_mixed"]
abbrev z__law_draw : TSW := (sSet 6 (s2 (s2 (s2 (s2 (s2 (sVar 5) (sI 2147483563) gMod) (s2 (sI 6029) (sVar 2) gMul) gAdd) (sI 17) gAdd) (sI 3) gPow) (sI 2147483647) gMod) (sSet 6 (s2 (s2 (s2 (sVar 6) (s2 (s2 (sI 32003) (sVar 2) gMul) (sVar 2) gMul) gAdd) (sI 3) gPow) (sI 2147483629) gMod) (sRet (s2 (s2 (sVar 6) (sI 64) gDiv) (sVar 1) gMod))))
abbrev y__law_draw : TSW := (sIfS (sAnd (sB (s2 (sVar 5) (s2 (sI 10) (sI 18) gPow) (gGe))) (sB (s2 (sVar 4) (sCal (g1 kLen) (sCons (sDGet (sVar 0) (sStr "numbers")) (sNil))) (gLt)))) (sDPutW (sVar 0) (sStr "rest") (s2 (sVar 5) (sVar 1) gDiv) (sRet (s2 (sVar 5) (sVar 1) gMod))) (sEnd) z__law_draw)
def t__law_draw : TSW := sSet 2 (s2 (sDGet (sVar 0) (sStr "count")) (sI 1) gAdd) (sDPutW (sVar 0) (sStr "count") (sVar 2) (sIfS (sB (s2 (sDGet (sVar 0) (sStr "rest")) (sI 0) (gGt))) (sSet 3 (s2 (sDGet (sVar 0) (sStr "rest")) (sVar 1) gMod) (sDPutW (sVar 0) (sStr "rest") (s2 (sDGet (sVar 0) (sStr "rest")) (sVar 1) gDiv) (sRet (sVar 3)))) (sEnd) (sPar 4 5 (sDGet (sVar 0) (sStr "next")) (sI 31) (sDPutW (sVar 0) (sStr "next") (s2 (sVar 4) (sI 1) gAdd) (sIfS (sB (s2 (sDGet (sVar 0) (sStr "numbers")) (sFrz (sLst (sNil))) (gEq not))) (sSet 5 (s2 (sDGet (sVar 0) (sStr "numbers")) (s2 (sVar 4) (sCal (g1 kLen) (sCons (sDGet (sVar 0) (sStr "numbers")) (sNil))) gMod) gIx) (sEnd)) (sEnd) y__law_draw)))))
theorem pow3w {x : Int} (h0 : 0 ≤ x) (h1 : x < 2 ^ 61) : CPow x 3 := ⟨by decide, by decide, by
  have : (2 : Nat) ^ 64 = 18446744073709551616 := by decide
  omega⟩
theorem me__law_draw : ∀ ws g Q, c__law_draw ws g Q → t__law_draw (endW Q) (startW N__law_draw ws) ⟨g, []⟩ := by
  rintro ws g Q ⟨n, m, N, many, rfl, h0, hm, hN, ⟨ns, x, r, c, hn, hc, c0, c1⟩, k⟩
  have k' : ∀ z x' r', 0 ≤ z → z < many → Q (.dat (.int z)) (g.set n (.dK (kw m x' r' (c + 1)))) := fun z x' r' z0 z1 => k z _ z0 z1 ⟨ns, x', r', c + 1, (rset hn hc).1, (rset hn hc).2, by omega, by omega⟩
  have two : ∀ a1 l1 c1 a2 l2 c2, (g.set n (.dK (kw m a1 l1 c1))).set n (.dK (kw m a2 l2 c2)) = g.set n (.dK (kw m a2 l2 c2)) := fun a1 l1 c1 a2 l2 c2 => List.set_set ..
  have z4 : ∀ a l c, (kw m a l c).length ≤ 100000 := fun a l c => by show 4 ≤ 100000; decide
  have md : ∀ x : Int, 0 ≤ x % many ∧ x % many < many := fun x => mod_bd h0
  show sDGet (sVar 0) (sStr "count") _ _ _
  refine dget_ok (h := ⟨g, []⟩) hn get_c ?_ (by rfl)
  refine dput_ok (h := ⟨g, []⟩) hn (z4 _ _ _) ?_ (by rfl)
  rw [set_c]
  obtain ⟨hn1, hc1⟩ := rset (x' := x) (r' := r) (c' := c + 1) hn hc
  show sDGet (sVar 0) (sStr "rest") _ _ _
  refine dget_ok (h := ⟨g.set n (.dK (kw m x r (c + 1))), []⟩) hn1 get_r ?_ (by rfl)
  show (if decide (0 < r) = true then _ else _)
  by_cases hl : 0 < r
  · rw [if_pos (decide_eq_true hl)]
    show sDGet (sVar 0) (sStr "rest") _ _ _
    refine dget_ok (h := ⟨g.set n (.dK (kw m x r (c + 1))), []⟩) hn1 get_r ?_ (by rfl)
    refine ⟨h0, ?_⟩
    show sDGet (sVar 0) (sStr "rest") _ _ _
    refine dget_ok (h := ⟨g.set n (.dK (kw m x r (c + 1))), []⟩) hn1 get_r ?_ (by rfl)
    refine ⟨divM h0 hm, ?_⟩
    refine dput_ok (h := ⟨g.set n (.dK (kw m x r (c + 1))), []⟩) hn1 (z4 _ _ _) ?_ (by rfl)
    rw [set_r]
    show Q (.dat (.int (r % many))) ((g.set n _).set n _)
    rw [two]
    exact k' _ _ _ (md _).1 (md _).2
  · rw [if_neg (by simpa using hl)]
    show sDGet (sVar 0) (sStr "next") _ _ _
    refine dget_ok (h := ⟨g.set n (.dK (kw m x r (c + 1))), []⟩) hn1 get_x ?_ (by rfl)
    refine dput_ok (h := ⟨g.set n (.dK (kw m x r (c + 1))), []⟩) hn1 (z4 _ _ _) ?_ (by rfl)
    rw [set_x]
    obtain ⟨hn2, hc2⟩ := rset (x' := x + 1) (r' := r) (c' := c + 1) hn1 hc1
    show sIfS _ _ _ y__law_draw (endW Q) [some (.v (.ref n)), some (.v (.dat (.int many))), some (.v (.dat (.int (c + 1)))), none, some (.v (.dat (.int x))), some (.v (.dat (.int 31))), none] ⟨(g.set n (.dK (kw m x r (c + 1)))).set n (.dK (kw m (x + 1) r (c + 1))), []⟩
    rw [two] at hn2 hc2 ⊢
    generalize hg2 : g.set n (.dK (kw m (x + 1) r (c + 1))) = g2 at hn2 hc2 ⊢
    have two2 : ∀ a2 l2 c2, g2.set n (.dK (kw m a2 l2 c2)) = g.set n (.dK (kw m a2 l2 c2)) := fun a2 l2 c2 => by rw [← hg2, two]
    have rest : ∀ cell : Int, z__law_draw (endW Q) [some (.v (.ref n)), some (.v (.dat (.int many))), some (.v (.dat (.int (c + 1)))), none, some (.v (.dat (.int x))), some (.v (.dat (.int cell))), none] ⟨g2, []⟩ := fun cell => by
      have m1 : 0 ≤ cell % 2147483563 ∧ cell % 2147483563 < 2147483563 := ⟨Int.emod_nonneg _ (by decide), Int.emod_lt_of_pos _ (by decide)⟩
      refine ⟨(by show (0 : Int) < 2147483563; decide), small_mul (by decide) (by decide), ?_⟩
      refine ⟨pow3w (by omega) (by omega), (by show (0 : Int) < 2147483647; decide), ?_⟩
      have m2 : ∀ y : Int, 0 ≤ y % 2147483647 ∧ y % 2147483647 < 2147483647 := fun y => ⟨Int.emod_nonneg _ (by decide), Int.emod_lt_of_pos _ (by decide)⟩
      refine ⟨small_mul (by decide) (by decide), small_mul (by omega) (by omega), ?_⟩
      have cc : (32003 * (c + 1) * (c + 1) : Int) ≤ 32003 * 5001 * 5001 ∧ 0 ≤ (32003 * (c + 1) * (c + 1) : Int) := by
        refine ⟨?_, Int.mul_nonneg (by omega) (by omega)⟩
        refine Int.le_trans (Int.mul_le_mul_of_nonneg_right (show 32003 * (c + 1) ≤ 32003 * 5001 by omega) (by omega)) ?_
        exact Int.mul_le_mul_of_nonneg_left (by omega) (by decide)
      refine ⟨pow3w ?_ ?_, (by show (0 : Int) < 2147483629; decide), ?_⟩
      · exact Int.add_nonneg (m2 _).1 cc.2
      · have := (m2 ((cell % 2147483563 + 6029 * (c + 1) + 17) ^ (3 : Int).toNat)).2
        omega
      refine ⟨.inl ⟨by decide, by decide⟩, h0, ?_⟩
      rw [← hg2]
      exact k' _ _ _ (md _).1 (md _).2
    have big : ∀ cell : Int, y__law_draw (endW Q) [some (.v (.ref n)), some (.v (.dat (.int many))), some (.v (.dat (.int (c + 1)))), none, some (.v (.dat (.int x))), some (.v (.dat (.int cell))), none] ⟨g2, []⟩ := fun cell => by
      refine ⟨⟨by decide, by decide, by decide⟩, ?_⟩
      show (if decide ((10 : Int) ^ (18 : Int).toNat ≤ cell) = true then _ else _)
      by_cases hbig : (10 : Int) ^ (18 : Int).toNat ≤ cell
      · rw [if_pos (decide_eq_true hbig)]
        show sDGet (sVar 0) (sStr "numbers") _ _ _
        refine dget_ok (h := ⟨g2, []⟩) hn2 get_m ?_ (by rfl)
        dsimp only [sNil, g1]
        refine kLen_ref (h := ⟨g2, []⟩) hc2 ?_
        show (if decide (x < ((ns.map PyData.int).length : Int)) = true then _ else _)
        by_cases hal : x < ((ns.map PyData.int).length : Int)
        · rw [if_pos (decide_eq_true hal)]
          refine ⟨divM h0 hm, ?_⟩
          refine dput_ok (h := ⟨g2, []⟩) hn2 (z4 _ _ _) ?_ (by rfl)
          rw [set_r]
          refine ⟨h0, ?_⟩
          show Q (.dat (.int (cell % many))) (g2.set n _)
          rw [two2]
          exact k' _ _ _ (md _).1 (md _).2
        · rw [if_neg (by simpa using hal)]
          exact rest cell
      · rw [if_neg (by simpa using hbig)]
        exact rest cell
    show sDGet (sVar 0) (sStr "numbers") _ _ _
    refine dget_ok (h := ⟨g2, []⟩) hn2 get_m ?_ (by rfl)
    refine ⟨by decide, ?_⟩
    refine gEq_ok (h := ⟨g2, []⟩) (rd_ref hc2).1 rfl (plain_ints ns) rfl ?_
    by_cases hns : ns = []
    · subst hns
      exact big 31
    · have hne : PyData.eqv (.list (ns.map .int)) (.list []) = false := by
        cases ns with
        | nil => exact absurd rfl hns
        | cons x ns => rfl
      have hlen : 0 < ns.length := List.length_pos_iff.mpr hns
      show (if (!PyData.eqv (.list (ns.map .int)) (.list [])) = true then _ else _)
      rw [hne, if_pos (by decide)]
      show sDGet (sVar 0) (sStr "numbers") _ _ _
      refine dget_ok (h := ⟨g2, []⟩) hn2 get_m ?_ (by rfl)
      show sDGet (sVar 0) (sStr "numbers") _ _ _
      refine dget_ok (h := ⟨g2, []⟩) hn2 get_m ?_ (by rfl)
      dsimp only [sNil, g1]
      refine kLen_ref (h := ⟨g2, []⟩) hc2 ?_
      refine ⟨by rw [List.length_map]; omega, ?_⟩
      obtain ⟨cell, ec⟩ := mod_at (i := x) hlen
      refine gIx_ref (h := ⟨g2, []⟩) hc2 ec ?_
      exact big cell
/-- something is drawn by at most k draws -/
def drawn (P : W → Prop) (k : Nat) (n m N : Nat) (g : List Ob) (Q : W → List Ob → Prop) : Prop := N + k ≤ 5000 ∧ Rg n m N g ∧ ∀ w g', P w → Rg n m (N + k) g' → Q w g'
def c__law_pick : CW := fun ws g Q => ∃ (n m N : Nat) (xs : List PyData), ws = [.ref n, .dat (.list xs)] ∧ 0 < xs.length ∧ xs.length < 1000000 ∧ N ≤ 5000 ∧ Rg n m N g ∧ ∀ x ∈ xs, ∀ g', Rg n m (N + 1) g' → Q (.dat x) g'
abbrev N__law_pick : List Str := ["_law_rng", "_law_pool"]
def t__law_pick : TSW := sRet (s2 (sVar 1) (sCallG c__law_draw (sCons (sVar 0) (sCons (sCal (g1 kLen) (sCons (sVar 1) (sNil))) (sNil)))) gIx)
theorem me__law_pick : ∀ ws g Q, c__law_pick ws g Q → t__law_pick (endW Q) (startW N__law_pick ws) ⟨g, []⟩ := by
  rintro ws g Q ⟨n, m, N, xs, rfl, h0, h1, hN, rg, q⟩
  refine ⟨_, rfl, n, m, N, _, rfl, by omega, by omega, hN, rg, fun z g' z0 z1 rg' => ?_⟩
  obtain ⟨x, hx, e⟩ := atI_pos z0 z1
  exact ⟨x, e, q x hx g' rg'⟩
theorem erase_perm {α : Type} : ∀ (l : List α) (i : Nat) (h : i < l.length), ([l[i]] ++ l.eraseIdx i).Perm l
  | a :: l, 0, h => List.Perm.refl _
  | a :: l, i + 1, h => by
    have h' : i < l.length := by simpa using h
    have ih := erase_perm l i h'
    rw [List.eraseIdx_cons_succ, List.getElem_cons_succ]
    exact (List.Perm.swap a l[i] _).trans (ih.cons a)
/-- names, all of the pool, none twice -/
def c__law_sample : CW := fun ws g Q => ∃ (n m N k : Nat) (pool : List Str), ws = [.ref n, .dat (.list (pool.map .str)), .dat (.int (k : Int))] ∧ k ≤ pool.length ∧ pool.length ≤ 60 ∧ N + k ≤ 5000 ∧ Rg n m N g ∧ ∀ (xs : List Str) g', xs.length = k → (∀ x ∈ xs, x ∈ pool) → (pool.Nodup → xs.Nodup) → Rg n m (N + k) g' → Q (.dat (.list (xs.map .str))) g'
abbrev N__law_sample : List Str := ["_law_rng", "_law_pool", "_law_size", "_law_rest", "_law_k"]
def t__law_sample : TSW := sSet 3 (sOwn (sCalL kList (sCons (sVar 1) (sNil)))) (sRet (sFrz (sLc (sRng1 (sCons (sVar 2) (sNil))) (bName 4) sYes (sOwnM 3 fPopAt (sCons (sCallG c__law_draw (sCons (sVar 0) (sCons (sCal (g1 kLen) (sCons (sVar 3) (sNil))) (sNil)))) (sNil))) [4])))
theorem me__law_sample : ∀ ws g Q, c__law_sample ws g Q → t__law_sample (endW Q) (startW N__law_sample ws) ⟨g, []⟩ := by
  rintro ws g Q ⟨n, m, N, k, pool, rfl, hk, hp, hN, rg, q⟩
  refine ⟨by omega, by omega, ?_⟩
  have loop : ∀ (is : List W) (rest acc : List Str) (M : Nat) (ga : List Ob), is.length ≤ rest.length → rest.length ≤ 60 → M + is.length ≤ 5000 → Rg n m M ga → (∀ (xs : List Str) g', xs.length = acc.length + is.length → (∀ x ∈ xs, x ∈ acc ∨ x ∈ rest) → ((acc ++ rest).Nodup → xs.Nodup) → Rg n m (M + is.length) g' → Q (.dat (.list (xs.map .str))) g') →
      compR (bName 4) sYes (sOwnM 3 fPopAt (sCons (sCallG c__law_draw (sCons (sVar 0) (sCons (sCal (g1 kLen) (sCons (sVar 3) (sNil))) (sNil)))) (sNil))) is (acc.map .str) [some (.v (.ref n)), some (.v (.dat (.list (pool.map .str)))), some (.v (.dat (.int (k : Int)))), some (.l 0), none] ⟨ga, [.lsd (rest.map .str)]⟩ fun ds h1 => frzU (.v (.dat (.list ds))) h1 (endW Q).rt := by
    intro is
    induction is with
    | nil => exact fun rest acc M ga _ _ _ rga qq => qq acc ga rfl (fun x h => .inl h) (fun nd => (List.nodup_append.mp nd).1) rga
    | cons i is ih =>
      intro rest acc M ga hl h60 hM rga qq
      rw [List.length_cons] at hl hM
      refine ⟨_, rfl, ?_⟩
      refine ⟨_, rfl, n, m, M, _, rfl, by show (0 : Int) < ((rest.map PyData.str).length : Int); rw [List.length_map]; omega, by show ((rest.map PyData.str).length : Int) < _; rw [List.length_map]; omega, by omega, rga, fun z gb z0 z1 rgb => ?_⟩
      have z1 : z < ((rest.map PyData.str).length : Int) := z1
      rw [List.length_map] at z1
      obtain ⟨j, rfl⟩ := Int.eq_ofNat_of_zero_le z0
      have hj : j < rest.length := by omega
      refine ⟨by rw [List.length_map]; omega, j, .str rest[j], ?_, ?_, ?_⟩
      · rw [List.length_map]
        unfold ixN
        rw [if_pos (by omega), if_pos (by omega), Int.toNat_natCast]
      · rw [List.getElem?_map, List.getElem?_eq_getElem hj]
        rfl
      · have e1 : (rest.map PyData.str).eraseIdx j = (rest.eraseIdx j).map .str := eraseIdx_map ..
        show compR _ _ _ is (acc.map .str ++ [.str rest[j]]) _ ⟨gb, [.lsd ((rest.map PyData.str).eraseIdx j)]⟩ _
        rw [e1, show acc.map PyData.str ++ [.str rest[j]] = (acc ++ [rest[j]]).map .str by rw [List.map_append]; rfl]
        have le : (rest.eraseIdx j).length = rest.length - 1 := by rw [List.length_eraseIdx, if_pos hj]
        refine ih (rest.eraseIdx j) (acc ++ [rest[j]]) (M + 1) gb (by omega) (by omega) (by omega) rgb fun xs g' e h nd rg' => qq xs g' ?_ (fun x hx => ?_) (fun nd' => nd ?_) ?_
        · rw [e]
          simp only [List.length_append, List.length_cons, List.length_nil]
          omega
        · rcases h x hx with z | z
          · rcases List.mem_append.mp z with z | z
            · exact .inl z
            · rw [List.mem_singleton.mp z]
              exact .inr (List.getElem_mem _)
          · exact .inr (List.mem_of_mem_eraseIdx z)
        · rw [List.append_assoc]
          refine (List.Perm.nodup_iff (List.Perm.append_left acc ?_)).mp nd'
          exact (erase_perm rest j hj).symm
        · rw [show M + (i :: is).length = M + 1 + is.length by rw [List.length_cons]; omega]
          exact rg'
  have := loop (rangeW 0 k) pool [] N g (by rw [rangeW_len]; exact hk) hp (by rw [rangeW_len]; exact hN) rg fun xs g' e h nd rg' => q xs g' (by rw [e, rangeW_len]; simp) (fun x hx => (h x hx).resolve_left (by simp)) nd (by rw [rangeW_len] at rg'; exact rg')
  refine ⟨by rw [rangeW_len]; omega, ?_⟩
  rw [Int.toNat_natCast]
  exact this
end W4

/-! the laws' own fractions and measures of a state -/
namespace W4
open PySem PySem.Spec PyProof.Rows L2 Cb Wl Wg
def c__law_low : CW := fun ws g Q => ∃ o u, ws = [.dat (.int o), .dat (.int u)] ∧ 0 < u ∧ u.natAbs < 2 ^ 8000 ∧ Q (.dat (qd (Rat.divInt o u))) g
abbrev N__law_low : List Str := ["_law_over", "_law_under", "_law_one", "_law_other"]
abbrev z__law_low : TSW := sRet (sTup (sCons (s2 (sVar 0) (sVar 2) gDiv) (sCons (s2 (sVar 1) (sVar 2) gDiv) (sNil))))
abbrev b__law_low : TSW := (sPar 2 3 (sVar 3) (s2 (sVar 2) (sVar 3) gMod) (sEnd))
def t__law_low : TSW := sPar 2 3 (sCal (g1 kAbs) (sCons (sVar 0) (sNil))) (sVar 1) (sWhile (sB (s2 (sVar 3) (sI 0) (gGt))) b__law_low z__law_low)
theorem me__law_low : ∀ ws g Q, c__law_low ws g Q → t__law_low (endW Q) (startW N__law_low ws) ⟨g, []⟩ := by
  rintro ws g Q ⟨o, u, rfl, hu, hb, q⟩
  have hO : LowOk u := ⟨Int.ne_of_gt hu, .inl ⟨hu, hb⟩⟩
  have fin : z__law_low (endW Q) [some (.v (.dat (.int o))), some (.v (.dat (.int u))), some (.v (.dat (.int (lowS o u)))), some (.v (.dat (.int 0)))] ⟨g, []⟩ := by
    refine ⟨hO.div, hO.div, (by show 2 ≤ 1000; decide), ?_⟩
    show Q (.dat (.tuple [.int (o.fdiv (lowS o u)), .int (u.fdiv (lowS o u))])) g
    rw [hO.num.1, hO.num.2]
    exact q
  have loop : ∀ (n : Nat) (a b : Int), 0 ≤ a → 0 ≤ b → b < n → ((Nat.gcd a.natAbs b.natAbs : Nat) : Int) = lowS o u → ∃ k, whileN (sB (s2 (sVar 3) (sI 0) (gGt))) b__law_low k { (endW Q) with nx := z__law_low (endW Q) } [some (.v (.dat (.int o))), some (.v (.dat (.int u))), some (.v (.dat (.int a))), some (.v (.dat (.int b)))] ⟨g, []⟩ := by
    intro n
    induction n with
    | zero => intro a b h0 h1 h2 _; omega
    | succ n ih =>
      intro a b h0 h1 h2 e
      by_cases hz : b = 0
      · subst hz
        refine ⟨1, ?_⟩
        have : a = lowS o u := by
          rw [← e]
          simp
          omega
        rw [this]
        exact fin
      · obtain ⟨k, hk⟩ := ih b (a % b) h1 (Int.emod_nonneg _ hz) (by have := Int.emod_lt_of_pos a (show 0 < b by omega); omega) (by
          rw [← e, Int.natAbs_emod_of_nonneg h0, Nat.gcd_comm b.natAbs, ← Nat.gcd_rec, Nat.gcd_comm])
        refine ⟨k + 1, ?_⟩
        show (if decide (0 < b) = true then _ else _)
        rw [if_pos (decide_eq_true (by omega))]
        exact ⟨by show 0 < b; omega, hk⟩
  have habs : (if o < 0 then -o else o) = ((o.natAbs : Nat) : Int) := by split <;> omega
  show sWhile _ _ _ (endW Q) [some (.v (.dat (.int o))), some (.v (.dat (.int u))), some (.v (.dat (.int (if o < 0 then -o else o)))), some (.v (.dat (.int u)))] ⟨g, []⟩
  rw [habs]
  refine loop (u.natAbs + 1) _ u (by omega) (by omega) (by omega) ?_
  unfold lowS
  rw [if_neg (by omega), Int.natAbs_natCast]
abbrev c__law_plus : CW := cQ2 fun r s => r + s
abbrev c__law_minus : CW := cQ2 fun r s => r - s
abbrev c__law_less : CW := cLess
abbrev c__law_down : CW := cQ1 fun r => .int (dn r)
abbrev c__law_up : CW := cQ1 fun r => .int (upp r)
abbrev c__law_total : CW := c_pair_total
abbrev N__law_plus : List Str := ["_law_one", "_law_other"]
def t__law_plus : TSW := sRet (sCallP c__law_low (sCons (s2 (s2 (s2 (sVar 0) (sI 0) gIx) (s2 (sVar 1) (sI 1) gIx) gMul) (s2 (s2 (sVar 1) (sI 0) gIx) (s2 (sVar 0) (sI 1) gIx) gMul) gAdd) (sCons (s2 (s2 (sVar 0) (sI 1) gIx) (s2 (sVar 1) (sI 1) gIx) gMul) (sNil))))
theorem den2 {r q : Rat} (h : Bd 2000 r) (h' : Bd 2000 q) : 0 < (r.den : Int) * (q.den : Int) ∧ ((r.den : Int) * (q.den : Int)).natAbs < 2 ^ 8000 := ⟨Int.mul_pos (den_pos r) (den_pos q), Nat.lt_of_lt_of_le (lt_mul (n := 2000) (m := 2000) h.2 h'.2) (two_le (by decide))⟩
theorem me__law_plus : ∀ ws g Q, c__law_plus ws g Q → t__law_plus (endW Q) (startW N__law_plus ws) ⟨g, []⟩ := by
  rintro ws g Q ⟨r, s, rfl, hr, hs, q⟩
  refine ⟨_, rfl, _, rfl, mulOk hr.1 hs.2, _, rfl, _, rfl, mulOk hs.1 hr.2, ?_⟩
  refine ⟨_, rfl, _, rfl, mulOk hr.2 hs.2, ?_⟩
  refine ⟨_, rfl, _, _, rfl, (den2 hr hs).1, (den2 hr hs).2, rfl, ?_⟩
  rw [add_eq]
  exact q
abbrev N__law_minus : List Str := ["_law_one", "_law_other"]
def t__law_minus : TSW := sRet (sCallP c__law_low (sCons (s2 (s2 (s2 (sVar 0) (sI 0) gIx) (s2 (sVar 1) (sI 1) gIx) gMul) (s2 (s2 (sVar 1) (sI 0) gIx) (s2 (sVar 0) (sI 1) gIx) gMul) gSub) (sCons (s2 (s2 (sVar 0) (sI 1) gIx) (s2 (sVar 1) (sI 1) gIx) gMul) (sNil))))
theorem sub_eq' {r q : Rat} : Rat.divInt (r.num * (q.den : Int) - q.num * (r.den : Int)) ((r.den : Int) * (q.den : Int)) = r - q := by
  have h := add_eq (r := r) (q := -q)
  rw [Rat.neg_num, Rat.neg_den, Int.neg_mul] at h
  rw [Int.sub_eq_add_neg, h, Rat.sub_eq_add_neg]
theorem me__law_minus : ∀ ws g Q, c__law_minus ws g Q → t__law_minus (endW Q) (startW N__law_minus ws) ⟨g, []⟩ := by
  rintro ws g Q ⟨r, s, rfl, hr, hs, q⟩
  refine ⟨_, rfl, _, rfl, mulOk hr.1 hs.2, _, rfl, _, rfl, mulOk hs.1 hr.2, ?_⟩
  refine ⟨_, rfl, _, rfl, mulOk hr.2 hs.2, ?_⟩
  refine ⟨_, rfl, _, _, rfl, (den2 hr hs).1, (den2 hr hs).2, rfl, ?_⟩
  rw [sub_eq']
  exact q
abbrev N__law_less : List Str := ["_law_one", "_law_other"]
def t__law_less : TSW := sRet (s2 (s2 (s2 (sVar 0) (sI 0) gIx) (s2 (sVar 1) (sI 1) gIx) gMul) (s2 (s2 (sVar 1) (sI 0) gIx) (s2 (sVar 0) (sI 1) gIx) gMul) (gLt))
theorem me__law_less : ∀ ws g Q, c__law_less ws g Q → t__law_less (endW Q) (startW N__law_less ws) ⟨g, []⟩ := me_is_below
abbrev N__law_total : List Str := ["_law_values", "_law_found", "_law_value"]
abbrev b__law_total : TSW := (sSet 1 (sCallP c__law_plus (sCons (sVar 1) (sCons (sVar 2) (sNil)))) (sEnd))
def t__law_total : TSW := sSet 1 (sTup (sCons (sI 0) (sCons (sI 1) (sNil)))) (sFor (sItems (sVar 0)) (bName 2) b__law_total (sRet (sVar 1)))
theorem me__law_total : ∀ ws g Q, c__law_total ws g Q → t__law_total (endW Q) (startW N__law_total ws) ⟨g, []⟩ := me_pair_total
abbrev N__law_down : List Str := ["_law_value"]
def t__law_down : TSW := sRet (s2 (s2 (sVar 0) (sI 0) gIx) (s2 (sVar 0) (sI 1) gIx) gDiv)
theorem me__law_down : ∀ ws g Q, c__law_down ws g Q → t__law_down (endW Q) (startW N__law_down ws) ⟨g, []⟩ := me_rounded_down
abbrev N__law_up : List Str := ["_law_value"]
def t__law_up : TSW := sRet (s2 (sI 0) (s2 (s2 (sI 0) (s2 (sVar 0) (sI 0) gIx) gSub) (s2 (sVar 0) (sI 1) gIx) gDiv) gSub)
theorem me__law_up : ∀ ws g Q, c__law_up ws g Q → t__law_up (endW Q) (startW N__law_up ws) ⟨g, []⟩ := by
  rintro ws g Q ⟨r, rfl, hr, q⟩
  refine ⟨_, rfl, _, rfl, divOk hr, ?_⟩
  show Q (.dat (.int (0 - (0 - r.num).fdiv (r.den : Int)))) g
  rw [Int.zero_sub, Int.zero_sub]
  exact q
abbrev c__law_gaps : CW := cRows fun rows => .list (rows.map fun l => qd (gap l))
abbrev N__law_gaps : List Str := ["_law_here", "_law_row"]
def t__law_gaps : TSW := sRet (sFrz (sLc (sItems (sVar 0)) (bName 1) sYes (sCallP c__law_minus (sCons (sTup (sCons (s2 (sVar 1) (sI 2) gIx) (sCons (sI 1) (sNil)))) (sCons (s2 (sVar 1) (sI 1) gIx) (sNil)))) [1]))
theorem me__law_gaps : ∀ ws g Q, c__law_gaps ws g Q → t__law_gaps (endW Q) (startW N__law_gaps ws) ⟨g, []⟩ := by
  rintro ws g Q ⟨rows, rfl, ok, q⟩
  refine ⟨len_mm (by have := ok.1; omega), ?_⟩
  refine comp_map (enc := ld) (f := fun (l : Ln) => qd (gap l)) (fun l => _) rows [] (fun l _ => rfl) (fun l hl Q' q' => ?_) q
  exact ⟨_, rfl, l2, _, rfl, _, rfl, (l.ct : Rat), l.ex, by rw [qd_int], bd_ct (ok.2 l hl), (ok.2 l hl).1.mono (by decide), rfl, q'⟩
abbrev c__law_scales : CW := cRows fun rows => .tuple [qd (aheadR rows), qd (behindR rows), qd (endedR rows)]
abbrev N__law_scales : List Str := ["_law_here", "_law_gaps_here", "_law_found", "_law_k"]
abbrev b__law_scales : TSW := (sIfS (sNot (sB (s2 (s2 (sVar 0) (sVar 3) gIx) (sI 3) gIx))) (sSetI 2 (sI 2) (sCallP c__law_plus (sCons (s2 (sVar 2) (sI 2) gIx) (sCons (s2 (sVar 1) (sVar 3) gIx) (sNil)))) (sEnd)) (sIfS (sB (s2 (s2 (s2 (sVar 1) (sVar 3) gIx) (sI 0) gIx) (sI 0) (gGt))) (sSetI 2 (sI 0) (sCallP c__law_plus (sCons (s2 (sVar 2) (sI 0) gIx) (sCons (s2 (sVar 1) (sVar 3) gIx) (sNil)))) (sEnd)) (sSetI 2 (sI 1) (sCallP c__law_minus (sCons (s2 (sVar 2) (sI 1) gIx) (sCons (s2 (sVar 1) (sVar 3) gIx) (sNil)))) (sEnd)) (sEnd)) (sEnd))
def t__law_scales : TSW := sPar 1 2 (sCallP c__law_gaps (sCons (sVar 0) (sNil))) (sOwn (sLst (sCons (sTup (sCons (sI 0) (sCons (sI 1) (sNil)))) (sCons (sTup (sCons (sI 0) (sCons (sI 1) (sNil)))) (sCons (sTup (sCons (sI 0) (sCons (sI 1) (sNil)))) (sNil)))))) (sFor (sRng1 (sCons (sCal (g1 kLen) (sCons (sVar 0) (sNil))) (sNil))) (bName 3) b__law_scales (sRet (sCal (g1 kTup) (sCons (sVar 2) (sNil)))))
theorem bd60_2000 {r : Rat} (h : Bd 60 r) : Bd 2000 r := h.mono (by decide)
theorem me__law_scales : ∀ ws g Q, c__law_scales ws g Q → t__law_scales (endW Q) (startW N__law_scales ws) ⟨g, []⟩ := by
  rintro ws g Q ⟨rows, rfl, ok, q⟩
  have l8 := ok.1
  refine ⟨_, rfl, rows, rfl, ok, rfl, ?_⟩
  refine ⟨l2, l2, l2, l3, ?_⟩
  have loop : ∀ (ls done : List Ln) (x3 : Option U), rows = done ++ ls → forR (bName 3) b__law_scales (((List.range' done.length ls.length).map natD).map .dat) { (endW Q) with nx := sRet (sCal (g1 kTup) (sCons (sVar 2) (sNil))) (endW Q) } [some (.v (.dat (rowsD rows))), some (.v (.dat (.list (rows.map fun l => qd (gap l))))), some (.l 0), x3] ⟨g, [.lsd [qd (aheadR done), qd (behindR done), qd (endedR done)]]⟩ := by
    intro ls
    induction ls with
    | nil =>
      intro done x3 e
      rw [List.append_nil] at e
      subst e
      exact q
    | cons l ls ih =>
      intro done x3 e
      have hl : l ∈ rows := by rw [e]; exact List.mem_append_right _ List.mem_cons_self
      have okd : RowsK done := ⟨by rw [e, List.length_append] at l8; omega, fun x hx => ok.2 x (by rw [e]; exact List.mem_append_left _ hx)⟩
      have ba := (bd_ahead okd).mono (show 500 ≤ 2000 by decide)
      have bb := (bd_behind okd).mono (show 500 ≤ 2000 by decide)
      have be := (bd_ended okd).mono (show 500 ≤ 2000 by decide)
      have bg := bd60_2000 (bd_gap (ok.2 l hl))
      have at1 : rows[done.length]? = some l := by
        rw [e, List.getElem?_append_right (Nat.le_refl _), Nat.sub_self]
        rfl
      have ald : L2.atI (rows.map ld) ((done.length : Nat) : Int) = some (ld l) := atI_nat (by rw [List.getElem?_map, at1]; rfl)
      have agp : L2.atI (rows.map fun l => qd (gap l)) ((done.length : Nat) : Int) = some (qd (gap l)) := atI_nat (by rw [List.getElem?_map, at1]; rfl)
      have e2 : rows = (done ++ [l]) ++ ls := by rw [e, List.append_assoc]; rfl
      have nx : forR (bName 3) b__law_scales (((List.range' (done.length + 1) ls.length).map natD).map .dat) { (endW Q) with nx := sRet (sCal (g1 kTup) (sCons (sVar 2) (sNil))) (endW Q) } [some (.v (.dat (rowsD rows))), some (.v (.dat (.list (rows.map fun l => qd (gap l))))), some (.l 0), some (.v (.dat (.int (done.length : Int))))] ⟨g, [.lsd [qd (aheadR (done ++ [l])), qd (behindR (done ++ [l])), qd (endedR (done ++ [l]))]]⟩ := by
        have := ih (done ++ [l]) (some (.v (.dat (.int (done.length : Int))))) e2
        rw [List.length_append, List.length_singleton] at this
        exact this
      rw [List.length_cons, List.range'_succ]
      refine ⟨_, rfl, ?_⟩
      refine ⟨_, ald, _, rfl, ?_⟩
      show (if (!l.on) = true then _ else _)
      rw [ahead_snoc, behind_snoc, ended_snoc] at nx
      by_cases on : l.on = true
      · rw [if_neg (by rw [on]; decide)]
        rw [if_pos on] at nx
        refine ⟨_, agp, _, rfl, ?_⟩
        show (if decide (0 < (gap l).num) = true then _ else _)
        by_cases pos : 0 < gap l
        · rw [if_pos (decide_eq_true (num_pos_iff.mp pos))]
          rw [if_pos ⟨on, pos⟩, if_neg (fun z => z.2 pos)] at nx
          refine ⟨_, rfl, _, agp, _, rfl, _, _, rfl, ba, bg, rfl, ?_⟩
          exact ⟨0, rfl, nx⟩
        · rw [if_neg (by simpa using fun z => pos (num_pos_iff.mpr z))]
          rw [if_neg (fun z => pos z.2), if_pos ⟨on, pos⟩] at nx
          refine ⟨_, rfl, _, agp, _, rfl, _, _, rfl, bb, bg, rfl, ?_⟩
          exact ⟨1, rfl, nx⟩
      · rw [if_pos (by simpa using on)]
        rw [if_neg on, if_neg (fun z => on z.1), if_neg (fun z => on z.1)] at nx
        refine ⟨_, rfl, _, agp, _, rfl, _, _, rfl, be, bg, rfl, ?_⟩
        exact ⟨2, rfl, nx⟩
  have := loop rows [] none rfl
  show -(2 ^ 62) ≤ (((rows.map ld).length : Nat) : Int) ∧ (((rows.map ld).length : Nat) : Int) < 2 ^ 62 ∧ forR _ _ (rangeW 0 ((((rows.map ld).length : Nat) : Int)).toNat) _ _ _
  rw [List.length_map, rangeW_nat, List.range_eq_range']
  refine ⟨by omega, by omega, ?_⟩
  rw [List.map_map] at this ⊢
  exact this
abbrev c__law_between : CW := cBtw
abbrev N__law_between : List Str := ["_law_count", "_law_value"]
def t__law_between : TSW := sRet (sChain (fun i j => decide (i ≤ j)) (fun i j => decide (i ≤ j)) (sCallP c__law_down (sCons (sVar 1) (sNil))) (sVar 0) (sCallP c__law_up (sCons (sVar 1) (sNil))))
theorem me__law_between : ∀ ws g Q, c__law_between ws g Q → t__law_between (endW Q) (startW N__law_between ws) ⟨g, []⟩ := me_is_rounded
theorem none_all {α : Type} {p : α → Bool} {l : List α} : (l.filter fun x => !p x).isEmpty = l.all p := by
  induction l with
  | nil => rfl
  | cons a l ih =>
    rw [List.all_cons]
    cases h : p a with
    | true => rw [List.filter_cons_of_neg (by rw [h]; decide), ih, Bool.true_and]
    | false => rw [List.filter_cons_of_pos (by rw [h]; decide), Bool.false_and]; rfl
theorem map_empty {α β : Type} {f : α → β} {l : List α} : (l.map f).isEmpty = l.isEmpty := by cases l <;> rfl
theorem eqv_nilD (ds : List PyData) : PyData.eqv (.list ds) (.list []) = ds.isEmpty := by
  cases ds with
  | nil => rfl
  | cons n ns => rfl
theorem plain_all : ∀ {ds : List PyData}, (∀ d ∈ ds, d.plain = true) → PyData.plainAll ds = true
  | [], _ => rfl
  | d :: ds, h => by
    show (PyData.plain d && PyData.plainAll ds) = true
    rw [h d (List.mem_cons_self ..), plain_all fun e he => h e (List.mem_cons_of_mem _ he)]
    rfl
theorem depth_all {k : Nat} : ∀ {ds : List PyData}, (∀ d ∈ ds, d.depth ≤ k) → PyData.depthAll ds ≤ k
  | [], _ => Nat.zero_le _
  | d :: ds, h => by
    show max (PyData.depth d) (PyData.depthAll ds) ≤ k
    exact Nat.max_le.mpr ⟨h d (List.mem_cons_self ..), depth_all fun e he => h e (List.mem_cons_of_mem _ he)⟩
theorem plainL {α : Type} {enc : α → PyData} {l : List α} (h : ∀ a, (enc a).plain = true ∧ (enc a).depth ≤ 50) : (PyData.list (l.map enc)).plain = true ∧ (PyData.list (l.map enc)).depth ≤ 60 := by
  refine ⟨plain_all fun d hd => ?_, ?_⟩
  · obtain ⟨a, _, rfl⟩ := List.mem_map.mp hd
    exact (h a).1
  · show PyData.depthAll (l.map enc) + 1 ≤ 60
    have := depth_all (k := 50) (ds := l.map enc) fun d hd => by
      obtain ⟨a, _, rfl⟩ := List.mem_map.mp hd
      exact (h a).2
    omega
theorem pd_ld (l : Ln) : (ld l).plain = true ∧ (ld l).depth ≤ 50 := ⟨rfl, by show 2 ≤ 50; decide⟩
theorem pd_qd (r : Rat) : (qd r).plain = true ∧ (qd r).depth ≤ 50 := ⟨rfl, by show 1 ≤ 50; decide⟩
abbrev c__law_is_near : CW := cRows fun rows => .bool (near rows)
abbrev N__law_is_near : List Str := ["_law_here", "_law_row"]
def t__law_is_near : TSW := sIfS (sB (s2 (sFrz (sLc (sItems (sVar 0)) (bName 1) (sNot (sB (sCallP c__law_between (sCons (s2 (sVar 1) (sI 2) gIx) (sCons (s2 (sVar 1) (sI 1) gIx) (sNil)))))) (sVar 1) [1])) (sFrz (sLst (sNil))) (gEq not))) (sRet (sBl false)) (sEnd) (sRet (sCallP c__law_between (sCons (sCal (g1 kSum) (sCons (sFrz (sLc (sItems (sVar 0)) (bName 1) sYes (s2 (sVar 1) (sI 2) gIx) [1])) (sNil))) (sCons (sCallP c__law_total (sCons (sFrz (sLc (sItems (sVar 0)) (bName 1) sYes (s2 (sVar 1) (sI 1) gIx) [1])) (sNil))) (sNil)))))
theorem me__law_is_near : ∀ ws g Q, c__law_is_near ws g Q → t__law_is_near (endW Q) (startW N__law_is_near ws) ⟨g, []⟩ := by
  rintro ws g Q ⟨rows, rfl, ok, q⟩
  have l8 := ok.1
  refine ⟨len_mm (by omega), ?_⟩
  refine comp_flt (enc := ld) (f := ld) (fun (l : Ln) => !btw l.ct l.ex) (fun l => _) rows (fun l _ => rfl) (fun l hl Q' q' => ⟨_, rfl, _, rfl, _, rfl, l.ct, l.ex, rfl, (ok.2 l hl).1.mono (by decide), rfl, q'⟩) (fun l _ _ Q' q' => q') ?_
  refine ⟨by decide, ?_⟩
  refine gEq_ok (f := not) (h := ⟨g, []⟩) rfl rfl (plainL pd_ld) rfl ?_
  show (if (!PyData.eqv (.list _) (.list [])) = true then _ else _)
  rw [eqv_nilD, map_empty, none_all (p := fun (l : Ln) => btw l.ct l.ex)]
  unfold near at q
  dsimp only at q
  cases h : rows.all fun l => btw l.ct l.ex with
  | false =>
    rw [if_pos (by decide)]
    rw [h, Bool.false_and] at q
    exact q
  | true =>
    rw [if_neg (by decide)]
    rw [h, Bool.true_and] at q
    refine ⟨len_mm (by omega), ?_⟩
    refine comp_map (enc := ld) (f := fun (l : Ln) => .int l.ct) (fun l => _) rows [] (fun l _ => rfl) (fun l _ Q' q' => ⟨_, rfl, q'⟩) ?_
    refine ⟨rows.map fun (l : Ln) => l.ct, congrArg some (map_int (f := fun (l : Ln) => l.ct)), ?_⟩
    refine ⟨len_mm (by omega), ?_⟩
    refine comp_map (enc := ld) (f := fun (l : Ln) => qd l.ex) (fun l => _) rows [] (fun l _ => rfl) (fun l _ Q' q' => ⟨_, rfl, q'⟩) ?_
    have ex := ex_ok ok
    refine ⟨_, rfl, rows.map fun l => l.ex, by rw [List.map_map]; rfl, ex.1, by have := ex.2; omega, rfl, ?_⟩
    exact ⟨_, rfl, _, _, rfl, (bd_sum8 ex.1 ex.2).mono (by decide), rfl, q⟩
abbrev c__law_is_free : CW := cRows fun rows => .bool (free rows)
abbrev N__law_is_free : List Str := ["_law_here", "_law_ahead", "_law_behind", "_law_ended", "_law_some", "_law_value"]
def t__law_is_free : TSW := sUnp (sCallP c__law_scales (sCons (sVar 0) (sNil))) (bTup [1, 2, 3]) (sSet 4 (sFrz (sLst (sCons (sVar 1) (sCons (sVar 2) (sCons (sCallP c__law_plus (sCons (sVar 1) (sCons (sVar 3) (sNil)))) (sCons (sCallP c__law_minus (sCons (sVar 2) (sCons (sVar 3) (sNil)))) (sNil))))))) (sRet (sAndV (sCallP c__law_is_near (sCons (sVar 0) (sNil))) (s2 (sFrz (sLc (sItems (sVar 4)) (bName 5) (sNot (sB (sCallP c__law_less (sCons (sVar 5) (sCons (sTup (sCons (sI 1) (sCons (sI 1) (sNil)))) (sNil)))))) (sVar 5) [5])) (sFrz (sLst (sNil))) (gEq id)))))
theorem me__law_is_free : ∀ ws g Q, c__law_is_free ws g Q → t__law_is_free (endW Q) (startW N__law_is_free ws) ⟨g, []⟩ := by
  rintro ws g Q ⟨rows, rfl, ok, q⟩
  have ba := (bd_ahead ok).mono (show 500 ≤ 2000 by decide)
  have bb := (bd_behind ok).mono (show 500 ≤ 2000 by decide)
  have be := (bd_ended ok).mono (show 500 ≤ 2000 by decide)
  refine ⟨_, rfl, rows, rfl, ok, rfl, _, rfl, ?_⟩
  refine ⟨_, rfl, _, _, rfl, ba, be, rfl, ?_⟩
  refine ⟨_, rfl, _, _, rfl, bb, be, rfl, ?_⟩
  refine ⟨l4, ?_⟩
  refine ⟨_, rfl, rows, rfl, ok, rfl, ?_⟩
  unfold free at q
  dsimp only at q
  show (if near rows = true then _ else _)
  split
  · rename_i h
    rw [h, Bool.true_and] at q
    refine ⟨by show 4 ≤ 100000; decide, ?_⟩
    refine comp_flt (enc := qd) (f := qd) (fun r => !decide (r < 1)) (fun l => _) (four rows) (fun l _ => rfl) (fun r hr Q' q' => ⟨l2, _, rfl, r, 1, rfl, four_bd ok r hr, bd1, rfl, q'⟩) (fun l _ _ Q' q' => q') ?_
    refine ⟨by decide, ?_⟩
    refine gEq_ok (f := id) (h := ⟨g, []⟩) rfl rfl (plainL pd_qd) rfl ?_
    show Q (.dat (.bool (PyData.eqv (.list _) (.list [])))) g
    rw [eqv_nilD, map_empty, none_all]
    exact q
  · rename_i h
    rw [Bool.eq_false_iff.mpr h, Bool.false_and] at q
    exact q
end W4

/-! set([..]) of ints, sorted -/
namespace Cb
open PySem PySem.Spec PyProof.Rows L2
abbrev eset (w : World) : Obj := { cls := .type "set", dict := none, data := .set #[] 0 (.fresh 0 0 (!w.params.followText "set-order")) }
section
variable {P : Program} {w : World} {A : Around} {E : Value → Shared → Prop} {s : Shared}
/-- what stands behind set(xs), xs the ints ns -/
def Filled (w : World) (s : Shared) (ns : List Int) (s2 : Shared) : Prop := ∃ h' tk c, s2 = { s with heap := h', toks := tk } ∧ SetR w h' s.heap.objs.size (fun j => decide (j ∈ ns)) c ∧ c ≤ ns.length ∧ ∀ b o, s.heap.get? b = some o → h'.get? b = some o
theorem fill_walk {l : Addr} {items : Array Value} (ns : List Int) {R : Result → Shared → Prop} (hh : A.in1.handled = none) (hl : (s.heap.push (eset w)).IsList l items) (lt : l < s.heap.objs.size) (hit : IntsAre items.toList ns) (hb : ns.length + 1 < scanBound) (h : ∀ s2, Filled w s ns s2 → R (.ok (.ret .none)) s2) :
    codeAny (model P w) A (.builtin "set.update.loop" ⟨[.ref s.heap.objs.size, .ref (s.heap.push (eset w)).objs.size], []⟩) R { s with heap := (s.heap.push (eset w)).push { cls := .type "list_iterator", data := .fields #[.ref l, .int 0 0] } } := by
  have z : (s.heap.push (eset w)).objs.size = s.heap.objs.size + 1 := Heap.size_push ..
  have hn : items.size = ns.length := by
    have q := IntsAre.length hit
    rw [Array.length_toList] at q
    exact q
  have off : s.heap.objs.size ∉ [(s.heap.push (eset w)).objs.size, l] := by
    rw [z]
    intro m
    rcases List.mem_cons.mp m with e | m
    · exact absurd e (Nat.ne_of_lt (Nat.lt_succ_self _))
    · exact absurd (List.mem_singleton.mp m) (Nat.ne_of_gt lt)
  refine set_update_ints ((Walks.list hh (s.heap.push (eset w)).objs.size l (by rw [z]; exact Nat.ne_of_lt (Nat.lt_succ_of_lt lt)) items).toS) s.heap.objs.size off ns hn hb (fun i v hv => ?_) (items.size - 0) 0 _ (by omega) (Nat.zero_le _) ⟨⟨_, Heap.get?_push_size _ rfl, rfl, rfl⟩, hl.push _⟩ ⟨0, Nat.le_refl 0, setR_new_at (Heap.get?_push_of_some _ (Heap.get?_push_size _ rfl))⟩ fun s' c hm hc hS => ?_
  · have hi : i < ns.length := by
      rw [← hn]
      exact (Array.getElem?_eq_some_iff.mp hv).1
    obtain ⟨t, e⟩ := IntsAre.int_at hit i v (by rw [Array.getElem?_toList]; exact hv)
    refine ⟨ns[i], t, List.getElem?_eq_getElem hi, ?_⟩
    rw [e, List.getD_eq_getElem?_getD, List.getElem?_eq_getElem hi]
    rfl
  · obtain ⟨h', g2, d', tk', os'⟩ := s'
    obtain rfl : g2 = s.gens := hm.gens
    obtain rfl : d' = s.drawn := hm.drawn
    obtain rfl : os' = s.os := hm.os
    refine h _ ⟨h', tk', c, rfl, hS, by omega, fun b o e => hm.heap b o (fun m => ?_) (Heap.get?_push_of_some _ (Heap.get?_push_of_some _ e))⟩
    have lb := Heap.lt_size e
    rcases List.mem_cons.mp m with q | m
    · exact absurd q (Nat.ne_of_lt lb)
    · exact absurd ((List.mem_singleton.mp m).trans z) (Nat.ne_of_lt (Nat.lt_succ_of_lt lb))
set_option maxHeartbeats 8000000 in
theorem call_setL {l : Addr} {items : Array Value} (ns : List Int) {Q : Value → Shared → Prop} (hh : A.handled = none) (hl : s.heap.IsList l items) (hit : IntsAre items.toList ns) (hb : ns.length + 1 < scanBound) (h : ∀ s2, Filled w s ns s2 → Q (.ref s.heap.objs.size) s2) : wpAny (model P w) A (call (.type "set") [.ref l]) Q E s := by
  obtain ⟨c, tl, hmro⟩ := F.called_set.mro
  have k1 := F.called_set.made
  have k2 := F.called_set.sub
  refine wpAny_call (codeAny_of_tree ?_)
  show wpAny _ _ (callAny (.type "set") _) _ _ _
  refine wpAny_pure ⟨Code.quiet_builtin _ (by decide +kernel), codeAny_builtin F.entry_type_call ?_⟩
  rw [Around.under_plain (weight_type_call_type "set" [.ref l] []) rfl]
  have k3 := F.called_set.notType
  have k4 := F.called_set.canCreate
  have k5 := F.typeCall_set_1 (.ref l)
  repeat (any_goals (first | assumption | wp_step))
  refine codeAny_mono (code_set_led1 (.ref l) (E := E) (Q₁ := fun obj s₁ => obj = .ref s.heap.objs.size ∧ s₁ = { s with heap := s.heap.push (eset w) }) ⟨rfl, rfl⟩) fun r s₁ hr => ?_
  rcases r with e | fl
  · exact hr
  match fl, hr with
  | .ret obj, hr =>
    obtain ⟨rfl, rfl⟩ := hr
    have at0 : (s.heap.push (eset w)).get? s.heap.objs.size = some (eset w) := Heap.get?_push_size _ rfl
    have ty0 : Shared.TypeIs { s with heap := s.heap.push (eset w) } (.ref s.heap.objs.size) "set" := ⟨_, at0, rfl⟩
    have k6 := F.called_set.init.lookup
    have k7 := F.called_set.init.bind (.ref s.heap.objs.size)
    repeat (any_goals (first | assumption | wp_step))
    refine codeAny_mono (codeAny_call_builtin (R := wants (fun r s₂ => r = .none ∧ Filled w s ns s₂) E) F.called_set.init.plain F.entry_set_init (check_set_init_1 ty0 ?_)) fun r₂ s₂ hr₂ => ?_
    · obtain ⟨⟨ocls, odict, odata, oslots⟩, hol, hcl, nl, hdl⟩ := hl
      simp only at hcl hdl
      subst hcl hdl
      have ho : (s.heap.push (eset w)).get? l = some { cls := .type "list", dict := odict, data := .seq items nl, slots := oslots } := Heap.get?_push_of_some _ hol
      have n1 := F.sub_list_set
      have n2 := F.sub_list_frozenset
      have n3 : (Value.type "list" == Value.type "dict") = false := by decide
      have il : (s.heap.push (eset w)).IsList l items := ⟨_, ho, rfl, nl, rfl⟩
      unfold Builtin.«set.__init__» noKeywords Builtin.Frozenset.updateFrom
      generalize hPI : pyIter = PI
      wp_walk
      subst hPI
      refine wpAny_pyIter_list il ?_
      refine wpAny_bind (wpAny_runValue ?_)
      refine fill_walk ns (by simp [hh]) il (Heap.lt_size hol) hit hb fun s2 f => ?_
      show wpAny _ _ _ _ _ _
      refine wpAny_pure ?_
      show wpAny _ _ (ret Value.none) _ _ _
      exact wpAny_pure ⟨rfl, f⟩
    · rcases r₂ with e | fl2
      · exact hr₂
      match fl2, hr₂ with
      | .ret r, hr₂ =>
        obtain ⟨rfl, f⟩ := hr₂
        repeat (any_goals (first | assumption | wp_step))
        exact h _ f
end
/-! over the layer -/
section
variable {X : Cx} {e a b c : Expr} {es : List Expr} {σ : L2.St} {H H' : Hp} {p p' q q' : Pos}
def rSetL (X : Cx) : List V → Hp → VK → Prop := fun vs H Q => ∃ (l : Addr) (ns : List Int), vs = [.ref l] ∧ SqL X.K H l (ns.map V.int) ∧ ns.length ≤ 60 ∧ ∀ c p, c ≤ ns.length → H p = none → Q (.ref p) (upd H p (SetO X.w p (fun j => decide (j ∈ ns)) c))
theorem cr_setL (hc : X.calm = true) : CallR X (.type "set") (rSetL X) := by
  intro pins s σ H xs us Q I r h
  obtain ⟨l, ns, rfl, hq, hl, q⟩ := h
  rw [Vals.ref1 r]
  obtain ⟨its, rv, pl, hz⟩ := I.list hq
  refine call_setL ns (I.ok.hd hc) pl.isList (by simpa using RZ.intsAre_vals rv) (by unfold scanBound; omega) fun s2 ⟨h', tk, c, e, R, hc2, kp⟩ => ?_
  subst e
  exact ⟨.ref _, upd H s.heap.objs.size (SetO X.w s.heap.objs.size (fun j => decide (j ∈ ns)) c), I.laid (t' := tk) kp (Nat.le_refl _) (setO_new R), rfl, q c _ hc2 (I.hok.fresh (Nat.le_refl _))⟩
theorem rising_two {a b : Int} (h : a ≤ b) {l : List Int} (s : l.Pairwise (· < ·)) (m : ∀ k, k ∈ l ↔ k = a ∨ k = b) : l = if a = b then [a] else [a, b] := by
  have nd : l.Nodup := s.imp fun h => Int.ne_of_lt h
  have key : ∀ r : List Int, r.Pairwise (· < ·) → (∀ k, k ∈ r ↔ k = a ∨ k = b) → l = r := fun r sr mr => by
    have p : l.Perm r := (List.perm_ext_iff_of_nodup nd (sr.imp fun h => Int.ne_of_lt h)).mpr fun k => (m k).trans (mr k).symm
    exact p.eq_of_pairwise (fun x y _ _ h1 h2 => Int.le_antisymm h1 h2) (s.imp Int.le_of_lt) (sr.imp Int.le_of_lt)
  by_cases e : a = b
  · subst e
    rw [if_pos rfl]
    exact key [a] (List.pairwise_singleton ..) fun k => by simp
  · rw [if_neg e]
    exact key [a, b] (by simp; omega) fun k => by simp
end
end Cb

/-! sorted(set([a, b])); all choices; states with other cents -/
namespace Wl
open PySem PySem.Spec PyProof.Rows L2 Cb
section
variable {X : Cx} {a b : Expr} {ta tb : TW} {pos q q' p p' : Pos}
def sSort2 (ta tb : TW) : TLW := fun σ h Q => ta σ h (asI fun i h1 => tb σ h1 (asI fun j h2 => i ≤ j ∧ Q ((if i = j then [i] else [i, j]).map .int) h2))
theorem RDs.ofInts {K : PySem.W.Frag} {F : Addr → Prop} {H : Hp} : ∀ ns : List Int, RDs K F H (ns.map .int) (ns.map V.int)
  | [] => .nil
  | n :: ns => .cons (.int n) (RDs.ofInts ns)
theorem trl_sort2 (hc : X.calm = true) (hs : X.mg "sorted" = none) (ht : X.mg "set" = none) (ha : TrE X a ta) (hb : TrE X b tb) (hg : Gl X "sorted" := by rfl) (hg' : Gl X "set" := by rfl)
    (h1 : starEach [a, b] X.env = (false, eval a X.env) :: starEach [b] X.env := by rfl) (h2 : starEach [b] X.env = (false, eval b X.env) :: starEach [] X.env := by rfl) (h3 : starEach [.List [a, b] q'] X.env = (false, eval (.List [a, b] q') X.env) :: starEach [] X.env := by rfl) (h4 : starEach [.Call (.Name "set" q) [.List [a, b] q'] [] p'] X.env = (false, eval (.Call (.Name "set" q) [.List [a, b] q'] [] p') X.env) :: starEach [] X.env := by rfl)
    (l1 : (backTo p' (starEach [] X.env)).any (·.1) = false := by rfl) (l2 : (backTo p (starEach [] X.env)).any (·.1) = false := by rfl) : TrL X (.Call (.Name "sorted" pos) [.Call (.Name "set" q) [.List [a, b] q'] [] p'] [] p) (sSort2 ta tb) := ⟨fun {σ h Q A H τ} ht0 wr rs =>
  w_E (pe_callB (cr_sortedSet hc) hg hs (by decide +kernel) (pa_cons (pe_callTy (cr_setL hc) hg' ht (by decide +kernel) (pa_cons (pe_lst (pa_cons pw_E (pa_cons pw_E pa_nil h2) h1)) pa_nil h3) (he := h3) (hpl := l1)) pa_nil h4) (he := h4) (hpl := l2))
    (ha.bind ht0 wr rs fun v H1 B h1 x e1 w1 r1 rs1 q1 => by
      obtain ⟨i, rfl, q1⟩ := q1.out
      obtain rfl := ru_int r1
      exact hb.bind q1 w1 rs1 fun v2 H2 B2 h2 x2 e2 w2 r2 rs2 q2 => by
        obtain ⟨j, rfl, hij, q2⟩ := q2.out
        obtain rfl := ru_int r2
        refine ⟨by show 2 ≤ sizeLine; decide, fun S hS => ⟨S, [i, j], rfl, .of upd_same, by show 2 ≤ 60; decide, fun c p hc hp => ⟨p, _, c, rfl, upd_same, by have : c ≤ 2 := hc; omega, fun ns T rs mem hl hT => ?_⟩⟩⟩
        have e := rising_two hij rs fun k => (mem k).trans (by simp)
        subst e
        have s1 : Same H2 (upd H2 S (.lst [.int i, .int j])) := same_new hS
        have s2 : Same (upd H2 S (.lst [.int i, .int j])) _ := same_new (o := SetO X.w p (fun j_1 => decide (j_1 ∈ [i, j])) c) hp
        have s3 := s1.trans s2
        exact ⟨_, _, _, T, _, rfl, newL_upd ((e1.trans e2).trans (.same s3)) (w2.same s3) hT (RDs.ofInts _), q2⟩)⟩
end
end Wl
namespace W4
open PySem PySem.Spec PyProof.Rows L2 Cb Wl Wg
def intsL (ns : List Int) : PyData := .list (ns.map .int)
def c__law_choices : CW := fun ws g Q => ∃ nss : List (List Int), ws = [.dat (.list (nss.map intsL))] ∧ nss.length ≤ 8 ∧ (∀ ns ∈ nss, ns.length ≤ 2) ∧ Q (.dat (.list ((chooseL nss).map rowI))) g
abbrev N__law_choices : List Str := ["_law_rows", "_law_found", "_law_row", "_law_longer", "_law_some", "_law_value"]
abbrev b2__law_choices : TSW := (sExpr (sOwnM 3 fExt (sCons (sFrz (sLc (sItems (sVar 2)) (bName 5) sYes (s2 (sVar 4) (sTup (sCons (sVar 5) (sNil))) gAdd) [5])) (sNil))) (sEnd))
abbrev b__law_choices : TSW := (sSet 3 (sOwn (sLst (sNil))) (sFor (sItems (sVar 1)) (bName 4) b2__law_choices (sSet 1 (sVarF 3) (sEnd))))
def t__law_choices : TSW := sSet 1 (sFrz (sLst (sCons (sTup (sNil)) (sNil)))) (sFor (sItems (sVar 0)) (bName 2) b__law_choices (sRet (sVar 1)))
theorem snoc_last {l : List Ob} {x : Ob} : (l ++ [x])[l.length]? = some x := by simp
theorem snoc_set {l : List Ob} {x y : Ob} : (l ++ [x]).set l.length y = l ++ [y] := by simp
theorem varF_ok {i k : Nat} {σ : Sw} {h : Hw} {ds : List PyData} {Q : QU} (e : σ[i]? = some (some (.l k))) (eo : h.l[k]? = some (.lsd ds)) (q : Q (.v (.dat (.list ds))) (h.kill k)) : sVarF i σ h Q := by
  unfold sVarF
  rw [e]
  dsimp only
  rw [eo]
  exact q
theorem me__law_choices : ∀ ws g Q, c__law_choices ws g Q → t__law_choices (endW Q) (startW N__law_choices ws) ⟨g, []⟩ := by
  rintro ws g Q ⟨nss, rfl, h8, h2, q⟩
  have inner : ∀ (D : EnW) (row : List Int) (x1 x5 : Option U) (rest : List Ob), row.length ≤ 2 → ∀ (ss accs : List (List Int)) (x4 x5 : Option U), (∀ s ∈ ss, s.length ≤ 8) → accs.length + 2 * ss.length ≤ 1000 → (∀ y4 y5, D.nx [some (.v (.dat (.list (nss.map intsL)))), x1, some (.v (.dat (intsL row))), some (.l rest.length), y4, y5] ⟨g, rest ++ [.lsd ((accs ++ longer ss row).map rowI)]⟩) →
      forR (bName 4) b2__law_choices ((ss.map rowI).map .dat) D [some (.v (.dat (.list (nss.map intsL)))), x1, some (.v (.dat (intsL row))), some (.l rest.length), x4, x5] ⟨g, rest ++ [.lsd (accs.map rowI)]⟩ := by
    intro D row x1 _ rest hr ss
    induction ss with
    | nil =>
      intro accs x4 x5 _ _ k
      have := k x4 x5
      rw [show longer [] row = [] from rfl, List.append_nil] at this
      exact this
    | cons s ss ih =>
      intro accs x4 x5 hs hl k
      rw [List.length_cons] at hl
      have s8 := hs s List.mem_cons_self
      refine ⟨_, rfl, ?_⟩
      show sOwnM 3 fExt _ _ _ _
      refine ownM_in (k := rest.length) (ds := accs.map rowI) rfl snoc_last ?_
      refine ⟨len_mm (by omega), ?_⟩
      refine comp_map (enc := .int) (f := fun v => rowI (s ++ [v])) (fun v => _) row [] (fun v _ => rfl) (fun v _ Q' q' => ?_) ?_
      · refine ⟨l1, ?_, ?_⟩
        · show List.length _ + 1 ≤ 100000
          rw [List.length_map]
          omega
        · unfold rowI at q'
          rw [List.map_append] at q'
          exact q'
      · dsimp only [sNil]
        refine ownK_ok (h1 := ⟨g, rest ++ [.lsd (accs.map rowI)]⟩) (ds := accs.map rowI) snoc_last ?_
        refine ⟨?_, ?_⟩
        · show List.length (accs.map rowI) + List.length ([] ++ row.map fun v => rowI (s ++ [v])) ≤ 1000000
          rw [List.length_map, List.nil_append, List.length_map]
          omega
        show forR (bName 4) b2__law_choices ((ss.map rowI).map .dat) D _ ⟨g, (rest ++ [Ob.lsd (accs.map rowI)]).set rest.length (Ob.lsd (accs.map rowI ++ ([] ++ row.map fun v => rowI (s ++ [v]))))⟩
        rw [snoc_set, List.nil_append]
        have e : accs.map rowI ++ (row.map fun v => rowI (s ++ [v])) = (accs ++ row.map fun v => s ++ [v]).map rowI := by
          rw [List.map_append, List.map_map]
          rfl
        rw [e]
        refine ih (accs ++ row.map fun v => s ++ [v]) _ _ (fun s hs' => hs s (List.mem_cons_of_mem _ hs')) (by rw [List.length_append, List.length_map]; omega) fun y4 y5 => ?_
        have := k y4 y5
        rw [show longer (s :: ss) row = (row.map fun v => s ++ [v]) ++ longer ss row from List.flatMap_cons, ← List.append_assoc] at this
        exact this
  have loop : ∀ (ls done : List (List Int)) (x2 x3 x4 x5 : Option U) (rest : List Ob), nss = done ++ ls → forR (bName 2) b__law_choices ((ls.map intsL).map .dat) { (endW Q) with nx := sRet (sVar 1) (endW Q) } [some (.v (.dat (.list (nss.map intsL)))), some (.v (.dat (.list ((chooseL done).map rowI)))), x2, x3, x4, x5] ⟨g, rest⟩ := by
    intro ls
    induction ls with
    | nil =>
      intro done x2 x3 x4 x5 rest e
      rw [List.append_nil] at e
      subst e
      exact q
    | cons row ls ih =>
      intro done x2 x3 x4 x5 rest e
      have hr : row.length ≤ 2 := h2 row (by rw [e]; exact List.mem_append_right _ List.mem_cons_self)
      have d8 : done.length ≤ 8 := by
        rw [e, List.length_append] at h8
        omega
      have dl : (chooseL done).length ≤ 256 := Nat.le_trans (choose_len done.length done rfl fun ns hn => h2 ns (by rw [e]; exact List.mem_append_left _ hn)) (Nat.pow_le_pow_right (by decide) d8)
      refine ⟨_, rfl, ?_⟩
      refine ⟨by decide, ?_⟩
      refine inner _ row _ none rest hr (chooseL done) [] _ _ (fun s hs => by rw [choose_el done.length done rfl s hs]; exact d8) (by show 0 + _ ≤ 1000; omega) fun y4 y5 => ?_
      dsimp only [sSet]
      refine varF_ok (i := 3) (σ := [some (.v (.dat (.list (nss.map intsL)))), some (.v (.dat (.list ((chooseL done).map rowI)))), some (.v (.dat (intsL row))), some (.l rest.length), y4, y5]) (k := rest.length) (h := ⟨g, rest ++ [.lsd (([] ++ longer (chooseL done) row).map rowI)]⟩) rfl snoc_last ?_
      show forR (bName 2) b__law_choices ((ls.map intsL).map .dat) _ _ ⟨g, (rest ++ [_]).set rest.length .gone⟩
      rw [snoc_set, List.nil_append]
      have := ih (done ++ [row]) (some (.v (.dat (intsL row)))) (some (.l rest.length)) y4 y5 (rest ++ [.gone]) (by rw [e, List.append_assoc]; rfl)
      rw [choose_snoc] at this
      exact this
  exact ⟨by decide, by decide, loop nss [] none none none none [] rfl⟩
def c__law_round_ways : CW := fun ws g Q => ∃ rs : List Rat, ws = [.dat (.list (rs.map qd))] ∧ rs.length ≤ 8 ∧ (∀ r ∈ rs, Bd 2000 r) ∧ Q (.dat (.list ((chooseL (rs.map ways1)).map rowI))) g
abbrev N__law_round_ways : List Str := ["_law_values", "_law_value"]
def t__law_round_ways : TSW := sRet (sCallP c__law_choices (sCons (sFrz (sLc (sItems (sVar 0)) (bName 1) sYes (sFrz (sSort2 (sCallP c__law_down (sCons (sVar 1) (sNil))) (sCallP c__law_up (sCons (sVar 1) (sNil))))) [1])) (sNil)))
theorem me__law_round_ways : ∀ ws g Q, c__law_round_ways ws g Q → t__law_round_ways (endW Q) (startW N__law_round_ways ws) ⟨g, []⟩ := by
  rintro ws g Q ⟨rs, rfl, h8, hb, q⟩
  refine ⟨len_mm (by omega), ?_⟩
  refine comp_map (enc := qd) (f := fun r => intsL (ways1 r)) (fun r => _) rs [] (fun r _ => rfl) (fun r hr Q' q' => ⟨_, rfl, r, rfl, hb r hr, rfl, _, rfl, r, rfl, hb r hr, rfl, dn_le r, q'⟩) ?_
  refine ⟨_, rfl, rs.map ways1, by rw [List.map_map]; rfl, by rw [List.length_map]; exact h8, fun ns hn => ?_, rfl, q⟩
  obtain ⟨r, _, rfl⟩ := List.mem_map.mp hn
  exact ways1_len r
/-! ### states with other cents -/
def nil0 : Ln := ⟨Str.empty, 0, 0, true⟩
def wc (rows : List Ln) (ns : List Int) (k : Nat) : Ln := ⟨(rows.getD k nil0).nm, (rows.getD k nil0).ex, ns.getD k 0, (rows.getD k nil0).on⟩
theorem wc_all {rows : List Ln} {ns : List Int} (h : ns.length = rows.length) : (List.range rows.length).map (wc rows ns) = zipC rows ns := by
  refine List.ext_getElem? fun i => ?_
  by_cases hi : i < rows.length
  · rw [List.getElem?_map, List.getElem?_range hi]
    unfold zipC
    rw [List.getElem?_zipWith, List.getElem?_eq_getElem hi, List.getElem?_eq_getElem (show i < ns.length by omega)]
    show some (wc rows ns i) = some _
    unfold wc
    rw [List.getD_eq_getElem?_getD, List.getD_eq_getElem?_getD, List.getElem?_eq_getElem hi, List.getElem?_eq_getElem (show i < ns.length by omega)]
    rfl
  · rw [List.getElem?_eq_none (by rw [List.length_map, List.length_range]; omega), List.getElem?_eq_none (by rw [zipC_len h]; omega)]
def Cnt (ns : List Int) (d : PyData) : Prop := d = rowI ns ∨ d = intsL ns
def c__law_with_counts : CW := fun ws g Q => ∃ (rows : List Ln) (ns : List Int) (d : PyData), ws = [.dat (rowsD rows), .dat d] ∧ Cnt ns d ∧ ns.length = rows.length ∧ rows.length ≤ 20 ∧ Q (.dat (rowsD (zipC rows ns))) g
abbrev N__law_with_counts : List Str := ["_law_here", "_law_counts", "_law_k"]
def t__law_with_counts : TSW := sRet (sCal (g1 kTup) (sCons (sFrz (sLc (sRng1 (sCons (sCal (g1 kLen) (sCons (sVar 0) (sNil))) (sNil))) (bName 2) sYes (s2 (sSlT (s2 (sVar 0) (sVar 2) gIx) (sNoP) (sPart (sI 2))) (sTup (sCons (s2 (sVar 1) (sVar 2) gIx) (sCons (s2 (s2 (sVar 0) (sVar 2) gIx) (sI 3) gIx) (sNil)))) gAdd) [2])) (sNil)))
theorem me__law_with_counts : ∀ ws g Q, c__law_with_counts ws g Q → t__law_with_counts (endW Q) (startW N__law_with_counts ws) ⟨g, []⟩ := by
  rintro ws g Q ⟨rows, ns, d, rfl, hd, hl, h20, q⟩
  show -(2 ^ 62) ≤ (((rows.map ld).length : Nat) : Int) ∧ (((rows.map ld).length : Nat) : Int) < 2 ^ 62 ∧ (rangeW 0 ((((rows.map ld).length : Nat) : Int)).toNat).length ≤ 100000 ∧ compR _ _ _ (rangeW 0 ((((rows.map ld).length : Nat) : Int)).toNat) _ _ _ _
  rw [List.length_map, rangeW_nat]
  refine ⟨by omega, by omega, by rw [List.length_map, List.length_map, List.length_range]; omega, ?_⟩
  refine comp_map (enc := natD) (f := fun k => ld (wc rows ns k)) (fun k => _) (List.range rows.length) [] (fun k _ => rfl) (fun k hk Q' q' => ?_) ?_
  · have hk : k < rows.length := List.mem_range.mp hk
    have a1 : L2.atI (rows.map ld) ((k : Nat) : Int) = some (ld (rows.getD k nil0)) := atI_nat (at_map nil0 hk)
    have a2 : L2.atI (ns.map PyData.int) ((k : Nat) : Int) = some (.int (ns.getD k 0)) := atI_nat (at_map 0 (by omega))
    rcases hd with rfl | rfl
    · exact ⟨_, a1, _, a2, _, a1, _, rfl, l2, by show 2 + 2 ≤ 100000; decide, q'⟩
    · exact ⟨_, a1, _, a2, _, a1, _, rfl, l2, by show 2 + 2 ≤ 100000; decide, q'⟩
  · show Q (.dat (.tuple ([] ++ (List.range rows.length).map fun k => ld (wc rows ns k)))) g
    rw [List.nil_append, show (List.range rows.length).map (fun k => ld (wc rows ns k)) = (zipC rows ns).map ld by rw [← wc_all hl, List.map_map]; rfl]
    exact q
abbrev c__law_open_ways : CW := cRows fun rows => .list ((openL rows).map rowsD)
abbrev N__law_open_ways : List Str := ["_law_here", "_law_ways", "_law_way", "_law_row", "_law_one"]
def t__law_open_ways : TSW := sSetLF 1 (sLc (sItems (sCallP c__law_round_ways (sCons (sFrz (sLc (sItems (sVar 0)) (bName 3) sYes (s2 (sVar 3) (sI 1) gIx) [3])) (sNil)))) (bName 2) sYes (sCallP c__law_with_counts (sCons (sVar 0) (sCons (sVar 2) (sNil)))) [2]) (sRet (sFrz (sLc (sItems (sVar 1)) (bName 4) (sB (sCallP c__law_is_free (sCons (sVar 4) (sNil)))) (sVar 4) [4])))
theorem me__law_open_ways : ∀ ws g Q, c__law_open_ways ws g Q → t__law_open_ways (endW Q) (startW N__law_open_ways ws) ⟨g, []⟩ := by
  rintro ws g Q ⟨rows, rfl, ok, q⟩
  have l8 := ok.1
  have wl := waysL_len l8
  refine ⟨len_mm (by omega), ?_⟩
  refine comp_map (enc := ld) (f := fun (l : Ln) => qd l.ex) (fun l => _) rows [] (fun l _ => rfl) (fun l _ Q' q' => ⟨_, rfl, q'⟩) ?_
  refine ⟨_, rfl, rows.map fun (l : Ln) => l.ex, by rw [List.map_map]; rfl, by rw [List.length_map]; exact l8, fun r hr => ?_, rfl, ?_⟩
  · exact ((ex_ok ok).1 r hr).mono (by decide)
  have ew : (rows.map fun (l : Ln) => l.ex).map ways1 = rows.map fun l => ways1 l.ex := by rw [List.map_map]; rfl
  rw [ew]
  refine ⟨len_mm (by show (waysL rows).length ≤ _; omega), ?_⟩
  refine comp_map (enc := rowI) (f := fun c => rowsD (zipC rows c)) (fun c => _) (waysL rows) [] (fun c _ => rfl) (fun c hc Q' q' => ⟨_, rfl, rows, c, _, rfl, .inl rfl, waysL_el c hc, by omega, rfl, q'⟩) ?_
  rw [List.nil_append]
  refine ⟨by show (List.map W.dat ((waysL rows).map _)).length ≤ 100000; rw [List.length_map, List.length_map]; omega, ?_⟩
  refine comp_flt (enc := fun c => rowsD (zipC rows c)) (f := fun c => rowsD (zipC rows c)) (fun c => free (zipC rows c)) (fun c => _) (waysL rows) (fun c _ => rfl) (fun c hc Q' q' => ⟨_, rfl, _, rfl, rowsK_zip ok hc, rfl, q'⟩) (fun c _ _ Q' q' => q') ?_
  have e : ((waysL rows).filter fun c => free (zipC rows c)).map (fun c => rowsD (zipC rows c)) = (openL rows).map rowsD := by
    unfold openL
    rw [List.filter_map, List.map_map]
    rfl
  rw [e]
  exact q
/-! ### how far a state is from another -/
def distL (s t : List Ln) : Int := ((List.range s.length).map fun k => absI ((s.getD k nil0).ct - (t.getD k nil0).ct)).sum
def c__law_distance : CW := fun ws g Q => ∃ s t : List Ln, ws = [.dat (rowsD s), .dat (rowsD t)] ∧ s.length = t.length ∧ s.length ≤ 20 ∧ Q (.dat (.int (distL s t))) g
abbrev N__law_distance : List Str := ["_law_here", "_law_other", "_law_k"]
def t__law_distance : TSW := sRet (sCal (g1 kSum) (sCons (sFrz (sLc (sRng1 (sCons (sCal (g1 kLen) (sCons (sVar 0) (sNil))) (sNil))) (bName 2) sYes (sCal (g1 kAbs) (sCons (s2 (s2 (s2 (sVar 0) (sVar 2) gIx) (sI 2) gIx) (s2 (s2 (sVar 1) (sVar 2) gIx) (sI 2) gIx) gSub) (sNil))) [2])) (sNil)))
theorem me__law_distance : ∀ ws g Q, c__law_distance ws g Q → t__law_distance (endW Q) (startW N__law_distance ws) ⟨g, []⟩ := by
  rintro ws g Q ⟨s, t, rfl, hl, h20, q⟩
  show -(2 ^ 62) ≤ (((s.map ld).length : Nat) : Int) ∧ (((s.map ld).length : Nat) : Int) < 2 ^ 62 ∧ (rangeW 0 ((((s.map ld).length : Nat) : Int)).toNat).length ≤ 100000 ∧ compR _ _ _ (rangeW 0 ((((s.map ld).length : Nat) : Int)).toNat) _ _ _ _
  rw [List.length_map, rangeW_nat]
  refine ⟨by omega, by omega, by rw [List.length_map, List.length_map, List.length_range]; omega, ?_⟩
  refine comp_map (enc := natD) (f := fun k => .int (absI ((s.getD k nil0).ct - (t.getD k nil0).ct))) (fun k => _) (List.range s.length) [] (fun k _ => rfl) (fun k hk Q' q' => ?_) ?_
  · have hk : k < s.length := List.mem_range.mp hk
    exact ⟨_, atI_nat (at_map nil0 hk), _, rfl, _, atI_nat (at_map nil0 (by omega)), _, rfl, q'⟩
  · exact ⟨_, congrArg some (map_int (f := fun k => absI ((s.getD k nil0).ct - (t.getD k nil0).ct))), q⟩
end W4

/-! a def that walks a generator def: what its bridge uses -/
namespace Wg
open PySem PySem.Spec PyProof.Rows L2 Cb Wl
structure LY (P : Program) (w : World) (K : PySem.W.Frag) (mg : Str → Option Value) (base : Heap) (x : Str) (k : Nat) (N ps : List Str) (c : GCW) : Prop where
  ex : ∃ (f : Addr) (fd : FuncData), GY P w K mg base k f fd N ps c ∧ mg x = some (.ref f) ∧ PySem.W.keepIn K (.ref f) = true ∧ Binds K fd ps []
theorem frs_own {qual : Str} {scope : Scope} {L f : Addr} {cdv : Value} {outer : List Env} : (envOfC qual scope L f cdv).locals ∈ frs (envOfC qual scope L f cdv :: outer) := List.mem_cons_self
theorem frs_out {qual : Str} {scope : Scope} {L f : Addr} {cdv : Value} {outer : List Env} : ∀ b ∈ frs outer, b ∈ frs (envOfC qual scope L f cdv :: outer) := fun _ h => List.mem_cons_of_mem _ h
section
variable {P : Program} {w : World} {K : PySem.W.Frag} {mg : Str → Option Value} {base : Heap} {N0 : List Str} {qual : Str} {scope : Scope} {f0 : Addr} {cdv : Value} {A0 : Around} {outer : List Env} {s : Shared} {H : Hp} {E : XK}
  {tg e : Expr} {es : List Expr} {body sts : List Stmt} {gg : TG} {vs : List Nat} {b : BW} {tb tk : TSW} {tas : TAW} {c : GCW} {k n : Nat} {N ps : List Str} {x : Str} {p p' pos : Pos}
abbrev dx (P : Program) (w : World) (K : PySem.W.Frag) (mg : Str → Option Value) (base : Heap) (N0 : List Str) (qual : Str) (scope : Scope) (f0 : Addr) (cdv : Value) (A0 : Around) (outer : List Env) (s : Shared) (H : Hp) (E : XK) : Cx := (cxOf CX0 P w K mg base N0 qual scope f0 cdv A0 outer s H E).nox
theorem trb_forY (L : LY P w K mg base x k N ps c) (hr : Room n (dx P w K mg base N0 qual scope f0 cdv A0 outer s H E).A) (l : k + 1 ≤ n)
    (ha : TrA (dx P w K mg base N0 qual scope f0 cdv A0 outer s H E) (e :: es) tas) (hg : PG (dx P w K mg base N0 qual scope f0 cdv A0 outer s H E) tg gg) (hgw : TrG K gg vs b) (hb : TrB (dx P w K mg base N0 qual scope f0 cdv A0 outer s H E) body tb) (hk : TrB (dx P w K mg base N0 qual scope f0 cdv A0 outer s H E) sts tk)
    (hgl : Gl (dx P w K mg base N0 qual scope f0 cdv A0 outer s H E) x := by rfl) (hdb : (x == ("__debug__" : Str)) = false := by decide)
    (he : starEach (e :: es) (dx P w K mg base N0 qual scope f0 cdv A0 outer s H E).env = (false, eval e (dx P w K mg base N0 qual scope f0 cdv A0 outer s H E).env) :: starEach es (dx P w K mg base N0 qual scope f0 cdv A0 outer s H E).env := by rfl)
    (hpl : (backTo p' (starEach es (dx P w K mg base N0 qual scope f0 cdv A0 outer s H E).env)).any (·.1) = false := by rfl) (hs : ∀ y : Value, foldedSetIterable (.Call (.Name x p) (e :: es) [] p') (dx P w K mg base N0 qual scope f0 cdv A0 outer s H E).env y = pure y := by intro _; rfl) :
    TrB (dx P w K mg base N0 qual scope f0 cdv A0 outer s H E) (.For tg (.Call (.Name x p) (e :: es) [] p') body [] pos :: sts) (sForG c tas b tb tk) := by
  obtain ⟨f, fd, gy, m, kp, bs⟩ := L.ex
  exact trb_forG (X := dx P w K mg base N0 qual scope f0 cdv A0 outer s H E) gy (hr.mono l) m kp bs (fun _ _ h => h) frs_own frs_out ha hg hgw hb hk hgl hdb he hpl hs hr.hd
end
end Wg

/-! the bridge of a generator def -/
namespace Wg
open PySem PySem.Spec PyProof.Rows L2 Cb Wl
section
variable {P : Program} {w : World} {K : PySem.W.Frag} {mg : Str → Option Value} {base : Heap} {x qual : Str} {st : Stmt} {f : Addr} {fd : FuncData} {N ps : List Str} {c : GCW} {k : Nat} {t : (Nat → W → Prop) → Nat → TYW}
theorem gy_mk (F : Fun K x qual st f fd) (S : GScope N ps (defScope st)) (nc : ∀ (cdv : Value) (L : Addr) (x : Str), (envOfC qual (defScope st) L f cdv).cells.lookup x = none) (len : ∀ ws R, c ws R → ws.length = ps.length)
    (me : ∀ ws R, c ws R → ∃ os, R os ∧ ∀ it M, it = (fun i w => os[i]? = some w) → M = os.length → t it M { nx := fun i _ => i = os.length, rt := fun i => i = os.length } 0 (startW N ws))
    (hb : ∀ (cdv : Value) (Aw : Around) (outer : List Env) (s : Shared) (H : Hp) (a : Addr) (go : Obj) (G : Con), Room k Aw → ConOk G → G.X0 = (gx P w K mg base N qual (defScope st) f cdv Aw outer s H a go).nox → TYs G (defBody st) (t G.it G.N)) : GY P w K mg base k f fd N ps c := by
  obtain ⟨oc, od, kV, doc, pm, an, cdv, ct, osl, rfl, lk, hcd⟩ := F.ex
  refine ⟨x, qual, _, _, _, _, kV, doc, pm, cdv, ct, oc, an, od, osl, rfl, lk, hcd, S, nc cdv, len, fun ws R h => ?_⟩
  obtain ⟨os, r, m⟩ := me ws R h
  exact ⟨os, r, fun Aw outer s H a go G hr ok e0 eN ei => ⟨_, hb cdv Aw outer s H a go G hr ok e0, m _ _ ei eN⟩⟩
end
end Wg

/-! list(f(..)), f a generator def -/
namespace Wg
open PySem PySem.Spec PyProof.Rows L2 Cb Wl GenW
/-- the list S is being filled -/
structure UL where
  Xc : Cx
  X0 : Cx
  pk : List (Addr × Obj)
  os : List W
  A0 : Wd
  h0 : Hw
  h1 : Hw
  H0 : Hp
  τ : L2.St
  S : Addr
structure AtL (U : UL) (j : Nat) (PG : List (Addr × Obj)) (s : Shared) (H : Hp) (Ac : Wd) : Prop where
  le : j ≤ U.os.length
  inv : Inv U.Xc (U.pk ++ PG) U.τ H s
  wr : WR U.Xc.K Ac U.h1 H
  ext : Ext U.A0 U.h0 U.H0 Ac U.h1 H
  off : Off Ac U.S
  nS : U.H0 U.S = none
  at_ : ∃ vs, H U.S = some (.lst vs) ∧ RVs U.Xc.K [] Ac.F H (U.os.take j) vs
  sz : U.X0.s_0.heap.objs.size ≤ s.heap.objs.size
def UL.con (U : UL) : Con where
  Xc := U.Xc
  X0 := U.X0
  pk := U.pk
  N := U.os.length
  it := fun i w => U.os[i]? = some w
  C := fun j PG F s H => ∃ Ac, F = Ac.F ∧ AtL U j PG s H Ac
theorem AtL.gens {U : UL} {j : Nat} {PG : List (Addr × Obj)} {s : Shared} {H : Hp} {Ac : Wd} {G : Array GenState} (m : AtL U j PG s H Ac) (hG : AllBare G) : AtL U j PG { s with gens := G } H Ac :=
  ⟨m.le, inv_gens m.inv hG, m.wr, m.ext, m.off, m.nS, m.at_, m.sz⟩
theorem take_succ_of {α : Type} {l : List α} {i : Nat} {x : α} (e : l[i]? = some x) : l.take (i + 1) = l.take i ++ [x] := by
  rw [List.take_add_one, e]
  rfl
section
variable {U : UL} {a : Addr} {g : Nat} {go : Obj} {A : Around} {res : Value} {R : Result → Shared → Prop}
/-- an item has come and is appended -/
theorem gl_yield (ok : ConOk U.con) (hst : U.Xc.env.locals ∈ frs U.Xc.stack) (hfs : ∀ b ∈ U.Xc.fs, b ∈ frs U.Xc.stack) (pnX : (a, go) ∈ U.X0.pn) (kin : U.X0.K = U.Xc.K) (big : U.os.length ≤ 1000)
    {n : Nat} {s s1 : Shared} {v : Value} {X' : GenState} {B : Around} (bX : X'.bare = true) (hsz : g + 1 ≤ (s1.setGen g X').gens.size)
    (hy : YG U.con (n - 1) (s.setGen g .running) v s1 (Kap (model U.Xc.prog U.Xc.w) B (RG U.con) (YG U.con) X' n)) :
    ∃ (i : Nat) (its : List Value) (c : Nat), s1.heap.get? U.S = some { cls := .type "list", data := .seq its.toArray c } ∧ its.length ≤ 1000 ∧ i + (n - 1) + 1 = U.os.length ∧ ∃ PG2 H3 Ac3,
      AtL U (i + 1) PG2 { s1.setGen g X' with heap := s1.heap.update U.S (Obj.mapSeq (·.push v)) } H3 Ac3 ∧ (a, go) ∈ PG2 ∧ s1.gens.size = s1.gens.size ∧ (s1.setGen g X').gens[g]? = some X' ∧
      Kap (model U.Xc.prog U.Xc.w) B (RG U.con) (YG U.con) X' n (.send .none) (({ s1.setGen g X' with heap := s1.heap.update U.S (Obj.mapSeq (·.push v)) } : Shared).setGen g .running) := by
  obtain ⟨i, PG', F, H', ip, F2, x, τ2, H2, oL, w, num, ⟨Ac', rfl, m'⟩, I2, hoL, rv, e2, w2, r2, hit, hk⟩ := hy
  have Ib := back ok.sub m'.inv I2 (fun p hp => List.mem_append_left _ hp) (fun p hp => List.mem_append_right _ (List.mem_append_left _ hp)) ok.old ok.oL ok.oc
  have w2 : WR U.Xc.K (.pure F2) hh H2 := kin ▸ w2
  have r2 : RV U.Xc.K [] F2 H2 w x := kin ▸ r2
  obtain ⟨e3, w3⟩ := pure_back m'.wr w2 e2
  have szL : U.X0.s_0.heap.objs.size ≤ (s.setGen g .running).heap.objs.size := m'.sz
  have aboveX : U.X0.s_0.heap.objs.size ≤ U.X0.env.locals := by
    have z : (trunc U.X0.s_0.heap.objs.size (s.setGen g .running).heap).objs.size ≤ U.X0.env.locals := I2.ok.above
    rw [trunc_size szL] at z
    exact z
  have fsX : (re U.X0 (s.setGen g .running) H').fs = frs U.Xc.stack := by
    show frs U.X0.outer = _
    have z : U.X0.outer = U.Xc.stack := ok.sub.outer
    rw [z]
  have Ip : Inv U.Xc (U.pk ++ ((U.X0.env.locals, oL) :: (U.X0.pn ++ ip))) U.τ H2 s1 := Ib.pins_of fun p hp => by
    rcases List.mem_append.mp hp with z | z
    · exact Ib.pin p (List.mem_append_right _ z)
    · rcases List.mem_cons.mp z with z | z
      · subst z
        refine ⟨hoL, I2.free, fun e => ?_, fun e => ?_, fun c e => ?_⟩
        · have := ok.oL
          have e : U.X0.env.locals = U.Xc.env.locals := e
          rw [e] at aboveX
          exact absurd this (Nat.not_lt.mpr aboveX)
        · exact absurd (ok.old _ (hfs _ e)) (Nat.not_lt.mpr aboveX)
        · obtain ⟨mm, ⟨o, es, ep, ho, hd, _⟩, _⟩ := I2.loc
          have ho : s1.heap.get? U.X0.env.locals = some o := ho
          have hoL' : s1.heap.get? U.X0.env.locals = some oL := hoL
          rw [hoL'] at ho
          cases ho
          have e : oL.data = .cell c := e
          rw [hd] at e
          cases e
      · have hp2 : p ∈ (re U.X0 (s.setGen g .running) H').pn ++ (U.Xc.pn ++ U.pk ++ ip) := by
          rcases List.mem_append.mp z with z | z
          · exact List.mem_append_left _ z
          · exact List.mem_append_right _ (List.mem_append_right _ z)
        obtain ⟨q1, q2, q3, q4, q5⟩ := I2.pin p hp2
        have q4 : p.1 ∉ (re U.X0 (s.setGen g .running) H').fs := q4
        rw [fsX] at q4
        exact ⟨q1, q2, fun e => q4 (e ▸ hst), fun e => q4 (hfs _ e), q5⟩
  have hX1 : (s1.setGen g X').gens[g]? = some X' := by
    have hl : g < s1.gens.size := by
      have z : g + 1 ≤ (s1.gens.setIfInBounds g X').size := hsz
      rw [Array.size_setIfInBounds] at z
      exact z
    show (s1.gens.setIfInBounds g X')[g]? = _
    rw [Array.getElem?_setIfInBounds_self_of_lt hl]
  have I3 : Inv U.Xc (U.pk ++ ((U.X0.env.locals, oL) :: (U.X0.pn ++ ip))) U.τ H2 (s1.setGen g X') := inv_gens Ip (bare_set Ip.bare (g := g) bX)
  obtain ⟨vs, hv0, rv0⟩ := m'.at_
  have nn : H' U.S ≠ none := by rw [hv0]; exact fun z => by cases z
  have off3 := m'.off.ext e3 nn
  have hv := e3.kp _ _ hv0 m'.off.liv
  have rv3 := RVs.mono (e3.stay m'.wr) (gs' := []) (fun _ _ z => by cases z) _ _ rv0
  obtain ⟨zl, its, c, va, el, es⟩ := I3.lstM hv
  have hiN : i < U.os.length := (List.getElem?_eq_some_iff.mp hit).1
  have vl : vs.length = i := by
    rw [rv0.len, List.length_take]
    omega
  have notT : ∀ xs, H2 U.S ≠ some (.tup xs) := fun xs z => by rw [hv] at z; cases z
  have notF : ∀ ob u, H2 U.S ≠ some (.frz ob u) := fun ob u z => by rw [hv] at z; cases z
  have I4 := I3.lset (f := (·.push v)) (its' := its ++ [v]) (t' := s1.toks) hv es (by simp) (va.append (.cons rv .nil)) (ys := vs ++ [x]) (by
    rw [List.length_append, List.length_singleton, vl]
    exact Nat.le_trans (show i + 1 ≤ 1000 by omega) (by decide))
  have st4 : Stay (fun a => Ac'.F a ∨ (F2 a ∧ H' a = none)) (fun a => Ac'.F a ∨ (F2 a ∧ H' a = none)) H2 (upd H2 U.S (.lst (vs ++ [x]))) := stay_off off3.f notT notF
  have rx : RV U.Xc.K [] (fun a => Ac'.F a ∨ (F2 a ∧ H' a = none)) H2 w x := RV.mono ⟨fun y f => by
    rcases e2.fn y f with z | z | z
    · exact .inl z
    · exact .inr ⟨f, z⟩
    · exact absurd z liv_pure, fun _ _ _ z => z, fun _ _ z => z, fun _ _ _ z => z⟩ (fun _ _ z => by cases z) _ _ r2
  have m4 : AtL U (i + 1) ((U.X0.env.locals, oL) :: (U.X0.pn ++ ip)) { s1.setGen g X' with heap := s1.heap.update U.S (Obj.mapSeq (·.push v)) } (upd H2 U.S (.lst (vs ++ [x]))) ⟨Ac'.gs, Ac'.ls, fun a => Ac'.F a ∨ (F2 a ∧ H' a = none)⟩ := by
    refine ⟨hiN, I4, w3.upd_off off3 notT notF (fun _ z => by cases z), (m'.ext.trans e3).upd_new m'.nS, off3, m'.nS, ⟨_, upd_same, ?_⟩, ?_⟩
    · rw [take_succ_of hit]
      exact (RVs.mono st4 (fun _ _ z => z) _ _ rv3).app (.cons (RV.mono st4 (fun _ _ z => z) _ _ rx) .nil)
    · have z := (I4.pin (U.X0.env.locals, oL) (List.mem_append_right _ (List.mem_append_right _ List.mem_cons_self))).1
      exact Nat.le_trans aboveX (Nat.le_of_lt (Heap.lt_size z))
  refine ⟨i, its, c, es, by rw [← el, vl]; omega, num, _, _, _, m4, List.mem_cons_of_mem _ (List.mem_append_left _ pnX), rfl, hX1, ?_⟩
  refine hk _ _ _ ⟨_, rfl, m4.gens (bare_set m4.inv.bare rfl)⟩ (Stay.trans ⟨fun y f => ?_, fun _ _ _ z => z, fun _ _ z => z, fun _ _ _ z => z⟩ st4)
  rcases e2.fn y f with z | z | z
  · exact .inl z
  · exact .inr ⟨f, z⟩
  · exact absurd z liv_pure
theorem gl_end (ok : ConOk U.con) (kin : U.X0.K = U.Xc.K) (fin : ∀ PG s' H' Ac', AtL U U.os.length PG s' H' Ac' → R (.ok (.ret res)) s') {n : Nat} {s s1 : Shared} {x : Result} (hx : RG U.con n (s.setGen g .running) x s1) :
    x = .ok (.ret .none) ∧ ∀ h', (∀ b o, s1.heap.get? b = some o → h'.get? b = some o) → R (.ok (.ret res)) { s1.setGen g .finished with heap := h' } := by
  cases x with
  | error e => exact hx.elim
  | ok f =>
    cases f with
    | next => exact hx.elim
    | brk => exact hx.elim
    | cont => exact hx.elim
    | ret u =>
      obtain ⟨rfl, PG', F, H', ip, F2, τ2, H2, ⟨Ac', rfl, m'⟩, I2, e2, w2⟩ := hx
      refine ⟨rfl, fun hp kp => ?_⟩
      have Ib := back ok.sub m'.inv I2 (fun p hp => List.mem_append_left _ hp) (fun p hp => List.mem_append_right _ (List.mem_append_left _ hp)) ok.old ok.oL ok.oc
      have w2 : WR U.Xc.K (.pure F2) hh H2 := kin ▸ w2
      obtain ⟨e3, w3⟩ := pure_back m'.wr w2 e2
      have If := (inv_gens Ib (bare_set Ib.bare (g := g) (x := .finished) rfl)).kept (t' := s1.toks) kp
      obtain ⟨vs, hv, rv⟩ := m'.at_
      have nn : H' U.S ≠ none := by rw [hv]; exact fun z => by cases z
      have If : Inv U.Xc (U.pk ++ []) U.τ H2 { s1.setGen g .finished with heap := hp } := by
        rw [List.append_nil]
        exact If
      refine fin [] _ H2 _ ⟨Nat.le_refl _, If, w3, m'.ext.trans e3, m'.off.ext e3 nn, m'.nS, ⟨vs, e3.kp _ _ hv m'.off.liv, RVs.mono (e3.stay m'.wr) (fun _ _ z => by cases z) _ _ rv⟩, ?_⟩
      have szL : U.X0.s_0.heap.objs.size ≤ (s.setGen g .running).heap.objs.size := m'.sz
      have aboveX : U.X0.s_0.heap.objs.size ≤ U.X0.env.locals := by
        have z : (trunc U.X0.s_0.heap.objs.size (s.setGen g .running).heap).objs.size ≤ U.X0.env.locals := I2.ok.above
        rw [trunc_size szL] at z
        exact z
      obtain ⟨mm, ⟨oL, es, ep, hoL, _⟩, _⟩ := I2.loc
      have hoL : s1.heap.get? U.X0.env.locals = some oL := hoL
      exact Nat.le_trans aboveX (Nat.le_of_lt (Heap.lt_size (kp _ _ hoL)))
theorem gl_loop (ok : ConOk U.con) (hst : U.Xc.env.locals ∈ frs U.Xc.stack) (hfs : ∀ b ∈ U.Xc.fs, b ∈ frs U.Xc.stack) (pnX : (a, go) ∈ U.X0.pn) (isg : ∀ h : Heap, h.get? a = some go → h.IsGen a g)
    (hd0 : A.handled = none) (room : A.depth < recursionLimit) (kin : U.X0.K = U.Xc.K) (big : U.os.length ≤ 1000)
    (fin : ∀ PG s' H' Ac', AtL U U.os.length PG s' H' Ac' → R (.ok (.ret res)) s') :
    ∀ (m j : Nat) (PG : List (Addr × Obj)) (s : Shared) (H : Hp) (Ac : Wd) (X : GenState), AtL U j PG s H Ac → (a, go) ∈ PG → s.gens[g]? = some X →
      X.Goes (model U.Xc.prog U.Xc.w) A.in1.in1 (RG U.con) (YG U.con) m (.send .none) (s.setGen g .running) → codeAny (model U.Xc.prog U.Xc.w) A (.builtin "list.extend.loop" ⟨[.ref U.S, .ref a, res], []⟩) R s := by
  intro m
  induction m with
  | zero =>
    intro j PG s H Ac X m pg hX goes
    have hget := (m.inv.pin (a, go) (List.mem_append_right _ (List.mem_append_right _ pg))).1
    have hgl : g + 1 ≤ s.gens.size := (Array.getElem?_eq_some_iff.mp hX).1
    refine codeAny_builtin PySem.F.entry_extend_loop ?_
    rw [Around.under_plainId PySem.F.plain_extend_loop _]
    show wpAny _ A.in1
      (pyNext (.ref a) >>= _) _ _ s
    refine wpAny_bind (wpAny_gsz (n := g + 1) hgl (next_s (A := A.in1) hd0 m.inv.nolimit room (isg _ hget) hX goes (fun x s1 hx => ?_) fun v s1 X' isX bX hy => ?_))
    · obtain ⟨e, k⟩ := gl_end ok kin fin hx
      exact ⟨e, fun h' kp _ => wpAny_pure (k h' kp)⟩
    · intro hsz
      obtain ⟨i, its, c, es, il, num, PG2, H3, Ac3, m4, pg4, _, hX4, kap⟩ := gl_yield ok hst hfs pnX kin big bX hsz hy
      exact kap.elim
  | succ n ih =>
    intro j PG s H Ac X m pg hX goes
    have hget := (m.inv.pin (a, go) (List.mem_append_right _ (List.mem_append_right _ pg))).1
    have hgl : g + 1 ≤ s.gens.size := (Array.getElem?_eq_some_iff.mp hX).1
    refine codeAny_builtin PySem.F.entry_extend_loop ?_
    rw [Around.under_plainId PySem.F.plain_extend_loop _]
    show wpAny _ A.in1
      (pyNext (.ref a) >>= _) _ _ s
    refine wpAny_bind (wpAny_gsz (n := g + 1) hgl (next_s (A := A.in1) hd0 m.inv.nolimit room (isg _ hget) hX goes (fun x s1 hx => ?_) fun v s1 X' isX bX hy => ?_))
    · obtain ⟨e, k⟩ := gl_end ok kin fin hx
      exact ⟨e, fun h' kp _ => wpAny_pure (k h' kp)⟩
    · intro hsz
      obtain ⟨i, its, c, es, il, num, PG2, H3, Ac3, m4, pg4, _, hX4, kap⟩ := gl_yield ok hst hfs pnX kin big bX hsz hy
      show wpAny _ A.in1
        (updateSeq U.S (·.push v) >>= _) _ _ _
      have small : its.toArray.size + 1 ≤ sizeLine := by
        rw [List.size_toArray]
        exact Nat.le_trans (show its.length + 1 ≤ 1001 by omega) (by decide)
      refine wpAny_bind ?_
      refine wpAny_updateSeq es rfl ?_ (by omega) (by rw [Array.size_push]; omega)
      refine wpAny_pure ?_
      refine ⟨plainId_quiet PySem.F.plain_extend_loop _, ?_⟩
      exact ih _ PG2 _ H3 Ac3 X' m4 pg4 hX4 kap
end
end Wg

/-! list(f(..)), f a generator def: the call, the expression -/
namespace Wg
open PySem PySem.Spec PyProof.Rows L2 Cb Wl GenW
section
variable {P : Program} {w : World} {A : Around} {a : Addr} {g : Nat} {s : Shared} {Q : Value → Shared → Prop} {E : Value → Shared → Prop}
/-- list(g): an empty list is laid, then filled -/
theorem call_listG (hg : s.heap.IsGen a g) (lt : a < s.heap.objs.size)
    (k : ∀ (R : Result → Shared → Prop) (h' : Heap), (∀ s', Q (.ref s.heap.objs.size) s' → R (.ok (.ret .none)) s') → (∀ b o, s.heap.get? b = some o → h'.get? b = some o) → (∃ c, h'.get? s.heap.objs.size = some (lstObj #[] c)) → codeAny (model P w) A.in1 (.builtin "list.extend.loop" ⟨[.ref s.heap.objs.size, .ref a, .none], []⟩) R { s with heap := h' }) :
    wpAny (model P w) A (call (.type "list") [.ref a]) Q E s := by
  have hSa : s.heap.objs.size ≠ a := Nat.ne_of_gt lt
  refine callType_codes
    (Q₁ := fun obj s₁ => obj = .ref s.heap.objs.size ∧ s₁ = { s with heap := s.heap.push { cls := .type "list", data := .seq #[] } })
    PySem.F.called_list (PySem.F.typeCall_list_1 _) PySem.F.entry_list_init (code_list_new _ ⟨rfl, rfl⟩) fun obj s₁ h₁ => ?_
  obtain ⟨rfl, rfl⟩ := h₁
  have hS : (s.heap.push { cls := .type "list", data := .seq #[] }).get? s.heap.objs.size = some { cls := .type "list", data := .seq #[] } :=
    Heap.get?_push_size _ rfl
  refine ⟨⟨_, hS, rfl⟩, PySem.F.args_list_init_2 _ _, ?_⟩
  show wpAny _ A.in1.in1 (do
    let old ← Builtin.List.listItems (.ref s.heap.objs.size)
    Builtin.List.listUpdate (.ref s.heap.objs.size) (fun _ => #[])
    letGo old.toList.reverse
    Builtin.List.listExtendWith (.ref s.heap.objs.size) (.ref a) .none) _ _ _
  refine wpAny_bind ?_
  unfold Builtin.List.listItems
  refine wpAny_bind (wpAny_seqItems hS rfl (wpAny_pure ?_))
  show wpAny _ A.in1.in1
    (updateSeq s.heap.objs.size (fun _ => #[]) >>= fun _ => letGo (#[] : Array Value).toList.reverse >>= fun _ => Builtin.List.listExtendWith (.ref s.heap.objs.size) (.ref a) .none) _ _ _
  refine wpAny_bind (wpAny_updateSeq hS rfl ?_)
  have hS2 := Heap.get?_update_self (Obj.mapSeq (fun _ => (#[] : Array Value)))
    hS rfl
  refine wpAny_bind (wpAny_letGo ?_)
  unfold Builtin.List.listExtendWith
  have up : ∀ (h : Heap) (f : Obj → Obj), (∀ b o, s.heap.get? b = some o → h.get? b = some o) →
      ∀ b o, s.heap.get? b = some o → (h.update s.heap.objs.size f).get? b = some o := fun h f q b o e => by
    rw [Heap.get?_update_other _ _ (Ne.symm (Nat.ne_of_lt (Heap.lt_size e)))]
    exact q b o e
  have k1 : ∀ b o, s.heap.get? b = some o → (s.heap.push { cls := .type "list", data := .seq #[] }).get? b = some o :=
    fun b o e => Heap.get?_push_of_some _ e
  have k2 := up _ (Obj.mapSeq (fun _ => (#[] : Array Value)))
    k1
  have gty : ∀ {h : Heap}, (∀ b o, s.heap.get? b = some o → h.get? b = some o) → h.IsGen a g :=
    fun {h} q => hg.keeps q
  refine wpAny_bind (wpAny_typeOf
    (Heap.IsGen.typeIs (s := { s with heap := _ }) (gty k2)) ?_)
  have h1 : Builtin.List.listSameRef (.ref s.heap.objs.size) (.ref a) = false := by
    simp [Builtin.List.listSameRef, hSa]
  have h2 : (Value.type "generator" == Value.type "list") = false := by
    decide
  have h3 : (Value.type "generator" == Value.type "tuple") = false := by
    decide
  simp only [h1, h2, h3, Bool.or_false,
    Bool.false_eq_true, if_false]
  refine wpAny_bind (wpAny_pyIter_gen
    (s := { s with heap := _ }) (gty k2) ?_)
  refine wpAny_bind (wpAny_holding ?_)
  unfold Builtin.List.listLengthHint
  refine wpAny_bind (wpAny_specialOf
    (Heap.IsGen.typeIs (s := { s with heap := _ }) (gty k2)) PySem.F.gen_no_len ?_)
  show wpAny _ A.in1.in1
    (specialOf (Value.ref a) (Str.ofString "__length_hint__") >>= _) _ _ _
  refine wpAny_bind (wpAny_specialOf
    (Heap.IsGen.typeIs (s := { s with heap := _ }) (gty k2)) PySem.F.gen_no_hint ?_)
  refine wpAny_pure ?_
  show wpAny _ A.in1.in1
    (rule "list.extend.makes-room" >>= fun _ => Builtin.List.listTouch (.ref s.heap.objs.size) >>= fun _ => again (.builtin "list.extend.loop" ⟨[.ref s.heap.objs.size, .ref a, .none], []⟩)) _ _ _
  refine wpAny_bind (wpAny_rule ?_)
  refine wpAny_bind ?_
  show wpAny _ A.in1.in1
    (updateSeq s.heap.objs.size (·.push .none) >>= fun _ => updateSeq s.heap.objs.size (·.pop)) _ _ _
  refine wpAny_bind (wpAny_updateSeq hS2 rfl ?_)
  have hS3 := Heap.get?_update_self (Obj.mapSeq (·.push Value.none))
    hS2 rfl
  refine wpAny_updateSeq (hz := by seq_fits)
    hS3 rfl ?_
  have hS4 := Heap.get?_update_self (Obj.mapSeq (·.pop))
    hS3 rfl
  have k4 := up _ (Obj.mapSeq (·.pop))
    (up _ (Obj.mapSeq (·.push Value.none)) k2)
  refine wpAny_pure ⟨plainId_quiet PySem.F.plain_extend_loop _, ?_⟩
  exact k _ _ (fun s' q => ⟨rfl, q⟩) k4 ⟨_, hS4⟩
end
/-- list(f(..)): the items are told -/
def sLstG (c : GCW) (tas : TAW) : TLW := fun σ h Q => tas σ h fun us h1 => ∃ ws, valU us = some ws ∧ noRefs ws = true ∧ c ws fun os => ∃ ds : List PyData, os = ds.map .dat ∧ ds.length ≤ 1000 ∧ Q ds h1
section
variable {X : Cx} {e : Expr} {es : List Expr} {tas : TAW} {c : GCW} {k : Nat} {f : Addr} {N ps : List Str} {x : Str} {p p' pos p0 : Pos} {A B : Wd} {h h1 : Hw} {H H1 : Hp} {τ : L2.St} {pins : List (Addr × Obj)} {s1 s2 : Shared} {vs : List V} {ws : List W} {Q : List PyData → Hw → Prop}
  {qual : Str} {gb : List Stmt} {scope : Scope} {cdv : Value} {a : Addr} {g : Nat} {go : Obj}
/-- the generator is made; it is drained -/
theorem listG_core (nox : ∀ e s, ¬ X.xe e s) (hst : X.env.locals ∈ frs X.stack) (hfs : ∀ b ∈ X.fs, b ∈ frs X.stack) (hr : Room (k + 1) X.A) (noc : ∀ (L : Addr) (x : Str), (envOfC qual scope L f cdv).cells.lookup x = none)
    (I1 : Inv X pins τ H1 s1) (e1 : Ext A h H B h1 H1) (w1 : WR X.K B h1 H1) (rv : RVs X.K B.gs B.F H1 ws vs) (nr : noRefs ws = true)
    (prom : ∃ os, (∃ ds : List PyData, os = ds.map .dat ∧ ds.length ≤ 1000 ∧ Q ds h1) ∧ ∀ (Aw : Around) (outer : List Env) (s : Shared) (H : Hp) (a : Addr) (go : Obj) (G : Con), Room k Aw → ConOk G → G.X0 = (gx X.prog X.w X.K X.mg X.base N qual scope f cdv Aw outer s H a go).nox → G.N = os.length → G.it = (fun i w => os[i]? = some w) →
      ∃ t, TYs G gb t ∧ t { nx := fun i _ => i = os.length, rt := fun i => i = os.length } 0 (startW N ws))
    (ha1 : s1.heap.objs.size ≤ a) (hget : s2.heap.get? a = some go) (isg : ∀ h : Heap, h.get? a = some go → h.IsGen a g) (hX : s2.gens[g]? = some (.fresh (.func gb (envOfC qual scope s1.heap.objs.size f cdv)))) (hos : s2.os = s1.os) (hbare : AllBare s2.gens) (hkp : ∀ b o, s1.heap.get? b = some o → s2.heap.get? b = some o)
    (inv : ∀ (Aw : Around) (k : Nat), Room k Aw → Aw.frames = some X.stack → Inv (gx X.prog X.w X.K X.mg X.base N qual scope f cdv Aw X.stack s1 H1 a go) [] (L2.start N vs) H1 s2) {E : Value → Shared → Prop} :
    wpAny (model X.prog X.w) X.A (call (.type "list") [.ref a]) (EP X pins τ fun v H' => ∃ B h' ds M vs, v = .ref M ∧ NewL X.K A h H B h' H' ds M vs ∧ Q ds h') E s2 := by
  obtain ⟨os, ⟨ds, eds, big, q⟩, gen⟩ := prom
  have rm : Room k X.A.in1.in1.in1 := ⟨hr.hd, by have := hr.dp; show X.A.depth + 3 * k + 5 < _; omega, by have := hr.un; show X.A.units + 1 + 1 + 1 + 16 * k + 200 < _; omega⟩
  have I0 := inv_wish (E := fun _ _ => False) (inv X.A.in1.in1.in1 k rm I1.ok.frames)
  have I2 : Inv X pins τ H1 s2 := I1.call' (ch := []) hos (Un.kept hkp) (I1.hok.kept hkp) hbare fun b z => by cases z
  obtain ⟨mm, ⟨oL, les, lep, hoL, hdL, hmL⟩, lk0⟩ := I0.loc
  have hoL : s2.heap.get? s1.heap.objs.size = some oL := hoL
  obtain ⟨og, nm, qn, hog, hcg, hdg, _⟩ := isg _ hget
  rw [hget] at hog
  cases hog
  have If : Inv X (pins ++ [(s1.heap.objs.size, oL), (a, go)]) τ H1 s2 := I2.pins_of fun p hp => by
    rcases List.mem_append.mp hp with z | z
    · exact I2.pin p (List.mem_append_right _ z)
    · rcases List.mem_cons.mp z with z | z
      · subst z
        exact ⟨hoL, I1.hok.fresh (Nat.le_refl _), Nat.ne_of_gt I1.lt, I1.nofs (Nat.le_refl _), fun v q => by
          have q : oL.data = .cell v := q
          rw [hdL] at q
          cases q⟩
      · rw [List.mem_singleton.mp z]
        exact ⟨hget, I1.hok.fresh ha1, Nat.ne_of_gt (Nat.lt_of_lt_of_le I1.lt ha1), I1.nofs ha1, fun v q => by
          have q : go.data = .cell v := q
          rw [hdg] at q
          cases q⟩
  refine call_listG (isg _ hget) (Heap.lt_size hget) fun R h' kR kp' ⟨c0, hS⟩ => ?_
  have nS : H1 s2.heap.objs.size = none := I2.fresh
  have sS : Same H1 (upd H1 s2.heap.objs.size (.lst [])) := same_new nS
  have I3 : Inv X (pins ++ [(s1.heap.objs.size, oL), (a, go)]) τ (upd H1 s2.heap.objs.size (.lst [])) { s2 with heap := h' } := If.laid (t' := s2.toks) kp' (Nat.le_refl _) ⟨Nat.zero_le _, [], c0, .nil, hS⟩
  let U : UL := ⟨X, (gx X.prog X.w X.K X.mg X.base N qual scope f cdv X.A.in1.in1.in1 X.stack s1 H1 a go).nox, pins, os, A, h, h1, H, τ, s2.heap.objs.size⟩
  have sz2 : s1.heap.objs.size ≤ h'.objs.size := Nat.le_trans ha1 (Nat.le_of_lt (Heap.lt_size (kp' _ _ hget)))
  have m0 : AtL U 0 [(s1.heap.objs.size, oL), (a, go)] { s2 with heap := h' } (upd H1 s2.heap.objs.size (.lst [])) B := ⟨Nat.zero_le _, I3, w1.same sS, e1.trans (.same sS), w1.off nS, e1.th _ nS, ⟨[], upd_same, .nil⟩, sz2⟩
  have ok : ConOk U.con := by
    refine ⟨⟨rfl, rfl, rfl, rfl, rfl, fun x => noc _ x, I1.sz⟩, fun _ _ z => z, fun b hb => ?_, I1.lt, fun x c h => ?_, fun i PG F s' H' hC => ?_, rfl⟩
    · obtain ⟨_, o, ho, _⟩ := I1.stack.mem hb
      exact Heap.lt_size ho
    · obtain ⟨v, o, ho, _⟩ := I1.cell x c h
      exact Heap.lt_size ho
    · obtain ⟨Ac, rfl, m'⟩ := hC
      exact ⟨⟨τ, m'.inv⟩, wr_pure m'.wr.ft, m'.sz⟩
  obtain ⟨t, ty, ht0⟩ := gen X.A.in1.in1.in1 X.stack s1 H1 a go U.con rm ok rfl rfl rfl
  have bareR : AllBare ((({ s2 with heap := h' } : Shared).setGen g .running)).gens := bare_set hbare rfl
  have sub0 : Inv (re U.X0 (({ s2 with heap := h' } : Shared).setGen g .running) (upd H1 s2.heap.objs.size (.lst []))) (X.pn ++ pins ++ []) (L2.start N vs) (upd H1 s2.heap.objs.size (.lst [])) (({ s2 with heap := h' } : Shared).setGen g .running) := by
    refine resume (Xc := X) (pc := pins ++ [(s1.heap.objs.size, oL), (a, go)]) (ip := []) (oL := oL) ok.sub I0 (inv_gens I3 bareR) hoL (List.mem_append_right _ List.mem_cons_self) (fun p hp => ?_) ok.old
    have nl : ∀ p ∈ X.pn ++ pins, p.1 ≠ s1.heap.objs.size := fun p m => Nat.ne_of_lt (Heap.lt_size (I1.pin p m).1)
    rcases List.mem_append.mp hp with z | z
    · have e : p = (a, go) := List.mem_singleton.mp z
      subst e
      refine ⟨List.mem_append_right _ (List.mem_append_right _ (List.mem_cons_of_mem _ List.mem_cons_self)), ?_⟩
      exact (I0.pin (a, go) (List.mem_append_left _ (List.mem_singleton.mpr rfl))).2.2.1
    · rw [List.append_nil] at z
      refine ⟨?_, nl p z⟩
      rcases List.mem_append.mp z with z | z
      · exact List.mem_append_left _ z
      · exact List.mem_append_right _ (List.mem_append_left _ z)
  have rv3 : RVs X.K B.gs B.F (upd H1 s2.heap.objs.size (.lst [])) ws vs := RVs.mono (.new nS) (fun _ _ z => z) _ _ rv
  have run0 : Run U.con 0 os.length (({ s2 with heap := h' } : Shared).setGen g .running) (({ s2 with heap := h' } : Shared).setGen g .running) (startW N ws) [] B.F (upd H1 s2.heap.objs.size (.lst [])) :=
    ⟨[(s1.heap.objs.size, oL), (a, go)], B.F, _, B.F, L2.start N vs, _, ⟨Nat.zero_add _, ⟨B, rfl, m0.gens bareR⟩, sub0, .refl, wr_pure m0.wr.ft, rs_start (A := .pure B.F) (RVs.noref _ _ nr rv3), ⟨fun _ f => f, fun _ _ _ z => z, fun _ _ z => z, fun _ _ _ z => z⟩⟩⟩
  have goes : (GenState.fresh (.func gb (envOfC qual scope s1.heap.objs.size f cdv))).Goes (model X.prog X.w) X.A.in1.in1.in1 (RG U.con) (YG U.con) os.length (.send .none) (({ s2 with heap := h' } : Shared).setGen g .running) := by
    refine ⟨rfl, seg_func ?_⟩
    refine ty.run (D := { nx := fun i _ => i = os.length, rt := fun i => i = os.length }) (B0 := B.F) (Hb := upd H1 s2.heap.objs.size (.lst [])) ⟨over_func, rfl, rfl, rfl⟩ (fun n i s₀ s f hf => ?_) run0 ht0
    cases f with
    | next =>
      obtain ⟨σ', ⟨PG, F, H', F2, τ', H2, m⟩, hi⟩ := hf
      have hi : i = os.length := hi
      subst hi
      exact seg_end (.ok (.ret .none)) ⟨rfl, PG, F, H', [], F2, τ', H2, m.c, m.inv, m.ext, m.wr⟩
    | ret u =>
      obtain ⟨rfl, σ', ⟨PG, F, H', F2, τ', H2, m⟩, hi⟩ := hf
      have hi : i = os.length := hi
      subst hi
      exact seg_end (.ok (.ret .none)) ⟨rfl, PG, F, H', [], F2, τ', H2, m.c, m.inv, m.ext, m.wr⟩
    | brk => obtain ⟨_, _, z⟩ := hf; exact z.elim
    | cont => obtain ⟨_, _, z⟩ := hf; exact z.elim
  refine gl_loop (U := U) (A := X.A.in1) ok hst hfs (List.mem_singleton.mpr rfl) isg hr.hd (by have := hr.dp; show X.A.depth < _; omega) rfl (by show os.length ≤ 1000; rw [eds, List.length_map]; exact big) (fun PG s' H' Ac' m' => kR _ ?_) os.length 0 _ _ _ B _ m0 (List.mem_cons_of_mem _ List.mem_cons_self) hX goes
  obtain ⟨us, hv, rr⟩ := m'.at_
  refine ⟨.ref s2.heap.objs.size, H', m'.inv.unpinned, rfl, Ac', h1, ds, s2.heap.objs.size, us, rfl, ⟨m'.ext, m'.wr, m'.nS, m'.off, hv, ?_⟩, q⟩
  have rr : RVs X.K [] Ac'.F H' (os.take os.length) us := rr
  rw [List.take_length, eds] at rr
  exact rr.rds
theorem trl_listG {fd : FuncData} (gy : GY X.prog X.w X.K X.mg X.base k f fd N ps c) (hr : Room (k + 1) X.A) (gl : X.mg x = some (.ref f)) (kp : PySem.W.keepIn X.K (.ref f) = true) (bs : Binds X.K fd ps []) (nox : ∀ e s, ¬ X.xe e s) (hst : X.env.locals ∈ frs X.stack) (hfs : ∀ b ∈ X.fs, b ∈ frs X.stack)
    (ha : TrA X (e :: es) tas) (hm : X.mg "list" = none) (hgl : Gl X x := by rfl) (hgL : Gl X "list" := by rfl) (hdb : (x == ("__debug__" : Str)) = false := by decide)
    (he : starEach (e :: es) X.env = (false, eval e X.env) :: starEach es X.env := by rfl) (hpl : (backTo p' (starEach es X.env)).any (·.1) = false := by rfl)
    (heL : starEach [.Call (.Name x p) (e :: es) [] p'] X.env = (false, eval (.Call (.Name x p) (e :: es) [] p') X.env) :: starEach [] X.env := by rfl) : TrL X (.Call (.Name "list" p0) [.Call (.Name x p) (e :: es) [] p'] [] pos) (sLstG c tas) := ⟨fun {σ h Q A H τ} ht wr rs => wE_i fun pins s I => by
  refine wpAny_Call_Name_kw (ld_blt I hgL hm (by decide +kernel : bootBuiltins "list" = some (.type "list")) ?_ (by decide) (by decide))
  refine PyProof.Rows.callWith_type1 ?_ heL rfl
  rw [heL]
  show wpAny _ _
    (spliced ((false, eval (.Call (.Name x p) (e :: es) [] p') X.env) :: backTo pos (starEach [] X.env))) _ _ s
  refine Calls.spliced_cons ?_
  refine wpAny_Call_Name_kw (ld_glob I hgl gl ?_ hdb)
  refine PySem.W.callWith_K (h₀ := X.base) I.ok.mod.kin kp ?_ he hpl
  refine wpAny_mono (wA.run (ha.run ht wr rs) p' pins s I) (fun us s1 h1 => ?_) fun _ _ z => z
  obtain ⟨vs, H1, I1, r, B, h1, us', e1, w1, rus, ws, ew, nr, hc⟩ := h1
  refine ⟨I1.kIn, ?_⟩
  obtain ⟨name, qual, params, gb, scope, dV, kV, doc, pm, cdv, ct, oc, an, od, osl, rfl, lk, hcd, S, noc, len, prom⟩ := gy.ex
  have rv : RVs X.K B.gs B.F H1 ws vs := valU.rvs (A := B) ew rus
  have hl : vs.length = ps.length := by rw [rv.len]; exact len _ _ hc
  have hl2 : us.length = ps.length := by rw [← r.length]; exact hl
  have bt := bs s1 us I1.kIn (by rw [List.append_nil]; exact hl2)
  rw [List.append_nil] at bt
  refine wpAny_call (codeAny_mono (gmake lk hcd S hr.depth I1.env0 bt r hl) fun res s2 hq => ?_)
  obtain ⟨a, g, go, rfl, ha1, hget, isg, hX, hos, hbare, hkp, inv⟩ := hq
  refine Calls.spliced_nil ?_
  exact listG_core nox hst hfs hr noc I1 e1 w1 rv nr (prom ws _ hc) ha1 hget isg hX hos hbare hkp inv⟩
end
end Wg

/-! calls by one keyword; isinstance -/
namespace Wl
open PySem PySem.Spec PyProof.Rows L2 Cb
section
variable {X : Cx} {k : Nat} {f : Addr} {fd : FuncData} {ps : List Str} {x kw : Str} {p q kp : Pos} {a : Expr} {ta : TW} {c : CW}
/-- a def with one parameter, by its name -/
structure LDK (P : Program) (w : World) (K : PySem.W.Frag) (mg : Str → Option Value) (base : Heap) (x : Str) (k : Nat) (kw : Str) (sp : Sp) : Prop where
  ex : ∃ (f : Addr) (fd : FuncData), FnOk P w K mg base CX0 k f fd [kw] sp ∧ mg x = some (.ref f) ∧ PySem.W.keepIn K (.ref f) = true ∧ Binds K fd [kw] [] ∧ ∀ (s : Shared) (v : Value), BindsTo s fd ⟨[], [(kw, v)]⟩ [(kw, v)]
structure GDefK (X : Cx) (x : Str) (k : Nat) (f : Addr) (fd : FuncData) (kw : Str) (sp : Sp) : Prop where
  g : GDef X x k f fd [kw] sp
  kb : ∀ (s : Shared) (v : Value), BindsTo s fd ⟨[], [(kw, v)]⟩ [(kw, v)]
theorem LDK.g {x : Str} {k : Nat} {sp : Sp} (h : LDK X.prog X.w X.K X.mg X.base x k kw sp) {n : Nat} (hr : Room n X.A) (l : k ≤ n) : ∃ f fd, GDefK X x k f fd kw sp := by
  obtain ⟨f, fd, F, g, kp, b, kb⟩ := h.ex
  exact ⟨f, fd, ⟨F, hr.mono l, g, kp, b⟩, kb⟩
theorem gdefk_blk {sp : Sp} {s : Shared} {H : Hp} {sc : Scope} {env : Env} {fp : List Addr} (g : GDefK X x k f fd kw sp) : GDefK (X.blk s H sc env fp) x k f fd kw sp := ⟨gdef_blk g.g, g.kb⟩
theorem kb_one {K : PySem.W.Frag} {fd : FuncData} (b : Binds K fd [kw] []) (h2 : ∀ (s : Shared) (v : Value), BindsTo s fd ⟨[], [(kw, v)]⟩ [(kw, v)]) : KBinds K fd [kw] [kw] (fun us ws => us ++ ws) (fun us ws => us ++ ws) :=
  ⟨fun s us ws kin hl => by
    have e : us.length + ws.length = 1 := by rw [← List.length_append]; exact hl
    match us, ws, e with
    | [], [w], _ => exact h2 s w
    | [u], [], _ =>
      have := b s [u] kin rfl
      exact this, fun a b => a.append b⟩
theorem tr_callK (G : GDefK X x k f fd kw (spW X.K c)) (ha : TrE X a ta) (hg : Gl X x := by rfl) (hdb : (x == ("__debug__" : Str)) = false := by decide)
    (hall : (backToKw p (keywordEach [⟨some kw, a, kp⟩] X.env)).all (·.1.isSome) = true := by rfl) (hks : (backToKw p (keywordEach [⟨some kw, a, kp⟩] X.env)).filterMap (·.1) = [kw] := by rfl) (hpl : ((backTo p (starEach [] X.env)).any (·.1) || (backToKw p (keywordEach [⟨some kw, a, kp⟩] X.env)).any (·.1.isNone)) = false := by rfl) :
    TrE X (.Call (.Name x q) [] [⟨some kw, a, kp⟩] p) (sCallP c (sCons ta sNil)) := ⟨fun {σ h Q A H τ} ht wr rs => by
  have pe : PE X (.Call (.Name x q) [] [⟨some kw, a, kp⟩] p) (fun σ H Q => wE X a σ H fun v H1 => spW X.K c [v] H1 Q E0) := by
    refine ⟨fun pins s σ H Q I h => ?_⟩
    refine wpAny_Call_Name_kw (ld_glob I hg G.g.gl ?_ hdb)
    refine PySem.W.callWith_KW0 (h₀ := X.base) I.ok.mod.kin G.g.kp hall ?_ hpl
    have pk : PK X [⟨some kw, a, kp⟩] (tCons (wE X a) tNil) := pk_cons pw_E pk_nil
    refine thn (pk.run p pins s σ H (fun zs H2 => ∃ v, zs = [v] ∧ spW X.K c [v] H2 Q E0) I (wE_mono h fun v H1 q => ⟨v, rfl, q⟩)) fun ws s2 ⟨zs, H2, I2, rz, v, e, q2⟩ => ⟨I2.kIn, ?_⟩
    subst e
    rw [hks]
    exact run_fnk (us := []) (vs := []) G.g.ok G.g.room (kb_one G.g.bs G.kb) pass0 I2 .nil rz q2
  refine w_E pe (ha.bind ht wr rs fun v H1 B h1 u e1 w1 r1 rs1 ⟨ws, ew, cw⟩ => ?_)
  obtain ⟨A2, g2, ws2, Q2, y1, y2, y3, y4⟩ := sp_P (Q := Q) w1 (.cons r1 .nil) ew cw
  exact ⟨A2, g2, ws2, Q2, y1, y2, y3, fun w g' q B' H' v z1 z2 z3 => .trans e1 (y4 w g' q B' H' v z1 z2 z3)⟩⟩
end
/-! isinstance of a datum -/
def tyD : PyData → String
  | .none => "NoneType"
  | .bool _ => "bool"
  | .int _ => "int"
  | .str _ => "str"
  | .tuple _ => "tuple"
  | .list _ => "list"
  | .dict _ => "dict"
theorem tyx {K : PySem.W.Frag} {F : Addr → Prop} {H : Hp} {d : PyData} {v : V} (r : RD K F H d v) : TyX K H v (.type (tyD d)) := by
  cases r with
  | non => exact .base .non
  | bl b => exact .base (.bl b)
  | int i => exact .base (.int i)
  | str x => exact .base (.str x)
  | tup q r =>
    rcases q with (h | ⟨o, h⟩) | ⟨o, its, n, e, c, _⟩
    · exact .base (.tup h)
    · exact .fTuple h
    · exact .kTuple e c
  | lst q r => exact .base (.lst q.2)
def sIsi (T : String) (ta : TW) : TW := fun σ h Q => ta σ h (asD fun d h1 => ∃ b, kitB (tyD d) T = some b ∧ Q (.v (.dat (.bool b))) h1)
theorem tr_isi {X : Cx} {a : Expr} {ta : TW} {x : Str} {T : String} {p q pp : Pos} (m : X.mg "isinstance" = none) (mT : X.mg x = none) (ha : TrE X a ta) (hv : bootBuiltins x = some (.type T) := by decide +kernel) (hg : Gl X "isinstance" := by rfl) (hgT : Gl X x := by rfl) (hnT : x ≠ "__name__" := by decide) (hdT : (x == ("__debug__" : Str)) = false := by decide)
    (h1 : starEach [a, .Name x pp] X.env = (false, eval a X.env) :: starEach [.Name x pp] X.env := by rfl) (h2 : starEach [.Name x pp] X.env = (false, eval (.Name x pp) X.env) :: starEach [] X.env := by rfl) (hpl : (backTo p (starEach [.Name x pp] X.env)).any (·.1) = false := by rfl) :
    TrE X (.Call (.Name "isinstance" q) [a, .Name x pp] [] p) (sIsi T ta) := ⟨fun {σ h Q A H τ} ht wr rs =>
  w_E (pe_callB call_isi hg m (by decide +kernel) (pa_cons pw_E (pa_cons (pe_bltn (v := .ty T) hgT mT hv (show RelV (.ty T) (.type T) from rfl) hnT hdT) pa_nil h2) h1) (he := h1) (hpl := hpl)) (ha.bind ht wr rs fun v H1 B h1 u e1 w1 r1 rs1 q1 => by
    obtain ⟨d, rfl, b, hb, q⟩ := q1.out
    exact ⟨v, .ty T, .type (tyD d), .type T, b, rfl, .ty T, tyx (ru_dat r1), kit_ty hb, .of e1 w1 (.dat (.bl _)) q⟩)⟩
end Wl
namespace Wg
open PySem PySem.Spec PyProof.Rows L2 Cb Wl GenW
section
variable {X : Cx} {a : Expr} {ta : TW} {c : GCW} {k : Nat} {f : Addr} {N : List Str} {x kw : Str} {p p' pos p0 kp' : Pos}
theorem trl_listGK {fd : FuncData} (gy : GY X.prog X.w X.K X.mg X.base k f fd N [kw] c) (hr : Room (k + 1) X.A) (gl : X.mg x = some (.ref f)) (kp : PySem.W.keepIn X.K (.ref f) = true) (kb : ∀ (s : Shared) (v : Value), BindsTo s fd ⟨[], [(kw, v)]⟩ [(kw, v)]) (nox : ∀ e s, ¬ X.xe e s) (hst : X.env.locals ∈ frs X.stack) (hfs : ∀ b ∈ X.fs, b ∈ frs X.stack)
    (ha : TrE X a ta) (hm : X.mg "list" = none) (hgl : Gl X x := by rfl) (hgL : Gl X "list" := by rfl) (hdb : (x == ("__debug__" : Str)) = false := by decide)
    (hall : (backToKw p' (keywordEach [⟨some kw, a, kp'⟩] X.env)).all (·.1.isSome) = true := by rfl) (hks : (backToKw p' (keywordEach [⟨some kw, a, kp'⟩] X.env)).filterMap (·.1) = [kw] := by rfl) (hpl : ((backTo p' (starEach [] X.env)).any (·.1) || (backToKw p' (keywordEach [⟨some kw, a, kp'⟩] X.env)).any (·.1.isNone)) = false := by rfl)
    (heL : starEach [.Call (.Name x p) [] [⟨some kw, a, kp'⟩] p'] X.env = (false, eval (.Call (.Name x p) [] [⟨some kw, a, kp'⟩] p') X.env) :: starEach [] X.env := by rfl) : TrL X (.Call (.Name "list" p0) [.Call (.Name x p) [] [⟨some kw, a, kp'⟩] p'] [] pos) (sLstG c (sCons ta sNil)) := ⟨fun {σ h Q A H τ} ht wr rs => wE_i fun pins s I => by
  refine wpAny_Call_Name_kw (ld_blt I hgL hm (by decide +kernel : bootBuiltins "list" = some (.type "list")) ?_ (by decide) (by decide))
  refine PyProof.Rows.callWith_type1 ?_ heL rfl
  rw [heL]
  show wpAny _ _
    (spliced ((false, eval (.Call (.Name x p) [] [⟨some kw, a, kp'⟩] p') X.env) :: backTo pos (starEach [] X.env))) _ _ s
  refine Calls.spliced_cons ?_
  refine wpAny_Call_Name_kw (ld_glob I hgl gl ?_ hdb)
  refine PySem.W.callWith_KW0 (h₀ := X.base) I.ok.mod.kin kp hall ?_ hpl
  have pk : PK X [⟨some kw, a, kp'⟩] (tCons (wE X a) tNil) := pk_cons pw_E pk_nil
  refine thn (pk.run p' pins s τ H (fun zs H1 => ∃ v, zs = [v] ∧ ∃ B h1 u, Ext A h H B h1 H1 ∧ WR X.K B h1 H1 ∧ RU X.K B H1 u v ∧ ∃ ws, valU [u] = some ws ∧ noRefs ws = true ∧ c ws fun os => ∃ ds : List PyData, os = ds.map .dat ∧ ds.length ≤ 1000 ∧ Q ds h1) I (wE_mono (ha.run ht wr rs) fun v H1 ⟨B, h1, u, e1, w1, r1, q⟩ => ⟨v, rfl, B, h1, u, e1, w1, r1, q⟩)) fun us s1 h1 => ?_
  obtain ⟨vs, H1, I1, r, v, evs, B, h1, u', e1, w1, ru, ws, ew, nr, hc⟩ := h1
  subst evs
  refine ⟨I1.kIn, ?_⟩
  rw [hks]
  obtain ⟨name, qual, params, gb, scope, dV, kV, doc, pm, cdv, ct, oc, an, od, osl, rfl, lk, hcd, S, noc, len, prom⟩ := gy.ex
  have rv : RVs X.K B.gs B.F H1 ws [v] := valU.rvs (A := B) ew (.cons ru .nil)
  obtain ⟨u0, rfl, _⟩ := r.one
  refine wpAny_call (codeAny_mono (gmake (us := [u0]) lk hcd S hr.depth I1.env0 (kb s1 u0) r rfl) fun res s2 hq => ?_)
  obtain ⟨a, g, go, rfl, ha1, hget, isg, hX, hos, hbare, hkp, inv⟩ := hq
  refine Calls.spliced_nil ?_
  exact listG_core nox hst hfs hr noc I1 e1 w1 rv nr (prom ws _ hc) ha1 hget isg hX hos hbare hkp inv⟩
end
end Wg

/-! list of a generator in a def; a generator def that calls other defs -/
namespace Wg
open PySem PySem.Spec PyProof.Rows L2 Cb Wl
theorem gdef_re {X : Cx} {x : Str} {k : Nat} {f : Addr} {fd : FuncData} {ps : List Str} {sp : Sp} {s : Shared} {H : Hp} (g : GDef X x k f fd ps sp) : GDef (re X s H) x k f fd ps sp := ⟨g.ok, g.room, g.gl, g.kp, g.bs⟩
structure LYK (P : Program) (w : World) (K : PySem.W.Frag) (mg : Str → Option Value) (base : Heap) (x : Str) (k : Nat) (N : List Str) (kw : Str) (c : GCW) : Prop where
  ex : ∃ (f : Addr) (fd : FuncData), GY P w K mg base k f fd N [kw] c ∧ mg x = some (.ref f) ∧ PySem.W.keepIn K (.ref f) = true ∧ Binds K fd [kw] [] ∧ ∀ (s : Shared) (v : Value), BindsTo s fd ⟨[], [(kw, v)]⟩ [(kw, v)]
section
variable {P : Program} {w : World} {K : PySem.W.Frag} {mg : Str → Option Value} {base : Heap} {N0 : List Str} {qual : Str} {scope : Scope} {f0 : Addr} {cdv : Value} {A0 : Around} {outer : List Env} {s : Shared} {H : Hp} {E : XK}
  {tg e : Expr} {es : List Expr} {ta : TW} {tas : TAW} {c : GCW} {k n : Nat} {N ps : List Str} {x kw : Str} {p p' pos p0 kp' : Pos}
theorem trl_listY (L : LY P w K mg base x k N ps c) (hr : Room n (dx P w K mg base N0 qual scope f0 cdv A0 outer s H E).A) (l : k + 1 ≤ n)
    (ha : TrA (dx P w K mg base N0 qual scope f0 cdv A0 outer s H E) (e :: es) tas) (hm : mg "list" = none)
    (hgl : Gl (dx P w K mg base N0 qual scope f0 cdv A0 outer s H E) x := by rfl) (hgL : Gl (dx P w K mg base N0 qual scope f0 cdv A0 outer s H E) "list" := by rfl) (hdb : (x == ("__debug__" : Str)) = false := by decide)
    (he : starEach (e :: es) (dx P w K mg base N0 qual scope f0 cdv A0 outer s H E).env = (false, eval e (dx P w K mg base N0 qual scope f0 cdv A0 outer s H E).env) :: starEach es (dx P w K mg base N0 qual scope f0 cdv A0 outer s H E).env := by rfl)
    (hpl : (backTo p' (starEach es (dx P w K mg base N0 qual scope f0 cdv A0 outer s H E).env)).any (·.1) = false := by rfl)
    (heL : starEach [.Call (.Name x p) (e :: es) [] p'] (dx P w K mg base N0 qual scope f0 cdv A0 outer s H E).env = (false, eval (.Call (.Name x p) (e :: es) [] p') (dx P w K mg base N0 qual scope f0 cdv A0 outer s H E).env) :: starEach [] (dx P w K mg base N0 qual scope f0 cdv A0 outer s H E).env := by rfl) :
    TrL (dx P w K mg base N0 qual scope f0 cdv A0 outer s H E) (.Call (.Name "list" p0) [.Call (.Name x p) (e :: es) [] p'] [] pos) (sLstG c tas) := by
  obtain ⟨f, fd, gy, m, kp, bs⟩ := L.ex
  exact trl_listG (X := dx P w K mg base N0 qual scope f0 cdv A0 outer s H E) gy (hr.mono l) m kp bs (fun _ _ h => h) frs_own frs_out ha hm hgl hgL hdb he hpl heL
theorem trl_listYK (L : LYK P w K mg base x k N kw c) (hr : Room n (dx P w K mg base N0 qual scope f0 cdv A0 outer s H E).A) (l : k + 1 ≤ n)
    (ha : TrE (dx P w K mg base N0 qual scope f0 cdv A0 outer s H E) e ta) (hm : mg "list" = none)
    (hgl : Gl (dx P w K mg base N0 qual scope f0 cdv A0 outer s H E) x := by rfl) (hgL : Gl (dx P w K mg base N0 qual scope f0 cdv A0 outer s H E) "list" := by rfl) (hdb : (x == ("__debug__" : Str)) = false := by decide)
    (hall : (backToKw p' (keywordEach [⟨some kw, e, kp'⟩] (dx P w K mg base N0 qual scope f0 cdv A0 outer s H E).env)).all (·.1.isSome) = true := by rfl) (hks : (backToKw p' (keywordEach [⟨some kw, e, kp'⟩] (dx P w K mg base N0 qual scope f0 cdv A0 outer s H E).env)).filterMap (·.1) = [kw] := by rfl)
    (hpl : ((backTo p' (starEach [] (dx P w K mg base N0 qual scope f0 cdv A0 outer s H E).env)).any (·.1) || (backToKw p' (keywordEach [⟨some kw, e, kp'⟩] (dx P w K mg base N0 qual scope f0 cdv A0 outer s H E).env)).any (·.1.isNone)) = false := by rfl)
    (heL : starEach [.Call (.Name x p) [] [⟨some kw, e, kp'⟩] p'] (dx P w K mg base N0 qual scope f0 cdv A0 outer s H E).env = (false, eval (.Call (.Name x p) [] [⟨some kw, e, kp'⟩] p') (dx P w K mg base N0 qual scope f0 cdv A0 outer s H E).env) :: starEach [] (dx P w K mg base N0 qual scope f0 cdv A0 outer s H E).env := by rfl) :
    TrL (dx P w K mg base N0 qual scope f0 cdv A0 outer s H E) (.Call (.Name "list" p0) [.Call (.Name x p) [] [⟨some kw, e, kp'⟩] p'] [] pos) (sLstG c (sCons ta sNil)) := by
  obtain ⟨f, fd, gy, m, kp, _, kb⟩ := L.ex
  exact trl_listGK (X := dx P w K mg base N0 qual scope f0 cdv A0 outer s H E) gy (hr.mono l) m kp kb (fun _ _ h => h) frs_own frs_out ha hm hgl hgL hdb hall hks hpl heL
end
end Wg

/-! drawn states; changes are judged -/
namespace W4
open PySem PySem.Spec PyProof.Rows L2 Cb Wl Wg
def pool7 : List Str := ["a", "add", "bob", "cy", "line", "ted", "zzzzzzzz"]
theorem pool_ok : ∀ x ∈ pool7, (x.cps.size ≤ 8 ∧ (x.cps.toList.all fun c => decide (c < 16 ^ 8)) = true) ∧ PyData.strOk x = true := by decide +kernel
def ExD (w : W) : Prop := ∃ r : Rat, w = .dat (qd r) ∧ 0 ≤ r ∧ Bd 15 r
def c__law_make_exact : CW := fun ws g Q => ∃ n m N : Nat, ws = [.ref n] ∧ drawn ExD 3 n m N g Q
abbrev N__law_make_exact : List Str := ["_law_rng", "_law_under"]
def t__law_make_exact : TSW := sSet 1 (sCallG c__law_pick (sCons (sVar 0) (sCons (sFrz (sLst (sCons (sI 1) (sCons (sI 2) (sCons (sI 2) (sCons (sI 2) (sCons (sI 3) (sCons (sI 3) (sCons (sI 4) (sCons (sI 5) (sCons (sI 10) (sNil)))))))))))) (sNil)))) (sRet (sCallP c__law_low (sCons (s2 (s2 (sI 1) (sCallG c__law_draw (sCons (sVar 0) (sCons (sCal (g2 kMax2) (sCons (sI 1) (sCons (s2 (sVar 1) (sI 1) gSub) (sNil)))) (sNil)))) gAdd) (s2 (sVar 1) (sCallG c__law_pick (sCons (sVar 0) (sCons (sFrz (sLst (sCons (sI 0) (sCons (sI 0) (sCons (sI 0) (sCons (sI 1) (sCons (sI 7) (sCons (sI 999) (sNil))))))))) (sNil)))) gMul) gAdd) (sCons (sVar 1) (sNil)))))
theorem me__law_make_exact : ∀ ws g Q, c__law_make_exact ws g Q → t__law_make_exact (endW Q) (startW N__law_make_exact ws) ⟨g, []⟩ := by
  rintro ws g Q ⟨n, m, N, rfl, hN, rg, q⟩
  refine ⟨by decide, ?_⟩
  refine ⟨_, rfl, n, m, N, ([1, 2, 2, 2, 3, 3, 4, 5, 10] : List Int).map PyData.int, rfl, by decide, by decide, by omega, rg, fun x hx ga rga => ?_⟩
  obtain ⟨u, hu, rfl⟩ := List.mem_map.mp hx
  have ub : 1 ≤ u ∧ u ≤ 10 := by
    have z : ∀ x ∈ ([1, 2, 2, 2, 3, 3, 4, 5, 10] : List Int), 1 ≤ x ∧ x ≤ 10 := by decide
    exact z u hu
  have mx : 0 < (if u - 1 > 1 then u - 1 else 1) ∧ (if u - 1 > 1 then u - 1 else 1) ≤ 10 := by split <;> omega
  refine ⟨_, rfl, n, m, N + 1, _, rfl, mx.1, by have := mx.2; omega, by omega, rga, fun z gb z0 z1 rgb => ?_⟩
  refine ⟨by decide, ?_⟩
  refine ⟨_, rfl, n, m, N + 1 + 1, ([0, 0, 0, 1, 7, 999] : List Int).map PyData.int, rfl, by decide, by decide, by omega, rgb, fun y hy gc rgc => ?_⟩
  obtain ⟨c, hc, rfl⟩ := List.mem_map.mp hy
  have cb : 0 ≤ c ∧ c ≤ 999 := by
    have z : ∀ x ∈ ([0, 0, 0, 1, 7, 999] : List Int), 0 ≤ x ∧ x ≤ 999 := by decide
    exact z c hc
  have ku : 0 ≤ u * c ∧ u * c ≤ 10 * 999 := ⟨Int.mul_nonneg (by omega) (by omega), Int.mul_le_mul ub.2 cb.2 (by omega) (by omega)⟩
  refine ⟨small_mul (by omega) (by omega), ?_⟩
  have u1 : u.natAbs < 2 ^ 4 := by
    have : (2 : Nat) ^ 4 = 16 := by decide
    omega
  refine ⟨_, rfl, 1 + z + u * c, u, rfl, by omega, Nat.lt_of_lt_of_le u1 (two_le (by decide)), rfl, ?_⟩
  have zb : z < 10 := by have := mx.2; omega
  exact q _ _ ⟨_, rfl, Rat.divInt_nonneg (by omega) (by omega), bd_div (by omega) (Nat.lt_trans (show (1 + z + u * c).natAbs < 20000 by omega) (by decide)) (Nat.lt_trans (show u.natAbs < 11 by omega) (by decide))⟩ rgc
/-- a line of the pool without cents -/
def LnB (l : Ln) : Prop := l.nm ∈ pool7 ∧ 0 ≤ l.ex ∧ Bd 15 l.ex
def BareD (most : Nat) (w : W) : Prop := ∃ rows : List Ln, w = .dat (rowsD rows) ∧ 1 ≤ rows.length ∧ rows.length ≤ most ∧ ∀ l ∈ rows, LnB l
def c__law_make_bare : CW := fun ws g Q => ∃ n m N most : Nat, ws = [.ref n, .dat (.int 1), .dat (.int (most : Int))] ∧ 1 ≤ most ∧ most ≤ 6 ∧ drawn (BareD most) 40 n m N g Q
abbrev N__law_make_bare : List Str := ["_law_rng", "_law_least", "_law_most", "_law_names", "_law_name"]
abbrev e__law_make_bare : TW := (sTup (sCons (sVar 4) (sCons (sCallG c__law_make_exact (sCons (sVar 0) (sNil))) (sCons (sI 0) (sCons (s2 (sCallG c__law_draw (sCons (sVar 0) (sCons (sI 6) (sNil)))) (sI 0) (gGt)) (sNil))))))
def t__law_make_bare : TSW := sSet 3 (sFrz (sCalL kSort (sCons (sCallG c__law_sample (sCons (sVar 0) (sCons (sFrz (sLst (sCons (sStr "a") (sCons (sStr "add") (sCons (sStr "bob") (sCons (sStr "cy") (sCons (sStr "line") (sCons (sStr "ted") (sCons (sStr "zzzzzzzz") (sNil)))))))))) (sCons (s2 (sVar 1) (sCallG c__law_draw (sCons (sVar 0) (sCons (sVar 2) (sNil)))) gAdd) (sNil))))) (sNil)))) (sRet (sCal (g1 kTup) (sCons (sFrz (sLc (sItems (sVar 3)) (bName 4) sYes e__law_make_bare [4])) (sNil))))
theorem alike_strs (xs : List Str) : PySem.W.AllAlike (xs.map PyData.str) := PySem.W.AllAlike.of (enc := PyData.str) fun _ _ => by simp [PySem.W.alike]
theorem sortable_strs (xs : List Str) : PySem.W.Sortable (xs.map PyData.str) := by
  refine .inr fun d hd => ?_
  obtain ⟨x, _, rfl⟩ := List.mem_map.mp hd
  exact ⟨fun z => PyData.noConfusion z, fun _ z => PyData.noConfusion z⟩
theorem depth_strs (xs : List Str) : ∀ d ∈ xs.map PyData.str, d.depth ≤ 50 := fun d hd => by
  obtain ⟨x, _, rfl⟩ := List.mem_map.mp hd
  show 0 ≤ 50
  decide
theorem flatDs_strs : ∀ xs : List Str, flatD.flatDs (xs.map .str) = true
  | [] => rfl
  | x :: xs => by
    show (flatD (.str x) && flatD.flatDs (xs.map .str)) = true
    rw [flatDs_strs xs]
    rfl
def sortS (xs : List Str) : List Str := xs.mergeSort fun a b => PySem.W.dataLe false id (PyData.str a) (PyData.str b)
theorem sort_strs (xs : List Str) : sortD (xs.map PyData.str) = (sortS xs).map PyData.str :=
  (List.map_mergeSort (r := fun a b => PySem.W.dataLe false id (PyData.str a) (PyData.str b)) (s := PySem.W.dataLe false id) (f := PyData.str) (l := xs) (fun a _ b _ => rfl)).symm
theorem me__law_make_bare : ∀ ws g Q, c__law_make_bare ws g Q → t__law_make_bare (endW Q) (startW N__law_make_bare ws) ⟨g, []⟩ := by
  rintro ws g Q ⟨n, m, N, most, rfl, m1, m6, hN, rg, q⟩
  refine ⟨by decide, ?_⟩
  refine ⟨_, rfl, n, m, N, most, rfl, by omega, by omega, by omega, rg, fun z ga z0 z1 rga => ?_⟩
  obtain ⟨zn, rfl⟩ := Int.eq_ofNat_of_zero_le z0
  refine ⟨_, rfl, n, m, N + 1, 1 + zn, pool7, by rw [Int.natCast_add]; rfl, by show 1 + zn ≤ 7; omega, by decide, by omega, rga, fun names gb ln hp nd rgb => ?_⟩
  refine ⟨⟨flatDs_strs names, alike_strs names, sortable_strs names, depth_strs names⟩, ?_⟩
  rw [sort_strs]
  have hps : ∀ x ∈ sortS names, x ∈ pool7 := fun x hx => hp x ((List.mergeSort_perm _ _).mem_iff.mp hx)
  have lns : (sortS names).length = 1 + zn := by
    unfold sortS
    rw [(List.mergeSort_perm _ _).length_eq, ln]
  generalize sortS names = nms at hps lns
  refine ⟨len_mm (by omega), ?_⟩
  have loop : ∀ (xs : List Str) (rows : List Ln) (M : Nat) (x4 : Option U) (gc : List Ob), (∀ x ∈ xs, x ∈ pool7) → rows.length + xs.length = 1 + zn → (∀ l ∈ rows, LnB l) → M + 4 * xs.length ≤ N + 40 → Rg n m M gc →
      compR (bName 4) sYes e__law_make_bare ((xs.map PyData.str).map .dat) (rows.map ld) [some (.v (.ref n)), some (.v (.dat (.int 1))), some (.v (.dat (.int (most : Int)))), some (.v (.dat (.list (nms.map .str)))), none] ⟨gc, []⟩ fun ds h1 => Q (.dat (.tuple ds)) h1.g := by
    intro xs
    induction xs with
    | nil =>
      intro rows M x4 gc _ hl ok hM rgc
      rw [List.length_nil] at hl hM
      exact q _ _ ⟨rows, rfl, by omega, by omega, ok⟩ (rgc.le (by omega))
    | cons x xs ih =>
      intro rows M x4 gc hx hl ok hM rgc
      rw [List.length_cons] at hl hM
      refine ⟨_, rfl, ?_⟩
      refine ⟨_, rfl, n, m, M, rfl, by omega, rgc, fun w gd ⟨r, ew, r0, rb⟩ rgd => ?_⟩
      subst ew
      refine ⟨_, rfl, n, m, M + 3, 6, rfl, by decide, by decide, by omega, rgd, fun z ge z0 z1 rge => ?_⟩
      refine ⟨l4, ?_⟩
      have := ih (rows ++ [⟨x, r, 0, decide (0 < z)⟩]) (M + 3 + 1) none ge (fun y hy => hx y (List.mem_cons_of_mem _ hy)) (by rw [List.length_append, List.length_singleton]; omega) (fun l hl => by
        rcases List.mem_append.mp hl with h | h
        · exact ok l h
        · rw [List.mem_singleton.mp h]
          exact ⟨hx x List.mem_cons_self, r0, rb⟩) (by omega) rge
      rw [List.map_append] at this
      exact this
  have := loop nms [] (N + 1 + (1 + zn)) none gb hps (by rw [lns]; simp) (fun _ h => by cases h) (by omega) rgb
  exact this
end W4

/-! k46: changes are judged; the law -/
namespace W4
open PySem PySem.Spec PyProof.Rows L2 Cb Wl Wg
/-! what corrected finds -/
theorem best_mem {rows : List Ln} : ∀ (ss : List (List Ln)) (b0 : Option (List Int)) (b : List Int), ss.foldl (better rows) b0 = some b → (b0 = some b ∨ ∃ s ∈ ss, b = chgs s rows) ∧ (∀ s ∈ ss, sizeI b ≤ sizeI (chgs s rows)) ∧ ∀ c, b0 = some c → sizeI b ≤ sizeI c
  | [], b0, b, e => ⟨.inl e, fun s h => by (cases h), fun c h => by
    have e : b0 = some b := e
    rw [h] at e
    cases e
    exact Int.le_refl _⟩
  | s :: ss, b0, b, e => by
    have e : ss.foldl (better rows) (better rows b0 s) = some b := e
    obtain ⟨h1, h2, h3⟩ := best_mem ss _ b e
    have key : ∃ c, better rows b0 s = some c ∧ (c = chgs s rows ∨ b0 = some c) ∧ sizeI c ≤ sizeI (chgs s rows) ∧ ∀ d, b0 = some d → sizeI c ≤ sizeI d := by
      unfold better
      cases b0 with
      | none => exact ⟨_, rfl, .inl rfl, Int.le_refl _, fun d h => by cases h⟩
      | some d =>
        dsimp only
        split
        · exact ⟨_, rfl, .inl rfl, Int.le_refl _, fun d' h => by cases h; omega⟩
        · exact ⟨_, rfl, .inr rfl, by omega, fun d' h => by cases h; exact Int.le_refl _⟩
    obtain ⟨c, ec, hc, hs, hd⟩ := key
    have bc := h3 c ec
    refine ⟨?_, fun t ht => ?_, fun d h => Int.le_trans bc (hd d h)⟩
    · rcases h1 with h | ⟨t, ht, rfl⟩
      · rw [ec] at h
        cases h
        rcases hc with rfl | h
        · exact .inr ⟨s, List.mem_cons_self, rfl⟩
        · exact .inl h
      · exact .inr ⟨t, List.mem_cons_of_mem _ ht, rfl⟩
    · rcases List.mem_cons.mp ht with rfl | ht
      · exact Int.le_trans bc hs
      · exact h2 t ht
theorem best_none {rows : List Ln} : ∀ (ss : List (List Ln)) (b0 : Option (List Int)), ss.foldl (better rows) b0 = none → b0 = none ∧ ss = []
  | [], b0, e => ⟨e, rfl⟩
  | s :: ss, b0, e => by
    have e : ss.foldl (better rows) (better rows b0 s) = none := e
    obtain ⟨h, _⟩ := best_none ss _ e
    unfold better at h
    cases b0 with
    | none => cases h
    | some d =>
      dsimp only at h
      split at h <;> cases h
theorem zipC_ct {rows : List Ln} {c : List Int} (h : c.length = rows.length) : (zipC rows c).map (fun l => l.ct) = c := by
  unfold zipC
  induction rows generalizing c with
  | nil => rw [List.eq_nil_of_length_eq_zero h]; rfl
  | cons l rows ih =>
    cases c with
    | nil => cases h
    | cons x c =>
      rw [List.zipWith_cons_cons, List.map_cons, ih (by simpa using h)]
theorem chgs_zip : ∀ {rows : List Ln} {c : List Int}, c.length = rows.length → (List.range rows.length).map (fun k => (rows.getD k nil0).ct + (chgs (zipC rows c) rows).getD k 0) = c := fun {rows c} h => by
  refine List.ext_getElem? fun i => ?_
  by_cases hi : i < rows.length
  · have hc : i < c.length := by omega
    have ez : (zipC rows c)[i]? = some ⟨rows[i].nm, rows[i].ex, c[i], rows[i].on⟩ := by
      unfold zipC
      rw [List.getElem?_zipWith, List.getElem?_eq_getElem hi, List.getElem?_eq_getElem hc]
    have e1 : (chgs (zipC rows c) rows).getD i 0 = c[i] - rows[i].ct := by
      unfold chgs
      rw [List.getD_eq_getElem?_getD, List.getElem?_map, List.getElem?_zip_eq_some (z := (⟨rows[i].nm, rows[i].ex, c[i], rows[i].on⟩, rows[i])) |>.mpr ⟨ez, List.getElem?_eq_getElem hi⟩]
      rfl
    rw [List.getElem?_map, List.getElem?_range hi, List.getElem?_eq_getElem hc, Option.map_some, e1, List.getD_eq_getElem?_getD, List.getElem?_eq_getElem hi]
    show some (rows[i].ct + (c[i] - rows[i].ct)) = some c[i]
    congr 1
    omega
  · rw [List.getElem?_eq_none (by rw [List.length_map, List.length_range]; omega), List.getElem?_eq_none (by omega)]
theorem absI_sub (a b : Int) : absI (a - b) = absI (b - a) := by
  unfold absI
  split <;> split <;> omega
theorem dist_size {rows s : List Ln} (h : s.length = rows.length) : distL rows s = sizeI (chgs s rows) := by
  unfold distL sizeI
  congr 1
  refine List.ext_getElem? fun i => ?_
  by_cases hi : i < rows.length
  · have hs : i < s.length := by omega
    unfold chgs
    rw [List.getElem?_map, List.getElem?_range hi, List.getElem?_map, List.getElem?_map, (List.getElem?_zip_eq_some (z := (s[i], rows[i]))).mpr ⟨List.getElem?_eq_getElem hs, List.getElem?_eq_getElem hi⟩, Option.map_some, List.getD_eq_getElem?_getD, List.getD_eq_getElem?_getD, List.getElem?_eq_getElem hi, List.getElem?_eq_getElem hs]
    show some (absI (rows[i].ct - s[i].ct)) = some (absI (s[i].ct - rows[i].ct))
    rw [absI_sub]
  · rw [List.getElem?_eq_none (by rw [List.length_map, List.length_range]; omega), List.getElem?_eq_none (by unfold chgs; rw [List.length_map, List.length_map, List.length_zip]; omega)]
theorem chgs_full {s rows : List Ln} (h : s.length = rows.length) : (chgs s rows).length = rows.length := by
  unfold chgs
  rw [List.length_map, List.length_zip, h, Nat.min_self]
/-! shapes -/
theorem lay_ld {l : Ln} (h : PyData.strOk l.nm = true) : (ld l).canLay0 = true := by
  unfold Wl.ld qd
  simp [PyData.canLay0, PyData.canLayAll0, h]
theorem lay_all {α : Type} {enc : α → PyData} : ∀ {as : List α}, (∀ a ∈ as, (enc a).canLay0 = true) → PyData.canLayAll0 (as.map enc) = true
  | [], _ => by simp [PyData.canLayAll0]
  | a :: as, h => by
    rw [List.map_cons, PyData.canLayAll0, h a List.mem_cons_self, lay_all fun b hb => h b (List.mem_cons_of_mem _ hb)]
    rfl
theorem lay_rows {rows : List Ln} (h : ∀ l ∈ rows, PyData.strOk l.nm = true) : (rowsD rows).canLay0 = true := by
  unfold rowsD
  rw [PyData.canLay0]
  exact lay_all fun l hl => lay_ld (h l hl)
theorem depth_rows (rows : List Ln) : (rowsD rows).depth ≤ 50 := by
  show PyData.depthAll (rows.map ld) + 1 ≤ 50
  have := depth_all (k := 2) (ds := rows.map ld) fun d hd => by
    obtain ⟨l, _, rfl⟩ := List.mem_map.mp hd
    show 2 ≤ 2
    decide
  omega
theorem plain_rows (rows : List Ln) : (rowsD rows).plain = true := by
  show PyData.plainAll (rows.map ld) = true
  exact plain_all fun d hd => by
    obtain ⟨l, _, rfl⟩ := List.mem_map.mp hd
    rfl
theorem pd_rows (rows : List Ln) : (rowsD rows).plain = true ∧ (rowsD rows).depth ≤ 50 := ⟨plain_rows rows, depth_rows rows⟩
theorem shaped_rows {rows : List Ln} (h : ∀ l ∈ rows, PyData.strOk l.nm = true) : SeqAt.shaped (rowsD rows) = true := by
  unfold SeqAt.shaped
  rw [lay_rows h, Bool.true_and]
  exact decide_eq_true (by have := depth_rows rows; omega)
theorem shaped_rowss {rs : List (List Ln)} (h : ∀ rows ∈ rs, ∀ l ∈ rows, PyData.strOk l.nm = true) : SeqAt.shaped (.list (rs.map rowsD)) = true := by
  unfold SeqAt.shaped
  rw [PyData.canLay0, lay_all fun rows hr => lay_rows (h rows hr), Bool.true_and]
  refine decide_eq_true ?_
  show PyData.depthAll (rs.map rowsD) + 1 ≤ 64
  have := depth_all (k := 50) (ds := rs.map rowsD) fun d hd => by
    obtain ⟨l, _, rfl⟩ := List.mem_map.mp hd
    exact depth_rows l
  omega
/-- a state of the pool -/
def StC (rows : List Ln) : Prop := RowsK rows ∧ ∀ l ∈ rows, l.nm ∈ pool7
theorem StC.str {rows : List Ln} (h : StC rows) : ∀ l ∈ rows, PyData.strOk l.nm = true := fun l hl => (pool_ok _ (h.2 l hl)).2
theorem zip_nm {rows : List Ln} {c : List Int} (h : ∀ l ∈ rows, l.nm ∈ pool7) : ∀ l ∈ zipC rows c, l.nm ∈ pool7 := by
  intro l hl
  unfold zipC at hl
  obtain ⟨i, hi, e⟩ := List.mem_iff_getElem.mp hl
  rw [List.getElem_zipWith] at e
  subst e
  exact h (rows[i]'(by rw [List.length_zipWith] at hi; omega)) (List.getElem_mem _)
def c__law_check_changes : CW := fun ws g Q => ∃ rows : List Ln, ws = [.dat (rowsD rows), .dat (.list ((openL rows).map rowsD)), .dat (optD (bestOf rows))] ∧ StC rows ∧ Q (.dat (.bool true)) g
abbrev N__law_check_changes : List Str := ["_law_here", "_law_free", "_law_changes", "_law_after", "_law_nearest", "_law_one", "_law_k"]
abbrev y__law_check_changes : TSW := (sSet 4 (sCal (g1 kMinL) (sCons (sFrz (sLc (sItems (sVar 1)) (bName 5) sYes (sCallP c__law_distance (sCons (sVar 0) (sCons (sVar 5) (sNil)))) [5])) (sNil))) (sRet (sAndV (s2 (sVar 3) (sVar 1) (gInD false)) (s2 (sCallP c__law_distance (sCons (sVar 0) (sCons (sVar 3) (sNil)))) (sVar 4) (gEq id)))))
abbrev z__law_check_changes : TSW := (sSet 3 (sCallP c__law_with_counts (sCons (sVar 0) (sCons (sFrz (sLc (sRng1 (sCons (sCal (g1 kLen) (sCons (sVar 0) (sNil))) (sNil))) (bName 6) sYes (s2 (s2 (s2 (sVar 0) (sVar 6) gIx) (sI 2) gIx) (s2 (sVar 2) (sVar 6) gIx) gAdd) [6])) (sNil)))) y__law_check_changes)
def t__law_check_changes : TSW := sIfS (sOr (sB (s2 (sVar 2) (sNone) (gIs id))) (sB (s2 (sVar 1) (sFrz (sLst (sNil))) (gEq id)))) (sRet (sAndV (s2 (sVar 2) (sNone) (gIs id)) (s2 (sVar 1) (sFrz (sLst (sNil))) (gEq id)))) (sEnd) (sIfS (sOr (sNot (sB (sIsi "tuple" (sVar 2)))) (sB (s2 (sCal (g1 kLen) (sCons (sVar 2) (sNil))) (sCal (g1 kLen) (sCons (sVar 0) (sNil))) (gEq not)))) (sRet (sBl false)) (sEnd) (sIfS (sB (s2 (sFrz (sLc (sItems (sVar 2)) (bName 5) (sOr (sNot (sB (sIsi "int" (sVar 5)))) (sB (sIsi "bool" (sVar 5)))) (sVar 5) [5])) (sFrz (sLst (sNil))) (gEq not))) (sRet (sBl false)) (sEnd) z__law_check_changes))
theorem kit_tt : kitB "tuple" "tuple" = some true := by decide +kernel
theorem kit_ii : kitB "int" "int" = some true := by decide +kernel
theorem kit_ib : kitB "int" "bool" = some false := by decide +kernel
theorem filter_false {α : Type} (l : List α) : (l.filter fun _ => false) = [] := List.filter_eq_nil_iff.mpr fun _ _ => by simp
theorem me__law_check_changes : ∀ ws g Q, c__law_check_changes ws g Q → t__law_check_changes (endW Q) (startW N__law_check_changes ws) ⟨g, []⟩ := by
  rintro ws g Q ⟨rows, rfl, ok, q⟩
  have l8 := ok.1.1
  cases hb : bestOf rows with
  | none =>
    have e : openL rows = [] := (best_none (openL rows) none hb).2
    rw [e]
    refine ⟨by decide, ?_⟩
    exact gEq_ok (f := id) (h := ⟨g, []⟩) rfl rfl ⟨rfl, by decide⟩ rfl q
  | some b =>
    obtain ⟨h1, h2, _⟩ := best_mem (openL rows) none b hb
    obtain ⟨s, hs, rfl⟩ := h1.resolve_left (fun z => by cases z)
    obtain ⟨c, hc, rfl, hf⟩ := open_mem hs
    have lc := waysL_el c hc
    have lz := zipC_len lc
    have lb := chgs_full lz
    have ne : (openL rows).isEmpty = false := by
      cases e : openL rows with
      | nil => rw [e] at hs; cases hs
      | cons a l => rfl
    have len_open : (openL rows).length ≤ 256 := by
      unfold openL
      refine Nat.le_trans (List.length_filter_le _ _) ?_
      rw [List.length_map]
      exact waysL_len l8
    refine ⟨by decide, ?_⟩
    refine gEq_ok (f := id) (h := ⟨g, []⟩) rfl rfl (plainL pd_rows) rfl ?_
    show (if PyData.eqv (.list _) (.list []) = true then _ else _)
    rw [eqv_nilD, map_empty, ne, if_neg (by decide)]
    refine ⟨true, kit_tt, ?_⟩
    refine ⟨⟨rfl, by show 0 ≤ 60; decide⟩, ?_⟩
    show (if (!PyData.eqv (.int (((chgs (zipC rows c) rows).map PyData.int).length : Int)) (.int ((rows.map Wl.ld).length : Int))) = true then _ else _)
    rw [List.length_map, List.length_map, lb, eqI, beq_self_eq_true, if_neg (by decide)]
    refine ⟨len_mm (by omega), ?_⟩
    refine comp_flt (enc := .int) (f := .int) (fun _ => false) (fun x => _) (chgs (zipC rows c) rows) (fun x _ => rfl) (fun x _ Q' q' => ⟨true, kit_ii, false, kit_ib, q'⟩) (fun x _ h => by cases h) ?_
    rw [filter_false]
    refine ⟨by decide, ?_⟩
    refine gEq_ok (f := not) (h := ⟨g, []⟩) rfl rfl ⟨rfl, by decide⟩ rfl ?_
    show z__law_check_changes (endW Q) [some (.v (.dat (rowsD rows))), some (.v (.dat (.list ((openL rows).map rowsD)))), some (.v (.dat (rowI (chgs (zipC rows c) rows)))), none, none, none, none] ⟨g, []⟩
    show -(2 ^ 62) ≤ (((rows.map Wl.ld).length : Nat) : Int) ∧ (((rows.map Wl.ld).length : Nat) : Int) < 2 ^ 62 ∧ (rangeW 0 ((((rows.map Wl.ld).length : Nat) : Int)).toNat).length ≤ 100000 ∧ compR _ _ _ (rangeW 0 ((((rows.map Wl.ld).length : Nat) : Int)).toNat) _ _ _ _
    rw [List.length_map, rangeW_nat]
    refine ⟨by omega, by omega, by rw [List.length_map, List.length_map, List.length_range]; omega, ?_⟩
    refine comp_map (enc := natD) (f := fun k => .int ((rows.getD k nil0).ct + (chgs (zipC rows c) rows).getD k 0)) (fun k => _) (List.range rows.length) [] (fun k _ => rfl) (fun k hk Q' q' => ?_) ?_
    · have hk : k < rows.length := List.mem_range.mp hk
      exact ⟨_, atI_nat (at_map nil0 hk), _, rfl, _, atI_nat (at_map 0 (by omega)), q'⟩
    rw [List.nil_append, map_int, chgs_zip lc]
    refine ⟨_, rfl, rows, c, intsL c, rfl, .inr rfl, lc, by omega, rfl, ?_⟩
    refine ⟨len_mm (by omega), ?_⟩
    have lo : ∀ t ∈ openL rows, rows.length = t.length := fun t ht => by
      obtain ⟨d, hd, rfl, _⟩ := open_mem ht
      exact (zipC_len (waysL_el d hd)).symm
    refine comp_map (enc := rowsD) (f := fun t => .int (distL rows t)) (fun t => _) (openL rows) [] (fun t _ => rfl) (fun t ht Q' q' => ⟨_, rfl, rows, t, rfl, lo t ht, by omega, rfl, q'⟩) ?_
    refine ⟨(openL rows).map (distL rows), congrArg some (map_int (f := distL rows)), ?_, fun m hm hy => ?_⟩
    · rw [List.length_map]
      exact List.length_pos_of_mem hs
    have em : m = distL rows (zipC rows c) := by
      obtain ⟨t, ht, rfl⟩ := List.mem_map.mp hm
      have a1 := hy _ (List.mem_map.mpr ⟨_, hs, rfl⟩)
      have a2 := h2 t ht
      rw [← dist_size lz, ← dist_size (lo t ht).symm] at a2
      omega
    subst em
    have okz : ∀ t ∈ openL rows, ∀ l ∈ t, PyData.strOk l.nm = true := fun t ht l hl => by
      obtain ⟨d, hd, rfl, _⟩ := open_mem ht
      exact (pool_ok _ (zip_nm ok.2 l hl)).2
    refine ⟨⟨shaped_rows (okz _ hs), shaped_rowss okz⟩, ?_⟩
    have any : (((openL rows).map rowsD).any fun e => PyData.eqv e (rowsD (zipC rows c))) = true := List.any_eq_true.mpr ⟨_, List.mem_map.mpr ⟨_, hs, rfl⟩, SeqAt.eqv_refl_plain _ (plain_rows _)⟩
    show (if (((openL rows).map rowsD).any fun e => PyData.eqv e (rowsD (zipC rows c))) = true then _ else _)
    rw [any, if_pos rfl]
    refine ⟨_, rfl, rows, _, rfl, lz.symm, by omega, rfl, ?_⟩
    refine ⟨⟨rfl, by show 0 ≤ 60; decide⟩, ?_⟩
    show Q (.dat (.bool (PyData.eqv (.int _) (.int _)))) g
    rw [eqI, beq_self_eq_true]
    exact q
end W4

/-! k46: the law -/
namespace W4
open PySem PySem.Spec PyProof.Rows L2 Cb Wl Wg
theorem shw_row {l : Ln} (h : l.nm ∈ pool7) (k : LnK l) : Shw 2 339 (Wl.ld l) :=
  (shw_tup (k := 1) (L := 82) (n := 4) (fun d hd => mem4 (P := Shw 1 82) ((shw_str (pool_ok _ h).1.1 (pool_ok _ h).1.2).mono (by decide) (by decide)) ((shw_qd k.1 (by decide)).mono (by decide) (by decide)) ((shw_int k.2 (by decide)).mono (by decide) (by decide)) (shw_bool.mono (by decide) (by decide)) hd) (Nat.le_refl _)).mono (by decide) (by decide)
theorem StC.shw {rows : List Ln} (h : StC rows) : Shw 3 2731 (rowsD rows) :=
  (shw_tup (k := 2) (L := 339) (n := 8) (fun d hd => by
    obtain ⟨l, hl, rfl⟩ := List.mem_map.mp hd
    exact shw_row (h.2 l hl) (h.1.2 l hl)) (by rw [List.length_map]; exact h.1.1)).mono (by decide) (by decide)
theorem open_len {rows : List Ln} (h : rows.length ≤ 8) : (openL rows).length ≤ 256 := by
  unfold openL
  refine Nat.le_trans (List.length_filter_le _ _) ?_
  rw [List.length_map]
  exact waysL_len h
theorem StC.open_ {rows : List Ln} (h : StC rows) : ∀ s ∈ openL rows, StC s := fun s hs => by
  obtain ⟨c, hc, rfl, _⟩ := open_mem hs
  exact ⟨rowsK_zip h.1 hc, zip_nm h.2⟩
theorem StC.shwL {rows : List Ln} (h : StC rows) : Shw 4 700000 (.list ((openL rows).map rowsD)) :=
  (shw_lst (k := 3) (L := 2731) (n := 256) (fun d hd => by
    obtain ⟨s, hs, rfl⟩ := List.mem_map.mp hd
    exact (h.open_ s hs).shw) (by rw [List.length_map]; exact open_len h.1.1)).mono (by decide) (by decide)
/-- cents of a bare state near its exact values -/
theorem stC_of {rows : List Ln} {ns : List Int} (h6 : rows.length ≤ 6) (ok : ∀ l ∈ rows, LnB l) (hl : ns.length = rows.length) (hb : ∀ v ∈ ns, v.natAbs < 2 ^ 20) : StC (zipC rows ns) := by
  refine ⟨⟨by rw [zipC_len hl]; omega, fun x hx => ?_⟩, zip_nm fun l h => (ok l h).1⟩
  unfold zipC at hx
  obtain ⟨i, hi, e⟩ := List.mem_iff_getElem.mp hx
  rw [List.getElem_zipWith] at e
  subst e
  rw [List.length_zipWith] at hi
  have hr : i < rows.length := by omega
  have hn : i < ns.length := by omega
  exact ⟨(ok rows[i] (List.getElem_mem hr)).2.2.mono (by decide), hb ns[i] (List.getElem_mem hn)⟩
def c__law_stream : CW := fun ws g Q => ∃ ns : List Int, ws = [.scr ns] ∧ ∀ n m g', Rg n m 0 g' → Q (.ref n) g'
abbrev c_law : CW := c_lawW
abbrev N_law : List Str := ["_law_script", "_law_rng", "_law_lap", "_law_here", "_law_free", "_law_before", "_law_found", "_law_one", "_law_changes", "_law_row"]
abbrev cnt_law : TW := (s2 (sCallP c__law_down (sCons (s2 (sVar 9) (sI 1) gIx) (sNil))) (sCallG c__law_pick (sCons (sVar 1) (sCons (sFrz (sLst (sCons (sI 0) (sCons (sI 0) (sCons (sI 1) (sCons (sI 1) (sCons (sNeg (sI 1)) (sCons (sI 2) (sNil))))))))) (sNil)))) gAdd)
abbrev f_law : TSW := (sExpr (sOwnM 6 fApp (sCons (sVar 7) (sNil))) (sEnd))
abbrev g_law : TSW := (sIfS (sOr (sB (s2 (sCal (g1 kReprA) (sCons (sVar 6) (sNil))) (sCal (g1 kReprA) (sCons (sVar 4) (sNil))) (gEq not))) (sB (s2 (sCal (g1 kReprA) (sCons (sFrz (sLstG c_open_states (sCons (sVar 3) sNil))) (sNil))) (sCal (g1 kReprA) (sCons (sVar 4) (sNil))) (gEq not)))) (sRet (sBl false)) (sEnd) (sEnd))
abbrev k_law : TSW := (sIfS (sNot (sB (sCallP c__law_check_changes (sCons (sVar 3) (sCons (sVar 4) (sCons (sVar 8) (sNil))))))) (sRet (sBl false)) (sEnd) (sEnd))
abbrev x_law : TSW := (sIfS (sB (s2 (sCal (g1 kReprA) (sCons (sVar 3) (sNil))) (sVar 5) (gEq not))) (sRet (sBl false)) (sEnd) (sEnd))
abbrev w_law : TSW := (sFor (sItems (sTup (sCons (sCallP c_corrected (sCons (sVar 3) (sNil))) (sCons (sCallP c_corrected (sCons (sVar 3) sNil)) (sNil))))) (bName 8) k_law x_law)
abbrev d_law : TSW := (sPar 4 5 (sCallP c__law_open_ways (sCons (sVar 3) (sNil))) (sCal (g1 kReprA) (sCons (sVar 3) (sNil))) (sIfS (sB (s2 (sCal (g1 kLen) (sCons (sVar 3) (sNil))) (sI 5) (gLt))) (sSet 6 (sOwn (sLst (sNil))) (sForG c_open_states (sCons (sVar 3) (sNil)) (bName 7) f_law g_law)) (sEnd) w_law))
abbrev b_law : TSW := (sSet 3 (sCallG c__law_make_bare (sCons (sVar 1) (sCons (sI 1) (sCons (sIf (sB (s2 (s2 (sVar 2) (sI 2) gMod) (sI 0) (gEq id))) (sI 4) (sI 6)) (sNil))))) (sSet 3 (sCallP c__law_with_counts (sCons (sVar 3) (sCons (sFrz (sLc (sItems (sVar 3)) (bName 9) sYes cnt_law [9])) (sNil)))) d_law))
def t_law : TSW := sSet 1 (sCallG c__law_stream (sCons (sVar 0) (sNil))) (sFor (sRng1 (sCons (sI 6) (sNil))) (bName 2) b_law (sRet (sBl true)))
theorem rdU_l {h : Hw} {k : Nat} {ds : List PyData} (e : h.l[k]? = some (.lsd ds)) : rdU h (.l k) = some (.list ds) := by
  unfold rdU
  dsimp only
  rw [e]
/-- the part behind the drawn state -/
theorem law_mid {D : EnW} {ns : List Int} {n : Nat} {rows : List Ln} (ok : StC rows) {ga : List Ob} {rest : List Ob} {x2 x4 x5 x6 x7 x8 x9 : Option U}
    (k : ∀ y4 y5 y6 y7 y8 rest', D.nx [some (.v (.scr ns)), some (.v (.ref n)), x2, some (.v (.dat (rowsD rows))), y4, y5, y6, y7, y8, x9] ⟨ga, rest'⟩) :
    d_law D [some (.v (.scr ns)), some (.v (.ref n)), x2, some (.v (.dat (rowsD rows))), x4, x5, x6, x7, x8, x9] ⟨ga, rest⟩ := by
  have l8 := ok.1.1
  have lo := open_len l8
  refine ⟨_, rfl, rows, rfl, ok.1, rfl, ?_⟩
  refine kReprA_ok (d := rowsD rows) rfl rfl ok.shw (by decide) (by decide) ?_
  have tail : ∀ y6 y7 rest', w_law D [some (.v (.scr ns)), some (.v (.ref n)), x2, some (.v (.dat (rowsD rows))), some (.v (.dat (.list ((openL rows).map rowsD)))), some (.v (.dat (.str (rowsD rows).shown))), y6, y7, x8, x9] ⟨ga, rest'⟩ := by
    intro y6 y7 rest'
    refine ⟨_, rfl, rows, rfl, ok.1, rfl, ?_⟩
    refine ⟨_, rfl, rows, rfl, ok.1, rfl, ?_⟩
    refine ⟨l2, ?_⟩
    refine ⟨_, rfl, ?_⟩
    refine ⟨_, rfl, rows, rfl, ok, rfl, ?_⟩
    refine ⟨_, rfl, ?_⟩
    refine ⟨_, rfl, rows, rfl, ok, rfl, ?_⟩
    refine kReprA_ok (d := rowsD rows) rfl rfl ok.shw (by decide) (by decide) ?_
    refine ⟨⟨rfl, by show 0 ≤ 60; decide⟩, ?_⟩
    show (if (!(PyData.eqv (.str _) (.str _))) = true then _ else _)
    rw [eqv_str, beq_self_eq_true, if_neg (by decide)]
    exact k _ _ _ _ _ _
  show (if decide (((rows.map Wl.ld).length : Int) < 5) = true then _ else _)
  split
  · refine ⟨by decide, ?_⟩
    refine ⟨_, rfl, rfl, rows, rfl, ok.1, ?_⟩
    have loop : ∀ (ss acc : List (List Ln)) (x7 : Option U), openL rows = acc ++ ss → forR (bName 7) f_law (ss.map fun s => .dat (rowsD s)) { D with nx := g_law { D with nx := w_law D } } [some (.v (.scr ns)), some (.v (.ref n)), x2, some (.v (.dat (rowsD rows))), some (.v (.dat (.list ((openL rows).map rowsD)))), some (.v (.dat (.str (rowsD rows).shown))), some (.l rest.length), x7, x8, x9] ⟨ga, rest ++ [Ob.lsd (acc.map rowsD)]⟩ := by
      intro ss
      induction ss with
      | nil =>
        intro acc x7 e
        rw [List.append_nil] at e
        subst e
        refine kReprA_ok (h := ⟨ga, rest ++ [Ob.lsd ((openL rows).map rowsD)]⟩) (d := .list ((openL rows).map rowsD)) (rdU_l snoc_last) rfl ok.shwL (by decide) (by decide) ?_
        refine kReprA_ok (d := .list ((openL rows).map rowsD)) rfl rfl ok.shwL (by decide) (by decide) ?_
        refine ⟨⟨rfl, by show 0 ≤ 60; decide⟩, ?_⟩
        show (if (!(PyData.eqv (.str _) (.str _))) = true then _ else _)
        rw [eqv_str, beq_self_eq_true, if_neg (by decide)]
        refine ⟨_, rfl, rfl, rows, rfl, ok.1, (openL rows).map rowsD, by rw [List.map_map]; rfl, by rw [List.length_map]; omega, ?_⟩
        refine kReprA_ok (d := .list ((openL rows).map rowsD)) rfl rfl ok.shwL (by decide) (by decide) ?_
        refine kReprA_ok (d := .list ((openL rows).map rowsD)) rfl rfl ok.shwL (by decide) (by decide) ?_
        refine ⟨⟨rfl, by show 0 ≤ 60; decide⟩, ?_⟩
        show (if (!(PyData.eqv (.str _) (.str _))) = true then _ else _)
        rw [eqv_str, beq_self_eq_true, if_neg (by decide)]
        exact tail _ _ _
      | cons s ss ih =>
        intro acc x7 e
        refine ⟨_, rfl, ?_⟩
        show sOwnM 6 fApp _ _ _ _
        refine ownM_in (k := rest.length) (ds := acc.map rowsD) rfl snoc_last ?_
        dsimp only [sNil, sCons]
        refine var_ok (i := 7) (u := .v (.dat (rowsD s))) rfl ?_
        refine ownK_ok (h1 := ⟨ga, rest ++ [Ob.lsd (acc.map rowsD)]⟩) (ds := acc.map rowsD) snoc_last ?_
        refine ⟨?_, ?_⟩
        · rw [List.length_map]
          have := congrArg List.length e
          rw [List.length_append] at this
          omega
        · show forR (bName 7) f_law (ss.map fun s => .dat (rowsD s)) _ _ ⟨ga, (rest ++ [Ob.lsd (acc.map rowsD)]).set rest.length (Ob.lsd (acc.map rowsD ++ [rowsD s]))⟩
          rw [snoc_set]
          have := ih (acc ++ [s]) (some (.v (.dat (rowsD s)))) (by rw [e, List.append_assoc]; rfl)
          rw [List.map_append] at this
          exact this
    exact loop (openL rows) [] x7 rfl
  · exact tail _ _ _
theorem me_law : ∀ ws g Q, c_law ws g Q → t_law (endW Q) (startW N_law ws) ⟨g, []⟩ := by
  rintro ws g Q ⟨ns, rfl, q⟩
  refine ⟨_, rfl, ns, rfl, fun n m ga rga => ?_⟩
  refine ⟨by decide, by decide, ?_⟩
  have loop : ∀ (laps : List Int) (N : Nat) (ga : List Ob) (x2 x3 x4 x5 x6 x7 x8 x9 : Option U) (rest : List Ob), N + 50 * laps.length ≤ 4900 → Rg n m N ga → forR (bName 2) b_law ((laps.map PyData.int).map .dat) { (endW Q) with nx := sRet (sBl true) (endW Q) } [some (.v (.scr ns)), some (.v (.ref n)), x2, x3, x4, x5, x6, x7, x8, x9] ⟨ga, rest⟩ := by
    intro laps
    induction laps with
    | nil => exact fun N ga x2 x3 x4 x5 x6 x7 x8 x9 rest _ _ => q ga
    | cons lap laps ih =>
      intro N ga x2 x3 x4 x5 x6 x7 x8 x9 rest hN rga
      rw [List.length_cons] at hN
      refine ⟨_, rfl, ?_⟩
      have key : ∀ most : Nat, 1 ≤ most → most ≤ 6 → ∃ ws, valU [.v (.ref n), .v (.dat (.int 1)), .v (.dat (.int (most : Int)))] = some ws ∧ c__law_make_bare ws ga fun w g' => sSet 3 (sCallP c__law_with_counts (sCons (sVar 3) (sCons (sFrz (sLc (sItems (sVar 3)) (bName 9) sYes cnt_law [9])) (sNil)))) d_law { nx := forR (bName 2) b_law ((laps.map PyData.int).map .dat) { (endW Q) with nx := sRet (sBl true) (endW Q) }, rt := (endW Q).rt, ct := forR (bName 2) b_law ((laps.map PyData.int).map .dat) { (endW Q) with nx := sRet (sBl true) (endW Q) }, bk := sRet (sBl true) (endW Q) } [some (.v (.scr ns)), some (.v (.ref n)), some (.v (.dat (.int lap))), some (.v w), x4, x5, x6, x7, x8, x9] ⟨g', rest⟩ := by
        intro most m1 m6
        refine ⟨_, rfl, n, m, N, most, rfl, m1, m6, by omega, rga, fun w gb ⟨rows, ew, r1, r2, ok⟩ rgb => ?_⟩
        subst ew
        refine ⟨len_mm (by omega), ?_⟩
        have cl : ∀ (ls : List Ln) (acc : List Int) (M : Nat) (gc : List Ob), (∀ l ∈ ls, l ∈ rows) → acc.length + ls.length = rows.length → (∀ v ∈ acc, v.natAbs < 2 ^ 20) → M + ls.length ≤ N + 46 → Rg n m M gc →
            ∀ Qd : List PyData → Hw → Prop, (∀ (cs : List Int) gd, cs.length = rows.length → (∀ v ∈ cs, v.natAbs < 2 ^ 20) → Rg n m (N + 46) gd → Qd (cs.map .int) ⟨gd, rest⟩) →
            compR (bName 9) sYes cnt_law ((ls.map Wl.ld).map .dat) (acc.map .int) [some (.v (.scr ns)), some (.v (.ref n)), some (.v (.dat (.int lap))), some (.v (.dat (rowsD rows))), x4, x5, x6, x7, x8, none] ⟨gc, rest⟩ Qd := by
          intro ls
          induction ls with
          | nil =>
            intro acc M gc _ hl hb hM rgc Qd kk
            rw [List.length_nil] at hl hM
            exact kk acc gc (by omega) hb (rgc.le (by omega))
          | cons l ls ih2 =>
            intro acc M gc hm hl hb hM rgc Qd kk
            rw [List.length_cons] at hl hM
            have hl0 := ok l (hm l List.mem_cons_self)
            refine ⟨_, rfl, ?_⟩
            refine ⟨_, rfl, _, rfl, l.ex, rfl, hl0.2.2.mono (by decide), rfl, ?_⟩
            refine ⟨by decide, ?_⟩
            refine ⟨_, rfl, n, m, M, ([0, 0, 1, 1, -1, 2] : List Int).map PyData.int, rfl, by decide, by decide, by omega, rgc, fun x hx gd rgd => ?_⟩
            obtain ⟨p, hp, rfl⟩ := List.mem_map.mp hx
            have pb : -1 ≤ p ∧ p ≤ 2 := by
              have z : ∀ x ∈ ([0, 0, 1, 1, -1, 2] : List Int), -1 ≤ x ∧ x ≤ 2 := by decide
              exact z p hp
            have db := (rnd_bd hl0.2.2).1
            have e15 : (2 : Nat) ^ 15 = 32768 := by decide
            have e20 : (2 : Nat) ^ 20 = 1048576 := by decide
            have := ih2 (acc ++ [dn l.ex + p]) (M + 1) gd (fun y hy => hm y (List.mem_cons_of_mem _ hy)) (by rw [List.length_append, List.length_singleton]; omega) (fun v hv => by
              rcases List.mem_append.mp hv with h | h
              · exact hb v h
              · rw [List.mem_singleton.mp h]
                omega) (by omega) rgd Qd kk
            rw [List.map_append] at this
            exact this
        refine cl rows [] (N + 40) gb (fun _ h => h) (by simp) (fun _ h => by cases h) (by omega) rgb _ fun cs gd lc hb rgd => ?_
        refine ⟨_, rfl, rows, cs, intsL cs, rfl, .inr rfl, lc, by omega, rfl, ?_⟩
        exact law_mid (stC_of (by omega) ok lc hb) fun y4 y5 y6 y7 y8 rest' => ih (N + 46) gd _ _ _ _ _ _ _ _ rest' (by omega) rgd
      refine ⟨(by decide : (0 : Int) < 2), ?_⟩
      refine ⟨⟨rfl, by show 0 ≤ 60; decide⟩, ?_⟩
      show (if (PyData.eqv (.int (lap % 2)) (.int 0)) = true then _ else _)
      split
      · exact key 4 (by decide) (by decide)
      · exact key 6 (by decide) (by decide)
  show forR (bName 2) b_law (rangeW 0 ((6 : Int)).toNat) _ _ _
  rw [show ((6 : Int)).toNat = (((6 : Nat) : Int)).toNat from rfl, rangeW_nat]
  have := loop ((List.range 6).map fun (i : Nat) => (i : Int)) 0 ga none none none none none none none none [] (by decide) rga
  rw [List.map_map (f := fun (i : Nat) => (i : Int))] at this
  exact this
end W4

/-! a tuple times an int -/
namespace Wl
open PySem PySem.Spec PyProof.Rows L2 Cb
theorem tuple_mul1 (l : Addr) (items : Array Value) (n : Nat) (dd : Option Addr) (sl : Array (Option Value)) (u : Tok) :
    Meets (Builtin.«tuple.__mul__» ⟨[.ref l, .int 1 u], []⟩) (fun _ R s => s.heap.get? l = some { cls := .type "tuple", dict := dd, data := .seq items n, slots := sl } ∧ R (.ok (.ret (Value.ref l))) s) :=
  .of_wp fun prog w A R s h => by
    obtain ⟨hp, g, d, tk, os⟩ := s
    obtain ⟨hl, h⟩ := h
    have f1 := AutoSeq1.idx_int
    have c1 : (items.isEmpty || (1 : Int) == 1) = true := by rw [Bool.or_eq_true]; exact .inr rfl
    wp_walk using wpAny_loadPart' hl
    repeat (first
      | (refine wpAny_ite_false (decide_eq_false (by decide)) ?_; wp_walk using wpAny_loadPart' hl)
      | (refine wpAny_ite_true (decide_eq_true c1) ?_; wp_walk using wpAny_loadPart' hl))
    exact ⟨_, rfl, h⟩
def rRepT1 (K : PySem.W.Frag) : R2 := fun x y H Q => ∃ l xs, x = .ref l ∧ y = .int 1 ∧ SqT K H l xs ∧ Q (.ref l) H
theorem op_repT1 {X : Cx} : OpR X (binaryOp .Mult) (rRepT1 X.K) := by
  intro pins s σ H x y v u Q I rx ry h
  obtain ⟨l, xs, rfl, rfl, hT, q⟩ := h
  cases rx
  obtain ⟨t, rfl⟩ := ry
  obtain ⟨its, r, ⟨⟨cls, dd, data, sl⟩, ho, hc, n, hd⟩, hs⟩ := I.tuple hT
  simp only at hc hd
  subst hc hd
  refine wpAny_binaryOp_repeat_ref (T := "tuple") (U := "int") (by decide) ⟨_, ho, rfl⟩ (fun s' => typeIs_int s' 1 t) noFill_tuple_mul F.fills_int_mul F.slot_int_rmul repeat_tuple F.slot_int_index.lookup
    (call_meets F.slot_int_rmul (typeIs_int s 1 t) F.entry_int_rmul (F.args_int_rmul_2 _ _) (int_rmul_tuple 1 t l its.toArray n dd sl)
      ⟨ho, rfl, ⟨_, ho, rfl⟩, call_meets F.slot_tuple_mul ⟨_, ho, rfl⟩ F.entry_tuple_mul (F.args_tuple_mul_2 _ _) (tuple_mul1 l its.toArray n dd sl t) ⟨ho, ?_⟩⟩)
  exact ⟨.ref l, H, I, rfl, q⟩
section
variable {K : PySem.W.Frag} {F : Addr → Prop} {H : Hp} {X : Cx}
theorem RDs.rep {ds : List PyData} {xs : List V} (t : RDs K F H ds xs) : ∀ n : Nat, RDs K F H (List.replicate n ds).flatten (List.replicate n xs).flatten
  | 0 => .nil
  | n + 1 => by
    rw [List.replicate_succ, List.replicate_succ, List.flatten_cons, List.flatten_cons]
    exact t.app (t.rep n)
/-- i * j, a tuple of data times an int from 1 on -/
def gMulT : U → U → Hw → QU → Prop := fun x y h Q => match x, y with
  | .v (.dat (.tuple ds)), .v (.dat (.int k)) => (ds ≠ [] ∧ ds.length ≤ 1000 ∧ 1 ≤ k ∧ k ≤ 1000) ∧ Q (.v (.dat (.tuple (List.replicate k.toNat ds).flatten))) h
  | _, _ => False
theorem ow_mulT : OpW X (binaryOp .Mult) gMulT := fun A h H x y v u Q R wr rx ry q k => by
  unfold gMulT at q
  split at q
  · rename_i ds i
    obtain ⟨⟨ne, hl, k1, k2⟩, q⟩ := q
    obtain ⟨a, xs, rfl, hq, t⟩ := ru_tup rx
    obtain rfl := ru_int ry
    by_cases h1 : i = 1
    · subst h1
      rw [show (List.replicate (1 : Int).toNat ds).flatten = ds by show (List.replicate 1 ds).flatten = ds; simp] at q
      exact ⟨_, op_repT1, a, xs, rfl, rfl, hq, k _ _ (.mk wr (.refl _) rx q)⟩
    · refine ⟨_, op_repT, a, i, xs, rfl, rfl, hq, fun e => ?_, by omega, k2, by rw [t.len]; exact hl, fun M hM => ?_⟩
      · have := t.len
        rw [e] at this
        exact ne (List.length_eq_zero_iff.mp this.symm)
      · have s : Same H (upd H M (.tup (List.replicate i.toNat xs).flatten)) := same_new hM
        exact k _ _ (.mk wr s (.dat (.tup (.of upd_same) (RDs.mono (.new hM) _ _ (t.rep _)))) q)
  · exact q.elim
end
end Wl

/-! k47: near states, all sums of some gaps, what makes a state open -/
namespace W4
open PySem PySem.Spec PyProof.Rows L2 Cb Wl Wg
/-! ### arithmetic -/
theorem foldl_add (x : Rat) : ∀ l : List Rat, l.foldl (· + ·) x = x + l.foldl (· + ·) 0
  | [] => by simp [Rat.add_zero]
  | r :: l => by
    rw [List.foldl_cons, List.foldl_cons, foldl_add (x + r), foldl_add (0 + r), Rat.zero_add, Rat.add_assoc]
theorem sumQ_cons {r : Rat} {rs : List Rat} : sumQ (r :: rs) = r + sumQ rs := by
  unfold sumQ
  rw [List.foldl_cons, foldl_add, Rat.zero_add]
theorem sumQ_nil : sumQ [] = 0 := rfl
/-- all sums of some of the values -/
def grp (rs : List Rat) : List Rat := rs.foldl (fun f r => f ++ f.map fun s => s + r) [0]
def posQ (rs : List Rat) : Rat := sumQ (rs.filter fun g => decide (0 < g))
def negQ (rs : List Rat) : Rat := sumQ ((rs.filter fun g => decide (g < 0)).map fun g => -g)
theorem posQ_snoc {rs : List Rat} {r : Rat} : posQ (rs ++ [r]) = if 0 < r then posQ rs + r else posQ rs := by
  unfold posQ
  rw [List.filter_append, filter_one]
  by_cases h : 0 < r
  · rw [if_pos (decide_eq_true h), if_pos h, sumQ_snoc']
  · rw [if_neg (by simpa using h), if_neg h, List.append_nil]
theorem negQ_snoc {rs : List Rat} {r : Rat} : negQ (rs ++ [r]) = if r < 0 then negQ rs - r else negQ rs := by
  unfold negQ
  rw [List.filter_append, List.map_append, filter_one]
  by_cases h : r < 0
  · rw [if_pos (decide_eq_true h), if_pos h, List.map_cons, List.map_nil, sumQ_snoc', Rat.sub_eq_add_neg]
  · rw [if_neg (by simpa using h), if_neg h, List.map_nil, List.append_nil]
theorem grp_snoc {rs : List Rat} {r : Rat} : grp (rs ++ [r]) = grp rs ++ (grp rs).map fun s => s + r := by
  unfold grp
  rw [List.foldl_append]
  rfl
theorem grp_btw : ∀ (n : Nat) (rs : List Rat), rs.length = n → ∀ s ∈ grp rs, -negQ rs ≤ s ∧ s ≤ posQ rs
  | 0, rs, h, s, hs => by
    rw [List.eq_nil_of_length_eq_zero h] at hs ⊢
    rw [List.mem_singleton.mp hs]
    exact ⟨by decide, by decide⟩
  | n + 1, rs, h, s, hs => by
    have hne : rs ≠ [] := fun e => by
      rw [e] at h
      cases h
    have e := (List.dropLast_concat_getLast hne).symm
    generalize rs.getLast hne = r at e
    have hl : rs.dropLast.length = n := by rw [List.length_dropLast]; omega
    generalize rs.dropLast = qs at e hl
    subst e
    rw [grp_snoc] at hs
    rw [posQ_snoc, negQ_snoc]
    have ih := grp_btw n qs hl
    rcases List.mem_append.mp hs with hs | hs
    · obtain ⟨i1, i2⟩ := ih s hs
      split <;> split <;> grind
    · obtain ⟨t, ht, rfl⟩ := List.mem_map.mp hs
      obtain ⟨i1, i2⟩ := ih t ht
      split <;> split <;> grind
theorem grp_len : ∀ (n : Nat) (rs : List Rat), rs.length = n → (grp rs).length = 2 ^ n
  | 0, rs, h => by rw [List.eq_nil_of_length_eq_zero h]; rfl
  | n + 1, rs, h => by
    have hne : rs ≠ [] := fun e => by
      rw [e] at h
      cases h
    have e := (List.dropLast_concat_getLast hne).symm
    rw [e, grp_snoc, List.length_append, List.length_map, grp_len n rs.dropLast (by rw [List.length_dropLast]; omega), Nat.pow_succ]
    omega
theorem grp_bd : ∀ (n : Nat) (rs : List Rat), rs.length = n → (∀ r ∈ rs, Bd 60 r) → ∀ s ∈ grp rs, Bd (1 + 61 * n) s
  | 0, rs, h, _, s, hs => by
    rw [List.eq_nil_of_length_eq_zero h] at hs
    rw [List.mem_singleton.mp hs]
    exact bd_zero
  | n + 1, rs, h, hb, s, hs => by
    have hne : rs ≠ [] := fun e => by
      rw [e] at h
      cases h
    have e := (List.dropLast_concat_getLast hne).symm
    have hr := hb _ (List.getLast_mem hne)
    generalize rs.getLast hne = r at e hr
    have hb' : ∀ r ∈ rs.dropLast, Bd 60 r := fun r h => hb r (List.dropLast_subset _ h)
    have hl : rs.dropLast.length = n := by rw [List.length_dropLast]; omega
    generalize rs.dropLast = qs at e hl hb'
    subst e
    rw [grp_snoc] at hs
    rcases List.mem_append.mp hs with hs | hs
    · exact (grp_bd n qs hl hb' s hs).mono (by omega)
    · obtain ⟨t, ht, rfl⟩ := List.mem_map.mp hs
      exact (bd_add (grp_bd n qs hl hb' t ht) hr).mono (by omega)
theorem ahead_pos (rows : List Ln) : aheadR rows = posQ (going rows) := rfl
theorem behind_neg (rows : List Ln) : behindR rows = negQ (going rows) := rfl
theorem free_lt {rows : List Ln} (h : free rows = true) : aheadR rows < 1 ∧ behindR rows < 1 := by
  unfold free at h
  rw [Bool.and_eq_true] at h
  have z := List.all_eq_true.mp h.2
  exact ⟨of_decide_eq_true (z _ (by unfold four; exact List.mem_cons_self)), of_decide_eq_true (z _ (by unfold four; exact List.mem_cons_of_mem _ List.mem_cons_self))⟩
/-- |s| is less than one if it lies between -1 and 1 -/
theorem abs_lt_one {s : Rat} (h1 : -1 < s) (h2 : s < 1) : absI s.num < (s.den : Int) := by
  have a1 := (Rat.lt_iff _ _).mp h1
  have a2 := (Rat.lt_iff _ _).mp h2
  rw [show (-1 : Rat).num = -1 from rfl, show (-1 : Rat).den = 1 from rfl] at a1
  rw [show (1 : Rat).num = 1 from rfl, show (1 : Rat).den = 1 from rfl] at a2
  unfold absI
  split <;> omega
/-! ### the sums of some gaps -/
def c__law_groups : CW := fun ws g Q => ∃ rs : List Rat, ws = [.dat (.list (rs.map qd))] ∧ rs.length ≤ 8 ∧ (∀ r ∈ rs, Bd 60 r) ∧ Q (.dat (.list ((grp rs).map qd))) g
abbrev N__law_groups : List Str := ["_law_values", "_law_found", "_law_value", "_law_some"]
abbrev b__law_groups : TSW := (sSet 1 (sFrz (sCat (sVar 1) (sFrz (sLc (sItems (sVar 1)) (bName 3) sYes (sCallP c__law_plus (sCons (sVar 3) (sCons (sVar 2) (sNil)))) [3])))) (sEnd))
def t__law_groups : TSW := sSet 1 (sFrz (sLst (sCons (sTup (sCons (sI 0) (sCons (sI 1) (sNil)))) (sNil)))) (sFor (sItems (sVar 0)) (bName 2) b__law_groups (sRet (sVar 1)))
theorem me__law_groups : ∀ ws g Q, c__law_groups ws g Q → t__law_groups (endW Q) (startW N__law_groups ws) ⟨g, []⟩ := by
  rintro ws g Q ⟨rs, rfl, h8, hb, q⟩
  have loop : ∀ (ls done : List Rat) (x2 x3 : Option U), rs = done ++ ls → forR (bName 2) b__law_groups ((ls.map qd).map .dat) { (endW Q) with nx := sRet (sVar 1) (endW Q) } [some (.v (.dat (.list (rs.map qd)))), some (.v (.dat (.list ((grp done).map qd)))), x2, x3] ⟨g, []⟩ := by
    intro ls
    induction ls with
    | nil =>
      intro done x2 x3 e
      rw [List.append_nil] at e
      subst e
      exact q
    | cons r ls ih =>
      intro done x2 x3 e
      have d8 : done.length ≤ 8 := by rw [e, List.length_append] at h8; omega
      have hd : ∀ r ∈ done, Bd 60 r := fun r h => hb r (by rw [e]; exact List.mem_append_left _ h)
      have hr : Bd 60 r := hb r (by rw [e]; exact List.mem_append_right _ List.mem_cons_self)
      have gl : (grp done).length ≤ 256 := by
        rw [grp_len _ done rfl]
        exact Nat.pow_le_pow_right (by decide) d8
      refine ⟨_, rfl, ?_⟩
      refine ⟨len_mm (by omega), ?_⟩
      refine comp_map (enc := qd) (f := fun s => qd (s + r)) (fun s => _) (grp done) [] (fun s _ => rfl) (fun s hs Q' q' => ⟨_, rfl, s, r, rfl, (grp_bd _ done rfl hd s hs).mono (by omega), hr.mono (by decide), rfl, q'⟩) ?_
      refine ⟨?_, ?_⟩
      · show List.length _ + List.length _ ≤ 1000000
        rw [List.nil_append, List.length_map, List.length_map]
        omega
      · rw [List.nil_append, show (grp done).map qd ++ (grp done).map (fun s => qd (s + r)) = (grp (done ++ [r])).map qd by rw [grp_snoc, List.map_append, List.map_map]; rfl]
        exact ih (done ++ [r]) _ _ (by rw [e, List.append_assoc]; rfl)
  exact ⟨l2, by decide, loop rs [] none none rfl⟩
/-! ### a near state is drawn -/
def nearL (rows : List Ln) : List (List Ln) := ((waysL rows).map (zipC rows)).filter near
theorem near_mem {rows s : List Ln} (h : s ∈ nearL rows) : ∃ c ∈ waysL rows, s = zipC rows c ∧ near s = true := by
  obtain ⟨h, f⟩ := List.mem_filter.mp h
  obtain ⟨c, hc, rfl⟩ := List.mem_map.mp h
  exact ⟨c, hc, rfl, f⟩
end W4

/-! k47: some way to round is near; what near states are like -/
namespace W4
open PySem PySem.Spec PyProof.Rows L2 Cb Wl Wg
theorem mem_dn (r : Rat) : dn r ∈ ways1 r := by
  unfold ways1
  split <;> simp
theorem mem_up (r : Rat) : upp r ∈ ways1 r := by
  unfold ways1
  split <;> simp_all
theorem ways_btw {r : Rat} {c : Int} (h : c ∈ ways1 r) : dn r ≤ c ∧ c ≤ upp r := by
  have z := dn_le r
  unfold ways1 at h
  split at h <;> simp at h <;> omega
theorem longer_mem {found : List (List Int)} {row : List Int} {s : List Int} {v : Int} (h : s ∈ found) (h' : v ∈ row) : s ++ [v] ∈ longer found row := List.mem_flatMap.mpr ⟨s, h, List.mem_map.mpr ⟨v, h', rfl⟩⟩
def WaysOf : List Rat → List Int → Prop
  | [], c => c = []
  | r :: rs, c => ∃ x t, c = x :: t ∧ x ∈ ways1 r ∧ WaysOf rs t
theorem WaysOf.snoc {r : Rat} {x : Int} (h : x ∈ ways1 r) : ∀ {rs : List Rat} {c : List Int}, WaysOf rs c → WaysOf (rs ++ [r]) (c ++ [x])
  | [], c, e => by
    rw [show c = [] from e]
    exact ⟨x, [], rfl, h, rfl⟩
  | q :: rs, c, ⟨y, t, e, hy, ht⟩ => by
    subst e
    exact ⟨y, t ++ [x], rfl, hy, WaysOf.snoc h ht⟩
theorem ways_all : ∀ (n : Nat) (rs : List Rat), rs.length = n → ∀ c ∈ chooseL (rs.map ways1), WaysOf rs c
  | 0, rs, h, c, hc => by
    obtain rfl := List.eq_nil_of_length_eq_zero h
    exact List.mem_singleton.mp hc
  | n + 1, rs, h, c, hc => by
    have hne : rs ≠ [] := fun e => by
      rw [e] at h
      cases h
    have e := (List.dropLast_concat_getLast hne).symm
    rw [e, List.map_append, List.map_cons, List.map_nil, choose_snoc] at hc
    obtain ⟨s, hs, hc⟩ := List.mem_flatMap.mp hc
    obtain ⟨v, hv, rfl⟩ := List.mem_map.mp hc
    rw [e]
    exact (ways_all n rs.dropLast (by rw [List.length_dropLast]; omega) s hs).snoc hv
theorem sum_snoc (l : List Int) (a : Int) : (l ++ [a]).sum = l.sum + a := by simp
theorem ways_sum : ∀ (n : Nat) (rs : List Rat), rs.length = n → ∀ t : Int, (rs.map dn).sum ≤ t → t ≤ (rs.map upp).sum → ∃ c ∈ chooseL (rs.map ways1), c.sum = t
  | 0, rs, h, t, h1, h2 => by
    obtain rfl := List.eq_nil_of_length_eq_zero h
    have e1 : 0 ≤ t := h1
    have e2 : t ≤ 0 := h2
    exact ⟨[], List.mem_singleton.mpr rfl, by show (0 : Int) = t; omega⟩
  | n + 1, rs, h, t, h1, h2 => by
    have hne : rs ≠ [] := fun e => by
      rw [e] at h
      cases h
    have e := (List.dropLast_concat_getLast hne).symm
    have ih := ways_sum n rs.dropLast (by rw [List.length_dropLast]; omega)
    rw [e, List.map_append, List.map_cons, List.map_nil, sum_snoc] at h1 h2
    rw [e, List.map_append, List.map_cons, List.map_nil, choose_snoc]
    have le : (rs.dropLast.map dn).sum ≤ (rs.dropLast.map upp).sum := by
      clear ih h1 h2
      generalize rs.dropLast = l
      induction l with
      | nil => exact Int.le_refl _
      | cons a l ih =>
        rw [List.map_cons, List.map_cons, List.sum_cons, List.sum_cons]
        have := dn_le a
        omega
    generalize rs.getLast hne = r at h1 h2 ⊢
    have u1 := upp_one r
    by_cases q : t - dn r ≤ (rs.dropLast.map upp).sum
    · obtain ⟨c, hc, hs⟩ := ih (t - dn r) (by omega) q
      exact ⟨c ++ [dn r], longer_mem hc (mem_dn r), by rw [sum_snoc]; omega⟩
    · obtain ⟨c, hc, hs⟩ := ih (t - upp r) (by omega) (by omega)
      exact ⟨c ++ [upp r], longer_mem hc (mem_up r), by rw [sum_snoc]; omega⟩
theorem sum_low : ∀ rs : List Rat, ((((rs.map dn).sum : Int) : Rat)) ≤ sumQ rs
  | [] => by show ((0 : Int) : Rat) ≤ sumQ []; simp [sumQ]
  | r :: rs => by
    have h := sum_low rs
    have d := dn_rat r
    rw [List.map_cons, List.sum_cons, Rat.intCast_add]
    have e : sumQ (r :: rs) = r + sumQ rs := sumQ_cons
    rw [e]
    grind
theorem sum_high : ∀ rs : List Rat, sumQ rs ≤ ((((rs.map upp).sum : Int) : Rat))
  | [] => by show sumQ [] ≤ ((0 : Int) : Rat); simp [sumQ]
  | r :: rs => by
    have h := sum_high rs
    have d := upp_rat r
    rw [List.map_cons, List.sum_cons, Rat.intCast_add]
    have e : sumQ (r :: rs) = r + sumQ rs := sumQ_cons
    rw [e]
    grind
theorem zip_ok : ∀ {rows : List Ln} {c : List Int}, WaysOf (rows.map fun l => l.ex) c → (zipC rows c).map (fun l => l.ct) = c ∧ (zipC rows c).map (fun l => l.ex) = rows.map (fun l => l.ex) ∧ ((zipC rows c).all fun l => btw l.ct l.ex) = true ∧ (∀ l ∈ zipC rows c, ∃ l0 ∈ rows, l.nm = l0.nm ∧ l.ex = l0.ex ∧ dn l0.ex ≤ l.ct ∧ l.ct ≤ upp l0.ex)
  | [], c, h => by
    rw [show c = [] from h]
    exact ⟨rfl, rfl, rfl, fun l hl => by cases hl⟩
  | l :: rows, c, h => by
    obtain ⟨x, t, rfl, hx, ht⟩ := h
    obtain ⟨h1, h2, h3, h4⟩ := zip_ok ht
    have b := ways_btw hx
    have e : zipC (l :: rows) (x :: t) = ⟨l.nm, l.ex, x, l.on⟩ :: zipC rows t := rfl
    rw [e]
    refine ⟨by rw [List.map_cons, h1], by rw [List.map_cons, h2, List.map_cons], ?_, fun m hm => ?_⟩
    · rw [List.all_cons, h3]
      unfold btw
      simp [b.1, b.2]
    · rcases List.mem_cons.mp hm with hm | hm
      · subst hm
        exact ⟨l, List.mem_cons_self .., rfl, rfl, b.1, b.2⟩
      · obtain ⟨l0, a1, a2⟩ := h4 m hm
        exact ⟨l0, List.mem_cons_of_mem _ a1, a2⟩
theorem WaysOf.len : ∀ {rs : List Rat} {c : List Int}, WaysOf rs c → c.length = rs.length
  | [], c, h => by rw [show c = [] from h]; rfl
  | r :: rs, c, ⟨x, t, e, _, h⟩ => by subst e; rw [List.length_cons, List.length_cons, h.len]
theorem near_one (rows : List Ln) : ∃ c ∈ chooseL ((rows.map fun l => l.ex).map ways1), near (zipC rows c) = true := by
  have sd : ((rows.map fun l => l.ex).map dn).sum ≤ dn (sumQ (rows.map fun l => l.ex)) := dn_int (sum_low _)
  have su : dn (sumQ (rows.map fun l => l.ex)) ≤ ((rows.map fun l => l.ex).map upp).sum := by
    have a := dn_rat (sumQ (rows.map fun l => l.ex))
    have b := sum_high (rows.map fun l => l.ex)
    exact Rat.intCast_le_intCast.mp (Rat.le_trans a b)
  obtain ⟨c, hc, hs⟩ := ways_sum _ (rows.map fun l => l.ex) rfl _ sd su
  have wo := ways_all _ _ rfl c hc
  refine ⟨c, hc, ?_⟩
  have wl := wo.len
  rw [List.length_map] at wl
  obtain ⟨h1, h2, h3, _⟩ := zip_ok wo
  unfold near
  rw [h1, h2, h3, hs]
  unfold btw
  have := dn_le (sumQ (rows.map fun l => l.ex))
  simp [this]

theorem rowsK_zipB {rows : List Ln} (h8 : rows.length ≤ 8) (hb : ∀ l ∈ rows, Bd 20 l.ex) {c : List Int} (hc : c ∈ waysL rows) : RowsK (zipC rows c) := by
  refine ⟨by rw [zipC_len (waysL_el c hc)]; exact h8, fun x hx => ?_⟩
  obtain ⟨l, hl, v, hv, rfl⟩ := zip_mem _ rows rfl c hc x hx
  have h := hb l hl
  refine ⟨h, ?_⟩
  rcases ways1_mem hv with rfl | rfl
  · exact (rnd_bd h).1
  · exact (rnd_bd h).2
/-! the same lines with other cents -/
theorem zip_ex {rows : List Ln} : ∀ {c : List Int}, c.length = rows.length → (zipC rows c).map (fun l => l.ex) = rows.map fun l => l.ex := by
  induction rows with
  | nil => exact fun {c} h => by rw [List.eq_nil_of_length_eq_zero h]; rfl
  | cons l rows ih =>
    intro c h
    cases c with
    | nil => cases h
    | cons x c =>
      show _ :: (zipC rows c).map (fun l => l.ex) = _
      rw [ih (by simpa using h)]
      rfl
theorem zip_zip {rows : List Ln} : ∀ {c d : List Int}, c.length = rows.length → zipC (zipC rows c) d = zipC rows d := by
  induction rows with
  | nil => exact fun {c d} h => by rw [List.eq_nil_of_length_eq_zero h]; rfl
  | cons l rows ih =>
    intro c d h
    cases c with
    | nil => cases h
    | cons x c =>
      cases d with
      | nil => rfl
      | cons y d =>
        show _ :: zipC (zipC rows c) d = _ :: zipC rows d
        rw [ih (by simpa using h)]
theorem zip_self : ∀ rows : List Ln, zipC rows (rows.map fun l => l.ct) = rows
  | [] => rfl
  | l :: rows => by
    show _ :: zipC rows (rows.map fun l => l.ct) = _
    rw [zip_self rows]
theorem ways_same {rows : List Ln} {c : List Int} (h : c.length = rows.length) : waysL (zipC rows c) = waysL rows := by
  unfold waysL
  have e : ∀ l : List Ln, l.map (fun l => ways1 l.ex) = (l.map fun l => l.ex).map ways1 := fun l => by rw [List.map_map]; rfl
  rw [e, e, zip_ex h]
/-- the state itself is a way to round -/
def OwnWay (here : List Ln) : Prop := (here.map fun l => l.ct) ∈ waysL here
theorem own_of {rows : List Ln} {c : List Int} (hc : c ∈ waysL rows) : OwnWay (zipC rows c) := by
  unfold OwnWay
  rw [zipC_ct (waysL_el c hc), ways_same (waysL_el c hc)]
  exact hc
theorem open_self {here : List Ln} (h : OwnWay here) (f : free here = true) : here ∈ openL here := List.mem_filter.mpr ⟨List.mem_map.mpr ⟨_, h, zip_self here⟩, f⟩
/-! equal data, equal states -/
theorem eqv_qd {r s : Rat} : PyData.eqv (qd r) (qd s) = decide (r = s) := by
  show (PyData.eqv (.int r.num) (.int s.num) && (PyData.eqv (.int (r.den : Int)) (.int (s.den : Int)) && true)) = _
  rw [eqI, eqI, Bool.and_true]
  by_cases h : r = s
  · subst h
    rw [decide_eq_true rfl, beq_self_eq_true, beq_self_eq_true]
    rfl
  · rw [decide_eq_false h, Bool.and_eq_false_iff]
    by_cases h1 : r.num = s.num
    · refine .inr (beq_eq_false_iff_ne.mpr fun z => h (Rat.ext h1 ?_))
      omega
    · exact .inl (beq_eq_false_iff_ne.mpr h1)
theorem eqv_ld {a b : Ln} (h : PyData.eqv (Wl.ld a) (Wl.ld b) = true) : a = b := by
  have h : (PyData.eqv (.str a.nm) (.str b.nm) && (PyData.eqv (qd a.ex) (qd b.ex) && (PyData.eqv (.int a.ct) (.int b.ct) && (PyData.eqv (.bool a.on) (.bool b.on) && true)))) = true := h
  rw [eqv_str, eqv_qd, eqI] at h
  simp only [Bool.and_eq_true, Bool.and_true, beq_iff_eq, decide_eq_true_eq] at h
  obtain ⟨h1, h2, h3, h4'⟩ := h
  have h4 : a.on = b.on := beq_iff_eq.mp (show (a.on == b.on) = true from h4')
  clear h4'
  obtain ⟨n, e, c, o⟩ := a
  obtain ⟨n', e', c', o'⟩ := b
  dsimp only at h1 h2 h3 h4
  subst h1 h2 h3 h4
  rfl
theorem eqv_rows : ∀ {a b : List Ln}, PyData.eqv (rowsD a) (rowsD b) = true → a = b
  | [], [], _ => rfl
  | [], _ :: _, h => by cases h
  | _ :: _, [], h => by cases h
  | x :: a, y :: b, h => by
    have h : (PyData.eqv (Wl.ld x) (Wl.ld y) && PyData.eqv (rowsD a) (rowsD b)) = true := h
    rw [Bool.and_eq_true] at h
    rw [eqv_ld h.1, eqv_rows h.2]
theorem in_open {here : List Ln} (h : OwnWay here) : (((openL here).map rowsD).any fun e => PyData.eqv e (rowsD here)) = free here := by
  cases f : free here with
  | true => exact List.any_eq_true.mpr ⟨_, List.mem_map.mpr ⟨_, open_self h f, rfl⟩, SeqAt.eqv_refl_plain _ (plain_rows _)⟩
  | false =>
    refine Bool.eq_false_iff.mpr fun z => ?_
    obtain ⟨d, hd, e⟩ := List.any_eq_true.mp z
    obtain ⟨s, hs, rfl⟩ := List.mem_map.mp hd
    have := eqv_rows e
    subst this
    obtain ⟨_, _, _, fs⟩ := open_mem hs
    rw [f] at fs
    cases fs
theorem eqv_ints : ∀ {a b : List Int}, PyData.eqv (rowI a) (rowI b) = decide (a = b)
  | [], [] => rfl
  | [], _ :: _ => rfl
  | _ :: _, [] => rfl
  | x :: a, y :: b => by
    show (PyData.eqv (.int x) (.int y) && PyData.eqv (rowI a) (rowI b)) = _
    rw [eqI, eqv_ints]
    by_cases h : x = y
    · subst h
      rw [beq_self_eq_true, Bool.true_and]
      exact decide_eq_decide.mpr ⟨fun e => by rw [e], fun e => (List.cons.inj e).2⟩
    · rw [beq_eq_false_iff_ne.mpr h, Bool.false_and]
      exact (decide_eq_false fun e => h (List.cons.inj e).1).symm
theorem absI_nn (i : Int) : 0 ≤ absI i := by
  unfold absI
  split <;> omega
theorem size_nn : ∀ ns : List Int, 0 ≤ sizeI ns
  | [] => by decide
  | n :: ns => by
    have := size_nn ns
    have a := absI_nn n
    unfold sizeI at this ⊢
    rw [List.map_cons, List.sum_cons]
    omega
theorem size_zero : ∀ {ns : List Int}, sizeI ns ≤ 0 → ns = List.replicate ns.length 0
  | [], _ => rfl
  | n :: ns, h => by
    have b := size_nn ns
    have a := absI_nn n
    have e : sizeI (n :: ns) = absI n + sizeI ns := by unfold sizeI; rw [List.map_cons, List.sum_cons]
    have n0 : n = 0 := by
      unfold absI at a e
      split at e <;> omega
    have := size_zero (ns := ns) (by omega)
    rw [List.length_cons, List.replicate_succ, ← this, n0]
theorem chgs_self (here : List Ln) : chgs here here = List.replicate here.length 0 := by
  unfold chgs
  induction here with
  | nil => rfl
  | cons l here ih =>
    rw [List.zip_cons_cons, List.map_cons, ih, List.length_cons, List.replicate_succ]
    congr 1
    show l.ct - l.ct = 0
    omega
theorem size_rep : ∀ n : Nat, sizeI (List.replicate n 0) = 0
  | 0 => rfl
  | n + 1 => by
    have := size_rep n
    unfold sizeI at this ⊢
    rw [List.replicate_succ, List.map_cons, List.sum_cons, this]
    rfl
/-- no change is the best one exactly if the state is open -/
theorem best_zero {here : List Ln} (h : OwnWay here) : PyData.eqv (optD (bestOf here)) (rowI (List.replicate here.length 0)) = free here := by
  cases hb : bestOf here with
  | none =>
    have e : openL here = [] := (best_none (openL here) none hb).2
    cases f : free here with
    | true =>
      have := open_self h f
      rw [e] at this
      cases this
    | false => rfl
  | some b =>
    obtain ⟨h1, h2, _⟩ := best_mem (openL here) none b hb
    obtain ⟨s, hs, rfl⟩ := h1.resolve_left (fun z => by cases z)
    obtain ⟨d, hd, rfl, fs⟩ := open_mem hs
    have ld := waysL_el d hd
    have lb := chgs_full (zipC_len ld)
    show PyData.eqv (rowI _) (rowI _) = _
    rw [eqv_ints]
    cases f : free here with
    | true =>
      refine decide_eq_true ?_
      have := h2 here (open_self h f)
      rw [chgs_self, size_rep] at this
      have z := size_zero this
      rw [lb] at z
      exact z
    | false =>
      refine decide_eq_false fun z => ?_
      have e := chgs_zip ld
      rw [z] at e
      have e2 : d = here.map fun l => l.ct := by
        rw [← e]
        refine List.ext_getElem? fun i => ?_
        by_cases hi : i < here.length
        · rw [List.getElem?_map, List.getElem?_range hi, List.getElem?_map, List.getElem?_eq_getElem hi, Option.map_some, Option.map_some, List.getD_eq_getElem?_getD, List.getElem?_eq_getElem hi, List.getD_eq_getElem?_getD, List.getElem?_replicate, if_pos hi]
          show some (here[i].ct + 0) = some here[i].ct
          rw [Int.add_zero]
        · rw [List.getElem?_eq_none (by rw [List.length_map, List.length_range]; omega), List.getElem?_eq_none (by rw [List.length_map]; omega)]
      rw [e2, zip_self, f] at fs
      cases fs
end W4

/-! k47: the law's defs -/
namespace W4
open PySem PySem.Spec PyProof.Rows L2 Cb Wl Wg
theorem near_ne (rows : List Ln) : nearL rows ≠ [] := by
  obtain ⟨c, hc, h⟩ := near_one rows
  have e : (rows.map fun l => l.ex).map ways1 = rows.map fun l => ways1 l.ex := by rw [List.map_map]; rfl
  rw [e] at hc
  intro z
  have : zipC rows c ∈ nearL rows := List.mem_filter.mpr ⟨List.mem_map.mpr ⟨c, hc, rfl⟩, h⟩
  rw [z] at this
  cases this
/-- a near state over lines of the pool -/
def NearD (w : W) : Prop := ∃ here : List Ln, w = .dat (rowsD here) ∧ StC here ∧ 1 ≤ here.length ∧ here.length ≤ 4 ∧ OwnWay here ∧ near here = true
def c__law_make_near : CW := fun ws g Q => ∃ n m N : Nat, ws = [.ref n, .dat (.int 1), .dat (.int 4)] ∧ drawn NearD 42 n m N g Q
abbrev N__law_make_near : List Str := ["_law_rng", "_law_least", "_law_most", "_law_bare", "_law_ways", "_law_near", "_law_bad", "_law_way", "_law_row", "_law_here"]
abbrev r__law_make_near : TSW := (sRet (sCallG c__law_pick (sCons (sVar 0) (sCons (sIf (sAnd (sB (s2 (sVar 6) (sFrz (sLst (sNil))) (gEq not))) (sB (s2 (sCallG c__law_draw (sCons (sVar 0) (sCons (sI 2) (sNil)))) (sI 0) (gEq id)))) (sVar 6) (sVar 5)) (sNil)))))
def t__law_make_near : TSW := sSet 3 (sCallG c__law_make_bare (sCons (sVar 0) (sCons (sVar 1) (sCons (sVar 2) (sNil))))) (sSetLF 4 (sLc (sItems (sCallP c__law_round_ways (sCons (sFrz (sLc (sItems (sVar 3)) (bName 8) sYes (s2 (sVar 8) (sI 1) gIx) [8])) (sNil)))) (bName 7) sYes (sCallP c__law_with_counts (sCons (sVar 3) (sCons (sVar 7) (sNil)))) [7]) (sSetLF 5 (sLc (sItems (sVar 4)) (bName 9) (sB (sCallP c__law_is_near (sCons (sVar 9) (sNil)))) (sVar 9) [9]) (sSetLF 6 (sLc (sItems (sVar 5)) (bName 9) (sNot (sB (sCallP c__law_is_free (sCons (sVar 9) (sNil))))) (sVar 9) [9]) r__law_make_near)))
theorem me__law_make_near : ∀ ws g Q, c__law_make_near ws g Q → t__law_make_near (endW Q) (startW N__law_make_near ws) ⟨g, []⟩ := by
  rintro ws g Q ⟨n, m, N, rfl, hN, rg, q⟩
  refine ⟨_, rfl, n, m, N, 4, rfl, by decide, by decide, by omega, rg, fun w ga ⟨rows, ew, r1, r4, ok⟩ rga => ?_⟩
  subst ew
  have hb : ∀ l ∈ rows, Bd 20 l.ex := fun l hl => (ok l hl).2.2.mono (by decide)
  have wl := waysL_len (rows := rows) (by omega)
  refine ⟨len_mm (by omega), ?_⟩
  refine comp_map (enc := Wl.ld) (f := fun (l : Ln) => qd l.ex) (fun l => _) rows [] (fun l _ => rfl) (fun l _ Q' q' => ⟨_, rfl, q'⟩) ?_
  refine ⟨_, rfl, rows.map fun (l : Ln) => l.ex, by rw [List.map_map]; rfl, by rw [List.length_map]; omega, fun r hr => ?_, rfl, ?_⟩
  · obtain ⟨l, hl, rfl⟩ := List.mem_map.mp hr
    exact (hb l hl).mono (by decide)
  have ew : (rows.map fun (l : Ln) => l.ex).map ways1 = rows.map fun l => ways1 l.ex := by rw [List.map_map]; rfl
  rw [ew]
  refine ⟨len_mm (by show (waysL rows).length ≤ _; omega), ?_⟩
  refine comp_map (enc := rowI) (f := fun c => rowsD (zipC rows c)) (fun c => _) (waysL rows) [] (fun c _ => rfl) (fun c hc Q' q' => ⟨_, rfl, rows, c, _, rfl, .inl rfl, waysL_el c hc, by omega, rfl, q'⟩) ?_
  rw [List.nil_append]
  refine ⟨by show (List.map W.dat ((waysL rows).map _)).length ≤ 100000; rw [List.length_map, List.length_map]; omega, ?_⟩
  refine comp_flt (enc := fun c => rowsD (zipC rows c)) (f := fun c => rowsD (zipC rows c)) (fun c => near (zipC rows c)) (fun c => _) (waysL rows) (fun c _ => rfl) (fun c hc Q' q' => ⟨_, rfl, _, rfl, rowsK_zipB (by omega) hb hc, rfl, q'⟩) (fun c _ _ Q' q' => q') ?_
  have e1 : ((waysL rows).filter fun c => near (zipC rows c)).map (fun c => rowsD (zipC rows c)) = (nearL rows).map rowsD := by
    unfold nearL
    rw [List.filter_map, List.map_map]
    rfl
  rw [e1]
  have nl : (nearL rows).length ≤ 256 := by
    unfold nearL
    refine Nat.le_trans (List.length_filter_le _ _) ?_
    rw [List.length_map]
    exact wl
  refine ⟨len_mm (by omega), ?_⟩
  have kz : ∀ s ∈ nearL rows, RowsK s := fun s hs => by
    obtain ⟨c, hc, rfl, _⟩ := near_mem hs
    exact rowsK_zipB (by omega) hb hc
  refine comp_flt (enc := rowsD) (f := rowsD) (fun s => !free s) (fun s => _) (nearL rows) (fun s _ => rfl) (fun s hs Q' q' => ⟨_, rfl, s, rfl, kz s hs, rfl, q'⟩) (fun s _ _ Q' q' => q') ?_
  have one : ∀ s ∈ nearL rows, ∀ g' M, M ≤ N + 42 → Rg n m M g' → Q (.dat (rowsD s)) g' := fun s hs g' M hM rg' => by
    refine q _ _ ⟨s, rfl, ?_⟩ (rg'.le hM)
    have ks := kz s hs
    obtain ⟨c, hc, rfl, hn⟩ := near_mem hs
    exact ⟨⟨ks, zip_nm fun l hl => (ok l hl).1⟩, by rw [zipC_len (waysL_el c hc)]; exact r1, by rw [zipC_len (waysL_el c hc)]; exact r4, own_of hc, hn⟩
  have pick : ∀ (ss : List (List Ln)) (gb : List Ob) (M : Nat), ss ≠ [] → ss.length ≤ 256 → (∀ s ∈ ss, s ∈ nearL rows) → M + 1 ≤ N + 42 → Rg n m M gb → ∃ ws, valU [.v (.ref n), .v (.dat (.list (ss.map rowsD)))] = some ws ∧ c__law_pick ws gb fun w g' => frzU (.v w) ⟨g', []⟩ (endW Q).rt := by
    intro ss gb M hne hl hs hM rgb
    refine ⟨_, rfl, n, m, M, ss.map rowsD, rfl, ?_, by rw [List.length_map]; omega, by omega, rgb, fun x hx g' rg' => ?_⟩
    · rw [List.length_map]
      exact List.length_pos_iff.mpr hne
    · obtain ⟨s, h, rfl⟩ := List.mem_map.mp hx
      exact one s (hs s h) g' _ hM rg'
  refine ⟨by decide, ?_⟩
  refine gEq_ok (f := not) (h := ⟨ga, []⟩) rfl rfl (plainL pd_rows) rfl ?_
  show (if (!PyData.eqv (.list _) (.list [])) = true then _ else _)
  rw [eqv_nilD, map_empty]
  cases hbad : (nearL rows).filter fun s => !free s with
  | nil => exact pick (nearL rows) ga (N + 40) (near_ne rows) nl (fun _ h => h) (by omega) rga
  | cons s0 ss0 =>
    rw [if_pos (show (!(s0 :: ss0).isEmpty) = true from rfl)]
    refine ⟨_, rfl, n, m, N + 40, 2, rfl, by decide, by decide, by omega, rga, fun z gb z0 z1 rgb => ?_⟩
    refine ⟨⟨rfl, by show 0 ≤ 60; decide⟩, ?_⟩
    show (if PyData.eqv (.int z) (.int 0) = true then _ else _)
    split
    · refine pick (s0 :: ss0) gb (N + 40 + 1) (fun z => by cases z) ?_ (fun s h => ?_) (by omega) rgb
      · rw [← hbad]
        exact Nat.le_trans (List.length_filter_le _ _) nl
      · rw [← hbad] at h
        exact (List.mem_filter.mp h).1
    · exact pick (nearL rows) gb (N + 40 + 1) (near_ne rows) nl (fun _ h => h) (by omega) rgb
/-! ### an open state is looked at -/
def c__law_check_open : CW := fun ws g Q => ∃ (here : List Ln) (c : List Int), ws = [.dat (rowsD here), .dat (rowsD (zipC here c))] ∧ RowsK here ∧ c ∈ waysL here ∧ free (zipC here c) = true ∧ Q (.dat (.bool true)) g
abbrev N__law_check_open : List Str := ["_law_here", "_law_one", "_law_gaps_here", "_law_going", "_law_row", "_law_k", "_law_some"]
abbrev w__law_check_open : TW := (s2 (sSlT (sVar 4) (sNoP) (sPart (sI 2))) (sSlT (sVar 4) (sPart (sI 3)) (sNoP)) gAdd)
def t__law_check_open : TSW := sIfS (sOr (sNot (sB (sCallP c_is_close_state (sCons (sVar 1) (sNil))))) (sNot (sB (sCallP c_is_open (sCons (sVar 1) (sNil)))))) (sRet (sBl false)) (sEnd) (sIfS (sB (s2 (sFrz (sLc (sItems (sVar 1)) (bName 4) sYes w__law_check_open [4])) (sFrz (sLc (sItems (sVar 0)) (bName 4) sYes w__law_check_open [4])) (gEq not))) (sRet (sBl false)) (sEnd) (sSet 2 (sCallP c_offs (sCons (sVar 1) (sNil))) (sSetLF 3 (sLc (sRng1 (sCons (sCal (g1 kLen) (sCons (sVar 1) (sNil))) (sNil))) (bName 5) (sB (s2 (s2 (sVar 1) (sVar 5) gIx) (sI 3) gIx)) (s2 (sVar 2) (sVar 5) gIx) [5]) (sRet (s2 (sFrz (sLc (sItems (sCallP c__law_groups (sCons (sVar 3) (sNil)))) (bName 6) (sB (s2 (sCal (g1 kAbs) (sCons (s2 (sVar 6) (sI 0) gIx) (sNil))) (s2 (sVar 6) (sI 1) gIx) (gGe))) (sVar 6) [6])) (sFrz (sLst (sNil))) (gEq id))))))
def less (l : Ln) : PyData := .tuple [.str l.nm, qd l.ex, .bool l.on]
theorem less_zip {here : List Ln} : ∀ {c : List Int}, c.length = here.length → (zipC here c).map less = here.map less := by
  induction here with
  | nil => exact fun {c} h => by rw [List.eq_nil_of_length_eq_zero h]; rfl
  | cons l rows ih =>
    intro c h
    cases c with
    | nil => cases h
    | cons x c =>
      show _ :: (zipC rows c).map less = _
      rw [ih (by simpa using h)]
      rfl
theorem pd_less (l : Ln) : (less l).plain = true ∧ (less l).depth ≤ 50 := ⟨rfl, by show 2 ≤ 50; decide⟩
theorem getD_all {α : Type} {l : List α} {z : α} : (List.range l.length).map (fun k => l.getD k z) = l := by
  refine List.ext_getElem? fun i => ?_
  by_cases hi : i < l.length
  · rw [List.getElem?_map, List.getElem?_range hi, Option.map_some, List.getD_eq_getElem?_getD, List.getElem?_eq_getElem hi]
    rfl
  · rw [List.getElem?_eq_none (by rw [List.length_map, List.length_range]; omega), List.getElem?_eq_none (by omega)]
theorem going_at (s : List Ln) : ((List.range s.length).filter fun k => (s.getD k nil0).on).map (fun k => qd (gap (s.getD k nil0))) = (going s).map qd := by
  unfold going
  have e := getD_all (l := s) (z := nil0)
  conv => rhs; rw [← e]
  rw [List.filter_map, List.map_map, List.map_map]
  rfl
theorem me__law_check_open : ∀ ws g Q, c__law_check_open ws g Q → t__law_check_open (endW Q) (startW N__law_check_open ws) ⟨g, []⟩ := by
  rintro ws g Q ⟨here, c, rfl, ok, hc, hf, q⟩
  have kz := rowsK_zip ok hc
  have hn : near (zipC here c) = true := by
    unfold free at hf
    rw [Bool.and_eq_true] at hf
    exact hf.1
  have l8 := ok.1
  have lz := zipC_len (waysL_el c hc)
  generalize hs : zipC here c = s at kz hn hf lz
  refine ⟨_, rfl, s, rfl, kz, rfl, ?_⟩
  show (if (!near s) = true then _ else _)
  rw [hn, if_neg (by decide)]
  refine ⟨_, rfl, s, rfl, kz, rfl, ?_⟩
  show (if (!free s) = true then _ else _)
  rw [hf, if_neg (by decide)]
  refine ⟨len_mm (by omega), ?_⟩
  refine comp_map (enc := Wl.ld) (f := less) (fun l => _) s [] (fun l _ => rfl) (fun l _ Q' q' => ⟨by show 2 + 1 ≤ 100000; decide, q'⟩) ?_
  refine ⟨len_mm (by omega), ?_⟩
  refine comp_map (enc := Wl.ld) (f := less) (fun l => _) here [] (fun l _ => rfl) (fun l _ Q' q' => ⟨by show 2 + 1 ≤ 100000; decide, q'⟩) ?_
  rw [List.nil_append, List.nil_append]
  refine gEq_ok (f := not) (h := ⟨g, []⟩) rfl rfl (plainL pd_less) (plainL pd_less).1 ?_
  show (if (!PyData.eqv (.list (s.map less)) (.list (here.map less))) = true then _ else _)
  rw [← hs, less_zip (waysL_el c hc), SeqAt.eqv_refl_plain _ (plainL pd_less).1, if_neg (by decide), hs]
  refine ⟨_, rfl, s, rfl, kz, rfl, ?_⟩
  show -(2 ^ 62) ≤ (((s.map Wl.ld).length : Nat) : Int) ∧ (((s.map Wl.ld).length : Nat) : Int) < 2 ^ 62 ∧ (rangeW 0 ((((s.map Wl.ld).length : Nat) : Int)).toNat).length ≤ 100000 ∧ compR _ _ _ (rangeW 0 ((((s.map Wl.ld).length : Nat) : Int)).toNat) _ _ _ _
  rw [List.length_map, rangeW_nat]
  refine ⟨by omega, by omega, by rw [List.length_map, List.length_map, List.length_range]; omega, ?_⟩
  refine comp_flt (enc := natD) (f := fun k => qd (gap (s.getD k nil0))) (fun k => (s.getD k nil0).on) (fun k => _) (List.range s.length) (fun k _ => rfl) (fun k hk Q' q' => ?_) (fun k hk _ Q' q' => ?_) ?_
  · exact ⟨_, atI_nat (at_map nil0 (List.mem_range.mp hk)), _, rfl, q'⟩
  · exact ⟨_, atI_nat (at_map (f := fun l => qd (gap l)) nil0 (List.mem_range.mp hk)), q'⟩
  rw [going_at]
  have go := going_ok kz
  refine ⟨_, rfl, going s, rfl, go.2, go.1, rfl, ?_⟩
  have gl : (grp (going s)).length ≤ 256 := by
    rw [grp_len _ _ rfl]
    exact Nat.pow_le_pow_right (by decide) go.2
  refine ⟨len_mm (by omega), ?_⟩
  have small : ∀ r ∈ grp (going s), absI r.num < (r.den : Int) := fun r hr => by
    obtain ⟨a, b⟩ := grp_btw _ _ rfl r hr
    obtain ⟨c1, c2⟩ := free_lt hf
    rw [ahead_pos] at c1
    rw [behind_neg] at c2
    exact abs_lt_one (by grind) (by grind)
  refine comp_flt (enc := qd) (f := qd) (fun r => decide ((r.den : Int) ≤ absI r.num)) (fun r => _) (grp (going s)) (fun r _ => rfl) (fun r hr Q' q' => ⟨_, rfl, _, rfl, q'⟩) (fun r _ _ Q' q' => q') ?_
  rw [show (grp (going s)).filter (fun r => decide ((r.den : Int) ≤ absI r.num)) = [] from List.filter_eq_nil_iff.mpr fun r hr => by have := small r hr; simp; omega]
  refine ⟨by decide, ?_⟩
  exact gEq_ok (f := id) (h := ⟨g, []⟩) rfl rfl ⟨rfl, by decide⟩ rfl q
end W4

/-! k47: ahead and behind; few lines are always open; the law -/
namespace W4
open PySem PySem.Spec PyProof.Rows L2 Cb Wl Wg
/-! ### arithmetic -/
theorem posneg (rs : List Rat) : posQ rs - negQ rs = sumQ rs := by
  induction rs with
  | nil =>
    show (0 : Rat) - 0 = 0
    grind
  | cons r rs ih =>
    have hp : posQ (r :: rs) = if 0 < r then r + posQ rs else posQ rs := by
      unfold posQ
      by_cases h : 0 < r
      · rw [List.filter_cons_of_pos (p := fun g => decide (0 < g)) (decide_eq_true h), sumQ_cons, if_pos h]
      · rw [List.filter_cons_of_neg (p := fun g => decide (0 < g)) (by simpa using h), if_neg h]
    have hn : negQ (r :: rs) = if r < 0 then -r + negQ rs else negQ rs := by
      unfold negQ
      by_cases h : r < 0
      · rw [List.filter_cons_of_pos (p := fun g => decide (g < 0)) (decide_eq_true h), List.map_cons, sumQ_cons, if_pos h]
      · rw [List.filter_cons_of_neg (p := fun g => decide (g < 0)) (by simpa using h), if_neg h]
    rw [hp, hn, sumQ_cons]
    split <;> split <;> grind
/-- what is left of the exact values above their cents -/
def partsQ (rows : List Ln) : Rat := sumQ (rows.map fun l => l.ex - ((dn l.ex : Int) : Rat))
def manyQ (rows : List Ln) : Nat := ((rows.map gap).filter fun g => decide (0 < g.num)).length
theorem dn_lt (r : Rat) : r < ((dn r : Int) : Rat) + 1 := by
  rw [dn_floor]
  have h := Rat.lt_floor_add_one r
  rw [Rat.intCast_add] at h
  exact h
theorem upp_lt (r : Rat) : ((upp r : Int) : Rat) < r + 1 := by
  rw [upp_neg]
  have h := dn_lt (-r)
  have e : ((-dn (-r) : Int) : Rat) = -((dn (-r) : Int) : Rat) := by simp
  rw [e]
  grind
theorem row_parts {l : Ln} (h : l.ct ∈ ways1 l.ex) : gap l = (if 0 < gap l then 1 else 0) - (l.ex - ((dn l.ex : Int) : Rat)) := by
  have h1 := dn_rat l.ex
  have h2 := upp_rat l.ex
  have h3 := upp_one l.ex
  have h4 := dn_le l.ex
  have h5 := upp_lt l.ex
  have h6 := dn_lt l.ex
  unfold gap
  rcases ways1_mem h with e | e
  · rw [e, if_neg (by grind)]
    grind
  · rw [e]
    by_cases q : dn l.ex = upp l.ex
    · rw [← q, if_neg (by grind)]
      grind
    · have z : upp l.ex = dn l.ex + 1 := by omega
      have zr : ((upp l.ex : Int) : Rat) = ((dn l.ex : Int) : Rat) + 1 := by
        rw [z, Rat.intCast_add]
        rfl
      have ne : l.ex ≠ ((upp l.ex : Int) : Rat) := fun y => q (by
        have a : ((upp l.ex : Int) : Rat) ≤ l.ex := by grind
        have := dn_int a
        omega)
      rw [if_pos (by grind), zr]
      grind
theorem all_parts : ∀ rows : List Ln, (∀ l ∈ rows, l.ct ∈ ways1 l.ex) → sumQ (rows.map gap) = ((manyQ rows : Nat) : Int) - partsQ rows
  | [], _ => by
    show (0 : Rat) = ((0 : Int) : Rat) - 0
    have z : ((0 : Int) : Rat) = 0 := rfl
    rw [z]
    grind
  | l :: rows, h => by
    have ih := all_parts rows fun x hx => h x (List.mem_cons_of_mem _ hx)
    have hr := row_parts (h l List.mem_cons_self)
    have ep : partsQ (l :: rows) = (l.ex - ((dn l.ex : Int) : Rat)) + partsQ rows := by
      unfold partsQ
      rw [List.map_cons, sumQ_cons]
    rw [List.map_cons, sumQ_cons, ih, ep]
    by_cases g : 0 < gap l
    · have em : manyQ (l :: rows) = manyQ rows + 1 := by
        unfold manyQ
        rw [List.map_cons, List.filter_cons_of_pos (p := fun (g : Rat) => decide (0 < g.num)) (decide_eq_true (num_pos_iff.mp g)), List.length_cons]
      rw [if_pos g] at hr
      have : ((((manyQ rows + 1 : Nat) : Int)) : Rat) = (((manyQ rows : Nat) : Int) : Rat) + 1 := by
        rw [Int.natCast_add, Rat.intCast_add]
        rfl
      rw [em, this]
      grind
    · have em : manyQ (l :: rows) = manyQ rows := by
        unfold manyQ
        rw [List.map_cons, List.filter_cons_of_neg (p := fun (g : Rat) => decide (0 < g.num)) (by simpa using fun z => g (num_pos_iff.mpr z))]
      rw [if_neg g] at hr
      rw [em]
      grind
theorem on_going {rows : List Ln} (h : ∀ l ∈ rows, l.on = true) : going rows = rows.map gap := by
  unfold going
  rw [List.filter_eq_self.mpr h]
theorem on_ended {rows : List Ln} (h : ∀ l ∈ rows, l.on = true) : endedR rows = 0 := by
  unfold endedR
  rw [List.filter_eq_nil_iff.mpr fun l hl => by rw [h l hl]; decide]
  rfl
theorem btw_rat {c : Int} {r : Rat} (h : btw c r = true) : r - 1 < (c : Rat) ∧ (c : Rat) < r + 1 := by
  unfold btw at h
  rw [Bool.and_eq_true] at h
  have h1 := of_decide_eq_true h.1
  have h2 := of_decide_eq_true h.2
  have a := dn_lt r
  have b := upp_lt r
  have h1 : ((dn r : Int) : Rat) ≤ (c : Rat) := Rat.intCast_le_intCast.mpr h1
  have h2 : (c : Rat) ≤ ((upp r : Int) : Rat) := Rat.intCast_le_intCast.mpr h2
  constructor <;> grind
/-- one or two lines that go on: near is open -/
theorem few_open {rows : List Ln} (on : ∀ l ∈ rows, l.on = true) (h : near rows = true) (h3 : rows.length < 3) : free rows = true := by
  have hn := h
  unfold near at hn
  rw [Bool.and_eq_true] at hn
  obtain ⟨n1, n2⟩ := hn
  have rowOk : ∀ l ∈ rows, -1 < gap l ∧ gap l < 1 := fun l hl => by
    have := btw_rat (List.all_eq_true.mp n1 l hl)
    unfold gap
    constructor <;> grind
  have tot := btw_rat n2
  unfold free
  rw [h, Bool.true_and]
  unfold four
  rw [on_ended on, ahead_pos, behind_neg, on_going on]
  have key : posQ (rows.map gap) < 1 ∧ negQ (rows.map gap) < 1 := by
    match rows, h3, rowOk, tot with
    | [], _, _, _ => exact ⟨by decide, by decide⟩
    | [a], _, ro, _ =>
      obtain ⟨a1, a2⟩ := ro a List.mem_cons_self
      rw [List.map_cons, List.map_nil, show [gap a] = [] ++ [gap a] from rfl, posQ_snoc, negQ_snoc]
      have e1 : posQ [] = 0 := rfl
      have e2 : negQ [] = 0 := rfl
      rw [e1, e2]
      constructor <;> split <;> grind
    | [a, b], _, ro, tt =>
      obtain ⟨a1, a2⟩ := ro a List.mem_cons_self
      obtain ⟨b1, b2⟩ := ro b (List.mem_cons_of_mem _ List.mem_cons_self)
      have ec : (([a, b].map fun l => l.ct).sum : Int) = a.ct + b.ct := by simp
      have ee : sumQ ([a, b].map fun l => l.ex) = a.ex + b.ex := by
        rw [List.map_cons, List.map_cons, List.map_nil, sumQ_cons, sumQ_cons, sumQ_nil]
        grind
      rw [ec, ee, Rat.intCast_add] at tt
      obtain ⟨t1, t2⟩ := tt
      have s1 : gap a + gap b < 1 := by unfold gap; grind
      have s2 : -1 < gap a + gap b := by unfold gap; grind
      rw [List.map_cons, List.map_cons, List.map_nil, show [gap a, gap b] = ([] ++ [gap a]) ++ [gap b] from rfl, posQ_snoc, negQ_snoc, posQ_snoc, negQ_snoc]
      have e1 : posQ [] = 0 := rfl
      have e2 : negQ [] = 0 := rfl
      rw [e1, e2]
      constructor <;> (repeat' split) <;> grind
  obtain ⟨k1, k2⟩ := key
  refine List.all_eq_true.mpr fun r hr => decide_eq_true ?_
  simp only [List.mem_cons, List.not_mem_nil, or_false] at hr
  rcases hr with rfl | rfl | rfl | rfl <;> grind
/-! ### check_parts -/
def WayAll (here : List Ln) : Prop := ∀ l ∈ here, l.ct ∈ ways1 l.ex
theorem own_all {here : List Ln} (h : OwnWay here) : WayAll here := fun l hl => by
  have e := zip_self here
  rw [← e] at hl
  obtain ⟨l', hl', v, hv, rfl⟩ := zip_mem _ here rfl _ h l hl
  exact hv
def c__law_check_parts : CW := fun ws g Q => ∃ here : List Ln, ws = [.dat (rowsD here)] ∧ RowsK here ∧ WayAll here ∧ (∀ l ∈ here, l.on = true) ∧ Q (.dat (.bool true)) g
abbrev N__law_check_parts : List Str := ["_law_one", "_law_ahead", "_law_behind", "_law_ended", "_law_gaps_here", "_law_parts", "_law_row", "_law_many", "_law_gap"]
abbrev b__law_check_parts : TSW := (sSet 5 (sCallP c__law_plus (sCons (sVar 5) (sCons (sCallP c__law_minus (sCons (s2 (sVar 6) (sI 1) gIx) (sCons (sTup (sCons (sCallP c__law_down (sCons (s2 (sVar 6) (sI 1) gIx) (sNil))) (sCons (sI 1) (sNil)))) (sNil)))) (sNil)))) (sEnd))
abbrev z__law_check_parts : TSW := (sSet 7 (sCal (g1 kLen) (sCons (sFrz (sLc (sItems (sVar 4)) (bName 8) (sB (s2 (s2 (sVar 8) (sI 0) gIx) (sI 0) (gGt))) (sVar 8) [8])) (sNil))) (sRet (sAndV (s2 (sCallP c__law_minus (sCons (sVar 1) (sCons (sVar 2) (sNil)))) (sCallP c__law_minus (sCons (sTup (sCons (sVar 7) (sCons (sI 1) (sNil)))) (sCons (sVar 5) (sNil)))) (gEq id)) (s2 (sVar 3) (sTup (sCons (sI 0) (sCons (sI 1) (sNil)))) (gEq id)))))
def t__law_check_parts : TSW := sUnp (sCallP c_balances (sCons (sVar 0) (sNil))) (bTup [1, 2, 3]) (sPar 4 5 (sCallP c_offs (sCons (sVar 0) (sNil))) (sTup (sCons (sI 0) (sCons (sI 1) (sNil)))) (sFor (sItems (sVar 0)) (bName 6) b__law_check_parts z__law_check_parts))
theorem me__law_check_parts : ∀ ws g Q, c__law_check_parts ws g Q → t__law_check_parts (endW Q) (startW N__law_check_parts ws) ⟨g, []⟩ := by
  rintro ws g Q ⟨here, rfl, ok, wa, on, q⟩
  have l8 := ok.1
  have e20 : (2 : Nat) ^ 20 = 1048576 := by decide
  have bdd : ∀ l ∈ here, Bd 60 (l.ex - ((dn l.ex : Int) : Rat)) := fun l hl => by
    have h := (ok.2 l hl).1
    rw [Rat.sub_eq_add_neg]
    exact (bd_add h (bd_neg (bd_int (rnd_bd h).1 (by decide)))).mono (by decide)
  refine ⟨_, rfl, here, rfl, ok, rfl, _, rfl, ?_⟩
  refine ⟨_, rfl, here, rfl, ok, rfl, l2, ?_⟩
  have loop : ∀ (ls done : List Ln) (x6 : Option U), here = done ++ ls → forR (bName 6) b__law_check_parts ((ls.map Wl.ld).map .dat) { (endW Q) with nx := z__law_check_parts (endW Q) } [some (.v (.dat (rowsD here))), some (.v (.dat (qd (aheadR here)))), some (.v (.dat (qd (behindR here)))), some (.v (.dat (qd (endedR here)))), some (.v (.dat (.tuple (here.map fun l => qd (gap l))))), some (.v (.dat (qd (partsQ done)))), x6, none, none] ⟨g, []⟩ := by
    intro ls
    induction ls with
    | nil =>
      intro done x6 e
      rw [List.append_nil] at e
      subst e
      have eg : here.map (fun l => qd (gap l)) = (here.map gap).map qd := by rw [List.map_map]; rfl
      rw [eg]
      refine ⟨len_mm (by rw [List.length_map]; omega), ?_⟩
      refine comp_flt (enc := qd) (f := qd) (fun r => decide (0 < r.num)) (fun r => _) (here.map gap) (fun r _ => rfl) (fun r hr Q' q' => ⟨_, rfl, q'⟩) (fun r _ _ Q' q' => q') ?_
      have ba := (bd_ahead ok).mono (show 500 ≤ 2000 by decide)
      have bb := (bd_behind ok).mono (show 500 ≤ 2000 by decide)
      have em : ((((here.map gap).filter fun r => decide (0 < r.num)).map qd).length : Int) = ((manyQ here : Nat) : Int) := by
        rw [List.length_map]
        rfl
      have mb : manyQ here ≤ 8 := by
        unfold manyQ
        refine Nat.le_trans (List.length_filter_le _ _) ?_
        rw [List.length_map]
        exact l8
      have bmany : Bd 2000 ((((manyQ here : Nat) : Int) : Rat)) := by
        have e4 : (2 : Nat) ^ 4 = 16 := by decide
        exact (bd_int (n := 4) (by omega) (by decide)).mono (by decide)
      have bp : Bd 2000 (partsQ here) := (bd_sum8 (fun r hr => by
        obtain ⟨l, hl, rfl⟩ := List.mem_map.mp hr
        exact bdd l hl) (by rw [List.length_map]; exact l8)).mono (by decide)
      refine ⟨_, rfl, _, _, rfl, ba, bb, rfl, ?_⟩
      refine ⟨l2, _, rfl, (((manyQ here : Nat) : Int) : Rat), partsQ here, ?_, bmany, bp, rfl, ?_⟩
      · rw [qd_int]
        show [W.dat (.tuple [.int ((((here.map gap).filter fun r => decide (0 < r.num)).map qd).length : Int), .int 1]), W.dat (qd (partsQ here))] = _
        rw [em]
      refine ⟨⟨rfl, by show 1 ≤ 60; decide⟩, ?_⟩
      have ee : aheadR here - behindR here = (((manyQ here : Nat) : Int) : Rat) - partsQ here := by
        rw [ahead_pos, behind_neg, posneg, on_going on]
        exact all_parts here wa
      show (if PyData.eqv (qd (aheadR here - behindR here)) (qd ((((manyQ here : Nat) : Int) : Rat) - partsQ here)) = true then _ else _)
      rw [ee, eqv_qd, if_pos (decide_eq_true rfl)]
      refine ⟨l2, ⟨rfl, by show 1 ≤ 60; decide⟩, ?_⟩
      show Q (.dat (.bool (PyData.eqv (qd (endedR here)) (qd 0)))) g
      rw [on_ended on, eqv_qd, decide_eq_true rfl]
      exact q
    | cons l ls ih =>
      intro done x6 e
      have hl : l ∈ here := by rw [e]; exact List.mem_append_right _ List.mem_cons_self
      have hb := (ok.2 l hl).1
      have d8 : done.length ≤ 8 := by rw [e, List.length_append] at l8; omega
      have bp : Bd 2000 (partsQ done) := (bd_sum8 (fun r hr => by
        obtain ⟨x, hx, rfl⟩ := List.mem_map.mp hr
        exact bdd x (by rw [e]; exact List.mem_append_left _ hx)) (by rw [List.length_map]; exact d8)).mono (by decide)
      refine ⟨_, rfl, ?_⟩
      refine ⟨_, rfl, _, rfl, _, rfl, l.ex, rfl, hb.mono (by decide), rfl, l2, ?_⟩
      refine ⟨_, rfl, l.ex, ((dn l.ex : Int) : Rat), by rw [qd_int], hb.mono (by decide), (bd_int (rnd_bd hb).1 (by decide)).mono (by decide), rfl, ?_⟩
      refine ⟨_, rfl, partsQ done, _, rfl, bp, (bdd l hl).mono (by decide), rfl, ?_⟩
      have := ih (done ++ [l]) (some (.v (.dat (Wl.ld l)))) (by rw [e, List.append_assoc]; rfl)
      have e3 : partsQ (done ++ [l]) = partsQ done + (l.ex - ((dn l.ex : Int) : Rat)) := by
        unfold partsQ
        rw [List.map_append, List.map_cons, List.map_nil, sumQ_snoc']
      rw [e3] at this
      exact this
  exact loop here [] none rfl
end W4

/-! k47: the law -/
namespace W4.K47
open PySem PySem.Spec PyProof.Rows L2 Cb Wl Wg
abbrev c_law : CW := c_lawW
abbrev N_law : List Str := ["_law_script", "_law_rng", "_law_lap", "_law_here", "_law_free", "_law_changes", "_law_going", "_law_one", "_law_row"]
abbrev g_law : TSW := (sSetLF 6 (sLc (sItems (sVar 3)) (bName 8) (sB (s2 (sVar 8) (sI 3) gIx)) (sVar 8) [8]) (sIfS (sB (s2 (sCal (g1 kLen) (sCons (sVar 6) (sNil))) (sCal (g1 kLen) (sCons (sVar 3) (sNil))) (gEq id))) (sIfS (sOr (sNot (sB (sCallP c__law_check_parts (sCons (sVar 3) (sNil))))) (sAnd (sB (s2 (sCal (g1 kLen) (sCons (sVar 3) (sNil))) (sI 3) (gLt))) (sNot (sB (sCallP c_is_open (sCons (sVar 3) (sNil))))))) (sRet (sBl false)) (sEnd) (sEnd)) (sEnd) (sEnd)))
abbrev e_law : TSW := (sIfS (sB (s2 (s2 (sVar 5) (sNone) (gIs id)) (s2 (sVar 4) (sFrz (sLst (sNil))) (gEq id)) (gEq not))) (sRet (sBl false)) (sEnd) g_law)
abbrev d_law : TSW := (sIfS (sOr (sB (s2 (s2 (sVar 3) (sVar 4) (gInD false)) (sCallP c_is_open (sCons (sVar 3) (sNil))) (gEq not))) (sB (s2 (sCallP c_is_open (sCons (sVar 3) (sNil))) (s2 (sVar 5) (s2 (sTup (sCons (sI 0) (sNil))) (sCal (g1 kLen) (sCons (sVar 3) (sNil))) gMulT) (gEq id)) (gEq not)))) (sRet (sBl false)) (sEnd) e_law)
abbrev b_law : TSW := (sSet 3 (sCallG c__law_make_near (sCons (sVar 1) (sCons (sI 1) (sCons (sI 4) (sNil))))) (sPar 4 5 (sFrz (sLstG c_open_states (sCons (sVar 3) (sNil)))) (sCallP c_corrected (sCons (sVar 3) (sNil))) (sIfS (sB (s2 (sFrz (sLc (sItems (sVar 4)) (bName 7) (sNot (sB (sCallP c__law_check_open (sCons (sVar 3) (sCons (sVar 7) (sNil)))))) (sVar 7) [7])) (sFrz (sLst (sNil))) (gEq not))) (sRet (sBl false)) (sEnd) d_law)))
def t_law : TSW := sSet 1 (sCallG c__law_stream (sCons (sVar 0) (sNil))) (sFor (sRng1 (sCons (sI 6) (sNil))) (bName 2) b_law (sRet (sBl true)))
theorem eqB (a b : Bool) : PyData.eqv (.bool a) (.bool b) = (a == b) := rfl
theorem best_isN (here : List Ln) : isN (.v (.dat (optD (bestOf here)))) = (openL here).isEmpty := by
  cases hb : bestOf here with
  | none =>
    rw [(best_none (openL here) none hb).2]
    rfl
  | some b =>
    obtain ⟨h1, _⟩ := best_mem (openL here) none b hb
    obtain ⟨s, hs, _⟩ := h1.resolve_left (fun z => by cases z)
    cases e : openL here with
    | nil => rw [e] at hs; cases hs
    | cons a l => rfl
theorem zeros (n : Nat) : PyData.tuple (List.replicate n [PyData.int 0]).flatten = rowI (List.replicate n 0) := by
  unfold rowI
  congr 1
  induction n with
  | zero => rfl
  | succ n ih => rw [List.replicate_succ, List.flatten_cons, ih, List.replicate_succ]; rfl
theorem all_on {here : List Ln} (h : (here.filter fun l => l.on).length = here.length) : ∀ l ∈ here, l.on = true := by
  have := List.length_filter_eq_length_iff.mp h
  exact this
theorem me_law : ∀ ws g Q, c_law ws g Q → t_law (endW Q) (startW N_law ws) ⟨g, []⟩ := by
  rintro ws g Q ⟨ns, rfl, q⟩
  refine ⟨_, rfl, ns, rfl, fun n m ga rga => ?_⟩
  refine ⟨by decide, by decide, ?_⟩
  have loop : ∀ (laps : List Int) (N : Nat) (ga : List Ob) (x2 x3 x4 x5 x6 x7 x8 : Option U), N + 50 * laps.length ≤ 4900 → Rg n m N ga → forR (bName 2) b_law ((laps.map PyData.int).map .dat) { (endW Q) with nx := sRet (sBl true) (endW Q) } [some (.v (.scr ns)), some (.v (.ref n)), x2, x3, x4, x5, x6, x7, x8] ⟨ga, []⟩ := by
    intro laps
    induction laps with
    | nil => exact fun N ga x2 x3 x4 x5 x6 x7 x8 _ _ => q ga
    | cons lap laps ih =>
      intro N ga x2 x3 x4 x5 x6 x7 x8 hN rga
      rw [List.length_cons] at hN
      refine ⟨_, rfl, ?_⟩
      refine ⟨_, rfl, n, m, N, rfl, by omega, rga, fun w gb ⟨here, ew, ok, hpos, h4, ow, hn⟩ rgb => ?_⟩
      subst ew
      have nxt : ∀ y3 y4 y5 y6 y7 y8, forR (bName 2) b_law ((laps.map PyData.int).map .dat) { (endW Q) with nx := sRet (sBl true) (endW Q) } [some (.v (.scr ns)), some (.v (.ref n)), some (.v (.dat (.int lap))), y3, y4, y5, y6, y7, y8] ⟨gb, []⟩ := fun y3 y4 y5 y6 y7 y8 => ih (N + 42) gb _ y3 y4 y5 y6 y7 y8 (by omega) rgb
      have k := ok.1
      have lo := open_len k.1
      refine ⟨_, rfl, rfl, here, rfl, k, (openL here).map rowsD, by rw [List.map_map]; rfl, by rw [List.length_map]; omega, ?_⟩
      refine ⟨_, rfl, here, rfl, k, rfl, ?_⟩
      refine ⟨len_mm (by omega), ?_⟩
      refine comp_flt (enc := rowsD) (f := rowsD) (fun _ => false) (fun s => _) (openL here) (fun s _ => rfl) (fun s hs Q' q' => ?_) (fun s _ h => by cases h) ?_
      · obtain ⟨c, hc, rfl, hf⟩ := open_mem hs
        exact ⟨_, rfl, here, c, rfl, k, hc, hf, rfl, q'⟩
      rw [filter_false]
      refine ⟨by decide, ?_⟩
      refine gEq_ok (f := not) (h := ⟨gb, []⟩) rfl rfl ⟨rfl, by decide⟩ rfl ?_
      -- in the list exactly if open
      refine ⟨⟨shaped_rows ok.str, shaped_rowss fun s hs => (ok.open_ s hs).str⟩, ?_⟩
      refine ⟨_, rfl, here, rfl, k, rfl, ?_⟩
      refine ⟨⟨rfl, by show 0 ≤ 60; decide⟩, ?_⟩
      show (if (!PyData.eqv (.bool (((openL here).map rowsD).any fun e => PyData.eqv e (rowsD here))) (.bool (free here))) = true then _ else _)
      rw [in_open ow, eqB, beq_self_eq_true, if_neg (by decide)]
      -- no change exactly if open
      refine ⟨_, rfl, here, rfl, k, rfl, ?_⟩
      refine ⟨l1, ?_⟩
      show (([PyData.int 0] ≠ [] ∧ [PyData.int 0].length ≤ 1000 ∧ 1 ≤ (((here.map Wl.ld).length : Nat) : Int) ∧ (((here.map Wl.ld).length : Nat) : Int) ≤ 1000) ∧ _)
      rw [List.length_map]
      refine ⟨⟨by simp, by decide, by omega, by omega⟩, ?_⟩
      rw [Int.toNat_natCast, zeros]
      have pz : (rowI (List.replicate here.length 0)).plain = true ∧ (rowI (List.replicate here.length 0)).depth ≤ 60 := by
        have := plainL (enc := PyData.int) (l := List.replicate here.length 0) fun a => ⟨rfl, by show 0 ≤ 50; decide⟩
        exact this
      have po : (optD (bestOf here)).plain = true ∧ (optD (bestOf here)).depth ≤ 60 := by
        cases bestOf here with
        | none => exact ⟨rfl, by show 0 ≤ 60; decide⟩
        | some b =>
          have := plainL (enc := PyData.int) (l := b) fun a => ⟨rfl, by show 0 ≤ 50; decide⟩
          exact this
      refine gEq_ok (f := id) (h := ⟨gb, []⟩) rfl rfl po pz.1 ?_
      refine ⟨⟨rfl, by show 0 ≤ 60; decide⟩, ?_⟩
      show (if (!PyData.eqv (.bool (free here)) (.bool (PyData.eqv (optD (bestOf here)) (rowI (List.replicate here.length 0))))) = true then _ else _)
      rw [best_zero ow, eqB, beq_self_eq_true, if_neg (by decide)]
      -- none exactly if there is no open state
      refine ⟨by decide, ?_⟩
      refine gEq_ok (f := id) (h := ⟨gb, []⟩) rfl rfl (plainL pd_rows) rfl ?_
      refine ⟨⟨rfl, by show 0 ≤ 60; decide⟩, ?_⟩
      show (if (!PyData.eqv (.bool (isN (.v (.dat (optD (bestOf here)))))) (.bool (PyData.eqv (.list ((openL here).map rowsD)) (.list [])))) = true then _ else _)
      rw [best_isN, eqv_nilD, map_empty, eqB, beq_self_eq_true, if_neg (by decide)]
      -- states whose lines all go on
      refine ⟨len_mm (by omega), ?_⟩
      refine comp_flt (enc := Wl.ld) (f := Wl.ld) (fun (l : Ln) => l.on) (fun l => _) here (fun l _ => rfl) (fun l _ Q' q' => ⟨_, rfl, q'⟩) (fun l _ _ Q' q' => q') ?_
      refine ⟨⟨rfl, by show 0 ≤ 60; decide⟩, ?_⟩
      show (if PyData.eqv (.int ((((here.filter fun l => l.on).map Wl.ld).length : Nat) : Int)) (.int (((here.map Wl.ld).length : Nat) : Int)) = true then _ else _)
      rw [List.length_map, List.length_map, eqI]
      split
      · rename_i e
        have el : (here.filter fun l => l.on).length = here.length := by
          have := beq_iff_eq.mp e
          omega
        have on := all_on el
        refine ⟨_, rfl, here, rfl, k, own_all ow, on, rfl, ?_⟩
        show (if decide (((here.map Wl.ld).length : Int) < 3) = true then _ else _)
        rw [List.length_map]
        split
        · rename_i l3
          have l3 := of_decide_eq_true l3
          refine ⟨_, rfl, here, rfl, k, rfl, ?_⟩
          show (if (!free here) = true then _ else _)
          rw [few_open on hn (by omega), if_neg (by decide)]
          exact nxt _ _ _ _ _ _
        · exact nxt _ _ _ _ _ _
      · exact nxt _ _ _ _ _ _
  show forR (bName 2) b_law (rangeW 0 ((6 : Int)).toNat) _ _ _
  rw [show ((6 : Int)).toNat = (((6 : Nat) : Int)).toNat from rfl, rangeW_nat]
  have := loop ((List.range 6).map fun (i : Nat) => (i : Int)) 0 ga none none none none none none none (by decide) rga
  rw [List.map_map (f := fun (i : Nat) => (i : Int))] at this
  exact this
end W4.K47

namespace W4.K47
open PySem PySem.Spec PyProof.Rows L2 Cb Wl Wg
theorem room65 {k : Nat} {A : Around} (r : Room k A) : A.units + 65 < cLine := by have := r.un; omega
def top (i : Nat) : Stmt := PySem.Challenge.pw_centbook_k47_whole_open_states.main.body.getD i (.Pass ⟨0, 0, 0, 0⟩)
abbrev s_lowest : Stmt := top 4
abbrev s_pair_sum : Stmt := top 5
abbrev s_pair_total : Stmt := top 6
abbrev s_rounded_down : Stmt := top 7
abbrev s_rounded_up : Stmt := top 8
abbrev s_pair_turned : Stmt := top 9
abbrev s_pair_less : Stmt := top 10
abbrev s_is_below : Stmt := top 11
abbrev s_offs : Stmt := top 13
abbrev s_balances : Stmt := top 14
abbrev s_is_rounded : Stmt := top 15
abbrev s_is_close_state : Stmt := top 16
abbrev s_is_open : Stmt := top 17
abbrev s_rounded_states : Stmt := top 18
abbrev s_open_states : Stmt := top 19
abbrev s_size_of : Stmt := top 21
abbrev s_corrected : Stmt := top 22
abbrev s__law_stream : Stmt := top 24
abbrev s__law_draw : Stmt := top 25
abbrev s__law_pick : Stmt := top 26
abbrev s__law_sample : Stmt := top 27
abbrev s__law_low : Stmt := top 28
abbrev s__law_plus : Stmt := top 29
abbrev s__law_minus : Stmt := top 30
abbrev s__law_less : Stmt := top 31
abbrev s__law_total : Stmt := top 32
abbrev s__law_down : Stmt := top 33
abbrev s__law_up : Stmt := top 34
abbrev s__law_gaps : Stmt := top 35
abbrev s__law_scales : Stmt := top 36
abbrev s__law_between : Stmt := top 37
abbrev s__law_is_near : Stmt := top 38
abbrev s__law_is_free : Stmt := top 39
abbrev s__law_choices : Stmt := top 40
abbrev s__law_round_ways : Stmt := top 41
abbrev s__law_with_counts : Stmt := top 42
abbrev s__law_make_exact : Stmt := top 43
abbrev s__law_make_bare : Stmt := top 44
abbrev s__law_make_near : Stmt := top 45
abbrev s__law_groups : Stmt := top 46
abbrev s__law_check_open : Stmt := top 47
abbrev s__law_check_parts : Stmt := top 48
abbrev s_law : Stmt := top 49
end W4.K47

namespace W4.K47
open PySem PySem.Spec PyProof.Rows L2 Cb Wl Wg
variable {P : Program} {w : World} {K : PySem.W.Frag} {mg : Str → Option Value} {base : Heap}
theorem sc_lowest : FnScope N_lowest ["over", "under"] (defScope s_lowest) := ⟨rfl, rfl, rfl, by decide +kernel, rfl, by decide +kernel, by decide +kernel⟩
theorem br_lowest {f : Addr} {fd : FuncData} (F : Fun K "lowest" "lowest" s_lowest f fd) (z_gcd : mg "gcd" = some (.builtin "math.gcd")) : FnOk P w K mg base CX0 1 f fd ["over", "under"] (spW K c_lowest) := by
  refine fn_w F sc_lowest (fun ws g Q h => by (repeat (obtain ⟨_, h⟩ := h)); subst_vars; rfl) fun cdv A0 outer s H E hr => ?_
  exact ⟨t_lowest, trb_set (i := 2) sc_lowest.nd rfl (.inl rfl) (tr_cfun cw_gcd z_gcd (tra_cons (tr_name (pv 0)) (tra_cons (tr_name (pv 1)) (tra_nil)))) (trb_if (trt_cmp (ow_lt) (tr_name (pv 1)) (tr_int) (nomark _)) (trb_set (i := 2) sc_lowest.nd rfl (.inl rfl) (tr_neg (tr_name (pv 2))) (trb_nil)) (trb_nil) (trb_ret (tr_tup (tra_cons (tr_op ow_div (tr_name (pv 0)) (tr_name (pv 2))) (tra_cons (tr_op ow_div (tr_name (pv 1)) (tr_name (pv 2))) (tra_nil)))))), me_lowest⟩
theorem sc_pair_sum : FnScope N_pair_sum ["one", "other"] (defScope s_pair_sum) := ⟨rfl, rfl, rfl, by decide +kernel, rfl, by decide +kernel, by decide +kernel⟩
theorem br_pair_sum {f : Addr} {fd : FuncData} (F : Fun K "pair_sum" "pair_sum" s_pair_sum f fd) (L_lowest : LD P w K mg base "lowest" 1 ["over", "under"] (spW K c_lowest)) : FnOk P w K mg base CX0 2 f fd ["one", "other"] (spW K c_pair_sum) := by
  refine fn_w F sc_pair_sum (fun ws g Q h => by (repeat (obtain ⟨_, h⟩ := h)); subst_vars; rfl) fun cdv A0 outer s H E hr => ?_
  obtain ⟨_, _, G_lowest⟩ := LD.g (X := (cxOf CX0 P w K mg base N_pair_sum "pair_sum" (defScope s_pair_sum) f cdv A0 outer s H E).nox) L_lowest hr (by decide)
  exact ⟨t_pair_sum, trb_ret (tr_callP G_lowest (tra_cons (tr_op ow_add (tr_op ow_mul (tr_ix (tr_name (pv 0)) (tr_int)) (tr_ix (tr_name (pv 1)) (tr_int))) (tr_op ow_mul (tr_ix (tr_name (pv 1)) (tr_int)) (tr_ix (tr_name (pv 0)) (tr_int)))) (tra_cons (tr_op ow_mul (tr_ix (tr_name (pv 0)) (tr_int)) (tr_ix (tr_name (pv 1)) (tr_int))) (tra_nil)))), me_pair_sum⟩
theorem sc_pair_total : FnScope N_pair_total ["pairs"] (defScope s_pair_total) := ⟨rfl, rfl, rfl, by decide +kernel, rfl, by decide +kernel, by decide +kernel⟩
theorem br_pair_total {f : Addr} {fd : FuncData} (F : Fun K "pair_total" "pair_total" s_pair_total f fd) (L_pair_sum : LD P w K mg base "pair_sum" 2 ["one", "other"] (spW K c_pair_sum)) : FnOk P w K mg base CX0 3 f fd ["pairs"] (spW K c_pair_total) := by
  refine fn_w F sc_pair_total (fun ws g Q h => by (repeat (obtain ⟨_, h⟩ := h)); subst_vars; rfl) fun cdv A0 outer s H E hr => ?_
  obtain ⟨_, _, G_pair_sum⟩ := LD.g (X := (cxOf CX0 P w K mg base N_pair_total "pair_total" (defScope s_pair_total) f cdv A0 outer s H E).nox) L_pair_sum hr (by decide)
  exact ⟨t_pair_total, trb_set (i := 1) sc_pair_total.nd rfl (.inl rfl) (tr_tup (tra_cons (tr_int) (tra_cons (tr_int) (tra_nil)))) (trb_for (g := gName 2) rfl (tri_val (tr_name (pv 0))) (pg_name (i := 2) sc_pair_total.nd rfl (Or.inl rfl)) trg_name (trb_set (i := 1) sc_pair_total.nd rfl (.inl rfl) (tr_callP G_pair_sum (tra_cons (tr_name (pv 1)) (tra_cons (tr_name (pv 2)) (tra_nil)))) (trb_nil)) (trb_ret (tr_name (pv 1))) PassesOwn.never), me_pair_total⟩
theorem sc_rounded_down : FnScope N_rounded_down ["pair"] (defScope s_rounded_down) := ⟨rfl, rfl, rfl, by decide +kernel, rfl, by decide +kernel, by decide +kernel⟩
theorem br_rounded_down {f : Addr} {fd : FuncData} (F : Fun K "rounded_down" "rounded_down" s_rounded_down f fd) : FnOk P w K mg base CX0 1 f fd ["pair"] (spW K c_rounded_down) := by
  refine fn_w F sc_rounded_down (fun ws g Q h => by (repeat (obtain ⟨_, h⟩ := h)); subst_vars; rfl) fun cdv A0 outer s H E hr => ?_
  exact ⟨t_rounded_down, trb_ret (tr_op ow_div (tr_ix (tr_name (pv 0)) (tr_int)) (tr_ix (tr_name (pv 0)) (tr_int))), me_rounded_down⟩
theorem sc_rounded_up : FnScope N_rounded_up ["pair"] (defScope s_rounded_up) := ⟨rfl, rfl, rfl, by decide +kernel, rfl, by decide +kernel, by decide +kernel⟩
theorem br_rounded_up {f : Addr} {fd : FuncData} (F : Fun K "rounded_up" "rounded_up" s_rounded_up f fd) : FnOk P w K mg base CX0 1 f fd ["pair"] (spW K c_rounded_up) := by
  refine fn_w F sc_rounded_up (fun ws g Q h => by (repeat (obtain ⟨_, h⟩ := h)); subst_vars; rfl) fun cdv A0 outer s H E hr => ?_
  exact ⟨t_rounded_up, trb_ret (tr_neg (tr_op ow_div (tr_neg (tr_ix (tr_name (pv 0)) (tr_int))) (tr_ix (tr_name (pv 0)) (tr_int)))), me_rounded_up⟩
theorem sc_pair_turned : FnScope N_pair_turned ["pair"] (defScope s_pair_turned) := ⟨rfl, rfl, rfl, by decide +kernel, rfl, by decide +kernel, by decide +kernel⟩
theorem br_pair_turned {f : Addr} {fd : FuncData} (F : Fun K "pair_turned" "pair_turned" s_pair_turned f fd) : FnOk P w K mg base CX0 1 f fd ["pair"] (spW K c_pair_turned) := by
  refine fn_w F sc_pair_turned (fun ws g Q h => by (repeat (obtain ⟨_, h⟩ := h)); subst_vars; rfl) fun cdv A0 outer s H E hr => ?_
  exact ⟨t_pair_turned, trb_ret (tr_tup (tra_cons (tr_neg (tr_ix (tr_name (pv 0)) (tr_int))) (tra_cons (tr_ix (tr_name (pv 0)) (tr_int)) (tra_nil)))), me_pair_turned⟩
theorem sc_pair_less : FnScope N_pair_less ["one", "other"] (defScope s_pair_less) := ⟨rfl, rfl, rfl, by decide +kernel, rfl, by decide +kernel, by decide +kernel⟩
theorem br_pair_less {f : Addr} {fd : FuncData} (F : Fun K "pair_less" "pair_less" s_pair_less f fd) (L_pair_sum : LD P w K mg base "pair_sum" 2 ["one", "other"] (spW K c_pair_sum)) (L_pair_turned : LD P w K mg base "pair_turned" 1 ["pair"] (spW K c_pair_turned)) : FnOk P w K mg base CX0 3 f fd ["one", "other"] (spW K c_pair_less) := by
  refine fn_w F sc_pair_less (fun ws g Q h => by (repeat (obtain ⟨_, h⟩ := h)); subst_vars; rfl) fun cdv A0 outer s H E hr => ?_
  obtain ⟨_, _, G_pair_sum⟩ := LD.g (X := (cxOf CX0 P w K mg base N_pair_less "pair_less" (defScope s_pair_less) f cdv A0 outer s H E).nox) L_pair_sum hr (by decide)
  obtain ⟨_, _, G_pair_turned⟩ := LD.g (X := (cxOf CX0 P w K mg base N_pair_less "pair_less" (defScope s_pair_less) f cdv A0 outer s H E).nox) L_pair_turned hr (by decide)
  exact ⟨t_pair_less, trb_ret (tr_callP G_pair_sum (tra_cons (tr_name (pv 0)) (tra_cons (tr_callP G_pair_turned (tra_cons (tr_name (pv 1)) (tra_nil))) (tra_nil)))), me_pair_less⟩
theorem sc_is_below : FnScope N_is_below ["one", "other"] (defScope s_is_below) := ⟨rfl, rfl, rfl, by decide +kernel, rfl, by decide +kernel, by decide +kernel⟩
theorem br_is_below {f : Addr} {fd : FuncData} (F : Fun K "is_below" "is_below" s_is_below f fd) : FnOk P w K mg base CX0 1 f fd ["one", "other"] (spW K c_is_below) := by
  refine fn_w F sc_is_below (fun ws g Q h => by (repeat (obtain ⟨_, h⟩ := h)); subst_vars; rfl) fun cdv A0 outer s H E hr => ?_
  exact ⟨t_is_below, trb_ret (tr_cmp (ow_lt) (tr_op ow_mul (tr_ix (tr_name (pv 0)) (tr_int)) (tr_ix (tr_name (pv 1)) (tr_int))) (tr_op ow_mul (tr_ix (tr_name (pv 1)) (tr_int)) (tr_ix (tr_name (pv 0)) (tr_int))) (nomark _)), me_is_below⟩
theorem sc_offs : FnScope N_offs ["state"] (defScope s_offs) := ⟨rfl, rfl, rfl, by decide +kernel, rfl, by decide +kernel, by decide +kernel⟩
theorem br_offs {f : Addr} {fd : FuncData} (F : Fun K "offs" "offs" s_offs f fd) (L_pair_less : LD P w K mg base "pair_less" 3 ["one", "other"] (spW K c_pair_less)) (z_tuple : mg "tuple" = none) : FnOk P w K mg base CX0 4 f fd ["state"] (spW K c_offs) := by
  refine fn_w F sc_offs (fun ws g Q h => by (repeat (obtain ⟨_, h⟩ := h)); subst_vars; rfl) fun cdv A0 outer s H E hr => ?_
  obtain ⟨_, _, G_pair_less⟩ := LD.g (X := (cxOf CX0 P w K mg base N_offs "offs" (defScope s_offs) f cdv A0 outer s H E).nox) L_pair_less hr (by decide)
  exact ⟨t_offs, trb_ret (tr_cty cw_tuple z_tuple (by decide +kernel) (tra_cons (trl_frz (trl_lc (own := [("_", 1), ("exact", 2), ("cents", 3)]) (g := gTup K 4 (gNames [1, 2, 3, 1])) rfl sc_offs.nd (tri_val (tr_name (pv 0))) (blkOk_by (N := N_offs) (sc := defScope s_offs) (by decide +kernel)) (fun _ _ _ _ _ => pg_tup rfl (pgs_cons (pg_name (i := 1) sc_offs.nd rfl (Or.inl rfl)) (pgs_cons (pg_name (i := 2) sc_offs.nd rfl (Or.inl rfl)) (pgs_cons (pg_name (i := 3) sc_offs.nd rfl (Or.inl rfl)) (pgs_cons (pg_name (i := 1) sc_offs.nd rfl (Or.inl rfl)) (pgs_nil)))))) (trg_tup (is := [1, 2, 3, 1]) (all := [1, 2, 3]) (by decide)) (fun _ _ _ _ _ => tr_callP (gdef_blk G_pair_less) (tra_cons (tr_tup (tra_cons (tr_name (pv 3)) (tra_cons (tr_int) (tra_nil)))) (tra_cons (tr_name (pv 2)) (tra_nil)))))) (tra_nil))), me_offs⟩
theorem sc_balances : FnScope N_balances ["state"] (defScope s_balances) := ⟨rfl, rfl, rfl, by decide +kernel, rfl, by decide +kernel, by decide +kernel⟩
theorem br_balances {f : Addr} {fd : FuncData} (F : Fun K "balances" "balances" s_balances f fd) (L_is_below : LD P w K mg base "is_below" 1 ["one", "other"] (spW K c_is_below)) (L_offs : LD P w K mg base "offs" 4 ["state"] (spW K c_offs)) (L_pair_total : LD P w K mg base "pair_total" 3 ["pairs"] (spW K c_pair_total)) (L_pair_turned : LD P w K mg base "pair_turned" 1 ["pair"] (spW K c_pair_turned)) (LC_NO_CENTS : LC K mg "NO_CENTS" (zC)) (z_zip : mg "zip" = none) : FnOk P w K mg base CX0 5 f fd ["state"] (spW K c_balances) := by
  refine fn_w F sc_balances (fun ws g Q h => by (repeat (obtain ⟨_, h⟩ := h)); subst_vars; rfl) fun cdv A0 outer s H E hr => ?_
  obtain ⟨_, _, G_is_below⟩ := LD.g (X := (cxOf CX0 P w K mg base N_balances "balances" (defScope s_balances) f cdv A0 outer s H E).nox) L_is_below hr (by decide)
  obtain ⟨_, _, G_offs⟩ := LD.g (X := (cxOf CX0 P w K mg base N_balances "balances" (defScope s_balances) f cdv A0 outer s H E).nox) L_offs hr (by decide)
  obtain ⟨_, _, G_pair_total⟩ := LD.g (X := (cxOf CX0 P w K mg base N_balances "balances" (defScope s_balances) f cdv A0 outer s H E).nox) L_pair_total hr (by decide)
  obtain ⟨_, _, G_pair_turned⟩ := LD.g (X := (cxOf CX0 P w K mg base N_balances "balances" (defScope s_balances) f cdv A0 outer s H E).nox) L_pair_turned hr (by decide)
  have k_NO_CENTS : LC K mg "NO_CENTS" (zC) := LC_NO_CENTS
  exact ⟨t_balances, trb_setLF (j := 1) (setlc_1T (own := [("off", 5), ("line", 6)]) (g := gTup K 2 (gNames [5, 6])) rfl sc_balances.nd rfl rfl (tri_zip z_zip (tra_cons (tr_callP G_offs (tra_cons (tr_name (pv 0)) (tra_nil))) (tra_cons (tr_name (pv 0)) (tra_nil)))) (blkOk_by (N := N_balances) (sc := defScope s_balances) (by decide +kernel)) (fun _ _ _ _ _ => pg_tup rfl (pgs_cons (pg_name (i := 5) sc_balances.nd rfl (Or.inl rfl)) (pgs_cons (pg_name (i := 6) sc_balances.nd rfl (Or.inl rfl)) (pgs_nil)))) (trg_tup (is := [5, 6]) (all := [5, 6]) (by decide)) (fun _ _ _ _ _ => trt_val (tr_ix (tr_name (pv 6)) (tr_int))) (fun _ _ _ _ _ => tr_name (pv 5)) (sw_true rfl rfl rfl rfl)) (trb_set (i := 2) sc_balances.nd rfl (.inl rfl) (tr_callP G_pair_total (tra_cons (trl_frz (trl_lcT (own := [("off", 5)]) (g := gName 5) rfl sc_balances.nd (tri_val (tr_name (pv 1))) (blkOk_by (N := N_balances) (sc := defScope s_balances) (by decide +kernel)) (fun _ _ _ _ _ => pg_name (i := 5) sc_balances.nd rfl (Or.inl rfl)) (trg_nameM (vs := [5]) (by decide)) (fun _ _ _ _ _ => trt_val (tr_callP (gdef_blk G_is_below) (tra_cons (tr_const k_NO_CENTS) (tra_cons (tr_name (pv 5)) (tra_nil))))) (fun _ _ _ _ _ => tr_name (pv 5)))) (tra_nil))) (trb_set (i := 3) sc_balances.nd rfl (.inl rfl) (tr_callP G_pair_total (tra_cons (trl_frz (trl_lcT (own := [("off", 5)]) (g := gName 5) rfl sc_balances.nd (tri_val (tr_name (pv 1))) (blkOk_by (N := N_balances) (sc := defScope s_balances) (by decide +kernel)) (fun _ _ _ _ _ => pg_name (i := 5) sc_balances.nd rfl (Or.inl rfl)) (trg_nameM (vs := [5]) (by decide)) (fun _ _ _ _ _ => trt_val (tr_callP (gdef_blk G_is_below) (tra_cons (tr_name (pv 5)) (tra_cons (tr_const k_NO_CENTS) (tra_nil))))) (fun _ _ _ _ _ => tr_callP (gdef_blk G_pair_turned) (tra_cons (tr_name (pv 5)) (tra_nil))))) (tra_nil))) (trb_set (i := 4) sc_balances.nd rfl (.inl rfl) (tr_callP G_pair_total (tra_cons (trl_frz (trl_lcT (own := [("off", 5), ("line", 6)]) (g := gTup K 2 (gNames [5, 6])) rfl sc_balances.nd (tri_zip z_zip (tra_cons (tr_callP G_offs (tra_cons (tr_name (pv 0)) (tra_nil))) (tra_cons (tr_name (pv 0)) (tra_nil)))) (blkOk_by (N := N_balances) (sc := defScope s_balances) (by decide +kernel)) (fun _ _ _ _ _ => pg_tup rfl (pgs_cons (pg_name (i := 5) sc_balances.nd rfl (Or.inl rfl)) (pgs_cons (pg_name (i := 6) sc_balances.nd rfl (Or.inl rfl)) (pgs_nil)))) (trg_tup (is := [5, 6]) (all := [5, 6]) (by decide)) (fun _ _ _ _ _ => trt_not (trt_val (tr_ix (tr_name (pv 6)) (tr_int)))) (fun _ _ _ _ _ => tr_name (pv 5)))) (tra_nil))) (trb_ret (tr_tup (tra_cons (tr_name (pv 2)) (tra_cons (tr_name (pv 3)) (tra_cons (tr_name (pv 4)) (tra_nil))))))))), me_balances⟩
end W4.K47

namespace W4.K47
open PySem PySem.Spec PyProof.Rows L2 Cb Wl Wg
variable {P : Program} {w : World} {K : PySem.W.Frag} {mg : Str → Option Value} {base : Heap}
theorem sc_is_rounded : FnScope N_is_rounded ["cents", "exact"] (defScope s_is_rounded) := ⟨rfl, rfl, rfl, by decide +kernel, rfl, by decide +kernel, by decide +kernel⟩
theorem br_is_rounded {f : Addr} {fd : FuncData} (F : Fun K "is_rounded" "is_rounded" s_is_rounded f fd) (L_rounded_down : LD P w K mg base "rounded_down" 1 ["pair"] (spW K c_rounded_down)) (L_rounded_up : LD P w K mg base "rounded_up" 1 ["pair"] (spW K c_rounded_up)) : FnOk P w K mg base CX0 2 f fd ["cents", "exact"] (spW K c_is_rounded) := by
  refine fn_w F sc_is_rounded (fun ws g Q h => by (repeat (obtain ⟨_, h⟩ := h)); subst_vars; rfl) fun cdv A0 outer s H E hr => ?_
  obtain ⟨_, _, G_rounded_down⟩ := LD.g (X := (cxOf CX0 P w K mg base N_is_rounded "is_rounded" (defScope s_is_rounded) f cdv A0 outer s H E).nox) L_rounded_down hr (by decide)
  obtain ⟨_, _, G_rounded_up⟩ := LD.g (X := (cxOf CX0 P w K mg base N_is_rounded "is_rounded" (defScope s_is_rounded) f cdv A0 outer s H E).nox) L_rounded_up hr (by decide)
  exact ⟨t_is_rounded, trb_ret (tr_chain op_le op_le (tr_callP G_rounded_down (tra_cons (tr_name (pv 1)) (tra_nil))) (tr_name (pv 0)) (tr_callP G_rounded_up (tra_cons (tr_name (pv 1)) (tra_nil)))), me_is_rounded⟩
theorem sc_is_close_state : FnScope N_is_close_state ["state"] (defScope s_is_close_state) := ⟨rfl, rfl, rfl, by decide +kernel, rfl, by decide +kernel, by decide +kernel⟩
theorem br_is_close_state {f : Addr} {fd : FuncData} (F : Fun K "is_close_state" "is_close_state" s_is_close_state f fd) (L_is_rounded : LD P w K mg base "is_rounded" 2 ["cents", "exact"] (spW K c_is_rounded)) (L_pair_total : LD P w K mg base "pair_total" 3 ["pairs"] (spW K c_pair_total)) (z_all : mg "all" = none) (z_sum : mg "sum" = none) : FnOk P w K mg base CX0 4 f fd ["state"] (spW K c_is_close_state) := by
  refine fn_w F sc_is_close_state (fun ws g Q h => by (repeat (obtain ⟨_, h⟩ := h)); subst_vars; rfl) fun cdv A0 outer s H E hr => ?_
  obtain ⟨_, _, G_is_rounded⟩ := LD.g (X := (cxOf CX0 P w K mg base N_is_close_state "is_close_state" (defScope s_is_close_state) f cdv A0 outer s H E).nox) L_is_rounded hr (by decide)
  obtain ⟨_, _, G_pair_total⟩ := LD.g (X := (cxOf CX0 P w K mg base N_is_close_state "is_close_state" (defScope s_is_close_state) f cdv A0 outer s H E).nox) L_pair_total hr (by decide)
  exact ⟨t_is_close_state, trb_if (trt_not (trt_val (tr_cb (cw_all rfl) z_all (by decide +kernel) (tra_cons (trl_frz (trl_lc (own := [("_", 1), ("exact", 2), ("cents", 3)]) (g := gTup K 4 (gNames [1, 2, 3, 1])) rfl sc_is_close_state.nd (tri_val (tr_name (pv 0))) (blkOk_by (N := N_is_close_state) (sc := defScope s_is_close_state) (by decide +kernel)) (fun _ _ _ _ _ => pg_tup rfl (pgs_cons (pg_name (i := 1) sc_is_close_state.nd rfl (Or.inl rfl)) (pgs_cons (pg_name (i := 2) sc_is_close_state.nd rfl (Or.inl rfl)) (pgs_cons (pg_name (i := 3) sc_is_close_state.nd rfl (Or.inl rfl)) (pgs_cons (pg_name (i := 1) sc_is_close_state.nd rfl (Or.inl rfl)) (pgs_nil)))))) (trg_tup (is := [1, 2, 3, 1]) (all := [1, 2, 3]) (by decide)) (fun _ _ _ _ _ => tr_callP (gdef_blk G_is_rounded) (tra_cons (tr_name (pv 3)) (tra_cons (tr_name (pv 2)) (tra_nil)))))) (tra_nil))))) (trb_ret (tr_bl)) (trb_nil) (trb_ret (tr_callP G_is_rounded (tra_cons (tr_cb (cw_sum rfl) z_sum (by decide +kernel) (tra_cons (trl_frz (trl_lc (own := [("line", 4)]) (g := gName 4) rfl sc_is_close_state.nd (tri_val (tr_name (pv 0))) (blkOk_by (N := N_is_close_state) (sc := defScope s_is_close_state) (by decide +kernel)) (fun _ _ _ _ _ => pg_name (i := 4) sc_is_close_state.nd rfl (Or.inl rfl)) (trg_nameM (vs := [4]) (by decide)) (fun _ _ _ _ _ => tr_ix (tr_name (pv 4)) (tr_int)))) (tra_nil))) (tra_cons (tr_callP G_pair_total (tra_cons (trl_frz (trl_lc (own := [("line", 4)]) (g := gName 4) rfl sc_is_close_state.nd (tri_val (tr_name (pv 0))) (blkOk_by (N := N_is_close_state) (sc := defScope s_is_close_state) (by decide +kernel)) (fun _ _ _ _ _ => pg_name (i := 4) sc_is_close_state.nd rfl (Or.inl rfl)) (trg_nameM (vs := [4]) (by decide)) (fun _ _ _ _ _ => tr_ix (tr_name (pv 4)) (tr_int)))) (tra_nil))) (tra_nil))))), me_is_close_state⟩
theorem sc_is_open : FnScope N_is_open ["state"] (defScope s_is_open) := ⟨rfl, rfl, rfl, by decide +kernel, rfl, by decide +kernel, by decide +kernel⟩
theorem br_is_open {f : Addr} {fd : FuncData} (F : Fun K "is_open" "is_open" s_is_open f fd) (L_balances : LD P w K mg base "balances" 5 ["state"] (spW K c_balances)) (L_is_below : LD P w K mg base "is_below" 1 ["one", "other"] (spW K c_is_below)) (L_is_close_state : LD P w K mg base "is_close_state" 4 ["state"] (spW K c_is_close_state)) (L_pair_less : LD P w K mg base "pair_less" 3 ["one", "other"] (spW K c_pair_less)) (L_pair_sum : LD P w K mg base "pair_sum" 2 ["one", "other"] (spW K c_pair_sum)) (LC_ONE_CENT : LC K mg "ONE_CENT" (oC)) (z_all : mg "all" = none) : FnOk P w K mg base CX0 6 f fd ["state"] (spW K c_is_open) := by
  refine fn_w F sc_is_open (fun ws g Q h => by (repeat (obtain ⟨_, h⟩ := h)); subst_vars; rfl) fun cdv A0 outer s H E hr => ?_
  obtain ⟨_, _, G_balances⟩ := LD.g (X := (cxOf CX0 P w K mg base N_is_open "is_open" (defScope s_is_open) f cdv A0 outer s H E).nox) L_balances hr (by decide)
  obtain ⟨_, _, G_is_below⟩ := LD.g (X := (cxOf CX0 P w K mg base N_is_open "is_open" (defScope s_is_open) f cdv A0 outer s H E).nox) L_is_below hr (by decide)
  obtain ⟨_, _, G_is_close_state⟩ := LD.g (X := (cxOf CX0 P w K mg base N_is_open "is_open" (defScope s_is_open) f cdv A0 outer s H E).nox) L_is_close_state hr (by decide)
  obtain ⟨_, _, G_pair_less⟩ := LD.g (X := (cxOf CX0 P w K mg base N_is_open "is_open" (defScope s_is_open) f cdv A0 outer s H E).nox) L_pair_less hr (by decide)
  obtain ⟨_, _, G_pair_sum⟩ := LD.g (X := (cxOf CX0 P w K mg base N_is_open "is_open" (defScope s_is_open) f cdv A0 outer s H E).nox) L_pair_sum hr (by decide)
  have k_ONE_CENT : LC K mg "ONE_CENT" (oC) := LC_ONE_CENT
  exact ⟨t_is_open, trb_unp (g := gTup K 3 (gNames [1, 2, 3])) (pg_tup rfl (pgs_cons (pg_name (i := 1) sc_is_open.nd rfl (Or.inl rfl)) (pgs_cons (pg_name (i := 2) sc_is_open.nd rfl (Or.inl rfl)) (pgs_cons (pg_name (i := 3) sc_is_open.nd rfl (Or.inl rfl)) (pgs_nil))))) (trg_tup (is := [1, 2, 3]) (all := [1, 2, 3]) (by decide)) (tr_callP G_balances (tra_cons (tr_name (pv 0)) (tra_nil))) (trb_set (i := 4) sc_is_open.nd rfl (.inl rfl) (tr_tup (tra_cons (tr_name (pv 1)) (tra_cons (tr_name (pv 2)) (tra_cons (tr_callP G_pair_sum (tra_cons (tr_name (pv 1)) (tra_cons (tr_name (pv 3)) (tra_nil)))) (tra_cons (tr_callP G_pair_less (tra_cons (tr_name (pv 2)) (tra_cons (tr_name (pv 3)) (tra_nil)))) (tra_nil)))))) (trb_ret (tr_and (tr_callP G_is_close_state (tra_cons (tr_name (pv 0)) (tra_nil))) (tr_one (tr_cb (cw_all rfl) z_all (by decide +kernel) (tra_cons (trl_frz (trl_lc (own := [("amount", 5)]) (g := gName 5) rfl sc_is_open.nd (tri_val (tr_name (pv 4))) (blkOk_by (N := N_is_open) (sc := defScope s_is_open) (by decide +kernel)) (fun _ _ _ _ _ => pg_name (i := 5) sc_is_open.nd rfl (Or.inl rfl)) (trg_nameM (vs := [5]) (by decide)) (fun _ _ _ _ _ => tr_callP (gdef_blk G_is_below) (tra_cons (tr_name (pv 5)) (tra_cons (tr_const k_ONE_CENT) (tra_nil)))))) (tra_nil))))))), me_is_open⟩
theorem sc_rounded_states : FnScope N_rounded_states ["state"] (defScope s_rounded_states) := ⟨rfl, rfl, rfl, by decide +kernel, rfl, by decide +kernel, by decide +kernel⟩
theorem br_rounded_states {f : Addr} {fd : FuncData} (F : Fun K "rounded_states" "rounded_states" s_rounded_states f fd) (L_rounded_down : LD P w K mg base "rounded_down" 1 ["pair"] (spW K c_rounded_down)) (L_rounded_up : LD P w K mg base "rounded_up" 1 ["pair"] (spW K c_rounded_up)) (z_list : mg "list" = none) (z_range : mg "range" = none) : FnOk P w K mg base CX0 2 f fd ["state"] (spW K c_rounded_states) := by
  refine fn_w F sc_rounded_states (fun ws g Q h => by (repeat (obtain ⟨_, h⟩ := h)); subst_vars; rfl) fun cdv A0 outer s H E hr => ?_
  obtain ⟨_, _, G_rounded_down⟩ := LD.g (X := (cxOf CX0 P w K mg base N_rounded_states "rounded_states" (defScope s_rounded_states) f cdv A0 outer s H E).nox) L_rounded_down hr (by decide)
  obtain ⟨_, _, G_rounded_up⟩ := LD.g (X := (cxOf CX0 P w K mg base N_rounded_states "rounded_states" (defScope s_rounded_states) f cdv A0 outer s H E).nox) L_rounded_up hr (by decide)
  exact ⟨t_rounded_states, trb_set (i := 1) sc_rounded_states.nd rfl (.inl rfl) (trl_frz (trl_lst (tra_cons (tr_tup (tra_nil)) (tra_nil)))) (trb_for (g := gTup K 4 (gNames [2, 3, 4, 5])) rfl (tri_val (tr_name (pv 0))) (pg_tup rfl (pgs_cons (pg_name (i := 2) sc_rounded_states.nd rfl (Or.inr rfl)) (pgs_cons (pg_name (i := 3) sc_rounded_states.nd rfl (Or.inr rfl)) (pgs_cons (pg_name (i := 4) sc_rounded_states.nd rfl (Or.inl rfl)) (pgs_cons (pg_name (i := 5) sc_rounded_states.nd rfl (Or.inr rfl)) (pgs_nil)))))) (trg_tup (is := [2, 3, 4, 5]) (all := [2, 3, 4, 5]) (by decide)) (trb_set (i := 6) sc_rounded_states.nd rfl (.inr rfl) (trl_frz (trl_lrg2 rfl z_list z_range (tr_callP G_rounded_down (tra_cons (tr_name (pv 3)) (tra_nil))) (tr_op ow_add (tr_callP G_rounded_up (tra_cons (tr_name (pv 3)) (tra_nil))) (tr_int)))) (trb_setLF (j := 1) (setlc_2 (own := [("lines", 7), ("cents", 8)]) (vs1 := [8]) (g := gName 7) (gg1 := gName 8) rfl sc_rounded_states.nd rfl rfl (tri_val (tr_name (pv 1))) (blkOk_by (N := N_rounded_states) (sc := defScope s_rounded_states) (by decide +kernel)) (by decide) (fun _ _ _ _ _ => pg_name (i := 7) sc_rounded_states.nd rfl (Or.inl rfl)) (trg_nameM (vs := [7, 8]) (by decide)) (tib_val (fun _ _ _ _ _ => tr_name (pv 6))) (fun _ _ _ _ _ => pg_name (i := 8) sc_rounded_states.nd rfl (Or.inl rfl)) trg_name (fun _ _ _ _ _ => tr_op ow_add (tr_name (pv 7)) (tr_tup (tra_cons (tr_tup (tra_cons (tr_name (pv 2)) (tra_cons (tr_name (pv 3)) (tra_cons (tr_name (pv 8)) (tra_cons (tr_name (pv 5)) (tra_nil)))))) (tra_nil)))) (sw_true rfl rfl rfl rfl)) (trb_nil))) (trb_ret (tr_name (pv 1))) PassesOwn.never), me_rounded_states⟩
end W4.K47

namespace W4.K47
open PySem PySem.Spec PyProof.Rows L2 Cb Wl Wg
variable {P : Program} {w : World} {K : PySem.W.Frag} {mg : Str → Option Value} {base : Heap}
theorem sc_open_states : GScope N_open_states ["state"] (defScope s_open_states) := ⟨rfl, rfl, rfl, by decide +kernel, rfl, by decide +kernel, by decide +kernel⟩
theorem br_open_states {f : Addr} {fd : FuncData} (F : Fun K "open_states" "open_states" s_open_states f fd) (L_is_open : LD P w K mg base "is_open" 6 ["state"] (spW K c_is_open)) (L_rounded_states : LD P w K mg base "rounded_states" 2 ["state"] (spW K c_rounded_states)) : GY P w K mg base 7 f fd N_open_states ["state"] c_open_states := by
  refine gy_mk F sc_open_states (fun _ _ _ => rfl) (fun ws R h => by (repeat (obtain ⟨_, h⟩ := h)); subst_vars; rfl) me_open_states fun cdv Aw outer s H a go G hr ok e0 => ?_
  obtain ⟨_, _, G_is_open⟩ := LD.g (X := (gx P w K mg base N_open_states "open_states" (defScope s_open_states) f cdv Aw outer s H a go).nox) L_is_open (hr.deeper _) (by decide)
  obtain ⟨_, _, G_rounded_states⟩ := LD.g (X := (gx P w K mg base N_open_states "open_states" (defScope s_open_states) f cdv Aw outer s H a go).nox) L_rounded_states (hr.deeper _) (by decide)
  obtain ⟨Xc, X0, pk, GN, it, C⟩ := G
  dsimp only at e0
  subst e0
  exact ty_cons (ty_for (gg := gName 1) ok (fun _ _ => ⟨_, tri_val (tr_callP (gdef_re G_rounded_states) (tra_cons (tr_name (pv 0)) (tra_nil)))⟩) (fun _ _ => pg_name (i := 1) sc_open_states.nd rfl (Or.inl rfl)) trg_name (ty_cons (ty_if ok (fun _ _ => trt_val (tr_callP (gdef_re G_is_open) (tra_cons (tr_name (pv 1)) (tra_nil)))) (ty_cons (ty_yield ok fun _ _ => tr_name (pv 1)) (ty_nil)) (ty_nil)) (ty_nil)) rfl) (ty_nil)
theorem sc_size_of : FnScope N_size_of ["changes"] (defScope s_size_of) := ⟨rfl, rfl, rfl, by decide +kernel, rfl, by decide +kernel, by decide +kernel⟩
theorem br_size_of {f : Addr} {fd : FuncData} (F : Fun K "size_of" "size_of" s_size_of f fd) (z_abs : mg "abs" = none) (z_sum : mg "sum" = none) : FnOk P w K mg base CX0 1 f fd ["changes"] (spW K c_size_of) := by
  refine fn_w F sc_size_of (fun ws g Q h => by (repeat (obtain ⟨_, h⟩ := h)); subst_vars; rfl) fun cdv A0 outer s H E hr => ?_
  exact ⟨t_size_of, trb_ret (tr_cb (cw_sum rfl) z_sum (by decide +kernel) (tra_cons (trl_frz (trl_lc (own := [("change", 1)]) (g := gName 1) rfl sc_size_of.nd (tri_val (tr_name (pv 0))) (blkOk_by (N := N_size_of) (sc := defScope s_size_of) (by decide +kernel)) (fun _ _ _ _ _ => pg_name (i := 1) sc_size_of.nd rfl (Or.inl rfl)) (trg_nameM (vs := [1]) (by decide)) (fun _ _ _ _ _ => tr_cb cw_abs z_abs (by decide +kernel) (tra_cons (tr_name (pv 1)) (tra_nil))))) (tra_nil))), me_size_of⟩
theorem sc_corrected : FnScope N_corrected ["state"] (defScope s_corrected) := ⟨rfl, rfl, rfl, by decide +kernel, rfl, by decide +kernel, by decide +kernel⟩
theorem br_corrected {f : Addr} {fd : FuncData} (F : Fun K "corrected" "corrected" s_corrected f fd) (L_open_states : LY P w K mg base "open_states" 7 ["state", "other"] ["state"] c_open_states) (L_size_of : LD P w K mg base "size_of" 1 ["changes"] (spW K c_size_of)) (z_tuple : mg "tuple" = none) (z_zip : mg "zip" = none) : FnOk P w K mg base CX0 9 f fd ["state"] (spW K c_corrected) := by
  refine fn_w F sc_corrected (fun ws g Q h => by (repeat (obtain ⟨_, h⟩ := h)); subst_vars; rfl) fun cdv A0 outer s H E hr => ?_
  obtain ⟨_, _, G_size_of⟩ := LD.g (X := (cxOf CX0 P w K mg base N_corrected "corrected" (defScope s_corrected) f cdv A0 outer s H E).nox) L_size_of hr (by decide)
  exact ⟨t_corrected, trb_set (i := 1) sc_corrected.nd rfl (.inl rfl) (tr_none) (trb_forY (gg := gName 2) L_open_states hr (by decide) (tra_cons (tr_name (pv 0)) (tra_nil)) (pg_name (i := 2) sc_corrected.nd rfl (Or.inl rfl)) trg_name (trb_set (i := 3) sc_corrected.nd rfl (.inl rfl) (tr_cty cw_tuple z_tuple (by decide +kernel) (tra_cons (trl_frz (trl_lc (own := [("wanted", 4), ("line", 5)]) (g := gTup K 2 (gNames [4, 5])) rfl sc_corrected.nd (tri_zip z_zip (tra_cons (tr_name (pv 2)) (tra_cons (tr_name (pv 0)) (tra_nil)))) (blkOk_by (N := N_corrected) (sc := defScope s_corrected) (by decide +kernel)) (fun _ _ _ _ _ => pg_tup rfl (pgs_cons (pg_name (i := 4) sc_corrected.nd rfl (Or.inl rfl)) (pgs_cons (pg_name (i := 5) sc_corrected.nd rfl (Or.inl rfl)) (pgs_nil)))) (trg_tup (is := [4, 5]) (all := [4, 5]) (by decide)) (fun _ _ _ _ _ => tr_op ow_sub (tr_ix (tr_name (pv 4)) (tr_int)) (tr_ix (tr_name (pv 5)) (tr_int))))) (tra_nil))) (trb_if (trt_w (trw_or (trt_cmp (ow_is) (tr_name (pv 1)) (tr_none) (nomark _)) (trw_or1 (trt_cmp (ow_lt) (tr_callP G_size_of (tra_cons (tr_name (pv 3)) (tra_nil))) (tr_callP G_size_of (tra_cons (tr_name (pv 1)) (tra_nil))) (nomark _))))) (trb_set (i := 1) sc_corrected.nd rfl (.inl rfl) (tr_name (pv 3)) (trb_nil)) (trb_nil) (trb_nil))) (trb_ret (tr_name (pv 1)))), me_corrected⟩
theorem sc__law_draw : FnScope N__law_draw ["_law_rng", "_law_size"] (defScope s__law_draw) := ⟨rfl, rfl, rfl, by decide +kernel, rfl, by decide +kernel, by decide +kernel⟩
theorem br__law_draw {f : Addr} {fd : FuncData} (F : Fun K "_law_draw" "_law_draw" s__law_draw f fd) (z_len : mg "len" = none) : FnOk P w K mg base CX0 1 f fd ["_law_rng", "_law_size"] (spW K c__law_draw) := by
  refine fn_w F sc__law_draw (fun ws g Q h => by (repeat (obtain ⟨_, h⟩ := h)); subst_vars; rfl) fun cdv A0 outer s H E hr => ?_
  have un : (cxOf CX0 P w K mg base N__law_draw "_law_draw" (defScope s__law_draw) f cdv A0 outer s H E).nox.A.units + 64 < cLine := hr.units
  have un1 : (cxOf CX0 P w K mg base N__law_draw "_law_draw" (defScope s__law_draw) f cdv A0 outer s H E).nox.A.units + 1 < cLine := by omega
  have un5 : (cxOf CX0 P w K mg base N__law_draw "_law_draw" (defScope s__law_draw) f cdv A0 outer s H E).nox.A.units + 65 < cLine := room65 hr
  exact ⟨t__law_draw, trb_set (i := 2) sc__law_draw.nd rfl (.inl rfl) (tr_op ow_add (tr_dget un1 (tr_name (pv 0)) (tr_str)) (tr_int)) (trb_dput un1 (tr_name (pv 2)) (tr_name (pv 0)) (tr_str) (trb_if (trt_cmp (ow_gt) (tr_dget un1 (tr_name (pv 0)) (tr_str)) (tr_int) (nomark _)) (trb_set (i := 3) sc__law_draw.nd rfl (.inl rfl) (tr_op ow_mod (tr_dget un1 (tr_name (pv 0)) (tr_str)) (tr_name (pv 1))) (trb_dput un1 (tr_op ow_div (tr_dget un1 (tr_name (pv 0)) (tr_str)) (tr_name (pv 1))) (tr_name (pv 0)) (tr_str) (trb_ret (tr_name (pv 3))))) (trb_nil) (trb_par (i := 4) (j := 5) rfl sc__law_draw.nd rfl rfl (by decide) (tr_dget un1 (tr_name (pv 0)) (tr_str)) (tr_int) (trb_dput un1 (tr_op ow_add (tr_name (pv 4)) (tr_int)) (tr_name (pv 0)) (tr_str) (trb_if (trt_cmp (ow_ne un) (tr_dget un1 (tr_name (pv 0)) (tr_str)) (trl_frz (trl_lst (tra_nil))) (nomark _)) (trb_set (i := 5) sc__law_draw.nd rfl (.inl rfl) (tr_ix (tr_dget un1 (tr_name (pv 0)) (tr_str)) (tr_op ow_mod (tr_name (pv 4)) (tr_cb cw_len z_len (by decide +kernel) (tra_cons (tr_dget un1 (tr_name (pv 0)) (tr_str)) (tra_nil))))) (trb_nil)) (trb_nil) (trb_if (trt_w (trw_and (trt_cmp (ow_ge) (tr_name (pv 5)) (tr_op ow_pow (tr_int) (tr_int)) (nomark _)) (trw_and1 (trt_cmp (ow_lt) (tr_name (pv 4)) (tr_cb cw_len z_len (by decide +kernel) (tra_cons (tr_dget un1 (tr_name (pv 0)) (tr_str)) (tra_nil))) (nomark _))))) (trb_dput un1 (tr_op ow_div (tr_name (pv 5)) (tr_name (pv 1))) (tr_name (pv 0)) (tr_str) (trb_ret (tr_op ow_mod (tr_name (pv 5)) (tr_name (pv 1))))) (trb_nil) (trb_set (i := 6) sc__law_draw.nd rfl (.inl rfl) (tr_op ow_mod (tr_op ow_pow (tr_op ow_add (tr_op ow_add (tr_op ow_mod (tr_name (pv 5)) (tr_int)) (tr_op ow_mul (tr_int) (tr_name (pv 2)))) (tr_int)) (tr_int)) (tr_int)) (trb_set (i := 6) sc__law_draw.nd rfl (.inl rfl) (tr_op ow_mod (tr_op ow_pow (tr_op ow_add (tr_name (pv 6)) (tr_op ow_mul (tr_op ow_mul (tr_int) (tr_name (pv 2))) (tr_name (pv 2)))) (tr_int)) (tr_int)) (trb_ret (tr_op ow_mod (tr_op ow_div (tr_name (pv 6)) (tr_int)) (tr_name (pv 1)))))))))))), me__law_draw⟩
theorem sc__law_pick : FnScope N__law_pick ["_law_rng", "_law_pool"] (defScope s__law_pick) := ⟨rfl, rfl, rfl, by decide +kernel, rfl, by decide +kernel, by decide +kernel⟩
theorem br__law_pick {f : Addr} {fd : FuncData} (F : Fun K "_law_pick" "_law_pick" s__law_pick f fd) (L__law_draw : LD P w K mg base "_law_draw" 1 ["_law_rng", "_law_size"] (spW K c__law_draw)) (z_len : mg "len" = none) : FnOk P w K mg base CX0 2 f fd ["_law_rng", "_law_pool"] (spW K c__law_pick) := by
  refine fn_w F sc__law_pick (fun ws g Q h => by (repeat (obtain ⟨_, h⟩ := h)); subst_vars; rfl) fun cdv A0 outer s H E hr => ?_
  obtain ⟨_, _, G__law_draw⟩ := LD.g (X := (cxOf CX0 P w K mg base N__law_pick "_law_pick" (defScope s__law_pick) f cdv A0 outer s H E).nox) L__law_draw hr (by decide)
  exact ⟨t__law_pick, trb_ret (tr_ix (tr_name (pv 1)) (tr_callG G__law_draw (tra_cons (tr_name (pv 0)) (tra_cons (tr_cb cw_len z_len (by decide +kernel) (tra_cons (tr_name (pv 1)) (tra_nil))) (tra_nil))))), me__law_pick⟩
theorem sc__law_sample : FnScope N__law_sample ["_law_rng", "_law_pool", "_law_size"] (defScope s__law_sample) := ⟨rfl, rfl, rfl, by decide +kernel, rfl, by decide +kernel, by decide +kernel⟩
theorem br__law_sample {f : Addr} {fd : FuncData} (F : Fun K "_law_sample" "_law_sample" s__law_sample f fd) (L__law_draw : LD P w K mg base "_law_draw" 1 ["_law_rng", "_law_size"] (spW K c__law_draw)) (z_len : mg "len" = none) (z_list : mg "list" = none) (z_range : mg "range" = none) : FnOk P w K mg base CX0 2 f fd ["_law_rng", "_law_pool", "_law_size"] (spW K c__law_sample) := by
  refine fn_w F sc__law_sample (fun ws g Q h => by (repeat (obtain ⟨_, h⟩ := h)); subst_vars; rfl) fun cdv A0 outer s H E hr => ?_
  obtain ⟨_, _, G__law_draw⟩ := LD.g (X := (cxOf CX0 P w K mg base N__law_sample "_law_sample" (defScope s__law_sample) f cdv A0 outer s H E).nox) L__law_draw hr (by decide)
  exact ⟨t__law_sample, trb_set (i := 3) sc__law_sample.nd rfl (.inr rfl) (trl_own (trl_cty cl_list z_list (by decide +kernel) (tra_cons (tr_name (pv 1)) (tra_nil)))) (trb_ret (trl_frz (trl_lc (own := [("_law_k", 4)]) (g := gName 4) rfl sc__law_sample.nd (tri_rng1 z_range (tra_cons (tr_name (pv 2)) (tra_nil))) (blkOk_by (N := N__law_sample) (sc := defScope s__law_sample) (by decide +kernel)) (fun _ _ _ _ _ => pg_name (i := 4) sc__law_sample.nd rfl (Or.inl rfl)) (trg_nameM (vs := [4]) (by decide)) (fun _ _ _ _ _ => tr_ownM or_popAt PySem.F.slot_list_pop PySem.F.type_list_pop mt_popAt (pv 3) (tra_cons (tr_callG (gdef_blk G__law_draw) (tra_cons (tr_name (pv 0)) (tra_cons (tr_cb cw_len z_len (by decide +kernel) (tra_cons (tr_name (pv 3)) (tra_nil))) (tra_nil)))) (tra_nil)))))), me__law_sample⟩
end W4.K47

namespace W4.K47
open PySem PySem.Spec PyProof.Rows L2 Cb Wl Wg
variable {P : Program} {w : World} {K : PySem.W.Frag} {mg : Str → Option Value} {base : Heap}
theorem sc__law_low : FnScope N__law_low ["_law_over", "_law_under"] (defScope s__law_low) := ⟨rfl, rfl, rfl, by decide +kernel, rfl, by decide +kernel, by decide +kernel⟩
theorem br__law_low {f : Addr} {fd : FuncData} (F : Fun K "_law_low" "_law_low" s__law_low f fd) (z_abs : mg "abs" = none) : FnOk P w K mg base CX0 1 f fd ["_law_over", "_law_under"] (spW K c__law_low) := by
  refine fn_w F sc__law_low (fun ws g Q h => by (repeat (obtain ⟨_, h⟩ := h)); subst_vars; rfl) fun cdv A0 outer s H E hr => ?_
  exact ⟨t__law_low, trb_par (i := 2) (j := 3) rfl sc__law_low.nd rfl rfl (by decide) (tr_cb cw_abs z_abs (by decide +kernel) (tra_cons (tr_name (pv 0)) (tra_nil))) (tr_name (pv 1)) (trb_while PassesOwn.never (trt_cmp (ow_gt) (tr_name (pv 3)) (tr_int) (nomark _)) (trb_par (i := 2) (j := 3) rfl sc__law_low.nd rfl rfl (by decide) (tr_name (pv 3)) (tr_op ow_mod (tr_name (pv 2)) (tr_name (pv 3))) (trb_nil)) (trb_ret (tr_tup (tra_cons (tr_op ow_div (tr_name (pv 0)) (tr_name (pv 2))) (tra_cons (tr_op ow_div (tr_name (pv 1)) (tr_name (pv 2))) (tra_nil)))))), me__law_low⟩
theorem sc__law_plus : FnScope N__law_plus ["_law_one", "_law_other"] (defScope s__law_plus) := ⟨rfl, rfl, rfl, by decide +kernel, rfl, by decide +kernel, by decide +kernel⟩
theorem br__law_plus {f : Addr} {fd : FuncData} (F : Fun K "_law_plus" "_law_plus" s__law_plus f fd) (L__law_low : LD P w K mg base "_law_low" 1 ["_law_over", "_law_under"] (spW K c__law_low)) : FnOk P w K mg base CX0 2 f fd ["_law_one", "_law_other"] (spW K c__law_plus) := by
  refine fn_w F sc__law_plus (fun ws g Q h => by (repeat (obtain ⟨_, h⟩ := h)); subst_vars; rfl) fun cdv A0 outer s H E hr => ?_
  obtain ⟨_, _, G__law_low⟩ := LD.g (X := (cxOf CX0 P w K mg base N__law_plus "_law_plus" (defScope s__law_plus) f cdv A0 outer s H E).nox) L__law_low hr (by decide)
  exact ⟨t__law_plus, trb_ret (tr_callP G__law_low (tra_cons (tr_op ow_add (tr_op ow_mul (tr_ix (tr_name (pv 0)) (tr_int)) (tr_ix (tr_name (pv 1)) (tr_int))) (tr_op ow_mul (tr_ix (tr_name (pv 1)) (tr_int)) (tr_ix (tr_name (pv 0)) (tr_int)))) (tra_cons (tr_op ow_mul (tr_ix (tr_name (pv 0)) (tr_int)) (tr_ix (tr_name (pv 1)) (tr_int))) (tra_nil)))), me__law_plus⟩
theorem sc__law_minus : FnScope N__law_minus ["_law_one", "_law_other"] (defScope s__law_minus) := ⟨rfl, rfl, rfl, by decide +kernel, rfl, by decide +kernel, by decide +kernel⟩
theorem br__law_minus {f : Addr} {fd : FuncData} (F : Fun K "_law_minus" "_law_minus" s__law_minus f fd) (L__law_low : LD P w K mg base "_law_low" 1 ["_law_over", "_law_under"] (spW K c__law_low)) : FnOk P w K mg base CX0 2 f fd ["_law_one", "_law_other"] (spW K c__law_minus) := by
  refine fn_w F sc__law_minus (fun ws g Q h => by (repeat (obtain ⟨_, h⟩ := h)); subst_vars; rfl) fun cdv A0 outer s H E hr => ?_
  obtain ⟨_, _, G__law_low⟩ := LD.g (X := (cxOf CX0 P w K mg base N__law_minus "_law_minus" (defScope s__law_minus) f cdv A0 outer s H E).nox) L__law_low hr (by decide)
  exact ⟨t__law_minus, trb_ret (tr_callP G__law_low (tra_cons (tr_op ow_sub (tr_op ow_mul (tr_ix (tr_name (pv 0)) (tr_int)) (tr_ix (tr_name (pv 1)) (tr_int))) (tr_op ow_mul (tr_ix (tr_name (pv 1)) (tr_int)) (tr_ix (tr_name (pv 0)) (tr_int)))) (tra_cons (tr_op ow_mul (tr_ix (tr_name (pv 0)) (tr_int)) (tr_ix (tr_name (pv 1)) (tr_int))) (tra_nil)))), me__law_minus⟩
theorem sc__law_less : FnScope N__law_less ["_law_one", "_law_other"] (defScope s__law_less) := ⟨rfl, rfl, rfl, by decide +kernel, rfl, by decide +kernel, by decide +kernel⟩
theorem br__law_less {f : Addr} {fd : FuncData} (F : Fun K "_law_less" "_law_less" s__law_less f fd) : FnOk P w K mg base CX0 1 f fd ["_law_one", "_law_other"] (spW K c__law_less) := by
  refine fn_w F sc__law_less (fun ws g Q h => by (repeat (obtain ⟨_, h⟩ := h)); subst_vars; rfl) fun cdv A0 outer s H E hr => ?_
  exact ⟨t__law_less, trb_ret (tr_cmp (ow_lt) (tr_op ow_mul (tr_ix (tr_name (pv 0)) (tr_int)) (tr_ix (tr_name (pv 1)) (tr_int))) (tr_op ow_mul (tr_ix (tr_name (pv 1)) (tr_int)) (tr_ix (tr_name (pv 0)) (tr_int))) (nomark _)), me__law_less⟩
theorem sc__law_total : FnScope N__law_total ["_law_values"] (defScope s__law_total) := ⟨rfl, rfl, rfl, by decide +kernel, rfl, by decide +kernel, by decide +kernel⟩
theorem br__law_total {f : Addr} {fd : FuncData} (F : Fun K "_law_total" "_law_total" s__law_total f fd) (L__law_plus : LD P w K mg base "_law_plus" 2 ["_law_one", "_law_other"] (spW K c__law_plus)) : FnOk P w K mg base CX0 3 f fd ["_law_values"] (spW K c__law_total) := by
  refine fn_w F sc__law_total (fun ws g Q h => by (repeat (obtain ⟨_, h⟩ := h)); subst_vars; rfl) fun cdv A0 outer s H E hr => ?_
  obtain ⟨_, _, G__law_plus⟩ := LD.g (X := (cxOf CX0 P w K mg base N__law_total "_law_total" (defScope s__law_total) f cdv A0 outer s H E).nox) L__law_plus hr (by decide)
  exact ⟨t__law_total, trb_set (i := 1) sc__law_total.nd rfl (.inl rfl) (tr_tup (tra_cons (tr_int) (tra_cons (tr_int) (tra_nil)))) (trb_for (g := gName 2) rfl (tri_val (tr_name (pv 0))) (pg_name (i := 2) sc__law_total.nd rfl (Or.inl rfl)) trg_name (trb_set (i := 1) sc__law_total.nd rfl (.inl rfl) (tr_callP G__law_plus (tra_cons (tr_name (pv 1)) (tra_cons (tr_name (pv 2)) (tra_nil)))) (trb_nil)) (trb_ret (tr_name (pv 1))) PassesOwn.never), me__law_total⟩
theorem sc__law_down : FnScope N__law_down ["_law_value"] (defScope s__law_down) := ⟨rfl, rfl, rfl, by decide +kernel, rfl, by decide +kernel, by decide +kernel⟩
theorem br__law_down {f : Addr} {fd : FuncData} (F : Fun K "_law_down" "_law_down" s__law_down f fd) : FnOk P w K mg base CX0 1 f fd ["_law_value"] (spW K c__law_down) := by
  refine fn_w F sc__law_down (fun ws g Q h => by (repeat (obtain ⟨_, h⟩ := h)); subst_vars; rfl) fun cdv A0 outer s H E hr => ?_
  exact ⟨t__law_down, trb_ret (tr_op ow_div (tr_ix (tr_name (pv 0)) (tr_int)) (tr_ix (tr_name (pv 0)) (tr_int))), me__law_down⟩
theorem sc__law_up : FnScope N__law_up ["_law_value"] (defScope s__law_up) := ⟨rfl, rfl, rfl, by decide +kernel, rfl, by decide +kernel, by decide +kernel⟩
theorem br__law_up {f : Addr} {fd : FuncData} (F : Fun K "_law_up" "_law_up" s__law_up f fd) : FnOk P w K mg base CX0 1 f fd ["_law_value"] (spW K c__law_up) := by
  refine fn_w F sc__law_up (fun ws g Q h => by (repeat (obtain ⟨_, h⟩ := h)); subst_vars; rfl) fun cdv A0 outer s H E hr => ?_
  exact ⟨t__law_up, trb_ret (tr_op ow_sub (tr_int) (tr_op ow_div (tr_op ow_sub (tr_int) (tr_ix (tr_name (pv 0)) (tr_int))) (tr_ix (tr_name (pv 0)) (tr_int)))), me__law_up⟩
theorem sc__law_gaps : FnScope N__law_gaps ["_law_here"] (defScope s__law_gaps) := ⟨rfl, rfl, rfl, by decide +kernel, rfl, by decide +kernel, by decide +kernel⟩
theorem br__law_gaps {f : Addr} {fd : FuncData} (F : Fun K "_law_gaps" "_law_gaps" s__law_gaps f fd) (L__law_minus : LD P w K mg base "_law_minus" 2 ["_law_one", "_law_other"] (spW K c__law_minus)) : FnOk P w K mg base CX0 3 f fd ["_law_here"] (spW K c__law_gaps) := by
  refine fn_w F sc__law_gaps (fun ws g Q h => by (repeat (obtain ⟨_, h⟩ := h)); subst_vars; rfl) fun cdv A0 outer s H E hr => ?_
  obtain ⟨_, _, G__law_minus⟩ := LD.g (X := (cxOf CX0 P w K mg base N__law_gaps "_law_gaps" (defScope s__law_gaps) f cdv A0 outer s H E).nox) L__law_minus hr (by decide)
  exact ⟨t__law_gaps, trb_ret (trl_frz (trl_lc (own := [("_law_row", 1)]) (g := gName 1) rfl sc__law_gaps.nd (tri_val (tr_name (pv 0))) (blkOk_by (N := N__law_gaps) (sc := defScope s__law_gaps) (by decide +kernel)) (fun _ _ _ _ _ => pg_name (i := 1) sc__law_gaps.nd rfl (Or.inl rfl)) (trg_nameM (vs := [1]) (by decide)) (fun _ _ _ _ _ => tr_callP (gdef_blk G__law_minus) (tra_cons (tr_tup (tra_cons (tr_ix (tr_name (pv 1)) (tr_int)) (tra_cons (tr_int) (tra_nil)))) (tra_cons (tr_ix (tr_name (pv 1)) (tr_int)) (tra_nil)))))), me__law_gaps⟩
theorem sc__law_scales : FnScope N__law_scales ["_law_here"] (defScope s__law_scales) := ⟨rfl, rfl, rfl, by decide +kernel, rfl, by decide +kernel, by decide +kernel⟩
theorem br__law_scales {f : Addr} {fd : FuncData} (F : Fun K "_law_scales" "_law_scales" s__law_scales f fd) (L__law_gaps : LD P w K mg base "_law_gaps" 3 ["_law_here"] (spW K c__law_gaps)) (L__law_minus : LD P w K mg base "_law_minus" 2 ["_law_one", "_law_other"] (spW K c__law_minus)) (L__law_plus : LD P w K mg base "_law_plus" 2 ["_law_one", "_law_other"] (spW K c__law_plus)) (z_len : mg "len" = none) (z_range : mg "range" = none) (z_tuple : mg "tuple" = none) : FnOk P w K mg base CX0 4 f fd ["_law_here"] (spW K c__law_scales) := by
  refine fn_w F sc__law_scales (fun ws g Q h => by (repeat (obtain ⟨_, h⟩ := h)); subst_vars; rfl) fun cdv A0 outer s H E hr => ?_
  obtain ⟨_, _, G__law_gaps⟩ := LD.g (X := (cxOf CX0 P w K mg base N__law_scales "_law_scales" (defScope s__law_scales) f cdv A0 outer s H E).nox) L__law_gaps hr (by decide)
  obtain ⟨_, _, G__law_minus⟩ := LD.g (X := (cxOf CX0 P w K mg base N__law_scales "_law_scales" (defScope s__law_scales) f cdv A0 outer s H E).nox) L__law_minus hr (by decide)
  obtain ⟨_, _, G__law_plus⟩ := LD.g (X := (cxOf CX0 P w K mg base N__law_scales "_law_scales" (defScope s__law_scales) f cdv A0 outer s H E).nox) L__law_plus hr (by decide)
  exact ⟨t__law_scales, trb_par (i := 1) (j := 2) rfl sc__law_scales.nd rfl rfl (by decide) (tr_callP G__law_gaps (tra_cons (tr_name (pv 0)) (tra_nil))) (trl_own (trl_lst (tra_cons (tr_tup (tra_cons (tr_int) (tra_cons (tr_int) (tra_nil)))) (tra_cons (tr_tup (tra_cons (tr_int) (tra_cons (tr_int) (tra_nil)))) (tra_cons (tr_tup (tra_cons (tr_int) (tra_cons (tr_int) (tra_nil)))) (tra_nil)))))) (trb_for (g := gName 3) rfl (tri_rng1 z_range (tra_cons (tr_cb cw_len z_len (by decide +kernel) (tra_cons (tr_name (pv 0)) (tra_nil))) (tra_nil))) (pg_name (i := 3) sc__law_scales.nd rfl (Or.inl rfl)) trg_name (trb_if (trt_not (trt_val (tr_ix (tr_ix (tr_name (pv 0)) (tr_name (pv 3))) (tr_int)))) (trb_setI (n := 2) (pg_sub (pv 2) pw_E set_list) (tr_int) (tr_callP G__law_plus (tra_cons (tr_ix (tr_name (pv 2)) (tr_int)) (tra_cons (tr_ix (tr_name (pv 1)) (tr_name (pv 3))) (tra_nil)))) (trb_nil)) (trb_if (trt_cmp (ow_gt) (tr_ix (tr_ix (tr_name (pv 1)) (tr_name (pv 3))) (tr_int)) (tr_int) (nomark _)) (trb_setI (n := 2) (pg_sub (pv 2) pw_E set_list) (tr_int) (tr_callP G__law_plus (tra_cons (tr_ix (tr_name (pv 2)) (tr_int)) (tra_cons (tr_ix (tr_name (pv 1)) (tr_name (pv 3))) (tra_nil)))) (trb_nil)) (trb_setI (n := 2) (pg_sub (pv 2) pw_E set_list) (tr_int) (tr_callP G__law_minus (tra_cons (tr_ix (tr_name (pv 2)) (tr_int)) (tra_cons (tr_ix (tr_name (pv 1)) (tr_name (pv 3))) (tra_nil)))) (trb_nil)) (trb_nil)) (trb_nil)) (trb_ret (tr_cty cw_tuple z_tuple (by decide +kernel) (tra_cons (tr_name (pv 2)) (tra_nil)))) PassesOwn.never), me__law_scales⟩
end W4.K47

namespace W4.K47
open PySem PySem.Spec PyProof.Rows L2 Cb Wl Wg
variable {P : Program} {w : World} {K : PySem.W.Frag} {mg : Str → Option Value} {base : Heap}
theorem sc__law_between : FnScope N__law_between ["_law_count", "_law_value"] (defScope s__law_between) := ⟨rfl, rfl, rfl, by decide +kernel, rfl, by decide +kernel, by decide +kernel⟩
theorem br__law_between {f : Addr} {fd : FuncData} (F : Fun K "_law_between" "_law_between" s__law_between f fd) (L__law_down : LD P w K mg base "_law_down" 1 ["_law_value"] (spW K c__law_down)) (L__law_up : LD P w K mg base "_law_up" 1 ["_law_value"] (spW K c__law_up)) : FnOk P w K mg base CX0 2 f fd ["_law_count", "_law_value"] (spW K c__law_between) := by
  refine fn_w F sc__law_between (fun ws g Q h => by (repeat (obtain ⟨_, h⟩ := h)); subst_vars; rfl) fun cdv A0 outer s H E hr => ?_
  obtain ⟨_, _, G__law_down⟩ := LD.g (X := (cxOf CX0 P w K mg base N__law_between "_law_between" (defScope s__law_between) f cdv A0 outer s H E).nox) L__law_down hr (by decide)
  obtain ⟨_, _, G__law_up⟩ := LD.g (X := (cxOf CX0 P w K mg base N__law_between "_law_between" (defScope s__law_between) f cdv A0 outer s H E).nox) L__law_up hr (by decide)
  exact ⟨t__law_between, trb_ret (tr_chain op_le op_le (tr_callP G__law_down (tra_cons (tr_name (pv 1)) (tra_nil))) (tr_name (pv 0)) (tr_callP G__law_up (tra_cons (tr_name (pv 1)) (tra_nil)))), me__law_between⟩
theorem sc__law_is_near : FnScope N__law_is_near ["_law_here"] (defScope s__law_is_near) := ⟨rfl, rfl, rfl, by decide +kernel, rfl, by decide +kernel, by decide +kernel⟩
theorem br__law_is_near {f : Addr} {fd : FuncData} (F : Fun K "_law_is_near" "_law_is_near" s__law_is_near f fd) (L__law_between : LD P w K mg base "_law_between" 2 ["_law_count", "_law_value"] (spW K c__law_between)) (L__law_total : LD P w K mg base "_law_total" 3 ["_law_values"] (spW K c__law_total)) (z_sum : mg "sum" = none) : FnOk P w K mg base CX0 4 f fd ["_law_here"] (spW K c__law_is_near) := by
  refine fn_w F sc__law_is_near (fun ws g Q h => by (repeat (obtain ⟨_, h⟩ := h)); subst_vars; rfl) fun cdv A0 outer s H E hr => ?_
  obtain ⟨_, _, G__law_between⟩ := LD.g (X := (cxOf CX0 P w K mg base N__law_is_near "_law_is_near" (defScope s__law_is_near) f cdv A0 outer s H E).nox) L__law_between hr (by decide)
  obtain ⟨_, _, G__law_total⟩ := LD.g (X := (cxOf CX0 P w K mg base N__law_is_near "_law_is_near" (defScope s__law_is_near) f cdv A0 outer s H E).nox) L__law_total hr (by decide)
  have un : (cxOf CX0 P w K mg base N__law_is_near "_law_is_near" (defScope s__law_is_near) f cdv A0 outer s H E).nox.A.units + 64 < cLine := hr.units
  have un1 : (cxOf CX0 P w K mg base N__law_is_near "_law_is_near" (defScope s__law_is_near) f cdv A0 outer s H E).nox.A.units + 1 < cLine := by omega
  have un5 : (cxOf CX0 P w K mg base N__law_is_near "_law_is_near" (defScope s__law_is_near) f cdv A0 outer s H E).nox.A.units + 65 < cLine := room65 hr
  exact ⟨t__law_is_near, trb_if (trt_cmp (ow_ne un) (trl_frz (trl_lcT (own := [("_law_row", 1)]) (g := gName 1) rfl sc__law_is_near.nd (tri_val (tr_name (pv 0))) (blkOk_by (N := N__law_is_near) (sc := defScope s__law_is_near) (by decide +kernel)) (fun _ _ _ _ _ => pg_name (i := 1) sc__law_is_near.nd rfl (Or.inl rfl)) (trg_nameM (vs := [1]) (by decide)) (fun _ _ _ _ _ => trt_not (trt_val (tr_callP (gdef_blk G__law_between) (tra_cons (tr_ix (tr_name (pv 1)) (tr_int)) (tra_cons (tr_ix (tr_name (pv 1)) (tr_int)) (tra_nil)))))) (fun _ _ _ _ _ => tr_name (pv 1)))) (trl_frz (trl_lst (tra_nil))) (nomark _)) (trb_ret (tr_bl)) (trb_nil) (trb_ret (tr_callP G__law_between (tra_cons (tr_cb (cw_sum rfl) z_sum (by decide +kernel) (tra_cons (trl_frz (trl_lc (own := [("_law_row", 1)]) (g := gName 1) rfl sc__law_is_near.nd (tri_val (tr_name (pv 0))) (blkOk_by (N := N__law_is_near) (sc := defScope s__law_is_near) (by decide +kernel)) (fun _ _ _ _ _ => pg_name (i := 1) sc__law_is_near.nd rfl (Or.inl rfl)) (trg_nameM (vs := [1]) (by decide)) (fun _ _ _ _ _ => tr_ix (tr_name (pv 1)) (tr_int)))) (tra_nil))) (tra_cons (tr_callP G__law_total (tra_cons (trl_frz (trl_lc (own := [("_law_row", 1)]) (g := gName 1) rfl sc__law_is_near.nd (tri_val (tr_name (pv 0))) (blkOk_by (N := N__law_is_near) (sc := defScope s__law_is_near) (by decide +kernel)) (fun _ _ _ _ _ => pg_name (i := 1) sc__law_is_near.nd rfl (Or.inl rfl)) (trg_nameM (vs := [1]) (by decide)) (fun _ _ _ _ _ => tr_ix (tr_name (pv 1)) (tr_int)))) (tra_nil))) (tra_nil))))), me__law_is_near⟩
theorem sc__law_is_free : FnScope N__law_is_free ["_law_here"] (defScope s__law_is_free) := ⟨rfl, rfl, rfl, by decide +kernel, rfl, by decide +kernel, by decide +kernel⟩
theorem br__law_is_free {f : Addr} {fd : FuncData} (F : Fun K "_law_is_free" "_law_is_free" s__law_is_free f fd) (L__law_is_near : LD P w K mg base "_law_is_near" 4 ["_law_here"] (spW K c__law_is_near)) (L__law_less : LD P w K mg base "_law_less" 1 ["_law_one", "_law_other"] (spW K c__law_less)) (L__law_minus : LD P w K mg base "_law_minus" 2 ["_law_one", "_law_other"] (spW K c__law_minus)) (L__law_plus : LD P w K mg base "_law_plus" 2 ["_law_one", "_law_other"] (spW K c__law_plus)) (L__law_scales : LD P w K mg base "_law_scales" 4 ["_law_here"] (spW K c__law_scales)) : FnOk P w K mg base CX0 5 f fd ["_law_here"] (spW K c__law_is_free) := by
  refine fn_w F sc__law_is_free (fun ws g Q h => by (repeat (obtain ⟨_, h⟩ := h)); subst_vars; rfl) fun cdv A0 outer s H E hr => ?_
  obtain ⟨_, _, G__law_is_near⟩ := LD.g (X := (cxOf CX0 P w K mg base N__law_is_free "_law_is_free" (defScope s__law_is_free) f cdv A0 outer s H E).nox) L__law_is_near hr (by decide)
  obtain ⟨_, _, G__law_less⟩ := LD.g (X := (cxOf CX0 P w K mg base N__law_is_free "_law_is_free" (defScope s__law_is_free) f cdv A0 outer s H E).nox) L__law_less hr (by decide)
  obtain ⟨_, _, G__law_minus⟩ := LD.g (X := (cxOf CX0 P w K mg base N__law_is_free "_law_is_free" (defScope s__law_is_free) f cdv A0 outer s H E).nox) L__law_minus hr (by decide)
  obtain ⟨_, _, G__law_plus⟩ := LD.g (X := (cxOf CX0 P w K mg base N__law_is_free "_law_is_free" (defScope s__law_is_free) f cdv A0 outer s H E).nox) L__law_plus hr (by decide)
  obtain ⟨_, _, G__law_scales⟩ := LD.g (X := (cxOf CX0 P w K mg base N__law_is_free "_law_is_free" (defScope s__law_is_free) f cdv A0 outer s H E).nox) L__law_scales hr (by decide)
  have un : (cxOf CX0 P w K mg base N__law_is_free "_law_is_free" (defScope s__law_is_free) f cdv A0 outer s H E).nox.A.units + 64 < cLine := hr.units
  have un1 : (cxOf CX0 P w K mg base N__law_is_free "_law_is_free" (defScope s__law_is_free) f cdv A0 outer s H E).nox.A.units + 1 < cLine := by omega
  have un5 : (cxOf CX0 P w K mg base N__law_is_free "_law_is_free" (defScope s__law_is_free) f cdv A0 outer s H E).nox.A.units + 65 < cLine := room65 hr
  exact ⟨t__law_is_free, trb_unp (g := gTup K 3 (gNames [1, 2, 3])) (pg_tup rfl (pgs_cons (pg_name (i := 1) sc__law_is_free.nd rfl (Or.inl rfl)) (pgs_cons (pg_name (i := 2) sc__law_is_free.nd rfl (Or.inl rfl)) (pgs_cons (pg_name (i := 3) sc__law_is_free.nd rfl (Or.inl rfl)) (pgs_nil))))) (trg_tup (is := [1, 2, 3]) (all := [1, 2, 3]) (by decide)) (tr_callP G__law_scales (tra_cons (tr_name (pv 0)) (tra_nil))) (trb_set (i := 4) sc__law_is_free.nd rfl (.inl rfl) (trl_frz (trl_lst (tra_cons (tr_name (pv 1)) (tra_cons (tr_name (pv 2)) (tra_cons (tr_callP G__law_plus (tra_cons (tr_name (pv 1)) (tra_cons (tr_name (pv 3)) (tra_nil)))) (tra_cons (tr_callP G__law_minus (tra_cons (tr_name (pv 2)) (tra_cons (tr_name (pv 3)) (tra_nil)))) (tra_nil))))))) (trb_ret (tr_and (tr_callP G__law_is_near (tra_cons (tr_name (pv 0)) (tra_nil))) (tr_one (tr_cmp (ow_eq un) (trl_frz (trl_lcT (own := [("_law_value", 5)]) (g := gName 5) rfl sc__law_is_free.nd (tri_val (tr_name (pv 4))) (blkOk_by (N := N__law_is_free) (sc := defScope s__law_is_free) (by decide +kernel)) (fun _ _ _ _ _ => pg_name (i := 5) sc__law_is_free.nd rfl (Or.inl rfl)) (trg_nameM (vs := [5]) (by decide)) (fun _ _ _ _ _ => trt_not (trt_val (tr_callP (gdef_blk G__law_less) (tra_cons (tr_name (pv 5)) (tra_cons (tr_tup (tra_cons (tr_int) (tra_cons (tr_int) (tra_nil)))) (tra_nil)))))) (fun _ _ _ _ _ => tr_name (pv 5)))) (trl_frz (trl_lst (tra_nil))) (nomark _)))))), me__law_is_free⟩
theorem sc__law_choices : FnScope N__law_choices ["_law_rows"] (defScope s__law_choices) := ⟨rfl, rfl, rfl, by decide +kernel, rfl, by decide +kernel, by decide +kernel⟩
theorem br__law_choices {f : Addr} {fd : FuncData} (F : Fun K "_law_choices" "_law_choices" s__law_choices f fd) : FnOk P w K mg base CX0 1 f fd ["_law_rows"] (spW K c__law_choices) := by
  refine fn_w F sc__law_choices (fun ws g Q h => by (repeat (obtain ⟨_, h⟩ := h)); subst_vars; rfl) fun cdv A0 outer s H E hr => ?_
  exact ⟨t__law_choices, trb_set (i := 1) sc__law_choices.nd rfl (.inl rfl) (trl_frz (trl_lst (tra_cons (tr_tup (tra_nil)) (tra_nil)))) (trb_for (g := gName 2) rfl (tri_val (tr_name (pv 0))) (pg_name (i := 2) sc__law_choices.nd rfl (Or.inl rfl)) trg_name (trb_set (i := 3) sc__law_choices.nd rfl (.inl rfl) (trl_own (trl_lst (tra_nil))) (trb_for (g := gName 4) rfl (tri_val (tr_name (pv 1))) (pg_name (i := 4) sc__law_choices.nd rfl (Or.inr rfl)) trg_name (trb_expr (tr_ownM or_ext PySem.F.slot_list_extend PySem.F.type_list_extend mt_extend (pv 3) (tra_cons (trl_frz (trl_lc (own := [("_law_value", 5)]) (g := gName 5) rfl sc__law_choices.nd (tri_val (tr_name (pv 2))) (blkOk_by (N := N__law_choices) (sc := defScope s__law_choices) (by decide +kernel)) (fun _ _ _ _ _ => pg_name (i := 5) sc__law_choices.nd rfl (Or.inl rfl)) (trg_nameM (vs := [5]) (by decide)) (fun _ _ _ _ _ => tr_op ow_add (tr_name (pv 4)) (tr_tup (tra_cons (tr_name (pv 5)) (tra_nil)))))) (tra_nil))) (trb_nil)) (trb_set (i := 1) sc__law_choices.nd rfl (.inl rfl) (tr_nameF (pv 3)) (trb_nil)) PassesOwn.never)) (trb_ret (tr_name (pv 1))) PassesOwn.never), me__law_choices⟩
end W4.K47

namespace W4.K47
open PySem PySem.Spec PyProof.Rows L2 Cb Wl Wg
variable {P : Program} {w : World} {K : PySem.W.Frag} {mg : Str → Option Value} {base : Heap}
theorem sc__law_round_ways : FnScope N__law_round_ways ["_law_values"] (defScope s__law_round_ways) := ⟨rfl, rfl, rfl, by decide +kernel, rfl, by decide +kernel, by decide +kernel⟩
theorem br__law_round_ways {f : Addr} {fd : FuncData} (F : Fun K "_law_round_ways" "_law_round_ways" s__law_round_ways f fd) (L__law_choices : LD P w K mg base "_law_choices" 1 ["_law_rows"] (spW K c__law_choices)) (L__law_down : LD P w K mg base "_law_down" 1 ["_law_value"] (spW K c__law_down)) (L__law_up : LD P w K mg base "_law_up" 1 ["_law_value"] (spW K c__law_up)) (z_set : mg "set" = none) (z_sorted : mg "sorted" = none) : FnOk P w K mg base CX0 2 f fd ["_law_values"] (spW K c__law_round_ways) := by
  refine fn_w F sc__law_round_ways (fun ws g Q h => by (repeat (obtain ⟨_, h⟩ := h)); subst_vars; rfl) fun cdv A0 outer s H E hr => ?_
  obtain ⟨_, _, G__law_choices⟩ := LD.g (X := (cxOf CX0 P w K mg base N__law_round_ways "_law_round_ways" (defScope s__law_round_ways) f cdv A0 outer s H E).nox) L__law_choices hr (by decide)
  obtain ⟨_, _, G__law_down⟩ := LD.g (X := (cxOf CX0 P w K mg base N__law_round_ways "_law_round_ways" (defScope s__law_round_ways) f cdv A0 outer s H E).nox) L__law_down hr (by decide)
  obtain ⟨_, _, G__law_up⟩ := LD.g (X := (cxOf CX0 P w K mg base N__law_round_ways "_law_round_ways" (defScope s__law_round_ways) f cdv A0 outer s H E).nox) L__law_up hr (by decide)
  exact ⟨t__law_round_ways, trb_ret (tr_callP G__law_choices (tra_cons (trl_frz (trl_lc (own := [("_law_value", 1)]) (g := gName 1) rfl sc__law_round_ways.nd (tri_val (tr_name (pv 0))) (blkOk_by (N := N__law_round_ways) (sc := defScope s__law_round_ways) (by decide +kernel)) (fun _ _ _ _ _ => pg_name (i := 1) sc__law_round_ways.nd rfl (Or.inl rfl)) (trg_nameM (vs := [1]) (by decide)) (fun _ _ _ _ _ => trl_frz (trl_sort2 rfl z_sorted z_set (tr_callP (gdef_blk G__law_down) (tra_cons (tr_name (pv 1)) (tra_nil))) (tr_callP (gdef_blk G__law_up) (tra_cons (tr_name (pv 1)) (tra_nil))))))) (tra_nil))), me__law_round_ways⟩
theorem sc__law_with_counts : FnScope N__law_with_counts ["_law_here", "_law_counts"] (defScope s__law_with_counts) := ⟨rfl, rfl, rfl, by decide +kernel, rfl, by decide +kernel, by decide +kernel⟩
theorem br__law_with_counts {f : Addr} {fd : FuncData} (F : Fun K "_law_with_counts" "_law_with_counts" s__law_with_counts f fd) (z_len : mg "len" = none) (z_range : mg "range" = none) (z_tuple : mg "tuple" = none) : FnOk P w K mg base CX0 1 f fd ["_law_here", "_law_counts"] (spW K c__law_with_counts) := by
  refine fn_w F sc__law_with_counts (fun ws g Q h => by (repeat (obtain ⟨_, h⟩ := h)); subst_vars; rfl) fun cdv A0 outer s H E hr => ?_
  exact ⟨t__law_with_counts, trb_ret (tr_cty cw_tuple z_tuple (by decide +kernel) (tra_cons (trl_frz (trl_lc (own := [("_law_k", 2)]) (g := gName 2) rfl sc__law_with_counts.nd (tri_rng1 z_range (tra_cons (tr_cb cw_len z_len (by decide +kernel) (tra_cons (tr_name (pv 0)) (tra_nil))) (tra_nil))) (blkOk_by (N := N__law_with_counts) (sc := defScope s__law_with_counts) (by decide +kernel)) (fun _ _ _ _ _ => pg_name (i := 2) sc__law_with_counts.nd rfl (Or.inl rfl)) (trg_nameM (vs := [2]) (by decide)) (fun _ _ _ _ _ => tr_op ow_add (tr_slT (tr_ix (tr_name (pv 0)) (tr_name (pv 2))) (tro_none) (tro_some (tr_int))) (tr_tup (tra_cons (tr_ix (tr_name (pv 1)) (tr_name (pv 2))) (tra_cons (tr_ix (tr_ix (tr_name (pv 0)) (tr_name (pv 2))) (tr_int)) (tra_nil))))))) (tra_nil))), me__law_with_counts⟩
theorem sc__law_make_exact : FnScope N__law_make_exact ["_law_rng"] (defScope s__law_make_exact) := ⟨rfl, rfl, rfl, by decide +kernel, rfl, by decide +kernel, by decide +kernel⟩
theorem br__law_make_exact {f : Addr} {fd : FuncData} (F : Fun K "_law_make_exact" "_law_make_exact" s__law_make_exact f fd) (L__law_draw : LD P w K mg base "_law_draw" 1 ["_law_rng", "_law_size"] (spW K c__law_draw)) (L__law_low : LD P w K mg base "_law_low" 1 ["_law_over", "_law_under"] (spW K c__law_low)) (L__law_pick : LD P w K mg base "_law_pick" 2 ["_law_rng", "_law_pool"] (spW K c__law_pick)) (z_max : mg "max" = none) : FnOk P w K mg base CX0 3 f fd ["_law_rng"] (spW K c__law_make_exact) := by
  refine fn_w F sc__law_make_exact (fun ws g Q h => by (repeat (obtain ⟨_, h⟩ := h)); subst_vars; rfl) fun cdv A0 outer s H E hr => ?_
  obtain ⟨_, _, G__law_draw⟩ := LD.g (X := (cxOf CX0 P w K mg base N__law_make_exact "_law_make_exact" (defScope s__law_make_exact) f cdv A0 outer s H E).nox) L__law_draw hr (by decide)
  obtain ⟨_, _, G__law_low⟩ := LD.g (X := (cxOf CX0 P w K mg base N__law_make_exact "_law_make_exact" (defScope s__law_make_exact) f cdv A0 outer s H E).nox) L__law_low hr (by decide)
  obtain ⟨_, _, G__law_pick⟩ := LD.g (X := (cxOf CX0 P w K mg base N__law_make_exact "_law_make_exact" (defScope s__law_make_exact) f cdv A0 outer s H E).nox) L__law_pick hr (by decide)
  exact ⟨t__law_make_exact, trb_set (i := 1) sc__law_make_exact.nd rfl (.inl rfl) (tr_callG G__law_pick (tra_cons (tr_name (pv 0)) (tra_cons (trl_frz (trl_lst (tra_cons (tr_int) (tra_cons (tr_int) (tra_cons (tr_int) (tra_cons (tr_int) (tra_cons (tr_int) (tra_cons (tr_int) (tra_cons (tr_int) (tra_cons (tr_int) (tra_cons (tr_int) (tra_nil)))))))))))) (tra_nil)))) (trb_ret (tr_callP G__law_low (tra_cons (tr_op ow_add (tr_op ow_add (tr_int) (tr_callG G__law_draw (tra_cons (tr_name (pv 0)) (tra_cons (tr_cb (cw_max2 rfl) z_max (by decide +kernel) (tra_cons (tr_int) (tra_cons (tr_op ow_sub (tr_name (pv 1)) (tr_int)) (tra_nil)))) (tra_nil))))) (tr_op ow_mul (tr_name (pv 1)) (tr_callG G__law_pick (tra_cons (tr_name (pv 0)) (tra_cons (trl_frz (trl_lst (tra_cons (tr_int) (tra_cons (tr_int) (tra_cons (tr_int) (tra_cons (tr_int) (tra_cons (tr_int) (tra_cons (tr_int) (tra_nil))))))))) (tra_nil)))))) (tra_cons (tr_name (pv 1)) (tra_nil))))), me__law_make_exact⟩
theorem sc__law_make_bare : FnScope N__law_make_bare ["_law_rng", "_law_least", "_law_most"] (defScope s__law_make_bare) := ⟨rfl, rfl, rfl, by decide +kernel, rfl, by decide +kernel, by decide +kernel⟩
theorem br__law_make_bare {f : Addr} {fd : FuncData} (F : Fun K "_law_make_bare" "_law_make_bare" s__law_make_bare f fd) (L__law_draw : LD P w K mg base "_law_draw" 1 ["_law_rng", "_law_size"] (spW K c__law_draw)) (L__law_make_exact : LD P w K mg base "_law_make_exact" 3 ["_law_rng"] (spW K c__law_make_exact)) (L__law_sample : LD P w K mg base "_law_sample" 2 ["_law_rng", "_law_pool", "_law_size"] (spW K c__law_sample)) (z_sorted : mg "sorted" = none) (z_tuple : mg "tuple" = none) : FnOk P w K mg base CX0 4 f fd ["_law_rng", "_law_least", "_law_most"] (spW K c__law_make_bare) := by
  refine fn_w F sc__law_make_bare (fun ws g Q h => by (repeat (obtain ⟨_, h⟩ := h)); subst_vars; rfl) fun cdv A0 outer s H E hr => ?_
  obtain ⟨_, _, G__law_draw⟩ := LD.g (X := (cxOf CX0 P w K mg base N__law_make_bare "_law_make_bare" (defScope s__law_make_bare) f cdv A0 outer s H E).nox) L__law_draw hr (by decide)
  obtain ⟨_, _, G__law_make_exact⟩ := LD.g (X := (cxOf CX0 P w K mg base N__law_make_bare "_law_make_bare" (defScope s__law_make_bare) f cdv A0 outer s H E).nox) L__law_make_exact hr (by decide)
  obtain ⟨_, _, G__law_sample⟩ := LD.g (X := (cxOf CX0 P w K mg base N__law_make_bare "_law_make_bare" (defScope s__law_make_bare) f cdv A0 outer s H E).nox) L__law_sample hr (by decide)
  have un : (cxOf CX0 P w K mg base N__law_make_bare "_law_make_bare" (defScope s__law_make_bare) f cdv A0 outer s H E).nox.A.units + 64 < cLine := hr.units
  have un1 : (cxOf CX0 P w K mg base N__law_make_bare "_law_make_bare" (defScope s__law_make_bare) f cdv A0 outer s H E).nox.A.units + 1 < cLine := by omega
  have un5 : (cxOf CX0 P w K mg base N__law_make_bare "_law_make_bare" (defScope s__law_make_bare) f cdv A0 outer s H E).nox.A.units + 65 < cLine := room65 hr
  exact ⟨t__law_make_bare, trb_set (i := 3) sc__law_make_bare.nd rfl (.inl rfl) (trl_frz (trl_cb (cl_sort un) z_sorted (by decide +kernel) (tra_cons (tr_callG G__law_sample (tra_cons (tr_name (pv 0)) (tra_cons (trl_frz (trl_lst (tra_cons (tr_str) (tra_cons (tr_str) (tra_cons (tr_str) (tra_cons (tr_str) (tra_cons (tr_str) (tra_cons (tr_str) (tra_cons (tr_str) (tra_nil)))))))))) (tra_cons (tr_op ow_add (tr_name (pv 1)) (tr_callG G__law_draw (tra_cons (tr_name (pv 0)) (tra_cons (tr_name (pv 2)) (tra_nil))))) (tra_nil))))) (tra_nil)))) (trb_ret (tr_cty cw_tuple z_tuple (by decide +kernel) (tra_cons (trl_frz (trl_lc (own := [("_law_name", 4)]) (g := gName 4) rfl sc__law_make_bare.nd (tri_val (tr_name (pv 3))) (blkOk_by (N := N__law_make_bare) (sc := defScope s__law_make_bare) (by decide +kernel)) (fun _ _ _ _ _ => pg_name (i := 4) sc__law_make_bare.nd rfl (Or.inl rfl)) (trg_nameM (vs := [4]) (by decide)) (fun _ _ _ _ _ => tr_tup (tra_cons (tr_name (pv 4)) (tra_cons (tr_callG (gdef_blk G__law_make_exact) (tra_cons (tr_name (pv 0)) (tra_nil))) (tra_cons (tr_int) (tra_cons (tr_cmp (ow_gt) (tr_callG (gdef_blk G__law_draw) (tra_cons (tr_name (pv 0)) (tra_cons (tr_int) (tra_nil)))) (tr_int) (nomark _)) (tra_nil)))))))) (tra_nil)))), me__law_make_bare⟩
theorem sc__law_make_near : FnScope N__law_make_near ["_law_rng", "_law_least", "_law_most"] (defScope s__law_make_near) := ⟨rfl, rfl, rfl, by decide +kernel, rfl, by decide +kernel, by decide +kernel⟩
theorem br__law_make_near {f : Addr} {fd : FuncData} (F : Fun K "_law_make_near" "_law_make_near" s__law_make_near f fd) (L__law_draw : LD P w K mg base "_law_draw" 1 ["_law_rng", "_law_size"] (spW K c__law_draw)) (L__law_is_free : LD P w K mg base "_law_is_free" 5 ["_law_here"] (spW K c__law_is_free)) (L__law_is_near : LD P w K mg base "_law_is_near" 4 ["_law_here"] (spW K c__law_is_near)) (L__law_make_bare : LD P w K mg base "_law_make_bare" 4 ["_law_rng", "_law_least", "_law_most"] (spW K c__law_make_bare)) (L__law_pick : LD P w K mg base "_law_pick" 2 ["_law_rng", "_law_pool"] (spW K c__law_pick)) (L__law_round_ways : LD P w K mg base "_law_round_ways" 2 ["_law_values"] (spW K c__law_round_ways)) (L__law_with_counts : LD P w K mg base "_law_with_counts" 1 ["_law_here", "_law_counts"] (spW K c__law_with_counts)) : FnOk P w K mg base CX0 6 f fd ["_law_rng", "_law_least", "_law_most"] (spW K c__law_make_near) := by
  refine fn_w F sc__law_make_near (fun ws g Q h => by (repeat (obtain ⟨_, h⟩ := h)); subst_vars; rfl) fun cdv A0 outer s H E hr => ?_
  obtain ⟨_, _, G__law_draw⟩ := LD.g (X := (cxOf CX0 P w K mg base N__law_make_near "_law_make_near" (defScope s__law_make_near) f cdv A0 outer s H E).nox) L__law_draw hr (by decide)
  obtain ⟨_, _, G__law_is_free⟩ := LD.g (X := (cxOf CX0 P w K mg base N__law_make_near "_law_make_near" (defScope s__law_make_near) f cdv A0 outer s H E).nox) L__law_is_free hr (by decide)
  obtain ⟨_, _, G__law_is_near⟩ := LD.g (X := (cxOf CX0 P w K mg base N__law_make_near "_law_make_near" (defScope s__law_make_near) f cdv A0 outer s H E).nox) L__law_is_near hr (by decide)
  obtain ⟨_, _, G__law_make_bare⟩ := LD.g (X := (cxOf CX0 P w K mg base N__law_make_near "_law_make_near" (defScope s__law_make_near) f cdv A0 outer s H E).nox) L__law_make_bare hr (by decide)
  obtain ⟨_, _, G__law_pick⟩ := LD.g (X := (cxOf CX0 P w K mg base N__law_make_near "_law_make_near" (defScope s__law_make_near) f cdv A0 outer s H E).nox) L__law_pick hr (by decide)
  obtain ⟨_, _, G__law_round_ways⟩ := LD.g (X := (cxOf CX0 P w K mg base N__law_make_near "_law_make_near" (defScope s__law_make_near) f cdv A0 outer s H E).nox) L__law_round_ways hr (by decide)
  obtain ⟨_, _, G__law_with_counts⟩ := LD.g (X := (cxOf CX0 P w K mg base N__law_make_near "_law_make_near" (defScope s__law_make_near) f cdv A0 outer s H E).nox) L__law_with_counts hr (by decide)
  have un : (cxOf CX0 P w K mg base N__law_make_near "_law_make_near" (defScope s__law_make_near) f cdv A0 outer s H E).nox.A.units + 64 < cLine := hr.units
  have un1 : (cxOf CX0 P w K mg base N__law_make_near "_law_make_near" (defScope s__law_make_near) f cdv A0 outer s H E).nox.A.units + 1 < cLine := by omega
  have un5 : (cxOf CX0 P w K mg base N__law_make_near "_law_make_near" (defScope s__law_make_near) f cdv A0 outer s H E).nox.A.units + 65 < cLine := room65 hr
  exact ⟨t__law_make_near, trb_set (i := 3) sc__law_make_near.nd rfl (.inr rfl) (tr_callG G__law_make_bare (tra_cons (tr_name (pv 0)) (tra_cons (tr_name (pv 1)) (tra_cons (tr_name (pv 2)) (tra_nil))))) (trb_setLF (j := 4) (setlc_1 (own := [("_law_way", 7)]) (g := gName 7) rfl sc__law_make_near.nd rfl rfl (tri_val (tr_callP G__law_round_ways (tra_cons (trl_frz (trl_lc (own := [("_law_row", 8)]) (g := gName 8) rfl sc__law_make_near.nd (tri_val (tr_name (pv 3))) (blkOk_by (N := N__law_make_near) (sc := defScope s__law_make_near) (by decide +kernel)) (fun _ _ _ _ _ => pg_name (i := 8) sc__law_make_near.nd rfl (Or.inl rfl)) (trg_nameM (vs := [8]) (by decide)) (fun _ _ _ _ _ => tr_ix (tr_name (pv 8)) (tr_int)))) (tra_nil)))) (blkOk_by (N := N__law_make_near) (sc := defScope s__law_make_near) (by decide +kernel)) (fun _ _ _ _ _ => pg_name (i := 7) sc__law_make_near.nd rfl (Or.inl rfl)) (trg_nameM (vs := [7]) (by decide)) (fun _ _ _ _ _ => tr_callP (gdef_blk G__law_with_counts) (tra_cons (tr_name (pv 3)) (tra_cons (tr_name (pv 7)) (tra_nil)))) (sw_true rfl rfl rfl rfl)) (trb_setLF (j := 5) (setlc_1T (own := [("_law_here", 9)]) (g := gName 9) rfl sc__law_make_near.nd rfl rfl (tri_val (tr_name (pv 4))) (blkOk_by (N := N__law_make_near) (sc := defScope s__law_make_near) (by decide +kernel)) (fun _ _ _ _ _ => pg_name (i := 9) sc__law_make_near.nd rfl (Or.inl rfl)) (trg_nameM (vs := [9]) (by decide)) (fun _ _ _ _ _ => trt_val (tr_callP (gdef_blk G__law_is_near) (tra_cons (tr_name (pv 9)) (tra_nil)))) (fun _ _ _ _ _ => tr_name (pv 9)) (sw_true rfl rfl rfl rfl)) (trb_setLF (j := 6) (setlc_1T (own := [("_law_here", 9)]) (g := gName 9) rfl sc__law_make_near.nd rfl rfl (tri_val (tr_name (pv 5))) (blkOk_by (N := N__law_make_near) (sc := defScope s__law_make_near) (by decide +kernel)) (fun _ _ _ _ _ => pg_name (i := 9) sc__law_make_near.nd rfl (Or.inl rfl)) (trg_nameM (vs := [9]) (by decide)) (fun _ _ _ _ _ => trt_not (trt_val (tr_callP (gdef_blk G__law_is_free) (tra_cons (tr_name (pv 9)) (tra_nil))))) (fun _ _ _ _ _ => tr_name (pv 9)) (sw_true rfl rfl rfl rfl)) (trb_ret (tr_callG G__law_pick (tra_cons (tr_name (pv 0)) (tra_cons (tr_if (trt_w (trw_and (trt_cmp (ow_ne un) (tr_name (pv 6)) (trl_frz (trl_lst (tra_nil))) (nomark _)) (trw_and1 (trt_cmp (ow_eq un) (tr_callG G__law_draw (tra_cons (tr_name (pv 0)) (tra_cons (tr_int) (tra_nil)))) (tr_int) (nomark _))))) (tr_name (pv 6)) (tr_name (pv 5))) (tra_nil)))))))), me__law_make_near⟩
end W4.K47

namespace W4.K47
open PySem PySem.Spec PyProof.Rows L2 Cb Wl Wg
variable {P : Program} {w : World} {K : PySem.W.Frag} {mg : Str → Option Value} {base : Heap}
theorem sc__law_groups : FnScope N__law_groups ["_law_values"] (defScope s__law_groups) := ⟨rfl, rfl, rfl, by decide +kernel, rfl, by decide +kernel, by decide +kernel⟩
theorem br__law_groups {f : Addr} {fd : FuncData} (F : Fun K "_law_groups" "_law_groups" s__law_groups f fd) (L__law_plus : LD P w K mg base "_law_plus" 2 ["_law_one", "_law_other"] (spW K c__law_plus)) : FnOk P w K mg base CX0 3 f fd ["_law_values"] (spW K c__law_groups) := by
  refine fn_w F sc__law_groups (fun ws g Q h => by (repeat (obtain ⟨_, h⟩ := h)); subst_vars; rfl) fun cdv A0 outer s H E hr => ?_
  obtain ⟨_, _, G__law_plus⟩ := LD.g (X := (cxOf CX0 P w K mg base N__law_groups "_law_groups" (defScope s__law_groups) f cdv A0 outer s H E).nox) L__law_plus hr (by decide)
  exact ⟨t__law_groups, trb_set (i := 1) sc__law_groups.nd rfl (.inl rfl) (trl_frz (trl_lst (tra_cons (tr_tup (tra_cons (tr_int) (tra_cons (tr_int) (tra_nil)))) (tra_nil)))) (trb_for (g := gName 2) rfl (tri_val (tr_name (pv 0))) (pg_name (i := 2) sc__law_groups.nd rfl (Or.inr rfl)) trg_name (trb_set (i := 1) sc__law_groups.nd rfl (.inl rfl) (trl_frz (trl_cat (tr_name (pv 1)) (trl_frz (trl_lc (own := [("_law_some", 3)]) (g := gName 3) rfl sc__law_groups.nd (tri_val (tr_name (pv 1))) (blkOk_by (N := N__law_groups) (sc := defScope s__law_groups) (by decide +kernel)) (fun _ _ _ _ _ => pg_name (i := 3) sc__law_groups.nd rfl (Or.inl rfl)) (trg_nameM (vs := [3]) (by decide)) (fun _ _ _ _ _ => tr_callP (gdef_blk G__law_plus) (tra_cons (tr_name (pv 3)) (tra_cons (tr_name (pv 2)) (tra_nil)))))))) (trb_nil)) (trb_ret (tr_name (pv 1))) PassesOwn.never), me__law_groups⟩
theorem sc__law_check_open : FnScope N__law_check_open ["_law_here", "_law_one"] (defScope s__law_check_open) := ⟨rfl, rfl, rfl, by decide +kernel, rfl, by decide +kernel, by decide +kernel⟩
theorem br__law_check_open {f : Addr} {fd : FuncData} (F : Fun K "_law_check_open" "_law_check_open" s__law_check_open f fd) (L__law_groups : LD P w K mg base "_law_groups" 3 ["_law_values"] (spW K c__law_groups)) (L_is_close_state : LD P w K mg base "is_close_state" 4 ["state"] (spW K c_is_close_state)) (L_is_open : LD P w K mg base "is_open" 6 ["state"] (spW K c_is_open)) (L_offs : LD P w K mg base "offs" 4 ["state"] (spW K c_offs)) (z_abs : mg "abs" = none) (z_len : mg "len" = none) (z_range : mg "range" = none) : FnOk P w K mg base CX0 7 f fd ["_law_here", "_law_one"] (spW K c__law_check_open) := by
  refine fn_w F sc__law_check_open (fun ws g Q h => by (repeat (obtain ⟨_, h⟩ := h)); subst_vars; rfl) fun cdv A0 outer s H E hr => ?_
  obtain ⟨_, _, G__law_groups⟩ := LD.g (X := (cxOf CX0 P w K mg base N__law_check_open "_law_check_open" (defScope s__law_check_open) f cdv A0 outer s H E).nox) L__law_groups hr (by decide)
  obtain ⟨_, _, G_is_close_state⟩ := LD.g (X := (cxOf CX0 P w K mg base N__law_check_open "_law_check_open" (defScope s__law_check_open) f cdv A0 outer s H E).nox) L_is_close_state hr (by decide)
  obtain ⟨_, _, G_is_open⟩ := LD.g (X := (cxOf CX0 P w K mg base N__law_check_open "_law_check_open" (defScope s__law_check_open) f cdv A0 outer s H E).nox) L_is_open hr (by decide)
  obtain ⟨_, _, G_offs⟩ := LD.g (X := (cxOf CX0 P w K mg base N__law_check_open "_law_check_open" (defScope s__law_check_open) f cdv A0 outer s H E).nox) L_offs hr (by decide)
  have un : (cxOf CX0 P w K mg base N__law_check_open "_law_check_open" (defScope s__law_check_open) f cdv A0 outer s H E).nox.A.units + 64 < cLine := hr.units
  have un1 : (cxOf CX0 P w K mg base N__law_check_open "_law_check_open" (defScope s__law_check_open) f cdv A0 outer s H E).nox.A.units + 1 < cLine := by omega
  have un5 : (cxOf CX0 P w K mg base N__law_check_open "_law_check_open" (defScope s__law_check_open) f cdv A0 outer s H E).nox.A.units + 65 < cLine := room65 hr
  exact ⟨t__law_check_open, trb_if (trt_w (trw_or (trt_not (trt_val (tr_callP G_is_close_state (tra_cons (tr_name (pv 1)) (tra_nil))))) (trw_or1 (trt_not (trt_val (tr_callP G_is_open (tra_cons (tr_name (pv 1)) (tra_nil)))))))) (trb_ret (tr_bl)) (trb_nil) (trb_if (trt_cmp (ow_ne un) (trl_frz (trl_lc (own := [("_law_row", 4)]) (g := gName 4) rfl sc__law_check_open.nd (tri_val (tr_name (pv 1))) (blkOk_by (N := N__law_check_open) (sc := defScope s__law_check_open) (by decide +kernel)) (fun _ _ _ _ _ => pg_name (i := 4) sc__law_check_open.nd rfl (Or.inl rfl)) (trg_nameM (vs := [4]) (by decide)) (fun _ _ _ _ _ => tr_op ow_add (tr_slT (tr_name (pv 4)) (tro_none) (tro_some (tr_int))) (tr_slT (tr_name (pv 4)) (tro_some (tr_int)) (tro_none))))) (trl_frz (trl_lc (own := [("_law_row", 4)]) (g := gName 4) rfl sc__law_check_open.nd (tri_val (tr_name (pv 0))) (blkOk_by (N := N__law_check_open) (sc := defScope s__law_check_open) (by decide +kernel)) (fun _ _ _ _ _ => pg_name (i := 4) sc__law_check_open.nd rfl (Or.inl rfl)) (trg_nameM (vs := [4]) (by decide)) (fun _ _ _ _ _ => tr_op ow_add (tr_slT (tr_name (pv 4)) (tro_none) (tro_some (tr_int))) (tr_slT (tr_name (pv 4)) (tro_some (tr_int)) (tro_none))))) (nomark _)) (trb_ret (tr_bl)) (trb_nil) (trb_set (i := 2) sc__law_check_open.nd rfl (.inr rfl) (tr_callP G_offs (tra_cons (tr_name (pv 1)) (tra_nil))) (trb_setLF (j := 3) (setlc_1T (own := [("_law_k", 5)]) (g := gName 5) rfl sc__law_check_open.nd rfl rfl (tri_rng1 z_range (tra_cons (tr_cb cw_len z_len (by decide +kernel) (tra_cons (tr_name (pv 1)) (tra_nil))) (tra_nil))) (blkOk_by (N := N__law_check_open) (sc := defScope s__law_check_open) (by decide +kernel)) (fun _ _ _ _ _ => pg_name (i := 5) sc__law_check_open.nd rfl (Or.inl rfl)) (trg_nameM (vs := [5]) (by decide)) (fun _ _ _ _ _ => trt_val (tr_ix (tr_ix (tr_name (pv 1)) (tr_name (pv 5))) (tr_int))) (fun _ _ _ _ _ => tr_ix (tr_name (pv 2)) (tr_name (pv 5))) (sw_true rfl rfl rfl rfl)) (trb_ret (tr_cmp (ow_eq un) (trl_frz (trl_lcT (own := [("_law_some", 6)]) (g := gName 6) rfl sc__law_check_open.nd (tri_val (tr_callP G__law_groups (tra_cons (tr_name (pv 3)) (tra_nil)))) (blkOk_by (N := N__law_check_open) (sc := defScope s__law_check_open) (by decide +kernel)) (fun _ _ _ _ _ => pg_name (i := 6) sc__law_check_open.nd rfl (Or.inl rfl)) (trg_nameM (vs := [6]) (by decide)) (fun _ _ _ _ _ => trt_cmp (ow_ge) (tr_cb cw_abs z_abs (by decide +kernel) (tra_cons (tr_ix (tr_name (pv 6)) (tr_int)) (tra_nil))) (tr_ix (tr_name (pv 6)) (tr_int)) (nomark _)) (fun _ _ _ _ _ => tr_name (pv 6)))) (trl_frz (trl_lst (tra_nil))) (nomark _)))))), me__law_check_open⟩
theorem sc__law_check_parts : FnScope N__law_check_parts ["_law_one"] (defScope s__law_check_parts) := ⟨rfl, rfl, rfl, by decide +kernel, rfl, by decide +kernel, by decide +kernel⟩
theorem br__law_check_parts {f : Addr} {fd : FuncData} (F : Fun K "_law_check_parts" "_law_check_parts" s__law_check_parts f fd) (L__law_down : LD P w K mg base "_law_down" 1 ["_law_value"] (spW K c__law_down)) (L__law_minus : LD P w K mg base "_law_minus" 2 ["_law_one", "_law_other"] (spW K c__law_minus)) (L__law_plus : LD P w K mg base "_law_plus" 2 ["_law_one", "_law_other"] (spW K c__law_plus)) (L_balances : LD P w K mg base "balances" 5 ["state"] (spW K c_balances)) (L_offs : LD P w K mg base "offs" 4 ["state"] (spW K c_offs)) (z_len : mg "len" = none) : FnOk P w K mg base CX0 6 f fd ["_law_one"] (spW K c__law_check_parts) := by
  refine fn_w F sc__law_check_parts (fun ws g Q h => by (repeat (obtain ⟨_, h⟩ := h)); subst_vars; rfl) fun cdv A0 outer s H E hr => ?_
  obtain ⟨_, _, G__law_down⟩ := LD.g (X := (cxOf CX0 P w K mg base N__law_check_parts "_law_check_parts" (defScope s__law_check_parts) f cdv A0 outer s H E).nox) L__law_down hr (by decide)
  obtain ⟨_, _, G__law_minus⟩ := LD.g (X := (cxOf CX0 P w K mg base N__law_check_parts "_law_check_parts" (defScope s__law_check_parts) f cdv A0 outer s H E).nox) L__law_minus hr (by decide)
  obtain ⟨_, _, G__law_plus⟩ := LD.g (X := (cxOf CX0 P w K mg base N__law_check_parts "_law_check_parts" (defScope s__law_check_parts) f cdv A0 outer s H E).nox) L__law_plus hr (by decide)
  obtain ⟨_, _, G_balances⟩ := LD.g (X := (cxOf CX0 P w K mg base N__law_check_parts "_law_check_parts" (defScope s__law_check_parts) f cdv A0 outer s H E).nox) L_balances hr (by decide)
  obtain ⟨_, _, G_offs⟩ := LD.g (X := (cxOf CX0 P w K mg base N__law_check_parts "_law_check_parts" (defScope s__law_check_parts) f cdv A0 outer s H E).nox) L_offs hr (by decide)
  have un : (cxOf CX0 P w K mg base N__law_check_parts "_law_check_parts" (defScope s__law_check_parts) f cdv A0 outer s H E).nox.A.units + 64 < cLine := hr.units
  have un1 : (cxOf CX0 P w K mg base N__law_check_parts "_law_check_parts" (defScope s__law_check_parts) f cdv A0 outer s H E).nox.A.units + 1 < cLine := by omega
  have un5 : (cxOf CX0 P w K mg base N__law_check_parts "_law_check_parts" (defScope s__law_check_parts) f cdv A0 outer s H E).nox.A.units + 65 < cLine := room65 hr
  exact ⟨t__law_check_parts, trb_unp (g := gTup K 3 (gNames [1, 2, 3])) (pg_tup rfl (pgs_cons (pg_name (i := 1) sc__law_check_parts.nd rfl (Or.inl rfl)) (pgs_cons (pg_name (i := 2) sc__law_check_parts.nd rfl (Or.inl rfl)) (pgs_cons (pg_name (i := 3) sc__law_check_parts.nd rfl (Or.inl rfl)) (pgs_nil))))) (trg_tup (is := [1, 2, 3]) (all := [1, 2, 3]) (by decide)) (tr_callP G_balances (tra_cons (tr_name (pv 0)) (tra_nil))) (trb_par (i := 4) (j := 5) rfl sc__law_check_parts.nd rfl rfl (by decide) (tr_callP G_offs (tra_cons (tr_name (pv 0)) (tra_nil))) (tr_tup (tra_cons (tr_int) (tra_cons (tr_int) (tra_nil)))) (trb_for (g := gName 6) rfl (tri_val (tr_name (pv 0))) (pg_name (i := 6) sc__law_check_parts.nd rfl (Or.inl rfl)) trg_name (trb_set (i := 5) sc__law_check_parts.nd rfl (.inl rfl) (tr_callP G__law_plus (tra_cons (tr_name (pv 5)) (tra_cons (tr_callP G__law_minus (tra_cons (tr_ix (tr_name (pv 6)) (tr_int)) (tra_cons (tr_tup (tra_cons (tr_callP G__law_down (tra_cons (tr_ix (tr_name (pv 6)) (tr_int)) (tra_nil))) (tra_cons (tr_int) (tra_nil)))) (tra_nil)))) (tra_nil)))) (trb_nil)) (trb_set (i := 7) sc__law_check_parts.nd rfl (.inl rfl) (tr_cb cw_len z_len (by decide +kernel) (tra_cons (trl_frz (trl_lcT (own := [("_law_gap", 8)]) (g := gName 8) rfl sc__law_check_parts.nd (tri_val (tr_name (pv 4))) (blkOk_by (N := N__law_check_parts) (sc := defScope s__law_check_parts) (by decide +kernel)) (fun _ _ _ _ _ => pg_name (i := 8) sc__law_check_parts.nd rfl (Or.inl rfl)) (trg_nameM (vs := [8]) (by decide)) (fun _ _ _ _ _ => trt_cmp (ow_gt) (tr_ix (tr_name (pv 8)) (tr_int)) (tr_int) (nomark _)) (fun _ _ _ _ _ => tr_name (pv 8)))) (tra_nil))) (trb_ret (tr_and (tr_cmp (ow_eq un) (tr_callP G__law_minus (tra_cons (tr_name (pv 1)) (tra_cons (tr_name (pv 2)) (tra_nil)))) (tr_callP G__law_minus (tra_cons (tr_tup (tra_cons (tr_name (pv 7)) (tra_cons (tr_int) (tra_nil)))) (tra_cons (tr_name (pv 5)) (tra_nil)))) (nomark _)) (tr_one (tr_cmp (ow_eq un) (tr_name (pv 3)) (tr_tup (tra_cons (tr_int) (tra_cons (tr_int) (tra_nil)))) (nomark _)))))) PassesOwn.never)), me__law_check_parts⟩
end W4.K47

namespace W4.K47
open PySem PySem.Spec PyProof.Rows L2 Cb Wl Wg
variable {P : Program} {w : World} {K : PySem.W.Frag} {mg : Str → Option Value} {base : Heap}
theorem sc_law : FnScope N_law ["_law_script"] (defScope s_law) := ⟨rfl, rfl, rfl, by decide +kernel, rfl, by decide +kernel, by decide +kernel⟩
theorem br_law {f : Addr} {fd : FuncData} (F : Fun K "law" "law" s_law f fd) (L__law_check_open : LD P w K mg base "_law_check_open" 7 ["_law_here", "_law_one"] (spW K c__law_check_open)) (L__law_check_parts : LD P w K mg base "_law_check_parts" 6 ["_law_one"] (spW K c__law_check_parts)) (L__law_make_near : LD P w K mg base "_law_make_near" 6 ["_law_rng", "_law_least", "_law_most"] (spW K c__law_make_near)) (L__law_stream : LD P w K mg base "_law_stream" 1 ["_law_script"] (spW K c__law_stream)) (L_corrected : LD P w K mg base "corrected" 9 ["state"] (spW K c_corrected)) (L_is_open : LD P w K mg base "is_open" 6 ["state"] (spW K c_is_open)) (L_open_states : LY P w K mg base "open_states" 7 ["state", "other"] ["state"] c_open_states) (z_len : mg "len" = none) (z_list : mg "list" = none) (z_range : mg "range" = none) : FnG P w K mg base 10 f fd ["_law_script"] (spW K c_law) := by
  refine fn_wG F sc_law (fun ws g Q h => by (repeat (obtain ⟨_, h⟩ := h)); subst_vars; rfl) fun cdv A0 outer s H E gd hr => ?_
  obtain ⟨_, _, G__law_check_open⟩ := LD.g (X := (cxOf CX0 P w K mg base N_law "law" (defScope s_law) f cdv A0 outer s H E).nox) L__law_check_open hr (by decide)
  obtain ⟨_, _, G__law_check_parts⟩ := LD.g (X := (cxOf CX0 P w K mg base N_law "law" (defScope s_law) f cdv A0 outer s H E).nox) L__law_check_parts hr (by decide)
  obtain ⟨_, _, G__law_make_near⟩ := LD.g (X := (cxOf CX0 P w K mg base N_law "law" (defScope s_law) f cdv A0 outer s H E).nox) L__law_make_near hr (by decide)
  obtain ⟨_, _, G__law_stream⟩ := LD.g (X := (cxOf CX0 P w K mg base N_law "law" (defScope s_law) f cdv A0 outer s H E).nox) L__law_stream hr (by decide)
  obtain ⟨_, _, G_corrected⟩ := LD.g (X := (cxOf CX0 P w K mg base N_law "law" (defScope s_law) f cdv A0 outer s H E).nox) L_corrected hr (by decide)
  obtain ⟨_, _, G_is_open⟩ := LD.g (X := (cxOf CX0 P w K mg base N_law "law" (defScope s_law) f cdv A0 outer s H E).nox) L_is_open hr (by decide)
  have un : (cxOf CX0 P w K mg base N_law "law" (defScope s_law) f cdv A0 outer s H E).nox.A.units + 64 < cLine := hr.units
  have un1 : (cxOf CX0 P w K mg base N_law "law" (defScope s_law) f cdv A0 outer s H E).nox.A.units + 1 < cLine := by omega
  have un5 : (cxOf CX0 P w K mg base N_law "law" (defScope s_law) f cdv A0 outer s H E).nox.A.units + 65 < cLine := room65 hr
  exact ⟨t_law, trb_set (i := 1) sc_law.nd rfl (.inl rfl) (tr_callG G__law_stream (tra_cons (tr_name (pv 0)) (tra_nil))) (trb_for (g := gName 2) rfl (tri_rng1 z_range (tra_cons (tr_int) (tra_nil))) (pg_name (i := 2) sc_law.nd rfl (Or.inl rfl)) trg_name (trb_set (i := 3) sc_law.nd rfl (.inr rfl) (tr_callG G__law_make_near (tra_cons (tr_name (pv 1)) (tra_cons (tr_int) (tra_cons (tr_int) (tra_nil))))) (trb_par (i := 4) (j := 5) rfl sc_law.nd rfl rfl (by decide) (trl_frz (trl_listY L_open_states hr (by decide) (tra_cons (tr_name (pv 3)) (tra_nil)) z_list)) (tr_callP G_corrected (tra_cons (tr_name (pv 3)) (tra_nil))) (trb_if (trt_cmp (ow_ne un) (trl_frz (trl_lcT (own := [("_law_one", 7)]) (g := gName 7) rfl sc_law.nd (tri_val (tr_name (pv 4))) (blkOk_by (N := N_law) (sc := defScope s_law) (by decide +kernel)) (fun _ _ _ _ _ => pg_name (i := 7) sc_law.nd rfl (Or.inl rfl)) (trg_nameM (vs := [7]) (by decide)) (fun _ _ _ _ _ => trt_not (trt_val (tr_callP (gdef_blk G__law_check_open) (tra_cons (tr_name (pv 3)) (tra_cons (tr_name (pv 7)) (tra_nil)))))) (fun _ _ _ _ _ => tr_name (pv 7)))) (trl_frz (trl_lst (tra_nil))) (nomark _)) (trb_ret (tr_bl)) (trb_nil) (trb_if (trt_w (trw_or (trt_cmp (ow_ne un) (tr_cmp (ow_inD un5) (tr_name (pv 3)) (tr_name (pv 4)) (by rfl)) (tr_callP G_is_open (tra_cons (tr_name (pv 3)) (tra_nil))) (nomark _)) (trw_or1 (trt_cmp (ow_ne un) (tr_callP G_is_open (tra_cons (tr_name (pv 3)) (tra_nil))) (tr_cmp (ow_eq un) (tr_name (pv 5)) (tr_op ow_mulT (tr_tup (tra_cons (tr_int) (tra_nil))) (tr_cb cw_len z_len (by decide +kernel) (tra_cons (tr_name (pv 3)) (tra_nil)))) (nomark _)) (nomark _))))) (trb_ret (tr_bl)) (trb_nil) (trb_if (trt_cmp (ow_ne un) (tr_cmp (ow_is) (tr_name (pv 5)) (tr_none) (nomark _)) (tr_cmp (ow_eq un) (tr_name (pv 4)) (trl_frz (trl_lst (tra_nil))) (nomark _)) (nomark _)) (trb_ret (tr_bl)) (trb_nil) (trb_setLF (j := 6) (setlc_1T (own := [("_law_row", 8)]) (g := gName 8) rfl sc_law.nd rfl rfl (tri_val (tr_name (pv 3))) (blkOk_by (N := N_law) (sc := defScope s_law) (by decide +kernel)) (fun _ _ _ _ _ => pg_name (i := 8) sc_law.nd rfl (Or.inl rfl)) (trg_nameM (vs := [8]) (by decide)) (fun _ _ _ _ _ => trt_val (tr_ix (tr_name (pv 8)) (tr_int))) (fun _ _ _ _ _ => tr_name (pv 8)) (sw_true rfl rfl rfl rfl)) (trb_if (trt_cmp (ow_eq un) (tr_cb cw_len z_len (by decide +kernel) (tra_cons (tr_name (pv 6)) (tra_nil))) (tr_cb cw_len z_len (by decide +kernel) (tra_cons (tr_name (pv 3)) (tra_nil))) (nomark _)) (trb_if (trt_w (trw_or (trt_not (trt_val (tr_callP G__law_check_parts (tra_cons (tr_name (pv 3)) (tra_nil))))) (trw_or1 (trt_w (trw_and (trt_cmp (ow_lt) (tr_cb cw_len z_len (by decide +kernel) (tra_cons (tr_name (pv 3)) (tra_nil))) (tr_int) (nomark _)) (trw_and1 (trt_not (trt_val (tr_callP G_is_open (tra_cons (tr_name (pv 3)) (tra_nil))))))))))) (trb_ret (tr_bl)) (trb_nil) (trb_nil)) (trb_nil) (trb_nil)))))))) (trb_ret (tr_bl)) PassesOwn.never), me_law⟩
end W4.K47

namespace W4.K47
open PySem PySem.Spec PyProof.Rows L2 Cb Wl Wg
/-! the law's feed: a new dict that is shared from now on -/
def kvV (c : V) (a l n : Int) : List (Key × V) := [(kyM, c), (kyX, .int a), (kyR, .int l), (kyC, .int n)]
theorem kvV_merge (c : V) (a l n : Int) : mergeK [] (kvV c a l n) = kvV c a l n := by rfl
theorem paired_kv {K : PySem.W.Frag} {gs : List Addr} {F : Addr → Prop} {H : Hp} {m : Nat} {q : Addr} (e : gs[m]? = some q) : Paired (fun (p : Key × Wl.W) (r : Key × V) => p.1 = r.1 ∧ RV K gs F H p.2 r.2) (kw m 0 0 0) (kvV (.ref q) 0 0 0) :=
  .cons ⟨rfl, .ref e⟩ (.cons ⟨rfl, .dat (.int _)⟩ (.cons ⟨rfl, .dat (.int _)⟩ (.cons ⟨rfl, .dat (.int _)⟩ .nil)))
theorem rds_intsD {K : PySem.W.Frag} {F : Addr → Prop} {H : Hp} : ∀ ns : List Int, RDs K F H (ns.map PyData.int) (ns.map V.int)
  | [] => .nil
  | n :: ns => .cons (.int n) (rds_intsD ns)
section
variable {P : Program} {w : World} {K : PySem.W.Frag} {mg : Str → Option Value} {base : Heap}
/-- behind the feed: a new dict over a new list -/
theorem feed_done {A : Wd} {g : List Ob} {H H' : Hp} {d q : Addr} {xs : List Int} (wr : WR K A ⟨g, []⟩ H) (s : Same H H') (hd : H d = none) (hq : H q = none) (nqd : d ≠ q) (e1 : H' d = some (.dK (kvV (.ref q) 0 0 0))) (e2 : H' q = some (.lst (xs.map V.int))) :
    ∃ B g' n m, Ext A ⟨g, []⟩ H B ⟨g', []⟩ H' ∧ WR K B ⟨g', []⟩ H' ∧ RV K B.gs B.F H' (.ref n) (.ref d) ∧ Rg n m 0 g' := by
  have w1 := wr.same s
  have e0 : Ext A ⟨g, []⟩ H A ⟨g, []⟩ H' := .same s
  obtain ⟨x1, y1⟩ := adopt_g (ob := .lsd (xs.map .int)) e0 w1 hq (wr.off hq) ⟨_, e2, rds_intsD xs⟩
  have oq := wr.off hq
  have od := wr.off hd
  have lq : (A.gs ++ [q])[A.gs.length]? = some q := by rw [List.getElem?_append_right (Nat.le_refl _), Nat.sub_self]; rfl
  have o2 : Off (A.shr q) d := ⟨fun m => by
    rcases List.mem_append.mp m with m | m
    · exact od.g m
    · exact nqd (List.mem_singleton.mp m), od.l, od.f⟩
  obtain ⟨x2, y2⟩ := adopt_g (ob := .dK (kw A.gs.length 0 0 0)) x1 y1 hd o2 ⟨_, e1, paired_kv lq⟩
  have gl : A.gs.length = g.length := wr.gl
  refine ⟨_, _, g.length + 1, g.length, x2, y2, .ref ?_, xs, 0, 0, 0, ?_, ?_, by decide, by decide⟩
  · show ((A.gs ++ [q]) ++ [d])[g.length + 1]? = some d
    rw [← gl]
    simp
  · show ((g ++ [Ob.lsd (xs.map .int)]) ++ [Ob.dK (kw A.gs.length 0 0 0)])[g.length + 1]? = _
    rw [gl]
    simp
  · show ((g ++ [Ob.lsd (xs.map .int)]) ++ [Ob.dK (kw A.gs.length 0 0 0)])[g.length]? = _
    simp
theorem sc__law_stream : FnScope ["_law_script"] ["_law_script"] (defScope s__law_stream) := ⟨rfl, rfl, rfl, by decide +kernel, rfl, by decide +kernel, by decide +kernel⟩
theorem br__law_stream {f : Addr} {fd : FuncData} (F : Fun K "_law_stream" "_law_stream" s__law_stream f fd) (zl : mg "list" = none) : FnOk P w K mg base CX0 1 f fd ["_law_script"] (spW K c__law_stream) := by
  refine F.ok sc__law_stream (fun vs H Q E h => ?_) (fun cdv A outer s H vs Q E hr h => ?_)
  · obtain ⟨A, g, ws, Q0, wr, rv, ⟨ns, rfl, _⟩, _⟩ := h
    rw [rv.len]
    rfl
  · obtain ⟨A1, g, ws, Q0, wr, rv, ⟨ns, rfl, q0⟩, kq⟩ := h
    obtain ⟨a, rfl, hsc⟩ : ∃ a, vs = [.ref a] ∧ ScL K H a (ns.map V.int) := by
      cases rv with
      | cons r rr =>
        cases rr
        cases r with
        | scr hs => exact ⟨_, rfl, hs⟩
    have hS := hsc.sq
    refine ⟨_, pw_B, b_ret (w_E (pe_disp (pps_cons pe_str (pe_callTy call_list_of (by rfl) zl (by decide +kernel) (pa_cons (pe_slice sl_list (pv 0) po_none (po_some pe_int)) pa_nil)) (pps_cons pe_str pe_int (pps_cons pe_str pe_int (pps_cons pe_str pe_int pps_nil)))) (by rfl) (by rfl) (fun z => by cases z) (by decide)) ?_)⟩
    intro d hd
    have hS1 : SqL K (upd H d (.dK [])) a (ns.map V.int) := (same_new hd).seq hS
    refine ⟨.ref a, rfl, 60, rfl, a, _, rfl, hS1, fun p hp => ?_⟩
    have npd : d ≠ p := fun e => by
      rw [← e, upd_same] at hp
      cases hp
    refine ⟨p, _, rfl, .inl (.inl (.inl upd_same)), fun q hq => ?_⟩
    have nqd : d ≠ q := fun e => by
      rw [← e, upd_ne npd, upd_same] at hq
      cases hq
    have nqp : p ≠ q := fun e => by
      rw [← e, upd_same] at hq
      cases hq
    have hp0 : H p = none := by
      rw [upd_ne npd.symm] at hp
      exact hp
    have hq0 : H q = none := by
      rw [upd_ne nqp.symm, upd_ne nqd.symm] at hq
      exact hq
    refine ⟨by rw [upd_ne nqd, upd_ne npd, upd_same], kvV (.ref q) 0 0 0, rfl, by show 4 ≤ 15; decide, ?_⟩
    rw [kvV_merge]
    obtain ⟨xs, hx⟩ : ∃ xs : List Int, cutV (ns.map V.int) none (some 60) = xs.map V.int := by
      unfold cutV
      exact ⟨(ns.drop _).take _, by rw [List.map_take, List.map_drop]⟩
    have fin : ∀ H' : Hp, Same H H' → H' d = some (.dK (kvV (.ref q) 0 0 0)) → H' q = some (.lst (xs.map V.int)) → Q (.ref d) H' := fun H' s1 s2 s3 => by
      obtain ⟨B, g', n, m, x1, x2, x3, x4⟩ := feed_done wr s1 hd hq0 nqd s2 s3
      exact kq _ _ (q0 n m g' x4) B _ _ x1 x2 x3
    refine fin _ (fun b o e => ?_) upd_same (by rw [upd_ne nqd.symm, upd_same, hx])
    rw [upd_ne (ne_of_none e hd), upd_ne (ne_of_none e hq0), upd_ne (ne_of_none e hp0), upd_ne (ne_of_none e hd)]
    exact e
end
end W4.K47

namespace W4.K47
open PySem PySem.Spec PyProof.Rows L2 Cb Wl Wg
/-! ### what the top has written -/
theorem all_mk {l : PySem.W.OpenLaw} {w : World} {K : PySem.W.Frag} {h : Heap} {mg : Str → Option Value} {fa : Addr} (X : K.In h) (G : h.Ns mainGlobals mg) (hfa : mg "law" = some (.ref fa))
    {f1 f2 f3 f4 f5 f6 f7 f8 f9 f10 f11 f12 f13 f14 f15 f16 f17 f18 f19 f20 f21 f22 f23 f24 f25 f26 f27 f28 f29 f30 f31 f32 f33 f34 f35 f36 f37 f38 f39 f40 f41 f42 f43 : Addr} {od1 an1 od2 an2 od3 an3 od4 an4 od5 an5 od6 an6 od7 an7 od8 an8 od9 an9 od10 an10 od11 an11 od12 an12 od13 an13 od14 an14 od15 an15 od16 an16 od17 an17 od18 an18 od19 an19 od20 an20 od21 an21 od22 an22 od23 an23 od24 an24 od25 an25 od26 an26 od27 an27 od28 an28 od29 an29 od30 an30 od31 an31 od32 an32 od33 an33 od34 an34 od35 an35 od36 an36 od37 an37 od38 an38 od39 an39 od40 an40 od41 an41 od42 an42 od43 an43 : Option Addr} {oc1 kV1 dc1 pm1 cd1 ct1 oc2 kV2 dc2 pm2 cd2 ct2 oc3 kV3 dc3 pm3 cd3 ct3 oc4 kV4 dc4 pm4 cd4 ct4 oc5 kV5 dc5 pm5 cd5 ct5 oc6 kV6 dc6 pm6 cd6 ct6 oc7 kV7 dc7 pm7 cd7 ct7 oc8 kV8 dc8 pm8 cd8 ct8 oc9 kV9 dc9 pm9 cd9 ct9 oc10 kV10 dc10 pm10 cd10 ct10 oc11 kV11 dc11 pm11 cd11 ct11 oc12 kV12 dc12 pm12 cd12 ct12 oc13 kV13 dc13 pm13 cd13 ct13 oc14 kV14 dc14 pm14 cd14 ct14 oc15 kV15 dc15 pm15 cd15 ct15 oc16 kV16 dc16 pm16 cd16 ct16 oc17 kV17 dc17 pm17 cd17 ct17 oc18 kV18 dc18 pm18 cd18 ct18 oc19 kV19 dc19 pm19 cd19 ct19 oc20 kV20 dc20 pm20 cd20 ct20 oc21 kV21 dc21 pm21 cd21 ct21 oc22 kV22 dc22 pm22 cd22 ct22 oc23 kV23 dc23 pm23 cd23 ct23 oc24 kV24 dc24 pm24 cd24 ct24 oc25 kV25 dc25 pm25 cd25 ct25 oc26 kV26 dc26 pm26 cd26 ct26 oc27 kV27 dc27 pm27 cd27 ct27 oc28 kV28 dc28 pm28 cd28 ct28 oc29 kV29 dc29 pm29 cd29 ct29 oc30 kV30 dc30 pm30 cd30 ct30 oc31 kV31 dc31 pm31 cd31 ct31 oc32 kV32 dc32 pm32 cd32 ct32 oc33 kV33 dc33 pm33 cd33 ct33 oc34 kV34 dc34 pm34 cd34 ct34 oc35 kV35 dc35 pm35 cd35 ct35 oc36 kV36 dc36 pm36 cd36 ct36 oc37 kV37 dc37 pm37 cd37 ct37 oc38 kV38 dc38 pm38 cd38 ct38 oc39 kV39 dc39 pm39 cd39 ct39 oc40 kV40 dc40 pm40 cd40 ct40 oc41 kV41 dc41 pm41 cd41 ct41 oc42 kV42 dc42 pm42 cd42 ct42 oc43 kV43 dc43 pm43 cd43 ct43 : Value} {sl1 sl2 sl3 sl4 sl5 sl6 sl7 sl8 sl9 sl10 sl11 sl12 sl13 sl14 sl15 sl16 sl17 sl18 sl19 sl20 sl21 sl22 sl23 sl24 sl25 sl26 sl27 sl28 sl29 sl30 sl31 sl32 sl33 sl34 sl35 sl36 sl37 sl38 sl39 sl40 sl41 sl42 sl43 : Array (Option Value)} {fNO_CENTS : Addr} {odNO_CENTS : Option Addr} {slNO_CENTS : Array (Option Value)} {nNO_CENTS : Nat} {tNO_CENTS0 tNO_CENTS1 : Tok} {fONE_CENT : Addr} {odONE_CENT : Option Addr} {slONE_CENT : Array (Option Value)} {nONE_CENT : Nat} {tONE_CENT0 tONE_CENT1 : Tok}
    (a1 : PySem.W.nsIn K mainGlobals "lowest" = some (some (.ref f1)))
    (l1 : K.lookup f1 = some ⟨oc1, od1, .func (PySem.W.fnOf "lowest" "lowest" (defArgs s_lowest) (defBody s_lowest) (defScope s_lowest) .none kV1 dc1 pm1 an1 cd1 ct1), sl1⟩)
    (c1 : PySem.W.codeIn K cd1 "lowest" = true)
    (k1 : PySem.W.keepIn K (.ref f1) = true)
    (a2 : PySem.W.nsIn K mainGlobals "pair_sum" = some (some (.ref f2)))
    (l2 : K.lookup f2 = some ⟨oc2, od2, .func (PySem.W.fnOf "pair_sum" "pair_sum" (defArgs s_pair_sum) (defBody s_pair_sum) (defScope s_pair_sum) .none kV2 dc2 pm2 an2 cd2 ct2), sl2⟩)
    (c2 : PySem.W.codeIn K cd2 "pair_sum" = true)
    (k2 : PySem.W.keepIn K (.ref f2) = true)
    (a3 : PySem.W.nsIn K mainGlobals "pair_total" = some (some (.ref f3)))
    (l3 : K.lookup f3 = some ⟨oc3, od3, .func (PySem.W.fnOf "pair_total" "pair_total" (defArgs s_pair_total) (defBody s_pair_total) (defScope s_pair_total) .none kV3 dc3 pm3 an3 cd3 ct3), sl3⟩)
    (c3 : PySem.W.codeIn K cd3 "pair_total" = true)
    (k3 : PySem.W.keepIn K (.ref f3) = true)
    (a4 : PySem.W.nsIn K mainGlobals "rounded_down" = some (some (.ref f4)))
    (l4 : K.lookup f4 = some ⟨oc4, od4, .func (PySem.W.fnOf "rounded_down" "rounded_down" (defArgs s_rounded_down) (defBody s_rounded_down) (defScope s_rounded_down) .none kV4 dc4 pm4 an4 cd4 ct4), sl4⟩)
    (c4 : PySem.W.codeIn K cd4 "rounded_down" = true)
    (k4 : PySem.W.keepIn K (.ref f4) = true)
    (a5 : PySem.W.nsIn K mainGlobals "rounded_up" = some (some (.ref f5)))
    (l5 : K.lookup f5 = some ⟨oc5, od5, .func (PySem.W.fnOf "rounded_up" "rounded_up" (defArgs s_rounded_up) (defBody s_rounded_up) (defScope s_rounded_up) .none kV5 dc5 pm5 an5 cd5 ct5), sl5⟩)
    (c5 : PySem.W.codeIn K cd5 "rounded_up" = true)
    (k5 : PySem.W.keepIn K (.ref f5) = true)
    (a6 : PySem.W.nsIn K mainGlobals "pair_turned" = some (some (.ref f6)))
    (l6 : K.lookup f6 = some ⟨oc6, od6, .func (PySem.W.fnOf "pair_turned" "pair_turned" (defArgs s_pair_turned) (defBody s_pair_turned) (defScope s_pair_turned) .none kV6 dc6 pm6 an6 cd6 ct6), sl6⟩)
    (c6 : PySem.W.codeIn K cd6 "pair_turned" = true)
    (k6 : PySem.W.keepIn K (.ref f6) = true)
    (a7 : PySem.W.nsIn K mainGlobals "pair_less" = some (some (.ref f7)))
    (l7 : K.lookup f7 = some ⟨oc7, od7, .func (PySem.W.fnOf "pair_less" "pair_less" (defArgs s_pair_less) (defBody s_pair_less) (defScope s_pair_less) .none kV7 dc7 pm7 an7 cd7 ct7), sl7⟩)
    (c7 : PySem.W.codeIn K cd7 "pair_less" = true)
    (k7 : PySem.W.keepIn K (.ref f7) = true)
    (a8 : PySem.W.nsIn K mainGlobals "is_below" = some (some (.ref f8)))
    (l8 : K.lookup f8 = some ⟨oc8, od8, .func (PySem.W.fnOf "is_below" "is_below" (defArgs s_is_below) (defBody s_is_below) (defScope s_is_below) .none kV8 dc8 pm8 an8 cd8 ct8), sl8⟩)
    (c8 : PySem.W.codeIn K cd8 "is_below" = true)
    (k8 : PySem.W.keepIn K (.ref f8) = true)
    (a9 : PySem.W.nsIn K mainGlobals "offs" = some (some (.ref f9)))
    (l9 : K.lookup f9 = some ⟨oc9, od9, .func (PySem.W.fnOf "offs" "offs" (defArgs s_offs) (defBody s_offs) (defScope s_offs) .none kV9 dc9 pm9 an9 cd9 ct9), sl9⟩)
    (c9 : PySem.W.codeIn K cd9 "offs" = true)
    (k9 : PySem.W.keepIn K (.ref f9) = true)
    (a10 : PySem.W.nsIn K mainGlobals "balances" = some (some (.ref f10)))
    (l10 : K.lookup f10 = some ⟨oc10, od10, .func (PySem.W.fnOf "balances" "balances" (defArgs s_balances) (defBody s_balances) (defScope s_balances) .none kV10 dc10 pm10 an10 cd10 ct10), sl10⟩)
    (c10 : PySem.W.codeIn K cd10 "balances" = true)
    (k10 : PySem.W.keepIn K (.ref f10) = true)
    (a11 : PySem.W.nsIn K mainGlobals "is_rounded" = some (some (.ref f11)))
    (l11 : K.lookup f11 = some ⟨oc11, od11, .func (PySem.W.fnOf "is_rounded" "is_rounded" (defArgs s_is_rounded) (defBody s_is_rounded) (defScope s_is_rounded) .none kV11 dc11 pm11 an11 cd11 ct11), sl11⟩)
    (c11 : PySem.W.codeIn K cd11 "is_rounded" = true)
    (k11 : PySem.W.keepIn K (.ref f11) = true)
    (a12 : PySem.W.nsIn K mainGlobals "is_close_state" = some (some (.ref f12)))
    (l12 : K.lookup f12 = some ⟨oc12, od12, .func (PySem.W.fnOf "is_close_state" "is_close_state" (defArgs s_is_close_state) (defBody s_is_close_state) (defScope s_is_close_state) .none kV12 dc12 pm12 an12 cd12 ct12), sl12⟩)
    (c12 : PySem.W.codeIn K cd12 "is_close_state" = true)
    (k12 : PySem.W.keepIn K (.ref f12) = true)
    (a13 : PySem.W.nsIn K mainGlobals "is_open" = some (some (.ref f13)))
    (l13 : K.lookup f13 = some ⟨oc13, od13, .func (PySem.W.fnOf "is_open" "is_open" (defArgs s_is_open) (defBody s_is_open) (defScope s_is_open) .none kV13 dc13 pm13 an13 cd13 ct13), sl13⟩)
    (c13 : PySem.W.codeIn K cd13 "is_open" = true)
    (k13 : PySem.W.keepIn K (.ref f13) = true)
    (a14 : PySem.W.nsIn K mainGlobals "rounded_states" = some (some (.ref f14)))
    (l14 : K.lookup f14 = some ⟨oc14, od14, .func (PySem.W.fnOf "rounded_states" "rounded_states" (defArgs s_rounded_states) (defBody s_rounded_states) (defScope s_rounded_states) .none kV14 dc14 pm14 an14 cd14 ct14), sl14⟩)
    (c14 : PySem.W.codeIn K cd14 "rounded_states" = true)
    (k14 : PySem.W.keepIn K (.ref f14) = true)
    (a15 : PySem.W.nsIn K mainGlobals "open_states" = some (some (.ref f15)))
    (l15 : K.lookup f15 = some ⟨oc15, od15, .func (PySem.W.fnOf "open_states" "open_states" (defArgs s_open_states) (defBody s_open_states) (defScope s_open_states) .none kV15 dc15 pm15 an15 cd15 ct15), sl15⟩)
    (c15 : PySem.W.codeIn K cd15 "open_states" = true)
    (k15 : PySem.W.keepIn K (.ref f15) = true)
    (a16 : PySem.W.nsIn K mainGlobals "size_of" = some (some (.ref f16)))
    (l16 : K.lookup f16 = some ⟨oc16, od16, .func (PySem.W.fnOf "size_of" "size_of" (defArgs s_size_of) (defBody s_size_of) (defScope s_size_of) .none kV16 dc16 pm16 an16 cd16 ct16), sl16⟩)
    (c16 : PySem.W.codeIn K cd16 "size_of" = true)
    (k16 : PySem.W.keepIn K (.ref f16) = true)
    (a17 : PySem.W.nsIn K mainGlobals "corrected" = some (some (.ref f17)))
    (l17 : K.lookup f17 = some ⟨oc17, od17, .func (PySem.W.fnOf "corrected" "corrected" (defArgs s_corrected) (defBody s_corrected) (defScope s_corrected) .none kV17 dc17 pm17 an17 cd17 ct17), sl17⟩)
    (c17 : PySem.W.codeIn K cd17 "corrected" = true)
    (k17 : PySem.W.keepIn K (.ref f17) = true)
    (a18 : PySem.W.nsIn K mainGlobals "_law_stream" = some (some (.ref f18)))
    (l18 : K.lookup f18 = some ⟨oc18, od18, .func (PySem.W.fnOf "_law_stream" "_law_stream" (defArgs s__law_stream) (defBody s__law_stream) (defScope s__law_stream) .none kV18 dc18 pm18 an18 cd18 ct18), sl18⟩)
    (c18 : PySem.W.codeIn K cd18 "_law_stream" = true)
    (k18 : PySem.W.keepIn K (.ref f18) = true)
    (a19 : PySem.W.nsIn K mainGlobals "_law_draw" = some (some (.ref f19)))
    (l19 : K.lookup f19 = some ⟨oc19, od19, .func (PySem.W.fnOf "_law_draw" "_law_draw" (defArgs s__law_draw) (defBody s__law_draw) (defScope s__law_draw) .none kV19 dc19 pm19 an19 cd19 ct19), sl19⟩)
    (c19 : PySem.W.codeIn K cd19 "_law_draw" = true)
    (k19 : PySem.W.keepIn K (.ref f19) = true)
    (a20 : PySem.W.nsIn K mainGlobals "_law_pick" = some (some (.ref f20)))
    (l20 : K.lookup f20 = some ⟨oc20, od20, .func (PySem.W.fnOf "_law_pick" "_law_pick" (defArgs s__law_pick) (defBody s__law_pick) (defScope s__law_pick) .none kV20 dc20 pm20 an20 cd20 ct20), sl20⟩)
    (c20 : PySem.W.codeIn K cd20 "_law_pick" = true)
    (k20 : PySem.W.keepIn K (.ref f20) = true)
    (a21 : PySem.W.nsIn K mainGlobals "_law_sample" = some (some (.ref f21)))
    (l21 : K.lookup f21 = some ⟨oc21, od21, .func (PySem.W.fnOf "_law_sample" "_law_sample" (defArgs s__law_sample) (defBody s__law_sample) (defScope s__law_sample) .none kV21 dc21 pm21 an21 cd21 ct21), sl21⟩)
    (c21 : PySem.W.codeIn K cd21 "_law_sample" = true)
    (k21 : PySem.W.keepIn K (.ref f21) = true)
    (a22 : PySem.W.nsIn K mainGlobals "_law_low" = some (some (.ref f22)))
    (l22 : K.lookup f22 = some ⟨oc22, od22, .func (PySem.W.fnOf "_law_low" "_law_low" (defArgs s__law_low) (defBody s__law_low) (defScope s__law_low) .none kV22 dc22 pm22 an22 cd22 ct22), sl22⟩)
    (c22 : PySem.W.codeIn K cd22 "_law_low" = true)
    (k22 : PySem.W.keepIn K (.ref f22) = true)
    (a23 : PySem.W.nsIn K mainGlobals "_law_plus" = some (some (.ref f23)))
    (l23 : K.lookup f23 = some ⟨oc23, od23, .func (PySem.W.fnOf "_law_plus" "_law_plus" (defArgs s__law_plus) (defBody s__law_plus) (defScope s__law_plus) .none kV23 dc23 pm23 an23 cd23 ct23), sl23⟩)
    (c23 : PySem.W.codeIn K cd23 "_law_plus" = true)
    (k23 : PySem.W.keepIn K (.ref f23) = true)
    (a24 : PySem.W.nsIn K mainGlobals "_law_minus" = some (some (.ref f24)))
    (l24 : K.lookup f24 = some ⟨oc24, od24, .func (PySem.W.fnOf "_law_minus" "_law_minus" (defArgs s__law_minus) (defBody s__law_minus) (defScope s__law_minus) .none kV24 dc24 pm24 an24 cd24 ct24), sl24⟩)
    (c24 : PySem.W.codeIn K cd24 "_law_minus" = true)
    (k24 : PySem.W.keepIn K (.ref f24) = true)
    (a25 : PySem.W.nsIn K mainGlobals "_law_less" = some (some (.ref f25)))
    (l25 : K.lookup f25 = some ⟨oc25, od25, .func (PySem.W.fnOf "_law_less" "_law_less" (defArgs s__law_less) (defBody s__law_less) (defScope s__law_less) .none kV25 dc25 pm25 an25 cd25 ct25), sl25⟩)
    (c25 : PySem.W.codeIn K cd25 "_law_less" = true)
    (k25 : PySem.W.keepIn K (.ref f25) = true)
    (a26 : PySem.W.nsIn K mainGlobals "_law_total" = some (some (.ref f26)))
    (l26 : K.lookup f26 = some ⟨oc26, od26, .func (PySem.W.fnOf "_law_total" "_law_total" (defArgs s__law_total) (defBody s__law_total) (defScope s__law_total) .none kV26 dc26 pm26 an26 cd26 ct26), sl26⟩)
    (c26 : PySem.W.codeIn K cd26 "_law_total" = true)
    (k26 : PySem.W.keepIn K (.ref f26) = true)
    (a27 : PySem.W.nsIn K mainGlobals "_law_down" = some (some (.ref f27)))
    (l27 : K.lookup f27 = some ⟨oc27, od27, .func (PySem.W.fnOf "_law_down" "_law_down" (defArgs s__law_down) (defBody s__law_down) (defScope s__law_down) .none kV27 dc27 pm27 an27 cd27 ct27), sl27⟩)
    (c27 : PySem.W.codeIn K cd27 "_law_down" = true)
    (k27 : PySem.W.keepIn K (.ref f27) = true)
    (a28 : PySem.W.nsIn K mainGlobals "_law_up" = some (some (.ref f28)))
    (l28 : K.lookup f28 = some ⟨oc28, od28, .func (PySem.W.fnOf "_law_up" "_law_up" (defArgs s__law_up) (defBody s__law_up) (defScope s__law_up) .none kV28 dc28 pm28 an28 cd28 ct28), sl28⟩)
    (c28 : PySem.W.codeIn K cd28 "_law_up" = true)
    (k28 : PySem.W.keepIn K (.ref f28) = true)
    (a29 : PySem.W.nsIn K mainGlobals "_law_gaps" = some (some (.ref f29)))
    (l29 : K.lookup f29 = some ⟨oc29, od29, .func (PySem.W.fnOf "_law_gaps" "_law_gaps" (defArgs s__law_gaps) (defBody s__law_gaps) (defScope s__law_gaps) .none kV29 dc29 pm29 an29 cd29 ct29), sl29⟩)
    (c29 : PySem.W.codeIn K cd29 "_law_gaps" = true)
    (k29 : PySem.W.keepIn K (.ref f29) = true)
    (a30 : PySem.W.nsIn K mainGlobals "_law_scales" = some (some (.ref f30)))
    (l30 : K.lookup f30 = some ⟨oc30, od30, .func (PySem.W.fnOf "_law_scales" "_law_scales" (defArgs s__law_scales) (defBody s__law_scales) (defScope s__law_scales) .none kV30 dc30 pm30 an30 cd30 ct30), sl30⟩)
    (c30 : PySem.W.codeIn K cd30 "_law_scales" = true)
    (k30 : PySem.W.keepIn K (.ref f30) = true)
    (a31 : PySem.W.nsIn K mainGlobals "_law_between" = some (some (.ref f31)))
    (l31 : K.lookup f31 = some ⟨oc31, od31, .func (PySem.W.fnOf "_law_between" "_law_between" (defArgs s__law_between) (defBody s__law_between) (defScope s__law_between) .none kV31 dc31 pm31 an31 cd31 ct31), sl31⟩)
    (c31 : PySem.W.codeIn K cd31 "_law_between" = true)
    (k31 : PySem.W.keepIn K (.ref f31) = true)
    (a32 : PySem.W.nsIn K mainGlobals "_law_is_near" = some (some (.ref f32)))
    (l32 : K.lookup f32 = some ⟨oc32, od32, .func (PySem.W.fnOf "_law_is_near" "_law_is_near" (defArgs s__law_is_near) (defBody s__law_is_near) (defScope s__law_is_near) .none kV32 dc32 pm32 an32 cd32 ct32), sl32⟩)
    (c32 : PySem.W.codeIn K cd32 "_law_is_near" = true)
    (k32 : PySem.W.keepIn K (.ref f32) = true)
    (a33 : PySem.W.nsIn K mainGlobals "_law_is_free" = some (some (.ref f33)))
    (l33 : K.lookup f33 = some ⟨oc33, od33, .func (PySem.W.fnOf "_law_is_free" "_law_is_free" (defArgs s__law_is_free) (defBody s__law_is_free) (defScope s__law_is_free) .none kV33 dc33 pm33 an33 cd33 ct33), sl33⟩)
    (c33 : PySem.W.codeIn K cd33 "_law_is_free" = true)
    (k33 : PySem.W.keepIn K (.ref f33) = true)
    (a34 : PySem.W.nsIn K mainGlobals "_law_choices" = some (some (.ref f34)))
    (l34 : K.lookup f34 = some ⟨oc34, od34, .func (PySem.W.fnOf "_law_choices" "_law_choices" (defArgs s__law_choices) (defBody s__law_choices) (defScope s__law_choices) .none kV34 dc34 pm34 an34 cd34 ct34), sl34⟩)
    (c34 : PySem.W.codeIn K cd34 "_law_choices" = true)
    (k34 : PySem.W.keepIn K (.ref f34) = true)
    (a35 : PySem.W.nsIn K mainGlobals "_law_round_ways" = some (some (.ref f35)))
    (l35 : K.lookup f35 = some ⟨oc35, od35, .func (PySem.W.fnOf "_law_round_ways" "_law_round_ways" (defArgs s__law_round_ways) (defBody s__law_round_ways) (defScope s__law_round_ways) .none kV35 dc35 pm35 an35 cd35 ct35), sl35⟩)
    (c35 : PySem.W.codeIn K cd35 "_law_round_ways" = true)
    (k35 : PySem.W.keepIn K (.ref f35) = true)
    (a36 : PySem.W.nsIn K mainGlobals "_law_with_counts" = some (some (.ref f36)))
    (l36 : K.lookup f36 = some ⟨oc36, od36, .func (PySem.W.fnOf "_law_with_counts" "_law_with_counts" (defArgs s__law_with_counts) (defBody s__law_with_counts) (defScope s__law_with_counts) .none kV36 dc36 pm36 an36 cd36 ct36), sl36⟩)
    (c36 : PySem.W.codeIn K cd36 "_law_with_counts" = true)
    (k36 : PySem.W.keepIn K (.ref f36) = true)
    (a37 : PySem.W.nsIn K mainGlobals "_law_make_exact" = some (some (.ref f37)))
    (l37 : K.lookup f37 = some ⟨oc37, od37, .func (PySem.W.fnOf "_law_make_exact" "_law_make_exact" (defArgs s__law_make_exact) (defBody s__law_make_exact) (defScope s__law_make_exact) .none kV37 dc37 pm37 an37 cd37 ct37), sl37⟩)
    (c37 : PySem.W.codeIn K cd37 "_law_make_exact" = true)
    (k37 : PySem.W.keepIn K (.ref f37) = true)
    (a38 : PySem.W.nsIn K mainGlobals "_law_make_bare" = some (some (.ref f38)))
    (l38 : K.lookup f38 = some ⟨oc38, od38, .func (PySem.W.fnOf "_law_make_bare" "_law_make_bare" (defArgs s__law_make_bare) (defBody s__law_make_bare) (defScope s__law_make_bare) .none kV38 dc38 pm38 an38 cd38 ct38), sl38⟩)
    (c38 : PySem.W.codeIn K cd38 "_law_make_bare" = true)
    (k38 : PySem.W.keepIn K (.ref f38) = true)
    (a39 : PySem.W.nsIn K mainGlobals "_law_make_near" = some (some (.ref f39)))
    (l39 : K.lookup f39 = some ⟨oc39, od39, .func (PySem.W.fnOf "_law_make_near" "_law_make_near" (defArgs s__law_make_near) (defBody s__law_make_near) (defScope s__law_make_near) .none kV39 dc39 pm39 an39 cd39 ct39), sl39⟩)
    (c39 : PySem.W.codeIn K cd39 "_law_make_near" = true)
    (k39 : PySem.W.keepIn K (.ref f39) = true)
    (a40 : PySem.W.nsIn K mainGlobals "_law_groups" = some (some (.ref f40)))
    (l40 : K.lookup f40 = some ⟨oc40, od40, .func (PySem.W.fnOf "_law_groups" "_law_groups" (defArgs s__law_groups) (defBody s__law_groups) (defScope s__law_groups) .none kV40 dc40 pm40 an40 cd40 ct40), sl40⟩)
    (c40 : PySem.W.codeIn K cd40 "_law_groups" = true)
    (k40 : PySem.W.keepIn K (.ref f40) = true)
    (a41 : PySem.W.nsIn K mainGlobals "_law_check_open" = some (some (.ref f41)))
    (l41 : K.lookup f41 = some ⟨oc41, od41, .func (PySem.W.fnOf "_law_check_open" "_law_check_open" (defArgs s__law_check_open) (defBody s__law_check_open) (defScope s__law_check_open) .none kV41 dc41 pm41 an41 cd41 ct41), sl41⟩)
    (c41 : PySem.W.codeIn K cd41 "_law_check_open" = true)
    (k41 : PySem.W.keepIn K (.ref f41) = true)
    (a42 : PySem.W.nsIn K mainGlobals "_law_check_parts" = some (some (.ref f42)))
    (l42 : K.lookup f42 = some ⟨oc42, od42, .func (PySem.W.fnOf "_law_check_parts" "_law_check_parts" (defArgs s__law_check_parts) (defBody s__law_check_parts) (defScope s__law_check_parts) .none kV42 dc42 pm42 an42 cd42 ct42), sl42⟩)
    (c42 : PySem.W.codeIn K cd42 "_law_check_parts" = true)
    (k42 : PySem.W.keepIn K (.ref f42) = true)
    (a43 : PySem.W.nsIn K mainGlobals "law" = some (some (.ref f43)))
    (l43 : K.lookup f43 = some ⟨oc43, od43, .func (PySem.W.fnOf "law" "law" (defArgs s_law) (defBody s_law) (defScope s_law) .none kV43 dc43 pm43 an43 cd43 ct43), sl43⟩)
    (c43 : PySem.W.codeIn K cd43 "law" = true)
    (k43 : PySem.W.keepIn K (.ref f43) = true)
    (aNO_CENTS : PySem.W.nsIn K mainGlobals "NO_CENTS" = some (some (.ref fNO_CENTS)))
    (lNO_CENTS : K.lookup fNO_CENTS = some ⟨.type "tuple", odNO_CENTS, .seq #[.int 0 tNO_CENTS0, .int 1 tNO_CENTS1] nNO_CENTS, slNO_CENTS⟩)
    (aONE_CENT : PySem.W.nsIn K mainGlobals "ONE_CENT" = some (some (.ref fONE_CENT)))
    (lONE_CENT : K.lookup fONE_CENT = some ⟨.type "tuple", odONE_CENT, .seq #[.int 1 tONE_CENT0, .int 1 tONE_CENT1] nONE_CENT, slONE_CENT⟩)
    (ag : PySem.W.nsIn K mainGlobals "gcd" = some (some (.builtin "math.gcd")))
    (z_abs : PySem.W.nsIn K mainGlobals "abs" = some none)
    (z_all : PySem.W.nsIn K mainGlobals "all" = some none)
    (z_len : PySem.W.nsIn K mainGlobals "len" = some none)
    (z_list : PySem.W.nsIn K mainGlobals "list" = some none)
    (z_max : PySem.W.nsIn K mainGlobals "max" = some none)
    (z_range : PySem.W.nsIn K mainGlobals "range" = some none)
    (z_set : PySem.W.nsIn K mainGlobals "set" = some none)
    (z_sorted : PySem.W.nsIn K mainGlobals "sorted" = some none)
    (z_sum : PySem.W.nsIn K mainGlobals "sum" = some none)
    (z_tuple : PySem.W.nsIn K mainGlobals "tuple" = some none)
    (z_zip : PySem.W.nsIn K mainGlobals "zip" = some none)
    : ∃ fd : FuncData, (∀ (s : Shared) (v : Value), BindsTo s fd ⟨[v], []⟩ [("_law_script", v)]) ∧ ∀ base : Heap, K.In base → base.Ns mainGlobals mg → FnG l.prog w K mg base 10 fa fd ["_law_script"] (spW K c_lawW) := by
  have e := hfa.symm.trans (PySem.W.mg_of X G a43)
  cases e
  have o_gcd := PySem.W.mg_of X G ag
  have o_abs := PySem.W.mg_none_of X G z_abs
  have o_all := PySem.W.mg_none_of X G z_all
  have o_len := PySem.W.mg_none_of X G z_len
  have o_list := PySem.W.mg_none_of X G z_list
  have o_max := PySem.W.mg_none_of X G z_max
  have o_range := PySem.W.mg_none_of X G z_range
  have o_set := PySem.W.mg_none_of X G z_set
  have o_sorted := PySem.W.mg_none_of X G z_sorted
  have o_sum := PySem.W.mg_none_of X G z_sum
  have o_tuple := PySem.W.mg_none_of X G z_tuple
  have o_zip := PySem.W.mg_none_of X G z_zip
  have LCNO_CENTS : LC K mg "NO_CENTS" (zC) := ⟨.ref fNO_CENTS, _, PySem.W.mg_of X G aNO_CENTS, rfl, fun gs F H => .dat (.tup (xs := [V.int (0), V.int (1)]) (.inr ⟨_, _, _, lNO_CENTS, rfl, rfl, (by show 2 ≤ sizeLine; decide), .cons ⟨_, rfl⟩ (.cons ⟨_, rfl⟩ (.nil))⟩) (.cons (.int _) (.cons (.int _) (.nil))))⟩
  have LCONE_CENT : LC K mg "ONE_CENT" (oC) := ⟨.ref fONE_CENT, _, PySem.W.mg_of X G aONE_CENT, rfl, fun gs F H => .dat (.tup (xs := [V.int (1), V.int (1)]) (.inr ⟨_, _, _, lONE_CENT, rfl, rfl, (by show 2 ≤ sizeLine; decide), .cons ⟨_, rfl⟩ (.cons ⟨_, rfl⟩ (.nil))⟩) (.cons (.int _) (.cons (.int _) (.nil))))⟩
  have F1 := fun_mk (st := s_lowest) l1 c1 k1
  have m1 := PySem.W.mg_of X G a1
  have b1 := F1.binds (ps := ["over", "under"]) fun _ _ _ _ _ _ us hl => match us, hl with | [_, _], _ => rfl
  have F2 := fun_mk (st := s_pair_sum) l2 c2 k2
  have m2 := PySem.W.mg_of X G a2
  have b2 := F2.binds (ps := ["one", "other"]) fun _ _ _ _ _ _ us hl => match us, hl with | [_, _], _ => rfl
  have F3 := fun_mk (st := s_pair_total) l3 c3 k3
  have m3 := PySem.W.mg_of X G a3
  have b3 := F3.binds (ps := ["pairs"]) fun _ _ _ _ _ _ us hl => match us, hl with | [_], _ => rfl
  have F4 := fun_mk (st := s_rounded_down) l4 c4 k4
  have m4 := PySem.W.mg_of X G a4
  have b4 := F4.binds (ps := ["pair"]) fun _ _ _ _ _ _ us hl => match us, hl with | [_], _ => rfl
  have F5 := fun_mk (st := s_rounded_up) l5 c5 k5
  have m5 := PySem.W.mg_of X G a5
  have b5 := F5.binds (ps := ["pair"]) fun _ _ _ _ _ _ us hl => match us, hl with | [_], _ => rfl
  have F6 := fun_mk (st := s_pair_turned) l6 c6 k6
  have m6 := PySem.W.mg_of X G a6
  have b6 := F6.binds (ps := ["pair"]) fun _ _ _ _ _ _ us hl => match us, hl with | [_], _ => rfl
  have F7 := fun_mk (st := s_pair_less) l7 c7 k7
  have m7 := PySem.W.mg_of X G a7
  have b7 := F7.binds (ps := ["one", "other"]) fun _ _ _ _ _ _ us hl => match us, hl with | [_, _], _ => rfl
  have F8 := fun_mk (st := s_is_below) l8 c8 k8
  have m8 := PySem.W.mg_of X G a8
  have b8 := F8.binds (ps := ["one", "other"]) fun _ _ _ _ _ _ us hl => match us, hl with | [_, _], _ => rfl
  have F9 := fun_mk (st := s_offs) l9 c9 k9
  have m9 := PySem.W.mg_of X G a9
  have b9 := F9.binds (ps := ["state"]) fun _ _ _ _ _ _ us hl => match us, hl with | [_], _ => rfl
  have F10 := fun_mk (st := s_balances) l10 c10 k10
  have m10 := PySem.W.mg_of X G a10
  have b10 := F10.binds (ps := ["state"]) fun _ _ _ _ _ _ us hl => match us, hl with | [_], _ => rfl
  have F11 := fun_mk (st := s_is_rounded) l11 c11 k11
  have m11 := PySem.W.mg_of X G a11
  have b11 := F11.binds (ps := ["cents", "exact"]) fun _ _ _ _ _ _ us hl => match us, hl with | [_, _], _ => rfl
  have F12 := fun_mk (st := s_is_close_state) l12 c12 k12
  have m12 := PySem.W.mg_of X G a12
  have b12 := F12.binds (ps := ["state"]) fun _ _ _ _ _ _ us hl => match us, hl with | [_], _ => rfl
  have F13 := fun_mk (st := s_is_open) l13 c13 k13
  have m13 := PySem.W.mg_of X G a13
  have b13 := F13.binds (ps := ["state"]) fun _ _ _ _ _ _ us hl => match us, hl with | [_], _ => rfl
  have F14 := fun_mk (st := s_rounded_states) l14 c14 k14
  have m14 := PySem.W.mg_of X G a14
  have b14 := F14.binds (ps := ["state"]) fun _ _ _ _ _ _ us hl => match us, hl with | [_], _ => rfl
  have F15 := fun_mk (st := s_open_states) l15 c15 k15
  have m15 := PySem.W.mg_of X G a15
  have b15 := F15.binds (ps := ["state"]) fun _ _ _ _ _ _ us hl => match us, hl with | [_], _ => rfl
  have F16 := fun_mk (st := s_size_of) l16 c16 k16
  have m16 := PySem.W.mg_of X G a16
  have b16 := F16.binds (ps := ["changes"]) fun _ _ _ _ _ _ us hl => match us, hl with | [_], _ => rfl
  have F17 := fun_mk (st := s_corrected) l17 c17 k17
  have m17 := PySem.W.mg_of X G a17
  have b17 := F17.binds (ps := ["state"]) fun _ _ _ _ _ _ us hl => match us, hl with | [_], _ => rfl
  have F18 := fun_mk (st := s__law_stream) l18 c18 k18
  have m18 := PySem.W.mg_of X G a18
  have b18 := F18.binds (ps := ["_law_script"]) fun _ _ _ _ _ _ us hl => match us, hl with | [_], _ => rfl
  have F19 := fun_mk (st := s__law_draw) l19 c19 k19
  have m19 := PySem.W.mg_of X G a19
  have b19 := F19.binds (ps := ["_law_rng", "_law_size"]) fun _ _ _ _ _ _ us hl => match us, hl with | [_, _], _ => rfl
  have F20 := fun_mk (st := s__law_pick) l20 c20 k20
  have m20 := PySem.W.mg_of X G a20
  have b20 := F20.binds (ps := ["_law_rng", "_law_pool"]) fun _ _ _ _ _ _ us hl => match us, hl with | [_, _], _ => rfl
  have F21 := fun_mk (st := s__law_sample) l21 c21 k21
  have m21 := PySem.W.mg_of X G a21
  have b21 := F21.binds (ps := ["_law_rng", "_law_pool", "_law_size"]) fun _ _ _ _ _ _ us hl => match us, hl with | [_, _, _], _ => rfl
  have F22 := fun_mk (st := s__law_low) l22 c22 k22
  have m22 := PySem.W.mg_of X G a22
  have b22 := F22.binds (ps := ["_law_over", "_law_under"]) fun _ _ _ _ _ _ us hl => match us, hl with | [_, _], _ => rfl
  have F23 := fun_mk (st := s__law_plus) l23 c23 k23
  have m23 := PySem.W.mg_of X G a23
  have b23 := F23.binds (ps := ["_law_one", "_law_other"]) fun _ _ _ _ _ _ us hl => match us, hl with | [_, _], _ => rfl
  have F24 := fun_mk (st := s__law_minus) l24 c24 k24
  have m24 := PySem.W.mg_of X G a24
  have b24 := F24.binds (ps := ["_law_one", "_law_other"]) fun _ _ _ _ _ _ us hl => match us, hl with | [_, _], _ => rfl
  have F25 := fun_mk (st := s__law_less) l25 c25 k25
  have m25 := PySem.W.mg_of X G a25
  have b25 := F25.binds (ps := ["_law_one", "_law_other"]) fun _ _ _ _ _ _ us hl => match us, hl with | [_, _], _ => rfl
  have F26 := fun_mk (st := s__law_total) l26 c26 k26
  have m26 := PySem.W.mg_of X G a26
  have b26 := F26.binds (ps := ["_law_values"]) fun _ _ _ _ _ _ us hl => match us, hl with | [_], _ => rfl
  have F27 := fun_mk (st := s__law_down) l27 c27 k27
  have m27 := PySem.W.mg_of X G a27
  have b27 := F27.binds (ps := ["_law_value"]) fun _ _ _ _ _ _ us hl => match us, hl with | [_], _ => rfl
  have F28 := fun_mk (st := s__law_up) l28 c28 k28
  have m28 := PySem.W.mg_of X G a28
  have b28 := F28.binds (ps := ["_law_value"]) fun _ _ _ _ _ _ us hl => match us, hl with | [_], _ => rfl
  have F29 := fun_mk (st := s__law_gaps) l29 c29 k29
  have m29 := PySem.W.mg_of X G a29
  have b29 := F29.binds (ps := ["_law_here"]) fun _ _ _ _ _ _ us hl => match us, hl with | [_], _ => rfl
  have F30 := fun_mk (st := s__law_scales) l30 c30 k30
  have m30 := PySem.W.mg_of X G a30
  have b30 := F30.binds (ps := ["_law_here"]) fun _ _ _ _ _ _ us hl => match us, hl with | [_], _ => rfl
  have F31 := fun_mk (st := s__law_between) l31 c31 k31
  have m31 := PySem.W.mg_of X G a31
  have b31 := F31.binds (ps := ["_law_count", "_law_value"]) fun _ _ _ _ _ _ us hl => match us, hl with | [_, _], _ => rfl
  have F32 := fun_mk (st := s__law_is_near) l32 c32 k32
  have m32 := PySem.W.mg_of X G a32
  have b32 := F32.binds (ps := ["_law_here"]) fun _ _ _ _ _ _ us hl => match us, hl with | [_], _ => rfl
  have F33 := fun_mk (st := s__law_is_free) l33 c33 k33
  have m33 := PySem.W.mg_of X G a33
  have b33 := F33.binds (ps := ["_law_here"]) fun _ _ _ _ _ _ us hl => match us, hl with | [_], _ => rfl
  have F34 := fun_mk (st := s__law_choices) l34 c34 k34
  have m34 := PySem.W.mg_of X G a34
  have b34 := F34.binds (ps := ["_law_rows"]) fun _ _ _ _ _ _ us hl => match us, hl with | [_], _ => rfl
  have F35 := fun_mk (st := s__law_round_ways) l35 c35 k35
  have m35 := PySem.W.mg_of X G a35
  have b35 := F35.binds (ps := ["_law_values"]) fun _ _ _ _ _ _ us hl => match us, hl with | [_], _ => rfl
  have F36 := fun_mk (st := s__law_with_counts) l36 c36 k36
  have m36 := PySem.W.mg_of X G a36
  have b36 := F36.binds (ps := ["_law_here", "_law_counts"]) fun _ _ _ _ _ _ us hl => match us, hl with | [_, _], _ => rfl
  have F37 := fun_mk (st := s__law_make_exact) l37 c37 k37
  have m37 := PySem.W.mg_of X G a37
  have b37 := F37.binds (ps := ["_law_rng"]) fun _ _ _ _ _ _ us hl => match us, hl with | [_], _ => rfl
  have F38 := fun_mk (st := s__law_make_bare) l38 c38 k38
  have m38 := PySem.W.mg_of X G a38
  have b38 := F38.binds (ps := ["_law_rng", "_law_least", "_law_most"]) fun _ _ _ _ _ _ us hl => match us, hl with | [_, _, _], _ => rfl
  have F39 := fun_mk (st := s__law_make_near) l39 c39 k39
  have m39 := PySem.W.mg_of X G a39
  have b39 := F39.binds (ps := ["_law_rng", "_law_least", "_law_most"]) fun _ _ _ _ _ _ us hl => match us, hl with | [_, _, _], _ => rfl
  have F40 := fun_mk (st := s__law_groups) l40 c40 k40
  have m40 := PySem.W.mg_of X G a40
  have b40 := F40.binds (ps := ["_law_values"]) fun _ _ _ _ _ _ us hl => match us, hl with | [_], _ => rfl
  have F41 := fun_mk (st := s__law_check_open) l41 c41 k41
  have m41 := PySem.W.mg_of X G a41
  have b41 := F41.binds (ps := ["_law_here", "_law_one"]) fun _ _ _ _ _ _ us hl => match us, hl with | [_, _], _ => rfl
  have F42 := fun_mk (st := s__law_check_parts) l42 c42 k42
  have m42 := PySem.W.mg_of X G a42
  have b42 := F42.binds (ps := ["_law_one"]) fun _ _ _ _ _ _ us hl => match us, hl with | [_], _ => rfl
  have F43 := fun_mk (st := s_law) l43 c43 k43
  have m43 := PySem.W.mg_of X G a43
  refine ⟨(PySem.W.fnOf "law" "law" (defArgs s_law) (defBody s_law) (defScope s_law) .none kV43 dc43 pm43 an43 cd43 ct43), fun s v => .of_eq rfl, fun base _ _ => ?_⟩
  have L1 : LD l.prog w K mg base "lowest" 1 ["over", "under"] (spW K c_lowest) := ⟨⟨f1, _, br_lowest F1   o_gcd, m1, k1, b1⟩⟩
  have L2 : LD l.prog w K mg base "pair_sum" 2 ["one", "other"] (spW K c_pair_sum) := ⟨⟨f2, _, br_pair_sum F2 L1  , m2, k2, b2⟩⟩
  have L3 : LD l.prog w K mg base "pair_total" 3 ["pairs"] (spW K c_pair_total) := ⟨⟨f3, _, br_pair_total F3 L2  , m3, k3, b3⟩⟩
  have L4 : LD l.prog w K mg base "rounded_down" 1 ["pair"] (spW K c_rounded_down) := ⟨⟨f4, _, br_rounded_down F4   , m4, k4, b4⟩⟩
  have L5 : LD l.prog w K mg base "rounded_up" 1 ["pair"] (spW K c_rounded_up) := ⟨⟨f5, _, br_rounded_up F5   , m5, k5, b5⟩⟩
  have L6 : LD l.prog w K mg base "pair_turned" 1 ["pair"] (spW K c_pair_turned) := ⟨⟨f6, _, br_pair_turned F6   , m6, k6, b6⟩⟩
  have L7 : LD l.prog w K mg base "pair_less" 3 ["one", "other"] (spW K c_pair_less) := ⟨⟨f7, _, br_pair_less F7 L2 L6  , m7, k7, b7⟩⟩
  have L8 : LD l.prog w K mg base "is_below" 1 ["one", "other"] (spW K c_is_below) := ⟨⟨f8, _, br_is_below F8   , m8, k8, b8⟩⟩
  have L9 : LD l.prog w K mg base "offs" 4 ["state"] (spW K c_offs) := ⟨⟨f9, _, br_offs F9 L7  o_tuple, m9, k9, b9⟩⟩
  have L10 : LD l.prog w K mg base "balances" 5 ["state"] (spW K c_balances) := ⟨⟨f10, _, br_balances F10 L8 L9 L3 L6 LCNO_CENTS o_zip, m10, k10, b10⟩⟩
  have L11 : LD l.prog w K mg base "is_rounded" 2 ["cents", "exact"] (spW K c_is_rounded) := ⟨⟨f11, _, br_is_rounded F11 L4 L5  , m11, k11, b11⟩⟩
  have L12 : LD l.prog w K mg base "is_close_state" 4 ["state"] (spW K c_is_close_state) := ⟨⟨f12, _, br_is_close_state F12 L11 L3  o_all o_sum, m12, k12, b12⟩⟩
  have L13 : LD l.prog w K mg base "is_open" 6 ["state"] (spW K c_is_open) := ⟨⟨f13, _, br_is_open F13 L10 L8 L12 L7 L2 LCONE_CENT o_all, m13, k13, b13⟩⟩
  have L14 : LD l.prog w K mg base "rounded_states" 2 ["state"] (spW K c_rounded_states) := ⟨⟨f14, _, br_rounded_states F14 L4 L5  o_list o_range, m14, k14, b14⟩⟩
  have T15 : GY l.prog w K mg base 7 f15 _ ["state", "other"] ["state"] c_open_states := br_open_states F15 L13 L14  
  have L15 : LY l.prog w K mg base "open_states" 7 ["state", "other"] ["state"] c_open_states := ⟨⟨f15, _, T15, m15, k15, b15⟩⟩
  have L16 : LD l.prog w K mg base "size_of" 1 ["changes"] (spW K c_size_of) := ⟨⟨f16, _, br_size_of F16   o_abs o_sum, m16, k16, b16⟩⟩
  have L17 : LD l.prog w K mg base "corrected" 9 ["state"] (spW K c_corrected) := ⟨⟨f17, _, br_corrected F17 L15 L16  o_tuple o_zip, m17, k17, b17⟩⟩
  have L18 : LD l.prog w K mg base "_law_stream" 1 ["_law_script"] (spW K c__law_stream) := ⟨⟨f18, _, br__law_stream F18 o_list, m18, k18, b18⟩⟩
  have L19 : LD l.prog w K mg base "_law_draw" 1 ["_law_rng", "_law_size"] (spW K c__law_draw) := ⟨⟨f19, _, br__law_draw F19   o_len, m19, k19, b19⟩⟩
  have L20 : LD l.prog w K mg base "_law_pick" 2 ["_law_rng", "_law_pool"] (spW K c__law_pick) := ⟨⟨f20, _, br__law_pick F20 L19  o_len, m20, k20, b20⟩⟩
  have L21 : LD l.prog w K mg base "_law_sample" 2 ["_law_rng", "_law_pool", "_law_size"] (spW K c__law_sample) := ⟨⟨f21, _, br__law_sample F21 L19  o_len o_list o_range, m21, k21, b21⟩⟩
  have L22 : LD l.prog w K mg base "_law_low" 1 ["_law_over", "_law_under"] (spW K c__law_low) := ⟨⟨f22, _, br__law_low F22   o_abs, m22, k22, b22⟩⟩
  have L23 : LD l.prog w K mg base "_law_plus" 2 ["_law_one", "_law_other"] (spW K c__law_plus) := ⟨⟨f23, _, br__law_plus F23 L22  , m23, k23, b23⟩⟩
  have L24 : LD l.prog w K mg base "_law_minus" 2 ["_law_one", "_law_other"] (spW K c__law_minus) := ⟨⟨f24, _, br__law_minus F24 L22  , m24, k24, b24⟩⟩
  have L25 : LD l.prog w K mg base "_law_less" 1 ["_law_one", "_law_other"] (spW K c__law_less) := ⟨⟨f25, _, br__law_less F25   , m25, k25, b25⟩⟩
  have L26 : LD l.prog w K mg base "_law_total" 3 ["_law_values"] (spW K c__law_total) := ⟨⟨f26, _, br__law_total F26 L23  , m26, k26, b26⟩⟩
  have L27 : LD l.prog w K mg base "_law_down" 1 ["_law_value"] (spW K c__law_down) := ⟨⟨f27, _, br__law_down F27   , m27, k27, b27⟩⟩
  have L28 : LD l.prog w K mg base "_law_up" 1 ["_law_value"] (spW K c__law_up) := ⟨⟨f28, _, br__law_up F28   , m28, k28, b28⟩⟩
  have L29 : LD l.prog w K mg base "_law_gaps" 3 ["_law_here"] (spW K c__law_gaps) := ⟨⟨f29, _, br__law_gaps F29 L24  , m29, k29, b29⟩⟩
  have L30 : LD l.prog w K mg base "_law_scales" 4 ["_law_here"] (spW K c__law_scales) := ⟨⟨f30, _, br__law_scales F30 L29 L24 L23  o_len o_range o_tuple, m30, k30, b30⟩⟩
  have L31 : LD l.prog w K mg base "_law_between" 2 ["_law_count", "_law_value"] (spW K c__law_between) := ⟨⟨f31, _, br__law_between F31 L27 L28  , m31, k31, b31⟩⟩
  have L32 : LD l.prog w K mg base "_law_is_near" 4 ["_law_here"] (spW K c__law_is_near) := ⟨⟨f32, _, br__law_is_near F32 L31 L26  o_sum, m32, k32, b32⟩⟩
  have L33 : LD l.prog w K mg base "_law_is_free" 5 ["_law_here"] (spW K c__law_is_free) := ⟨⟨f33, _, br__law_is_free F33 L32 L25 L24 L23 L30  , m33, k33, b33⟩⟩
  have L34 : LD l.prog w K mg base "_law_choices" 1 ["_law_rows"] (spW K c__law_choices) := ⟨⟨f34, _, br__law_choices F34   , m34, k34, b34⟩⟩
  have L35 : LD l.prog w K mg base "_law_round_ways" 2 ["_law_values"] (spW K c__law_round_ways) := ⟨⟨f35, _, br__law_round_ways F35 L34 L27 L28  o_set o_sorted, m35, k35, b35⟩⟩
  have L36 : LD l.prog w K mg base "_law_with_counts" 1 ["_law_here", "_law_counts"] (spW K c__law_with_counts) := ⟨⟨f36, _, br__law_with_counts F36   o_len o_range o_tuple, m36, k36, b36⟩⟩
  have L37 : LD l.prog w K mg base "_law_make_exact" 3 ["_law_rng"] (spW K c__law_make_exact) := ⟨⟨f37, _, br__law_make_exact F37 L19 L22 L20  o_max, m37, k37, b37⟩⟩
  have L38 : LD l.prog w K mg base "_law_make_bare" 4 ["_law_rng", "_law_least", "_law_most"] (spW K c__law_make_bare) := ⟨⟨f38, _, br__law_make_bare F38 L19 L37 L21  o_sorted o_tuple, m38, k38, b38⟩⟩
  have L39 : LD l.prog w K mg base "_law_make_near" 6 ["_law_rng", "_law_least", "_law_most"] (spW K c__law_make_near) := ⟨⟨f39, _, br__law_make_near F39 L19 L33 L32 L38 L20 L35 L36  , m39, k39, b39⟩⟩
  have L40 : LD l.prog w K mg base "_law_groups" 3 ["_law_values"] (spW K c__law_groups) := ⟨⟨f40, _, br__law_groups F40 L23  , m40, k40, b40⟩⟩
  have L41 : LD l.prog w K mg base "_law_check_open" 7 ["_law_here", "_law_one"] (spW K c__law_check_open) := ⟨⟨f41, _, br__law_check_open F41 L40 L12 L13 L9  o_abs o_len o_range, m41, k41, b41⟩⟩
  have L42 : LD l.prog w K mg base "_law_check_parts" 6 ["_law_one"] (spW K c__law_check_parts) := ⟨⟨f42, _, br__law_check_parts F42 L27 L24 L23 L10 L9  o_len, m42, k42, b42⟩⟩
  exact br_law F43 L41 L42 L39 L18 L17 L13 L15  o_len o_list o_range
end W4.K47

open PySem PySem.W PyProof.Rows in
set_option maxRecDepth 100000 in
set_option maxHeartbeats 0 in
theorem PySem.Challenge.cw_centbook_k47_whole_open_states_holds : PySem.Challenge.rw_centbook_k47_whole_open_states.Holds := by
  w_on; o_law; k_head; (case hw => w_witness2)
  k_fill
  refine Wl.walkW (l := PySem.Challenge.rw_centbook_k47_whole_open_states) (n := 63) (k := 10) (x := "_law_script") (sp := fun w => Wl.spW _ Wl.c_lawW) rfl (by decide) rfl ⟨rfl, by decide, by decide⟩ (fun w h Y => PySem.W.kIn_of Y) ?F (fun _ _ a ns hl hS => Wl.want_law hS)
  case F =>
    intro w mg fa h KX G hmg
    refine' W4.K47.all_mk KX G hmg ?a1 ?l1 ?c1 ?k1 ?a2 ?l2 ?c2 ?k2 ?a3 ?l3 ?c3 ?k3 ?a4 ?l4 ?c4 ?k4 ?a5 ?l5 ?c5 ?k5 ?a6 ?l6 ?c6 ?k6 ?a7 ?l7 ?c7 ?k7 ?a8 ?l8 ?c8 ?k8 ?a9 ?l9 ?c9 ?k9 ?a10 ?l10 ?c10 ?k10 ?a11 ?l11 ?c11 ?k11 ?a12 ?l12 ?c12 ?k12 ?a13 ?l13 ?c13 ?k13 ?a14 ?l14 ?c14 ?k14 ?a15 ?l15 ?c15 ?k15 ?a16 ?l16 ?c16 ?k16 ?a17 ?l17 ?c17 ?k17 ?a18 ?l18 ?c18 ?k18 ?a19 ?l19 ?c19 ?k19 ?a20 ?l20 ?c20 ?k20 ?a21 ?l21 ?c21 ?k21 ?a22 ?l22 ?c22 ?k22 ?a23 ?l23 ?c23 ?k23 ?a24 ?l24 ?c24 ?k24 ?a25 ?l25 ?c25 ?k25 ?a26 ?l26 ?c26 ?k26 ?a27 ?l27 ?c27 ?k27 ?a28 ?l28 ?c28 ?k28 ?a29 ?l29 ?c29 ?k29 ?a30 ?l30 ?c30 ?k30 ?a31 ?l31 ?c31 ?k31 ?a32 ?l32 ?c32 ?k32 ?a33 ?l33 ?c33 ?k33 ?a34 ?l34 ?c34 ?k34 ?a35 ?l35 ?c35 ?k35 ?a36 ?l36 ?c36 ?k36 ?a37 ?l37 ?c37 ?k37 ?a38 ?l38 ?c38 ?k38 ?a39 ?l39 ?c39 ?k39 ?a40 ?l40 ?c40 ?k40 ?a41 ?l41 ?c41 ?k41 ?a42 ?l42 ?c42 ?k42 ?a43 ?l43 ?c43 ?k43 ?aNO_CENTS ?lNO_CENTS ?aONE_CENT ?lONE_CENT ?ag ?z_abs ?z_all ?z_len ?z_list ?z_max ?z_range ?z_set ?z_sorted ?z_sum ?z_tuple ?z_zip
    (case a1 => k_is)
    (case l1 => k_is)
    (case c1 => k_is)
    (case k1 => k_is)
    (case a2 => k_is)
    (case l2 => k_is)
    (case c2 => k_is)
    (case k2 => k_is)
    (case a3 => k_is)
    (case l3 => k_is)
    (case c3 => k_is)
    (case k3 => k_is)
    (case a4 => k_is)
    (case l4 => k_is)
    (case c4 => k_is)
    (case k4 => k_is)
    (case a5 => k_is)
    (case l5 => k_is)
    (case c5 => k_is)
    (case k5 => k_is)
    (case a6 => k_is)
    (case l6 => k_is)
    (case c6 => k_is)
    (case k6 => k_is)
    (case a7 => k_is)
    (case l7 => k_is)
    (case c7 => k_is)
    (case k7 => k_is)
    (case a8 => k_is)
    (case l8 => k_is)
    (case c8 => k_is)
    (case k8 => k_is)
    (case a9 => k_is)
    (case l9 => k_is)
    (case c9 => k_is)
    (case k9 => k_is)
    (case a10 => k_is)
    (case l10 => k_is)
    (case c10 => k_is)
    (case k10 => k_is)
    (case a11 => k_is)
    (case l11 => k_is)
    (case c11 => k_is)
    (case k11 => k_is)
    (case a12 => k_is)
    (case l12 => k_is)
    (case c12 => k_is)
    (case k12 => k_is)
    (case a13 => k_is)
    (case l13 => k_is)
    (case c13 => k_is)
    (case k13 => k_is)
    (case a14 => k_is)
    (case l14 => k_is)
    (case c14 => k_is)
    (case k14 => k_is)
    (case a15 => k_is)
    (case l15 => k_is)
    (case c15 => k_is)
    (case k15 => k_is)
    (case a16 => k_is)
    (case l16 => k_is)
    (case c16 => k_is)
    (case k16 => k_is)
    (case a17 => k_is)
    (case l17 => k_is)
    (case c17 => k_is)
    (case k17 => k_is)
    (case a18 => k_is)
    (case l18 => k_is)
    (case c18 => k_is)
    (case k18 => k_is)
    (case a19 => k_is)
    (case l19 => k_is)
    (case c19 => k_is)
    (case k19 => k_is)
    (case a20 => k_is)
    (case l20 => k_is)
    (case c20 => k_is)
    (case k20 => k_is)
    (case a21 => k_is)
    (case l21 => k_is)
    (case c21 => k_is)
    (case k21 => k_is)
    (case a22 => k_is)
    (case l22 => k_is)
    (case c22 => k_is)
    (case k22 => k_is)
    (case a23 => k_is)
    (case l23 => k_is)
    (case c23 => k_is)
    (case k23 => k_is)
    (case a24 => k_is)
    (case l24 => k_is)
    (case c24 => k_is)
    (case k24 => k_is)
    (case a25 => k_is)
    (case l25 => k_is)
    (case c25 => k_is)
    (case k25 => k_is)
    (case a26 => k_is)
    (case l26 => k_is)
    (case c26 => k_is)
    (case k26 => k_is)
    (case a27 => k_is)
    (case l27 => k_is)
    (case c27 => k_is)
    (case k27 => k_is)
    (case a28 => k_is)
    (case l28 => k_is)
    (case c28 => k_is)
    (case k28 => k_is)
    (case a29 => k_is)
    (case l29 => k_is)
    (case c29 => k_is)
    (case k29 => k_is)
    (case a30 => k_is)
    (case l30 => k_is)
    (case c30 => k_is)
    (case k30 => k_is)
    (case a31 => k_is)
    (case l31 => k_is)
    (case c31 => k_is)
    (case k31 => k_is)
    (case a32 => k_is)
    (case l32 => k_is)
    (case c32 => k_is)
    (case k32 => k_is)
    (case a33 => k_is)
    (case l33 => k_is)
    (case c33 => k_is)
    (case k33 => k_is)
    (case a34 => k_is)
    (case l34 => k_is)
    (case c34 => k_is)
    (case k34 => k_is)
    (case a35 => k_is)
    (case l35 => k_is)
    (case c35 => k_is)
    (case k35 => k_is)
    (case a36 => k_is)
    (case l36 => k_is)
    (case c36 => k_is)
    (case k36 => k_is)
    (case a37 => k_is)
    (case l37 => k_is)
    (case c37 => k_is)
    (case k37 => k_is)
    (case a38 => k_is)
    (case l38 => k_is)
    (case c38 => k_is)
    (case k38 => k_is)
    (case a39 => k_is)
    (case l39 => k_is)
    (case c39 => k_is)
    (case k39 => k_is)
    (case a40 => k_is)
    (case l40 => k_is)
    (case c40 => k_is)
    (case k40 => k_is)
    (case a41 => k_is)
    (case l41 => k_is)
    (case c41 => k_is)
    (case k41 => k_is)
    (case a42 => k_is)
    (case l42 => k_is)
    (case c42 => k_is)
    (case k42 => k_is)
    (case a43 => k_is)
    (case l43 => k_is)
    (case c43 => k_is)
    (case k43 => k_is)
    (case aNO_CENTS => k_is)
    (case lNO_CENTS => k_is)
    (case aONE_CENT => k_is)
    (case lONE_CENT => k_is)
    (case ag => k_is)
    (case z_abs => k_is)
    (case z_all => k_is)
    (case z_len => k_is)
    (case z_list => k_is)
    (case z_max => k_is)
    (case z_range => k_is)
    (case z_set => k_is)
    (case z_sorted => k_is)
    (case z_sum => k_is)
    (case z_tuple => k_is)
    (case z_zip => k_is)

