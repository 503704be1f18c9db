import PyProof.Rows.All
import Wide.All
import OpenK.AllK
import Wide.FinOn
import HandS.ForMost
import HandS.Property
import HandS.Gcd
import HandS.Wide
import HandS.Defaults
import HandS.IsInst
import HandS.OwnEq
import PySem.Challenge.RW_centbook_k04_whole_amounts_as_fractions
import PyProof.Rows.Range3
set_option Elab.async false
set_option linter.all false
set_option maxRecDepth 100000
set_option maxHeartbeats 4000000
set_option exponentiation.threshold 100000
/-! own operators over the hand layer -/
namespace Cb
open PySem PySem.Spec PyProof.Rows L2

section
variable {X : Cx}
/-- a class has the def at f under the name nm -/
structure Own (K : PySem.W.Frag) (C : Addr) (nm : Str) (f : Addr) : Prop where
  at_ : PySem.W.findIn K (.ref C) nm = some (some (.ref f))
  fn : PySem.W.isFn K (.ref f) = true

theorem ins_at {pins : List (Addr × Obj)} {s : Shared} {σ : L2.St} {H : Hp} {a C dx : Addr} {fs : List (Str × V)} (I : Inv X pins σ H s) (h : H a = some (.ins C dx fs)) :
    ∃ od, PySem.W.InstAt s.heap a (PySem.W.instObj C dx) C (some od) := by
  obtain ⟨mA, J, _⟩ := ins_get I.hok h
  obtain ⟨od, J, _⟩ := J.look
  exact ⟨od, J⟩
theorem EP.cmp {pins : List (Addr × Obj)} {σ : L2.St} {Q : VK} {u : Value} {s' : Shared} (h : EP X pins σ Q u s') : PySem.W.CmpBack (EP X pins σ Q) u s' := by
  obtain ⟨v, H', I, r, q⟩ := id h
  cases u <;> first | exact h | (exfalso; cases v <;> first | (exact nomatch r) | (obtain ⟨t, r⟩ := (show ∃ t, _ from r); exact nomatch r))

/-- an operator of two values of which the left one is an instance with the def f for it -/
def rOwn (C : Addr) (sp : Sp) (Y : V → Hp → Prop) : R2 := fun x y H Q => ∃ a dx fs, x = .ref a ∧ H a = some (.ins C dx fs) ∧ Y y H ∧ sp [x, y] H Q E0
def YIns (C : Addr) : V → Hp → Prop := fun y H => ∃ b dy gs, y = .ref b ∧ H b = some (.ins C dy gs)
def YInt : V → Hp → Prop := fun y _ => ∃ i, y = .int i

variable {k : Nat} {f C g : Addr} {fd : FuncData} {ps : List Str} {sp : Sp}
/-- the call of the def at f on values -/
theorem run2 {pins : List (Addr × Obj)} {s : Shared} {σ : L2.St} {H : Hp} {Q : VK} {vs : List V} {us : List Value} (F : FnOk X.prog X.w X.K X.mg X.base CX0 k f fd ps sp) (hr : Room k X.A) (hb : Binds X.K fd ps []) (I : Inv X pins σ H s) (r : Vals vs us)
    (h : sp vs H Q E0) : wpAny (model X.prog X.w) X.A (call (.ref f) us) (EP X pins σ Q) X.xe s :=
  run_fn F hr hb (.nil) pass0 I r (by rw [List.append_nil]; exact h)

theorem op_own {op : Operator} (F : FnOk X.prog X.w X.K X.mg X.base CX0 k f fd ps sp) (hr : Room k X.A) (hb : Binds X.K fd ps []) (hc : PySem.W.selfFirst X.K C = true) (o : Own X.K C (PySem.dunder op.info.2) f) : OpR X (binaryOp op) (rOwn C sp (YIns C)) := by
  intro pins s σ H x y v u Q I rx ry h
  obtain ⟨a, dx, fs, rfl, ha, ⟨b, dy, gs, rfl, hb'⟩, h⟩ := h
  cases rx
  cases ry
  obtain ⟨od, J⟩ := ins_at I ha
  obtain ⟨od', J'⟩ := ins_at I hb'
  obtain ⟨m, hF⟩ := I.fr
  exact PySem.W.binop_K hF I.ok.mod.kin J J'.type hc o.at_ o.fn (thn (run2 (vs := [.ref a, .ref b]) F hr hb I (.cons rfl (.cons rfl .nil)) h) fun u s' q => EP.cmp q)

theorem op_ownI {op : Operator} {fo ro rc : Option Value} (F : FnOk X.prog X.w X.K X.mg X.base CX0 k f fd ps sp) (hr : Room k X.A) (hb : Binds X.K fd ps []) (hc : PySem.W.selfFirst X.K C = true) (o : Own X.K C (PySem.dunder op.info.2) f)
    (hR : PySem.W.findIn X.K (.ref C) (dunderR op.info.2) = some rc) (hp : rc = none ∨ ∃ g : Addr, rc = some (.ref g))
    (h1 : PySem.W.findIn X.K (.type "int") (PySem.dunder op.info.2) = some fo) (h2 : PySem.W.findIn X.K (.type "int") (dunderR op.info.2) = some ro) (hsub : PySem.W.subIn X.K (.type "int") (.ref C) = some false) :
    OpR X (binaryOp op) (rOwn C sp YInt) := by
  intro pins s σ H x y v u Q I rx ry h
  obtain ⟨a, dx, fs, rfl, ha, ⟨i, rfl⟩, h⟩ := h
  cases rx
  obtain ⟨t, rfl⟩ := ry
  obtain ⟨od, J⟩ := ins_at I ha
  obtain ⟨m, hF⟩ := I.fr
  exact PySem.W.ksp_binT hF I.ok.mod.kin J rfl hc o.at_ o.fn hR hp h1 h2 hsub (thn (run2 (vs := [.ref a, .int i]) F hr hb I (.cons rfl (.cons ⟨_, rfl⟩ .nil)) h) fun u s' q => EP.cmp q)

/-- -x of an instance -/
def rUOwn (C : Addr) (sp : Sp) : V → Hp → VK → Prop := fun x H Q => ∃ a dx fs, x = .ref a ∧ H a = some (.ins C dx fs) ∧ sp [x] H Q E0
theorem un_own (F : FnOk X.prog X.w X.K X.mg X.base CX0 k f fd ps sp) (hr : Room k X.A) (hb : Binds X.K fd ps []) (o : Own X.K C "__neg__" f) : UnR X (unaryOp .USub) (rUOwn C sp) := by
  intro pins s σ H x v Q I rx h
  obtain ⟨a, dx, fs, rfl, ha, h⟩ := h
  cases rx
  obtain ⟨od, J⟩ := ins_at I ha
  obtain ⟨m, hF⟩ := I.fr
  exact PySem.W.ksp_neg hF I.ok.mod.kin J o.at_ o.fn (run2 (vs := [.ref a]) F hr hb I (.cons rfl .nil) h)

/-- ==, != by the own def -/
theorem op_cmpOwn {op : CmpOp} (ho : ∀ u v, compareOp op u v = richCompare op u v) (F : FnOk X.prog X.w X.K X.mg X.base CX0 k f fd ps sp) (hr : Room k X.A) (hb : Binds X.K fd ps []) (o : Own X.K C (cmpInfo op).2.1 f) : OpR X (compareOp op) (rOwn C sp (YIns C)) := by
  intro pins s σ H x y v u Q I rx ry h
  obtain ⟨a, dx, fs, rfl, ha, ⟨b, dy, gs, rfl, hb'⟩, h⟩ := h
  cases rx
  cases ry
  obtain ⟨od, J⟩ := ins_at I ha
  obtain ⟨od', J'⟩ := ins_at I hb'
  obtain ⟨m, hF⟩ := I.fr
  rw [ho]
  refine PySem.W.cmp_K (tb := .ref C) hr.units0 hF I.ok.mod.kin J J'.type (by simp [PySem.W.notFirst]) o.at_ o.fn (thn (run2 (vs := [.ref a, .ref b]) F hr hb I (.cons rfl (.cons rfl .nil)) h) fun u s' q => EP.cmp q)

/-- abs(x) of an instance -/
theorem call_absOwn (F : FnOk X.prog X.w X.K X.mg X.base CX0 k f fd ps sp) (hr : Room (k + 1) X.A) (hb : Binds X.K fd ps []) (o : Own X.K C "__abs__" f) : CallR X (.builtin "abs") (fun vs H Q => ∃ x, vs = [x] ∧ rUOwn C sp x H Q) := by
  intro pins s σ H vs us Q I r h
  obtain ⟨x, rfl, a, dx, fs, rfl, ha, h⟩ := h
  obtain ⟨u, rfl, r1⟩ := vals1 r
  cases r1
  obtain ⟨od, J⟩ := ins_at I ha
  refine Calls.call_function_entry kind_abs plain_abs entry_abs (args_abs _) ?_
  unfold Builtin.«abs»
  refine wpAny_bind (m := oneArg "abs" _) (wpAny_pure ?_)
  have F' := F.run X.A.in1 X.stack s H ⟨[.ref a], []⟩ ([Value.ref a] ++ []) [V.ref a] Q E0 hr.in1 I.env0.in1 (hb s [.ref a] I.kIn (by rw [List.append_nil, ← F.len _ _ _ _ h]; rfl)) (show Vals [V.ref a] ([Value.ref a] ++ []) from .cons rfl .nil) h
  refine wpAny_bind (m := callSpecial? (.ref a) (Str.ofString "__abs__")) (PySem.W.special_fn I.kIn J o.at_ (beq_iff_eq.mp o.fn) (wpAny_call (codeAny_mono F' fun r s' hq => ?_)))
  cases r with
  | error e => exact False.elim hq
  | ok fl =>
    cases fl with
    | ret w =>
      exact wpAny_pure ⟨_, rfl, I.after hq⟩
    | next => exact False.elim hq
    | brk => exact False.elim hq
    | cont => exact False.elim hq
end
end Cb

namespace GCb
open PySem
open PySem.Sem (wp)
abbrev NI (x C dx : Addr) : Spec := fun _ R s => s.heap.get? x = some (PySem.W.instObj C dx) ∧ R (.ok (.ret .notImplemented)) s
theorem int_mul_ref (i : Int) (t : Tok) (x C dx : Addr) : Meets (Builtin.«int.__mul__» ⟨[.int i t, .ref x], []⟩) (NI x C dx) :=
  Meets.of_wp fun prog w A R s hs => by
    obtain ⟨hl, hs⟩ := hs
    obtain ⟨hp, g, d, tk, os⟩ := s
    unfold PySem.W.instObj at hl
    wp_walk using wpAny_load hl
    exact ⟨_, rfl, hs⟩
theorem int_add_ref (i : Int) (t : Tok) (x C dx : Addr) : Meets (Builtin.«int.__add__» ⟨[.int i t, .ref x], []⟩) (NI x C dx) :=
  Meets.of_wp fun prog w A R s hs => by
    obtain ⟨hl, hs⟩ := hs
    obtain ⟨hp, g, d, tk, os⟩ := s
    unfold PySem.W.instObj at hl
    wp_walk using wpAny_load hl
    exact ⟨_, rfl, hs⟩
theorem int_sub_ref (i : Int) (t : Tok) (x C dx : Addr) : Meets (Builtin.«int.__sub__» ⟨[.int i t, .ref x], []⟩) (NI x C dx) :=
  Meets.of_wp fun prog w A R s hs => by
    obtain ⟨hl, hs⟩ := hs
    obtain ⟨hp, g, d, tk, os⟩ := s
    unfold PySem.W.instObj at hl
    wp_walk using wpAny_load hl
    exact ⟨_, rfl, hs⟩

section
open PySem.W PySem.Calls PyProof.Rows
variable {prog : Program} {w : World} {A : Around} {E : Value → Shared → Prop} {s : Shared} {K : Frag} {x C L f g dx : Addr} {h₀ : Heap} {m : Str → Option Value} {od : Option Obj}
/-- an int on the left, an instance with the reflected def on the right -/
theorem binR {op : Operator} {idl : String} {B : Builtin} {i : Int} {t : Tok} {Q : Value → Shared → Prop} (F : Fr h₀ L s.heap m) (X₀ : K.In h₀) (I : InstAt s.heap x (instObj C dx) C od) (hc : selfFirst K C = true)
    (hd : findIn K (.ref C) (PySem.dunder op.info.2) = some (some (.ref g))) (hs : findIn K (.ref C) (dunderR op.info.2) = some (some (.ref f))) (hf : isFn K (.ref f) = true) (hsub : subIn K (.ref C) (.type "int") = some false)
    (fillsT : fillsNumberSlot (.type "int") op.info.2 = pure true) (slot : Slot "int" (PySem.dunder op.info.2) idl) (entry : entryFor table idl = some B) (args : argsOk idl ⟨[.int i t, .ref x], []⟩)
    (ni : Meets (B ⟨[.int i t, .ref x], []⟩) (NI x C dx))
    (h : wpAny (model prog w) A (call (.ref f) [.ref x, .int i t]) (PySem.W.CmpBack Q) E s) : wpAny (model prog w) A (binaryOp op (.int i t) (.ref x)) Q E s := by
  have X := X₀.keeps F.keep
  obtain ⟨cd, rest, hcd, hm⟩ := ksp_first hc
  rcases hi : op.info with ⟨sym, nm'⟩
  rw [hi] at hd hs fillsT slot
  dsimp only at hd hs fillsT slot
  have one := ksp_try X I hs hf h
  have zero : wpAny (model prog w) A (tryMethod (.int i t) (PySem.dunder nm') (.ref x)) (fun r s' => r = none ∧ s' = s) E s :=
    wpAny_tryMethod_declines (typeIs_int s i t) slot (call_meets slot (typeIs_int s i t) entry args ni ⟨I.at_, rfl, rfl, rfl⟩)
  obtain ⟨hh, g, d, tt, os⟩ := s
  have L1 : Looks (model prog w) hh (typeOf (.ref x)) (.ref C) := I.type
  have L2 : Looks (model prog w) hh (typeOf (.int i t)) (.type "int") := Looks.of_pure rfl
  have L3 : Looks (model prog w) hh (fillsNumberSlot (.ref C) nm') true := fills_K X hcd hm hd
  have L4 : Looks (model prog w) hh (fillsNumberSlot (.type "int") nm') true := Looks.of_pure fillsT
  have L5 : Looks (model prog w) hh (isSubtype (.ref C) (.type "int")) false := looks_subIn X hsub
  have L7 : Looks (model prog w) hh (numberSlotInPython (.type "int") nm') false := Looks.of_pure rfl
  have hne : (Value.type "int" == Value.ref C) = false := Bool.eq_false_iff.mpr fun q => by cases beq_iff_eq.mp q
  simp only [binaryOp, hi]
  refine wpAny_holding (wpAny_bind ?_)
  unfold binaryOp1
  refine wpAny_bind (L2.at (wpAny_bind (L1.at (wpAny_bind (L4.at ?_)))))
  simp only [hne, Bool.false_eq_true, if_false]
  ksp_lk
  refine wpAny_mono zero (fun r s' hr' => ?_) fun _ _ e => e
  obtain ⟨rfl, rfl⟩ := hr'
  ksp_lk
  refine wpAny_mono one (fun r s' hr' => ?_) fun _ _ e => e
  obtain ⟨v, rfl, hq⟩ := hr'
  ksp_lk
  exact hq
end
end GCb
namespace Cb
open PySem PySem.Spec PyProof.Rows L2
section
variable {X : Cx} {k : Nat} {f C g : Addr} {fd : FuncData} {ps : List Str} {sp : Sp}
def rOwnR (C : Addr) (sp : Sp) : R2 := fun x y H Q => ∃ i b dy gs, x = .int i ∧ y = .ref b ∧ H b = some (.ins C dy gs) ∧ sp [y, x] H Q E0
theorem op_ownR {op : Operator} {idl : String} {B : Builtin} (F : FnOk X.prog X.w X.K X.mg X.base CX0 k f fd ps sp) (hr : Room k X.A) (hb : Binds X.K fd ps []) (hc : PySem.W.selfFirst X.K C = true)
    (hd : PySem.W.findIn X.K (.ref C) (PySem.dunder op.info.2) = some (some (.ref g))) (o : Own X.K C (dunderR op.info.2) f) (hsub : PySem.W.subIn X.K (.ref C) (.type "int") = some false)
    (fillsT : fillsNumberSlot (.type "int") op.info.2 = pure true) (slot : Slot "int" (PySem.dunder op.info.2) idl) (entry : entryFor table idl = some B) (args : ∀ a b, argsOk idl ⟨[a, b], []⟩)
    (ni : ∀ (i : Int) (t : Tok) (x C dx : Addr), Meets (B ⟨[.int i t, .ref x], []⟩) (GCb.NI x C dx)) : OpR X (binaryOp op) (rOwnR C sp) := by
  intro pins s σ H x y v u Q I rx ry h
  obtain ⟨i, b, dx, fs, rfl, rfl, ha, h⟩ := h
  obtain ⟨t, rfl⟩ := rx
  cases ry
  obtain ⟨od, J⟩ := ins_at I ha
  obtain ⟨m, hF⟩ := I.fr
  exact GCb.binR hF I.ok.mod.kin J hc hd o.at_ o.fn hsub fillsT slot entry (args _ _) (ni _ _ _ _ _) (thn (run2 (vs := [.ref b, .int i]) F hr hb I (.cons rfl (.cons ⟨_, rfl⟩ .nil)) h) fun u s' q => EP.cmp q)

/-- a, b.f, ..: an attribute as a target -/
def gFld (K : PySem.W.Frag) (ta : TE) (f : Str) : TG := fun v σ H Q => ta σ H fun x H2 => ∃ a C dx fs, x = .ref a ∧ H2 a = some (.ins C dx fs) ∧ Cls K C ∧ NoAttr K C f ∧ fs.length < 1000 ∧ Q σ (upd H2 a (.ins C dx (putF f v fs)))
theorem pg_fld {o : Expr} {f : Str} {pos : Pos} {ta : TE} (ha : PE X o ta) : PG X (.Attribute o f pos) (gFld X.K ta f) := by
  refine ⟨fun pins s σ H v u Q I r h => ?_⟩
  rw [assign_Attribute]
  refine wpAny_bind (wpAny_holding (thn (ha.run pins s σ H _ I h) fun ov s1 ⟨x, H1, I1, r1, a, C, dx, fs, ex, ea, c, n, l, q⟩ => ?_))
  subst ex
  obtain rfl : ov = Value.ref a := r1
  refine wpAny_bind (wpAny_standAt (wpAny_bind (wpAny_holding (setattr_ok I1 ea c n l r fun s3 I3 => ?_))))
  exact wpAny_release ⟨σ, _, I3, q⟩
end
end Cb

/-! weakest readings, pure evaluation -/
namespace Cb
open PySem PySem.Spec PyProof.Rows L2
section
variable {X : Cx}
def wE (X : Cx) (e : Expr) : TE := fun σ H Q => ∀ (pins : List (Addr × Obj)) (s : Shared), Inv X pins σ H s → wpAny (model X.prog X.w) X.A (eval e X.env) (EP X pins σ Q) X.xe s
def wT (X : Cx) (e : Expr) : TT := fun σ H Q => ∀ (pins : List (Addr × Obj)) (s : Shared), Inv X pins σ H s → wpAny (model X.prog X.w) X.A (isTrue e X.env (eval e X.env)) (TP X pins σ Q) X.xe s
def wW (X : Cx) (e : Expr) : TT := fun σ H Q => ∀ (whole : Sem Value) (pins : List (Addr × Obj)) (s : Shared), Inv X pins σ H s → wpAny (model X.prog X.w) X.A (isTrue e X.env whole) (TP X pins σ Q) X.xe s
def wA (X : Cx) (es : List Expr) : TA := fun σ H Q => ∀ (pos : Pos) (pins : List (Addr × Obj)) (s : Shared), Inv X pins σ H s → wpAny (model X.prog X.w) X.A (spliced (backTo pos (starEach es X.env))) (AP X pins σ Q) X.xe s
def wS (X : Cx) (st : Stmt) : TS := fun D σ H => ∀ (pins : List (Addr × Obj)) (s : Shared), Inv X pins σ H s → wpAny (model X.prog X.w) X.A (exec st X.env) (SP X pins D) X.xe s
def wB (X : Cx) (sts : List Stmt) : TS := fun D σ H => ∀ (pins : List (Addr × Obj)) (s : Shared), Inv X pins σ H s → wpAny (model X.prog X.w) X.A (execs sts X.env) (SP X pins D) X.xe s
variable {e a b c : Expr} {es : List Expr} {st : Stmt} {sts els : List Stmt} {t : TE} {tt : TT} {ta : TA} {ts : TS} {σ : L2.St} {H H' : Hp} {pos : Pos} {D D' : Ends}
theorem pw_E : PE X e (wE X e) := ⟨fun pins s _ _ _ I h => h pins s I⟩
theorem pw_T : PT X e (wT X e) := ⟨fun pins s _ _ _ I h => h pins s I⟩
theorem pw_W : PW X e (wW X e) := ⟨fun whole pins s _ _ _ I h => h whole pins s I⟩
theorem pw_A : PA X es (wA X es) := ⟨fun pos pins s _ _ _ I h => h pos pins s I⟩
theorem pw_S : PS X st (wS X st) := ⟨fun pins s _ _ _ I h => h pins s I⟩
theorem pw_B : PSs X sts (wB X sts) := ⟨fun pins s _ _ _ I h => h pins s I⟩
theorem w_E (p : PE X e t) {Q : VK} (h : t σ H Q) : wE X e σ H Q := fun pins s I => p.run pins s σ H Q I h
theorem w_T (p : PT X e tt) {Q : Bool → Hp → Prop} (h : tt σ H Q) : wT X e σ H Q := fun pins s I => p.run pins s σ H Q I h
theorem w_W (p : PW X e tt) {Q : Bool → Hp → Prop} (h : tt σ H Q) : wW X e σ H Q := fun whole pins s I => p.run whole pins s σ H Q I h
theorem w_A (p : PA X es ta) {Q : List V → Hp → Prop} (h : ta σ H Q) : wA X es σ H Q := fun pos pins s I => p.run pos pins s σ H Q I h
theorem w_S (p : PS X st ts) (h : ts D σ H) : wS X st D σ H := fun pins s I => p.run pins s σ H D I h
theorem w_B (p : PSs X sts ts) (h : ts D σ H) : wB X sts D σ H := fun pins s I => p.run pins s σ H D I h
theorem wE_mono {Q Q' : VK} (h : wE X e σ H Q) (k : ∀ v H', Q v H' → Q' v H') : wE X e σ H Q' := fun pins s I => thn (h pins s I) fun u s' ⟨v, H1, I1, r, q⟩ => ⟨v, H1, I1, r, k v H1 q⟩
theorem wT_mono {Q Q' : Bool → Hp → Prop} (h : wT X e σ H Q) (k : ∀ v H', Q v H' → Q' v H') : wT X e σ H Q' := fun pins s I => thn (h pins s I) fun u s' ⟨H1, I1, q⟩ => ⟨H1, I1, k u H1 q⟩
theorem wW_mono {Q Q' : Bool → Hp → Prop} (h : wW X e σ H Q) (k : ∀ v H', Q v H' → Q' v H') : wW X e σ H Q' := fun whole pins s I => thn (h whole pins s I) fun u s' ⟨H1, I1, q⟩ => ⟨H1, I1, k u H1 q⟩
theorem wA_mono {Q Q' : List V → Hp → Prop} (h : wA X es σ H Q) (k : ∀ v H', Q v H' → Q' v H') : wA X es σ H Q' := fun pos pins s I => thn (h pos pins s I) fun u s' ⟨v, H1, I1, r, q⟩ => ⟨v, H1, I1, r, k v H1 q⟩
theorem wB_mono (h : wB X sts D σ H) (k1 : ∀ σ' H', D.nx σ' H' → D'.nx σ' H') (k2 : ∀ v H', D.rt v H' → D'.rt v H') (k3 : ∀ σ' H', D.bk σ' H' → D'.bk σ' H') (k4 : ∀ σ' H', D.ct σ' H' → D'.ct σ' H') : wB X sts D' σ H := fun pins s I =>
  thn (h pins s I) fun f s' q => by
    cases f with
    | next => obtain ⟨σ', H', I', q⟩ := q; exact ⟨σ', H', I', k1 _ _ q⟩
    | brk => obtain ⟨σ', H', I', q⟩ := q; exact ⟨σ', H', I', k3 _ _ q⟩
    | cont => obtain ⟨σ', H', I', q⟩ := q; exact ⟨σ', H', I', k4 _ _ q⟩
    | ret u => obtain ⟨v, σ', H', I', r, q⟩ := q; exact ⟨v, σ', H', I', r, k2 _ _ q⟩
/-! blocks -/
theorem b_nil (h : D.nx σ H) : wB X [] D σ H := w_B pss_nil h
theorem b_cons (h : wS X st { D with nx := wB X sts D } σ H) : wB X (st :: sts) D σ H := w_B (pss_cons pw_S pw_B) h
/-! ### predicates on values -/
abbrev Pd := V → Hp → Prop
def Mono (P : Pd) : Prop := ∀ v H H', Same H H' → P v H → P v H'
def Is (v : V) : Pd := fun x _ => x = v
theorem mono_is {v : V} : Mono (Is v) := fun _ _ _ _ h => h
def Ev (X : Cx) (σ : L2.St) (H : Hp) (e : Expr) (P : Pd) : Prop := ∀ H1, Same H H1 → wE X e σ H1 (fun v H2 => Same H1 H2 ∧ P v H2)
def EvT (X : Cx) (σ : L2.St) (H : Hp) (e : Expr) (k : Bool) : Prop := ∀ H1, Same H H1 → wT X e σ H1 (fun v H2 => Same H1 H2 ∧ v = k)
def EvW (X : Cx) (σ : L2.St) (H : Hp) (e : Expr) (k : Bool) : Prop := ∀ H1, Same H H1 → wW X e σ H1 (fun v H2 => Same H1 H2 ∧ v = k)
def Pws : List Pd → List V → Hp → Prop
  | [], vs, _ => vs = []
  | P :: Ps, vs, H => ∃ v r, vs = v :: r ∧ P v H ∧ Pws Ps r H
def EvA (X : Cx) (σ : L2.St) (H : Hp) (es : List Expr) (Ps : List Pd) : Prop := ∀ H1, Same H H1 → wA X es σ H1 (fun vs H2 => Same H1 H2 ∧ Pws Ps vs H2)
variable {P Pa Pb : Pd} {Ps : List Pd}
theorem Ev.mono (h : Ev X σ H e P) (s : Same H H') : Ev X σ H' e P := fun H1 s1 => h H1 (s.trans s1)
theorem EvT.mono {k : Bool} (h : EvT X σ H e k) (s : Same H H') : EvT X σ H' e k := fun H1 s1 => h H1 (s.trans s1)
theorem Ev.imp {P' : Pd} (h : Ev X σ H e P) (k : ∀ v H', Same H H' → P v H' → P' v H') : Ev X σ H e P' := fun H1 s1 => wE_mono (h H1 s1) fun v H' ⟨s, p⟩ => ⟨s, k v H' (s1.trans s) p⟩
theorem ev_of (p : PE X e t) (h : ∀ H1, Same H H1 → t σ H1 (fun v H2 => Same H1 H2 ∧ P v H2)) : Ev X σ H e P := fun H1 s1 => w_E p (h H1 s1)
theorem w_ev {Q : VK} (h : Ev X σ H e P) (k : ∀ v H', Same H H' → P v H' → Q v H') : wE X e σ H Q := wE_mono (h H (.refl _)) fun v H' ⟨s, p⟩ => k v H' s p
theorem w_evT {k : Bool} {Q : Bool → Hp → Prop} (h : EvT X σ H e k) (kk : ∀ H', Same H H' → Q k H') : wT X e σ H Q := wT_mono (h H (.refl _)) fun v H' ⟨s, p⟩ => by
  subst p
  exact kk H' s
theorem ev_c {v : V} (p : PE X e (tC v)) : Ev X σ H e (Is v) := ev_of p fun H1 _ => ⟨.refl _, rfl⟩
theorem ev_v {i : Nat} {v : V} (p : PE X e (tVar i)) (hi : σ[i]? = some (some v)) (h : P v H) (m : Mono P) : Ev X σ H e P := ev_of p fun H1 s1 => ⟨v, hi, .refl _, m _ _ _ s1 h⟩
theorem ev_vi {i : Nat} {v : V} (p : PE X e (tVar i)) (hi : σ[i]? = some (some v)) : Ev X σ H e (Is v) := ev_v p hi rfl mono_is
theorem ev_op {op : Operator} {r : R2} (ho : OpR X (binaryOp op) r) (ha : Ev X σ H a Pa) (hb : Ev X σ H b Pb) (ma : Mono Pa)
    (h : ∀ x y H2, Same H H2 → Pa x H2 → Pb y H2 → r x y H2 (fun v H3 => Same H2 H3 ∧ P v H3)) (hr : ∀ x y H2 (Q Q' : VK), (∀ v H', Q v H' → Q' v H') → r x y H2 Q → r x y H2 Q') : Ev X σ H (.BinOp a op b pos) P :=
  ev_of (pe_op ho pw_E pw_E) fun H1 s1 => wE_mono (ha H1 s1) fun x H2 ⟨s2, px⟩ => wE_mono (hb H2 (s1.trans s2)) fun y H3 ⟨s3, py⟩ =>
    hr _ _ _ _ _ (fun v H' ⟨s4, pv⟩ => ⟨(s2.trans s3).trans s4, pv⟩) (h x y H3 ((s1.trans s2).trans s3) (ma _ _ _ s3 px) py)
theorem ev_cmp {op : CmpOp} {r : R2} (ho : OpR X (compareOp op) r) (hm : behindInMarks op b = false) (ha : Ev X σ H a Pa) (hb : Ev X σ H b Pb) (ma : Mono Pa)
    (h : ∀ x y H2, Same H H2 → Pa x H2 → Pb y H2 → r x y H2 (fun v H3 => Same H2 H3 ∧ P v H3)) (hr : ∀ x y H2 (Q Q' : VK), (∀ v H', Q v H' → Q' v H') → r x y H2 Q → r x y H2 Q') : Ev X σ H (.Compare a [op] [b] pos) P :=
  ev_of (pe_cmpR ho pw_E pw_E hm) fun H1 s1 => wE_mono (ha H1 s1) fun x H2 ⟨s2, px⟩ => wE_mono (hb H2 (s1.trans s2)) fun y H3 ⟨s3, py⟩ =>
    hr _ _ _ _ _ (fun v H' ⟨s4, pv⟩ => ⟨(s2.trans s3).trans s4, pv⟩) (h x y H3 ((s1.trans s2).trans s3) (ma _ _ _ s3 px) py)
theorem ev_un {op : UnaryOp} {r : V → Hp → VK → Prop} (ho : UnR X (unaryOp op) r) (ha : Ev X σ H a Pa) (h : ∀ x H2, Same H H2 → Pa x H2 → r x H2 (fun v H3 => Same H2 H3 ∧ P v H3)) (hr : ∀ x H2 (Q Q' : VK), (∀ v H', Q v H' → Q' v H') → r x H2 Q → r x H2 Q') :
    Ev X σ H (.UnaryOp op a pos) P :=
  ev_of (pe_un ho pw_E) fun H1 s1 => wE_mono (ha H1 s1) fun x H2 ⟨s2, px⟩ => hr _ _ _ _ (fun v H' ⟨s4, pv⟩ => ⟨s2.trans s4, pv⟩) (h x H2 (s1.trans s2) px)
/-! ints -/
theorem ev_opI {op : Operator} {g : Int → Int → Int} {i j : Int} (ho : OpR X (binaryOp op) (rI0 fun i j => .int (g i j))) (ha : Ev X σ H a (Is (.int i))) (hb : Ev X σ H b (Is (.int j))) : Ev X σ H (.BinOp a op b pos) (Is (.int (g i j))) :=
  ev_op ho ha hb mono_is (fun x y H2 _ px py => ⟨i, j, px, py, .refl _, rfl⟩) fun x y H2 Q Q' k ⟨i, j, h1, h2, q⟩ => ⟨i, j, h1, h2, k _ _ q⟩
theorem ev_opC {op : Operator} {C : Int → Int → Prop} {g : Int → Int → Int} {i j : Int} (ho : OpR X (binaryOp op) (rI C fun i j => .int (g i j))) (ha : Ev X σ H a (Is (.int i))) (hb : Ev X σ H b (Is (.int j))) (hc : C i j) : Ev X σ H (.BinOp a op b pos) (Is (.int (g i j))) :=
  ev_op ho ha hb mono_is (fun x y H2 _ px py => ⟨i, j, px, py, hc, .refl _, rfl⟩) fun x y H2 Q Q' k ⟨i, j, h1, h2, h3, q⟩ => ⟨i, j, h1, h2, h3, k _ _ q⟩
/-- a comparison whose answer is v -/
structure CC (X : Cx) (σ : L2.St) (H : Hp) (op : CmpOp) (a b : Expr) (v : V) : Prop where
  ex : ∃ (r : R2) (Pa Pb : Pd), OpR X (compareOp op) r ∧ behindInMarks op b = false ∧ Ev X σ H a Pa ∧ Ev X σ H b Pb ∧ Mono Pa ∧ (∀ x y H2, Same H H2 → Pa x H2 → Pb y H2 → r x y H2 (fun z H3 => Same H2 H3 ∧ z = v)) ∧ (∀ x y H2 (Q Q' : VK), (∀ v H', Q v H' → Q' v H') → r x y H2 Q → r x y H2 Q')
theorem CC.ev {op : CmpOp} {v : V} (h : CC X σ H op a b v) : Ev X σ H (.Compare a [op] [b] pos) (Is v) := by
  obtain ⟨r, Pa, Pb, ho, hm, ha, hb, ma, h, hr⟩ := h.ex
  exact ev_cmp ho hm ha hb ma h hr
theorem CC.et {op : CmpOp} {k : Bool} (h : CC X σ H op a b (.bl k)) : EvT X σ H (.Compare a [op] [b] pos) k := by
  obtain ⟨r, Pa, Pb, ho, hm, ha, hb, ma, h, hr⟩ := h.ex
  exact fun H1 s1 => w_T (pt_cmpR ho pw_E pw_E hm) (wE_mono (ha H1 s1) fun x H2 ⟨s2, px⟩ => wE_mono (hb H2 (s1.trans s2)) fun y H3 ⟨s3, py⟩ =>
    hr _ _ _ _ _ (fun v H' ⟨s4, pv⟩ => ⟨k, pv, (s2.trans s3).trans s4, rfl⟩) (h x y H3 ((s1.trans s2).trans s3) (ma _ _ _ s3 px) py))
theorem CC.is {op : CmpOp} {v w : V} (h : CC X σ H op a b v) (e : v = w) : CC X σ H op a b w := e ▸ h
theorem c_I {op : CmpOp} {g : Int → Int → Bool} {i j : Int} (ho : OpR X (compareOp op) (rI0 fun i j => .bl (g i j))) (hm : behindInMarks op b = false) (ha : Ev X σ H a (Is (.int i))) (hb : Ev X σ H b (Is (.int j))) : CC X σ H op a b (.bl (g i j)) :=
  ⟨_, _, _, ho, hm, ha, hb, mono_is, fun x y H2 _ px py => ⟨i, j, px, py, .refl _, rfl⟩, fun x y H2 Q Q' k ⟨i, j, h1, h2, q⟩ => ⟨i, j, h1, h2, k _ _ q⟩⟩
/-- == and != of two scalars -/
theorem c_eqS {x y : V} (ha : Ev X σ H a (Is x)) (hb : Ev X σ H b (Is y)) (hs : scal x y = true) (hm : behindInMarks .Eq b = false := by exact nomark _) : CC X σ H .Eq a b (.bl (decide (x = y))) :=
  ⟨_, _, _, op_eq, hm, ha, hb, mono_is, fun x' y' H2 _ px py => by cases px; cases py; exact ⟨hs, .refl _, rfl⟩, fun x y H2 Q Q' k ⟨h1, q⟩ => ⟨h1, k _ _ q⟩⟩
theorem c_neS {x y : V} (ha : Ev X σ H a (Is x)) (hb : Ev X σ H b (Is y)) (hs : scal x y = true) (hm : behindInMarks .NotEq b = false := by exact nomark _) : CC X σ H .NotEq a b (.bl (!decide (x = y))) :=
  ⟨_, _, _, op_ne, hm, ha, hb, mono_is, fun x' y' H2 _ px py => by cases px; cases py; exact ⟨hs, .refl _, rfl⟩, fun x y H2 Q Q' k ⟨h1, q⟩ => ⟨h1, k _ _ q⟩⟩
theorem ev_negI {i : Int} (ha : Ev X σ H a (Is (.int i))) : Ev X σ H (.UnaryOp .USub a pos) (Is (.int (-i))) :=
  ev_un un_neg ha (fun x H2 _ px => ⟨i, px, .refl _, rfl⟩) fun x H2 Q Q' k ⟨i, h1, q⟩ => ⟨i, h1, k _ _ q⟩
theorem Ev.is {v w : V} (h : Ev X σ H e (Is v)) (q : v = w) : Ev X σ H e (Is w) := q ▸ h
/-! arguments -/
theorem ea_nil : EvA X σ H [] [] := fun H1 _ => w_A pa_nil ⟨.refl _, rfl⟩
theorem ea_cons (ha : Ev X σ H e P) (m : Mono P) (hr : EvA X σ H es Ps) (hs : starEach (e :: es) X.env = (false, eval e X.env) :: starEach es X.env := by rfl) : EvA X σ H (e :: es) (P :: Ps) := fun H1 s1 =>
  w_A (pa_cons pw_E pw_A hs) (wE_mono (ha H1 s1) fun x H2 ⟨s2, px⟩ => wA_mono (hr H2 (s1.trans s2)) fun vs H3 ⟨s3, pv⟩ => ⟨s2.trans s3, x, vs, rfl, m _ _ _ s3 px, pv⟩)
/-! tests -/
theorem et_v {k : Bool} (h : Ev X σ H e (Is (.bl k))) (he : ∀ whole, isTrue e X.env whole = (do let v ← whole; standAt e.pos; holding [v] (truthy v)) := by intro _; rfl) : EvT X σ H e k := fun H1 s1 =>
  w_T (pt_val pw_E he) (wE_mono (h H1 s1) fun v H2 ⟨s2, p⟩ => ⟨k, p, s2, rfl⟩)
theorem et_w {k : Bool} (h : EvW X σ H e k) : EvT X σ H e k := fun H1 s1 => w_T pw_W.pt (h H1 s1)
theorem ew_or1 {k : Bool} {p : Pos} (h : EvT X σ H a k) : EvW X σ H (.BoolOp .Or [a] p) k := fun H1 s1 => w_W (pw_or1 pw_T) (h H1 s1)
theorem ew_and1 {k : Bool} {p : Pos} (h : EvT X σ H a k) : EvW X σ H (.BoolOp .And [a] p) k := fun H1 s1 => w_W (pw_and1 pw_T) (h H1 s1)
end
end Cb

/-! fractions -/
namespace Cb
/-- what lowest hands back, the way Python reckons it -/
def lowS (o u : Int) : Int := if u < 0 then -((Nat.gcd o.natAbs u.natAbs : Nat) : Int) else ((Nat.gcd o.natAbs u.natAbs : Nat) : Int)
theorem low_pos {o u : Int} (h : 0 < u) : o / lowS o u = (Rat.divInt o u).num ∧ u / lowS o u = ((Rat.divInt o u).den : Int) := by
  unfold lowS
  rw [if_neg (by omega)]
  constructor
  · rw [Rat.num_divInt, Int.sign_eq_one_of_pos h, Int.one_mul, Int.gcd_comm]
    rfl
  · rw [Rat.den_divInt, if_neg (by omega), Int.gcd_comm]
    show u / ((Int.gcd o u : Nat) : Int) = _
    rw [Int.natCast_ediv]
    congr 1
    omega
theorem low_neg {o u : Int} (h : u < 0) : o.fdiv (lowS o u) = (Rat.divInt o u).num ∧ u.fdiv (lowS o u) = ((Rat.divInt o u).den : Int) := by
  unfold lowS
  rw [if_pos h]
  have g1 : ((Int.gcd o u : Nat) : Int) ∣ o := Int.gcd_dvd_left ..
  have g2 : ((Int.gcd o u : Nat) : Int) ∣ u := Int.gcd_dvd_right ..
  have e : ((Nat.gcd o.natAbs u.natAbs : Nat) : Int) = ((Int.gcd o u : Nat) : Int) := rfl
  rw [e]
  constructor
  · rw [Rat.num_divInt, Int.sign_eq_neg_one_of_neg h, Int.gcd_comm u o, Int.fdiv_eq_ediv_of_dvd (Int.neg_dvd.mpr g1), Int.ediv_neg, Int.neg_mul, Int.one_mul, Int.neg_ediv_of_dvd g1]
  · rw [Rat.den_divInt, if_neg (by omega), Int.gcd_comm u o, Int.fdiv_eq_ediv_of_dvd (Int.neg_dvd.mpr g2), Int.ediv_neg, Int.natCast_ediv, ← Int.neg_ediv_of_dvd g2]
    congr 1
    omega
theorem lowS_pos {o u : Int} (h : 0 < u) : 0 < lowS o u ∧ lowS o u ≤ u := by
  unfold lowS
  rw [if_neg (by omega)]
  have g : 0 < Nat.gcd o.natAbs u.natAbs := Nat.gcd_pos_of_pos_right _ (by omega)
  have l : Nat.gcd o.natAbs u.natAbs ≤ u.natAbs := Nat.gcd_le_right _ (by omega)
  omega
theorem lowS_neg {o u : Int} (h : u < 0) : lowS o u < 0 ∧ u ≤ lowS o u := by
  unfold lowS
  rw [if_pos h]
  have g : 0 < Nat.gcd o.natAbs u.natAbs := Nat.gcd_pos_of_pos_right _ (by omega)
  have l : Nat.gcd o.natAbs u.natAbs ≤ u.natAbs := Nat.gcd_le_right _ (by omega)
  omega
/-! sizes -/
def Bd (n : Nat) (r : Rat) : Prop := r.num.natAbs < 2 ^ n ∧ r.den < 2 ^ n
theorem Bd.mono {n m : Nat} {r : Rat} (h : Bd n r) (l : n ≤ m) : Bd m r := ⟨Nat.lt_of_lt_of_le h.1 (Nat.pow_le_pow_right (by decide) l), Nat.lt_of_lt_of_le h.2 (Nat.pow_le_pow_right (by decide) l)⟩
theorem bd_div {o u : Int} {n : Nat} (h : u ≠ 0) (ho : o.natAbs < 2 ^ n) (hu : u.natAbs < 2 ^ n) : Bd n (Rat.divInt o u) := by
  constructor
  · rw [Rat.num_divInt]
    refine Nat.lt_of_le_of_lt ?_ ho
    refine Nat.le_trans (Int.natAbs_ediv_le_natAbs _ _) ?_
    rw [Int.natAbs_mul]
    rcases Int.lt_or_lt_of_ne h with q | q
    · rw [Int.sign_eq_neg_one_of_neg q]; simp
    · rw [Int.sign_eq_one_of_pos q]; simp
  · rw [Rat.den_divInt, if_neg h]
    exact Nat.lt_of_le_of_lt (Nat.div_le_self _ _) hu
theorem den_pos (r : Rat) : (0 : Int) < (r.den : Int) := Int.natCast_pos.mpr r.den_pos
theorem lt_mul {a b : Int} {n m : Nat} (ha : a.natAbs < 2 ^ n) (hb : b.natAbs < 2 ^ m) : (a * b).natAbs < 2 ^ (n + m) := by
  rw [Int.natAbs_mul, Nat.pow_add]
  exact Nat.mul_lt_mul'' ha hb
theorem lt_add {a b : Int} {n : Nat} (ha : a.natAbs < 2 ^ n) (hb : b.natAbs < 2 ^ n) : (a + b).natAbs < 2 ^ (n + 1) := by
  have := Int.natAbs_add_le a b
  rw [Nat.pow_succ]
  omega
theorem lt_sub {a b : Int} {n : Nat} (ha : a.natAbs < 2 ^ n) (hb : b.natAbs < 2 ^ n) : (a - b).natAbs < 2 ^ (n + 1) := by
  have := Int.natAbs_sub_le a b
  rw [Nat.pow_succ]
  omega
theorem add_eq (r q : Rat) : Rat.divInt (r.num * q.den + q.num * r.den) (r.den * q.den : Int) = r + q := by
  rw [Rat.add_def', ← Rat.divInt_ofNat, Int.natCast_mul]
theorem sub_eq (r q : Rat) : Rat.divInt (r.num * q.den - q.num * r.den) (r.den * q.den : Int) = r - q := by
  rw [Rat.sub_def', ← Rat.divInt_ofNat, Int.natCast_mul]
theorem mul_eq (r q : Rat) : Rat.divInt (r.num * q.num) (r.den * q.den : Int) = r * q := by
  rw [Rat.mul_def', ← Rat.divInt_ofNat, Int.natCast_mul]
theorem neg_eq (r : Rat) : Rat.divInt (-r.num) (r.den : Int) = -r := by
  rw [← Rat.neg_divInt, Rat.num_divInt_den]
theorem div_one (o : Int) : Rat.divInt o 1 = (o : Rat) := by
  have h := Rat.num_divInt_den (o : Rat)
  rw [Rat.num_intCast, Rat.den_intCast] at h
  exact h
/-- -1, 0, 1 -/
def cmpR (r q : Rat) : Int := if r < q then -1 else if q < r then 1 else 0
end Cb

/-! blocks, calls -/
namespace Cb
open PySem PySem.Spec PyProof.Rows L2
section
variable {X : Cx} {e a b c : Expr} {es : List Expr} {st : Stmt} {sts els body : List Stmt} {t : TE} {tt : TT} {ta : TA} {ts : TS} {σ : L2.St} {H H' : Hp} {pos pos' p p' : Pos} {D D' : Ends} {P Pa Pb : Pd} {Ps : List Pd}
theorem b_set {i : Nat} {x : Str} (hN : X.N.Nodup) (hi : X.N[i]? = some x) (hx : Loc X.env.scope x) (h : wE X e σ H (fun v H' => wB X sts D (σ.set i (some v)) H'))
    (hs : swapsWith e (some (.Name x pos')) pos.line X.env = pure false := by rfl) (hf : X.fn x = true ∨ X.env.scope.names.lookup x = some .local := by first | exact .inl rfl | exact .inr rfl | assumption) :
    wB X (.Assign [.Name x pos'] e pos :: sts) D σ H := b_cons (w_S (ps_set hN hi hx pw_E hs hf) h)
theorem b_setE {i : Nat} {x : Str} (hN : X.N.Nodup) (hi : X.N[i]? = some x) (hx : Loc X.env.scope x) (he : Ev X σ H e P) (k : ∀ v H', Same H H' → P v H' → wB X sts D (σ.set i (some v)) H')
    (hs : swapsWith e (some (.Name x pos')) pos.line X.env = pure false := by rfl) (hf : X.fn x = true ∨ X.env.scope.names.lookup x = some .local := by first | exact .inl rfl | exact .inr rfl | assumption) :
    wB X (.Assign [.Name x pos'] e pos :: sts) D σ H := b_set hN hi hx (wE_mono (he H (.refl _)) fun v H' ⟨s, q⟩ => k v H' s q) hs hf
theorem b_asg {tg : Expr} {g : TG} (hg : PG X tg g) (h : wE X e σ H (fun v H' => g v σ H' (fun σ2 H2 => wB X sts D σ2 H2))) (hs : swapsWithSole [tg] e pos.line X.env = pure false := by rfl) (hw : swappedStores [tg] e X.env = pure none := by rfl)
    (h1 : (assignEach [tg] X.env).map (·.2) = [assign tg X.env] := by rfl) : wB X (.Assign [tg] e pos :: sts) D σ H := b_cons (w_S (ps_asg pw_E hg hs hw h1) h)
theorem b_asgE {tg : Expr} {g : TG} (hg : PG X tg g) (he : Ev X σ H e P) (k : ∀ v H', Same H H' → P v H' → g v σ H' (fun σ2 H2 => wB X sts D σ2 H2)) (hs : swapsWithSole [tg] e pos.line X.env = pure false := by rfl) (hw : swappedStores [tg] e X.env = pure none := by rfl)
    (h1 : (assignEach [tg] X.env).map (·.2) = [assign tg X.env] := by rfl) : wB X (.Assign [tg] e pos :: sts) D σ H := b_asg hg (wE_mono (he H (.refl _)) fun v H' ⟨s, q⟩ => k v H' s q) hs hw h1
theorem b_ret (h : wE X e σ H D.rt) : wB X (.Return (some e) pos :: sts) D σ H := b_cons (w_S (ps_ret pw_E) h)
theorem b_retE (he : Ev X σ H e P) (k : ∀ v H', Same H H' → P v H' → D.rt v H') : wB X (.Return (some e) pos :: sts) D σ H := b_ret (wE_mono (he H (.refl _)) fun v H' ⟨s, q⟩ => k v H' s q)
theorem b_if (h : wT X c σ H fun k H1 => if k = true then wB X body { D with nx := wB X sts D } σ H1 else wB X els { D with nx := wB X sts D } σ H1) : wB X (.If c body els pos :: sts) D σ H := b_cons (w_S (ps_if pw_T pw_B pw_B) h)
theorem b_ifE {k : Bool} (hc : EvT X σ H c k) (h1 : k = true → ∀ H', Same H H' → wB X body { D with nx := wB X sts D } σ H') (h2 : k = false → ∀ H', Same H H' → wB X els { D with nx := wB X sts D } σ H') : wB X (.If c body els pos :: sts) D σ H :=
  b_if (wT_mono (hc H (.refl _)) fun k' H' ⟨s, q⟩ => by
    subst q
    cases k' with
    | true => rw [if_pos rfl]; exact h1 rfl H' s
    | false => rw [if_neg Bool.false_ne_true]; exact h2 rfl H' s)
/-- an if, both ways joined by a word J -/
theorem b_ifJ {k : Bool} (J : L2.St → Hp → Prop) (hc : EvT X σ H c k) (h1 : k = true → ∀ H', Same H H' → wB X body { D with nx := J } σ H') (h2 : k = false → ∀ H', Same H H' → wB X els { D with nx := J } σ H') (kk : ∀ σ' H', J σ' H' → wB X sts D σ' H') : wB X (.If c body els pos :: sts) D σ H :=
  b_if (wT_mono (hc H (.refl _)) fun k' H' ⟨s, q⟩ => by
    subst q
    cases k' with
    | true => rw [if_pos rfl]; exact wB_mono (h1 rfl H' s) kk (fun _ _ z => z) (fun _ _ z => z) fun _ _ z => z
    | false => rw [if_neg Bool.false_ne_true]; exact wB_mono (h2 rfl H' s) kk (fun _ _ z => z) (fun _ _ z => z) fun _ _ z => z)
/-- an if that isn't taken, no else -/
theorem b_ifF (hc : EvT X σ H c false) (h : ∀ H', Same H H' → wB X sts D σ H') : wB X (.If c body [] pos :: sts) D σ H := b_ifE hc (fun q => nomatch q) fun _ H' s => b_nil (h H' s)
theorem b_ifT (hc : EvT X σ H c true) (h : ∀ H', Same H H' → wB X body { D with nx := wB X sts D } σ H') : wB X (.If c body els pos :: sts) D σ H := b_ifE hc (fun _ => h) fun q => nomatch q
theorem b_exprE (he : wE X e σ H fun _ H' => wB X sts D σ H') (hs : swapsWith e none pos.line X.env = pure false := by rfl) : wB X (.Expr e pos :: sts) D σ H := b_cons (w_S (ps_expr pw_E hs) he)
/-! tests of and, or, not -/
theorem ew_or {k k' : Bool} (h : EvT X σ H a k) (h' : k = false → EvW X σ H (.BoolOp .Or (b :: es) p) k') : EvW X σ H (.BoolOp .Or (a :: b :: es) p) (k || k') := fun H1 s1 => w_W (pw_or pw_T pw_W) (wT_mono (h H1 s1) fun v H2 ⟨s2, q⟩ => by
  subst q
  cases v with
  | true => rw [if_pos rfl]; exact ⟨s2, rfl⟩
  | false => rw [if_neg Bool.false_ne_true]; exact wW_mono (h' rfl H2 (s1.trans s2)) fun v H3 ⟨s3, q⟩ => ⟨s2.trans s3, q⟩)
theorem ew_and {k k' : Bool} (h : EvT X σ H a k) (h' : k = true → EvW X σ H (.BoolOp .And (b :: es) p) k') : EvW X σ H (.BoolOp .And (a :: b :: es) p) (k && k') := fun H1 s1 => w_W (pw_and pw_T pw_W) (wT_mono (h H1 s1) fun v H2 ⟨s2, q⟩ => by
  subst q
  cases v with
  | true => rw [if_pos rfl]; exact wW_mono (h' rfl H2 (s1.trans s2)) fun v H3 ⟨s3, q⟩ => ⟨s2.trans s3, q⟩
  | false => rw [if_neg Bool.false_ne_true]; exact ⟨s2, rfl⟩)
/-- all are false: or -/
theorem ew_orF (h : EvT X σ H a false) (h' : EvW X σ H (.BoolOp .Or (b :: es) p) false) : EvW X σ H (.BoolOp .Or (a :: b :: es) p) false := ew_or h fun _ => h'
theorem et_not {k : Bool} (h : EvT X σ H a k) : EvT X σ H (.UnaryOp .Not a pos) (!k) := fun H1 s1 => w_T (pt_not pw_T) (wT_mono (h H1 s1) fun v H2 ⟨s2, q⟩ => ⟨s2, by rw [q]⟩)
theorem EvT.is {k k' : Bool} (h : EvT X σ H e k) (q : k = k') : EvT X σ H e k' := q ▸ h
theorem EvW.is {k k' : Bool} (h : EvW X σ H e k) (q : k = k') : EvW X σ H e k' := q ▸ h
/-! values of and, or -/
theorem ev_and1 {k : Bool} (h : Ev X σ H a (Is (.bl k))) : Ev X σ H (.BoolOp .And [a] p) (Is (.bl k)) := fun H1 s1 => w_E (pe_one pw_E) (h H1 s1)
theorem ev_or1 {k : Bool} (h : Ev X σ H a (Is (.bl k))) : Ev X σ H (.BoolOp .Or [a] p) (Is (.bl k)) := fun H1 s1 => w_E (pe_one pw_E) (h H1 s1)
theorem ev_and {k k' : Bool} (h : Ev X σ H a (Is (.bl k))) (h' : k = true → Ev X σ H (.BoolOp .And (b :: es) p) (Is (.bl k'))) : Ev X σ H (.BoolOp .And (a :: b :: es) p) (Is (.bl (k && k'))) := fun H1 s1 => w_E (pe_and pw_E pw_E) (wE_mono (h H1 s1) fun v H2 ⟨s2, q⟩ => ⟨k, q, by
  cases k with
  | true => rw [if_pos rfl]; exact wE_mono (h' rfl H2 (s1.trans s2)) fun v H3 ⟨s3, q⟩ => ⟨s2.trans s3, q⟩
  | false => rw [if_neg Bool.false_ne_true]; exact ⟨s2, rfl⟩⟩)
theorem ev_or {k k' : Bool} (h : Ev X σ H a (Is (.bl k))) (h' : k = false → Ev X σ H (.BoolOp .Or (b :: es) p) (Is (.bl k'))) : Ev X σ H (.BoolOp .Or (a :: b :: es) p) (Is (.bl (k || k'))) := fun H1 s1 => w_E (pe_or pw_E pw_E) (wE_mono (h H1 s1) fun v H2 ⟨s2, q⟩ => ⟨k, q, by
  cases k with
  | true => rw [if_pos rfl]; exact ⟨s2, rfl⟩
  | false => rw [if_neg Bool.false_ne_true]; exact wE_mono (h' rfl H2 (s1.trans s2)) fun v H3 ⟨s3, q⟩ => ⟨s2.trans s3, q⟩⟩)
theorem ev_not {k : Bool} (h : Ev X σ H a (Is (.bl k))) : Ev X σ H (.UnaryOp .Not a p) (Is (.bl (!k))) := fun H1 s1 => w_E (pe_not pw_E) (wE_mono (h H1 s1) fun v H2 ⟨s2, q⟩ => ⟨k, q, s2, rfl⟩)
theorem ev_if {k : Bool} (h : EvT X σ H c k) (h1 : k = true → Ev X σ H a P) (h2 : k = false → Ev X σ H b P) : Ev X σ H (.IfExp c a b p) P := fun H1 s1 => w_E (pe_ifExp pw_T pw_E pw_E) (wT_mono (h H1 s1) fun v H2 ⟨s2, q⟩ => by
  subst q
  cases v with
  | true => rw [if_pos rfl]; exact wE_mono (h1 rfl H2 (s1.trans s2)) fun v H3 ⟨s3, q⟩ => ⟨s2.trans s3, q⟩
  | false => rw [if_neg Bool.false_ne_true]; exact wE_mono (h2 rfl H2 (s1.trans s2)) fun v H3 ⟨s3, q⟩ => ⟨s2.trans s3, q⟩)
/-! tuples -/
def TupI (xs : List V) : Pd := fun v H => ∃ q, v = .ref q ∧ H q = some (.tup xs)
theorem mono_tup {xs : List V} : Mono (TupI xs) := fun v H H' s ⟨q, e, h⟩ => ⟨q, e, s _ _ h⟩
/-- a new tuple of values told by predicates -/
def TupP (Ps : List Pd) : Pd := fun v H => ∃ q xs, v = .ref q ∧ H q = some (.tup xs) ∧ Pws Ps xs H
theorem same_new {H : Hp} {q : Addr} {o : HO} (h : H q = none) : Same H (upd H q o) := fun b x e => by
  rw [upd_ne (ne_of_none e h)]
  exact e
def Monos : List Pd → Prop
  | [] => True
  | P :: Ps => Mono P ∧ Monos Ps
theorem Pws.mono : ∀ {Ps : List Pd} {vs : List V}, Monos Ps → Same H H' → Pws Ps vs H → Pws Ps vs H'
  | [], _, _, _, h => h
  | P :: Ps, vs, m, s, ⟨v, r, e, h, t⟩ => ⟨v, r, e, m.1 _ _ _ s h, Pws.mono m.2 s t⟩
theorem Pws.len : ∀ {Ps : List Pd} {vs : List V}, Pws Ps vs H → vs.length = Ps.length
  | [], _, h => by subst h; rfl
  | P :: Ps, vs, ⟨v, r, e, h, t⟩ => by subst e; rw [List.length_cons, Pws.len t]; rfl
theorem ev_tup {k : Nat} (h : EvA X σ H es Ps) (m : Monos Ps) (hl : Ps.length ≤ 1000) : Ev X σ H (.Tuple es k p) (TupP Ps) := ev_of (pe_tup pw_A) fun H1 s1 => wA_mono (h H1 s1) fun vs H2 ⟨s2, pv⟩ => ⟨by
  rw [pv.len]
  exact Nat.le_of_lt (small1000 hl), fun q hq => ⟨s2.trans (same_new hq), q, vs, rfl, upd_same, pv.mono m (same_new hq)⟩⟩
def isAll : List V → List Pd := List.map Is
theorem pws_is : ∀ {vs xs : List V}, Pws (isAll xs) vs H → vs = xs
  | vs, [], h => h
  | vs, x :: xs, ⟨v, r, e, h, t⟩ => by
    have h1 : v = x := h
    subst h1 e
    rw [pws_is (xs := xs) t]
theorem monos_is : ∀ {xs : List V}, Monos (isAll xs)
  | [] => True.intro
  | _ :: _ => ⟨mono_is, monos_is⟩
theorem ev_tupI {k : Nat} {xs : List V} (h : EvA X σ H es (isAll xs)) (hl : xs.length ≤ 1000) : Ev X σ H (.Tuple es k p) (TupI xs) := (ev_tup h monos_is (by unfold isAll; rw [List.length_map]; exact hl)).imp fun v H' _ ⟨q, ys, e, h1, h2⟩ => ⟨q, e, by rw [pws_is h2] at h1; exact h1⟩
/-! calls of defs -/
variable {k : Nat} {f : Addr} {fd : FuncData} {ps : List Str} {sp : Sp} {x : Str}
/-- a def of the module -/
structure GDef (X : Cx) (x : Str) (k : Nat) (f : Addr) (fd : FuncData) (ps : List Str) (sp : Sp) : Prop where
  ok : FnOk X.prog X.w X.K X.mg X.base CX0 k f fd ps sp
  room : Room k X.A
  gl : X.mg x = some (.ref f)
  kp : PySem.W.keepIn X.K (.ref f) = true
  bs : Binds X.K fd ps []
theorem ev_call {q : Pos} (g : GDef X x k f fd ps sp) (h : EvA X σ H (e :: es) Ps) (hsp : ∀ vs H2, Same H H2 → Pws Ps vs H2 → sp vs H2 (fun v H3 => Same H2 H3 ∧ P v H3) E0)
    (hm : ∀ vs H2 (Q Q' : VK), (∀ v H', Q v H' → Q' v H') → sp vs H2 Q E0 → sp vs H2 Q' E0) (hg : Gl X x := by rfl)
    (hdb : (x == ("__debug__" : Str)) = false := by decide) (he : starEach (e :: es) X.env = (false, eval e X.env) :: starEach es X.env := by rfl) (hpl : (backTo p (starEach es X.env)).any (·.1) = false := by rfl) :
    Ev X σ H (.Call (.Name x q) (e :: es) [] p) P := ev_of (pe_call g.ok g.room hg g.gl g.kp g.bs .nil pass0 pw_A hdb he hpl) fun H1 s1 => wA_mono (h H1 s1) fun vs H2 ⟨s2, pv⟩ => by
  rw [List.append_nil]
  exact hm _ _ _ _ (fun v H' ⟨s3, pv'⟩ => ⟨s2.trans s3, pv'⟩) (hsp vs H2 (s1.trans s2) pv)
end
end Cb

/-! built-ins, items, attributes -/
namespace Cb
open PySem PySem.Spec PyProof.Rows L2
section
variable {X : Cx} {e a b c : Expr} {es : List Expr} {σ : L2.St} {H H' : Hp} {pos pos' p p' q : Pos} {P Pa Pb : Pd} {Ps : List Pd} {x : Str} {id : String} {r : List V → Hp → VK → Prop}
def RMono (r : List V → Hp → VK → Prop) : Prop := ∀ vs H (Q Q' : VK), (∀ v H', Q v H' → Q' v H') → r vs H Q → r vs H Q'
theorem ev_cb (hc : CallR X (.builtin id) r) (hm : X.mg x = none) (hv : bootBuiltins x = some (.builtin id)) (h : EvA X σ H (e :: es) Ps) (hr : ∀ vs H2, Same H H2 → Pws Ps vs H2 → r vs H2 (fun v H3 => Same H2 H3 ∧ P v H3)) (mr : RMono r) (hg : Gl X x := by rfl)
    (hn : x ≠ "__name__" := by decide) (hdb : (x == ("__debug__" : Str)) = false := by decide) (he : starEach (e :: es) X.env = (false, eval e X.env) :: starEach es X.env := by rfl) (hpl : (backTo p (starEach es X.env)).any (·.1) = false := by rfl) : Ev X σ H (.Call (.Name x q) (e :: es) [] p) P :=
  ev_of (pe_callB hc hg hm hv pw_A hn hdb he hpl) fun H1 s1 => wA_mono (h H1 s1) fun vs H2 ⟨s2, pv⟩ => mr _ _ _ _ (fun v H' ⟨s3, pv'⟩ => ⟨s2.trans s3, pv'⟩) (hr vs H2 (s1.trans s2) pv)
theorem ev_cty {T : String} (hc : CallR X (.type T) r) (hm : X.mg x = none) (hv : bootBuiltins x = some (.type T)) (h : EvA X σ H (e :: es) Ps) (hr : ∀ vs H2, Same H H2 → Pws Ps vs H2 → r vs H2 (fun v H3 => Same H2 H3 ∧ P v H3)) (mr : RMono r) (hg : Gl X x := by rfl)
    (hn : x ≠ "__name__" := by decide) (hdb : (x == ("__debug__" : Str)) = false := by decide) (he : starEach (e :: es) X.env = (false, eval e X.env) :: starEach es X.env := by rfl) (hpl : (backTo p (starEach es X.env)).any (·.1) = false := by rfl) : Ev X σ H (.Call (.Name x q) (e :: es) [] p) P :=
  ev_of (pe_callTy hc hg hm hv pw_A hn hdb he hpl) fun H1 s1 => wA_mono (h H1 s1) fun vs H2 ⟨s2, pv⟩ => mr _ _ _ _ (fun v H' ⟨s3, pv'⟩ => ⟨s2.trans s3, pv'⟩) (hr vs H2 (s1.trans s2) pv)
theorem ev_cfun (hc : CallR X (.builtin id) r) (hm : X.mg x = some (.builtin id)) (h : EvA X σ H (e :: es) Ps) (hr : ∀ vs H2, Same H H2 → Pws Ps vs H2 → r vs H2 (fun v H3 => Same H2 H3 ∧ P v H3)) (mr : RMono r) (hg : Gl X x := by rfl)
    (hdb : (x == ("__debug__" : Str)) = false := by decide) (he : starEach (e :: es) X.env = (false, eval e X.env) :: starEach es X.env := by rfl) (hpl : (backTo p (starEach es X.env)).any (·.1) = false := by rfl) : Ev X σ H (.Call (.Name x q) (e :: es) [] p) P :=
  ev_of (pe_callBfun hc hg hm pw_A hdb he hpl) fun H1 s1 => wA_mono (h H1 s1) fun vs H2 ⟨s2, pv⟩ => mr _ _ _ _ (fun v H' ⟨s3, pv'⟩ => ⟨s2.trans s3, pv'⟩) (hr vs H2 (s1.trans s2) pv)
theorem ev_gcd {i j : Int} (hm : X.mg "gcd" = some (.builtin "math.gcd")) (h : EvA X σ H [a, b] [Is (.int i), Is (.int j)]) (hg : Gl X "gcd" := by rfl)
    (he : starEach [a, b] X.env = (false, eval a X.env) :: starEach [b] X.env := by rfl) (hpl : (backTo p (starEach [b] X.env)).any (·.1) = false := by rfl) : Ev X σ H (.Call (.Name "gcd" q) [a, b] [] p) (Is (.int ((Nat.gcd i.natAbs j.natAbs : Nat) : Int))) :=
  ev_cfun cr_gcd hm h (fun vs H2 _ ⟨v, r, e, h1, w, r2, e2, h2, h3⟩ => by
    have h1 : v = .int i := h1
    have h2 : w = .int j := h2
    have h3 : r2 = [] := h3
    subst h1 h2 h3 e2 e
    exact ⟨i, j, rfl, .refl _, rfl⟩) (fun vs H Q Q' k ⟨i, j, e, q⟩ => ⟨i, j, e, k _ _ q⟩) hg (by decide) he hpl
theorem ev_isi {t : Value} {T : String} {k : Bool} {P : Pd} (m : X.mg "isinstance" = none) (ha : Ev X σ H a P) (mP : Mono P) (hb : Ev X σ H b (Is (.ty T))) (ty : ∀ x H', P x H' → TyX X.K H' x t) (kk : PySem.W.kitOne X.K t (.type T) = some k) (hg : Gl X "isinstance" := by rfl)
    (h1 : starEach [a, b] X.env = (false, eval a X.env) :: starEach [b] X.env := by rfl) (h2 : starEach [b] X.env = (false, eval b X.env) :: starEach [] X.env := by rfl) (hpl : (backTo p (starEach [b] X.env)).any (·.1) = false := by rfl) : Ev X σ H (.Call (.Name "isinstance" q) [a, b] [] p) (Is (.bl k)) :=
  ev_of (pe_callB call_isi hg m (by decide +kernel) (pa_cons pw_E (pa_cons pw_E pa_nil h2) h1) (he := h1) (hpl := hpl)) fun H1 s1 => wE_mono (ha H1 s1) fun x H2 ⟨s2, px⟩ => wE_mono (hb H2 (s1.trans s2)) fun y H3 ⟨s3, py⟩ =>
    ⟨x, y, t, .type T, k, rfl, by cases py; exact .ty T, ty _ _ (mP _ _ _ s3 px), kk, s2.trans s3, rfl⟩
/-- isinstance(x, C), C an own class -/
theorem ev_isiC {C : Addr} {t : Value} {k : Bool} {P : Pd} (m : X.mg "isinstance" = none) (ha : Ev X σ H a P) (mP : Mono P) (hb : Ev X σ H b (Is (.ref C))) (ty : ∀ x H', P x H' → TyX X.K H' x t) (kk : PySem.W.kitOne X.K t (.ref C) = some k) (hg : Gl X "isinstance" := by rfl)
    (h1 : starEach [a, b] X.env = (false, eval a X.env) :: starEach [b] X.env := by rfl) (h2 : starEach [b] X.env = (false, eval b X.env) :: starEach [] X.env := by rfl) (hpl : (backTo p (starEach [b] X.env)).any (·.1) = false := by rfl) : Ev X σ H (.Call (.Name "isinstance" q) [a, b] [] p) (Is (.bl k)) :=
  ev_of (pe_callB call_isi hg m (by decide +kernel) (pa_cons pw_E (pa_cons pw_E pa_nil h2) h1) (he := h1) (hpl := hpl)) fun H1 s1 => wE_mono (ha H1 s1) fun x H2 ⟨s2, px⟩ => wE_mono (hb H2 (s1.trans s2)) fun y H3 ⟨s3, py⟩ =>
    ⟨x, y, t, .ref C, k, rfl, by cases py; exact .own C, ty _ _ (mP _ _ _ s3 px), kk, s2.trans s3, rfl⟩
/-! // of any kind -/
def CDivA (_ j : Int) : Prop := (0 < j ∧ j.natAbs.log2 < 9000) ∨ (j ≠ 0 ∧ j.natAbs < 1073741824)
theorem op_fdivA : OpR X (binaryOp .FloorDiv) (rI CDivA fun i j => .int (i.fdiv j)) := opI fun i j _ _ _ _ _ hc q => by
  rcases hc with hc | hc
  · exact floordiv_int (by omega) q (.inl (PyProof.noPylong_of_log2 hc.2))
  · exact floordiv_int hc.1 q (.inl (PyProof.noPylong_small hc.2))
/-! items of a tuple -/
theorem ev_ixT {xs : List V} {i : Int} {v : V} (ho : Ev X σ H a (TupI xs)) (hi : Ev X σ H b (Is (.int i))) (ha : atI xs i = some v) (hs : PlainIxT b := by exact fun _ _ => rfl) : Ev X σ H (.Subscript a b p) (Is v) :=
  ev_of (pe_ix ix_tup pw_E pw_E hs) fun H1 s1 => wE_mono (ho H1 s1) fun x H2 ⟨s2, q, ex, hq⟩ => wE_mono (hi H2 (s1.trans s2)) fun y H3 ⟨s3, py⟩ =>
    ⟨q, xs, i, v, ex, py, .of (s3 _ _ hq), ha, s2.trans s3, rfl⟩
/-! attributes -/
def Ins (C : Addr) (fs : List (Str × V)) : Pd := fun v H => ∃ a dx, v = .ref a ∧ H a = some (.ins C dx fs)
theorem mono_ins {C : Addr} {fs : List (Str × V)} : Mono (Ins C fs) := fun v H H' s ⟨a, dx, e, h⟩ => ⟨a, dx, e, s _ _ h⟩
theorem ev_fld {C : Addr} {fs : List (Str × V)} {f : Str} {v : V} (c : Cls X.K C) (n : NoAttr X.K C f) (ho : Ev X σ H a (Ins C fs)) (hl : fs.lookup f = some v) (hb : attributeBase a f X.env (eval a X.env) = eval a X.env := by rfl) : Ev X σ H (.Attribute a f p) (Is v) :=
  ev_of (pe_fld pw_E hb) fun H1 s1 => wE_mono (ho H1 s1) fun x H2 ⟨s2, q, dx, ex, hq⟩ => ⟨q, C, dx, fs, v, ex, hq, c, n, hl, s2, rfl⟩
/-! defs as conditions on the call -/
theorem EvA.one {v : V} (h : Ev X σ H e (Is v)) (hs : starEach [e] X.env = (false, eval e X.env) :: starEach [] X.env := by rfl) : EvA X σ H [e] (isAll [v]) := ea_cons h mono_is ea_nil hs
theorem ea_1 {P : Pd} (h : Ev X σ H a P) (m : Mono P) (hs : starEach [a] X.env = (false, eval a X.env) :: starEach [] X.env := by rfl) : EvA X σ H [a] [P] := ea_cons h m ea_nil hs
theorem ea_2 {P P' : Pd} (h : Ev X σ H a P) (m : Mono P) (h' : Ev X σ H b P') (m' : Mono P') (hs : starEach [a, b] X.env = (false, eval a X.env) :: starEach [b] X.env := by rfl) (hs' : starEach [b] X.env = (false, eval b X.env) :: starEach [] X.env := by rfl) : EvA X σ H [a, b] [P, P'] := ea_cons h m (ea_1 h' m' hs') hs
theorem ea_3 {P P' P'' : Pd} (h : Ev X σ H a P) (m : Mono P) (h' : Ev X σ H b P') (m' : Mono P') (h'' : Ev X σ H c P'') (m'' : Mono P'') (hs : starEach [a, b, c] X.env = (false, eval a X.env) :: starEach [b, c] X.env := by rfl) (hs' : starEach [b, c] X.env = (false, eval b X.env) :: starEach [c] X.env := by rfl)
    (hs'' : starEach [c] X.env = (false, eval c X.env) :: starEach [] X.env := by rfl) : EvA X σ H [a, b, c] [P, P', P''] := ea_cons h m (ea_2 h' m' h'' m'' hs' hs'') hs
theorem Pws.one {P : Pd} {vs : List V} (h : Pws [P] vs H) : ∃ v, vs = [v] ∧ P v H := by
  obtain ⟨v, r, rfl, h1, h2⟩ := h
  have h2 : r = [] := h2
  subst h2
  exact ⟨v, rfl, h1⟩
theorem Pws.two {P P' : Pd} {vs : List V} (h : Pws [P, P'] vs H) : ∃ v w, vs = [v, w] ∧ P v H ∧ P' w H := by
  obtain ⟨v, r, rfl, h1, h2⟩ := h
  obtain ⟨w, rfl, h3⟩ := h2.one
  exact ⟨v, w, rfl, h1, h3⟩
theorem Pws.three {P P' P'' : Pd} {vs : List V} (h : Pws [P, P', P''] vs H) : ∃ u v w, vs = [u, v, w] ∧ P u H ∧ P' v H ∧ P'' w H := by
  obtain ⟨v, r, rfl, h1, h2⟩ := h
  obtain ⟨u, w, rfl, h3, h4⟩ := h2.two
  exact ⟨v, u, w, rfl, h1, h3, h4⟩
/-- a promise that is monotone in what is wanted -/
def SpMono (sp : Sp) : Prop := ∀ vs H2 (Q Q' : VK), (∀ v H', Q v H' → Q' v H') → sp vs H2 Q E0 → sp vs H2 Q' E0
/-- pure promise: from the arguments (that A holds of them) a value of which R holds; A and R over a datum -/
def spP {α : Type} (A : α → List V → Hp → Prop) (R : α → Pd) : Sp := fun vs H Q _ => ∃ d : α, A d vs H ∧ ∀ v H', Same H H' → R d v H' → Q v H'
theorem spP_mono {α : Type} {A : α → List V → Hp → Prop} {R : α → Pd} : SpMono (spP A R) := fun vs H Q Q' k ⟨d, h, q⟩ => ⟨d, h, fun v H' s r => k _ _ (q v H' s r)⟩
theorem ev_callP {α : Type} {A : α → List V → Hp → Prop} {R : α → Pd} {k : Nat} {f : Addr} {fd : FuncData} {ps : List Str} (d : α) (g : GDef X x k f fd ps (spP A R)) (h : EvA X σ H (e :: es) Ps) (hA : ∀ vs H2, Same H H2 → Pws Ps vs H2 → A d vs H2) (hg : Gl X x := by rfl)
    (hdb : (x == ("__debug__" : Str)) = false := by decide) (he : starEach (e :: es) X.env = (false, eval e X.env) :: starEach es X.env := by rfl) (hpl : (backTo p (starEach es X.env)).any (·.1) = false := by rfl) :
    Ev X σ H (.Call (.Name x q) (e :: es) [] p) (R d) := ev_call g h (fun vs H2 s pv => ⟨d, hA vs H2 s pv, fun v H' s' r => ⟨s', r⟩⟩) spP_mono hg hdb he hpl
end
end Cb

namespace Kn
open PySem PySem.Spec PyProof.Rows L2 Cb
def top (i : Nat) : Stmt := PySem.Challenge.pw_centbook_k04_whole_amounts_as_fractions.main.body.getD i (.Pass ⟨0, 0, 0, 0⟩)
abbrev sIsInt : Stmt := top 8
abbrev sLow : Stmt := top 10
abbrev sDown : Stmt := top 11
abbrev sUp : Stmt := top 12
abbrev sAm : Stmt := top 24
abbrev sParts : Stmt := top 25
section
variable {P : Program} {w : World} {K : PySem.W.Frag} {mg : Str → Option Value} {base : Heap}
/-! ### is_integer, of an int -/
def spIsInt : Sp := spP (fun (i : Int) vs _ => vs = [.int i]) (fun _ => Is (.bl true))
theorem scIsInt : FnScope ["thing"] ["thing"] (defScope sIsInt) := ⟨rfl, rfl, rfl, by decide +kernel, rfl, by decide +kernel, by decide +kernel⟩
theorem ty_int {K : PySem.W.Frag} {i : Int} : ∀ x H', Is (.int i) x H' → TyX K H' x (.type "int") := fun x H' h => by
  cases h
  exact .base (.int i)
theorem ok_isint {f : Addr} {fd : FuncData} (F : Fun K "is_integer" "is_integer" sIsInt f fd) (z1 : mg "isinstance" = none) (z2 : mg "int" = none) (z3 : mg "bool" = none) : FnOk P w K mg base CX0 1 f fd ["thing"] spIsInt := by
  refine F.ok scIsInt (fun vs H Q E h => ?_) (fun cdv A outer s H vs Q E hr h => ?_)
  · obtain ⟨i, rfl, _⟩ := h
    rfl
  · obtain ⟨i, rfl, q⟩ := h
    refine ⟨_, pw_B, b_retE (ev_and (ev_isi (T := "int") (k := true) z1 (ev_vi (pv 0) rfl) mono_is (ev_c (pe_bltn (by rfl) z2 (by decide +kernel) rfl)) ty_int (kit_ty (by decide +kernel))) fun _ =>
      ev_and1 (ev_not (ev_isi (T := "bool") (k := false) z1 (ev_vi (pv 0) rfl) mono_is (ev_c (pe_bltn (by rfl) z3 (by decide +kernel) rfl)) ty_int (kit_ty (by decide +kernel))))) fun v H' s h => q v H' s h⟩

/-! ### lowest -/
def LowOk (u : Int) : Prop := u ≠ 0 ∧ ((0 < u ∧ u.natAbs < 2 ^ 8000) ∨ u.natAbs < 1073741824)
theorem LowOk.div {o u : Int} (h : LowOk u) : CDivA o (lowS o u) := by
  rcases Int.lt_or_lt_of_ne h.1 with q | q
  · have := lowS_neg (o := o) q
    rcases h.2 with z | z
    · omega
    · exact .inr ⟨by omega, by omega⟩
  · have := lowS_pos (o := o) q
    rcases h.2 with z | z
    · refine .inl ⟨this.1, Nat.lt_trans (PySem.Flt.log2_lt_of (by decide) (Nat.lt_of_le_of_lt ?_ z.2)) (by decide)⟩
      omega
    · exact .inr ⟨by omega, by omega⟩
theorem LowOk.num {o u : Int} (h : LowOk u) : o.fdiv (lowS o u) = (Rat.divInt o u).num ∧ u.fdiv (lowS o u) = ((Rat.divInt o u).den : Int) := by
  rcases Int.lt_or_lt_of_ne h.1 with q | q
  · exact low_neg q
  · have l := (lowS_pos (o := o) q).1
    rw [Int.fdiv_eq_ediv_of_nonneg _ (by omega), Int.fdiv_eq_ediv_of_nonneg _ (by omega)]
    exact low_pos q
def spLow : Sp := spP (fun (d : Int × Int) vs _ => vs = [.int d.1, .int d.2] ∧ LowOk d.2) (fun d => TupI [.int (Rat.divInt d.1 d.2).num, .int ((Rat.divInt d.1 d.2).den : Int)])
theorem scLow : FnScope ["over", "under", "shared"] ["over", "under"] (defScope sLow) := ⟨rfl, rfl, rfl, by decide +kernel, rfl, by decide +kernel, by decide +kernel⟩
theorem ok_low {f : Addr} {fd : FuncData} (F : Fun K "lowest" "lowest" sLow f fd) (z1 : mg "gcd" = some (.builtin "math.gcd")) : FnOk P w K mg base CX0 1 f fd ["over", "under"] spLow := by
  refine F.ok scLow (fun vs H Q E h => ?_) (fun cdv A outer s H vs Q E hr h => ?_)
  · obtain ⟨d, ⟨rfl, _⟩, _⟩ := h
    rfl
  · obtain ⟨⟨o, u⟩, ⟨rfl, hu⟩, q⟩ := h
    dsimp only at hu q ⊢
    refine ⟨_, pw_B, b_setE (i := 2) scLow.nd rfl (.inl rfl) (ev_gcd z1 (ea_2 (ev_vi (pv 0) rfl) mono_is (ev_vi (pv 1) rfl) mono_is)) fun v H1 s1 e => ?_⟩
    cases e
    refine b_ifJ (fun σ' H' => σ' = [some (.int o), some (.int u), some (.int (lowS o u))] ∧ Same H H') (c_I op_lt (nomark _) (ev_vi (pv 1) rfl) (ev_c pe_int)).et (fun h H2 s2 => ?_) (fun h H2 s2 => ?_) fun σ' H2 j => ?_
    · have hl : u < 0 := of_decide_eq_true h
      refine b_setE (i := 2) scLow.nd rfl (.inl rfl) (ev_negI (ev_vi (pv 2) rfl)) fun v H3 s3 e => ?_
      cases e
      refine b_nil ⟨?_, (s1.trans s2).trans s3⟩
      unfold lowS
      rw [if_pos hl]
      rfl
    · have hl : ¬ u < 0 := of_decide_eq_false h
      refine b_nil ⟨?_, s1.trans s2⟩
      unfold lowS
      rw [if_neg hl]
      rfl
    · obtain ⟨rfl, s2⟩ := j
      refine b_retE (ev_tupI (xs := [.int (o.fdiv (lowS o u)), .int (u.fdiv (lowS o u))]) (ea_2 (ev_opC op_fdivA (ev_vi (pv 0) rfl) (ev_vi (pv 2) rfl) hu.div) mono_is (ev_opC op_fdivA (ev_vi (pv 1) rfl) (ev_vi (pv 2) rfl) hu.div) mono_is) (by show 2 ≤ 1000; decide)) fun v H3 s3 h => ?_
      rw [hu.num.1, hu.num.2] at h
      exact q v H3 (s2.trans s3) h

/-! ### rounded_down, rounded_up -/
theorem atI0 {x : V} {r : List V} : atI (x :: r) 0 = some x := atI_nat (j := 0) rfl
theorem atI1 {x y : V} {r : List V} : atI (x :: y :: r) 1 = some y := atI_nat (j := 1) rfl
def DivOk (u : Int) : Prop := 0 < u ∧ u.natAbs < 2 ^ 8000
theorem DivOk.div {o u : Int} (h : DivOk u) : CDivA o u := .inl ⟨h.1, Nat.lt_trans (PySem.Flt.log2_lt_of (by decide) h.2) (by decide)⟩
theorem DivOk.eq {o u : Int} (h : DivOk u) : o.fdiv u = o / u := Int.fdiv_eq_ediv_of_nonneg _ (Int.le_of_lt h.1)
def spDown : Sp := spP (fun (d : Int × Int) vs H => (∃ v, vs = [v] ∧ TupI [.int d.1, .int d.2] v H) ∧ DivOk d.2) (fun d => Is (.int (d.1 / d.2)))
def spUp : Sp := spP (fun (d : Int × Int) vs H => (∃ v, vs = [v] ∧ TupI [.int d.1, .int d.2] v H) ∧ DivOk d.2) (fun d => Is (.int (-(-d.1 / d.2))))
theorem scDown : FnScope ["pair"] ["pair"] (defScope sDown) := ⟨rfl, rfl, rfl, by decide +kernel, rfl, by decide +kernel, by decide +kernel⟩
theorem scUp : FnScope ["pair"] ["pair"] (defScope sUp) := ⟨rfl, rfl, rfl, by decide +kernel, rfl, by decide +kernel, by decide +kernel⟩
theorem ok_down {f : Addr} {fd : FuncData} (F : Fun K "rounded_down" "rounded_down" sDown f fd) : FnOk P w K mg base CX0 1 f fd ["pair"] spDown := by
  refine F.ok scDown (fun vs H Q E h => ?_) (fun cdv A outer s H vs Q E hr h => ?_)
  · obtain ⟨d, ⟨⟨v, rfl, _⟩, _⟩, _⟩ := h
    rfl
  · obtain ⟨⟨o, u⟩, ⟨⟨v, rfl, hv⟩, hu⟩, q⟩ := h
    dsimp only at hv hu q
    refine ⟨_, pw_B, b_retE (ev_opC op_fdivA (ev_ixT (ev_v (pv 0) rfl hv mono_tup) (ev_c pe_int) atI0) (ev_ixT (ev_v (pv 0) rfl hv mono_tup) (ev_c pe_int) atI1) hu.div) fun v H' s h => ?_⟩
    rw [hu.eq] at h
    exact q v H' s h
theorem ok_up {f : Addr} {fd : FuncData} (F : Fun K "rounded_up" "rounded_up" sUp f fd) : FnOk P w K mg base CX0 1 f fd ["pair"] spUp := by
  refine F.ok scUp (fun vs H Q E h => ?_) (fun cdv A outer s H vs Q E hr h => ?_)
  · obtain ⟨d, ⟨⟨v, rfl, _⟩, _⟩, _⟩ := h
    rfl
  · obtain ⟨⟨o, u⟩, ⟨⟨v, rfl, hv⟩, hu⟩, q⟩ := h
    dsimp only at hv hu q
    refine ⟨_, pw_B, b_retE (ev_negI (ev_opC op_fdivA (ev_negI (ev_ixT (ev_v (pv 0) rfl hv mono_tup) (ev_c pe_int) atI0)) (ev_ixT (ev_v (pv 0) rfl hv mono_tup) (ev_c pe_int) atI1) hu.div)) fun v H' s h => ?_⟩
    rw [hu.eq] at h
    exact q v H' s h

/-! ### Amount -/
abbrev sInit : Stmt := inClass sAm 1
abbrev sPair : Stmt := inClass sAm 3
abbrev sDn : Stmt := inClass sAm 4
abbrev sUpp : Stmt := inClass sAm 5
abbrev sCmp : Stmt := inClass sAm 6
abbrev sAdd : Stmt := inClass sAm 7
abbrev sRadd : Stmt := inClass sAm 8
abbrev sSub : Stmt := inClass sAm 9
abbrev sRsub : Stmt := inClass sAm 10
abbrev sMul : Stmt := inClass sAm 11
abbrev sRmul : Stmt := inClass sAm 12
abbrev sNeg : Stmt := inClass sAm 13
abbrev sAbs : Stmt := inClass sAm 14
abbrev sBool : Stmt := inClass sAm 15
abbrev sEq : Stmt := inClass sAm 16
abbrev sNe : Stmt := inClass sAm 17
def pf (r : Rat) : List (Str × V) := [("over", .int r.num), ("under", .int (r.den : Int))]
theorem ou_ : ¬ (("over" : Str) = "under") := by decide +kernel
theorem uo_ : ¬ (("under" : Str) = "over") := by decide +kernel
theorem pf_over (r : Rat) : (pf r).lookup ("over" : Str) = some (.int r.num) := by
  unfold pf
  rw [List.lookup_cons, beq_self_eq_true]
theorem pf_under (r : Rat) : (pf r).lookup ("under" : Str) = some (.int (r.den : Int)) := by
  unfold pf
  rw [List.lookup_cons, beq_eq_false_iff_ne.mpr uo_, List.lookup_cons, beq_self_eq_true]
theorem pf_no (r : Rat) {m : Str} (h1 : ¬ m = "over") (h2 : ¬ m = "under") : (pf r).lookup m = none := by
  unfold pf
  rw [List.lookup_cons, beq_eq_false_iff_ne.mpr h1, List.lookup_cons, beq_eq_false_iff_ne.mpr h2]
  rfl
theorem pf_put (r : Rat) : putF "under" (.int (r.den : Int)) (putF "over" (.int r.num) []) = pf r := by
  show (if ("over" : Str) = "under" then [(("over" : Str), V.int (r.den : Int))] else (("over" : Str), V.int r.num) :: putF "under" (V.int (r.den : Int)) []) = pf r
  rw [if_neg ou_]
  rfl
end
end Kn

namespace Kn
open PySem PySem.Spec PyProof.Rows L2 Cb
/-! ### __init__ -/
def spInit (C : Addr) : Sp := fun vs H Q _ => ∃ (x dx : Addr) (o u : Int), vs = [.ref x, .int o, .int u] ∧ LowOk u ∧ H x = some (.ins C dx []) ∧ ∀ H' : Hp, (∀ b y, b ≠ x → H b = some y → H' b = some y) → H' x = some (.ins C dx (pf (Rat.divInt o u))) → Q .non H'
structure Txt (K : PySem.W.Frag) (mg : Str → Option Value) (C : Addr) : Prop where
  cl : Cls K C
  nO : NoAttr K C "over"
  nU : NoAttr K C "under"
  mgC : mg "Amount" = some (.ref C)
  isi : mg "isinstance" = none
  int : mg "int" = none
  bool : mg "bool" = none
  abs : mg "abs" = none
  sf : PySem.W.selfFirst K C = true
  tA : PySem.W.findIn K (.ref C) "__class__" = some (some (.builtin "object.__class__"))
  tN : PySem.W.specialIn K (.builtin "object.__class__") "__get__" = some (some (.builtin "getset_descriptor.__get__"))
  tT : PySem.W.takesIn K (.builtin "object.__class__") = some true
  tM : PySem.W.mroIn K C (.type "object") = some true
  kI : PySem.W.kitOne K (.type "int") (.ref C) = some false
section
variable {P : Program} {w : World} {K : PySem.W.Frag} {mg : Str → Option Value} {base : Heap}
/-- one argument told -/
theorem isOne {v : V} {vs : List V} {H : Hp} (h : Pws [Is v] vs H) : vs = [v] := by
  obtain ⟨u, rfl, e⟩ := h.one
  rw [show u = v from e]
theorem isTwo {v w : V} {vs : List V} {H : Hp} (h : Pws [Is v, Is w] vs H) : vs = [v, w] := by
  obtain ⟨u, u2, rfl, e, e2⟩ := h.two
  rw [show u = v from e, show u2 = w from e2]
theorem ev_isint {X : Cx} {σ : L2.St} {H : Hp} {a : Expr} {p q : Pos} {i : Int} {k : Nat} {f : Addr} {fd : FuncData} {ps : List Str} (g : GDef X "is_integer" k f fd ps spIsInt) (ha : Ev X σ H a (Is (.int i))) (hg : Gl X "is_integer" := by rfl) (hs : starEach [a] X.env = (false, eval a X.env) :: starEach [] X.env := by rfl)
    (hpl : (backTo p (starEach [] X.env)).any (·.1) = false := by rfl) : Ev X σ H (.Call (.Name "is_integer" q) [a] [] p) (Is (.bl true)) := ev_callP i g (ea_1 ha mono_is hs) (fun vs H2 _ h => isOne h) hg (by decide) hs hpl
theorem ev_low {X : Cx} {σ : L2.St} {H : Hp} {a b : Expr} {p q : Pos} {o u : Int} {k : Nat} {f : Addr} {fd : FuncData} {ps : List Str} (g : GDef X "lowest" k f fd ps spLow) (hu : LowOk u) (ha : Ev X σ H a (Is (.int o))) (hb : Ev X σ H b (Is (.int u))) (hg : Gl X "lowest" := by rfl) (hs : starEach [a, b] X.env = (false, eval a X.env) :: starEach [b] X.env := by rfl) (hs' : starEach [b] X.env = (false, eval b X.env) :: starEach [] X.env := by rfl)
    (hpl : (backTo p (starEach [b] X.env)).any (·.1) = false := by rfl) : Ev X σ H (.Call (.Name "lowest" q) [a, b] [] p) (TupI [.int (Rat.divInt o u).num, .int ((Rat.divInt o u).den : Int)]) := ev_callP (o, u) g (ea_2 ha mono_is hb mono_is hs hs') (fun vs H2 _ h => ⟨isTwo h, hu⟩) hg (by decide) hs hpl
theorem scInit : FnScope ["self", "over", "under"] ["self", "over", "under"] (defScope sInit) := ⟨rfl, rfl, rfl, by decide +kernel, rfl, by decide +kernel, by decide +kernel⟩
theorem ok_init {f C f1 f2 : Addr} {fd fd1 fd2 : FuncData} {dvs : List V} (T : Txt K mg C) (F : FunD K "__init__" "Amount.__init__" (defArgs sInit) (defBody sInit) (defScope sInit) dvs [] f fd)
    (F1 : Fun K "is_integer" "is_integer" sIsInt f1 fd1) (b1 : Binds K fd1 ["thing"] []) (g1 : mg "is_integer" = some (.ref f1)) (F2 : Fun K "lowest" "lowest" sLow f2 fd2) (b2 : Binds K fd2 ["over", "under"] []) (g2 : mg "lowest" = some (.ref f2)) (z : mg "gcd" = some (.builtin "math.gcd")) :
    FnOk P w K mg base CX0 2 f fd ["self", "over", "under"] (spInit C) := by
  have G1 : FnOk P w K mg base CX0 1 f1 fd1 ["thing"] spIsInt := ok_isint F1 T.isi T.int T.bool
  have G2 : FnOk P w K mg base CX0 1 f2 fd2 ["over", "under"] spLow := ok_low F2 z
  refine F.ok scInit (fun vs H Q E h => ?_) (fun cdv A outer s H vs Q E hr h => ?_)
  · obtain ⟨x, dx, o, u, rfl, _⟩ := h
    rfl
  · obtain ⟨x, dx, o, u, rfl, hu, hx, q⟩ := h
    refine ⟨_, pw_B, ?_⟩
    refine b_ifF ?_ fun H1 s1 => ?_
    · exact EvT.is (et_not (et_v (ev_isint ⟨G1, hr, g1, F1.kp, b1⟩ (ev_vi (pv 1) rfl)))) rfl
    refine b_ifF ?_ fun H2 s2 => ?_
    · refine et_w (ew_orF ?_ (ew_or1 ?_))
      · exact EvT.is (et_not (et_v (ev_isint ⟨G1, hr, g1, F1.kp, b1⟩ (ev_vi (pv 2) rfl)))) rfl
      · exact EvT.is (CC.et (c_eqS (ev_vi (pv 2) rfl) (ev_c pe_int) rfl)) (decide_eq_false fun e => hu.1 (V.int.inj e))
    refine b_asgE (pg_tup rfl (pgs_cons (pg_fld pw_E) (pgs_cons (pg_fld pw_E) pgs_nil))) (ev_low ⟨G2, hr, g2, F2.kp, b2⟩ hu (ev_vi (pv 1) rfl) (ev_vi (pv 2) rfl)) fun v H3 s3 ⟨t, et, ht⟩ => ?_
    have s03 := (s1.trans s2).trans s3
    have hx3 := s03 _ _ hx
    refine ⟨t, _, et, .of ht, rfl, _, _, rfl, w_E (pv 0) ⟨_, rfl, x, C, dx, _, rfl, hx3, T.cl, T.nO, (by show 0 < 1000; decide), _, _, rfl, w_E (pv 0) ⟨_, rfl, x, C, dx, _, rfl, upd_same, T.cl, T.nU, (by show 1 < 1000; decide), rfl, b_nil (q _ (fun b y hb e => ?_) ?_)⟩⟩⟩
    · rw [upd_ne hb, upd_ne hb]
      exact s03 _ _ e
    · rw [upd_same, pf_put]
end
/-! ### Amount(..) -/
structure MkX (X : Cx) (C : Addr) : Prop where
  ex : ∃ (k : Nat) (f : Addr) (fd : FuncData), Mk X.K C f ∧ FnOk X.prog X.w X.K X.mg X.base CX0 k f fd ["self", "over", "under"] (spInit C) ∧ Room (k + 1) X.A ∧ Binds X.K fd ["self", "over", "under"] [] ∧ ∃ ds, Vals [.int 1] ds ∧ Binds X.K fd ["self", "over", "under"] ds
  mg : X.mg "Amount" = some (.ref C)
section
variable {X : Cx} {C : Addr} {σ : L2.St} {H : Hp} {a b : Expr} {p q : Pos}
theorem ev_make2 (M : MkX X C) {o u : Int} (hu : LowOk u) (ha : Ev X σ H a (Is (.int o))) (hb : Ev X σ H b (Is (.int u))) (hg : Gl X "Amount" := by rfl) (hs : starEach [a, b] X.env = (false, eval a X.env) :: starEach [b] X.env := by rfl) (hs' : starEach [b] X.env = (false, eval b X.env) :: starEach [] X.env := by rfl)
    (hpl : (backTo p (starEach [b] X.env)).any (·.1) = false := by rfl) : Ev X σ H (.Call (.Name "Amount" q) [a, b] [] p) (Ins C (pf (Rat.divInt o u))) := by
  obtain ⟨k, f, fd, Mk, F, hr, b3, _⟩ := M.ex
  refine ev_of (pe_make Mk F hr hg M.mg b3 .nil pass0 pw_A (by decide) hs hpl) fun H1 s1 => wA_mono (ea_2 ha mono_is hb mono_is hs hs' H1 s1) fun vs H2 ⟨s2, pv⟩ x dx nx ndx ne => ?_
  cases isTwo pv
  refine ⟨x, dx, o, u, rfl, hu, upd_same, fun H3 k3 h3 => ⟨rfl, s2.trans fun b y e => k3 b y (ne_of_none e nx) ?_, x, dx, rfl, h3⟩⟩
  rw [upd_ne (ne_of_none e nx), upd_ne (ne_of_none e ndx)]
  exact e
theorem ev_make1 (M : MkX X C) {o : Int} (ha : Ev X σ H a (Is (.int o))) (hg : Gl X "Amount" := by rfl) (hs : starEach [a] X.env = (false, eval a X.env) :: starEach [] X.env := by rfl)
    (hpl : (backTo p (starEach [] X.env)).any (·.1) = false := by rfl) : Ev X σ H (.Call (.Name "Amount" q) [a] [] p) (Ins C (pf (o : Rat))) := by
  obtain ⟨k, f, fd, Mk, F, hr, _, ds, hd, b2⟩ := M.ex
  refine ev_of (pe_make Mk F hr hg M.mg b2 hd pass0 pw_A (by decide) hs hpl) fun H1 s1 => wA_mono (ea_1 ha mono_is hs H1 s1) fun vs H2 ⟨s2, pv⟩ x dx nx ndx ne => ?_
  cases isOne pv
  refine ⟨x, dx, o, 1, rfl, ⟨by decide, .inr (by decide)⟩, upd_same, fun H3 k3 h3 => ⟨rfl, s2.trans fun b y e => k3 b y (ne_of_none e nx) ?_, x, dx, rfl, ?_⟩⟩
  · rw [upd_ne (ne_of_none e nx), upd_ne (ne_of_none e ndx)]
    exact e
  · rw [div_one] at h3
    exact h3
end
end Kn

namespace Kn
open PySem PySem.Spec PyProof.Rows L2 Cb
def Num (C : Addr) (q : Rat) : Pd := fun v H => Ins C (pf q) v H ∨ ∃ i : Int, v = .int i ∧ q = (i : Rat)
theorem mono_num {C : Addr} {q : Rat} : Mono (Num C q) := fun v H H' s h => h.elim (fun h => .inl (mono_ins _ _ _ s h)) .inr
theorem Ev.num {X : Cx} {σ : L2.St} {H : Hp} {e : Expr} {C : Addr} {q : Rat} (h : Ev X σ H e (Ins C (pf q))) : Ev X σ H e (Num C q) := h.imp fun _ _ _ h => .inl h
theorem Ev.numI {X : Cx} {σ : L2.St} {H : Hp} {e : Expr} {C : Addr} {i : Int} (h : Ev X σ H e (Is (.int i))) : Ev X σ H e (Num C (i : Rat)) := h.imp fun _ _ _ h => .inr ⟨i, h, rfl⟩
theorem ty_ins {K : PySem.W.Frag} {mg : Str → Option Value} {C : Addr} (T : Txt K mg C) {fs : List (Str × V)} : ∀ x H', Ins C fs x H' → TyX K H' x (.ref C) := fun x H' ⟨a, dx, e, h⟩ => by
  subst e
  exact .base (.ins h T.cl T.tA T.tN T.tT T.tM)
theorem kit_same {K : PySem.W.Frag} {C : Addr} : PySem.W.kitOne K (.ref C) (.ref C) = some true := by
  unfold PySem.W.kitOne
  rw [if_pos (by exact beq_self_eq_true _)]
section
variable {X : Cx} {σ : L2.St} {H : Hp} {a b : Expr} {p q : Pos}
/-- x.over, x.under -/
theorem ev_over {mg : Str → Option Value} {C : Addr} {r : Rat} (T : Txt X.K mg C) (ha : Ev X σ H a (Ins C (pf r))) (hb : attributeBase a "over" X.env (eval a X.env) = eval a X.env := by rfl) : Ev X σ H (.Attribute a "over" p) (Is (.int r.num)) := ev_fld T.cl T.nO ha (pf_over r) hb
theorem ev_under {mg : Str → Option Value} {C : Addr} {r : Rat} (T : Txt X.K mg C) (ha : Ev X σ H a (Ins C (pf r))) (hb : attributeBase a "under" X.env (eval a X.env) = eval a X.env := by rfl) : Ev X σ H (.Attribute a "under" p) (Is (.int (r.den : Int))) := ev_fld T.cl T.nU ha (pf_under r) hb
end
def spParts (C : Addr) : Sp := spP (fun (q : Rat) vs H => ∃ v, vs = [v] ∧ Num C q v H) (fun q => TupI [.int q.num, .int (q.den : Int)])
theorem ev_parts {X : Cx} {σ : L2.St} {H : Hp} {a : Expr} {p q : Pos} {C : Addr} {r : Rat} {k : Nat} {f : Addr} {fd : FuncData} {ps : List Str} (g : GDef X "parts_of" k f fd ps (spParts C)) (ha : Ev X σ H a (Num C r)) (hg : Gl X "parts_of" := by rfl) (hs : starEach [a] X.env = (false, eval a X.env) :: starEach [] X.env := by rfl)
    (hpl : (backTo p (starEach [] X.env)).any (·.1) = false := by rfl) : Ev X σ H (.Call (.Name "parts_of" q) [a] [] p) (TupI [.int r.num, .int (r.den : Int)]) := ev_callP r g (ea_1 ha mono_num hs) (fun vs H2 _ h => h.one) hg (by decide) hs hpl
def spDn (C : Addr) : Sp := spP (fun (r : Rat) vs H => (∃ v, vs = [v] ∧ Ins C (pf r) v H) ∧ Bd 2000 r) (fun r => Is (.int (r.num / r.den)))
def spUpp (C : Addr) : Sp := spP (fun (r : Rat) vs H => (∃ v, vs = [v] ∧ Ins C (pf r) v H) ∧ Bd 2000 r) (fun r => Is (.int (-(-r.num / r.den))))
def spPair (C : Addr) : Sp := spP (fun (r : Rat) vs H => ∃ v, vs = [v] ∧ Ins C (pf r) v H) (fun r => TupI [.int r.num, .int (r.den : Int)])
def spBin (C : Addr) (g : Rat → Rat → Rat) : Sp := spP (fun (d : Rat × Rat) vs H => (∃ v w, vs = [v, w] ∧ Ins C (pf d.1) v H ∧ Num C d.2 w H) ∧ Bd 2000 d.1 ∧ Bd 2000 d.2) (fun d => Ins C (pf (g d.1 d.2)))
def spUn (C : Addr) (g : Rat → Rat) : Sp := spP (fun (r : Rat) vs H => (∃ v, vs = [v] ∧ Ins C (pf r) v H) ∧ Bd 2000 r) (fun r => Ins C (pf (g r)))
def spCmp (C : Addr) : Sp := spP (fun (d : Rat × Rat) vs H => (∃ v w, vs = [v, w] ∧ Ins C (pf d.1) v H ∧ Num C d.2 w H) ∧ Bd 2000 d.1 ∧ Bd 2000 d.2) (fun d => Is (.int (cmpR d.1 d.2)))
def spEqv (C : Addr) (g : Rat → Rat → Bool) : Sp := spP (fun (d : Rat × Rat) vs H => (∃ v w, vs = [v, w] ∧ Ins C (pf d.1) v H ∧ Ins C (pf d.2) w H)) (fun d => Is (.bl (g d.1 d.2)))
def spTru (C : Addr) : Sp := spP (fun (r : Rat) vs H => (∃ v, vs = [v] ∧ Ins C (pf r) v H)) (fun r => Is (.bl (r.num != 0)))
theorem den_ok {r : Rat} (h : Bd 2000 r) : LowOk (r.den : Int) := ⟨Int.ne_of_gt (den_pos r), .inl ⟨den_pos r, Nat.lt_of_lt_of_le h.2 (Nat.pow_le_pow_right (by decide) (by decide))⟩⟩
theorem den2_ok {r q : Rat} (h : Bd 2000 r) (h' : Bd 2000 q) : LowOk ((r.den : Int) * (q.den : Int)) := by
  have z : (0 : Int) < (r.den : Int) * (q.den : Int) := Int.mul_pos (den_pos r) (den_pos q)
  exact ⟨Int.ne_of_gt z, .inl ⟨z, Nat.lt_of_lt_of_le (lt_mul (n := 2000) (m := 2000) h.2 h'.2) (Nat.pow_le_pow_right (by decide) (by decide))⟩⟩
theorem divOk {r : Rat} (h : Bd 2000 r) : DivOk (r.den : Int) := ⟨den_pos r, Nat.lt_of_lt_of_le h.2 (Nat.pow_le_pow_right (by decide) (by decide))⟩
theorem mulOk {i j : Int} (h : i.natAbs < 2 ^ 2000) (h' : j.natAbs < 2 ^ 2000) : CMulW i j := wide_mul h h' (by decide) (by decide) (by decide)
section
variable {P : Program} {w : World} {K : PySem.W.Frag} {mg : Str → Option Value} {base : Heap}
theorem scParts : FnScope ["value"] ["value"] (defScope sParts) := ⟨rfl, rfl, rfl, by decide +kernel, rfl, by decide +kernel, by decide +kernel⟩
theorem ok_parts {f C f1 : Addr} {fd fd1 : FuncData} (T : Txt K mg C) (F : Fun K "parts_of" "parts_of" sParts f fd) (F1 : Fun K "is_integer" "is_integer" sIsInt f1 fd1) (b1 : Binds K fd1 ["thing"] []) (g1 : mg "is_integer" = some (.ref f1)) :
    FnOk P w K mg base CX0 2 f fd ["value"] (spParts C) := by
  have G1 : FnOk P w K mg base CX0 1 f1 fd1 ["thing"] spIsInt := ok_isint F1 T.isi T.int T.bool
  refine F.ok scParts (fun vs H Q E h => ?_) (fun cdv A outer s H vs Q E hr h => ?_)
  · obtain ⟨r, ⟨v, rfl, _⟩, _⟩ := h
    rfl
  · obtain ⟨r, ⟨v, rfl, hv⟩, q⟩ := h
    refine ⟨_, pw_B, ?_⟩
    rcases hv with hv | ⟨i, rfl, rfl⟩
    · refine b_ifT ?_ fun H1 s1 => ?_
      · exact et_v (ev_isiC T.isi (ev_v (pv 0) rfl hv mono_ins) mono_ins (ev_c (pe_glob rfl T.mgC rfl)) (ty_ins T) kit_same)
      refine b_retE (ev_tupI (xs := [.int r.num, .int (r.den : Int)]) (ea_2 ?_ mono_is ?_ mono_is) (by show 2 ≤ 1000; decide)) fun v' H2 s2 h => q v' H2 (s1.trans s2) h
      · exact ev_over T (ev_v (pv 0) rfl (mono_ins _ _ _ s1 hv) mono_ins)
      · exact ev_under T (ev_v (pv 0) rfl (mono_ins _ _ _ s1 hv) mono_ins)
    · refine b_ifF ?_ fun H1 s1 => ?_
      · exact et_v (ev_isiC T.isi (ev_vi (pv 0) rfl) mono_is (ev_c (pe_glob rfl T.mgC rfl)) ty_int T.kI)
      refine b_ifF ?_ fun H2 s2 => ?_
      · exact EvT.is (et_not (et_v (ev_isint ⟨G1, hr, g1, F1.kp, b1⟩ (ev_vi (pv 0) rfl)))) rfl
      refine b_retE (ev_tupI (xs := [.int i, .int 1]) (ea_2 ?_ mono_is ?_ mono_is) (by show 2 ≤ 1000; decide)) fun v' H3 s3 h => q v' H3 ((s1.trans s2).trans s3) (by
        show TupI [.int (i : Rat).num, .int ((i : Rat).den : Int)] v' H3
        rw [Rat.num_intCast, Rat.den_intCast]
        exact h)
      · exact ev_vi (pv 0) rfl
      · exact ev_c pe_int
/-! ### pair, down, up -/
theorem scPair : FnScope ["self"] ["self"] (defScope sPair) := ⟨rfl, rfl, rfl, by decide +kernel, rfl, by decide +kernel, by decide +kernel⟩
theorem scDn : FnScope ["self"] ["self"] (defScope sDn) := ⟨rfl, rfl, rfl, by decide +kernel, rfl, by decide +kernel, by decide +kernel⟩
theorem scUpp : FnScope ["self"] ["self"] (defScope sUpp) := ⟨rfl, rfl, rfl, by decide +kernel, rfl, by decide +kernel, by decide +kernel⟩
theorem ok_pair {f C : Addr} {fd : FuncData} (T : Txt K mg C) (F : Fun K "pair" "Amount.pair" sPair f fd) : FnOk P w K mg base CX0 1 f fd ["self"] (spPair C) := by
  refine F.ok scPair (fun vs H Q E h => ?_) (fun cdv A outer s H vs Q E hr h => ?_)
  · obtain ⟨r, ⟨v, rfl, _⟩, _⟩ := h
    rfl
  · obtain ⟨r, ⟨v, rfl, hv⟩, q⟩ := h
    refine ⟨_, pw_B, ?_⟩
    refine b_retE (ev_tupI (xs := [.int r.num, .int (r.den : Int)]) (ea_2 ?_ mono_is ?_ mono_is) (by show 2 ≤ 1000; decide)) fun v' H2 s2 h => q v' H2 s2 h
    · exact ev_over T (ev_v (pv 0) rfl hv mono_ins)
    · exact ev_under T (ev_v (pv 0) rfl hv mono_ins)
theorem ev_rdown {X : Cx} {σ : L2.St} {H : Hp} {a : Expr} {p q : Pos} {o u : Int} {k : Nat} {f : Addr} {fd : FuncData} {ps : List Str} (g : GDef X "rounded_down" k f fd ps spDown) (hu : DivOk u) (ha : Ev X σ H a (TupI [.int o, .int u])) (hg : Gl X "rounded_down" := by rfl) (hs : starEach [a] X.env = (false, eval a X.env) :: starEach [] X.env := by rfl)
    (hpl : (backTo p (starEach [] X.env)).any (·.1) = false := by rfl) : Ev X σ H (.Call (.Name "rounded_down" q) [a] [] p) (Is (.int (o / u))) := ev_callP (o, u) g (ea_1 ha mono_tup hs) (fun vs H2 _ h => ⟨h.one, hu⟩) hg (by decide) hs hpl
theorem ev_rup {X : Cx} {σ : L2.St} {H : Hp} {a : Expr} {p q : Pos} {o u : Int} {k : Nat} {f : Addr} {fd : FuncData} {ps : List Str} (g : GDef X "rounded_up" k f fd ps spUp) (hu : DivOk u) (ha : Ev X σ H a (TupI [.int o, .int u])) (hg : Gl X "rounded_up" := by rfl) (hs : starEach [a] X.env = (false, eval a X.env) :: starEach [] X.env := by rfl)
    (hpl : (backTo p (starEach [] X.env)).any (·.1) = false := by rfl) : Ev X σ H (.Call (.Name "rounded_up" q) [a] [] p) (Is (.int (-(-o / u)))) := ev_callP (o, u) g (ea_1 ha mono_tup hs) (fun vs H2 _ h => ⟨h.one, hu⟩) hg (by decide) hs hpl
theorem ok_dn {f C f1 : Addr} {fd fd1 : FuncData} (T : Txt K mg C) (F : Fun K "down" "Amount.down" sDn f fd) (F1 : Fun K "rounded_down" "rounded_down" sDown f1 fd1) (b1 : Binds K fd1 ["pair"] []) (g1 : mg "rounded_down" = some (.ref f1)) : FnOk P w K mg base CX0 2 f fd ["self"] (spDn C) := by
  have G1 : FnOk P w K mg base CX0 1 f1 fd1 ["pair"] spDown := ok_down F1
  refine F.ok scDn (fun vs H Q E h => ?_) (fun cdv A outer s H vs Q E hr h => ?_)
  · obtain ⟨r, ⟨⟨v, rfl, _⟩, _⟩, _⟩ := h
    rfl
  · obtain ⟨r, ⟨⟨v, rfl, hv⟩, hB⟩, q⟩ := h
    refine ⟨_, pw_B, ?_⟩
    refine b_retE (ev_rdown ⟨G1, hr, g1, F1.kp, b1⟩ (divOk hB) (ev_tupI (ea_2 ?_ mono_is ?_ mono_is) (by show 2 ≤ 1000; decide))) fun v' H2 s2 h => q v' H2 s2 h
    · exact ev_over T (ev_v (pv 0) rfl hv mono_ins)
    · exact ev_under T (ev_v (pv 0) rfl hv mono_ins)
theorem ok_upp {f C f1 : Addr} {fd fd1 : FuncData} (T : Txt K mg C) (F : Fun K "up" "Amount.up" sUpp f fd) (F1 : Fun K "rounded_up" "rounded_up" sUp f1 fd1) (b1 : Binds K fd1 ["pair"] []) (g1 : mg "rounded_up" = some (.ref f1)) : FnOk P w K mg base CX0 2 f fd ["self"] (spUpp C) := by
  have G1 : FnOk P w K mg base CX0 1 f1 fd1 ["pair"] spUp := ok_up F1
  refine F.ok scUpp (fun vs H Q E h => ?_) (fun cdv A outer s H vs Q E hr h => ?_)
  · obtain ⟨r, ⟨⟨v, rfl, _⟩, _⟩, _⟩ := h
    rfl
  · obtain ⟨r, ⟨⟨v, rfl, hv⟩, hB⟩, q⟩ := h
    refine ⟨_, pw_B, ?_⟩
    refine b_retE (ev_rup ⟨G1, hr, g1, F1.kp, b1⟩ (divOk hB) (ev_tupI (ea_2 ?_ mono_is ?_ mono_is) (by show 2 ≤ 1000; decide))) fun v' H2 s2 h => q v' H2 s2 h
    · exact ev_over T (ev_v (pv 0) rfl hv mono_ins)
    · exact ev_under T (ev_v (pv 0) rfl hv mono_ins)
end
end Kn

namespace Kn
open PySem PySem.Spec PyProof.Rows L2 Cb
section
variable {P : Program} {w : World} {K : PySem.W.Frag} {mg : Str → Option Value} {base : Heap}
/-- what the bodies of the operators have: parts_of and Amount -/
structure Has (P : Program) (w : World) (K : PySem.W.Frag) (mg : Str → Option Value) (base : Heap) (C : Addr) : Prop where
  T : Txt K mg C
  parts : ∃ (f : Addr) (fd : FuncData), FnOk P w K mg base CX0 2 f fd ["value"] (spParts C) ∧ mg "parts_of" = some (.ref f) ∧ PySem.W.keepIn K (.ref f) = true ∧ Binds K fd ["value"] []
  make : ∃ (f : Addr) (fd : FuncData), Mk K C f ∧ FnOk P w K mg base CX0 2 f fd ["self", "over", "under"] (spInit C) ∧ Binds K fd ["self", "over", "under"] [] ∧ ∃ ds, Vals [.int 1] ds ∧ Binds K fd ["self", "over", "under"] ds
theorem Has.mkx {X : Cx} {C : Addr} (h : Has X.prog X.w X.K X.mg X.base C) (hr : Room 3 X.A) : MkX X C := by
  obtain ⟨f, fd, M, F, b, ds⟩ := h.make
  exact ⟨⟨2, f, fd, M, F, hr, b, ds⟩, h.T.mgC⟩
theorem ev_lit1 {X : Cx} {σ : L2.St} {H : Hp} {a b : Expr} {p : Pos} {op : Operator} {i j : Int} (ho : OpR X (binaryOp op) (rI CMulW fun i j => .int (i * j))) (ha : Ev X σ H a (Is (.int i))) (hb : Ev X σ H b (Is (.int j))) (h : i.natAbs < 2 ^ 2000) (h' : j.natAbs < 2 ^ 2000) : Ev X σ H (.BinOp a op b p) (Is (.int (i * j))) := ev_opC ho ha hb (mulOk h h')

theorem scadd : FnScope ["self", "other", "over", "under"] ["self", "other"] (defScope sAdd) := ⟨rfl, rfl, rfl, by decide +kernel, rfl, by decide +kernel, by decide +kernel⟩
theorem ok_add {f C : Addr} {fd : FuncData} (hh : Has P w K mg base C) (F : Fun K "__add__" "Amount.__add__" sAdd f fd) : FnOk P w K mg base CX0 4 f fd ["self", "other"] (spBin C fun r q => r + q) := by
  obtain ⟨f1, fd1, G1, g1, k1, b1⟩ := hh.parts
  have T := hh.T
  refine F.ok scadd (fun vs H Q E h => ?_) (fun cdv A outer s H vs Q E hr h => ?_)
  · obtain ⟨d, ⟨⟨v, w, rfl, _⟩, _⟩, _⟩ := h
    rfl
  · obtain ⟨⟨r, q⟩, ⟨⟨v, v2, rfl, hv, hw⟩, hr1, hq1⟩, k⟩ := h
    dsimp only at hv hw hr1 hq1
    have Mk := hh.mkx (X := (cxOf CX0 P w K mg base ["self", "other", "over", "under"] "Amount.__add__" (defScope sAdd) f cdv A outer s H E).nox) hr
    refine ⟨_, pw_B, ?_⟩
    refine b_asgE (pg_tup rfl (pgs_cons (pg_name (i := 2) scadd.nd rfl (.inl rfl)) (pgs_cons (pg_name (i := 3) scadd.nd rfl (.inl rfl)) pgs_nil))) (ev_parts ⟨G1, hr.mono (by decide), g1, k1, b1⟩ (ev_v (pv 1) rfl hw mono_num)) fun u H1 s1 ⟨t, et, ht⟩ => ?_
    refine ⟨t, _, et, .of ht, rfl, _, _, rfl, _, _, rfl, rfl, ?_⟩
    have hv1 := mono_ins _ _ _ s1 hv
    refine b_retE (ev_make2 (o := r.num * (q.den : Int) + q.num * (r.den : Int)) (u := (r.den : Int) * (q.den : Int)) Mk (den2_ok hr1 hq1) ?_ ?_) fun v' H2 s2 h => k v' H2 (s1.trans s2) (by
      rw [add_eq] at h
      exact h)
    · exact ev_opI op_add (ev_opC op_mulW (ev_over T (ev_v (pv 0) rfl hv1 mono_ins)) (ev_vi (pv 3) rfl) (mulOk hr1.1 hq1.2)) (ev_opC op_mulW (ev_vi (pv 2) rfl) (ev_under T (ev_v (pv 0) rfl hv1 mono_ins)) (mulOk hq1.1 hr1.2))
    · exact ev_opC op_mulW (ev_under T (ev_v (pv 0) rfl hv1 mono_ins)) (ev_vi (pv 3) rfl) (mulOk hr1.2 hq1.2)

theorem scsub : FnScope ["self", "other", "over", "under"] ["self", "other"] (defScope sSub) := ⟨rfl, rfl, rfl, by decide +kernel, rfl, by decide +kernel, by decide +kernel⟩
theorem ok_sub {f C : Addr} {fd : FuncData} (hh : Has P w K mg base C) (F : Fun K "__sub__" "Amount.__sub__" sSub f fd) : FnOk P w K mg base CX0 4 f fd ["self", "other"] (spBin C fun r q => r - q) := by
  obtain ⟨f1, fd1, G1, g1, k1, b1⟩ := hh.parts
  have T := hh.T
  refine F.ok scsub (fun vs H Q E h => ?_) (fun cdv A outer s H vs Q E hr h => ?_)
  · obtain ⟨d, ⟨⟨v, w, rfl, _⟩, _⟩, _⟩ := h
    rfl
  · obtain ⟨⟨r, q⟩, ⟨⟨v, v2, rfl, hv, hw⟩, hr1, hq1⟩, k⟩ := h
    dsimp only at hv hw hr1 hq1
    have Mk := hh.mkx (X := (cxOf CX0 P w K mg base ["self", "other", "over", "under"] "Amount.__sub__" (defScope sSub) f cdv A outer s H E).nox) hr
    refine ⟨_, pw_B, ?_⟩
    refine b_asgE (pg_tup rfl (pgs_cons (pg_name (i := 2) scsub.nd rfl (.inl rfl)) (pgs_cons (pg_name (i := 3) scsub.nd rfl (.inl rfl)) pgs_nil))) (ev_parts ⟨G1, hr.mono (by decide), g1, k1, b1⟩ (ev_v (pv 1) rfl hw mono_num)) fun u H1 s1 ⟨t, et, ht⟩ => ?_
    refine ⟨t, _, et, .of ht, rfl, _, _, rfl, _, _, rfl, rfl, ?_⟩
    have hv1 := mono_ins _ _ _ s1 hv
    refine b_retE (ev_make2 (o := r.num * (q.den : Int) - q.num * (r.den : Int)) (u := (r.den : Int) * (q.den : Int)) Mk (den2_ok hr1 hq1) ?_ ?_) fun v' H2 s2 h => k v' H2 (s1.trans s2) (by
      rw [sub_eq] at h
      exact h)
    · exact ev_opI op_sub (ev_opC op_mulW (ev_over T (ev_v (pv 0) rfl hv1 mono_ins)) (ev_vi (pv 3) rfl) (mulOk hr1.1 hq1.2)) (ev_opC op_mulW (ev_vi (pv 2) rfl) (ev_under T (ev_v (pv 0) rfl hv1 mono_ins)) (mulOk hq1.1 hr1.2))
    · exact ev_opC op_mulW (ev_under T (ev_v (pv 0) rfl hv1 mono_ins)) (ev_vi (pv 3) rfl) (mulOk hr1.2 hq1.2)

theorem scrsub : FnScope ["self", "other", "over", "under"] ["self", "other"] (defScope sRsub) := ⟨rfl, rfl, rfl, by decide +kernel, rfl, by decide +kernel, by decide +kernel⟩
theorem ok_rsub {f C : Addr} {fd : FuncData} (hh : Has P w K mg base C) (F : Fun K "__rsub__" "Amount.__rsub__" sRsub f fd) : FnOk P w K mg base CX0 4 f fd ["self", "other"] (spBin C fun r q => q - r) := by
  obtain ⟨f1, fd1, G1, g1, k1, b1⟩ := hh.parts
  have T := hh.T
  refine F.ok scrsub (fun vs H Q E h => ?_) (fun cdv A outer s H vs Q E hr h => ?_)
  · obtain ⟨d, ⟨⟨v, w, rfl, _⟩, _⟩, _⟩ := h
    rfl
  · obtain ⟨⟨r, q⟩, ⟨⟨v, v2, rfl, hv, hw⟩, hr1, hq1⟩, k⟩ := h
    dsimp only at hv hw hr1 hq1
    have Mk := hh.mkx (X := (cxOf CX0 P w K mg base ["self", "other", "over", "under"] "Amount.__rsub__" (defScope sRsub) f cdv A outer s H E).nox) hr
    refine ⟨_, pw_B, ?_⟩
    refine b_asgE (pg_tup rfl (pgs_cons (pg_name (i := 2) scrsub.nd rfl (.inl rfl)) (pgs_cons (pg_name (i := 3) scrsub.nd rfl (.inl rfl)) pgs_nil))) (ev_parts ⟨G1, hr.mono (by decide), g1, k1, b1⟩ (ev_v (pv 1) rfl hw mono_num)) fun u H1 s1 ⟨t, et, ht⟩ => ?_
    refine ⟨t, _, et, .of ht, rfl, _, _, rfl, _, _, rfl, rfl, ?_⟩
    have hv1 := mono_ins _ _ _ s1 hv
    refine b_retE (ev_make2 (o := q.num * (r.den : Int) - r.num * (q.den : Int)) (u := (r.den : Int) * (q.den : Int)) Mk (den2_ok hr1 hq1) ?_ ?_) fun v' H2 s2 h => k v' H2 (s1.trans s2) (by
      rw [Int.mul_comm (r.den : Int) (q.den : Int), sub_eq] at h
      exact h)
    · exact ev_opI op_sub (ev_opC op_mulW (ev_vi (pv 2) rfl) (ev_under T (ev_v (pv 0) rfl hv1 mono_ins)) (mulOk hq1.1 hr1.2)) (ev_opC op_mulW (ev_over T (ev_v (pv 0) rfl hv1 mono_ins)) (ev_vi (pv 3) rfl) (mulOk hr1.1 hq1.2))
    · exact ev_opC op_mulW (ev_under T (ev_v (pv 0) rfl hv1 mono_ins)) (ev_vi (pv 3) rfl) (mulOk hr1.2 hq1.2)

theorem scmul : FnScope ["self", "other", "over", "under"] ["self", "other"] (defScope sMul) := ⟨rfl, rfl, rfl, by decide +kernel, rfl, by decide +kernel, by decide +kernel⟩
theorem ok_mul {f C : Addr} {fd : FuncData} (hh : Has P w K mg base C) (F : Fun K "__mul__" "Amount.__mul__" sMul f fd) : FnOk P w K mg base CX0 4 f fd ["self", "other"] (spBin C fun r q => r * q) := by
  obtain ⟨f1, fd1, G1, g1, k1, b1⟩ := hh.parts
  have T := hh.T
  refine F.ok scmul (fun vs H Q E h => ?_) (fun cdv A outer s H vs Q E hr h => ?_)
  · obtain ⟨d, ⟨⟨v, w, rfl, _⟩, _⟩, _⟩ := h
    rfl
  · obtain ⟨⟨r, q⟩, ⟨⟨v, v2, rfl, hv, hw⟩, hr1, hq1⟩, k⟩ := h
    dsimp only at hv hw hr1 hq1
    have Mk := hh.mkx (X := (cxOf CX0 P w K mg base ["self", "other", "over", "under"] "Amount.__mul__" (defScope sMul) f cdv A outer s H E).nox) hr
    refine ⟨_, pw_B, ?_⟩
    refine b_asgE (pg_tup rfl (pgs_cons (pg_name (i := 2) scmul.nd rfl (.inl rfl)) (pgs_cons (pg_name (i := 3) scmul.nd rfl (.inl rfl)) pgs_nil))) (ev_parts ⟨G1, hr.mono (by decide), g1, k1, b1⟩ (ev_v (pv 1) rfl hw mono_num)) fun u H1 s1 ⟨t, et, ht⟩ => ?_
    refine ⟨t, _, et, .of ht, rfl, _, _, rfl, _, _, rfl, rfl, ?_⟩
    have hv1 := mono_ins _ _ _ s1 hv
    refine b_retE (ev_make2 (o := r.num * q.num) (u := (r.den : Int) * (q.den : Int)) Mk (den2_ok hr1 hq1) ?_ ?_) fun v' H2 s2 h => k v' H2 (s1.trans s2) (by
      rw [mul_eq] at h
      exact h)
    · exact ev_opC op_mulW (ev_over T (ev_v (pv 0) rfl hv1 mono_ins)) (ev_vi (pv 2) rfl) (mulOk hr1.1 hq1.1)
    · exact ev_opC op_mulW (ev_under T (ev_v (pv 0) rfl hv1 mono_ins)) (ev_vi (pv 3) rfl) (mulOk hr1.2 hq1.2)

/-! ### neg, abs, bool, ==, != -/
theorem scNeg : FnScope ["self"] ["self"] (defScope sNeg) := ⟨rfl, rfl, rfl, by decide +kernel, rfl, by decide +kernel, by decide +kernel⟩
theorem ok_neg {f C : Addr} {fd : FuncData} (hh : Has P w K mg base C) (F : Fun K "__neg__" "Amount.__neg__" sNeg f fd) : FnOk P w K mg base CX0 4 f fd ["self"] (spUn C fun r => -r) := by
  have T := hh.T
  refine F.ok scNeg (fun vs H Q E h => ?_) (fun cdv A outer s H vs Q E hr h => ?_)
  · obtain ⟨r, ⟨⟨v, rfl, _⟩, _⟩, _⟩ := h
    rfl
  · obtain ⟨r, ⟨⟨v, rfl, hv⟩, hB⟩, k⟩ := h
    have Mk := hh.mkx (X := (cxOf CX0 P w K mg base ["self"] "Amount.__neg__" (defScope sNeg) f cdv A outer s H E).nox) hr
    refine ⟨_, pw_B, ?_⟩
    refine b_retE (ev_make2 (o := -r.num) (u := (r.den : Int)) Mk (den_ok hB) ?_ ?_) fun v' H2 s2 h => k v' H2 s2 (by
      rw [neg_eq] at h
      exact h)
    · exact ev_negI (ev_over T (ev_v (pv 0) rfl hv mono_ins))
    · exact ev_under T (ev_v (pv 0) rfl hv mono_ins)
def absR (r : Rat) : Rat := if r.num < 0 then -r else r
theorem abs_eq (r : Rat) : Rat.divInt (if r.num < 0 then -r.num else r.num) (r.den : Int) = absR r := by
  unfold absR
  by_cases h : r.num < 0
  · rw [if_pos h, if_pos h, neg_eq]
  · rw [if_neg h, if_neg h, Rat.num_divInt_den]
theorem scAbs : FnScope ["self"] ["self"] (defScope sAbs) := ⟨rfl, rfl, rfl, by decide +kernel, rfl, by decide +kernel, by decide +kernel⟩
theorem ok_abs {f C : Addr} {fd : FuncData} (hh : Has P w K mg base C) (F : Fun K "__abs__" "Amount.__abs__" sAbs f fd) : FnOk P w K mg base CX0 4 f fd ["self"] (spUn C absR) := by
  have T := hh.T
  refine F.ok scAbs (fun vs H Q E h => ?_) (fun cdv A outer s H vs Q E hr h => ?_)
  · obtain ⟨r, ⟨⟨v, rfl, _⟩, _⟩, _⟩ := h
    rfl
  · obtain ⟨r, ⟨⟨v, rfl, hv⟩, hB⟩, k⟩ := h
    have Mk := hh.mkx (X := (cxOf CX0 P w K mg base ["self"] "Amount.__abs__" (defScope sAbs) f cdv A outer s H E).nox) hr
    refine ⟨_, pw_B, ?_⟩
    refine b_retE (ev_make2 (o := if r.num < 0 then -r.num else r.num) (u := (r.den : Int)) Mk (den_ok hB) ?_ ?_) fun v' H2 s2 h => k v' H2 s2 (by
      rw [abs_eq] at h
      exact h)
    · exact ev_cb call_abs T.abs (by decide +kernel) (ea_1 (ev_over T (ev_v (pv 0) rfl hv mono_ins)) mono_is) (fun vs H2 _ h => by
        cases isOne h
        exact ⟨_, rfl, .refl _, rfl⟩) fun vs H Q Q' k ⟨i, e, q⟩ => ⟨i, e, k _ _ q⟩
    · exact ev_under T (ev_v (pv 0) rfl hv mono_ins)
theorem scBool : FnScope ["self"] ["self"] (defScope sBool) := ⟨rfl, rfl, rfl, by decide +kernel, rfl, by decide +kernel, by decide +kernel⟩
theorem ok_bool {f C : Addr} {fd : FuncData} (T : Txt K mg C) (F : Fun K "__bool__" "Amount.__bool__" sBool f fd) : FnOk P w K mg base CX0 1 f fd ["self"] (spTru C) := by
  refine F.ok scBool (fun vs H Q E h => ?_) (fun cdv A outer s H vs Q E hr h => ?_)
  · obtain ⟨r, ⟨v, rfl, _⟩, _⟩ := h
    rfl
  · obtain ⟨r, ⟨v, rfl, hv⟩, k⟩ := h
    refine ⟨_, pw_B, ?_⟩
    refine b_retE (P := Is (.bl (r.num != 0))) ?_ fun v' H2 s2 h => k v' H2 s2 h
    exact ev_cty call_bool1 T.bool (by decide +kernel) (ea_1 (ev_over T (ev_v (pv 0) rfl hv mono_ins)) mono_is) (fun vs H2 _ h => by
        cases isOne h
        exact .inl ⟨_, rfl, .refl _, rfl⟩) fun vs H Q Q' k h => h.elim (fun ⟨i, e, q⟩ => .inl ⟨i, e, k _ _ q⟩) fun ⟨i, e, q⟩ => .inr ⟨i, e, k _ _ q⟩
theorem scEq : FnScope ["self", "other"] ["self", "other"] (defScope sEq) := ⟨rfl, rfl, rfl, by decide +kernel, rfl, by decide +kernel, by decide +kernel⟩
theorem rat_eq (r q : Rat) : (decide (V.int r.num = V.int q.num) && decide (V.int (r.den : Int) = V.int (q.den : Int))) = decide (r = q) := by
  by_cases h : r = q
  · subst h
    simp
  · rw [decide_eq_false h, Bool.and_eq_false_iff]
    by_cases h1 : r.num = q.num
    · refine .inr (decide_eq_false fun e => h (Rat.ext h1 ?_))
      exact Int.ofNat.inj (V.int.inj e)
    · exact .inl (decide_eq_false fun e => h1 (V.int.inj e))
theorem ok_eq {f C : Addr} {fd : FuncData} (T : Txt K mg C) (F : Fun K "__eq__" "Amount.__eq__" sEq f fd) : FnOk P w K mg base CX0 1 f fd ["self", "other"] (spEqv C fun r q => decide (r = q)) := by
  refine F.ok scEq (fun vs H Q E h => ?_) (fun cdv A outer s H vs Q E hr h => ?_)
  · obtain ⟨r, ⟨v, w, rfl, _⟩, _⟩ := h
    rfl
  · obtain ⟨⟨r, q⟩, ⟨v, w, rfl, hv, hw⟩, k⟩ := h
    dsimp only at hv hw
    refine ⟨_, pw_B, ?_⟩
    refine b_retE (P := Is (.bl (decide (r = q)))) (Ev.is (v := .bl (true && (decide (V.int r.num = V.int q.num) && decide (V.int (r.den : Int) = V.int (q.den : Int))))) (ev_and ?_ fun _ => ev_and ?_ fun _ => ev_and1 ?_) (by rw [rat_eq, Bool.true_and])) fun v' H2 s2 h => k v' H2 s2 h
    · exact ev_isiC T.isi (ev_v (pv 1) rfl hw mono_ins) mono_ins (ev_c (pe_glob rfl T.mgC rfl)) (ty_ins T) kit_same
    · exact CC.ev (c_eqS (ev_over T (ev_v (pv 0) rfl hv mono_ins)) (ev_over T (ev_v (pv 1) rfl hw mono_ins)) rfl)
    · exact CC.ev (c_eqS (ev_under T (ev_v (pv 0) rfl hv mono_ins)) (ev_under T (ev_v (pv 1) rfl hw mono_ins)) rfl)
end
end Kn

namespace Kn
open PySem PySem.Spec PyProof.Rows L2 Cb
section
variable {P : Program} {w : World} {K : PySem.W.Frag} {mg : Str → Option Value} {base : Heap}
/-! ### compared -/
theorem scCmp : FnScope ["self", "other", "over", "under", "left", "right"] ["self", "other"] (defScope sCmp) := ⟨rfl, rfl, rfl, by decide +kernel, rfl, by decide +kernel, by decide +kernel⟩
theorem ok_cmp {f C : Addr} {fd : FuncData} (hh : Has P w K mg base C) (F : Fun K "compared" "Amount.compared" sCmp f fd) : FnOk P w K mg base CX0 3 f fd ["self", "other"] (spCmp C) := by
  obtain ⟨f1, fd1, G1, g1, k1, b1⟩ := hh.parts
  have T := hh.T
  refine F.ok scCmp (fun vs H Q E h => ?_) (fun cdv A outer s H vs Q E hr h => ?_)
  · obtain ⟨d, ⟨⟨v, w, rfl, _⟩, _⟩, _⟩ := h
    rfl
  · obtain ⟨⟨r, q⟩, ⟨⟨v, v2, rfl, hv, hw⟩, hr1, hq1⟩, k⟩ := h
    dsimp only at hv hw hr1 hq1
    refine ⟨_, pw_B, ?_⟩
    refine b_asgE (pg_tup rfl (pgs_cons (pg_name (i := 2) scCmp.nd rfl (.inl rfl)) (pgs_cons (pg_name (i := 3) scCmp.nd rfl (.inl rfl)) pgs_nil))) (ev_parts ⟨G1, hr, g1, k1, b1⟩ (ev_v (pv 1) rfl hw mono_num)) fun u H1 s1 ⟨t, et, ht⟩ => ?_
    refine ⟨t, _, et, .of ht, rfl, _, _, rfl, _, _, rfl, rfl, ?_⟩
    have hv1 := mono_ins _ _ _ s1 hv
    refine b_setE (i := 4) scCmp.nd rfl (.inl rfl) (ev_opC op_mulW (ev_over T (ev_v (pv 0) rfl hv1 mono_ins)) (ev_vi (pv 3) rfl) (mulOk hr1.1 hq1.2)) fun _ H2 s2 e => ?_
    cases e
    have hv2 := mono_ins _ _ _ s2 hv1
    refine b_setE (i := 5) scCmp.nd rfl (.inl rfl) (ev_opC op_mulW (ev_vi (pv 2) rfl) (ev_under T (ev_v (pv 0) rfl hv2 mono_ins)) (mulOk hq1.1 hr1.2)) fun _ H3 s3 e => ?_
    cases e
    have s03 := (s1.trans s2).trans s3
    refine b_ifE (k := decide (r.num * (q.den : Int) < q.num * (r.den : Int))) ?_ (fun h H4 s4 => ?_) (fun h H4 s4 => ?_)
    · exact CC.et (c_I op_lt (nomark _) (ev_vi (pv 4) rfl) (ev_vi (pv 5) rfl))
    · have l : r < q := (Rat.lt_iff r q).mpr (of_decide_eq_true h)
      refine b_retE (ev_negI (ev_c pe_int)) fun v' H5 s5 h => k v' H5 ((s03.trans s4).trans s5) ?_
      show v' = .int (cmpR r q)
      unfold cmpR
      rw [if_pos l]
      exact h
    · have l : ¬ r < q := fun z => of_decide_eq_false h ((Rat.lt_iff r q).mp z)
      refine b_nil ?_
      refine b_retE (P := Is (.int (if q < r then 1 else 0))) (ev_if (k := decide (q.num * (r.den : Int) < r.num * (q.den : Int))) ?_ (fun h => ?_) (fun h => ?_)) fun v' H5 s5 h => k v' H5 ((s03.trans s4).trans s5) ?_
      · exact CC.et (c_I op_gt (nomark _) (ev_vi (pv 4) rfl) (ev_vi (pv 5) rfl))
      · rw [if_pos ((Rat.lt_iff q r).mpr (of_decide_eq_true h))]
        exact ev_c pe_int
      · rw [if_neg fun z => of_decide_eq_false h ((Rat.lt_iff q r).mp z)]
        exact ev_c pe_int
      · show v' = .int (cmpR r q)
        unfold cmpR
        rw [if_neg l]
        exact h
end
/-! ### the operators in a body -/
structure BinF (P : Program) (w : World) (K : PySem.W.Frag) (mg : Str → Option Value) (base : Heap) (C : Addr) (op : Operator) (g : Rat → Rat → Rat) : Prop where
  ex : ∃ (f : Addr) (fd : FuncData), FnOk P w K mg base CX0 4 f fd ["self", "other"] (spBin C g) ∧ Binds K fd ["self", "other"] [] ∧ Own K C (PySem.dunder op.info.2) f
  sf : PySem.W.selfFirst K C = true
  rf : ∃ f : Addr, PySem.W.findIn K (.ref C) (dunderR op.info.2) = some (some (.ref f))
  i1 : ∃ fo, PySem.W.findIn K (.type "int") (PySem.dunder op.info.2) = some fo
  i2 : ∃ ro, PySem.W.findIn K (.type "int") (dunderR op.info.2) = some ro
  s1 : PySem.W.subIn K (.type "int") (.ref C) = some false
structure RefF (P : Program) (w : World) (K : PySem.W.Frag) (mg : Str → Option Value) (base : Heap) (C : Addr) (op : Operator) (g : Rat → Rat → Rat) : Prop where
  ex : ∃ (f : Addr) (fd : FuncData), FnOk P w K mg base CX0 5 f fd ["self", "other"] (spBin C g) ∧ Binds K fd ["self", "other"] [] ∧ Own K C (dunderR op.info.2) f
  s2 : PySem.W.subIn K (.ref C) (.type "int") = some false
def rBL (C : Addr) (g : Rat → Rat → Rat) : R2 := fun x y H Q => ∃ r q, (Ins C (pf r) x H ∧ Num C q y H) ∧ Bd 2000 r ∧ Bd 2000 q ∧ ∀ v H', Same H H' → Ins C (pf (g r q)) v H' → Q v H'
def rBR (C : Addr) (g : Rat → Rat → Rat) : R2 := fun x y H Q => ∃ (i : Int) (q : Rat), (x = .int i ∧ Ins C (pf q) y H) ∧ Bd 2000 (i : Rat) ∧ Bd 2000 q ∧ ∀ v H', Same H H' → Ins C (pf (g q i)) v H' → Q v H'
section
variable {X : Cx} {C : Addr} {op : Operator} {g : Rat → Rat → Rat}
theorem opL (B : BinF X.prog X.w X.K X.mg X.base C op g) (hr : Room 4 X.A) : OpR X (binaryOp op) (rBL C g) := by
  obtain ⟨f, fd, F, b, o⟩ := B.ex
  obtain ⟨f2, hf2⟩ := B.rf
  obtain ⟨fo, h1⟩ := B.i1
  obtain ⟨ro, h2⟩ := B.i2
  intro pins s σ H x y v u Q I rx ry ⟨r, q, ⟨hx, hy⟩, b1, b2, k⟩
  obtain ⟨a, dx, ex, ha⟩ := id hx
  rcases hy with hy | ⟨i, rfl, e⟩
  · obtain ⟨a', dx', ex', ha'⟩ := id hy
    exact op_own F hr b B.sf o pins s σ H x y v u Q I rx ry ⟨a, dx, _, ex, ha, ⟨a', dx', _, ex', ha'⟩, (r, q), ⟨⟨x, y, rfl, hx, .inl hy⟩, b1, b2⟩, k⟩
  · exact op_ownI F hr b B.sf o hf2 (.inr ⟨_, rfl⟩) h1 h2 B.s1 pins s σ H x (.int i) v u Q I rx ry ⟨a, dx, _, ex, ha, ⟨i, rfl⟩, (r, q), ⟨⟨x, .int i, rfl, hx, .inr ⟨i, rfl, e⟩⟩, b1, b2⟩, k⟩
theorem opR {idl : String} {Bn : Builtin} {g' : Rat → Rat → Rat} (B : BinF X.prog X.w X.K X.mg X.base C op g) (R : RefF X.prog X.w X.K X.mg X.base C op g') (hr : Room 5 X.A) (fillsT : fillsNumberSlot (.type "int") op.info.2 = pure true) (slot : Slot "int" (PySem.dunder op.info.2) idl) (entry : entryFor table idl = some Bn) (args : ∀ a b, argsOk idl ⟨[a, b], []⟩)
    (ni : ∀ (i : Int) (t : Tok) (x C dx : Addr), Meets (Bn ⟨[.int i t, .ref x], []⟩) (GCb.NI x C dx)) : OpR X (binaryOp op) (rBR C g') := by
  obtain ⟨f0, fd0, F0, b0, o0⟩ := B.ex
  obtain ⟨f, fd, F, b, o⟩ := R.ex
  rintro pins s σ H x y v u Q I rx ry ⟨i, q, ⟨rfl, hy⟩, b1, b2, k⟩
  obtain ⟨a, dx, ex, ha⟩ := id hy
  exact op_ownR F hr b B.sf o0.at_ o R.s2 fillsT slot entry args ni pins s σ H (.int i) y v u Q I rx ry ⟨i, a, dx, _, rfl, ex, ha, (q, (i : Rat)), ⟨⟨y, .int i, rfl, hy, .inr ⟨i, rfl, rfl⟩⟩, b2, b1⟩, k⟩
variable {σ : L2.St} {H : Hp} {a b : Expr} {p : Pos} {r q : Rat} {i : Int}
theorem ev_L (o : OpR X (binaryOp op) (rBL C g)) (ha : Ev X σ H a (Ins C (pf r))) (hb : Ev X σ H b (Num C q)) (h1 : Bd 2000 r) (h2 : Bd 2000 q) : Ev X σ H (.BinOp a op b p) (Ins C (pf (g r q))) :=
  ev_op o ha hb mono_ins (fun x y H2 _ px py => ⟨r, q, ⟨px, py⟩, h1, h2, fun v H' s h => ⟨s, h⟩⟩) fun x y H2 Q Q' k ⟨r, q, h0, h1, h2, h3⟩ => ⟨r, q, h0, h1, h2, fun v H' s h => k _ _ (h3 v H' s h)⟩
theorem ev_R (o : OpR X (binaryOp op) (rBR C g)) (ha : Ev X σ H a (Is (.int i))) (hb : Ev X σ H b (Ins C (pf q))) (h1 : Bd 2000 (i : Rat)) (h2 : Bd 2000 q) : Ev X σ H (.BinOp a op b p) (Ins C (pf (g q i))) :=
  ev_op o ha hb mono_is (fun x y H2 _ px py => ⟨i, q, ⟨px, py⟩, h1, h2, fun v H' s h => ⟨s, h⟩⟩) fun x y H2 Q Q' k ⟨r, q, h0, h1, h2, h3⟩ => ⟨r, q, h0, h1, h2, fun v H' s h => k _ _ (h3 v H' s h)⟩
/-! ==, != -/
structure EqF (P : Program) (w : World) (K : PySem.W.Frag) (mg : Str → Option Value) (base : Heap) (C : Addr) (op : CmpOp) (k : Nat) (g : Rat → Rat → Bool) : Prop where
  ex : ∃ (f : Addr) (fd : FuncData), FnOk P w K mg base CX0 k f fd ["self", "other"] (spEqv C g) ∧ Binds K fd ["self", "other"] [] ∧ Own K C (cmpInfo op).2.1 f
def rEqv (C : Addr) (g : Rat → Rat → Bool) : R2 := fun x y H Q => ∃ r q, Ins C (pf r) x H ∧ Ins C (pf q) y H ∧ ∀ v H', Same H H' → Is (.bl (g r q)) v H' → Q v H'
theorem opE {op : CmpOp} {k : Nat} {g : Rat → Rat → Bool} (ho : ∀ u v, compareOp op u v = richCompare op u v) (B : EqF X.prog X.w X.K X.mg X.base C op k g) (hr : Room k X.A) : OpR X (compareOp op) (rEqv C g) := by
  obtain ⟨f, fd, F, b, o⟩ := B.ex
  intro pins s σ H x y v u Q I rx ry ⟨r, q, hx, hy, k⟩
  obtain ⟨a, dx, ex, ha⟩ := id hx
  obtain ⟨a', dx', ex', ha'⟩ := id hy
  exact op_cmpOwn ho F hr b o pins s σ H x y v u Q I rx ry ⟨a, dx, _, ex, ha, ⟨a', dx', _, ex', ha'⟩, (r, q), ⟨x, y, rfl, hx, hy⟩, k⟩
theorem c_E {op : CmpOp} {g : Rat → Rat → Bool} (o : OpR X (compareOp op) (rEqv C g)) (hm : behindInMarks op b = false) (ha : Ev X σ H a (Ins C (pf r))) (hb : Ev X σ H b (Ins C (pf q))) : CC X σ H op a b (.bl (g r q)) :=
  ⟨_, _, _, o, hm, ha, hb, mono_ins, fun x y H2 _ px py => ⟨r, q, px, py, fun v H' s h => ⟨s, h⟩⟩, fun x y H2 Q Q' k ⟨r, q, h0, h1, h3⟩ => ⟨r, q, h0, h1, fun v H' s h => k _ _ (h3 v H' s h)⟩⟩
theorem c_eqA (o : OpR X (compareOp .Eq) (rEqv C fun r q => decide (r = q))) (ha : Ev X σ H a (Ins C (pf r))) (hb : Ev X σ H b (Ins C (pf q))) (hm : behindInMarks .Eq b = false := by exact nomark _) : CC X σ H .Eq a b (.bl (decide (r = q))) := c_E o hm ha hb
theorem c_neA (o : OpR X (compareOp .NotEq) (rEqv C fun r q => !decide (r = q))) (ha : Ev X σ H a (Ins C (pf r))) (hb : Ev X σ H b (Ins C (pf q))) (hm : behindInMarks .NotEq b = false := by exact nomark _) : CC X σ H .NotEq a b (.bl (!decide (r = q))) := c_E o hm ha hb
end
section
variable {P : Program} {w : World} {K : PySem.W.Frag} {mg : Str → Option Value} {base : Heap}
theorem scRadd : FnScope ["self", "other"] ["self", "other"] (defScope sRadd) := ⟨rfl, rfl, rfl, by decide +kernel, rfl, by decide +kernel, by decide +kernel⟩
theorem scRmul : FnScope ["self", "other"] ["self", "other"] (defScope sRmul) := ⟨rfl, rfl, rfl, by decide +kernel, rfl, by decide +kernel, by decide +kernel⟩
theorem scNe : FnScope ["self", "other"] ["self", "other"] (defScope sNe) := ⟨rfl, rfl, rfl, by decide +kernel, rfl, by decide +kernel, by decide +kernel⟩
theorem ok_radd {f C : Addr} {fd : FuncData} (B : BinF P w K mg base C .Add fun r q => r + q) (F : Fun K "__radd__" "Amount.__radd__" sRadd f fd) : FnOk P w K mg base CX0 5 f fd ["self", "other"] (spBin C fun r q => r + q) := by
  refine F.ok scRadd (fun vs H Q E h => ?_) (fun cdv A outer s H vs Q E hr h => ?_)
  · obtain ⟨d, ⟨⟨v, w, rfl, _⟩, _⟩, _⟩ := h
    rfl
  · obtain ⟨⟨r, q⟩, ⟨⟨v, v2, rfl, hv, hw⟩, hr1, hq1⟩, k⟩ := h
    dsimp only at hv hw hr1 hq1
    refine ⟨_, pw_B, ?_⟩
    exact b_retE (ev_L (opL B hr) (ev_v (pv 0) rfl hv mono_ins) (ev_v (pv 1) rfl hw mono_num) hr1 hq1) fun v' H2 s2 h => k v' H2 s2 h
theorem ok_rmul {f C : Addr} {fd : FuncData} (B : BinF P w K mg base C .Mult fun r q => r * q) (F : Fun K "__rmul__" "Amount.__rmul__" sRmul f fd) : FnOk P w K mg base CX0 5 f fd ["self", "other"] (spBin C fun r q => r * q) := by
  refine F.ok scRmul (fun vs H Q E h => ?_) (fun cdv A outer s H vs Q E hr h => ?_)
  · obtain ⟨d, ⟨⟨v, w, rfl, _⟩, _⟩, _⟩ := h
    rfl
  · obtain ⟨⟨r, q⟩, ⟨⟨v, v2, rfl, hv, hw⟩, hr1, hq1⟩, k⟩ := h
    dsimp only at hv hw hr1 hq1
    refine ⟨_, pw_B, ?_⟩
    exact b_retE (ev_L (opL B hr) (ev_v (pv 0) rfl hv mono_ins) (ev_v (pv 1) rfl hw mono_num) hr1 hq1) fun v' H2 s2 h => k v' H2 s2 h
theorem ok_ne {f C : Addr} {fd : FuncData} (B : EqF P w K mg base C .Eq 1 fun r q => decide (r = q)) (F : Fun K "__ne__" "Amount.__ne__" sNe f fd) : FnOk P w K mg base CX0 2 f fd ["self", "other"] (spEqv C fun r q => !decide (r = q)) := by
  refine F.ok scNe (fun vs H Q E h => ?_) (fun cdv A outer s H vs Q E hr h => ?_)
  · obtain ⟨d, ⟨v, w, rfl, _⟩, _⟩ := h
    rfl
  · obtain ⟨⟨r, q⟩, ⟨v, v2, rfl, hv, hw⟩, k⟩ := h
    dsimp only at hv hw
    refine ⟨_, pw_B, ?_⟩
    refine b_retE (P := Is (.bl (!decide (r = q)))) (ev_not ?_) fun v' H2 s2 h => k v' H2 s2 h
    exact CC.ev (c_eqA (opE (fun _ _ => rfl) B hr) (ev_v (pv 0) rfl hv mono_ins) (ev_v (pv 1) rfl hw mono_ins))
end
end Kn

namespace GCb
open PySem
open PySem.Sem (wp)
theorem bool_any {prog : Program} {w : World} (v : Value) : MeetsIn prog w (Builtin.«bool.__new__» ⟨[.type "bool", v], []⟩) (fun A R s => wpAny (model prog w) A.in1 (truthy v) (fun b s' => R (.ok (.ret (.bool b))) s') (fun e s' => R (.error e) s') s) := by
  intro A R s hs
  have f1 := F.conv_sub_bool
  unfold Builtin.«bool.__new__»
  obtain ⟨hp, g, d, tk, os⟩ := s
  repeat (any_goals (first | assumption | (with_reducible refine wpAny_mono hs (fun b s' h => ?_) fun _ _ z => z) | wp_step))
theorem call_bool_any {prog : Program} {w : World} {A : Around} {E : Value → Shared → Prop} {s : Shared} {v : Value} {Q : Value → Shared → Prop} (h : wpAny (model prog w) A.in1.in1 (truthy v) (fun b s' => Q (.bool b) s') E s) : wpAny (model prog w) A (call (.type "bool") [v]) Q E s :=
  callType_newIn F.called_bool F.newNe_bool (F.typeCall_bool_1 v) (F.newCall_bool_1 v) (fun obj => F.args_object_init_2 obj v) F.entry_bool_new (bool_any v) (wpAny_mono h (fun b s' q => ⟨rfl, q⟩) fun _ _ z => z)
end GCb
namespace Cb
open PySem PySem.Spec PyProof.Rows L2
section
variable {X : Cx} {k : Nat} {f C : Addr} {fd : FuncData} {ps : List Str} {sp : Sp}
/-- bool(x) of an instance; the def hands back a bool -/
theorem call_boolOwn (F : FnOk X.prog X.w X.K X.mg X.base CX0 k f fd ps sp) (hr : Room (k + 2) X.A) (hb : Binds X.K fd ps []) (o : Own X.K C "__bool__" f) : CallR X (.type "bool") (fun vs H Q => ∃ x a dx fs, vs = [x] ∧ x = .ref a ∧ H a = some (.ins C dx fs) ∧ sp [x] H (fun v H' => ∃ c, v = .bl c ∧ Q v H') E0) := by
  intro pins s σ H vs us Q I r h
  obtain ⟨x, a, dx, fs, rfl, rfl, ha, h⟩ := h
  obtain ⟨u, rfl, r1⟩ := vals1 r
  cases r1
  obtain ⟨od, J⟩ := ins_at I ha
  obtain ⟨m, hF⟩ := I.fr
  have F' := F.run X.A.in1.in1 X.stack s H ⟨[.ref a], []⟩ ([Value.ref a] ++ []) [V.ref a] _ E0 hr.in1.in1 I.env0.in1.in1 (hb s [.ref a] I.kIn (by rw [List.append_nil, ← F.len _ _ _ _ h]; rfl)) (show Vals [V.ref a] ([Value.ref a] ++ []) from .cons rfl .nil) h
  refine GCb.call_bool_any (PySem.W.truthy_K hF I.ok.mod.kin J o.at_ o.fn (wpAny_call (codeAny_mono F' fun r s' hq => ?_)))
  cases r with
  | error e => exact False.elim hq
  | ok fl =>
    cases fl with
    | ret w =>
      obtain ⟨v, H', I', rv, c, rfl, q⟩ := I.after hq
      cases rv
      exact ⟨.bl c, H', I', rfl, q⟩
    | next => exact False.elim hq
    | brk => exact False.elim hq
    | cont => exact False.elim hq
end
end Cb
namespace Kn
open PySem PySem.Spec PyProof.Rows L2 Cb
/-! ### all of Amount in a body -/
structure MethF (X : Cx) (C : Addr) (m : Str) (k : Nat) (ps : List Str) (sp : Sp) : Prop where
  ex : ∃ (f : Addr) (fd : FuncData), FnOk X.prog X.w X.K X.mg X.base CX0 k f fd ps sp ∧ Room k X.A ∧ Binds X.K fd ps [] ∧ Meth X.K C m f
structure PropF (X : Cx) (C : Addr) (m : Str) (k : Nat) (sp : Sp) : Prop where
  ex : ∃ (p f : Addr) (fd : FuncData), FnOk X.prog X.w X.K X.mg X.base CX0 k f fd ["self"] sp ∧ Room (k + 1) X.A ∧ Binds X.K fd ["self"] [] ∧ PropOf X.K C m p f
def rUnA (C : Addr) (g : Rat → Rat) : V → Hp → VK → Prop := fun x H Q => ∃ r, Ins C (pf r) x H ∧ Bd 2000 r ∧ ∀ v H', Same H H' → Ins C (pf (g r)) v H' → Q v H'
def rTruA (C : Addr) : List V → Hp → VK → Prop := fun vs H Q => ∃ x r, vs = [x] ∧ Ins C (pf r) x H ∧ ∀ v H', Same H H' → Is (.bl (r.num != 0)) v H' → Q v H'
structure AmX (X : Cx) (C : Addr) : Prop where
  T : Txt X.K X.mg C
  make : MkX X C
  add : OpR X (binaryOp .Add) (rBL C fun r q => r + q)
  sub : OpR X (binaryOp .Sub) (rBL C fun r q => r - q)
  mul : OpR X (binaryOp .Mult) (rBL C fun r q => r * q)
  rsub : OpR X (binaryOp .Sub) (rBR C fun r q => q - r)
  rmul : OpR X (binaryOp .Mult) (rBR C fun r q => r * q)
  neg : UnR X (unaryOp .USub) (rUnA C fun r => -r)
  abs : CallR X (.builtin "abs") (fun vs H Q => ∃ x, vs = [x] ∧ rUnA C absR x H Q)
  tru : CallR X (.type "bool") (rTruA C)
  eq : OpR X (compareOp .Eq) (rEqv C fun r q => decide (r = q))
  ne : OpR X (compareOp .NotEq) (rEqv C fun r q => !decide (r = q))
  cmp : MethF X C "compared" 3 ["self", "other"] (spCmp C)
  pair : PropF X C "pair" 1 (spPair C)
  down : PropF X C "down" 2 (spDn C)
  up : PropF X C "up" 2 (spUpp C)
section
variable {X : Cx} {C : Addr} {k : Nat} {f : Addr} {fd : FuncData}
theorem un_negA {g : Rat → Rat} (F : FnOk X.prog X.w X.K X.mg X.base CX0 k f fd ["self"] (spUn C g)) (hr : Room k X.A) (hb : Binds X.K fd ["self"] []) (o : Own X.K C "__neg__" f) : UnR X (unaryOp .USub) (rUnA C g) := by
  intro pins s σ H x v Q I rx ⟨r, hx, b, q⟩
  obtain ⟨a, dx, ex, ha⟩ := id hx
  exact un_own F hr hb o pins s σ H x v Q I rx ⟨a, dx, _, ex, ha, r, ⟨⟨x, rfl, hx⟩, b⟩, q⟩
theorem call_absA {g : Rat → Rat} (F : FnOk X.prog X.w X.K X.mg X.base CX0 k f fd ["self"] (spUn C g)) (hr : Room (k + 1) X.A) (hb : Binds X.K fd ["self"] []) (o : Own X.K C "__abs__" f) : CallR X (.builtin "abs") (fun vs H Q => ∃ x, vs = [x] ∧ rUnA C g x H Q) := by
  intro pins s σ H vs us Q I rx ⟨x, e, r, hx, b, q⟩
  obtain ⟨a, dx, ex, ha⟩ := id hx
  exact call_absOwn F hr hb o pins s σ H vs us Q I rx ⟨x, e, a, dx, _, ex, ha, r, ⟨⟨x, rfl, hx⟩, b⟩, q⟩
theorem call_boolA (F : FnOk X.prog X.w X.K X.mg X.base CX0 k f fd ["self"] (spTru C)) (hr : Room (k + 2) X.A) (hb : Binds X.K fd ["self"] []) (o : Own X.K C "__bool__" f) : CallR X (.type "bool") (rTruA C) := by
  intro pins s σ H vs us Q I rx ⟨x, r, e, hx, q⟩
  obtain ⟨a, dx, ex, ha⟩ := id hx
  exact call_boolOwn F hr hb o pins s σ H vs us Q I rx ⟨x, a, dx, _, e, ex, ha, r, ⟨x, rfl, hx⟩, fun v H' s h => ⟨_, h, q v H' s h⟩⟩
variable {σ : L2.St} {H : Hp} {a b : Expr} {p p' : Pos} {r q : Rat} {i : Int} {P : Pd}
theorem ev_add (A : AmX X C) (ha : Ev X σ H a (Ins C (pf r))) (hb : Ev X σ H b (Num C q)) (h1 : Bd 2000 r) (h2 : Bd 2000 q) : Ev X σ H (.BinOp a .Add b p) (Ins C (pf (r + q))) := ev_L A.add ha hb h1 h2
theorem ev_sub (A : AmX X C) (ha : Ev X σ H a (Ins C (pf r))) (hb : Ev X σ H b (Num C q)) (h1 : Bd 2000 r) (h2 : Bd 2000 q) : Ev X σ H (.BinOp a .Sub b p) (Ins C (pf (r - q))) := ev_L A.sub ha hb h1 h2
theorem ev_mul (A : AmX X C) (ha : Ev X σ H a (Ins C (pf r))) (hb : Ev X σ H b (Num C q)) (h1 : Bd 2000 r) (h2 : Bd 2000 q) : Ev X σ H (.BinOp a .Mult b p) (Ins C (pf (r * q))) := ev_L A.mul ha hb h1 h2
theorem ev_rsub (A : AmX X C) (ha : Ev X σ H a (Is (.int i))) (hb : Ev X σ H b (Ins C (pf q))) (h1 : Bd 2000 (i : Rat)) (h2 : Bd 2000 q) : Ev X σ H (.BinOp a .Sub b p) (Ins C (pf ((i : Rat) - q))) := ev_R A.rsub ha hb h1 h2
theorem ev_rmul (A : AmX X C) (ha : Ev X σ H a (Is (.int i))) (hb : Ev X σ H b (Ins C (pf q))) (h1 : Bd 2000 (i : Rat)) (h2 : Bd 2000 q) : Ev X σ H (.BinOp a .Mult b p) (Ins C (pf (q * (i : Rat)))) := ev_R A.rmul ha hb h1 h2
theorem ev_neg (A : AmX X C) (ha : Ev X σ H a (Ins C (pf r))) (h1 : Bd 2000 r) : Ev X σ H (.UnaryOp .USub a p) (Ins C (pf (-r))) :=
  ev_un A.neg ha (fun x H2 _ px => ⟨r, px, h1, fun v H' s h => ⟨s, h⟩⟩) fun x H2 Q Q' k ⟨r, h0, h1, h3⟩ => ⟨r, h0, h1, fun v H' s h => k _ _ (h3 v H' s h)⟩
theorem ev_abs (A : AmX X C) (ha : Ev X σ H a (Ins C (pf r))) (h1 : Bd 2000 r) (hg : Gl X "abs" := by rfl) (hs : starEach [a] X.env = (false, eval a X.env) :: starEach [] X.env := by rfl) (hpl : (backTo p (starEach [] X.env)).any (·.1) = false := by rfl) : Ev X σ H (.Call (.Name "abs" p') [a] [] p) (Ins C (pf (absR r))) :=
  ev_cb A.abs A.T.abs (by decide +kernel) (ea_1 ha mono_ins hs) (fun vs H2 _ h => by
    obtain ⟨v, e, hv⟩ := h.one
    exact ⟨v, e, r, hv, h1, fun v H' s h => ⟨s, h⟩⟩) (fun vs H2 Q Q' k ⟨x, e, r, h0, h1, h3⟩ => ⟨x, e, r, h0, h1, fun v H' s h => k _ _ (h3 v H' s h)⟩) hg (by decide) (by decide) hs hpl
theorem ev_boolA (A : AmX X C) (ha : Ev X σ H a (Ins C (pf r))) (hg : Gl X "bool" := by rfl) (hs : starEach [a] X.env = (false, eval a X.env) :: starEach [] X.env := by rfl) (hpl : (backTo p (starEach [] X.env)).any (·.1) = false := by rfl) : Ev X σ H (.Call (.Name "bool" p') [a] [] p) (Is (.bl (r.num != 0))) :=
  ev_cty A.tru A.T.bool (by decide +kernel) (ea_1 ha mono_ins hs) (fun vs H2 _ h => by
    obtain ⟨v, e, hv⟩ := h.one
    exact ⟨v, r, e, hv, fun v H' s h => ⟨s, h⟩⟩) (fun vs H2 Q Q' k ⟨x, r, e, h0, h3⟩ => ⟨x, r, e, h0, fun v H' s h => k _ _ (h3 v H' s h)⟩) hg (by decide) (by decide) hs hpl
theorem ev_compared (A : AmX X C) {pos ap : Pos} (ha : Ev X σ H a (Ins C (pf r))) (hb : Ev X σ H b (Num C q)) (h1 : Bd 2000 r) (h2 : Bd 2000 q) {pl : Sem Bool}
    (hst : starEach [b] X.env = (false, eval b X.env) :: starEach [] X.env := by rfl) (hpl : (backTo pos (starEach [] X.env)).any (·.1) = false := by rfl)
    (ht : eval (.Call (.Attribute a "compared" ap) [b] [] pos) X.env = (do
      let ov ← eval a X.env
      standAt ap.atName
      let (f, first) ← holding [ov] (getMethod ov "compared" pl)
      callWith pos f first (backTo pos (starEach [b] X.env)) (backToKw pos (keywordEach [] X.env))) := by rfl) : Ev X σ H (.Call (.Attribute a "compared" ap) [b] [] pos) (Is (.int (cmpR r q))) := by
  obtain ⟨f, fd, F, hr, bs, m⟩ := A.cmp.ex
  refine ev_of (pe_meth pw_E A.T.cl m F hr bs .nil pass0 (pa_cons pw_E pa_nil hst) hst hpl ht) fun H1 s1 => wE_mono (ha H1 s1) fun x H2 ⟨s2, px⟩ => ?_
  obtain ⟨c, dx, ex, hc⟩ := id px
  refine ⟨c, dx, _, ex, hc, pf_no r (by decide +kernel) (by decide +kernel), wE_mono (hb H2 (s1.trans s2)) fun y H3 ⟨s3, py⟩ => ?_⟩
  exact ⟨(r, q), ⟨⟨x, y, rfl, mono_ins _ _ _ s3 px, py⟩, h1, h2⟩, fun v H' s h => ⟨(s2.trans s3).trans s, h⟩⟩
theorem ev_pair (A : AmX X C) (ha : Ev X σ H a (Ins C (pf r))) (hb : attributeBase a "pair" X.env (eval a X.env) = eval a X.env := by rfl) : Ev X σ H (.Attribute a "pair" p) (TupI [.int r.num, .int (r.den : Int)]) := by
  obtain ⟨pp, f, fd, F, hr, bs, po⟩ := A.pair.ex
  refine ev_of (pe_prop pw_E A.T.cl po F hr bs .nil pass0 hb) fun H1 s1 => wE_mono (ha H1 s1) fun x H2 ⟨s2, px⟩ => ?_
  obtain ⟨c, dx, ex, hc⟩ := id px
  exact ⟨c, dx, _, ex, hc, r, ⟨_, rfl, c, dx, rfl, hc⟩, fun v H' s h => ⟨s2.trans s, h⟩⟩
theorem ev_down (A : AmX X C) (ha : Ev X σ H a (Ins C (pf r))) (h1 : Bd 2000 r) (hb : attributeBase a "down" X.env (eval a X.env) = eval a X.env := by rfl) : Ev X σ H (.Attribute a "down" p) (Is (.int (r.num / r.den))) := by
  obtain ⟨pp, f, fd, F, hr, bs, po⟩ := A.down.ex
  refine ev_of (pe_prop pw_E A.T.cl po F hr bs .nil pass0 hb) fun H1 s1 => wE_mono (ha H1 s1) fun x H2 ⟨s2, px⟩ => ?_
  obtain ⟨c, dx, ex, hc⟩ := id px
  exact ⟨c, dx, _, ex, hc, r, ⟨⟨_, rfl, c, dx, rfl, hc⟩, h1⟩, fun v H' s h => ⟨s2.trans s, h⟩⟩
theorem ev_up (A : AmX X C) (ha : Ev X σ H a (Ins C (pf r))) (h1 : Bd 2000 r) (hb : attributeBase a "up" X.env (eval a X.env) = eval a X.env := by rfl) : Ev X σ H (.Attribute a "up" p) (Is (.int (-(-r.num / r.den)))) := by
  obtain ⟨pp, f, fd, F, hr, bs, po⟩ := A.up.ex
  refine ev_of (pe_prop pw_E A.T.cl po F hr bs .nil pass0 hb) fun H1 s1 => wE_mono (ha H1 s1) fun x H2 ⟨s2, px⟩ => ?_
  obtain ⟨c, dx, ex, hc⟩ := id px
  exact ⟨c, dx, _, ex, hc, r, ⟨⟨_, rfl, c, dx, rfl, hc⟩, h1⟩, fun v H' s h => ⟨s2.trans s, h⟩⟩
end
end Kn

namespace Kn
open PySem PySem.Spec PyProof.Rows L2 Cb
/-! ### sizes by inference -/
class BdI (r : Rat) (n : outParam Nat) : Prop where
  h : Bd n r
theorem bd_of {r : Rat} {n : Nat} [i : BdI r n] (h : n ≤ 2000) : Bd 2000 r := i.h.mono h
theorem two_le {n m : Nat} (h : n ≤ m) : 2 ^ n ≤ 2 ^ m := Nat.pow_le_pow_right (by decide) h
theorem bd_mul {r q : Rat} {n m : Nat} (h : Bd n r) (h' : Bd m q) : Bd (n + m) (r * q) := by
  rw [← mul_eq]
  exact bd_div (Int.ne_of_gt (Int.mul_pos (den_pos r) (den_pos q))) (lt_mul h.1 h'.1) (lt_mul h.2 h'.2)
theorem bd_add {r q : Rat} {n m : Nat} (h : Bd n r) (h' : Bd m q) : Bd (n + m + 1) (r + q) := by
  rw [← add_eq]
  refine bd_div (Int.ne_of_gt (Int.mul_pos (den_pos r) (den_pos q))) (lt_add (lt_mul h.1 h'.2) ?_) (Nat.lt_of_lt_of_le (lt_mul h.2 h'.2) (two_le (by omega)))
  rw [Nat.add_comm n m]
  exact lt_mul h'.1 h.2
theorem bd_neg {r : Rat} {n : Nat} (h : Bd n r) : Bd n (-r) := by
  constructor
  · rw [Rat.neg_num, Int.natAbs_neg]
    exact h.1
  · rw [Rat.neg_den]
    exact h.2
theorem bd_sub {r q : Rat} {n m : Nat} (h : Bd n r) (h' : Bd m q) : Bd (n + m + 1) (r - q) := by
  rw [Rat.sub_eq_add_neg]
  exact bd_add h (bd_neg h')
theorem bd_abs {r : Rat} {n : Nat} (h : Bd n r) : Bd n (absR r) := by
  unfold absR
  split
  · exact bd_neg h
  · exact h
theorem bd_int {i : Int} {n : Nat} (h : i.natAbs < 2 ^ (n + 1)) : Bd (n + 1) (i : Rat) := by
  constructor
  · rw [Rat.num_intCast]
    exact h
  · rw [Rat.den_intCast]
    exact Nat.one_lt_two_pow (by omega)
instance iAdd {r q : Rat} {n m : Nat} [a : BdI r n] [b : BdI q m] : BdI (r + q) (n + m + 1) := ⟨bd_add a.h b.h⟩
instance iSub {r q : Rat} {n m : Nat} [a : BdI r n] [b : BdI q m] : BdI (r - q) (n + m + 1) := ⟨bd_sub a.h b.h⟩
instance iMul {r q : Rat} {n m : Nat} [a : BdI r n] [b : BdI q m] : BdI (r * q) (n + m) := ⟨bd_mul a.h b.h⟩
instance iNeg {r : Rat} {n : Nat} [a : BdI r n] : BdI (-r) n := ⟨bd_neg a.h⟩
instance iAbs {r : Rat} {n : Nat} [a : BdI r n] : BdI (absR r) n := ⟨bd_abs a.h⟩
class IntI (i : Int) (n : outParam Nat) : Prop where
  h : i.natAbs < 2 ^ (n + 1)
instance iInt {i : Int} {n : Nat} [a : IntI i n] : BdI (i : Rat) (n + 1) := ⟨bd_int a.h⟩
instance iNegI {i : Int} {n : Nat} [a : IntI i n] : IntI (-i) n := ⟨by rw [Int.natAbs_neg]; exact a.h⟩
instance iAddI {i j : Int} {n m : Nat} [a : IntI i n] [b : IntI j m] : IntI (i + j) (n + m + 1) := ⟨by
  have h1 := a.h
  have h2 := b.h
  have h3 : 2 ^ (n + 1) ≤ 2 ^ (n + m + 1) := two_le (by omega)
  have h4 : 2 ^ (m + 1) ≤ 2 ^ (n + m + 1) := two_le (by omega)
  have := Int.natAbs_add_le i j
  rw [Nat.pow_succ 2 (n + m + 1)]
  omega⟩
instance iSubI {i j : Int} {n m : Nat} [a : IntI i n] [b : IntI j m] : IntI (i - j) (n + m + 1) := ⟨by
  have h1 := a.h
  have h2 := b.h
  have h3 : 2 ^ (n + 1) ≤ 2 ^ (n + m + 1) := two_le (by omega)
  have h4 : 2 ^ (m + 1) ≤ 2 ^ (n + m + 1) := two_le (by omega)
  have := Int.natAbs_sub_le i j
  rw [Nat.pow_succ 2 (n + m + 1)]
  omega⟩
instance iLit0 : IntI 0 3 := ⟨by decide⟩
instance iLit1 : IntI 1 3 := ⟨by decide⟩
instance iLit2 : IntI 2 3 := ⟨by decide⟩
instance iLit3 : IntI 3 3 := ⟨by decide⟩
instance iLit7 : IntI 7 3 := ⟨by decide⟩
section
variable {X : Cx} {C : Addr} {σ : L2.St} {H : Hp} {a b : Expr} {p p' : Pos} {r q : Rat} {i : Int} {n m : Nat}
theorem e_add (A : AmX X C) (ha : Ev X σ H a (Ins C (pf r))) (hb : Ev X σ H b (Num C q)) [BdI r n] [BdI q m] (h1 : n ≤ 2000 := by decide) (h2 : m ≤ 2000 := by decide) : Ev X σ H (.BinOp a .Add b p) (Ins C (pf (r + q))) := ev_L A.add ha hb (bd_of h1) (bd_of h2)
theorem e_sub (A : AmX X C) (ha : Ev X σ H a (Ins C (pf r))) (hb : Ev X σ H b (Num C q)) [BdI r n] [BdI q m] (h1 : n ≤ 2000 := by decide) (h2 : m ≤ 2000 := by decide) : Ev X σ H (.BinOp a .Sub b p) (Ins C (pf (r - q))) := ev_L A.sub ha hb (bd_of h1) (bd_of h2)
theorem e_mul (A : AmX X C) (ha : Ev X σ H a (Ins C (pf r))) (hb : Ev X σ H b (Num C q)) [BdI r n] [BdI q m] (h1 : n ≤ 2000 := by decide) (h2 : m ≤ 2000 := by decide) : Ev X σ H (.BinOp a .Mult b p) (Ins C (pf (r * q))) := ev_L A.mul ha hb (bd_of h1) (bd_of h2)
theorem e_rsub (A : AmX X C) (ha : Ev X σ H a (Is (.int i))) (hb : Ev X σ H b (Ins C (pf q))) [BdI (i : Rat) n] [BdI q m] (h1 : n ≤ 2000 := by decide) (h2 : m ≤ 2000 := by decide) : Ev X σ H (.BinOp a .Sub b p) (Ins C (pf ((i : Rat) - q))) := ev_R A.rsub ha hb (bd_of h1) (bd_of h2)
theorem e_rmul (A : AmX X C) (ha : Ev X σ H a (Is (.int i))) (hb : Ev X σ H b (Ins C (pf q))) [BdI (i : Rat) n] [BdI q m] (h1 : n ≤ 2000 := by decide) (h2 : m ≤ 2000 := by decide) : Ev X σ H (.BinOp a .Mult b p) (Ins C (pf (q * (i : Rat)))) := ev_R A.rmul ha hb (bd_of h1) (bd_of h2)
theorem e_neg (A : AmX X C) (ha : Ev X σ H a (Ins C (pf r))) [BdI r n] (h1 : n ≤ 2000 := by decide) : Ev X σ H (.UnaryOp .USub a p) (Ins C (pf (-r))) := ev_neg A ha (bd_of h1)
theorem et_neF (A : AmX X C) (ha : Ev X σ H a (Ins C (pf r))) (hb : Ev X σ H b (Ins C (pf q))) (e : r = q) (hm : behindInMarks .NotEq b = false := by exact nomark _) : EvT X σ H (.Compare a [.NotEq] [b] p) false :=
  EvT.is (CC.et (c_neA A.ne ha hb hm)) (by rw [decide_eq_true e]; rfl)
theorem ev_eqT (A : AmX X C) (ha : Ev X σ H a (Ins C (pf r))) (hb : Ev X σ H b (Ins C (pf q))) (e : r = q) (hm : behindInMarks .Eq b = false := by exact nomark _) : Ev X σ H (.Compare a [.Eq] [b] p) (Is (.bl true)) :=
  Ev.is (CC.ev (c_eqA A.eq ha hb hm)) (by rw [decide_eq_true e])
end
/-! ### the class behind the top -/
structure AmF (P : Program) (w : World) (K : PySem.W.Frag) (mg : Str → Option Value) (base : Heap) (C : Addr) : Prop where
  has : Has P w K mg base C
  add : BinF P w K mg base C .Add fun r q => r + q
  sub : BinF P w K mg base C .Sub fun r q => r - q
  mul : BinF P w K mg base C .Mult fun r q => r * q
  rsub : RefF P w K mg base C .Sub fun r q => q - r
  rmul : RefF P w K mg base C .Mult fun r q => r * q
  neg : ∃ (f : Addr) (fd : FuncData), FnOk P w K mg base CX0 4 f fd ["self"] (spUn C fun r => -r) ∧ Binds K fd ["self"] [] ∧ Own K C "__neg__" f
  abs : ∃ (f : Addr) (fd : FuncData), FnOk P w K mg base CX0 4 f fd ["self"] (spUn C absR) ∧ Binds K fd ["self"] [] ∧ Own K C "__abs__" f
  tru : ∃ (f : Addr) (fd : FuncData), FnOk P w K mg base CX0 1 f fd ["self"] (spTru C) ∧ Binds K fd ["self"] [] ∧ Own K C "__bool__" f
  eq : EqF P w K mg base C .Eq 1 fun r q => decide (r = q)
  ne : EqF P w K mg base C .NotEq 2 fun r q => !decide (r = q)
  cmp : ∃ (f : Addr) (fd : FuncData), FnOk P w K mg base CX0 3 f fd ["self", "other"] (spCmp C) ∧ Binds K fd ["self", "other"] [] ∧ Meth K C "compared" f
  pair : ∃ (p f : Addr) (fd : FuncData), FnOk P w K mg base CX0 1 f fd ["self"] (spPair C) ∧ Binds K fd ["self"] [] ∧ PropOf K C "pair" p f
  down : ∃ (p f : Addr) (fd : FuncData), FnOk P w K mg base CX0 2 f fd ["self"] (spDn C) ∧ Binds K fd ["self"] [] ∧ PropOf K C "down" p f
  up : ∃ (p f : Addr) (fd : FuncData), FnOk P w K mg base CX0 2 f fd ["self"] (spUpp C) ∧ Binds K fd ["self"] [] ∧ PropOf K C "up" p f
theorem AmF.x {X : Cx} {C : Addr} (h : AmF X.prog X.w X.K X.mg X.base C) (hr : Room 6 X.A) : AmX X C where
  T := h.has.T
  make := h.has.mkx (hr.mono (by decide))
  add := opL h.add (hr.mono (by decide))
  sub := opL h.sub (hr.mono (by decide))
  mul := opL h.mul (hr.mono (by decide))
  rsub := opR h.sub h.rsub (hr.mono (by decide)) PySem.F.fills_int_sub PySem.F.slot_int_sub PySem.F.entry_int_sub PySem.F.args_int_sub_2 GCb.int_sub_ref
  rmul := opR h.mul h.rmul (hr.mono (by decide)) PySem.F.fills_int_mul PySem.F.slot_int_mul PySem.F.entry_int_mul PySem.F.args_int_mul_2 GCb.int_mul_ref
  neg := by
    obtain ⟨f, fd, F, b, o⟩ := h.neg
    exact un_negA F (hr.mono (by decide)) b o
  abs := by
    obtain ⟨f, fd, F, b, o⟩ := h.abs
    exact call_absA F (hr.mono (by decide)) b o
  tru := by
    obtain ⟨f, fd, F, b, o⟩ := h.tru
    exact call_boolA F (hr.mono (by decide)) b o
  eq := opE (fun _ _ => rfl) h.eq (hr.mono (by decide))
  ne := opE (fun _ _ => rfl) h.ne (hr.mono (by decide))
  cmp := by
    obtain ⟨f, fd, F, b, o⟩ := h.cmp
    exact ⟨f, fd, F, hr.mono (by decide), b, o⟩
  pair := by
    obtain ⟨p, f, fd, F, b, o⟩ := h.pair
    exact ⟨p, f, fd, F, hr.mono (by decide), b, o⟩
  down := by
    obtain ⟨p, f, fd, F, b, o⟩ := h.down
    exact ⟨p, f, fd, F, hr.mono (by decide), b, o⟩
  up := by
    obtain ⟨p, f, fd, F, b, o⟩ := h.up
    exact ⟨p, f, fd, F, hr.mono (by decide), b, o⟩
end Kn

namespace Kn
open PySem PySem.Spec PyProof.Rows L2 Cb
abbrev sThree : Stmt := top 31
abbrev sOrder : Stmt := top 32
abbrev sRound : Stmt := top 33
/-! ### more rules -/
section
variable {X : Cx} {C : Addr} {σ : L2.St} {H : Hp} {a b : Expr} {sts : List Stmt} {p p' pos px py pt : Pos} {r q : Rat} {i : Int} {n m : Nat} {D : Ends} {Pa Pb : Pd}
theorem b_par {i j : Nat} {x y : Str} {kt k2 : _} {pt2 : _} (hc : X.calm = true) (hN : X.N.Nodup) (hi : X.N[i]? = some x) (hj : X.N[j]? = some y) (hij : i ≠ j) (hx : X.env.scope.names.lookup x = some .local) (hy : X.env.scope.names.lookup y = some .local)
    (ha : EvA X σ H [a, b] [Pa, Pb]) (k : ∀ v w H', Same H H' → Pa v H' → Pb w H' → wB X sts D ((σ.set i (some v)).set j (some w)) H')
    (hw : swappedStores [.Tuple [.Name x px, .Name y py] kt pt] (.Tuple [a, b] k2 pt2) X.env = pure (some [x, y]) := by rfl)
    (hs : swapsWithSole [.Tuple [.Name x px, .Name y py] kt pt] (.Tuple [a, b] k2 pt2) pos.line X.env = pure false := by rfl) :
    wB X (.Assign [.Tuple [.Name x px, .Name y py] kt pt] (.Tuple [a, b] k2 pt2) pos :: sts) D σ H :=
  b_cons (w_S (ps_par hc hN hi hj hij hx hy pw_A hw hs) (wA_mono (ha H (.refl _)) fun vs H' ⟨s, h⟩ => by
    obtain ⟨v, w, e, h1, h2⟩ := h.two
    exact ⟨v, w, e, k v w H' s h1 h2⟩))
theorem e_abs (A : AmX X C) (ha : Ev X σ H a (Ins C (pf r))) [BdI r n] (h1 : n ≤ 2000 := by decide) (hg : Gl X "abs" := by rfl) (hs : starEach [a] X.env = (false, eval a X.env) :: starEach [] X.env := by rfl) (hpl : (backTo p (starEach [] X.env)).any (·.1) = false := by rfl) : Ev X σ H (.Call (.Name "abs" p') [a] [] p) (Ins C (pf (absR r))) := ev_abs A ha (bd_of h1) hg hs hpl
theorem e_compared (A : AmX X C) {pos ap : Pos} (ha : Ev X σ H a (Ins C (pf r))) (hb : Ev X σ H b (Num C q)) [BdI r n] [BdI q m] (h1 : n ≤ 2000 := by decide) (h2 : m ≤ 2000 := by decide) {pl : Sem Bool}
    (hst : starEach [b] X.env = (false, eval b X.env) :: starEach [] X.env := by rfl) (hpl : (backTo pos (starEach [] X.env)).any (·.1) = false := by rfl)
    (ht : eval (.Call (.Attribute a "compared" ap) [b] [] pos) X.env = (do
      let ov ← eval a X.env
      standAt ap.atName
      let (f, first) ← holding [ov] (getMethod ov "compared" pl)
      callWith pos f first (backTo pos (starEach [b] X.env)) (backToKw pos (keywordEach [] X.env))) := by rfl) : Ev X σ H (.Call (.Attribute a "compared" ap) [b] [] pos) (Is (.int (cmpR r q))) := ev_compared A ha hb (bd_of h1) (bd_of h2) hst hpl ht
theorem e_down (A : AmX X C) (ha : Ev X σ H a (Ins C (pf r))) [BdI r n] (h1 : n ≤ 2000 := by decide) (hb : attributeBase a "down" X.env (eval a X.env) = eval a X.env := by rfl) : Ev X σ H (.Attribute a "down" p) (Is (.int (r.num / r.den))) := ev_down A ha (bd_of h1) hb
theorem e_up (A : AmX X C) (ha : Ev X σ H a (Ins C (pf r))) [BdI r n] (h1 : n ≤ 2000 := by decide) (hb : attributeBase a "up" X.env (eval a X.env) = eval a X.env := by rfl) : Ev X σ H (.Attribute a "up" p) (Is (.int (-(-r.num / r.den)))) := ev_up A ha (bd_of h1) hb
/-- x not in (ints) -/
theorem c_notInT {x : V} {xs : List V} (ha : Ev X σ H a (Is x)) (hb : Ev X σ H b (TupI xs)) (fx : flatV x = true) (fs : xs.all flatV = true) (hm : behindInMarks .NotIn b = false) : CC X σ H .NotIn a b (.bl (!inV x xs)) :=
  ⟨_, _, _, op_notIn_seq, hm, ha, hb, mono_is, fun x' y' H2 _ px ⟨t, ey, ht⟩ => by
    cases px
    exact ⟨t, xs, ey, .inr (.of ht), fx, fs, .refl _, rfl⟩, fun x y H2 Q Q' k ⟨t, ys, h1, h2, h3, h4, q⟩ => ⟨t, ys, h1, h2, h3, h4, k _ _ q⟩⟩
end
/-! ### arithmetic -/
theorem absR_pos {r : Rat} (h : 0 ≤ r) : absR r = r := by
  unfold absR
  rw [if_neg (Int.not_lt.mpr (Rat.num_nonneg.mpr h))]
theorem absR_neg {r : Rat} (h : r < 0) : absR r = -r := by
  unfold absR
  rw [if_pos (Int.not_le.mp fun z => (Rat.not_le.mpr h) (Rat.num_nonneg.mp z))]
theorem absR_cases (r : Rat) : (0 ≤ r ∧ absR r = r) ∨ (r < 0 ∧ absR r = -r) := by
  by_cases h : r < 0
  · exact .inr ⟨h, absR_neg h⟩
  · exact .inl ⟨Rat.not_lt.mp h, absR_pos (Rat.not_lt.mp h)⟩
theorem absR_minus (r : Rat) : absR (-r) = absR r := by
  rcases absR_cases r with ⟨h, e⟩ | ⟨h, e⟩ <;> rcases absR_cases (-r) with ⟨h', e'⟩ | ⟨h', e'⟩ <;> rw [e, e'] <;> grind
theorem mul_nn {r q : Rat} (h : 0 ≤ r) (h' : 0 ≤ q) : 0 ≤ r * q := Rat.mul_nonneg h h'
theorem absR_times (r q : Rat) : absR (r * q) = absR r * absR q := by
  rcases absR_cases r with ⟨h, e⟩ | ⟨h, e⟩ <;> rcases absR_cases q with ⟨h', e'⟩ | ⟨h', e'⟩ <;> rw [e, e']
  · exact absR_pos (mul_nn h h')
  · have z := mul_nn h (show 0 ≤ -q by grind)
    rcases absR_cases (r * q) with ⟨h2, e2⟩ | ⟨h2, e2⟩ <;> rw [e2] <;> grind
  · have z := mul_nn (show 0 ≤ -r by grind) h'
    rcases absR_cases (r * q) with ⟨h2, e2⟩ | ⟨h2, e2⟩ <;> rw [e2] <;> grind
  · have z := mul_nn (show 0 ≤ -r by grind) (show 0 ≤ -q by grind)
    rcases absR_cases (r * q) with ⟨h2, e2⟩ | ⟨h2, e2⟩ <;> rw [e2] <;> grind
theorem i0 : ((0 : Int) : Rat) = 0 := rfl
theorem i1 : ((1 : Int) : Rat) = 1 := rfl
theorem cmpR_nn (r : Rat) : decide (0 ≤ cmpR r ((0 : Int) : Rat)) = decide (0 ≤ r) := by
  rw [i0]
  unfold cmpR
  by_cases h : r < 0
  · rw [if_pos h, decide_eq_false (Rat.not_le.mpr h)]
    rfl
  · rw [if_neg h, decide_eq_true (Rat.not_lt.mp h)]
    split <;> rfl

/-! ### _law_check_three -/
def A3 (C : Addr) : Rat × Rat × Rat → List V → Hp → Prop := fun d vs H => (∃ u v w, vs = [u, v, w] ∧ Ins C (pf d.1) u H ∧ Ins C (pf d.2.1) v H ∧ Ins C (pf d.2.2) w H) ∧ Bd 40 d.1 ∧ Bd 40 d.2.1 ∧ Bd 40 d.2.2
def spThree (C : Addr) : Sp := spP (A3 C) (fun _ => Is (.bl true))
theorem scThree : FnScope ["_law_a", "_law_b", "_law_c", "_law_none", "_law_same"] ["_law_a", "_law_b", "_law_c"] (defScope sThree) := ⟨rfl, rfl, rfl, by decide +kernel, rfl, by decide +kernel, by decide +kernel⟩
section
variable {P : Program} {w : World} {K : PySem.W.Frag} {mg : Str → Option Value} {base : Heap}
theorem ok_three {f C : Addr} {fd : FuncData} (AF : AmF P w K mg base C) (F : Fun K "_law_check_three" "_law_check_three" sThree f fd) : FnOk P w K mg base CX0 7 f fd ["_law_a", "_law_b", "_law_c"] (spThree C) := by
  refine F.ok scThree (fun vs H Q E h => ?_) (fun cdv A outer s H vs Q E hr h => ?_)
  · obtain ⟨d, ⟨⟨u, v, w, rfl, _⟩, _⟩, _⟩ := h
    rfl
  · obtain ⟨⟨r, s1, t⟩, ⟨⟨u, v, w2, rfl, ha, hb, hc⟩, hr1, hs1, ht1⟩, k⟩ := h
    dsimp only at ha hb hc hr1 hs1 ht1
    have A := AF.x (X := (cxOf CX0 P w K mg base ["_law_a", "_law_b", "_law_c", "_law_none", "_law_same"] "_law_check_three" (defScope sThree) f cdv A outer s H E).nox) hr
    haveI : BdI r 40 := ⟨hr1⟩
    haveI : BdI s1 40 := ⟨hs1⟩
    haveI : BdI t 40 := ⟨ht1⟩
    refine ⟨_, pw_B, ?_⟩
    refine b_par (i := 3) (j := 4) rfl scThree.nd rfl rfl (by decide) rfl rfl (ea_2 (ev_make1 A.make (ev_c pe_int)) mono_ins (ev_make1 A.make (ev_c pe_int)) mono_ins) fun n1 n2 H1 z1 hn hs => ?_
    replace k : ∀ v' H', Same H1 H' → Is (.bl true) v' H' → Q v' H' := fun v' H' z h => k v' H' (z1.trans z) h
    replace ha := mono_ins _ _ _ z1 ha
    replace hb := mono_ins _ _ _ z1 hb
    replace hc := mono_ins _ _ _ z1 hc
    have g0 : ((0 : Int) : Rat) = 0 := rfl
    have g1 : ((1 : Int) : Rat) = 1 := rfl
    have g2 : ((2 : Int) : Rat) = 2 := rfl
    have g3 : ((3 : Int) : Rat) = 3 := rfl
    have gm : ((-1 : Int) : Rat) = -1 := rfl
    refine b_ifF (et_w (ew_orF ?_ (ew_orF ?_ (ew_orF ?_ (ew_or1 ?_))))) fun H2 z2 => ?_
    · exact et_neF A (e_add A (ev_v (pv 0) rfl ha mono_ins) (Ev.num (ev_v (pv 1) rfl hb mono_ins))) (e_add A (ev_v (pv 1) rfl hb mono_ins) (Ev.num (ev_v (pv 0) rfl ha mono_ins))) (by grind)
    · exact et_neF A (e_mul A (ev_v (pv 0) rfl ha mono_ins) (Ev.num (ev_v (pv 1) rfl hb mono_ins))) (e_mul A (ev_v (pv 1) rfl hb mono_ins) (Ev.num (ev_v (pv 0) rfl ha mono_ins))) (by grind)
    · exact et_neF A (e_add A (e_add A (ev_v (pv 0) rfl ha mono_ins) (Ev.num (ev_v (pv 1) rfl hb mono_ins))) (Ev.num (ev_v (pv 2) rfl hc mono_ins))) (e_add A (ev_v (pv 0) rfl ha mono_ins) (Ev.num (e_add A (ev_v (pv 1) rfl hb mono_ins) (Ev.num (ev_v (pv 2) rfl hc mono_ins))))) (by grind)
    · exact et_neF A (e_mul A (e_mul A (ev_v (pv 0) rfl ha mono_ins) (Ev.num (ev_v (pv 1) rfl hb mono_ins))) (Ev.num (ev_v (pv 2) rfl hc mono_ins))) (e_mul A (ev_v (pv 0) rfl ha mono_ins) (Ev.num (e_mul A (ev_v (pv 1) rfl hb mono_ins) (Ev.num (ev_v (pv 2) rfl hc mono_ins))))) (by grind)
    replace k : ∀ v' H', Same H2 H' → Is (.bl true) v' H' → Q v' H' := fun v' H' z h => k v' H' (z2.trans z) h
    replace ha := mono_ins _ _ _ z2 ha
    replace hb := mono_ins _ _ _ z2 hb
    replace hc := mono_ins _ _ _ z2 hc
    replace hn := mono_ins _ _ _ z2 hn
    replace hs := mono_ins _ _ _ z2 hs
    refine b_ifF (et_w (ew_orF ?_ (ew_orF ?_ (ew_orF ?_ (ew_or1 ?_))))) fun H3 z3 => ?_
    · exact et_neF A (e_mul A (ev_v (pv 0) rfl ha mono_ins) (Ev.num (e_add A (ev_v (pv 1) rfl hb mono_ins) (Ev.num (ev_v (pv 2) rfl hc mono_ins))))) (e_add A (e_mul A (ev_v (pv 0) rfl ha mono_ins) (Ev.num (ev_v (pv 1) rfl hb mono_ins))) (Ev.num (e_mul A (ev_v (pv 0) rfl ha mono_ins) (Ev.num (ev_v (pv 2) rfl hc mono_ins))))) (by grind)
    · exact et_neF A (e_add A (ev_v (pv 0) rfl ha mono_ins) (Ev.num (ev_v (pv 3) rfl hn mono_ins))) (ev_v (pv 0) rfl ha mono_ins) (by grind)
    · exact et_neF A (e_mul A (ev_v (pv 0) rfl ha mono_ins) (Ev.num (ev_v (pv 4) rfl hs mono_ins))) (ev_v (pv 0) rfl ha mono_ins) (by grind)
    · exact et_neF A (e_mul A (ev_v (pv 0) rfl ha mono_ins) (Ev.num (ev_v (pv 3) rfl hn mono_ins))) (ev_v (pv 3) rfl hn mono_ins) (by grind)
    replace k : ∀ v' H', Same H3 H' → Is (.bl true) v' H' → Q v' H' := fun v' H' z h => k v' H' (z3.trans z) h
    replace ha := mono_ins _ _ _ z3 ha
    replace hb := mono_ins _ _ _ z3 hb
    replace hc := mono_ins _ _ _ z3 hc
    replace hn := mono_ins _ _ _ z3 hn
    replace hs := mono_ins _ _ _ z3 hs
    refine b_ifF (et_w (ew_orF ?_ (ew_orF ?_ (ew_orF ?_ (ew_orF ?_ (ew_orF ?_ (ew_or1 ?_))))))) fun H4 z4 => ?_
    · exact et_neF A (e_sub A (ev_v (pv 0) rfl ha mono_ins) (Ev.num (ev_v (pv 1) rfl hb mono_ins))) (e_add A (ev_v (pv 0) rfl ha mono_ins) (Ev.num (e_neg A (ev_v (pv 1) rfl hb mono_ins)))) (by grind)
    · exact et_neF A (e_sub A (ev_v (pv 0) rfl ha mono_ins) (Ev.num (ev_v (pv 0) rfl ha mono_ins))) (ev_v (pv 3) rfl hn mono_ins) (by grind)
    · exact et_neF A (e_neg A (e_neg A (ev_v (pv 0) rfl ha mono_ins))) (ev_v (pv 0) rfl ha mono_ins) (by grind)
    · exact et_neF A (e_neg A (e_add A (ev_v (pv 0) rfl ha mono_ins) (Ev.num (ev_v (pv 1) rfl hb mono_ins)))) (e_sub A (e_neg A (ev_v (pv 0) rfl ha mono_ins)) (Ev.num (ev_v (pv 1) rfl hb mono_ins))) (by grind)
    · exact et_neF A (e_add A (ev_v (pv 0) rfl ha mono_ins) (Ev.numI (ev_c pe_int))) (ev_v (pv 0) rfl ha mono_ins) (by grind)
    · exact et_neF A (e_rmul A (ev_c pe_int) (ev_v (pv 0) rfl ha mono_ins)) (ev_v (pv 0) rfl ha mono_ins) (by grind)
    replace k : ∀ v' H', Same H4 H' → Is (.bl true) v' H' → Q v' H' := fun v' H' z h => k v' H' (z4.trans z) h
    replace ha := mono_ins _ _ _ z4 ha
    replace hb := mono_ins _ _ _ z4 hb
    replace hc := mono_ins _ _ _ z4 hc
    replace hn := mono_ins _ _ _ z4 hn
    replace hs := mono_ins _ _ _ z4 hs
    refine b_ifF (et_w (ew_orF ?_ (ew_orF ?_ (ew_orF ?_ (ew_or1 ?_))))) fun H5 z5 => ?_
    · exact et_neF A (e_rsub A (ev_c pe_int) (ev_v (pv 0) rfl ha mono_ins)) (e_neg A (ev_v (pv 0) rfl ha mono_ins)) (by grind)
    · exact et_neF A (e_mul A (ev_v (pv 0) rfl ha mono_ins) (Ev.numI (ev_negI (ev_c pe_int)))) (e_neg A (ev_v (pv 0) rfl ha mono_ins)) (by grind)
    · exact et_neF A (e_rmul A (ev_c pe_int) (ev_v (pv 0) rfl ha mono_ins)) (e_add A (ev_v (pv 0) rfl ha mono_ins) (Ev.num (ev_v (pv 0) rfl ha mono_ins))) (by grind)
    · exact et_neF A (e_sub A (e_mul A (ev_v (pv 0) rfl ha mono_ins) (Ev.numI (ev_c pe_int))) (Ev.num (ev_v (pv 0) rfl ha mono_ins))) (e_add A (ev_v (pv 0) rfl ha mono_ins) (Ev.num (ev_v (pv 0) rfl ha mono_ins))) (by grind)
    replace k : ∀ v' H', Same H5 H' → Is (.bl true) v' H' → Q v' H' := fun v' H' z h => k v' H' (z5.trans z) h
    replace ha := mono_ins _ _ _ z5 ha
    replace hb := mono_ins _ _ _ z5 hb
    replace hc := mono_ins _ _ _ z5 hc
    replace hn := mono_ins _ _ _ z5 hn
    replace hs := mono_ins _ _ _ z5 hs
    refine b_retE (P := Is (.bl (true && (true && true)))) (ev_and ?_ fun _ => ev_and ?_ fun _ => ev_and1 ?_) fun v' H' z h => k v' H' z h
    · refine ev_eqT A (e_abs A (ev_v (pv 0) rfl ha mono_ins)) (ev_if (P := Ins C (pf (absR r))) (k := decide (0 ≤ cmpR r ((0 : Int) : Rat))) ?_ (fun h => ?_) fun h => ?_) rfl
      · exact CC.et (c_I op_ge (nomark _) (e_compared A (ev_v (pv 0) rfl ha mono_ins) (Ev.num (ev_v (pv 3) rfl hn mono_ins))) (ev_c pe_int))
      · rw [cmpR_nn] at h
        rw [absR_pos (of_decide_eq_true h)]
        exact ev_v (pv 0) rfl ha mono_ins
      · rw [cmpR_nn] at h
        rw [absR_neg (Rat.not_le.mp (of_decide_eq_false h))]
        exact e_neg A (ev_v (pv 0) rfl ha mono_ins)
    · exact ev_eqT A (e_abs A (e_neg A (ev_v (pv 0) rfl ha mono_ins))) (e_abs A (ev_v (pv 0) rfl ha mono_ins)) (absR_minus r)
    · exact ev_eqT A (e_abs A (e_mul A (ev_v (pv 0) rfl ha mono_ins) (Ev.num (ev_v (pv 1) rfl hb mono_ins)))) (e_mul A (e_abs A (ev_v (pv 0) rfl ha mono_ins)) (Ev.num (e_abs A (ev_v (pv 1) rfl hb mono_ins)))) (absR_times r s1)
end
end Kn

namespace Kn
open PySem PySem.Spec PyProof.Rows L2 Cb
/-! ### signs -/
theorem cmpR_cases (r q : Rat) : (r < q ∧ cmpR r q = -1) ∨ (r = q ∧ cmpR r q = 0) ∨ (q < r ∧ cmpR r q = 1) := by
  unfold cmpR
  by_cases h : r < q
  · exact .inl ⟨h, if_pos h⟩
  · by_cases h' : q < r
    · exact .inr (.inr ⟨h', by rw [if_neg h, if_pos h']⟩)
    · exact .inr (.inl ⟨by grind, by rw [if_neg h, if_neg h']⟩)
theorem cmpR_lt {r q : Rat} (h : r < q) : cmpR r q = -1 := by
  unfold cmpR
  rw [if_pos h]
theorem cmpR_eq {r q : Rat} (h : r = q) : cmpR r q = 0 := by
  subst h
  unfold cmpR
  rw [if_neg (by grind), if_neg (by grind)]
theorem cmpR_gt {r q : Rat} (h : q < r) : cmpR r q = 1 := by
  unfold cmpR
  rw [if_neg (by grind), if_pos h]
theorem cmpR_swap (r q : Rat) : cmpR q r = -cmpR r q := by
  rcases cmpR_cases r q with ⟨h, e⟩ | ⟨h, e⟩ | ⟨h, e⟩ <;> rw [e]
  · exact cmpR_gt h
  · exact cmpR_eq h.symm
  · exact cmpR_lt h
theorem cmpR_sub (r q : Rat) : cmpR (r - q) ((0 : Int) : Rat) = cmpR r q := by
  rw [i0]
  rcases cmpR_cases r q with ⟨h, e⟩ | ⟨h, e⟩ | ⟨h, e⟩ <;> rw [e]
  · exact cmpR_lt (by grind)
  · exact cmpR_eq (by grind)
  · exact cmpR_gt (by grind)
theorem cmpR_plus (r q t : Rat) : cmpR (r + t) (q + t) = cmpR r q := by
  rcases cmpR_cases r q with ⟨h, e⟩ | ⟨h, e⟩ | ⟨h, e⟩ <;> rw [e]
  · exact cmpR_lt (by grind)
  · exact cmpR_eq (by grind)
  · exact cmpR_gt (by grind)
theorem cmpR_minus (r q : Rat) : cmpR (-r) (-q) = -cmpR r q := by
  rcases cmpR_cases r q with ⟨h, e⟩ | ⟨h, e⟩ | ⟨h, e⟩ <;> rw [e]
  · exact cmpR_gt (by grind)
  · exact cmpR_eq (by grind)
  · exact cmpR_lt (by grind)
theorem cmpR_times (r q t : Rat) : cmpR (r * t) (q * t) = cmpR r q * cmpR t ((0 : Int) : Rat) := by
  rw [i0]
  rcases cmpR_cases t 0 with ⟨ht, et⟩ | ⟨ht, et⟩ | ⟨ht, et⟩ <;> rcases cmpR_cases r q with ⟨h, e⟩ | ⟨h, e⟩ | ⟨h, e⟩ <;> rw [e, et]
  · have z := Rat.mul_pos (show 0 < q - r by grind) (show 0 < -t by grind)
    exact cmpR_gt (by grind)
  · exact cmpR_eq (by grind)
  · have z := Rat.mul_pos (show 0 < r - q by grind) (show 0 < -t by grind)
    exact cmpR_lt (by grind)
  · exact cmpR_eq (by grind)
  · exact cmpR_eq (by grind)
  · exact cmpR_eq (by grind)
  · have z := Rat.mul_pos (show 0 < q - r by grind) ht
    exact cmpR_lt (by grind)
  · exact cmpR_eq (by grind)
  · have z := Rat.mul_pos (show 0 < r - q by grind) ht
    exact cmpR_gt (by grind)
theorem cmpR_small (r q : Rat) : -1 ≤ cmpR r q ∧ cmpR r q ≤ 1 := by
  rcases cmpR_cases r q with ⟨h, e⟩ | ⟨h, e⟩ | ⟨h, e⟩ <;> rw [e] <;> decide
theorem cmpR_zero (r q : Rat) : decide (V.int (cmpR r q) = V.int 0) = decide (r = q) := by
  rcases cmpR_cases r q with ⟨h, e⟩ | ⟨h, e⟩ | ⟨h, e⟩ <;> rw [e]
  · rw [decide_eq_false (show ¬ r = q by grind)]
    rfl
  · rw [decide_eq_true h]
    rfl
  · rw [decide_eq_false (show ¬ r = q by grind)]
    rfl
theorem cmpR_in (r q : Rat) : inV (V.int (cmpR r q)) [V.int (-1), V.int 0, V.int 1] = true := by
  rcases cmpR_cases r q with ⟨h, e⟩ | ⟨h, e⟩ | ⟨h, e⟩ <;> rw [e] <;> decide
theorem ne0 (r : Rat) : (r.num != 0) = !decide (r = ((0 : Int) : Rat)) := by
  rw [i0]
  by_cases h : r = 0
  · subst h
    rfl
  · rw [decide_eq_false h]
    have : r.num ≠ 0 := fun z => h (Rat.num_eq_zero.mp z)
    simp [this]
theorem neAbs (r : Rat) : (r.num != 0) = decide (0 < cmpR (absR r) ((0 : Int) : Rat)) := by
  rw [ne0, i0]
  by_cases h : r = 0
  · subst h
    rfl
  · rw [decide_eq_false h]
    have z : 0 < absR r := by
      rcases absR_cases r with ⟨h', e⟩ | ⟨h', e⟩ <;> rw [e] <;> grind
    rw [cmpR_gt z]
    rfl
theorem neF {x y : V} (h : x = y) : (!decide (x = y)) = false := by
  rw [decide_eq_true h]
  rfl
theorem neB {x y : Bool} (h : x = y) : (!decide (V.bl x = V.bl y)) = false := neF (by rw [h])
theorem eqB {x y : Bool} (h : x = y) : decide (V.bl x = V.bl y) = true := decide_eq_true (by rw [h])
/-! ### _law_check_order -/
def spOrder (C : Addr) : Sp := spP (A3 C) (fun _ => Is (.bl true))
theorem scOrder : FnScope ["_law_a", "_law_b", "_law_c", "_law_told", "_law_side"] ["_law_a", "_law_b", "_law_c"] (defScope sOrder) := ⟨rfl, rfl, rfl, by decide +kernel, rfl, by decide +kernel, by decide +kernel⟩
section
variable {P : Program} {w : World} {K : PySem.W.Frag} {mg : Str → Option Value} {base : Heap}
theorem ok_order {f C : Addr} {fd : FuncData} (AF : AmF P w K mg base C) (F : Fun K "_law_check_order" "_law_check_order" sOrder f fd) : FnOk P w K mg base CX0 7 f fd ["_law_a", "_law_b", "_law_c"] (spOrder C) := by
  refine F.ok scOrder (fun vs H Q E h => ?_) (fun cdv A outer s H vs Q E hr h => ?_)
  · obtain ⟨d, ⟨⟨u, v, w, rfl, _⟩, _⟩, _⟩ := h
    rfl
  · obtain ⟨⟨r, q, t⟩, ⟨⟨u, v, w2, rfl, ha, hb, hc⟩, hr1, hs1, ht1⟩, k⟩ := h
    dsimp only at ha hb hc hr1 hs1 ht1
    have A := AF.x (X := (cxOf CX0 P w K mg base ["_law_a", "_law_b", "_law_c", "_law_told", "_law_side"] "_law_check_order" (defScope sOrder) f cdv A outer s H E).nox) hr
    haveI : BdI r 40 := ⟨hr1⟩
    haveI : BdI q 40 := ⟨hs1⟩
    haveI : BdI t 40 := ⟨ht1⟩
    have st : ∀ {H1 H2 : Hp}, (∀ v' H', Same H1 H' → Is (.bl true) v' H' → Q v' H') → Same H1 H2 → (∀ v' H', Same H2 H' → Is (.bl true) v' H' → Q v' H') := fun k z v' H' z' h => k v' H' (z.trans z') h
    refine ⟨_, pw_B, ?_⟩
    refine b_setE (i := 3) scOrder.nd rfl (.inl rfl) (e_compared A (ev_v (pv 0) rfl ha mono_ins) (Ev.num (ev_v (pv 1) rfl hb mono_ins))) fun _ H1 z e => ?_
    cases e
    replace k := st k z
    replace ha := mono_ins _ _ _ z ha
    replace hb := mono_ins _ _ _ z hb
    replace hc := mono_ins _ _ _ z hc
    clear z
    refine b_ifF (et_w (ew_orF ?_ (ew_or1 ?_))) fun H2 z => ?_
    · refine EvT.is (CC.et (c_notInT (xs := [V.int (-1), V.int 0, V.int 1]) (ev_vi (pv 3) rfl) (ev_tupI (ea_3 (ev_negI (ev_c pe_int)) mono_is (ev_c pe_int) mono_is (ev_c pe_int) mono_is) (by show 3 ≤ 1000; decide)) rfl rfl (by rfl))) ?_
      rw [cmpR_in]
      rfl
    · exact EvT.is (CC.et (c_neS (e_compared A (ev_v (pv 1) rfl hb mono_ins) (Ev.num (ev_v (pv 0) rfl ha mono_ins))) (ev_negI (ev_vi (pv 3) rfl)) rfl)) (neF (by rw [cmpR_swap]))
    replace k := st k z
    replace ha := mono_ins _ _ _ z ha
    replace hb := mono_ins _ _ _ z hb
    replace hc := mono_ins _ _ _ z hc
    clear z
    refine b_ifF (et_w (ew_orF ?_ (ew_or1 ?_))) fun H3 z => ?_
    · exact EvT.is (CC.et (c_neS (CC.ev (c_eqS (ev_vi (pv 3) rfl) (ev_c pe_int) rfl)) (CC.ev (c_eqA A.eq (ev_v (pv 0) rfl ha mono_ins) (ev_v (pv 1) rfl hb mono_ins))) rfl)) (neB (cmpR_zero r q))
    · exact EvT.is (CC.et (c_neS (e_compared A (e_sub A (ev_v (pv 0) rfl ha mono_ins) (Ev.num (ev_v (pv 1) rfl hb mono_ins))) (Ev.numI (ev_c pe_int))) (ev_vi (pv 3) rfl) rfl)) (neF (by rw [cmpR_sub]))
    replace k := st k z
    replace ha := mono_ins _ _ _ z ha
    replace hb := mono_ins _ _ _ z hb
    replace hc := mono_ins _ _ _ z hc
    clear z
    refine b_ifF (et_w (ew_orF ?_ (ew_or1 ?_))) fun H4 z => ?_
    · exact EvT.is (CC.et (c_neS (e_compared A (e_add A (ev_v (pv 0) rfl ha mono_ins) (Ev.num (ev_v (pv 2) rfl hc mono_ins))) (Ev.num (e_add A (ev_v (pv 1) rfl hb mono_ins) (Ev.num (ev_v (pv 2) rfl hc mono_ins))))) (ev_vi (pv 3) rfl) rfl)) (neF (by rw [cmpR_plus]))
    · exact EvT.is (CC.et (c_neS (e_compared A (e_neg A (ev_v (pv 0) rfl ha mono_ins)) (Ev.num (e_neg A (ev_v (pv 1) rfl hb mono_ins)))) (ev_negI (ev_vi (pv 3) rfl)) rfl)) (neF (by rw [cmpR_minus]))
    replace k := st k z
    replace ha := mono_ins _ _ _ z ha
    replace hb := mono_ins _ _ _ z hb
    replace hc := mono_ins _ _ _ z hc
    clear z
    refine b_setE (i := 4) scOrder.nd rfl (.inl rfl) (e_compared A (ev_v (pv 2) rfl hc mono_ins) (Ev.numI (ev_c pe_int))) fun _ H5 z e => ?_
    cases e
    replace k := st k z
    replace ha := mono_ins _ _ _ z ha
    replace hb := mono_ins _ _ _ z hb
    replace hc := mono_ins _ _ _ z hc
    clear z
    refine b_ifF ?_ fun H6 z => ?_
    · exact EvT.is (CC.et (c_neS (e_compared A (e_mul A (ev_v (pv 0) rfl ha mono_ins) (Ev.num (ev_v (pv 2) rfl hc mono_ins))) (Ev.num (e_mul A (ev_v (pv 1) rfl hb mono_ins) (Ev.num (ev_v (pv 2) rfl hc mono_ins))))) (ev_opC op_mul (ev_vi (pv 3) rfl) (ev_vi (pv 4) rfl) (.inl (by have := cmpR_small r q; omega))) rfl)) (neF (by rw [cmpR_times]))
    replace k := st k z
    replace ha := mono_ins _ _ _ z ha
    replace hb := mono_ins _ _ _ z hb
    replace hc := mono_ins _ _ _ z hc
    clear z
    refine b_ifF (et_w (EvW.is (ew_and (CC.et (c_I op_le (nomark _) (ev_vi (pv 3) rfl) (ev_c pe_int))) fun _ => ew_and (CC.et (c_I op_le (nomark _) (e_compared A (ev_v (pv 1) rfl hb mono_ins) (Ev.num (ev_v (pv 2) rfl hc mono_ins))) (ev_c pe_int))) fun _ => ew_and1 (CC.et (c_I op_gt (nomark _) (e_compared A (ev_v (pv 0) rfl ha mono_ins) (Ev.num (ev_v (pv 2) rfl hc mono_ins))) (ev_c pe_int)))) ?_)) fun H7 z => ?_
    · rcases cmpR_cases r q with ⟨h, e⟩ | ⟨h, e⟩ | ⟨h, e⟩ <;> rcases cmpR_cases q t with ⟨h', e'⟩ | ⟨h', e'⟩ | ⟨h', e'⟩ <;> rw [e, e'] <;> first | rfl | skip
      · rw [cmpR_lt (show r < t by grind)]
        rfl
      · rw [cmpR_lt (show r < t by grind)]
        rfl
      · rw [cmpR_lt (show r < t by grind)]
        rfl
      · rw [cmpR_eq (show r = t by grind)]
        rfl
    replace k := st k z
    replace ha := mono_ins _ _ _ z ha
    replace hb := mono_ins _ _ _ z hb
    replace hc := mono_ins _ _ _ z hc
    refine b_retE (P := Is (.bl (true && true))) (ev_and (k := true) ?_ fun _ => ev_and1 (k := true) ?_) fun v' H' z h => k v' H' z h
    · exact Ev.is (CC.ev (c_eqS (ev_boolA A (ev_v (pv 0) rfl ha mono_ins)) (CC.ev (c_neA A.ne (ev_v (pv 0) rfl ha mono_ins) (ev_make1 A.make (ev_c pe_int)))) rfl)) (congrArg V.bl (eqB (ne0 r)))
    · exact Ev.is (CC.ev (c_eqS (ev_boolA A (ev_v (pv 0) rfl ha mono_ins)) (CC.ev (c_I op_gt (nomark _) (e_compared A (e_abs A (ev_v (pv 0) rfl ha mono_ins)) (Ev.numI (ev_c pe_int))) (ev_c pe_int))) rfl)) (congrArg V.bl (eqB (neAbs r)))
end
end Kn

namespace Kn
open PySem PySem.Spec PyProof.Rows L2 Cb
/-! ### floors -/
def fl (r : Rat) : Int := r.num / r.den
def ce (r : Rat) : Int := -(-r.num / r.den)
theorem fl_floor (r : Rat) : fl r = r.floor := (Rat.floor_def r).symm
theorem ce_floor (r : Rat) : ce r = -(-r).floor := by
  rw [Rat.floor_def, Rat.neg_num, Rat.neg_den]
  rfl
theorem fl_le (r : Rat) : (fl r : Rat) ≤ r := by
  rw [fl_floor]
  exact Rat.floor_le r
theorem lt_fl (r : Rat) : r < (fl r : Rat) + 1 := by
  rw [fl_floor]
  have := Rat.lt_floor (x := r)
  grind
theorem fl_eq {r : Rat} {z : Int} (h : (z : Rat) ≤ r) (h' : r < (z : Rat) + 1) : fl r = z := by
  rw [fl_floor]
  have h1 : z ≤ r.floor := Rat.le_floor_iff.mpr h
  have h2 : r.floor < z + 1 := Rat.floor_lt_iff.mpr (by rw [Rat.intCast_add]; exact h')
  omega
theorem ce_le (r : Rat) : r ≤ (ce r : Rat) := by
  have := Rat.floor_le (-r)
  rw [ce_floor, Rat.intCast_neg]
  grind
theorem lt_ce (r : Rat) : (ce r : Rat) - 1 < r := by
  have := Rat.lt_floor (x := -r)
  rw [ce_floor, Rat.intCast_neg]
  grind
theorem fl_neg (r : Rat) : fl (-r) = -ce r := by
  unfold fl ce
  rw [Rat.neg_num, Rat.neg_den]
  omega
theorem fl_add (r : Rat) (i : Int) : fl (r + (i : Rat)) = fl r + i := by
  have h1 := fl_le r
  have h2 := lt_fl r
  refine fl_eq ?_ ?_ <;> rw [Rat.intCast_add] <;> grind
theorem ce_sub (r : Rat) (i : Int) : ce (r - (i : Rat)) = ce r - i := by
  have e : -(r - (i : Rat)) = -r + (i : Rat) := by grind
  have h : fl (-(r - (i : Rat))) = fl (-r) + i := by rw [e, fl_add]
  rw [fl_neg, fl_neg] at h
  omega
theorem whole_of {r : Rat} {z : Int} (h : r = (z : Rat)) : r.den = 1 := by rw [h, Rat.den_intCast]
theorem ce_fl (r : Rat) : ce r - fl r = if decide (1 < (r.den : Int)) = true then 1 else 0 := by
  have h1 := fl_le r
  have h2 := lt_fl r
  have h3 := ce_le r
  have h4 := lt_ce r
  by_cases hd : 1 < (r.den : Int)
  · rw [decide_eq_true hd, if_pos rfl]
    have n1 : (fl r : Rat) ≠ r := fun e => by
      have := whole_of e.symm
      omega
    have n2 : (ce r : Rat) ≠ r := fun e => by
      have := whole_of e.symm
      omega
    have h5 : (fl r : Rat) < (ce r : Rat) := by grind
    have h6 : (ce r : Rat) < ((fl r + 2 : Int) : Rat) := by
      rw [Rat.intCast_add]
      have : ((2 : Int) : Rat) = 2 := rfl
      grind
    have h7 : fl r < ce r := Rat.intCast_lt_intCast.mp h5
    have h8 : ce r < fl r + 2 := Rat.intCast_lt_intCast.mp h6
    omega
  · rw [decide_eq_false hd, if_neg Bool.false_ne_true]
    have e1 : r.den = 1 := by
      have := r.den_pos
      omega
    unfold ce fl
    rw [e1]
    simp
theorem cmp_low (r : Rat) : decide (cmpR r (fl r : Rat) < 0) = false := by
  have := fl_le r
  rcases cmpR_cases r (fl r : Rat) with ⟨h, e⟩ | ⟨h, e⟩ | ⟨h, e⟩ <;> rw [e]
  · exfalso
    grind
  · rfl
  · rfl
theorem cmp_high (r : Rat) : decide (0 < cmpR r (ce r : Rat)) = false := by
  have := ce_le r
  rcases cmpR_cases r (ce r : Rat) with ⟨h, e⟩ | ⟨h, e⟩ | ⟨h, e⟩ <;> rw [e]
  · rfl
  · rfl
  · exfalso
    grind
theorem cmp_low1 (r : Rat) : decide (0 ≤ cmpR r ((fl r + 1 : Int) : Rat)) = false := by
  have := lt_fl r
  rw [cmpR_lt (by rw [Rat.intCast_add]; exact this)]
  rfl
theorem cmp_high1 (r : Rat) : decide (cmpR r ((ce r - 1 : Int) : Rat) ≤ 0) = false := by
  have := lt_ce r
  rw [cmpR_gt (by rw [Rat.intCast_sub]; exact this)]
  rfl
theorem mul_den (r : Rat) : r * ((r.den : Int) : Rat) = (r.num : Rat) := by
  rw [← mul_eq, Rat.num_intCast, Rat.den_intCast]
  have h : Rat.divInt (r.num * (r.den : Int)) (1 * (r.den : Int)) = Rat.divInt r.num 1 := Rat.divInt_mul_right (Int.ne_of_gt (den_pos r))
  rw [Int.mul_comm (r.den : Int) ((1 : Nat) : Int)]
  exact h.trans (div_one _)
theorem natAbs_ediv_le (a : Int) (b : Nat) : (a / (b : Int)).natAbs ≤ a.natAbs := Int.natAbs_ediv_le_natAbs _ _
section
variable {X : Cx} {C : Addr} {σ : L2.St} {H : Hp} {a b : Expr} {p p' : Pos} {r q : Rat} {i : Int} {n m : Nat}
theorem d_down (A : AmX X C) (ha : Ev X σ H a (Ins C (pf r))) [BdI r n] (h1 : n ≤ 2000 := by decide) (hb : attributeBase a "down" X.env (eval a X.env) = eval a X.env := by rfl) : Ev X σ H (.Attribute a "down" p) (Is (.int (fl r))) := ev_down A ha (bd_of h1) hb
theorem d_up (A : AmX X C) (ha : Ev X σ H a (Ins C (pf r))) [BdI r n] (h1 : n ≤ 2000 := by decide) (hb : attributeBase a "up" X.env (eval a X.env) = eval a X.env := by rfl) : Ev X σ H (.Attribute a "up" p) (Is (.int (ce r))) := ev_up A ha (bd_of h1) hb
theorem ev_intB {k : Bool} (hm : X.mg "int" = none) (ha : Ev X σ H a (Is (.bl k))) (hg : Gl X "int" := by rfl) (hs : starEach [a] X.env = (false, eval a X.env) :: starEach [] X.env := by rfl) (hpl : (backTo p (starEach [] X.env)).any (·.1) = false := by rfl) : Ev X σ H (.Call (.Name "int" p') [a] [] p) (Is (.int (if k = true then 1 else 0))) :=
  ev_cty call_int1 hm (by decide +kernel) (ea_1 ha mono_is hs) (fun vs H2 _ h => by
    cases isOne h
    exact .inr ⟨_, rfl, .refl _, rfl⟩) (fun vs H2 Q Q' k h => h.elim (fun ⟨x, e, q⟩ => .inl ⟨x, e, k _ _ q⟩) fun ⟨x, e, q⟩ => .inr ⟨x, e, k _ _ q⟩) hg (by decide) (by decide) hs hpl
/-- != of two tuples of ints that are the same -/
theorem et_neTF {x y : Int} (hu : X.A.units + 64 < cLine) (ha : Ev X σ H a (TupI [.int x, .int y])) (hb : Ev X σ H b (TupI [.int x, .int y])) (hm : behindInMarks .NotEq b = false := by exact nomark _) : EvT X σ H (.Compare a [.NotEq] [b] p) false :=
  EvT.is (CC.et (⟨_, _, _, op_neD hu, hm, ha, hb, mono_tup, fun x' y' H2 _ ⟨t, ex, ht⟩ ⟨u, ey, hu'⟩ => ⟨.tuple [.int x, .int y], .tuple [.int x, .int y], by
      subst ex
      exact .tup (.of ht) (.cons (.int _) (.cons (.int _) .nil)), by
      subst ey
      exact .tup (.of hu') (.cons (.int _) (.cons (.int _) .nil)), rfl, rfl, .refl _, rfl⟩,
    fun x y H2 Q Q' k ⟨d, e, h1, h2, h3, h4, q⟩ => ⟨d, e, h1, h2, h3, h4, k _ _ q⟩⟩ : CC X σ H .NotEq a b (.bl (!PyData.eqv (.tuple [.int x, .int y]) (.tuple [.int x, .int y]))))) (by rw [SeqAt.eqv_refl _ rfl]; rfl)
end
/-! ### _law_check_rounded -/
def spRound (C : Addr) : Sp := spP (fun (r : Rat) vs H => (∃ u, vs = [u] ∧ Ins C (pf r) u H) ∧ Bd 30 r) (fun _ => Is (.bl true))
theorem scRound : FnScope ["_law_a", "_law_low", "_law_high", "_law_again"] ["_law_a"] (defScope sRound) := ⟨rfl, rfl, rfl, by decide +kernel, rfl, by decide +kernel, by decide +kernel⟩
section
variable {P : Program} {w : World} {K : PySem.W.Frag} {mg : Str → Option Value} {base : Heap}
theorem ok_round {f C : Addr} {fd : FuncData} (AF : AmF P w K mg base C) (F : Fun K "_law_check_rounded" "_law_check_rounded" sRound f fd) : FnOk P w K mg base CX0 7 f fd ["_law_a"] (spRound C) := by
  refine F.ok scRound (fun vs H Q E h => ?_) (fun cdv A outer s H vs Q E hr h => ?_)
  · obtain ⟨d, ⟨⟨u, rfl, _⟩, _⟩, _⟩ := h
    rfl
  · obtain ⟨r, ⟨⟨u, rfl, ha⟩, hr1⟩, k⟩ := h
    have A := AF.x (X := (cxOf CX0 P w K mg base ["_law_a", "_law_low", "_law_high", "_law_again"] "_law_check_rounded" (defScope sRound) f cdv A outer s H E).nox) hr
    haveI : BdI r 30 := ⟨hr1⟩
    haveI : IntI (fl r) 30 := ⟨Nat.lt_of_le_of_lt (natAbs_ediv_le _ _) (Nat.lt_of_lt_of_le hr1.1 (two_le (by decide)))⟩
    haveI : IntI (ce r) 30 := ⟨by
      unfold ce
      rw [Int.natAbs_neg]
      refine Nat.lt_of_le_of_lt (natAbs_ediv_le _ _) ?_
      rw [Int.natAbs_neg]
      exact Nat.lt_of_lt_of_le hr1.1 (two_le (by decide))⟩
    haveI : IntI (r.den : Int) 30 := ⟨Nat.lt_of_lt_of_le hr1.2 (two_le (by decide))⟩
    have st : ∀ {H1 H2 : Hp}, (∀ v' H', Same H1 H' → Is (.bl true) v' H' → Q v' H') → Same H1 H2 → (∀ v' H', Same H2 H' → Is (.bl true) v' H' → Q v' H') := fun k z v' H' z' h => k v' H' (z.trans z') h
    have dOk : LowOk (r.den : Int) := den_ok (hr1.mono (by decide))
    have dOk' : LowOk (-(r.den : Int)) := ⟨by have := den_pos r; omega, .inr (by rw [Int.natAbs_neg]; exact hr1.2)⟩
    refine ⟨_, pw_B, ?_⟩
    refine b_par (i := 1) (j := 2) rfl scRound.nd rfl rfl (by decide) rfl rfl (ea_2 (d_down A (ev_v (pv 0) rfl ha mono_ins)) mono_is (d_up A (ev_v (pv 0) rfl ha mono_ins)) mono_is) fun n1 n2 H1 z e1 e2 => ?_
    cases e1
    cases e2
    replace k := st k z
    replace ha := mono_ins _ _ _ z ha
    clear z
    refine b_ifF (et_w (ew_orF ?_ (ew_or1 ?_))) fun H2 z => ?_
    · exact EvT.is (CC.et (c_I op_lt (nomark _) (e_compared A (ev_v (pv 0) rfl ha mono_ins) (Ev.numI (ev_vi (pv 1) rfl))) (ev_c pe_int))) (cmp_low r)
    · exact EvT.is (CC.et (c_I op_gt (nomark _) (e_compared A (ev_v (pv 0) rfl ha mono_ins) (Ev.numI (ev_vi (pv 2) rfl))) (ev_c pe_int))) (cmp_high r)
    replace k := st k z
    replace ha := mono_ins _ _ _ z ha
    clear z
    refine b_ifF (et_w (ew_orF ?_ (ew_or1 ?_))) fun H3 z => ?_
    · exact EvT.is (CC.et (c_I op_ge (nomark _) (e_compared A (ev_v (pv 0) rfl ha mono_ins) (Ev.numI (ev_opI op_add (ev_vi (pv 1) rfl) (ev_c pe_int)))) (ev_c pe_int))) (cmp_low1 r)
    · exact EvT.is (CC.et (c_I op_le (nomark _) (e_compared A (ev_v (pv 0) rfl ha mono_ins) (Ev.numI (ev_opI op_sub (ev_vi (pv 2) rfl) (ev_c pe_int)))) (ev_c pe_int))) (cmp_high1 r)
    replace k := st k z
    replace ha := mono_ins _ _ _ z ha
    clear z
    refine b_ifF (et_w (ew_orF ?_ (ew_or1 ?_))) fun H4 z => ?_
    · exact EvT.is (CC.et (c_neS (ev_opI op_sub (ev_vi (pv 2) rfl) (ev_vi (pv 1) rfl)) (ev_intB A.T.int (CC.ev (c_I op_gt (nomark _) (ev_ixT (ev_pair A (ev_v (pv 0) rfl ha mono_ins)) (ev_c pe_int) atI1) (ev_c pe_int)))) rfl)) (neF (by rw [ce_fl]))
    · exact EvT.is (CC.et (c_neS (d_down A (e_neg A (ev_v (pv 0) rfl ha mono_ins))) (ev_negI (ev_vi (pv 2) rfl)) rfl)) (neF (by rw [fl_neg]))
    replace k := st k z
    replace ha := mono_ins _ _ _ z ha
    clear z
    refine b_ifF (et_w (ew_orF ?_ (ew_or1 ?_))) fun H5 z => ?_
    · exact EvT.is (CC.et (c_neS (d_down A (e_add A (ev_v (pv 0) rfl ha mono_ins) (Ev.numI (ev_c pe_int)))) (ev_opI op_add (ev_vi (pv 1) rfl) (ev_c pe_int)) rfl)) (neF (by rw [fl_add]))
    · exact EvT.is (CC.et (c_neS (d_up A (e_sub A (ev_v (pv 0) rfl ha mono_ins) (Ev.numI (ev_c pe_int)))) (ev_opI op_sub (ev_vi (pv 2) rfl) (ev_c pe_int)) rfl)) (neF (by rw [ce_sub]))
    replace k := st k z
    replace ha := mono_ins _ _ _ z ha
    clear z
    refine b_setE (i := 3) scRound.nd rfl (.inl rfl) (ev_make2 A.make dOk (ev_ixT (ev_pair A (ev_v (pv 0) rfl ha mono_ins)) (ev_c pe_int) atI0) (ev_ixT (ev_pair A (ev_v (pv 0) rfl ha mono_ins)) (ev_c pe_int) atI1)) fun w3 H6 z hg => ?_
    rw [Rat.num_divInt_den] at hg
    replace k := st k z
    replace ha := mono_ins _ _ _ z ha
    clear z
    refine b_ifF (et_w (ew_orF ?_ (ew_orF ?_ (ew_or1 ?_)))) fun H7 z => ?_
    · exact et_neF A (ev_v (pv 3) rfl hg mono_ins) (ev_v (pv 0) rfl ha mono_ins) rfl
    · exact et_neTF hr.units (ev_pair A (ev_v (pv 3) rfl hg mono_ins)) (ev_pair A (ev_v (pv 0) rfl ha mono_ins))
    · exact et_neF A (ev_make2 A.make dOk' (ev_negI (ev_ixT (ev_pair A (ev_v (pv 0) rfl ha mono_ins)) (ev_c pe_int) atI0)) (ev_negI (ev_ixT (ev_pair A (ev_v (pv 0) rfl ha mono_ins)) (ev_c pe_int) atI1))) (ev_v (pv 0) rfl ha mono_ins) (by rw [Rat.neg_divInt_neg, Rat.num_divInt_den])
    replace k := st k z
    replace ha := mono_ins _ _ _ z ha
    refine b_retE (P := Is (.bl (true && true))) (ev_and (k := true) ?_ fun _ => ev_and1 (k := true) ?_) fun v' H' z h => k v' H' z h
    · exact ev_eqT A (e_mul A (ev_v (pv 0) rfl ha mono_ins) (Ev.numI (ev_ixT (ev_pair A (ev_v (pv 0) rfl ha mono_ins)) (ev_c pe_int) atI1))) (ev_make1 A.make (ev_ixT (ev_pair A (ev_v (pv 0) rfl ha mono_ins)) (ev_c pe_int) atI0)) (mul_den r)
    · exact Ev.is (CC.ev (c_I op_gt (nomark _) (ev_ixT (ev_pair A (ev_v (pv 0) rfl ha mono_ins)) (ev_c pe_int) atI1) (ev_c pe_int))) (congrArg V.bl (decide_eq_true (den_pos r)))
end
end Kn

/-! a dict of four texts; rules for dicts, lists -/
namespace Cb
open PySem PySem.Spec PyProof.Rows L2
abbrev Kc : Key := .inr "cells"
abbrev Kn : Key := .inr "next"
abbrev Kr : Key := .inr "rest"
abbrev Kd : Key := .inr "draws"
theorem kcn : ¬ Kc = Kn := by decide +kernel
theorem kcr : ¬ Kc = Kr := by decide +kernel
theorem kcd : ¬ Kc = Kd := by decide +kernel
theorem knr : ¬ Kn = Kr := by decide +kernel
theorem knd : ¬ Kn = Kd := by decide +kernel
theorem krd : ¬ Kr = Kd := by decide +kernel
theorem scn : ¬ (Str.ofString "cells" = Str.ofString "next") := by decide +kernel
theorem scr : ¬ (Str.ofString "cells" = Str.ofString "rest") := by decide +kernel
theorem scd : ¬ (Str.ofString "cells" = Str.ofString "draws") := by decide +kernel
theorem snc : ¬ (Str.ofString "next" = Str.ofString "cells") := by decide +kernel
theorem snr : ¬ (Str.ofString "next" = Str.ofString "rest") := by decide +kernel
theorem snd : ¬ (Str.ofString "next" = Str.ofString "draws") := by decide +kernel
theorem src : ¬ (Str.ofString "rest" = Str.ofString "cells") := by decide +kernel
theorem srn : ¬ (Str.ofString "rest" = Str.ofString "next") := by decide +kernel
theorem srd : ¬ (Str.ofString "rest" = Str.ofString "draws") := by decide +kernel
theorem sdc : ¬ (Str.ofString "draws" = Str.ofString "cells") := by decide +kernel
theorem sdn : ¬ (Str.ofString "draws" = Str.ofString "next") := by decide +kernel
theorem sdr : ¬ (Str.ofString "draws" = Str.ofString "rest") := by decide +kernel
def kv4 (c nx rs dr : V) : List (Key × V) := [(Kc, c), (Kn, nx), (Kr, rs), (Kd, dr)]
theorem kv4_c (c nx rs dr : V) : valV (kv4 c nx rs dr) Kc = some c := valV_pos rfl
theorem kv4_n (c nx rs dr : V) : valV (kv4 c nx rs dr) Kn = some nx := (valV_neg kcn).trans (valV_pos rfl)
theorem kv4_r (c nx rs dr : V) : valV (kv4 c nx rs dr) Kr = some rs := (valV_neg kcr).trans ((valV_neg knr).trans (valV_pos rfl))
theorem kv4_d (c nx rs dr : V) : valV (kv4 c nx rs dr) Kd = some dr := (valV_neg kcd).trans ((valV_neg knd).trans ((valV_neg krd).trans (valV_pos rfl)))
theorem kv4_putD (c nx rs dr z : V) : putK (kv4 c nx rs dr) Kd z = kv4 c nx rs z := by
  simp [putK, kv4, scn, scr, scd, snc, snr, snd, src, srn, srd, sdc, sdn, sdr]
theorem kv4_putR (c nx rs dr z : V) : putK (kv4 c nx rs dr) Kr z = kv4 c nx z dr := by
  simp [putK, kv4, scn, scr, scd, snc, snr, snd, src, srn, srd, sdc, sdn, sdr]
theorem kv4_putN (c nx rs dr z : V) : putK (kv4 c nx rs dr) Kn z = kv4 c z rs dr := by
  simp [putK, kv4, scn, scr, scd, snc, snr, snd, src, srn, srd, sdc, sdn, sdr]
theorem kv4_len (c nx rs dr : V) : (kv4 c nx rs dr).length < sizeLine := by
  show 4 < sizeLine
  decide
theorem kv4_merge (c nx rs dr : V) : mergeK [] (kv4 c nx rs dr) = kv4 c nx rs dr := by
  simp [mergeK, kv4, putK, scn, scr, scd, snc, snr, snd, src, srn, srd, sdc, sdn, sdr]
section
variable {X : Cx} {e a b c o i value : Expr} {es : List Expr} {sts : List Stmt} {σ : L2.St} {H H' : Hp} {pos pos' p p' : Pos} {D : Ends} {P Pa Pb : Pd}
theorem ev_dget {d : Addr} {kvs : List (Key × V)} {k : Key} {v : V} (hu : X.A.units + 1 < cLine) (ho : Ev X σ H o (Is (.ref d))) (hi : Ev X σ H i (Is (kV k))) (hd : H d = some (.dK kvs)) (hv : valV kvs k = some v) (hs : NoSl i := by exact fun _ _ => rfl) : Ev X σ H (.Subscript o i p) (Is v) :=
  ev_of (pe_dget hu pw_E pw_E hs) fun H1 s1 => wE_mono (ho H1 s1) fun x H2 ⟨s2, px⟩ => wE_mono (hi H2 (s1.trans s2)) fun y H3 ⟨s3, py⟩ => by
    cases px
    cases py
    refine ⟨d, v, rfl, ?_, s2.trans s3, rfl⟩
    rw [← hv]
    exact DGet.k (s3 _ _ (s2 _ _ (s1 _ _ hd)))
theorem b_dput {d : Addr} {kvs : List (Key × V)} {k : Key} {v : V} (hu : X.A.units + 1 < cLine) (hv : Ev X σ H value (Is v)) (ho : Ev X σ H o (Is (.ref d))) (hi : Ev X σ H i (Is (kV k))) (hd : H d = some (.dK kvs)) (hl : kvs.length < sizeLine)
    (kk : ∀ H', Same H H' → wB X sts D σ (upd H' d (.dK (putK kvs k v)))) (hs : swapsWith value (some (.Subscript o i pos')) pos.line X.env = pure false := by rfl) : wB X (.Assign [.Subscript o i pos'] value pos :: sts) D σ H :=
  b_cons (w_S (ps_dput hu pw_E pw_E pw_E hs) (wE_mono (hv H (.refl _)) fun z H1 ⟨s1, pz⟩ => wE_mono (ho H1 s1) fun x H2 ⟨s2, px⟩ => wE_mono (hi H2 (s1.trans s2)) fun y H3 ⟨s3, py⟩ => by
    cases pz
    cases px
    cases py
    have s := (s1.trans s2).trans s3
    exact ⟨d, _, rfl, DPut.k (s _ _ hd) hl, kk H3 s⟩))
/-- len of a tracked list -/
theorem ev_lenL {q : Addr} {xs : List V} (hm : X.mg "len" = none) (ha : Ev X σ H a (Is (.ref q))) (hq : H q = some (.lst xs)) (hg : Gl X "len" := by rfl) (hs : starEach [a] X.env = (false, eval a X.env) :: starEach [] X.env := by rfl) (hpl : (backTo p (starEach [] X.env)).any (·.1) = false := by rfl) : Ev X σ H (.Call (.Name "len" p') [a] [] p) (Is (.int (xs.length : Int))) :=
  ev_cb call_len hm PySem.boot_len (ea_1 ha mono_is hs) (fun vs H2 s h => by
    obtain ⟨v, rfl, e⟩ := h.one
    cases e
    exact ⟨_, _, rfl, .inl ⟨_, SqL.of (s _ _ hq), rfl⟩, .refl _, rfl⟩) (fun vs H2 Q Q' k ⟨x, n, e, h, q⟩ => ⟨x, n, e, h, k _ _ q⟩) hg (by decide) (by decide) hs hpl
theorem ev_ixL {q : Addr} {xs : List V} {j : Int} {v : V} (ho : Ev X σ H a (Is (.ref q))) (hi : Ev X σ H b (Is (.int j))) (hq : H q = some (.lst xs)) (ha : atI xs j = some v) (hs : PlainIxT b := by exact fun _ _ => rfl) : Ev X σ H (.Subscript a b p) (Is v) :=
  ev_of (pe_ix ix_list pw_E pw_E hs) fun H1 s1 => wE_mono (ho H1 s1) fun x H2 ⟨s2, ex⟩ => wE_mono (hi H2 (s1.trans s2)) fun y H3 ⟨s3, py⟩ => by
    cases ex
    cases py
    exact ⟨q, xs, j, v, rfl, rfl, .of (s3 _ _ (s2 _ _ (s1 _ _ hq))), ha, s2.trans s3, rfl⟩
/-- a new list -/
def LstI (xs : List V) : Pd := fun v H => ∃ q, v = .ref q ∧ H q = some (.lst xs)
theorem mono_lst {xs : List V} : Mono (LstI xs) := fun v H H' s ⟨q, e, h⟩ => ⟨q, e, s _ _ h⟩
theorem ev_lstI {xs : List V} (h : EvA X σ H es (isAll xs)) (hl : xs.length ≤ 1000) : Ev X σ H (.List es p) (LstI xs) := ev_of (pe_lst pw_A) fun H1 s1 => wA_mono (h H1 s1) fun vs H2 ⟨s2, pv⟩ => by
  rw [pws_is pv]
  exact ⟨Nat.le_of_lt (small1000 hl), fun q hq => ⟨s2.trans (same_new hq), q, rfl, upd_same⟩⟩
/-- == and != of data -/
theorem c_eqD {Pa Pb : Pd} {d e' : PyData} (hu : X.A.units + 64 < cLine) (ha : Ev X σ H a Pa) (hb : Ev X σ H b Pb) (ma : Mono Pa) (da : ∀ x H', Same H H' → Pa x H' → Dp X.K H' x d) (db : ∀ x H', Same H H' → Pb x H' → Dp X.K H' x e') (sd : SeqAt.shaped d = true) (se : SeqAt.shaped e' = true) (hm : behindInMarks .Eq b = false := by exact nomark _) : CC X σ H .Eq a b (.bl (PyData.eqv d e')) :=
  ⟨_, _, _, op_eqD hu, hm, ha, hb, ma, fun x y H2 s px py => ⟨d, e', da x H2 s px, db y H2 s py, sd, se, .refl _, rfl⟩, fun x y H2 Q Q' k ⟨d, e, h1, h2, h3, h4, q⟩ => ⟨d, e, h1, h2, h3, h4, k _ _ q⟩⟩
theorem c_neD {Pa Pb : Pd} {d e' : PyData} (hu : X.A.units + 64 < cLine) (ha : Ev X σ H a Pa) (hb : Ev X σ H b Pb) (ma : Mono Pa) (da : ∀ x H', Same H H' → Pa x H' → Dp X.K H' x d) (db : ∀ x H', Same H H' → Pb x H' → Dp X.K H' x e') (sd : SeqAt.shaped d = true) (se : SeqAt.shaped e' = true) (hm : behindInMarks .NotEq b = false := by exact nomark _) : CC X σ H .NotEq a b (.bl (!PyData.eqv d e')) :=
  ⟨_, _, _, op_neD hu, hm, ha, hb, ma, fun x y H2 s px py => ⟨d, e', da x H2 s px, db y H2 s py, sd, se, .refl _, rfl⟩, fun x y H2 Q Q' k ⟨d, e, h1, h2, h3, h4, q⟩ => ⟨d, e, h1, h2, h3, h4, k _ _ q⟩⟩
theorem dp_ints {K : PySem.W.Frag} {H : Hp} : ∀ ns : List Int, DpAll K H (ns.map V.int) (ns.map PyData.int)
  | [] => .nil
  | n :: ns => .cons (.int n) (dp_ints ns)
theorem eqv_nil (ns : List Int) : PyData.eqv (.list (ns.map PyData.int)) (.list []) = ns.isEmpty := by
  cases ns with
  | nil => rfl
  | cons n ns => rfl
theorem canLay_ints : ∀ ns : List Int, PyData.canLayAll0 (ns.map PyData.int) = true
  | [] => rfl
  | n :: ns => by
    show (PyData.canLay0 (.int n) && PyData.canLayAll0 (ns.map PyData.int)) = true
    rw [canLay_ints ns]
    rfl
theorem depth_ints : ∀ ns : List Int, PyData.depthAll (ns.map PyData.int) = 0
  | [] => rfl
  | n :: ns => by
    show max (PyData.depth (.int n)) (PyData.depthAll (ns.map PyData.int)) = 0
    rw [depth_ints ns]
    rfl
theorem shaped_ints (ns : List Int) : SeqAt.shaped (.list (ns.map PyData.int)) = true := by
  show (PyData.canLayAll0 (ns.map PyData.int) && decide (PyData.depthAll (ns.map PyData.int) + 1 ≤ 64)) = true
  rw [canLay_ints, depth_ints]
  rfl
end
end Cb

namespace Kn
open PySem PySem.Spec PyProof.Rows L2 Cb
abbrev sReader : Stmt := top 27
abbrev sDraw : Stmt := top 28
/-- what stands at d: the reader, over a list of ints -/
def Rd (d c : Addr) (H : Hp) : Prop := ∃ (ns : List Int) (nx rs dr : Int), H d = some (.dK (kv4 (.ref c) (.int nx) (.int rs) (.int dr))) ∧ H c = some (.lst (ns.map V.int))
/-- all but d stays -/
def KeepX (d : Addr) (H H' : Hp) : Prop := ∀ b o, b ≠ d → H b = some o → H' b = some o
theorem KeepX.of {d : Addr} {H H' : Hp} (s : Same H H') : KeepX d H H' := fun b o _ e => s b o e
theorem KeepX.trans {d : Addr} {H H1 H2 : Hp} (a : KeepX d H H1) (b : KeepX d H1 H2) : KeepX d H H2 := fun c o n e => b c o n (a c o n e)
theorem KeepX.put {d : Addr} {H : Hp} {o : HO} : KeepX d H (upd H d o) := fun b u n e => by
  rw [upd_ne n]
  exact e
def spReader (K : PySem.W.Frag) : Sp := fun vs H Q _ => ∃ (a : Addr) (ns : List Int), vs = [.ref a] ∧ SqL K H a (ns.map V.int) ∧ ∀ d c H', Same H H' → Rd d c H' → H d = none → Q (.ref d) H'
def spDraw : Sp := fun vs H Q _ => ∃ (d c : Addr) (m : Int), vs = [.ref d, .int m] ∧ 0 < m ∧ m < 1000000000 ∧ Rd d c H ∧ ∀ z H', 0 ≤ z → z < m → KeepX d H H' → Rd d c H' → Q (.int z) H'
section
variable {P : Program} {w : World} {K : PySem.W.Frag} {mg : Str → Option Value} {base : Heap}
theorem scReader : FnScope ["_law_script"] ["_law_script"] (defScope sReader) := ⟨rfl, rfl, rfl, by decide +kernel, rfl, by decide +kernel, by decide +kernel⟩
theorem same_dict {H : Hp} {p : Addr} {o : HO} (hp : H p = none) : Same H (upd H p o) := same_new hp
theorem ok_reader {f : Addr} {fd : FuncData} (F : Fun K "_law_reader" "_law_reader" sReader f fd) (zl : mg "list" = none) : FnOk P w K mg base CX0 1 f fd ["_law_script"] (spReader K) := by
  refine F.ok scReader (fun vs H Q E h => ?_) (fun cdv A outer s H vs Q E hr h => ?_)
  · obtain ⟨a, ns, rfl, _⟩ := h
    rfl
  · obtain ⟨a, ns, rfl, hS, k⟩ := h
    refine ⟨_, pw_B, b_ret (w_E (pe_disp (pps_cons pe_str (pe_callTy call_list_of (by rfl) zl (by decide +kernel) (pa_cons (pe_slice sl_list (pv 0) po_none (po_some pe_int)) pa_nil)) (pps_cons pe_str pe_int (pps_cons pe_str pe_int (pps_cons pe_str pe_int pps_nil)))) (by rfl) (by rfl) (fun z => by cases z) (by decide)) ?_)⟩
    intro d hd
    have hS1 : SqL K (upd H d (.dK [])) a (ns.map V.int) := (same_new hd).seq hS
    refine ⟨.ref a, rfl, 63, rfl, a, _, rfl, hS1, fun p hp => ?_⟩
    have npd : d ≠ p := fun e => by
      rw [← e, upd_same] at hp
      cases hp
    refine ⟨p, _, rfl, .inl (.inl (.inl upd_same)), fun q hq => ?_⟩
    have nqd : d ≠ q := fun e => by
      rw [← e, upd_ne npd, upd_same] at hq
      cases hq
    have nqp : p ≠ q := fun e => by
      rw [← e, upd_same] at hq
      cases hq
    have hp0 : H p = none := by
      rw [upd_ne npd.symm] at hp
      exact hp
    have hq0 : H q = none := by
      rw [upd_ne nqp.symm, upd_ne nqd.symm] at hq
      exact hq
    refine ⟨by rw [upd_ne nqd, upd_ne npd, upd_same], kv4 (.ref q) (.int 0) (.int 0) (.int 0), rfl, by show 4 ≤ 15; decide, ?_⟩
    rw [kv4_merge]
    obtain ⟨xs, hx⟩ : ∃ xs : List Int, cutV (ns.map V.int) none (some 63) = xs.map V.int := by
      unfold cutV
      exact ⟨(ns.drop _).take _, by rw [List.map_take, List.map_drop]⟩
    refine k d q _ (fun b o e => ?_) ⟨xs, 0, 0, 0, upd_same, ?_⟩ hd
    · rw [upd_ne (ne_of_none e hd), upd_ne (ne_of_none e hq0), upd_ne (ne_of_none e hp0), upd_ne (ne_of_none e hd)]
      exact e
    · rw [upd_ne nqd.symm, upd_same, hx]
theorem scDraw : FnScope ["_law_reader_here", "_law_many", "_law_digit", "_law_spot", "_law_cell", "_law_mixed"] ["_law_reader_here", "_law_many"] (defScope sDraw) := ⟨rfl, rfl, rfl, by decide +kernel, rfl, by decide +kernel, by decide +kernel⟩
theorem mod_at {ns : List Int} {i : Int} (h : ns ≠ []) : ∃ z, atI (ns.map V.int) (i % ((ns.map V.int).length : Int)) = some (.int z) := by
  have hl : 0 < (ns.map V.int).length := by
    rw [List.length_map]
    exact List.length_pos_iff.mpr h
  have h0 : 0 ≤ i % ((ns.map V.int).length : Int) := Int.emod_nonneg _ (by omega)
  have h1 : i % ((ns.map V.int).length : Int) < ((ns.map V.int).length : Int) := Int.emod_lt_of_pos _ (by omega)
  obtain ⟨j, ej⟩ := Int.eq_ofNat_of_zero_le h0
  rw [ej] at h1 ⊢
  have hj : j < ns.length := by
    rw [List.length_map] at h1
    omega
  exact ⟨ns[j], atI_nat (by rw [List.getElem?_map, List.getElem?_eq_getElem hj]; rfl)⟩
theorem mixLt {x m : Int} (h : 0 < m ∧ m < 2 ^ 64) : -(2 ^ 64) < x % m ∧ x % m < 2 ^ 64 := by
  have h1 := Int.emod_nonneg x (show m ≠ 0 by omega)
  have h2 := Int.emod_lt_of_pos x h.1
  have h3 := h.2
  constructor
  · exact Int.lt_of_lt_of_le (by decide) h1
  · exact Int.lt_trans h2 h3
theorem ok_draw {f : Addr} {fd : FuncData} (F : Fun K "_law_draw" "_law_draw" sDraw f fd) (zl : mg "len" = none) : FnOk P w K mg base CX0 1 f fd ["_law_reader_here", "_law_many"] spDraw := by
  refine F.ok scDraw (fun vs H Q E h => ?_) (fun cdv A outer s H vs Q E hr h => ?_)
  · obtain ⟨d, c, m, rfl, _⟩ := h
    rfl
  · obtain ⟨d, c, m, rfl, h0, hm, ⟨ns, nx, rs, dr, hd, hc⟩, k⟩ := h
    have hu := hu_of hr
    have ncd : c ≠ d := ne_of hc hd (by intro z; cases z)
    refine ⟨_, pw_B, ?_⟩
    -- draws + 1
    refine b_dput (k := Kd) hu (ev_opI op_add (ev_dget (k := Kd) hu (ev_vi (pv 0) rfl) (ev_c pe_str) hd (kv4_d _ _ _ _)) (ev_c pe_int)) (ev_vi (pv 0) rfl) (ev_c pe_str) hd (kv4_len _ _ _ _) fun H1 s1 => ?_
    rw [kv4_putD]
    generalize hH2 : upd H1 d (.dK (kv4 (.ref c) (.int nx) (.int rs) (.int (dr + 1)))) = H2
    have hd2 : H2 d = some (.dK (kv4 (.ref c) (.int nx) (.int rs) (.int (dr + 1)))) := by rw [← hH2, upd_same]
    have hc2 : H2 c = some (.lst (ns.map V.int)) := by
      rw [← hH2, upd_ne ncd]
      exact s1 _ _ hc
    have k2 : KeepX d H H2 := hH2 ▸ (KeepX.of s1).trans KeepX.put
    clear hH2 hd hc s1
    -- if rest > 0
    refine b_ifE (CC.et (c_I op_gt (nomark _) (ev_dget (k := Kr) hu (ev_vi (pv 0) rfl) (ev_c pe_str) hd2 (kv4_r _ _ _ _)) (ev_c pe_int))) (fun h H3 s3 => ?_) (fun h H3 s3 => ?_)
    · have hd3 := s3 _ _ hd2
      have hc3 := s3 _ _ hc2
      refine b_setE (i := 2) scDraw.nd rfl (.inl rfl) (ev_opC op_mod (ev_dget (k := Kr) hu (ev_vi (pv 0) rfl) (ev_c pe_str) hd3 (kv4_r _ _ _ _)) (ev_vi (pv 1) rfl) h0) fun _ H4 s4 e => ?_
      cases e
      have hd4 := s4 _ _ hd3
      have hc4 := s4 _ _ hc3
      refine b_dput (k := Kr) hu (ev_opC op_fdiv (ev_dget (k := Kr) hu (ev_vi (pv 0) rfl) (ev_c pe_str) hd4 (kv4_r _ _ _ _)) (ev_vi (pv 1) rfl) ⟨h0, by omega⟩) (ev_vi (pv 0) rfl) (ev_c pe_str) hd4 (kv4_len _ _ _ _) fun H5 s5 => ?_
      rw [kv4_putR]
      refine b_retE (ev_vi (pv 2) rfl) fun v H6 s6 e => ?_
      cases e
      refine k _ H6 (Int.emod_nonneg _ (by omega)) (Int.emod_lt_of_pos _ h0) ?_ ⟨ns, nx, _, _, s6 _ _ upd_same, s6 _ _ (by rw [upd_ne ncd]; exact s5 _ _ hc4)⟩
      exact (((k2.trans (.of s3)).trans (.of s4)).trans (.of s5)).trans (KeepX.put.trans (.of s6))
    · refine b_nil ?_
      have hd3 := s3 _ _ hd2
      have hc3 := s3 _ _ hc2
      have k3 := k2.trans (.of s3)
      -- spot
      refine b_setE (i := 3) scDraw.nd rfl (.inl rfl) (ev_dget (k := Kn) hu (ev_vi (pv 0) rfl) (ev_c pe_str) hd3 (kv4_n _ _ _ _)) fun _ H4 s4 e => ?_
      cases e
      have hd4 := s4 _ _ hd3
      have hc4 := s4 _ _ hc3
      refine b_dput (k := Kn) hu (ev_opI op_add (ev_vi (pv 3) rfl) (ev_c pe_int)) (ev_vi (pv 0) rfl) (ev_c pe_str) hd4 (kv4_len _ _ _ _) fun H5 s5 => ?_
      rw [kv4_putN]
      generalize hH6 : upd H5 d (.dK (kv4 (.ref c) (.int (nx + 1)) (.int rs) (.int (dr + 1)))) = H6
      have hd6 : H6 d = some (.dK (kv4 (.ref c) (.int (nx + 1)) (.int rs) (.int (dr + 1)))) := by rw [← hH6, upd_same]
      have hc6 : H6 c = some (.lst (ns.map V.int)) := by
        rw [← hH6, upd_ne ncd]
        exact s5 _ _ hc4
      have k6 : KeepX d H H6 := hH6 ▸ ((k3.trans (.of s4)).trans (.of s5)).trans KeepX.put
      clear hH6
      -- cell
      refine b_setE (i := 4) scDraw.nd rfl (.inl rfl) (P := fun v _ => ∃ z, v = .int z) (ev_if (k := !ns.isEmpty) ?_ (fun h => ?_) (fun h => ?_)) fun v H7 s7 ⟨z, e⟩ => ?_
      · exact EvT.is (CC.et (c_neD hr.units (ev_dget (k := Kc) hu (ev_vi (pv 0) rfl) (ev_c pe_str) hd6 (kv4_c _ _ _ _)) (ev_lstI (xs := []) ea_nil (by show 0 ≤ 1000; decide)) mono_is (fun x H' s e => by
          cases e
          exact .lst (.of (s _ _ hc6)) (dp_ints ns)) (fun x H' s ⟨q, e, hq⟩ => by
          subst e
          exact .lst (.of hq) .nil) (shaped_ints ns) rfl)) (by rw [eqv_nil])
      · have hne : ns ≠ [] := by
          intro e
          rw [e] at h
          exact Bool.noConfusion h
        obtain ⟨z, hz⟩ := mod_at (ns := ns) (i := nx) hne
        have hl : (0 : Int) < ((ns.map V.int).length : Int) := by
          rw [List.length_map]
          have := List.length_pos_iff.mpr hne
          omega
        refine Ev.imp (P := Is (.int z)) ?_ fun v H' _ e => ⟨z, e⟩
        exact ev_ixL (ev_dget (k := Kc) hu (ev_vi (pv 0) rfl) (ev_c pe_str) hd6 (kv4_c _ _ _ _)) (ev_opC op_mod (ev_vi (pv 3) rfl) (ev_lenL zl (ev_dget (k := Kc) hu (ev_vi (pv 0) rfl) (ev_c pe_str) hd6 (kv4_c _ _ _ _)) hc6) hl) hc6 hz
      · exact (ev_c pe_int).imp fun v H' _ e => ⟨_, e⟩
      subst e
      have hd7 := s7 _ _ hd6
      have hc7 := s7 _ _ hc6
      have k7 := k6.trans (.of s7)
      -- if cell >= 10 ** 18 and spot < len(..)
      refine b_ifE (et_w (ew_and (CC.et (c_I op_ge (nomark _) (ev_vi (pv 4) rfl) (ev_opC op_pow (ev_c pe_int) (ev_c pe_int) ⟨by decide, by decide, by decide⟩))) fun _ => ew_and1 (CC.et (c_I op_lt (nomark _) (ev_vi (pv 3) rfl) (ev_lenL zl (ev_dget (k := Kc) hu (ev_vi (pv 0) rfl) (ev_c pe_str) hd7 (kv4_c _ _ _ _)) hc7))))) (fun h H8 s8 => ?_) (fun h H8 s8 => ?_)
      · have hd8 := s8 _ _ hd7
        have hc8 := s8 _ _ hc7
        refine b_dput (k := Kr) hu (ev_opC op_fdiv (ev_vi (pv 4) rfl) (ev_vi (pv 1) rfl) ⟨h0, by omega⟩) (ev_vi (pv 0) rfl) (ev_c pe_str) hd8 (kv4_len _ _ _ _) fun H9 s9 => ?_
        rw [kv4_putR]
        refine b_retE (ev_opC op_mod (ev_vi (pv 4) rfl) (ev_vi (pv 1) rfl) h0) fun v H10 s10 e => ?_
        cases e
        refine k _ H10 (Int.emod_nonneg _ (by omega)) (Int.emod_lt_of_pos _ h0) ?_ ⟨ns, _, _, _, s10 _ _ upd_same, s10 _ _ (by rw [upd_ne ncd]; exact s9 _ _ hc8)⟩
        exact ((k7.trans (.of s8)).trans (.of s9)).trans (KeepX.put.trans (.of s10))
      · refine b_nil ?_
        have hd8 := s8 _ _ hd7
        have hc8 := s8 _ _ hc7
        refine b_setE (i := 5) scDraw.nd rfl (.inl rfl) (ev_opC op_mod (ev_opI op_add (ev_opI op_add (ev_opC op_mod (ev_vi (pv 4) rfl) (ev_c pe_int) (by decide)) (ev_opC op_mul (ev_c pe_int) (ev_dget (k := Kd) hu (ev_vi (pv 0) rfl) (ev_c pe_str) hd8 (kv4_d _ _ _ _)) (.inl (by decide)))) (ev_c pe_int)) (ev_c pe_int) (by decide)) fun _ H9 s9 e => ?_
        cases e
        have hd9 := s9 _ _ hd8
        have hc9 := s9 _ _ hc8
        refine b_setE (i := 5) scDraw.nd rfl (.inl rfl) (ev_opC op_mod (ev_opI op_add (ev_opI op_add (ev_opC op_mul (ev_vi (pv 5) rfl) (ev_vi (pv 5) rfl) (.inl (mixLt (by decide)))) (ev_opC op_mul (ev_c pe_int) (ev_dget (k := Kd) hu (ev_vi (pv 0) rfl) (ev_c pe_str) hd9 (kv4_d _ _ _ _)) (.inl (by decide)))) (ev_c pe_int)) (ev_c pe_int) (by decide)) fun _ H10 s10 e => ?_
        cases e
        have hd10 := s10 _ _ hd9
        have hc10 := s10 _ _ hc9
        refine b_retE (ev_opC op_mod (ev_opC op_fdiv (ev_opC op_mod (ev_opI op_add (ev_opC op_mul (ev_vi (pv 5) rfl) (ev_vi (pv 5) rfl) (.inl (mixLt (by decide)))) (ev_opC op_mul (ev_c pe_int) (ev_vi (pv 5) rfl) (.inl (by decide)))) (ev_c pe_int) (by decide)) (ev_c pe_int) ⟨by decide, by decide⟩) (ev_vi (pv 1) rfl) h0) fun v H11 s11 e => ?_
        cases e
        refine k _ H11 (Int.emod_nonneg _ (by omega)) (Int.emod_lt_of_pos _ h0) ?_ ⟨ns, _, _, _, s11 _ _ hd10, s11 _ _ hc10⟩
        exact ((((k7.trans (.of s8)).trans (.of s9)).trans (.of s10)).trans (.of s11))
end
end Kn

namespace Kn
open PySem PySem.Spec PyProof.Rows L2 Cb
abbrev sPr : Stmt := top 29
abbrev sFew : Stmt := top 30
/-! ### what stays: tuples, instances -/
def isFz : HO → Bool
  | .tup _ => true
  | .ins _ _ _ => true
  | _ => false
def Fz (H H' : Hp) : Prop := ∀ b o, isFz o = true → H b = some o → H' b = some o
theorem Fz.of {H H' : Hp} (s : Same H H') : Fz H H' := fun b o _ e => s b o e
theorem Fz.trans {H H1 H2 : Hp} (a : Fz H H1) (b : Fz H1 H2) : Fz H H2 := fun c o n e => b c o n (a c o n e)
theorem Fz.keep {d c : Addr} {H H' : Hp} (r : Rd d c H) (k : KeepX d H H') : Fz H H' := fun b o n e => k b o (fun q => by
  obtain ⟨ns, nx, rs, dr, hd, _⟩ := r
  rw [q, hd] at e
  cases e
  exact Bool.noConfusion n) e
theorem Fz.app {S : Addr} {H : Hp} {xs ys : List V} (h : H S = some (.lst xs)) : Fz H (upd H S (.lst ys)) := fun b o n e => by
  rw [upd_ne (fun q => by
    rw [q, h] at e
    cases e
    exact Bool.noConfusion n)]
  exact e
theorem fz_tup {xs : List V} {v : V} {H H' : Hp} (f : Fz H H') (h : TupI xs v H) : TupI xs v H' := by
  obtain ⟨q, e, h⟩ := h
  exact ⟨q, e, f _ _ rfl h⟩
theorem fz_ins {C : Addr} {fs : List (Str × V)} {v : V} {H H' : Hp} (f : Fz H H') (h : Ins C fs v H) : Ins C fs v H' := by
  obtain ⟨q, dx, e, h⟩ := h
  exact ⟨q, dx, e, f _ _ rfl h⟩
def Ok2 (d : Int × Int) : Prop := d.2 ≠ 0 ∧ d.1.natAbs < 1000100 ∧ d.2.natAbs < 1000100
instance (d : Int × Int) : Decidable (Ok2 d) := inferInstanceAs (Decidable (_ ∧ _))
/-- a pair of ints that an Amount can be made of -/
def PairV : Pd := fun v H => ∃ d : Int × Int, TupI [.int d.1, .int d.2] v H ∧ Ok2 d
theorem mono_pairV : Mono PairV := fun v H H' s ⟨d, h, o⟩ => ⟨d, fz_tup (.of s) h, o⟩
theorem fz_pair {v : V} {H H' : Hp} (f : Fz H H') (h : PairV v H) : PairV v H' := by
  obtain ⟨d, h, o⟩ := h
  exact ⟨d, fz_tup f h, o⟩
def spPr : Sp := fun vs H Q _ => ∃ d c : Addr, vs = [.ref d] ∧ Rd d c H ∧ ∀ v H', KeepX d H H' → Rd d c H' → PairV v H' → Q v H'
def spFew : Sp := fun vs H Q _ => vs = [] ∧ ∀ S us H', Same H H' → H S = none → H' S = some (.lst us) → us.length = 11 → (∀ v ∈ us, PairV v H') → Q (.ref S) H'
theorem Rd.same {d c : Addr} {H H' : Hp} (r : Rd d c H) (s : Same H H') : Rd d c H' := by
  obtain ⟨ns, nx, rs, dr, hd, hc⟩ := r
  exact ⟨ns, nx, rs, dr, s _ _ hd, s _ _ hc⟩
theorem Rd.at {d c : Addr} {H : Hp} (r : Rd d c H) : ∃ kvs, H d = some (.dK kvs) := by
  obtain ⟨ns, nx, rs, dr, hd, _⟩ := r
  exact ⟨_, hd⟩
section
variable {X : Cx} {σ : L2.St} {H : Hp} {a b : Expr} {p q : Pos} {k : Nat} {f : Addr} {fd : FuncData} {ps : List Str} {d c : Addr} {m : Int} {Q : VK}
/-- a draw -/
theorem w_draw (g : GDef X "_law_draw" k f fd ps spDraw) (ha : Ev X σ H a (Is (.ref d))) (hb : Ev X σ H b (Is (.int m))) (r : Rd d c H) (h0 : 0 < m) (hm : m < 1000000000) (kk : ∀ z H', 0 ≤ z → z < m → KeepX d H H' → Rd d c H' → Q (.int z) H')
    (hg : Gl X "_law_draw" := by rfl) (hs : starEach [a, b] X.env = (false, eval a X.env) :: starEach [b] X.env := by rfl) (hs' : starEach [b] X.env = (false, eval b X.env) :: starEach [] X.env := by rfl)
    (hpl : (backTo p (starEach [b] X.env)).any (·.1) = false := by rfl) : wE X (.Call (.Name "_law_draw" q) [a, b] [] p) σ H Q :=
  w_E (pe_call g.ok g.room hg g.gl g.kp g.bs .nil pass0 pw_A (by decide) hs hpl) (wA_mono (ea_2 ha mono_is hb mono_is hs hs' H (.refl _)) fun vs H1 ⟨s1, pv⟩ => by
    cases isTwo pv
    exact ⟨d, c, m, rfl, h0, hm, r.same s1, fun z H' z0 z1 k1 r1 => kk z H' z0 z1 ((KeepX.of s1).trans k1) r1⟩)
theorem w_ix {xs : Expr} {i : Expr} (h : wE X xs σ H fun x H1 => wE X i σ H1 fun y H2 => rIxL X.K x y H2 Q) (hs : PlainIxT i := by exact fun _ _ => rfl) : wE X (.Subscript xs i p) σ H Q := w_E (pe_ix ix_list pw_E pw_E hs) h
end
theorem at_of_mem {ns : List Int} {z : Int} (h0 : 0 ≤ z) (h1 : z < (ns.length : Int)) : ∃ w ∈ ns, atI (ns.map V.int) z = some (.int w) := by
  obtain ⟨j, rfl⟩ := Int.eq_ofNat_of_zero_le h0
  have hj : j < ns.length := by omega
  exact ⟨ns[j], List.getElem_mem hj, atI_nat (by rw [List.getElem?_map, List.getElem?_eq_getElem hj]; rfl)⟩
section
variable {P : Program} {w : World} {K : PySem.W.Frag} {mg : Str → Option Value} {base : Heap}
theorem scPr : FnScope ["_law_reader_here", "_law_over"] ["_law_reader_here"] (defScope sPr) := ⟨rfl, rfl, rfl, by decide +kernel, rfl, by decide +kernel, by decide +kernel⟩
theorem ok_pr {f f1 : Addr} {fd fd1 : FuncData} (F : Fun K "_law_pair" "_law_pair" sPr f fd) (F1 : Fun K "_law_draw" "_law_draw" sDraw f1 fd1) (b1 : Binds K fd1 ["_law_reader_here", "_law_many"] []) (g1 : mg "_law_draw" = some (.ref f1)) (zl : mg "len" = none) : FnOk P w K mg base CX0 2 f fd ["_law_reader_here"] spPr := by
  have G1 : FnOk P w K mg base CX0 1 f1 fd1 ["_law_reader_here", "_law_many"] spDraw := ok_draw F1 zl
  refine F.ok scPr (fun vs H Q E h => ?_) (fun cdv A outer s H vs Q E hr h => ?_)
  · obtain ⟨d, c, rfl, _⟩ := h
    rfl
  · obtain ⟨d, c, rfl, r, k⟩ := h
    refine ⟨_, pw_B, ?_⟩
    obtain ⟨kvs, hd⟩ := r.at
    refine b_set (i := 1) scPr.nd rfl (.inl rfl) (w_E (pe_op op_add pw_E pw_E) ?_)
    refine w_ix (wE_mono (ev_lstI (xs := [0, 1, -1, 2, 3, -7, 12, 999990, -999999].map V.int) (ea_cons (ev_c pe_int) mono_is (ea_cons (ev_c pe_int) mono_is (ea_cons (ev_negI (ev_c pe_int)) mono_is (ea_cons (ev_c pe_int) mono_is (ea_cons (ev_c pe_int) mono_is (ea_cons (ev_negI (ev_c pe_int)) mono_is (ea_cons (ev_c pe_int) mono_is (ea_cons (ev_c pe_int) mono_is (ea_cons (ev_negI (ev_c pe_int)) mono_is ea_nil))))))))) (by show 9 ≤ 1000; decide) H (.refl _)) fun x H1 ⟨s1, q1, e, hq1⟩ => ?_)
    subst e
    have nq1 : q1 ≠ d := fun e => by
      rw [e, s1 _ _ hd] at hq1
      cases hq1
    refine w_draw ⟨G1, hr, g1, F1.kp, b1⟩ (ev_vi (pv 0) rfl) (ev_c pe_int) (r.same s1) (by decide) (by decide) fun z H2 z0 z1 k2 r2 => ?_
    obtain ⟨w1, hw1, e1⟩ := at_of_mem (ns := [0, 1, -1, 2, 3, -7, 12, 999990, -999999]) z0 z1
    refine ⟨q1, _, z, _, rfl, rfl, .of (k2 _ _ nq1 hq1), e1, ?_⟩
    refine w_draw ⟨G1, hr, g1, F1.kp, b1⟩ (ev_vi (pv 0) rfl) (ev_c pe_int) r2 (by decide) (by decide) fun z' H3 z0' z1' k3 r3 => ?_
    refine ⟨w1, z', rfl, rfl, ?_⟩
    obtain ⟨kvs3, hd3⟩ := r3.at
    refine b_ret (w_E (pe_tup (pa_cons (pv 1) (pa_cons pw_E pa_nil))) ⟨_, rfl, ?_⟩)
    refine w_ix (wE_mono (ev_lstI (xs := [1, 2, -3, 4, 6, -1, 10000, 9999].map V.int) (ea_cons (ev_c pe_int) mono_is (ea_cons (ev_c pe_int) mono_is (ea_cons (ev_negI (ev_c pe_int)) mono_is (ea_cons (ev_c pe_int) mono_is (ea_cons (ev_c pe_int) mono_is (ea_cons (ev_negI (ev_c pe_int)) mono_is (ea_cons (ev_c pe_int) mono_is (ea_cons (ev_c pe_int) mono_is ea_nil)))))))) (by show 8 ≤ 1000; decide) H3 (.refl _)) fun x H4 ⟨s4, q4, e, hq4⟩ => ?_)
    subst e
    have nq4 : q4 ≠ d := fun e => by
      rw [e, s4 _ _ hd3] at hq4
      cases hq4
    refine w_draw ⟨G1, hr, g1, F1.kp, b1⟩ (ev_vi (pv 0) rfl) (ev_c pe_int) (r3.same s4) (by decide) (by decide) fun z5 H5 z50 z51 k5 r5 => ?_
    obtain ⟨w5, hw5, e5⟩ := at_of_mem (ns := [1, 2, -3, 4, 6, -1, 10000, 9999]) z50 z51
    refine ⟨q4, _, z5, _, rfl, rfl, .of (k5 _ _ nq4 hq4), e5, by show 2 ≤ sizeLine; decide, fun t ht => ?_⟩
    have ntd : t ≠ d := fun e => by
      obtain ⟨kv5, hd5⟩ := r5.at
      rw [e, hd5] at ht
      cases ht
    refine k _ _ ?_ (r5.same (same_new ht)) ⟨(w1 + z', w5), ⟨t, rfl, upd_same⟩, ?_⟩
    · exact ((((KeepX.of s1).trans k2).trans k3).trans (.of s4)).trans (k5.trans (.of (same_new ht)))
    · have b1 : ∀ w ∈ ([0, 1, -1, 2, 3, -7, 12, 999990, -999999] : List Int), w.natAbs < 1000000 := by decide
      have b2 : ∀ w ∈ ([1, 2, -3, 4, 6, -1, 10000, 9999] : List Int), w ≠ 0 ∧ w.natAbs < 1000100 := by decide
      have h1 := b1 w1 hw1
      have h2 := b2 w5 hw5
      refine ⟨h2.1, ?_, h2.2⟩
      show (w1 + z').natAbs < 1000100
      omega
theorem scFew : FnScope [] [] (defScope sFew) := ⟨rfl, rfl, rfl, by decide +kernel, rfl, by decide +kernel, by decide +kernel⟩
theorem pws_all {P : Pd} {H : Hp} : ∀ {Ps : List Pd} {vs : List V}, (∀ Q ∈ Ps, Q = P) → Pws Ps vs H → ∀ v ∈ vs, P v H
  | [], vs, _, h, v, hv => by
    subst h
    cases hv
  | R :: Ps, vs, e, ⟨u, r, ev, hu, ht⟩, v, hv => by
    subst ev
    rcases List.mem_cons.mp hv with rfl | hv
    · rw [← e R (List.mem_cons_self ..)]
      exact hu
    · exact pws_all (fun Q hQ => e Q (List.mem_cons_of_mem _ hQ)) ht v hv
theorem evPair {X : Cx} {σ : L2.St} {H : Hp} {a b : Expr} {p : Pos} {o u : Int} {kk : Nat} (ha : Ev X σ H a (Is (.int o))) (hb : Ev X σ H b (Is (.int u))) (h : Ok2 (o, u)) (hs : starEach [a, b] X.env = (false, eval a X.env) :: starEach [b] X.env := by rfl) (hs' : starEach [b] X.env = (false, eval b X.env) :: starEach [] X.env := by rfl) : Ev X σ H (.Tuple [a, b] kk p) PairV :=
  (ev_tupI (xs := [.int o, .int u]) (ea_2 ha mono_is hb mono_is hs hs') (by show 2 ≤ 1000; decide)).imp fun v H' _ h' => ⟨(o, u), h', h⟩
theorem ok_few {f : Addr} {fd : FuncData} (F : Fun K "_law_few" "_law_few" sFew f fd) : FnOk P w K mg base CX0 1 f fd [] spFew := by
  refine F.ok scFew (fun vs H Q E h => ?_) (fun cdv A outer s H vs Q E hr h => ?_)
  · obtain ⟨rfl, _⟩ := h
    rfl
  · obtain ⟨rfl, k⟩ := h
    refine ⟨_, pw_B, b_ret (w_E (pe_lst pw_A) (wA_mono ((ea_cons (evPair (o := (0 : Int)) (u := (1 : Int)) (ev_c pe_int) (ev_c pe_int) (by decide)) mono_pairV (ea_cons (evPair (o := (0 : Int)) (u := (-5 : Int)) (ev_c pe_int) (ev_negI (ev_c pe_int)) (by decide)) mono_pairV (ea_cons (evPair (o := (1 : Int)) (u := (1 : Int)) (ev_c pe_int) (ev_c pe_int) (by decide)) mono_pairV (ea_cons (evPair (o := (-1 : Int)) (u := (1 : Int)) (ev_negI (ev_c pe_int)) (ev_c pe_int) (by decide)) mono_pairV (ea_cons (evPair (o := (1 : Int)) (u := (2 : Int)) (ev_c pe_int) (ev_c pe_int) (by decide)) mono_pairV (ea_cons (evPair (o := (-3 : Int)) (u := (6 : Int)) (ev_negI (ev_c pe_int)) (ev_c pe_int) (by decide)) mono_pairV (ea_cons (evPair (o := (6 : Int)) (u := (-4 : Int)) (ev_c pe_int) (ev_negI (ev_c pe_int)) (by decide)) mono_pairV (ea_cons (evPair (o := (7 : Int)) (u := (3 : Int)) (ev_c pe_int) (ev_c pe_int) (by decide)) mono_pairV (ea_cons (evPair (o := (-7 : Int)) (u := (3 : Int)) (ev_negI (ev_c pe_int)) (ev_c pe_int) (by decide)) mono_pairV (ea_cons (evPair (o := (10 : Int) ^ (6 : Int).toNat) (u := (10 : Int) ^ (4 : Int).toNat) (ev_opC op_pow (ev_c pe_int) (ev_c pe_int) ⟨by decide, by decide, by decide⟩) (ev_opC op_pow (ev_c pe_int) (ev_c pe_int) ⟨by decide, by decide, by decide⟩) (by decide)) mono_pairV (ea_cons (evPair (o := (-8 : Int)) (u := (4 : Int)) (ev_negI (ev_c pe_int)) (ev_c pe_int) (by decide)) mono_pairV ea_nil))))))))))) H (.refl _)) fun vs H1 ⟨s1, pv⟩ => ?_))⟩
    have hl : vs.length = 11 := pv.len
    refine ⟨by rw [hl]; decide, fun S hS => ?_⟩
    refine k S vs _ (s1.trans (same_new hS)) ?_ upd_same hl fun v hv => ?_
    · cases q : H S with
      | none => rfl
      | some o =>
        rw [s1 _ _ q] at hS
        cases hS
    · exact mono_pairV _ _ _ (same_new hS) (pws_all (by simp) pv v hv)
end
end Kn

namespace Cb
open PySem PySem.Spec PyProof.Rows L2
/-! ### loops and comprehensions -/
section
variable {X : Cx} {e a b c : Expr} {es : List Expr} {σ : L2.St} {H H' : Hp} {p p' pos : Pos} {D : Ends} {P : Pd} {sts body : List Stmt} {tg iter : Expr}
theorem for_enum {K : PySem.W.Frag} {a : Addr} {xs : List V} {g : TG} {tb : TS} {D : Ends} {σ : L2.St} {H : Hp} (Pv : Nat → L2.St → Hp → Prop) (h0 : Pv 0 σ H) (hl : ∀ i σ H, i ≤ xs.length → Pv i σ H → SqL K H a xs)
    (hs : ∀ i x σ H T, xs[i]? = some x → Pv i σ H → H T = none → g (.ref T) σ (upd H T (.tup [.int (i : Nat), x])) fun σ2 H2 => tb { D with nx := Pv (i + 1), ct := Pv (i + 1), bk := D.nx } σ2 H2) (hd : ∀ σ H, Pv xs.length σ H → D.nx σ H) :
    ∃ W : Nat → Nat → L2.St → Hp → Prop, (∃ m, W 0 m σ H) ∧ ∀ i m σ H, W i m σ H →
      ((Ite K a).stop i H ∧ D.nx σ H) ∨ ((Ite K a).go i H ∧ ∃ N : L2.St → Hp → Prop, (∀ σ' H', N σ' H' → ∃ m', m' < m ∧ W (i + 1) m' σ' H') ∧ ∀ x H', (Ite K a).yld i H x H' → g x σ H' fun σ2 H2 => tb { D with nx := N, ct := N, bk := D.nx } σ2 H2) := by
  refine ⟨fun i m σ H => m = xs.length - i ∧ i ≤ xs.length ∧ Pv i σ H, ⟨xs.length, by simp, Nat.zero_le _, h0⟩, ?_⟩
  rintro i m σ H ⟨rfl, hi, p⟩
  have q := hl i σ H hi p
  by_cases hlt : i < xs.length
  · refine .inr ⟨⟨xs, xs[i], q, by simp [hlt]⟩, Pv (i + 1), fun σ' H' p' => ⟨xs.length - (i + 1), by omega, rfl, hlt, p'⟩, fun v H' y => ?_⟩
    obtain ⟨T, x, rfl, hT, rfl, y⟩ := y
    exact hs i x σ H T (y xs q) p hT
  · have e : i = xs.length := by omega
    subst e
    exact .inl ⟨⟨xs, q, Nat.le_refl _⟩, hd σ H p⟩
theorem b_for {wi : TI} {g : TG} (hc : X.calm = true) (hi : PI X tg iter wi) (hg : PG X tg g) (h : tFor wi g (wB X body) { D with nx := wB X sts D } σ H) (hp : PassesOwn (model X.prog X.w) X.A X.env X.xe)
    (hs : ∀ x, foldedSetIterable iter X.env x = pure x := by intro _; rfl) : wB X (.For tg iter body [] pos :: sts) D σ H := b_cons (w_S (ps_for hp hc hi hg pw_B hs) h)
/-- the element, the test of a comprehension -/
def wEb (X : Cx) (scope : Scope) (elt : Expr) : TE := fun σ H Q => ∀ (s : Shared) (H0 : Hp) (C : Addr) (cl : List (Str × Addr)) (fp : List Addr), wE (X.blk s H0 scope (compEnvC scope cl C X.env) fp) elt σ H Q
def wTb (X : Cx) (scope : Scope) (c : Expr) : TT := fun σ H Q => ∀ (s : Shared) (H0 : Hp) (C : Addr) (cl : List (Str × Addr)) (fp : List Addr), wT (X.blk s H0 scope (compEnvC scope cl C X.env) fp) c σ H Q
theorem pw_Eb {scope : Scope} {elt : Expr} (s : Shared) (H : Hp) (C : Addr) (cl : List (Str × Addr)) (fp : List Addr) : PE (X.blk s H scope (compEnvC scope cl C X.env) fp) elt (wEb X scope elt) := ⟨fun pins s1 σ H1 Q I h => h s H C cl fp pins s1 I⟩
theorem pw_Tb {scope : Scope} {c : Expr} (s : Shared) (H : Hp) (C : Addr) (cl : List (Str × Addr)) (fp : List Addr) : PTs (X.blk s H scope (compEnvC scope cl C X.env) fp) [c] (wTb X scope c) := pts_one ⟨fun pins s1 σ H1 Q I h => h s H C cl fp pins s1 I⟩
/-- an item of a tracked list, told by a predicate -/
theorem ev_ixLP {q : Addr} {xs : List V} {j : Nat} {v : V} (ho : Ev X σ H a (Is (.ref q))) (hi : Ev X σ H b (Is (.int (j : Int)))) (hq : H q = some (.lst xs)) (ha : xs[j]? = some v) (hP : P v H) (m : Mono P) (hs : PlainIxT b := by exact fun _ _ => rfl) : Ev X σ H (.Subscript a b p) P :=
  (ev_ixL ho hi hq (atI_nat ha) hs).imp fun w H' s e => by
    cases e
    exact m _ _ _ s hP
end
end Cb
namespace Kn
open PySem PySem.Spec PyProof.Rows L2 Cb
section
variable {X : Cx} {σ : L2.St} {H : Hp} {a b c : Expr} {p q : Pos} {k : Nat} {f : Addr} {fd : FuncData} {ps : List Str} {C : Addr} {r s t : Rat}
theorem ev_round (g : GDef X "_law_check_rounded" k f fd ps (spRound C)) (ha : Ev X σ H a (Ins C (pf r))) (hr : Bd 30 r) (hg : Gl X "_law_check_rounded" := by rfl) (hs : starEach [a] X.env = (false, eval a X.env) :: starEach [] X.env := by rfl)
    (hpl : (backTo p (starEach [] X.env)).any (·.1) = false := by rfl) : Ev X σ H (.Call (.Name "_law_check_rounded" q) [a] [] p) (Is (.bl true)) := ev_callP r g (ea_1 ha mono_ins hs) (fun vs H2 _ h => ⟨h.one, hr⟩) hg (by decide) hs hpl
theorem ev_three (g : GDef X "_law_check_three" k f fd ps (spThree C)) (ha : Ev X σ H a (Ins C (pf r))) (hb : Ev X σ H b (Ins C (pf s))) (hc : Ev X σ H c (Ins C (pf t))) (h1 : Bd 40 r) (h2 : Bd 40 s) (h3 : Bd 40 t) (hg : Gl X "_law_check_three" := by rfl) (hs : starEach [a, b, c] X.env = (false, eval a X.env) :: starEach [b, c] X.env := by rfl)
    (hs' : starEach [b, c] X.env = (false, eval b X.env) :: starEach [c] X.env := by rfl) (hs'' : starEach [c] X.env = (false, eval c X.env) :: starEach [] X.env := by rfl) (hpl : (backTo p (starEach [b, c] X.env)).any (·.1) = false := by rfl) : Ev X σ H (.Call (.Name "_law_check_three" q) [a, b, c] [] p) (Is (.bl true)) :=
  ev_callP (r, s, t) g (ea_3 ha mono_ins hb mono_ins hc mono_ins hs hs' hs'') (fun vs H2 _ h => ⟨h.three, h1, h2, h3⟩) hg (by decide) hs hpl
theorem ev_order (g : GDef X "_law_check_order" k f fd ps (spOrder C)) (ha : Ev X σ H a (Ins C (pf r))) (hb : Ev X σ H b (Ins C (pf s))) (hc : Ev X σ H c (Ins C (pf t))) (h1 : Bd 40 r) (h2 : Bd 40 s) (h3 : Bd 40 t) (hg : Gl X "_law_check_order" := by rfl) (hs : starEach [a, b, c] X.env = (false, eval a X.env) :: starEach [b, c] X.env := by rfl)
    (hs' : starEach [b, c] X.env = (false, eval b X.env) :: starEach [c] X.env := by rfl) (hs'' : starEach [c] X.env = (false, eval c X.env) :: starEach [] X.env := by rfl) (hpl : (backTo p (starEach [b, c] X.env)).any (·.1) = false := by rfl) : Ev X σ H (.Call (.Name "_law_check_order" q) [a, b, c] [] p) (Is (.bl true)) :=
  ev_callP (r, s, t) g (ea_3 ha mono_ins hb mono_ins hc mono_ins hs hs' hs'') (fun vs H2 _ h => ⟨h.three, h1, h2, h3⟩) hg (by decide) hs hpl
end
theorem ok2_bd {d : Int × Int} (h : Ok2 d) : Bd 30 (Rat.divInt d.1 d.2) := bd_div h.1 (Nat.lt_trans h.2.1 (by decide)) (Nat.lt_trans h.2.2 (by decide))
theorem ok2_low {d : Int × Int} (h : Ok2 d) : LowOk d.2 := ⟨h.1, .inr (Nat.lt_trans h.2.2 (by decide))⟩
/-- us: pairs; ws: the Amounts made of them, place by place -/
def Made (C : Addr) (us ws : List V) (H : Hp) : Prop := ∀ (j : Nat) (v w : V), us[j]? = some v → ws[j]? = some w → ∃ d : Int × Int, TupI [.int d.1, .int d.2] v H ∧ Ok2 d ∧ Ins C (pf (Rat.divInt d.1 d.2)) w H
theorem Made.fz {C : Addr} {us ws : List V} {H H' : Hp} (m : Made C us ws H) (f : Fz H H') : Made C us ws H' := fun j v w h1 h2 => by
  obtain ⟨d, t, o, i⟩ := m j v w h1 h2
  exact ⟨d, fz_tup f t, o, fz_ins f i⟩
/-- an Amount of a size that the checks take -/
def AmV (C : Addr) : Pd := fun w H => ∃ r, Ins C (pf r) w H ∧ Bd 30 r
theorem Made.at {C : Addr} {us ws : List V} {H : Hp} (m : Made C us ws H) (hl : us.length = ws.length) {j : Nat} {w : V} (h : ws[j]? = some w) : AmV C w H := by
  have hj : j < us.length := by
    have := (List.getElem?_eq_some_iff.mp h).1
    omega
  obtain ⟨d, _, o, i⟩ := m j _ w (List.getElem?_eq_getElem hj) h
  exact ⟨_, i, ok2_bd o⟩
theorem mono_amv {C : Addr} : Mono (AmV C) := fun v H H' s ⟨r, h, b⟩ => ⟨r, mono_ins _ _ _ s h, b⟩
theorem fz_amv {C : Addr} {v : V} {H H' : Hp} (f : Fz H H') (h : AmV C v H) : AmV C v H' := by
  obtain ⟨r, h, b⟩ := h
  exact ⟨r, fz_ins f h, b⟩
end Kn

namespace Kn
open PySem PySem.Spec PyProof.Rows L2 Cb
abbrev sLaw : Stmt := top 34
def spLaw (K : PySem.W.Frag) : Sp := fun vs H Q _ => ∃ (a : Addr) (ns : List Int), vs = [.ref a] ∧ SqL K H a (ns.map V.int) ∧ ns.length ≤ 63 ∧ ∀ H', Q (.bl true) H'
abbrev NL : List Str := ["_law_script", "_law_reader_here", "_law_some", "_law_k", "_law_made", "_law_at", "_law_a", "_law_b", "_law_c", "_law_whole", "_law_pair_now"]
theorem scLaw : FnScope NL ["_law_script"] (defScope sLaw) := ⟨rfl, rfl, rfl, by decide +kernel, rfl, by decide +kernel, by decide +kernel⟩
structure Zs (mg : Str → Option Value) : Prop where
  range : mg "range" = none
  len : mg "len" = none
  enum : mg "enumerate" = none
  list : mg "list" = none
section
variable {P : Program} {w : World} {K : PySem.W.Frag} {mg : Str → Option Value} {base : Heap}
/-- a def of the module, of the law's own -/
structure LD (P : Program) (w : World) (K : PySem.W.Frag) (mg : Str → Option Value) (base : Heap) (x : Str) (k : Nat) (ps : List Str) (sp : Sp) : Prop where
  ex : ∃ (f : Addr) (fd : FuncData), FnOk P w K mg base CX0 k f fd ps sp ∧ mg x = some (.ref f) ∧ PySem.W.keepIn K (.ref f) = true ∧ Binds K fd ps []
theorem LD.g {X : Cx} {x : Str} {k : Nat} {ps : List Str} {sp : Sp} (h : LD X.prog X.w X.K X.mg X.base x k ps sp) {n : Nat} (hr : Room n X.A) (l : k ≤ n) : ∃ f fd, GDef X x k f fd ps sp := by
  obtain ⟨f, fd, F, g, kp, b⟩ := h.ex
  exact ⟨f, fd, F, hr.mono l, g, kp, b⟩
theorem Rd.app {d c S : Addr} {H : Hp} {xs ys : List V} (r : Rd d c H) (n : S ≠ c) (h : H S = some (.lst xs)) : Rd d c (upd H S (.lst ys)) := by
  obtain ⟨ns, nx, rs, dr, hd, hc⟩ := r
  exact ⟨ns, nx, rs, dr, by rw [upd_ne (ne_of hd h (by intro z; cases z))]; exact hd, by rw [upd_ne n.symm]; exact hc⟩
theorem Rd.ne {d c S : Addr} {H : Hp} {o : HO} (r : Rd d c H) (h : H S = some o) (n : ∀ kvs, o ≠ .dK kvs) : S ≠ d := fun e => by
  obtain ⟨kvs, hd⟩ := r.at
  rw [e, hd] at h
  cases h
  exact n _ rfl
theorem wipe1 {σ : L2.St} {x : V} {i : Nat} : wipe ((wipe σ [i]).set i (some x)) [i] = wipe σ [i] := by
  show ((σ.set i none).set i (some x)).set i none = σ.set i none
  rw [List.set_set, List.set_set]
theorem mk_blk {X : Cx} {C : Addr} {s : Shared} {H : Hp} {sc : Scope} {env : Env} {fp : List Addr} (M : MkX X C) : MkX (X.blk s H sc env fp) C := ⟨M.ex, M.mg⟩
theorem am_blk {X : Cx} {C : Addr} {s : Shared} {H : Hp} {sc : Scope} {env : Env} {fp : List Addr} (AF : AmF X.prog X.w X.K X.mg X.base C) (hr : Room 6 X.A) : AmX (X.blk s H sc env fp) C := AmF.x (X := X.blk s H sc env fp) AF hr
theorem fl_int (z : Int) : fl (z : Rat) = z := by
  unfold fl
  rw [Rat.num_intCast, Rat.den_intCast]
  simp
theorem ce_int (z : Int) : ce (z : Rat) = z := by
  unfold ce
  rw [Rat.num_intCast, Rat.den_intCast]
  simp
theorem twice_two (z : Int) : Rat.divInt (2 * z) 2 = (z : Rat) := by
  have h : Rat.divInt (2 * z) (2 * 1) = Rat.divInt z 1 := Rat.divInt_mul_left (by decide)
  exact h.trans (div_one z)
theorem ok_law {f C : Addr} {fd : FuncData} (Z : Zs mg) (AF : AmF P w K mg base C) (F : Fun K "law" "law" sLaw f fd)
    (LR : LD P w K mg base "_law_reader" 1 ["_law_script"] (spReader K)) (LF : LD P w K mg base "_law_few" 1 [] spFew) (LP : LD P w K mg base "_law_pair" 2 ["_law_reader_here"] spPr) (LDr : LD P w K mg base "_law_draw" 1 ["_law_reader_here", "_law_many"] spDraw)
    (L3 : LD P w K mg base "_law_check_three" 7 ["_law_a", "_law_b", "_law_c"] (spThree C)) (LO : LD P w K mg base "_law_check_order" 7 ["_law_a", "_law_b", "_law_c"] (spOrder C)) (LRd : LD P w K mg base "_law_check_rounded" 7 ["_law_a"] (spRound C)) :
    FnOk P w K mg base CX0 8 f fd ["_law_script"] (spLaw K) := by
  refine F.ok scLaw (fun vs H Q E h => ?_) (fun cdv A0 outer s H vs Q E hr h => ?_)
  · obtain ⟨a, ns, rfl, _⟩ := h
    rfl
  · obtain ⟨a, ns, rfl, hS0, _, k⟩ := h
    have A := AF.x (X := (cxOf CX0 P w K mg base NL "law" (defScope sLaw) f cdv A0 outer s H E).nox) (hr.mono (by decide))
    obtain ⟨fR, fdR, GR⟩ := LD.g (X := (cxOf CX0 P w K mg base NL "law" (defScope sLaw) f cdv A0 outer s H E).nox) LR hr (by decide)
    obtain ⟨fF, fdF, GF⟩ := LD.g (X := (cxOf CX0 P w K mg base NL "law" (defScope sLaw) f cdv A0 outer s H E).nox) LF hr (by decide)
    obtain ⟨fP, fdP, GP⟩ := LD.g (X := (cxOf CX0 P w K mg base NL "law" (defScope sLaw) f cdv A0 outer s H E).nox) LP hr (by decide)
    obtain ⟨fD, fdD, GD⟩ := LD.g (X := (cxOf CX0 P w K mg base NL "law" (defScope sLaw) f cdv A0 outer s H E).nox) LDr hr (by decide)
    obtain ⟨f3, fd3, G3⟩ := LD.g (X := (cxOf CX0 P w K mg base NL "law" (defScope sLaw) f cdv A0 outer s H E).nox) L3 hr (by decide)
    obtain ⟨fO, fdO, GO⟩ := LD.g (X := (cxOf CX0 P w K mg base NL "law" (defScope sLaw) f cdv A0 outer s H E).nox) LO hr (by decide)
    obtain ⟨fd', fdd', GRd⟩ := LD.g (X := (cxOf CX0 P w K mg base NL "law" (defScope sLaw) f cdv A0 outer s H E).nox) LRd hr (by decide)
    refine ⟨_, pw_B, ?_⟩
    -- the reader
    refine b_set (i := 1) scLaw.nd rfl (.inl rfl) (w_E (pe_call GR.ok GR.room (by rfl) GR.gl GR.kp GR.bs .nil pass0 (pa_cons (pv 0) pa_nil)) ?_)
    refine ⟨_, rfl, a, ns, rfl, hS0, fun d c H1 s1 rd1 _ => ?_⟩
    -- the fixed pairs
    refine b_set (i := 2) scLaw.nd rfl (.inr rfl) (w_E (pe_call0 GF.ok GF.room (by rfl) GF.gl GF.kp GF.bs .nil pass0) ?_)
    refine ⟨rfl, fun S us0 H2 s2 nS hS hl0 hp0 => ?_⟩
    have rd2 := rd1.same s2
    have nSc : S ≠ c := by
      obtain ⟨_, _, _, _, _, hc⟩ := rd1
      exact fun e => by
        rw [e, hc] at nS
        cases nS
    -- five drawn ones
    refine b_for rfl (pi_range1 rfl Z.range (pa_cons pe_int pa_nil)) (pg_name (i := 3) scLaw.nd rfl (.inl rfl)) ?_ PassesOwn.never
    refine ⟨5, rfl, by decide, by decide, for_range (n := 5) (fun i σ H => ∃ y us, σ = [some (.ref a), some (.ref d), some (.ref S), y, none, none, none, none, none, none, none] ∧ Rd d c H ∧ H S = some (.lst us) ∧ us.length = 11 + i ∧ ∀ v ∈ us, PairV v H)
      ⟨none, us0, rfl, rd2, hS, hl0, hp0⟩ ?_ ?_⟩
    · rintro i σ H3 hi ⟨y, us, rfl, rd3, hS3, hl3, hp3⟩
      refine b_cons (w_S (ps_expr (pe_bm PySem.F.plainAttrs_list PySem.F.slot_list_append PySem.F.type_list_append mt_append (pv 2) (pa_cons (pe_call GP.ok GP.room (by rfl) GP.gl GP.kp GP.bs .nil pass0 (pa_cons (pv 1) pa_nil)) pa_nil))) ?_)
      refine ⟨_, rfl, .inl ⟨rfl, _, SqL.of hS3⟩, _, rfl, d, c, rfl, rd3, fun v H4 k4 rd4 hv => ?_⟩
      have hS4 := k4 _ _ (rd3.ne hS3 (fun _ z => by cases z)) hS3
      refine ⟨S, us, v, rfl, rfl, hS4, by rw [hl3]; exact small1000 (by omega), b_nil ?_⟩
      refine ⟨_, us ++ [v], rfl, rd4.app nSc hS4, upd_same, by rw [List.length_append, hl3]; rfl, fun u hu => ?_⟩
      rcases List.mem_append.mp hu with hu | hu
      · exact fz_pair ((Fz.keep rd3 k4).trans (Fz.app hS4)) (hp3 u hu)
      · rw [List.mem_singleton.mp hu]
        exact fz_pair (Fz.app hS4) hv
    · rintro σ H3 ⟨y, us, rfl, rd3, hS3, hl3, hp3⟩
      have hl16 : us.length = 16 := hl3
      -- the Amounts
      refine b_set (i := 4) scLaw.nd rfl (.inr rfl) (w_E (pe_lc (own := [("_law_pair_now", 10)]) (g := gName 10) (tt := tYes) rfl scLaw.nd (pi_list (pv 2)) (blkOk_by (N := NL) (sc := defScope sLaw) (by decide +kernel)) (fun _ _ _ _ _ => pg_name (i := 10) scLaw.nd rfl (Or.inl rfl)) (fun _ _ _ _ _ => pts_nil) pw_Eb) ?_)
      refine ⟨_, rfl, S, rfl, ⟨_, SqL.of hS3⟩, fun M hM => lc_list (K := K) (a := S) (xs := us) (fun i H => Rd d c H ∧ H S = some (.lst us) ∧ (∀ v ∈ us, PairV v H) ∧ ∃ ws, H M = some (.lst ws) ∧ ws.length = i ∧ Made C us ws H) ?_ (fun i H _ h => SqL.of h.2.1) ?_ ?_⟩
      · have sM : Same H3 (upd H3 M (.lst [])) := same_new hM
        exact ⟨rd3.same sM, sM _ _ hS3, fun v hv => mono_pairV _ _ _ sM (hp3 v hv), [], upd_same, rfl, fun j v w _ h2 => by simp at h2⟩
      · rintro i x H4 hx ⟨rd4, hS4, hp4, ws, hM4, hl4, hm4⟩
        have hi16 : i < 16 := by
          have := (List.getElem?_eq_some_iff.mp hx).1
          omega
        obtain ⟨dd, ht, ho⟩ := hp4 x (List.mem_of_getElem? hx)
        refine ⟨wipe1, ?_⟩
        unfold tYes
        dsimp only
        rw [if_pos rfl]
        intro s' H0' C' cl' fp'
        refine w_ev (ev_make2 (mk_blk A.make) (ok2_low ho) (ev_ixT (ev_v (pv 10) rfl ht mono_tup) (ev_c pe_int) atI0) (ev_ixT (ev_v (pv 10) rfl ht mono_tup) (ev_c pe_int) atI1)) fun v H5 s5 hv => ?_
        have hM5 := s5 _ _ hM4
        have hS5 := s5 _ _ hS4
        have nSM : S ≠ M := fun e => by
          rw [e, hM] at hS3
          cases hS3
        have nMc : M ≠ c := fun e => by
          obtain ⟨_, _, _, _, _, hc⟩ := rd3
          rw [e, hc] at hM
          cases hM
        refine ⟨ws, hM5, by rw [hl4]; exact small1000 (by omega), (rd4.same s5).app nMc hM5, by rw [upd_ne nSM]; exact hS5, fun u hu => fz_pair ((Fz.of s5).trans (Fz.app hM5)) (hp4 u hu), ws ++ [v], upd_same, by rw [List.length_append, hl4]; rfl, fun j u w' hj hw' => ?_⟩
        by_cases hjl : j < ws.length
        · rw [List.getElem?_append_left hjl] at hw'
          exact (hm4.fz ((Fz.of s5).trans (Fz.app hM5))) j u w' hj hw'
        · have ej : j = i := by
            have h1 := (List.getElem?_eq_some_iff.mp hw').1
            rw [List.length_append] at h1
            simp at h1
            omega
          subst ej
          rw [hx] at hj
          cases hj
          rw [List.getElem?_append_right (by omega), hl4, Nat.sub_self] at hw'
          cases hw'
          exact ⟨dd, fz_tup ((Fz.of s5).trans (Fz.app hM5)) ht, ho, fz_ins (Fz.app hM5) hv⟩
      · rintro H4 ⟨rd4, hS4, hp4, ws, hM4, hl4, hm4⟩
        have hw16 : ws.length = 16 := hl4.trans hl16
        have hlw : us.length = ws.length := hl4.symm
        have nMc : M ≠ c := fun e => by
          obtain ⟨_, _, _, _, _, hc⟩ := rd3
          rw [e, hc] at hM
          cases hM
        -- the loop over the Amounts
        refine b_for rfl (pi_enum (by rfl) Z.enum (pa_cons (pv 4) pa_nil)) (pg_tup rfl (pgs_cons (pg_name (i := 5) scLaw.nd rfl (.inl rfl)) (pgs_cons (pg_name (i := 6) scLaw.nd rfl (.inl rfl)) pgs_nil))) ?_ PassesOwn.never
        refine ⟨_, rfl, M, ws, rfl, SqL.of hM4, for_enum (K := K) (a := M) (xs := ws) (fun i σ H => ∃ y3 y5 y6 y7 y8 y9, σ = [some (.ref a), some (.ref d), some (.ref S), y3, some (.ref M), y5, y6, y7, y8, y9, none] ∧ Rd d c H ∧ H S = some (.lst us) ∧ H M = some (.lst ws) ∧ Made C us ws H)
          ⟨y, none, none, none, none, none, rfl, rd4, hS4, hM4, hm4⟩ (fun i σ H _ ⟨_, _, _, _, _, _, _, _, _, h, _⟩ => SqL.of h) ?_ ?_⟩
        · rintro i x σ H5 T hx ⟨y3, y5, y6, y7, y8, y9, rfl, rd5, hS5, hM5, hm5⟩ hT
          have sT : Same H5 (upd H5 T (.tup [.int (i : Nat), x])) := same_new hT
          have hT6 : (upd H5 T (.tup [.int (i : Nat), x])) T = some (.tup [.int (i : Nat), x]) := upd_same
          generalize upd H5 T (.tup [.int (i : Nat), x]) = H6 at sT hT6 ⊢
          refine ⟨T, _, rfl, .of hT6, rfl, _, _, rfl, _, _, rfl, rfl, ?_⟩
          have rd6 := rd5.same sT
          have hS6 := sT _ _ hS5
          have hM6 := sT _ _ hM5
          have hm6 := hm5.fz (.of sT)
          have hx6 := hm6.at hlw hx
          obtain ⟨r, hr6, hb6⟩ := id hx6
          refine b_ifF ?_ fun H7 s7 => ?_
          · exact EvT.is (et_not (et_v (ev_round GRd (ev_v (pv 6) rfl hr6 mono_ins) hb6))) rfl
          have rd7 := rd6.same s7
          have hS7 := s7 _ _ hS6
          have hM7 := s7 _ _ hM6
          have hm7 := hm6.fz (.of s7)
          have hx7 := mono_amv _ _ _ s7 hx6
          have hlen : (0 : Int) < (ws.length : Int) := by omega
          refine b_for rfl (pi_tup pw_E) (pg_name (i := 7) scLaw.nd rfl (.inl rfl)) ?_ PassesOwn.never
          have hj2 : (i + 1) % ws.length < ws.length := Nat.mod_lt _ (by omega)
          have hw2 : ws[(i + 1) % ws.length]? = some ws[(i + 1) % ws.length] := List.getElem?_eq_getElem hj2
          have ej2 : ((i : Int) + 1) % (ws.length : Int) = (((i + 1) % ws.length : Nat) : Int) := by
            rw [Int.natCast_emod]
            rfl
          refine w_E (pe_tup (pa_cons (pv 6) (pa_cons pw_E (pa_cons pw_E pa_nil)))) ⟨_, rfl, ?_⟩
          refine w_ev (ev_ixLP (P := Is ws[(i + 1) % ws.length]) (j := (i + 1) % ws.length) (ev_vi (pv 4) rfl) (Ev.is (ev_opC op_mod (ev_opI op_add (ev_vi (pv 5) rfl) (ev_c pe_int)) (ev_lenL Z.len (ev_vi (pv 4) rfl) hM7) hlen) (by rw [ej2])) hM7 hw2 rfl mono_is) fun v2 H8 s8 e => ?_
          cases e
          have rd8 := rd7.same s8
          have hS8 := s8 _ _ hS7
          have hM8 := s8 _ _ hM7
          have hm8 := hm7.fz (.of s8)
          have hx8 := mono_amv _ _ _ s8 hx7
          refine w_ix (w_E (pv 4) ⟨_, rfl, w_draw GD (ev_vi (pv 1) rfl) (ev_lenL Z.len (ev_vi (pv 4) rfl) hM8) rd8 hlen (by omega) fun z H9 z0 z1 k9 rd9 => ?_⟩)
          have hM9 := k9 _ _ (rd8.ne hM8 (fun _ z => by cases z)) hM8
          have hS9 := k9 _ _ (rd8.ne hS8 (fun _ z => by cases z)) hS8
          have hm9 := hm8.fz (Fz.keep rd8 k9)
          have hx9 := fz_amv (Fz.keep rd8 k9) hx8
          obtain ⟨j3, rfl⟩ := Int.eq_ofNat_of_zero_le z0
          have hj3 : j3 < ws.length := by omega
          have hw3 : ws[j3]? = some ws[j3] := List.getElem?_eq_getElem hj3
          refine ⟨M, ws, _, _, rfl, rfl, .of hM9, atI_nat hw3, ?_⟩
          refine ⟨by show 3 ≤ sizeLine; decide, fun tp htp => ?_⟩
          have s10 : Same H9 (upd H9 tp (.tup [x, ws[(i + 1) % ws.length], ws[j3]])) := same_new htp
          have ht10 : (upd H9 tp (.tup [x, ws[(i + 1) % ws.length], ws[j3]])) tp = some (.tup [x, ws[(i + 1) % ws.length], ws[j3]]) := upd_same
          generalize upd H9 tp (.tup [x, ws[(i + 1) % ws.length], ws[j3]]) = H10 at s10 ht10 ⊢
          refine ⟨tp, rfl, ⟨_, .of ht10⟩, for_tup (K := K) (a := tp) (xs := [x, ws[(i + 1) % ws.length], ws[j3]]) (fun _ σ H => ∃ y7 y8, σ = [some (.ref a), some (.ref d), some (.ref S), y3, some (.ref M), some (.int (i : Nat)), some x, y7, y8, y9, none] ∧ Rd d c H ∧ H S = some (.lst us) ∧ H M = some (.lst ws) ∧ Made C us ws H ∧ H tp = some (.tup [x, ws[(i + 1) % ws.length], ws[j3]]) ∧ ∀ v ∈ [x, ws[(i + 1) % ws.length], ws[j3]], AmV C v H)
            ⟨y7, y8, rfl, rd9.same s10, s10 _ _ hS9, s10 _ _ hM9, hm9.fz (.of s10), ht10, fun v hv => ?_⟩ (fun _ σ H _ ⟨_, _, _, _, _, _, _, h, _⟩ => .of h) ?_ ?_⟩
          · have h9 : AmV C v H9 := by
              rcases List.mem_cons.mp hv with rfl | hv
              · exact hx9
              rcases List.mem_cons.mp hv with rfl | hv
              · exact hm9.at hlw hw2
              rw [List.mem_singleton.mp hv]
              exact hm9.at hlw hw3
            exact mono_amv _ _ _ s10 h9
          · rintro i2 b σ H11 hb2 ⟨y7, y8, rfl, rd11, hS11, hM11, hm11, ht11, ha11⟩
            refine b_set (i := 8) scLaw.nd rfl (.inl rfl) (w_ix (w_E (pv 4) ⟨_, rfl, w_draw GD (ev_vi (pv 1) rfl) (ev_lenL Z.len (ev_vi (pv 4) rfl) hM11) rd11 hlen (by omega) fun z H12 z0 z1 k12 rd12 => ?_⟩))
            have hM12 := k12 _ _ (rd11.ne hM11 (fun _ z => by cases z)) hM11
            have hS12 := k12 _ _ (rd11.ne hS11 (fun _ z => by cases z)) hS11
            have ht12 := k12 _ _ (rd11.ne ht11 (fun _ z => by cases z)) ht11
            have hm12 := hm11.fz (Fz.keep rd11 k12)
            have ha12 := fun v hv => fz_amv (Fz.keep rd11 k12) (ha11 v hv)
            obtain ⟨j4, rfl⟩ := Int.eq_ofNat_of_zero_le z0
            have hj4 : j4 < ws.length := by omega
            have hw4 : ws[j4]? = some ws[j4] := List.getElem?_eq_getElem hj4
            refine ⟨M, ws, _, _, rfl, rfl, .of hM12, atI_nat hw4, ?_⟩
            obtain ⟨r1, hr1, hb1⟩ := ha12 x (List.mem_cons_self ..)
            obtain ⟨r2, hr2, hb2'⟩ := ha12 b (List.mem_of_getElem? hb2)
            obtain ⟨r3, hr3, hb3⟩ := hm12.at hlw hw4
            refine b_ifF (et_w (ew_orF ?_ (ew_or1 ?_))) fun H13 s13 => ?_
            · exact EvT.is (et_not (et_v (ev_three G3 (ev_v (pv 6) rfl hr1 mono_ins) (ev_v (pv 7) rfl hr2 mono_ins) (ev_v (pv 8) rfl hr3 mono_ins) (hb1.mono (by decide)) (hb2'.mono (by decide)) (hb3.mono (by decide))))) rfl
            · exact EvT.is (et_not (et_v (ev_order GO (ev_v (pv 6) rfl hr1 mono_ins) (ev_v (pv 7) rfl hr2 mono_ins) (ev_v (pv 8) rfl hr3 mono_ins) (hb1.mono (by decide)) (hb2'.mono (by decide)) (hb3.mono (by decide))))) rfl
            refine b_nil ⟨_, _, rfl, rd12.same s13, s13 _ _ hS12, s13 _ _ hM12, hm12.fz (.of s13), s13 _ _ ht12, fun v hv => mono_amv _ _ _ s13 (ha12 v hv)⟩
          · rintro σ H11 ⟨y7, y8, rfl, rd11, hS11, hM11, hm11, _, _⟩
            exact b_nil ⟨_, _, _, _, _, _, rfl, rd11, hS11, hM11, hm11⟩
        · rintro σ H5 ⟨y3, y5, y6, y7, y8, y9, rfl, rd5, hS5, hM5, hm5⟩
          -- the whole numbers
          refine b_for rfl (pi_range2 rfl Z.range (pa_cons (pe_un un_neg pe_int) (pa_cons pe_int pa_nil))) (pg_name (i := 9) scLaw.nd rfl (.inl rfl)) ?_ PassesOwn.never
          refine ⟨30, rfl, -30, 31, rfl, by decide, for_range (lo := -30) (n := 61) (fun i σ H => ∃ y3 y5 y6 y7 y8 y9, σ = [some (.ref a), some (.ref d), some (.ref S), y3, some (.ref M), y5, y6, y7, y8, y9, none] ∧ H S = some (.lst us) ∧ H M = some (.lst ws) ∧ Made C us ws H)
            ⟨y3, y5, y6, y7, y8, y9, rfl, hS5, hM5, hm5⟩ ?_ ?_⟩
          · rintro i σ H6 hi ⟨y3, y5, y6, y7, y8, y9, rfl, hS6, hM6, hm6⟩
            generalize hz : (-30 + (i : Int)) = z
            haveI : IntI z 5 := ⟨by
              show z.natAbs < 64
              omega⟩
            refine b_ifF (et_w (ew_orF ?_ (ew_orF ?_ (ew_or1 ?_)))) fun H7 s7 => ?_
            · refine et_neTF (x := z) (y := 1) hr.units (Ev.imp (ev_pair A (r := (z : Rat)) ?_) fun v H' _ h => ?_) ?_
              · exact ev_make1 A.make (ev_vi (pv 9) rfl)
              · rw [Rat.num_intCast, Rat.den_intCast] at h
                exact h
              · exact ev_tupI (xs := [.int z, .int 1]) (ea_2 (ev_vi (pv 9) rfl) mono_is (ev_c pe_int) mono_is) (by show 2 ≤ 1000; decide)
            · exact EvT.is (CC.et (c_neS (d_down A (ev_make1 A.make (ev_vi (pv 9) rfl))) (ev_vi (pv 9) rfl) rfl)) (neF (by rw [fl_int]))
            · exact EvT.is (CC.et (c_neS (d_up A (ev_make1 A.make (ev_vi (pv 9) rfl))) (ev_vi (pv 9) rfl) rfl)) (neF (by rw [ce_int]))
            refine b_ifF (et_w (ew_orF ?_ (ew_or1 ?_))) fun H8 s8 => ?_
            · exact et_neF A (ev_make2 A.make ⟨by decide, .inr (by decide)⟩ (ev_opC op_mul (ev_c pe_int) (ev_vi (pv 9) rfl) (.inl (by decide))) (ev_c pe_int)) (ev_make1 A.make (ev_vi (pv 9) rfl)) (twice_two z)
            · exact EvT.is (CC.et (c_neS (e_compared A (ev_make1 A.make (ev_vi (pv 9) rfl)) (Ev.numI (ev_vi (pv 9) rfl))) (ev_c pe_int) rfl)) (neF (by rw [cmpR_eq rfl]))
            have s78 := s7.trans s8
            exact b_nil ⟨_, _, _, _, _, _, rfl, s78 _ _ hS6, s78 _ _ hM6, hm6.fz (.of s78)⟩
          · rintro σ H6 ⟨y3, y5, y6, y7, y8, y9, rfl, hS6, hM6, hm6⟩
            refine b_ret (w_E (pe_cmpR (op_eqD hr.units) (pe_lc (own := [("_law_k", 3)]) (g := gName 3) rfl scLaw.nd (pi_range1 (by rfl) Z.range (pa_cons pw_E pa_nil)) (blkOk_by (N := NL) (sc := defScope sLaw) (by decide +kernel)) (fun _ _ _ _ _ => pg_name (i := 3) scLaw.nd rfl (Or.inl rfl)) pw_Tb pw_Eb) (pe_lst pa_nil) (nomark _)) ?_)
            refine w_ev (ev_lenL Z.len (ev_vi (pv 4) rfl) hM6) fun v H7 s7 e => ?_
            cases e
            refine ⟨_, rfl, by rw [hw16]; decide, by rw [hw16]; decide, fun D hD => lc_range (lo := 0) (n := ((ws.length : Nat) : Int).toNat) (fun _ H => H S = some (.lst us) ∧ H M = some (.lst ws) ∧ Made C us ws H ∧ H D = some (.lst [])) ?_ ?_ ?_⟩
            · have sD : Same H7 (upd H7 D (.lst [])) := same_new hD
              exact ⟨sD _ _ (s7 _ _ hS6), sD _ _ (s7 _ _ hM6), (hm6.fz (.of s7)).fz (.of sD), upd_same⟩
            · rintro i H8 hi ⟨hS8, hM8, hm8, hD8⟩
              have hi' : i < ws.length := hi
              have hiu : i < us.length := by omega
              have hwi : ws[i]? = some ws[i] := List.getElem?_eq_getElem hi'
              have hui : us[i]? = some us[i] := List.getElem?_eq_getElem hiu
              obtain ⟨dd, ht, ho, hin⟩ := hm8 i _ _ hui hwi
              refine ⟨wipe1, ?_⟩
              intro s' H0' C' cl' fp'
              refine w_evT (k := false) ?_ fun H9 s9 => iteF ⟨s9 _ _ hS8, s9 _ _ hM8, hm8.fz (.of s9), s9 _ _ hD8⟩
              exact et_neF (am_blk AF (hr.mono (by decide))) (ev_ixLP (ev_vi (pv 4) rfl) (Ev.is (ev_vi (pv 3) rfl) (by rw [Int.zero_add])) hM8 hwi hin mono_ins) (ev_make2 (mk_blk A.make) (ok2_low ho) (ev_ixT (ev_ixLP (ev_vi (pv 2) rfl) (Ev.is (ev_vi (pv 3) rfl) (by rw [Int.zero_add])) hS8 hui ht mono_tup) (ev_c pe_int) atI0) (ev_ixT (ev_ixLP (ev_vi (pv 2) rfl) (Ev.is (ev_vi (pv 3) rfl) (by rw [Int.zero_add])) hS8 hui ht mono_tup) (ev_c pe_int) atI1)) rfl
            · rintro H8 ⟨hS8, hM8, hm8, hD8⟩
              refine ⟨Nat.zero_le _, fun q hq => ?_⟩
              have nDq : D ≠ q := fun e => by
                rw [e, hq] at hD8
                cases hD8
              exact ⟨.list [], .list [], .lst (.of (by rw [upd_ne nDq]; exact hD8)) .nil, .lst (.of upd_same) .nil, rfl, rfl, k _⟩
end
end Kn

namespace Kn
open PySem PySem.Spec PyProof.Rows L2 Cb
/-! ### what the top has written -/
theorem dn_add : PySem.dunder Operator.Add.info.2 = ("__add__" : Str) := by decide +kernel
theorem dr_add : dunderR Operator.Add.info.2 = ("__radd__" : Str) := by decide +kernel
theorem dn_sub : PySem.dunder Operator.Sub.info.2 = ("__sub__" : Str) := by decide +kernel
theorem dr_sub : dunderR Operator.Sub.info.2 = ("__rsub__" : Str) := by decide +kernel
theorem dn_mul : PySem.dunder Operator.Mult.info.2 = ("__mul__" : Str) := by decide +kernel
theorem dr_mul : dunderR Operator.Mult.info.2 = ("__rmul__" : Str) := by decide +kernel
theorem cm_eq : (cmpInfo .Eq).2.1 = ("__eq__" : Str) := rfl
theorem cm_ne : (cmpInfo .NotEq).2.1 = ("__ne__" : Str) := rfl
theorem all_mk {l : PySem.W.OpenLaw} {w : World} {K : PySem.W.Frag} {h : Heap} {mg : Str → Option Value} {fa : Addr} (X : K.In h) (G : h.Ns mainGlobals mg) (hfa : mg "law" = some (.ref fa))
    {f1 f2 f3 f4 f5 f6 f7 f8 f9 f10 f11 f12 f13 f14 f15 f16 f17 f18 f19 f20 f21 f22 f23 f24 f25 f26 f27 f28 f29 p26 p27 p28 C TD : Addr} {od1 an1 od2 an2 od3 an3 od4 an4 od5 an5 od6 an6 od7 an7 od8 an8 od9 an9 od10 an10 od11 an11 od12 an12 od13 an13 od14 an14 od15 an15 od16 an16 od17 an17 od18 an18 od19 an19 od20 an20 od21 an21 od22 an22 od23 an23 od24 an24 od25 an25 od26 an26 od27 an27 od28 an28 od29 an29 odT : Option Addr} {oc1 kV1 dc1 pm1 cd1 ct1 oc2 kV2 dc2 pm2 cd2 ct2 oc3 kV3 dc3 pm3 cd3 ct3 oc4 kV4 dc4 pm4 cd4 ct4 oc5 kV5 dc5 pm5 cd5 ct5 oc6 kV6 dc6 pm6 cd6 ct6 oc7 kV7 dc7 pm7 cd7 ct7 oc8 kV8 dc8 pm8 cd8 ct8 oc9 kV9 dc9 pm9 cd9 ct9 oc10 kV10 dc10 pm10 cd10 ct10 oc11 kV11 dc11 pm11 cd11 ct11 oc12 kV12 dc12 pm12 cd12 ct12 oc13 kV13 dc13 pm13 cd13 ct13 oc14 kV14 dc14 pm14 cd14 ct14 oc15 kV15 dc15 pm15 cd15 ct15 oc16 kV16 dc16 pm16 cd16 ct16 oc17 kV17 dc17 pm17 cd17 ct17 oc18 kV18 dc18 pm18 cd18 ct18 oc19 kV19 dc19 pm19 cd19 ct19 oc20 kV20 dc20 pm20 cd20 ct20 oc21 kV21 dc21 pm21 cd21 ct21 oc22 kV22 dc22 pm22 cd22 ct22 oc23 kV23 dc23 pm23 cd23 ct23 oc24 kV24 dc24 pm24 cd24 ct24 oc25 kV25 dc25 pm25 cd25 ct25 oc26 kV26 dc26 pm26 cd26 ct26 oc27 kV27 dc27 pm27 cd27 ct27 oc28 kV28 dc28 pm28 cd28 ct28 oc29 kV29 dc29 pm29 cd29 ct29 oT : Value} {sl1 sl2 sl3 sl4 sl5 sl6 sl7 sl8 sl9 sl10 sl11 sl12 sl13 sl14 sl15 sl16 sl17 sl18 sl19 sl20 sl21 sl22 sl23 sl24 sl25 sl26 sl27 sl28 sl29 slT : Array (Option Value)} {rr26 rr27 rr28 : List Value} {tT : Tok} {nT : Nat} {fo_add fo_radd fo_sub fo_rsub fo_mul fo_rmul : Option Value}
    (aC : PySem.W.nsIn K mainGlobals "Amount" = some (some (.ref C)))
    (a1 : PySem.W.nsIn K mainGlobals "is_integer" = some (some (.ref f1)))
    (l1 : K.lookup f1 = some ⟨oc1, od1, .func (PySem.W.fnOf "is_integer" "is_integer" (defArgs sIsInt) (defBody sIsInt) (defScope sIsInt) .none kV1 dc1 pm1 an1 cd1 ct1), sl1⟩)
    (c1 : PySem.W.codeIn K cd1 "is_integer" = true)
    (k1 : PySem.W.keepIn K (.ref f1) = true)
    (a2 : PySem.W.nsIn K mainGlobals "lowest" = some (some (.ref f2)))
    (l2 : K.lookup f2 = some ⟨oc2, od2, .func (PySem.W.fnOf "lowest" "lowest" (defArgs sLow) (defBody sLow) (defScope sLow) .none kV2 dc2 pm2 an2 cd2 ct2), sl2⟩)
    (c2 : PySem.W.codeIn K cd2 "lowest" = true)
    (k2 : PySem.W.keepIn K (.ref f2) = true)
    (a3 : PySem.W.nsIn K mainGlobals "rounded_down" = some (some (.ref f3)))
    (l3 : K.lookup f3 = some ⟨oc3, od3, .func (PySem.W.fnOf "rounded_down" "rounded_down" (defArgs sDown) (defBody sDown) (defScope sDown) .none kV3 dc3 pm3 an3 cd3 ct3), sl3⟩)
    (c3 : PySem.W.codeIn K cd3 "rounded_down" = true)
    (k3 : PySem.W.keepIn K (.ref f3) = true)
    (a4 : PySem.W.nsIn K mainGlobals "rounded_up" = some (some (.ref f4)))
    (l4 : K.lookup f4 = some ⟨oc4, od4, .func (PySem.W.fnOf "rounded_up" "rounded_up" (defArgs sUp) (defBody sUp) (defScope sUp) .none kV4 dc4 pm4 an4 cd4 ct4), sl4⟩)
    (c4 : PySem.W.codeIn K cd4 "rounded_up" = true)
    (k4 : PySem.W.keepIn K (.ref f4) = true)
    (a5 : PySem.W.nsIn K mainGlobals "parts_of" = some (some (.ref f5)))
    (l5 : K.lookup f5 = some ⟨oc5, od5, .func (PySem.W.fnOf "parts_of" "parts_of" (defArgs sParts) (defBody sParts) (defScope sParts) .none kV5 dc5 pm5 an5 cd5 ct5), sl5⟩)
    (c5 : PySem.W.codeIn K cd5 "parts_of" = true)
    (k5 : PySem.W.keepIn K (.ref f5) = true)
    (a6 : PySem.W.nsIn K mainGlobals "_law_reader" = some (some (.ref f6)))
    (l6 : K.lookup f6 = some ⟨oc6, od6, .func (PySem.W.fnOf "_law_reader" "_law_reader" (defArgs sReader) (defBody sReader) (defScope sReader) .none kV6 dc6 pm6 an6 cd6 ct6), sl6⟩)
    (c6 : PySem.W.codeIn K cd6 "_law_reader" = true)
    (k6 : PySem.W.keepIn K (.ref f6) = true)
    (a7 : PySem.W.nsIn K mainGlobals "_law_draw" = some (some (.ref f7)))
    (l7 : K.lookup f7 = some ⟨oc7, od7, .func (PySem.W.fnOf "_law_draw" "_law_draw" (defArgs sDraw) (defBody sDraw) (defScope sDraw) .none kV7 dc7 pm7 an7 cd7 ct7), sl7⟩)
    (c7 : PySem.W.codeIn K cd7 "_law_draw" = true)
    (k7 : PySem.W.keepIn K (.ref f7) = true)
    (a8 : PySem.W.nsIn K mainGlobals "_law_pair" = some (some (.ref f8)))
    (l8 : K.lookup f8 = some ⟨oc8, od8, .func (PySem.W.fnOf "_law_pair" "_law_pair" (defArgs sPr) (defBody sPr) (defScope sPr) .none kV8 dc8 pm8 an8 cd8 ct8), sl8⟩)
    (c8 : PySem.W.codeIn K cd8 "_law_pair" = true)
    (k8 : PySem.W.keepIn K (.ref f8) = true)
    (a9 : PySem.W.nsIn K mainGlobals "_law_few" = some (some (.ref f9)))
    (l9 : K.lookup f9 = some ⟨oc9, od9, .func (PySem.W.fnOf "_law_few" "_law_few" (defArgs sFew) (defBody sFew) (defScope sFew) .none kV9 dc9 pm9 an9 cd9 ct9), sl9⟩)
    (c9 : PySem.W.codeIn K cd9 "_law_few" = true)
    (k9 : PySem.W.keepIn K (.ref f9) = true)
    (a10 : PySem.W.nsIn K mainGlobals "_law_check_three" = some (some (.ref f10)))
    (l10 : K.lookup f10 = some ⟨oc10, od10, .func (PySem.W.fnOf "_law_check_three" "_law_check_three" (defArgs sThree) (defBody sThree) (defScope sThree) .none kV10 dc10 pm10 an10 cd10 ct10), sl10⟩)
    (c10 : PySem.W.codeIn K cd10 "_law_check_three" = true)
    (k10 : PySem.W.keepIn K (.ref f10) = true)
    (a11 : PySem.W.nsIn K mainGlobals "_law_check_order" = some (some (.ref f11)))
    (l11 : K.lookup f11 = some ⟨oc11, od11, .func (PySem.W.fnOf "_law_check_order" "_law_check_order" (defArgs sOrder) (defBody sOrder) (defScope sOrder) .none kV11 dc11 pm11 an11 cd11 ct11), sl11⟩)
    (c11 : PySem.W.codeIn K cd11 "_law_check_order" = true)
    (k11 : PySem.W.keepIn K (.ref f11) = true)
    (a12 : PySem.W.nsIn K mainGlobals "_law_check_rounded" = some (some (.ref f12)))
    (l12 : K.lookup f12 = some ⟨oc12, od12, .func (PySem.W.fnOf "_law_check_rounded" "_law_check_rounded" (defArgs sRound) (defBody sRound) (defScope sRound) .none kV12 dc12 pm12 an12 cd12 ct12), sl12⟩)
    (c12 : PySem.W.codeIn K cd12 "_law_check_rounded" = true)
    (k12 : PySem.W.keepIn K (.ref f12) = true)
    (a13 : PySem.W.nsIn K mainGlobals "law" = some (some (.ref f13)))
    (l13 : K.lookup f13 = some ⟨oc13, od13, .func (PySem.W.fnOf "law" "law" (defArgs sLaw) (defBody sLaw) (defScope sLaw) .none kV13 dc13 pm13 an13 cd13 ct13), sl13⟩)
    (c13 : PySem.W.codeIn K cd13 "law" = true)
    (k13 : PySem.W.keepIn K (.ref f13) = true)
    (a14 : PySem.W.findIn K (.ref C) "compared" = some (some (.ref f14)))
    (i14 : PySem.W.isFn K (.ref f14) = true)
    (l14 : K.lookup f14 = some ⟨oc14, od14, .func (PySem.W.fnOf "compared" "Amount.compared" (defArgs sCmp) (defBody sCmp) (defScope sCmp) .none kV14 dc14 pm14 an14 cd14 ct14), sl14⟩)
    (c14 : PySem.W.codeIn K cd14 "Amount.compared" = true)
    (k14 : PySem.W.keepIn K (.ref f14) = true)
    (a15 : PySem.W.findIn K (.ref C) "__add__" = some (some (.ref f15)))
    (i15 : PySem.W.isFn K (.ref f15) = true)
    (l15 : K.lookup f15 = some ⟨oc15, od15, .func (PySem.W.fnOf "__add__" "Amount.__add__" (defArgs sAdd) (defBody sAdd) (defScope sAdd) .none kV15 dc15 pm15 an15 cd15 ct15), sl15⟩)
    (c15 : PySem.W.codeIn K cd15 "Amount.__add__" = true)
    (k15 : PySem.W.keepIn K (.ref f15) = true)
    (a16 : PySem.W.findIn K (.ref C) "__radd__" = some (some (.ref f16)))
    (i16 : PySem.W.isFn K (.ref f16) = true)
    (l16 : K.lookup f16 = some ⟨oc16, od16, .func (PySem.W.fnOf "__radd__" "Amount.__radd__" (defArgs sRadd) (defBody sRadd) (defScope sRadd) .none kV16 dc16 pm16 an16 cd16 ct16), sl16⟩)
    (c16 : PySem.W.codeIn K cd16 "Amount.__radd__" = true)
    (k16 : PySem.W.keepIn K (.ref f16) = true)
    (a17 : PySem.W.findIn K (.ref C) "__sub__" = some (some (.ref f17)))
    (i17 : PySem.W.isFn K (.ref f17) = true)
    (l17 : K.lookup f17 = some ⟨oc17, od17, .func (PySem.W.fnOf "__sub__" "Amount.__sub__" (defArgs sSub) (defBody sSub) (defScope sSub) .none kV17 dc17 pm17 an17 cd17 ct17), sl17⟩)
    (c17 : PySem.W.codeIn K cd17 "Amount.__sub__" = true)
    (k17 : PySem.W.keepIn K (.ref f17) = true)
    (a18 : PySem.W.findIn K (.ref C) "__rsub__" = some (some (.ref f18)))
    (i18 : PySem.W.isFn K (.ref f18) = true)
    (l18 : K.lookup f18 = some ⟨oc18, od18, .func (PySem.W.fnOf "__rsub__" "Amount.__rsub__" (defArgs sRsub) (defBody sRsub) (defScope sRsub) .none kV18 dc18 pm18 an18 cd18 ct18), sl18⟩)
    (c18 : PySem.W.codeIn K cd18 "Amount.__rsub__" = true)
    (k18 : PySem.W.keepIn K (.ref f18) = true)
    (a19 : PySem.W.findIn K (.ref C) "__mul__" = some (some (.ref f19)))
    (i19 : PySem.W.isFn K (.ref f19) = true)
    (l19 : K.lookup f19 = some ⟨oc19, od19, .func (PySem.W.fnOf "__mul__" "Amount.__mul__" (defArgs sMul) (defBody sMul) (defScope sMul) .none kV19 dc19 pm19 an19 cd19 ct19), sl19⟩)
    (c19 : PySem.W.codeIn K cd19 "Amount.__mul__" = true)
    (k19 : PySem.W.keepIn K (.ref f19) = true)
    (a20 : PySem.W.findIn K (.ref C) "__rmul__" = some (some (.ref f20)))
    (i20 : PySem.W.isFn K (.ref f20) = true)
    (l20 : K.lookup f20 = some ⟨oc20, od20, .func (PySem.W.fnOf "__rmul__" "Amount.__rmul__" (defArgs sRmul) (defBody sRmul) (defScope sRmul) .none kV20 dc20 pm20 an20 cd20 ct20), sl20⟩)
    (c20 : PySem.W.codeIn K cd20 "Amount.__rmul__" = true)
    (k20 : PySem.W.keepIn K (.ref f20) = true)
    (a21 : PySem.W.findIn K (.ref C) "__neg__" = some (some (.ref f21)))
    (i21 : PySem.W.isFn K (.ref f21) = true)
    (l21 : K.lookup f21 = some ⟨oc21, od21, .func (PySem.W.fnOf "__neg__" "Amount.__neg__" (defArgs sNeg) (defBody sNeg) (defScope sNeg) .none kV21 dc21 pm21 an21 cd21 ct21), sl21⟩)
    (c21 : PySem.W.codeIn K cd21 "Amount.__neg__" = true)
    (k21 : PySem.W.keepIn K (.ref f21) = true)
    (a22 : PySem.W.findIn K (.ref C) "__abs__" = some (some (.ref f22)))
    (i22 : PySem.W.isFn K (.ref f22) = true)
    (l22 : K.lookup f22 = some ⟨oc22, od22, .func (PySem.W.fnOf "__abs__" "Amount.__abs__" (defArgs sAbs) (defBody sAbs) (defScope sAbs) .none kV22 dc22 pm22 an22 cd22 ct22), sl22⟩)
    (c22 : PySem.W.codeIn K cd22 "Amount.__abs__" = true)
    (k22 : PySem.W.keepIn K (.ref f22) = true)
    (a23 : PySem.W.findIn K (.ref C) "__bool__" = some (some (.ref f23)))
    (i23 : PySem.W.isFn K (.ref f23) = true)
    (l23 : K.lookup f23 = some ⟨oc23, od23, .func (PySem.W.fnOf "__bool__" "Amount.__bool__" (defArgs sBool) (defBody sBool) (defScope sBool) .none kV23 dc23 pm23 an23 cd23 ct23), sl23⟩)
    (c23 : PySem.W.codeIn K cd23 "Amount.__bool__" = true)
    (k23 : PySem.W.keepIn K (.ref f23) = true)
    (a24 : PySem.W.findIn K (.ref C) "__eq__" = some (some (.ref f24)))
    (i24 : PySem.W.isFn K (.ref f24) = true)
    (l24 : K.lookup f24 = some ⟨oc24, od24, .func (PySem.W.fnOf "__eq__" "Amount.__eq__" (defArgs sEq) (defBody sEq) (defScope sEq) .none kV24 dc24 pm24 an24 cd24 ct24), sl24⟩)
    (c24 : PySem.W.codeIn K cd24 "Amount.__eq__" = true)
    (k24 : PySem.W.keepIn K (.ref f24) = true)
    (a25 : PySem.W.findIn K (.ref C) "__ne__" = some (some (.ref f25)))
    (i25 : PySem.W.isFn K (.ref f25) = true)
    (l25 : K.lookup f25 = some ⟨oc25, od25, .func (PySem.W.fnOf "__ne__" "Amount.__ne__" (defArgs sNe) (defBody sNe) (defScope sNe) .none kV25 dc25 pm25 an25 cd25 ct25), sl25⟩)
    (c25 : PySem.W.codeIn K cd25 "Amount.__ne__" = true)
    (k25 : PySem.W.keepIn K (.ref f25) = true)
    (a26 : PySem.W.findIn K (.ref C) "pair" = some (some (.ref p26)))
    (g26 : PySem.W.specialIn K (.ref p26) "__get__" = some (some (.builtin "property.__get__")))
    (t26 : PySem.W.takesIn K (.ref p26) = some true)
    (r26 : PySem.W.recIn K p26 "property" = some (.ref f26 :: rr26))
    (l26 : K.lookup f26 = some ⟨oc26, od26, .func (PySem.W.fnOf "pair" "Amount.pair" (defArgs sPair) (defBody sPair) (defScope sPair) .none kV26 dc26 pm26 an26 cd26 ct26), sl26⟩)
    (c26 : PySem.W.codeIn K cd26 "Amount.pair" = true)
    (k26 : PySem.W.keepIn K (.ref f26) = true)
    (a27 : PySem.W.findIn K (.ref C) "down" = some (some (.ref p27)))
    (g27 : PySem.W.specialIn K (.ref p27) "__get__" = some (some (.builtin "property.__get__")))
    (t27 : PySem.W.takesIn K (.ref p27) = some true)
    (r27 : PySem.W.recIn K p27 "property" = some (.ref f27 :: rr27))
    (l27 : K.lookup f27 = some ⟨oc27, od27, .func (PySem.W.fnOf "down" "Amount.down" (defArgs sDn) (defBody sDn) (defScope sDn) .none kV27 dc27 pm27 an27 cd27 ct27), sl27⟩)
    (c27 : PySem.W.codeIn K cd27 "Amount.down" = true)
    (k27 : PySem.W.keepIn K (.ref f27) = true)
    (a28 : PySem.W.findIn K (.ref C) "up" = some (some (.ref p28)))
    (g28 : PySem.W.specialIn K (.ref p28) "__get__" = some (some (.builtin "property.__get__")))
    (t28 : PySem.W.takesIn K (.ref p28) = some true)
    (r28 : PySem.W.recIn K p28 "property" = some (.ref f28 :: rr28))
    (l28 : K.lookup f28 = some ⟨oc28, od28, .func (PySem.W.fnOf "up" "Amount.up" (defArgs sUpp) (defBody sUpp) (defScope sUpp) .none kV28 dc28 pm28 an28 cd28 ct28), sl28⟩)
    (c28 : PySem.W.codeIn K cd28 "Amount.up" = true)
    (k28 : PySem.W.keepIn K (.ref f28) = true)
    (a29 : PySem.W.findIn K (.ref C) "__init__" = some (some (.ref f29)))
    (i29 : PySem.W.isFn K (.ref f29) = true)
    (l29 : K.lookup f29 = some ⟨oc29, od29, .func (PySem.W.fnOf "__init__" "Amount.__init__" (defArgs sInit) (defBody sInit) (defScope sInit) (.ref TD) kV29 dc29 pm29 an29 cd29 ct29), sl29⟩)
    (c29 : PySem.W.codeIn K cd29 "Amount.__init__" = true)
    (k29 : PySem.W.keepIn K (.ref f29) = true)
    (lT : K.lookup TD = some ⟨oT, odT, .seq (List.toArray [.int 1 tT]) nT, slT⟩)
    (ag : PySem.W.nsIn K mainGlobals "gcd" = some (some (.builtin "math.gcd")))
    (z_isinstance : PySem.W.nsIn K mainGlobals "isinstance" = some none)
    (z_int : PySem.W.nsIn K mainGlobals "int" = some none)
    (z_bool : PySem.W.nsIn K mainGlobals "bool" = some none)
    (z_abs : PySem.W.nsIn K mainGlobals "abs" = some none)
    (z_range : PySem.W.nsIn K mainGlobals "range" = some none)
    (z_len : PySem.W.nsIn K mainGlobals "len" = some none)
    (z_enumerate : PySem.W.nsIn K mainGlobals "enumerate" = some none)
    (z_list : PySem.W.nsIn K mainGlobals "list" = some none)
    (pg : PySem.W.plainGet K C Str.empty = true)
    (hd : PySem.W.hasDictIn K C = true)
    (po : PySem.W.plainOver K C = true)
    (sa : PySem.W.findIn K (.ref C) "__setattr__" = some (some (.builtin "object.__setattr__")))
    (mk : PySem.W.makesIn K C = true)
    (kc : PySem.W.keepIn K (.ref C) = true)
    (nO : PySem.W.findIn K (.ref C) "over" = some none)
    (nU : PySem.W.findIn K (.ref C) "under" = some none)
    (sf : PySem.W.selfFirst K C = true)
    (tA : PySem.W.findIn K (.ref C) "__class__" = some (some (.builtin "object.__class__")))
    (tN : PySem.W.specialIn K (.builtin "object.__class__") "__get__" = some (some (.builtin "getset_descriptor.__get__")))
    (tT_ : PySem.W.takesIn K (.builtin "object.__class__") = some true)
    (tM : PySem.W.mroIn K C (.type "object") = some true)
    (kI : PySem.W.kitOne K (.type "int") (.ref C) = some false)
    (s1 : PySem.W.subIn K (.type "int") (.ref C) = some false)
    (s2 : PySem.W.subIn K (.ref C) (.type "int") = some false)
    (i_add : PySem.W.findIn K (.type "int") "__add__" = some fo_add)
    (i_radd : PySem.W.findIn K (.type "int") "__radd__" = some fo_radd)
    (i_sub : PySem.W.findIn K (.type "int") "__sub__" = some fo_sub)
    (i_rsub : PySem.W.findIn K (.type "int") "__rsub__" = some fo_rsub)
    (i_mul : PySem.W.findIn K (.type "int") "__mul__" = some fo_mul)
    (i_rmul : PySem.W.findIn K (.type "int") "__rmul__" = some fo_rmul)
    : ∃ fd : FuncData, (∀ (s : Shared) (v : Value), BindsTo s fd ⟨[v], []⟩ [("_law_script", v)]) ∧ ∀ base : Heap, K.In base → base.Ns mainGlobals mg → FnOk l.prog w K mg base CX0 8 fa fd ["_law_script"] (spLaw K) := by
  have e := hfa.symm.trans (PySem.W.mg_of X G a13)
  cases e
  have T : Txt K mg C := ⟨⟨pg, hd, po, sa⟩, nO, nU, PySem.W.mg_of X G aC, PySem.W.mg_none_of X G z_isinstance, PySem.W.mg_none_of X G z_int, PySem.W.mg_none_of X G z_bool, PySem.W.mg_none_of X G z_abs, sf, tA, tN, tT_, tM, kI⟩
  have Z : Zs mg := ⟨PySem.W.mg_none_of X G z_range, PySem.W.mg_none_of X G z_len, PySem.W.mg_none_of X G z_enumerate, PySem.W.mg_none_of X G z_list⟩
  have zg := PySem.W.mg_of X G ag
  have F1 := fun_mk (st := sIsInt) l1 c1 k1
  have m1 := PySem.W.mg_of X G a1
  have b1 := F1.binds (ps := ["thing"]) fun _ _ _ _ _ _ us hl => match us, hl with | [_], _ => rfl
  have F2 := fun_mk (st := sLow) l2 c2 k2
  have m2 := PySem.W.mg_of X G a2
  have b2 := F2.binds (ps := ["over", "under"]) fun _ _ _ _ _ _ us hl => match us, hl with | [_, _], _ => rfl
  have F3 := fun_mk (st := sDown) l3 c3 k3
  have m3 := PySem.W.mg_of X G a3
  have b3 := F3.binds (ps := ["pair"]) fun _ _ _ _ _ _ us hl => match us, hl with | [_], _ => rfl
  have F4 := fun_mk (st := sUp) l4 c4 k4
  have m4 := PySem.W.mg_of X G a4
  have b4 := F4.binds (ps := ["pair"]) fun _ _ _ _ _ _ us hl => match us, hl with | [_], _ => rfl
  have F5 := fun_mk (st := sParts) l5 c5 k5
  have m5 := PySem.W.mg_of X G a5
  have b5 := F5.binds (ps := ["value"]) fun _ _ _ _ _ _ us hl => match us, hl with | [_], _ => rfl
  have F6 := fun_mk (st := sReader) l6 c6 k6
  have m6 := PySem.W.mg_of X G a6
  have b6 := F6.binds (ps := ["_law_script"]) fun _ _ _ _ _ _ us hl => match us, hl with | [_], _ => rfl
  have F7 := fun_mk (st := sDraw) l7 c7 k7
  have m7 := PySem.W.mg_of X G a7
  have b7 := F7.binds (ps := ["_law_reader_here", "_law_many"]) fun _ _ _ _ _ _ us hl => match us, hl with | [_, _], _ => rfl
  have F8 := fun_mk (st := sPr) l8 c8 k8
  have m8 := PySem.W.mg_of X G a8
  have b8 := F8.binds (ps := ["_law_reader_here"]) fun _ _ _ _ _ _ us hl => match us, hl with | [_], _ => rfl
  have F9 := fun_mk (st := sFew) l9 c9 k9
  have m9 := PySem.W.mg_of X G a9
  have b9 := F9.binds (ps := []) fun _ _ _ _ _ _ us hl => match us, hl with | [], _ => rfl
  have F10 := fun_mk (st := sThree) l10 c10 k10
  have m10 := PySem.W.mg_of X G a10
  have b10 := F10.binds (ps := ["_law_a", "_law_b", "_law_c"]) fun _ _ _ _ _ _ us hl => match us, hl with | [_, _, _], _ => rfl
  have F11 := fun_mk (st := sOrder) l11 c11 k11
  have m11 := PySem.W.mg_of X G a11
  have b11 := F11.binds (ps := ["_law_a", "_law_b", "_law_c"]) fun _ _ _ _ _ _ us hl => match us, hl with | [_, _, _], _ => rfl
  have F12 := fun_mk (st := sRound) l12 c12 k12
  have m12 := PySem.W.mg_of X G a12
  have b12 := F12.binds (ps := ["_law_a"]) fun _ _ _ _ _ _ us hl => match us, hl with | [_], _ => rfl
  have F13 := fun_mk (st := sLaw) l13 c13 k13
  have m13 := PySem.W.mg_of X G a13
  have F14 := fun_mk (st := sCmp) l14 c14 k14
  have b14 := F14.binds (ps := ["self", "other"]) fun _ _ _ _ _ _ us hl => match us, hl with | [_, _], _ => rfl
  have F15 := fun_mk (st := sAdd) l15 c15 k15
  have b15 := F15.binds (ps := ["self", "other"]) fun _ _ _ _ _ _ us hl => match us, hl with | [_, _], _ => rfl
  have F16 := fun_mk (st := sRadd) l16 c16 k16
  have b16 := F16.binds (ps := ["self", "other"]) fun _ _ _ _ _ _ us hl => match us, hl with | [_, _], _ => rfl
  have F17 := fun_mk (st := sSub) l17 c17 k17
  have b17 := F17.binds (ps := ["self", "other"]) fun _ _ _ _ _ _ us hl => match us, hl with | [_, _], _ => rfl
  have F18 := fun_mk (st := sRsub) l18 c18 k18
  have b18 := F18.binds (ps := ["self", "other"]) fun _ _ _ _ _ _ us hl => match us, hl with | [_, _], _ => rfl
  have F19 := fun_mk (st := sMul) l19 c19 k19
  have b19 := F19.binds (ps := ["self", "other"]) fun _ _ _ _ _ _ us hl => match us, hl with | [_, _], _ => rfl
  have F20 := fun_mk (st := sRmul) l20 c20 k20
  have b20 := F20.binds (ps := ["self", "other"]) fun _ _ _ _ _ _ us hl => match us, hl with | [_, _], _ => rfl
  have F21 := fun_mk (st := sNeg) l21 c21 k21
  have b21 := F21.binds (ps := ["self"]) fun _ _ _ _ _ _ us hl => match us, hl with | [_], _ => rfl
  have F22 := fun_mk (st := sAbs) l22 c22 k22
  have b22 := F22.binds (ps := ["self"]) fun _ _ _ _ _ _ us hl => match us, hl with | [_], _ => rfl
  have F23 := fun_mk (st := sBool) l23 c23 k23
  have b23 := F23.binds (ps := ["self"]) fun _ _ _ _ _ _ us hl => match us, hl with | [_], _ => rfl
  have F24 := fun_mk (st := sEq) l24 c24 k24
  have b24 := F24.binds (ps := ["self", "other"]) fun _ _ _ _ _ _ us hl => match us, hl with | [_, _], _ => rfl
  have F25 := fun_mk (st := sNe) l25 c25 k25
  have b25 := F25.binds (ps := ["self", "other"]) fun _ _ _ _ _ _ us hl => match us, hl with | [_, _], _ => rfl
  have F26 := fun_mk (st := sPair) l26 c26 k26
  have b26 := F26.binds (ps := ["self"]) fun _ _ _ _ _ _ us hl => match us, hl with | [_], _ => rfl
  have F27 := fun_mk (st := sDn) l27 c27 k27
  have b27 := F27.binds (ps := ["self"]) fun _ _ _ _ _ _ us hl => match us, hl with | [_], _ => rfl
  have F28 := fun_mk (st := sUpp) l28 c28 k28
  have b28 := F28.binds (ps := ["self"]) fun _ _ _ _ _ _ us hl => match us, hl with | [_], _ => rfl
  have FI : FunD K "__init__" "Amount.__init__" (defArgs sInit) (defBody sInit) (defScope sInit) [.int 1] [] f29 (PySem.W.fnOf "__init__" "Amount.__init__" (defArgs sInit) (defBody sInit) (defScope sInit) (.ref TD) kV29 dc29 pm29 an29 cd29 ct29) := ⟨⟨_, _, _, _, _, _, _, _, _, _, rfl, l29, c29, .inr ⟨by decide, TD, _, [.int 1 tT], _, rfl, lT, rfl, .cons ⟨_, rfl⟩ .nil⟩, .inl rfl⟩, k29⟩
  have bI3 : Binds K (PySem.W.fnOf "__init__" "Amount.__init__" (defArgs sInit) (defBody sInit) (defScope sInit) (.ref TD) kV29 dc29 pm29 an29 cd29 ct29) ["self", "over", "under"] [] := by
    obtain ⟨ds, r, b⟩ := FI.binds1 (ps := ["self", "over", "under"]) 3 1 (by decide) rfl (fun _ _ _ _ _ _ _ us its h1 h2 => by
      obtain ⟨x, y, z, rfl⟩ : ∃ x y z, us = [x, y, z] := by
        match us, h1 with
        | [x, y, z], _ => exact ⟨x, y, z, rfl⟩
      obtain ⟨t, rfl⟩ : ∃ t, its = [t] := by
        match its, h2 with
        | [t], _ => exact ⟨t, rfl⟩
      exact ⟨_, rfl, rfl⟩)
    cases r
    exact b
  have bI2 : ∃ ds, Vals [.int 1] ds ∧ Binds K (PySem.W.fnOf "__init__" "Amount.__init__" (defArgs sInit) (defBody sInit) (defScope sInit) (.ref TD) kV29 dc29 pm29 an29 cd29 ct29) ["self", "over", "under"] ds := FI.binds1 (ps := ["self", "over", "under"]) 2 0 (by decide) rfl (fun _ _ _ _ _ _ _ us its h1 h2 => by
      obtain ⟨x, y, rfl⟩ : ∃ x y, us = [x, y] := by
        match us, h1 with
        | [x, y], _ => exact ⟨x, y, rfl⟩
      obtain ⟨t, rfl⟩ : ∃ t, its = [t] := by
        match its, h2 with
        | [t], _ => exact ⟨t, rfl⟩
      exact ⟨_, rfl, rfl⟩)
  refine ⟨(PySem.W.fnOf "law" "law" (defArgs sLaw) (defBody sLaw) (defScope sLaw) .none kV13 dc13 pm13 an13 cd13 ct13), fun s v => .of_eq rfl, fun base _ _ => ?_⟩
  have has : Has l.prog w K mg base C := ⟨T, ⟨f5, _, ok_parts T F5 F1 b1 m1, m5, k5, b5⟩,
    ⟨f29, _, ⟨mk, a29, i29, kc⟩, ok_init T FI F1 b1 m1 F2 b2 m2 zg, bI3, bI2⟩⟩
  have B_add : BinF l.prog w K mg base C .Add fun r q => r + q := ⟨⟨f15, _, ok_add has F15, b15, ⟨by rw [dn_add]; exact a15, i15⟩⟩, sf, ⟨f16, by rw [dr_add]; exact a16⟩, ⟨_, by rw [dn_add]; exact i_add⟩, ⟨_, by rw [dr_add]; exact i_radd⟩, s1⟩
  have B_sub : BinF l.prog w K mg base C .Sub fun r q => r - q := ⟨⟨f17, _, ok_sub has F17, b17, ⟨by rw [dn_sub]; exact a17, i17⟩⟩, sf, ⟨f18, by rw [dr_sub]; exact a18⟩, ⟨_, by rw [dn_sub]; exact i_sub⟩, ⟨_, by rw [dr_sub]; exact i_rsub⟩, s1⟩
  have B_mul : BinF l.prog w K mg base C .Mult fun r q => r * q := ⟨⟨f19, _, ok_mul has F19, b19, ⟨by rw [dn_mul]; exact a19, i19⟩⟩, sf, ⟨f20, by rw [dr_mul]; exact a20⟩, ⟨_, by rw [dn_mul]; exact i_mul⟩, ⟨_, by rw [dr_mul]; exact i_rmul⟩, s1⟩
  have R_sub : RefF l.prog w K mg base C .Sub fun r q => q - r := ⟨⟨f18, _, (ok_rsub has F18).mono (by decide), b18, ⟨by rw [dr_sub]; exact a18, i18⟩⟩, s2⟩
  have R_mul : RefF l.prog w K mg base C .Mult fun r q => r * q := ⟨⟨f20, _, ok_rmul B_mul F20, b20, ⟨by rw [dr_mul]; exact a20, i20⟩⟩, s2⟩
  have B_eq : EqF l.prog w K mg base C .Eq 1 fun r q => decide (r = q) := ⟨⟨f24, _, ok_eq T F24, b24, ⟨by rw [cm_eq]; exact a24, i24⟩⟩⟩
  have B_ne : EqF l.prog w K mg base C .NotEq 2 fun r q => !decide (r = q) := ⟨⟨f25, _, ok_ne B_eq F25, b25, ⟨by rw [cm_ne]; exact a25, i25⟩⟩⟩
  have AF : AmF l.prog w K mg base C := {
    has := has, add := B_add, sub := B_sub, mul := B_mul, rsub := R_sub, rmul := R_mul
    neg := ⟨f21, _, ok_neg has F21, b21, ⟨a21, i21⟩⟩
    abs := ⟨f22, _, ok_abs has F22, b22, ⟨a22, i22⟩⟩
    tru := ⟨f23, _, ok_bool T F23, b23, ⟨a23, i23⟩⟩
    eq := B_eq, ne := B_ne
    cmp := ⟨f14, _, ok_cmp has F14, b14, ⟨a14, i14, k14⟩⟩
    pair := ⟨p26, f26, _, ok_pair T F26, b26, ⟨a26, g26, t26, _, r26⟩⟩
    down := ⟨p27, f27, _, ok_dn T F27 F3 b3 m3, b27, ⟨a27, g27, t27, _, r27⟩⟩
    up := ⟨p28, f28, _, ok_upp T F28 F4 b4 m4, b28, ⟨a28, g28, t28, _, r28⟩⟩ }
  exact ok_law Z AF F13 ⟨⟨f6, _, ok_reader F6 Z.list, m6, k6, b6⟩⟩ ⟨⟨f9, _, ok_few F9, m9, k9, b9⟩⟩ ⟨⟨f8, _, ok_pr F8 F7 b7 m7 Z.len, m8, k8, b8⟩⟩ ⟨⟨f7, _, ok_draw F7 Z.len, m7, k7, b7⟩⟩ ⟨⟨f10, _, ok_three AF F10, m10, k10, b10⟩⟩ ⟨⟨f11, _, ok_order AF F11, m11, k11, b11⟩⟩ ⟨⟨f12, _, ok_round AF F12, m12, k12, b12⟩⟩
end Kn

open PySem PySem.W PyProof.Rows in
set_option maxRecDepth 100000 in
set_option maxHeartbeats 0 in
theorem PySem.Challenge.cw_centbook_k04_whole_amounts_as_fractions_holds : PySem.Challenge.rw_centbook_k04_whole_amounts_as_fractions.Holds := by
  w_on; o_law; k_head; (case hw => w_witness2)
  k_fill
  refine L2.walk_of (l := PySem.Challenge.rw_centbook_k04_whole_amounts_as_fractions) (n := 63) (k := 8) (x := "_law_script") (CX := fun _ => L2.CX0) (sp := fun w => Kn.spLaw _) rfl (by decide) rfl ⟨rfl, by decide, by decide⟩ (fun w h Y => PySem.W.kIn_of Y) ?F (fun _ _ a ns hl _ hS => ⟨a, ns, rfl, hS, hl, fun _ => rfl⟩) (fun _ _ _ _ _ h => h)
  case F =>
    intro w mg fa h KX G hmg
    refine' Kn.all_mk KX G hmg ?aC ?a1 ?l1 ?c1 ?k1 ?a2 ?l2 ?c2 ?k2 ?a3 ?l3 ?c3 ?k3 ?a4 ?l4 ?c4 ?k4 ?a5 ?l5 ?c5 ?k5 ?a6 ?l6 ?c6 ?k6 ?a7 ?l7 ?c7 ?k7 ?a8 ?l8 ?c8 ?k8 ?a9 ?l9 ?c9 ?k9 ?a10 ?l10 ?c10 ?k10 ?a11 ?l11 ?c11 ?k11 ?a12 ?l12 ?c12 ?k12 ?a13 ?l13 ?c13 ?k13 ?a14 ?i14 ?l14 ?c14 ?k14 ?a15 ?i15 ?l15 ?c15 ?k15 ?a16 ?i16 ?l16 ?c16 ?k16 ?a17 ?i17 ?l17 ?c17 ?k17 ?a18 ?i18 ?l18 ?c18 ?k18 ?a19 ?i19 ?l19 ?c19 ?k19 ?a20 ?i20 ?l20 ?c20 ?k20 ?a21 ?i21 ?l21 ?c21 ?k21 ?a22 ?i22 ?l22 ?c22 ?k22 ?a23 ?i23 ?l23 ?c23 ?k23 ?a24 ?i24 ?l24 ?c24 ?k24 ?a25 ?i25 ?l25 ?c25 ?k25 ?a26 ?g26 ?t26 ?r26 ?l26 ?c26 ?k26 ?a27 ?g27 ?t27 ?r27 ?l27 ?c27 ?k27 ?a28 ?g28 ?t28 ?r28 ?l28 ?c28 ?k28 ?a29 ?i29 ?l29 ?c29 ?k29 ?lT ?ag ?z_isinstance ?z_int ?z_bool ?z_abs ?z_range ?z_len ?z_enumerate ?z_list ?pg ?hd ?po ?sa ?mk ?kc ?nO ?nU ?sf ?tA ?tN ?tT_ ?tM ?kI ?s1 ?s2 ?i_add ?i_radd ?i_sub ?i_rsub ?i_mul ?i_rmul
    (case aC => k_is)
    (case a1 => k_is)
    (case l1 => k_is)
    (case c1 => k_is)
    (case k1 => k_is)
    (case a2 => k_is)
    (case l2 => k_is)
    (case c2 => k_is)
    (case k2 => k_is)
    (case a3 => k_is)
    (case l3 => k_is)
    (case c3 => k_is)
    (case k3 => k_is)
    (case a4 => k_is)
    (case l4 => k_is)
    (case c4 => k_is)
    (case k4 => k_is)
    (case a5 => k_is)
    (case l5 => k_is)
    (case c5 => k_is)
    (case k5 => k_is)
    (case a6 => k_is)
    (case l6 => k_is)
    (case c6 => k_is)
    (case k6 => k_is)
    (case a7 => k_is)
    (case l7 => k_is)
    (case c7 => k_is)
    (case k7 => k_is)
    (case a8 => k_is)
    (case l8 => k_is)
    (case c8 => k_is)
    (case k8 => k_is)
    (case a9 => k_is)
    (case l9 => k_is)
    (case c9 => k_is)
    (case k9 => k_is)
    (case a10 => k_is)
    (case l10 => k_is)
    (case c10 => k_is)
    (case k10 => k_is)
    (case a11 => k_is)
    (case l11 => k_is)
    (case c11 => k_is)
    (case k11 => k_is)
    (case a12 => k_is)
    (case l12 => k_is)
    (case c12 => k_is)
    (case k12 => k_is)
    (case a13 => k_is)
    (case l13 => k_is)
    (case c13 => k_is)
    (case k13 => k_is)
    (case a14 => k_is)
    (case i14 => k_is)
    (case l14 => k_is)
    (case c14 => k_is)
    (case k14 => k_is)
    (case a15 => k_is)
    (case i15 => k_is)
    (case l15 => k_is)
    (case c15 => k_is)
    (case k15 => k_is)
    (case a16 => k_is)
    (case i16 => k_is)
    (case l16 => k_is)
    (case c16 => k_is)
    (case k16 => k_is)
    (case a17 => k_is)
    (case i17 => k_is)
    (case l17 => k_is)
    (case c17 => k_is)
    (case k17 => k_is)
    (case a18 => k_is)
    (case i18 => k_is)
    (case l18 => k_is)
    (case c18 => k_is)
    (case k18 => k_is)
    (case a19 => k_is)
    (case i19 => k_is)
    (case l19 => k_is)
    (case c19 => k_is)
    (case k19 => k_is)
    (case a20 => k_is)
    (case i20 => k_is)
    (case l20 => k_is)
    (case c20 => k_is)
    (case k20 => k_is)
    (case a21 => k_is)
    (case i21 => k_is)
    (case l21 => k_is)
    (case c21 => k_is)
    (case k21 => k_is)
    (case a22 => k_is)
    (case i22 => k_is)
    (case l22 => k_is)
    (case c22 => k_is)
    (case k22 => k_is)
    (case a23 => k_is)
    (case i23 => k_is)
    (case l23 => k_is)
    (case c23 => k_is)
    (case k23 => k_is)
    (case a24 => k_is)
    (case i24 => k_is)
    (case l24 => k_is)
    (case c24 => k_is)
    (case k24 => k_is)
    (case a25 => k_is)
    (case i25 => k_is)
    (case l25 => k_is)
    (case c25 => k_is)
    (case k25 => k_is)
    (case a26 => k_is)
    (case g26 => k_is)
    (case t26 => k_is)
    (case r26 => k_is)
    (case l26 => k_is)
    (case c26 => k_is)
    (case k26 => k_is)
    (case a27 => k_is)
    (case g27 => k_is)
    (case t27 => k_is)
    (case r27 => k_is)
    (case l27 => k_is)
    (case c27 => k_is)
    (case k27 => k_is)
    (case a28 => k_is)
    (case g28 => k_is)
    (case t28 => k_is)
    (case r28 => k_is)
    (case l28 => k_is)
    (case c28 => k_is)
    (case k28 => k_is)
    (case a29 => k_is)
    (case i29 => k_is)
    (case l29 => k_is)
    (case c29 => k_is)
    (case k29 => k_is)
    (case lT => k_is)
    (case ag => k_is)
    (case z_isinstance => k_is)
    (case z_int => k_is)
    (case z_bool => k_is)
    (case z_abs => k_is)
    (case z_range => k_is)
    (case z_len => k_is)
    (case z_enumerate => k_is)
    (case z_list => k_is)
    (case pg => k_is)
    (case hd => k_is)
    (case po => k_is)
    (case sa => k_is)
    (case mk => k_is)
    (case kc => k_is)
    (case nO => k_is)
    (case nU => k_is)
    (case sf => k_is)
    (case tA => k_is)
    (case tN => k_is)
    (case tT_ => k_is)
    (case tM => k_is)
    (case kI => kit_is)
    (case s1 => k_is)
    (case s2 => k_is)
    (case i_add => k_is)
    (case i_radd => k_is)
    (case i_sub => k_is)
    (case i_rsub => k_is)
    (case i_mul => k_is)
    (case i_rmul => k_is)

