import PyProof.Rows.All
import Wide.All
import OpenK.AllK
import Wide.FinOn
import HandS.ForMost
import HandS.ForExc
import HandS.SlotsOwn
import HandS.IsInst
import HandS.Evl
import HandS.More
import HandS.TryMany
import HandS.ExcIs
import HandS.TupLe
import PySem.Challenge.RW_cutproof_k01_interval_moments
set_option Elab.async false
set_option linter.all false
set_option maxRecDepth 100000
set_option maxHeartbeats 2000000
/-! operators of own classes' instances, by the hand layer -/
namespace OwnO
open PySem PySem.Spec PyProof.Rows L2

section
variable {X : Cx} {CX : CXT} {pins : List (Addr × Obj)} {σ : L2.St} {H : Hp} {s : Shared} {a C dx f : Addr} {fs : List (Str × V)} {n k : Nat} {sp : Sp} {E : XK} {fd : FuncData} {ps : List Str}

theorem ins_inst (I : Inv X pins σ H s) (e : H a = some (.ins C dx fs)) : ∃ od, PySem.W.InstAt s.heap a (PySem.W.instObj C dx) C (some od) := by
  obtain ⟨mA, O, _⟩ := ins_get I.hok e
  obtain ⟨od, J, _⟩ := O.look
  exact ⟨od, J⟩

/-- x op y, both instances of the class at C, whose def for op keeps sp -/
def rOwn2 (C : Addr) (sp : Sp) (E : XK) : R2 := fun x y H Q => ∃ a dx fs b dy gs, x = .ref a ∧ y = .ref b ∧ H a = some (.ins C dx fs) ∧ H b = some (.ins C dy gs) ∧ sp [x, y] H Q E
theorem op_ownBin {op : Operator} (hc : PySem.W.selfFirst X.K C = true) (hs : PySem.W.findIn X.K (.ref C) (PySem.dunder op.info.2) = some (some (.ref f))) (hf : PySem.W.isFn X.K (.ref f) = true)
    (F : FnOk X.prog X.w X.K X.mg X.base CX k f fd ps sp) (hr : Room k X.A) (hb : Binds X.K fd ps []) (hx : Passes CX X E) : OpR X (binaryOp op) (rOwn2 C sp E) := by
  intro pins s σ H x y v u Q I rx ry h
  obtain ⟨a, dx, fs, b, dy, gs, rfl, rfl, ha, hb', q⟩ := h
  cases (show v = Value.ref a from rx)
  cases (show u = Value.ref b from ry)
  obtain ⟨od, J⟩ := ins_inst I ha
  obtain ⟨od', J'⟩ := ins_inst I hb'
  obtain ⟨m, hF⟩ := I.fr
  refine PySem.W.binop_K hF I.ok.mod.kin J J'.type hc hs hf ?_
  refine wpAny_mono (run_fn (us := [.ref a, .ref b]) (vs := [.ref a, .ref b]) (dvs := []) (ds := []) F hr hb .nil hx I (.cons rfl (.cons rfl .nil)) q) (fun w s' z => ?_) fun _ _ x => x
  obtain ⟨z', H', I', rz, qz⟩ := z
  exact SlX.cmpback rz ⟨z', H', I', rz, qz⟩

theorem notFirst_self {K : PySem.W.Frag} {C : Addr} : PySem.W.notFirst K C (.ref C) = true := by
  unfold PySem.W.notFirst
  rw [Bool.or_eq_true_iff]
  exact .inl (beq_self_eq_true _)
theorem op_ownCmp {op : CmpOp} (hop : ∀ a b, compareOp op a b = richCompare op a b) (hs : PySem.W.findIn X.K (.ref C) (cmpInfo op).2.1 = some (some (.ref f))) (hf : PySem.W.isFn X.K (.ref f) = true)
    (F : FnOk X.prog X.w X.K X.mg X.base CX k f fd ps sp) (hr : Room k X.A) (hb : Binds X.K fd ps []) (hx : Passes CX X E) : OpR X (compareOp op) (rOwn2 C sp E) := by
  intro pins s σ H x y v u Q I rx ry h
  obtain ⟨a, dx, fs, b, dy, gs, rfl, rfl, ha, hb', q⟩ := h
  cases (show v = Value.ref a from rx)
  cases (show u = Value.ref b from ry)
  obtain ⟨od, J⟩ := ins_inst I ha
  obtain ⟨od', J'⟩ := ins_inst I hb'
  obtain ⟨m, hF⟩ := I.fr
  rw [hop]
  refine PySem.W.cmp_K (op := op) (tb := .ref C) hr.units0 hF I.ok.mod.kin J J'.type notFirst_self hs hf ?_
  refine wpAny_mono (run_fn (us := [.ref a, .ref b]) (vs := [.ref a, .ref b]) (dvs := []) (ds := []) F hr hb .nil hx I (.cons rfl (.cons rfl .nil)) q) (fun w s' z => ?_) fun _ _ x => x
  obtain ⟨z', H', I', rz, qz⟩ := z
  exact SlX.cmpback rz ⟨z', H', I', rz, qz⟩

/-- y in x, x an instance of C -/
def rOwnIn (C : Addr) (sp : Sp) (E : XK) : R2 := fun y x H Q => ∃ a dx fs, x = .ref a ∧ H a = some (.ins C dx fs) ∧ sp [x, y] H (fun z H' => ∃ b, z = .bl b ∧ Q (.bl b) H') E
theorem op_ownIn (hs : PySem.W.findIn X.K (.ref C) "__contains__" = some (some (.ref f))) (hf : PySem.W.isFn X.K (.ref f) = true)
    (F : FnOk X.prog X.w X.K X.mg X.base CX k f fd ps sp) (hr : Room k X.A) (hb : Binds X.K fd ps []) (hx : Passes CX X E) : OpR X (compareOp .In) (rOwnIn C sp E) := by
  intro pins s σ H y x u v Q I ry rx h
  obtain ⟨a, dx, fs, rfl, ha, q⟩ := h
  cases (show v = Value.ref a from rx)
  obtain ⟨od, J⟩ := ins_inst I ha
  obtain ⟨m, hF⟩ := I.fr
  refine PySem.W.in_K hF I.ok.mod.kin J hs hf ?_
  refine wpAny_mono (run_fn (us := [.ref a, u]) (vs := [.ref a, y]) (dvs := []) (ds := []) F hr hb .nil hx I (.cons rfl (.cons ry .nil)) q) (fun w s' z => ?_) fun _ _ x => x
  obtain ⟨z', H', I', rz, b, ez, qz⟩ := z
  subst ez
  cases (show w = Value.bool b from rz)
  exact wpAny_truthy_bool ⟨.bl b, H', I', rfl, qz⟩

/-- an instance's truth -/
def rOwnTru (C : Addr) (sp : Sp) (E : XK) : V → Hp → (Bool → Hp → Prop) → Prop := fun x H Q => ∃ a dx fs, x = .ref a ∧ H a = some (.ins C dx fs) ∧ sp [x] H (fun z H' => ∃ b, z = .bl b ∧ Q b H') E
theorem tru_own (hs : PySem.W.findIn X.K (.ref C) "__bool__" = some (some (.ref f))) (hf : PySem.W.isFn X.K (.ref f) = true)
    (F : FnOk X.prog X.w X.K X.mg X.base CX k f fd ps sp) (hr : Room k X.A) (hb : Binds X.K fd ps []) (hx : Passes CX X E) : TruR X (rOwnTru C sp E) := by
  intro pins s σ H x v Q I rx h
  obtain ⟨a, dx, fs, rfl, ha, q⟩ := h
  cases (show v = Value.ref a from rx)
  obtain ⟨od, J⟩ := ins_inst I ha
  obtain ⟨m, hF⟩ := I.fr
  refine PySem.W.truthy_K hF I.ok.mod.kin J hs hf ?_
  refine wpAny_mono (run_fn (us := [.ref a]) (vs := [.ref a]) (dvs := []) (ds := []) F hr hb .nil hx I (.cons rfl .nil) q) (fun w s' z => ?_) fun _ _ x => x
  obtain ⟨z', H', I', rz, b, ez, qz⟩ := z
  subst ez
  cases (show w = Value.bool b from rz)
  exact ⟨H', I', qz⟩
def tTruR (r : V → Hp → (Bool → Hp → Prop) → Prop) (ta : TE) : TT := fun σ H Q => ta σ H fun x H1 => r x H1 Q
theorem pt_truR {r : V → Hp → (Bool → Hp → Prop) → Prop} {e : Expr} {ta : TE} (hr : TruR X r) (ha : PE X e ta) (he : ∀ whole, isTrue e X.env whole = (do let v ← whole; standAt e.pos; holding [v] (truthy v)) := by intro _; rfl) : PT X e (tTruR r ta) := by
  refine ⟨fun pins s σ H Q I h => ?_⟩
  exact isTrue_plain (thn (ha.run pins s σ H _ I h) fun v s1 ⟨x, H1, I1, r1, q1⟩ => hr pins s1 σ H1 x v Q I1 r1 q1) (he _)
end

section
variable {prog : Program} {w : World} {A : Around} {E : Value → Shared → Prop} {s : Shared}
/-- bool(x) by the truth of x -/
theorem bool_by {v : Value} {Q : Value → Shared → Prop} (h : wpAny (model prog w) A.in1.in1 (truthy v) (fun b s' => Q (.bool b) s') E s) : wpAny (model prog w) A (call (.type "bool") [v]) Q E s := by
  refine callType_codes (T := "bool") (Bi := Builtin.«object.__init__») (Q₁ := fun r s₁ => ∃ b, r = Value.bool b ∧ Q r s₁) PySem.F.called_bool (PySem.F.typeCall_bool_1 _) PySem.F.entry_object_init ?_ ?_
  · refine codeAny_of_tree ?_
    show wpAny _ A.in1.in1 (do checkBuiltinCall "bool.__new__" ⟨[.type "bool", v], []⟩; again (.builtin "bool.__new__" ⟨[.type "bool", v], []⟩)) _ _ s
    refine wpAny_bind (wpAny_of_eq (PySem.F.newCall_bool_1 _) (wpAny_pure ⟨plainId_quiet (by decide +kernel) _, codeAny_builtin PySem.F.entry_bool_new ?_⟩))
    rw [Around.under_plainId (by decide +kernel) _]
    unfold Builtin.«bool.__new__»
    have f1 := PySem.F.conv_sub_bool
    have h' := h
    obtain ⟨hp, g, d, tk, os⟩ := s
    repeat (first | (refine wpAny_bind (m := truthy v) (wpAny_mono h' (fun b s' hb => ?_) fun _ _ y => y)) | wp_step)
    all_goals exact ⟨b, rfl, hb⟩
  · rintro obj s₁ ⟨b, rfl, hq⟩
    exact ⟨PySem.typeIs_bool _ _, PySem.F.args_object_init_2 _ _, object_init_meets PySem.F.called_bool.init.lookup PySem.F.called_bool.made (by decide) prog w A.in1 _ s₁ ⟨PySem.typeIs_bool _ _, rfl, hq⟩⟩
end

section
variable {prog : Program} {w : World} {A : Around} {E : Value → Shared → Prop} {s : Shared} {K : PySem.W.Frag} {x y C f : Addr} {ox : Obj} {od : Option Obj}
theorem objNe_K (X : K.In s.heap) (I : PySem.W.InstAt s.heap x ox C od) (hs : PySem.W.findIn K (.ref C) "__eq__" = some (some (.ref f))) (hf : PySem.W.isFn K (.ref f) = true) (hu : A.units < cLine) {Q : PySem.Fin → Shared → Prop}
    (hcall : wpAny (model prog w) A (call (.ref f) [.ref x, .ref y]) (fun v s' => ∃ b, v = .bool b ∧ Q (.done (.ret (.bool (!b)))) s') E s) :
    wpAny (model prog w) A (Builtin.«object.__ne__» ⟨[.ref x, .ref y], []⟩) Q E s := by
  have hcall' := hcall
  obtain ⟨h, g, d, t, os⟩ := s
  unfold Builtin.«object.__ne__»
  repeat (first
    | with_reducible refine wpAny_cRoomFor hu ?_
    | (refine wpAny_bind (m := callSpecialIfBound? (.ref x) (Str.ofString "__eq__") [.ref y])
        (PySem.W.ifBound_K X I hs hf (wpAny_mono hcall' (fun r s' hr => by
          obtain ⟨b, rfl, hq⟩ := hr
          repeat (first | exact hq | exact wpAny_pure hq | exact wpAny_truthy_bool hq | (refine wpAny_bind (m := truthy (.bool _)) (wpAny_truthy_bool ?_)) | wp_step)) fun _ _ e => e)))
    | wp_step)
theorem ne_K {Q : Value → Shared → Prop} (hu : A.units + 1 < cLine) (X : K.In s.heap) (I : PySem.W.InstAt s.heap x ox C od) (hb : PySem.W.Looks (model prog w) s.heap (typeOf (.ref y)) (.ref C))
    (hn : PySem.W.findIn K (.ref C) "__ne__" = some (some (.builtin "object.__ne__"))) (hm : PySem.W.mroIn K C (.type "object") = some true)
    (hs : PySem.W.findIn K (.ref C) "__eq__" = some (some (.ref f))) (hf : PySem.W.isFn K (.ref f) = true)
    (h : wpAny (model prog w) A.in1 (call (.ref f) [.ref x, .ref y]) (fun v s' => ∃ b, v = .bool b ∧ Q (.bool (!b)) s') E s) : wpAny (model prog w) A (richCompare .NotEq (.ref x) (.ref y)) Q E s := by
  have hcall : wpAny (model prog w) A (call (.builtin "object.__ne__") [.ref x, .ref y]) (fun v s' => ∃ b, v = .bool b ∧ Q v s') E s := by
    refine wpAny_call (codeAny_call_builtin PySem.F.cmp_object.ne.plain PySem.F.cmpEntry_ne (PySem.W.check_slot (i := "object.__ne__") (owner := "object") (n := "__ne__") PySem.F.cmpKind_ne PySem.F.cmpSplit_ne (I.type.andThen (PySem.W.looks_mroIn X hm)) (PySem.F.cmpArgs_ne _ _)
      (objNe_K (A := A.in1) X I hs hf hu (wpAny_mono h (fun v s' hv => ?_) fun _ _ e => e))))
    obtain ⟨b, rfl, hq⟩ := hv
    exact ⟨b, rfl, ⟨_, rfl, hq⟩⟩
  have one : wpAny (model prog w) A (tryCompare (.ref x) "__ne__" (.ref y)) (fun r s' => ∃ v, r = some v ∧ Q v s') E s := by
    unfold tryCompare
    refine wpAny_bind (m := callSpecialIfBound? (.ref x) _ _) ?_
    simp only [callSpecialIfBound?, bindSpecialIfBound?]
    refine wpAny_holding (wpAny_bind (wpAny_bind (wpAny_bind (I.type.here ((PySem.W.looks_findIn X hn).here ?_)))))
    simp only [PySem.F.cmp_object.ne.bind]
    refine wpAny_bind (wpAny_askSetting (wpAny_ite ?_))
    have fin : wpAny (model prog w) A (call (.builtin "object.__ne__") ([.ref x] ++ [.ref y]) >>= fun v => pure (some v)) (fun r s' => ∃ b, r = some (.bool b) ∧ Q (.bool b) s') E s :=
      wpAny_bind (wpAny_mono hcall (fun v s' ⟨b, e, q⟩ => wpAny_pure ⟨b, by rw [e], by rw [← e]; exact q⟩) fun _ _ e => e)
    split
    · refine wpAny_bind (wpAny_pure (wpAny_pure (wpAny_mono fin (fun r s' ⟨b, e, q⟩ => ?_) fun _ _ e => e)))
      subst e
      first | exact wpAny_pure ⟨_, rfl, q⟩ | exact wpAny_pure (wpAny_pure ⟨_, rfl, q⟩)
    · refine wpAny_tryCatch (wpAny_bind (wpAny_pure (wpAny_pure (wpAny_mono fin (fun r s' ⟨b, e, q⟩ => ?_) fun _ _ e => e))))
      subst e
      first | exact wpAny_pure ⟨_, rfl, q⟩ | exact wpAny_pure (wpAny_pure ⟨_, rfl, q⟩)
  unfold richCompare
  simp only [oneThing_ref]
  refine wpAny_holding ?_
  refine wpAny_bind (wpAny_cRoomFor (Nat.lt_of_succ_lt hu) ?_)
  rw [cmpInfo_NotEq]
  dsimp only
  refine wpAny_bind (I.type.here (wpAny_bind (hb.here ?_)))
  rw [show (Value.ref C != Value.ref C) = false from by simp]
  simp only [Bool.false_eq_true, if_false]
  refine wpAny_bind (wpAny_pure ?_)
  simp only [Bool.false_eq_true, if_false]
  refine wpAny_bind (wpAny_mono one (fun r s' z => ?_) fun _ _ e => e)
  obtain ⟨v, rfl, hq⟩ := z
  exact wpAny_pure hq
end

section
variable {X : Cx} {CX : CXT} {pins : List (Addr × Obj)} {σ : L2.St} {H : Hp} {s : Shared} {a C dx f : Addr} {fs : List (Str × V)} {n k : Nat} {sp : Sp} {E : XK} {fd : FuncData} {ps : List Str}
theorem run_fnAt {A : Around} {Q : VK} {us : List Value} {vs : List V} (F : FnOk X.prog X.w X.K X.mg X.base CX k f fd ps sp) (hr : Room k A) (e0 : Env0 X.prog X.w X.K X.mg X.base A X.stack s H) (hb : Binds X.K fd ps []) (hx : Passes CX X E)
    (I : Inv X pins σ H s) (r : Vals vs us) (h : sp vs H Q E) : wpAny (model X.prog X.w) A (call (.ref f) us) (EP X pins σ Q) X.xe s := by
  have hl : (us ++ []).length = ps.length := by rw [List.append_nil, ← r.length]; exact F.len _ _ _ _ h
  have hb' := hb s us I.kIn hl
  rw [List.append_nil] at hb'
  refine wpAny_call (codeAny_mono (F.run A X.stack s H ⟨us, []⟩ us vs Q E hr e0 hb' r h) fun r s' hq => ?_)
  cases r with
  | error e => exact hx pins σ H s e s' I hq
  | ok fl =>
    cases fl with
    | ret u => exact I.after hq
    | next => exact False.elim hq
    | brk => exact False.elim hq
    | cont => exact False.elim hq
/-- bool(x), x an instance -/
def rOwnBool (C : Addr) (sp : Sp) (E : XK) : List V → Hp → VK → Prop := fun xs H Q => ∃ a dx fs, xs = [.ref a] ∧ H a = some (.ins C dx fs) ∧ sp [.ref a] H (fun z H' => ∃ b, z = .bl b ∧ Q (.bl b) H') E
theorem call_boolOwn (hs : PySem.W.findIn X.K (.ref C) "__bool__" = some (some (.ref f))) (hf : PySem.W.isFn X.K (.ref f) = true)
    (F : FnOk X.prog X.w X.K X.mg X.base CX k f fd ps sp) (hr : Room (k + 2) X.A) (hb : Binds X.K fd ps []) (hx : Passes CX X E) : CallR X (.type "bool") (rOwnBool C sp E) := by
  intro pins s σ H xs us Q I r h
  obtain ⟨a, dx, fs, rfl, ha, q⟩ := h
  obtain ⟨u, rfl, ru⟩ := vals1 r
  cases (show u = Value.ref a from ru)
  obtain ⟨od, J⟩ := ins_inst I ha
  obtain ⟨m, hF⟩ := I.fr
  have hr2 : Room k X.A.in1.in1 := (show Room (k + 1) X.A.in1 from Room.in1 hr).in1
  refine bool_by (PySem.W.truthy_K hF I.ok.mod.kin J hs hf ?_)
  refine wpAny_mono (run_fnAt (us := [.ref a]) (vs := [.ref a]) F hr2 I.env0.in1.in1 hb hx I (.cons rfl .nil) q) (fun w s' z => ?_) fun _ _ x => x
  obtain ⟨z', H', I', rz, b, ez, qz⟩ := z
  subst ez
  cases (show w = Value.bool b from rz)
  exact ⟨.bl b, H', I', rfl, qz⟩
/-- x != y by the own == -/
def rOwnNe (C : Addr) (sp : Sp) (E : XK) : R2 := fun x y H Q => ∃ a dx fs b dy gs, x = .ref a ∧ y = .ref b ∧ H a = some (.ins C dx fs) ∧ H b = some (.ins C dy gs) ∧ sp [x, y] H (fun z H' => ∃ k, z = .bl k ∧ Q (.bl (!k)) H') E
theorem op_ownNe (hn : PySem.W.findIn X.K (.ref C) "__ne__" = some (some (.builtin "object.__ne__"))) (hm : PySem.W.mroIn X.K C (.type "object") = some true) (hs : PySem.W.findIn X.K (.ref C) "__eq__" = some (some (.ref f))) (hf : PySem.W.isFn X.K (.ref f) = true)
    (F : FnOk X.prog X.w X.K X.mg X.base CX k f fd ps sp) (hr : Room (k + 1) X.A) (hb : Binds X.K fd ps []) (hx : Passes CX X E) : OpR X (compareOp .NotEq) (rOwnNe C sp E) := by
  intro pins s σ H x y v u Q I rx ry h
  obtain ⟨a, dx, fs, b, dy, gs, rfl, rfl, ha, hb', q⟩ := h
  cases (show v = Value.ref a from rx)
  cases (show u = Value.ref b from ry)
  obtain ⟨od, J⟩ := ins_inst I ha
  obtain ⟨od', J'⟩ := ins_inst I hb'
  show wpAny _ _ (richCompare .NotEq _ _) _ _ _
  refine ne_K (hu_of (hr.mono (Nat.le_refl _))) I.kIn J J'.type hn hm hs hf ?_
  refine wpAny_mono (run_fnAt (us := [.ref a, .ref b]) (vs := [.ref a, .ref b]) F hr.in1 I.env0.in1 hb hx I (.cons rfl (.cons rfl .nil)) q) (fun w s' z => ?_) fun _ _ x => x
  obtain ⟨z', H', I', rz, c, ez, qz⟩ := z
  subst ez
  cases (show w = Value.bool c from rz)
  exact ⟨c, rfl, .bl (!c), H', I', rfl, qz⟩
end
end OwnO

set_option Elab.async false
set_option linter.all false
set_option maxRecDepth 100000
set_option maxHeartbeats 2000000
/-! short words for a whole text: a def or class as it stands, the rules over them, what evaluates to what -/
namespace My
open PySem PySem.Spec PyProof.Rows L2 Evl OwnO

/-- a def of the module x keeps sp -/
structure Has (P : Program) (w : World) (K : PySem.W.Frag) (mg : Str → Option Value) (base : Heap) (CX : CXT) (x : Str) (k : Nat) (ps : List Str) (sp : Sp) : Prop where
  ex : ∃ f fd, FnOk P w K mg base CX k f fd ps sp ∧ mg x = some (.ref f) ∧ PySem.W.keepIn K (.ref f) = true ∧ Binds K fd ps []
/-- a method m of the class at C keeps sp -/
structure HasM (P : Program) (w : World) (K : PySem.W.Frag) (mg : Str → Option Value) (base : Heap) (CX : CXT) (C : Addr) (m : Str) (k : Nat) (ps : List Str) (sp : Sp) : Prop where
  ex : ∃ f fd, FnOk P w K mg base CX k f fd ps sp ∧ PySem.W.findIn K (.ref C) m = some (some (.ref f)) ∧ PySem.W.isFn K (.ref f) = true ∧ PySem.W.keepIn K (.ref f) = true ∧ Binds K fd ps []
/-- a class of the module, an ordinary one -/
structure HasC (K : PySem.W.Frag) (mg : Str → Option Value) (x : Str) (C : Addr) : Prop where
  g : mg x = some (.ref C)
  cl : Cls K C
  mks : PySem.W.makesIn K C = true
  kp : PySem.W.keepIn K (.ref C) = true
  ca : PySem.W.findIn K (.ref C) "__class__" = some (some (.builtin "object.__class__"))
  cn : PySem.W.specialIn K (.builtin "object.__class__") "__get__" = some (some (.builtin "getset_descriptor.__get__"))
  ct : PySem.W.takesIn K (.builtin "object.__class__") = some true
  cm : PySem.W.mroIn K C (.type "object") = some true
  sf : PySem.W.selfFirst K C = true
theorem HasC.ty {K : PySem.W.Frag} {mg : Str → Option Value} {x : Str} {C a dx : Addr} {fs : List (Str × V)} {H : Hp} (c : HasC K mg x C) (h : H a = some (.ins C dx fs)) : TyX K H (.ref a) (.ref C) :=
  .base (.ins h c.cl c.ca c.cn c.ct c.cm)

section
variable {X : Cx} {CX : CXT} {k : Nat} {C : Addr} {ps : List Str} {sp : Sp} {E : XK} {x m : Str} {p pos apos : Pos} {e o : Expr} {es : List Expr} {ta : TE} {t : TA}
theorem pe_callH (h : Has X.prog X.w X.K X.mg X.base CX x k ps sp) (hr : Room k X.A) (hx : Passes CX X E) (ha : PA X (e :: es) t) (hg : Gl X x := by rfl)
    (hdb : (x == ("__debug__" : Str)) = false := by decide) (he : starEach (e :: es) X.env = (false, eval e X.env) :: starEach es X.env := by rfl) (hpl : (backTo pos (starEach es X.env)).any (·.1) = false := by rfl) :
    PE X (.Call (.Name x p) (e :: es) [] pos) (tCall sp [] E t) := by
  obtain ⟨f, fd, F, hm, hk, hb⟩ := h.ex
  exact pe_call F hr hg hm hk hb .nil hx ha hdb he hpl
theorem pe_makeH (c : HasC X.K X.mg x C) (h : HasM X.prog X.w X.K X.mg X.base CX C "__init__" k ps sp) (hr : Room (k + 1) X.A) (hx : Passes CX X E) (ha : PA X (e :: es) t) (hg : Gl X x := by rfl)
    (hdb : (x == ("__debug__" : Str)) = false := by decide) (he : starEach (e :: es) X.env = (false, eval e X.env) :: starEach es X.env := by rfl) (hpl : (backTo pos (starEach es X.env)).any (·.1) = false := by rfl) :
    PE X (.Call (.Name x p) (e :: es) [] pos) (tMake C sp [] E t) := by
  obtain ⟨f, fd, F, hm, hi, hk, hb⟩ := h.ex
  exact pe_make ⟨c.mks, hm, hi, c.kp⟩ F hr hg c.g hb .nil hx ha hdb he hpl
theorem pe_methH {pl : Sem Bool} (he : PE X o ta) (c : Cls X.K C) (h : HasM X.prog X.w X.K X.mg X.base CX C m k ps sp) (hr : Room k X.A) (hx : Passes CX X E) (ha : PA X (e :: es) t)
    (hst : starEach (e :: es) X.env = (false, eval e X.env) :: starEach es X.env := by rfl) (hpl : (backTo pos (starEach es X.env)).any (·.1) = false := by rfl)
    (ht : eval (.Call (.Attribute o m apos) (e :: es) [] pos) X.env = (do
      let ov ← eval o X.env
      standAt apos.atName
      let (f, first) ← holding [ov] (getMethod ov m pl)
      callWith pos f first (backTo pos (starEach (e :: es) X.env)) (backToKw pos (keywordEach [] X.env))) := by rfl) :
    PE X (.Call (.Attribute o m apos) (e :: es) [] pos) (tMeth C m sp [] E ta t) := by
  obtain ⟨f, fd, F, hm, hi, hk, hb⟩ := h.ex
  exact pe_meth he c ⟨hm, hi, hk⟩ F hr hb .nil hx ha hst hpl ht
theorem pe_methH0 {pl : Sem Bool} (he : PE X o ta) (c : Cls X.K C) (h : HasM X.prog X.w X.K X.mg X.base CX C m k ps sp) (hr : Room k X.A) (hx : Passes CX X E)
    (ht : eval (.Call (.Attribute o m apos) [] [] pos) X.env = (do
      let ov ← eval o X.env
      standAt apos.atName
      let (f, first) ← holding [ov] (getMethod ov m pl)
      callWith pos f first (backTo pos (starEach [] X.env)) (backToKw pos (keywordEach [] X.env))) := by rfl) :
    PE X (.Call (.Attribute o m apos) [] [] pos) (tMeth C m sp [] E ta tNil) := by
  obtain ⟨f, fd, F, hm, hi, hk, hb⟩ := h.ex
  exact pe_meth0 he c ⟨hm, hi, hk⟩ F hr hb .nil hx ht
theorem op_binH {op : Operator} (c : HasC X.K X.mg x C) (h : HasM X.prog X.w X.K X.mg X.base CX C (PySem.dunder op.info.2) k ps sp) (hr : Room k X.A) (hx : Passes CX X E) : OpR X (binaryOp op) (rOwn2 C sp E) := by
  obtain ⟨f, fd, F, hm, hi, hk, hb⟩ := h.ex
  exact op_ownBin c.sf hm hi F hr hb hx
theorem op_cmpH {op : CmpOp} (hop : ∀ a b, compareOp op a b = richCompare op a b) (h : HasM X.prog X.w X.K X.mg X.base CX C (cmpInfo op).2.1 k ps sp) (hr : Room k X.A) (hx : Passes CX X E) : OpR X (compareOp op) (rOwn2 C sp E) := by
  obtain ⟨f, fd, F, hm, hi, hk, hb⟩ := h.ex
  exact op_ownCmp hop hm hi F hr hb hx
theorem op_inH (h : HasM X.prog X.w X.K X.mg X.base CX C "__contains__" k ps sp) (hr : Room k X.A) (hx : Passes CX X E) : OpR X (compareOp .In) (rOwnIn C sp E) := by
  obtain ⟨f, fd, F, hm, hi, hk, hb⟩ := h.ex
  exact op_ownIn hm hi F hr hb hx
theorem tru_H (h : HasM X.prog X.w X.K X.mg X.base CX C "__bool__" k ps sp) (hr : Room k X.A) (hx : Passes CX X E) : TruR X (rOwnTru C sp E) := by
  obtain ⟨f, fd, F, hm, hi, hk, hb⟩ := h.ex
  exact tru_own hm hi F hr hb hx
theorem call_boolH (h : HasM X.prog X.w X.K X.mg X.base CX C "__bool__" k ps sp) (hr : Room (k + 2) X.A) (hx : Passes CX X E) : CallR X (.type "bool") (rOwnBool C sp E) := by
  obtain ⟨f, fd, F, hm, hi, hk, hb⟩ := h.ex
  exact call_boolOwn hm hi F hr hb hx
theorem op_neH (c : HasC X.K X.mg x C) (hn : PySem.W.findIn X.K (.ref C) "__ne__" = some (some (.builtin "object.__ne__"))) (h : HasM X.prog X.w X.K X.mg X.base CX C "__eq__" k ps sp) (hr : Room (k + 1) X.A) (hx : Passes CX X E) : OpR X (compareOp .NotEq) (rOwnNe C sp E) := by
  obtain ⟨f, fd, F, hm, hi, hk, hb⟩ := h.ex
  exact op_ownNe hn c.cm hm hi F hr hb hx
end

/-! ### what evaluates to what, by a word -/
def EvP (te : TE) (σ : L2.St) (H : Hp) (P : V → Hp → Prop) : Prop := ∀ H1, Ex H H1 → ∀ Q : VK, (∀ v H2, Ex H1 H2 → P v H2 → Q v H2) → te σ H1 Q
def rInt1 : List V → Hp → VK → Prop := fun xs H Q => (∃ i, xs = [.int i] ∧ Q (.int i) H) ∨ ∃ k, xs = [.bl k] ∧ Q (.int (if k then 1 else 0)) H
theorem call_int' {X : Cx} : CallR X (.type "int") rInt1 := call_int1
def rMaxI : List V → Hp → VK → Prop := fun xs H Q => ∃ i j, xs = [.int i, .int j] ∧ Q (.int (if j > i then j else i)) H
def rMinI : List V → Hp → VK → Prop := fun xs H Q => ∃ i j, xs = [.int i, .int j] ∧ Q (.int (if j < i then j else i)) H
theorem call_max' {X : Cx} (hc : X.calm = true) : CallR X (.builtin "max") rMaxI := call_max2 hc
theorem call_min' {X : Cx} (hc : X.calm = true) : CallR X (.builtin "min") rMinI := call_min2 hc
def rLen' (K : PySem.W.Frag) : List V → Hp → VK → Prop := fun xs H Q => ∃ x n, xs = [x] ∧ LenV K x H n ∧ Q (.int n) H
theorem call_len' {X : Cx} : CallR X (.builtin "len") (rLen' X.K) := call_len
section
variable {K : PySem.W.Frag} {σ : L2.St} {H H' : Hp} {ta tb tc te tx : TE} {t u : TT} {x y z v : V} {r r' : R2} {D : Ends} {tu tw tz : TS} {P P' : V → Hp → Prop}
theorem ex_at {a : Addr} {o : HO} (e : Ex H H') (h : H a = some o) : H' a = some o := e a o h
theorem EvP.mono (e : Ex H H') (h : EvP te σ H P) : EvP te σ H' P := fun H1 a Q q => h H1 (e.trans a) Q q
theorem EvP.imp (h : EvP te σ H P) (hp : ∀ v H1, Ex H H1 → P v H1 → P' v H1) : EvP te σ H P' := fun H1 a Q q => h H1 a Q fun v H2 e2 p => q v H2 e2 (hp v H2 (a.trans e2) p)
theorem evp_of (h : Ev te σ H v) : EvP te σ H fun w _ => w = v := fun H1 e Q q => h H1 e Q fun H2 e2 => q v H2 e2 rfl
theorem ev_of (h : EvP te σ H fun w _ => w = v) : Ev te σ H v := fun H1 e Q q => h H1 e Q fun w H2 e2 p => by
  rw [p]
  exact q H2 e2
theorem rc_int {i : Int} : RC rInt1 [.int i] H (.int i) := fun H1 _ _ q => .inl ⟨i, rfl, q H1 (Ex.refl H1)⟩
theorem rc_max {i j : Int} : RC rMaxI [.int i, .int j] H (.int (if j > i then j else i)) := fun H1 _ _ q => ⟨i, j, rfl, q H1 (Ex.refl H1)⟩
theorem rc_min {i j : Int} : RC rMinI [.int i, .int j] H (.int (if j < i then j else i)) := fun H1 _ _ q => ⟨i, j, rfl, q H1 (Ex.refl H1)⟩
theorem ev_int {i : Int} (h : Ev ta σ H (.int i)) : Ev (tCB rInt1 (tCons ta tNil)) σ H (.int i) := ev_cb (ea_cons h ea_nil) rc_int
theorem ev_max {i j : Int} (h : Ev ta σ H (.int i)) (h' : Ev tb σ H (.int j)) : Ev (tCB rMaxI (tCons ta (tCons tb tNil))) σ H (.int (if j > i then j else i)) := ev_cb (ea_cons h (ea_cons h' ea_nil)) rc_max
theorem ev_min {i j : Int} (h : Ev ta σ H (.int i)) (h' : Ev tb σ H (.int j)) : Ev (tCB rMinI (tCons ta (tCons tb tNil))) σ H (.int (if j < i then j else i)) := ev_cb (ea_cons h (ea_cons h' ea_nil)) rc_min
theorem ev_lenL {p : Addr} {xs : List V} (ha : Ev ta σ H (.ref p)) (h : SqL K H p xs) : Ev (tCB (rLen' K) (tCons ta tNil)) σ H (.int (xs.length : Int)) := fun H1 e Q q =>
  ha H1 e _ fun H2 e2 => ⟨.ref p, xs.length, rfl, .inl ⟨xs, ex_l (e.trans e2) h, rfl⟩, q H2 e2⟩
theorem ev_lenT {p : Addr} {xs : List V} (ha : Ev ta σ H (.ref p)) (h : SqT K H p xs) : Ev (tCB (rLen' K) (tCons ta tNil)) σ H (.int (xs.length : Int)) := fun H1 e Q q =>
  ha H1 e _ fun H2 e2 => ⟨.ref p, xs.length, rfl, .inr ⟨xs, ex_t (e.trans e2) h, rfl⟩, q H2 e2⟩
/-- a < b < c -/
theorem ev_chain {b1 b2 : Bool} (ha : Ev ta σ H x) (hb : Ev tb σ H y) (hr : RV r x y H (.bl b1)) (hc : b1 = true → Ev tc σ H z) (hr' : b1 = true → RV r' y z H (.bl b2)) : Ev (tChain r r' ta tb tc) σ H (.bl (b1 && b2)) := fun H1 e Q q =>
  ha H1 e _ fun H2 e2 => hb H2 (e.trans e2) _ fun H3 e3 => hr H3 ((e.trans e2).trans e3) _ fun H4 e4 => ⟨b1, rfl, by
    cases b1 with
    | true =>
      show tc σ H4 _
      exact hc rfl H4 (((e.trans e2).trans e3).trans e4) _ fun H5 e5 => hr' rfl H5 ((((e.trans e2).trans e3).trans e4).trans e5) _ fun H6 e6 => q H6 ((((e2.trans e3).trans e4).trans e5).trans e6)
    | false =>
      show Q (.bl false) H4
      exact q H4 ((e2.trans e3).trans e4)⟩
/-- an attribute of an instance -/
theorem ev_fld {a C dx : Addr} {fs : List (Str × V)} {f : Str} (h : Ev ta σ H (.ref a)) (ho : H a = some (.ins C dx fs)) (hc : Cls K C) (hn : NoAttr K C f) (hl : fs.lookup f = some v) : Ev (tFld K ta f) σ H v := fun H1 e Q q =>
  h H1 e _ fun H2 e2 => ⟨a, C, dx, fs, v, rfl, e2 a _ (e a _ ho), hc, hn, hl, q H2 e2⟩
/-- a call by what its promise gives -/
theorem evp_call {sp : Sp} {dvs vs : List V} {E : XK} {tA : TA} (h : EvA tA σ H vs) (hs : ∀ H1, Ex H H1 → ∀ Q : VK, (∀ v H2, Ex H1 H2 → P v H2 → Q v H2) → sp (vs ++ dvs) H1 Q E) : EvP (tCall sp dvs E tA) σ H P := fun H1 e Q q =>
  h H1 e _ fun H2 e2 => hs H2 (e.trans e2) Q fun v H3 e3 p => q v H3 (e2.trans e3) p
theorem evp_op {P : V → Hp → Prop} (ha : Ev ta σ H x) (hb : Ev tb σ H y) (hr : ∀ H1, Ex H H1 → ∀ Q : VK, (∀ v H2, Ex H1 H2 → P v H2 → Q v H2) → r x y H1 Q) : EvP (tOp r ta tb) σ H P := fun H1 e Q q =>
  ha H1 e _ fun H2 e2 => hb H2 (e.trans e2) _ fun H3 e3 => hr H3 ((e.trans e2).trans e3) Q fun v H4 e4 p => q v H4 ((e2.trans e3).trans e4) p
theorem evp_make {sp : Sp} {dvs vs : List V} {E : XK} {C : Addr} {tA : TA} (h : EvA tA σ H vs) (hs : ∀ H1, Ex H H1 → ∀ x dx, H1 x = none → H1 dx = none → dx ≠ x → ∀ Q : VK, (∀ v H2, Ex H1 H2 → P v H2 → Q v H2) →
    sp (.ref x :: (vs ++ dvs)) (upd (upd H1 dx (.own x)) x (.ins C dx [])) (fun v H2 => v = .non ∧ Q (.ref x) H2) E) : EvP (tMake C sp dvs E tA) σ H P := fun H1 e Q q =>
  h H1 e _ fun H2 e2 => fun x dx hx hdx ne => hs H2 (e.trans e2) x dx hx hdx ne Q fun v H3 e3 p => q v H3 (e2.trans e3) p
theorem evp_if {b : Bool} (h : EvT t σ H b) (h1 : b = true → EvP ta σ H P) (h2 : b = false → EvP tb σ H P) : EvP (tIf t ta tb) σ H P := fun H1 e Q q => h H1 e _ fun H2 e2 => by
  cases b with
  | true =>
    show ta σ H2 Q
    exact h1 rfl H2 (e.trans e2) Q fun v H3 e3 p => q v H3 (e2.trans e3) p
  | false =>
    show tb σ H2 Q
    exact h2 rfl H2 (e.trans e2) Q fun v H3 e3 p => q v H3 (e2.trans e3) p
/-- a test that is a value's truth by an own rule -/
theorem et_truR {b : Bool} {rt : V → Hp → (Bool → Hp → Prop) → Prop} (h : Ev ta σ H x) (hr : ∀ H1, Ex H H1 → ∀ Q : Bool → Hp → Prop, (∀ H2, Ex H1 H2 → Q b H2) → rt x H1 Q) : EvT (tTruR rt ta) σ H b := fun H1 e Q q =>
  h H1 e _ fun H2 e2 => hr H2 (e.trans e2) Q fun H3 e3 => q H3 (e2.trans e3)
/-- statements by a word -/
theorem s_asgP {i : Nat} (h : EvP te σ H P) (k : ∀ v H1, Ex H H1 → P v H1 → D.nx (σ.set i (some v)) H1) : tAsg te (gName i) D σ H := h H (Ex.refl H) _ fun v H1 e p => k v H1 e p
theorem s_retP (h : EvP te σ H P) (k : ∀ v H1, Ex H H1 → P v H1 → D.rt v H1) : tRet te D σ H := h H (Ex.refl H) _ k
theorem s_dropP (h : EvP te σ H P) (k : ∀ v H1, Ex H H1 → P v H1 → D.nx σ H1) : tDrop te D σ H := h H (Ex.refl H) _ fun v H1 e p => k v H1 e p
theorem q_asgP {i : Nat} (h : EvP te σ H P) (k : ∀ v H1, Ex H H1 → P v H1 → tz D (σ.set i (some v)) H1) : tSeq (tAsg te (gName i)) tz D σ H := s_asgP (D := { D with nx := tz D }) h k
/-- an if both of whose ways are told apart -/
theorem q_if' {b : Bool} (h : EvT t σ H b) (h1 : b = true → ∀ H1, Ex H H1 → tu { D with nx := tz D } σ H1) (h2 : b = false → ∀ H1, Ex H H1 → tw { D with nx := tz D } σ H1) : tSeq (tIfS t tu tw) tz D σ H := q_if h h1 h2
theorem s_fld {a C dx : Addr} {fs : List (Str × V)} {f : Str} (hv : Ev te σ H y) (ha : Ev ta σ H (.ref a)) (ho : H a = some (.ins C dx fs)) (hc : Cls K C) (hn : NoAttr K C f) (hl : fs.length < 1000)
    (k : ∀ H1, Ex H H1 → D.nx σ (upd H1 a (.ins C dx (putF f y fs)))) : sFld K ta te f D σ H := hv H (Ex.refl H) _ fun H1 e1 => ha H1 e1 _ fun H2 e2 => ⟨a, C, dx, fs, rfl, (e1.trans e2) a _ ho, hc, hn, hl, k H2 (e1.trans e2)⟩
theorem q_fld {a C dx : Addr} {fs : List (Str × V)} {f : Str} (hv : Ev te σ H y) (ha : Ev ta σ H (.ref a)) (ho : H a = some (.ins C dx fs)) (hc : Cls K C) (hn : NoAttr K C f) (hl : fs.length < 1000)
    (k : ∀ H1, Ex H H1 → tz D σ (upd H1 a (.ins C dx (putF f y fs)))) : tSeq (sFld K ta te f) tz D σ H := s_fld (D := { D with nx := tz D }) hv ha ho hc hn hl k
/-- a value by cases of a test that is an int's comparison -/
theorem ev_ifI {b : Bool} {x y : V} (h : EvT t σ H b) (h1 : Ev ta σ H x) (h2 : Ev tb σ H y) : Ev (tIf t ta tb) σ H (if b = true then x else y) := ev_if h (fun e => by rw [e]; exact h1) (fun e => by rw [e]; exact h2)
/-- isinstance -/
theorem ev_isi {c : V} {ty cu : Value} {b : Bool} (ha : Ev ta σ H x) (hb : Ev tb σ H c) (hc : ClsV c cu) (ht : ∀ H1, Ex H H1 → TyX K H1 x ty) (hk : PySem.W.kitOne K ty cu = some b) : Ev (tCB (rIsi K) (tCons ta (tCons tb tNil))) σ H (.bl b) := fun H1 e Q q =>
  ha H1 e _ fun H2 e2 => hb H2 (e.trans e2) _ fun H3 e3 => ⟨x, c, ty, cu, b, rfl, hc, ht H3 ((e.trans e2).trans e3), hk, q H3 (e2.trans e3)⟩
theorem kit_self {K : PySem.W.Frag} {t : Value} : PySem.W.kitOne K t t = some true := by
  unfold PySem.W.kitOne
  rw [if_pos (beq_self_eq_true _)]
theorem ev_isi_int {i : Int} (ha : Ev ta σ H (.int i)) (hb : Ev tb σ H (.ty "int")) : Ev (tCB (rIsi K) (tCons ta (tCons tb tNil))) σ H (.bl true) := ev_isi ha hb (.ty _) (fun _ _ => .base (.int i)) kit_self
theorem ev_isi_ib {i : Int} (ha : Ev ta σ H (.int i)) (hb : Ev tb σ H (.ty "bool")) : Ev (tCB (rIsi K) (tCons ta (tCons tb tNil))) σ H (.bl false) := ev_isi ha hb (.ty _) (fun _ _ => .base (.int i)) (kit_ty (by decide +kernel))
theorem ev_isi_own {a C dx : Addr} {fs : List (Str × V)} {mg : Str → Option Value} {n : Str} (c : HasC K mg n C) (h : H a = some (.ins C dx fs)) (ha : Ev ta σ H (.ref a)) (hb : Ev tb σ H (.ref C)) : Ev (tCB (rIsi K) (tCons ta (tCons tb tNil))) σ H (.bl true) :=
  ev_isi ha hb (.own _) (fun _ e => c.ty (e a _ h)) kit_self
theorem ev_isi_lst {a : Addr} {xs : List V} (h : H a = some (.lst xs)) (ha : Ev ta σ H (.ref a)) (hb : Ev tb σ H (.ty "list")) : Ev (tCB (rIsi K) (tCons ta (tCons tb tNil))) σ H (.bl true) := ev_isi ha hb (.ty _) (fun _ e => .base (.lst (e a _ h))) kit_self
theorem ev_isi_tup {a : Addr} {xs : List V} (h : H a = some (.tup xs)) (ha : Ev ta σ H (.ref a)) (hb : Ev tb σ H (.ty "tuple")) : Ev (tCB (rIsi K) (tCons ta (tCons tb tNil))) σ H (.bl true) := ev_isi ha hb (.ty _) (fun _ e => .base (.tup (e a _ h))) kit_self
end
end My

set_option Elab.async false
set_option linter.all false
set_option maxRecDepth 100000
set_option maxHeartbeats 2000000
/-! several except clauses, some with a name; calls and operators that may raise, at the caller's slots -/
namespace My
open PySem PySem.Spec PyProof.Rows L2 Evl OwnO
abbrev SuiteT := Addr → Value → Option Addr → TS
/-- the ends of a suite whose clause has a name in slot i -/
def unEnds (D : Ends) (i : Nat) : Ends := { nx := fun σ' H' => D.nx (σ'.set i none) H', rt := D.rt, bk := fun σ' H' => D.bk (σ'.set i none) H', ct := fun σ' H' => D.ct (σ'.set i none) H' }
def wManyN (K : PySem.W.Frag) (Wout : WX) (D : Ends) : List (Value × Option Nat × SuiteT) → WX
  | [] => Wout
  | (c, none, ts) :: r => fun cls d σ H => ∃ b, PySem.W.exmOne K cls c = some b ∧ (b = true → ∀ a, H a = none → ts a cls d D σ H) ∧ (b = false → wManyN K Wout D r cls d σ H)
  | (c, some i, ts) :: r => fun cls d σ H => ∃ b, PySem.W.exmOne K cls c = some b ∧ (b = true → ∀ a, H a = none → ts a cls d (unEnds D i) (σ.set i (some (.ref a))) H) ∧ (b = false → wManyN K Wout D r cls d σ H)
inductive HdsN (X : Cx) : List ExceptHandler → List (Value × Option Nat × SuiteT) → Prop
  | nil : HdsN X [] []
  | cons {x : Str} {c : Value} {ts : SuiteT} {b₀ : Stmt} {suite : List Stmt} {np pos' : Pos} {hds : List ExceptHandler} {l : List (Value × Option Nat × SuiteT)} (hc : Names X x c)
      (hsu : ∀ (a : Addr) (oe : Obj) (cls : Value) (d : Option Addr) (pn : List (Addr × Obj)), Zc cls d oe → (∃ vs, oe.data = .fields vs) → PSs (X.suite a ((a, oe) :: pn)) (b₀ :: suite) (ts a cls d)) (r : HdsN X hds l) :
      HdsN X (.ExceptHandler (some (.Name x np)) none (b₀ :: suite) pos' :: hds) ((c, none, ts) :: l)
  | consAs {x n : Str} {c : Value} {i : Nat} {ts : SuiteT} {b₀ : Stmt} {suite : List Stmt} {np pos' : Pos} {hds : List ExceptHandler} {l : List (Value × Option Nat × SuiteT)} (hc : Names X x c) (hN : X.N.Nodup) (hi : X.N[i]? = some n) (hln : X.env.kindOf n = some .local)
      (hsu : ∀ (a : Addr) (oe : Obj) (cls : Value) (d : Option Addr) (pn : List (Addr × Obj)), Zc cls d oe → (∃ vs, oe.data = .fields vs) → PSs (X.suite a ((a, oe) :: pn)) (b₀ :: suite) (ts a cls d)) (r : HdsN X hds l) :
      HdsN X (.ExceptHandler (some (.Name x np)) (some n) (b₀ :: suite) pos' :: hds) ((c, some i, ts) :: l)
section
variable {X : Cx} {body : List Stmt} {h₀ : ExceptHandler} {hds : List ExceptHandler} {l : List (Value × Option Nat × SuiteT)} {pos : Pos} {tb : WX → TS} {Wout : WX}
theorem ps_tryN (hs : X.stack = X.env :: X.outer) (hf : X.env.frame = some X.env.locals) (tk : Takes X Wout)
    (hb : ∀ (W : WX) (pn : List (Addr × Obj)) (xe : Value → Shared → Prop), Takes (X.tr pn xe) W → PassesOwn (model X.prog X.w) X.A X.env xe → PSs (X.tr pn xe) body (tb W))
    (hh : HdsN X (h₀ :: hds) l) : PS X (.Try body (h₀ :: hds) [] [] pos) (fun D σ H => tb (wManyN X.K Wout D l) D σ H) := by
  refine ⟨fun pins s σ H D I h => ?_⟩
  have ok := I.ok
  have hfr : X.A.frames = some (X.env :: X.outer) := by rw [ok.frames, hs]
  refine wpAny_Try_except ?_
  refine wpAny_mono ((hb (wManyN X.K Wout D l) (X.pn ++ pins) (fun e s₁ => wpAny (model X.prog X.w) X.A (noteFrame e X.env) (fun _ s₂ => wpAny (model X.prog X.w) X.A (setFlight e none) (fun _ s₃ =>
    wpAny (model X.prog X.w) X.A (handleBy e X.env (h₀ :: hds)) (SP X pins D) X.xe s₃) X.xe s₂) X.xe s₁) (fun u s' xx => ?_) PassesOwn.looking).run [] s σ H D (I.toTry _) h) (fun f s1 hsp => ?_) (fun e s1 he => he)
  · obtain ⟨a, B, sI, pins', σ', H', cls, d, rfl, J', nb, up, sky, na, os, ag, w⟩ := xx
    have J : Inv X pins σ' H' sI := J'.ofTry ok
    have sky' : Sky B (X.env :: X.outer) a (Zc cls d) X.env.locals s'.heap := by rw [← hs]; exact sky
    show wpAny (model X.prog X.w) X.A (noteFrame (.ref a) X.env) _ _ _
    refine Sky.land Zc.steady hfr hf sky' fun h3 fl3 up3 => ?_
    have J3 : Inv X pins σ' H' { s' with heap := h3 } := J.landed nb fl3.1 (up.trans up3) os ag
    obtain ⟨oe3, vs3, he3, hz3, hd3⟩ := fl3.there
    have notFr : ∀ {h : Heap} {o : Obj} {vs : Array Value}, h.FunFrames B (X.env :: X.outer) → h.get? a = some o → o.data = .fields vs → a ∉ frs (X.env :: X.outer) := fun {h o vs} ff e dd hm => by
      obtain ⟨_, o', e', hnf⟩ := ff.mem hm
      rw [e] at e'; cases e'
      exact hnf _ dd
    have nfr := notFr fl3.2.2.1 he3 hd3
    have nL : a ≠ X.env.locals := fun z => nfr (List.mem_filterMap.mpr ⟨X.env, List.mem_cons_self, by rw [hf, z]⟩)
    have nF : a ∉ X.fs := fun hm => by
      obtain ⟨e, he, q⟩ := List.mem_filterMap.mp hm
      exact nfr (List.mem_filterMap.mpr ⟨e, List.mem_cons_of_mem _ he, q⟩)
    have S3 := J3.suite he3 hd3 na nL nF
    have go : ∀ {hds' : List ExceptHandler} {l' : List (Value × Option Nat × SuiteT)}, HdsN X hds' l' → wManyN X.K Wout D l' cls d σ' H' →
        wpAny (model X.prog X.w) X.A (handleBy (.ref a) X.env hds') (SP X pins D) X.xe { s' with heap := h3 } := by
      intro hds' l' hk
      induction hk with
      | nil =>
        intro w
        refine wpAny_handleBy_nil ?_
        obtain ⟨k1, k2, k3, oe, vs, T, oT, ts', he, hz, hd, h1, hr⟩ := id fl3
        unfold PySem.passOn
        refine wpAny_bind (wpAny_field he hd h1 ?_)
        rw [if_neg (show ¬ ((Value.ref T == Value.none) = true) from by simp)]
        have fin : wpAny (model X.prog X.w) X.A (setFlight (.ref a) X.env.frame) (fun _ s4 => wpAny (model X.prog X.w) X.A (throw (.ref a) : Sem Flow) (SP X pins D) X.xe s4) X.xe { s' with heap := h3 } := by
          rw [hf]
          refine HandSPX.setFlight_upZ fl3 fun h4 hh4 up4 => wpAny_throw (tk _ _ ?_)
          exact ⟨a, B, sI, pins, σ', H', cls, d, rfl, J, nb, (up.trans up3).trans up4, .inr (.inr (by rw [hs]; exact hh4)), na, os, ag, w⟩
        first
          | exact wpAny_bind (wpAny_pure (wpAny_bind fin))
          | exact wpAny_bind fin
      | @cons x c ts b₀ suite np pos' hds2 l2 hc hsu r ih =>
        intro w
        obtain ⟨b, hb1, hyes, hno⟩ := w
        refine wpAny_handleBy_cons (codeAny_handlers_test ?_) (by intro q; cases q)
        have LT : PySem.W.Looks (model X.prog X.w) h3 (typeOf (.ref a)) cls := fun A Q E s k q => wpAny_typeOf_ref (k _ _ he3) (by rw [hz3.1]; exact q)
        have LM := PySem.W.exm_one (M := model X.prog X.w) (J3.kIn) LT hb1
        have test : ∀ {Q : Value → Shared → Prop} {E : Value → Shared → Prop}, Q c { s' with heap := h3 } → wpAny (model X.prog X.w) (X.A.mark (some (.ref a))) (eval (.Name x np) X.env) Q E { s' with heap := h3 } := fun {Q E} q => by
          obtain ⟨hg, hdbg, hm | ⟨hm, hv, hnn⟩⟩ := hc
          · exact ld_glob (X := X.suite a ((a, oe3) :: (X.pn ++ pins))) S3 hg hm q hdbg
          · exact ld_blt (X := X.suite a ((a, oe3) :: (X.pn ++ pins))) S3 hg hm hv q hnn hdbg
        refine test (LM.here ?_)
        cases b with
        | true =>
          refine codeAny_handlers_suite ?_
          refine HandSPX.lands_againZ fl3 fun h4 fl4 up4 => ?_
          have J4 : Inv X pins σ' H' { s' with heap := h4 } := J.landed nb fl4.1 ((up.trans up3).trans up4) os ag
          obtain ⟨oe4, vs4, he4, hz4, hd4⟩ := fl4.there
          have S4 := J4.suite he4 hd4 na nL nF
          refine wpAny_mono ((hsu a oe4 cls d (X.pn ++ pins) hz4 ⟨_, hd4⟩).run [] _ _ H' _ S4 (hyes rfl a na)) (fun f s6 hsp => ?_) (fun _ _ z => False.elim z)
          cases f with
          | next =>
            obtain ⟨σ6, H6, S6, q6⟩ := hsp
            exact ⟨_, _, S6.unsuite ok, q6⟩
          | brk =>
            obtain ⟨σ6, H6, S6, q6⟩ := hsp
            exact ⟨_, _, S6.unsuite ok, q6⟩
          | cont =>
            obtain ⟨σ6, H6, S6, q6⟩ := hsp
            exact ⟨_, _, S6.unsuite ok, q6⟩
          | ret u =>
            obtain ⟨v6, σ6, H6, S6, r6, q6⟩ := hsp
            exact ⟨_, _, _, S6.unsuite ok, r6, q6⟩
        | false =>
          show wpAny _ X.A (handleBy (.ref a) X.env hds2) _ _ _
          exact ih (hno rfl)
      | @consAs x n c i ts b₀ suite np pos' hds2 l2 hc hN hi hln hsu r ih =>
        intro w
        obtain ⟨b, hb1, hyes, hno⟩ := w
        refine wpAny_handleBy_cons (codeAny_handlers_test ?_) (by intro q; cases q)
        have LT : PySem.W.Looks (model X.prog X.w) h3 (typeOf (.ref a)) cls := fun A Q E s k q => wpAny_typeOf_ref (k _ _ he3) (by rw [hz3.1]; exact q)
        have LM := PySem.W.exm_one (M := model X.prog X.w) (J3.kIn) LT hb1
        have test : ∀ {Q : Value → Shared → Prop} {E : Value → Shared → Prop}, Q c { s' with heap := h3 } → wpAny (model X.prog X.w) (X.A.mark (some (.ref a))) (eval (.Name x np) X.env) Q E { s' with heap := h3 } := fun {Q E} q => by
          obtain ⟨hg, hdbg, hm | ⟨hm, hv, hnn⟩⟩ := hc
          · exact ld_glob (X := X.suite a ((a, oe3) :: (X.pn ++ pins))) S3 hg hm q hdbg
          · exact ld_blt (X := X.suite a ((a, oe3) :: (X.pn ++ pins))) S3 hg hm hv q hnn hdbg
        refine test (LM.here ?_)
        cases b with
        | true =>
          refine codeAny_handlers_suite_as ?_
          refine HandSPX.lands_againZ fl3 fun h4 fl4 up4 => ?_
          have J4 : Inv X pins σ' H' { s' with heap := h4 } := J.landed nb fl4.1 ((up.trans up3).trans up4) os ag
          obtain ⟨oe4, vs4, he4, hz4, hd4⟩ := fl4.there
          have S4 := J4.suite he4 hd4 na nL nF
          refine store_ok (X := X.suite a ((a, oe4) :: (X.pn ++ pins))) (v := .ref a) S4 hN hi (.inl hln) rfl (fun s5 S5 => ?_) (.inr hln)
          refine wpAny_mono ((hsu a oe4 cls d (X.pn ++ pins) hz4 ⟨_, hd4⟩).run [] s5 _ H' _ S5 (hyes rfl a na)) (fun f s6 hsp => ?_) (fun _ _ z => False.elim z)
          have end_ : ∀ {σ6 : L2.St} {H6 : Hp} {Q : Shared → Prop}, Inv (X.suite a ((a, oe4) :: (X.pn ++ pins))) [] σ6 H6 s6 → (∀ s7, Inv X pins (σ6.set i none) H6 s7 → Q s7) →
              wpAny (model X.prog X.w) X.A (do bindName X.env n .none; unbindBehindTheSuite X.env n pos') (fun _ s7 => Q s7) X.xe s6 := fun {σ6 H6 Q} S6 hq => gone_ok (S6.unsuite ok) hN hi hln hq
          cases f with
          | next =>
            obtain ⟨σ6, H6, S6, q6⟩ := hsp
            exact end_ S6 fun s7 J7 => ⟨_, _, J7, q6⟩
          | brk =>
            obtain ⟨σ6, H6, S6, q6⟩ := hsp
            exact end_ S6 fun s7 J7 => ⟨_, _, J7, q6⟩
          | cont =>
            obtain ⟨σ6, H6, S6, q6⟩ := hsp
            exact end_ S6 fun s7 J7 => ⟨_, _, J7, q6⟩
          | ret u =>
            obtain ⟨v6, σ6, H6, S6, r6, q6⟩ := hsp
            exact end_ S6 fun s7 J7 => ⟨_, _, _, J7, r6, q6⟩
        | false =>
          show wpAny _ X.A (handleBy (.ref a) X.env hds2) _ _ _
          exact ih (hno rfl)
    exact go hh w
  · cases f with
    | next =>
      obtain ⟨σ', H', J', q⟩ := hsp
      exact wpAny_execs_nil ⟨σ', H', J'.ofTry ok, q⟩
    | brk =>
      obtain ⟨σ', H', J', q⟩ := hsp
      exact ⟨σ', H', J'.ofTry ok, q⟩
    | cont =>
      obtain ⟨σ', H', J', q⟩ := hsp
      exact ⟨σ', H', J'.ofTry ok, q⟩
    | ret u =>
      obtain ⟨v, σ', H', J', r, q⟩ := hsp
      exact ⟨v, σ', H', J'.ofTry ok, r, q⟩
end

/-! ### calls that may raise, the wish at the slots -/
def tMethS (C : Addr) (m : Str) (sp : Sp) (E : L2.St → XK) (ta : TE) (t : TA) : TE := fun σ H Q => ta σ H fun x H1 => ∃ a dx fs, x = .ref a ∧ H1 a = some (.ins C dx fs) ∧ fs.lookup m = none ∧ t σ H1 fun vs H2 => sp (x :: vs) H2 Q (E σ)
def tBinS (C : Addr) (sp : Sp) (E : L2.St → XK) (ta tb : TE) : TE := fun σ H Q => ta σ H fun x H1 => tb σ H1 fun y H2 => ∃ a dx fs b dy gs, x = .ref a ∧ y = .ref b ∧ H2 a = some (.ins C dx fs) ∧ H2 b = some (.ins C dy gs) ∧ sp [x, y] H2 Q (E σ)
section
variable {X : Cx} {CX : CXT} {k : Nat} {C : Addr} {ps : List Str} {sp : Sp} {E : L2.St → XK} {x m : Str} {p pos apos : Pos} {e o : Expr} {es : List Expr} {ta tb : TE} {t : TA}
theorem pe_callHS (h : Has X.prog X.w X.K X.mg X.base CX x k ps sp) (hr : Room k X.A) (hx : ∀ σ, PassesAt CX X σ (E σ)) (ha : PA X (e :: es) t) (hg : Gl X x := by rfl)
    (hdb : (x == ("__debug__" : Str)) = false := by decide) (he : starEach (e :: es) X.env = (false, eval e X.env) :: starEach es X.env := by rfl) (hpl : (backTo pos (starEach es X.env)).any (·.1) = false := by rfl) :
    PE X (.Call (.Name x p) (e :: es) [] pos) (tCallS sp E t) := by
  obtain ⟨f, fd, F, hm, hk, hb⟩ := h.ex
  exact pe_callS F hr hg hm hk hb hx ha hdb he hpl
theorem pe_methHS {pl : Sem Bool} (he : PE X o ta) (c : Cls X.K C) (h : HasM X.prog X.w X.K X.mg X.base CX C m k ps sp) (hr : Room k X.A) (hx : ∀ σ, PassesAt CX X σ (E σ)) (ha : PA X (e :: es) t)
    (hst : starEach (e :: es) X.env = (false, eval e X.env) :: starEach es X.env := by rfl) (hpl : (backTo pos (starEach es X.env)).any (·.1) = false := by rfl)
    (ht : eval (.Call (.Attribute o m apos) (e :: es) [] pos) X.env = (do
      let ov ← eval o X.env
      standAt apos.atName
      let (f, first) ← holding [ov] (getMethod ov m pl)
      callWith pos f first (backTo pos (starEach (e :: es) X.env)) (backToKw pos (keywordEach [] X.env))) := by rfl) :
    PE X (.Call (.Attribute o m apos) (e :: es) [] pos) (tMethS C m sp E ta t) := by
  obtain ⟨f, fd, F, hmm, hi, hk, hb⟩ := h.ex
  have hm : Meth X.K C m f := ⟨hmm, hi, hk⟩
  refine ⟨fun pins s σ H Q I h => ?_⟩
  refine PySem.W.methodCall_KW (pl := pl) (thn (he.run pins s σ H _ I h) fun u s1 ⟨x, H1, I1, rx, a, dx, fs, ex, ea, l, q⟩ => ?_) ht
  subst ex
  obtain rfl : u = Value.ref a := rx
  refine getmeth_ok I1 ea c hm l ?_
  refine PySem.W.callWith_K (first := [.ref a]) (h₀ := X.base) I.ok.mod.kin hm.kp (thn (ha.run pos pins s1 σ H1 _ I1 q) fun us s2 ⟨vs, H2, I2, r, q2⟩ => ⟨I2.kIn, ?_⟩) hst hpl
  exact run_fnS (us := .ref a :: us) (vs := .ref a :: vs) F hr hb (hx σ) I2 (.cons rfl r) q2
theorem pe_binHS {a b : Expr} {op : Operator} {nm : Str} (c : HasC X.K X.mg nm C) (h : HasM X.prog X.w X.K X.mg X.base CX C (PySem.dunder op.info.2) k ps sp) (hr : Room k X.A) (hx : ∀ σ, PassesAt CX X σ (E σ)) (ha : PE X a ta) (hb : PE X b tb) :
    PE X (.BinOp a op b pos) (tBinS C sp E ta tb) := by
  obtain ⟨f, fd, F, hm, hi, hk, hbb⟩ := h.ex
  refine ⟨fun pins s σ H Q I h => ?_⟩
  refine wpAny_BinOp (binT ha hb I h fun v u s2 x y H2 I2 rx ry q => ?_)
  obtain ⟨a, dx, fs, b, dy, gs, rfl, rfl, ha', hb', q⟩ := q
  cases (show v = Value.ref a from rx)
  cases (show u = Value.ref b from ry)
  obtain ⟨od, J⟩ := ins_inst I2 ha'
  obtain ⟨od', J'⟩ := ins_inst I2 hb'
  obtain ⟨m, hF⟩ := I2.fr
  refine PySem.W.binop_K hF I.ok.mod.kin J J'.type c.sf hm hi ?_
  refine wpAny_mono (run_fnS (us := [.ref a, .ref b]) (vs := [.ref a, .ref b]) F hr hbb (hx σ) I2 (.cons rfl (.cons rfl .nil)) q) (fun w s' z => ?_) fun _ _ x => x
  obtain ⟨z', H', I', rz, qz⟩ := z
  exact SlX.cmpback rz ⟨z', H', I', rz, qz⟩
end
/-- isinstance(e, c) in a suite, whatever the exception's class -/
def rIsE' (K : PySem.W.Frag) (cls : Value) (d : Option Addr) (D a : Addr) : List V → Hp → VK → Prop := fun xs H Q => cls = .ref D ∧ d = none ∧ rIsE K D a xs H Q
theorem call_isE' {X : Cx} {a D : Addr} {cls : Value} {d : Option Addr} {oe : Obj} {pn : List (Addr × Obj)} (C : ExcC X.K D) (hz : Zc cls d oe) (hf : ∃ vs, oe.data = .fields vs) : CallR (X.suite a ((a, oe) :: pn)) (.builtin "isinstance") (rIsE' X.K cls d D a) := by
  intro pins s σ H xs us Q I r h
  obtain ⟨rfl, rfl, h⟩ := h
  exact call_isE C hz hf pins s σ H xs us Q I r h
/-- an error class of the module -/
structure ErrC (K : PySem.W.Frag) (mg : Str → Option Value) (x : Str) (C : Addr) : Prop where
  g : mg x = some (.ref C)
  xi : PySem.W.excIn K C [.type "ValueError", .type "Exception", .type "BaseException", .type "object"] "ValueError.__new__" = true
  kp : PySem.W.keepIn K (.ref C) = true
  sb : PySem.W.subIn K (.ref C) (.type "BaseException") = some true
  ty : PySem.W.typeIn K (.ref C) = some (.type "type")

/-! ### arguments, tuples, lists, comprehensions by a word -/
def MonV (P : V → Hp → Prop) : Prop := ∀ v H1 H2, Ex H1 H2 → P v H1 → P v H2
def MonL (P : List V → Hp → Prop) : Prop := ∀ v H1 H2, Ex H1 H2 → P v H1 → P v H2
def EvAP (ta : TA) (σ : L2.St) (H : Hp) (P : List V → Hp → Prop) : Prop := ∀ H1, Ex H H1 → ∀ Q : List V → Hp → Prop, (∀ vs H2, Ex H1 H2 → P vs H2 → Q vs H2) → ta σ H1 Q
section
variable {K : PySem.W.Frag} {σ : L2.St} {H H' : Hp} {ta tb tc te tx tl : TE} {tA tr : TA} {t u tt : TT} {x y z v : V} {r r' : R2} {D : Ends} {tu tw tz : TS} {P P' : V → Hp → Prop} {R R' : List V → Hp → Prop}
theorem eap_nil : EvAP tNil σ H fun vs _ => vs = [] := fun H1 _ _ q => q [] H1 (Ex.refl H1) rfl
theorem eap_cons (hm : MonV P) (h : EvP te σ H P) (hr : EvAP tr σ H R) : EvAP (tCons te tr) σ H fun vs H => ∃ v r, vs = v :: r ∧ P v H ∧ R r H := fun H1 e Q q =>
  h H1 e _ fun v H2 e2 p => hr H2 (e.trans e2) _ fun vs H3 e3 pr => q _ H3 (e2.trans e3) ⟨v, vs, rfl, hm v H2 H3 e3 p, pr⟩
theorem eap_of {vs : List V} (h : EvA tA σ H vs) : EvAP tA σ H fun ws _ => ws = vs := fun H1 e Q q => h H1 e Q fun H2 e2 => q vs H2 e2 rfl
theorem EvAP.imp (h : EvAP tA σ H R) (hp : ∀ vs H1, Ex H H1 → R vs H1 → R' vs H1) : EvAP tA σ H R' := fun H1 a Q q => h H1 a Q fun v H2 e2 p => q v H2 e2 (hp v H2 (a.trans e2) p)
theorem evp_tupP (h : EvAP tA σ H R) (hm : MonL R) (hl : ∀ vs H, R vs H → vs.length ≤ 100000) : EvP (tTup tA) σ H fun v H => ∃ p vs, v = .ref p ∧ H p = some (.tup vs) ∧ R vs H := fun H1 e Q q =>
  h H1 e _ fun vs H2 e2 p => ⟨sz_of (hl vs H2 p), fun a ha => q _ _ (e2.trans (Ex.new ha)) ⟨a, vs, rfl, upd_same, hm vs _ _ (Ex.new ha) p⟩⟩
theorem evp_lstP (h : EvAP tA σ H R) (hm : MonL R) (hl : ∀ vs H, R vs H → vs.length ≤ 100000) : EvP (tLst tA) σ H fun v H => ∃ p vs, v = .ref p ∧ H p = some (.lst vs) ∧ R vs H := fun H1 e Q q =>
  h H1 e _ fun vs H2 e2 p => ⟨sz_of (hl vs H2 p), fun a ha => q _ _ (e2.trans (Ex.new ha)) ⟨a, vs, rfl, upd_same, hm vs _ _ (Ex.new ha) p⟩⟩
theorem evp_tup {vs : List V} (h : EvA tA σ H vs) (hl : vs.length ≤ 100000) : EvP (tTup tA) σ H fun v H => ∃ p, v = .ref p ∧ H p = some (.tup vs) := fun H1 e Q q =>
  h H1 e _ fun H2 e2 => ⟨sz_of hl, fun a ha => q _ _ (e2.trans (Ex.new ha)) ⟨a, rfl, upd_same⟩⟩
theorem evp_lst {vs : List V} (h : EvA tA σ H vs) (hl : vs.length ≤ 100000) : EvP (tLst tA) σ H fun v H => ∃ p, v = .ref p ∧ H p = some (.lst vs) := fun H1 e Q q =>
  h H1 e _ fun H2 e2 => ⟨sz_of hl, fun a ha => q _ _ (e2.trans (Ex.new ha)) ⟨a, rfl, upd_same⟩⟩
/-- a word of each item of a list -/
def Items (S : Nat → V → Hp → Prop) (n : Nat) (ys : List V) (H : Hp) : Prop := ys.length = n ∧ ∀ i y, ys[i]? = some y → S i y H
theorem Items.mono {S : Nat → V → Hp → Prop} (hm : ∀ i, MonV (S i)) {n : Nat} {ys : List V} (e : Ex H H') (h : Items S n ys H) : Items S n ys H' := ⟨h.1, fun i y hi => hm i y H H' e (h.2 i y hi)⟩
/-- a word that no list's change touches -/
def MutV (P : V → Hp → Prop) : Prop := ∀ v H (a : Addr) (xs ys : List V), H a = some (.lst xs) → P v H → P v (upd H a (.lst ys))
theorem mut_ins {C a dx p : Addr} {fs : List (Str × V)} {xs ys : List V} (h : H a = some (.lst xs)) (hp : H p = some (.ins C dx fs)) : upd H a (.lst ys) p = some (.ins C dx fs) := by
  rw [upd_ne (fun z => by rw [z, h] at hp; cases hp)]
  exact hp
theorem mut_tup {a p : Addr} {us xs ys : List V} (h : H a = some (.lst xs)) (hp : H p = some (.tup us)) : upd H a (.lst ys) p = some (.tup us) := by
  rw [upd_ne (fun z => by rw [z, h] at hp; cases hp)]
  exact hp
/-- [e for x in xs] over a list that stands, each new item by a word -/
theorem evp_lc {a : Addr} {xs : List V} {j : Nat} {vs : List Nat} (S : Nat → V → Hp → Prop) (hm : ∀ i, MonV (S i)) (hu : ∀ i, MutV (S i)) (h : Ev tl σ H (.ref a)) (hx : SqL K H a xs) (hz : xs.length ≤ 40000) (hw : ∀ x, wipe ((wipe σ vs).set j (some x)) vs = wipe σ vs)
    (he : ∀ (i : Nat) (x : V) H1, Ex H H1 → xs[i]? = some x → EvP te ((wipe σ vs).set j (some x)) H1 (S i)) :
    EvP (tLc (iList K tl) (gName j) tYes te vs) σ H fun v H => ∃ p ys, v = .ref p ∧ H p = some (.lst ys) ∧ Items S xs.length ys H := fun H0 e Q q => h H0 e _ fun H1 e1 => ⟨a, rfl, ⟨xs, ex_l (e.trans e1) hx⟩, fun Dl hD =>
  lc_list (xs := xs) (fun i H' => H1 Dl = none ∧ Ex H1 H' ∧ ∃ ys, H' Dl = some (.lst ys) ∧ Items S i ys H') ⟨hD, Ex.new hD, [], upd_same, rfl, fun i y hi => by simp at hi⟩ (fun i H' _ p => ex_l ((e.trans e1).trans p.2.1) hx)
    (fun i x H' hi ⟨p1, p2, ys, p3, p4⟩ => ⟨hw x, he i x H' ((e.trans e1).trans p2) hi H' (Ex.refl H') _ fun y H4 e4 hy => ⟨ys, e4 Dl _ p3, sz_lt (by have := (List.getElem?_eq_some_iff.mp hi).1; have := p4.1; omega), p1, Ex.mut (p2.trans e4) p1, ys ++ [y], upd_same, by rw [List.length_append, p4.1]; rfl, fun k w hk => by
      have hd := e4 Dl _ p3
      refine hu k w H4 Dl ys _ hd ?_
      rcases Nat.lt_or_ge k ys.length with c | c
      · rw [List.getElem?_append_left c] at hk
        exact hm k w H' H4 e4 (p4.2 k w hk)
      · rw [List.getElem?_append_right c] at hk
        have hk0 : k - ys.length = 0 := by
          rcases Nat.eq_zero_or_pos (k - ys.length) with z | z
          · exact z
          · rw [List.getElem?_eq_none (by simp; omega)] at hk
            cases hk
        rw [hk0] at hk
        have ew : y = w := by simpa using hk
        have ek : k = i := by have := p4.1; omega
        rw [ek, ← ew]
        exact hy⟩⟩)
    (fun H' ⟨p1, p2, ys, p3, p4⟩ => q _ H' (e1.trans p2) ⟨Dl, ys, rfl, p3, p4⟩)⟩
/-! ### the same for sequences compared -/
theorem eqv2 (a b c d : Int) : PyData.eqv (.tuple [.int a, .int b]) (.tuple [.int c, .int d]) = (decide (a = c) && decide (b = d)) := by
  have h1 : (a == c) = decide (a = c) := rfl
  have h2 : (b == d) = decide (b = d) := rfl
  simp only [PyData.eqv, PyData.eqvAll, Bool.and_true]
  first | rfl | rw [h1, h2]
theorem dp2 {p : Addr} {a b : Int} (h : SqT K H p [.int a, .int b]) : Dp K H (.ref p) (.tuple [.int a, .int b]) := .tup h (.cons (.int a) (.cons (.int b) .nil))
theorem shaped2 (a b : Int) : SeqAt.shaped (.tuple [.int a, .int b]) = true := by
  simp [SeqAt.shaped, PyData.canLay0, PyData.canLayAll0, PyData.depth, PyData.depthAll]
theorem rv_eq2 {p q : Addr} {a b c d : Int} (h : SqT K H p [.int a, .int b]) (h' : SqT K H q [.int c, .int d]) : RV (rEqD K) (.ref p) (.ref q) H (.bl (decide (a = c) && decide (b = d))) := fun H1 e Q k =>
  ⟨_, _, dp2 (ex_t e h), dp2 (ex_t e h'), shaped2 a b, shaped2 c d, by rw [eqv2]; exact k H1 (Ex.refl H1)⟩
theorem rv_ne2 {p q : Addr} {a b c d : Int} (h : SqT K H p [.int a, .int b]) (h' : SqT K H q [.int c, .int d]) : RV (rNeD K) (.ref p) (.ref q) H (.bl (!(decide (a = c) && decide (b = d)))) := fun H1 e Q k =>
  ⟨_, _, dp2 (ex_t e h), dp2 (ex_t e h'), shaped2 a b, shaped2 c d, by rw [eqv2]; exact k H1 (Ex.refl H1)⟩
theorem rv_lt2 {p q : Addr} {a b c d : Int} (h : SqT K H p [.int a, .int b]) (h' : SqT K H q [.int c, .int d]) : RV (rLtT K) (.ref p) (.ref q) H (.bl (HT.lexLt [a, b] [c, d])) := fun H1 e Q k =>
  ⟨p, q, [a, b], [c, d], rfl, rfl, ex_t e h, ex_t e h', k H1 (Ex.refl H1)⟩
def leT2 (a b c d : Int) : Bool := Ob.lexAt (fun j => decide (([a, b] : List Int).getD j 0 = ([c, d] : List Int).getD j 0)) (fun j => decide (([a, b] : List Int).getD j 0 ≤ ([c, d] : List Int).getD j 0)) (decide (([a, b] : List Int).length ≤ ([c, d] : List Int).length)) 0 (min ([a, b] : List Int).length ([c, d] : List Int).length)
theorem rv_le2 {p q : Addr} {a b c d : Int} (h : SqT K H p [.int a, .int b]) (h' : SqT K H q [.int c, .int d]) : RV (rLeT K) (.ref p) (.ref q) H (.bl (leT2 a b c d)) := fun H1 e Q k =>
  ⟨p, q, [a, b], [c, d], rfl, rfl, ex_t e h, ex_t e h', k H1 (Ex.refl H1)⟩
end

/-! ### the rules with the written part said by name (within a comprehension's block the context is another, its written part the same) -/
section
variable {X : Cx} {e f1 l tg : Expr} {ta te tl : TE} {pos : Pos} {f : Str}
theorem pe_fldK (K : PySem.W.Frag) (he : PE X e ta) (hb : attributeBase e f X.env (eval e X.env) = eval e X.env := by rfl) (hK : X.K = K := by rfl) : PE X (.Attribute e f pos) (tFld K ta f) := by subst hK; exact pe_fld he hb
theorem ix_listK (K : PySem.W.Frag) (hK : X.K = K := by rfl) : IxR X (rIxL K) := by subst hK; exact ix_list
theorem ix_tupK (K : PySem.W.Frag) (hK : X.K = K := by rfl) : IxR X (rIxT K) := by subst hK; exact ix_tup
theorem sl_listK (K : PySem.W.Frag) (hK : X.K = K := by rfl) : SlR X (rSlL K) := by subst hK; exact sl_list
theorem sl_tupK (K : PySem.W.Frag) (hK : X.K = K := by rfl) : SlR X (rSlT K) := by subst hK; exact sl_tup
theorem op_eqDK (K : PySem.W.Frag) (hu : X.A.units + 64 < cLine) (hK : X.K = K := by rfl) : OpR X (compareOp .Eq) (rEqD K) := by subst hK; exact op_eqD hu
theorem op_neDK (K : PySem.W.Frag) (hu : X.A.units + 64 < cLine) (hK : X.K = K := by rfl) : OpR X (compareOp .NotEq) (rNeD K) := by subst hK; exact op_neD hu
theorem op_ltTK (K : PySem.W.Frag) (hu : X.A.units < cLine) (hK : X.K = K := by rfl) : OpR X (compareOp .Lt) (rLtT K) := by subst hK; exact op_ltT hu
theorem op_leTK (K : PySem.W.Frag) (hu : X.A.units < cLine) (hK : X.K = K := by rfl) : OpR X (compareOp .LtE) (rLeT K) := by subst hK; exact op_leT hu
theorem call_lenK (K : PySem.W.Frag) (hK : X.K = K := by rfl) : CallR X (.builtin "len") (rLen' K) := by subst hK; exact call_len
theorem call_isiK' (K : PySem.W.Frag) (hK : X.K = K := by rfl) : CallR X (.builtin "isinstance") (rIsi K) := by subst hK; exact call_isi
theorem pi_listK (K : PySem.W.Frag) (hl : PE X l tl) (hK : X.K = K := by rfl) : PI X tg l (iList K tl) := by subst hK; exact pi_list hl
theorem pi_tupK (K : PySem.W.Frag) (hl : PE X l tl) (hK : X.K = K := by rfl) : PI X tg l (iTup K tl) := by subst hK; exact pi_tup hl
end
theorem kit_own {K : PySem.W.Frag} {C : Addr} {T : String} {r : Bool} (h : PySem.W.subIn K (.ref C) (.type T) = some r) (hm : PySem.W.kitMeta T = true := by decide +kernel) : PySem.W.kitOne K (.ref C) (.type T) = some r := by
  unfold PySem.W.kitOne PySem.W.kitCls
  rw [if_neg (by simp)]
  simp only [hm, if_true]
  exact h
def rIsNon : R2 := fun x y H Q => y = .non ∧ Q (.bl (decide (x = .non))) H
def rNotNon : R2 := fun x y H Q => y = .non ∧ Q (.bl (!decide (x = .non))) H
theorem op_isNon {X : Cx} : OpR X (compareOp .Is) rIsNon := op_isN
theorem op_notNon {X : Cx} : OpR X (compareOp .IsNot) rNotNon := op_notN
section
variable {K : PySem.W.Frag} {σ : L2.St} {H H' : Hp} {ta tb te : TE} {x y z v : V} {D : Ends} {tu tz : TS} {P : V → Hp → Prop}
theorem rv_isNon : RV rIsNon x .non H (.bl (decide (x = .non))) := fun H1 _ _ q => ⟨rfl, q H1 (Ex.refl H1)⟩
theorem rv_notNon : RV rNotNon x .non H (.bl (!decide (x = .non))) := fun H1 _ _ q => ⟨rfl, q H1 (Ex.refl H1)⟩
/-- two lists put together, both standing, or made on the way -/
theorem evp_cat {l : Addr} {xs zs : List V} (ha : Ev ta σ H (.ref l)) (hl : H l = some (.lst xs)) (hb : EvP tb σ H fun v H => ∃ b, v = .ref b ∧ H b = some (.lst zs)) (hz : xs.length + zs.length ≤ 100000) :
    EvP (tOp rCat ta tb) σ H fun v H => ∃ p, v = .ref p ∧ H p = some (.lst (xs ++ zs)) := fun H1 e Q q =>
  ha H1 e _ fun H2 e2 => hb H2 (e.trans e2) _ fun v H3 e3 ⟨b, eb, hb'⟩ => ⟨l, b, xs, zs, rfl, eb, ((e.trans e2).trans e3) l _ hl, hb', sz_of hz, fun p hp => q _ _ ((e2.trans e3).trans (Ex.new hp)) ⟨p, rfl, upd_same⟩⟩
/-- two operands by words -/
theorem evp_op2 {r : R2} {Pa Pb : V → Hp → Prop} (hm : MonV Pa) (ha : EvP ta σ H Pa) (hb : EvP tb σ H Pb) (hr : ∀ x y H1, Ex H H1 → Pa x H1 → Pb y H1 → ∀ Q : VK, (∀ v H2, Ex H1 H2 → P v H2 → Q v H2) → r x y H1 Q) : EvP (tOp r ta tb) σ H P := fun H1 e Q q =>
  ha H1 e _ fun x H2 e2 px => hb H2 (e.trans e2) _ fun y H3 e3 py => hr x y H3 ((e.trans e2).trans e3) (hm x _ _ e3 px) py Q fun v H4 e4 p => q v H4 ((e2.trans e3).trans e4) p
/-- a call whose arguments are by a word -/
theorem evp_callP {sp : Sp} {dvs : List V} {E : XK} {tA : TA} {R : List V → Hp → Prop} (h : EvAP tA σ H R) (hs : ∀ vs H1, Ex H H1 → R vs H1 → ∀ Q : VK, (∀ v H2, Ex H1 H2 → P v H2 → Q v H2) → sp (vs ++ dvs) H1 Q E) : EvP (tCall sp dvs E tA) σ H P := fun H1 e Q q =>
  h H1 e _ fun vs H2 e2 pv => hs vs H2 (e.trans e2) pv Q fun v H3 e3 p => q v H3 (e2.trans e3) p
end
end My

set_option Elab.async false
set_option linter.all false
set_option maxRecDepth 100000
set_option maxHeartbeats 4000000
namespace Toy
open PySem PySem.Spec PyProof.Rows L2 Evl OwnO My
def topS (i : Nat) : Stmt := PySem.Challenge.pw_cutproof_k01_interval_moments.main.body.getD i (.Pass ⟨0, 0, 0, 0⟩)
abbrev s_Interval___init__ : Stmt := inClass (topS 5) 0
abbrev N_Interval___init__ : List Str := ["self", "start", "stop", "holds"]
theorem sc_Interval___init__ : FnScope N_Interval___init__ ["self", "start", "stop"] (defScope s_Interval___init__) := ⟨rfl, rfl, rfl, by decide +kernel, rfl, by decide +kernel, by decide +kernel⟩
abbrev s_Interval___contains__ : Stmt := inClass (topS 5) 1
abbrev N_Interval___contains__ : List Str := ["self", "moment"]
theorem sc_Interval___contains__ : FnScope N_Interval___contains__ ["self", "moment"] (defScope s_Interval___contains__) := ⟨rfl, rfl, rfl, by decide +kernel, rfl, by decide +kernel, by decide +kernel⟩
abbrev s_Interval___bool__ : Stmt := inClass (topS 5) 2
abbrev N_Interval___bool__ : List Str := ["self"]
theorem sc_Interval___bool__ : FnScope N_Interval___bool__ ["self"] (defScope s_Interval___bool__) := ⟨rfl, rfl, rfl, by decide +kernel, rfl, by decide +kernel, by decide +kernel⟩
abbrev s_Interval___and__ : Stmt := inClass (topS 5) 6
abbrev N_Interval___and__ : List Str := ["self", "other"]
theorem sc_Interval___and__ : FnScope N_Interval___and__ ["self", "other"] (defScope s_Interval___and__) := ⟨rfl, rfl, rfl, by decide +kernel, rfl, by decide +kernel, by decide +kernel⟩
abbrev s__law_cell : Stmt := topS 7
abbrev N__law_cell : List Str := ["_law_script", "_law_k"]
theorem sc__law_cell : FnScope N__law_cell ["_law_script", "_law_k"] (defScope s__law_cell) := ⟨rfl, rfl, rfl, by decide +kernel, rfl, by decide +kernel, by decide +kernel⟩
abbrev s__law_base : Stmt := topS 8
abbrev N__law_base : List Str := ["_law_cell_here"]
theorem sc__law_base : FnScope N__law_base ["_law_cell_here"] (defScope s__law_base) := ⟨rfl, rfl, rfl, by decide +kernel, rfl, by decide +kernel, by decide +kernel⟩
abbrev s__law_shift : Stmt := topS 9
abbrev N__law_shift : List Str := ["_law_cell_here"]
theorem sc__law_shift : FnScope N__law_shift ["_law_cell_here"] (defScope s__law_shift) := ⟨rfl, rfl, rfl, by decide +kernel, rfl, by decide +kernel, by decide +kernel⟩
abbrev s__law_four : Stmt := topS 10
abbrev N__law_four : List Str := ["_law_script", "_law_k", "_law_one", "_law_two", "_law_three"]
theorem sc__law_four : FnScope N__law_four ["_law_script", "_law_k"] (defScope s__law_four) := ⟨rfl, rfl, rfl, by decide +kernel, rfl, by decide +kernel, by decide +kernel⟩
abbrev s__law_whole : Stmt := topS 11
abbrev N__law_whole : List Str := ["_law_number"]
theorem sc__law_whole : FnScope N__law_whole ["_law_number"] (defScope s__law_whole) := ⟨rfl, rfl, rfl, by decide +kernel, rfl, by decide +kernel, by decide +kernel⟩
abbrev s__law_fields : Stmt := topS 12
abbrev N__law_fields : List Str := ["_law_interval", "_law_start", "_law_stop"]
theorem sc__law_fields : FnScope N__law_fields ["_law_interval", "_law_start", "_law_stop"] (defScope s__law_fields) := ⟨rfl, rfl, rfl, by decide +kernel, rfl, by decide +kernel, by decide +kernel⟩
abbrev s_law : Stmt := topS 13
abbrev N_law : List Str := ["_law_script", "_law_ends", "_law_one", "_law_two", "_law_both", "_law_low", "_law_high", "_law_end", "_law_moment", "_law_first", "_law_second"]
theorem sc_law : FnScope N_law ["_law_script"] (defScope s_law) := ⟨rfl, rfl, rfl, by decide +kernel, rfl, by decide +kernel, by decide +kernel⟩
structure Txt (K : PySem.W.Frag) (mg : Str → Option Value) (C_Interval : Addr) : Prop where
  c_Interval : HasC K mg "Interval" C_Interval
  n_Interval_start : NoAttr K C_Interval "start"
  n_Interval_stop : NoAttr K C_Interval "stop"
  b_bool : mg "bool" = none
  b_int : mg "int" = none
  b_isinstance : mg "isinstance" = none
  b_len : mg "len" = none
  b_max : mg "max" = none
  b_min : mg "min" = none
/-! ### the data -/
def nS (i j : Int) : Int := if i < j then i else 0
def nT (i j : Int) : Int := if i < j then j else 0
def ivF (i j : Int) : List (Str × V) := [(("start" : Str), V.int (nS i j)), (("stop" : Str), V.int (nT i j))]
theorem ne_ss : ¬ (("start" : Str) = "stop") := by decide +kernel
theorem iv_put (x y : V) : putF "stop" y (putF "start" x []) = ([(("start" : Str), x), (("stop" : Str), y)] : List (Str × V)) := by
  show (if ("start" : Str) = "stop" then [(("start" : Str), y)] else (("start" : Str), x) :: putF "stop" y []) = _
  rw [if_neg ne_ss]
  all_goals rfl
theorem iv_start (i j : Int) : (ivF i j).lookup ("start" : Str) = some (V.int (nS i j)) := by unfold ivF; simp [List.lookup]
theorem iv_stop (i j : Int) : (ivF i j).lookup ("stop" : Str) = some (V.int (nT i j)) := by
  unfold ivF
  have h : (("stop" : Str) == ("start" : Str)) = false := by decide +kernel
  simp [List.lookup, h]
def Bx (C : Addr) (i j : Int) (v : V) (H : Hp) : Prop := ∃ p dx, v = .ref p ∧ H p = some (.ins C dx (ivF i j))
theorem Bx.mono {C : Addr} {i j : Int} {v : V} {H H' : Hp} (e : Ex H H') (h : Bx C i j v H) : Bx C i j v H' := by
  obtain ⟨p, dx, h1, h2⟩ := h
  exact ⟨p, dx, h1, e p _ h2⟩
/-! ### the promises -/
def sp_Interval___init__ (K : PySem.W.Frag) (C : Addr) : Sp := fun vs H Q _ => ∃ x dx i j, vs = [.ref x, .int i, .int j] ∧ H x = some (.ins C dx []) ∧ ∀ H' : Hp, H' x = some (.ins C dx (ivF i j)) → (∀ b o, b ≠ x → H b = some o → H' b = some o) → Q .non H'
def sp_Interval___contains__ (K : PySem.W.Frag) (C : Addr) : Sp := fun vs H Q _ => ∃ a dx i j m, vs = [.ref a, .int m] ∧ H a = some (.ins C dx (ivF i j)) ∧ RetV (.bl (decide (nS i j ≤ m) && decide (m < nT i j))) H Q
def sp_Interval___bool__ (K : PySem.W.Frag) (C : Addr) : Sp := fun vs H Q _ => ∃ a dx i j, vs = [.ref a] ∧ H a = some (.ins C dx (ivF i j)) ∧ RetV (.bl (decide (nS i j < nT i j))) H Q
def mx (i j : Int) : Int := if j > i then j else i
def mn (i j : Int) : Int := if j < i then j else i
def sp_Interval___and__ (K : PySem.W.Frag) (C : Addr) : Sp := fun vs H Q _ => ∃ a dx i j b dy k l, vs = [.ref a, .ref b] ∧ H a = some (.ins C dx (ivF i j)) ∧ H b = some (.ins C dy (ivF k l)) ∧ ∀ v H', Ex H H' → Bx C (mx (nS i j) (nS k l)) (mn (nT i j) (nT k l)) v H' → Q v H'
def cellZ (ns : List Int) (k : Int) : Int := ns.getD k.toNat 0
def baseZ (c : Int) : Int := if c % 3 = 0 then c / 3 % 13 - 6 else if c % 3 = 1 then c / 3 % 10 ^ (29 : Int).toNat else 0 - c / 3 % 10 ^ (29 : Int).toNat
def shiftZ (c : Int) : Int := if c % 2 = 0 then (c / 2 + 7) % 14 - 4 else c / 2 % 10 ^ (28 : Int).toNat
def sp__law_cell (K : PySem.W.Frag) (C : Addr) : Sp := fun vs H Q _ => ∃ (a : Addr) (k : Int) (ns : List Int), vs = [.ref a, .int k] ∧ 0 ≤ k ∧ SqL K H a (ns.map V.int) ∧ RetV (.int (cellZ ns k)) H Q
theorem spv_cell {K : PySem.W.Frag} {C a : Addr} {k : Int} {ns : List Int} {H : Hp} (h : SqL K H a (ns.map V.int)) (h0 : 0 ≤ k) : SpV (sp__law_cell K C) [.ref a, .int k] H (.int (cellZ ns k)) := fun H1 e Q q E => ⟨a, k, ns, rfl, h0, ex_l e h, q⟩
def sp__law_base (K : PySem.W.Frag) (C : Addr) : Sp := fun vs H Q _ => ∃ c : Int, vs = [.int c] ∧ RetV (.int (baseZ c)) H Q
theorem spv_base {K : PySem.W.Frag} {C : Addr} {c : Int} {H : Hp} : SpV (sp__law_base K C) [.int c] H (.int (baseZ c)) := fun H1 e Q q E => ⟨c, rfl, q⟩
def sp__law_shift (K : PySem.W.Frag) (C : Addr) : Sp := fun vs H Q _ => ∃ c : Int, vs = [.int c] ∧ RetV (.int (shiftZ c)) H Q
theorem spv_shift {K : PySem.W.Frag} {C : Addr} {c : Int} {H : Hp} : SpV (sp__law_shift K C) [.int c] H (.int (shiftZ c)) := fun H1 e Q q E => ⟨c, rfl, q⟩
def sp__law_four (K : PySem.W.Frag) (C : Addr) : Sp := fun vs H Q _ => ∃ (a : Addr) (ns : List Int), vs = [.ref a, .int 0] ∧ SqL K H a (ns.map V.int) ∧ ∀ (e0 e1 e2 e3 : Int) p H', H p = none → Ex H H' → H' p = some (.tup [.int e0, .int e1, .int e2, .int e3]) → Q (.ref p) H'
def sp__law_whole (K : PySem.W.Frag) (C : Addr) : Sp := fun vs H Q _ => ∃ i : Int, vs = [.int i] ∧ RetV (.bl true) H Q
theorem spv_whole {K : PySem.W.Frag} {C : Addr} {c : Int} {H : Hp} : SpV (sp__law_whole K C) [.int c] H (.bl true) := fun H1 e Q q E => ⟨c, rfl, q⟩
def sp__law_fields (K : PySem.W.Frag) (C : Addr) : Sp := fun vs H Q _ => ∃ a dx i j s t, vs = [.ref a, .int s, .int t] ∧ H a = some (.ins C dx (ivF i j)) ∧ RetV (.bl (decide (nS i j = nS s t) && decide (nT i j = nT s t))) H Q
def sp_law (K : PySem.W.Frag) : Sp := fun vs H Q _ => ∃ (a : Addr) (ns : List Int), vs = [.ref a] ∧ SqL K H a (ns.map V.int) ∧ ∀ H', Q (.bl true) H'
theorem sp_law_holds (K : PySem.W.Frag) {H : Hp} (a : Addr) (ns : List Int) (_ : ns.length ≤ 63) (hS : SqL K H a (ns.map V.int)) : sp_law K [.ref a] H (fun v _ => v = .bl true) fun _ _ _ => False := ⟨a, ns, rfl, hS, fun _ => rfl⟩

/-! ### the reading's own words -/
local macro_rules | `(tactic| walk_at "hp") => `(tactic| first
  | assumption
  | exact upd_same
  | ((with_reducible refine' ex_at ?e ?h); (case e => assumption); (case h => walk_at "hp"))
  | ((with_reducible refine' ex_l ?e ?h); (case e => assumption); (case h => walk_at "hp"))
  | ((with_reducible refine' ex_t ?e ?h); (case e => assumption); (case h => walk_at "hp"))
  | ((with_reducible refine' sq_of ?h); (case h => walk_at "hp"))
  | ((with_reducible refine' st_of ?h); (case h => walk_at "hp")))
local macro_rules | `(tactic| walk_at "at") => `(tactic| first | assumption | exact atI_nat (by assumption) | rfl)
local macro_rules | `(tactic| walk_at "side") => `(tactic| first | assumption | exact ⟨by decide +kernel, by decide +kernel, by decide +kernel⟩ | exact ⟨by decide +kernel, by decide +kernel⟩ | (show (0 : Int) < _; decide +kernel))
local macro_rules | `(tactic| walk_at "rv") => `(tactic| first
  | with_reducible exact rv_I0
  | ((with_reducible refine' rv_I ?c); (case c => walk_at "side"))
  | ((with_reducible refine' rv_eq ?c); (case c => first | rfl | assumption))
  | ((with_reducible refine' rv_ne ?c); (case c => first | rfl | assumption))
  | ((with_reducible refine' rv_ixL ?h ?a); (case h => walk_at "hp"); (case a => walk_at "at"))
  | ((with_reducible refine' rv_ixT ?h ?a); (case h => walk_at "hp"); (case a => walk_at "at"))
  | walk_at "rvx")
local macro_rules | `(tactic| walk_at "rvx") => `(tactic| fail)
local macro_rules | `(tactic| walk_at "evx") => `(tactic| fail)
local macro_rules | `(tactic| walk_at "ev") => `(tactic| first
  | with_reducible exact ev_c
  | ((with_reducible refine' ev_var ?e0); (case e0 => rfl))
  | ((with_reducible refine' ev_int ?e1); (case e1 => walk_at "ev"))
  | ((with_reducible refine' ev_max ?e1 ?e2); (case e1 => walk_at "ev"); (case e2 => walk_at "ev"))
  | ((with_reducible refine' ev_min ?e1 ?e2); (case e1 => walk_at "ev"); (case e2 => walk_at "ev"))
  | ((with_reducible refine' ev_op ?e1 ?e2 ?e3); (case e1 => walk_at "ev"); (case e2 => walk_at "ev"); (case e3 => walk_at "rv"))
  | ((with_reducible refine' ev_fld ?e1 ?e2 ?e3 ?e4 ?e5); (case e1 => walk_at "ev"); (case e2 => walk_at "hp"); (case e3 => assumption); (case e4 => assumption); (case e5 => walk_at "look"))
  | ((with_reducible refine' ev_chain ?e1 ?e2 ?e3 ?e4 ?e5); (case e1 => walk_at "ev"); (case e2 => walk_at "ev"); (case e3 => walk_at "rv"); (case e4 => (intro _; walk_at "ev")); (case e5 => (intro _; walk_at "rv")))
  | ((with_reducible refine' ev_lenL ?e1 ?e2); (case e1 => walk_at "ev"); (case e2 => walk_at "hp"))
  | ((with_reducible refine' ev_lenT ?e1 ?e2); (case e1 => walk_at "ev"); (case e2 => walk_at "hp"))
  | ((with_reducible refine' ev_andV ?e1 ?e2); (case e1 => walk_at "ev"); (case e2 => (intro _; walk_at "ev")))
  | ((with_reducible refine' ev_orV ?e1 ?e2); (case e1 => walk_at "ev"); (case e2 => (intro _; walk_at "ev")))
  | ((with_reducible refine' ev_notV ?e1); (case e1 => walk_at "ev"))
  | ((with_reducible refine' ev_isi_int ?e1 ?e2); (case e1 => walk_at "ev"); (case e2 => with_reducible exact ev_c))
  | ((with_reducible refine' ev_isi_ib ?e1 ?e2); (case e1 => walk_at "ev"); (case e2 => with_reducible exact ev_c))
  | ((with_reducible refine' ev_isi_own ?e0 ?e3 ?e1 ?e2); (case e2 => with_reducible exact ev_c); (case e1 => walk_at "ev"); (case e0 => assumption); (case e3 => walk_at "hp"))
  | ((with_reducible refine' ev_isi_lst ?e3 ?e1 ?e2); (case e1 => walk_at "ev"); (case e2 => with_reducible exact ev_c); (case e3 => walk_at "hp"))
  | ((with_reducible refine' ev_isi_tup ?e3 ?e1 ?e2); (case e1 => walk_at "ev"); (case e2 => with_reducible exact ev_c); (case e3 => walk_at "hp"))
  | ((with_reducible refine' ev_call ?e1 ?e2); (case e1 => walk_at "ea"); (case e2 => walk_at "sp"))
  | walk_at "evx")
local macro_rules | `(tactic| walk_at "et") => `(tactic| first
  | ((with_reducible refine' et_test ?e1); (case e1 => walk_at "ev"))
  | ((with_reducible refine' et_B ?e1); (case e1 => walk_at "ev"))
  | ((with_reducible refine' et_not ?e1); (case e1 => walk_at "et"))
  | ((with_reducible refine' et_and ?e1 ?e2); (case e1 => walk_at "et"); (case e2 => (intro _; walk_at "et")))
  | ((with_reducible refine' et_or ?e1 ?e2); (case e1 => walk_at "et"); (case e2 => (intro _; walk_at "et")))
  | walk_at "etx")
local macro_rules | `(tactic| walk_at "etx") => `(tactic| fail)
local macro_rules | `(tactic| walk_at "ea") => `(tactic| first
  | with_reducible exact ea_nil
  | ((with_reducible refine' ea_cons ?e1 ?e2); (case e1 => walk_at "ev"); (case e2 => walk_at "ea")))

local macro_rules | `(tactic| walk_at "ret") => `(tactic| (refine' s_ret ?e1 ?k1; (case e1 => walk_at "ev")))
local macro_rules | `(tactic| walk_at "asg") => `(tactic| (refine' q_asg ?e1 ?k1; (case e1 => walk_at "ev")))
local macro_rules | `(tactic| walk_at "when") => `(tactic| (refine' q_when ?e1 ?k1 ?k2; (case e1 => walk_at "et")))

local macro_rules | `(tactic| walk_at "tup") => `(tactic| (refine' eu_tup ?e1 ?k1; (case e1 => walk_at "ea"); (case k1 => exact Nat.le_of_ble_eq_true rfl)))
local macro_rules | `(tactic| walk_at "retU") => `(tactic| (refine' s_retU ?e1 ?k1; (case e1 => walk_at "tup")))
local macro_rules | `(tactic| walk_at "asgU") => `(tactic| (refine' q_asgU ?e1 ?k1; (case e1 => walk_at "tup")))

local macro_rules | `(tactic| walk_at "whenF") => `(tactic| (refine' q_when (b := false) (et_is ?e1 ?e2) ?k1 ?k2; (case e1 => walk_at "et"); (case k1 => exact fun g => nomatch g)))
local macro_rules | `(tactic| walk_at "swhenF") => `(tactic| (refine' s_when (b := false) (et_is ?e1 ?e2) ?k1 ?k2; (case e1 => walk_at "et"); (case k1 => exact fun g => nomatch g)))

local macro_rules | `(tactic| walk_at "ex") => `(tactic| first
  | assumption
  | exact Ex.refl _
  | ((with_reducible refine' Ex.trans ?e1 ?e2); (case e2 => assumption); (case e1 => walk_at "ex")))
local macro_rules | `(tactic| walk_at "lst") => `(tactic| (refine' el_lst ?e1 ?k1; (case e1 => walk_at "ea"); (case k1 => exact Nat.le_of_ble_eq_true rfl)))

local macro_rules | `(tactic| walk_at "look") => `(tactic| first | exact iv_start _ _ | exact iv_stop _ _)
theorem ev_box {K : PySem.W.Frag} {C : Addr} {σ : L2.St} {H : Hp} {E : XK} {tA : TA} {i j : Int} (h : EvA tA σ H [.int i, .int j]) : EvP (tMake C (sp_Interval___init__ K C) [] E tA) σ H (Bx C i j) :=
  evp_make h fun H1 e1 x dx hx hdx ne Q q => ⟨x, dx, i, j, rfl, upd_same, fun H' hx' hk => ⟨rfl, q (.ref x) H' (fun b o hb => hk b o (fun z => by rw [z, hx] at hb; cases hb) (by rw [upd_ne (fun z => by rw [z, hx] at hb; cases hb), upd_ne (fun z => by rw [z, hdx] at hb; cases hb)]; exact hb)) ⟨x, dx, rfl, hx'⟩⟩⟩
section
variable {P : Program} {w : World} {K : PySem.W.Frag} {mg : Str → Option Value} {base : Heap} {C_Interval : Addr}
theorem ok_Interval___init__ (T : Txt K mg C_Interval)  {f : Addr} {fd : FuncData} (F : Fun K "__init__" "Interval.__init__" s_Interval___init__ f fd) : FnOk P w K mg base CX0 1 f fd ["self", "start", "stop"] (sp_Interval___init__ K C_Interval) := by
  refine F.ok sc_Interval___init__ (fun vs H Q E h => ?_) (fun cdv A outer s H vs Q E hr h => ?_)
  · obtain ⟨_, _, _, _, rfl, _⟩ := h
    rfl
  · obtain ⟨x, dx, i, j, rfl, hx, k⟩ := h
    refine ⟨_, (pss_cons (ps_set (i := 3) sc_Interval___init__.nd rfl (by first | exact Or.inl rfl | exact Or.inr rfl) (pe_cmpR op_lt (pv 1) (pv 2) (nomark _)))
      (pss_cons (ps_fld (pv 0) (pe_ifExp (pt_val (pv 3)) (pe_callTy call_int' (by rfl) T.b_int (by decide +kernel) (pa_cons (pv 1) pa_nil)) pe_int) rfl)
      (pss_one (ps_fld (pv 0) (pe_ifExp (pt_val (pv 3)) (pe_callTy call_int' (by rfl) T.b_int (by decide +kernel) (pa_cons (pv 2) pa_nil)) pe_int) rfl)))), ?_⟩
    have c1 := T.c_Interval.cl; have n1 := T.n_Interval_start; have n2 := T.n_Interval_stop
    refine q_asg (v := .bl (decide (i < j))) (by walk_at "ev") fun H1 e1 => ?_
    refine q_fld (y := .int (nS i j)) (a := x) (C := C_Interval) (dx := dx) (fs := []) ?_ (by walk_at "ev") (by walk_at "hp") c1 n1 (by decide) fun H2 e2 => ?_
    · refine ev_is (ev_ifI (b := decide (i < j)) (x := .int i) (y := .int 0) (by walk_at "et") (by walk_at "ev") (by walk_at "ev")) ?_
      unfold nS
      by_cases c : i < j <;> simp [c]
    refine s_fld (y := .int (nT i j)) (a := x) (C := C_Interval) (dx := dx) (fs := _) ?_ (by walk_at "ev") upd_same c1 n2 (by show 1 < 1000; decide) fun H3 e3 => ?_
    · refine ev_is (ev_ifI (b := decide (i < j)) (x := .int j) (y := .int 0) (by walk_at "et") (by walk_at "ev") (by walk_at "ev")) ?_
      unfold nT
      by_cases c : i < j <;> simp [c]
    refine k _ ?_ (fun b o nb hb => ?_)
    · rw [upd_same, iv_put]
      rfl
    · rw [upd_ne nb]
      refine e3 b o ?_
      rw [upd_ne nb]
      exact (e1.trans e2) b o hb
theorem ok_Interval___contains__ (T : Txt K mg C_Interval)  {f : Addr} {fd : FuncData} (F : Fun K "__contains__" "Interval.__contains__" s_Interval___contains__ f fd) : FnOk P w K mg base CX0 1 f fd ["self", "moment"] (sp_Interval___contains__ K C_Interval) := by
  refine F.ok sc_Interval___contains__ (fun vs H Q E h => ?_) (fun cdv A outer s H vs Q E hr h => ?_)
  · obtain ⟨_, _, _, _, _, rfl, _⟩ := h
    rfl
  · obtain ⟨a, dx, i, j, m, rfl, ha, k⟩ := h
    refine ⟨_, (pss_one (ps_ret (pe_chain op_le op_lt (pe_fldK K (pv 0)) (pv 1) (pe_fldK K (pv 0))))), ?_⟩
    have c1 := T.c_Interval.cl; have n1 := T.n_Interval_start; have n2 := T.n_Interval_stop
    refine s_ret (v := .bl (decide (nS i j ≤ m) && decide (m < nT i j))) (by walk_at "ev") fun H1 e1 => k H1 e1
theorem ok_Interval___bool__ (T : Txt K mg C_Interval)  {f : Addr} {fd : FuncData} (F : Fun K "__bool__" "Interval.__bool__" s_Interval___bool__ f fd) : FnOk P w K mg base CX0 1 f fd ["self"] (sp_Interval___bool__ K C_Interval) := by
  refine F.ok sc_Interval___bool__ (fun vs H Q E h => ?_) (fun cdv A outer s H vs Q E hr h => ?_)
  · obtain ⟨_, _, _, _, rfl, _⟩ := h
    rfl
  · obtain ⟨a, dx, i, j, rfl, ha, k⟩ := h
    refine ⟨_, (pss_one (ps_ret (pe_cmpR op_lt (pe_fldK K (pv 0)) (pe_fldK K (pv 0)) (nomark _)))), ?_⟩
    have c1 := T.c_Interval.cl; have n1 := T.n_Interval_start; have n2 := T.n_Interval_stop
    refine s_ret (v := .bl (decide (nS i j < nT i j))) (by walk_at "ev") fun H1 e1 => k H1 e1
theorem ok_Interval___and__ (T : Txt K mg C_Interval) (h_Interval___init__ : HasM P w K mg base CX0 C_Interval "__init__" 1 ["self", "start", "stop"] (sp_Interval___init__ K C_Interval)) {f : Addr} {fd : FuncData} (F : Fun K "__and__" "Interval.__and__" s_Interval___and__ f fd) : FnOk P w K mg base CX0 4 f fd ["self", "other"] (sp_Interval___and__ K C_Interval) := by
  refine F.ok sc_Interval___and__ (fun vs H Q E h => ?_) (fun cdv A outer s H vs Q E hr h => ?_)
  · obtain ⟨_, _, _, _, _, _, _, _, rfl, _⟩ := h
    rfl
  · obtain ⟨a, dx, i, j, b, dy, p, l, rfl, ha, hb, k⟩ := h
    refine ⟨_, (pss_one (ps_ret (pe_makeH T.c_Interval h_Interval___init__ (hr.mono (by decide)) pass0 (pa_cons (pe_callB (call_max' rfl) (by rfl) T.b_max (by decide +kernel) (pa_cons (pe_fldK K (pv 0)) (pa_cons (pe_fldK K (pv 1)) pa_nil))) (pa_cons (pe_callB (call_min' rfl) (by rfl) T.b_min (by decide +kernel) (pa_cons (pe_fldK K (pv 0)) (pa_cons (pe_fldK K (pv 1)) pa_nil))) pa_nil))))), ?_⟩
    have c1 := T.c_Interval.cl; have n1 := T.n_Interval_start; have n2 := T.n_Interval_stop
    refine' s_retP (ev_box ?ea) ?kk
    (case ea => walk_at "ea")
    exact fun v H1 e1 hv => k v H1 e1 hv

theorem ok__law_cell (T : Txt K mg C_Interval)  {f : Addr} {fd : FuncData} (F : Fun K "_law_cell" "_law_cell" s__law_cell f fd) : FnOk P w K mg base CX0 1 f fd ["_law_script", "_law_k"] (sp__law_cell K C_Interval) := by
  refine F.ok sc__law_cell (fun vs H Q E h => ?_) (fun cdv A outer s H vs Q E hr h => ?_)
  · obtain ⟨_, _, _, rfl, _⟩ := h
    rfl
  · obtain ⟨a, n, ns, rfl, h0, ha, k⟩ := h
    refine ⟨_, (pss_one (ps_ret (pe_ifExp (pt_cmpR op_lt (pv 1) (pe_callB (call_lenK K) (by rfl) T.b_len (by decide +kernel) (pa_cons (pv 0) pa_nil)) (nomark _)) (pe_callTy call_int' (by rfl) T.b_int (by decide +kernel) (pa_cons (pe_ix (ix_listK K) (pv 0) (pv 1) (fun _ _ => rfl)) pa_nil)) pe_int))), ?_⟩
    obtain ⟨n, rfl⟩ := Int.eq_ofNat_of_zero_le h0
    have hv : cellZ ns (n : Int) = ns.getD n 0 := rfl
    by_cases c : (n : Int) < (ns.length : Int)
    · have hn : n < ns.length := by omega
      have hat : atI (ns.map V.int) (n : Int) = some (V.int ns[n]) := atI_nat (by simp [hn])
      refine s_ret (v := .int ns[n]) (ev_if (b := decide ((n : Int) < (ns.length : Int))) ?_ (fun _ => by walk_at "ev") (fun e => absurd e (by simp [c]))) fun H1 e1 => ?_
      · refine et_is (a := decide ((n : Int) < ((ns.map V.int).length : Int))) (by walk_at "et") (by rw [List.length_map])
      · have e : ns[n] = cellZ ns (n : Int) := by rw [hv]; simp [hn]
        rw [e]
        exact k H1 e1
    · refine s_ret (v := .int 0) (ev_if (b := decide ((n : Int) < (ns.length : Int))) ?_ (fun e => absurd e (by simp [c])) (fun _ => by walk_at "ev")) fun H1 e1 => ?_
      · refine et_is (a := decide ((n : Int) < ((ns.map V.int).length : Int))) (by walk_at "et") (by rw [List.length_map])
      · have hn : ns.length ≤ n := by omega
        have e : (0 : Int) = cellZ ns (n : Int) := by rw [hv]; simp [hn]
        rw [e]
        exact k H1 e1
theorem ok__law_base (T : Txt K mg C_Interval)  {f : Addr} {fd : FuncData} (F : Fun K "_law_base" "_law_base" s__law_base f fd) : FnOk P w K mg base CX0 1 f fd ["_law_cell_here"] (sp__law_base K C_Interval) := by
  refine F.ok sc__law_base (fun vs H Q E h => ?_) (fun cdv A outer s H vs Q E hr h => ?_)
  · obtain ⟨_, rfl, _⟩ := h
    rfl
  · obtain ⟨c, rfl, k⟩ := h
    refine ⟨_, (pss_cons (ps_if (pt_cmpR op_eq (pe_op op_mod (pv 0) pe_int) pe_int (nomark _)) (pss_one (ps_ret (pe_op op_sub (pe_op op_mod (pe_op op_fdiv (pv 0) pe_int) pe_int) pe_int))) pss_nil)
      (pss_cons (ps_if (pt_cmpR op_eq (pe_op op_mod (pv 0) pe_int) pe_int (nomark _)) (pss_one (ps_ret (pe_op op_mod (pe_op op_fdiv (pv 0) pe_int) (pe_op op_pow pe_int pe_int)))) pss_nil)
      (pss_one (ps_ret (pe_op op_sub pe_int (pe_op op_mod (pe_op op_fdiv (pv 0) pe_int) (pe_op op_pow pe_int pe_int))))))), ?_⟩
    unfold baseZ at k
    refine q_when (b := decide (V.int (c % 3) = V.int 0)) (by walk_at "et") (fun g H1 e1 => ?_) fun g H1 e1 => ?_
    · walk_at "ret"
      rw [if_pos (by simpa using g)] at k
      exact fun H2 e2 => k H2 (e1.trans e2)
    rw [if_neg (by simpa using g)] at k
    refine q_when (b := decide (V.int (c % 3) = V.int 1)) (by walk_at "et") (fun g H2 e2 => ?_) fun g H2 e2 => ?_
    · walk_at "ret"
      rw [if_pos (by simpa using g)] at k
      exact fun H3 e3 => k H3 ((e1.trans e2).trans e3)
    · walk_at "ret"
      rw [if_neg (by simpa using g)] at k
      exact fun H3 e3 => k H3 ((e1.trans e2).trans e3)
theorem ok__law_shift (T : Txt K mg C_Interval)  {f : Addr} {fd : FuncData} (F : Fun K "_law_shift" "_law_shift" s__law_shift f fd) : FnOk P w K mg base CX0 1 f fd ["_law_cell_here"] (sp__law_shift K C_Interval) := by
  refine F.ok sc__law_shift (fun vs H Q E h => ?_) (fun cdv A outer s H vs Q E hr h => ?_)
  · obtain ⟨_, rfl, _⟩ := h
    rfl
  · obtain ⟨c, rfl, k⟩ := h
    refine ⟨_, (pss_cons (ps_if (pt_cmpR op_eq (pe_op op_mod (pv 0) pe_int) pe_int (nomark _)) (pss_one (ps_ret (pe_op op_sub (pe_op op_mod (pe_op op_add (pe_op op_fdiv (pv 0) pe_int) pe_int) pe_int) pe_int))) pss_nil)
      (pss_one (ps_ret (pe_op op_mod (pe_op op_fdiv (pv 0) pe_int) (pe_op op_pow pe_int pe_int))))), ?_⟩
    unfold shiftZ at k
    refine q_when (b := decide (V.int (c % 2) = V.int 0)) (by walk_at "et") (fun g H1 e1 => ?_) fun g H1 e1 => ?_
    · walk_at "ret"
      rw [if_pos (by simpa using g)] at k
      exact fun H2 e2 => k H2 (e1.trans e2)
    · walk_at "ret"
      rw [if_neg (by simpa using g)] at k
      exact fun H3 e3 => k H3 (e1.trans e3)
local macro_rules | `(tactic| walk_at "sp") => `(tactic| first
  | ((refine' spv_cell ?e1 ?e2); (case e1 => walk_at "hp"); (case e2 => first | decide | omega))
  | exact spv_base
  | exact spv_shift
  | exact spv_whole)
theorem ok__law_four (T : Txt K mg C_Interval) (h__law_base : Has P w K mg base CX0 "_law_base" 1 ["_law_cell_here"] (sp__law_base K C_Interval)) (h__law_cell : Has P w K mg base CX0 "_law_cell" 1 ["_law_script", "_law_k"] (sp__law_cell K C_Interval)) (h__law_shift : Has P w K mg base CX0 "_law_shift" 1 ["_law_cell_here"] (sp__law_shift K C_Interval)) {f : Addr} {fd : FuncData} (F : Fun K "_law_four" "_law_four" s__law_four f fd) : FnOk P w K mg base CX0 4 f fd ["_law_script", "_law_k"] (sp__law_four K C_Interval) := by
  refine F.ok sc__law_four (fun vs H Q E h => ?_) (fun cdv A outer s H vs Q E hr h => ?_)
  · obtain ⟨_, _, rfl, _⟩ := h
    rfl
  · obtain ⟨a, ns, rfl, ha, k⟩ := h
    refine ⟨_, (pss_cons (ps_set (i := 2) sc__law_four.nd rfl (by first | exact Or.inl rfl | exact Or.inr rfl) (pe_callH h__law_base (hr.mono (by decide)) pass0 (pa_cons (pe_callH h__law_cell (hr.mono (by decide)) pass0 (pa_cons (pv 0) (pa_cons (pv 1) pa_nil))) pa_nil)))
      (pss_cons (ps_set (i := 3) sc__law_four.nd rfl (by first | exact Or.inl rfl | exact Or.inr rfl) (pe_op op_add (pv 2) (pe_callH h__law_shift (hr.mono (by decide)) pass0 (pa_cons (pe_callH h__law_cell (hr.mono (by decide)) pass0 (pa_cons (pv 0) (pa_cons (pe_op op_add (pv 1) pe_int) pa_nil))) pa_nil))))
      (pss_cons (ps_set (i := 4) sc__law_four.nd rfl (by first | exact Or.inl rfl | exact Or.inr rfl) (pe_op op_sub (pe_op op_add (pv 2) (pe_callH h__law_shift (hr.mono (by decide)) pass0 (pa_cons (pe_callH h__law_cell (hr.mono (by decide)) pass0 (pa_cons (pv 0) (pa_cons (pe_op op_add (pv 1) pe_int) pa_nil))) pa_nil))) pe_int))
      (pss_one (ps_ret (pe_tup (pa_cons (pv 2) (pa_cons (pv 3) (pa_cons (pv 4) (pa_cons (pe_op op_add (pv 4) (pe_callH h__law_shift (hr.mono (by decide)) pass0 (pa_cons (pe_callH h__law_cell (hr.mono (by decide)) pass0 (pa_cons (pv 0) (pa_cons (pe_op op_add (pv 1) pe_int) pa_nil))) pa_nil))) pa_nil)))))))))), ?_⟩
    walk_at "asg"
    intro H1 e1
    walk_at "asg"
    intro H2 e2
    walk_at "asg"
    intro H3 e3
    walk_at "retU"
    exact fun p H4 hp e4 h4 => k _ _ _ _ p H4 (fresh_back ((e1.trans e2).trans e3) hp) (((e1.trans e2).trans e3).trans e4) h4
theorem ok__law_whole (T : Txt K mg C_Interval)  {f : Addr} {fd : FuncData} (F : Fun K "_law_whole" "_law_whole" s__law_whole f fd) : FnOk P w K mg base CX0 1 f fd ["_law_number"] (sp__law_whole K C_Interval) := by
  refine F.ok sc__law_whole (fun vs H Q E h => ?_) (fun cdv A outer s H vs Q E hr h => ?_)
  · obtain ⟨_, rfl, _⟩ := h
    rfl
  · obtain ⟨c, rfl, k⟩ := h
    refine ⟨_, (pss_one (ps_ret (pe_and (pe_callB (call_isiK' K) (by rfl) T.b_isinstance (by decide +kernel) (pa_cons (pv 0) (pa_cons (pe_bltn (v := .ty "int") (u := .type "int") (by rfl) T.b_int (by decide +kernel) (by rfl)) pa_nil))) (pe_one (pe_not (pe_callB (call_isiK' K) (by rfl) T.b_isinstance (by decide +kernel) (pa_cons (pv 0) (pa_cons (pe_bltn (v := .ty "bool") (u := .type "bool") (by rfl) T.b_bool (by decide +kernel) (by rfl)) pa_nil)))))))), ?_⟩
    walk_at "ret"
    exact fun H1 e1 => k H1 e1
theorem ok__law_fields (T : Txt K mg C_Interval) (h__law_whole : Has P w K mg base CX0 "_law_whole" 1 ["_law_number"] (sp__law_whole K C_Interval)) {f : Addr} {fd : FuncData} (F : Fun K "_law_fields" "_law_fields" s__law_fields f fd) : FnOk P w K mg base CX0 4 f fd ["_law_interval", "_law_start", "_law_stop"] (sp__law_fields K C_Interval) := by
  refine F.ok sc__law_fields (fun vs H Q E h => ?_) (fun cdv A outer s H vs Q E hr h => ?_)
  · obtain ⟨_, _, _, _, _, _, rfl, _⟩ := h
    rfl
  · obtain ⟨a, dx, i, j, p, q, rfl, ha, k⟩ := h
    refine ⟨_, (pss_cons (ps_if (PW.pt (pw_or (pt_not (pt_val (pe_callB (call_isiK' K) (by rfl) T.b_isinstance (by decide +kernel) (pa_cons (pv 0) (pa_cons (pe_glob (v := .ref C_Interval) (by rfl) T.c_Interval.g (by rfl)) pa_nil))))) (pw_or (pt_not (pt_val (pe_callH h__law_whole (hr.mono (by decide)) pass0 (pa_cons (pe_fldK K (pv 0)) pa_nil)))) (pw_or1 (pt_not (pt_val (pe_callH h__law_whole (hr.mono (by decide)) pass0 (pa_cons (pe_fldK K (pv 0)) pa_nil)))))))) pss_never pss_nil)
      (pss_cons (ps_if (pt_cmpR op_lt (pv 1) (pv 2) (nomark _)) (pss_one (ps_ret (pe_and (pe_cmpR op_eq (pe_fldK K (pv 0)) (pv 1) (nomark _)) (pe_one (pe_cmpR op_eq (pe_fldK K (pv 0)) (pv 2) (nomark _)))))) pss_nil)
      (pss_one (ps_ret (pe_and (pe_cmpR op_eq (pe_fldK K (pv 0)) pe_int (nomark _)) (pe_one (pe_cmpR op_eq (pe_fldK K (pv 0)) pe_int (nomark _)))))))), ?_⟩
    have c0 := T.c_Interval; have c1 := T.c_Interval.cl; have n1 := T.n_Interval_start; have n2 := T.n_Interval_stop
    walk_at "when"
    · exact fun g => absurd g (by decide)
    · intro _ H1 e1
      refine q_when (b := decide (p < q)) (by walk_at "et") (fun g H2 e2 => ?_) fun g H2 e2 => ?_
      · walk_at "ret"
        intro H3 e3
        have hp : p < q := by simpa using g
        have z1 : nS p q = p := if_pos hp
        have z2 : nT p q = q := if_pos hp
        have k' := k H3 ((e1.trans e2).trans e3)
        rw [z1, z2] at k'
        simpa using k'
      · walk_at "ret"
        intro H3 e3
        have hp : ¬ p < q := by simpa using g
        have z1 : nS p q = 0 := if_neg hp
        have z2 : nT p q = 0 := if_neg hp
        have k' := k H3 ((e1.trans e2).trans e3)
        rw [z1, z2] at k'
        simpa using k'
theorem evp_four {C a : Addr} {ns : List Int} {σ : L2.St} {H : Hp} {E : XK} {tA : TA} (h : EvA tA σ H [.ref a, .int 0]) (hS : SqL K H a (ns.map V.int)) : EvP (tCall (sp__law_four K C) [] E tA) σ H (fun v H => ∃ p e0 e1 e2 e3, v = .ref p ∧ H p = some (.tup [.int e0, .int e1, .int e2, .int e3])) :=
  evp_call h fun H1 e1 Q q => ⟨a, ns, rfl, ex_l e1 hS, fun e0 e1 e2 e3 p H' hp ee hh => q (.ref p) H' ee ⟨p, e0, e1, e2, e3, rfl, hh⟩⟩
theorem evp_and {C a b dx dy : Addr} {i j k l : Int} {σ : L2.St} {H : Hp} {E : XK} {ta tb : TE} (ha : Ev ta σ H (.ref a)) (hb : Ev tb σ H (.ref b)) (oa : H a = some (.ins C dx (ivF i j))) (ob : H b = some (.ins C dy (ivF k l))) :
    EvP (tOp (rOwn2 C (sp_Interval___and__ K C) E) ta tb) σ H (Bx C (mx (nS i j) (nS k l)) (mn (nT i j) (nT k l))) :=
  evp_op ha hb fun H1 e1 Q q => ⟨a, dx, _, b, dy, _, rfl, rfl, e1 a _ oa, e1 b _ ob, a, dx, i, j, b, dy, k, l, rfl, e1 a _ oa, e1 b _ ob, q⟩
theorem spv_fields {C a dx : Addr} {i j s t : Int} {H : Hp} (oa : H a = some (.ins C dx (ivF i j))) : SpV (sp__law_fields K C) [.ref a, .int s, .int t] H (.bl (decide (nS i j = nS s t) && decide (nT i j = nT s t))) :=
  fun H1 e Q q E => ⟨a, dx, i, j, s, t, rfl, e a _ oa, q⟩
theorem ev_bool {C a dx : Addr} {i j : Int} {σ : L2.St} {H : Hp} {E : XK} {ta : TE} (ha : Ev ta σ H (.ref a)) (oa : H a = some (.ins C dx (ivF i j))) : Ev (tCB (rOwnBool C (sp_Interval___bool__ K C) E) (tCons ta tNil)) σ H (.bl (decide (nS i j < nT i j))) :=
  fun H1 e Q q => ha H1 e _ fun H2 e2 => ⟨a, dx, _, rfl, (e.trans e2) a _ oa, a, dx, i, j, rfl, (e.trans e2) a _ oa, fun H3 e3 => ⟨_, rfl, q H3 (e2.trans e3)⟩⟩
theorem rv_in {C a dx : Addr} {i j m : Int} {H : Hp} {E : XK} (oa : H a = some (.ins C dx (ivF i j))) : RV (rOwnIn C (sp_Interval___contains__ K C) E) (.int m) (.ref a) H (.bl (decide (nS i j ≤ m) && decide (m < nT i j))) :=
  fun H1 e Q q => ⟨a, dx, _, rfl, e a _ oa, a, dx, i, j, m, rfl, e a _ oa, fun H3 e3 => ⟨_, rfl, q H3 e3⟩⟩
theorem in_eq (i j m : Int) : (decide (nS i j ≤ m) && decide (m < nT i j)) = (decide (i ≤ m) && decide (m < j)) := by
  unfold nS nT
  rw [Bool.eq_iff_iff]
  simp only [Bool.and_eq_true, decide_eq_true_eq]
  split <;> omega
theorem bool_eq (i j : Int) : decide (nS i j < nT i j) = decide (i < j) := by
  unfold nS nT
  rw [decide_eq_decide]
  split <;> omega
/-- low and high of the law -/
def hi' (a b c d : Int) : Int := if a ≥ b ∨ c ≥ d then mx a c else mn b d
theorem and_eq (a b c d : Int) : nS (mx (nS a b) (nS c d)) (mn (nT a b) (nT c d)) = nS (mx a c) (hi' a b c d) ∧ nT (mx (nS a b) (nS c d)) (mn (nT a b) (nT c d)) = nT (mx a c) (hi' a b c d) := by
  unfold hi' mx mn nS nT
  by_cases h1 : a < b <;> by_cases h2 : c < d
  · rw [if_neg (show ¬ (a ≥ b ∨ c ≥ d) by omega), if_pos h1, if_pos h2, if_pos h1, if_pos h2]
    exact ⟨rfl, rfl⟩
  · rw [if_pos (show (a ≥ b ∨ c ≥ d) by omega), if_pos h1, if_neg h2, if_pos h1, if_neg h2]
    constructor <;> (repeat' split) <;> omega
  · rw [if_pos (show (a ≥ b ∨ c ≥ d) by omega), if_neg h1, if_pos h2, if_neg h1, if_pos h2]
    constructor <;> (repeat' split) <;> omega
  · rw [if_pos (show (a ≥ b ∨ c ≥ d) by omega), if_neg h1, if_neg h2, if_neg h1, if_neg h2]
    constructor <;> (repeat' split) <;> omega
theorem both_in (a b c d m : Int) : (decide (nS (mx a c) (hi' a b c d) ≤ m) && decide (m < nT (mx a c) (hi' a b c d))) = ((decide (a ≤ m) && decide (m < b)) && (decide (c ≤ m) && decide (m < d))) := by
  rw [in_eq]
  unfold hi' mx mn
  rw [Bool.eq_iff_iff]
  simp only [Bool.and_eq_true, decide_eq_true_eq]
  (repeat' split) <;> omega
local macro_rules | `(tactic| walk_at "sp") => `(tactic| first
  | (refine' spv_fields ?e1; (case e1 => walk_at "hp"))
  | exact spv_whole)
local macro_rules | `(tactic| walk_at "evx") => `(tactic| first
  | ((with_reducible refine' ev_bool ?e1 ?e2); (case e1 => walk_at "ev"); (case e2 => walk_at "hp")))
local macro_rules | `(tactic| walk_at "rvx") => `(tactic| first
  | ((with_reducible refine' rv_in ?e1); (case e1 => walk_at "hp")))
theorem ok_law (T : Txt K mg C_Interval) (h__law_four : Has P w K mg base CX0 "_law_four" 4 ["_law_script", "_law_k"] (sp__law_four K C_Interval)) (h_Interval___init__ : HasM P w K mg base CX0 C_Interval "__init__" 1 ["self", "start", "stop"] (sp_Interval___init__ K C_Interval)) (h_Interval___and__ : HasM P w K mg base CX0 C_Interval "__and__" 4 ["self", "other"] (sp_Interval___and__ K C_Interval)) (h__law_fields : Has P w K mg base CX0 "_law_fields" 4 ["_law_interval", "_law_start", "_law_stop"] (sp__law_fields K C_Interval)) (h_Interval___bool__ : HasM P w K mg base CX0 C_Interval "__bool__" 1 ["self"] (sp_Interval___bool__ K C_Interval)) (h_Interval___contains__ : HasM P w K mg base CX0 C_Interval "__contains__" 1 ["self", "moment"] (sp_Interval___contains__ K C_Interval)) {f : Addr} {fd : FuncData} (F : Fun K "law" "law" s_law f fd) : FnOk P w K mg base CX0 7 f fd ["_law_script"] (sp_law K) := by
  refine F.ok sc_law (fun vs H Q E h => ?_) (fun cdv A outer s H vs Q E hr h => ?_)
  · obtain ⟨_, _, rfl, _⟩ := h
    rfl
  · obtain ⟨a, ns, rfl, hS, k⟩ := h
    refine ⟨_, (pss_cons (ps_set (i := 1) sc_law.nd rfl (by first | exact Or.inl rfl | exact Or.inr rfl) (pe_callH h__law_four (hr.mono (by decide)) pass0 (pa_cons (pv 0) (pa_cons pe_int pa_nil))))
      (pss_cons (ps_set (i := 2) sc_law.nd rfl (by first | exact Or.inl rfl | exact Or.inr rfl) (pe_makeH T.c_Interval h_Interval___init__ (hr.mono (by decide)) pass0 (pa_cons (pe_ix (ix_tupK K) (pv 1) pe_int (fun _ _ => rfl)) (pa_cons (pe_ix (ix_tupK K) (pv 1) pe_int (fun _ _ => rfl)) pa_nil))))
      (pss_cons (ps_set (i := 3) sc_law.nd rfl (by first | exact Or.inl rfl | exact Or.inr rfl) (pe_makeH T.c_Interval h_Interval___init__ (hr.mono (by decide)) pass0 (pa_cons (pe_ix (ix_tupK K) (pv 1) pe_int (fun _ _ => rfl)) (pa_cons (pe_ix (ix_tupK K) (pv 1) pe_int (fun _ _ => rfl)) pa_nil))))
      (pss_cons (ps_set (i := 4) sc_law.nd rfl (by first | exact Or.inl rfl | exact Or.inr rfl) (pe_op (op_binH T.c_Interval h_Interval___and__ (hr.mono (by decide)) pass0) (pv 2) (pv 3)))
      (pss_cons (ps_if (PW.pt (pw_or (pt_not (pt_val (pe_callH h__law_fields (hr.mono (by decide)) pass0 (pa_cons (pv 2) (pa_cons (pe_ix (ix_tupK K) (pv 1) pe_int (fun _ _ => rfl)) (pa_cons (pe_ix (ix_tupK K) (pv 1) pe_int (fun _ _ => rfl)) pa_nil)))))) (pw_or1 (pt_not (pt_val (pe_callH h__law_fields (hr.mono (by decide)) pass0 (pa_cons (pv 3) (pa_cons (pe_ix (ix_tupK K) (pv 1) pe_int (fun _ _ => rfl)) (pa_cons (pe_ix (ix_tupK K) (pv 1) pe_int (fun _ _ => rfl)) pa_nil))))))))) pss_never pss_nil)
      (pss_cons (ps_set (i := 5) sc_law.nd rfl (by first | exact Or.inl rfl | exact Or.inr rfl) (pe_callB (call_max' rfl) (by rfl) T.b_max (by decide +kernel) (pa_cons (pe_ix (ix_tupK K) (pv 1) pe_int (fun _ _ => rfl)) (pa_cons (pe_ix (ix_tupK K) (pv 1) pe_int (fun _ _ => rfl)) pa_nil))))
      (pss_cons (ps_set (i := 6) sc_law.nd rfl (by first | exact Or.inl rfl | exact Or.inr rfl) (pe_callB (call_min' rfl) (by rfl) T.b_min (by decide +kernel) (pa_cons (pe_ix (ix_tupK K) (pv 1) pe_int (fun _ _ => rfl)) (pa_cons (pe_ix (ix_tupK K) (pv 1) pe_int (fun _ _ => rfl)) pa_nil))))
      (pss_cons (ps_if (PW.pt (pw_or (pt_cmpR op_ge (pe_ix (ix_tupK K) (pv 1) pe_int (fun _ _ => rfl)) (pe_ix (ix_tupK K) (pv 1) pe_int (fun _ _ => rfl)) (nomark _)) (pw_or1 (pt_cmpR op_ge (pe_ix (ix_tupK K) (pv 1) pe_int (fun _ _ => rfl)) (pe_ix (ix_tupK K) (pv 1) pe_int (fun _ _ => rfl)) (nomark _))))) (pss_one (ps_set (i := 6) sc_law.nd rfl (by first | exact Or.inl rfl | exact Or.inr rfl) (pv 5))) pss_nil)
      (pss_cons (ps_if (pt_not (pt_val (pe_callH h__law_fields (hr.mono (by decide)) pass0 (pa_cons (pv 4) (pa_cons (pv 5) (pa_cons (pv 6) pa_nil)))))) pss_never pss_nil)
      (pss_cons (ps_if (PW.pt (pw_or (pt_cmpR op_ne (pe_callTy (call_boolH h_Interval___bool__ (hr.mono (by decide)) pass0) (by rfl) T.b_bool (by decide +kernel) (pa_cons (pv 2) pa_nil)) (pe_cmpR op_lt (pe_ix (ix_tupK K) (pv 1) pe_int (fun _ _ => rfl)) (pe_ix (ix_tupK K) (pv 1) pe_int (fun _ _ => rfl)) (nomark _)) (nomark _)) (pw_or (pt_cmpR op_ne (pe_callTy (call_boolH h_Interval___bool__ (hr.mono (by decide)) pass0) (by rfl) T.b_bool (by decide +kernel) (pa_cons (pv 3) pa_nil)) (pe_cmpR op_lt (pe_ix (ix_tupK K) (pv 1) pe_int (fun _ _ => rfl)) (pe_ix (ix_tupK K) (pv 1) pe_int (fun _ _ => rfl)) (nomark _)) (nomark _)) (pw_or1 (pt_cmpR op_ne (pe_callTy (call_boolH h_Interval___bool__ (hr.mono (by decide)) pass0) (by rfl) T.b_bool (by decide +kernel) (pa_cons (pv 4) pa_nil)) (pe_cmpR op_lt (pv 5) (pv 6) (nomark _)) (nomark _)))))) pss_never pss_nil)
      (pss_cons (ps_for PassesOwn.never rfl (pi_listK K (pe_lst (pa_cons pe_int (pa_cons (pe_ix (ix_tupK K) (pv 1) pe_int (fun _ _ => rfl)) (pa_cons (pe_ix (ix_tupK K) (pv 1) pe_int (fun _ _ => rfl)) (pa_cons (pe_ix (ix_tupK K) (pv 1) pe_int (fun _ _ => rfl)) (pa_cons (pe_ix (ix_tupK K) (pv 1) pe_int (fun _ _ => rfl)) pa_nil))))))) (pg_name (i := 7) sc_law.nd rfl (by first | exact Or.inl rfl | exact Or.inr rfl)) (pss_one (ps_for PassesOwn.never rfl (pi_listK K (pe_lst (pa_cons (pe_op op_sub (pv 7) pe_int) (pa_cons (pv 7) (pa_cons (pe_op op_add (pv 7) pe_int) pa_nil))))) (pg_name (i := 8) sc_law.nd rfl (by first | exact Or.inl rfl | exact Or.inr rfl)) (pss_cons (ps_set (i := 9) sc_law.nd rfl (by first | exact Or.inl rfl | exact Or.inr rfl) (pe_and (pe_cmpR op_le (pe_ix (ix_tupK K) (pv 1) pe_int (fun _ _ => rfl)) (pv 8) (nomark _)) (pe_one (pe_cmpR op_lt (pv 8) (pe_ix (ix_tupK K) (pv 1) pe_int (fun _ _ => rfl)) (nomark _)))))
      (pss_cons (ps_set (i := 10) sc_law.nd rfl (by first | exact Or.inl rfl | exact Or.inr rfl) (pe_and (pe_cmpR op_le (pe_ix (ix_tupK K) (pv 1) pe_int (fun _ _ => rfl)) (pv 8) (nomark _)) (pe_one (pe_cmpR op_lt (pv 8) (pe_ix (ix_tupK K) (pv 1) pe_int (fun _ _ => rfl)) (nomark _)))))
      (pss_one (ps_if (PW.pt (pw_or (pt_cmpR op_ne (pe_cmpR (op_inH h_Interval___contains__ (hr.mono (by decide)) pass0) (pv 8) (pv 2) (by rfl)) (pv 9) (nomark _)) (pw_or (pt_cmpR op_ne (pe_cmpR (op_inH h_Interval___contains__ (hr.mono (by decide)) pass0) (pv 8) (pv 3) (by rfl)) (pv 10) (nomark _)) (pw_or1 (pt_cmpR op_ne (pe_cmpR (op_inH h_Interval___contains__ (hr.mono (by decide)) pass0) (pv 8) (pv 4) (by rfl)) (pe_and (pv 9) (pe_one (pv 10))) (nomark _)))))) pss_never pss_nil)))))))
      (pss_one (ps_ret pe_bl))))))))))))), ?_⟩
    have c0 := T.c_Interval; have c1 := T.c_Interval.cl; have n1 := T.n_Interval_start; have n2 := T.n_Interval_stop
    refine' q_asgP (evp_four ?ea hS) ?k1
    case ea => walk_at "ea"
    rintro v H1 e1 ⟨p, a0, a1, a2, a3, rfl, hp⟩
    refine' q_asgP (ev_box ?eb) ?k2
    case eb => walk_at "ea"
    rintro v H2 e2 ⟨b1, d1, rfl, hb1⟩
    refine' q_asgP (ev_box ?ec) ?k3
    case ec => walk_at "ea"
    rintro v H3 e3 ⟨b2, d2, rfl, hb2⟩
    refine' q_asgP (evp_and ?ed ?ee ?ef ?eg) ?k4
    case ed => walk_at "ev"
    case ee => walk_at "ev"
    case ef => walk_at "hp"
    case eg => walk_at "hp"
    rintro v H4 e4 ⟨b3, d3, rfl, hb3⟩
    walk_at "whenF"
    · simp
    intro _ H5 e5
    refine' q_asg (v := .int (mx a0 a2)) (ev_is ?xa ?ra) ?ka
    case xa => walk_at "ev"
    case ra => rfl
    intro H6 e6
    refine' q_asg (v := .int (mn a1 a3)) (ev_is ?xb ?rb) ?kb
    case xb => walk_at "ev"
    case rb => rfl
    intro H7 e7
    have hz : ∀ b : Bool, b = (decide (a1 ≤ a0) || decide (a3 ≤ a2)) → (b = true → hi' a0 a1 a2 a3 = mx a0 a2) ∧ (b = false → hi' a0 a1 a2 a3 = mn a1 a3) := by
      rintro b rfl
      constructor <;> intro g <;> unfold hi'
      · rw [if_pos (by simp at g; omega)]
      · rw [if_neg (by simp at g; omega)]
    refine' q_ifAsg (b := decide (a1 ≤ a0) || decide (a3 ≤ a2)) (v := .int (hi' a0 a1 a2 a3)) ?xc ?xd ?xe ?kc
    case xc => walk_at "et"
    case xd =>
      intro g
      rw [(hz _ rfl).1 g]
      walk_at "ev"
    case xe =>
      intro g
      rw [(hz _ rfl).2 g]
      rfl
    intro H8 e8
    walk_at "whenF"
    · show (!(decide (nS (mx (nS a0 a1) (nS a2 a3)) (mn (nT a0 a1) (nT a2 a3)) = nS (mx a0 a2) (hi' a0 a1 a2 a3)) && decide (nT (mx (nS a0 a1) (nS a2 a3)) (mn (nT a0 a1) (nT a2 a3)) = nT (mx a0 a2) (hi' a0 a1 a2 a3)))) = false
      rw [(and_eq a0 a1 a2 a3).1, (and_eq a0 a1 a2 a3).2]
      simp
    intro _ H9 e9
    walk_at "whenF"
    · simp only [bool_eq]
      have z : decide (nS (mx (nS a0 a1) (nS a2 a3)) (mn (nT a0 a1) (nT a2 a3)) < nT (mx (nS a0 a1) (nS a2 a3)) (mn (nT a0 a1) (nT a2 a3))) = decide (mx a0 a2 < hi' a0 a1 a2 a3) := by
        rw [(and_eq a0 a1 a2 a3).1, (and_eq a0 a1 a2 a3).2, bool_eq]
      rw [bool_eq] at z
      simp [z]
    intro _ H10 e10
    refine' q_forNLn ?xf (fun q i σ' H' => ∃ v7 v8 v9 v10 : Option V, σ' = [some (.ref a), some (.ref p), some (.ref b1), some (.ref b2), some (.ref b3), some (.int (mx a0 a2)), some (.int (hi' a0 a1 a2 a3)), v7, v8, v9, v10] ∧ Ex H10 H' ∧ H' q = some (.lst [.int 0, .int a0, .int a1, .int a2, .int a3])) ?xg ?xh ?xi ?xj
    case xf => walk_at "lst"
    case xg => exact fun q H' hq ee hh => ⟨none, none, none, none, rfl, ee, hh⟩
    case xh => exact fun q i σ' H' hi ⟨_, _, _, _, _, _, hh⟩ => sq_of hh
    case xj =>
      rintro q σ' H' ⟨v7, v8, v9, v10, rfl, ee, hh⟩
      walk_at "ret"
      exact fun H1' _ => k H1'
    case xi =>
      rintro q i x σ' H11 hx ⟨v7, v8, v9, v10, rfl, e11, hq⟩
      obtain ⟨e, rfl⟩ : ∃ e : Int, x = .int e := by
        rcases i with _ | _ | _ | _ | _ | i <;> simp at hx <;> exact ⟨_, hx.symm⟩
      refine' s_forNL ?ya (fun q2 i2 σ' H' => ∃ v8 v9 v10 : Option V, σ' = [some (.ref a), some (.ref p), some (.ref b1), some (.ref b2), some (.ref b3), some (.int (mx a0 a2)), some (.int (hi' a0 a1 a2 a3)), some (.int e), v8, v9, v10] ∧ Ex H11 H' ∧ H' q2 = some (.lst [.int (e - 1), .int e, .int (e + 1)])) ?yb ?yc ?yd ?ye
      case ya => walk_at "lst"
      case yb => exact fun q H' hq ee hh => ⟨v8, v9, v10, rfl, ee, hh⟩
      case yc => exact fun q i σ' H' hi ⟨_, _, _, _, _, hh⟩ => sq_of hh
      case ye =>
        rintro q2 σ' H' ⟨v8, v9, v10, rfl, ee, hh⟩
        exact ⟨_, _, _, _, rfl, e11.trans ee, ee q _ hq⟩
      case yd =>
        rintro q2 i2 x σ' H12 hx ⟨v8, v9, v10, rfl, e12, hq2⟩
        obtain ⟨m, rfl⟩ : ∃ m : Int, x = .int m := by
          rcases i2 with _ | _ | _ | i2 <;> simp at hx <;> exact ⟨_, hx.symm⟩
        show tSeq _ _ _ ([some (.ref a), some (.ref p), some (.ref b1), some (.ref b2), some (.ref b3), some (.int (mx a0 a2)), some (.int (hi' a0 a1 a2 a3)), some (.int e), some (.int m), v9, v10] : L2.St) H12
        walk_at "asg"
        intro H13 e13
        walk_at "asg"
        intro H14 e14
        walk_at "swhenF"
        · have z := both_in a0 a1 a2 a3 m
          rw [← (and_eq a0 a1 a2 a3).1, ← (and_eq a0 a1 a2 a3).2] at z
          simp [in_eq] at z ⊢
          simp [z]
        intro _ H15 e15
        exact ⟨_, _, _, rfl, (((e12.trans e13).trans e14).trans e15), ((e13.trans e14).trans e15) q2 _ hq2⟩
end
theorem all_mk {l : PySem.W.OpenLaw} {w : World} {K : PySem.W.Frag} {h : Heap} {mg : Str → Option Value} {fa : Addr} {C_Interval : Addr}
    {f_Interval___init__ : Addr} {od_Interval___init__ an_Interval___init__ : Option Addr} {sl_Interval___init__ : Array (Option Value)} {oc_Interval___init__ kV_Interval___init__ dc_Interval___init__ pm_Interval___init__ cd_Interval___init__ ct_Interval___init__ : Value}
    {f_Interval___contains__ : Addr} {od_Interval___contains__ an_Interval___contains__ : Option Addr} {sl_Interval___contains__ : Array (Option Value)} {oc_Interval___contains__ kV_Interval___contains__ dc_Interval___contains__ pm_Interval___contains__ cd_Interval___contains__ ct_Interval___contains__ : Value}
    {f_Interval___bool__ : Addr} {od_Interval___bool__ an_Interval___bool__ : Option Addr} {sl_Interval___bool__ : Array (Option Value)} {oc_Interval___bool__ kV_Interval___bool__ dc_Interval___bool__ pm_Interval___bool__ cd_Interval___bool__ ct_Interval___bool__ : Value}
    {f_Interval___and__ : Addr} {od_Interval___and__ an_Interval___and__ : Option Addr} {sl_Interval___and__ : Array (Option Value)} {oc_Interval___and__ kV_Interval___and__ dc_Interval___and__ pm_Interval___and__ cd_Interval___and__ ct_Interval___and__ : Value}
    {f__law_cell : Addr} {od__law_cell an__law_cell : Option Addr} {sl__law_cell : Array (Option Value)} {oc__law_cell kV__law_cell dc__law_cell pm__law_cell cd__law_cell ct__law_cell : Value}
    {f__law_base : Addr} {od__law_base an__law_base : Option Addr} {sl__law_base : Array (Option Value)} {oc__law_base kV__law_base dc__law_base pm__law_base cd__law_base ct__law_base : Value}
    {f__law_shift : Addr} {od__law_shift an__law_shift : Option Addr} {sl__law_shift : Array (Option Value)} {oc__law_shift kV__law_shift dc__law_shift pm__law_shift cd__law_shift ct__law_shift : Value}
    {f__law_four : Addr} {od__law_four an__law_four : Option Addr} {sl__law_four : Array (Option Value)} {oc__law_four kV__law_four dc__law_four pm__law_four cd__law_four ct__law_four : Value}
    {f__law_whole : Addr} {od__law_whole an__law_whole : Option Addr} {sl__law_whole : Array (Option Value)} {oc__law_whole kV__law_whole dc__law_whole pm__law_whole cd__law_whole ct__law_whole : Value}
    {f__law_fields : Addr} {od__law_fields an__law_fields : Option Addr} {sl__law_fields : Array (Option Value)} {oc__law_fields kV__law_fields dc__law_fields pm__law_fields cd__law_fields ct__law_fields : Value}
    {f_law : Addr} {od_law an_law : Option Addr} {sl_law : Array (Option Value)} {oc_law kV_law dc_law pm_law cd_law ct_law : Value}
    (X : K.In h) (G : h.Ns mainGlobals mg) (hfa : mg "law" = some (.ref fa))
    (g_Interval : PySem.W.nsIn K mainGlobals "Interval" = some (some (.ref C_Interval)))
    (pg_Interval : PySem.W.plainGet K C_Interval Str.empty = true)
    (hd_Interval : PySem.W.hasDictIn K C_Interval = true)
    (po_Interval : PySem.W.plainOver K C_Interval = true)
    (sa_Interval : PySem.W.findIn K (.ref C_Interval) "__setattr__" = some (some (.builtin "object.__setattr__")))
    (mk_Interval : PySem.W.makesIn K C_Interval = true)
    (kc_Interval : PySem.W.keepIn K (.ref C_Interval) = true)
    (ca_Interval : PySem.W.findIn K (.ref C_Interval) "__class__" = some (some (.builtin "object.__class__")))
    (cn_Interval : PySem.W.specialIn K (.builtin "object.__class__") "__get__" = some (some (.builtin "getset_descriptor.__get__")))
    (ct_Interval : PySem.W.takesIn K (.builtin "object.__class__") = some true)
    (cm_Interval : PySem.W.mroIn K C_Interval (.type "object") = some true)
    (sf_Interval : PySem.W.selfFirst K C_Interval = true)
    (n_Interval_start : PySem.W.findIn K (.ref C_Interval) "start" = some none)
    (n_Interval_stop : PySem.W.findIn K (.ref C_Interval) "stop" = some none)
    (z_bool : PySem.W.nsIn K mainGlobals "bool" = some none)
    (z_int : PySem.W.nsIn K mainGlobals "int" = some none)
    (z_isinstance : PySem.W.nsIn K mainGlobals "isinstance" = some none)
    (z_len : PySem.W.nsIn K mainGlobals "len" = some none)
    (z_max : PySem.W.nsIn K mainGlobals "max" = some none)
    (z_min : PySem.W.nsIn K mainGlobals "min" = some none)
    (a_Interval___init__ : PySem.W.findIn K (.ref C_Interval) "__init__" = some (some (.ref f_Interval___init__)))
    (i_Interval___init__ : PySem.W.isFn K (.ref f_Interval___init__) = true)
    (l_Interval___init__ : K.lookup f_Interval___init__ = some ⟨oc_Interval___init__, od_Interval___init__, .func (PySem.W.fnOf "__init__" "Interval.__init__" (defArgs s_Interval___init__) (defBody s_Interval___init__) (defScope s_Interval___init__) .none kV_Interval___init__ dc_Interval___init__ pm_Interval___init__ an_Interval___init__ cd_Interval___init__ ct_Interval___init__), sl_Interval___init__⟩)
    (c_Interval___init__ : PySem.W.codeIn K cd_Interval___init__ "Interval.__init__" = true)
    (k_Interval___init__ : PySem.W.keepIn K (.ref f_Interval___init__) = true)
    (a_Interval___contains__ : PySem.W.findIn K (.ref C_Interval) "__contains__" = some (some (.ref f_Interval___contains__)))
    (i_Interval___contains__ : PySem.W.isFn K (.ref f_Interval___contains__) = true)
    (l_Interval___contains__ : K.lookup f_Interval___contains__ = some ⟨oc_Interval___contains__, od_Interval___contains__, .func (PySem.W.fnOf "__contains__" "Interval.__contains__" (defArgs s_Interval___contains__) (defBody s_Interval___contains__) (defScope s_Interval___contains__) .none kV_Interval___contains__ dc_Interval___contains__ pm_Interval___contains__ an_Interval___contains__ cd_Interval___contains__ ct_Interval___contains__), sl_Interval___contains__⟩)
    (c_Interval___contains__ : PySem.W.codeIn K cd_Interval___contains__ "Interval.__contains__" = true)
    (k_Interval___contains__ : PySem.W.keepIn K (.ref f_Interval___contains__) = true)
    (a_Interval___bool__ : PySem.W.findIn K (.ref C_Interval) "__bool__" = some (some (.ref f_Interval___bool__)))
    (i_Interval___bool__ : PySem.W.isFn K (.ref f_Interval___bool__) = true)
    (l_Interval___bool__ : K.lookup f_Interval___bool__ = some ⟨oc_Interval___bool__, od_Interval___bool__, .func (PySem.W.fnOf "__bool__" "Interval.__bool__" (defArgs s_Interval___bool__) (defBody s_Interval___bool__) (defScope s_Interval___bool__) .none kV_Interval___bool__ dc_Interval___bool__ pm_Interval___bool__ an_Interval___bool__ cd_Interval___bool__ ct_Interval___bool__), sl_Interval___bool__⟩)
    (c_Interval___bool__ : PySem.W.codeIn K cd_Interval___bool__ "Interval.__bool__" = true)
    (k_Interval___bool__ : PySem.W.keepIn K (.ref f_Interval___bool__) = true)
    (a_Interval___and__ : PySem.W.findIn K (.ref C_Interval) "__and__" = some (some (.ref f_Interval___and__)))
    (i_Interval___and__ : PySem.W.isFn K (.ref f_Interval___and__) = true)
    (l_Interval___and__ : K.lookup f_Interval___and__ = some ⟨oc_Interval___and__, od_Interval___and__, .func (PySem.W.fnOf "__and__" "Interval.__and__" (defArgs s_Interval___and__) (defBody s_Interval___and__) (defScope s_Interval___and__) .none kV_Interval___and__ dc_Interval___and__ pm_Interval___and__ an_Interval___and__ cd_Interval___and__ ct_Interval___and__), sl_Interval___and__⟩)
    (c_Interval___and__ : PySem.W.codeIn K cd_Interval___and__ "Interval.__and__" = true)
    (k_Interval___and__ : PySem.W.keepIn K (.ref f_Interval___and__) = true)
    (a__law_cell : PySem.W.nsIn K mainGlobals "_law_cell" = some (some (.ref f__law_cell)))
    (l__law_cell : K.lookup f__law_cell = some ⟨oc__law_cell, od__law_cell, .func (PySem.W.fnOf "_law_cell" "_law_cell" (defArgs s__law_cell) (defBody s__law_cell) (defScope s__law_cell) .none kV__law_cell dc__law_cell pm__law_cell an__law_cell cd__law_cell ct__law_cell), sl__law_cell⟩)
    (c__law_cell : PySem.W.codeIn K cd__law_cell "_law_cell" = true)
    (k__law_cell : PySem.W.keepIn K (.ref f__law_cell) = true)
    (a__law_base : PySem.W.nsIn K mainGlobals "_law_base" = some (some (.ref f__law_base)))
    (l__law_base : K.lookup f__law_base = some ⟨oc__law_base, od__law_base, .func (PySem.W.fnOf "_law_base" "_law_base" (defArgs s__law_base) (defBody s__law_base) (defScope s__law_base) .none kV__law_base dc__law_base pm__law_base an__law_base cd__law_base ct__law_base), sl__law_base⟩)
    (c__law_base : PySem.W.codeIn K cd__law_base "_law_base" = true)
    (k__law_base : PySem.W.keepIn K (.ref f__law_base) = true)
    (a__law_shift : PySem.W.nsIn K mainGlobals "_law_shift" = some (some (.ref f__law_shift)))
    (l__law_shift : K.lookup f__law_shift = some ⟨oc__law_shift, od__law_shift, .func (PySem.W.fnOf "_law_shift" "_law_shift" (defArgs s__law_shift) (defBody s__law_shift) (defScope s__law_shift) .none kV__law_shift dc__law_shift pm__law_shift an__law_shift cd__law_shift ct__law_shift), sl__law_shift⟩)
    (c__law_shift : PySem.W.codeIn K cd__law_shift "_law_shift" = true)
    (k__law_shift : PySem.W.keepIn K (.ref f__law_shift) = true)
    (a__law_four : PySem.W.nsIn K mainGlobals "_law_four" = some (some (.ref f__law_four)))
    (l__law_four : K.lookup f__law_four = some ⟨oc__law_four, od__law_four, .func (PySem.W.fnOf "_law_four" "_law_four" (defArgs s__law_four) (defBody s__law_four) (defScope s__law_four) .none kV__law_four dc__law_four pm__law_four an__law_four cd__law_four ct__law_four), sl__law_four⟩)
    (c__law_four : PySem.W.codeIn K cd__law_four "_law_four" = true)
    (k__law_four : PySem.W.keepIn K (.ref f__law_four) = true)
    (a__law_whole : PySem.W.nsIn K mainGlobals "_law_whole" = some (some (.ref f__law_whole)))
    (l__law_whole : K.lookup f__law_whole = some ⟨oc__law_whole, od__law_whole, .func (PySem.W.fnOf "_law_whole" "_law_whole" (defArgs s__law_whole) (defBody s__law_whole) (defScope s__law_whole) .none kV__law_whole dc__law_whole pm__law_whole an__law_whole cd__law_whole ct__law_whole), sl__law_whole⟩)
    (c__law_whole : PySem.W.codeIn K cd__law_whole "_law_whole" = true)
    (k__law_whole : PySem.W.keepIn K (.ref f__law_whole) = true)
    (a__law_fields : PySem.W.nsIn K mainGlobals "_law_fields" = some (some (.ref f__law_fields)))
    (l__law_fields : K.lookup f__law_fields = some ⟨oc__law_fields, od__law_fields, .func (PySem.W.fnOf "_law_fields" "_law_fields" (defArgs s__law_fields) (defBody s__law_fields) (defScope s__law_fields) .none kV__law_fields dc__law_fields pm__law_fields an__law_fields cd__law_fields ct__law_fields), sl__law_fields⟩)
    (c__law_fields : PySem.W.codeIn K cd__law_fields "_law_fields" = true)
    (k__law_fields : PySem.W.keepIn K (.ref f__law_fields) = true)
    (a_law : PySem.W.nsIn K mainGlobals "law" = some (some (.ref f_law)))
    (l_law : K.lookup f_law = some ⟨oc_law, od_law, .func (PySem.W.fnOf "law" "law" (defArgs s_law) (defBody s_law) (defScope s_law) .none kV_law dc_law pm_law an_law cd_law ct_law), sl_law⟩)
    (c_law : PySem.W.codeIn K cd_law "law" = true)
    (k_law : PySem.W.keepIn K (.ref f_law) = true)
    : ∃ fd : FuncData, (∀ (s : Shared) (v : Value), BindsTo s fd ⟨[v], []⟩ [("_law_script", v)]) ∧ ∀ base : Heap, K.In base → base.Ns mainGlobals mg → FnOk l.prog w K mg base CX0 7 fa fd ["_law_script"] (sp_law K) := by
  have e := hfa.symm.trans (PySem.W.mg_of X G a_law)
  cases e
  have T : Txt K mg C_Interval := ⟨⟨PySem.W.mg_of X G g_Interval, ⟨pg_Interval, hd_Interval, po_Interval, sa_Interval⟩, mk_Interval, kc_Interval, ca_Interval, cn_Interval, ct_Interval, cm_Interval, sf_Interval⟩, n_Interval_start, n_Interval_stop, PySem.W.mg_none_of X G z_bool, PySem.W.mg_none_of X G z_int, PySem.W.mg_none_of X G z_isinstance, PySem.W.mg_none_of X G z_len, PySem.W.mg_none_of X G z_max, PySem.W.mg_none_of X G z_min⟩
  refine ⟨PySem.W.fnOf "law" "law" (defArgs s_law) (defBody s_law) (defScope s_law) .none kV_law dc_law pm_law an_law cd_law ct_law, fun s v => .of_eq rfl, fun base hbK hbN => ?_⟩
  have F_Interval___init__ := fun_mk (st := s_Interval___init__) l_Interval___init__ c_Interval___init__ k_Interval___init__
  have b_Interval___init__ := F_Interval___init__.binds (ps := ["self", "start", "stop"]) fun _ _ _ _ _ _ us hl => match us, hl with | [_, _, _], _ => rfl
  have h_Interval___init__ : HasM l.prog w K mg base CX0 C_Interval "__init__" 1 ["self", "start", "stop"] (sp_Interval___init__ K C_Interval) := ⟨_, _, ok_Interval___init__ (P := l.prog) (w := w) (base := base) T  F_Interval___init__, a_Interval___init__, i_Interval___init__, k_Interval___init__, b_Interval___init__⟩
  have F_Interval___contains__ := fun_mk (st := s_Interval___contains__) l_Interval___contains__ c_Interval___contains__ k_Interval___contains__
  have b_Interval___contains__ := F_Interval___contains__.binds (ps := ["self", "moment"]) fun _ _ _ _ _ _ us hl => match us, hl with | [_, _], _ => rfl
  have h_Interval___contains__ : HasM l.prog w K mg base CX0 C_Interval "__contains__" 1 ["self", "moment"] (sp_Interval___contains__ K C_Interval) := ⟨_, _, ok_Interval___contains__ (P := l.prog) (w := w) (base := base) T  F_Interval___contains__, a_Interval___contains__, i_Interval___contains__, k_Interval___contains__, b_Interval___contains__⟩
  have F_Interval___bool__ := fun_mk (st := s_Interval___bool__) l_Interval___bool__ c_Interval___bool__ k_Interval___bool__
  have b_Interval___bool__ := F_Interval___bool__.binds (ps := ["self"]) fun _ _ _ _ _ _ us hl => match us, hl with | [_], _ => rfl
  have h_Interval___bool__ : HasM l.prog w K mg base CX0 C_Interval "__bool__" 1 ["self"] (sp_Interval___bool__ K C_Interval) := ⟨_, _, ok_Interval___bool__ (P := l.prog) (w := w) (base := base) T  F_Interval___bool__, a_Interval___bool__, i_Interval___bool__, k_Interval___bool__, b_Interval___bool__⟩
  have F_Interval___and__ := fun_mk (st := s_Interval___and__) l_Interval___and__ c_Interval___and__ k_Interval___and__
  have b_Interval___and__ := F_Interval___and__.binds (ps := ["self", "other"]) fun _ _ _ _ _ _ us hl => match us, hl with | [_, _], _ => rfl
  have h_Interval___and__ : HasM l.prog w K mg base CX0 C_Interval "__and__" 4 ["self", "other"] (sp_Interval___and__ K C_Interval) := ⟨_, _, ok_Interval___and__ (P := l.prog) (w := w) (base := base) T h_Interval___init__ F_Interval___and__, a_Interval___and__, i_Interval___and__, k_Interval___and__, b_Interval___and__⟩
  have F__law_cell := fun_mk (st := s__law_cell) l__law_cell c__law_cell k__law_cell
  have b__law_cell := F__law_cell.binds (ps := ["_law_script", "_law_k"]) fun _ _ _ _ _ _ us hl => match us, hl with | [_, _], _ => rfl
  have h__law_cell : Has l.prog w K mg base CX0 "_law_cell" 1 ["_law_script", "_law_k"] (sp__law_cell K C_Interval) := ⟨_, _, ok__law_cell (P := l.prog) (w := w) (base := base) T  F__law_cell, PySem.W.mg_of X G a__law_cell, k__law_cell, b__law_cell⟩
  have F__law_base := fun_mk (st := s__law_base) l__law_base c__law_base k__law_base
  have b__law_base := F__law_base.binds (ps := ["_law_cell_here"]) fun _ _ _ _ _ _ us hl => match us, hl with | [_], _ => rfl
  have h__law_base : Has l.prog w K mg base CX0 "_law_base" 1 ["_law_cell_here"] (sp__law_base K C_Interval) := ⟨_, _, ok__law_base (P := l.prog) (w := w) (base := base) T  F__law_base, PySem.W.mg_of X G a__law_base, k__law_base, b__law_base⟩
  have F__law_shift := fun_mk (st := s__law_shift) l__law_shift c__law_shift k__law_shift
  have b__law_shift := F__law_shift.binds (ps := ["_law_cell_here"]) fun _ _ _ _ _ _ us hl => match us, hl with | [_], _ => rfl
  have h__law_shift : Has l.prog w K mg base CX0 "_law_shift" 1 ["_law_cell_here"] (sp__law_shift K C_Interval) := ⟨_, _, ok__law_shift (P := l.prog) (w := w) (base := base) T  F__law_shift, PySem.W.mg_of X G a__law_shift, k__law_shift, b__law_shift⟩
  have F__law_four := fun_mk (st := s__law_four) l__law_four c__law_four k__law_four
  have b__law_four := F__law_four.binds (ps := ["_law_script", "_law_k"]) fun _ _ _ _ _ _ us hl => match us, hl with | [_, _], _ => rfl
  have h__law_four : Has l.prog w K mg base CX0 "_law_four" 4 ["_law_script", "_law_k"] (sp__law_four K C_Interval) := ⟨_, _, ok__law_four (P := l.prog) (w := w) (base := base) T h__law_base h__law_cell h__law_shift F__law_four, PySem.W.mg_of X G a__law_four, k__law_four, b__law_four⟩
  have F__law_whole := fun_mk (st := s__law_whole) l__law_whole c__law_whole k__law_whole
  have b__law_whole := F__law_whole.binds (ps := ["_law_number"]) fun _ _ _ _ _ _ us hl => match us, hl with | [_], _ => rfl
  have h__law_whole : Has l.prog w K mg base CX0 "_law_whole" 1 ["_law_number"] (sp__law_whole K C_Interval) := ⟨_, _, ok__law_whole (P := l.prog) (w := w) (base := base) T  F__law_whole, PySem.W.mg_of X G a__law_whole, k__law_whole, b__law_whole⟩
  have F__law_fields := fun_mk (st := s__law_fields) l__law_fields c__law_fields k__law_fields
  have b__law_fields := F__law_fields.binds (ps := ["_law_interval", "_law_start", "_law_stop"]) fun _ _ _ _ _ _ us hl => match us, hl with | [_, _, _], _ => rfl
  have h__law_fields : Has l.prog w K mg base CX0 "_law_fields" 4 ["_law_interval", "_law_start", "_law_stop"] (sp__law_fields K C_Interval) := ⟨_, _, ok__law_fields (P := l.prog) (w := w) (base := base) T h__law_whole F__law_fields, PySem.W.mg_of X G a__law_fields, k__law_fields, b__law_fields⟩
  exact ok_law (P := l.prog) (w := w) (base := base) T h__law_four h_Interval___init__ h_Interval___and__ h__law_fields h_Interval___bool__ h_Interval___contains__ (fun_mk (st := s_law) l_law c_law k_law)
theorem walk {l : PySem.W.OpenLaw} {q : Program} {loose : List Str} {XP : (Str → Option Value) → Heap → Prop} {YP : World → Heap → Prop} {d : DefRec} {K : Params → PySem.W.Frag} (hn : l.most = some 63) (hdf : d.params.defaults = [])
    (hY : ∀ (w : World) (h : Heap), YP w h → (K w.params).In h)
    (F : ∀ (w : World) (mg : Str → Option Value) (fa : Addr) (h : Heap), (K w.params).In h → h.Ns mainGlobals mg → mg d.name = some (.ref fa) →
      ∃ fd : FuncData, (∀ (s : Shared) (u : Value), BindsTo s fd ⟨[u], []⟩ [("_law_script", u)]) ∧ ∀ base : Heap, (K w.params).In base → base.Ns mainGlobals mg → FnOk l.prog w (K w.params) mg base CX0 7 fa fd ["_law_script"] (sp_law (K w.params))) :
    PySem.W.WalkO q loose XP YP l.row.toRowW d [] (fun f vs => PySem.call f vs) :=
  L2.walk_of (n := 63) (k := 7) (x := "_law_script") (CX := fun _ => CX0) (sp := fun w => sp_law (K w.params)) hn (by decide) hdf ⟨rfl, by decide, by decide⟩ hY F (fun w _ a ns hl _ hS => sp_law_holds (K w.params) a ns hl hS) fun _ _ _ _ _ z => z
end Toy

open PySem PySem.W PyProof.Rows in
set_option maxRecDepth 100000 in
set_option maxHeartbeats 0 in
theorem PySem.Challenge.cw_cutproof_k01_interval_moments_holds : PySem.Challenge.rw_cutproof_k01_interval_moments.Holds := by
  w_on; o_law; k_head; (case hw => w_witness2)
  k_fill
  refine Toy.walk (l := PySem.Challenge.rw_cutproof_k01_interval_moments) rfl rfl (fun w h Y => PySem.W.kIn_of Y) ?F
  case F =>
    intro w mg fa h KX G hmg
    refine' Toy.all_mk KX G hmg ?g_Interval ?pg_Interval ?hd_Interval ?po_Interval ?sa_Interval ?mk_Interval ?kc_Interval ?ca_Interval ?cn_Interval ?ct_Interval ?cm_Interval ?sf_Interval ?n_Interval_start ?n_Interval_stop ?z_bool ?z_int ?z_isinstance ?z_len ?z_max ?z_min ?a_Interval___init__ ?i_Interval___init__ ?l_Interval___init__ ?c_Interval___init__ ?k_Interval___init__ ?a_Interval___contains__ ?i_Interval___contains__ ?l_Interval___contains__ ?c_Interval___contains__ ?k_Interval___contains__ ?a_Interval___bool__ ?i_Interval___bool__ ?l_Interval___bool__ ?c_Interval___bool__ ?k_Interval___bool__ ?a_Interval___and__ ?i_Interval___and__ ?l_Interval___and__ ?c_Interval___and__ ?k_Interval___and__ ?a__law_cell ?l__law_cell ?c__law_cell ?k__law_cell ?a__law_base ?l__law_base ?c__law_base ?k__law_base ?a__law_shift ?l__law_shift ?c__law_shift ?k__law_shift ?a__law_four ?l__law_four ?c__law_four ?k__law_four ?a__law_whole ?l__law_whole ?c__law_whole ?k__law_whole ?a__law_fields ?l__law_fields ?c__law_fields ?k__law_fields ?a_law ?l_law ?c_law ?k_law
    (case g_Interval => k_is)
    (case pg_Interval => k_is)
    (case hd_Interval => k_is)
    (case po_Interval => k_is)
    (case sa_Interval => k_is)
    (case mk_Interval => k_is)
    (case kc_Interval => k_is)
    (case ca_Interval => k_is)
    (case cn_Interval => k_is)
    (case ct_Interval => k_is)
    (case cm_Interval => k_is)
    (case sf_Interval => k_is)
    (case n_Interval_start => k_is)
    (case n_Interval_stop => k_is)
    (case z_bool => k_is)
    (case z_int => k_is)
    (case z_isinstance => k_is)
    (case z_len => k_is)
    (case z_max => k_is)
    (case z_min => k_is)
    (case a_Interval___init__ => k_is)
    (case i_Interval___init__ => k_is)
    (case l_Interval___init__ => k_is)
    (case c_Interval___init__ => k_is)
    (case k_Interval___init__ => k_is)
    (case a_Interval___contains__ => k_is)
    (case i_Interval___contains__ => k_is)
    (case l_Interval___contains__ => k_is)
    (case c_Interval___contains__ => k_is)
    (case k_Interval___contains__ => k_is)
    (case a_Interval___bool__ => k_is)
    (case i_Interval___bool__ => k_is)
    (case l_Interval___bool__ => k_is)
    (case c_Interval___bool__ => k_is)
    (case k_Interval___bool__ => k_is)
    (case a_Interval___and__ => k_is)
    (case i_Interval___and__ => k_is)
    (case l_Interval___and__ => k_is)
    (case c_Interval___and__ => k_is)
    (case k_Interval___and__ => k_is)
    (case a__law_cell => k_is)
    (case l__law_cell => k_is)
    (case c__law_cell => k_is)
    (case k__law_cell => k_is)
    (case a__law_base => k_is)
    (case l__law_base => k_is)
    (case c__law_base => k_is)
    (case k__law_base => k_is)
    (case a__law_shift => k_is)
    (case l__law_shift => k_is)
    (case c__law_shift => k_is)
    (case k__law_shift => k_is)
    (case a__law_four => k_is)
    (case l__law_four => k_is)
    (case c__law_four => k_is)
    (case k__law_four => k_is)
    (case a__law_whole => k_is)
    (case l__law_whole => k_is)
    (case c__law_whole => k_is)
    (case k__law_whole => k_is)
    (case a__law_fields => k_is)
    (case l__law_fields => k_is)
    (case c__law_fields => k_is)
    (case k__law_fields => k_is)
    (case a_law => k_is)
    (case l_law => k_is)
    (case c_law => k_is)
    (case k_law => k_is)
#print axioms PySem.Challenge.cw_cutproof_k01_interval_moments_holds
