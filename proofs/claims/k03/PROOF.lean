import PyProof.Rows.All
import Wide.All
import OpenK.AllK
import Wide.FinOn
import HandS.ForMost
import HandS.ForExc
import HandS.SlotsOwn
import HandS.IsInst
import HandS.Evl
import HandS.More
import HandS.TryMany
import HandS.ExcIs
import HandS.TupLe
import PySem.Challenge.RW_cutproof_k03_interval_order
set_option Elab.async false
set_option linter.all false
set_option maxRecDepth 100000
set_option maxHeartbeats 2000000
/-! operators of own classes' instances, by the hand layer -/
namespace OwnO
open PySem PySem.Spec PyProof.Rows L2

section
variable {X : Cx} {CX : CXT} {pins : List (Addr × Obj)} {σ : L2.St} {H : Hp} {s : Shared} {a C dx f : Addr} {fs : List (Str × V)} {n k : Nat} {sp : Sp} {E : XK} {fd : FuncData} {ps : List Str}

theorem ins_inst (I : Inv X pins σ H s) (e : H a = some (.ins C dx fs)) : ∃ od, PySem.W.InstAt s.heap a (PySem.W.instObj C dx) C (some od) := by
  obtain ⟨mA, O, _⟩ := ins_get I.hok e
  obtain ⟨od, J, _⟩ := O.look
  exact ⟨od, J⟩

/-- x op y, both instances of the class at C, whose def for op keeps sp -/
def rOwn2 (C : Addr) (sp : Sp) (E : XK) : R2 := fun x y H Q => ∃ a dx fs b dy gs, x = .ref a ∧ y = .ref b ∧ H a = some (.ins C dx fs) ∧ H b = some (.ins C dy gs) ∧ sp [x, y] H Q E
theorem op_ownBin {op : Operator} (hc : PySem.W.selfFirst X.K C = true) (hs : PySem.W.findIn X.K (.ref C) (PySem.dunder op.info.2) = some (some (.ref f))) (hf : PySem.W.isFn X.K (.ref f) = true)
    (F : FnOk X.prog X.w X.K X.mg X.base CX k f fd ps sp) (hr : Room k X.A) (hb : Binds X.K fd ps []) (hx : Passes CX X E) : OpR X (binaryOp op) (rOwn2 C sp E) := by
  intro pins s σ H x y v u Q I rx ry h
  obtain ⟨a, dx, fs, b, dy, gs, rfl, rfl, ha, hb', q⟩ := h
  cases (show v = Value.ref a from rx)
  cases (show u = Value.ref b from ry)
  obtain ⟨od, J⟩ := ins_inst I ha
  obtain ⟨od', J'⟩ := ins_inst I hb'
  obtain ⟨m, hF⟩ := I.fr
  refine PySem.W.binop_K hF I.ok.mod.kin J J'.type hc hs hf ?_
  refine wpAny_mono (run_fn (us := [.ref a, .ref b]) (vs := [.ref a, .ref b]) (dvs := []) (ds := []) F hr hb .nil hx I (.cons rfl (.cons rfl .nil)) q) (fun w s' z => ?_) fun _ _ x => x
  obtain ⟨z', H', I', rz, qz⟩ := z
  exact SlX.cmpback rz ⟨z', H', I', rz, qz⟩

theorem notFirst_self {K : PySem.W.Frag} {C : Addr} : PySem.W.notFirst K C (.ref C) = true := by
  unfold PySem.W.notFirst
  rw [Bool.or_eq_true_iff]
  exact .inl (beq_self_eq_true _)
theorem op_ownCmp {op : CmpOp} (hop : ∀ a b, compareOp op a b = richCompare op a b) (hs : PySem.W.findIn X.K (.ref C) (cmpInfo op).2.1 = some (some (.ref f))) (hf : PySem.W.isFn X.K (.ref f) = true)
    (F : FnOk X.prog X.w X.K X.mg X.base CX k f fd ps sp) (hr : Room k X.A) (hb : Binds X.K fd ps []) (hx : Passes CX X E) : OpR X (compareOp op) (rOwn2 C sp E) := by
  intro pins s σ H x y v u Q I rx ry h
  obtain ⟨a, dx, fs, b, dy, gs, rfl, rfl, ha, hb', q⟩ := h
  cases (show v = Value.ref a from rx)
  cases (show u = Value.ref b from ry)
  obtain ⟨od, J⟩ := ins_inst I ha
  obtain ⟨od', J'⟩ := ins_inst I hb'
  obtain ⟨m, hF⟩ := I.fr
  rw [hop]
  refine PySem.W.cmp_K (op := op) (tb := .ref C) hr.units0 hF I.ok.mod.kin J J'.type notFirst_self hs hf ?_
  refine wpAny_mono (run_fn (us := [.ref a, .ref b]) (vs := [.ref a, .ref b]) (dvs := []) (ds := []) F hr hb .nil hx I (.cons rfl (.cons rfl .nil)) q) (fun w s' z => ?_) fun _ _ x => x
  obtain ⟨z', H', I', rz, qz⟩ := z
  exact SlX.cmpback rz ⟨z', H', I', rz, qz⟩

/-- y in x, x an instance of C -/
def rOwnIn (C : Addr) (sp : Sp) (E : XK) : R2 := fun y x H Q => ∃ a dx fs, x = .ref a ∧ H a = some (.ins C dx fs) ∧ sp [x, y] H (fun z H' => ∃ b, z = .bl b ∧ Q (.bl b) H') E
theorem op_ownIn (hs : PySem.W.findIn X.K (.ref C) "__contains__" = some (some (.ref f))) (hf : PySem.W.isFn X.K (.ref f) = true)
    (F : FnOk X.prog X.w X.K X.mg X.base CX k f fd ps sp) (hr : Room k X.A) (hb : Binds X.K fd ps []) (hx : Passes CX X E) : OpR X (compareOp .In) (rOwnIn C sp E) := by
  intro pins s σ H y x u v Q I ry rx h
  obtain ⟨a, dx, fs, rfl, ha, q⟩ := h
  cases (show v = Value.ref a from rx)
  obtain ⟨od, J⟩ := ins_inst I ha
  obtain ⟨m, hF⟩ := I.fr
  refine PySem.W.in_K hF I.ok.mod.kin J hs hf ?_
  refine wpAny_mono (run_fn (us := [.ref a, u]) (vs := [.ref a, y]) (dvs := []) (ds := []) F hr hb .nil hx I (.cons rfl (.cons ry .nil)) q) (fun w s' z => ?_) fun _ _ x => x
  obtain ⟨z', H', I', rz, b, ez, qz⟩ := z
  subst ez
  cases (show w = Value.bool b from rz)
  exact wpAny_truthy_bool ⟨.bl b, H', I', rfl, qz⟩

/-- an instance's truth -/
def rOwnTru (C : Addr) (sp : Sp) (E : XK) : V → Hp → (Bool → Hp → Prop) → Prop := fun x H Q => ∃ a dx fs, x = .ref a ∧ H a = some (.ins C dx fs) ∧ sp [x] H (fun z H' => ∃ b, z = .bl b ∧ Q b H') E
theorem tru_own (hs : PySem.W.findIn X.K (.ref C) "__bool__" = some (some (.ref f))) (hf : PySem.W.isFn X.K (.ref f) = true)
    (F : FnOk X.prog X.w X.K X.mg X.base CX k f fd ps sp) (hr : Room k X.A) (hb : Binds X.K fd ps []) (hx : Passes CX X E) : TruR X (rOwnTru C sp E) := by
  intro pins s σ H x v Q I rx h
  obtain ⟨a, dx, fs, rfl, ha, q⟩ := h
  cases (show v = Value.ref a from rx)
  obtain ⟨od, J⟩ := ins_inst I ha
  obtain ⟨m, hF⟩ := I.fr
  refine PySem.W.truthy_K hF I.ok.mod.kin J hs hf ?_
  refine wpAny_mono (run_fn (us := [.ref a]) (vs := [.ref a]) (dvs := []) (ds := []) F hr hb .nil hx I (.cons rfl .nil) q) (fun w s' z => ?_) fun _ _ x => x
  obtain ⟨z', H', I', rz, b, ez, qz⟩ := z
  subst ez
  cases (show w = Value.bool b from rz)
  exact ⟨H', I', qz⟩
def tTruR (r : V → Hp → (Bool → Hp → Prop) → Prop) (ta : TE) : TT := fun σ H Q => ta σ H fun x H1 => r x H1 Q
theorem pt_truR {r : V → Hp → (Bool → Hp → Prop) → Prop} {e : Expr} {ta : TE} (hr : TruR X r) (ha : PE X e ta) (he : ∀ whole, isTrue e X.env whole = (do let v ← whole; standAt e.pos; holding [v] (truthy v)) := by intro _; rfl) : PT X e (tTruR r ta) := by
  refine ⟨fun pins s σ H Q I h => ?_⟩
  exact isTrue_plain (thn (ha.run pins s σ H _ I h) fun v s1 ⟨x, H1, I1, r1, q1⟩ => hr pins s1 σ H1 x v Q I1 r1 q1) (he _)
end

section
variable {prog : Program} {w : World} {A : Around} {E : Value → Shared → Prop} {s : Shared}
/-- bool(x) by the truth of x -/
theorem bool_by {v : Value} {Q : Value → Shared → Prop} (h : wpAny (model prog w) A.in1.in1 (truthy v) (fun b s' => Q (.bool b) s') E s) : wpAny (model prog w) A (call (.type "bool") [v]) Q E s := by
  refine callType_codes (T := "bool") (Bi := Builtin.«object.__init__») (Q₁ := fun r s₁ => ∃ b, r = Value.bool b ∧ Q r s₁) PySem.F.called_bool (PySem.F.typeCall_bool_1 _) PySem.F.entry_object_init ?_ ?_
  · refine codeAny_of_tree ?_
    show wpAny _ A.in1.in1 (do checkBuiltinCall "bool.__new__" ⟨[.type "bool", v], []⟩; again (.builtin "bool.__new__" ⟨[.type "bool", v], []⟩)) _ _ s
    refine wpAny_bind (wpAny_of_eq (PySem.F.newCall_bool_1 _) (wpAny_pure ⟨plainId_quiet (by decide +kernel) _, codeAny_builtin PySem.F.entry_bool_new ?_⟩))
    rw [Around.under_plainId (by decide +kernel) _]
    unfold Builtin.«bool.__new__»
    have f1 := PySem.F.conv_sub_bool
    have h' := h
    obtain ⟨hp, g, d, tk, os⟩ := s
    repeat (first | (refine wpAny_bind (m := truthy v) (wpAny_mono h' (fun b s' hb => ?_) fun _ _ y => y)) | wp_step)
    all_goals exact ⟨b, rfl, hb⟩
  · rintro obj s₁ ⟨b, rfl, hq⟩
    exact ⟨PySem.typeIs_bool _ _, PySem.F.args_object_init_2 _ _, object_init_meets PySem.F.called_bool.init.lookup PySem.F.called_bool.made (by decide) prog w A.in1 _ s₁ ⟨PySem.typeIs_bool _ _, rfl, hq⟩⟩
end

section
variable {prog : Program} {w : World} {A : Around} {E : Value → Shared → Prop} {s : Shared} {K : PySem.W.Frag} {x y C f : Addr} {ox : Obj} {od : Option Obj}
theorem objNe_K (X : K.In s.heap) (I : PySem.W.InstAt s.heap x ox C od) (hs : PySem.W.findIn K (.ref C) "__eq__" = some (some (.ref f))) (hf : PySem.W.isFn K (.ref f) = true) (hu : A.units < cLine) {Q : PySem.Fin → Shared → Prop}
    (hcall : wpAny (model prog w) A (call (.ref f) [.ref x, .ref y]) (fun v s' => ∃ b, v = .bool b ∧ Q (.done (.ret (.bool (!b)))) s') E s) :
    wpAny (model prog w) A (Builtin.«object.__ne__» ⟨[.ref x, .ref y], []⟩) Q E s := by
  have hcall' := hcall
  obtain ⟨h, g, d, t, os⟩ := s
  unfold Builtin.«object.__ne__»
  repeat (first
    | with_reducible refine wpAny_cRoomFor hu ?_
    | (refine wpAny_bind (m := callSpecialIfBound? (.ref x) (Str.ofString "__eq__") [.ref y])
        (PySem.W.ifBound_K X I hs hf (wpAny_mono hcall' (fun r s' hr => by
          obtain ⟨b, rfl, hq⟩ := hr
          repeat (first | exact hq | exact wpAny_pure hq | exact wpAny_truthy_bool hq | (refine wpAny_bind (m := truthy (.bool _)) (wpAny_truthy_bool ?_)) | wp_step)) fun _ _ e => e)))
    | wp_step)
theorem ne_K {Q : Value → Shared → Prop} (hu : A.units + 1 < cLine) (X : K.In s.heap) (I : PySem.W.InstAt s.heap x ox C od) (hb : PySem.W.Looks (model prog w) s.heap (typeOf (.ref y)) (.ref C))
    (hn : PySem.W.findIn K (.ref C) "__ne__" = some (some (.builtin "object.__ne__"))) (hm : PySem.W.mroIn K C (.type "object") = some true)
    (hs : PySem.W.findIn K (.ref C) "__eq__" = some (some (.ref f))) (hf : PySem.W.isFn K (.ref f) = true)
    (h : wpAny (model prog w) A.in1 (call (.ref f) [.ref x, .ref y]) (fun v s' => ∃ b, v = .bool b ∧ Q (.bool (!b)) s') E s) : wpAny (model prog w) A (richCompare .NotEq (.ref x) (.ref y)) Q E s := by
  have hcall : wpAny (model prog w) A (call (.builtin "object.__ne__") [.ref x, .ref y]) (fun v s' => ∃ b, v = .bool b ∧ Q v s') E s := by
    refine wpAny_call (codeAny_call_builtin PySem.F.cmp_object.ne.plain PySem.F.cmpEntry_ne (PySem.W.check_slot (i := "object.__ne__") (owner := "object") (n := "__ne__") PySem.F.cmpKind_ne PySem.F.cmpSplit_ne (I.type.andThen (PySem.W.looks_mroIn X hm)) (PySem.F.cmpArgs_ne _ _)
      (objNe_K (A := A.in1) X I hs hf hu (wpAny_mono h (fun v s' hv => ?_) fun _ _ e => e))))
    obtain ⟨b, rfl, hq⟩ := hv
    exact ⟨b, rfl, ⟨_, rfl, hq⟩⟩
  have one : wpAny (model prog w) A (tryCompare (.ref x) "__ne__" (.ref y)) (fun r s' => ∃ v, r = some v ∧ Q v s') E s := by
    unfold tryCompare
    refine wpAny_bind (m := callSpecialIfBound? (.ref x) _ _) ?_
    simp only [callSpecialIfBound?, bindSpecialIfBound?]
    refine wpAny_holding (wpAny_bind (wpAny_bind (wpAny_bind (I.type.here ((PySem.W.looks_findIn X hn).here ?_)))))
    simp only [PySem.F.cmp_object.ne.bind]
    refine wpAny_bind (wpAny_askSetting (wpAny_ite ?_))
    have fin : wpAny (model prog w) A (call (.builtin "object.__ne__") ([.ref x] ++ [.ref y]) >>= fun v => pure (some v)) (fun r s' => ∃ b, r = some (.bool b) ∧ Q (.bool b) s') E s :=
      wpAny_bind (wpAny_mono hcall (fun v s' ⟨b, e, q⟩ => wpAny_pure ⟨b, by rw [e], by rw [← e]; exact q⟩) fun _ _ e => e)
    split
    · refine wpAny_bind (wpAny_pure (wpAny_pure (wpAny_mono fin (fun r s' ⟨b, e, q⟩ => ?_) fun _ _ e => e)))
      subst e
      first | exact wpAny_pure ⟨_, rfl, q⟩ | exact wpAny_pure (wpAny_pure ⟨_, rfl, q⟩)
    · refine wpAny_tryCatch (wpAny_bind (wpAny_pure (wpAny_pure (wpAny_mono fin (fun r s' ⟨b, e, q⟩ => ?_) fun _ _ e => e))))
      subst e
      first | exact wpAny_pure ⟨_, rfl, q⟩ | exact wpAny_pure (wpAny_pure ⟨_, rfl, q⟩)
  unfold richCompare
  simp only [oneThing_ref]
  refine wpAny_holding ?_
  refine wpAny_bind (wpAny_cRoomFor (Nat.lt_of_succ_lt hu) ?_)
  rw [cmpInfo_NotEq]
  dsimp only
  refine wpAny_bind (I.type.here (wpAny_bind (hb.here ?_)))
  rw [show (Value.ref C != Value.ref C) = false from by simp]
  simp only [Bool.false_eq_true, if_false]
  refine wpAny_bind (wpAny_pure ?_)
  simp only [Bool.false_eq_true, if_false]
  refine wpAny_bind (wpAny_mono one (fun r s' z => ?_) fun _ _ e => e)
  obtain ⟨v, rfl, hq⟩ := z
  exact wpAny_pure hq
end

section
variable {X : Cx} {CX : CXT} {pins : List (Addr × Obj)} {σ : L2.St} {H : Hp} {s : Shared} {a C dx f : Addr} {fs : List (Str × V)} {n k : Nat} {sp : Sp} {E : XK} {fd : FuncData} {ps : List Str}
theorem run_fnAt {A : Around} {Q : VK} {us : List Value} {vs : List V} (F : FnOk X.prog X.w X.K X.mg X.base CX k f fd ps sp) (hr : Room k A) (e0 : Env0 X.prog X.w X.K X.mg X.base A X.stack s H) (hb : Binds X.K fd ps []) (hx : Passes CX X E)
    (I : Inv X pins σ H s) (r : Vals vs us) (h : sp vs H Q E) : wpAny (model X.prog X.w) A (call (.ref f) us) (EP X pins σ Q) X.xe s := by
  have hl : (us ++ []).length = ps.length := by rw [List.append_nil, ← r.length]; exact F.len _ _ _ _ h
  have hb' := hb s us I.kIn hl
  rw [List.append_nil] at hb'
  refine wpAny_call (codeAny_mono (F.run A X.stack s H ⟨us, []⟩ us vs Q E hr e0 hb' r h) fun r s' hq => ?_)
  cases r with
  | error e => exact hx pins σ H s e s' I hq
  | ok fl =>
    cases fl with
    | ret u => exact I.after hq
    | next => exact False.elim hq
    | brk => exact False.elim hq
    | cont => exact False.elim hq
/-- bool(x), x an instance -/
def rOwnBool (C : Addr) (sp : Sp) (E : XK) : List V → Hp → VK → Prop := fun xs H Q => ∃ a dx fs, xs = [.ref a] ∧ H a = some (.ins C dx fs) ∧ sp [.ref a] H (fun z H' => ∃ b, z = .bl b ∧ Q (.bl b) H') E
theorem call_boolOwn (hs : PySem.W.findIn X.K (.ref C) "__bool__" = some (some (.ref f))) (hf : PySem.W.isFn X.K (.ref f) = true)
    (F : FnOk X.prog X.w X.K X.mg X.base CX k f fd ps sp) (hr : Room (k + 2) X.A) (hb : Binds X.K fd ps []) (hx : Passes CX X E) : CallR X (.type "bool") (rOwnBool C sp E) := by
  intro pins s σ H xs us Q I r h
  obtain ⟨a, dx, fs, rfl, ha, q⟩ := h
  obtain ⟨u, rfl, ru⟩ := vals1 r
  cases (show u = Value.ref a from ru)
  obtain ⟨od, J⟩ := ins_inst I ha
  obtain ⟨m, hF⟩ := I.fr
  have hr2 : Room k X.A.in1.in1 := (show Room (k + 1) X.A.in1 from Room.in1 hr).in1
  refine bool_by (PySem.W.truthy_K hF I.ok.mod.kin J hs hf ?_)
  refine wpAny_mono (run_fnAt (us := [.ref a]) (vs := [.ref a]) F hr2 I.env0.in1.in1 hb hx I (.cons rfl .nil) q) (fun w s' z => ?_) fun _ _ x => x
  obtain ⟨z', H', I', rz, b, ez, qz⟩ := z
  subst ez
  cases (show w = Value.bool b from rz)
  exact ⟨.bl b, H', I', rfl, qz⟩
/-- x != y by the own == -/
def rOwnNe (C : Addr) (sp : Sp) (E : XK) : R2 := fun x y H Q => ∃ a dx fs b dy gs, x = .ref a ∧ y = .ref b ∧ H a = some (.ins C dx fs) ∧ H b = some (.ins C dy gs) ∧ sp [x, y] H (fun z H' => ∃ k, z = .bl k ∧ Q (.bl (!k)) H') E
theorem op_ownNe (hn : PySem.W.findIn X.K (.ref C) "__ne__" = some (some (.builtin "object.__ne__"))) (hm : PySem.W.mroIn X.K C (.type "object") = some true) (hs : PySem.W.findIn X.K (.ref C) "__eq__" = some (some (.ref f))) (hf : PySem.W.isFn X.K (.ref f) = true)
    (F : FnOk X.prog X.w X.K X.mg X.base CX k f fd ps sp) (hr : Room (k + 1) X.A) (hb : Binds X.K fd ps []) (hx : Passes CX X E) : OpR X (compareOp .NotEq) (rOwnNe C sp E) := by
  intro pins s σ H x y v u Q I rx ry h
  obtain ⟨a, dx, fs, b, dy, gs, rfl, rfl, ha, hb', q⟩ := h
  cases (show v = Value.ref a from rx)
  cases (show u = Value.ref b from ry)
  obtain ⟨od, J⟩ := ins_inst I ha
  obtain ⟨od', J'⟩ := ins_inst I hb'
  show wpAny _ _ (richCompare .NotEq _ _) _ _ _
  refine ne_K (hu_of (hr.mono (Nat.le_refl _))) I.kIn J J'.type hn hm hs hf ?_
  refine wpAny_mono (run_fnAt (us := [.ref a, .ref b]) (vs := [.ref a, .ref b]) F hr.in1 I.env0.in1 hb hx I (.cons rfl (.cons rfl .nil)) q) (fun w s' z => ?_) fun _ _ x => x
  obtain ⟨z', H', I', rz, c, ez, qz⟩ := z
  subst ez
  cases (show w = Value.bool c from rz)
  exact ⟨c, rfl, .bl (!c), H', I', rfl, qz⟩
end
end OwnO

set_option Elab.async false
set_option linter.all false
set_option maxRecDepth 100000
set_option maxHeartbeats 2000000
/-! short words for a whole text: a def or class as it stands, the rules over them, what evaluates to what -/
namespace My
open PySem PySem.Spec PyProof.Rows L2 Evl OwnO

/-- a def of the module x keeps sp -/
structure Has (P : Program) (w : World) (K : PySem.W.Frag) (mg : Str → Option Value) (base : Heap) (CX : CXT) (x : Str) (k : Nat) (ps : List Str) (sp : Sp) : Prop where
  ex : ∃ f fd, FnOk P w K mg base CX k f fd ps sp ∧ mg x = some (.ref f) ∧ PySem.W.keepIn K (.ref f) = true ∧ Binds K fd ps []
/-- a method m of the class at C keeps sp -/
structure HasM (P : Program) (w : World) (K : PySem.W.Frag) (mg : Str → Option Value) (base : Heap) (CX : CXT) (C : Addr) (m : Str) (k : Nat) (ps : List Str) (sp : Sp) : Prop where
  ex : ∃ f fd, FnOk P w K mg base CX k f fd ps sp ∧ PySem.W.findIn K (.ref C) m = some (some (.ref f)) ∧ PySem.W.isFn K (.ref f) = true ∧ PySem.W.keepIn K (.ref f) = true ∧ Binds K fd ps []
/-- a class of the module, an ordinary one -/
structure HasC (K : PySem.W.Frag) (mg : Str → Option Value) (x : Str) (C : Addr) : Prop where
  g : mg x = some (.ref C)
  cl : Cls K C
  mks : PySem.W.makesIn K C = true
  kp : PySem.W.keepIn K (.ref C) = true
  ca : PySem.W.findIn K (.ref C) "__class__" = some (some (.builtin "object.__class__"))
  cn : PySem.W.specialIn K (.builtin "object.__class__") "__get__" = some (some (.builtin "getset_descriptor.__get__"))
  ct : PySem.W.takesIn K (.builtin "object.__class__") = some true
  cm : PySem.W.mroIn K C (.type "object") = some true
  sf : PySem.W.selfFirst K C = true
theorem HasC.ty {K : PySem.W.Frag} {mg : Str → Option Value} {x : Str} {C a dx : Addr} {fs : List (Str × V)} {H : Hp} (c : HasC K mg x C) (h : H a = some (.ins C dx fs)) : TyX K H (.ref a) (.ref C) :=
  .base (.ins h c.cl c.ca c.cn c.ct c.cm)

section
variable {X : Cx} {CX : CXT} {k : Nat} {C : Addr} {ps : List Str} {sp : Sp} {E : XK} {x m : Str} {p pos apos : Pos} {e o : Expr} {es : List Expr} {ta : TE} {t : TA}
theorem pe_callH (h : Has X.prog X.w X.K X.mg X.base CX x k ps sp) (hr : Room k X.A) (hx : Passes CX X E) (ha : PA X (e :: es) t) (hg : Gl X x := by rfl)
    (hdb : (x == ("__debug__" : Str)) = false := by decide) (he : starEach (e :: es) X.env = (false, eval e X.env) :: starEach es X.env := by rfl) (hpl : (backTo pos (starEach es X.env)).any (·.1) = false := by rfl) :
    PE X (.Call (.Name x p) (e :: es) [] pos) (tCall sp [] E t) := by
  obtain ⟨f, fd, F, hm, hk, hb⟩ := h.ex
  exact pe_call F hr hg hm hk hb .nil hx ha hdb he hpl
theorem pe_makeH (c : HasC X.K X.mg x C) (h : HasM X.prog X.w X.K X.mg X.base CX C "__init__" k ps sp) (hr : Room (k + 1) X.A) (hx : Passes CX X E) (ha : PA X (e :: es) t) (hg : Gl X x := by rfl)
    (hdb : (x == ("__debug__" : Str)) = false := by decide) (he : starEach (e :: es) X.env = (false, eval e X.env) :: starEach es X.env := by rfl) (hpl : (backTo pos (starEach es X.env)).any (·.1) = false := by rfl) :
    PE X (.Call (.Name x p) (e :: es) [] pos) (tMake C sp [] E t) := by
  obtain ⟨f, fd, F, hm, hi, hk, hb⟩ := h.ex
  exact pe_make ⟨c.mks, hm, hi, c.kp⟩ F hr hg c.g hb .nil hx ha hdb he hpl
theorem pe_methH {pl : Sem Bool} (he : PE X o ta) (c : Cls X.K C) (h : HasM X.prog X.w X.K X.mg X.base CX C m k ps sp) (hr : Room k X.A) (hx : Passes CX X E) (ha : PA X (e :: es) t)
    (hst : starEach (e :: es) X.env = (false, eval e X.env) :: starEach es X.env := by rfl) (hpl : (backTo pos (starEach es X.env)).any (·.1) = false := by rfl)
    (ht : eval (.Call (.Attribute o m apos) (e :: es) [] pos) X.env = (do
      let ov ← eval o X.env
      standAt apos.atName
      let (f, first) ← holding [ov] (getMethod ov m pl)
      callWith pos f first (backTo pos (starEach (e :: es) X.env)) (backToKw pos (keywordEach [] X.env))) := by rfl) :
    PE X (.Call (.Attribute o m apos) (e :: es) [] pos) (tMeth C m sp [] E ta t) := by
  obtain ⟨f, fd, F, hm, hi, hk, hb⟩ := h.ex
  exact pe_meth he c ⟨hm, hi, hk⟩ F hr hb .nil hx ha hst hpl ht
theorem pe_methH0 {pl : Sem Bool} (he : PE X o ta) (c : Cls X.K C) (h : HasM X.prog X.w X.K X.mg X.base CX C m k ps sp) (hr : Room k X.A) (hx : Passes CX X E)
    (ht : eval (.Call (.Attribute o m apos) [] [] pos) X.env = (do
      let ov ← eval o X.env
      standAt apos.atName
      let (f, first) ← holding [ov] (getMethod ov m pl)
      callWith pos f first (backTo pos (starEach [] X.env)) (backToKw pos (keywordEach [] X.env))) := by rfl) :
    PE X (.Call (.Attribute o m apos) [] [] pos) (tMeth C m sp [] E ta tNil) := by
  obtain ⟨f, fd, F, hm, hi, hk, hb⟩ := h.ex
  exact pe_meth0 he c ⟨hm, hi, hk⟩ F hr hb .nil hx ht
theorem op_binH {op : Operator} (c : HasC X.K X.mg x C) (h : HasM X.prog X.w X.K X.mg X.base CX C (PySem.dunder op.info.2) k ps sp) (hr : Room k X.A) (hx : Passes CX X E) : OpR X (binaryOp op) (rOwn2 C sp E) := by
  obtain ⟨f, fd, F, hm, hi, hk, hb⟩ := h.ex
  exact op_ownBin c.sf hm hi F hr hb hx
theorem op_cmpH {op : CmpOp} (hop : ∀ a b, compareOp op a b = richCompare op a b) (h : HasM X.prog X.w X.K X.mg X.base CX C (cmpInfo op).2.1 k ps sp) (hr : Room k X.A) (hx : Passes CX X E) : OpR X (compareOp op) (rOwn2 C sp E) := by
  obtain ⟨f, fd, F, hm, hi, hk, hb⟩ := h.ex
  exact op_ownCmp hop hm hi F hr hb hx
theorem op_inH (h : HasM X.prog X.w X.K X.mg X.base CX C "__contains__" k ps sp) (hr : Room k X.A) (hx : Passes CX X E) : OpR X (compareOp .In) (rOwnIn C sp E) := by
  obtain ⟨f, fd, F, hm, hi, hk, hb⟩ := h.ex
  exact op_ownIn hm hi F hr hb hx
theorem tru_H (h : HasM X.prog X.w X.K X.mg X.base CX C "__bool__" k ps sp) (hr : Room k X.A) (hx : Passes CX X E) : TruR X (rOwnTru C sp E) := by
  obtain ⟨f, fd, F, hm, hi, hk, hb⟩ := h.ex
  exact tru_own hm hi F hr hb hx
theorem call_boolH (h : HasM X.prog X.w X.K X.mg X.base CX C "__bool__" k ps sp) (hr : Room (k + 2) X.A) (hx : Passes CX X E) : CallR X (.type "bool") (rOwnBool C sp E) := by
  obtain ⟨f, fd, F, hm, hi, hk, hb⟩ := h.ex
  exact call_boolOwn hm hi F hr hb hx
theorem op_neH (c : HasC X.K X.mg x C) (hn : PySem.W.findIn X.K (.ref C) "__ne__" = some (some (.builtin "object.__ne__"))) (h : HasM X.prog X.w X.K X.mg X.base CX C "__eq__" k ps sp) (hr : Room (k + 1) X.A) (hx : Passes CX X E) : OpR X (compareOp .NotEq) (rOwnNe C sp E) := by
  obtain ⟨f, fd, F, hm, hi, hk, hb⟩ := h.ex
  exact op_ownNe hn c.cm hm hi F hr hb hx
end

/-! ### what evaluates to what, by a word -/
def EvP (te : TE) (σ : L2.St) (H : Hp) (P : V → Hp → Prop) : Prop := ∀ H1, Ex H H1 → ∀ Q : VK, (∀ v H2, Ex H1 H2 → P v H2 → Q v H2) → te σ H1 Q
def rInt1 : List V → Hp → VK → Prop := fun xs H Q => (∃ i, xs = [.int i] ∧ Q (.int i) H) ∨ ∃ k, xs = [.bl k] ∧ Q (.int (if k then 1 else 0)) H
theorem call_int' {X : Cx} : CallR X (.type "int") rInt1 := call_int1
def rMaxI : List V → Hp → VK → Prop := fun xs H Q => ∃ i j, xs = [.int i, .int j] ∧ Q (.int (if j > i then j else i)) H
def rMinI : List V → Hp → VK → Prop := fun xs H Q => ∃ i j, xs = [.int i, .int j] ∧ Q (.int (if j < i then j else i)) H
theorem call_max' {X : Cx} (hc : X.calm = true) : CallR X (.builtin "max") rMaxI := call_max2 hc
theorem call_min' {X : Cx} (hc : X.calm = true) : CallR X (.builtin "min") rMinI := call_min2 hc
def rLen' (K : PySem.W.Frag) : List V → Hp → VK → Prop := fun xs H Q => ∃ x n, xs = [x] ∧ LenV K x H n ∧ Q (.int n) H
theorem call_len' {X : Cx} : CallR X (.builtin "len") (rLen' X.K) := call_len
section
variable {K : PySem.W.Frag} {σ : L2.St} {H H' : Hp} {ta tb tc te tx : TE} {t u : TT} {x y z v : V} {r r' : R2} {D : Ends} {tu tw tz : TS} {P P' : V → Hp → Prop}
theorem ex_at {a : Addr} {o : HO} (e : Ex H H') (h : H a = some o) : H' a = some o := e a o h
theorem EvP.mono (e : Ex H H') (h : EvP te σ H P) : EvP te σ H' P := fun H1 a Q q => h H1 (e.trans a) Q q
theorem EvP.imp (h : EvP te σ H P) (hp : ∀ v H1, Ex H H1 → P v H1 → P' v H1) : EvP te σ H P' := fun H1 a Q q => h H1 a Q fun v H2 e2 p => q v H2 e2 (hp v H2 (a.trans e2) p)
theorem evp_of (h : Ev te σ H v) : EvP te σ H fun w _ => w = v := fun H1 e Q q => h H1 e Q fun H2 e2 => q v H2 e2 rfl
theorem ev_of (h : EvP te σ H fun w _ => w = v) : Ev te σ H v := fun H1 e Q q => h H1 e Q fun w H2 e2 p => by
  rw [p]
  exact q H2 e2
theorem rc_int {i : Int} : RC rInt1 [.int i] H (.int i) := fun H1 _ _ q => .inl ⟨i, rfl, q H1 (Ex.refl H1)⟩
theorem rc_max {i j : Int} : RC rMaxI [.int i, .int j] H (.int (if j > i then j else i)) := fun H1 _ _ q => ⟨i, j, rfl, q H1 (Ex.refl H1)⟩
theorem rc_min {i j : Int} : RC rMinI [.int i, .int j] H (.int (if j < i then j else i)) := fun H1 _ _ q => ⟨i, j, rfl, q H1 (Ex.refl H1)⟩
theorem ev_int {i : Int} (h : Ev ta σ H (.int i)) : Ev (tCB rInt1 (tCons ta tNil)) σ H (.int i) := ev_cb (ea_cons h ea_nil) rc_int
theorem ev_max {i j : Int} (h : Ev ta σ H (.int i)) (h' : Ev tb σ H (.int j)) : Ev (tCB rMaxI (tCons ta (tCons tb tNil))) σ H (.int (if j > i then j else i)) := ev_cb (ea_cons h (ea_cons h' ea_nil)) rc_max
theorem ev_min {i j : Int} (h : Ev ta σ H (.int i)) (h' : Ev tb σ H (.int j)) : Ev (tCB rMinI (tCons ta (tCons tb tNil))) σ H (.int (if j < i then j else i)) := ev_cb (ea_cons h (ea_cons h' ea_nil)) rc_min
theorem ev_lenL {p : Addr} {xs : List V} (ha : Ev ta σ H (.ref p)) (h : SqL K H p xs) : Ev (tCB (rLen' K) (tCons ta tNil)) σ H (.int (xs.length : Int)) := fun H1 e Q q =>
  ha H1 e _ fun H2 e2 => ⟨.ref p, xs.length, rfl, .inl ⟨xs, ex_l (e.trans e2) h, rfl⟩, q H2 e2⟩
theorem ev_lenT {p : Addr} {xs : List V} (ha : Ev ta σ H (.ref p)) (h : SqT K H p xs) : Ev (tCB (rLen' K) (tCons ta tNil)) σ H (.int (xs.length : Int)) := fun H1 e Q q =>
  ha H1 e _ fun H2 e2 => ⟨.ref p, xs.length, rfl, .inr ⟨xs, ex_t (e.trans e2) h, rfl⟩, q H2 e2⟩
/-- a < b < c -/
theorem ev_chain {b1 b2 : Bool} (ha : Ev ta σ H x) (hb : Ev tb σ H y) (hr : RV r x y H (.bl b1)) (hc : b1 = true → Ev tc σ H z) (hr' : b1 = true → RV r' y z H (.bl b2)) : Ev (tChain r r' ta tb tc) σ H (.bl (b1 && b2)) := fun H1 e Q q =>
  ha H1 e _ fun H2 e2 => hb H2 (e.trans e2) _ fun H3 e3 => hr H3 ((e.trans e2).trans e3) _ fun H4 e4 => ⟨b1, rfl, by
    cases b1 with
    | true =>
      show tc σ H4 _
      exact hc rfl H4 (((e.trans e2).trans e3).trans e4) _ fun H5 e5 => hr' rfl H5 ((((e.trans e2).trans e3).trans e4).trans e5) _ fun H6 e6 => q H6 ((((e2.trans e3).trans e4).trans e5).trans e6)
    | false =>
      show Q (.bl false) H4
      exact q H4 ((e2.trans e3).trans e4)⟩
/-- an attribute of an instance -/
theorem ev_fld {a C dx : Addr} {fs : List (Str × V)} {f : Str} (h : Ev ta σ H (.ref a)) (ho : H a = some (.ins C dx fs)) (hc : Cls K C) (hn : NoAttr K C f) (hl : fs.lookup f = some v) : Ev (tFld K ta f) σ H v := fun H1 e Q q =>
  h H1 e _ fun H2 e2 => ⟨a, C, dx, fs, v, rfl, e2 a _ (e a _ ho), hc, hn, hl, q H2 e2⟩
/-- a call by what its promise gives -/
theorem evp_call {sp : Sp} {dvs vs : List V} {E : XK} {tA : TA} (h : EvA tA σ H vs) (hs : ∀ H1, Ex H H1 → ∀ Q : VK, (∀ v H2, Ex H1 H2 → P v H2 → Q v H2) → sp (vs ++ dvs) H1 Q E) : EvP (tCall sp dvs E tA) σ H P := fun H1 e Q q =>
  h H1 e _ fun H2 e2 => hs H2 (e.trans e2) Q fun v H3 e3 p => q v H3 (e2.trans e3) p
theorem evp_op {P : V → Hp → Prop} (ha : Ev ta σ H x) (hb : Ev tb σ H y) (hr : ∀ H1, Ex H H1 → ∀ Q : VK, (∀ v H2, Ex H1 H2 → P v H2 → Q v H2) → r x y H1 Q) : EvP (tOp r ta tb) σ H P := fun H1 e Q q =>
  ha H1 e _ fun H2 e2 => hb H2 (e.trans e2) _ fun H3 e3 => hr H3 ((e.trans e2).trans e3) Q fun v H4 e4 p => q v H4 ((e2.trans e3).trans e4) p
theorem evp_make {sp : Sp} {dvs vs : List V} {E : XK} {C : Addr} {tA : TA} (h : EvA tA σ H vs) (hs : ∀ H1, Ex H H1 → ∀ x dx, H1 x = none → H1 dx = none → dx ≠ x → ∀ Q : VK, (∀ v H2, Ex H1 H2 → P v H2 → Q v H2) →
    sp (.ref x :: (vs ++ dvs)) (upd (upd H1 dx (.own x)) x (.ins C dx [])) (fun v H2 => v = .non ∧ Q (.ref x) H2) E) : EvP (tMake C sp dvs E tA) σ H P := fun H1 e Q q =>
  h H1 e _ fun H2 e2 => fun x dx hx hdx ne => hs H2 (e.trans e2) x dx hx hdx ne Q fun v H3 e3 p => q v H3 (e2.trans e3) p
theorem evp_if {b : Bool} (h : EvT t σ H b) (h1 : b = true → EvP ta σ H P) (h2 : b = false → EvP tb σ H P) : EvP (tIf t ta tb) σ H P := fun H1 e Q q => h H1 e _ fun H2 e2 => by
  cases b with
  | true =>
    show ta σ H2 Q
    exact h1 rfl H2 (e.trans e2) Q fun v H3 e3 p => q v H3 (e2.trans e3) p
  | false =>
    show tb σ H2 Q
    exact h2 rfl H2 (e.trans e2) Q fun v H3 e3 p => q v H3 (e2.trans e3) p
/-- a test that is a value's truth by an own rule -/
theorem et_truR {b : Bool} {rt : V → Hp → (Bool → Hp → Prop) → Prop} (h : Ev ta σ H x) (hr : ∀ H1, Ex H H1 → ∀ Q : Bool → Hp → Prop, (∀ H2, Ex H1 H2 → Q b H2) → rt x H1 Q) : EvT (tTruR rt ta) σ H b := fun H1 e Q q =>
  h H1 e _ fun H2 e2 => hr H2 (e.trans e2) Q fun H3 e3 => q H3 (e2.trans e3)
/-- statements by a word -/
theorem s_asgP {i : Nat} (h : EvP te σ H P) (k : ∀ v H1, Ex H H1 → P v H1 → D.nx (σ.set i (some v)) H1) : tAsg te (gName i) D σ H := h H (Ex.refl H) _ fun v H1 e p => k v H1 e p
theorem s_retP (h : EvP te σ H P) (k : ∀ v H1, Ex H H1 → P v H1 → D.rt v H1) : tRet te D σ H := h H (Ex.refl H) _ k
theorem s_dropP (h : EvP te σ H P) (k : ∀ v H1, Ex H H1 → P v H1 → D.nx σ H1) : tDrop te D σ H := h H (Ex.refl H) _ fun v H1 e p => k v H1 e p
theorem q_asgP {i : Nat} (h : EvP te σ H P) (k : ∀ v H1, Ex H H1 → P v H1 → tz D (σ.set i (some v)) H1) : tSeq (tAsg te (gName i)) tz D σ H := s_asgP (D := { D with nx := tz D }) h k
/-- an if both of whose ways are told apart -/
theorem q_if' {b : Bool} (h : EvT t σ H b) (h1 : b = true → ∀ H1, Ex H H1 → tu { D with nx := tz D } σ H1) (h2 : b = false → ∀ H1, Ex H H1 → tw { D with nx := tz D } σ H1) : tSeq (tIfS t tu tw) tz D σ H := q_if h h1 h2
theorem s_fld {a C dx : Addr} {fs : List (Str × V)} {f : Str} (hv : Ev te σ H y) (ha : Ev ta σ H (.ref a)) (ho : H a = some (.ins C dx fs)) (hc : Cls K C) (hn : NoAttr K C f) (hl : fs.length < 1000)
    (k : ∀ H1, Ex H H1 → D.nx σ (upd H1 a (.ins C dx (putF f y fs)))) : sFld K ta te f D σ H := hv H (Ex.refl H) _ fun H1 e1 => ha H1 e1 _ fun H2 e2 => ⟨a, C, dx, fs, rfl, (e1.trans e2) a _ ho, hc, hn, hl, k H2 (e1.trans e2)⟩
theorem q_fld {a C dx : Addr} {fs : List (Str × V)} {f : Str} (hv : Ev te σ H y) (ha : Ev ta σ H (.ref a)) (ho : H a = some (.ins C dx fs)) (hc : Cls K C) (hn : NoAttr K C f) (hl : fs.length < 1000)
    (k : ∀ H1, Ex H H1 → tz D σ (upd H1 a (.ins C dx (putF f y fs)))) : tSeq (sFld K ta te f) tz D σ H := s_fld (D := { D with nx := tz D }) hv ha ho hc hn hl k
/-- a value by cases of a test that is an int's comparison -/
theorem ev_ifI {b : Bool} {x y : V} (h : EvT t σ H b) (h1 : Ev ta σ H x) (h2 : Ev tb σ H y) : Ev (tIf t ta tb) σ H (if b = true then x else y) := ev_if h (fun e => by rw [e]; exact h1) (fun e => by rw [e]; exact h2)
/-- isinstance -/
theorem ev_isi {c : V} {ty cu : Value} {b : Bool} (ha : Ev ta σ H x) (hb : Ev tb σ H c) (hc : ClsV c cu) (ht : ∀ H1, Ex H H1 → TyX K H1 x ty) (hk : PySem.W.kitOne K ty cu = some b) : Ev (tCB (rIsi K) (tCons ta (tCons tb tNil))) σ H (.bl b) := fun H1 e Q q =>
  ha H1 e _ fun H2 e2 => hb H2 (e.trans e2) _ fun H3 e3 => ⟨x, c, ty, cu, b, rfl, hc, ht H3 ((e.trans e2).trans e3), hk, q H3 (e2.trans e3)⟩
theorem kit_self {K : PySem.W.Frag} {t : Value} : PySem.W.kitOne K t t = some true := by
  unfold PySem.W.kitOne
  rw [if_pos (beq_self_eq_true _)]
theorem ev_isi_int {i : Int} (ha : Ev ta σ H (.int i)) (hb : Ev tb σ H (.ty "int")) : Ev (tCB (rIsi K) (tCons ta (tCons tb tNil))) σ H (.bl true) := ev_isi ha hb (.ty _) (fun _ _ => .base (.int i)) kit_self
theorem ev_isi_ib {i : Int} (ha : Ev ta σ H (.int i)) (hb : Ev tb σ H (.ty "bool")) : Ev (tCB (rIsi K) (tCons ta (tCons tb tNil))) σ H (.bl false) := ev_isi ha hb (.ty _) (fun _ _ => .base (.int i)) (kit_ty (by decide +kernel))
theorem ev_isi_own {a C dx : Addr} {fs : List (Str × V)} {mg : Str → Option Value} {n : Str} (c : HasC K mg n C) (h : H a = some (.ins C dx fs)) (ha : Ev ta σ H (.ref a)) (hb : Ev tb σ H (.ref C)) : Ev (tCB (rIsi K) (tCons ta (tCons tb tNil))) σ H (.bl true) :=
  ev_isi ha hb (.own _) (fun _ e => c.ty (e a _ h)) kit_self
theorem ev_isi_lst {a : Addr} {xs : List V} (h : H a = some (.lst xs)) (ha : Ev ta σ H (.ref a)) (hb : Ev tb σ H (.ty "list")) : Ev (tCB (rIsi K) (tCons ta (tCons tb tNil))) σ H (.bl true) := ev_isi ha hb (.ty _) (fun _ e => .base (.lst (e a _ h))) kit_self
theorem ev_isi_tup {a : Addr} {xs : List V} (h : H a = some (.tup xs)) (ha : Ev ta σ H (.ref a)) (hb : Ev tb σ H (.ty "tuple")) : Ev (tCB (rIsi K) (tCons ta (tCons tb tNil))) σ H (.bl true) := ev_isi ha hb (.ty _) (fun _ e => .base (.tup (e a _ h))) kit_self
end
end My

set_option Elab.async false
set_option linter.all false
set_option maxRecDepth 100000
set_option maxHeartbeats 2000000
/-! several except clauses, some with a name; calls and operators that may raise, at the caller's slots -/
namespace My
open PySem PySem.Spec PyProof.Rows L2 Evl OwnO
abbrev SuiteT := Addr → Value → Option Addr → TS
/-- the ends of a suite whose clause has a name in slot i -/
def unEnds (D : Ends) (i : Nat) : Ends := { nx := fun σ' H' => D.nx (σ'.set i none) H', rt := D.rt, bk := fun σ' H' => D.bk (σ'.set i none) H', ct := fun σ' H' => D.ct (σ'.set i none) H' }
def wManyN (K : PySem.W.Frag) (Wout : WX) (D : Ends) : List (Value × Option Nat × SuiteT) → WX
  | [] => Wout
  | (c, none, ts) :: r => fun cls d σ H => ∃ b, PySem.W.exmOne K cls c = some b ∧ (b = true → ∀ a, H a = none → ts a cls d D σ H) ∧ (b = false → wManyN K Wout D r cls d σ H)
  | (c, some i, ts) :: r => fun cls d σ H => ∃ b, PySem.W.exmOne K cls c = some b ∧ (b = true → ∀ a, H a = none → ts a cls d (unEnds D i) (σ.set i (some (.ref a))) H) ∧ (b = false → wManyN K Wout D r cls d σ H)
inductive HdsN (X : Cx) : List ExceptHandler → List (Value × Option Nat × SuiteT) → Prop
  | nil : HdsN X [] []
  | cons {x : Str} {c : Value} {ts : SuiteT} {b₀ : Stmt} {suite : List Stmt} {np pos' : Pos} {hds : List ExceptHandler} {l : List (Value × Option Nat × SuiteT)} (hc : Names X x c)
      (hsu : ∀ (a : Addr) (oe : Obj) (cls : Value) (d : Option Addr) (pn : List (Addr × Obj)), Zc cls d oe → (∃ vs, oe.data = .fields vs) → PSs (X.suite a ((a, oe) :: pn)) (b₀ :: suite) (ts a cls d)) (r : HdsN X hds l) :
      HdsN X (.ExceptHandler (some (.Name x np)) none (b₀ :: suite) pos' :: hds) ((c, none, ts) :: l)
  | consAs {x n : Str} {c : Value} {i : Nat} {ts : SuiteT} {b₀ : Stmt} {suite : List Stmt} {np pos' : Pos} {hds : List ExceptHandler} {l : List (Value × Option Nat × SuiteT)} (hc : Names X x c) (hN : X.N.Nodup) (hi : X.N[i]? = some n) (hln : X.env.kindOf n = some .local)
      (hsu : ∀ (a : Addr) (oe : Obj) (cls : Value) (d : Option Addr) (pn : List (Addr × Obj)), Zc cls d oe → (∃ vs, oe.data = .fields vs) → PSs (X.suite a ((a, oe) :: pn)) (b₀ :: suite) (ts a cls d)) (r : HdsN X hds l) :
      HdsN X (.ExceptHandler (some (.Name x np)) (some n) (b₀ :: suite) pos' :: hds) ((c, some i, ts) :: l)
section
variable {X : Cx} {body : List Stmt} {h₀ : ExceptHandler} {hds : List ExceptHandler} {l : List (Value × Option Nat × SuiteT)} {pos : Pos} {tb : WX → TS} {Wout : WX}
theorem ps_tryN (hs : X.stack = X.env :: X.outer) (hf : X.env.frame = some X.env.locals) (tk : Takes X Wout)
    (hb : ∀ (W : WX) (pn : List (Addr × Obj)) (xe : Value → Shared → Prop), Takes (X.tr pn xe) W → PassesOwn (model X.prog X.w) X.A X.env xe → PSs (X.tr pn xe) body (tb W))
    (hh : HdsN X (h₀ :: hds) l) : PS X (.Try body (h₀ :: hds) [] [] pos) (fun D σ H => tb (wManyN X.K Wout D l) D σ H) := by
  refine ⟨fun pins s σ H D I h => ?_⟩
  have ok := I.ok
  have hfr : X.A.frames = some (X.env :: X.outer) := by rw [ok.frames, hs]
  refine wpAny_Try_except ?_
  refine wpAny_mono ((hb (wManyN X.K Wout D l) (X.pn ++ pins) (fun e s₁ => wpAny (model X.prog X.w) X.A (noteFrame e X.env) (fun _ s₂ => wpAny (model X.prog X.w) X.A (setFlight e none) (fun _ s₃ =>
    wpAny (model X.prog X.w) X.A (handleBy e X.env (h₀ :: hds)) (SP X pins D) X.xe s₃) X.xe s₂) X.xe s₁) (fun u s' xx => ?_) PassesOwn.looking).run [] s σ H D (I.toTry _) h) (fun f s1 hsp => ?_) (fun e s1 he => he)
  · obtain ⟨a, B, sI, pins', σ', H', cls, d, rfl, J', nb, up, sky, na, os, ag, w⟩ := xx
    have J : Inv X pins σ' H' sI := J'.ofTry ok
    have sky' : Sky B (X.env :: X.outer) a (Zc cls d) X.env.locals s'.heap := by rw [← hs]; exact sky
    show wpAny (model X.prog X.w) X.A (noteFrame (.ref a) X.env) _ _ _
    refine Sky.land Zc.steady hfr hf sky' fun h3 fl3 up3 => ?_
    have J3 : Inv X pins σ' H' { s' with heap := h3 } := J.landed nb fl3.1 (up.trans up3) os ag
    obtain ⟨oe3, vs3, he3, hz3, hd3⟩ := fl3.there
    have notFr : ∀ {h : Heap} {o : Obj} {vs : Array Value}, h.FunFrames B (X.env :: X.outer) → h.get? a = some o → o.data = .fields vs → a ∉ frs (X.env :: X.outer) := fun {h o vs} ff e dd hm => by
      obtain ⟨_, o', e', hnf⟩ := ff.mem hm
      rw [e] at e'; cases e'
      exact hnf _ dd
    have nfr := notFr fl3.2.2.1 he3 hd3
    have nL : a ≠ X.env.locals := fun z => nfr (List.mem_filterMap.mpr ⟨X.env, List.mem_cons_self, by rw [hf, z]⟩)
    have nF : a ∉ X.fs := fun hm => by
      obtain ⟨e, he, q⟩ := List.mem_filterMap.mp hm
      exact nfr (List.mem_filterMap.mpr ⟨e, List.mem_cons_of_mem _ he, q⟩)
    have S3 := J3.suite he3 hd3 na nL nF
    have go : ∀ {hds' : List ExceptHandler} {l' : List (Value × Option Nat × SuiteT)}, HdsN X hds' l' → wManyN X.K Wout D l' cls d σ' H' →
        wpAny (model X.prog X.w) X.A (handleBy (.ref a) X.env hds') (SP X pins D) X.xe { s' with heap := h3 } := by
      intro hds' l' hk
      induction hk with
      | nil =>
        intro w
        refine wpAny_handleBy_nil ?_
        obtain ⟨k1, k2, k3, oe, vs, T, oT, ts', he, hz, hd, h1, hr⟩ := id fl3
        unfold PySem.passOn
        refine wpAny_bind (wpAny_field he hd h1 ?_)
        rw [if_neg (show ¬ ((Value.ref T == Value.none) = true) from by simp)]
        have fin : wpAny (model X.prog X.w) X.A (setFlight (.ref a) X.env.frame) (fun _ s4 => wpAny (model X.prog X.w) X.A (throw (.ref a) : Sem Flow) (SP X pins D) X.xe s4) X.xe { s' with heap := h3 } := by
          rw [hf]
          refine HandSPX.setFlight_upZ fl3 fun h4 hh4 up4 => wpAny_throw (tk _ _ ?_)
          exact ⟨a, B, sI, pins, σ', H', cls, d, rfl, J, nb, (up.trans up3).trans up4, .inr (.inr (by rw [hs]; exact hh4)), na, os, ag, w⟩
        first
          | exact wpAny_bind (wpAny_pure (wpAny_bind fin))
          | exact wpAny_bind fin
      | @cons x c ts b₀ suite np pos' hds2 l2 hc hsu r ih =>
        intro w
        obtain ⟨b, hb1, hyes, hno⟩ := w
        refine wpAny_handleBy_cons (codeAny_handlers_test ?_) (by intro q; cases q)
        have LT : PySem.W.Looks (model X.prog X.w) h3 (typeOf (.ref a)) cls := fun A Q E s k q => wpAny_typeOf_ref (k _ _ he3) (by rw [hz3.1]; exact q)
        have LM := PySem.W.exm_one (M := model X.prog X.w) (J3.kIn) LT hb1
        have test : ∀ {Q : Value → Shared → Prop} {E : Value → Shared → Prop}, Q c { s' with heap := h3 } → wpAny (model X.prog X.w) (X.A.mark (some (.ref a))) (eval (.Name x np) X.env) Q E { s' with heap := h3 } := fun {Q E} q => by
          obtain ⟨hg, hdbg, hm | ⟨hm, hv, hnn⟩⟩ := hc
          · exact ld_glob (X := X.suite a ((a, oe3) :: (X.pn ++ pins))) S3 hg hm q hdbg
          · exact ld_blt (X := X.suite a ((a, oe3) :: (X.pn ++ pins))) S3 hg hm hv q hnn hdbg
        refine test (LM.here ?_)
        cases b with
        | true =>
          refine codeAny_handlers_suite ?_
          refine HandSPX.lands_againZ fl3 fun h4 fl4 up4 => ?_
          have J4 : Inv X pins σ' H' { s' with heap := h4 } := J.landed nb fl4.1 ((up.trans up3).trans up4) os ag
          obtain ⟨oe4, vs4, he4, hz4, hd4⟩ := fl4.there
          have S4 := J4.suite he4 hd4 na nL nF
          refine wpAny_mono ((hsu a oe4 cls d (X.pn ++ pins) hz4 ⟨_, hd4⟩).run [] _ _ H' _ S4 (hyes rfl a na)) (fun f s6 hsp => ?_) (fun _ _ z => False.elim z)
          cases f with
          | next =>
            obtain ⟨σ6, H6, S6, q6⟩ := hsp
            exact ⟨_, _, S6.unsuite ok, q6⟩
          | brk =>
            obtain ⟨σ6, H6, S6, q6⟩ := hsp
            exact ⟨_, _, S6.unsuite ok, q6⟩
          | cont =>
            obtain ⟨σ6, H6, S6, q6⟩ := hsp
            exact ⟨_, _, S6.unsuite ok, q6⟩
          | ret u =>
            obtain ⟨v6, σ6, H6, S6, r6, q6⟩ := hsp
            exact ⟨_, _, _, S6.unsuite ok, r6, q6⟩
        | false =>
          show wpAny _ X.A (handleBy (.ref a) X.env hds2) _ _ _
          exact ih (hno rfl)
      | @consAs x n c i ts b₀ suite np pos' hds2 l2 hc hN hi hln hsu r ih =>
        intro w
        obtain ⟨b, hb1, hyes, hno⟩ := w
        refine wpAny_handleBy_cons (codeAny_handlers_test ?_) (by intro q; cases q)
        have LT : PySem.W.Looks (model X.prog X.w) h3 (typeOf (.ref a)) cls := fun A Q E s k q => wpAny_typeOf_ref (k _ _ he3) (by rw [hz3.1]; exact q)
        have LM := PySem.W.exm_one (M := model X.prog X.w) (J3.kIn) LT hb1
        have test : ∀ {Q : Value → Shared → Prop} {E : Value → Shared → Prop}, Q c { s' with heap := h3 } → wpAny (model X.prog X.w) (X.A.mark (some (.ref a))) (eval (.Name x np) X.env) Q E { s' with heap := h3 } := fun {Q E} q => by
          obtain ⟨hg, hdbg, hm | ⟨hm, hv, hnn⟩⟩ := hc
          · exact ld_glob (X := X.suite a ((a, oe3) :: (X.pn ++ pins))) S3 hg hm q hdbg
          · exact ld_blt (X := X.suite a ((a, oe3) :: (X.pn ++ pins))) S3 hg hm hv q hnn hdbg
        refine test (LM.here ?_)
        cases b with
        | true =>
          refine codeAny_handlers_suite_as ?_
          refine HandSPX.lands_againZ fl3 fun h4 fl4 up4 => ?_
          have J4 : Inv X pins σ' H' { s' with heap := h4 } := J.landed nb fl4.1 ((up.trans up3).trans up4) os ag
          obtain ⟨oe4, vs4, he4, hz4, hd4⟩ := fl4.there
          have S4 := J4.suite he4 hd4 na nL nF
          refine store_ok (X := X.suite a ((a, oe4) :: (X.pn ++ pins))) (v := .ref a) S4 hN hi (.inl hln) rfl (fun s5 S5 => ?_) (.inr hln)
          refine wpAny_mono ((hsu a oe4 cls d (X.pn ++ pins) hz4 ⟨_, hd4⟩).run [] s5 _ H' _ S5 (hyes rfl a na)) (fun f s6 hsp => ?_) (fun _ _ z => False.elim z)
          have end_ : ∀ {σ6 : L2.St} {H6 : Hp} {Q : Shared → Prop}, Inv (X.suite a ((a, oe4) :: (X.pn ++ pins))) [] σ6 H6 s6 → (∀ s7, Inv X pins (σ6.set i none) H6 s7 → Q s7) →
              wpAny (model X.prog X.w) X.A (do bindName X.env n .none; unbindBehindTheSuite X.env n pos') (fun _ s7 => Q s7) X.xe s6 := fun {σ6 H6 Q} S6 hq => gone_ok (S6.unsuite ok) hN hi hln hq
          cases f with
          | next =>
            obtain ⟨σ6, H6, S6, q6⟩ := hsp
            exact end_ S6 fun s7 J7 => ⟨_, _, J7, q6⟩
          | brk =>
            obtain ⟨σ6, H6, S6, q6⟩ := hsp
            exact end_ S6 fun s7 J7 => ⟨_, _, J7, q6⟩
          | cont =>
            obtain ⟨σ6, H6, S6, q6⟩ := hsp
            exact end_ S6 fun s7 J7 => ⟨_, _, J7, q6⟩
          | ret u =>
            obtain ⟨v6, σ6, H6, S6, r6, q6⟩ := hsp
            exact end_ S6 fun s7 J7 => ⟨_, _, _, J7, r6, q6⟩
        | false =>
          show wpAny _ X.A (handleBy (.ref a) X.env hds2) _ _ _
          exact ih (hno rfl)
    exact go hh w
  · cases f with
    | next =>
      obtain ⟨σ', H', J', q⟩ := hsp
      exact wpAny_execs_nil ⟨σ', H', J'.ofTry ok, q⟩
    | brk =>
      obtain ⟨σ', H', J', q⟩ := hsp
      exact ⟨σ', H', J'.ofTry ok, q⟩
    | cont =>
      obtain ⟨σ', H', J', q⟩ := hsp
      exact ⟨σ', H', J'.ofTry ok, q⟩
    | ret u =>
      obtain ⟨v, σ', H', J', r, q⟩ := hsp
      exact ⟨v, σ', H', J'.ofTry ok, r, q⟩
end

/-! ### calls that may raise, the wish at the slots -/
def tMethS (C : Addr) (m : Str) (sp : Sp) (E : L2.St → XK) (ta : TE) (t : TA) : TE := fun σ H Q => ta σ H fun x H1 => ∃ a dx fs, x = .ref a ∧ H1 a = some (.ins C dx fs) ∧ fs.lookup m = none ∧ t σ H1 fun vs H2 => sp (x :: vs) H2 Q (E σ)
def tBinS (C : Addr) (sp : Sp) (E : L2.St → XK) (ta tb : TE) : TE := fun σ H Q => ta σ H fun x H1 => tb σ H1 fun y H2 => ∃ a dx fs b dy gs, x = .ref a ∧ y = .ref b ∧ H2 a = some (.ins C dx fs) ∧ H2 b = some (.ins C dy gs) ∧ sp [x, y] H2 Q (E σ)
section
variable {X : Cx} {CX : CXT} {k : Nat} {C : Addr} {ps : List Str} {sp : Sp} {E : L2.St → XK} {x m : Str} {p pos apos : Pos} {e o : Expr} {es : List Expr} {ta tb : TE} {t : TA}
theorem pe_callHS (h : Has X.prog X.w X.K X.mg X.base CX x k ps sp) (hr : Room k X.A) (hx : ∀ σ, PassesAt CX X σ (E σ)) (ha : PA X (e :: es) t) (hg : Gl X x := by rfl)
    (hdb : (x == ("__debug__" : Str)) = false := by decide) (he : starEach (e :: es) X.env = (false, eval e X.env) :: starEach es X.env := by rfl) (hpl : (backTo pos (starEach es X.env)).any (·.1) = false := by rfl) :
    PE X (.Call (.Name x p) (e :: es) [] pos) (tCallS sp E t) := by
  obtain ⟨f, fd, F, hm, hk, hb⟩ := h.ex
  exact pe_callS F hr hg hm hk hb hx ha hdb he hpl
theorem pe_methHS {pl : Sem Bool} (he : PE X o ta) (c : Cls X.K C) (h : HasM X.prog X.w X.K X.mg X.base CX C m k ps sp) (hr : Room k X.A) (hx : ∀ σ, PassesAt CX X σ (E σ)) (ha : PA X (e :: es) t)
    (hst : starEach (e :: es) X.env = (false, eval e X.env) :: starEach es X.env := by rfl) (hpl : (backTo pos (starEach es X.env)).any (·.1) = false := by rfl)
    (ht : eval (.Call (.Attribute o m apos) (e :: es) [] pos) X.env = (do
      let ov ← eval o X.env
      standAt apos.atName
      let (f, first) ← holding [ov] (getMethod ov m pl)
      callWith pos f first (backTo pos (starEach (e :: es) X.env)) (backToKw pos (keywordEach [] X.env))) := by rfl) :
    PE X (.Call (.Attribute o m apos) (e :: es) [] pos) (tMethS C m sp E ta t) := by
  obtain ⟨f, fd, F, hmm, hi, hk, hb⟩ := h.ex
  have hm : Meth X.K C m f := ⟨hmm, hi, hk⟩
  refine ⟨fun pins s σ H Q I h => ?_⟩
  refine PySem.W.methodCall_KW (pl := pl) (thn (he.run pins s σ H _ I h) fun u s1 ⟨x, H1, I1, rx, a, dx, fs, ex, ea, l, q⟩ => ?_) ht
  subst ex
  obtain rfl : u = Value.ref a := rx
  refine getmeth_ok I1 ea c hm l ?_
  refine PySem.W.callWith_K (first := [.ref a]) (h₀ := X.base) I.ok.mod.kin hm.kp (thn (ha.run pos pins s1 σ H1 _ I1 q) fun us s2 ⟨vs, H2, I2, r, q2⟩ => ⟨I2.kIn, ?_⟩) hst hpl
  exact run_fnS (us := .ref a :: us) (vs := .ref a :: vs) F hr hb (hx σ) I2 (.cons rfl r) q2
theorem pe_binHS {a b : Expr} {op : Operator} {nm : Str} (c : HasC X.K X.mg nm C) (h : HasM X.prog X.w X.K X.mg X.base CX C (PySem.dunder op.info.2) k ps sp) (hr : Room k X.A) (hx : ∀ σ, PassesAt CX X σ (E σ)) (ha : PE X a ta) (hb : PE X b tb) :
    PE X (.BinOp a op b pos) (tBinS C sp E ta tb) := by
  obtain ⟨f, fd, F, hm, hi, hk, hbb⟩ := h.ex
  refine ⟨fun pins s σ H Q I h => ?_⟩
  refine wpAny_BinOp (binT ha hb I h fun v u s2 x y H2 I2 rx ry q => ?_)
  obtain ⟨a, dx, fs, b, dy, gs, rfl, rfl, ha', hb', q⟩ := q
  cases (show v = Value.ref a from rx)
  cases (show u = Value.ref b from ry)
  obtain ⟨od, J⟩ := ins_inst I2 ha'
  obtain ⟨od', J'⟩ := ins_inst I2 hb'
  obtain ⟨m, hF⟩ := I2.fr
  refine PySem.W.binop_K hF I.ok.mod.kin J J'.type c.sf hm hi ?_
  refine wpAny_mono (run_fnS (us := [.ref a, .ref b]) (vs := [.ref a, .ref b]) F hr hbb (hx σ) I2 (.cons rfl (.cons rfl .nil)) q) (fun w s' z => ?_) fun _ _ x => x
  obtain ⟨z', H', I', rz, qz⟩ := z
  exact SlX.cmpback rz ⟨z', H', I', rz, qz⟩
end
/-- isinstance(e, c) in a suite, whatever the exception's class -/
def rIsE' (K : PySem.W.Frag) (cls : Value) (d : Option Addr) (D a : Addr) : List V → Hp → VK → Prop := fun xs H Q => cls = .ref D ∧ d = none ∧ rIsE K D a xs H Q
theorem call_isE' {X : Cx} {a D : Addr} {cls : Value} {d : Option Addr} {oe : Obj} {pn : List (Addr × Obj)} (C : ExcC X.K D) (hz : Zc cls d oe) (hf : ∃ vs, oe.data = .fields vs) : CallR (X.suite a ((a, oe) :: pn)) (.builtin "isinstance") (rIsE' X.K cls d D a) := by
  intro pins s σ H xs us Q I r h
  obtain ⟨rfl, rfl, h⟩ := h
  exact call_isE C hz hf pins s σ H xs us Q I r h
/-- an error class of the module -/
structure ErrC (K : PySem.W.Frag) (mg : Str → Option Value) (x : Str) (C : Addr) : Prop where
  g : mg x = some (.ref C)
  xi : PySem.W.excIn K C [.type "ValueError", .type "Exception", .type "BaseException", .type "object"] "ValueError.__new__" = true
  kp : PySem.W.keepIn K (.ref C) = true
  sb : PySem.W.subIn K (.ref C) (.type "BaseException") = some true
  ty : PySem.W.typeIn K (.ref C) = some (.type "type")

/-! ### arguments, tuples, lists, comprehensions by a word -/
def MonV (P : V → Hp → Prop) : Prop := ∀ v H1 H2, Ex H1 H2 → P v H1 → P v H2
def MonL (P : List V → Hp → Prop) : Prop := ∀ v H1 H2, Ex H1 H2 → P v H1 → P v H2
def EvAP (ta : TA) (σ : L2.St) (H : Hp) (P : List V → Hp → Prop) : Prop := ∀ H1, Ex H H1 → ∀ Q : List V → Hp → Prop, (∀ vs H2, Ex H1 H2 → P vs H2 → Q vs H2) → ta σ H1 Q
section
variable {K : PySem.W.Frag} {σ : L2.St} {H H' : Hp} {ta tb tc te tx tl : TE} {tA tr : TA} {t u tt : TT} {x y z v : V} {r r' : R2} {D : Ends} {tu tw tz : TS} {P P' : V → Hp → Prop} {R R' : List V → Hp → Prop}
theorem eap_nil : EvAP tNil σ H fun vs _ => vs = [] := fun H1 _ _ q => q [] H1 (Ex.refl H1) rfl
theorem eap_cons (hm : MonV P) (h : EvP te σ H P) (hr : EvAP tr σ H R) : EvAP (tCons te tr) σ H fun vs H => ∃ v r, vs = v :: r ∧ P v H ∧ R r H := fun H1 e Q q =>
  h H1 e _ fun v H2 e2 p => hr H2 (e.trans e2) _ fun vs H3 e3 pr => q _ H3 (e2.trans e3) ⟨v, vs, rfl, hm v H2 H3 e3 p, pr⟩
theorem eap_of {vs : List V} (h : EvA tA σ H vs) : EvAP tA σ H fun ws _ => ws = vs := fun H1 e Q q => h H1 e Q fun H2 e2 => q vs H2 e2 rfl
theorem EvAP.imp (h : EvAP tA σ H R) (hp : ∀ vs H1, Ex H H1 → R vs H1 → R' vs H1) : EvAP tA σ H R' := fun H1 a Q q => h H1 a Q fun v H2 e2 p => q v H2 e2 (hp v H2 (a.trans e2) p)
theorem evp_tupP (h : EvAP tA σ H R) (hm : MonL R) (hl : ∀ vs H, R vs H → vs.length ≤ 100000) : EvP (tTup tA) σ H fun v H => ∃ p vs, v = .ref p ∧ H p = some (.tup vs) ∧ R vs H := fun H1 e Q q =>
  h H1 e _ fun vs H2 e2 p => ⟨sz_of (hl vs H2 p), fun a ha => q _ _ (e2.trans (Ex.new ha)) ⟨a, vs, rfl, upd_same, hm vs _ _ (Ex.new ha) p⟩⟩
theorem evp_lstP (h : EvAP tA σ H R) (hm : MonL R) (hl : ∀ vs H, R vs H → vs.length ≤ 100000) : EvP (tLst tA) σ H fun v H => ∃ p vs, v = .ref p ∧ H p = some (.lst vs) ∧ R vs H := fun H1 e Q q =>
  h H1 e _ fun vs H2 e2 p => ⟨sz_of (hl vs H2 p), fun a ha => q _ _ (e2.trans (Ex.new ha)) ⟨a, vs, rfl, upd_same, hm vs _ _ (Ex.new ha) p⟩⟩
theorem evp_tup {vs : List V} (h : EvA tA σ H vs) (hl : vs.length ≤ 100000) : EvP (tTup tA) σ H fun v H => ∃ p, v = .ref p ∧ H p = some (.tup vs) := fun H1 e Q q =>
  h H1 e _ fun H2 e2 => ⟨sz_of hl, fun a ha => q _ _ (e2.trans (Ex.new ha)) ⟨a, rfl, upd_same⟩⟩
theorem evp_lst {vs : List V} (h : EvA tA σ H vs) (hl : vs.length ≤ 100000) : EvP (tLst tA) σ H fun v H => ∃ p, v = .ref p ∧ H p = some (.lst vs) := fun H1 e Q q =>
  h H1 e _ fun H2 e2 => ⟨sz_of hl, fun a ha => q _ _ (e2.trans (Ex.new ha)) ⟨a, rfl, upd_same⟩⟩
/-- a word of each item of a list -/
def Items (S : Nat → V → Hp → Prop) (n : Nat) (ys : List V) (H : Hp) : Prop := ys.length = n ∧ ∀ i y, ys[i]? = some y → S i y H
theorem Items.mono {S : Nat → V → Hp → Prop} (hm : ∀ i, MonV (S i)) {n : Nat} {ys : List V} (e : Ex H H') (h : Items S n ys H) : Items S n ys H' := ⟨h.1, fun i y hi => hm i y H H' e (h.2 i y hi)⟩
/-- a word that no list's change touches -/
def MutV (P : V → Hp → Prop) : Prop := ∀ v H (a : Addr) (xs ys : List V), H a = some (.lst xs) → P v H → P v (upd H a (.lst ys))
theorem mut_ins {C a dx p : Addr} {fs : List (Str × V)} {xs ys : List V} (h : H a = some (.lst xs)) (hp : H p = some (.ins C dx fs)) : upd H a (.lst ys) p = some (.ins C dx fs) := by
  rw [upd_ne (fun z => by rw [z, h] at hp; cases hp)]
  exact hp
theorem mut_tup {a p : Addr} {us xs ys : List V} (h : H a = some (.lst xs)) (hp : H p = some (.tup us)) : upd H a (.lst ys) p = some (.tup us) := by
  rw [upd_ne (fun z => by rw [z, h] at hp; cases hp)]
  exact hp
/-- [e for x in xs] over a list that stands, each new item by a word -/
theorem evp_lc {a : Addr} {xs : List V} {j : Nat} {vs : List Nat} (S : Nat → V → Hp → Prop) (hm : ∀ i, MonV (S i)) (hu : ∀ i, MutV (S i)) (h : Ev tl σ H (.ref a)) (hx : SqL K H a xs) (hz : xs.length ≤ 40000) (hw : ∀ x, wipe ((wipe σ vs).set j (some x)) vs = wipe σ vs)
    (he : ∀ (i : Nat) (x : V) H1, Ex H H1 → xs[i]? = some x → EvP te ((wipe σ vs).set j (some x)) H1 (S i)) :
    EvP (tLc (iList K tl) (gName j) tYes te vs) σ H fun v H => ∃ p ys, v = .ref p ∧ H p = some (.lst ys) ∧ Items S xs.length ys H := fun H0 e Q q => h H0 e _ fun H1 e1 => ⟨a, rfl, ⟨xs, ex_l (e.trans e1) hx⟩, fun Dl hD =>
  lc_list (xs := xs) (fun i H' => H1 Dl = none ∧ Ex H1 H' ∧ ∃ ys, H' Dl = some (.lst ys) ∧ Items S i ys H') ⟨hD, Ex.new hD, [], upd_same, rfl, fun i y hi => by simp at hi⟩ (fun i H' _ p => ex_l ((e.trans e1).trans p.2.1) hx)
    (fun i x H' hi ⟨p1, p2, ys, p3, p4⟩ => ⟨hw x, he i x H' ((e.trans e1).trans p2) hi H' (Ex.refl H') _ fun y H4 e4 hy => ⟨ys, e4 Dl _ p3, sz_lt (by have := (List.getElem?_eq_some_iff.mp hi).1; have := p4.1; omega), p1, Ex.mut (p2.trans e4) p1, ys ++ [y], upd_same, by rw [List.length_append, p4.1]; rfl, fun k w hk => by
      have hd := e4 Dl _ p3
      refine hu k w H4 Dl ys _ hd ?_
      rcases Nat.lt_or_ge k ys.length with c | c
      · rw [List.getElem?_append_left c] at hk
        exact hm k w H' H4 e4 (p4.2 k w hk)
      · rw [List.getElem?_append_right c] at hk
        have hk0 : k - ys.length = 0 := by
          rcases Nat.eq_zero_or_pos (k - ys.length) with z | z
          · exact z
          · rw [List.getElem?_eq_none (by simp; omega)] at hk
            cases hk
        rw [hk0] at hk
        have ew : y = w := by simpa using hk
        have ek : k = i := by have := p4.1; omega
        rw [ek, ← ew]
        exact hy⟩⟩)
    (fun H' ⟨p1, p2, ys, p3, p4⟩ => q _ H' (e1.trans p2) ⟨Dl, ys, rfl, p3, p4⟩)⟩
/-! ### the same for sequences compared -/
theorem eqv2 (a b c d : Int) : PyData.eqv (.tuple [.int a, .int b]) (.tuple [.int c, .int d]) = (decide (a = c) && decide (b = d)) := by
  have h1 : (a == c) = decide (a = c) := rfl
  have h2 : (b == d) = decide (b = d) := rfl
  simp only [PyData.eqv, PyData.eqvAll, Bool.and_true]
  first | rfl | rw [h1, h2]
theorem dp2 {p : Addr} {a b : Int} (h : SqT K H p [.int a, .int b]) : Dp K H (.ref p) (.tuple [.int a, .int b]) := .tup h (.cons (.int a) (.cons (.int b) .nil))
theorem shaped2 (a b : Int) : SeqAt.shaped (.tuple [.int a, .int b]) = true := by
  simp [SeqAt.shaped, PyData.canLay0, PyData.canLayAll0, PyData.depth, PyData.depthAll]
theorem rv_eq2 {p q : Addr} {a b c d : Int} (h : SqT K H p [.int a, .int b]) (h' : SqT K H q [.int c, .int d]) : RV (rEqD K) (.ref p) (.ref q) H (.bl (decide (a = c) && decide (b = d))) := fun H1 e Q k =>
  ⟨_, _, dp2 (ex_t e h), dp2 (ex_t e h'), shaped2 a b, shaped2 c d, by rw [eqv2]; exact k H1 (Ex.refl H1)⟩
theorem rv_ne2 {p q : Addr} {a b c d : Int} (h : SqT K H p [.int a, .int b]) (h' : SqT K H q [.int c, .int d]) : RV (rNeD K) (.ref p) (.ref q) H (.bl (!(decide (a = c) && decide (b = d)))) := fun H1 e Q k =>
  ⟨_, _, dp2 (ex_t e h), dp2 (ex_t e h'), shaped2 a b, shaped2 c d, by rw [eqv2]; exact k H1 (Ex.refl H1)⟩
theorem rv_lt2 {p q : Addr} {a b c d : Int} (h : SqT K H p [.int a, .int b]) (h' : SqT K H q [.int c, .int d]) : RV (rLtT K) (.ref p) (.ref q) H (.bl (HT.lexLt [a, b] [c, d])) := fun H1 e Q k =>
  ⟨p, q, [a, b], [c, d], rfl, rfl, ex_t e h, ex_t e h', k H1 (Ex.refl H1)⟩
def leT2 (a b c d : Int) : Bool := Ob.lexAt (fun j => decide (([a, b] : List Int).getD j 0 = ([c, d] : List Int).getD j 0)) (fun j => decide (([a, b] : List Int).getD j 0 ≤ ([c, d] : List Int).getD j 0)) (decide (([a, b] : List Int).length ≤ ([c, d] : List Int).length)) 0 (min ([a, b] : List Int).length ([c, d] : List Int).length)
theorem rv_le2 {p q : Addr} {a b c d : Int} (h : SqT K H p [.int a, .int b]) (h' : SqT K H q [.int c, .int d]) : RV (rLeT K) (.ref p) (.ref q) H (.bl (leT2 a b c d)) := fun H1 e Q k =>
  ⟨p, q, [a, b], [c, d], rfl, rfl, ex_t e h, ex_t e h', k H1 (Ex.refl H1)⟩
end

/-! ### the rules with the written part said by name (within a comprehension's block the context is another, its written part the same) -/
section
variable {X : Cx} {e f1 l tg : Expr} {ta te tl : TE} {pos : Pos} {f : Str}
theorem pe_fldK (K : PySem.W.Frag) (he : PE X e ta) (hb : attributeBase e f X.env (eval e X.env) = eval e X.env := by rfl) (hK : X.K = K := by rfl) : PE X (.Attribute e f pos) (tFld K ta f) := by subst hK; exact pe_fld he hb
theorem ix_listK (K : PySem.W.Frag) (hK : X.K = K := by rfl) : IxR X (rIxL K) := by subst hK; exact ix_list
theorem ix_tupK (K : PySem.W.Frag) (hK : X.K = K := by rfl) : IxR X (rIxT K) := by subst hK; exact ix_tup
theorem sl_listK (K : PySem.W.Frag) (hK : X.K = K := by rfl) : SlR X (rSlL K) := by subst hK; exact sl_list
theorem sl_tupK (K : PySem.W.Frag) (hK : X.K = K := by rfl) : SlR X (rSlT K) := by subst hK; exact sl_tup
theorem op_eqDK (K : PySem.W.Frag) (hu : X.A.units + 64 < cLine) (hK : X.K = K := by rfl) : OpR X (compareOp .Eq) (rEqD K) := by subst hK; exact op_eqD hu
theorem op_neDK (K : PySem.W.Frag) (hu : X.A.units + 64 < cLine) (hK : X.K = K := by rfl) : OpR X (compareOp .NotEq) (rNeD K) := by subst hK; exact op_neD hu
theorem op_ltTK (K : PySem.W.Frag) (hu : X.A.units < cLine) (hK : X.K = K := by rfl) : OpR X (compareOp .Lt) (rLtT K) := by subst hK; exact op_ltT hu
theorem op_leTK (K : PySem.W.Frag) (hu : X.A.units < cLine) (hK : X.K = K := by rfl) : OpR X (compareOp .LtE) (rLeT K) := by subst hK; exact op_leT hu
theorem call_lenK (K : PySem.W.Frag) (hK : X.K = K := by rfl) : CallR X (.builtin "len") (rLen' K) := by subst hK; exact call_len
theorem call_isiK' (K : PySem.W.Frag) (hK : X.K = K := by rfl) : CallR X (.builtin "isinstance") (rIsi K) := by subst hK; exact call_isi
theorem pi_listK (K : PySem.W.Frag) (hl : PE X l tl) (hK : X.K = K := by rfl) : PI X tg l (iList K tl) := by subst hK; exact pi_list hl
theorem pi_tupK (K : PySem.W.Frag) (hl : PE X l tl) (hK : X.K = K := by rfl) : PI X tg l (iTup K tl) := by subst hK; exact pi_tup hl
end
theorem kit_own {K : PySem.W.Frag} {C : Addr} {T : String} {r : Bool} (h : PySem.W.subIn K (.ref C) (.type T) = some r) (hm : PySem.W.kitMeta T = true := by decide +kernel) : PySem.W.kitOne K (.ref C) (.type T) = some r := by
  unfold PySem.W.kitOne PySem.W.kitCls
  rw [if_neg (by simp)]
  simp only [hm, if_true]
  exact h
def rIsNon : R2 := fun x y H Q => y = .non ∧ Q (.bl (decide (x = .non))) H
def rNotNon : R2 := fun x y H Q => y = .non ∧ Q (.bl (!decide (x = .non))) H
theorem op_isNon {X : Cx} : OpR X (compareOp .Is) rIsNon := op_isN
theorem op_notNon {X : Cx} : OpR X (compareOp .IsNot) rNotNon := op_notN
section
variable {K : PySem.W.Frag} {σ : L2.St} {H H' : Hp} {ta tb te : TE} {x y z v : V} {D : Ends} {tu tz : TS} {P : V → Hp → Prop}
theorem rv_isNon : RV rIsNon x .non H (.bl (decide (x = .non))) := fun H1 _ _ q => ⟨rfl, q H1 (Ex.refl H1)⟩
theorem rv_notNon : RV rNotNon x .non H (.bl (!decide (x = .non))) := fun H1 _ _ q => ⟨rfl, q H1 (Ex.refl H1)⟩
/-- two lists put together, both standing, or made on the way -/
theorem evp_cat {l : Addr} {xs zs : List V} (ha : Ev ta σ H (.ref l)) (hl : H l = some (.lst xs)) (hb : EvP tb σ H fun v H => ∃ b, v = .ref b ∧ H b = some (.lst zs)) (hz : xs.length + zs.length ≤ 100000) :
    EvP (tOp rCat ta tb) σ H fun v H => ∃ p, v = .ref p ∧ H p = some (.lst (xs ++ zs)) := fun H1 e Q q =>
  ha H1 e _ fun H2 e2 => hb H2 (e.trans e2) _ fun v H3 e3 ⟨b, eb, hb'⟩ => ⟨l, b, xs, zs, rfl, eb, ((e.trans e2).trans e3) l _ hl, hb', sz_of hz, fun p hp => q _ _ ((e2.trans e3).trans (Ex.new hp)) ⟨p, rfl, upd_same⟩⟩
/-- two operands by words -/
theorem evp_op2 {r : R2} {Pa Pb : V → Hp → Prop} (hm : MonV Pa) (ha : EvP ta σ H Pa) (hb : EvP tb σ H Pb) (hr : ∀ x y H1, Ex H H1 → Pa x H1 → Pb y H1 → ∀ Q : VK, (∀ v H2, Ex H1 H2 → P v H2 → Q v H2) → r x y H1 Q) : EvP (tOp r ta tb) σ H P := fun H1 e Q q =>
  ha H1 e _ fun x H2 e2 px => hb H2 (e.trans e2) _ fun y H3 e3 py => hr x y H3 ((e.trans e2).trans e3) (hm x _ _ e3 px) py Q fun v H4 e4 p => q v H4 ((e2.trans e3).trans e4) p
/-- a call whose arguments are by a word -/
theorem evp_callP {sp : Sp} {dvs : List V} {E : XK} {tA : TA} {R : List V → Hp → Prop} (h : EvAP tA σ H R) (hs : ∀ vs H1, Ex H H1 → R vs H1 → ∀ Q : VK, (∀ v H2, Ex H1 H2 → P v H2 → Q v H2) → sp (vs ++ dvs) H1 Q E) : EvP (tCall sp dvs E tA) σ H P := fun H1 e Q q =>
  h H1 e _ fun vs H2 e2 pv => hs vs H2 (e.trans e2) pv Q fun v H3 e3 p => q v H3 (e2.trans e3) p
end
end My

set_option Elab.async false
set_option linter.all false
set_option maxRecDepth 100000
set_option maxHeartbeats 4000000
namespace Toy
open PySem PySem.Spec PyProof.Rows L2 Evl OwnO My
def topS (i : Nat) : Stmt := PySem.Challenge.pw_cutproof_k03_interval_order.main.body.getD i (.Pass ⟨0, 0, 0, 0⟩)
abbrev s_Interval___init__ : Stmt := inClass (topS 5) 0
abbrev N_Interval___init__ : List Str := ["self", "start", "stop", "holds"]
theorem sc_Interval___init__ : FnScope N_Interval___init__ ["self", "start", "stop"] (defScope s_Interval___init__) := ⟨rfl, rfl, rfl, by decide +kernel, rfl, by decide +kernel, by decide +kernel⟩
abbrev s_Interval___eq__ : Stmt := inClass (topS 5) 3
abbrev N_Interval___eq__ : List Str := ["self", "other"]
theorem sc_Interval___eq__ : FnScope N_Interval___eq__ ["self", "other"] (defScope s_Interval___eq__) := ⟨rfl, rfl, rfl, by decide +kernel, rfl, by decide +kernel, by decide +kernel⟩
abbrev s_Interval___lt__ : Stmt := inClass (topS 5) 4
abbrev N_Interval___lt__ : List Str := ["self", "other"]
theorem sc_Interval___lt__ : FnScope N_Interval___lt__ ["self", "other"] (defScope s_Interval___lt__) := ⟨rfl, rfl, rfl, by decide +kernel, rfl, by decide +kernel, by decide +kernel⟩
abbrev s_Interval___le__ : Stmt := inClass (topS 5) 5
abbrev N_Interval___le__ : List Str := ["self", "other"]
theorem sc_Interval___le__ : FnScope N_Interval___le__ ["self", "other"] (defScope s_Interval___le__) := ⟨rfl, rfl, rfl, by decide +kernel, rfl, by decide +kernel, by decide +kernel⟩
abbrev s_Interval_cut : Stmt := inClass (topS 5) 9
abbrev N_Interval_cut : List Str := ["self", "at"]
theorem sc_Interval_cut : FnScope N_Interval_cut ["self", "at"] (defScope s_Interval_cut) := ⟨rfl, rfl, rfl, by decide +kernel, rfl, by decide +kernel, by decide +kernel⟩
abbrev s__law_cell : Stmt := topS 7
abbrev N__law_cell : List Str := ["_law_script", "_law_k"]
theorem sc__law_cell : FnScope N__law_cell ["_law_script", "_law_k"] (defScope s__law_cell) := ⟨rfl, rfl, rfl, by decide +kernel, rfl, by decide +kernel, by decide +kernel⟩
abbrev s__law_base : Stmt := topS 8
abbrev N__law_base : List Str := ["_law_cell_here"]
theorem sc__law_base : FnScope N__law_base ["_law_cell_here"] (defScope s__law_base) := ⟨rfl, rfl, rfl, by decide +kernel, rfl, by decide +kernel, by decide +kernel⟩
abbrev s__law_shift : Stmt := topS 9
abbrev N__law_shift : List Str := ["_law_cell_here"]
theorem sc__law_shift : FnScope N__law_shift ["_law_cell_here"] (defScope s__law_shift) := ⟨rfl, rfl, rfl, by decide +kernel, rfl, by decide +kernel, by decide +kernel⟩
abbrev s__law_four : Stmt := topS 10
abbrev N__law_four : List Str := ["_law_script", "_law_k", "_law_one", "_law_two", "_law_three"]
theorem sc__law_four : FnScope N__law_four ["_law_script", "_law_k"] (defScope s__law_four) := ⟨rfl, rfl, rfl, by decide +kernel, rfl, by decide +kernel, by decide +kernel⟩
abbrev s__law_whole : Stmt := topS 11
abbrev N__law_whole : List Str := ["_law_number"]
theorem sc__law_whole : FnScope N__law_whole ["_law_number"] (defScope s__law_whole) := ⟨rfl, rfl, rfl, by decide +kernel, rfl, by decide +kernel, by decide +kernel⟩
abbrev s__law_fields : Stmt := topS 12
abbrev N__law_fields : List Str := ["_law_interval", "_law_start", "_law_stop"]
theorem sc__law_fields : FnScope N__law_fields ["_law_interval", "_law_start", "_law_stop"] (defScope s__law_fields) := ⟨rfl, rfl, rfl, by decide +kernel, rfl, by decide +kernel, by decide +kernel⟩
abbrev s__law_refused : Stmt := topS 13
abbrev N__law_refused : List Str := ["_law_interval", "_law_at", "e"]
theorem sc__law_refused : FnScope N__law_refused ["_law_interval", "_law_at"] (defScope s__law_refused) := ⟨rfl, rfl, rfl, by decide +kernel, rfl, by decide +kernel, by decide +kernel⟩
abbrev s_law : Stmt := topS 14
abbrev N_law : List Str := ["_law_script", "_law_ends", "_law_last", "_law_pairs", "_law_boxes", "_law_keys", "_law_k", "_law_n", "_law_size", "_law_at", "_law_halves", "_law_pair"]
theorem sc_law : FnScope N_law ["_law_script"] (defScope s_law) := ⟨rfl, rfl, rfl, by decide +kernel, rfl, by decide +kernel, by decide +kernel⟩
structure Txt (K : PySem.W.Frag) (mg : Str → Option Value) (C_Interval C_BadPlace C_Apart C_CutError : Addr) : Prop where
  c_Interval : HasC K mg "Interval" C_Interval
  n_Interval_start : NoAttr K C_Interval "start"
  n_Interval_stop : NoAttr K C_Interval "stop"
  ne_Interval : PySem.W.findIn K (.ref C_Interval) "__ne__" = some (some (.builtin "object.__ne__"))
  e_BadPlace : ErrC K mg "BadPlace" C_BadPlace
  x_BadPlace : ExcC K C_BadPlace
  e_Apart : ErrC K mg "Apart" C_Apart
  e_CutError : ErrC K mg "CutError" C_CutError
  m_BadPlace_Apart : PySem.W.exmOne K (.ref C_BadPlace) (.ref C_Apart) = some false
  m_BadPlace_CutError : PySem.W.exmOne K (.ref C_BadPlace) (.ref C_CutError) = some true
  t_BadPlace_ValueError : PySem.W.kitOne K (.ref C_BadPlace) (.type "ValueError") = some true
  b_ValueError : mg "ValueError" = none
  b_bool : mg "bool" = none
  b_int : mg "int" = none
  b_isinstance : mg "isinstance" = none
  b_len : mg "len" = none
  b_max : mg "max" = none
  b_range : mg "range" = none
  b_tuple : mg "tuple" = none
/-! ### the data -/
def nS (i j : Int) : Int := if i < j then i else 0
def nT (i j : Int) : Int := if i < j then j else 0
def ivF (i j : Int) : List (Str × V) := [(("start" : Str), V.int (nS i j)), (("stop" : Str), V.int (nT i j))]
theorem ne_ss : ¬ (("start" : Str) = "stop") := by decide +kernel
theorem iv_put (x y : V) : putF "stop" y (putF "start" x []) = ([(("start" : Str), x), (("stop" : Str), y)] : List (Str × V)) := by
  show (if ("start" : Str) = "stop" then [(("start" : Str), y)] else (("start" : Str), x) :: putF "stop" y []) = _
  rw [if_neg ne_ss]
  all_goals rfl
theorem iv_start (i j : Int) : (ivF i j).lookup ("start" : Str) = some (V.int (nS i j)) := by unfold ivF; simp [List.lookup]
theorem iv_stop (i j : Int) : (ivF i j).lookup ("stop" : Str) = some (V.int (nT i j)) := by
  unfold ivF
  have h : (("stop" : Str) == ("start" : Str)) = false := by decide +kernel
  simp [List.lookup, h]
def Bx (C : Addr) (i j : Int) (v : V) (H : Hp) : Prop := ∃ p dx, v = .ref p ∧ H p = some (.ins C dx (ivF i j))
theorem Bx.mono {C : Addr} {i j : Int} {v : V} {H H' : Hp} (e : Ex H H') (h : Bx C i j v H) : Bx C i j v H' := by
  obtain ⟨p, dx, h1, h2⟩ := h
  exact ⟨p, dx, h1, e p _ h2⟩
/-! ### the promises -/
def sp_Interval___init__ (K : PySem.W.Frag) (C : Addr) : Sp := fun vs H Q _ => ∃ x dx i j, vs = [.ref x, .int i, .int j] ∧ H x = some (.ins C dx []) ∧ ∀ H' : Hp, H' x = some (.ins C dx (ivF i j)) → (∀ b o, b ≠ x → H b = some o → H' b = some o) → Q .non H'
def mx (i j : Int) : Int := if j > i then j else i
def mn (i j : Int) : Int := if j < i then j else i
def cellZ (ns : List Int) (k : Int) : Int := ns.getD k.toNat 0
def baseZ (c : Int) : Int := if c % 3 = 0 then c / 3 % 13 - 6 else if c % 3 = 1 then c / 3 % 10 ^ (29 : Int).toNat else 0 - c / 3 % 10 ^ (29 : Int).toNat
def shiftZ (c : Int) : Int := if c % 2 = 0 then (c / 2 + 7) % 14 - 4 else c / 2 % 10 ^ (28 : Int).toNat
def sp__law_cell (K : PySem.W.Frag) (C : Addr) : Sp := fun vs H Q _ => ∃ (a : Addr) (k : Int) (ns : List Int), vs = [.ref a, .int k] ∧ 0 ≤ k ∧ SqL K H a (ns.map V.int) ∧ RetV (.int (cellZ ns k)) H Q
theorem spv_cell {K : PySem.W.Frag} {C a : Addr} {k : Int} {ns : List Int} {H : Hp} (h : SqL K H a (ns.map V.int)) (h0 : 0 ≤ k) : SpV (sp__law_cell K C) [.ref a, .int k] H (.int (cellZ ns k)) := fun H1 e Q q E => ⟨a, k, ns, rfl, h0, ex_l e h, q⟩
def sp__law_base (K : PySem.W.Frag) (C : Addr) : Sp := fun vs H Q _ => ∃ c : Int, vs = [.int c] ∧ RetV (.int (baseZ c)) H Q
theorem spv_base {K : PySem.W.Frag} {C : Addr} {c : Int} {H : Hp} : SpV (sp__law_base K C) [.int c] H (.int (baseZ c)) := fun H1 e Q q E => ⟨c, rfl, q⟩
def sp__law_shift (K : PySem.W.Frag) (C : Addr) : Sp := fun vs H Q _ => ∃ c : Int, vs = [.int c] ∧ RetV (.int (shiftZ c)) H Q
theorem spv_shift {K : PySem.W.Frag} {C : Addr} {c : Int} {H : Hp} : SpV (sp__law_shift K C) [.int c] H (.int (shiftZ c)) := fun H1 e Q q E => ⟨c, rfl, q⟩
def sp__law_four (K : PySem.W.Frag) (C : Addr) : Sp := fun vs H Q _ => ∃ (a : Addr) (ns : List Int), vs = [.ref a, .int 0] ∧ SqL K H a (ns.map V.int) ∧ ∀ (e0 e1 e2 e3 : Int) p H', H p = none → Ex H H' → H' p = some (.tup [.int e0, .int e1, .int e2, .int e3]) → Q (.ref p) H'
def sp__law_whole (K : PySem.W.Frag) (C : Addr) : Sp := fun vs H Q _ => ∃ i : Int, vs = [.int i] ∧ RetV (.bl true) H Q
theorem spv_whole {K : PySem.W.Frag} {C : Addr} {c : Int} {H : Hp} : SpV (sp__law_whole K C) [.int c] H (.bl true) := fun H1 e Q q E => ⟨c, rfl, q⟩
def sp__law_fields (K : PySem.W.Frag) (C : Addr) : Sp := fun vs H Q _ => ∃ a dx i j s t, vs = [.ref a, .int s, .int t] ∧ H a = some (.ins C dx (ivF i j)) ∧ RetV (.bl (decide (nS i j = nS s t) && decide (nT i j = nT s t))) H Q

theorem iv_cut (i j : Int) : (ivF i j).lookup ("cut" : Str) = none := by
  unfold ivF
  have h1 : (("cut" : Str) == ("start" : Str)) = false := by decide +kernel
  have h2 : (("cut" : Str) == ("stop" : Str)) = false := by decide +kernel
  simp [List.lookup, h1, h2]
def sp_Interval___eq__ (K : PySem.W.Frag) (C : Addr) : Sp := fun vs H Q _ => ∃ a dx i j b dy k l, vs = [.ref a, .ref b] ∧ H a = some (.ins C dx (ivF i j)) ∧ H b = some (.ins C dy (ivF k l)) ∧ RetV (.bl (decide (nS i j = nS k l) && decide (nT i j = nT k l))) H Q
def sp_Interval___lt__ (K : PySem.W.Frag) (C : Addr) : Sp := fun vs H Q _ => ∃ a dx i j b dy k l, vs = [.ref a, .ref b] ∧ H a = some (.ins C dx (ivF i j)) ∧ H b = some (.ins C dy (ivF k l)) ∧ RetV (.bl (HT.lexLt [nS i j, nT i j] [nS k l, nT k l])) H Q
def sp_Interval___le__ (K : PySem.W.Frag) (C : Addr) : Sp := fun vs H Q _ => ∃ a dx i j b dy k l, vs = [.ref a, .ref b] ∧ H a = some (.ins C dx (ivF i j)) ∧ H b = some (.ins C dy (ivF k l)) ∧ RetV (.bl (leT2 (nS i j) (nT i j) (nS k l) (nT k l))) H Q
/-- both halves -/
def Half (C : Addr) (i m j : Int) (v : V) (H : Hp) : Prop := ∃ p x y, v = .ref p ∧ H p = some (.tup [x, y]) ∧ Bx C i m x H ∧ Bx C m j y H
def sp_Interval_cut (K : PySem.W.Frag) (C B : Addr) : Sp := fun vs H Q E => ∃ a dx i j m, vs = [.ref a, .int m] ∧ H a = some (.ins C dx (ivF i j)) ∧ (¬ (nS i j < m ∧ m < nT i j) → ∀ H', Ex H H' → E (.ref B) none H') ∧ ((nS i j < m ∧ m < nT i j) → ∀ v H', Ex H H' → Half C (nS i j) m (nT i j) v H' → Q v H')
def sp__law_refused (K : PySem.W.Frag) (C : Addr) : Sp := fun vs H Q _ => ∃ a dx i j m, vs = [.ref a, .int m] ∧ H a = some (.ins C dx (ivF i j)) ∧ ¬ (nS i j < m ∧ m < nT i j) ∧ RetV (.bl true) H Q
def sp_law (K : PySem.W.Frag) : Sp := fun vs H Q _ => ∃ (a : Addr) (ns : List Int), vs = [.ref a] ∧ SqL K H a (ns.map V.int) ∧ ∀ H', Q (.bl true) H'
theorem sp_law_holds (K : PySem.W.Frag) {H : Hp} (a : Addr) (ns : List Int) (_ : ns.length ≤ 63) (hS : SqL K H a (ns.map V.int)) : sp_law K [.ref a] H (fun v _ => v = .bl true) fun _ _ _ => False := ⟨a, ns, rfl, hS, fun _ => rfl⟩
/-! ### the reading's own words -/
local macro_rules | `(tactic| walk_at "hp") => `(tactic| first
  | assumption
  | exact upd_same
  | ((with_reducible refine' ex_at ?e ?h); (case e => assumption); (case h => walk_at "hp"))
  | ((with_reducible refine' ex_l ?e ?h); (case e => assumption); (case h => walk_at "hp"))
  | ((with_reducible refine' ex_t ?e ?h); (case e => assumption); (case h => walk_at "hp"))
  | ((with_reducible refine' sq_of ?h); (case h => walk_at "hp"))
  | ((with_reducible refine' st_of ?h); (case h => walk_at "hp")))
local macro_rules | `(tactic| walk_at "at") => `(tactic| first | assumption | exact atI_nat (by assumption) | rfl)
local macro_rules | `(tactic| walk_at "side") => `(tactic| first | assumption | exact ⟨by decide +kernel, by decide +kernel, by decide +kernel⟩ | exact ⟨by decide +kernel, by decide +kernel⟩ | (show (0 : Int) < _; decide +kernel))
local macro_rules | `(tactic| walk_at "rv") => `(tactic| first
  | with_reducible exact rv_I0
  | ((with_reducible refine' rv_I ?c); (case c => walk_at "side"))
  | ((with_reducible refine' rv_eq ?c); (case c => first | rfl | assumption))
  | ((with_reducible refine' rv_ne ?c); (case c => first | rfl | assumption))
  | ((with_reducible refine' rv_ixL ?h ?a); (case h => walk_at "hp"); (case a => walk_at "at"))
  | ((with_reducible refine' rv_ixT ?h ?a); (case h => walk_at "hp"); (case a => walk_at "at"))
  | walk_at "rvx")
local macro_rules | `(tactic| walk_at "rvx") => `(tactic| fail)
local macro_rules | `(tactic| walk_at "evx") => `(tactic| fail)
local macro_rules | `(tactic| walk_at "ev") => `(tactic| first
  | with_reducible exact ev_c
  | ((with_reducible refine' ev_var ?e0); (case e0 => rfl))
  | ((with_reducible refine' ev_int ?e1); (case e1 => walk_at "ev"))
  | ((with_reducible refine' ev_max ?e1 ?e2); (case e1 => walk_at "ev"); (case e2 => walk_at "ev"))
  | ((with_reducible refine' ev_min ?e1 ?e2); (case e1 => walk_at "ev"); (case e2 => walk_at "ev"))
  | ((with_reducible refine' ev_op ?e1 ?e2 ?e3); (case e1 => walk_at "ev"); (case e2 => walk_at "ev"); (case e3 => walk_at "rv"))
  | ((with_reducible refine' ev_fld ?e1 ?e2 ?e3 ?e4 ?e5); (case e1 => walk_at "ev"); (case e2 => walk_at "hp"); (case e3 => assumption); (case e4 => assumption); (case e5 => walk_at "look"))
  | ((with_reducible refine' ev_chain ?e1 ?e2 ?e3 ?e4 ?e5); (case e1 => walk_at "ev"); (case e2 => walk_at "ev"); (case e3 => walk_at "rv"); (case e4 => (intro _; walk_at "ev")); (case e5 => (intro _; walk_at "rv")))
  | ((with_reducible refine' ev_lenL ?e1 ?e2); (case e1 => walk_at "ev"); (case e2 => walk_at "hp"))
  | ((with_reducible refine' ev_lenT ?e1 ?e2); (case e1 => walk_at "ev"); (case e2 => walk_at "hp"))
  | ((with_reducible refine' ev_andV ?e1 ?e2); (case e1 => walk_at "ev"); (case e2 => (intro _; walk_at "ev")))
  | ((with_reducible refine' ev_orV ?e1 ?e2); (case e1 => walk_at "ev"); (case e2 => (intro _; walk_at "ev")))
  | ((with_reducible refine' ev_notV ?e1); (case e1 => walk_at "ev"))
  | ((with_reducible refine' ev_isi_int ?e1 ?e2); (case e1 => walk_at "ev"); (case e2 => with_reducible exact ev_c))
  | ((with_reducible refine' ev_isi_ib ?e1 ?e2); (case e1 => walk_at "ev"); (case e2 => with_reducible exact ev_c))
  | ((with_reducible refine' ev_isi_own ?e0 ?e3 ?e1 ?e2); (case e2 => with_reducible exact ev_c); (case e1 => walk_at "ev"); (case e0 => assumption); (case e3 => walk_at "hp"))
  | ((with_reducible refine' ev_isi_lst ?e3 ?e1 ?e2); (case e1 => walk_at "ev"); (case e2 => with_reducible exact ev_c); (case e3 => walk_at "hp"))
  | ((with_reducible refine' ev_isi_tup ?e3 ?e1 ?e2); (case e1 => walk_at "ev"); (case e2 => with_reducible exact ev_c); (case e3 => walk_at "hp"))
  | ((with_reducible refine' ev_call ?e1 ?e2); (case e1 => walk_at "ea"); (case e2 => walk_at "sp"))
  | walk_at "evx")
local macro_rules | `(tactic| walk_at "et") => `(tactic| first
  | ((with_reducible refine' et_test ?e1); (case e1 => walk_at "ev"))
  | ((with_reducible refine' et_B ?e1); (case e1 => walk_at "ev"))
  | ((with_reducible refine' et_not ?e1); (case e1 => walk_at "et"))
  | ((with_reducible refine' et_and ?e1 ?e2); (case e1 => walk_at "et"); (case e2 => (intro _; walk_at "et")))
  | ((with_reducible refine' et_or ?e1 ?e2); (case e1 => walk_at "et"); (case e2 => (intro _; walk_at "et")))
  | walk_at "etx")
local macro_rules | `(tactic| walk_at "etx") => `(tactic| fail)
local macro_rules | `(tactic| walk_at "ea") => `(tactic| first
  | with_reducible exact ea_nil
  | ((with_reducible refine' ea_cons ?e1 ?e2); (case e1 => walk_at "ev"); (case e2 => walk_at "ea")))

local macro_rules | `(tactic| walk_at "ret") => `(tactic| (refine' s_ret ?e1 ?k1; (case e1 => walk_at "ev")))
local macro_rules | `(tactic| walk_at "asg") => `(tactic| (refine' q_asg ?e1 ?k1; (case e1 => walk_at "ev")))
local macro_rules | `(tactic| walk_at "when") => `(tactic| (refine' q_when ?e1 ?k1 ?k2; (case e1 => walk_at "et")))

local macro_rules | `(tactic| walk_at "tup") => `(tactic| (refine' eu_tup ?e1 ?k1; (case e1 => walk_at "ea"); (case k1 => exact Nat.le_of_ble_eq_true rfl)))
local macro_rules | `(tactic| walk_at "retU") => `(tactic| (refine' s_retU ?e1 ?k1; (case e1 => walk_at "tup")))
local macro_rules | `(tactic| walk_at "asgU") => `(tactic| (refine' q_asgU ?e1 ?k1; (case e1 => walk_at "tup")))

local macro_rules | `(tactic| walk_at "whenF") => `(tactic| (refine' q_when (b := false) (et_is ?e1 ?e2) ?k1 ?k2; (case e1 => walk_at "et"); (case k1 => exact fun g => nomatch g)))
local macro_rules | `(tactic| walk_at "swhenF") => `(tactic| (refine' s_when (b := false) (et_is ?e1 ?e2) ?k1 ?k2; (case e1 => walk_at "et"); (case k1 => exact fun g => nomatch g)))

local macro_rules | `(tactic| walk_at "ex") => `(tactic| first
  | assumption
  | exact Ex.refl _
  | ((with_reducible refine' Ex.trans ?e1 ?e2); (case e2 => assumption); (case e1 => walk_at "ex")))
local macro_rules | `(tactic| walk_at "lst") => `(tactic| (refine' el_lst ?e1 ?k1; (case e1 => walk_at "ea"); (case k1 => exact Nat.le_of_ble_eq_true rfl)))

local macro_rules | `(tactic| walk_at "look") => `(tactic| first | exact iv_start _ _ | exact iv_stop _ _)
theorem ev_box {K : PySem.W.Frag} {C : Addr} {σ : L2.St} {H : Hp} {E : XK} {tA : TA} {i j : Int} (h : EvA tA σ H [.int i, .int j]) : EvP (tMake C (sp_Interval___init__ K C) [] E tA) σ H (Bx C i j) :=
  evp_make h fun H1 e1 x dx hx hdx ne Q q => ⟨x, dx, i, j, rfl, upd_same, fun H' hx' hk => ⟨rfl, q (.ref x) H' (fun b o hb => hk b o (fun z => by rw [z, hx] at hb; cases hb) (by rw [upd_ne (fun z => by rw [z, hx] at hb; cases hb), upd_ne (fun z => by rw [z, hdx] at hb; cases hb)]; exact hb)) ⟨x, dx, rfl, hx'⟩⟩⟩
section
variable {P : Program} {w : World} {K : PySem.W.Frag} {mg : Str → Option Value} {base : Heap} {C_Interval C_BadPlace C_Apart C_CutError : Addr}
theorem ok_Interval___init__ (T : Txt K mg C_Interval C_BadPlace C_Apart C_CutError)  {f : Addr} {fd : FuncData} (F : Fun K "__init__" "Interval.__init__" s_Interval___init__ f fd) : FnOk P w K mg base CX0 1 f fd ["self", "start", "stop"] (sp_Interval___init__ K C_Interval) := by
  refine F.ok sc_Interval___init__ (fun vs H Q E h => ?_) (fun cdv A outer s H vs Q E hr h => ?_)
  · obtain ⟨_, _, _, _, rfl, _⟩ := h
    rfl
  · obtain ⟨x, dx, i, j, rfl, hx, k⟩ := h
    refine ⟨_, (pss_cons (ps_set (i := 3) sc_Interval___init__.nd rfl (by first | exact Or.inl rfl | exact Or.inr rfl) (pe_cmpR op_lt (pv 1) (pv 2) (nomark _)))
      (pss_cons (ps_fld (pv 0) (pe_ifExp (pt_val (pv 3)) (pe_callTy call_int' (by rfl) T.b_int (by decide +kernel) (pa_cons (pv 1) pa_nil)) pe_int) rfl)
      (pss_one (ps_fld (pv 0) (pe_ifExp (pt_val (pv 3)) (pe_callTy call_int' (by rfl) T.b_int (by decide +kernel) (pa_cons (pv 2) pa_nil)) pe_int) rfl)))), ?_⟩
    have c1 := T.c_Interval.cl; have n1 := T.n_Interval_start; have n2 := T.n_Interval_stop
    refine q_asg (v := .bl (decide (i < j))) (by walk_at "ev") fun H1 e1 => ?_
    refine q_fld (y := .int (nS i j)) (a := x) (C := C_Interval) (dx := dx) (fs := []) ?_ (by walk_at "ev") (by walk_at "hp") c1 n1 (by decide) fun H2 e2 => ?_
    · refine ev_is (ev_ifI (b := decide (i < j)) (x := .int i) (y := .int 0) (by walk_at "et") (by walk_at "ev") (by walk_at "ev")) ?_
      unfold nS
      by_cases c : i < j <;> simp [c]
    refine s_fld (y := .int (nT i j)) (a := x) (C := C_Interval) (dx := dx) (fs := _) ?_ (by walk_at "ev") upd_same c1 n2 (by show 1 < 1000; decide) fun H3 e3 => ?_
    · refine ev_is (ev_ifI (b := decide (i < j)) (x := .int j) (y := .int 0) (by walk_at "et") (by walk_at "ev") (by walk_at "ev")) ?_
      unfold nT
      by_cases c : i < j <;> simp [c]
    refine k _ ?_ (fun b o nb hb => ?_)
    · rw [upd_same, iv_put]
      rfl
    · rw [upd_ne nb]
      refine e3 b o ?_
      rw [upd_ne nb]
      exact (e1.trans e2) b o hb
theorem ok__law_cell (T : Txt K mg C_Interval C_BadPlace C_Apart C_CutError)  {f : Addr} {fd : FuncData} (F : Fun K "_law_cell" "_law_cell" s__law_cell f fd) : FnOk P w K mg base CX0 1 f fd ["_law_script", "_law_k"] (sp__law_cell K C_Interval) := by
  refine F.ok sc__law_cell (fun vs H Q E h => ?_) (fun cdv A outer s H vs Q E hr h => ?_)
  · obtain ⟨_, _, _, rfl, _⟩ := h
    rfl
  · obtain ⟨a, n, ns, rfl, h0, ha, k⟩ := h
    refine ⟨_, (pss_one (ps_ret (pe_ifExp (pt_cmpR op_lt (pv 1) (pe_callB (call_lenK K) (by rfl) T.b_len (by decide +kernel) (pa_cons (pv 0) pa_nil)) (nomark _)) (pe_callTy call_int' (by rfl) T.b_int (by decide +kernel) (pa_cons (pe_ix (ix_listK K) (pv 0) (pv 1) (fun _ _ => rfl)) pa_nil)) pe_int))), ?_⟩
    obtain ⟨n, rfl⟩ := Int.eq_ofNat_of_zero_le h0
    have hv : cellZ ns (n : Int) = ns.getD n 0 := rfl
    by_cases c : (n : Int) < (ns.length : Int)
    · have hn : n < ns.length := by omega
      have hat : atI (ns.map V.int) (n : Int) = some (V.int ns[n]) := atI_nat (by simp [hn])
      refine s_ret (v := .int ns[n]) (ev_if (b := decide ((n : Int) < (ns.length : Int))) ?_ (fun _ => by walk_at "ev") (fun e => absurd e (by simp [c]))) fun H1 e1 => ?_
      · refine et_is (a := decide ((n : Int) < ((ns.map V.int).length : Int))) (by walk_at "et") (by rw [List.length_map])
      · have e : ns[n] = cellZ ns (n : Int) := by rw [hv]; simp [hn]
        rw [e]
        exact k H1 e1
    · refine s_ret (v := .int 0) (ev_if (b := decide ((n : Int) < (ns.length : Int))) ?_ (fun e => absurd e (by simp [c])) (fun _ => by walk_at "ev")) fun H1 e1 => ?_
      · refine et_is (a := decide ((n : Int) < ((ns.map V.int).length : Int))) (by walk_at "et") (by rw [List.length_map])
      · have hn : ns.length ≤ n := by omega
        have e : (0 : Int) = cellZ ns (n : Int) := by rw [hv]; simp [hn]
        rw [e]
        exact k H1 e1
theorem ok__law_base (T : Txt K mg C_Interval C_BadPlace C_Apart C_CutError)  {f : Addr} {fd : FuncData} (F : Fun K "_law_base" "_law_base" s__law_base f fd) : FnOk P w K mg base CX0 1 f fd ["_law_cell_here"] (sp__law_base K C_Interval) := by
  refine F.ok sc__law_base (fun vs H Q E h => ?_) (fun cdv A outer s H vs Q E hr h => ?_)
  · obtain ⟨_, rfl, _⟩ := h
    rfl
  · obtain ⟨c, rfl, k⟩ := h
    refine ⟨_, (pss_cons (ps_if (pt_cmpR op_eq (pe_op op_mod (pv 0) pe_int) pe_int (nomark _)) (pss_one (ps_ret (pe_op op_sub (pe_op op_mod (pe_op op_fdiv (pv 0) pe_int) pe_int) pe_int))) pss_nil)
      (pss_cons (ps_if (pt_cmpR op_eq (pe_op op_mod (pv 0) pe_int) pe_int (nomark _)) (pss_one (ps_ret (pe_op op_mod (pe_op op_fdiv (pv 0) pe_int) (pe_op op_pow pe_int pe_int)))) pss_nil)
      (pss_one (ps_ret (pe_op op_sub pe_int (pe_op op_mod (pe_op op_fdiv (pv 0) pe_int) (pe_op op_pow pe_int pe_int))))))), ?_⟩
    unfold baseZ at k
    refine q_when (b := decide (V.int (c % 3) = V.int 0)) (by walk_at "et") (fun g H1 e1 => ?_) fun g H1 e1 => ?_
    · walk_at "ret"
      rw [if_pos (by simpa using g)] at k
      exact fun H2 e2 => k H2 (e1.trans e2)
    rw [if_neg (by simpa using g)] at k
    refine q_when (b := decide (V.int (c % 3) = V.int 1)) (by walk_at "et") (fun g H2 e2 => ?_) fun g H2 e2 => ?_
    · walk_at "ret"
      rw [if_pos (by simpa using g)] at k
      exact fun H3 e3 => k H3 ((e1.trans e2).trans e3)
    · walk_at "ret"
      rw [if_neg (by simpa using g)] at k
      exact fun H3 e3 => k H3 ((e1.trans e2).trans e3)
theorem ok__law_shift (T : Txt K mg C_Interval C_BadPlace C_Apart C_CutError)  {f : Addr} {fd : FuncData} (F : Fun K "_law_shift" "_law_shift" s__law_shift f fd) : FnOk P w K mg base CX0 1 f fd ["_law_cell_here"] (sp__law_shift K C_Interval) := by
  refine F.ok sc__law_shift (fun vs H Q E h => ?_) (fun cdv A outer s H vs Q E hr h => ?_)
  · obtain ⟨_, rfl, _⟩ := h
    rfl
  · obtain ⟨c, rfl, k⟩ := h
    refine ⟨_, (pss_cons (ps_if (pt_cmpR op_eq (pe_op op_mod (pv 0) pe_int) pe_int (nomark _)) (pss_one (ps_ret (pe_op op_sub (pe_op op_mod (pe_op op_add (pe_op op_fdiv (pv 0) pe_int) pe_int) pe_int) pe_int))) pss_nil)
      (pss_one (ps_ret (pe_op op_mod (pe_op op_fdiv (pv 0) pe_int) (pe_op op_pow pe_int pe_int))))), ?_⟩
    unfold shiftZ at k
    refine q_when (b := decide (V.int (c % 2) = V.int 0)) (by walk_at "et") (fun g H1 e1 => ?_) fun g H1 e1 => ?_
    · walk_at "ret"
      rw [if_pos (by simpa using g)] at k
      exact fun H2 e2 => k H2 (e1.trans e2)
    · walk_at "ret"
      rw [if_neg (by simpa using g)] at k
      exact fun H3 e3 => k H3 (e1.trans e3)
local macro_rules | `(tactic| walk_at "sp") => `(tactic| first
  | ((refine' spv_cell ?e1 ?e2); (case e1 => walk_at "hp"); (case e2 => first | decide | omega))
  | exact spv_base
  | exact spv_shift
  | exact spv_whole)
theorem ok__law_four (T : Txt K mg C_Interval C_BadPlace C_Apart C_CutError) (h__law_base : Has P w K mg base CX0 "_law_base" 1 ["_law_cell_here"] (sp__law_base K C_Interval)) (h__law_cell : Has P w K mg base CX0 "_law_cell" 1 ["_law_script", "_law_k"] (sp__law_cell K C_Interval)) (h__law_shift : Has P w K mg base CX0 "_law_shift" 1 ["_law_cell_here"] (sp__law_shift K C_Interval)) {f : Addr} {fd : FuncData} (F : Fun K "_law_four" "_law_four" s__law_four f fd) : FnOk P w K mg base CX0 4 f fd ["_law_script", "_law_k"] (sp__law_four K C_Interval) := by
  refine F.ok sc__law_four (fun vs H Q E h => ?_) (fun cdv A outer s H vs Q E hr h => ?_)
  · obtain ⟨_, _, rfl, _⟩ := h
    rfl
  · obtain ⟨a, ns, rfl, ha, k⟩ := h
    refine ⟨_, (pss_cons (ps_set (i := 2) sc__law_four.nd rfl (by first | exact Or.inl rfl | exact Or.inr rfl) (pe_callH h__law_base (hr.mono (by decide)) pass0 (pa_cons (pe_callH h__law_cell (hr.mono (by decide)) pass0 (pa_cons (pv 0) (pa_cons (pv 1) pa_nil))) pa_nil)))
      (pss_cons (ps_set (i := 3) sc__law_four.nd rfl (by first | exact Or.inl rfl | exact Or.inr rfl) (pe_op op_add (pv 2) (pe_callH h__law_shift (hr.mono (by decide)) pass0 (pa_cons (pe_callH h__law_cell (hr.mono (by decide)) pass0 (pa_cons (pv 0) (pa_cons (pe_op op_add (pv 1) pe_int) pa_nil))) pa_nil))))
      (pss_cons (ps_set (i := 4) sc__law_four.nd rfl (by first | exact Or.inl rfl | exact Or.inr rfl) (pe_op op_sub (pe_op op_add (pv 2) (pe_callH h__law_shift (hr.mono (by decide)) pass0 (pa_cons (pe_callH h__law_cell (hr.mono (by decide)) pass0 (pa_cons (pv 0) (pa_cons (pe_op op_add (pv 1) pe_int) pa_nil))) pa_nil))) pe_int))
      (pss_one (ps_ret (pe_tup (pa_cons (pv 2) (pa_cons (pv 3) (pa_cons (pv 4) (pa_cons (pe_op op_add (pv 4) (pe_callH h__law_shift (hr.mono (by decide)) pass0 (pa_cons (pe_callH h__law_cell (hr.mono (by decide)) pass0 (pa_cons (pv 0) (pa_cons (pe_op op_add (pv 1) pe_int) pa_nil))) pa_nil))) pa_nil)))))))))), ?_⟩
    walk_at "asg"
    intro H1 e1
    walk_at "asg"
    intro H2 e2
    walk_at "asg"
    intro H3 e3
    walk_at "retU"
    exact fun p H4 hp e4 h4 => k _ _ _ _ p H4 (fresh_back ((e1.trans e2).trans e3) hp) (((e1.trans e2).trans e3).trans e4) h4
theorem ok__law_whole (T : Txt K mg C_Interval C_BadPlace C_Apart C_CutError)  {f : Addr} {fd : FuncData} (F : Fun K "_law_whole" "_law_whole" s__law_whole f fd) : FnOk P w K mg base CX0 1 f fd ["_law_number"] (sp__law_whole K C_Interval) := by
  refine F.ok sc__law_whole (fun vs H Q E h => ?_) (fun cdv A outer s H vs Q E hr h => ?_)
  · obtain ⟨_, rfl, _⟩ := h
    rfl
  · obtain ⟨c, rfl, k⟩ := h
    refine ⟨_, (pss_one (ps_ret (pe_and (pe_callB (call_isiK' K) (by rfl) T.b_isinstance (by decide +kernel) (pa_cons (pv 0) (pa_cons (pe_bltn (v := .ty "int") (u := .type "int") (by rfl) T.b_int (by decide +kernel) (by rfl)) pa_nil))) (pe_one (pe_not (pe_callB (call_isiK' K) (by rfl) T.b_isinstance (by decide +kernel) (pa_cons (pv 0) (pa_cons (pe_bltn (v := .ty "bool") (u := .type "bool") (by rfl) T.b_bool (by decide +kernel) (by rfl)) pa_nil)))))))), ?_⟩
    walk_at "ret"
    exact fun H1 e1 => k H1 e1
theorem ok__law_fields (T : Txt K mg C_Interval C_BadPlace C_Apart C_CutError) (h__law_whole : Has P w K mg base CX0 "_law_whole" 1 ["_law_number"] (sp__law_whole K C_Interval)) {f : Addr} {fd : FuncData} (F : Fun K "_law_fields" "_law_fields" s__law_fields f fd) : FnOk P w K mg base CX0 4 f fd ["_law_interval", "_law_start", "_law_stop"] (sp__law_fields K C_Interval) := by
  refine F.ok sc__law_fields (fun vs H Q E h => ?_) (fun cdv A outer s H vs Q E hr h => ?_)
  · obtain ⟨_, _, _, _, _, _, rfl, _⟩ := h
    rfl
  · obtain ⟨a, dx, i, j, p, q, rfl, ha, k⟩ := h
    refine ⟨_, (pss_cons (ps_if (PW.pt (pw_or (pt_not (pt_val (pe_callB (call_isiK' K) (by rfl) T.b_isinstance (by decide +kernel) (pa_cons (pv 0) (pa_cons (pe_glob (v := .ref C_Interval) (by rfl) T.c_Interval.g (by rfl)) pa_nil))))) (pw_or (pt_not (pt_val (pe_callH h__law_whole (hr.mono (by decide)) pass0 (pa_cons (pe_fldK K (pv 0)) pa_nil)))) (pw_or1 (pt_not (pt_val (pe_callH h__law_whole (hr.mono (by decide)) pass0 (pa_cons (pe_fldK K (pv 0)) pa_nil)))))))) pss_never pss_nil)
      (pss_cons (ps_if (pt_cmpR op_lt (pv 1) (pv 2) (nomark _)) (pss_one (ps_ret (pe_and (pe_cmpR op_eq (pe_fldK K (pv 0)) (pv 1) (nomark _)) (pe_one (pe_cmpR op_eq (pe_fldK K (pv 0)) (pv 2) (nomark _)))))) pss_nil)
      (pss_one (ps_ret (pe_and (pe_cmpR op_eq (pe_fldK K (pv 0)) pe_int (nomark _)) (pe_one (pe_cmpR op_eq (pe_fldK K (pv 0)) pe_int (nomark _)))))))), ?_⟩
    have c0 := T.c_Interval; have c1 := T.c_Interval.cl; have n1 := T.n_Interval_start; have n2 := T.n_Interval_stop
    walk_at "when"
    · exact fun g => absurd g (by decide)
    · intro _ H1 e1
      refine q_when (b := decide (p < q)) (by walk_at "et") (fun g H2 e2 => ?_) fun g H2 e2 => ?_
      · walk_at "ret"
        intro H3 e3
        have hp : p < q := by simpa using g
        have z1 : nS p q = p := if_pos hp
        have z2 : nT p q = q := if_pos hp
        have k' := k H3 ((e1.trans e2).trans e3)
        rw [z1, z2] at k'
        simpa using k'
      · walk_at "ret"
        intro H3 e3
        have hp : ¬ p < q := by simpa using g
        have z1 : nS p q = 0 := if_neg hp
        have z2 : nT p q = 0 := if_neg hp
        have k' := k H3 ((e1.trans e2).trans e3)
        rw [z1, z2] at k'
        simpa using k'
theorem evp_four {C a : Addr} {ns : List Int} {σ : L2.St} {H : Hp} {E : XK} {tA : TA} (h : EvA tA σ H [.ref a, .int 0]) (hS : SqL K H a (ns.map V.int)) : EvP (tCall (sp__law_four K C) [] E tA) σ H (fun v H => ∃ p e0 e1 e2 e3, v = .ref p ∧ H p = some (.tup [.int e0, .int e1, .int e2, .int e3])) :=
  evp_call h fun H1 e1 Q q => ⟨a, ns, rfl, ex_l e1 hS, fun e0 e1 e2 e3 p H' hp ee hh => q (.ref p) H' ee ⟨p, e0, e1, e2, e3, rfl, hh⟩⟩
theorem spv_fields {C a dx : Addr} {i j s t : Int} {H : Hp} (oa : H a = some (.ins C dx (ivF i j))) : SpV (sp__law_fields K C) [.ref a, .int s, .int t] H (.bl (decide (nS i j = nS s t) && decide (nT i j = nT s t))) :=
  fun H1 e Q q E => ⟨a, dx, i, j, s, t, rfl, e a _ oa, q⟩
end

section
variable {P : Program} {w : World} {K : PySem.W.Frag} {mg : Str → Option Value} {base : Heap} {C_Interval C_BadPlace C_Apart C_CutError : Addr}
local macro_rules | `(tactic| walk_at "rvx") => `(tactic| first
  | ((with_reducible refine' rv_eq2 ?e1 ?e2); (case e1 => walk_at "hp"); (case e2 => walk_at "hp"))
  | ((with_reducible refine' rv_ne2 ?e1 ?e2); (case e1 => walk_at "hp"); (case e2 => walk_at "hp"))
  | ((with_reducible refine' rv_lt2 ?e1 ?e2); (case e1 => walk_at "hp"); (case e2 => walk_at "hp"))
  | ((with_reducible refine' rv_le2 ?e1 ?e2); (case e1 => walk_at "hp"); (case e2 => walk_at "hp")))
theorem ok_Interval___eq__ (T : Txt K mg C_Interval C_BadPlace C_Apart C_CutError)  {f : Addr} {fd : FuncData} (F : Fun K "__eq__" "Interval.__eq__" s_Interval___eq__ f fd) : FnOk P w K mg base CX0 1 f fd ["self", "other"] (sp_Interval___eq__ K C_Interval) := by
  refine F.ok sc_Interval___eq__ (fun vs H Q E h => ?_) (fun cdv A outer s H vs Q E hr h => ?_)
  · obtain ⟨_, _, _, _, _, _, _, _, rfl, _⟩ := h
    rfl
  · obtain ⟨a, dx, i, j, b, dy, p, l, rfl, ha, hb, k⟩ := h
    refine ⟨_, (pss_cons (ps_if (pt_not (pt_val (pe_callB (call_isiK' K) (by rfl) T.b_isinstance (by decide +kernel) (pa_cons (pv 1) (pa_cons (pe_glob (v := .ref C_Interval) (by rfl) T.c_Interval.g (by rfl)) pa_nil))))) pss_never pss_nil)
      (pss_one (ps_ret (pe_cmpR (op_eqDK K hr.units) (pe_tup (pa_cons (pe_fldK K (pv 0)) (pa_cons (pe_fldK K (pv 0)) pa_nil))) (pe_tup (pa_cons (pe_fldK K (pv 1)) (pa_cons (pe_fldK K (pv 1)) pa_nil))) (nomark _))))), ?_⟩
    have c0 := T.c_Interval; have c1 := T.c_Interval.cl; have n1 := T.n_Interval_start; have n2 := T.n_Interval_stop
    walk_at "whenF"
    · rfl
    intro _ H1 e1
    refine' s_ret (ev_opUU ?u1 ?u2 ?u3) ?u4
    case u1 => walk_at "tup"
    case u2 => walk_at "tup"
    case u3 => exact fun p q H2 h1 h2 _ => rv_eq2 (st_of h1) (st_of h2)
    exact fun H2 e2 => k H2 (e1.trans e2)
theorem ok_Interval___lt__ (T : Txt K mg C_Interval C_BadPlace C_Apart C_CutError)  {f : Addr} {fd : FuncData} (F : Fun K "__lt__" "Interval.__lt__" s_Interval___lt__ f fd) : FnOk P w K mg base CX0 1 f fd ["self", "other"] (sp_Interval___lt__ K C_Interval) := by
  refine F.ok sc_Interval___lt__ (fun vs H Q E h => ?_) (fun cdv A outer s H vs Q E hr h => ?_)
  · obtain ⟨_, _, _, _, _, _, _, _, rfl, _⟩ := h
    rfl
  · obtain ⟨a, dx, i, j, b, dy, p, l, rfl, ha, hb, k⟩ := h
    refine ⟨_, (pss_cons (ps_if (pt_not (pt_val (pe_callB (call_isiK' K) (by rfl) T.b_isinstance (by decide +kernel) (pa_cons (pv 1) (pa_cons (pe_glob (v := .ref C_Interval) (by rfl) T.c_Interval.g (by rfl)) pa_nil))))) pss_never pss_nil)
      (pss_one (ps_ret (pe_cmpR (op_ltTK K hr.units0) (pe_tup (pa_cons (pe_fldK K (pv 0)) (pa_cons (pe_fldK K (pv 0)) pa_nil))) (pe_tup (pa_cons (pe_fldK K (pv 1)) (pa_cons (pe_fldK K (pv 1)) pa_nil))) (nomark _))))), ?_⟩
    have c0 := T.c_Interval; have c1 := T.c_Interval.cl; have n1 := T.n_Interval_start; have n2 := T.n_Interval_stop
    walk_at "whenF"
    · rfl
    intro _ H1 e1
    refine' s_ret (ev_opUU ?u1 ?u2 ?u3) ?u4
    case u1 => walk_at "tup"
    case u2 => walk_at "tup"
    case u3 => exact fun p q H2 h1 h2 _ => rv_lt2 (st_of h1) (st_of h2)
    exact fun H2 e2 => k H2 (e1.trans e2)
theorem ok_Interval___le__ (T : Txt K mg C_Interval C_BadPlace C_Apart C_CutError)  {f : Addr} {fd : FuncData} (F : Fun K "__le__" "Interval.__le__" s_Interval___le__ f fd) : FnOk P w K mg base CX0 1 f fd ["self", "other"] (sp_Interval___le__ K C_Interval) := by
  refine F.ok sc_Interval___le__ (fun vs H Q E h => ?_) (fun cdv A outer s H vs Q E hr h => ?_)
  · obtain ⟨_, _, _, _, _, _, _, _, rfl, _⟩ := h
    rfl
  · obtain ⟨a, dx, i, j, b, dy, p, l, rfl, ha, hb, k⟩ := h
    refine ⟨_, (pss_cons (ps_if (pt_not (pt_val (pe_callB (call_isiK' K) (by rfl) T.b_isinstance (by decide +kernel) (pa_cons (pv 1) (pa_cons (pe_glob (v := .ref C_Interval) (by rfl) T.c_Interval.g (by rfl)) pa_nil))))) pss_never pss_nil)
      (pss_one (ps_ret (pe_cmpR (op_leTK K hr.units0) (pe_tup (pa_cons (pe_fldK K (pv 0)) (pa_cons (pe_fldK K (pv 0)) pa_nil))) (pe_tup (pa_cons (pe_fldK K (pv 1)) (pa_cons (pe_fldK K (pv 1)) pa_nil))) (nomark _))))), ?_⟩
    have c0 := T.c_Interval; have c1 := T.c_Interval.cl; have n1 := T.n_Interval_start; have n2 := T.n_Interval_stop
    walk_at "whenF"
    · rfl
    intro _ H1 e1
    refine' s_ret (ev_opUU ?u1 ?u2 ?u3) ?u4
    case u1 => walk_at "tup"
    case u2 => walk_at "tup"
    case u3 => exact fun p q H2 h1 h2 _ => rv_le2 (st_of h1) (st_of h2)
    exact fun H2 e2 => k H2 (e1.trans e2)
theorem ok_Interval_cut (T : Txt K mg C_Interval C_BadPlace C_Apart C_CutError) (h_Interval___init__ : HasM P w K mg base CX0 C_Interval "__init__" 1 ["self", "start", "stop"] (sp_Interval___init__ K C_Interval)) {f : Addr} {fd : FuncData} (F : Fun K "cut" "Interval.cut" s_Interval_cut f fd) : FnOk P w K mg base (L2.CX P w) 4 f fd ["self", "at"] (sp_Interval_cut K C_Interval C_BadPlace) := by
  refine F.okX sc_Interval_cut (fun vs H Q E h => ?_) (fun cdv A outer s H vs Q E hr h => ?_)
  · obtain ⟨_, _, _, _, _, rfl, _⟩ := h
    rfl
  · obtain ⟨a, dx, i, j, m, rfl, ha, kx, k⟩ := h
    refine ⟨_, (pss_cons (ps_if (pt_not (pt_chain op_lt op_lt (pe_fldK K (pv 0)) (pv 1) (pe_fldK K (pv 0)))) (pss_one (ps_raise rfl (takes_of rfl rfl rfl rfl) (pmk_own PySem.F.excBase_ValueError T.e_BadPlace.xi T.e_BadPlace.g T.e_BadPlace.kp (raises_own T.e_BadPlace.sb T.e_BadPlace.ty) (by rfl)))) pss_nil)
      (pss_one (ps_ret (pe_tup (pa_cons (pe_makeH T.c_Interval h_Interval___init__ (hr.mono (by decide)) pass0 (pa_cons (pe_fldK K (pv 0)) (pa_cons (pv 1) pa_nil))) (pa_cons (pe_makeH T.c_Interval h_Interval___init__ (hr.mono (by decide)) pass0 (pa_cons (pv 1) (pa_cons (pe_fldK K (pv 0)) pa_nil))) pa_nil)))))), ?_⟩
    have c0 := T.c_Interval; have c1 := T.c_Interval.cl; have n1 := T.n_Interval_start; have n2 := T.n_Interval_stop
    walk_at "when"
    · intro g H1 e1
      exact kx (by simp at g; omega) H1 e1
    · intro g H1 e1
      have hm : nS i j < m ∧ m < nT i j := by simpa using g
      refine' s_retP (evp_tupP (eap_cons ?m1 (ev_box ?e1) (eap_cons ?m2 (ev_box ?e2) eap_nil)) ?m3 ?m4) ?kk
      case e1 => walk_at "ea"
      case e2 => walk_at "ea"
      case m1 => exact fun v H1 H2 e h => h.mono e
      case m2 => exact fun v H1 H2 e h => h.mono e
      case m3 =>
        rintro vs H1 H2 e ⟨v, r, rfl, h1, v2, r2, rfl, h2, rfl⟩
        exact ⟨v, _, rfl, h1.mono e, v2, _, rfl, h2.mono e, rfl⟩
      case m4 =>
        rintro vs H1 ⟨v, r, rfl, h1, v2, r2, rfl, h2, rfl⟩
        exact Nat.le_of_ble_eq_true rfl
      case kk =>
        rintro v H2 e2 ⟨p, vs, rfl, hp, x, r, rfl, h1, y, r2, rfl, h2, rfl⟩
        exact k hm _ H2 (e1.trans e2) ⟨p, x, y, rfl, hp, h1, h2⟩
theorem ok__law_refused (T : Txt K mg C_Interval C_BadPlace C_Apart C_CutError) (h_Interval_cut : HasM P w K mg base (L2.CX P w) C_Interval "cut" 4 ["self", "at"] (sp_Interval_cut K C_Interval C_BadPlace)) {f : Addr} {fd : FuncData} (F : Fun K "_law_refused" "_law_refused" s__law_refused f fd) : FnOk P w K mg base CX0 7 f fd ["_law_interval", "_law_at"] (sp__law_refused K C_Interval) := by
  refine F.ok sc__law_refused (fun vs H Q E h => ?_) (fun cdv A outer s H vs Q E hr h => ?_)
  · obtain ⟨_, _, _, _, _, rfl, _⟩ := h
    rfl
  · obtain ⟨a, dx, i, j, m, rfl, ha, hm, k⟩ := h
    refine ⟨_, (pss_cons (ps_tryN rfl rfl takes0 (fun W pn xe tk _ => (pss_one (ps_expr (pe_methHS (pv 0) T.c_Interval.cl h_Interval_cut (hr.mono (by decide)) (fun σ => passAt tk σ) (pa_cons (pv 1) pa_nil))))) (HdsN.cons ⟨rfl, by decide, .inl T.e_Apart.g⟩ (fun a oe cls d pn hz hf => pss_never) (HdsN.consAs (i := 2) ⟨rfl, by decide, .inl T.e_CutError.g⟩ sc__law_refused.nd rfl rfl (fun a oe cls d pn hz hf => (pss_one (ps_ret (pe_and (pe_callB (call_isE' (D := C_BadPlace) T.x_BadPlace hz hf) (by rfl) T.b_isinstance (by decide +kernel) (pa_cons (pv 2) (pa_cons (pe_glob (v := .ref C_BadPlace) (by rfl) T.e_BadPlace.g (by rfl)) pa_nil))) (pe_one (pe_callB (call_isE' (D := C_BadPlace) T.x_BadPlace hz hf) (by rfl) T.b_isinstance (by decide +kernel) (pa_cons (pv 2) (pa_cons (pe_bltn (v := .ty "ValueError") (u := .type "ValueError") (by rfl) T.b_ValueError (by decide +kernel) (by rfl)) pa_nil)))))))) HdsN.nil)))
      pss_never), ?_⟩
    have c0 := T.c_Interval; have c1 := T.c_Interval.cl; have n1 := T.n_Interval_start; have n2 := T.n_Interval_stop
    refine ⟨.ref a, rfl, a, dx, ivF i j, rfl, ha, iv_cut i j, .int m, rfl, a, dx, i, j, m, rfl, ha, fun _ H' e' => ?_, fun hh => absurd hh hm⟩
    refine ⟨false, T.m_BadPlace_Apart, (fun z => nomatch z), fun _ => ⟨true, T.m_BadPlace_CutError, fun _ e he => ?_, fun z => nomatch z⟩⟩
    refine ⟨.ref e, rfl, rfl, rfl, .ref C_BadPlace, .ref C_BadPlace, true, rfl, fun u hu => hu, kit_self, true, rfl, iteT ?_⟩
    exact ⟨.ref e, rfl, rfl, rfl, .ty "ValueError", .type "ValueError", true, rfl, fun u hu => hu, T.t_BadPlace_ValueError, k H' e'⟩
/-! ### the law -/
def bxS (C : Addr) (ps : List (Int × Int)) : Nat → V → Hp → Prop := fun i v H => ∃ q, ps[i]? = some q ∧ Bx C q.1 q.2 v H
def keyS (ps : List (Int × Int)) : Nat → V → Hp → Prop := fun i v H => ∃ q t, ps[i]? = some q ∧ v = .ref t ∧ H t = some (.tup [.int (nS q.1 q.2), .int (nT q.1 q.2)])
def prS (ps : List (Int × Int)) : Nat → V → Hp → Prop := fun i v H => ∃ q t, ps[i]? = some q ∧ v = .ref t ∧ H t = some (.tup [.int q.1, .int q.2])
theorem bxS_mon {C : Addr} {ps : List (Int × Int)} (i : Nat) : MonV (bxS C ps i) := fun v H1 H2 e ⟨q, h1, h2⟩ => ⟨q, h1, h2.mono e⟩
theorem keyS_mon {ps : List (Int × Int)} (i : Nat) : MonV (keyS ps i) := fun v H1 H2 e ⟨q, t, h1, h2, h3⟩ => ⟨q, t, h1, h2, e t _ h3⟩
theorem prS_mon {ps : List (Int × Int)} (i : Nat) : MonV (prS ps i) := fun v H1 H2 e ⟨q, t, h1, h2, h3⟩ => ⟨q, t, h1, h2, e t _ h3⟩
theorem bxS_mut {C : Addr} {ps : List (Int × Int)} (i : Nat) : MutV (bxS C ps i) := fun v H a xs ys h ⟨q, h1, p, dx, h2, h3⟩ => ⟨q, h1, p, dx, h2, mut_ins h h3⟩
theorem keyS_mut {ps : List (Int × Int)} (i : Nat) : MutV (keyS ps i) := fun v H a xs ys h ⟨q, t, h1, h2, h3⟩ => ⟨q, t, h1, h2, mut_tup h h3⟩
theorem idx4 (a b c d z : Int) (h0 : 0 ≤ z) (h4 : z < 4) : ∃ l : Int, atI [V.int a, V.int b, V.int c, V.int d] z = some (V.int l) := by
  have e : z = 0 ∨ z = 1 ∨ z = 2 ∨ z = 3 := by omega
  rcases e with e | e | e | e <;> subst e
  · exact ⟨a, rfl⟩
  · exact ⟨b, rfl⟩
  · exact ⟨c, rfl⟩
  · exact ⟨d, rfl⟩
theorem rv_eqB {C a b dx dy : Addr} {i j k l : Int} {H : Hp} {E : XK} (oa : H a = some (.ins C dx (ivF i j))) (ob : H b = some (.ins C dy (ivF k l))) : RV (rOwn2 C (sp_Interval___eq__ K C) E) (.ref a) (.ref b) H (.bl (decide (nS i j = nS k l) && decide (nT i j = nT k l))) :=
  fun H1 e Q q => ⟨a, dx, _, b, dy, _, rfl, rfl, e a _ oa, e b _ ob, a, dx, i, j, b, dy, k, l, rfl, e a _ oa, e b _ ob, q⟩
theorem rv_neB {C a b dx dy : Addr} {i j k l : Int} {H : Hp} {E : XK} (oa : H a = some (.ins C dx (ivF i j))) (ob : H b = some (.ins C dy (ivF k l))) : RV (rOwnNe C (sp_Interval___eq__ K C) E) (.ref a) (.ref b) H (.bl (!(decide (nS i j = nS k l) && decide (nT i j = nT k l)))) :=
  fun H1 e Q q => ⟨a, dx, _, b, dy, _, rfl, rfl, e a _ oa, e b _ ob, a, dx, i, j, b, dy, k, l, rfl, e a _ oa, e b _ ob, fun H2 e2 => ⟨_, rfl, q H2 e2⟩⟩
theorem rv_ltB {C a b dx dy : Addr} {i j k l : Int} {H : Hp} {E : XK} (oa : H a = some (.ins C dx (ivF i j))) (ob : H b = some (.ins C dy (ivF k l))) : RV (rOwn2 C (sp_Interval___lt__ K C) E) (.ref a) (.ref b) H (.bl (HT.lexLt [nS i j, nT i j] [nS k l, nT k l])) :=
  fun H1 e Q q => ⟨a, dx, _, b, dy, _, rfl, rfl, e a _ oa, e b _ ob, a, dx, i, j, b, dy, k, l, rfl, e a _ oa, e b _ ob, q⟩
theorem rv_leB {C a b dx dy : Addr} {i j k l : Int} {H : Hp} {E : XK} (oa : H a = some (.ins C dx (ivF i j))) (ob : H b = some (.ins C dy (ivF k l))) : RV (rOwn2 C (sp_Interval___le__ K C) E) (.ref a) (.ref b) H (.bl (leT2 (nS i j) (nT i j) (nS k l) (nT k l))) :=
  fun H1 e Q q => ⟨a, dx, _, b, dy, _, rfl, rfl, e a _ oa, e b _ ob, a, dx, i, j, b, dy, k, l, rfl, e a _ oa, e b _ ob, q⟩
theorem spv_refused {C a dx : Addr} {i j m : Int} {H : Hp} (oa : H a = some (.ins C dx (ivF i j))) (hm : ¬ (nS i j < m ∧ m < nT i j)) : SpV (sp__law_refused K C) [.ref a, .int m] H (.bl true) := fun H1 e Q q E => ⟨a, dx, i, j, m, rfl, e a _ oa, hm, q⟩
theorem evp_cut {C B b dx : Addr} {i j m : Int} {σ : L2.St} {H : Hp} {E : XK} {ta tb : TE} (ha : Ev ta σ H (.ref b)) (oa : H b = some (.ins C dx (ivF i j))) (hb : Ev tb σ H (.int m)) (hm : nS i j < m ∧ m < nT i j) :
    EvP (tMeth C "cut" (sp_Interval_cut K C B) [] E ta (tCons tb tNil)) σ H (Half C (nS i j) m (nT i j)) := fun H1 e Q q =>
  ha H1 e _ fun H2 e2 => ⟨b, dx, ivF i j, rfl, (e.trans e2) b _ oa, iv_cut i j, hb H2 (e.trans e2) _ fun H3 e3 => ⟨b, dx, i, j, m, rfl, ((e.trans e2).trans e3) b _ oa, fun hn => absurd hm hn, fun _ v H4 e4 hv => q v H4 ((e2.trans e3).trans e4) hv⟩⟩
theorem in_iff (i j m : Int) : (nS i j < m ∧ m < nT i j) ↔ (i < m ∧ m < j) := by
  unfold nS nT
  split <;> constructor <;> intro h <;> omega
local macro_rules | `(tactic| walk_at "rvx") => `(tactic| first
  | ((with_reducible refine' rv_eq2 ?e1 ?e2); (case e1 => walk_at "hp"); (case e2 => walk_at "hp"))
  | ((with_reducible refine' rv_ne2 ?e1 ?e2); (case e1 => walk_at "hp"); (case e2 => walk_at "hp"))
  | ((with_reducible refine' rv_lt2 ?e1 ?e2); (case e1 => walk_at "hp"); (case e2 => walk_at "hp"))
  | ((with_reducible refine' rv_le2 ?e1 ?e2); (case e1 => walk_at "hp"); (case e2 => walk_at "hp"))
  | ((with_reducible refine' rv_eqB ?e1 ?e2); (case e1 => walk_at "hp"); (case e2 => walk_at "hp"))
  | ((with_reducible refine' rv_neB ?e1 ?e2); (case e1 => walk_at "hp"); (case e2 => walk_at "hp"))
  | ((with_reducible refine' rv_ltB ?e1 ?e2); (case e1 => walk_at "hp"); (case e2 => walk_at "hp"))
  | ((with_reducible refine' rv_leB ?e1 ?e2); (case e1 => walk_at "hp"); (case e2 => walk_at "hp")))
local macro_rules | `(tactic| walk_at "sp") => `(tactic| first
  | ((refine' spv_cell ?e1 ?e2); (case e1 => walk_at "hp"); (case e2 => first | decide | omega))
  | (refine' spv_fields ?e1; (case e1 => walk_at "hp"))
  | (refine' spv_refused ?e1 ?e2; (case e1 => walk_at "hp"); (case e2 => assumption)))
theorem ok_law (T : Txt K mg C_Interval C_BadPlace C_Apart C_CutError) (h__law_four : Has P w K mg base CX0 "_law_four" 4 ["_law_script", "_law_k"] (sp__law_four K C_Interval)) (h__law_fields : Has P w K mg base CX0 "_law_fields" 4 ["_law_interval", "_law_start", "_law_stop"] (sp__law_fields K C_Interval)) (h_Interval___init__ : HasM P w K mg base CX0 C_Interval "__init__" 1 ["self", "start", "stop"] (sp_Interval___init__ K C_Interval)) (h__law_cell : Has P w K mg base CX0 "_law_cell" 1 ["_law_script", "_law_k"] (sp__law_cell K C_Interval)) (h_Interval_cut : HasM P w K mg base (L2.CX P w) C_Interval "cut" 4 ["self", "at"] (sp_Interval_cut K C_Interval C_BadPlace)) (h__law_refused : Has P w K mg base CX0 "_law_refused" 7 ["_law_interval", "_law_at"] (sp__law_refused K C_Interval)) (h_Interval___eq__ : HasM P w K mg base CX0 C_Interval "__eq__" 1 ["self", "other"] (sp_Interval___eq__ K C_Interval)) (h_Interval___lt__ : HasM P w K mg base CX0 C_Interval "__lt__" 1 ["self", "other"] (sp_Interval___lt__ K C_Interval)) (h_Interval___le__ : HasM P w K mg base CX0 C_Interval "__le__" 1 ["self", "other"] (sp_Interval___le__ K C_Interval)) {f : Addr} {fd : FuncData} (F : Fun K "law" "law" s_law f fd) : FnOk P w K mg base CX0 10 f fd ["_law_script"] (sp_law K) := by
  refine F.ok sc_law (fun vs H Q E h => ?_) (fun cdv A outer s H vs Q E hr h => ?_)
  · obtain ⟨_, _, rfl, _⟩ := h
    rfl
  · obtain ⟨a, ns, rfl, hS, k⟩ := h
    refine ⟨_, (pss_cons (ps_set (i := 1) sc_law.nd rfl (by first | exact Or.inl rfl | exact Or.inr rfl) (pe_callH h__law_four (hr.mono (by decide)) pass0 (pa_cons (pv 0) (pa_cons pe_int pa_nil))))
      (pss_cons (ps_set (i := 2) sc_law.nd rfl (by first | exact Or.inl rfl | exact Or.inr rfl) (pe_ix (ix_tupK K) (pv 1) (pe_op op_mod (pe_callH h__law_cell (hr.mono (by decide)) pass0 (pa_cons (pv 0) (pa_cons pe_int pa_nil))) pe_int) (fun _ _ => rfl)))
      (pss_cons (ps_set (i := 3) sc_law.nd rfl (by first | exact Or.inl rfl | exact Or.inr rfl) (pe_lst (pa_cons (pe_tup (pa_cons (pe_ix (ix_tupK K) (pv 1) pe_int (fun _ _ => rfl)) (pa_cons (pe_ix (ix_tupK K) (pv 1) pe_int (fun _ _ => rfl)) pa_nil))) (pa_cons (pe_tup (pa_cons (pe_ix (ix_tupK K) (pv 1) pe_int (fun _ _ => rfl)) (pa_cons (pe_ix (ix_tupK K) (pv 1) pe_int (fun _ _ => rfl)) pa_nil))) (pa_cons (pe_tup (pa_cons (pv 2) (pa_cons (pe_ix (ix_tupK K) (pv 1) (pe_op op_mod (pe_callH h__law_cell (hr.mono (by decide)) pass0 (pa_cons (pv 0) (pa_cons pe_int pa_nil))) pe_int) (fun _ _ => rfl)) pa_nil))) pa_nil)))))
      (pss_cons (ps_setLc (i := 4) (own := [("_law_pair", 11)]) (by rfl) sc_law.nd rfl rfl (sw_true rfl rfl rfl (by decide +kernel)) (pi_listK K (pv 3)) (blkOk_by (own := [("_law_pair", 11)]) (N := N_law) (sc := defScope s_law) (by decide +kernel)) (fun _ _ _ _ _ => (pg_name (i := 11) sc_law.nd rfl (by first | exact Or.inl rfl | exact Or.inr rfl))) (fun _ _ _ _ _ => pts_nil) (fun _ _ _ _ _ => (pe_makeH T.c_Interval h_Interval___init__ (hr.mono (by decide)) pass0 (pa_cons (pe_ix (ix_tupK K) (pv 11) pe_int (fun _ _ => rfl)) (pa_cons (pe_ix (ix_tupK K) (pv 11) pe_int (fun _ _ => rfl)) pa_nil)))))
      (pss_cons (ps_setLc (i := 5) (own := [("_law_pair", 11)]) (by rfl) sc_law.nd rfl rfl (sw_true rfl rfl rfl (by decide +kernel)) (pi_listK K (pv 3)) (blkOk_by (own := [("_law_pair", 11)]) (N := N_law) (sc := defScope s_law) (by decide +kernel)) (fun _ _ _ _ _ => (pg_name (i := 11) sc_law.nd rfl (by first | exact Or.inl rfl | exact Or.inr rfl))) (fun _ _ _ _ _ => pts_nil) (fun _ _ _ _ _ => (pe_ifExp (pt_cmpR op_lt (pe_ix (ix_tupK K) (pv 11) pe_int (fun _ _ => rfl)) (pe_ix (ix_tupK K) (pv 11) pe_int (fun _ _ => rfl)) (nomark _)) (pv 11) (pe_tup (pa_cons pe_int (pa_cons pe_int pa_nil))))))
      (pss_cons (ps_for PassesOwn.never rfl (pi_range1 (by rfl) T.b_range (pa_cons pe_int pa_nil)) (pg_name (i := 6) sc_law.nd rfl (by first | exact Or.inl rfl | exact Or.inr rfl)) (pss_one (ps_for PassesOwn.never rfl (pi_range1 (by rfl) T.b_range (pa_cons pe_int pa_nil)) (pg_name (i := 7) sc_law.nd rfl (by first | exact Or.inl rfl | exact Or.inr rfl)) (pss_cons (ps_if (PW.pt (pw_or (pt_cmpR op_ne (pe_cmpR (op_cmpH (fun _ _ => rfl) h_Interval___eq__ (hr.mono (by decide)) pass0) (pe_ix (ix_listK K) (pv 4) (pv 6) (fun _ _ => rfl)) (pe_ix (ix_listK K) (pv 4) (pv 7) (fun _ _ => rfl)) (nomark _)) (pe_cmpR (op_eqDK K hr.units) (pe_ix (ix_listK K) (pv 5) (pv 6) (fun _ _ => rfl)) (pe_ix (ix_listK K) (pv 5) (pv 7) (fun _ _ => rfl)) (nomark _)) (nomark _)) (pw_or1 (pt_cmpR op_ne (pe_cmpR (op_neH T.c_Interval T.ne_Interval h_Interval___eq__ (hr.mono (by decide)) pass0) (pe_ix (ix_listK K) (pv 4) (pv 6) (fun _ _ => rfl)) (pe_ix (ix_listK K) (pv 4) (pv 7) (fun _ _ => rfl)) (nomark _)) (pe_cmpR (op_neDK K hr.units) (pe_ix (ix_listK K) (pv 5) (pv 6) (fun _ _ => rfl)) (pe_ix (ix_listK K) (pv 5) (pv 7) (fun _ _ => rfl)) (nomark _)) (nomark _))))) pss_never pss_nil)
      (pss_one (ps_if (PW.pt (pw_or (pt_cmpR op_ne (pe_cmpR (op_cmpH (fun _ _ => rfl) h_Interval___lt__ (hr.mono (by decide)) pass0) (pe_ix (ix_listK K) (pv 4) (pv 6) (fun _ _ => rfl)) (pe_ix (ix_listK K) (pv 4) (pv 7) (fun _ _ => rfl)) (nomark _)) (pe_cmpR (op_ltTK K hr.units0) (pe_ix (ix_listK K) (pv 5) (pv 6) (fun _ _ => rfl)) (pe_ix (ix_listK K) (pv 5) (pv 7) (fun _ _ => rfl)) (nomark _)) (nomark _)) (pw_or1 (pt_cmpR op_ne (pe_cmpR (op_cmpH (fun _ _ => rfl) h_Interval___le__ (hr.mono (by decide)) pass0) (pe_ix (ix_listK K) (pv 4) (pv 6) (fun _ _ => rfl)) (pe_ix (ix_listK K) (pv 4) (pv 7) (fun _ _ => rfl)) (nomark _)) (pe_cmpR (op_leTK K hr.units0) (pe_ix (ix_listK K) (pv 5) (pv 6) (fun _ _ => rfl)) (pe_ix (ix_listK K) (pv 5) (pv 7) (fun _ _ => rfl)) (nomark _)) (nomark _))))) pss_never pss_nil))))))
      (pss_cons (ps_set (i := 8) sc_law.nd rfl (by first | exact Or.inl rfl | exact Or.inr rfl) (pe_callB (call_max' rfl) (by rfl) T.b_max (by decide +kernel) (pa_cons pe_int (pa_cons (pe_op op_add (pe_op op_sub (pe_ix (ix_tupK K) (pv 1) pe_int (fun _ _ => rfl)) (pe_ix (ix_tupK K) (pv 1) pe_int (fun _ _ => rfl))) pe_int) pa_nil))))
      (pss_cons (ps_for PassesOwn.never rfl (pi_listK K (pe_lst (pa_cons (pe_op op_add (pe_ix (ix_tupK K) (pv 1) pe_int (fun _ _ => rfl)) (pe_op op_mod (pe_callH h__law_cell (hr.mono (by decide)) pass0 (pa_cons (pv 0) (pa_cons pe_int pa_nil))) (pv 8))) (pa_cons (pe_ix (ix_tupK K) (pv 1) pe_int (fun _ _ => rfl)) (pa_cons (pe_op op_add (pe_ix (ix_tupK K) (pv 1) pe_int (fun _ _ => rfl)) pe_int) (pa_cons (pe_op op_sub (pe_ix (ix_tupK K) (pv 1) pe_int (fun _ _ => rfl)) pe_int) (pa_cons (pe_ix (ix_tupK K) (pv 1) pe_int (fun _ _ => rfl)) pa_nil))))))) (pg_name (i := 9) sc_law.nd rfl (by first | exact Or.inl rfl | exact Or.inr rfl)) (pss_one (ps_if (PW.pt (pw_and (pt_cmpR op_lt (pe_ix (ix_tupK K) (pv 1) pe_int (fun _ _ => rfl)) (pv 9) (nomark _)) (pw_and1 (pt_cmpR op_lt (pv 9) (pe_ix (ix_tupK K) (pv 1) pe_int (fun _ _ => rfl)) (nomark _))))) (pss_cons (ps_set (i := 10) sc_law.nd rfl (by first | exact Or.inl rfl | exact Or.inr rfl) (pe_methH (pe_ix (ix_listK K) (pv 4) pe_int (fun _ _ => rfl)) T.c_Interval.cl h_Interval_cut (hr.mono (by decide)) passL (pa_cons (pv 9) pa_nil)))
      (pss_cons (ps_if (PW.pt (pw_or (pt_not (pt_val (pe_callB (call_isiK' K) (by rfl) T.b_isinstance (by decide +kernel) (pa_cons (pv 10) (pa_cons (pe_bltn (v := .ty "tuple") (u := .type "tuple") (by rfl) T.b_tuple (by decide +kernel) (by rfl)) pa_nil))))) (pw_or1 (pt_cmpR op_ne (pe_callB (call_lenK K) (by rfl) T.b_len (by decide +kernel) (pa_cons (pv 10) pa_nil)) pe_int (nomark _))))) pss_never pss_nil)
      (pss_one (ps_if (PW.pt (pw_or (pt_not (pt_val (pe_callH h__law_fields (hr.mono (by decide)) pass0 (pa_cons (pe_ix (ix_tupK K) (pv 10) pe_int (fun _ _ => rfl)) (pa_cons (pe_ix (ix_tupK K) (pv 1) pe_int (fun _ _ => rfl)) (pa_cons (pv 9) pa_nil)))))) (pw_or1 (pt_not (pt_val (pe_callH h__law_fields (hr.mono (by decide)) pass0 (pa_cons (pe_ix (ix_tupK K) (pv 10) pe_int (fun _ _ => rfl)) (pa_cons (pv 9) (pa_cons (pe_ix (ix_tupK K) (pv 1) pe_int (fun _ _ => rfl)) pa_nil))))))))) pss_never pss_nil)))) (pss_one (ps_if (pt_not (pt_val (pe_callH h__law_refused (hr.mono (by decide)) pass0 (pa_cons (pe_ix (ix_listK K) (pv 4) pe_int (fun _ _ => rfl)) (pa_cons (pv 9) pa_nil))))) pss_never pss_nil)))))
      (pss_one (ps_ret (pe_callH h__law_fields (hr.mono (by decide)) pass0 (pa_cons (pe_ix (ix_listK K) (pv 4) pe_int (fun _ _ => rfl)) (pa_cons (pe_ix (ix_tupK K) (pv 1) pe_int (fun _ _ => rfl)) (pa_cons (pe_ix (ix_tupK K) (pv 1) pe_int (fun _ _ => rfl)) pa_nil)))))))))))))), ?_⟩
    have c0 := T.c_Interval; have c1 := T.c_Interval.cl; have n1 := T.n_Interval_start; have n2 := T.n_Interval_stop
    refine' q_asgP (evp_four ?ea hS) ?k1
    case ea => walk_at "ea"
    rintro v H1 e1 ⟨p, a0, a1, a2, a3, rfl, hp⟩
    obtain ⟨l, hl⟩ := idx4 a0 a1 a2 a3 (cellZ ns 4 % 4) (Int.emod_nonneg _ (by decide)) (Int.emod_lt_of_pos _ (by decide))
    obtain ⟨l2, hl2⟩ := idx4 a0 a1 a2 a3 (cellZ ns 5 % 4) (Int.emod_nonneg _ (by decide)) (Int.emod_lt_of_pos _ (by decide))
    walk_at "asg"
    intro H2 e2
    refine' q_asgP (evp_lstP (eap_cons ?m1 (evp_tup ?t1 ?s1) (eap_cons ?m2 (evp_tup ?t2 ?s2) (eap_cons ?m3 (evp_tup ?t3 ?s3) eap_nil))) ?m4 ?m5) ?k2
    case t1 => walk_at "ea"
    case t2 => walk_at "ea"
    case t3 => walk_at "ea"
    case s1 => exact Nat.le_of_ble_eq_true rfl
    case s2 => exact Nat.le_of_ble_eq_true rfl
    case s3 => exact Nat.le_of_ble_eq_true rfl
    case m1 => exact fun v H1 H2 e ⟨p, h1, h2⟩ => ⟨p, h1, e p _ h2⟩
    case m2 => exact fun v H1 H2 e ⟨p, h1, h2⟩ => ⟨p, h1, e p _ h2⟩
    case m3 => exact fun v H1 H2 e ⟨p, h1, h2⟩ => ⟨p, h1, e p _ h2⟩
    case m4 =>
      rintro vs H1 H2 e ⟨v, r, rfl, ⟨p1, rfl, h1⟩, v2, r2, rfl, ⟨p2, rfl, h2⟩, v3, r3, rfl, ⟨p3, rfl, h3⟩, rfl⟩
      exact ⟨_, _, rfl, ⟨p1, rfl, e p1 _ h1⟩, _, _, rfl, ⟨p2, rfl, e p2 _ h2⟩, _, _, rfl, ⟨p3, rfl, e p3 _ h3⟩, rfl⟩
    case m5 =>
      rintro vs H1 ⟨v, r, rfl, ⟨p1, rfl, h1⟩, v2, r2, rfl, ⟨p2, rfl, h2⟩, v3, r3, rfl, ⟨p3, rfl, h3⟩, rfl⟩
      exact Nat.le_of_ble_eq_true rfl
    rintro v H3 e3 ⟨pp, vs, rfl, hpp, _, _, rfl, ⟨t1, rfl, ht1⟩, _, _, rfl, ⟨t2, rfl, ht2⟩, _, _, rfl, ⟨t3, rfl, ht3⟩, rfl⟩
    have hI : Items (prS [(a0, a1), (a2, a3), (l, l2)]) 3 [V.ref t1, V.ref t2, V.ref t3] H3 := ⟨rfl, fun i y hi => by
      rcases i with _ | _ | _ | i
      · exact ⟨_, t1, rfl, by simpa using hi.symm, ht1⟩
      · exact ⟨_, t2, rfl, by simpa using hi.symm, ht2⟩
      · exact ⟨_, t3, rfl, by simpa using hi.symm, ht3⟩
      · simp at hi⟩
    refine' q_asgP (evp_lc (bxS C_Interval [(a0, a1), (a2, a3), (l, l2)]) bxS_mon bxS_mut ?v1 (sq_of hpp) ?v2 ?v3 ?v4) ?k3
    case v1 => walk_at "ev"
    case v2 => exact Nat.le_of_ble_eq_true rfl
    case v3 => exact fun x => rfl
    case v4 =>
      intro i x H4 e4 hi
      obtain ⟨q, t, hq, rfl, ht⟩ := prS_mon i _ _ _ e4 (hI.2 i x hi)
      refine' EvP.imp (ev_box ?w1) ?w2
      case w1 => walk_at "ea"
      case w2 => exact fun v H5 _ hb => ⟨q, hq, hb⟩
    rintro v H4 e4 ⟨pb, bs, rfl, hpb, hB⟩
    refine' q_asgP (evp_lc (keyS [(a0, a1), (a2, a3), (l, l2)]) keyS_mon keyS_mut ?v5 (sq_of (e4 pp _ hpp)) ?v6 ?v7 ?v8) ?k4
    case v5 => walk_at "ev"
    case v6 => exact Nat.le_of_ble_eq_true rfl
    case v7 => exact fun x => rfl
    case v8 =>
      intro i x H5 e5 hi
      obtain ⟨q, t, hq, rfl, ht⟩ := prS_mon i _ _ _ (e4.trans e5) (hI.2 i x hi)
      refine evp_if (b := decide (q.1 < q.2)) (by walk_at "et") (fun g => ?_) fun g => ?_
      · have hlt : q.1 < q.2 := by simpa using g
        refine' EvP.imp (evp_of (v := .ref t) ?w3) ?w4
        case w3 => walk_at "ev"
        case w4 =>
          rintro v H6 e6 rfl
          refine ⟨q, t, hq, rfl, ?_⟩
          rw [show nS q.1 q.2 = q.1 from if_pos hlt, show nT q.1 q.2 = q.2 from if_pos hlt]
          exact e6 t _ ht
      · have hlt : ¬ q.1 < q.2 := by simpa using g
        refine' EvP.imp (evp_tup ?w5 ?w6) ?w7
        case w5 => walk_at "ea"
        case w6 => exact Nat.le_of_ble_eq_true rfl
        case w7 =>
          rintro v H6 e6 ⟨t', rfl, ht'⟩
          refine ⟨q, t', hq, rfl, ?_⟩
          rw [show nS q.1 q.2 = 0 from if_neg hlt, show nT q.1 q.2 = 0 from if_neg hlt]
          exact ht'
    rintro v H5 e5 ⟨pk, ks, rfl, hpk, hK⟩
    have hB5 := hB.mono bxS_mon e5
    have hpb5 := e5 pb _ hpb
    have hp5 : H5 p = some (.tup [.int a0, .int a1, .int a2, .int a3]) := by walk_at "hp"
    have hS5 : SqL K H5 a (ns.map V.int) := by walk_at "hp"
    -- the pairs of boxes
    have get : ∀ i : Nat, i < 3 → ∃ (q : Int × Int) (b dx t : Addr), [(a0, a1), (a2, a3), (l, l2)][i]? = some q ∧ atI bs (i : Int) = some (.ref b) ∧ H5 b = some (.ins C_Interval dx (ivF q.1 q.2)) ∧ atI ks (i : Int) = some (.ref t) ∧ H5 t = some (.tup [.int (nS q.1 q.2), .int (nT q.1 q.2)]) := by
      intro i hi
      have lb : i < bs.length := by rw [hB5.1]; exact hi
      have lk : i < ks.length := by rw [hK.1]; exact hi
      obtain ⟨q, hq, b, dx, eb, hb⟩ := hB5.2 i bs[i] (List.getElem?_eq_getElem lb)
      obtain ⟨q', t, hq', et, ht⟩ := hK.2 i ks[i] (List.getElem?_eq_getElem lk)
      have eq : q = q' := Option.some.inj (hq.symm.trans hq')
      subst eq
      exact ⟨q, b, dx, t, hq, by rw [atI_nat (List.getElem?_eq_getElem lb), eb], hb, by rw [atI_nat (List.getElem?_eq_getElem lk), et], ht⟩
    refine' q_forR1 (n := 3) ?f1 ?f2 (fun i σ' H' => ∃ v6 v7 : Option V, σ' = [some (.ref a), some (.ref p), some (.int l), some (.ref pp), some (.ref pb), some (.ref pk), v6, v7, none, none, none, none] ∧ Ex H5 H') ?f3 ?f4 ?f5
    case f1 => walk_at "ea"
    case f2 => exact ⟨by decide, by decide⟩
    case f3 => exact fun H' ee => ⟨none, none, rfl, ee⟩
    case f4 =>
      rintro i σ' H6 hi ⟨v6, v7, rfl, e6⟩
      obtain ⟨q, b, dx, t, _, ha1, ha2, ha3, ha4⟩ := get i (by omega)
      refine' s_forR1 (n := 3) ?g1 ?g2 (fun j σ' H' => ∃ v7 : Option V, σ' = [some (.ref a), some (.ref p), some (.int l), some (.ref pp), some (.ref pb), some (.ref pk), some (.int (i : Int)), v7, none, none, none, none] ∧ Ex H5 H') ?g3 ?g4 ?g5
      case g1 => walk_at "ea"
      case g2 => exact ⟨by decide, by decide⟩
      case g3 => exact fun H' ee => ⟨v7, rfl, e6.trans ee⟩
      case g5 => rintro σ' H' ⟨v7, rfl, ee⟩; exact ⟨_, _, rfl, ee⟩
      case g4 =>
        rintro j σ' H7 hj ⟨v7, rfl, e7⟩
        obtain ⟨q', b', dx', t', _, hb1, hb2, hb3, hb4⟩ := get j (by omega)
        show tSeq _ _ _ ([some (.ref a), some (.ref p), some (.int l), some (.ref pp), some (.ref pb), some (.ref pk), some (.int (i : Int)), some (.int (j : Int)), none, none, none, none] : L2.St) H7
        walk_at "whenF"
        · simp
        intro _ H8 e8
        walk_at "swhenF"
        · simp
        intro _ H9 e9
        exact ⟨_, rfl, (e7.trans e8).trans e9⟩
    case f5 =>
      rintro σ' H6 ⟨v6, v7, rfl, e6⟩
      obtain ⟨q, b, dx, t, hq0, hb0, hb1, _, _⟩ := get 0 (by decide)
      have eq : (a0, a1) = q := Option.some.inj hq0
      subst eq
      have hb0 : atI bs (0 : Int) = some (.ref b) := hb0
      clear get
      walk_at "asg"
      have hsz : (0 : Int) < if a1 - a0 + 1 > 1 then a1 - a0 + 1 else 1 := by split <;> omega
      revert hsz
      generalize (if a1 - a0 + 1 > 1 then a1 - a0 + 1 else 1) = sz
      intro hsz H7 e7
      refine' q_forNLn ?xf (fun q i σ' H' => ∃ v9 v10 : Option V, σ' = [some (.ref a), some (.ref p), some (.int l), some (.ref pp), some (.ref pb), some (.ref pk), v6, v7, some (.int sz), v9, v10, none] ∧ Ex H7 H' ∧ H' q = some (.lst [.int (a0 + cellZ ns 6 % sz), .int a0, .int (a0 + 1), .int (a1 - 1), .int a1])) ?xg ?xh ?xi ?xj
      case xf => walk_at "lst"
      case xg => exact fun q H' hq ee hh => ⟨none, none, rfl, ee, hh⟩
      case xh => exact fun q i σ' H' hi ⟨_, _, _, _, hh⟩ => sq_of hh
      case xj =>
        rintro q σ' H' ⟨v9, v10, rfl, ee, hh⟩
        refine' s_ret (v := .bl true) (ev_is ?z1 ?z2) ?z3
        case z1 => walk_at "ev"
        case z2 => simp
        case z3 => exact fun H1' _ => k H1'
      case xi =>
        rintro q i x σ' H8 hx ⟨v9, v10, rfl, e8, hq⟩
        obtain ⟨m, rfl⟩ : ∃ m : Int, x = .int m := by
          rcases i with _ | _ | _ | _ | _ | i <;> simp at hx <;> exact ⟨_, hx.symm⟩
        show tIfS _ _ _ _ ([some (.ref a), some (.ref p), some (.int l), some (.ref pp), some (.ref pb), some (.ref pk), v6, v7, some (.int sz), some (.int m), v10, none] : L2.St) H8
        refine' s_if (b := decide (a0 < m) && decide (m < a1)) ?y1 ?y2 ?y3
        case y1 => walk_at "et"
        case y2 =>
          intro g H9 e9
          have hm : a0 < m ∧ m < a1 := by simpa using g
          have h1 : nS a0 a1 = a0 := if_pos (by omega)
          have h2 : nT a0 a1 = a1 := if_pos (by omega)
          refine' q_asgP (evp_cut (i := a0) (j := a1) (m := m) (b := b) (dx := dx) ?c1 ?c2 ?c3 ?c4) ?c5
          case c1 => walk_at "ev"
          case c2 => walk_at "hp"
          case c3 => walk_at "ev"
          case c4 => rw [h1, h2]; exact hm
          rintro v H10 e10 ⟨ph, _, _, rfl, hph, ⟨px, dx1, rfl, hpx⟩, ⟨py, dy1, rfl, hpy⟩⟩
          walk_at "whenF"
          · simp
          intro _ H11 e11
          walk_at "swhenF"
          · simp [h1, h2]
          intro _ H12 e12
          exact ⟨_, _, rfl, by walk_at "ex", by walk_at "hp"⟩
        case y3 =>
          intro g H9 e9
          have hm : ¬ (nS a0 a1 < m ∧ m < nT a0 a1) := by
            rw [in_iff]
            simpa using g
          walk_at "swhenF"
          · rfl
          intro _ H10 e10
          exact ⟨_, _, rfl, by walk_at "ex", by walk_at "hp"⟩
end
theorem all_mk {l : PySem.W.OpenLaw} {w : World} {K : PySem.W.Frag} {h : Heap} {mg : Str → Option Value} {fa : Addr} {C_Interval C_BadPlace C_Apart C_CutError : Addr}
    {f_Interval___init__ : Addr} {od_Interval___init__ an_Interval___init__ : Option Addr} {sl_Interval___init__ : Array (Option Value)} {oc_Interval___init__ kV_Interval___init__ dc_Interval___init__ pm_Interval___init__ cd_Interval___init__ ct_Interval___init__ : Value}
    {f_Interval___eq__ : Addr} {od_Interval___eq__ an_Interval___eq__ : Option Addr} {sl_Interval___eq__ : Array (Option Value)} {oc_Interval___eq__ kV_Interval___eq__ dc_Interval___eq__ pm_Interval___eq__ cd_Interval___eq__ ct_Interval___eq__ : Value}
    {f_Interval___lt__ : Addr} {od_Interval___lt__ an_Interval___lt__ : Option Addr} {sl_Interval___lt__ : Array (Option Value)} {oc_Interval___lt__ kV_Interval___lt__ dc_Interval___lt__ pm_Interval___lt__ cd_Interval___lt__ ct_Interval___lt__ : Value}
    {f_Interval___le__ : Addr} {od_Interval___le__ an_Interval___le__ : Option Addr} {sl_Interval___le__ : Array (Option Value)} {oc_Interval___le__ kV_Interval___le__ dc_Interval___le__ pm_Interval___le__ cd_Interval___le__ ct_Interval___le__ : Value}
    {f_Interval_cut : Addr} {od_Interval_cut an_Interval_cut : Option Addr} {sl_Interval_cut : Array (Option Value)} {oc_Interval_cut kV_Interval_cut dc_Interval_cut pm_Interval_cut cd_Interval_cut ct_Interval_cut : Value}
    {f__law_cell : Addr} {od__law_cell an__law_cell : Option Addr} {sl__law_cell : Array (Option Value)} {oc__law_cell kV__law_cell dc__law_cell pm__law_cell cd__law_cell ct__law_cell : Value}
    {f__law_base : Addr} {od__law_base an__law_base : Option Addr} {sl__law_base : Array (Option Value)} {oc__law_base kV__law_base dc__law_base pm__law_base cd__law_base ct__law_base : Value}
    {f__law_shift : Addr} {od__law_shift an__law_shift : Option Addr} {sl__law_shift : Array (Option Value)} {oc__law_shift kV__law_shift dc__law_shift pm__law_shift cd__law_shift ct__law_shift : Value}
    {f__law_four : Addr} {od__law_four an__law_four : Option Addr} {sl__law_four : Array (Option Value)} {oc__law_four kV__law_four dc__law_four pm__law_four cd__law_four ct__law_four : Value}
    {f__law_whole : Addr} {od__law_whole an__law_whole : Option Addr} {sl__law_whole : Array (Option Value)} {oc__law_whole kV__law_whole dc__law_whole pm__law_whole cd__law_whole ct__law_whole : Value}
    {f__law_fields : Addr} {od__law_fields an__law_fields : Option Addr} {sl__law_fields : Array (Option Value)} {oc__law_fields kV__law_fields dc__law_fields pm__law_fields cd__law_fields ct__law_fields : Value}
    {f__law_refused : Addr} {od__law_refused an__law_refused : Option Addr} {sl__law_refused : Array (Option Value)} {oc__law_refused kV__law_refused dc__law_refused pm__law_refused cd__law_refused ct__law_refused : Value}
    {f_law : Addr} {od_law an_law : Option Addr} {sl_law : Array (Option Value)} {oc_law kV_law dc_law pm_law cd_law ct_law : Value}
    (X : K.In h) (G : h.Ns mainGlobals mg) (hfa : mg "law" = some (.ref fa))
    (g_Interval : PySem.W.nsIn K mainGlobals "Interval" = some (some (.ref C_Interval)))
    (pg_Interval : PySem.W.plainGet K C_Interval Str.empty = true)
    (hd_Interval : PySem.W.hasDictIn K C_Interval = true)
    (po_Interval : PySem.W.plainOver K C_Interval = true)
    (sa_Interval : PySem.W.findIn K (.ref C_Interval) "__setattr__" = some (some (.builtin "object.__setattr__")))
    (mk_Interval : PySem.W.makesIn K C_Interval = true)
    (kc_Interval : PySem.W.keepIn K (.ref C_Interval) = true)
    (ca_Interval : PySem.W.findIn K (.ref C_Interval) "__class__" = some (some (.builtin "object.__class__")))
    (cn_Interval : PySem.W.specialIn K (.builtin "object.__class__") "__get__" = some (some (.builtin "getset_descriptor.__get__")))
    (ct_Interval : PySem.W.takesIn K (.builtin "object.__class__") = some true)
    (cm_Interval : PySem.W.mroIn K C_Interval (.type "object") = some true)
    (sf_Interval : PySem.W.selfFirst K C_Interval = true)
    (n_Interval_start : PySem.W.findIn K (.ref C_Interval) "start" = some none)
    (n_Interval_stop : PySem.W.findIn K (.ref C_Interval) "stop" = some none)
    (ne_Interval : PySem.W.findIn K (.ref C_Interval) "__ne__" = some (some (.builtin "object.__ne__")))
    (g_BadPlace : PySem.W.nsIn K mainGlobals "BadPlace" = some (some (.ref C_BadPlace)))
    (xi_BadPlace : PySem.W.excIn K C_BadPlace [.type "ValueError", .type "Exception", .type "BaseException", .type "object"] "ValueError.__new__" = true)
    (kp_BadPlace : PySem.W.keepIn K (.ref C_BadPlace) = true)
    (sb_BadPlace : PySem.W.subIn K (.ref C_BadPlace) (.type "BaseException") = some true)
    (ty_BadPlace : PySem.W.typeIn K (.ref C_BadPlace) = some (.type "type"))
    (q4_BadPlace : PySem.W.hasDictIn K C_BadPlace = true)
    (q1_BadPlace : PySem.W.findIn K (.ref C_BadPlace) "__getattribute__" = some (some (.builtin "BaseException.__getattribute__")))
    (q2_BadPlace : PySem.W.findIn K (.ref C_BadPlace) "__getattr__" = some none)
    (q5_BadPlace : PySem.W.findIn K (.ref C_BadPlace) "__class__" = some (some (.builtin "object.__class__")))
    (q6_BadPlace : PySem.W.specialIn K (.builtin "object.__class__") "__get__" = some (some (.builtin "getset_descriptor.__get__")))
    (q7_BadPlace : PySem.W.takesIn K (.builtin "object.__class__") = some true)
    (q8_BadPlace : PySem.W.mroIn K C_BadPlace (.type "object") = some true)
    (g_Apart : PySem.W.nsIn K mainGlobals "Apart" = some (some (.ref C_Apart)))
    (xi_Apart : PySem.W.excIn K C_Apart [.type "ValueError", .type "Exception", .type "BaseException", .type "object"] "ValueError.__new__" = true)
    (kp_Apart : PySem.W.keepIn K (.ref C_Apart) = true)
    (sb_Apart : PySem.W.subIn K (.ref C_Apart) (.type "BaseException") = some true)
    (ty_Apart : PySem.W.typeIn K (.ref C_Apart) = some (.type "type"))
    (q4_Apart : PySem.W.hasDictIn K C_Apart = true)
    (g_CutError : PySem.W.nsIn K mainGlobals "CutError" = some (some (.ref C_CutError)))
    (xi_CutError : PySem.W.excIn K C_CutError [.type "ValueError", .type "Exception", .type "BaseException", .type "object"] "ValueError.__new__" = true)
    (kp_CutError : PySem.W.keepIn K (.ref C_CutError) = true)
    (sb_CutError : PySem.W.subIn K (.ref C_CutError) (.type "BaseException") = some true)
    (ty_CutError : PySem.W.typeIn K (.ref C_CutError) = some (.type "type"))
    (q4_CutError : PySem.W.hasDictIn K C_CutError = true)
    (s_BadPlace_Apart : PySem.W.subIn K (.ref C_BadPlace) (.ref C_Apart) = some false)
    (s_BadPlace_CutError : PySem.W.subIn K (.ref C_BadPlace) (.ref C_CutError) = some true)
    (s_BadPlace_ValueError : PySem.W.subIn K (.ref C_BadPlace) (.type "ValueError") = some true)
    (z_ValueError : PySem.W.nsIn K mainGlobals "ValueError" = some none)
    (z_bool : PySem.W.nsIn K mainGlobals "bool" = some none)
    (z_int : PySem.W.nsIn K mainGlobals "int" = some none)
    (z_isinstance : PySem.W.nsIn K mainGlobals "isinstance" = some none)
    (z_len : PySem.W.nsIn K mainGlobals "len" = some none)
    (z_max : PySem.W.nsIn K mainGlobals "max" = some none)
    (z_range : PySem.W.nsIn K mainGlobals "range" = some none)
    (z_tuple : PySem.W.nsIn K mainGlobals "tuple" = some none)
    (a_Interval___init__ : PySem.W.findIn K (.ref C_Interval) "__init__" = some (some (.ref f_Interval___init__)))
    (i_Interval___init__ : PySem.W.isFn K (.ref f_Interval___init__) = true)
    (l_Interval___init__ : K.lookup f_Interval___init__ = some ⟨oc_Interval___init__, od_Interval___init__, .func (PySem.W.fnOf "__init__" "Interval.__init__" (defArgs s_Interval___init__) (defBody s_Interval___init__) (defScope s_Interval___init__) .none kV_Interval___init__ dc_Interval___init__ pm_Interval___init__ an_Interval___init__ cd_Interval___init__ ct_Interval___init__), sl_Interval___init__⟩)
    (c_Interval___init__ : PySem.W.codeIn K cd_Interval___init__ "Interval.__init__" = true)
    (k_Interval___init__ : PySem.W.keepIn K (.ref f_Interval___init__) = true)
    (a_Interval___eq__ : PySem.W.findIn K (.ref C_Interval) "__eq__" = some (some (.ref f_Interval___eq__)))
    (i_Interval___eq__ : PySem.W.isFn K (.ref f_Interval___eq__) = true)
    (l_Interval___eq__ : K.lookup f_Interval___eq__ = some ⟨oc_Interval___eq__, od_Interval___eq__, .func (PySem.W.fnOf "__eq__" "Interval.__eq__" (defArgs s_Interval___eq__) (defBody s_Interval___eq__) (defScope s_Interval___eq__) .none kV_Interval___eq__ dc_Interval___eq__ pm_Interval___eq__ an_Interval___eq__ cd_Interval___eq__ ct_Interval___eq__), sl_Interval___eq__⟩)
    (c_Interval___eq__ : PySem.W.codeIn K cd_Interval___eq__ "Interval.__eq__" = true)
    (k_Interval___eq__ : PySem.W.keepIn K (.ref f_Interval___eq__) = true)
    (a_Interval___lt__ : PySem.W.findIn K (.ref C_Interval) "__lt__" = some (some (.ref f_Interval___lt__)))
    (i_Interval___lt__ : PySem.W.isFn K (.ref f_Interval___lt__) = true)
    (l_Interval___lt__ : K.lookup f_Interval___lt__ = some ⟨oc_Interval___lt__, od_Interval___lt__, .func (PySem.W.fnOf "__lt__" "Interval.__lt__" (defArgs s_Interval___lt__) (defBody s_Interval___lt__) (defScope s_Interval___lt__) .none kV_Interval___lt__ dc_Interval___lt__ pm_Interval___lt__ an_Interval___lt__ cd_Interval___lt__ ct_Interval___lt__), sl_Interval___lt__⟩)
    (c_Interval___lt__ : PySem.W.codeIn K cd_Interval___lt__ "Interval.__lt__" = true)
    (k_Interval___lt__ : PySem.W.keepIn K (.ref f_Interval___lt__) = true)
    (a_Interval___le__ : PySem.W.findIn K (.ref C_Interval) "__le__" = some (some (.ref f_Interval___le__)))
    (i_Interval___le__ : PySem.W.isFn K (.ref f_Interval___le__) = true)
    (l_Interval___le__ : K.lookup f_Interval___le__ = some ⟨oc_Interval___le__, od_Interval___le__, .func (PySem.W.fnOf "__le__" "Interval.__le__" (defArgs s_Interval___le__) (defBody s_Interval___le__) (defScope s_Interval___le__) .none kV_Interval___le__ dc_Interval___le__ pm_Interval___le__ an_Interval___le__ cd_Interval___le__ ct_Interval___le__), sl_Interval___le__⟩)
    (c_Interval___le__ : PySem.W.codeIn K cd_Interval___le__ "Interval.__le__" = true)
    (k_Interval___le__ : PySem.W.keepIn K (.ref f_Interval___le__) = true)
    (a_Interval_cut : PySem.W.findIn K (.ref C_Interval) "cut" = some (some (.ref f_Interval_cut)))
    (i_Interval_cut : PySem.W.isFn K (.ref f_Interval_cut) = true)
    (l_Interval_cut : K.lookup f_Interval_cut = some ⟨oc_Interval_cut, od_Interval_cut, .func (PySem.W.fnOf "cut" "Interval.cut" (defArgs s_Interval_cut) (defBody s_Interval_cut) (defScope s_Interval_cut) .none kV_Interval_cut dc_Interval_cut pm_Interval_cut an_Interval_cut cd_Interval_cut ct_Interval_cut), sl_Interval_cut⟩)
    (c_Interval_cut : PySem.W.codeIn K cd_Interval_cut "Interval.cut" = true)
    (k_Interval_cut : PySem.W.keepIn K (.ref f_Interval_cut) = true)
    (a__law_cell : PySem.W.nsIn K mainGlobals "_law_cell" = some (some (.ref f__law_cell)))
    (l__law_cell : K.lookup f__law_cell = some ⟨oc__law_cell, od__law_cell, .func (PySem.W.fnOf "_law_cell" "_law_cell" (defArgs s__law_cell) (defBody s__law_cell) (defScope s__law_cell) .none kV__law_cell dc__law_cell pm__law_cell an__law_cell cd__law_cell ct__law_cell), sl__law_cell⟩)
    (c__law_cell : PySem.W.codeIn K cd__law_cell "_law_cell" = true)
    (k__law_cell : PySem.W.keepIn K (.ref f__law_cell) = true)
    (a__law_base : PySem.W.nsIn K mainGlobals "_law_base" = some (some (.ref f__law_base)))
    (l__law_base : K.lookup f__law_base = some ⟨oc__law_base, od__law_base, .func (PySem.W.fnOf "_law_base" "_law_base" (defArgs s__law_base) (defBody s__law_base) (defScope s__law_base) .none kV__law_base dc__law_base pm__law_base an__law_base cd__law_base ct__law_base), sl__law_base⟩)
    (c__law_base : PySem.W.codeIn K cd__law_base "_law_base" = true)
    (k__law_base : PySem.W.keepIn K (.ref f__law_base) = true)
    (a__law_shift : PySem.W.nsIn K mainGlobals "_law_shift" = some (some (.ref f__law_shift)))
    (l__law_shift : K.lookup f__law_shift = some ⟨oc__law_shift, od__law_shift, .func (PySem.W.fnOf "_law_shift" "_law_shift" (defArgs s__law_shift) (defBody s__law_shift) (defScope s__law_shift) .none kV__law_shift dc__law_shift pm__law_shift an__law_shift cd__law_shift ct__law_shift), sl__law_shift⟩)
    (c__law_shift : PySem.W.codeIn K cd__law_shift "_law_shift" = true)
    (k__law_shift : PySem.W.keepIn K (.ref f__law_shift) = true)
    (a__law_four : PySem.W.nsIn K mainGlobals "_law_four" = some (some (.ref f__law_four)))
    (l__law_four : K.lookup f__law_four = some ⟨oc__law_four, od__law_four, .func (PySem.W.fnOf "_law_four" "_law_four" (defArgs s__law_four) (defBody s__law_four) (defScope s__law_four) .none kV__law_four dc__law_four pm__law_four an__law_four cd__law_four ct__law_four), sl__law_four⟩)
    (c__law_four : PySem.W.codeIn K cd__law_four "_law_four" = true)
    (k__law_four : PySem.W.keepIn K (.ref f__law_four) = true)
    (a__law_whole : PySem.W.nsIn K mainGlobals "_law_whole" = some (some (.ref f__law_whole)))
    (l__law_whole : K.lookup f__law_whole = some ⟨oc__law_whole, od__law_whole, .func (PySem.W.fnOf "_law_whole" "_law_whole" (defArgs s__law_whole) (defBody s__law_whole) (defScope s__law_whole) .none kV__law_whole dc__law_whole pm__law_whole an__law_whole cd__law_whole ct__law_whole), sl__law_whole⟩)
    (c__law_whole : PySem.W.codeIn K cd__law_whole "_law_whole" = true)
    (k__law_whole : PySem.W.keepIn K (.ref f__law_whole) = true)
    (a__law_fields : PySem.W.nsIn K mainGlobals "_law_fields" = some (some (.ref f__law_fields)))
    (l__law_fields : K.lookup f__law_fields = some ⟨oc__law_fields, od__law_fields, .func (PySem.W.fnOf "_law_fields" "_law_fields" (defArgs s__law_fields) (defBody s__law_fields) (defScope s__law_fields) .none kV__law_fields dc__law_fields pm__law_fields an__law_fields cd__law_fields ct__law_fields), sl__law_fields⟩)
    (c__law_fields : PySem.W.codeIn K cd__law_fields "_law_fields" = true)
    (k__law_fields : PySem.W.keepIn K (.ref f__law_fields) = true)
    (a__law_refused : PySem.W.nsIn K mainGlobals "_law_refused" = some (some (.ref f__law_refused)))
    (l__law_refused : K.lookup f__law_refused = some ⟨oc__law_refused, od__law_refused, .func (PySem.W.fnOf "_law_refused" "_law_refused" (defArgs s__law_refused) (defBody s__law_refused) (defScope s__law_refused) .none kV__law_refused dc__law_refused pm__law_refused an__law_refused cd__law_refused ct__law_refused), sl__law_refused⟩)
    (c__law_refused : PySem.W.codeIn K cd__law_refused "_law_refused" = true)
    (k__law_refused : PySem.W.keepIn K (.ref f__law_refused) = true)
    (a_law : PySem.W.nsIn K mainGlobals "law" = some (some (.ref f_law)))
    (l_law : K.lookup f_law = some ⟨oc_law, od_law, .func (PySem.W.fnOf "law" "law" (defArgs s_law) (defBody s_law) (defScope s_law) .none kV_law dc_law pm_law an_law cd_law ct_law), sl_law⟩)
    (c_law : PySem.W.codeIn K cd_law "law" = true)
    (k_law : PySem.W.keepIn K (.ref f_law) = true)
    : ∃ fd : FuncData, (∀ (s : Shared) (v : Value), BindsTo s fd ⟨[v], []⟩ [("_law_script", v)]) ∧ ∀ base : Heap, K.In base → base.Ns mainGlobals mg → FnOk l.prog w K mg base CX0 10 fa fd ["_law_script"] (sp_law K) := by
  have e := hfa.symm.trans (PySem.W.mg_of X G a_law)
  cases e
  have T : Txt K mg C_Interval C_BadPlace C_Apart C_CutError := ⟨⟨PySem.W.mg_of X G g_Interval, ⟨pg_Interval, hd_Interval, po_Interval, sa_Interval⟩, mk_Interval, kc_Interval, ca_Interval, cn_Interval, ct_Interval, cm_Interval, sf_Interval⟩, n_Interval_start, n_Interval_stop, ne_Interval, ⟨PySem.W.mg_of X G g_BadPlace, xi_BadPlace, kp_BadPlace, sb_BadPlace, ty_BadPlace⟩, ⟨q1_BadPlace, q2_BadPlace, sb_BadPlace, q4_BadPlace, q5_BadPlace, q6_BadPlace, q7_BadPlace, q8_BadPlace⟩, ⟨PySem.W.mg_of X G g_Apart, xi_Apart, kp_Apart, sb_Apart, ty_Apart⟩, ⟨PySem.W.mg_of X G g_CutError, xi_CutError, kp_CutError, sb_CutError, ty_CutError⟩, PySem.W.exm_ref sb_Apart q4_Apart ty_Apart s_BadPlace_Apart, PySem.W.exm_ref sb_CutError q4_CutError ty_CutError s_BadPlace_CutError, kit_own s_BadPlace_ValueError, PySem.W.mg_none_of X G z_ValueError, PySem.W.mg_none_of X G z_bool, PySem.W.mg_none_of X G z_int, PySem.W.mg_none_of X G z_isinstance, PySem.W.mg_none_of X G z_len, PySem.W.mg_none_of X G z_max, PySem.W.mg_none_of X G z_range, PySem.W.mg_none_of X G z_tuple⟩
  refine ⟨PySem.W.fnOf "law" "law" (defArgs s_law) (defBody s_law) (defScope s_law) .none kV_law dc_law pm_law an_law cd_law ct_law, fun s v => .of_eq rfl, fun base hbK hbN => ?_⟩
  have F_Interval___init__ := fun_mk (st := s_Interval___init__) l_Interval___init__ c_Interval___init__ k_Interval___init__
  have b_Interval___init__ := F_Interval___init__.binds (ps := ["self", "start", "stop"]) fun _ _ _ _ _ _ us hl => match us, hl with | [_, _, _], _ => rfl
  have h_Interval___init__ : HasM l.prog w K mg base CX0 C_Interval "__init__" 1 ["self", "start", "stop"] (sp_Interval___init__ K C_Interval) := ⟨_, _, ok_Interval___init__ (P := l.prog) (w := w) (base := base) T  F_Interval___init__, a_Interval___init__, i_Interval___init__, k_Interval___init__, b_Interval___init__⟩
  have F_Interval___eq__ := fun_mk (st := s_Interval___eq__) l_Interval___eq__ c_Interval___eq__ k_Interval___eq__
  have b_Interval___eq__ := F_Interval___eq__.binds (ps := ["self", "other"]) fun _ _ _ _ _ _ us hl => match us, hl with | [_, _], _ => rfl
  have h_Interval___eq__ : HasM l.prog w K mg base CX0 C_Interval "__eq__" 1 ["self", "other"] (sp_Interval___eq__ K C_Interval) := ⟨_, _, ok_Interval___eq__ (P := l.prog) (w := w) (base := base) T  F_Interval___eq__, a_Interval___eq__, i_Interval___eq__, k_Interval___eq__, b_Interval___eq__⟩
  have F_Interval___lt__ := fun_mk (st := s_Interval___lt__) l_Interval___lt__ c_Interval___lt__ k_Interval___lt__
  have b_Interval___lt__ := F_Interval___lt__.binds (ps := ["self", "other"]) fun _ _ _ _ _ _ us hl => match us, hl with | [_, _], _ => rfl
  have h_Interval___lt__ : HasM l.prog w K mg base CX0 C_Interval "__lt__" 1 ["self", "other"] (sp_Interval___lt__ K C_Interval) := ⟨_, _, ok_Interval___lt__ (P := l.prog) (w := w) (base := base) T  F_Interval___lt__, a_Interval___lt__, i_Interval___lt__, k_Interval___lt__, b_Interval___lt__⟩
  have F_Interval___le__ := fun_mk (st := s_Interval___le__) l_Interval___le__ c_Interval___le__ k_Interval___le__
  have b_Interval___le__ := F_Interval___le__.binds (ps := ["self", "other"]) fun _ _ _ _ _ _ us hl => match us, hl with | [_, _], _ => rfl
  have h_Interval___le__ : HasM l.prog w K mg base CX0 C_Interval "__le__" 1 ["self", "other"] (sp_Interval___le__ K C_Interval) := ⟨_, _, ok_Interval___le__ (P := l.prog) (w := w) (base := base) T  F_Interval___le__, a_Interval___le__, i_Interval___le__, k_Interval___le__, b_Interval___le__⟩
  have F_Interval_cut := fun_mk (st := s_Interval_cut) l_Interval_cut c_Interval_cut k_Interval_cut
  have b_Interval_cut := F_Interval_cut.binds (ps := ["self", "at"]) fun _ _ _ _ _ _ us hl => match us, hl with | [_, _], _ => rfl
  have h_Interval_cut : HasM l.prog w K mg base (L2.CX l.prog w) C_Interval "cut" 4 ["self", "at"] (sp_Interval_cut K C_Interval C_BadPlace) := ⟨_, _, ok_Interval_cut (P := l.prog) (w := w) (base := base) T h_Interval___init__ F_Interval_cut, a_Interval_cut, i_Interval_cut, k_Interval_cut, b_Interval_cut⟩
  have F__law_cell := fun_mk (st := s__law_cell) l__law_cell c__law_cell k__law_cell
  have b__law_cell := F__law_cell.binds (ps := ["_law_script", "_law_k"]) fun _ _ _ _ _ _ us hl => match us, hl with | [_, _], _ => rfl
  have h__law_cell : Has l.prog w K mg base CX0 "_law_cell" 1 ["_law_script", "_law_k"] (sp__law_cell K C_Interval) := ⟨_, _, ok__law_cell (P := l.prog) (w := w) (base := base) T  F__law_cell, PySem.W.mg_of X G a__law_cell, k__law_cell, b__law_cell⟩
  have F__law_base := fun_mk (st := s__law_base) l__law_base c__law_base k__law_base
  have b__law_base := F__law_base.binds (ps := ["_law_cell_here"]) fun _ _ _ _ _ _ us hl => match us, hl with | [_], _ => rfl
  have h__law_base : Has l.prog w K mg base CX0 "_law_base" 1 ["_law_cell_here"] (sp__law_base K C_Interval) := ⟨_, _, ok__law_base (P := l.prog) (w := w) (base := base) T  F__law_base, PySem.W.mg_of X G a__law_base, k__law_base, b__law_base⟩
  have F__law_shift := fun_mk (st := s__law_shift) l__law_shift c__law_shift k__law_shift
  have b__law_shift := F__law_shift.binds (ps := ["_law_cell_here"]) fun _ _ _ _ _ _ us hl => match us, hl with | [_], _ => rfl
  have h__law_shift : Has l.prog w K mg base CX0 "_law_shift" 1 ["_law_cell_here"] (sp__law_shift K C_Interval) := ⟨_, _, ok__law_shift (P := l.prog) (w := w) (base := base) T  F__law_shift, PySem.W.mg_of X G a__law_shift, k__law_shift, b__law_shift⟩
  have F__law_four := fun_mk (st := s__law_four) l__law_four c__law_four k__law_four
  have b__law_four := F__law_four.binds (ps := ["_law_script", "_law_k"]) fun _ _ _ _ _ _ us hl => match us, hl with | [_, _], _ => rfl
  have h__law_four : Has l.prog w K mg base CX0 "_law_four" 4 ["_law_script", "_law_k"] (sp__law_four K C_Interval) := ⟨_, _, ok__law_four (P := l.prog) (w := w) (base := base) T h__law_base h__law_cell h__law_shift F__law_four, PySem.W.mg_of X G a__law_four, k__law_four, b__law_four⟩
  have F__law_whole := fun_mk (st := s__law_whole) l__law_whole c__law_whole k__law_whole
  have b__law_whole := F__law_whole.binds (ps := ["_law_number"]) fun _ _ _ _ _ _ us hl => match us, hl with | [_], _ => rfl
  have h__law_whole : Has l.prog w K mg base CX0 "_law_whole" 1 ["_law_number"] (sp__law_whole K C_Interval) := ⟨_, _, ok__law_whole (P := l.prog) (w := w) (base := base) T  F__law_whole, PySem.W.mg_of X G a__law_whole, k__law_whole, b__law_whole⟩
  have F__law_fields := fun_mk (st := s__law_fields) l__law_fields c__law_fields k__law_fields
  have b__law_fields := F__law_fields.binds (ps := ["_law_interval", "_law_start", "_law_stop"]) fun _ _ _ _ _ _ us hl => match us, hl with | [_, _, _], _ => rfl
  have h__law_fields : Has l.prog w K mg base CX0 "_law_fields" 4 ["_law_interval", "_law_start", "_law_stop"] (sp__law_fields K C_Interval) := ⟨_, _, ok__law_fields (P := l.prog) (w := w) (base := base) T h__law_whole F__law_fields, PySem.W.mg_of X G a__law_fields, k__law_fields, b__law_fields⟩
  have F__law_refused := fun_mk (st := s__law_refused) l__law_refused c__law_refused k__law_refused
  have b__law_refused := F__law_refused.binds (ps := ["_law_interval", "_law_at"]) fun _ _ _ _ _ _ us hl => match us, hl with | [_, _], _ => rfl
  have h__law_refused : Has l.prog w K mg base CX0 "_law_refused" 7 ["_law_interval", "_law_at"] (sp__law_refused K C_Interval) := ⟨_, _, ok__law_refused (P := l.prog) (w := w) (base := base) T h_Interval_cut F__law_refused, PySem.W.mg_of X G a__law_refused, k__law_refused, b__law_refused⟩
  exact ok_law (P := l.prog) (w := w) (base := base) T h__law_four h__law_fields h_Interval___init__ h__law_cell h_Interval_cut h__law_refused h_Interval___eq__ h_Interval___lt__ h_Interval___le__ (fun_mk (st := s_law) l_law c_law k_law)
theorem walk {l : PySem.W.OpenLaw} {q : Program} {loose : List Str} {XP : (Str → Option Value) → Heap → Prop} {YP : World → Heap → Prop} {d : DefRec} {K : Params → PySem.W.Frag} (hn : l.most = some 63) (hdf : d.params.defaults = [])
    (hY : ∀ (w : World) (h : Heap), YP w h → (K w.params).In h)
    (F : ∀ (w : World) (mg : Str → Option Value) (fa : Addr) (h : Heap), (K w.params).In h → h.Ns mainGlobals mg → mg d.name = some (.ref fa) →
      ∃ fd : FuncData, (∀ (s : Shared) (u : Value), BindsTo s fd ⟨[u], []⟩ [("_law_script", u)]) ∧ ∀ base : Heap, (K w.params).In base → base.Ns mainGlobals mg → FnOk l.prog w (K w.params) mg base CX0 10 fa fd ["_law_script"] (sp_law (K w.params))) :
    PySem.W.WalkO q loose XP YP l.row.toRowW d [] (fun f vs => PySem.call f vs) :=
  L2.walk_of (n := 63) (k := 10) (x := "_law_script") (CX := fun _ => CX0) (sp := fun w => sp_law (K w.params)) hn (by decide) hdf ⟨rfl, by decide, by decide⟩ hY F (fun w _ a ns hl _ hS => sp_law_holds (K w.params) a ns hl hS) fun _ _ _ _ _ z => z
end Toy

open PySem PySem.W PyProof.Rows in
set_option maxRecDepth 100000 in
set_option maxHeartbeats 0 in
theorem PySem.Challenge.cw_cutproof_k03_interval_order_holds : PySem.Challenge.rw_cutproof_k03_interval_order.Holds := by
  w_on; o_law; k_head; (case hw => w_witness2)
  k_fill
  refine Toy.walk (l := PySem.Challenge.rw_cutproof_k03_interval_order) rfl rfl (fun w h Y => PySem.W.kIn_of Y) ?F
  case F =>
    intro w mg fa h KX G hmg
    refine' Toy.all_mk KX G hmg ?g_Interval ?pg_Interval ?hd_Interval ?po_Interval ?sa_Interval ?mk_Interval ?kc_Interval ?ca_Interval ?cn_Interval ?ct_Interval ?cm_Interval ?sf_Interval ?n_Interval_start ?n_Interval_stop ?ne_Interval ?g_BadPlace ?xi_BadPlace ?kp_BadPlace ?sb_BadPlace ?ty_BadPlace ?q4_BadPlace ?q1_BadPlace ?q2_BadPlace ?q5_BadPlace ?q6_BadPlace ?q7_BadPlace ?q8_BadPlace ?g_Apart ?xi_Apart ?kp_Apart ?sb_Apart ?ty_Apart ?q4_Apart ?g_CutError ?xi_CutError ?kp_CutError ?sb_CutError ?ty_CutError ?q4_CutError ?s_BadPlace_Apart ?s_BadPlace_CutError ?s_BadPlace_ValueError ?z_ValueError ?z_bool ?z_int ?z_isinstance ?z_len ?z_max ?z_range ?z_tuple ?a_Interval___init__ ?i_Interval___init__ ?l_Interval___init__ ?c_Interval___init__ ?k_Interval___init__ ?a_Interval___eq__ ?i_Interval___eq__ ?l_Interval___eq__ ?c_Interval___eq__ ?k_Interval___eq__ ?a_Interval___lt__ ?i_Interval___lt__ ?l_Interval___lt__ ?c_Interval___lt__ ?k_Interval___lt__ ?a_Interval___le__ ?i_Interval___le__ ?l_Interval___le__ ?c_Interval___le__ ?k_Interval___le__ ?a_Interval_cut ?i_Interval_cut ?l_Interval_cut ?c_Interval_cut ?k_Interval_cut ?a__law_cell ?l__law_cell ?c__law_cell ?k__law_cell ?a__law_base ?l__law_base ?c__law_base ?k__law_base ?a__law_shift ?l__law_shift ?c__law_shift ?k__law_shift ?a__law_four ?l__law_four ?c__law_four ?k__law_four ?a__law_whole ?l__law_whole ?c__law_whole ?k__law_whole ?a__law_fields ?l__law_fields ?c__law_fields ?k__law_fields ?a__law_refused ?l__law_refused ?c__law_refused ?k__law_refused ?a_law ?l_law ?c_law ?k_law
    (case g_Interval => k_is)
    (case pg_Interval => k_is)
    (case hd_Interval => k_is)
    (case po_Interval => k_is)
    (case sa_Interval => k_is)
    (case mk_Interval => k_is)
    (case kc_Interval => k_is)
    (case ca_Interval => k_is)
    (case cn_Interval => k_is)
    (case ct_Interval => k_is)
    (case cm_Interval => k_is)
    (case sf_Interval => k_is)
    (case n_Interval_start => k_is)
    (case n_Interval_stop => k_is)
    (case ne_Interval => k_is)
    (case g_BadPlace => k_is)
    (case xi_BadPlace => k_exc)
    (case kp_BadPlace => k_is)
    (case sb_BadPlace => k_is)
    (case ty_BadPlace => k_is)
    (case q4_BadPlace => k_is)
    (case q1_BadPlace => k_is)
    (case q2_BadPlace => k_is)
    (case q5_BadPlace => k_is)
    (case q6_BadPlace => k_is)
    (case q7_BadPlace => k_is)
    (case q8_BadPlace => k_is)
    (case g_Apart => k_is)
    (case xi_Apart => k_exc)
    (case kp_Apart => k_is)
    (case sb_Apart => k_is)
    (case ty_Apart => k_is)
    (case q4_Apart => k_is)
    (case g_CutError => k_is)
    (case xi_CutError => k_exc)
    (case kp_CutError => k_is)
    (case sb_CutError => k_is)
    (case ty_CutError => k_is)
    (case q4_CutError => k_is)
    (case s_BadPlace_Apart => k_is)
    (case s_BadPlace_CutError => k_is)
    (case s_BadPlace_ValueError => k_is)
    (case z_ValueError => k_is)
    (case z_bool => k_is)
    (case z_int => k_is)
    (case z_isinstance => k_is)
    (case z_len => k_is)
    (case z_max => k_is)
    (case z_range => k_is)
    (case z_tuple => k_is)
    (case a_Interval___init__ => k_is)
    (case i_Interval___init__ => k_is)
    (case l_Interval___init__ => k_is)
    (case c_Interval___init__ => k_is)
    (case k_Interval___init__ => k_is)
    (case a_Interval___eq__ => k_is)
    (case i_Interval___eq__ => k_is)
    (case l_Interval___eq__ => k_is)
    (case c_Interval___eq__ => k_is)
    (case k_Interval___eq__ => k_is)
    (case a_Interval___lt__ => k_is)
    (case i_Interval___lt__ => k_is)
    (case l_Interval___lt__ => k_is)
    (case c_Interval___lt__ => k_is)
    (case k_Interval___lt__ => k_is)
    (case a_Interval___le__ => k_is)
    (case i_Interval___le__ => k_is)
    (case l_Interval___le__ => k_is)
    (case c_Interval___le__ => k_is)
    (case k_Interval___le__ => k_is)
    (case a_Interval_cut => k_is)
    (case i_Interval_cut => k_is)
    (case l_Interval_cut => k_is)
    (case c_Interval_cut => k_is)
    (case k_Interval_cut => k_is)
    (case a__law_cell => k_is)
    (case l__law_cell => k_is)
    (case c__law_cell => k_is)
    (case k__law_cell => k_is)
    (case a__law_base => k_is)
    (case l__law_base => k_is)
    (case c__law_base => k_is)
    (case k__law_base => k_is)
    (case a__law_shift => k_is)
    (case l__law_shift => k_is)
    (case c__law_shift => k_is)
    (case k__law_shift => k_is)
    (case a__law_four => k_is)
    (case l__law_four => k_is)
    (case c__law_four => k_is)
    (case k__law_four => k_is)
    (case a__law_whole => k_is)
    (case l__law_whole => k_is)
    (case c__law_whole => k_is)
    (case k__law_whole => k_is)
    (case a__law_fields => k_is)
    (case l__law_fields => k_is)
    (case c__law_fields => k_is)
    (case k__law_fields => k_is)
    (case a__law_refused => k_is)
    (case l__law_refused => k_is)
    (case c__law_refused => k_is)
    (case k__law_refused => k_is)
    (case a_law => k_is)
    (case l_law => k_is)
    (case c_law => k_is)
    (case k_law => k_is)
#print axioms PySem.Challenge.cw_cutproof_k03_interval_order_holds
