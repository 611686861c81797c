import PyProof.Rows.All
import Wide.All
import OpenK.AllK
import Wide.FinOn
import HandS.ForMost
import HandS.ForExc
import HandS.SlotsOwn
import HandS.IsInst
import HandS.Evl
import HandS.More
import HandS.TryMany
import HandS.ExcIs
import HandS.TupLe
import HandS.TupAny
import HandS.TupMul
import HandS.Deep
import HandS.Dict
import HandS.Wide
import HandS.RaiseMore
import HandS.Text
import HandS.StrMore
import HandS.Flow
import HandS.Star
import HandS.Iter
import HandS.Zip
import HandS.Defaults
import HandS.CallSlots
import HandS.Small
import HandS.Rev
import PyProof.CollectIter
import KE.KExcSuper
import HandS.ExcInit
import HandS.Nested
import HandS.FStr
import HandS.ExcField
import HandS.Style
import HandS.Words
import HandS.Conv
import PyProof.Rows.RegStrFacts
import KE.IntTextLaws
import PyProof.ReprRoads
import PyProof.Rows.ReprR
import PySem.Challenge.RW_cutproof_k15_step_lines
set_option Elab.async false
set_option linter.all false
set_option maxRecDepth 100000
set_option maxHeartbeats 2000000
/-! operators of own classes' instances, by the hand layer -/
namespace OwnO
open PySem PySem.Spec PyProof.Rows L2

section
variable {X : Cx} {CX : CXT} {pins : List (Addr × Obj)} {σ : L2.St} {H : Hp} {s : Shared} {a C dx f : Addr} {fs : List (Str × V)} {n k : Nat} {sp : Sp} {E : XK} {fd : FuncData} {ps : List Str}

theorem ins_inst (I : Inv X pins σ H s) (e : H a = some (.ins C dx fs)) : ∃ od, PySem.W.InstAt s.heap a (PySem.W.instObj C dx) C (some od) := by
  obtain ⟨mA, O, _⟩ := ins_get I.hok e
  obtain ⟨od, J, _⟩ := O.look
  exact ⟨od, J⟩

/-- x op y, both instances of the class at C, whose def for op keeps sp -/
def rOwn2 (C : Addr) (sp : Sp) (E : XK) : R2 := fun x y H Q => ∃ a dx fs b dy gs, x = .ref a ∧ y = .ref b ∧ H a = some (.ins C dx fs) ∧ H b = some (.ins C dy gs) ∧ sp [x, y] H Q E
theorem op_ownBin {op : Operator} (hc : PySem.W.selfFirst X.K C = true) (hs : PySem.W.findIn X.K (.ref C) (PySem.dunder op.info.2) = some (some (.ref f))) (hf : PySem.W.isFn X.K (.ref f) = true)
    (F : FnOk X.prog X.w X.K X.mg X.base CX k f fd ps sp) (hr : Room k X.A) (hb : Binds X.K fd ps []) (hx : Passes CX X E) : OpR X (binaryOp op) (rOwn2 C sp E) := by
  intro pins s σ H x y v u Q I rx ry h
  obtain ⟨a, dx, fs, b, dy, gs, rfl, rfl, ha, hb', q⟩ := h
  cases (show v = Value.ref a from rx)
  cases (show u = Value.ref b from ry)
  obtain ⟨od, J⟩ := ins_inst I ha
  obtain ⟨od', J'⟩ := ins_inst I hb'
  obtain ⟨m, hF⟩ := I.fr
  refine PySem.W.binop_K hF I.ok.mod.kin J J'.type hc hs hf ?_
  refine wpAny_mono (run_fn (us := [.ref a, .ref b]) (vs := [.ref a, .ref b]) (dvs := []) (ds := []) F hr hb .nil hx I (.cons rfl (.cons rfl .nil)) q) (fun w s' z => ?_) fun _ _ x => x
  obtain ⟨z', H', I', rz, qz⟩ := z
  exact SlX.cmpback rz ⟨z', H', I', rz, qz⟩

theorem notFirst_self {K : PySem.W.Frag} {C : Addr} : PySem.W.notFirst K C (.ref C) = true := by
  unfold PySem.W.notFirst
  rw [Bool.or_eq_true_iff]
  exact .inl (beq_self_eq_true _)
theorem op_ownCmp {op : CmpOp} (hop : ∀ a b, compareOp op a b = richCompare op a b) (hs : PySem.W.findIn X.K (.ref C) (cmpInfo op).2.1 = some (some (.ref f))) (hf : PySem.W.isFn X.K (.ref f) = true)
    (F : FnOk X.prog X.w X.K X.mg X.base CX k f fd ps sp) (hr : Room k X.A) (hb : Binds X.K fd ps []) (hx : Passes CX X E) : OpR X (compareOp op) (rOwn2 C sp E) := by
  intro pins s σ H x y v u Q I rx ry h
  obtain ⟨a, dx, fs, b, dy, gs, rfl, rfl, ha, hb', q⟩ := h
  cases (show v = Value.ref a from rx)
  cases (show u = Value.ref b from ry)
  obtain ⟨od, J⟩ := ins_inst I ha
  obtain ⟨od', J'⟩ := ins_inst I hb'
  obtain ⟨m, hF⟩ := I.fr
  rw [hop]
  refine PySem.W.cmp_K (op := op) (tb := .ref C) hr.units0 hF I.ok.mod.kin J J'.type notFirst_self hs hf ?_
  refine wpAny_mono (run_fn (us := [.ref a, .ref b]) (vs := [.ref a, .ref b]) (dvs := []) (ds := []) F hr hb .nil hx I (.cons rfl (.cons rfl .nil)) q) (fun w s' z => ?_) fun _ _ x => x
  obtain ⟨z', H', I', rz, qz⟩ := z
  exact SlX.cmpback rz ⟨z', H', I', rz, qz⟩

/-- y in x, x an instance of C -/
def rOwnIn (C : Addr) (sp : Sp) (E : XK) : R2 := fun y x H Q => ∃ a dx fs, x = .ref a ∧ H a = some (.ins C dx fs) ∧ sp [x, y] H (fun z H' => ∃ b, z = .bl b ∧ Q (.bl b) H') E
theorem op_ownIn (hs : PySem.W.findIn X.K (.ref C) "__contains__" = some (some (.ref f))) (hf : PySem.W.isFn X.K (.ref f) = true)
    (F : FnOk X.prog X.w X.K X.mg X.base CX k f fd ps sp) (hr : Room k X.A) (hb : Binds X.K fd ps []) (hx : Passes CX X E) : OpR X (compareOp .In) (rOwnIn C sp E) := by
  intro pins s σ H y x u v Q I ry rx h
  obtain ⟨a, dx, fs, rfl, ha, q⟩ := h
  cases (show v = Value.ref a from rx)
  obtain ⟨od, J⟩ := ins_inst I ha
  obtain ⟨m, hF⟩ := I.fr
  refine PySem.W.in_K hF I.ok.mod.kin J hs hf ?_
  refine wpAny_mono (run_fn (us := [.ref a, u]) (vs := [.ref a, y]) (dvs := []) (ds := []) F hr hb .nil hx I (.cons rfl (.cons ry .nil)) q) (fun w s' z => ?_) fun _ _ x => x
  obtain ⟨z', H', I', rz, b, ez, qz⟩ := z
  subst ez
  cases (show w = Value.bool b from rz)
  exact wpAny_truthy_bool ⟨.bl b, H', I', rfl, qz⟩

/-- an instance's truth -/
def rOwnTru (C : Addr) (sp : Sp) (E : XK) : V → Hp → (Bool → Hp → Prop) → Prop := fun x H Q => ∃ a dx fs, x = .ref a ∧ H a = some (.ins C dx fs) ∧ sp [x] H (fun z H' => ∃ b, z = .bl b ∧ Q b H') E
theorem tru_own (hs : PySem.W.findIn X.K (.ref C) "__bool__" = some (some (.ref f))) (hf : PySem.W.isFn X.K (.ref f) = true)
    (F : FnOk X.prog X.w X.K X.mg X.base CX k f fd ps sp) (hr : Room k X.A) (hb : Binds X.K fd ps []) (hx : Passes CX X E) : TruR X (rOwnTru C sp E) := by
  intro pins s σ H x v Q I rx h
  obtain ⟨a, dx, fs, rfl, ha, q⟩ := h
  cases (show v = Value.ref a from rx)
  obtain ⟨od, J⟩ := ins_inst I ha
  obtain ⟨m, hF⟩ := I.fr
  refine PySem.W.truthy_K hF I.ok.mod.kin J hs hf ?_
  refine wpAny_mono (run_fn (us := [.ref a]) (vs := [.ref a]) (dvs := []) (ds := []) F hr hb .nil hx I (.cons rfl .nil) q) (fun w s' z => ?_) fun _ _ x => x
  obtain ⟨z', H', I', rz, b, ez, qz⟩ := z
  subst ez
  cases (show w = Value.bool b from rz)
  exact ⟨H', I', qz⟩
def tTruR (r : V → Hp → (Bool → Hp → Prop) → Prop) (ta : TE) : TT := fun σ H Q => ta σ H fun x H1 => r x H1 Q
theorem pt_truR {r : V → Hp → (Bool → Hp → Prop) → Prop} {e : Expr} {ta : TE} (hr : TruR X r) (ha : PE X e ta) (he : ∀ whole, isTrue e X.env whole = (do let v ← whole; standAt e.pos; holding [v] (truthy v)) := by intro _; rfl) : PT X e (tTruR r ta) := by
  refine ⟨fun pins s σ H Q I h => ?_⟩
  exact isTrue_plain (thn (ha.run pins s σ H _ I h) fun v s1 ⟨x, H1, I1, r1, q1⟩ => hr pins s1 σ H1 x v Q I1 r1 q1) (he _)
end

section
variable {prog : Program} {w : World} {A : Around} {E : Value → Shared → Prop} {s : Shared}
/-- bool(x) by the truth of x -/
theorem bool_by {v : Value} {Q : Value → Shared → Prop} (h : wpAny (model prog w) A.in1.in1 (truthy v) (fun b s' => Q (.bool b) s') E s) : wpAny (model prog w) A (call (.type "bool") [v]) Q E s := by
  refine callType_codes (T := "bool") (Bi := Builtin.«object.__init__») (Q₁ := fun r s₁ => ∃ b, r = Value.bool b ∧ Q r s₁) PySem.F.called_bool (PySem.F.typeCall_bool_1 _) PySem.F.entry_object_init ?_ ?_
  · refine codeAny_of_tree ?_
    show wpAny _ A.in1.in1 (do checkBuiltinCall "bool.__new__" ⟨[.type "bool", v], []⟩; again (.builtin "bool.__new__" ⟨[.type "bool", v], []⟩)) _ _ s
    refine wpAny_bind (wpAny_of_eq (PySem.F.newCall_bool_1 _) (wpAny_pure ⟨plainId_quiet (by decide +kernel) _, codeAny_builtin PySem.F.entry_bool_new ?_⟩))
    rw [Around.under_plainId (by decide +kernel) _]
    unfold Builtin.«bool.__new__»
    have f1 := PySem.F.conv_sub_bool
    have h' := h
    obtain ⟨hp, g, d, tk, os⟩ := s
    repeat (first | (refine wpAny_bind (m := truthy v) (wpAny_mono h' (fun b s' hb => ?_) fun _ _ y => y)) | wp_step)
    all_goals exact ⟨b, rfl, hb⟩
  · rintro obj s₁ ⟨b, rfl, hq⟩
    exact ⟨PySem.typeIs_bool _ _, PySem.F.args_object_init_2 _ _, object_init_meets PySem.F.called_bool.init.lookup PySem.F.called_bool.made (by decide) prog w A.in1 _ s₁ ⟨PySem.typeIs_bool _ _, rfl, hq⟩⟩
end

section
variable {prog : Program} {w : World} {A : Around} {E : Value → Shared → Prop} {s : Shared} {K : PySem.W.Frag} {x y C f : Addr} {ox : Obj} {od : Option Obj}
theorem objNe_K (X : K.In s.heap) (I : PySem.W.InstAt s.heap x ox C od) (hs : PySem.W.findIn K (.ref C) "__eq__" = some (some (.ref f))) (hf : PySem.W.isFn K (.ref f) = true) (hu : A.units < cLine) {Q : PySem.Fin → Shared → Prop}
    (hcall : wpAny (model prog w) A (call (.ref f) [.ref x, .ref y]) (fun v s' => ∃ b, v = .bool b ∧ Q (.done (.ret (.bool (!b)))) s') E s) :
    wpAny (model prog w) A (Builtin.«object.__ne__» ⟨[.ref x, .ref y], []⟩) Q E s := by
  have hcall' := hcall
  obtain ⟨h, g, d, t, os⟩ := s
  unfold Builtin.«object.__ne__»
  repeat (first
    | with_reducible refine wpAny_cRoomFor hu ?_
    | (refine wpAny_bind (m := callSpecialIfBound? (.ref x) (Str.ofString "__eq__") [.ref y])
        (PySem.W.ifBound_K X I hs hf (wpAny_mono hcall' (fun r s' hr => by
          obtain ⟨b, rfl, hq⟩ := hr
          repeat (first | exact hq | exact wpAny_pure hq | exact wpAny_truthy_bool hq | (refine wpAny_bind (m := truthy (.bool _)) (wpAny_truthy_bool ?_)) | wp_step)) fun _ _ e => e)))
    | wp_step)
theorem ne_K {Q : Value → Shared → Prop} (hu : A.units + 1 < cLine) (X : K.In s.heap) (I : PySem.W.InstAt s.heap x ox C od) (hb : PySem.W.Looks (model prog w) s.heap (typeOf (.ref y)) (.ref C))
    (hn : PySem.W.findIn K (.ref C) "__ne__" = some (some (.builtin "object.__ne__"))) (hm : PySem.W.mroIn K C (.type "object") = some true)
    (hs : PySem.W.findIn K (.ref C) "__eq__" = some (some (.ref f))) (hf : PySem.W.isFn K (.ref f) = true)
    (h : wpAny (model prog w) A.in1 (call (.ref f) [.ref x, .ref y]) (fun v s' => ∃ b, v = .bool b ∧ Q (.bool (!b)) s') E s) : wpAny (model prog w) A (richCompare .NotEq (.ref x) (.ref y)) Q E s := by
  have hcall : wpAny (model prog w) A (call (.builtin "object.__ne__") [.ref x, .ref y]) (fun v s' => ∃ b, v = .bool b ∧ Q v s') E s := by
    refine wpAny_call (codeAny_call_builtin PySem.F.cmp_object.ne.plain PySem.F.cmpEntry_ne (PySem.W.check_slot (i := "object.__ne__") (owner := "object") (n := "__ne__") PySem.F.cmpKind_ne PySem.F.cmpSplit_ne (I.type.andThen (PySem.W.looks_mroIn X hm)) (PySem.F.cmpArgs_ne _ _)
      (objNe_K (A := A.in1) X I hs hf hu (wpAny_mono h (fun v s' hv => ?_) fun _ _ e => e))))
    obtain ⟨b, rfl, hq⟩ := hv
    exact ⟨b, rfl, ⟨_, rfl, hq⟩⟩
  have one : wpAny (model prog w) A (tryCompare (.ref x) "__ne__" (.ref y)) (fun r s' => ∃ v, r = some v ∧ Q v s') E s := by
    unfold tryCompare
    refine wpAny_bind (m := callSpecialIfBound? (.ref x) _ _) ?_
    simp only [callSpecialIfBound?, bindSpecialIfBound?]
    refine wpAny_holding (wpAny_bind (wpAny_bind (wpAny_bind (I.type.here ((PySem.W.looks_findIn X hn).here ?_)))))
    simp only [PySem.F.cmp_object.ne.bind]
    refine wpAny_bind (wpAny_askSetting (wpAny_ite ?_))
    have fin : wpAny (model prog w) A (call (.builtin "object.__ne__") ([.ref x] ++ [.ref y]) >>= fun v => pure (some v)) (fun r s' => ∃ b, r = some (.bool b) ∧ Q (.bool b) s') E s :=
      wpAny_bind (wpAny_mono hcall (fun v s' ⟨b, e, q⟩ => wpAny_pure ⟨b, by rw [e], by rw [← e]; exact q⟩) fun _ _ e => e)
    split
    · refine wpAny_bind (wpAny_pure (wpAny_pure (wpAny_mono fin (fun r s' ⟨b, e, q⟩ => ?_) fun _ _ e => e)))
      subst e
      first | exact wpAny_pure ⟨_, rfl, q⟩ | exact wpAny_pure (wpAny_pure ⟨_, rfl, q⟩)
    · refine wpAny_tryCatch (wpAny_bind (wpAny_pure (wpAny_pure (wpAny_mono fin (fun r s' ⟨b, e, q⟩ => ?_) fun _ _ e => e))))
      subst e
      first | exact wpAny_pure ⟨_, rfl, q⟩ | exact wpAny_pure (wpAny_pure ⟨_, rfl, q⟩)
  unfold richCompare
  simp only [oneThing_ref]
  refine wpAny_holding ?_
  refine wpAny_bind (wpAny_cRoomFor (Nat.lt_of_succ_lt hu) ?_)
  rw [cmpInfo_NotEq]
  dsimp only
  refine wpAny_bind (I.type.here (wpAny_bind (hb.here ?_)))
  rw [show (Value.ref C != Value.ref C) = false from by simp]
  simp only [Bool.false_eq_true, if_false]
  refine wpAny_bind (wpAny_pure ?_)
  simp only [Bool.false_eq_true, if_false]
  refine wpAny_bind (wpAny_mono one (fun r s' z => ?_) fun _ _ e => e)
  obtain ⟨v, rfl, hq⟩ := z
  exact wpAny_pure hq
end

section
variable {X : Cx} {CX : CXT} {pins : List (Addr × Obj)} {σ : L2.St} {H : Hp} {s : Shared} {a C dx f : Addr} {fs : List (Str × V)} {n k : Nat} {sp : Sp} {E : XK} {fd : FuncData} {ps : List Str}
theorem run_fnAt {A : Around} {Q : VK} {us : List Value} {vs : List V} (F : FnOk X.prog X.w X.K X.mg X.base CX k f fd ps sp) (hr : Room k A) (e0 : Env0 X.prog X.w X.K X.mg X.base A X.stack s H) (hb : Binds X.K fd ps []) (hx : Passes CX X E)
    (I : Inv X pins σ H s) (r : Vals vs us) (h : sp vs H Q E) : wpAny (model X.prog X.w) A (call (.ref f) us) (EP X pins σ Q) X.xe s := by
  have hl : (us ++ []).length = ps.length := by rw [List.append_nil, ← r.length]; exact F.len _ _ _ _ h
  have hb' := hb s us I.kIn hl
  rw [List.append_nil] at hb'
  refine wpAny_call (codeAny_mono (F.run A X.stack s H ⟨us, []⟩ us vs Q E hr e0 hb' r h) fun r s' hq => ?_)
  cases r with
  | error e => exact hx pins σ H s e s' I hq
  | ok fl =>
    cases fl with
    | ret u => exact I.after hq
    | next => exact False.elim hq
    | brk => exact False.elim hq
    | cont => exact False.elim hq
/-- bool(x), x an instance -/
def rOwnBool (C : Addr) (sp : Sp) (E : XK) : List V → Hp → VK → Prop := fun xs H Q => ∃ a dx fs, xs = [.ref a] ∧ H a = some (.ins C dx fs) ∧ sp [.ref a] H (fun z H' => ∃ b, z = .bl b ∧ Q (.bl b) H') E
theorem call_boolOwn (hs : PySem.W.findIn X.K (.ref C) "__bool__" = some (some (.ref f))) (hf : PySem.W.isFn X.K (.ref f) = true)
    (F : FnOk X.prog X.w X.K X.mg X.base CX k f fd ps sp) (hr : Room (k + 2) X.A) (hb : Binds X.K fd ps []) (hx : Passes CX X E) : CallR X (.type "bool") (rOwnBool C sp E) := by
  intro pins s σ H xs us Q I r h
  obtain ⟨a, dx, fs, rfl, ha, q⟩ := h
  obtain ⟨u, rfl, ru⟩ := vals1 r
  cases (show u = Value.ref a from ru)
  obtain ⟨od, J⟩ := ins_inst I ha
  obtain ⟨m, hF⟩ := I.fr
  have hr2 : Room k X.A.in1.in1 := (show Room (k + 1) X.A.in1 from Room.in1 hr).in1
  refine bool_by (PySem.W.truthy_K hF I.ok.mod.kin J hs hf ?_)
  refine wpAny_mono (run_fnAt (us := [.ref a]) (vs := [.ref a]) F hr2 I.env0.in1.in1 hb hx I (.cons rfl .nil) q) (fun w s' z => ?_) fun _ _ x => x
  obtain ⟨z', H', I', rz, b, ez, qz⟩ := z
  subst ez
  cases (show w = Value.bool b from rz)
  exact ⟨.bl b, H', I', rfl, qz⟩
/-- x != y by the own == -/
def rOwnNe (C : Addr) (sp : Sp) (E : XK) : R2 := fun x y H Q => ∃ a dx fs b dy gs, x = .ref a ∧ y = .ref b ∧ H a = some (.ins C dx fs) ∧ H b = some (.ins C dy gs) ∧ sp [x, y] H (fun z H' => ∃ k, z = .bl k ∧ Q (.bl (!k)) H') E
theorem op_ownNe (hn : PySem.W.findIn X.K (.ref C) "__ne__" = some (some (.builtin "object.__ne__"))) (hm : PySem.W.mroIn X.K C (.type "object") = some true) (hs : PySem.W.findIn X.K (.ref C) "__eq__" = some (some (.ref f))) (hf : PySem.W.isFn X.K (.ref f) = true)
    (F : FnOk X.prog X.w X.K X.mg X.base CX k f fd ps sp) (hr : Room (k + 1) X.A) (hb : Binds X.K fd ps []) (hx : Passes CX X E) : OpR X (compareOp .NotEq) (rOwnNe C sp E) := by
  intro pins s σ H x y v u Q I rx ry h
  obtain ⟨a, dx, fs, b, dy, gs, rfl, rfl, ha, hb', q⟩ := h
  cases (show v = Value.ref a from rx)
  cases (show u = Value.ref b from ry)
  obtain ⟨od, J⟩ := ins_inst I ha
  obtain ⟨od', J'⟩ := ins_inst I hb'
  show wpAny _ _ (richCompare .NotEq _ _) _ _ _
  refine ne_K (hu_of (hr.mono (Nat.le_refl _))) I.kIn J J'.type hn hm hs hf ?_
  refine wpAny_mono (run_fnAt (us := [.ref a, .ref b]) (vs := [.ref a, .ref b]) F hr.in1 I.env0.in1 hb hx I (.cons rfl (.cons rfl .nil)) q) (fun w s' z => ?_) fun _ _ x => x
  obtain ⟨z', H', I', rz, c, ez, qz⟩ := z
  subst ez
  cases (show w = Value.bool c from rz)
  exact ⟨c, rfl, .bl (!c), H', I', rfl, qz⟩
end
end OwnO

set_option Elab.async false
set_option linter.all false
set_option maxRecDepth 100000
set_option maxHeartbeats 2000000
/-! short words for a whole text: a def or class as it stands, the rules over them, what evaluates to what -/
namespace My
open PySem PySem.Spec PyProof.Rows L2 Evl OwnO

/-- a def of the module x keeps sp -/
structure Has (P : Program) (w : World) (K : PySem.W.Frag) (mg : Str → Option Value) (base : Heap) (CX : CXT) (x : Str) (k : Nat) (ps : List Str) (sp : Sp) : Prop where
  ex : ∃ f fd, FnOk P w K mg base CX k f fd ps sp ∧ mg x = some (.ref f) ∧ PySem.W.keepIn K (.ref f) = true ∧ Binds K fd ps []
/-- a method m of the class at C keeps sp -/
structure HasM (P : Program) (w : World) (K : PySem.W.Frag) (mg : Str → Option Value) (base : Heap) (CX : CXT) (C : Addr) (m : Str) (k : Nat) (ps : List Str) (sp : Sp) : Prop where
  ex : ∃ f fd, FnOk P w K mg base CX k f fd ps sp ∧ PySem.W.findIn K (.ref C) m = some (some (.ref f)) ∧ PySem.W.isFn K (.ref f) = true ∧ PySem.W.keepIn K (.ref f) = true ∧ Binds K fd ps []
/-- a class of the module, an ordinary one -/
structure HasC (K : PySem.W.Frag) (mg : Str → Option Value) (x : Str) (C : Addr) : Prop where
  g : mg x = some (.ref C)
  cl : Cls K C
  mks : PySem.W.makesIn K C = true
  kp : PySem.W.keepIn K (.ref C) = true
  ca : PySem.W.findIn K (.ref C) "__class__" = some (some (.builtin "object.__class__"))
  cn : PySem.W.specialIn K (.builtin "object.__class__") "__get__" = some (some (.builtin "getset_descriptor.__get__"))
  ct : PySem.W.takesIn K (.builtin "object.__class__") = some true
  cm : PySem.W.mroIn K C (.type "object") = some true
  sf : PySem.W.selfFirst K C = true
theorem HasC.ty {K : PySem.W.Frag} {mg : Str → Option Value} {x : Str} {C a dx : Addr} {fs : List (Str × V)} {H : Hp} (c : HasC K mg x C) (h : H a = some (.ins C dx fs)) : TyX K H (.ref a) (.ref C) :=
  .base (.ins h c.cl c.ca c.cn c.ct c.cm)

section
variable {X : Cx} {CX : CXT} {k : Nat} {C : Addr} {ps : List Str} {sp : Sp} {E : XK} {x m : Str} {p pos apos : Pos} {e o : Expr} {es : List Expr} {ta : TE} {t : TA}
theorem pe_callH (h : Has X.prog X.w X.K X.mg X.base CX x k ps sp) (hr : Room k X.A) (hx : Passes CX X E) (ha : PA X (e :: es) t) (hg : Gl X x := by rfl)
    (hdb : (x == ("__debug__" : Str)) = false := by decide) (he : starEach (e :: es) X.env = (false, eval e X.env) :: starEach es X.env := by rfl) (hpl : (backTo pos (starEach es X.env)).any (·.1) = false := by rfl) :
    PE X (.Call (.Name x p) (e :: es) [] pos) (tCall sp [] E t) := by
  obtain ⟨f, fd, F, hm, hk, hb⟩ := h.ex
  exact pe_call F hr hg hm hk hb .nil hx ha hdb he hpl
theorem pe_makeH (c : HasC X.K X.mg x C) (h : HasM X.prog X.w X.K X.mg X.base CX C "__init__" k ps sp) (hr : Room (k + 1) X.A) (hx : Passes CX X E) (ha : PA X (e :: es) t) (hg : Gl X x := by rfl)
    (hdb : (x == ("__debug__" : Str)) = false := by decide) (he : starEach (e :: es) X.env = (false, eval e X.env) :: starEach es X.env := by rfl) (hpl : (backTo pos (starEach es X.env)).any (·.1) = false := by rfl) :
    PE X (.Call (.Name x p) (e :: es) [] pos) (tMake C sp [] E t) := by
  obtain ⟨f, fd, F, hm, hi, hk, hb⟩ := h.ex
  exact pe_make ⟨c.mks, hm, hi, c.kp⟩ F hr hg c.g hb .nil hx ha hdb he hpl
theorem pe_methH {pl : Sem Bool} (he : PE X o ta) (c : Cls X.K C) (h : HasM X.prog X.w X.K X.mg X.base CX C m k ps sp) (hr : Room k X.A) (hx : Passes CX X E) (ha : PA X (e :: es) t)
    (hst : starEach (e :: es) X.env = (false, eval e X.env) :: starEach es X.env := by rfl) (hpl : (backTo pos (starEach es X.env)).any (·.1) = false := by rfl)
    (ht : eval (.Call (.Attribute o m apos) (e :: es) [] pos) X.env = (do
      let ov ← eval o X.env
      standAt apos.atName
      let (f, first) ← holding [ov] (getMethod ov m pl)
      callWith pos f first (backTo pos (starEach (e :: es) X.env)) (backToKw pos (keywordEach [] X.env))) := by rfl) :
    PE X (.Call (.Attribute o m apos) (e :: es) [] pos) (tMeth C m sp [] E ta t) := by
  obtain ⟨f, fd, F, hm, hi, hk, hb⟩ := h.ex
  exact pe_meth he c ⟨hm, hi, hk⟩ F hr hb .nil hx ha hst hpl ht
theorem pe_methH0 {pl : Sem Bool} (he : PE X o ta) (c : Cls X.K C) (h : HasM X.prog X.w X.K X.mg X.base CX C m k ps sp) (hr : Room k X.A) (hx : Passes CX X E)
    (ht : eval (.Call (.Attribute o m apos) [] [] pos) X.env = (do
      let ov ← eval o X.env
      standAt apos.atName
      let (f, first) ← holding [ov] (getMethod ov m pl)
      callWith pos f first (backTo pos (starEach [] X.env)) (backToKw pos (keywordEach [] X.env))) := by rfl) :
    PE X (.Call (.Attribute o m apos) [] [] pos) (tMeth C m sp [] E ta tNil) := by
  obtain ⟨f, fd, F, hm, hi, hk, hb⟩ := h.ex
  exact pe_meth0 he c ⟨hm, hi, hk⟩ F hr hb .nil hx ht
theorem op_binH {op : Operator} (c : HasC X.K X.mg x C) (h : HasM X.prog X.w X.K X.mg X.base CX C (PySem.dunder op.info.2) k ps sp) (hr : Room k X.A) (hx : Passes CX X E) : OpR X (binaryOp op) (rOwn2 C sp E) := by
  obtain ⟨f, fd, F, hm, hi, hk, hb⟩ := h.ex
  exact op_ownBin c.sf hm hi F hr hb hx
theorem op_cmpH {op : CmpOp} (hop : ∀ a b, compareOp op a b = richCompare op a b) (h : HasM X.prog X.w X.K X.mg X.base CX C (cmpInfo op).2.1 k ps sp) (hr : Room k X.A) (hx : Passes CX X E) : OpR X (compareOp op) (rOwn2 C sp E) := by
  obtain ⟨f, fd, F, hm, hi, hk, hb⟩ := h.ex
  exact op_ownCmp hop hm hi F hr hb hx
theorem op_inH (h : HasM X.prog X.w X.K X.mg X.base CX C "__contains__" k ps sp) (hr : Room k X.A) (hx : Passes CX X E) : OpR X (compareOp .In) (rOwnIn C sp E) := by
  obtain ⟨f, fd, F, hm, hi, hk, hb⟩ := h.ex
  exact op_ownIn hm hi F hr hb hx
theorem tru_H (h : HasM X.prog X.w X.K X.mg X.base CX C "__bool__" k ps sp) (hr : Room k X.A) (hx : Passes CX X E) : TruR X (rOwnTru C sp E) := by
  obtain ⟨f, fd, F, hm, hi, hk, hb⟩ := h.ex
  exact tru_own hm hi F hr hb hx
theorem call_boolH (h : HasM X.prog X.w X.K X.mg X.base CX C "__bool__" k ps sp) (hr : Room (k + 2) X.A) (hx : Passes CX X E) : CallR X (.type "bool") (rOwnBool C sp E) := by
  obtain ⟨f, fd, F, hm, hi, hk, hb⟩ := h.ex
  exact call_boolOwn hm hi F hr hb hx
theorem op_neH (c : HasC X.K X.mg x C) (hn : PySem.W.findIn X.K (.ref C) "__ne__" = some (some (.builtin "object.__ne__"))) (h : HasM X.prog X.w X.K X.mg X.base CX C "__eq__" k ps sp) (hr : Room (k + 1) X.A) (hx : Passes CX X E) : OpR X (compareOp .NotEq) (rOwnNe C sp E) := by
  obtain ⟨f, fd, F, hm, hi, hk, hb⟩ := h.ex
  exact op_ownNe hn c.cm hm hi F hr hb hx
end

/-! ### what evaluates to what, by a word -/
def EvP (te : TE) (σ : L2.St) (H : Hp) (P : V → Hp → Prop) : Prop := ∀ H1, Ex H H1 → ∀ Q : VK, (∀ v H2, Ex H1 H2 → P v H2 → Q v H2) → te σ H1 Q
def rInt1 : List V → Hp → VK → Prop := fun xs H Q => (∃ i, xs = [.int i] ∧ Q (.int i) H) ∨ ∃ k, xs = [.bl k] ∧ Q (.int (if k then 1 else 0)) H
theorem call_int' {X : Cx} : CallR X (.type "int") rInt1 := call_int1
def rMaxI : List V → Hp → VK → Prop := fun xs H Q => ∃ i j, xs = [.int i, .int j] ∧ Q (.int (if j > i then j else i)) H
def rMinI : List V → Hp → VK → Prop := fun xs H Q => ∃ i j, xs = [.int i, .int j] ∧ Q (.int (if j < i then j else i)) H
theorem call_max' {X : Cx} (hc : X.calm = true) : CallR X (.builtin "max") rMaxI := call_max2 hc
theorem call_min' {X : Cx} (hc : X.calm = true) : CallR X (.builtin "min") rMinI := call_min2 hc
def rLen' (K : PySem.W.Frag) : List V → Hp → VK → Prop := fun xs H Q => ∃ x n, xs = [x] ∧ LenV K x H n ∧ Q (.int n) H
theorem call_len' {X : Cx} : CallR X (.builtin "len") (rLen' X.K) := call_len
section
variable {K : PySem.W.Frag} {σ : L2.St} {H H' : Hp} {ta tb tc te tx : TE} {t u : TT} {x y z v : V} {r r' : R2} {D : Ends} {tu tw tz : TS} {P P' : V → Hp → Prop}
theorem ex_at {a : Addr} {o : HO} (e : Ex H H') (h : H a = some o) : H' a = some o := e a o h
theorem EvP.mono (e : Ex H H') (h : EvP te σ H P) : EvP te σ H' P := fun H1 a Q q => h H1 (e.trans a) Q q
theorem EvP.imp (h : EvP te σ H P) (hp : ∀ v H1, Ex H H1 → P v H1 → P' v H1) : EvP te σ H P' := fun H1 a Q q => h H1 a Q fun v H2 e2 p => q v H2 e2 (hp v H2 (a.trans e2) p)
theorem evp_of (h : Ev te σ H v) : EvP te σ H fun w _ => w = v := fun H1 e Q q => h H1 e Q fun H2 e2 => q v H2 e2 rfl
theorem ev_of (h : EvP te σ H fun w _ => w = v) : Ev te σ H v := fun H1 e Q q => h H1 e Q fun w H2 e2 p => by
  rw [p]
  exact q H2 e2
theorem rc_int {i : Int} : RC rInt1 [.int i] H (.int i) := fun H1 _ _ q => .inl ⟨i, rfl, q H1 (Ex.refl H1)⟩
theorem rc_max {i j : Int} : RC rMaxI [.int i, .int j] H (.int (if j > i then j else i)) := fun H1 _ _ q => ⟨i, j, rfl, q H1 (Ex.refl H1)⟩
theorem rc_min {i j : Int} : RC rMinI [.int i, .int j] H (.int (if j < i then j else i)) := fun H1 _ _ q => ⟨i, j, rfl, q H1 (Ex.refl H1)⟩
theorem ev_int {i : Int} (h : Ev ta σ H (.int i)) : Ev (tCB rInt1 (tCons ta tNil)) σ H (.int i) := ev_cb (ea_cons h ea_nil) rc_int
theorem ev_max {i j : Int} (h : Ev ta σ H (.int i)) (h' : Ev tb σ H (.int j)) : Ev (tCB rMaxI (tCons ta (tCons tb tNil))) σ H (.int (if j > i then j else i)) := ev_cb (ea_cons h (ea_cons h' ea_nil)) rc_max
theorem ev_min {i j : Int} (h : Ev ta σ H (.int i)) (h' : Ev tb σ H (.int j)) : Ev (tCB rMinI (tCons ta (tCons tb tNil))) σ H (.int (if j < i then j else i)) := ev_cb (ea_cons h (ea_cons h' ea_nil)) rc_min
theorem ev_lenL {p : Addr} {xs : List V} (ha : Ev ta σ H (.ref p)) (h : SqL K H p xs) : Ev (tCB (rLen' K) (tCons ta tNil)) σ H (.int (xs.length : Int)) := fun H1 e Q q =>
  ha H1 e _ fun H2 e2 => ⟨.ref p, xs.length, rfl, .inl ⟨xs, ex_l (e.trans e2) h, rfl⟩, q H2 e2⟩
theorem ev_lenT {p : Addr} {xs : List V} (ha : Ev ta σ H (.ref p)) (h : SqT K H p xs) : Ev (tCB (rLen' K) (tCons ta tNil)) σ H (.int (xs.length : Int)) := fun H1 e Q q =>
  ha H1 e _ fun H2 e2 => ⟨.ref p, xs.length, rfl, .inr ⟨xs, ex_t (e.trans e2) h, rfl⟩, q H2 e2⟩
/-- a < b < c -/
theorem ev_chain {b1 b2 : Bool} (ha : Ev ta σ H x) (hb : Ev tb σ H y) (hr : RV r x y H (.bl b1)) (hc : b1 = true → Ev tc σ H z) (hr' : b1 = true → RV r' y z H (.bl b2)) : Ev (tChain r r' ta tb tc) σ H (.bl (b1 && b2)) := fun H1 e Q q =>
  ha H1 e _ fun H2 e2 => hb H2 (e.trans e2) _ fun H3 e3 => hr H3 ((e.trans e2).trans e3) _ fun H4 e4 => ⟨b1, rfl, by
    cases b1 with
    | true =>
      show tc σ H4 _
      exact hc rfl H4 (((e.trans e2).trans e3).trans e4) _ fun H5 e5 => hr' rfl H5 ((((e.trans e2).trans e3).trans e4).trans e5) _ fun H6 e6 => q H6 ((((e2.trans e3).trans e4).trans e5).trans e6)
    | false =>
      show Q (.bl false) H4
      exact q H4 ((e2.trans e3).trans e4)⟩
/-- an attribute of an instance -/
theorem ev_fld {a C dx : Addr} {fs : List (Str × V)} {f : Str} (h : Ev ta σ H (.ref a)) (ho : H a = some (.ins C dx fs)) (hc : Cls K C) (hn : NoAttr K C f) (hl : fs.lookup f = some v) : Ev (tFld K ta f) σ H v := fun H1 e Q q =>
  h H1 e _ fun H2 e2 => ⟨a, C, dx, fs, v, rfl, e2 a _ (e a _ ho), hc, hn, hl, q H2 e2⟩
/-- a call by what its promise gives -/
theorem evp_call {sp : Sp} {dvs vs : List V} {E : XK} {tA : TA} (h : EvA tA σ H vs) (hs : ∀ H1, Ex H H1 → ∀ Q : VK, (∀ v H2, Ex H1 H2 → P v H2 → Q v H2) → sp (vs ++ dvs) H1 Q E) : EvP (tCall sp dvs E tA) σ H P := fun H1 e Q q =>
  h H1 e _ fun H2 e2 => hs H2 (e.trans e2) Q fun v H3 e3 p => q v H3 (e2.trans e3) p
theorem evp_op {P : V → Hp → Prop} (ha : Ev ta σ H x) (hb : Ev tb σ H y) (hr : ∀ H1, Ex H H1 → ∀ Q : VK, (∀ v H2, Ex H1 H2 → P v H2 → Q v H2) → r x y H1 Q) : EvP (tOp r ta tb) σ H P := fun H1 e Q q =>
  ha H1 e _ fun H2 e2 => hb H2 (e.trans e2) _ fun H3 e3 => hr H3 ((e.trans e2).trans e3) Q fun v H4 e4 p => q v H4 ((e2.trans e3).trans e4) p
theorem evp_make {sp : Sp} {dvs vs : List V} {E : XK} {C : Addr} {tA : TA} (h : EvA tA σ H vs) (hs : ∀ H1, Ex H H1 → ∀ x dx, H1 x = none → H1 dx = none → dx ≠ x → ∀ Q : VK, (∀ v H2, Ex H1 H2 → P v H2 → Q v H2) →
    sp (.ref x :: (vs ++ dvs)) (upd (upd H1 dx (.own x)) x (.ins C dx [])) (fun v H2 => v = .non ∧ Q (.ref x) H2) E) : EvP (tMake C sp dvs E tA) σ H P := fun H1 e Q q =>
  h H1 e _ fun H2 e2 => fun x dx hx hdx ne => hs H2 (e.trans e2) x dx hx hdx ne Q fun v H3 e3 p => q v H3 (e2.trans e3) p
theorem evp_if {b : Bool} (h : EvT t σ H b) (h1 : b = true → EvP ta σ H P) (h2 : b = false → EvP tb σ H P) : EvP (tIf t ta tb) σ H P := fun H1 e Q q => h H1 e _ fun H2 e2 => by
  cases b with
  | true =>
    show ta σ H2 Q
    exact h1 rfl H2 (e.trans e2) Q fun v H3 e3 p => q v H3 (e2.trans e3) p
  | false =>
    show tb σ H2 Q
    exact h2 rfl H2 (e.trans e2) Q fun v H3 e3 p => q v H3 (e2.trans e3) p
/-- a test that is a value's truth by an own rule -/
theorem et_truR {b : Bool} {rt : V → Hp → (Bool → Hp → Prop) → Prop} (h : Ev ta σ H x) (hr : ∀ H1, Ex H H1 → ∀ Q : Bool → Hp → Prop, (∀ H2, Ex H1 H2 → Q b H2) → rt x H1 Q) : EvT (tTruR rt ta) σ H b := fun H1 e Q q =>
  h H1 e _ fun H2 e2 => hr H2 (e.trans e2) Q fun H3 e3 => q H3 (e2.trans e3)
/-- statements by a word -/
theorem s_asgP {i : Nat} (h : EvP te σ H P) (k : ∀ v H1, Ex H H1 → P v H1 → D.nx (σ.set i (some v)) H1) : tAsg te (gName i) D σ H := h H (Ex.refl H) _ fun v H1 e p => k v H1 e p
theorem s_retP (h : EvP te σ H P) (k : ∀ v H1, Ex H H1 → P v H1 → D.rt v H1) : tRet te D σ H := h H (Ex.refl H) _ k
theorem s_dropP (h : EvP te σ H P) (k : ∀ v H1, Ex H H1 → P v H1 → D.nx σ H1) : tDrop te D σ H := h H (Ex.refl H) _ fun v H1 e p => k v H1 e p
theorem q_asgP {i : Nat} (h : EvP te σ H P) (k : ∀ v H1, Ex H H1 → P v H1 → tz D (σ.set i (some v)) H1) : tSeq (tAsg te (gName i)) tz D σ H := s_asgP (D := { D with nx := tz D }) h k
/-- an if both of whose ways are told apart -/
theorem q_if' {b : Bool} (h : EvT t σ H b) (h1 : b = true → ∀ H1, Ex H H1 → tu { D with nx := tz D } σ H1) (h2 : b = false → ∀ H1, Ex H H1 → tw { D with nx := tz D } σ H1) : tSeq (tIfS t tu tw) tz D σ H := q_if h h1 h2
theorem s_fld {a C dx : Addr} {fs : List (Str × V)} {f : Str} (hv : Ev te σ H y) (ha : Ev ta σ H (.ref a)) (ho : H a = some (.ins C dx fs)) (hc : Cls K C) (hn : NoAttr K C f) (hl : fs.length < 1000)
    (k : ∀ H1, Ex H H1 → D.nx σ (upd H1 a (.ins C dx (putF f y fs)))) : sFld K ta te f D σ H := hv H (Ex.refl H) _ fun H1 e1 => ha H1 e1 _ fun H2 e2 => ⟨a, C, dx, fs, rfl, (e1.trans e2) a _ ho, hc, hn, hl, k H2 (e1.trans e2)⟩
theorem q_fld {a C dx : Addr} {fs : List (Str × V)} {f : Str} (hv : Ev te σ H y) (ha : Ev ta σ H (.ref a)) (ho : H a = some (.ins C dx fs)) (hc : Cls K C) (hn : NoAttr K C f) (hl : fs.length < 1000)
    (k : ∀ H1, Ex H H1 → tz D σ (upd H1 a (.ins C dx (putF f y fs)))) : tSeq (sFld K ta te f) tz D σ H := s_fld (D := { D with nx := tz D }) hv ha ho hc hn hl k
/-- a value by cases of a test that is an int's comparison -/
theorem ev_ifI {b : Bool} {x y : V} (h : EvT t σ H b) (h1 : Ev ta σ H x) (h2 : Ev tb σ H y) : Ev (tIf t ta tb) σ H (if b = true then x else y) := ev_if h (fun e => by rw [e]; exact h1) (fun e => by rw [e]; exact h2)
/-- isinstance -/
theorem ev_isi {c : V} {ty cu : Value} {b : Bool} (ha : Ev ta σ H x) (hb : Ev tb σ H c) (hc : ClsV c cu) (ht : ∀ H1, Ex H H1 → TyX K H1 x ty) (hk : PySem.W.kitOne K ty cu = some b) : Ev (tCB (rIsi K) (tCons ta (tCons tb tNil))) σ H (.bl b) := fun H1 e Q q =>
  ha H1 e _ fun H2 e2 => hb H2 (e.trans e2) _ fun H3 e3 => ⟨x, c, ty, cu, b, rfl, hc, ht H3 ((e.trans e2).trans e3), hk, q H3 (e2.trans e3)⟩
theorem kit_self {K : PySem.W.Frag} {t : Value} : PySem.W.kitOne K t t = some true := by
  unfold PySem.W.kitOne
  rw [if_pos (beq_self_eq_true _)]
theorem ev_isi_int {i : Int} (ha : Ev ta σ H (.int i)) (hb : Ev tb σ H (.ty "int")) : Ev (tCB (rIsi K) (tCons ta (tCons tb tNil))) σ H (.bl true) := ev_isi ha hb (.ty _) (fun _ _ => .base (.int i)) kit_self
theorem ev_isi_ib {i : Int} (ha : Ev ta σ H (.int i)) (hb : Ev tb σ H (.ty "bool")) : Ev (tCB (rIsi K) (tCons ta (tCons tb tNil))) σ H (.bl false) := ev_isi ha hb (.ty _) (fun _ _ => .base (.int i)) (kit_ty (by decide +kernel))
theorem ev_isi_own {a C dx : Addr} {fs : List (Str × V)} {mg : Str → Option Value} {n : Str} (c : HasC K mg n C) (h : H a = some (.ins C dx fs)) (ha : Ev ta σ H (.ref a)) (hb : Ev tb σ H (.ref C)) : Ev (tCB (rIsi K) (tCons ta (tCons tb tNil))) σ H (.bl true) :=
  ev_isi ha hb (.own _) (fun _ e => c.ty (e a _ h)) kit_self
theorem ev_isi_lst {a : Addr} {xs : List V} (h : H a = some (.lst xs)) (ha : Ev ta σ H (.ref a)) (hb : Ev tb σ H (.ty "list")) : Ev (tCB (rIsi K) (tCons ta (tCons tb tNil))) σ H (.bl true) := ev_isi ha hb (.ty _) (fun _ e => .base (.lst (e a _ h))) kit_self
theorem ev_isi_tup {a : Addr} {xs : List V} (h : H a = some (.tup xs)) (ha : Ev ta σ H (.ref a)) (hb : Ev tb σ H (.ty "tuple")) : Ev (tCB (rIsi K) (tCons ta (tCons tb tNil))) σ H (.bl true) := ev_isi ha hb (.ty _) (fun _ e => .base (.tup (e a _ h))) kit_self
end
end My

set_option Elab.async false
set_option linter.all false
set_option maxRecDepth 100000
set_option maxHeartbeats 2000000
/-! several except clauses, some with a name; calls and operators that may raise, at the caller's slots -/
namespace My
open PySem PySem.Spec PyProof.Rows L2 Evl OwnO
abbrev SuiteT := Addr → Value → Option Addr → TS
/-- the ends of a suite whose clause has a name in slot i -/
def unEnds (D : Ends) (i : Nat) : Ends := { nx := fun σ' H' => D.nx (σ'.set i none) H', rt := D.rt, bk := fun σ' H' => D.bk (σ'.set i none) H', ct := fun σ' H' => D.ct (σ'.set i none) H' }
def wManyN (K : PySem.W.Frag) (Wout : WX) (D : Ends) : List (Value × Option Nat × SuiteT) → WX
  | [] => Wout
  | (c, none, ts) :: r => fun cls d σ H => ∃ b, PySem.W.exmOne K cls c = some b ∧ (b = true → ∀ a, H a = none → ts a cls d D σ H) ∧ (b = false → wManyN K Wout D r cls d σ H)
  | (c, some i, ts) :: r => fun cls d σ H => ∃ b, PySem.W.exmOne K cls c = some b ∧ (b = true → ∀ a, H a = none → ts a cls d (unEnds D i) (σ.set i (some (.ref a))) H) ∧ (b = false → wManyN K Wout D r cls d σ H)
inductive HdsN (X : Cx) : List ExceptHandler → List (Value × Option Nat × SuiteT) → Prop
  | nil : HdsN X [] []
  | cons {x : Str} {c : Value} {ts : SuiteT} {b₀ : Stmt} {suite : List Stmt} {np pos' : Pos} {hds : List ExceptHandler} {l : List (Value × Option Nat × SuiteT)} (hc : Names X x c)
      (hsu : ∀ (a : Addr) (oe : Obj) (cls : Value) (d : Option Addr) (pn : List (Addr × Obj)), Zc cls d oe → (∃ vs, oe.data = .fields vs) → PSs (X.suite a ((a, oe) :: pn)) (b₀ :: suite) (ts a cls d)) (r : HdsN X hds l) :
      HdsN X (.ExceptHandler (some (.Name x np)) none (b₀ :: suite) pos' :: hds) ((c, none, ts) :: l)
  | consAs {x n : Str} {c : Value} {i : Nat} {ts : SuiteT} {b₀ : Stmt} {suite : List Stmt} {np pos' : Pos} {hds : List ExceptHandler} {l : List (Value × Option Nat × SuiteT)} (hc : Names X x c) (hN : X.N.Nodup) (hi : X.N[i]? = some n) (hln : X.env.kindOf n = some .local)
      (hsu : ∀ (a : Addr) (oe : Obj) (cls : Value) (d : Option Addr) (pn : List (Addr × Obj)), Zc cls d oe → (∃ vs, oe.data = .fields vs) → PSs (X.suite a ((a, oe) :: pn)) (b₀ :: suite) (ts a cls d)) (r : HdsN X hds l) :
      HdsN X (.ExceptHandler (some (.Name x np)) (some n) (b₀ :: suite) pos' :: hds) ((c, some i, ts) :: l)
section
variable {X : Cx} {body : List Stmt} {h₀ : ExceptHandler} {hds : List ExceptHandler} {l : List (Value × Option Nat × SuiteT)} {pos : Pos} {tb : WX → TS} {Wout : WX}
theorem ps_tryN (hs : X.stack = X.env :: X.outer) (hf : X.env.frame = some X.env.locals) (tk : Takes X Wout)
    (hb : ∀ (W : WX) (pn : List (Addr × Obj)) (xe : Value → Shared → Prop), Takes (X.tr pn xe) W → PassesOwn (model X.prog X.w) X.A X.env xe → PSs (X.tr pn xe) body (tb W))
    (hh : HdsN X (h₀ :: hds) l) : PS X (.Try body (h₀ :: hds) [] [] pos) (fun D σ H => tb (wManyN X.K Wout D l) D σ H) := by
  refine ⟨fun pins s σ H D I h => ?_⟩
  have ok := I.ok
  have hfr : X.A.frames = some (X.env :: X.outer) := by rw [ok.frames, hs]
  refine wpAny_Try_except ?_
  refine wpAny_mono ((hb (wManyN X.K Wout D l) (X.pn ++ pins) (fun e s₁ => wpAny (model X.prog X.w) X.A (noteFrame e X.env) (fun _ s₂ => wpAny (model X.prog X.w) X.A (setFlight e none) (fun _ s₃ =>
    wpAny (model X.prog X.w) X.A (handleBy e X.env (h₀ :: hds)) (SP X pins D) X.xe s₃) X.xe s₂) X.xe s₁) (fun u s' xx => ?_) PassesOwn.looking).run [] s σ H D (I.toTry _) h) (fun f s1 hsp => ?_) (fun e s1 he => he)
  · obtain ⟨a, B, sI, pins', σ', H', cls, d, rfl, J', nb, up, sky, na, os, ag, w⟩ := xx
    have J : Inv X pins σ' H' sI := J'.ofTry ok
    have sky' : Sky B (X.env :: X.outer) a (Zc cls d) X.env.locals s'.heap := by rw [← hs]; exact sky
    show wpAny (model X.prog X.w) X.A (noteFrame (.ref a) X.env) _ _ _
    refine Sky.land Zc.steady hfr hf sky' fun h3 fl3 up3 => ?_
    have J3 : Inv X pins σ' H' { s' with heap := h3 } := J.landed nb fl3.1 (up.trans up3) os ag
    obtain ⟨oe3, vs3, he3, hz3, hd3⟩ := fl3.there
    have notFr : ∀ {h : Heap} {o : Obj} {vs : Array Value}, h.FunFrames B (X.env :: X.outer) → h.get? a = some o → o.data = .fields vs → a ∉ frs (X.env :: X.outer) := fun {h o vs} ff e dd hm => by
      obtain ⟨_, o', e', hnf⟩ := ff.mem hm
      rw [e] at e'; cases e'
      exact hnf _ dd
    have nfr := notFr fl3.2.2.1 he3 hd3
    have nL : a ≠ X.env.locals := fun z => nfr (List.mem_filterMap.mpr ⟨X.env, List.mem_cons_self, by rw [hf, z]⟩)
    have nF : a ∉ X.fs := fun hm => by
      obtain ⟨e, he, q⟩ := List.mem_filterMap.mp hm
      exact nfr (List.mem_filterMap.mpr ⟨e, List.mem_cons_of_mem _ he, q⟩)
    have S3 := J3.suite he3 hd3 na nL nF
    have go : ∀ {hds' : List ExceptHandler} {l' : List (Value × Option Nat × SuiteT)}, HdsN X hds' l' → wManyN X.K Wout D l' cls d σ' H' →
        wpAny (model X.prog X.w) X.A (handleBy (.ref a) X.env hds') (SP X pins D) X.xe { s' with heap := h3 } := by
      intro hds' l' hk
      induction hk with
      | nil =>
        intro w
        refine wpAny_handleBy_nil ?_
        obtain ⟨k1, k2, k3, oe, vs, T, oT, ts', he, hz, hd, h1, hr⟩ := id fl3
        unfold PySem.passOn
        refine wpAny_bind (wpAny_field he hd h1 ?_)
        rw [if_neg (show ¬ ((Value.ref T == Value.none) = true) from by simp)]
        have fin : wpAny (model X.prog X.w) X.A (setFlight (.ref a) X.env.frame) (fun _ s4 => wpAny (model X.prog X.w) X.A (throw (.ref a) : Sem Flow) (SP X pins D) X.xe s4) X.xe { s' with heap := h3 } := by
          rw [hf]
          refine HandSPX.setFlight_upZ fl3 fun h4 hh4 up4 => wpAny_throw (tk _ _ ?_)
          exact ⟨a, B, sI, pins, σ', H', cls, d, rfl, J, nb, (up.trans up3).trans up4, .inr (.inr (by rw [hs]; exact hh4)), na, os, ag, w⟩
        first
          | exact wpAny_bind (wpAny_pure (wpAny_bind fin))
          | exact wpAny_bind fin
      | @cons x c ts b₀ suite np pos' hds2 l2 hc hsu r ih =>
        intro w
        obtain ⟨b, hb1, hyes, hno⟩ := w
        refine wpAny_handleBy_cons (codeAny_handlers_test ?_) (by intro q; cases q)
        have LT : PySem.W.Looks (model X.prog X.w) h3 (typeOf (.ref a)) cls := fun A Q E s k q => wpAny_typeOf_ref (k _ _ he3) (by rw [hz3.1]; exact q)
        have LM := PySem.W.exm_one (M := model X.prog X.w) (J3.kIn) LT hb1
        have test : ∀ {Q : Value → Shared → Prop} {E : Value → Shared → Prop}, Q c { s' with heap := h3 } → wpAny (model X.prog X.w) (X.A.mark (some (.ref a))) (eval (.Name x np) X.env) Q E { s' with heap := h3 } := fun {Q E} q => by
          obtain ⟨hg, hdbg, hm | ⟨hm, hv, hnn⟩⟩ := hc
          · exact ld_glob (X := X.suite a ((a, oe3) :: (X.pn ++ pins))) S3 hg hm q hdbg
          · exact ld_blt (X := X.suite a ((a, oe3) :: (X.pn ++ pins))) S3 hg hm hv q hnn hdbg
        refine test (LM.here ?_)
        cases b with
        | true =>
          refine codeAny_handlers_suite ?_
          refine HandSPX.lands_againZ fl3 fun h4 fl4 up4 => ?_
          have J4 : Inv X pins σ' H' { s' with heap := h4 } := J.landed nb fl4.1 ((up.trans up3).trans up4) os ag
          obtain ⟨oe4, vs4, he4, hz4, hd4⟩ := fl4.there
          have S4 := J4.suite he4 hd4 na nL nF
          refine wpAny_mono ((hsu a oe4 cls d (X.pn ++ pins) hz4 ⟨_, hd4⟩).run [] _ _ H' _ S4 (hyes rfl a na)) (fun f s6 hsp => ?_) (fun _ _ z => False.elim z)
          cases f with
          | next =>
            obtain ⟨σ6, H6, S6, q6⟩ := hsp
            exact ⟨_, _, S6.unsuite ok, q6⟩
          | brk =>
            obtain ⟨σ6, H6, S6, q6⟩ := hsp
            exact ⟨_, _, S6.unsuite ok, q6⟩
          | cont =>
            obtain ⟨σ6, H6, S6, q6⟩ := hsp
            exact ⟨_, _, S6.unsuite ok, q6⟩
          | ret u =>
            obtain ⟨v6, σ6, H6, S6, r6, q6⟩ := hsp
            exact ⟨_, _, _, S6.unsuite ok, r6, q6⟩
        | false =>
          show wpAny _ X.A (handleBy (.ref a) X.env hds2) _ _ _
          exact ih (hno rfl)
      | @consAs x n c i ts b₀ suite np pos' hds2 l2 hc hN hi hln hsu r ih =>
        intro w
        obtain ⟨b, hb1, hyes, hno⟩ := w
        refine wpAny_handleBy_cons (codeAny_handlers_test ?_) (by intro q; cases q)
        have LT : PySem.W.Looks (model X.prog X.w) h3 (typeOf (.ref a)) cls := fun A Q E s k q => wpAny_typeOf_ref (k _ _ he3) (by rw [hz3.1]; exact q)
        have LM := PySem.W.exm_one (M := model X.prog X.w) (J3.kIn) LT hb1
        have test : ∀ {Q : Value → Shared → Prop} {E : Value → Shared → Prop}, Q c { s' with heap := h3 } → wpAny (model X.prog X.w) (X.A.mark (some (.ref a))) (eval (.Name x np) X.env) Q E { s' with heap := h3 } := fun {Q E} q => by
          obtain ⟨hg, hdbg, hm | ⟨hm, hv, hnn⟩⟩ := hc
          · exact ld_glob (X := X.suite a ((a, oe3) :: (X.pn ++ pins))) S3 hg hm q hdbg
          · exact ld_blt (X := X.suite a ((a, oe3) :: (X.pn ++ pins))) S3 hg hm hv q hnn hdbg
        refine test (LM.here ?_)
        cases b with
        | true =>
          refine codeAny_handlers_suite_as ?_
          refine HandSPX.lands_againZ fl3 fun h4 fl4 up4 => ?_
          have J4 : Inv X pins σ' H' { s' with heap := h4 } := J.landed nb fl4.1 ((up.trans up3).trans up4) os ag
          obtain ⟨oe4, vs4, he4, hz4, hd4⟩ := fl4.there
          have S4 := J4.suite he4 hd4 na nL nF
          refine store_ok (X := X.suite a ((a, oe4) :: (X.pn ++ pins))) (v := .ref a) S4 hN hi (.inl hln) rfl (fun s5 S5 => ?_) (.inr hln)
          refine wpAny_mono ((hsu a oe4 cls d (X.pn ++ pins) hz4 ⟨_, hd4⟩).run [] s5 _ H' _ S5 (hyes rfl a na)) (fun f s6 hsp => ?_) (fun _ _ z => False.elim z)
          have end_ : ∀ {σ6 : L2.St} {H6 : Hp} {Q : Shared → Prop}, Inv (X.suite a ((a, oe4) :: (X.pn ++ pins))) [] σ6 H6 s6 → (∀ s7, Inv X pins (σ6.set i none) H6 s7 → Q s7) →
              wpAny (model X.prog X.w) X.A (do bindName X.env n .none; unbindBehindTheSuite X.env n pos') (fun _ s7 => Q s7) X.xe s6 := fun {σ6 H6 Q} S6 hq => gone_ok (S6.unsuite ok) hN hi hln hq
          cases f with
          | next =>
            obtain ⟨σ6, H6, S6, q6⟩ := hsp
            exact end_ S6 fun s7 J7 => ⟨_, _, J7, q6⟩
          | brk =>
            obtain ⟨σ6, H6, S6, q6⟩ := hsp
            exact end_ S6 fun s7 J7 => ⟨_, _, J7, q6⟩
          | cont =>
            obtain ⟨σ6, H6, S6, q6⟩ := hsp
            exact end_ S6 fun s7 J7 => ⟨_, _, J7, q6⟩
          | ret u =>
            obtain ⟨v6, σ6, H6, S6, r6, q6⟩ := hsp
            exact end_ S6 fun s7 J7 => ⟨_, _, _, J7, r6, q6⟩
        | false =>
          show wpAny _ X.A (handleBy (.ref a) X.env hds2) _ _ _
          exact ih (hno rfl)
    exact go hh w
  · cases f with
    | next =>
      obtain ⟨σ', H', J', q⟩ := hsp
      exact wpAny_execs_nil ⟨σ', H', J'.ofTry ok, q⟩
    | brk =>
      obtain ⟨σ', H', J', q⟩ := hsp
      exact ⟨σ', H', J'.ofTry ok, q⟩
    | cont =>
      obtain ⟨σ', H', J', q⟩ := hsp
      exact ⟨σ', H', J'.ofTry ok, q⟩
    | ret u =>
      obtain ⟨v, σ', H', J', r, q⟩ := hsp
      exact ⟨v, σ', H', J'.ofTry ok, r, q⟩
end

/-! ### calls that may raise, the wish at the slots -/
def tMethS (C : Addr) (m : Str) (sp : Sp) (E : L2.St → XK) (ta : TE) (t : TA) : TE := fun σ H Q => ta σ H fun x H1 => ∃ a dx fs, x = .ref a ∧ H1 a = some (.ins C dx fs) ∧ fs.lookup m = none ∧ t σ H1 fun vs H2 => sp (x :: vs) H2 Q (E σ)
def tBinS (C : Addr) (sp : Sp) (E : L2.St → XK) (ta tb : TE) : TE := fun σ H Q => ta σ H fun x H1 => tb σ H1 fun y H2 => ∃ a dx fs b dy gs, x = .ref a ∧ y = .ref b ∧ H2 a = some (.ins C dx fs) ∧ H2 b = some (.ins C dy gs) ∧ sp [x, y] H2 Q (E σ)
section
variable {X : Cx} {CX : CXT} {k : Nat} {C : Addr} {ps : List Str} {sp : Sp} {E : L2.St → XK} {x m : Str} {p pos apos : Pos} {e o : Expr} {es : List Expr} {ta tb : TE} {t : TA}
theorem pe_callHS (h : Has X.prog X.w X.K X.mg X.base CX x k ps sp) (hr : Room k X.A) (hx : ∀ σ, PassesAt CX X σ (E σ)) (ha : PA X (e :: es) t) (hg : Gl X x := by rfl)
    (hdb : (x == ("__debug__" : Str)) = false := by decide) (he : starEach (e :: es) X.env = (false, eval e X.env) :: starEach es X.env := by rfl) (hpl : (backTo pos (starEach es X.env)).any (·.1) = false := by rfl) :
    PE X (.Call (.Name x p) (e :: es) [] pos) (tCallS sp E t) := by
  obtain ⟨f, fd, F, hm, hk, hb⟩ := h.ex
  exact pe_callS F hr hg hm hk hb hx ha hdb he hpl
theorem pe_methHS {pl : Sem Bool} (he : PE X o ta) (c : Cls X.K C) (h : HasM X.prog X.w X.K X.mg X.base CX C m k ps sp) (hr : Room k X.A) (hx : ∀ σ, PassesAt CX X σ (E σ)) (ha : PA X (e :: es) t)
    (hst : starEach (e :: es) X.env = (false, eval e X.env) :: starEach es X.env := by rfl) (hpl : (backTo pos (starEach es X.env)).any (·.1) = false := by rfl)
    (ht : eval (.Call (.Attribute o m apos) (e :: es) [] pos) X.env = (do
      let ov ← eval o X.env
      standAt apos.atName
      let (f, first) ← holding [ov] (getMethod ov m pl)
      callWith pos f first (backTo pos (starEach (e :: es) X.env)) (backToKw pos (keywordEach [] X.env))) := by rfl) :
    PE X (.Call (.Attribute o m apos) (e :: es) [] pos) (tMethS C m sp E ta t) := by
  obtain ⟨f, fd, F, hmm, hi, hk, hb⟩ := h.ex
  have hm : Meth X.K C m f := ⟨hmm, hi, hk⟩
  refine ⟨fun pins s σ H Q I h => ?_⟩
  refine PySem.W.methodCall_KW (pl := pl) (thn (he.run pins s σ H _ I h) fun u s1 ⟨x, H1, I1, rx, a, dx, fs, ex, ea, l, q⟩ => ?_) ht
  subst ex
  obtain rfl : u = Value.ref a := rx
  refine getmeth_ok I1 ea c hm l ?_
  refine PySem.W.callWith_K (first := [.ref a]) (h₀ := X.base) I.ok.mod.kin hm.kp (thn (ha.run pos pins s1 σ H1 _ I1 q) fun us s2 ⟨vs, H2, I2, r, q2⟩ => ⟨I2.kIn, ?_⟩) hst hpl
  exact run_fnS (us := .ref a :: us) (vs := .ref a :: vs) F hr hb (hx σ) I2 (.cons rfl r) q2
theorem pe_binHS {a b : Expr} {op : Operator} {nm : Str} (c : HasC X.K X.mg nm C) (h : HasM X.prog X.w X.K X.mg X.base CX C (PySem.dunder op.info.2) k ps sp) (hr : Room k X.A) (hx : ∀ σ, PassesAt CX X σ (E σ)) (ha : PE X a ta) (hb : PE X b tb) :
    PE X (.BinOp a op b pos) (tBinS C sp E ta tb) := by
  obtain ⟨f, fd, F, hm, hi, hk, hbb⟩ := h.ex
  refine ⟨fun pins s σ H Q I h => ?_⟩
  refine wpAny_BinOp (binT ha hb I h fun v u s2 x y H2 I2 rx ry q => ?_)
  obtain ⟨a, dx, fs, b, dy, gs, rfl, rfl, ha', hb', q⟩ := q
  cases (show v = Value.ref a from rx)
  cases (show u = Value.ref b from ry)
  obtain ⟨od, J⟩ := ins_inst I2 ha'
  obtain ⟨od', J'⟩ := ins_inst I2 hb'
  obtain ⟨m, hF⟩ := I2.fr
  refine PySem.W.binop_K hF I.ok.mod.kin J J'.type c.sf hm hi ?_
  refine wpAny_mono (run_fnS (us := [.ref a, .ref b]) (vs := [.ref a, .ref b]) F hr hbb (hx σ) I2 (.cons rfl (.cons rfl .nil)) q) (fun w s' z => ?_) fun _ _ x => x
  obtain ⟨z', H', I', rz, qz⟩ := z
  exact SlX.cmpback rz ⟨z', H', I', rz, qz⟩
end
/-- isinstance(e, c) in a suite, whatever the exception's class -/
def rIsE' (K : PySem.W.Frag) (cls : Value) (d : Option Addr) (D a : Addr) : List V → Hp → VK → Prop := fun xs H Q => cls = .ref D ∧ d = none ∧ rIsE K D a xs H Q
theorem call_isE' {X : Cx} {a D : Addr} {cls : Value} {d : Option Addr} {oe : Obj} {pn : List (Addr × Obj)} (C : ExcC X.K D) (hz : Zc cls d oe) (hf : ∃ vs, oe.data = .fields vs) : CallR (X.suite a ((a, oe) :: pn)) (.builtin "isinstance") (rIsE' X.K cls d D a) := by
  intro pins s σ H xs us Q I r h
  obtain ⟨rfl, rfl, h⟩ := h
  exact call_isE C hz hf pins s σ H xs us Q I r h
/-- an error class of the module -/
structure ErrC (K : PySem.W.Frag) (mg : Str → Option Value) (x : Str) (C : Addr) : Prop where
  g : mg x = some (.ref C)
  xi : PySem.W.excIn K C [.type "ValueError", .type "Exception", .type "BaseException", .type "object"] "ValueError.__new__" = true
  kp : PySem.W.keepIn K (.ref C) = true
  sb : PySem.W.subIn K (.ref C) (.type "BaseException") = some true
  ty : PySem.W.typeIn K (.ref C) = some (.type "type")

/-! ### arguments, tuples, lists, comprehensions by a word -/
def MonV (P : V → Hp → Prop) : Prop := ∀ v H1 H2, Ex H1 H2 → P v H1 → P v H2
def MonL (P : List V → Hp → Prop) : Prop := ∀ v H1 H2, Ex H1 H2 → P v H1 → P v H2
def EvAP (ta : TA) (σ : L2.St) (H : Hp) (P : List V → Hp → Prop) : Prop := ∀ H1, Ex H H1 → ∀ Q : List V → Hp → Prop, (∀ vs H2, Ex H1 H2 → P vs H2 → Q vs H2) → ta σ H1 Q
section
variable {K : PySem.W.Frag} {σ : L2.St} {H H' : Hp} {ta tb tc te tx tl : TE} {tA tr : TA} {t u tt : TT} {x y z v : V} {r r' : R2} {D : Ends} {tu tw tz : TS} {P P' : V → Hp → Prop} {R R' : List V → Hp → Prop}
theorem eap_nil : EvAP tNil σ H fun vs _ => vs = [] := fun H1 _ _ q => q [] H1 (Ex.refl H1) rfl
theorem eap_cons (hm : MonV P) (h : EvP te σ H P) (hr : EvAP tr σ H R) : EvAP (tCons te tr) σ H fun vs H => ∃ v r, vs = v :: r ∧ P v H ∧ R r H := fun H1 e Q q =>
  h H1 e _ fun v H2 e2 p => hr H2 (e.trans e2) _ fun vs H3 e3 pr => q _ H3 (e2.trans e3) ⟨v, vs, rfl, hm v H2 H3 e3 p, pr⟩
theorem eap_of {vs : List V} (h : EvA tA σ H vs) : EvAP tA σ H fun ws _ => ws = vs := fun H1 e Q q => h H1 e Q fun H2 e2 => q vs H2 e2 rfl
theorem EvAP.imp (h : EvAP tA σ H R) (hp : ∀ vs H1, Ex H H1 → R vs H1 → R' vs H1) : EvAP tA σ H R' := fun H1 a Q q => h H1 a Q fun v H2 e2 p => q v H2 e2 (hp v H2 (a.trans e2) p)
theorem evp_tupP (h : EvAP tA σ H R) (hm : MonL R) (hl : ∀ vs H, R vs H → vs.length ≤ 100000) : EvP (tTup tA) σ H fun v H => ∃ p vs, v = .ref p ∧ H p = some (.tup vs) ∧ R vs H := fun H1 e Q q =>
  h H1 e _ fun vs H2 e2 p => ⟨sz_of (hl vs H2 p), fun a ha => q _ _ (e2.trans (Ex.new ha)) ⟨a, vs, rfl, upd_same, hm vs _ _ (Ex.new ha) p⟩⟩
theorem evp_lstP (h : EvAP tA σ H R) (hm : MonL R) (hl : ∀ vs H, R vs H → vs.length ≤ 100000) : EvP (tLst tA) σ H fun v H => ∃ p vs, v = .ref p ∧ H p = some (.lst vs) ∧ R vs H := fun H1 e Q q =>
  h H1 e _ fun vs H2 e2 p => ⟨sz_of (hl vs H2 p), fun a ha => q _ _ (e2.trans (Ex.new ha)) ⟨a, vs, rfl, upd_same, hm vs _ _ (Ex.new ha) p⟩⟩
theorem evp_tup {vs : List V} (h : EvA tA σ H vs) (hl : vs.length ≤ 100000) : EvP (tTup tA) σ H fun v H => ∃ p, v = .ref p ∧ H p = some (.tup vs) := fun H1 e Q q =>
  h H1 e _ fun H2 e2 => ⟨sz_of hl, fun a ha => q _ _ (e2.trans (Ex.new ha)) ⟨a, rfl, upd_same⟩⟩
theorem evp_lst {vs : List V} (h : EvA tA σ H vs) (hl : vs.length ≤ 100000) : EvP (tLst tA) σ H fun v H => ∃ p, v = .ref p ∧ H p = some (.lst vs) := fun H1 e Q q =>
  h H1 e _ fun H2 e2 => ⟨sz_of hl, fun a ha => q _ _ (e2.trans (Ex.new ha)) ⟨a, rfl, upd_same⟩⟩
/-- a word of each item of a list -/
def Items (S : Nat → V → Hp → Prop) (n : Nat) (ys : List V) (H : Hp) : Prop := ys.length = n ∧ ∀ i y, ys[i]? = some y → S i y H
theorem Items.mono {S : Nat → V → Hp → Prop} (hm : ∀ i, MonV (S i)) {n : Nat} {ys : List V} (e : Ex H H') (h : Items S n ys H) : Items S n ys H' := ⟨h.1, fun i y hi => hm i y H H' e (h.2 i y hi)⟩
/-- a word that no list's change touches -/
def MutV (P : V → Hp → Prop) : Prop := ∀ v H (a : Addr) (xs ys : List V), H a = some (.lst xs) → P v H → P v (upd H a (.lst ys))
theorem mut_ins {C a dx p : Addr} {fs : List (Str × V)} {xs ys : List V} (h : H a = some (.lst xs)) (hp : H p = some (.ins C dx fs)) : upd H a (.lst ys) p = some (.ins C dx fs) := by
  rw [upd_ne (fun z => by rw [z, h] at hp; cases hp)]
  exact hp
theorem mut_tup {a p : Addr} {us xs ys : List V} (h : H a = some (.lst xs)) (hp : H p = some (.tup us)) : upd H a (.lst ys) p = some (.tup us) := by
  rw [upd_ne (fun z => by rw [z, h] at hp; cases hp)]
  exact hp
/-- [e for x in xs] over a list that stands, each new item by a word -/
theorem evp_lc {a : Addr} {xs : List V} {j : Nat} {vs : List Nat} (S : Nat → V → Hp → Prop) (hm : ∀ i, MonV (S i)) (hu : ∀ i, MutV (S i)) (h : Ev tl σ H (.ref a)) (hx : SqL K H a xs) (hz : xs.length ≤ 40000) (hw : ∀ x, wipe ((wipe σ vs).set j (some x)) vs = wipe σ vs)
    (he : ∀ (i : Nat) (x : V) H1, Ex H H1 → xs[i]? = some x → EvP te ((wipe σ vs).set j (some x)) H1 (S i)) :
    EvP (tLc (iList K tl) (gName j) tYes te vs) σ H fun v H => ∃ p ys, v = .ref p ∧ H p = some (.lst ys) ∧ Items S xs.length ys H := fun H0 e Q q => h H0 e _ fun H1 e1 => ⟨a, rfl, ⟨xs, ex_l (e.trans e1) hx⟩, fun Dl hD =>
  lc_list (xs := xs) (fun i H' => H1 Dl = none ∧ Ex H1 H' ∧ ∃ ys, H' Dl = some (.lst ys) ∧ Items S i ys H') ⟨hD, Ex.new hD, [], upd_same, rfl, fun i y hi => by simp at hi⟩ (fun i H' _ p => ex_l ((e.trans e1).trans p.2.1) hx)
    (fun i x H' hi ⟨p1, p2, ys, p3, p4⟩ => ⟨hw x, he i x H' ((e.trans e1).trans p2) hi H' (Ex.refl H') _ fun y H4 e4 hy => ⟨ys, e4 Dl _ p3, sz_lt (by have := (List.getElem?_eq_some_iff.mp hi).1; have := p4.1; omega), p1, Ex.mut (p2.trans e4) p1, ys ++ [y], upd_same, by rw [List.length_append, p4.1]; rfl, fun k w hk => by
      have hd := e4 Dl _ p3
      refine hu k w H4 Dl ys _ hd ?_
      rcases Nat.lt_or_ge k ys.length with c | c
      · rw [List.getElem?_append_left c] at hk
        exact hm k w H' H4 e4 (p4.2 k w hk)
      · rw [List.getElem?_append_right c] at hk
        have hk0 : k - ys.length = 0 := by
          rcases Nat.eq_zero_or_pos (k - ys.length) with z | z
          · exact z
          · rw [List.getElem?_eq_none (by simp; omega)] at hk
            cases hk
        rw [hk0] at hk
        have ew : y = w := by simpa using hk
        have ek : k = i := by have := p4.1; omega
        rw [ek, ← ew]
        exact hy⟩⟩)
    (fun H' ⟨p1, p2, ys, p3, p4⟩ => q _ H' (e1.trans p2) ⟨Dl, ys, rfl, p3, p4⟩)⟩
/-! ### the same for sequences compared -/
theorem eqv2 (a b c d : Int) : PyData.eqv (.tuple [.int a, .int b]) (.tuple [.int c, .int d]) = (decide (a = c) && decide (b = d)) := by
  have h1 : (a == c) = decide (a = c) := rfl
  have h2 : (b == d) = decide (b = d) := rfl
  simp only [PyData.eqv, PyData.eqvAll, Bool.and_true]
  first | rfl | rw [h1, h2]
theorem dp2 {p : Addr} {a b : Int} (h : SqT K H p [.int a, .int b]) : Dp K H (.ref p) (.tuple [.int a, .int b]) := .tup h (.cons (.int a) (.cons (.int b) .nil))
theorem shaped2 (a b : Int) : SeqAt.shaped (.tuple [.int a, .int b]) = true := by
  simp [SeqAt.shaped, PyData.canLay0, PyData.canLayAll0, PyData.depth, PyData.depthAll]
theorem rv_eq2 {p q : Addr} {a b c d : Int} (h : SqT K H p [.int a, .int b]) (h' : SqT K H q [.int c, .int d]) : RV (rEqD K) (.ref p) (.ref q) H (.bl (decide (a = c) && decide (b = d))) := fun H1 e Q k =>
  ⟨_, _, dp2 (ex_t e h), dp2 (ex_t e h'), shaped2 a b, shaped2 c d, by rw [eqv2]; exact k H1 (Ex.refl H1)⟩
theorem rv_ne2 {p q : Addr} {a b c d : Int} (h : SqT K H p [.int a, .int b]) (h' : SqT K H q [.int c, .int d]) : RV (rNeD K) (.ref p) (.ref q) H (.bl (!(decide (a = c) && decide (b = d)))) := fun H1 e Q k =>
  ⟨_, _, dp2 (ex_t e h), dp2 (ex_t e h'), shaped2 a b, shaped2 c d, by rw [eqv2]; exact k H1 (Ex.refl H1)⟩
theorem rv_lt2 {p q : Addr} {a b c d : Int} (h : SqT K H p [.int a, .int b]) (h' : SqT K H q [.int c, .int d]) : RV (rLtT K) (.ref p) (.ref q) H (.bl (HT.lexLt [a, b] [c, d])) := fun H1 e Q k =>
  ⟨p, q, [a, b], [c, d], rfl, rfl, ex_t e h, ex_t e h', k H1 (Ex.refl H1)⟩
def leT2 (a b c d : Int) : Bool := Ob.lexAt (fun j => decide (([a, b] : List Int).getD j 0 = ([c, d] : List Int).getD j 0)) (fun j => decide (([a, b] : List Int).getD j 0 ≤ ([c, d] : List Int).getD j 0)) (decide (([a, b] : List Int).length ≤ ([c, d] : List Int).length)) 0 (min ([a, b] : List Int).length ([c, d] : List Int).length)
theorem rv_le2 {p q : Addr} {a b c d : Int} (h : SqT K H p [.int a, .int b]) (h' : SqT K H q [.int c, .int d]) : RV (rLeT K) (.ref p) (.ref q) H (.bl (leT2 a b c d)) := fun H1 e Q k =>
  ⟨p, q, [a, b], [c, d], rfl, rfl, ex_t e h, ex_t e h', k H1 (Ex.refl H1)⟩
end

/-! ### the rules with the written part said by name (within a comprehension's block the context is another, its written part the same) -/
section
variable {X : Cx} {e f1 l tg : Expr} {ta te tl : TE} {pos : Pos} {f : Str}
theorem pe_fldK (K : PySem.W.Frag) (he : PE X e ta) (hb : attributeBase e f X.env (eval e X.env) = eval e X.env := by rfl) (hK : X.K = K := by rfl) : PE X (.Attribute e f pos) (tFld K ta f) := by subst hK; exact pe_fld he hb
theorem ix_listK (K : PySem.W.Frag) (hK : X.K = K := by rfl) : IxR X (rIxL K) := by subst hK; exact ix_list
theorem ix_tupK (K : PySem.W.Frag) (hK : X.K = K := by rfl) : IxR X (rIxT K) := by subst hK; exact ix_tup
theorem sl_listK (K : PySem.W.Frag) (hK : X.K = K := by rfl) : SlR X (rSlL K) := by subst hK; exact sl_list
theorem sl_tupK (K : PySem.W.Frag) (hK : X.K = K := by rfl) : SlR X (rSlT K) := by subst hK; exact sl_tup
theorem op_eqDK (K : PySem.W.Frag) (hu : X.A.units + 64 < cLine) (hK : X.K = K := by rfl) : OpR X (compareOp .Eq) (rEqD K) := by subst hK; exact op_eqD hu
theorem op_neDK (K : PySem.W.Frag) (hu : X.A.units + 64 < cLine) (hK : X.K = K := by rfl) : OpR X (compareOp .NotEq) (rNeD K) := by subst hK; exact op_neD hu
theorem op_ltTK (K : PySem.W.Frag) (hu : X.A.units < cLine) (hK : X.K = K := by rfl) : OpR X (compareOp .Lt) (rLtT K) := by subst hK; exact op_ltT hu
theorem op_leTK (K : PySem.W.Frag) (hu : X.A.units < cLine) (hK : X.K = K := by rfl) : OpR X (compareOp .LtE) (rLeT K) := by subst hK; exact op_leT hu
theorem call_lenK (K : PySem.W.Frag) (hK : X.K = K := by rfl) : CallR X (.builtin "len") (rLen' K) := by subst hK; exact call_len
theorem call_isiK' (K : PySem.W.Frag) (hK : X.K = K := by rfl) : CallR X (.builtin "isinstance") (rIsi K) := by subst hK; exact call_isi
theorem pi_listK (K : PySem.W.Frag) (hl : PE X l tl) (hK : X.K = K := by rfl) : PI X tg l (iList K tl) := by subst hK; exact pi_list hl
theorem pi_tupK (K : PySem.W.Frag) (hl : PE X l tl) (hK : X.K = K := by rfl) : PI X tg l (iTup K tl) := by subst hK; exact pi_tup hl
end
theorem kit_own {K : PySem.W.Frag} {C : Addr} {T : String} {r : Bool} (h : PySem.W.subIn K (.ref C) (.type T) = some r) (hm : PySem.W.kitMeta T = true := by decide +kernel) : PySem.W.kitOne K (.ref C) (.type T) = some r := by
  unfold PySem.W.kitOne PySem.W.kitCls
  rw [if_neg (by simp)]
  simp only [hm, if_true]
  exact h
def rIsNon : R2 := fun x y H Q => y = .non ∧ Q (.bl (decide (x = .non))) H
def rNotNon : R2 := fun x y H Q => y = .non ∧ Q (.bl (!decide (x = .non))) H
theorem op_isNon {X : Cx} : OpR X (compareOp .Is) rIsNon := op_isN
theorem op_notNon {X : Cx} : OpR X (compareOp .IsNot) rNotNon := op_notN
section
variable {K : PySem.W.Frag} {σ : L2.St} {H H' : Hp} {ta tb te : TE} {x y z v : V} {D : Ends} {tu tz : TS} {P : V → Hp → Prop}
theorem rv_isNon : RV rIsNon x .non H (.bl (decide (x = .non))) := fun H1 _ _ q => ⟨rfl, q H1 (Ex.refl H1)⟩
theorem rv_notNon : RV rNotNon x .non H (.bl (!decide (x = .non))) := fun H1 _ _ q => ⟨rfl, q H1 (Ex.refl H1)⟩
/-- two lists put together, both standing, or made on the way -/
theorem evp_cat {l : Addr} {xs zs : List V} (ha : Ev ta σ H (.ref l)) (hl : H l = some (.lst xs)) (hb : EvP tb σ H fun v H => ∃ b, v = .ref b ∧ H b = some (.lst zs)) (hz : xs.length + zs.length ≤ 100000) :
    EvP (tOp rCat ta tb) σ H fun v H => ∃ p, v = .ref p ∧ H p = some (.lst (xs ++ zs)) := fun H1 e Q q =>
  ha H1 e _ fun H2 e2 => hb H2 (e.trans e2) _ fun v H3 e3 ⟨b, eb, hb'⟩ => ⟨l, b, xs, zs, rfl, eb, ((e.trans e2).trans e3) l _ hl, hb', sz_of hz, fun p hp => q _ _ ((e2.trans e3).trans (Ex.new hp)) ⟨p, rfl, upd_same⟩⟩
/-- two operands by words -/
theorem evp_op2 {r : R2} {Pa Pb : V → Hp → Prop} (hm : MonV Pa) (ha : EvP ta σ H Pa) (hb : EvP tb σ H Pb) (hr : ∀ x y H1, Ex H H1 → Pa x H1 → Pb y H1 → ∀ Q : VK, (∀ v H2, Ex H1 H2 → P v H2 → Q v H2) → r x y H1 Q) : EvP (tOp r ta tb) σ H P := fun H1 e Q q =>
  ha H1 e _ fun x H2 e2 px => hb H2 (e.trans e2) _ fun y H3 e3 py => hr x y H3 ((e.trans e2).trans e3) (hm x _ _ e3 px) py Q fun v H4 e4 p => q v H4 ((e2.trans e3).trans e4) p
/-- a call whose arguments are by a word -/
theorem evp_callP {sp : Sp} {dvs : List V} {E : XK} {tA : TA} {R : List V → Hp → Prop} (h : EvAP tA σ H R) (hs : ∀ vs H1, Ex H H1 → R vs H1 → ∀ Q : VK, (∀ v H2, Ex H1 H2 → P v H2 → Q v H2) → sp (vs ++ dvs) H1 Q E) : EvP (tCall sp dvs E tA) σ H P := fun H1 e Q q =>
  h H1 e _ fun vs H2 e2 pv => hs vs H2 (e.trans e2) pv Q fun v H3 e3 p => q v H3 (e2.trans e3) p
end
end My

set_option Elab.async false
set_option linter.all false
set_option maxRecDepth 100000
set_option maxHeartbeats 2000000
/-! DdCore: Python's data as plain Lean data (D), with roots for what is changed; how data lie in the abstract heap; what holds between two heaps -/
namespace Dd
open PySem PySem.Spec PyProof.Rows L2 Evl OwnO My

/-- the built-in classes that a program names -/
inductive BT where
  | int | bool | str | list | tuple | dict | non | verr
  deriving DecidableEq
def BT.name : BT → String
  | .int => "int" | .bool => "bool" | .str => "str" | .list => "list" | .tuple => "tuple" | .dict => "dict" | .non => "NoneType" | .verr => "ValueError"
/-- plain data; ins: an instance of class c, its attributes in their order; exn: an exception in an except suite; rt: a root, that is a thing that may be changed; scr: a list that is only read (the script); wd: a dict of the module's top; ty, cl: a class, built-in or own -/
inductive D where
  | non | bl (b : Bool) | int (i : Int) | str (s : Str)
  | tup (l : List D) | lst (l : List D) | st (l : List D)
  | dct (ks : List L2.Key) (l : List D) | wd (ks : List Str) (l : List D)
  | ins (c : Nat) (fs : List D) | exn (c : Nat) (fs : List D)
  | rt (r : Nat) | scr (l : List D) | ty (n : BT) | cl (c : Nat)
abbrev Env := List (Option D)

/-- the written part, the classes' places, their attributes' names in order -/
structure Wd where
  K : PySem.W.Frag
  w : World
  CA : Nat → Addr
  CF : Nat → List Str
  /-- the ordinary classes; the error classes; which is a subclass of which -/
  isc : Nat → Bool
  ise : Nat → Bool
  sub : Nat → Nat → Bool
  /-- the exception that an except suite holds: its class, its dict -/
  exn : Addr → Option (Value × Option Addr) := fun _ => none
/-- an ordinary class -/
structure ClsT (K : PySem.W.Frag) (C : Addr) : Prop where
  cl : Cls K C
  ca : PySem.W.findIn K (.ref C) "__class__" = some (some (.builtin "object.__class__"))
  cn : PySem.W.specialIn K (.builtin "object.__class__") "__get__" = some (some (.builtin "getset_descriptor.__get__"))
  ct : PySem.W.takesIn K (.builtin "object.__class__") = some true
  cm : PySem.W.mroIn K C (.type "object") = some true
theorem ClsT.ty {K : PySem.W.Frag} {C a dx : Addr} {fs : List (Str × V)} {H : Hp} (c : ClsT K C) (h : H a = some (.ins C dx fs)) : TyX K H (.ref a) (.ref C) := .base (.ins h c.cl c.ca c.cn c.ct c.cm)
/-- what is known of the classes -/
structure WOk (W : Wd) : Prop where
  cls : ∀ c, W.isc c = true → ClsT W.K (W.CA c) ∧ ∀ f ∈ W.CF c, NoAttr W.K (W.CA c) f
  exm : ∀ c d, W.ise c = true → W.ise d = true → PySem.W.exmOne W.K (.ref (W.CA c)) (.ref (W.CA d)) = some (W.sub c d)
  kit : ∀ c d, W.ise c = true → W.ise d = true → PySem.W.kitOne W.K (.ref (W.CA c)) (.ref (W.CA d)) = some (W.sub c d)
  kitv : ∀ c, W.ise c = true → PySem.W.kitOne W.K (.ref (W.CA c)) (.type "ValueError") = some true
  exc : ∀ c, W.ise c = true → ExcC W.K (W.CA c) ∧ ∀ f ∈ W.CF c, PySem.W.findIn W.K (.ref (W.CA c)) f = some none

/-- a written dict's entries -/
def KEnt : List DictEntry → List Str → List V → Prop
  | [], [], [] => True
  | e :: es, k :: ks, v :: vs => (∃ t, e.key = .str k t) ∧ RelV v e.val ∧ KEnt es ks vs
  | _, _, _ => False
def KDv (K : PySem.W.Frag) (w : World) (a : Addr) (ks : List Str) (vs : List V) : Prop := ∃ es n, KDict K w a es n ∧ KEnt es.toList ks vs
section
variable (W : Wd)
/-- a set of plain data: its items l -/
def StAt (B : Hp) (a : Addr) (l : List D) : Prop := False
mutual
def Rep (RA : List Addr) (B : Hp) : D → V → Prop
  | .non, v => v = .non
  | .bl b, v => v = .bl b
  | .int i, v => v = .int i
  | .str s, v => v = .str s
  | .tup l, v => ∃ a vs, v = .ref a ∧ SqT W.K B a vs ∧ RepL RA B l vs
  | .lst l, v => ∃ a vs, v = .ref a ∧ B a = some (.lst vs) ∧ RepL RA B l vs
  | .scr l, v => ∃ a vs, v = .ref a ∧ SqL W.K B a vs ∧ RepL RA B l vs
  | .ty n, v => v = .ty n.name
  | .cl c, v => v = .ref (W.CA c)
  | .st l, v => ∃ a, v = .ref a ∧ StAt B a l
  | .dct ks l, v => ∃ a kvs, v = .ref a ∧ B a = some (.dK kvs) ∧ kvs.map (·.1) = ks ∧ RepL RA B l (kvs.map (·.2))
  | .wd ks l, v => ∃ a vs, v = .ref a ∧ KDv W.K W.w a ks vs ∧ RepL RA B l vs
  | .ins c fs, v => ∃ a dx vs, v = .ref a ∧ B a = some (.ins (W.CA c) dx ((W.CF c).zip vs)) ∧ RepL RA B fs vs ∧ vs.length ≤ (W.CF c).length
  | .exn c fs, v => ∃ a d, v = .ref a ∧ W.exn a = some (.ref (W.CA c), d) ∧ ((fs = [] ∧ d = none) ∨ ∃ dd vs, d = some dd ∧ B dd = some (.xd ((W.CF c).zip vs)) ∧ RepL RA B fs vs ∧ vs.length = (W.CF c).length)
  | .rt r, v => ∃ a, v = .ref a ∧ RA[r]? = some a
def RepL (RA : List Addr) (B : Hp) : List D → List V → Prop
  | [], vs => vs = []
  | d :: l, vs => ∃ v us, vs = v :: us ∧ Rep RA B d v ∧ RepL RA B l us
end
/-- a root's content -/
def RootAt (RA : List Addr) (B H : Hp) (a : Addr) : D → Prop
  | .lst l => ∃ vs, H a = some (.lst vs) ∧ RepL W RA B l vs
  | .dct ks l => ∃ kvs, H a = some (.dK kvs) ∧ kvs.map (·.1) = ks ∧ RepL W RA B l (kvs.map (·.2))
  | .ins c fs => ∃ dx vs, H a = some (.ins (W.CA c) dx ((W.CF c).zip vs)) ∧ RepL W RA B fs vs ∧ vs.length ≤ (W.CF c).length
  | _ => False
end
section
variable {W : Wd} {RA RA' : List Addr} {B B' H H' : Hp}
mutual
theorem Rep.mono (e : Ex B B') (hr : ∀ (r : Nat) (a : Addr), RA[r]? = some a → RA'[r]? = some a) : ∀ (d : D) (v : V), Rep W RA B d v → Rep W RA' B' d v
  | .non, v, h => by simpa only [Rep] using h
  | .bl b, v, h => by simpa only [Rep] using h
  | .int i, v, h => by simpa only [Rep] using h
  | .str s, v, h => by simpa only [Rep] using h
  | .tup l, v, h => by
    simp only [Rep] at h ⊢
    obtain ⟨a, vs, h1, h2, h3⟩ := h
    exact ⟨a, vs, h1, ex_t e h2, RepL.mono e hr l vs h3⟩
  | .lst l, v, h => by
    simp only [Rep] at h ⊢
    obtain ⟨a, vs, h1, h2, h3⟩ := h
    exact ⟨a, vs, h1, e a _ h2, RepL.mono e hr l vs h3⟩
  | .scr l, v, h => by
    simp only [Rep] at h ⊢
    obtain ⟨a, vs, h1, h2, h3⟩ := h
    exact ⟨a, vs, h1, ex_l e h2, RepL.mono e hr l vs h3⟩
  | .ty n, v, h => by simpa only [Rep] using h
  | .cl c, v, h => by simpa only [Rep] using h
  | .st l, v, h => by
    simp only [Rep] at h ⊢
    obtain ⟨a, h1, h2⟩ := h
    exact ⟨a, h1, h2.elim⟩
  | .dct ks l, v, h => by
    simp only [Rep] at h ⊢
    obtain ⟨a, kvs, h1, h2, h3, h4⟩ := h
    exact ⟨a, kvs, h1, e a _ h2, h3, RepL.mono e hr l _ h4⟩
  | .wd ks l, v, h => by
    simp only [Rep] at h ⊢
    obtain ⟨a, vs, h1, h2, h3⟩ := h
    exact ⟨a, vs, h1, h2, RepL.mono e hr l vs h3⟩
  | .ins c fs, v, h => by
    simp only [Rep] at h ⊢
    obtain ⟨a, dx, vs, h1, h2, h3, h4⟩ := h
    exact ⟨a, dx, vs, h1, e a _ h2, RepL.mono e hr fs vs h3, h4⟩
  | .exn c fs, v, h => by
    simp only [Rep] at h ⊢
    obtain ⟨a, d, h1, h2, h3⟩ := h
    refine ⟨a, d, h1, h2, ?_⟩
    rcases h3 with h3 | ⟨dd, vs, h4, h5, h6, h7⟩
    · exact .inl h3
    · exact .inr ⟨dd, vs, h4, e dd _ h5, RepL.mono e hr fs vs h6, h7⟩
  | .rt r, v, h => by
    simp only [Rep] at h ⊢
    obtain ⟨a, h1, h2⟩ := h
    exact ⟨a, h1, hr r a h2⟩
theorem RepL.mono (e : Ex B B') (hr : ∀ (r : Nat) (a : Addr), RA[r]? = some a → RA'[r]? = some a) : ∀ (l : List D) (vs : List V), RepL W RA B l vs → RepL W RA' B' l vs
  | [], vs, h => by simpa only [RepL] using h
  | d :: l, vs, h => by
    simp only [RepL] at h ⊢
    obtain ⟨v, us, h1, h2, h3⟩ := h
    exact ⟨v, us, h1, Rep.mono e hr d v h2, RepL.mono e hr l us h3⟩
end
theorem Rep.ex (e : Ex B B') {d : D} {v : V} (h : Rep W RA B d v) : Rep W RA B' d v := Rep.mono e (fun _ _ q => q) d v h
theorem RepL.ex (e : Ex B B') {d : List D} {v : List V} (h : RepL W RA B d v) : RepL W RA B' d v := RepL.mono e (fun _ _ q => q) d v h

theorem RepL.len : ∀ {l : List D} {vs : List V}, RepL W RA B l vs → l.length = vs.length
  | [], vs, h => by simp only [RepL] at h; rw [h]; rfl
  | d :: l, vs, h => by
    simp only [RepL] at h
    obtain ⟨v, us, rfl, _, h3⟩ := h
    simp [RepL.len h3]
theorem RepL.get : ∀ {l : List D} {vs : List V} {i : Nat} {d : D}, RepL W RA B l vs → l[i]? = some d → ∃ v, vs[i]? = some v ∧ Rep W RA B d v
  | [], vs, i, d, h, e => by simp at e
  | d :: l, vs, 0, d', h, e => by
    simp only [RepL] at h
    obtain ⟨v, us, rfl, h2, h3⟩ := h
    simp at e; subst e
    exact ⟨v, by simp, h2⟩
  | d :: l, vs, i + 1, d', h, e => by
    simp only [RepL] at h
    obtain ⟨v, us, rfl, h2, h3⟩ := h
    obtain ⟨v', e1, r1⟩ := RepL.get (i := i) h3 (by simpa using e)
    exact ⟨v', by simpa using e1, r1⟩
theorem RepL.cons {d : D} {l : List D} {v : V} {vs : List V} (h : Rep W RA B d v) (t : RepL W RA B l vs) : RepL W RA B (d :: l) (v :: vs) := by
  simp only [RepL]
  exact ⟨v, vs, rfl, h, t⟩
theorem RepL.nil : RepL W RA B [] [] := by simp only [RepL]
theorem RepL.uncons {d : D} {l : List D} {vs : List V} (h : RepL W RA B (d :: l) vs) : ∃ v us, vs = v :: us ∧ Rep W RA B d v ∧ RepL W RA B l us := by
  simpa only [RepL] using h
theorem RepL.unnil {vs : List V} (h : RepL W RA B [] vs) : vs = [] := by simpa only [RepL] using h
theorem RepL.append : ∀ {l m : List D} {vs us : List V}, RepL W RA B l vs → RepL W RA B m us → RepL W RA B (l ++ m) (vs ++ us)
  | [], m, vs, us, h, t => by rw [h.unnil]; exact t
  | d :: l, m, vs, us, h, t => by
    obtain ⟨v, ws, rfl, h2, h3⟩ := h.uncons
    exact RepL.cons h2 (RepL.append h3 t)
theorem RepL.unappend : ∀ {l m : List D} {vs : List V}, RepL W RA B (l ++ m) vs → ∃ us ws, vs = us ++ ws ∧ RepL W RA B l us ∧ RepL W RA B m ws
  | [], m, vs, h => ⟨[], vs, rfl, .nil, h⟩
  | d :: l, m, vs, h => by
    obtain ⟨v, us, rfl, h2, h3⟩ := RepL.uncons (show RepL W RA B (d :: (l ++ m)) vs from h)
    obtain ⟨u1, u2, rfl, h4, h5⟩ := RepL.unappend h3
    exact ⟨v :: u1, u2, rfl, .cons h2 h4, h5⟩
theorem RepL.take {l : List D} {vs : List V} : ∀ (n : Nat), RepL W RA B l vs → RepL W RA B (l.take n) (vs.take n) := by
  induction l generalizing vs with
  | nil => intro n h; rw [h.unnil]; simp; exact .nil
  | cons d l ih =>
    intro n h
    obtain ⟨v, us, rfl, h2, h3⟩ := h.uncons
    cases n with
    | zero => simp; exact .nil
    | succ n => exact .cons h2 (ih n h3)
theorem RepL.drop {l : List D} {vs : List V} : ∀ (n : Nat), RepL W RA B l vs → RepL W RA B (l.drop n) (vs.drop n) := by
  induction l generalizing vs with
  | nil => intro n h; rw [h.unnil]; simp; exact .nil
  | cons d l ih =>
    intro n h
    obtain ⟨v, us, rfl, h2, h3⟩ := h.uncons
    cases n with
    | zero => exact .cons h2 h3
    | succ n => exact ih n h3
theorem RepL.set {l : List D} {vs : List V} {d : D} {v : V} (hd : Rep W RA B d v) : ∀ (n : Nat), RepL W RA B l vs → RepL W RA B (l.set n d) (vs.set n v) := by
  induction l generalizing vs with
  | nil => intro n h; rw [h.unnil]; simp; exact .nil
  | cons d l ih =>
    intro n h
    obtain ⟨v, us, rfl, h2, h3⟩ := h.uncons
    cases n with
    | zero => exact .cons hd h3
    | succ n => exact .cons h2 (ih n h3)
theorem RepL.of_get : ∀ {l : List D} {vs : List V}, l.length = vs.length → (∀ (i : Nat) (d : D) (v : V), l[i]? = some d → vs[i]? = some v → Rep W RA B d v) → RepL W RA B l vs
  | [], [], _, _ => .nil
  | [], _ :: _, h, _ => by simp at h
  | _ :: _, [], h, _ => by simp at h
  | d :: l, v :: vs, h, k => .cons (k 0 d v rfl rfl) (RepL.of_get (by simpa using h) fun i d' v' h1 h2 => k (i + 1) d' v' (by simpa using h1) (by simpa using h2))
theorem RootAt.mono (e : Ex B B') (hr : ∀ (r : Nat) (a : Addr), RA[r]? = some a → RA'[r]? = some a) {a : Addr} (hh : ∀ o, H a = some o → H' a = some o) : ∀ {d : D}, RootAt W RA B H a d → RootAt W RA' B' H' a d
  | .lst l, ⟨vs, h1, h2⟩ => ⟨vs, hh _ h1, RepL.mono e hr l vs h2⟩
  | .dct ks l, ⟨kvs, h1, h2, h3⟩ => ⟨kvs, hh _ h1, h2, RepL.mono e hr l _ h3⟩
  | .ins c fs, ⟨dx, vs, h1, h2, h3⟩ => ⟨dx, vs, hh _ h1, RepL.mono e hr fs vs h2, h3⟩
end

/-- the frozen part B lies within H; at each root's place stands its content -/
structure Base (W : Wd) (RA : List Addr) (ρ : List D) (B H : Hp) : Prop where
  le : Ex B H
  len : RA.length = ρ.length
  nd : RA.Nodup
  out : ∀ a ∈ RA, B a = none
  roots : ∀ (r : Nat) (a : Addr) (d : D), RA[r]? = some a → ρ[r]? = some d → RootAt W RA B H a d
/-- the locals -/
def LocOk (W : Wd) (RA : List Addr) (B : Hp) (σd : Env) (σ : L2.St) : Prop := σd.length = σ.length ∧ ∀ (i : Nat) (d : D), σd[i]? = some (some d) → ∃ v, σ[i]? = some (some v) ∧ Rep W RA B d v
section
variable {W : Wd} {RA RA' : List Addr} {ρ ρ' : List D} {B B' H H' : Hp} {σd : Env} {σ : L2.St}
theorem LocOk.mono (e : Ex B B') (hr : ∀ (r : Nat) (a : Addr), RA[r]? = some a → RA'[r]? = some a) (h : LocOk W RA B σd σ) : LocOk W RA' B' σd σ := ⟨h.1, fun i d hi => by
  obtain ⟨v, h1, h2⟩ := h.2 i d hi
  exact ⟨v, h1, Rep.mono e hr d v h2⟩⟩
theorem LocOk.ex (e : Ex B B') (h : LocOk W RA B σd σ) : LocOk W RA B' σd σ := h.mono e fun _ _ q => q
theorem LocOk.set (h : LocOk W RA B σd σ) {d : D} {v : V} (hd : Rep W RA B d v) (i : Nat) : LocOk W RA B (σd.set i (some d)) (σ.set i (some v)) := ⟨by simp [h.1], fun j d' hj => by
  by_cases e : i = j
  · subst e
    by_cases hl : i < σd.length
    · rw [List.getElem?_set_self hl] at hj
      cases hj
      exact ⟨v, by rw [List.getElem?_set_self (by rw [← h.1]; exact hl)], hd⟩
    · rw [List.getElem?_eq_none (by simpa using hl)] at hj
      cases hj
  · rw [List.getElem?_set_ne e] at hj ⊢
    exact h.2 j d' hj⟩
theorem LocOk.unset (h : LocOk W RA B σd σ) (i : Nat) (o : Option V) : LocOk W RA B (σd.set i none) (σ.set i o) := ⟨by simp [h.1], fun j d' hj => by
  by_cases e : i = j
  · subst e
    by_cases hl : i < σd.length
    · rw [List.getElem?_set_self hl] at hj
      cases hj
    · rw [List.getElem?_eq_none (by simpa using hl)] at hj
      cases hj
  · rw [List.getElem?_set_ne e] at hj ⊢
    exact h.2 j d' hj⟩
/-- the slots of a comprehension's own names forgotten -/
def wipeD (σd : Env) : List Nat → Env
  | [] => σd
  | v :: vs => (wipeD σd vs).set v none
theorem LocOk.wipe (h : LocOk W RA B σd σ) : ∀ vs : List Nat, LocOk W RA B (wipeD σd vs) (wipe σ vs)
  | [] => h
  | v :: vs => (LocOk.wipe h vs).unset v none

/-- behind an expression: nothing that stood has changed; what has frozen is new -/
structure Aft (W : Wd) (RA : List Addr) (ρ : List D) (B H B' H' : Hp) : Prop where
  hp : Ex H H'
  bl : Ex B B'
  base : Base W RA ρ B' H'
  bn : ∀ a o, B' a = some o → B a = some o ∨ H a = none
theorem Aft.refl (b : Base W RA ρ B H) : Aft W RA ρ B H B H := ⟨Ex.refl H, Ex.refl B, b, fun _ _ h => .inl h⟩
theorem Aft.trans {B1 H1 : Hp} (a : Aft W RA ρ B H B1 H1) (b : Aft W RA ρ B1 H1 B' H') : Aft W RA ρ B H B' H' := ⟨a.hp.trans b.hp, a.bl.trans b.bl, b.base, fun x o h => by
  rcases b.bn x o h with h | h
  · exact a.bn x o h
  · exact .inr (fresh_back a.hp h)⟩
theorem Base.hp (b : Base W RA ρ B H) (e : Ex H H') : Base W RA ρ B H' := ⟨b.le.trans e, b.len, b.nd, b.out, fun r a d h1 h2 => (b.roots r a d h1 h2).mono (Ex.refl B) (fun _ _ q => q) fun o h => e a o h⟩
theorem Aft.heap (b : Base W RA ρ B H) (e : Ex H H') : Aft W RA ρ B H B H' := ⟨e, Ex.refl B, b.hp e, fun _ _ h => .inl h⟩
theorem Base.root_in (b : Base W RA ρ B H) {a : Addr} (h : a ∈ RA) : ∃ o, H a = some o := by
  obtain ⟨r, hr⟩ := List.mem_iff_getElem?.mp h
  have hl : r < RA.length := (List.getElem?_eq_some_iff.mp hr).1
  have hd : ρ[r]? = some (ρ[r]'(by rw [← b.len]; exact hl)) := List.getElem?_eq_getElem _
  have q := b.roots r a _ hr hd
  cases h : ρ[r]'(by rw [← b.len]; exact hl) with
  | lst l => rw [h] at q; obtain ⟨vs, e, _⟩ := q; exact ⟨_, e⟩
  | dct ks l => rw [h] at q; obtain ⟨vs, e, _⟩ := q; exact ⟨_, e⟩
  | ins c fs => rw [h] at q; obtain ⟨dx, vs, e, _⟩ := q; exact ⟨_, e⟩
  | _ => rw [h] at q; exact False.elim q
/-- a new object freezes at once -/
theorem Aft.laid (b : Base W RA ρ B H) {p : Addr} {o : HO} (hp : H p = none) : Aft W RA ρ B H (upd B p o) (upd H p o) := by
  have hB : B p = none := by
    cases e : B p with
    | none => rfl
    | some u => rw [b.le p u e] at hp; cases hp
  have hr : p ∉ RA := fun m => by
    obtain ⟨o', e⟩ := b.root_in m
    rw [hp] at e; cases e
  refine ⟨Ex.new hp, Ex.new hB, ⟨fun a u e => ?_, b.len, b.nd, fun a m => ?_, fun r a d h1 h2 => (b.roots r a d h1 h2).mono (Ex.new hB) (fun _ _ q => q) fun o h => Ex.new hp a o h⟩, fun a u e => ?_⟩
  · by_cases h : a = p
    · subst h; rw [upd_same] at e ⊢; exact e
    · rw [upd_ne h] at e ⊢; exact b.le a u e
  · rw [upd_ne (fun e => hr (by rw [← e]; exact m))]; exact b.out a m
  · by_cases h : a = p
    · subst h; exact .inr hp
    · rw [upd_ne h] at e; exact .inl e
/-- an object that stands, new since H0, of which the frozen part knows nothing and which is no root, freezes -/
theorem Aft.freeze {B0 H0 : Hp} (a : Aft W RA ρ B0 H0 B H) {p : Addr} {o : HO} (hp : H p = some o) (h0 : H0 p = none) (hB : B p = none) (hr : p ∉ RA) : Aft W RA ρ B0 H0 (upd B p o) H := by
  have b := a.base
  refine ⟨a.hp, a.bl.trans (Ex.new hB), ⟨fun a u e => ?_, b.len, b.nd, fun a m => ?_, fun r a d h1 h2 => (b.roots r a d h1 h2).mono (Ex.new hB) (fun _ _ q => q) fun o h => h⟩, fun x u e => ?_⟩
  · by_cases h : a = p
    · subst h; rw [upd_same] at e; cases e; exact hp
    · rw [upd_ne h] at e; exact b.le a u e
  · rw [upd_ne (fun e => hr (by rw [← e]; exact m))]; exact b.out a m
  · by_cases h : x = p
    · subst h; exact .inr h0
    · rw [upd_ne h] at e; exact a.bn x u e
theorem Base.fresh_out (b : Base W RA ρ B H) {p : Addr} (hp : H p = none) : B p = none ∧ p ∉ RA := by
  refine ⟨?_, fun m => ?_⟩
  · cases e : B p with
    | none => rfl
    | some u => rw [b.le p u e] at hp; cases hp
  · obtain ⟨o', e⟩ := b.root_in m
    rw [hp] at e; cases e
end
end Dd

set_option Elab.async false
set_option linter.all false
set_option maxRecDepth 100000
set_option maxHeartbeats 2000000
/-! DdRead: what code does to plain data (EF, SF), and the readings that say so (tE, tS); calls; a def keeps to its function -/
namespace Dd
open PySem PySem.Spec PyProof.Rows L2 Evl OwnO My

/-- what an expression gives -/
inductive Res (α : Type) where
  | ok (a : α) | exc (c : Nat) (fs : List D) | bad
def Res.bind {α β : Type} (r : Res α) (f : α → Res β) : Res β := match r with
  | .ok a => f a
  | .exc c fs => .exc c fs
  | .bad => .bad
instance : Monad Res where
  pure := .ok
  bind := Res.bind
abbrev EF := List D → Env → Res D
abbrev AF := List D → Env → Res (List D)
/-- what a block gives -/
inductive Out where
  | nx (ρ : List D) (σ : Env) | ret (fr : Bool) (d : D) (ρ : List D) | brk (ρ : List D) (σ : Env) | ct (ρ : List D) (σ : Env) | exc (c : Nat) (fs : List D) (ρ : List D) (σ : Env) | bad
/-- a statement: which roots may be changed, the roots, the locals -/
abbrev SF := (Nat → Bool) → List D → Env → Out

/-- an exception as it flies: its class, its own dict -/
def ExcAt (W : Wd) (RA : List Addr) (B H : Hp) (c : Nat) (fs : List D) (cls : Value) (dx : Option Addr) : Prop :=
  cls = .ref (W.CA c) ∧ ((fs = [] ∧ dx = none) ∨ ∃ d vs, dx = some d ∧ B d = some (.xd ((W.CF c).zip vs)) ∧ RepL W RA B fs vs ∧ vs.length = (W.CF c).length)

section
variable (W : Wd) (Wx : WX)
/-- what is to hold behind an expression's evaluation -/
def Aw {α : Type} (RA : List Addr) (ρ : List D) (σ : L2.St) (B H : Hp) (r : Res α) (P : α → Hp → Hp → Prop) : Prop := match r with
  | .ok a => ∀ B' H', Aft W RA ρ B H B' H' → P a B' H'
  | .exc c fs => ∀ cls dx B' H', Aft W RA ρ B H B' H' → ExcAt W RA B' H' c fs cls dx → Wx cls dx σ H'
  | .bad => False
/-- what is new since H0 and not yet frozen -/
def Fresh (RA : List Addr) (H0 B H : Hp) (d : D) (v : V) : Prop := ∃ p, v = .ref p ∧ H0 p = none ∧ B p = none ∧ p ∉ RA ∧ RootAt W RA B H p d
/-- an expression's reading -/
def tE (f : EF) : TE := fun σ H Q => ∃ RA ρ σd B, Base W RA ρ B H ∧ LocOk W RA B σd σ ∧ Aw W Wx RA ρ σ B H (f ρ σd) fun d B' H' => ∀ v, Rep W RA B' d v → Q v H'
/-- an expression whose value is a new thing -/
def tF (f : EF) : TE := fun σ H Q => ∃ RA ρ σd B, Base W RA ρ B H ∧ LocOk W RA B σd σ ∧ Aw W Wx RA ρ σ B H (f ρ σd) fun d B' H' => ∀ v, Fresh W RA H B' H' d v → Q v H'
def tA (f : AF) : TA := fun σ H Q => ∃ RA ρ σd B, Base W RA ρ B H ∧ LocOk W RA B σd σ ∧ Aw W Wx RA ρ σ B H (f ρ σd) fun ds B' H' => ∀ vs, RepL W RA B' ds vs → Q vs H'
/-- a test: its data's truth -/
def tT (f : List D → Env → Res Bool) : TT := fun σ H Q => ∃ RA ρ σd B, Base W RA ρ B H ∧ LocOk W RA B σd σ ∧ Aw W Wx RA ρ σ B H (f ρ σd) fun b _ H' => Q b H'
/-- behind a statement: RA', ρ', B', H' grown out of RA, ρ, B, H, where only roots of mu have changed -/
structure Grow (mu : Nat → Bool) (RA : List Addr) (ρ : List D) (B H : Hp) (RA' : List Addr) (ρ' : List D) (B' H' : Hp) : Prop where
  pre : ∃ t, RA' = RA ++ t
  bl : Ex B B'
  base : Base W RA' ρ' B' H'
  keep : ∀ a o, H a = some o → (∀ r, RA[r]? = some a → mu r = false) → H' a = some o
  new : ∀ (r : Nat) (a : Addr), RA.length ≤ r → RA'[r]? = some a → H a = none
  bn : ∀ a o, B' a = some o → B a = some o ∨ H a = none
  kd : ∀ r, r < RA.length → mu r = false → ρ'[r]? = ρ[r]?
def ResAt (fr : Bool) (RA : List Addr) (H0 B H : Hp) (d : D) (v : V) : Prop := if fr = true then Fresh W RA H0 B H d v else Rep W RA B d v
def Done (mu : Nat → Bool) (RA : List Addr) (ρ : List D) (B H : Hp) (Dn : Ends) : Out → Prop
  | .nx ρ' σd' => ∀ RA' B' H' σ', Grow W mu RA ρ B H RA' ρ' B' H' → LocOk W RA' B' σd' σ' → Dn.nx σ' H'
  | .brk ρ' σd' => ∀ RA' B' H' σ', Grow W mu RA ρ B H RA' ρ' B' H' → LocOk W RA' B' σd' σ' → Dn.bk σ' H'
  | .ct ρ' σd' => ∀ RA' B' H' σ', Grow W mu RA ρ B H RA' ρ' B' H' → LocOk W RA' B' σd' σ' → Dn.ct σ' H'
  | .ret fr d ρ' => ∀ RA' B' H' v, Grow W mu RA ρ B H RA' ρ' B' H' → ResAt W fr RA' H B' H' d v → Dn.rt v H'
  | .exc c fs ρ' σd' => ∀ RA' B' H' σ' cls dx, Grow W mu RA ρ B H RA' ρ' B' H' → LocOk W RA' B' σd' σ' → ExcAt W RA' B' H' c fs cls dx → Wx cls dx σ' H'
  | .bad => False
def tS (mu : Nat → Bool) (f : SF) : TS := fun Dn σ H => ∃ RA ρ σd B, Base W RA ρ B H ∧ LocOk W RA B σd σ ∧ Done W Wx mu RA ρ B H Dn (f mu ρ σd)
end
section
variable {W : Wd} {Wx : WX} {RA RA' RA1 : List Addr} {ρ ρ' ρ1 : List D} {B B' B1 H H' H1 : Hp} {σd σd' : Env} {σ : L2.St} {mu : Nat → Bool}
theorem Grow.of_aft (mu : Nat → Bool) (a : Aft W RA ρ B H B' H') : Grow W mu RA ρ B H RA ρ B' H' := ⟨⟨[], by simp⟩, a.bl, a.base, fun x o h _ => a.hp x o h, fun r x h1 h2 => (by rw [List.getElem?_eq_none h1] at h2; cases h2), a.bn, fun _ _ _ => rfl⟩
theorem Grow.refl (mu : Nat → Bool) (b : Base W RA ρ B H) : Grow W mu RA ρ B H RA ρ B H := .of_aft mu (.refl b)
theorem Grow.ra (g : Grow W mu RA ρ B H RA' ρ' B' H') : ∀ (r : Nat) (a : Addr), RA[r]? = some a → RA'[r]? = some a := fun r a h => by
  obtain ⟨t, e⟩ := g.pre
  rw [e, List.getElem?_append_left (List.getElem?_eq_some_iff.mp h).1]; exact h
/-- what is free behind was free before -/
theorem Grow.free (g : Grow W mu RA ρ B H RA' ρ' B' H') {p : Addr} (h : H' p = none) : H p = none := by
  cases e : H p with
  | none => rfl
  | some o =>
    by_cases hr : p ∈ RA
    · obtain ⟨r, hr⟩ := List.mem_iff_getElem?.mp hr
      obtain ⟨o', e'⟩ := g.base.root_in (List.mem_of_getElem? (g.ra r p hr))
      rw [h] at e'; cases e'
    · have := g.keep p o e fun r hr' => absurd (List.mem_of_getElem? hr') hr
      rw [h] at this; cases this
theorem Grow.trans (a : Grow W mu RA ρ B H RA1 ρ1 B1 H1) (b : Grow W mu RA1 ρ1 B1 H1 RA' ρ' B' H') : Grow W mu RA ρ B H RA' ρ' B' H' where
  pre := by
    obtain ⟨t, e⟩ := a.pre
    obtain ⟨u, f⟩ := b.pre
    exact ⟨t ++ u, by rw [f, e, List.append_assoc]⟩
  bl := a.bl.trans b.bl
  base := b.base
  keep := fun x o h hm => b.keep x o (a.keep x o h hm) fun r hr => by
    by_cases hl : r < RA.length
    · obtain ⟨t, e⟩ := a.pre
      rw [e, List.getElem?_append_left hl] at hr
      exact hm r hr
    · have q := a.new r x (by omega) hr
      rw [h] at q; cases q
  new := fun r x h1 h2 => by
    by_cases hl : r < RA1.length
    · obtain ⟨u, f⟩ := b.pre
      rw [f, List.getElem?_append_left hl] at h2
      exact a.new r x h1 h2
    · exact a.free (b.new r x (by omega) h2)
  bn := fun x o h => by
    rcases b.bn x o h with h | h
    · exact a.bn x o h
    · exact .inr (a.free h)
  kd := fun r h hm => by
    obtain ⟨t, e⟩ := a.pre
    rw [b.kd r (by rw [e, List.length_append]; omega) hm]
    exact a.kd r h hm
theorem Fresh.back {H0 H2 : Hp} {d : D} {v : V} (e : Ex H0 H2) (h : Fresh W RA H2 B H d v) : Fresh W RA H0 B H d v := by
  obtain ⟨p, h1, h2, h3⟩ := h
  exact ⟨p, h1, fresh_back e h2, h3⟩
/-- a new thing, frozen -/
theorem Fresh.freeze {B0 H0 : Hp} {d : D} {v : V} (a : Aft W RA ρ B0 H0 B H) (h : Fresh W RA H0 B H d v) : ∃ B', Aft W RA ρ B0 H0 B' H ∧ Rep W RA B' d v := by
  obtain ⟨p, rfl, h0, hB, hr, ho⟩ := h
  cases d with
  | lst l =>
    obtain ⟨vs, e, r⟩ := ho
    exact ⟨_, a.freeze e h0 hB hr, by simp only [Rep]; exact ⟨p, vs, rfl, upd_same, r.ex (Ex.new hB)⟩⟩
  | dct ks l =>
    obtain ⟨kvs, e, h2, r⟩ := ho
    exact ⟨_, a.freeze e h0 hB hr, by simp only [Rep]; exact ⟨p, kvs, rfl, upd_same, h2, r.ex (Ex.new hB)⟩⟩
  | ins c fs =>
    obtain ⟨dx, vs, e, r, h4⟩ := ho
    exact ⟨_, a.freeze e h0 hB hr, by simp only [Rep]; exact ⟨p, dx, vs, rfl, upd_same, r.ex (Ex.new hB), h4⟩⟩
  | _ => exact False.elim ho
theorem Fresh.of_new {p : Addr} {o : HO} {d : D} (b : Base W RA ρ B H) (hp : H p = none) (h : RootAt W RA B (upd H p o) p d) : Aft W RA ρ B H B (upd H p o) ∧ Fresh W RA H B (upd H p o) d (.ref p) :=
  ⟨.heap b (Ex.new hp), p, rfl, hp, (b.fresh_out hp).1, (b.fresh_out hp).2, h⟩
end

section
variable {W : Wd} {Wx : WX} {RA : List Addr} {ρ : List D} {σ : L2.St} {B B' H H' : Hp} {α β : Type} {r : Res α} {P P' : α → Hp → Hp → Prop}
theorem Aw.mono (a : Aft W RA ρ B H B' H') (h : Aw W Wx RA ρ σ B H r P) : Aw W Wx RA ρ σ B' H' r P := by
  cases r with
  | ok x => exact fun B2 H2 a2 => h B2 H2 (a.trans a2)
  | exc c fs => exact fun cls dx B2 H2 a2 => h cls dx B2 H2 (a.trans a2)
  | bad => exact h
theorem Aw.imp (h : Aw W Wx RA ρ σ B H r P) (k : ∀ x B' H', Aft W RA ρ B H B' H' → P x B' H' → P' x B' H') : Aw W Wx RA ρ σ B H r P' := by
  cases r with
  | ok x => exact fun B2 H2 a2 => k x B2 H2 a2 (h B2 H2 a2)
  | exc c fs => exact h
  | bad => exact h
theorem Aw.imp2 (h : Aw W Wx RA ρ σ B H r P) (k : ∀ x, (∀ B' H', Aft W RA ρ B H B' H' → P x B' H') → ∀ B' H', Aft W RA ρ B H B' H' → P' x B' H') : Aw W Wx RA ρ σ B H r P' := by
  cases r with
  | ok x => exact k x h
  | exc c fs => exact h
  | bad => exact h
theorem Aw.bind {f : α → Res β} {P : β → Hp → Hp → Prop} (h : Aw W Wx RA ρ σ B H (r.bind f) P) : Aw W Wx RA ρ σ B H r fun x B' H' => Aw W Wx RA ρ σ B' H' (f x) P := by
  cases r with
  | ok x => exact fun B2 H2 a2 => Aw.mono a2 h
  | exc c fs => exact h
  | bad => exact h
theorem Aw.here {x : α} (b : Base W RA ρ B H) (h : Aw W Wx RA ρ σ B H (.ok x) P) : P x B H := h B H (.refl b)
end

/-! ### a new thing, as any value -/
section
variable {X : Cx} {W : Wd} {Wx : WX} {e : Expr} {f : EF}
theorem pe_weak {t t' : TE} (h : PE X e t) (k : ∀ σ H Q, t' σ H Q → t σ H Q) : PE X e t' := ⟨fun pins s σ H Q I q => h.run pins s σ H Q I (k σ H Q q)⟩
theorem pt_weak {t t' : TT} (h : PT X e t) (k : ∀ σ H Q, t' σ H Q → t σ H Q) : PT X e t' := ⟨fun pins s σ H Q I q => h.run pins s σ H Q I (k σ H Q q)⟩
theorem pa_weak {es : List Expr} {t t' : TA} (h : PA X es t) (k : ∀ σ H Q, t' σ H Q → t σ H Q) : PA X es t' := ⟨fun pos pins s σ H Q I q => h.run pos pins s σ H Q I (k σ H Q q)⟩
theorem ps_weak {st : Stmt} {t t' : TS} (h : PS X st t) (k : ∀ Dn σ H, t' Dn σ H → t Dn σ H) : PS X st t' := ⟨fun pins s σ H Dn I q => h.run pins s σ H Dn I (k Dn σ H q)⟩
theorem pss_weak {st : List Stmt} {t t' : TS} (h : PSs X st t) (k : ∀ Dn σ H, t' Dn σ H → t Dn σ H) : PSs X st t' := ⟨fun pins s σ H Dn I q => h.run pins s σ H Dn I (k Dn σ H q)⟩
theorem pi_weak {tg it : Expr} {t t' : TI} (h : PI X tg it t) (k : ∀ σ H R, t' σ H R → t σ H R) : PI X tg it t' := ⟨fun pins s σ H R I q => h.run pins s σ H R I (k σ H R q)⟩
theorem pe_frz (h : PE X e (tF W Wx f)) : PE X e (tE W Wx f) := pe_weak h fun σ H Q ⟨RA, ρ, σd, B, b, l, q⟩ => ⟨RA, ρ, σd, B, b, l, q.imp2 fun d k B' H' a v fr => by
  obtain ⟨B2, a2, r⟩ := Fresh.freeze a fr
  exact k B2 H' a2 v r⟩
end
end Dd

set_option Elab.async false
set_option linter.all false
set_option maxRecDepth 100000
set_option maxHeartbeats 2000000
/-! DdOps: what operators, subscripts and built-in functions do to plain data -/
namespace Dd
open PySem PySem.Spec PyProof.Rows L2 Evl OwnO My

/-- a root's content, or the thing itself -/
def dr (ρ : List D) : D → D
  | .rt r => (ρ[r]?).getD (.rt r)
  | d => d
def ofO {α : Type} : Option α → Res α
  | some a => .ok a
  | none => .bad
section
variable {W : Wd} {RA : List Addr} {ρ : List D} {B H : Hp} {d : D} {x : V} {l ks : List D}
theorem view_rt (b : Base W RA ρ B H) {r : Nat} (h : Rep W RA B (.rt r) x) : ∃ a d, x = .ref a ∧ dr ρ (.rt r) = d ∧ RootAt W RA B H a d := by
  simp only [Rep] at h
  obtain ⟨a, rfl, hr⟩ := h
  have hl := (List.getElem?_eq_some_iff.mp hr).1
  have hd : ρ[r]? = some (ρ[r]'(by rw [← b.len]; exact hl)) := List.getElem?_eq_getElem _
  exact ⟨a, _, rfl, by simp only [dr, hd, Option.getD_some], b.roots r a _ hr hd⟩
theorem view_lst (b : Base W RA ρ B H) (h : Rep W RA B d x) (e : dr ρ d = .lst l) : ∃ a vs, x = .ref a ∧ H a = some (.lst vs) ∧ RepL W RA B l vs := by
  cases d with
  | lst m =>
    cases e
    simp only [Rep] at h
    obtain ⟨a, vs, rfl, h2, h3⟩ := h
    exact ⟨a, vs, rfl, b.le a _ h2, h3⟩
  | rt r =>
    obtain ⟨a, d', rfl, e', ra⟩ := view_rt b h
    rw [e] at e'; subst e'
    obtain ⟨vs, h1, h2⟩ := ra
    exact ⟨a, vs, rfl, h1, h2⟩
  | _ => cases e
theorem view_scr (b : Base W RA ρ B H) (h : Rep W RA B d x) (e : dr ρ d = .scr l) : ∃ a vs, x = .ref a ∧ SqL W.K H a vs ∧ RepL W RA B l vs := by
  cases d with
  | scr m =>
    cases e
    simp only [Rep] at h
    obtain ⟨a, vs, rfl, h2, h3⟩ := h
    exact ⟨a, vs, rfl, ex_l b.le h2, h3⟩
  | rt r =>
    obtain ⟨a, d', rfl, e', ra⟩ := view_rt b h
    rw [e] at e'; subst e'
    exact False.elim ra
  | _ => cases e
theorem view_tup (b : Base W RA ρ B H) (h : Rep W RA B d x) (e : dr ρ d = .tup l) : ∃ a vs, x = .ref a ∧ SqT W.K H a vs ∧ RepL W RA B l vs := by
  cases d with
  | tup m =>
    cases e
    simp only [Rep] at h
    obtain ⟨a, vs, rfl, h2, h3⟩ := h
    exact ⟨a, vs, rfl, ex_t b.le h2, h3⟩
  | rt r =>
    obtain ⟨a, d', rfl, e', ra⟩ := view_rt b h
    rw [e] at e'; subst e'
    exact False.elim ra
  | _ => cases e
theorem view_dct {ks : List L2.Key} (b : Base W RA ρ B H) (h : Rep W RA B d x) (e : dr ρ d = .dct ks l) : ∃ a kvs, x = .ref a ∧ H a = some (.dK kvs) ∧ kvs.map (·.1) = ks ∧ RepL W RA B l (kvs.map (·.2)) := by
  cases d with
  | dct m n =>
    cases e
    simp only [Rep] at h
    obtain ⟨a, vs, rfl, h2, h3⟩ := h
    exact ⟨a, vs, rfl, b.le a _ h2, h3⟩
  | rt r =>
    obtain ⟨a, d', rfl, e', ra⟩ := view_rt b h
    rw [e] at e'; subst e'
    obtain ⟨vs, h1, h2⟩ := ra
    exact ⟨a, vs, rfl, h1, h2⟩
  | _ => cases e
theorem view_wd {ks : List Str} (b : Base W RA ρ B H) (h : Rep W RA B d x) (e : dr ρ d = .wd ks l) : ∃ a vs, x = .ref a ∧ KDv W.K W.w a ks vs ∧ RepL W RA B l vs := by
  cases d with
  | wd m n =>
    cases e
    simpa only [Rep] using h
  | rt r =>
    obtain ⟨a, d', rfl, e', ra⟩ := view_rt b h
    rw [e] at e'; subst e'
    exact False.elim ra
  | _ => cases e
theorem view_ins {c : Nat} (b : Base W RA ρ B H) (h : Rep W RA B d x) (e : dr ρ d = .ins c l) : ∃ a dx vs, x = .ref a ∧ H a = some (.ins (W.CA c) dx ((W.CF c).zip vs)) ∧ RepL W RA B l vs ∧ vs.length ≤ (W.CF c).length := by
  cases d with
  | ins m n =>
    cases e
    simp only [Rep] at h
    obtain ⟨a, dx, vs, rfl, h2, h3, h4⟩ := h
    exact ⟨a, dx, vs, rfl, b.le a _ h2, h3, h4⟩
  | rt r =>
    obtain ⟨a, d', rfl, e', ra⟩ := view_rt b h
    rw [e] at e'; subst e'
    obtain ⟨dx, vs, h1, h2, h3⟩ := ra
    exact ⟨a, dx, vs, rfl, h1, h2, h3⟩
  | _ => cases e
theorem view_flat (b : Base W RA ρ B H) (h : Rep W RA B d x) : (∀ i, dr ρ d = .int i → x = .int i) ∧ (∀ i, dr ρ d = .str i → x = .str i) ∧ (∀ i, dr ρ d = .bl i → x = .bl i) ∧ (dr ρ d = .non → x = .non) ∧ (∀ n, dr ρ d = .ty n → x = .ty n.name) ∧ (∀ n, dr ρ d = .cl n → x = .ref (W.CA n)) := by
  cases d with
  | rt r =>
    obtain ⟨a, d', rfl, e', ra⟩ := view_rt b h
    rw [e']
    refine ⟨fun i e => ?_, fun i e => ?_, fun i e => ?_, fun e => ?_, fun i e => ?_, fun i e => ?_⟩ <;> (subst e; exact False.elim ra)
  | _ => simp_all [dr, Rep]
theorem view_int (b : Base W RA ρ B H) (h : Rep W RA B d x) {i : Int} (e : dr ρ d = .int i) : x = .int i := (view_flat b h).1 i e
theorem view_str (b : Base W RA ρ B H) (h : Rep W RA B d x) {i : Str} (e : dr ρ d = .str i) : x = .str i := (view_flat b h).2.1 i e
theorem view_bl (b : Base W RA ρ B H) (h : Rep W RA B d x) {i : Bool} (e : dr ρ d = .bl i) : x = .bl i := (view_flat b h).2.2.1 i e
theorem view_non (b : Base W RA ρ B H) (h : Rep W RA B d x) (e : dr ρ d = .non) : x = .non := (view_flat b h).2.2.2.1 e
theorem view_ty (b : Base W RA ρ B H) (h : Rep W RA B d x) {n : BT} (e : dr ρ d = .ty n) : x = .ty n.name := (view_flat b h).2.2.2.2.1 n e
theorem view_cl (b : Base W RA ρ B H) (h : Rep W RA B d x) {n : Nat} (e : dr ρ d = .cl n) : x = .ref (W.CA n) := (view_flat b h).2.2.2.2.2 n e
end

/-! ### rules by values, on data -/
section
variable (W : Wd)
/-- a two-place rule does to data what g says -/
def Op2 (r : R2) (g : List D → D → D → Option D) : Prop := ∀ (RA : List Addr) (ρ : List D) (B H : Hp) (x y : V) (d1 d2 d : D) (Q : VK), Base W RA ρ B H → Rep W RA B d1 x → Rep W RA B d2 y → g ρ d1 d2 = some d →
  (∀ v B' H', Aft W RA ρ B H B' H' → Rep W RA B' d v → Q v H') → r x y H Q
def Op1 (r : V → Hp → VK → Prop) (g : List D → D → Option D) : Prop := ∀ (RA : List Addr) (ρ : List D) (B H : Hp) (x : V) (d1 d : D) (Q : VK), Base W RA ρ B H → Rep W RA B d1 x → g ρ d1 = some d →
  (∀ v B' H', Aft W RA ρ B H B' H' → Rep W RA B' d v → Q v H') → r x H Q
/-- a call of a built-in -/
def OpC (r : List V → Hp → VK → Prop) (g : List D → List D → Option D) : Prop := ∀ (RA : List Addr) (ρ : List D) (B H : Hp) (xs : List V) (ds : List D) (d : D) (Q : VK), Base W RA ρ B H → RepL W RA B ds xs → g ρ ds = some d →
  (∀ v B' H', Aft W RA ρ B H B' H' → Rep W RA B' d v → Q v H') → r xs H Q
/-- one whose value is a new thing -/
def OpCF (r : List V → Hp → VK → Prop) (g : List D → List D → Option D) : Prop := ∀ (RA : List Addr) (ρ : List D) (B H : Hp) (xs : List V) (ds : List D) (d : D) (Q : VK), Base W RA ρ B H → RepL W RA B ds xs → g ρ ds = some d →
  (∀ v B' H', Aft W RA ρ B H B' H' → Fresh W RA H B' H' d v → Q v H') → r xs H Q
end
def bin2 (g : List D → D → D → Option D) (f1 f2 : EF) : EF := fun ρ σ => (f1 ρ σ).bind fun x => (f2 ρ σ).bind fun y => ofO (g ρ x y)
def un1 (g : List D → D → Option D) (f : EF) : EF := fun ρ σ => (f ρ σ).bind fun x => ofO (g ρ x)
def callB (g : List D → List D → Option D) (f : AF) : EF := fun ρ σ => (f ρ σ).bind fun xs => ofO (g ρ xs)
section
variable {W : Wd} {Wx : WX} {X : Cx} {a b : Expr} {f1 f2 f : EF} {fa : AF} {pos p : Pos}
theorem tE_bin {r : R2} {g : List D → D → D → Option D} (h : Op2 W r g) (σ : L2.St) (H : Hp) (Q : VK) : tE W Wx (bin2 g f1 f2) σ H Q → tOp r (tE W Wx f1) (tE W Wx f2) σ H Q := fun ⟨RA, ρ, σd, B, b, l, q⟩ =>
  ⟨RA, ρ, σd, B, b, l, (Aw.bind q).imp fun d1 B1 H1 a1 q1 x rx => ⟨RA, ρ, σd, B1, a1.base, l.ex a1.bl, (Aw.bind q1).imp fun d2 B2 H2 a2 q2 y ry => by
    cases e : g ρ d1 d2 with
    | none => simp only [e, ofO, Aw] at q2
    | some d =>
      simp only [e, ofO, Aw] at q2
      exact h RA ρ B2 H2 x y d1 d2 d Q a2.base (rx.ex a2.bl) ry e fun v B3 H3 a3 r3 => q2 B3 H3 a3 v r3⟩⟩
theorem pe_bin2 {op : Operator} {r : R2} {g : List D → D → D → Option D} (ho : OpR X (binaryOp op) r) (h : Op2 W r g) (ha : PE X a (tE W Wx f1)) (hb : PE X b (tE W Wx f2)) : PE X (.BinOp a op b pos) (tE W Wx (bin2 g f1 f2)) := pe_weak (pe_op ho ha hb) (tE_bin h)
theorem pe_cmp2 {op : CmpOp} {r : R2} {g : List D → D → D → Option D} (ho : OpR X (compareOp op) r) (h : Op2 W r g) (hm : behindInMarks op b = false) (ha : PE X a (tE W Wx f1)) (hb : PE X b (tE W Wx f2)) : PE X (.Compare a [op] [b] pos) (tE W Wx (bin2 g f1 f2)) := pe_weak (pe_cmpR ho ha hb hm) (tE_bin h)
theorem pe_ix2 {r : R2} {g : List D → D → D → Option D} (ho : IxR X r) (h : Op2 W r g) (hs : PlainIx b) (ha : PE X a (tE W Wx f1)) (hb : PE X b (tE W Wx f2)) : PE X (.Subscript a b pos) (tE W Wx (bin2 g f1 f2)) := pe_weak (pe_ix ho ha hb hs) (tE_bin h)
theorem pe_un1 {op : UnaryOp} {r : V → Hp → VK → Prop} {g : List D → D → Option D} (ho : UnR X (unaryOp op) r) (h : Op1 W r g) (ha : PE X a (tE W Wx f)) : PE X (.UnaryOp op a pos) (tE W Wx (un1 g f)) := pe_weak (pe_un ho ha) fun σ H Q ⟨RA, ρ, σd, B, b, l, q⟩ =>
  ⟨RA, ρ, σd, B, b, l, (Aw.bind q).imp fun d1 B1 H1 a1 q1 x rx => by
    cases e : g ρ d1 with
    | none => simp only [e, ofO, Aw] at q1
    | some d =>
      simp only [e, ofO, Aw] at q1
      exact h RA ρ B1 H1 x d1 d Q a1.base rx e fun v B3 H3 a3 r3 => q1 B3 H3 a3 v r3⟩
theorem tE_callB {r : List V → Hp → VK → Prop} {g : List D → List D → Option D} (h : OpC W r g) (σ : L2.St) (H : Hp) (Q : VK) : tE W Wx (callB g fa) σ H Q → tCB r (tA W Wx fa) σ H Q := fun ⟨RA, ρ, σd, B, b, l, q⟩ =>
  ⟨RA, ρ, σd, B, b, l, (Aw.bind q).imp fun ds B1 H1 a1 q1 xs rx => by
    cases e : g ρ ds with
    | none => simp only [e, ofO, Aw] at q1
    | some d =>
      simp only [e, ofO, Aw] at q1
      exact h RA ρ B1 H1 xs ds d Q a1.base rx e fun v B3 H3 a3 r3 => q1 B3 H3 a3 v r3⟩
theorem tF_callB {r : List V → Hp → VK → Prop} {g : List D → List D → Option D} (h : OpCF W r g) (σ : L2.St) (H : Hp) (Q : VK) : tF W Wx (callB g fa) σ H Q → tCB r (tA W Wx fa) σ H Q := fun ⟨RA, ρ, σd, B, b, l, q⟩ =>
  ⟨RA, ρ, σd, B, b, l, (Aw.bind q).imp fun ds B1 H1 a1 q1 xs rx => by
    cases e : g ρ ds with
    | none => simp only [e, ofO, Aw] at q1
    | some d =>
      simp only [e, ofO, Aw] at q1
      exact h RA ρ B1 H1 xs ds d Q a1.base rx e fun v B3 H3 a3 r3 => q1 B3 H3 a3 v (r3.back a1.hp)⟩
end
end Dd

set_option Elab.async false
set_option linter.all false
set_option maxRecDepth 100000
set_option maxHeartbeats 2000000
namespace Dd
open PySem PySem.Spec PyProof.Rows L2 Evl OwnO My

/-! ### arithmetic -/
def addD (ρ : List D) (x y : D) : Option D := match dr ρ x, dr ρ y with
  | .int i, .int j => some (.int (i + j))
  | .str s, .str t => if s.length + t.length ≤ 100000 then some (.str (s ++ t)) else none
  | .lst l, .lst m => if l.length + m.length ≤ 100000 then some (.lst (l ++ m)) else none
  | .tup l, .tup m => if l.length + m.length ≤ 100000 then some (.tup (l ++ m)) else none
  | _, _ => none
def subD (ρ : List D) (x y : D) : Option D := match dr ρ x, dr ρ y with
  | .int i, .int j => some (.int (i - j))
  | _, _ => none
def mulD (ρ : List D) (x y : D) : Option D := match dr ρ x, dr ρ y with
  | .int i, .int j => if (-(2 ^ 64) < i ∧ i < 2 ^ 64) ∨ (-(2 ^ 64) < j ∧ j < 2 ^ 64) then some (.int (i * j)) else none
  | .lst l, .int k => if -1000 ≤ k ∧ k ≤ 1000 ∧ l.length ≤ 100 then some (.lst (List.replicate k.toNat l).flatten) else none
  | .tup l, .int k => if 1 ≤ k ∧ k ≤ 1000 ∧ l ≠ [] ∧ l.length ≤ 1000 then some (.tup (List.replicate k.toNat l).flatten) else none
  | _, _ => none
def fdivD (ρ : List D) (x y : D) : Option D := match dr ρ x, dr ρ y with
  | .int i, .int j => if 0 < j ∧ j < 1073741824 then some (.int (i / j)) else none
  | _, _ => none
def modD (ρ : List D) (x y : D) : Option D := match dr ρ x, dr ρ y with
  | .int i, .int j => if 0 < j then some (.int (i % j)) else none
  | _, _ => none
def powD (ρ : List D) (x y : D) : Option D := match dr ρ x, dr ρ y with
  | .int i, .int j => if 0 ≤ j ∧ j ≤ 1000000 ∧ i.natAbs < 2 ^ 64 then some (.int (i ^ j.toNat)) else none
  | _, _ => none
def negD (ρ : List D) (x : D) : Option D := match dr ρ x with
  | .int i => some (.int (-i))
  | _ => none

section
variable {W : Wd} {RA : List Addr} {ρ : List D} {B H : Hp} {P : V → Hp → Prop}
theorem fin_flat {Q : VK} {d : D} (b : Base W RA ρ B H) {v : V} (hv : ∀ B', Rep W RA B' d v) (h : ∀ v B' H', Aft W RA ρ B H B' H' → Rep W RA B' d v → Q v H') : Q v H := h v B H (.refl b) (hv B)
theorem rep_int {i : Int} : Rep W RA B (.int i) (.int i) := by simp only [Rep]
theorem rep_str {i : Str} : Rep W RA B (.str i) (.str i) := by simp only [Rep]
theorem rep_bl {i : Bool} : Rep W RA B (.bl i) (.bl i) := by simp only [Rep]
theorem rep_non : Rep W RA B .non .non := by simp only [Rep]
theorem fin_new {Q : VK} {d : D} {o : HO} {p : Addr} (b : Base W RA ρ B H) (hp : H p = none) (hr : Rep W RA (upd B p o) d (.ref p)) (h : ∀ v B' H', Aft W RA ρ B H B' H' → Rep W RA B' d v → Q v H') : Q (.ref p) (upd H p o) :=
  h _ _ _ (.laid b hp) hr
theorem fin_lst {Q : VK} {l : List D} {vs : List V} {p : Addr} (b : Base W RA ρ B H) (hp : H p = none) (hr : RepL W RA B l vs) (h : ∀ v B' H', Aft W RA ρ B H B' H' → Rep W RA B' (.lst l) v → Q v H') : Q (.ref p) (upd H p (.lst vs)) :=
  fin_new b hp (by simp only [Rep]; exact ⟨p, vs, rfl, upd_same, hr.ex (Ex.new (b.fresh_out hp).1)⟩) h
theorem fin_tup {Q : VK} {l : List D} {vs : List V} {p : Addr} (b : Base W RA ρ B H) (hp : H p = none) (hr : RepL W RA B l vs) (h : ∀ v B' H', Aft W RA ρ B H B' H' → Rep W RA B' (.tup l) v → Q v H') : Q (.ref p) (upd H p (.tup vs)) :=
  fin_new b hp (by simp only [Rep]; exact ⟨p, vs, rfl, .of upd_same, hr.ex (Ex.new (b.fresh_out hp).1)⟩) h
theorem fin_lstF {Q : VK} {l : List D} {vs : List V} {p : Addr} (b : Base W RA ρ B H) (hp : H p = none) (hr : RepL W RA B l vs) (h : ∀ v B' H', Aft W RA ρ B H B' H' → Fresh W RA H B' H' (.lst l) v → Q v H') : Q (.ref p) (upd H p (.lst vs)) :=
  h _ _ _ (.heap b (Ex.new hp)) ⟨p, rfl, hp, (b.fresh_out hp).1, (b.fresh_out hp).2, vs, upd_same, hr⟩
end
theorem units0 {X : Cx} (h : X.A.units + 128 < cLine) : X.A.units < cLine := by omega
theorem units64 {X : Cx} (h : X.A.units + 128 < cLine) : X.A.units + 64 < cLine := by omega
theorem units65 {X : Cx} (h : X.A.units + 128 < cLine) : X.A.units + 65 < cLine := by omega

def rAddD (K : PySem.W.Frag) : R2 := fun x y H Q => (∃ i j, x = .int i ∧ y = .int j ∧ Q (.int (i + j)) H) ∨ (∃ i j, x = .str i ∧ y = .str j ∧ i.length + j.length ≤ sizeLine ∧ Q (.str (i ++ j)) H) ∨ rCat x y H Q ∨ rCatA K x y H Q
theorem opr_add {X : Cx} (K : PySem.W.Frag) (hK : X.K = K) : OpR X (binaryOp .Add) (rAddD K) := by subst hK; exact op_add.or (op_add_str.or (op_cat.or op_catA))
theorem op2_add (W : Wd) : Op2 W (rAddD W.K) addD := by
  intro RA ρ B H x y d1 d2 d Q b r1 r2 e h
  unfold addD at e
  split at e
  · rename_i i j e1 e2
    cases e
    rw [view_int b r1 e1, view_int b r2 e2]
    exact .inl ⟨i, j, rfl, rfl, fin_flat b (fun _ => rep_int) h⟩
  · rename_i s t e1 e2
    split at e
    · rename_i hz
      cases e
      rw [view_str b r1 e1, view_str b r2 e2]
      exact .inr (.inl ⟨s, t, rfl, rfl, sz_of hz, fin_flat b (fun _ => rep_str) h⟩)
    · cases e
  · rename_i l m e1 e2
    split at e
    · rename_i hz
      cases e
      obtain ⟨a, vs, rfl, ha, la⟩ := view_lst b r1 e1
      obtain ⟨a', us, rfl, hb, lb⟩ := view_lst b r2 e2
      refine .inr (.inr (.inl ⟨a, a', vs, us, rfl, rfl, ha, hb, sz_of (by rw [← la.len, ← lb.len]; exact hz), fun p hp => fin_lst b hp (la.append lb) h⟩))
    · cases e
  · rename_i l m e1 e2
    split at e
    · rename_i hz
      cases e
      obtain ⟨a, vs, rfl, ha, la⟩ := view_tup b r1 e1
      obtain ⟨a', us, rfl, hb, lb⟩ := view_tup b r2 e2
      cases d1 with
      | tup l' =>
        cases e1
        cases d2 with
        | tup m' =>
          cases e2
          refine .inr (.inr (.inr ⟨a, a', vs, us, rfl, rfl, ha, hb, sz_of (by rw [← la.len, ← lb.len]; exact hz), fun e => ?_, fun e e' => ?_, fun _ _ p hp => fin_tup b hp (la.append lb) h⟩))
          · subst e
            have : l = [] := List.eq_nil_of_length_eq_zero (by rw [la.len]; rfl)
            subst this
            exact h _ B H (.refl b) r2
          · subst e'
            have : m = [] := List.eq_nil_of_length_eq_zero (by rw [lb.len]; rfl)
            subst this
            exact h _ B H (.refl b) (by rw [List.append_nil]; exact r1)
        | rt r =>
          obtain ⟨a2, d', _, e', ra⟩ := view_rt b r2
          rw [e2] at e'; subst e'; exact False.elim ra
        | _ => cases e2
      | rt r =>
        obtain ⟨a2, d', _, e', ra⟩ := view_rt b r1
        rw [e1] at e'; subst e'; exact False.elim ra
      | _ => cases e1
    · cases e
  · cases e
theorem op2_sub (W : Wd) : Op2 W (rI0 fun i j => .int (i - j)) subD := by
  intro RA ρ B H x y d1 d2 d Q b r1 r2 e h
  unfold subD at e
  split at e
  · rename_i i j e1 e2
    cases e
    rw [view_int b r1 e1, view_int b r2 e2]
    exact ⟨i, j, rfl, rfl, fin_flat b (fun _ => rep_int) h⟩
  · cases e
theorem op2_fdiv (W : Wd) : Op2 W (rI CDiv fun i j => .int (i / j)) fdivD := by
  intro RA ρ B H x y d1 d2 d Q b r1 r2 e h
  unfold fdivD at e
  split at e
  · rename_i i j e1 e2
    split at e
    · rename_i hc
      cases e
      rw [view_int b r1 e1, view_int b r2 e2]
      exact ⟨i, j, rfl, rfl, hc, fin_flat b (fun _ => rep_int) h⟩
    · cases e
  · cases e
theorem op2_mod (W : Wd) : Op2 W (rI (fun _ j => 0 < j) fun i j => .int (i % j)) modD := by
  intro RA ρ B H x y d1 d2 d Q b r1 r2 e h
  unfold modD at e
  split at e
  · rename_i i j e1 e2
    split at e
    · rename_i hc
      cases e
      rw [view_int b r1 e1, view_int b r2 e2]
      exact ⟨i, j, rfl, rfl, hc, fin_flat b (fun _ => rep_int) h⟩
    · cases e
  · cases e
theorem op2_pow (W : Wd) : Op2 W (rI CPow fun i j => .int (i ^ j.toNat)) powD := by
  intro RA ρ B H x y d1 d2 d Q b r1 r2 e h
  unfold powD at e
  split at e
  · rename_i i j e1 e2
    split at e
    · rename_i hc
      cases e
      rw [view_int b r1 e1, view_int b r2 e2]
      exact ⟨i, j, rfl, rfl, hc, fin_flat b (fun _ => rep_int) h⟩
    · cases e
  · cases e
theorem op1_neg (W : Wd) : Op1 W (rU fun i => .int (-i)) negD := by
  intro RA ρ B H x d1 d Q b r1 e h
  unfold negD at e
  split at e
  · rename_i i e1
    cases e
    rw [view_int b r1 e1]
    exact ⟨i, rfl, fin_flat b (fun _ => rep_int) h⟩
  · cases e
/-- t * 1 is t -/
theorem tuple_mul1 (l : Addr) (items : Array Value) (n : Nat) (dd : Option Addr) (sl : Array (Option Value)) (u : Tok) :
    Meets (Builtin.«tuple.__mul__» ⟨[.ref l, .int 1 u], []⟩) (fun _ R s => s.heap.get? l = some { cls := .type "tuple", dict := dd, data := .seq items n, slots := sl } ∧ R (.ok (.ret (Value.ref l))) s) :=
  .of_wp fun prog w A R s h => by
    obtain ⟨hp, g, d, tk, os⟩ := s
    obtain ⟨hl, h⟩ := h
    have f1 := AutoSeq1.idx_int
    wp_walk using wpAny_loadPart' hl
    repeat (first
      | (refine wpAny_ite_false (decide_eq_false (by decide)) ?_; wp_walk using wpAny_loadPart' hl)
      | (refine wpAny_ite_true (by simp) ?_; wp_walk using wpAny_loadPart' hl)
      | (refine wpAny_ite_true (decide_eq_true (by simp)) ?_; wp_walk using wpAny_loadPart' hl))
    exact ⟨_, rfl, h⟩
def rRep1 (K : PySem.W.Frag) : R2 := fun x y H Q => ∃ l xs, x = .ref l ∧ y = .int 1 ∧ SqT K H l xs ∧ Q (.ref l) H
theorem op_rep1 {X : Cx} : OpR X (binaryOp .Mult) (rRep1 X.K) := by
  intro pins s σ H x y v u Q I rx ry h
  obtain ⟨l, xs, rfl, rfl, hT, q⟩ := h
  cases rx
  obtain ⟨t, rfl⟩ := ry
  obtain ⟨its, r, ⟨⟨cls, dd, data, sl⟩, ho, hc, n, hd⟩, hs⟩ := I.tuple hT
  simp only at hc hd
  subst hc hd
  refine wpAny_binaryOp_repeat_ref (T := "tuple") (U := "int") (by decide) ⟨_, ho, rfl⟩ (fun s' => typeIs_int s' 1 t) noFill_tuple_mul F.fills_int_mul F.slot_int_rmul repeat_tuple F.slot_int_index.lookup
    (call_meets F.slot_int_rmul (typeIs_int s 1 t) F.entry_int_rmul (F.args_int_rmul_2 _ _) (int_rmul_tuple 1 t l its.toArray n dd sl)
      ⟨ho, rfl, ⟨_, ho, rfl⟩, call_meets F.slot_tuple_mul ⟨_, ho, rfl⟩ F.entry_tuple_mul (F.args_tuple_mul_2 _ _) (tuple_mul1 l its.toArray n dd sl t) ⟨ho, ?_⟩⟩)
  exact ⟨.ref l, H, I, rfl, q⟩
def rMulD (K : PySem.W.Frag) : R2 := fun x y H Q => (rI CMul (fun i j => .int (i * j)) x y H Q) ∨ rRep x y H Q ∨ rRep1 K x y H Q ∨ rRepT K x y H Q
theorem opr_mul {X : Cx} (K : PySem.W.Frag) (hK : X.K = K) : OpR X (binaryOp .Mult) (rMulD K) := by subst hK; exact op_mul.or (op_rep.or (op_rep1.or op_repT))
theorem RepL.flat {W : Wd} {RA : List Addr} {B : Hp} {l : List D} {vs : List V} (h : RepL W RA B l vs) : ∀ n : Nat, RepL W RA B (List.replicate n l).flatten (List.replicate n vs).flatten
  | 0 => .nil
  | n + 1 => by
    rw [List.replicate_succ, List.replicate_succ, List.flatten_cons, List.flatten_cons]
    exact h.append (RepL.flat h n)
theorem op2_mul (W : Wd) : Op2 W (rMulD W.K) mulD := by
  intro RA ρ B H x y d1 d2 d Q b r1 r2 e h
  unfold mulD at e
  split at e
  · rename_i i j e1 e2
    split at e
    · rename_i hc
      cases e
      rw [view_int b r1 e1, view_int b r2 e2]
      exact .inl ⟨i, j, rfl, rfl, hc, fin_flat b (fun _ => rep_int) h⟩
    · cases e
  · rename_i l k e1 e2
    split at e
    · rename_i hc
      cases e
      obtain ⟨a, vs, rfl, ha, la⟩ := view_lst b r1 e1
      rw [view_int b r2 e2]
      refine .inr (.inl ⟨a, k, vs, rfl, rfl, ha, by omega, by omega, sz_of ?_, fun p hp => fin_lst b hp (la.flat _) h⟩)
      rw [← la.len]
      have h1 : l.length * k.toNat ≤ 100 * 1000 := Nat.mul_le_mul hc.2.2 (by omega)
      exact h1
    · cases e
  · rename_i l k e1 e2
    split at e
    · rename_i hc
      cases e
      cases d1 with
      | tup l' =>
        cases e1
        obtain ⟨a, vs, rfl, ha, la⟩ := view_tup b r1 rfl
        rw [view_int b r2 e2]
        by_cases hk : k = 1
        · subst hk
          refine .inr (.inr (.inl ⟨a, vs, rfl, rfl, ha, h _ B H (.refl b) ?_⟩))
          have : (List.replicate (Int.toNat 1) l).flatten = l := by
            show (List.replicate 1 l).flatten = l
            simp
          rw [this]
          exact r1
        · refine .inr (.inr (.inr ⟨a, k, vs, rfl, rfl, ha, fun z => hc.2.2.1 ?_, by omega, hc.2.1, by rw [← la.len]; exact hc.2.2.2, fun p hp => fin_tup b hp (la.flat _) h⟩))
          exact List.eq_nil_of_length_eq_zero (by rw [la.len, z]; rfl)
      | rt r =>
        obtain ⟨a2, d', _, e', ra⟩ := view_rt b r1
        rw [e1] at e'; subst e'; exact False.elim ra
      | _ => cases e1
    · cases e
  · cases e

/-! ### comparisons -/
mutual
def toPy : D → Option PyData
  | .non => some .none
  | .bl b => some (.bool b)
  | .int i => some (.int i)
  | .str s => some (.str s)
  | .tup l => (toPyL l).map .tuple
  | .lst l => (toPyL l).map .list
  | _ => none
def toPyL : List D → Option (List PyData)
  | [] => some []
  | d :: l => (toPy d).bind fun p => (toPyL l).map fun r => p :: r
end
section
variable {W : Wd} {RA : List Addr} {ρ : List D} {B H : Hp}
mutual
theorem dp_of (hB : Ex B H) : ∀ (d : D) (v : V) (p : PyData), Rep W RA B d v → toPy d = some p → Dp W.K H v p
  | .non, v, p, h, e => by simp only [Rep] at h; simp only [toPy] at e; cases e; subst h; exact .non
  | .bl b, v, p, h, e => by simp only [Rep] at h; simp only [toPy] at e; cases e; subst h; exact .bl b
  | .int i, v, p, h, e => by simp only [Rep] at h; simp only [toPy] at e; cases e; subst h; exact .int i
  | .str s, v, p, h, e => by simp only [Rep] at h; simp only [toPy] at e; cases e; subst h; exact .str s
  | .tup l, v, p, h, e => by
    simp only [Rep] at h
    obtain ⟨a, vs, rfl, h2, h3⟩ := h
    simp only [toPy] at e
    obtain ⟨ps, e1, rfl⟩ := Option.map_eq_some_iff.mp e
    exact .tup (ex_t hB h2) (dpL_of hB l vs ps h3 e1)
  | .lst l, v, p, h, e => by
    simp only [Rep] at h
    obtain ⟨a, vs, rfl, h2, h3⟩ := h
    simp only [toPy] at e
    obtain ⟨ps, e1, rfl⟩ := Option.map_eq_some_iff.mp e
    exact .lst (sq_of (hB a _ h2)) (dpL_of hB l vs ps h3 e1)
  | .st _, _, _, _, e => by simp only [toPy] at e; cases e
  | .dct _ _, _, _, _, e => by simp only [toPy] at e; cases e
  | .wd _ _, _, _, _, e => by simp only [toPy] at e; cases e
  | .ins _ _, _, _, _, e => by simp only [toPy] at e; cases e
  | .exn _ _, _, _, _, e => by simp only [toPy] at e; cases e
  | .rt _, _, _, _, e => by simp only [toPy] at e; cases e
  | .scr _, _, _, _, e => by simp only [toPy] at e; cases e
  | .ty _, _, _, _, e => by simp only [toPy] at e; cases e
  | .cl _, _, _, _, e => by simp only [toPy] at e; cases e
theorem dpL_of (hB : Ex B H) : ∀ (l : List D) (vs : List V) (ps : List PyData), RepL W RA B l vs → toPyL l = some ps → DpAll W.K H vs ps
  | [], vs, ps, h, e => by rw [h.unnil]; simp only [toPyL] at e; cases e; exact .nil
  | d :: l, vs, ps, h, e => by
    obtain ⟨v, us, rfl, h2, h3⟩ := h.uncons
    simp only [toPyL] at e
    obtain ⟨p, e1, e⟩ := Option.bind_eq_some_iff.mp e
    obtain ⟨r, e2, rfl⟩ := Option.map_eq_some_iff.mp e
    exact .cons (dp_of hB d v p h2 e1) (dpL_of hB l us r h3 e2)
end
theorem dp_dr (b : Base W RA ρ B H) {d : D} {v : V} {p : PyData} (h : Rep W RA B d v) (e : toPy (dr ρ d) = some p) : Dp W.K H v p := by
  cases d with
  | rt r =>
    obtain ⟨a, d', rfl, e', ra⟩ := view_rt b h
    rw [e'] at e
    cases d' with
    | lst l =>
      obtain ⟨vs, h1, h2⟩ := ra
      simp only [toPy] at e
      obtain ⟨ps, e1, rfl⟩ := Option.map_eq_some_iff.mp e
      exact .lst (sq_of h1) (dpL_of b.le l vs ps h2 e1)
    | dct _ _ => simp only [toPy] at e; cases e
    | ins _ _ => simp only [toPy] at e; cases e
    | _ => exact False.elim ra
  | _ => exact dp_of b.le _ v p h e
end
/-- == of plain data -/
def eqB (ρ : List D) (x y : D) : Option Bool := (toPy (dr ρ x)).bind fun p => (toPy (dr ρ y)).bind fun q => if SeqAt.shaped p = true ∧ SeqAt.shaped q = true then some (PyData.eqv p q) else none
def eqD (ρ : List D) (x y : D) : Option D := (eqB ρ x y).map .bl
def neD (ρ : List D) (x y : D) : Option D := (eqB ρ x y).map fun b => .bl (!b)
theorem eqB_some {ρ : List D} {x y : D} {b : Bool} (h : eqB ρ x y = some b) : ∃ p q, toPy (dr ρ x) = some p ∧ toPy (dr ρ y) = some q ∧ SeqAt.shaped p = true ∧ SeqAt.shaped q = true ∧ PyData.eqv p q = b := by
  unfold eqB at h
  obtain ⟨p, e1, h⟩ := Option.bind_eq_some_iff.mp h
  obtain ⟨q, e2, h⟩ := Option.bind_eq_some_iff.mp h
  split at h
  · rename_i hc
    cases h
    exact ⟨p, q, e1, e2, hc.1, hc.2, rfl⟩
  · cases h
theorem opr_eq {X : Cx} (K : PySem.W.Frag) (hK : X.K = K) (hu : X.A.units + 128 < cLine) : OpR X (compareOp .Eq) (rEqD K) := by subst hK; exact op_eqD (units64 hu)
theorem opr_ne {X : Cx} (K : PySem.W.Frag) (hK : X.K = K) (hu : X.A.units + 128 < cLine) : OpR X (compareOp .NotEq) (rNeD K) := by subst hK; exact op_neD (units64 hu)
theorem op2_eq (W : Wd) : Op2 W (rEqD W.K) eqD := by
  intro RA ρ B H x y d1 d2 d Q b r1 r2 e h
  unfold eqD at e
  obtain ⟨k, e0, rfl⟩ := Option.map_eq_some_iff.mp e
  obtain ⟨p, q, e1, e2, s1, s2, rfl⟩ := eqB_some e0
  exact ⟨p, q, dp_dr b r1 e1, dp_dr b r2 e2, s1, s2, fin_flat b (fun _ => rep_bl) h⟩
theorem op2_ne (W : Wd) : Op2 W (rNeD W.K) neD := by
  intro RA ρ B H x y d1 d2 d Q b r1 r2 e h
  unfold neD at e
  obtain ⟨k, e0, rfl⟩ := Option.map_eq_some_iff.mp e
  obtain ⟨p, q, e1, e2, s1, s2, rfl⟩ := eqB_some e0
  exact ⟨p, q, dp_dr b r1 e1, dp_dr b r2 e2, s1, s2, fin_flat b (fun _ => rep_bl) h⟩
/-- an order of ints -/
def ordD (p : Int → Int → Bool) (ρ : List D) (x y : D) : Option D := match dr ρ x, dr ρ y with
  | .int i, .int j => some (.bl (p i j))
  | _, _ => none
theorem op2_ord (W : Wd) (p : Int → Int → Bool) : Op2 W (rI0 fun i j => .bl (p i j)) (ordD p) := by
  intro RA ρ B H x y d1 d2 d Q b r1 r2 e h
  unfold ordD at e
  split at e
  · rename_i i j e1 e2
    cases e
    rw [view_int b r1 e1, view_int b r2 e2]
    exact ⟨i, j, rfl, rfl, fin_flat b (fun _ => rep_bl) h⟩
  · cases e
abbrev ltD := ordD fun i j => decide (i < j)
abbrev leD := ordD fun i j => decide (i ≤ j)
abbrev gtD := ordD fun i j => decide (j < i)
abbrev geD := ordD fun i j => decide (j ≤ i)
/-- x is None -/
def isnD (ρ : List D) (x y : D) : Option D := match dr ρ y, dr ρ x with
  | .non, .non => some (.bl true)
  | .non, .exn _ _ => none
  | .non, _ => some (.bl false)
  | _, _ => none
def notnD (ρ : List D) (x y : D) : Option D := match dr ρ y, dr ρ x with
  | .non, .non => some (.bl false)
  | .non, .exn _ _ => none
  | .non, _ => some (.bl true)
  | _, _ => none
theorem rep_nonz {W : Wd} {RA : List Addr} {ρ : List D} {B H : Hp} {d : D} {x : V} (b : Base W RA ρ B H) (h : Rep W RA B d x) (h1 : dr ρ d ≠ .non) : x ≠ .non := by
  cases d with
  | rt r =>
    obtain ⟨a, d', rfl, e', ra⟩ := view_rt b h
    intro z; cases z
  | non => exact absurd rfl h1
  | exn _ _ => simp only [Rep] at h; obtain ⟨_, _, rfl, _⟩ := h; intro z; cases z
  | tup _ => simp only [Rep] at h; obtain ⟨_, _, rfl, _⟩ := h; intro z; cases z
  | lst _ => simp only [Rep] at h; obtain ⟨_, _, rfl, _⟩ := h; intro z; cases z
  | scr _ => simp only [Rep] at h; obtain ⟨_, _, rfl, _⟩ := h; intro z; cases z
  | st _ => simp only [Rep] at h; obtain ⟨_, rfl, _⟩ := h; intro z; cases z
  | dct _ _ => simp only [Rep] at h; obtain ⟨_, _, rfl, _⟩ := h; intro z; cases z
  | wd _ _ => simp only [Rep] at h; obtain ⟨_, _, rfl, _⟩ := h; intro z; cases z
  | ins _ _ => simp only [Rep] at h; obtain ⟨_, _, _, rfl, _⟩ := h; intro z; cases z
  | _ => simp only [Rep] at h; subst h; intro z; cases z
theorem op2_isn (W : Wd) : Op2 W rIsNon isnD := by
  intro RA ρ B H x y d1 d2 d Q b r1 r2 e h
  unfold isnD at e
  split at e
  · rename_i e1 e2
    cases e
    rw [view_non b r1 e2, view_non b r2 e1]
    exact ⟨rfl, fin_flat b (fun _ => rep_bl) h⟩
  · cases e
  · rename_i e1 e2 e3
    cases e
    rw [view_non b r2 e1]
    refine ⟨rfl, ?_⟩
    rw [decide_eq_false (rep_nonz b r1 e2)]
    exact fin_flat b (fun _ => rep_bl) h
  · cases e
theorem op2_notn (W : Wd) : Op2 W rNotNon notnD := by
  intro RA ρ B H x y d1 d2 d Q b r1 r2 e h
  unfold notnD at e
  split at e
  · rename_i e1 e2
    cases e
    rw [view_non b r1 e2, view_non b r2 e1]
    exact ⟨rfl, fin_flat b (fun _ => rep_bl) h⟩
  · cases e
  · rename_i e1 e2 e3
    cases e
    rw [view_non b r2 e1]
    refine ⟨rfl, ?_⟩
    rw [decide_eq_false (rep_nonz b r1 e2)]
    exact fin_flat b (fun _ => rep_bl) h
  · cases e
end Dd

set_option Elab.async false
set_option linter.all false
set_option maxRecDepth 100000
set_option maxHeartbeats 2000000
namespace Dd
open PySem PySem.Spec PyProof.Rows L2 Evl OwnO My

/-! ### in -/
def keyD : D → Option L2.Key
  | .int i => some (.inl i)
  | .str s => some (.inr s)
  | _ => none
/-- the value at a key -/
def lookK : List L2.Key → List D → L2.Key → Option D
  | k :: ks, d :: l, j => if k = j then some d else lookK ks l j
  | _, _, _ => none
theorem keyD_V {W : Wd} {RA : List Addr} {ρ : List D} {B H : Hp} {d : D} {x : V} {k : L2.Key} (b : Base W RA ρ B H) (h : Rep W RA B d x) (e : keyD (dr ρ d) = some k) : x = kV k := by
  cases e1 : dr ρ d with
  | int i => rw [e1] at e; cases e; exact view_int b h e1
  | str s => rw [e1] at e; cases e; exact view_str b h e1
  | _ => rw [e1] at e; cases e
theorem lookK_rep {W : Wd} {RA : List Addr} {B : Hp} : ∀ {kvs : List (L2.Key × V)} {l : List D} {k : L2.Key}, RepL W RA B l (kvs.map (·.2)) → (∀ d, lookK (kvs.map (·.1)) l k = some d → ∃ v, valV kvs k = some v ∧ Rep W RA B d v) ∧ (lookK (kvs.map (·.1)) l k = none → valV kvs k = none)
  | [], l, k, h => ⟨fun d e => by simp [lookK] at e, fun _ => rfl⟩
  | (j, v) :: kvs, [], k, h => by have := h.len; simp at this
  | (j, v) :: kvs, d :: l, k, h => by
    obtain ⟨v', us, e, h2, h3⟩ := RepL.uncons (show RepL W RA B (d :: l) (v :: kvs.map (·.2)) from h)
    cases e
    have ih := lookK_rep (k := k) h3
    simp only [List.map_cons, lookK]
    by_cases e : j = k
    · subst e
      simp only [if_true]
      exact ⟨fun d' e' => by cases e'; exact ⟨v, valV_pos rfl, h2⟩, fun e' => by cases e'⟩
    · rw [if_neg e, valV_neg e]
      exact ih
/-- a written dict's value at a key -/
def lookW : List Str → List D → Str → Option D
  | k :: ks, d :: l, j => if k = j then some d else lookW ks l j
  | _, _, _ => none
theorem kent_look {W : Wd} {RA : List Addr} {B : Hp} {z : Str} : ∀ {es : List DictEntry} {ks : List Str} {vs : List V} {l : List D}, KEnt es ks vs → RepL W RA B l vs → ∃ r : Option Value, (match es.find? (·.key.isStr z) with
      | some e => some (some e.val)
      | none => if es.any (·.refKey) then none else some none) = some r ∧ r.isSome = (lookW ks l z).isSome ∧ ∀ d, lookW ks l z = some d → ∃ u v, r = some u ∧ RelV v u ∧ Rep W RA B d v
  | [], [], [], l, _, hl => by
    cases l with
    | nil => exact ⟨none, rfl, rfl, fun d e => by simp [lookW] at e⟩
    | cons _ _ => have := hl.len; simp at this
  | e :: es, k :: ks, v :: vs, l, ⟨⟨t, hk⟩, hv, hr⟩, hl => by
    cases l with
    | nil => have := hl.len; simp at this
    | cons d l =>
      obtain ⟨v', us, e1, h1, h2⟩ := hl.uncons
      cases e1
      obtain ⟨r, ih1, ih2, ih3⟩ := kent_look (z := z) hr h2
      have ek : e.key.isStr z = decide (k = z) := by rw [hk]; show (k == z) = _; by_cases c : k = z <;> simp [c]
      have er : e.refKey = false := by unfold DictEntry.refKey; rw [hk]
      rw [List.find?_cons, ek]
      by_cases c : k = z
      · simp only [c, decide_true]
        refine ⟨some e.val, rfl, by simp [lookW], fun d' e' => ?_⟩
        simp only [lookW, if_true] at e'
        cases e'
        exact ⟨e.val, v, rfl, hv, h1⟩
      · simp only [c, decide_false]
        refine ⟨r, ?_, ?_, ?_⟩
        · rw [List.any_cons, er, Bool.false_or]; exact ih1
        · simp only [lookW, if_neg c]; exact ih2
        · simp only [lookW, if_neg c]; exact ih3
theorem kd_look {W : Wd} {RA : List Addr} {B : Hp} {a : Addr} {ks : List Str} {vs : List V} {l : List D} (z : Str) (h : KDv W.K W.w a ks vs) (hl : RepL W RA B l vs) : ∃ es n r, KDict W.K W.w a es n ∧ PySem.W.nsIn W.K a z = some r ∧ r.isSome = (lookW ks l z).isSome ∧ ∀ d, lookW ks l z = some d → ∃ u v, r = some u ∧ RelV v u ∧ Rep W RA B d v := by
  obtain ⟨es, n, hd, he⟩ := h
  obtain ⟨r, h1, h2, h3⟩ := kent_look (z := z) he hl
  refine ⟨es, n, r, hd, ?_, h2, h3⟩
  unfold PySem.W.nsIn
  rw [hd.at_]
  exact h1
/-- x in y -/
def inB (ρ : List D) (x y : D) : Option Bool := match dr ρ y with
  | .lst l => (toPy (dr ρ x)).bind fun p => (toPyL l).bind fun ps => if SeqAt.shaped p = true ∧ SeqAt.shaped (.list ps) = true then some (ps.any fun z => PyData.eqv z p) else none
  | .tup l => (toPy (dr ρ x)).bind fun p => (toPyL l).bind fun ps => if SeqAt.shaped p = true ∧ SeqAt.shaped (.tuple ps) = true then some (ps.any fun z => PyData.eqv z p) else none
  | .dct ks l => (keyD (dr ρ x)).map fun k => (lookK ks l k).isSome
  | .wd ks l => match dr ρ x with
    | .str s => some (lookW ks l s).isSome
    | _ => none
  | .str z => match dr ρ x with
    | .str s => if s.cps.toList.length = 1 then some (decide (s.cps.toList.getD 0 0 ∈ z.cps.toList)) else none
    | _ => none
  | _ => none
def inD (ρ : List D) (x y : D) : Option D := (inB ρ x y).map .bl
def ninD (ρ : List D) (x y : D) : Option D := (inB ρ x y).map fun b => .bl (!b)
def rInT (K : PySem.W.Frag) (neg : Bool) : R2 := fun x y H Q => ∃ d ds, Dp K H x d ∧ Dp K H y (.tuple ds) ∧ SeqAt.shaped d = true ∧ SeqAt.shaped (.tuple ds) = true ∧ Q (.bl (if neg = true then !(ds.any fun z => PyData.eqv z d) else ds.any fun z => PyData.eqv z d)) H
def rInDct (neg : Bool) : R2 := fun x y H Q => ∃ a o, y = .ref a ∧ DGet H a x o ∧ Q (.bl (if neg = true then !o.isSome else o.isSome)) H
def rInSig (neg : Bool) : R2 := fun x y H Q => ∃ (c : Nat) (z : Str), x = .str ⟨#[c]⟩ ∧ y = .str z ∧ Q (.bl (if neg = true then !decide (c ∈ z.cps.toList) else decide (c ∈ z.cps.toList))) H
section
variable {X : Cx}
theorem op_inT (hu : X.A.units + 128 < cLine) : OpR X (compareOp .In) (rInT X.K false) := by
  intro pins s σ H x y v u Q I rx ry h
  obtain ⟨d, ds, hd, he, sd, se, q⟩ := h
  obtain ⟨as, r1⟩ := Dp.reads I d x v hd rx
  obtain ⟨bs, r2⟩ := Dp.reads I (.tuple ds) y u he ry
  exact SeqAt.in_tuple_reads r2 r1 (SeqAt.canLay_of_shaped se) (SeqAt.canLay_of_shaped sd) (room_in_shaped sd (units65 hu)) ⟨.bl _, H, I, rfl, q⟩
theorem op_ninT (hu : X.A.units + 128 < cLine) : OpR X (compareOp .NotIn) (rInT X.K true) := by
  intro pins s σ H x y v u Q I rx ry h
  obtain ⟨d, ds, hd, he, sd, se, q⟩ := h
  obtain ⟨as, r1⟩ := Dp.reads I d x v hd rx
  obtain ⟨bs, r2⟩ := Dp.reads I (.tuple ds) y u he ry
  exact SeqAt.notIn_tuple_reads r2 r1 (SeqAt.canLay_of_shaped se) (SeqAt.canLay_of_shaped sd) (room_in_shaped sd (units65 hu)) ⟨.bl _, H, I, rfl, q⟩
theorem op_inDct (hu : X.A.units + 128 < cLine) : OpR X (compareOp .In) (rInDct false) := by
  intro pins s σ H x y v u Q I rx ry h
  obtain ⟨a, o, rfl, g, q⟩ := h
  cases ry
  exact d_in (by omega) I g rx fun s' I' => ⟨.bl _, H, I', rfl, q⟩
theorem op_ninDct (hu : X.A.units + 128 < cLine) : OpR X (compareOp .NotIn) (rInDct true) := by
  intro pins s σ H x y v u Q I rx ry h
  obtain ⟨a, o, rfl, g, q⟩ := h
  cases ry
  exact d_notIn (by omega) I g rx fun s' I' => ⟨.bl _, H, I', rfl, q⟩
end
def rInK (K : PySem.W.Frag) (w : World) (neg : Bool) : R2 := fun x y H Q => ∃ (d : Addr) (es : Array DictEntry) (n : Nat) (z : Str) (r : Option Value), KDict K w d es n ∧ x = .str z ∧ y = .ref d ∧ PySem.W.nsIn K d z = some r ∧ Q (.bl (if neg = true then !r.isSome else r.isSome)) H
theorem op_inK {X : Cx} : OpR X (compareOp .In) (rInK X.K X.w false) := fun pins s σ H x y v u Q I rx ry ⟨d, es, n, z, r, D, ex, ey, e, q⟩ => op_in_kd D pins s σ H x y v u Q I rx ry ⟨z, r, ex, ey, e, q⟩
theorem op_ninK {X : Cx} : OpR X (compareOp .NotIn) (rInK X.K X.w true) := fun pins s σ H x y v u Q I rx ry ⟨d, es, n, z, r, D, ex, ey, e, q⟩ => op_notIn_kd D pins s σ H x y v u Q I rx ry ⟨z, r, ex, ey, e, q⟩
def rInA (K : PySem.W.Frag) (w : World) : R2 := fun x y H Q => rInD K x y H Q ∨ rInT K false x y H Q ∨ rInDct false x y H Q ∨ rInSig false x y H Q ∨ rInK K w false x y H Q
def rNinA (K : PySem.W.Frag) (w : World) : R2 := fun x y H Q => rNotInD K x y H Q ∨ rInT K true x y H Q ∨ rInDct true x y H Q ∨ rInSig true x y H Q ∨ rInK K w true x y H Q
theorem opr_in {X : Cx} (K : PySem.W.Frag) (w : World) (hK : X.K = K) (hw : X.w = w) (hu : X.A.units + 128 < cLine) : OpR X (compareOp .In) (rInA K w) := by subst hK hw; exact (op_inD (units65 hu)).or ((op_inT hu).or ((op_inDct hu).or (op_in_sign.or op_inK)))
theorem opr_nin {X : Cx} (K : PySem.W.Frag) (w : World) (hK : X.K = K) (hw : X.w = w) (hu : X.A.units + 128 < cLine) : OpR X (compareOp .NotIn) (rNinA K w) := by subst hK hw; exact (op_notInD (units65 hu)).or ((op_ninT hu).or ((op_ninDct hu).or (op_notIn_sign.or op_ninK)))
theorem one_sign {s : Str} (h : s.cps.toList.length = 1) : s = ⟨#[s.cps.toList.getD 0 0]⟩ := by
  cases s with
  | mk a =>
    cases a with
    | mk l =>
      cases l with
      | nil => simp at h
      | cons c l => cases l with
        | nil => rfl
        | cons _ _ => simp at h
theorem dp_lst {W : Wd} {RA : List Addr} {ρ : List D} {B H : Hp} {d : D} {y : V} {l : List D} {ps : List PyData} (b : Base W RA ρ B H) (h : Rep W RA B d y) (e : dr ρ d = .lst l) (e2 : toPyL l = some ps) : Dp W.K H y (.list ps) :=
  dp_dr b h (by rw [e]; simp only [toPy, e2, Option.map_some])
theorem dp_tup {W : Wd} {RA : List Addr} {ρ : List D} {B H : Hp} {d : D} {y : V} {l : List D} {ps : List PyData} (b : Base W RA ρ B H) (h : Rep W RA B d y) (e : dr ρ d = .tup l) (e2 : toPyL l = some ps) : Dp W.K H y (.tuple ps) :=
  dp_dr b h (by rw [e]; simp only [toPy, e2, Option.map_some])
theorem inB_run {W : Wd} {RA : List Addr} {ρ : List D} {B H : Hp} {d1 d2 : D} {x y : V} {k : Bool} (b : Base W RA ρ B H) (r1 : Rep W RA B d1 x) (r2 : Rep W RA B d2 y) (e : inB ρ d1 d2 = some k) {Q : VK} :
    (Q (.bl k) H → rInA W.K W.w x y H Q) ∧ (Q (.bl (!k)) H → rNinA W.K W.w x y H Q) := by
  unfold inB at e
  split at e
  · rename_i l e1
    obtain ⟨p, ep, e⟩ := Option.bind_eq_some_iff.mp e
    obtain ⟨ps, eps, e⟩ := Option.bind_eq_some_iff.mp e
    split at e
    · rename_i hc
      cases e
      exact ⟨fun q => .inl ⟨p, ps, dp_dr b r1 ep, dp_lst b r2 e1 eps, hc.1, hc.2, q⟩, fun q => .inl ⟨p, ps, dp_dr b r1 ep, dp_lst b r2 e1 eps, hc.1, hc.2, q⟩⟩
    · cases e
  · rename_i l e1
    obtain ⟨p, ep, e⟩ := Option.bind_eq_some_iff.mp e
    obtain ⟨ps, eps, e⟩ := Option.bind_eq_some_iff.mp e
    split at e
    · rename_i hc
      cases e
      exact ⟨fun q => .inr (.inl ⟨p, ps, dp_dr b r1 ep, dp_tup b r2 e1 eps, hc.1, hc.2, q⟩), fun q => .inr (.inl ⟨p, ps, dp_dr b r1 ep, dp_tup b r2 e1 eps, hc.1, hc.2, q⟩)⟩
    · cases e
  · rename_i ks l e1
    obtain ⟨k', ek, rfl⟩ := Option.map_eq_some_iff.mp e
    obtain ⟨a, kvs, rfl, ha, rfl, hl⟩ := view_dct b r2 e1
    rw [keyD_V b r1 ek]
    have g : DGet H a (kV k') (valV kvs k') := DGet.k ha
    have es : (valV kvs k').isSome = (lookK (kvs.map (·.1)) l k').isSome := by
      have q := lookK_rep (k := k') hl
      cases el : lookK (kvs.map (·.1)) l k' with
      | none => rw [q.2 el]; rfl
      | some d =>
        obtain ⟨v, hv, _⟩ := q.1 d el
        rw [hv]; rfl
    rw [← es]
    exact ⟨fun q => .inr (.inr (.inl ⟨a, _, rfl, g, q⟩)), fun q => .inr (.inr (.inl ⟨a, _, rfl, g, q⟩))⟩
  · rename_i ks l e1
    split at e
    · rename_i s e2
      cases e
      obtain ⟨a, vs, rfl, hd, hl⟩ := view_wd b r2 e1
      rw [view_str b r1 e2]
      obtain ⟨es, n, r, D, hn, hs, _⟩ := kd_look s hd hl
      rw [← hs]
      exact ⟨fun q => .inr (.inr (.inr (.inr ⟨a, es, n, s, r, D, rfl, rfl, hn, q⟩))), fun q => .inr (.inr (.inr (.inr ⟨a, es, n, s, r, D, rfl, rfl, hn, q⟩)))⟩
    · cases e
  · rename_i z e1
    split at e
    · rename_i s e2
      split at e
      · rename_i hc
        cases e
        rw [view_str b r1 e2, view_str b r2 e1]
        exact ⟨fun q => .inr (.inr (.inr (.inl ⟨_, z, congrArg V.str (one_sign hc), rfl, q⟩))), fun q => .inr (.inr (.inr (.inl ⟨_, z, congrArg V.str (one_sign hc), rfl, q⟩)))⟩
      · cases e
    · cases e
  · cases e
theorem op2_in (W : Wd) : Op2 W (rInA W.K W.w) inD := by
  intro RA ρ B H x y d1 d2 d Q b r1 r2 e h
  unfold inD at e
  obtain ⟨k, e0, rfl⟩ := Option.map_eq_some_iff.mp e
  exact (inB_run b r1 r2 e0).1 (fin_flat b (fun _ => rep_bl) h)
theorem op2_nin (W : Wd) : Op2 W (rNinA W.K W.w) ninD := by
  intro RA ρ B H x y d1 d2 d Q b r1 r2 e h
  unfold ninD at e
  obtain ⟨k, e0, rfl⟩ := Option.map_eq_some_iff.mp e
  exact (inB_run b r1 r2 e0).2 (fin_flat b (fun _ => rep_bl) h)

/-! ### x[i] -/
def ixD (ρ : List D) (x y : D) : Option D := match dr ρ x with
  | .lst l => match dr ρ y with
    | .int i => atI l i
    | _ => none
  | .scr l => match dr ρ y with
    | .int i => atI l i
    | _ => none
  | .tup l => match dr ρ y with
    | .int i => atI l i
    | _ => none
  | .str z => match dr ρ y with
    | .int i => if z.length ≤ 100000 then (atI z.cps.toList i).map fun c => .str ⟨#[c]⟩ else none
    | _ => none
  | .dct ks l => (keyD (dr ρ y)).bind fun k => lookK ks l k
  | .wd ks l => match dr ρ y with
    | .str s => lookW ks l s
    | _ => none
  | _ => none
def rIxDct : R2 := fun x y H Q => ∃ a v, x = .ref a ∧ DGet H a y (some v) ∧ Q v H
theorem ix_dct {X : Cx} (hu : X.A.units + 128 < cLine) : IxR X rIxDct := by
  intro value slice pins s σ H x y v u Q I rx ry h hs
  obtain ⟨a, w, rfl, g, q⟩ := h
  cases rx
  exact tail_any (dict_typeIs I g) slot_dict_getitem.lookup (d_getItem (by omega) I g ry fun w' s' I' r => ⟨w, H, I', r, q⟩) hs
def rIxK (K : PySem.W.Frag) (w : World) : R2 := fun x y H Q => ∃ (d : Addr) (es : Array DictEntry) (n : Nat) (z : Str) (u0 : Value) (v0 : V), KDict K w d es n ∧ x = .ref d ∧ y = .str z ∧ PySem.W.nsIn K d z = some (some u0) ∧ RelV v0 u0 ∧ Q v0 H
theorem ix_K {X : Cx} : IxR X (rIxK X.K X.w) := by
  intro value slice pins s σ H x y v u Q I rx ry h hs
  obtain ⟨d, es, n, z, u0, v0, D, rfl, rfl, hn, r, q⟩ := h
  have rx' := rx
  cases rx
  exact tail_any (kd_type D I) slot_dict_getitem.lookup (op_item_kd D pins s σ H (.ref d) (.str z) (.ref d) u Q I rx' ry ⟨z, u0, v0, rfl, rfl, hn, r, q⟩) hs
def rIxA (K : PySem.W.Frag) (w : World) : R2 := fun x y H Q => rIxL K x y H Q ∨ rIxT K x y H Q ∨ rIxS x y H Q ∨ rIxDct x y H Q ∨ rIxK K w x y H Q
theorem ixr_all {X : Cx} (K : PySem.W.Frag) (w : World) (hK : X.K = K) (hw : X.w = w) (hu : X.A.units + 128 < cLine) : IxR X (rIxA K w) := by subst hK hw; exact ix_list.or (ix_tup.or (ix_str.or ((ix_dct hu).or ix_K)))
theorem atI_rep {W : Wd} {RA : List Addr} {B : Hp} {l : List D} {vs : List V} {i : Int} {d : D} (h : RepL W RA B l vs) (e : atI l i = some d) : ∃ v, atI vs i = some v ∧ Rep W RA B d v := by
  unfold atI at e ⊢
  rw [← h.len]
  obtain ⟨j, e1, e2⟩ := Option.bind_eq_some_iff.mp e
  obtain ⟨v, h1, h2⟩ := h.get e2
  exact ⟨v, by rw [e1]; exact h1, h2⟩
theorem op2_ix (W : Wd) : Op2 W (rIxA W.K W.w) ixD := by
  intro RA ρ B H x y d1 d2 d Q b r1 r2 e h
  unfold ixD at e
  split at e
  · rename_i l e1
    split at e
    · rename_i i e2
      obtain ⟨a, vs, rfl, ha, la⟩ := view_lst b r1 e1
      rw [view_int b r2 e2]
      obtain ⟨v, h1, h2⟩ := atI_rep la e
      exact .inl ⟨a, vs, i, v, rfl, rfl, sq_of ha, h1, h v B H (.refl b) h2⟩
    · cases e
  · rename_i l e1
    split at e
    · rename_i i e2
      obtain ⟨a, vs, rfl, ha, la⟩ := view_scr b r1 e1
      rw [view_int b r2 e2]
      obtain ⟨v, h1, h2⟩ := atI_rep la e
      exact .inl ⟨a, vs, i, v, rfl, rfl, ha, h1, h v B H (.refl b) h2⟩
    · cases e
  · rename_i l e1
    split at e
    · rename_i i e2
      obtain ⟨a, vs, rfl, ha, la⟩ := view_tup b r1 e1
      rw [view_int b r2 e2]
      obtain ⟨v, h1, h2⟩ := atI_rep la e
      exact .inr (.inl ⟨a, vs, i, v, rfl, rfl, ha, h1, h v B H (.refl b) h2⟩)
    · cases e
  · rename_i z e1
    split at e
    · rename_i i e2
      split at e
      · rename_i hz
        obtain ⟨c, e3, rfl⟩ := Option.map_eq_some_iff.mp e
        rw [view_str b r1 e1, view_int b r2 e2]
        exact .inr (.inr (.inl ⟨z, i, c, rfl, rfl, sz_of hz, e3, fin_flat b (fun _ => rep_str) h⟩))
      · cases e
    · cases e
  · rename_i ks l e1
    obtain ⟨k, e2, e3⟩ := Option.bind_eq_some_iff.mp e
    obtain ⟨a, kvs, rfl, ha, rfl, hl⟩ := view_dct b r1 e1
    rw [keyD_V b r2 e2]
    obtain ⟨v, h1, h2⟩ := (lookK_rep (k := k) hl).1 d e3
    exact .inr (.inr (.inr (.inl ⟨a, v, rfl, by rw [← h1]; exact DGet.k ha, h v B H (.refl b) h2⟩)))
  · rename_i ks l e1
    split at e
    · rename_i s e2
      obtain ⟨a, vs, rfl, hd, hl⟩ := view_wd b r1 e1
      rw [view_str b r2 e2]
      obtain ⟨es, n, r, D, hn, _, hs⟩ := kd_look s hd hl
      obtain ⟨u, v, rfl, ru, rv⟩ := hs d e
      exact .inr (.inr (.inr (.inr ⟨a, es, n, s, u, v, D, rfl, rfl, hn, ru, h v B H (.refl b) rv⟩)))
    · cases e
  · cases e
end Dd

set_option Elab.async false
set_option linter.all false
set_option maxRecDepth 100000
set_option maxHeartbeats 2000000
namespace Dd
open PySem PySem.Spec PyProof.Rows L2 Evl OwnO My

def intsD : List D → Option (List Int)
  | [] => some []
  | .int i :: l => (intsD l).map fun r => i :: r
  | _ :: _ => none
def strsD : List D → Option (List Str)
  | [] => some []
  | .str i :: l => (strsD l).map fun r => i :: r
  | _ :: _ => none
def blsD : List D → Option (List Bool)
  | [] => some []
  | .bl i :: l => (blsD l).map fun r => i :: r
  | _ :: _ => none
section
variable {W : Wd} {RA : List Addr} {ρ : List D} {B H : Hp}
theorem ints_V : ∀ {l : List D} {vs : List V} {ns : List Int}, RepL W RA B l vs → intsD l = some ns → vs = ns.map V.int
  | [], vs, ns, h, e => by cases e; rw [h.unnil]; rfl
  | d :: l, vs, ns, h, e => by
    obtain ⟨v, us, rfl, h2, h3⟩ := h.uncons
    cases d with
    | int i =>
      simp only [intsD] at e
      obtain ⟨r, e1, rfl⟩ := Option.map_eq_some_iff.mp e
      simp only [Rep] at h2
      rw [h2, ints_V h3 e1]; rfl
    | _ => simp only [intsD] at e; cases e
theorem strs_V : ∀ {l : List D} {vs : List V} {ns : List Str}, RepL W RA B l vs → strsD l = some ns → vs = ns.map V.str
  | [], vs, ns, h, e => by cases e; rw [h.unnil]; rfl
  | d :: l, vs, ns, h, e => by
    obtain ⟨v, us, rfl, h2, h3⟩ := h.uncons
    cases d with
    | str i =>
      simp only [strsD] at e
      obtain ⟨r, e1, rfl⟩ := Option.map_eq_some_iff.mp e
      simp only [Rep] at h2
      rw [h2, strs_V h3 e1]; rfl
    | _ => simp only [strsD] at e; cases e
theorem bls_V : ∀ {l : List D} {vs : List V} {ns : List Bool}, RepL W RA B l vs → blsD l = some ns → vs = ns.map V.bl
  | [], vs, ns, h, e => by cases e; rw [h.unnil]; rfl
  | d :: l, vs, ns, h, e => by
    obtain ⟨v, us, rfl, h2, h3⟩ := h.uncons
    cases d with
    | bl i =>
      simp only [blsD] at e
      obtain ⟨r, e1, rfl⟩ := Option.map_eq_some_iff.mp e
      simp only [Rep] at h2
      rw [h2, bls_V h3 e1]; rfl
    | _ => simp only [blsD] at e; cases e
theorem repL_ints : ∀ ns : List Int, RepL W RA B (ns.map .int) (ns.map V.int)
  | [] => .nil
  | n :: ns => .cons rep_int (repL_ints ns)
theorem repL_strs : ∀ ns : List Str, RepL W RA B (ns.map .str) (ns.map V.str)
  | [] => .nil
  | n :: ns => .cons rep_str (repL_strs ns)
end

/-! ### truth, len -/
def truthB (ρ : List D) (d : D) : Option Bool := match dr ρ d with
  | .non => some false
  | .bl b => some b
  | .int i => some (i != 0)
  | .str s => if s.length ≤ 100000 then some ((s.length : Int) != 0) else none
  | .lst l => some (!l.isEmpty)
  | .scr l => some (!l.isEmpty)
  | .tup l => some (!l.isEmpty)
  | .dct ks _ => some (!ks.isEmpty)
  | _ => none
theorem repL_empty {W : Wd} {RA : List Addr} {B : Hp} {l : List D} {vs : List V} (h : RepL W RA B l vs) : (!vs.isEmpty) = !l.isEmpty := by
  cases l with
  | nil => rw [h.unnil]; rfl
  | cons d l => obtain ⟨v, us, rfl, _⟩ := h.uncons; rfl
theorem truth_V {W : Wd} {RA : List Addr} {ρ : List D} {B H : Hp} {d : D} {x : V} {k : Bool} (b : Base W RA ρ B H) (h : Rep W RA B d x) (e : truthB ρ d = some k) : TruV W.K x H k := by
  unfold truthB at e
  split at e
  · rename_i e1; cases e; rw [view_non b h e1]; rfl
  · rename_i e1; cases e; rw [view_bl b h e1]; rfl
  · rename_i e1; cases e; rw [view_int b h e1]; rfl
  · rename_i e1
    split at e
    · rename_i hz; cases e; rw [view_str b h e1]; exact ⟨sz_of hz, rfl⟩
    · cases e
  · rename_i e1; cases e; obtain ⟨a, vs, rfl, ha, la⟩ := view_lst b h e1; exact .inl ⟨vs, sq_of ha, (repL_empty la).symm⟩
  · rename_i e1; cases e; obtain ⟨a, vs, rfl, ha, la⟩ := view_scr b h e1; exact .inl ⟨vs, ha, (repL_empty la).symm⟩
  · rename_i e1; cases e; obtain ⟨a, vs, rfl, ha, la⟩ := view_tup b h e1; exact .inr (.inl ⟨vs, ha, (repL_empty la).symm⟩)
  · rename_i e1
    cases e
    obtain ⟨a, kvs, rfl, ha, e2, _⟩ := view_dct b h e1
    refine .inr (.inr ⟨kvs, ha, ?_⟩)
    rw [← e2]; cases kvs <;> rfl
  · cases e
def testS (f : EF) : List D → Env → Res Bool := fun ρ σ => (f ρ σ).bind fun d => ofO (truthB ρ d)
section
variable {W : Wd} {Wx : WX} {X : Cx} {a : Expr} {f : EF} {pos : Pos}
/-- any expression as a test -/
theorem pt_of (hK : X.K = W.K) (ha : PE X a (tE W Wx f)) (he : ∀ whole, isTrue a X.env whole = (do let v ← whole; standAt a.pos; holding [v] (truthy v))) : PT X a (tT W Wx (testS f)) :=
  pt_weak (pt_truth ha he) fun σ H Q ⟨RA, ρ, σd, B, b, l, q⟩ => ⟨RA, ρ, σd, B, b, l, (Aw.bind q).imp fun d B1 H1 a1 q1 x rx => by
    cases e : truthB ρ d with
    | none => simp only [e, ofO, Aw] at q1
    | some k =>
      simp only [e, ofO] at q1
      exact ⟨k, by rw [hK]; exact truth_V a1.base rx e, q1.here a1.base⟩⟩
end
def lenD (ρ : List D) (xs : List D) : Option D := match xs with
  | [d] => match dr ρ d with
    | .lst l => some (.int l.length)
    | .scr l => some (.int l.length)
    | .tup l => some (.int l.length)
    | .str s => if s.length ≤ 100000 then some (.int s.length) else none
    | .dct ks _ => some (.int ks.length)
    | _ => none
  | _ => none
def rLenA (K : PySem.W.Frag) : List V → Hp → VK → Prop := fun xs H Q => (∃ x n, xs = [x] ∧ LenV K x H n ∧ Q (.int n) H) ∨ ∃ a kvs, xs = [.ref a] ∧ H a = some (.dK kvs) ∧ Q (.int kvs.length) H
theorem call_lenDct {X : Cx} : CallR X (.builtin "len") (fun xs H Q => ∃ a kvs, xs = [.ref a] ∧ H a = some (.dK kvs) ∧ Q (.int kvs.length) H) := by
  intro pins s σ H xs us Q I r h
  obtain ⟨a, kvs, rfl, ha, q⟩ := h
  rw [Vals.ref1 r]
  exact d_len I (.inl ha) fun t s' I' => ⟨.int _, H, I', ⟨t, rfl⟩, q⟩
theorem callr_len {X : Cx} (K : PySem.W.Frag) (hK : X.K = K) : CallR X (.builtin "len") (rLenA K) := by subst hK; exact call_len.or call_lenDct
theorem one_of {W : Wd} {RA : List Addr} {B : Hp} {d : D} {xs : List V} (r : RepL W RA B [d] xs) : ∃ x, xs = [x] ∧ Rep W RA B d x := by
  obtain ⟨x, us, rfl, rx, ru⟩ := r.uncons
  rw [ru.unnil]
  exact ⟨x, rfl, rx⟩
theorem two_of {W : Wd} {RA : List Addr} {B : Hp} {d e : D} {xs : List V} (r : RepL W RA B [d, e] xs) : ∃ x y, xs = [x, y] ∧ Rep W RA B d x ∧ Rep W RA B e y := by
  obtain ⟨x, us, rfl, rx, ru⟩ := r.uncons
  obtain ⟨y, rfl, ry⟩ := one_of ru
  exact ⟨x, y, rfl, rx, ry⟩
theorem opc_len (W : Wd) : OpC W (rLenA W.K) lenD := by
  intro RA ρ B H xs ds d Q b r e h
  unfold lenD at e
  split at e
  · obtain ⟨x, rfl, rx⟩ := one_of r
    split at e
    · rename_i e1; cases e; obtain ⟨a, vs, rfl, ha, la⟩ := view_lst b rx e1; exact .inl ⟨_, _, rfl, .inl ⟨vs, sq_of ha, la.len⟩, fin_flat b (fun _ => rep_int) h⟩
    · rename_i e1; cases e; obtain ⟨a, vs, rfl, ha, la⟩ := view_scr b rx e1; exact .inl ⟨_, _, rfl, .inl ⟨vs, ha, la.len⟩, fin_flat b (fun _ => rep_int) h⟩
    · rename_i e1; cases e; obtain ⟨a, vs, rfl, ha, la⟩ := view_tup b rx e1; exact .inl ⟨_, _, rfl, .inr ⟨vs, ha, la.len⟩, fin_flat b (fun _ => rep_int) h⟩
    · rename_i e1
      split at e
      · rename_i hz; cases e; rw [view_str b rx e1]; exact .inl ⟨_, _, rfl, ⟨sz_of hz, rfl⟩, fin_flat b (fun _ => rep_int) h⟩
      · cases e
    · rename_i e1
      cases e
      obtain ⟨a, kvs, rfl, ha, e2, _⟩ := view_dct b rx e1
      exact .inr ⟨a, kvs, rfl, ha, fin_flat b (fun _ => by rw [← e2, List.length_map]; exact rep_int) h⟩
    · cases e
  · cases e

/-! ### int, str, max, min, sum, any, all, list, tuple -/
def intC (ρ : List D) (xs : List D) : Option D := match xs with
  | [d] => match dr ρ d with
    | .int i => some (.int i)
    | .bl k => some (.int (if k = true then 1 else 0))
    | .str s => if s.length ≤ 640 then (PySem.intText? s).map .int else none
    | _ => none
  | _ => none
def rIntA : List V → Hp → VK → Prop := fun xs H Q => ((∃ i, xs = [.int i] ∧ Q (.int i) H) ∨ ∃ k, xs = [.bl k] ∧ Q (.int (if k then 1 else 0)) H) ∨ ∃ a n, xs = [.str a] ∧ PySem.intText? a = some n ∧ a.length ≤ 640 ∧ Q (.int n) H
theorem callr_int {X : Cx} : CallR X (.type "int") rIntA := call_int1.or call_int_str
theorem opc_int (W : Wd) : OpC W rIntA intC := by
  intro RA ρ B H xs ds d Q b r e h
  unfold intC at e
  split at e
  · obtain ⟨x, rfl, rx⟩ := one_of r
    split at e
    · rename_i e1; cases e; rw [view_int b rx e1]; exact .inl (.inl ⟨_, rfl, fin_flat b (fun _ => rep_int) h⟩)
    · rename_i e1; cases e; rw [view_bl b rx e1]; exact .inl (.inr ⟨_, rfl, fin_flat b (fun _ => rep_int) h⟩)
    · rename_i e1
      split at e
      · rename_i hz
        obtain ⟨n, e2, rfl⟩ := Option.map_eq_some_iff.mp e
        rw [view_str b rx e1]
        exact .inr ⟨_, n, rfl, e2, hz, fin_flat b (fun _ => rep_int) h⟩
      · cases e
    · cases e
  · cases e
def strC (ρ : List D) (xs : List D) : Option D := match xs with
  | [d] => match dr ρ d with
    | .int i => if i.natAbs.log2 < 1920 then some (.str (toString i)) else none
    | .str s => some (.str s)
    | _ => none
  | _ => none
def rStrA : List V → Hp → VK → Prop := fun xs H Q => (∃ i, xs = [.int i] ∧ i.natAbs.log2 < 1920 ∧ Q (.str (toString i)) H) ∨ ∃ a, xs = [.str a] ∧ Q (.str a) H
theorem callr_str {X : Cx} : CallR X (.type "str") rStrA := call_str_int.or SkE.call_str_str
theorem opc_str (W : Wd) : OpC W rStrA strC := by
  intro RA ρ B H xs ds d Q b r e h
  unfold strC at e
  split at e
  · obtain ⟨x, rfl, rx⟩ := one_of r
    split at e
    · rename_i e1
      split at e
      · rename_i hz; cases e; rw [view_int b rx e1]; exact .inl ⟨_, rfl, hz, fin_flat b (fun _ => rep_str) h⟩
      · cases e
    · rename_i e1; cases e; rw [view_str b rx e1]; exact .inr ⟨_, rfl, fin_flat b (fun _ => rep_str) h⟩
    · cases e
  · cases e
/-- max, min: two ints; a list of ints -/
def mxC (gt : Int → Int → Bool) (ρ : List D) (xs : List D) : Option D := match xs with
  | [c, d] => match dr ρ c, dr ρ d with
    | .int i, .int j => some (.int (if gt j i = true then j else i))
    | _, _ => none
  | [d] => match dr ρ d with
    | .lst l => (intsD l).bind fun ns => match ns with
      | [] => none
      | n :: ns => some (.int (ns.foldl (fun a b => if gt b a = true then b else a) n))
    | _ => none
  | _ => none
abbrev maxC := mxC fun j i => decide (j > i)
abbrev minC := mxC fun j i => decide (j < i)
def rMaxA (K : PySem.W.Frag) : List V → Hp → VK → Prop := fun xs H Q => (∃ i j, xs = [.int i, .int j] ∧ Q (.int (if j > i then j else i)) H) ∨ rMax K xs H Q
def rMinA (K : PySem.W.Frag) : List V → Hp → VK → Prop := fun xs H Q => (∃ i j, xs = [.int i, .int j] ∧ Q (.int (if j < i then j else i)) H) ∨ rMin K xs H Q
theorem callr_max {X : Cx} (K : PySem.W.Frag) (hK : X.K = K) (hc : X.calm = true) : CallR X (.builtin "max") (rMaxA K) := by subst hK; exact (call_max2 hc).or (cr_max hc)
theorem callr_min {X : Cx} (K : PySem.W.Frag) (hK : X.K = K) (hc : X.calm = true) : CallR X (.builtin "min") (rMinA K) := by subst hK; exact (call_min2 hc).or (cr_min hc)
theorem fold_max : ∀ (ns : List Int) (n m : Int), m ∈ n :: ns → (∀ y, y ∈ n :: ns → y ≤ m) → ns.foldl (fun a b => if decide (b > a) = true then b else a) n = m
  | [], n, m, h, k => by simp at h; simp [h]
  | x :: ns, n, m, h, k => by
    rw [List.foldl_cons]
    refine fold_max ns _ m ?_ fun y hy => ?_
    · have h1 := k n (by simp)
      have h2 := k x (by simp)
      simp only [List.mem_cons] at h ⊢
      rcases h with h | h | h
      · subst h
        by_cases e : x > m
        · omega
        · simp [e]
      · subst h
        by_cases e : m > n
        · simp [e]
        · left; simp [e]; omega
      · exact .inr h
    · simp only [List.mem_cons] at hy
      rcases hy with h | h
      · rw [h]; split
        · exact k x (by simp)
        · exact k n (by simp)
      · exact k y (by simp [h])
theorem fold_min : ∀ (ns : List Int) (n m : Int), m ∈ n :: ns → (∀ y, y ∈ n :: ns → m ≤ y) → ns.foldl (fun a b => if decide (b < a) = true then b else a) n = m
  | [], n, m, h, k => by simp at h; simp [h]
  | x :: ns, n, m, h, k => by
    rw [List.foldl_cons]
    refine fold_min ns _ m ?_ fun y hy => ?_
    · have h1 := k n (by simp)
      have h2 := k x (by simp)
      simp only [List.mem_cons] at h ⊢
      rcases h with h | h | h
      · subst h
        by_cases e : x < m
        · omega
        · simp [e]
      · subst h
        by_cases e : m < n
        · simp [e]
        · left; simp [e]; omega
      · exact .inr h
    · simp only [List.mem_cons] at hy
      rcases hy with h | h
      · rw [h]; split
        · exact k x (by simp)
        · exact k n (by simp)
      · exact k y (by simp [h])
theorem opc_max (W : Wd) : OpC W (rMaxA W.K) maxC := by
  intro RA ρ B H xs ds d Q b r e h
  unfold maxC mxC at e
  split at e
  · obtain ⟨x, y, rfl, rx, ry⟩ := two_of r
    split at e
    · rename_i i j e1 e2
      cases e
      rw [view_int b rx e1, view_int b ry e2]
      refine .inl ⟨_, _, rfl, ?_⟩
      refine fin_flat b (d := .int (if decide (j > i) = true then j else i)) (fun _ => ?_) h
      simp only [decide_eq_true_eq]; exact rep_int
    · cases e
  · obtain ⟨x, rfl, rx⟩ := one_of r
    split at e
    · rename_i l e1
      obtain ⟨ns, e2, e⟩ := Option.bind_eq_some_iff.mp e
      obtain ⟨a, vs, rfl, ha, la⟩ := view_lst b rx e1
      have ev := ints_V la e2
      subst ev
      cases ns with
      | nil => cases e
      | cons n ns =>
        cases e
        refine .inr ⟨a, n :: ns, rfl, sq_of ha, by simp, fun m hm hk => ?_⟩
        rw [fold_max ns n m hm hk] at h
        exact fin_flat b (fun _ => rep_int) h
    · cases e
  · cases e
theorem opc_min (W : Wd) : OpC W (rMinA W.K) minC := by
  intro RA ρ B H xs ds d Q b r e h
  unfold minC mxC at e
  split at e
  · obtain ⟨x, y, rfl, rx, ry⟩ := two_of r
    split at e
    · rename_i i j e1 e2
      cases e
      rw [view_int b rx e1, view_int b ry e2]
      refine .inl ⟨_, _, rfl, ?_⟩
      refine fin_flat b (d := .int (if decide (j < i) = true then j else i)) (fun _ => ?_) h
      simp only [decide_eq_true_eq]; exact rep_int
    · cases e
  · obtain ⟨x, rfl, rx⟩ := one_of r
    split at e
    · rename_i l e1
      obtain ⟨ns, e2, e⟩ := Option.bind_eq_some_iff.mp e
      obtain ⟨a, vs, rfl, ha, la⟩ := view_lst b rx e1
      have ev := ints_V la e2
      subst ev
      cases ns with
      | nil => cases e
      | cons n ns =>
        cases e
        refine .inr ⟨a, n :: ns, rfl, sq_of ha, by simp, fun m hm hk => ?_⟩
        rw [fold_min ns n m hm hk] at h
        exact fin_flat b (fun _ => rep_int) h
    · cases e
  · cases e
def sumC (ρ : List D) (xs : List D) : Option D := match xs with
  | [d] => match dr ρ d with
    | .lst l => (intsD l).map fun ns => .int ns.sum
    | _ => none
  | _ => none
def anyC (ρ : List D) (xs : List D) : Option D := match xs with
  | [d] => match dr ρ d with
    | .lst l => (blsD l).map fun ns => .bl (ns.any id)
    | _ => none
  | _ => none
def allC (ρ : List D) (xs : List D) : Option D := match xs with
  | [d] => match dr ρ d with
    | .lst l => (blsD l).map fun ns => .bl (ns.all id)
    | _ => none
  | _ => none
theorem callr_sum {X : Cx} (K : PySem.W.Frag) (hK : X.K = K) (hc : X.calm = true) : CallR X (.builtin "sum") (rSum K) := by subst hK; exact cr_sum hc
theorem callr_any {X : Cx} (K : PySem.W.Frag) (hK : X.K = K) (hc : X.calm = true) : CallR X (.builtin "any") (rAny K) := by subst hK; exact cr_any hc
theorem callr_all {X : Cx} (K : PySem.W.Frag) (hK : X.K = K) (hc : X.calm = true) : CallR X (.builtin "all") (rAll K) := by subst hK; exact cr_all hc
theorem opc_sum (W : Wd) : OpC W (rSum W.K) sumC := by
  intro RA ρ B H xs ds d Q b r e h
  unfold sumC at e
  split at e
  · obtain ⟨x, rfl, rx⟩ := one_of r
    split at e
    · rename_i l e1
      obtain ⟨ns, e2, rfl⟩ := Option.map_eq_some_iff.mp e
      obtain ⟨a, vs, rfl, ha, la⟩ := view_lst b rx e1
      rw [ints_V la e2] at ha
      exact ⟨a, ns, rfl, sq_of ha, fin_flat b (fun _ => rep_int) h⟩
    · cases e
  · cases e
theorem opc_any (W : Wd) : OpC W (rAny W.K) anyC := by
  intro RA ρ B H xs ds d Q b r e h
  unfold anyC at e
  split at e
  · obtain ⟨x, rfl, rx⟩ := one_of r
    split at e
    · rename_i l e1
      obtain ⟨ns, e2, rfl⟩ := Option.map_eq_some_iff.mp e
      obtain ⟨a, vs, rfl, ha, la⟩ := view_lst b rx e1
      rw [bls_V la e2] at ha
      exact ⟨a, ns, rfl, sq_of ha, fin_flat b (fun _ => rep_bl) h⟩
    · cases e
  · cases e
theorem opc_all (W : Wd) : OpC W (rAll W.K) allC := by
  intro RA ρ B H xs ds d Q b r e h
  unfold allC at e
  split at e
  · obtain ⟨x, rfl, rx⟩ := one_of r
    split at e
    · rename_i l e1
      obtain ⟨ns, e2, rfl⟩ := Option.map_eq_some_iff.mp e
      obtain ⟨a, vs, rfl, ha, la⟩ := view_lst b rx e1
      rw [bls_V la e2] at ha
      exact ⟨a, ns, rfl, sq_of ha, fin_flat b (fun _ => rep_bl) h⟩
    · cases e
  · cases e
/-- list(x): a new list -/
def listC (ρ : List D) (xs : List D) : Option D := match xs with
  | [d] => match dr ρ d with
    | .lst l => some (.lst l)
    | .tup l => some (.lst l)
    | _ => none
  | _ => none
def rListA (K : PySem.W.Frag) : List V → Hp → VK → Prop := fun xs H Q => ∃ p ys, xs = [.ref p] ∧ (SqL K H p ys ∨ SqT K H p ys) ∧ ∀ l, H l = none → Q (.ref l) (upd H l (.lst ys))
theorem callr_list {X : Cx} (K : PySem.W.Frag) (hK : X.K = K) : CallR X (.type "list") (rListA K) := by subst hK; exact call_list_of
theorem opc_list (W : Wd) : OpCF W (rListA W.K) listC := by
  intro RA ρ B H xs ds d Q b r e h
  unfold listC at e
  split at e
  · obtain ⟨x, rfl, rx⟩ := one_of r
    split at e
    · rename_i l e1
      cases e
      obtain ⟨a, vs, rfl, ha, la⟩ := view_lst b rx e1
      exact ⟨a, vs, rfl, .inl (sq_of ha), fun p hp => fin_lstF b hp la h⟩
    · rename_i l e1
      cases e
      obtain ⟨a, vs, rfl, ha, la⟩ := view_tup b rx e1
      exact ⟨a, vs, rfl, .inr ha, fun p hp => fin_lstF b hp la h⟩
    · cases e
  · cases e
def tupleC (ρ : List D) (xs : List D) : Option D := match xs with
  | [d] => match d with
    | .tup l => some (.tup l)
    | d => match dr ρ d with
      | .lst l => some (.tup l)
      | _ => none
  | _ => none
def rTupleA (K : PySem.W.Frag) : List V → Hp → VK → Prop := fun xs H Q => ∃ p ys, xs = [.ref p] ∧ ((SqL K H p ys ∧ ∀ l, H l = none → Q (.ref l) (upd H l (.tup ys))) ∨ (SqT K H p ys ∧ Q (.ref p) H))
theorem callr_tuple {X : Cx} (K : PySem.W.Frag) (hK : X.K = K) : CallR X (.type "tuple") (rTupleA K) := by subst hK; exact call_tuple_of
theorem opc_tuple (W : Wd) : OpC W (rTupleA W.K) tupleC := by
  intro RA ρ B H xs ds d Q b r e h
  unfold tupleC at e
  split at e
  · obtain ⟨x, rfl, rx⟩ := one_of r
    split at e
    · rename_i l
      cases e
      obtain ⟨a, vs, rfl, ha, la⟩ := view_tup b rx rfl
      exact ⟨a, vs, rfl, .inr ⟨ha, h _ B H (.refl b) rx⟩⟩
    · split at e
      · rename_i l e1
        cases e
        obtain ⟨a, vs, rfl, ha, la⟩ := view_lst b rx e1
        exact ⟨a, vs, rfl, .inl ⟨sq_of ha, fun p hp => fin_tup b hp la h⟩⟩
      · cases e
  · cases e
/-! ### isinstance -/
def BT.of : D → Option BT
  | .int _ => some .int
  | .bl _ => some .bool
  | .str _ => some .str
  | .lst _ => some .list
  | .scr _ => some .list
  | .tup _ => some .tuple
  | .dct _ _ => some .dict
  | .non => some .non
  | _ => none
def isiC (isc : Nat → Bool) (ρ : List D) (xs : List D) : Option D := match xs with
  | [d, c] => match dr ρ c with
    | .ty t => if t = .non then none else (BT.of (dr ρ d)).map fun k => .bl (decide (k = t) || (decide (k = .bool) && decide (t = .int)))
    | .cl c => match dr ρ d with
      | .ins c' _ => if c = c' ∧ isc c = true then some (.bl true) else none
      | _ => none
    | _ => none
  | _ => none
theorem kit_bt {K : PySem.W.Frag} (k t : BT) (ht : t ≠ .non) : PySem.W.kitOne K (.type k.name) (.type t.name) = some (decide (k = t) || (decide (k = .bool) && decide (t = .int))) := by
  by_cases e : k = t
  · subst e; simp only [decide_true, Bool.true_or]; exact kit_self
  · refine kit_ty ?_
    cases k <;> cases t <;> first | exact absurd rfl e | exact absurd rfl ht | decide +kernel
theorem sqL_ty {K : PySem.W.Frag} {H : Hp} {a : Addr} {vs : List V} (h : SqL K H a vs) : TyX K H (.ref a) (.type "list") := by
  rcases h with (h | ⟨o, h⟩) | ⟨o, its, n, h, hc, _⟩
  · exact .base (.lst h)
  · exact .base (.frz h)
  · exact .kList h hc
theorem sqT_ty {K : PySem.W.Frag} {H : Hp} {a : Addr} {vs : List V} (h : SqT K H a vs) : TyX K H (.ref a) (.type "tuple") := by
  rcases h with (h | ⟨o, h⟩) | ⟨o, its, n, h, hc, _⟩
  · exact .base (.tup h)
  · exact .fTuple h
  · exact .kTuple h hc
theorem bt_of {W : Wd} {RA : List Addr} {ρ : List D} {B H : Hp} {d : D} {x : V} {k : BT} (b : Base W RA ρ B H) (h : Rep W RA B d x) (e : BT.of (dr ρ d) = some k) : TyX W.K H x (.type k.name) := by
  cases e1 : dr ρ d with
  | int i => rw [e1] at e; cases e; rw [view_int b h e1]; exact .base (.int i)
  | bl i => rw [e1] at e; cases e; rw [view_bl b h e1]; exact .base (.bl i)
  | str i => rw [e1] at e; cases e; rw [view_str b h e1]; exact .base (.str i)
  | non => rw [e1] at e; cases e; rw [view_non b h e1]; exact .base .non
  | lst l => rw [e1] at e; cases e; obtain ⟨a, vs, rfl, ha, la⟩ := view_lst b h e1; exact .base (.lst ha)
  | scr l => rw [e1] at e; cases e; obtain ⟨a, vs, rfl, ha, la⟩ := view_scr b h e1; exact sqL_ty ha
  | tup l => rw [e1] at e; cases e; obtain ⟨a, vs, rfl, ha, la⟩ := view_tup b h e1; exact sqT_ty ha
  | dct ks l => rw [e1] at e; cases e; obtain ⟨a, vs, rfl, ha, la⟩ := view_dct b h e1; exact .base (.dK ha)
  | _ => rw [e1] at e; cases e
theorem callr_isi {X : Cx} (K : PySem.W.Frag) (hK : X.K = K) : CallR X (.builtin "isinstance") (rIsi K) := by subst hK; exact call_isi
theorem opc_isi (W : Wd) (ok : WOk W) : OpC W (rIsi W.K) (isiC W.isc) := by
  intro RA ρ B H xs ds d Q b r e h
  unfold isiC at e
  split at e
  · obtain ⟨x, y, rfl, rx, ry⟩ := two_of r
    split at e
    · rename_i t e1
      split at e
      · cases e
      · rename_i ht
        obtain ⟨k, e2, rfl⟩ := Option.map_eq_some_iff.mp e
        exact ⟨x, y, _, _, _, rfl, by rw [view_ty b ry e1]; exact .ty _, bt_of b rx e2, kit_bt k t ht, fin_flat b (fun _ => rep_bl) h⟩
    · rename_i c e1
      split at e
      · rename_i c' fs e2
        split at e
        · rename_i hc
          cases e
          obtain ⟨rfl, hc⟩ := hc
          obtain ⟨a, dx, vs, rfl, ha, _⟩ := view_ins b rx e2
          exact ⟨_, y, _, _, true, rfl, by rw [view_cl b ry e1]; exact .own _, (ok.cls c hc).1.ty ha, kit_self, fin_flat b (fun _ => rep_bl) h⟩
        · cases e
      · cases e
    · cases e
  · cases e
end Dd

set_option Elab.async false
set_option linter.all false
set_option maxRecDepth 100000
set_option maxHeartbeats 2000000
/-! DdExpr: expressions by data -/
namespace Dd
open PySem PySem.Spec PyProof.Rows L2 Evl OwnO My

def varS (i : Nat) : EF := fun _ σ => match σ[i]? with
  | some (some d) => .ok d
  | _ => .bad
def conS (d : D) : EF := fun _ _ => .ok d
def nilA : AF := fun _ _ => .ok []
def consA (f : EF) (g : AF) : AF := fun ρ σ => (f ρ σ).bind fun x => (g ρ σ).bind fun xs => .ok (x :: xs)
/-- the items of a list or tuple -/
def itemsD (ρ : List D) (d : D) : Option (List D) := match dr ρ d with
  | .lst l => some l
  | .scr l => some l
  | .tup l => some l
  | _ => none
def starA (f : EF) (g : AF) : AF := fun ρ σ => (f ρ σ).bind fun x => (ofO (itemsD ρ x)).bind fun ys => (g ρ σ).bind fun xs => .ok (ys ++ xs)
def tupS (f : AF) : EF := fun ρ σ => (f ρ σ).bind fun xs => if xs.length ≤ 100000 then .ok (.tup xs) else .bad
def lstS (f : AF) : EF := fun ρ σ => (f ρ σ).bind fun xs => if xs.length ≤ 100000 then .ok (.lst xs) else .bad
def andS (f g : EF) : EF := fun ρ σ => (f ρ σ).bind fun x => match x with
  | .bl c => if c = true then g ρ σ else .ok (.bl false)
  | _ => .bad
def orS (f g : EF) : EF := fun ρ σ => (f ρ σ).bind fun x => match x with
  | .bl c => if c = true then .ok (.bl true) else g ρ σ
  | _ => .bad
def notS (f : EF) : EF := fun ρ σ => (f ρ σ).bind fun x => (ofO (truthB ρ x)).bind fun k => .ok (.bl (!k))
abbrev TF := List D → Env → Res Bool
def ifS (t : TF) (f g : EF) : EF := fun ρ σ => (t ρ σ).bind fun c => if c = true then f ρ σ else g ρ σ
def andT (t u : TF) : TF := fun ρ σ => (t ρ σ).bind fun c => if c = true then u ρ σ else .ok false
def orT (t u : TF) : TF := fun ρ σ => (t ρ σ).bind fun c => if c = true then .ok true else u ρ σ
def notT (t : TF) : TF := fun ρ σ => (t ρ σ).bind fun c => .ok (!c)
def chainS (g h : List D → D → D → Option D) (f1 f2 f3 : EF) : EF := fun ρ σ => (f1 ρ σ).bind fun x => (f2 ρ σ).bind fun y => (ofO (g ρ x y)).bind fun k => match k with
  | .bl c => if c = true then (f3 ρ σ).bind fun z => ofO (h ρ y z) else .ok (.bl false)
  | _ => .bad
/-- a slice's part -/
abbrev PF := List D → Env → Res (Option Int)
def noP : PF := fun _ _ => .ok none
def someP (f : EF) : PF := fun ρ σ => (f ρ σ).bind fun x => match dr ρ x with
  | .int i => .ok (some i)
  | _ => .bad
def cutL {α : Type} (xs : List α) (lo hi : Option Int) : List α := (xs.drop (HT.sIx xs.length 0 lo)).take (HT.sIx xs.length xs.length hi - HT.sIx xs.length 0 lo)
def slD (ρ : List D) (x : D) (lo hi : Option Int) : Option D := match dr ρ x with
  | .lst l => some (.lst (cutL l lo hi))
  | .scr l => some (.lst (cutL l lo hi))
  | .tup l => some (.tup (cutL l lo hi))
  | .str s => if s.length ≤ 100000 then some (.str (cutS s lo hi)) else none
  | _ => none
def slS (f : EF) (lo hi : PF) : EF := fun ρ σ => (f ρ σ).bind fun x => (lo ρ σ).bind fun l => (hi ρ σ).bind fun h => ofO (slD ρ x l h)
/-- attribute number k of an instance -/
def fldD (k : Nat) (ρ : List D) (x : D) : Option D := match dr ρ x with
  | .ins c fs => fs[k]?
  | _ => none
/-- attribute k of an instance of class c -/
def fldS (c k : Nat) (f : EF) : EF := fun ρ σ => (f ρ σ).bind fun x => match dr ρ x with
  | .ins c' fs => if c' = c then ofO (fs[k]?) else .bad
  | _ => .bad

section
variable {W : Wd} {Wx : WX} {X : Cx} {a b c e : Expr} {es : List Expr} {f f1 f2 f3 g : EF} {fa ga : AF} {t u : TF} {pos p : Pos}
theorem dv {i : Nat} {x : Str} (hN : X.N[i]? = some x) (hv : Vis X.env.scope x) (hd : (x == ("__debug__" : Str)) = false := by decide) (hcd : (x == ("__classdict__" : Str)) = false := by decide) : PE X (.Name x pos) (tE W Wx (varS i)) :=
  pe_weak (pe_var (i := i) hN hv hd hcd) fun σ H Q ⟨RA, ρ, σd, B, b, l, q⟩ => by
    unfold varS at q
    split at q
    · rename_i d e
      obtain ⟨v, h1, h2⟩ := l.2 i d e
      exact ⟨v, h1, q.here b v h2⟩
    · exact False.elim q
theorem d_const {v : V} {d : D} (h : PE X e (tC v)) (hr : ∀ RA B, Rep W RA B d v) : PE X e (tE W Wx (conS d)) := pe_weak h fun σ H Q ⟨RA, ρ, σd, B, b, l, q⟩ => q.here b v (hr RA B)
theorem d_int {i : Int} {j : Nat} : PE X (.Constant (.int i) j pos) (tE W Wx (conS (.int i))) := d_const pe_int fun _ _ => rep_int
theorem d_bl {i : Bool} {j : Nat} : PE X (.Constant (.bool i) j pos) (tE W Wx (conS (.bl i))) := d_const pe_bl fun _ _ => rep_bl
theorem d_str {i : Str} {j : Nat} : PE X (.Constant (.str i) j pos) (tE W Wx (conS (.str i))) := d_const pe_str fun _ _ => rep_str
theorem d_non {j : Nat} : PE X (.Constant .none j pos) (tE W Wx (conS .non)) := d_const pe_non fun _ _ => rep_non
/-- a name of the module -/
theorem d_glob {x : Str} {v : V} {d : D} {u : Value} (hr : ∀ RA B, Rep W RA B d v) (hm : X.mg x = some u) (r : RelV v u) (hg : Gl X x := by rfl) (hd : (x == ("__debug__" : Str)) = false := by decide) : PE X (.Name x pos) (tE W Wx (conS d)) := d_const (pe_glob hg hm r hd) hr
theorem d_ty {x : Str} (n : BT) (hm : X.mg x = none) (hv : bootBuiltins x = some (.type n.name)) (hg : Gl X x := by rfl) (hn : x ≠ "__name__" := by decide) (hd : (x == ("__debug__" : Str)) = false := by decide) : PE X (.Name x pos) (tE W Wx (conS (.ty n))) :=
  d_const (pe_bltn (v := .ty n.name) hg hm hv rfl hn hd) fun _ _ => by simp only [Rep]
theorem d_cl {x : Str} (n : Nat) (hm : X.mg x = some (.ref (W.CA n))) (hg : Gl X x := by rfl) (hd : (x == ("__debug__" : Str)) = false := by decide) : PE X (.Name x pos) (tE W Wx (conS (.cl n))) := d_glob (v := .ref (W.CA n)) (fun _ _ => by simp only [Rep]) hm rfl hg hd
theorem da_nil : PA X [] (tA W Wx nilA) := pa_weak pa_nil fun σ H Q ⟨RA, ρ, σd, B, b, l, q⟩ => q.here b [] .nil
theorem da_cons (he : PE X e (tE W Wx f)) (ha : PA X es (tA W Wx fa)) (hs : starEach (e :: es) X.env = (false, eval e X.env) :: starEach es X.env := by rfl) : PA X (e :: es) (tA W Wx (consA f fa)) := pa_weak (pa_cons he ha hs) fun σ H Q ⟨RA, ρ, σd, B, b, l, q⟩ =>
  ⟨RA, ρ, σd, B, b, l, (Aw.bind q).imp fun d B1 H1 a1 q1 v rv => ⟨RA, ρ, σd, B1, a1.base, l.ex a1.bl, (Aw.bind q1).imp fun ds B2 H2 a2 q2 vs rvs => q2.here a2.base _ (.cons (rv.ex a2.bl) rvs)⟩⟩
theorem d_tup {x1} (h : PA X es (tA W Wx fa)) : PE X (.Tuple es x1 pos) (tE W Wx (tupS fa)) := pe_weak (pe_tup h) fun σ H Q ⟨RA, ρ, σd, B, b, l, q⟩ =>
  ⟨RA, ρ, σd, B, b, l, (Aw.bind q).imp fun ds B1 H1 a1 q1 vs rv => by
    split at q1
    · rename_i hz
      exact ⟨sz_of (by rw [← rv.len]; exact hz), fun p hp => fin_tup a1.base hp rv fun v B2 H2 a2 r => q1 B2 H2 a2 v r⟩
    · exact False.elim q1⟩
theorem f_lst (h : PA X es (tA W Wx fa)) : PE X (.List es pos) (tF W Wx (lstS fa)) := pe_weak (pe_lst h) fun σ H Q ⟨RA, ρ, σd, B, b, l, q⟩ =>
  ⟨RA, ρ, σd, B, b, l, (Aw.bind q).imp fun ds B1 H1 a1 q1 vs rv => by
    split at q1
    · rename_i hz
      exact ⟨sz_of (by rw [← rv.len]; exact hz), fun p hp => fin_lstF a1.base hp rv fun v B2 H2 a2 r => q1 B2 H2 a2 v (r.back a1.hp)⟩
    · exact False.elim q1⟩
theorem d_lst (h : PA X es (tA W Wx fa)) : PE X (.List es pos) (tE W Wx (lstS fa)) := pe_frz (f_lst h)

/-! ### tests, and, or, not, if -/
theorem dt_of (hK : X.K = W.K) (ha : PE X a (tE W Wx f)) (he : ∀ whole, isTrue a X.env whole = (do let v ← whole; standAt a.pos; holding [v] (truthy v)) := by intro _; rfl) : PT X a (tT W Wx (testS f)) := pt_of hK ha he
theorem pw_weak {t t' : TT} (h : PW X e t) (k : ∀ σ H Q, t' σ H Q → t σ H Q) : PW X e t' := ⟨fun whole pins s σ H Q I q => h.run whole pins s σ H Q I (k σ H Q q)⟩
theorem dt_not (ha : PT X a (tT W Wx t)) : PT X (.UnaryOp .Not a pos) (tT W Wx (notT t)) := pt_weak (pt_not ha) fun σ H Q ⟨RA, ρ, σd, B, b, l, q⟩ =>
  ⟨RA, ρ, σd, B, b, l, (Aw.bind q).imp fun c B1 H1 a1 q1 => q1.here a1.base⟩
theorem dw_and1 (ha : PT X a (tT W Wx t)) : PW X (.BoolOp .And [a] pos) (tT W Wx t) := pw_and1 ha
theorem dw_or1 (ha : PT X a (tT W Wx t)) : PW X (.BoolOp .Or [a] pos) (tT W Wx t) := pw_or1 ha
theorem tT_if {t1 t2 : TF} {σ : L2.St} {RA : List Addr} {ρ : List D} {σd : Env} {B H : Hp} {Q : Bool → Hp → Prop} (l : LocOk W RA B σd σ) {g : Bool → Res Bool} (h1 : ∀ c, g c = if c = true then t1 ρ σd else t2 ρ σd) {c : Bool} (b : Base W RA ρ B H) (q : Aw W Wx RA ρ σ B H (g c) fun b _ H' => Q b H') :
    if c = true then tT W Wx t1 σ H Q else tT W Wx t2 σ H Q := by
  rw [h1] at q
  cases c with
  | true => exact ⟨RA, ρ, σd, B, b, l, q⟩
  | false => exact ⟨RA, ρ, σd, B, b, l, q⟩
theorem dw_and {rest : List Expr} (ha : PT X a (tT W Wx t)) (hb : PW X (.BoolOp .And (b :: rest) pos) (tT W Wx u)) : PW X (.BoolOp .And (a :: b :: rest) pos) (tT W Wx (andT t u)) := pw_weak (pw_and ha hb) fun σ H Q ⟨RA, ρ, σd, B, b, l, q⟩ =>
  ⟨RA, ρ, σd, B, b, l, (Aw.bind q).imp fun c B1 H1 a1 q1 => by
    cases c with
    | true => exact ⟨RA, ρ, σd, B1, a1.base, l.ex a1.bl, q1⟩
    | false => exact q1.here a1.base⟩
theorem dw_or {rest : List Expr} (ha : PT X a (tT W Wx t)) (hb : PW X (.BoolOp .Or (b :: rest) pos) (tT W Wx u)) : PW X (.BoolOp .Or (a :: b :: rest) pos) (tT W Wx (orT t u)) := pw_weak (pw_or ha hb) fun σ H Q ⟨RA, ρ, σd, B, b, l, q⟩ =>
  ⟨RA, ρ, σd, B, b, l, (Aw.bind q).imp fun c B1 H1 a1 q1 => by
    cases c with
    | false => exact ⟨RA, ρ, σd, B1, a1.base, l.ex a1.bl, q1⟩
    | true => exact q1.here a1.base⟩
theorem dt_w (h : PW X e (tT W Wx t)) : PT X e (tT W Wx t) := h.pt
theorem d_if (hc : PT X c (tT W Wx t)) (ha : PE X a (tE W Wx f)) (hb : PE X b (tE W Wx g)) : PE X (.IfExp c a b pos) (tE W Wx (ifS t f g)) := pe_weak (pe_ifExp hc ha hb) fun σ H Q ⟨RA, ρ, σd, B, b, l, q⟩ =>
  ⟨RA, ρ, σd, B, b, l, (Aw.bind q).imp fun c B1 H1 a1 q1 => by
    cases c with
    | true => exact ⟨RA, ρ, σd, B1, a1.base, l.ex a1.bl, q1⟩
    | false => exact ⟨RA, ρ, σd, B1, a1.base, l.ex a1.bl, q1⟩⟩
theorem d_one {op} (h : PE X a (tE W Wx f)) : PE X (.BoolOp op [a] pos) (tE W Wx f) := pe_one h
theorem d_and {rest : List Expr} (ha : PE X a (tE W Wx f)) (hb : PE X (.BoolOp .And (b :: rest) pos) (tE W Wx g)) : PE X (.BoolOp .And (a :: b :: rest) pos) (tE W Wx (andS f g)) := pe_weak (pe_and ha hb) fun σ H Q ⟨RA, ρ, σd, B, b, l, q⟩ =>
  ⟨RA, ρ, σd, B, b, l, (Aw.bind q).imp fun d B1 H1 a1 q1 v rv => by
    cases d with
    | bl c =>
      simp only [Rep] at rv
      refine ⟨c, rv, ?_⟩
      cases c with
      | true => exact ⟨RA, ρ, σd, B1, a1.base, l.ex a1.bl, q1⟩
      | false => exact q1.here a1.base _ rep_bl
    | _ => exact False.elim q1⟩
theorem d_or {rest : List Expr} (ha : PE X a (tE W Wx f)) (hb : PE X (.BoolOp .Or (b :: rest) pos) (tE W Wx g)) : PE X (.BoolOp .Or (a :: b :: rest) pos) (tE W Wx (orS f g)) := pe_weak (pe_or ha hb) fun σ H Q ⟨RA, ρ, σd, B, b, l, q⟩ =>
  ⟨RA, ρ, σd, B, b, l, (Aw.bind q).imp fun d B1 H1 a1 q1 v rv => by
    cases d with
    | bl c =>
      simp only [Rep] at rv
      refine ⟨c, rv, ?_⟩
      cases c with
      | true => exact q1.here a1.base _ rep_bl
      | false => exact ⟨RA, ρ, σd, B1, a1.base, l.ex a1.bl, q1⟩
    | _ => exact False.elim q1⟩
theorem d_not (hK : X.K = W.K) (ha : PE X a (tE W Wx f)) : PE X (.UnaryOp .Not a pos) (tE W Wx (notS f)) := pe_weak (pe_notT ha) fun σ H Q ⟨RA, ρ, σd, B, b, l, q⟩ =>
  ⟨RA, ρ, σd, B, b, l, (Aw.bind q).imp fun d B1 H1 a1 q1 v rv => by
    cases e : truthB ρ d with
    | none => simp only [e, ofO, Res.bind, Aw] at q1
    | some k =>
      simp only [e, ofO, Res.bind] at q1
      exact ⟨k, by rw [hK]; exact truth_V a1.base rv e, q1.here a1.base _ rep_bl⟩⟩
theorem tE_chain {r r' : R2} {g h : List D → D → D → Option D} (hg : Op2 W r g) (hh : Op2 W r' h) : ∀ σ H Q, tE W Wx (chainS g h f1 f2 f3) σ H Q → tChain r r' (tE W Wx f1) (tE W Wx f2) (tE W Wx f3) σ H Q := fun σ H Q ⟨RA, ρ, σd, B, b, l, q⟩ =>
  ⟨RA, ρ, σd, B, b, l, (Aw.bind q).imp fun d1 B1 H1 a1 q1 x rx => ⟨RA, ρ, σd, B1, a1.base, l.ex a1.bl, (Aw.bind q1).imp fun d2 B2 H2 a2 q2 y ry => by
    cases e : g ρ d1 d2 with
    | none => simp only [e, ofO, Res.bind, Aw] at q2
    | some k =>
      simp only [e, ofO, Res.bind] at q2
      refine hg RA ρ B2 H2 x y d1 d2 k _ a2.base (rx.ex a2.bl) ry e fun v B3 H3 a3 r3 => ?_
      cases k with
      | bl c =>
        simp only [Rep] at r3
        refine ⟨c, r3, ?_⟩
        have q3 := Aw.mono a3 q2
        cases c with
        | true =>
          simp only [if_true] at q3 ⊢
          exact ⟨RA, ρ, σd, B3, a3.base, (l.ex a1.bl).ex (a2.bl.trans a3.bl), (Aw.bind q3).imp fun d3 B4 H4 a4 q4 z rz => by
            cases e2 : h ρ d2 d3 with
            | none => simp only [e2, ofO, Aw] at q4
            | some k2 =>
              simp only [e2, ofO] at q4
              exact hh RA ρ B4 H4 y z d2 d3 k2 _ a4.base ((ry.ex a3.bl).ex a4.bl) rz e2 fun v B5 H5 a5 r5 => q4 B5 H5 a5 v r5⟩
        | false => exact q3.here a3.base _ rep_bl
      | _ => exact False.elim q2⟩⟩
theorem d_chain {op op' : CmpOp} {r r' : R2} {g h : List D → D → D → Option D} (ho : OpR X (compareOp op) r) (hg : Op2 W r g) (ho' : OpR X (compareOp op') r') (hh : Op2 W r' h) (ha : PE X a (tE W Wx f1)) (hb : PE X b (tE W Wx f2)) (hc : PE X c (tE W Wx f3)) (hm : lastMarks [op, op'] [b, c] = false := by rfl) :
    PE X (.Compare a [op, op'] [b, c] pos) (tE W Wx (chainS g h f1 f2 f3)) := pe_weak (pe_chain ho ho' ha hb hc (hm := hm)) (tE_chain hg hh)
/-- an expression that gives True or False, as a test -/
def tb1 (f : EF) : TF := fun ρ σ => (f ρ σ).bind fun d => match d with
  | .bl k => .ok k
  | _ => .bad
theorem tT_tb1 {f : EF} (σ : L2.St) (H : Hp) (Q : Bool → Hp → Prop) : tT W Wx (tb1 f) σ H Q → tE W Wx f σ H fun x H' => ∃ k, x = .bl k ∧ Q k H' := fun ⟨RA, ρ, σd, B, b, l, q⟩ => ⟨RA, ρ, σd, B, b, l, (Aw.bind q).imp fun d B1 H1 a1 q1 v rv => by
  cases d with
  | bl k => exact ⟨k, by simpa only [Rep] using rv, q1.here a1.base⟩
  | _ => exact q1.elim⟩
theorem t_cmp {op : CmpOp} {r : R2} {g : List D → D → D → Option D} (ho : OpR X (compareOp op) r) (h : Op2 W r g) (hm : behindInMarks op b = false) (ha : PE X a (tE W Wx f1)) (hb : PE X b (tE W Wx f2)) : PT X (.Compare a [op] [b] pos) (tT W Wx (tb1 (bin2 g f1 f2))) := pt_weak (pt_cmpR ho ha hb hm) fun σ H Q q => tE_bin h σ H _ (tT_tb1 σ H Q q)
theorem t_chain {op op' : CmpOp} {r r' : R2} {g h : List D → D → D → Option D} (ho : OpR X (compareOp op) r) (hg : Op2 W r g) (ho' : OpR X (compareOp op') r') (hh : Op2 W r' h) (ha : PE X a (tE W Wx f1)) (hb : PE X b (tE W Wx f2)) (hc : PE X c (tE W Wx f3)) (hm : lastMarks [op, op'] [b, c] = false := by rfl) :
    PT X (.Compare a [op, op'] [b, c] pos) (tT W Wx (tb1 (chainS g h f1 f2 f3))) := pt_weak (pt_chain ho ho' ha hb hc (hm := hm)) fun σ H Q q => tE_chain hg hh σ H _ (tT_tb1 σ H Q q)

/-! ### slices -/
theorem po_weak {e : Option Expr} {t t' : TO} (h : PO X e t) (k : ∀ σ H Q, t' σ H Q → t σ H Q) : PO X e t' := ⟨fun pins s σ H Q I q => h.run pins s σ H Q I (k σ H Q q)⟩
def tP (W : Wd) (Wx : WX) (f : PF) : TO := fun σ H Q => ∃ RA ρ σd B, Base W RA ρ B H ∧ LocOk W RA B σd σ ∧ Aw W Wx RA ρ σ B H (f ρ σd) fun o _ H' => Q o H'
theorem dp_none : PO X none (tP W Wx noP) := po_weak po_none fun σ H Q ⟨RA, ρ, σd, B, b, l, q⟩ => q.here b
theorem dp_some (h : PE X e (tE W Wx f)) : PO X (some e) (tP W Wx (someP f)) := po_weak (po_some h) fun σ H Q ⟨RA, ρ, σd, B, b, l, q⟩ =>
  ⟨RA, ρ, σd, B, b, l, (Aw.bind q).imp fun d B1 H1 a1 q1 v rv => by
    cases e : dr ρ d with
    | int i => simp only [e] at q1; exact ⟨i, view_int a1.base rv e, q1.here a1.base⟩
    | _ => simp only [e, Aw] at q1⟩
def rSlAll (K : PySem.W.Frag) : V → Option Int → Option Int → Hp → VK → Prop := fun x lo hi H Q => rSlL K x lo hi H Q ∨ rSlA K x lo hi H Q ∨ rSlS x lo hi H Q
theorem slr_all {K : PySem.W.Frag} (hK : X.K = K) : SlR X (rSlAll K) := by subst hK; exact sl_list.or (sl_tupA.or sl_str)
theorem cutL_rep {RA : List Addr} {B : Hp} {l : List D} {vs : List V} (h : RepL W RA B l vs) (lo hi : Option Int) : RepL W RA B (cutL l lo hi) (cutV vs lo hi) := by
  unfold cutL cutV
  rw [← h.len]
  exact (h.drop _).take _
theorem d_slice {lo hi : Option Expr} {pl ph : PF} {p2 : Pos} (hK : X.K = W.K) (he : PE X e (tE W Wx f)) (hl : PO X lo (tP W Wx pl)) (hu : PO X hi (tP W Wx ph)) : PE X (.Subscript e (.Slice lo hi none p2) pos) (tE W Wx (slS f pl ph)) :=
  pe_weak (pe_slice (slr_all hK) he hl hu) fun σ H Q ⟨RA, ρ, σd, B, b, l, q⟩ =>
  ⟨RA, ρ, σd, B, b, l, (Aw.bind q).imp fun d B1 H1 a1 q1 x rx => ⟨RA, ρ, σd, B1, a1.base, l.ex a1.bl, (Aw.bind q1).imp fun lo B2 H2 a2 q2 => ⟨RA, ρ, σd, B2, a2.base, (l.ex a1.bl).ex a2.bl, (Aw.bind q2).imp fun hi B3 H3 a3 q3 => by
    have r3 := (rx.ex a2.bl).ex a3.bl
    have b3 := a3.base
    cases hs : slD ρ d lo hi with
    | none => simp only [hs, ofO, Aw] at q3
    | some d' =>
      simp only [hs, ofO] at q3
      have k3 : ∀ v B' H', Aft W RA ρ B3 H3 B' H' → Rep W RA B' d' v → Q v H' := fun v B' H' a r => q3 B' H' a v r
      unfold slD at hs
      split at hs
      · rename_i l1 e1
        cases hs
        obtain ⟨p, vs, rfl, hp, hv⟩ := view_lst b3 r3 e1
        exact .inl ⟨p, vs, rfl, sq_of hp, fun p' hp' => fin_lst b3 hp' (cutL_rep hv lo hi) k3⟩
      · rename_i l1 e1
        cases hs
        obtain ⟨p, vs, rfl, hp, hv⟩ := view_scr b3 r3 e1
        exact .inl ⟨p, vs, rfl, hp, fun p' hp' => fin_lst b3 hp' (cutL_rep hv lo hi) k3⟩
      · rename_i l1 e1
        cases hs
        obtain ⟨p, vs, rfl, hp, hv⟩ := view_tup b3 r3 e1
        refine .inr (.inl ⟨p, vs, rfl, hp, fun hw => ?_, fun _ p' hp' => fin_tup b3 hp' (cutL_rep hv lo hi) k3⟩)
        have ew : cutL l1 lo hi = l1 := by
          unfold cutL
          rw [hv.len, hw.1, hw.2]
          simp only [List.drop_zero, Nat.sub_zero]
          rw [← hv.len, List.take_length]
        refine k3 _ B3 H3 (.refl b3) ?_
        rw [ew]
        cases d with
        | tup l' => cases e1; exact r3
        | rt r =>
          obtain ⟨a2, d', _, e', ra⟩ := view_rt b3 r3
          rw [e1] at e'; subst e'; exact False.elim ra
        | _ => cases e1
      · rename_i s1 e1
        split at hs
        · rename_i hz
          cases hs
          rw [view_str b3 r3 e1]
          exact .inr (.inr ⟨s1, rfl, sz_of hz, fin_flat b3 (fun _ => rep_str) k3⟩)
        · cases hs
      · cases hs⟩⟩⟩
end
end Dd

set_option Elab.async false
set_option linter.all false
set_option maxRecDepth 100000
set_option maxHeartbeats 2000000
/-! DdCall: attributes, stars, methods of texts, calls of built-ins and of defs, by data -/
namespace Dd
open PySem PySem.Spec PyProof.Rows L2 Evl OwnO My

/-! ### attributes -/
theorem lookup_zip {f : Str} : ∀ {names : List Str} {vs : List V} {k : Nat} {v : V}, names.findIdx? (fun g => decide (g = f)) = some k → vs[k]? = some v → (names.zip vs).lookup f = some v
  | [], vs, k, v, h, _ => by simp at h
  | n :: names, [], k, v, _, h => by simp at h
  | n :: names, v' :: vs, k, v, h, hv => by
    rw [List.findIdx?_cons] at h
    by_cases e : n = f
    · subst e
      simp at h
      subst h
      simp at hv
      subst hv
      simp [List.lookup]
    · simp only [e, decide_false] at h
      obtain ⟨j, hj, rfl⟩ := Option.map_eq_some_iff.mp (by simpa using h)
      rw [List.zip_cons_cons, List.lookup_cons, (show (f == n) = false from beq_eq_false_iff_ne.mpr fun z => e z.symm)]
      exact lookup_zip hj (by simpa using hv)
/-- attribute f of class c is number k -/
def AttrAt (W : Wd) (c : Nat) (f : Str) (k : Nat) : Prop := W.isc c = true ∧ (W.CF c).findIdx? (fun g => decide (g = f)) = some k
theorem AttrAt.mem {W : Wd} {c k : Nat} {f : Str} (h : AttrAt W c f k) : (W.CF c)[k]? = some f := by
  obtain ⟨h1, h2, _⟩ := List.findIdx?_eq_some_iff_getElem.mp h.2
  rw [List.getElem?_eq_getElem h1]
  exact congrArg some (of_decide_eq_true h2)
section
variable {W : Wd} {Wx : WX} {X : Cx} {a b c e : Expr} {es : List Expr} {f f1 f2 f3 g : EF} {fa ga : AF} {t u : TF} {pos p apos : Pos}
theorem d_fld {c k : Nat} {nm : Str} (ok : WOk W) (hK : X.K = W.K) (ha : AttrAt W c nm k) (he : PE X e (tE W Wx f)) (hb : attributeBase e nm X.env (eval e X.env) = eval e X.env := by rfl) : PE X (.Attribute e nm pos) (tE W Wx (fldS c k f)) :=
  pe_weak (pe_fld he hb) fun σ H Q ⟨RA, ρ, σd, B, b, l, q⟩ => ⟨RA, ρ, σd, B, b, l, (Aw.bind q).imp fun d B1 H1 a1 q1 x rx => by
    cases e : dr ρ d with
    | ins c' fs =>
      simp only [e] at q1
      split at q1
      · rename_i hc
        subst hc
        cases e2 : fs[k]? with
        | none => simp only [e2, ofO, Aw] at q1
        | some d2 =>
          simp only [e2, ofO] at q1
          obtain ⟨p, dx, vs, rfl, hp, hv, _⟩ := view_ins a1.base rx e
          obtain ⟨v, h1, h2⟩ := hv.get e2
          obtain ⟨ct, hn⟩ := ok.cls c' ha.1
          exact ⟨p, _, dx, _, v, rfl, hp, by rw [hK]; exact ct.cl, by rw [hK]; exact hn nm (List.mem_of_getElem? ha.mem), lookup_zip ha.2 h1, q1.here a1.base v h2⟩
      · exact False.elim q1
    | _ => simp only [e, Aw] at q1⟩

/-! ### stars -/
theorem items_view {RA : List Addr} {ρ : List D} {B H : Hp} {d : D} {x : V} {ys : List D} (b : Base W RA ρ B H) (h : Rep W RA B d x) (e : itemsD ρ d = some ys) : ∃ a vs, x = .ref a ∧ (SqL W.K H a vs ∨ SqT W.K H a vs) ∧ RepL W RA B ys vs := by
  unfold itemsD at e
  split at e
  · rename_i e1; cases e; obtain ⟨a, vs, rfl, ha, la⟩ := view_lst b h e1; exact ⟨a, vs, rfl, .inl (sq_of ha), la⟩
  · rename_i e1; cases e; obtain ⟨a, vs, rfl, ha, la⟩ := view_scr b h e1; exact ⟨a, vs, rfl, .inl ha, la⟩
  · rename_i e1; cases e; obtain ⟨a, vs, rfl, ha, la⟩ := view_tup b h e1; exact ⟨a, vs, rfl, .inr ha, la⟩
  · cases e
theorem da_star (hK : X.K = W.K) (he : PE X e (tE W Wx f)) (ha : PA X es (tA W Wx fa)) (hs : starEach (.Starred e p :: es) X.env = (true, eval e X.env) :: starEach es X.env := by rfl) : PA X (.Starred e p :: es) (tA W Wx (starA f fa)) := by
  refine pa_weak (StX.pa_star he ha hs) fun σ H Q ⟨RA, ρ, σd, B, b, l, q⟩ => ⟨RA, ρ, σd, B, b, l, (Aw.bind q).imp fun d B1 H1 a1 q1 v rv => ?_⟩
  cases e : itemsD ρ d with
  | none => simp only [e, ofO, Res.bind, Aw] at q1
  | some ys =>
    simp only [e, ofO, Res.bind] at q1
    obtain ⟨p, vs, rfl, hp, hv⟩ := items_view a1.base rv e
    exact ⟨p, vs, rfl, by rw [hK]; exact hp.symm, RA, ρ, σd, B1, a1.base, l.ex a1.bl, (Aw.bind q1).imp fun ds B2 H2 a2 q2 us ru => q2.here a2.base _ ((hv.ex a2.bl).append ru)⟩

/-! ### a call of a built-in -/
theorem d_callB {x : Str} {id : String} {r : List V → Hp → VK → Prop} {g : List D → List D → Option D} (hc : CallR X (.builtin id) r) (h : OpC W r g) (hm : X.mg x = none) (hv : bootBuiltins x = some (.builtin id)) (ha : PA X (e :: es) (tA W Wx fa)) (hg : Gl X x := by rfl) (hn : x ≠ "__name__" := by decide) (hdb : (x == ("__debug__" : Str)) = false := by decide)
    (he : starEach (e :: es) X.env = (false, eval e X.env) :: starEach es X.env := by rfl) (hpl : (backTo pos (starEach es X.env)).any (·.1) = false := by rfl) : PE X (.Call (.Name x p) (e :: es) [] pos) (tE W Wx (callB g fa)) := pe_weak (pe_callB hc hg hm hv ha hn hdb he hpl) (tE_callB h)
theorem d_callT {x : Str} {id : String} {r : List V → Hp → VK → Prop} {g : List D → List D → Option D} (hc : CallR X (.type id) r) (h : OpC W r g) (hm : X.mg x = none) (hv : bootBuiltins x = some (.type id)) (ha : PA X (e :: es) (tA W Wx fa)) (hg : Gl X x := by rfl) (hn : x ≠ "__name__" := by decide) (hdb : (x == ("__debug__" : Str)) = false := by decide)
    (he : starEach (e :: es) X.env = (false, eval e X.env) :: starEach es X.env := by rfl) (hpl : (backTo pos (starEach es X.env)).any (·.1) = false := by rfl) : PE X (.Call (.Name x p) (e :: es) [] pos) (tE W Wx (callB g fa)) := pe_weak (pe_callTy hc hg hm hv ha hn hdb he hpl) (tE_callB h)
theorem f_callB {x : Str} {id : String} {r : List V → Hp → VK → Prop} {g : List D → List D → Option D} (hc : CallR X (.builtin id) r) (h : OpCF W r g) (hm : X.mg x = none) (hv : bootBuiltins x = some (.builtin id)) (ha : PA X (e :: es) (tA W Wx fa)) (hg : Gl X x := by rfl) (hn : x ≠ "__name__" := by decide) (hdb : (x == ("__debug__" : Str)) = false := by decide)
    (he : starEach (e :: es) X.env = (false, eval e X.env) :: starEach es X.env := by rfl) (hpl : (backTo pos (starEach es X.env)).any (·.1) = false := by rfl) : PE X (.Call (.Name x p) (e :: es) [] pos) (tF W Wx (callB g fa)) := pe_weak (pe_callB hc hg hm hv ha hn hdb he hpl) (tF_callB h)
theorem f_callT {x : Str} {id : String} {r : List V → Hp → VK → Prop} {g : List D → List D → Option D} (hc : CallR X (.type id) r) (h : OpCF W r g) (hm : X.mg x = none) (hv : bootBuiltins x = some (.type id)) (ha : PA X (e :: es) (tA W Wx fa)) (hg : Gl X x := by rfl) (hn : x ≠ "__name__" := by decide) (hdb : (x == ("__debug__" : Str)) = false := by decide)
    (he : starEach (e :: es) X.env = (false, eval e X.env) :: starEach es X.env := by rfl) (hpl : (backTo pos (starEach es X.env)).any (·.1) = false := by rfl) : PE X (.Call (.Name x p) (e :: es) [] pos) (tF W Wx (callB g fa)) := pe_weak (pe_callTy hc hg hm hv ha hn hdb he hpl) (tF_callB h)

/-! ### methods of texts -/
/-- a method of a text: the text, the arguments -/
def OpM (W : Wd) (r : V → List V → Hp → VK → Prop) (g : List D → Str → List D → Option D) : Prop := ∀ (RA : List Addr) (ρ : List D) (B H : Hp) (s : Str) (xs : List V) (ds : List D) (d : D) (Q : VK), Base W RA ρ B H → RepL W RA B ds xs → g ρ s ds = some d →
  (∀ v B' H', Aft W RA ρ B H B' H' → Rep W RA B' d v → Q v H') → r (.str s) xs H Q
def methS (g : List D → Str → List D → Option D) (f : EF) (fa : AF) : EF := fun ρ σ => (f ρ σ).bind fun x => match dr ρ x with
  | .str s => (fa ρ σ).bind fun xs => ofO (g ρ s xs)
  | _ => .bad
theorem d_methS {name : Str} {id : String} {r : V → List V → Hp → VK → Prop} {g : List D → Str → List D → Option D} (slot : Slot "str" name id) (hty : typeOf (.builtin id) = pure (.type "method_descriptor")) (hm : MtR X id r) (h : OpM W r g) (ho : PE X a (tE W Wx f)) (ha : PA X (e :: es) (tA W Wx fa))
    (hbase : attributeBase a name X.env (eval a X.env) = eval a X.env := by rfl)
    (hfew : ((backTo pos (starEach (e :: es) X.env)).all (fun x => !x.1) && (backToKw pos (keywordEach [] X.env)).all (fun x => x.1.isSome)
      && decide ((e :: es).length + ([] : List Keyword).length + (if ([] : List Keyword).isEmpty then 0 else 1) < 30)) = true := by rfl)
    (hline : (apos.endLine == pos.line) = true := by rfl) (hs : starEach (e :: es) X.env = (false, eval e X.env) :: starEach es X.env := by rfl) (hplain : (backTo pos (starEach es X.env)).any (·.1) = false := by rfl) :
    PE X (.Call (.Attribute a name apos) (e :: es) [] pos) (tE W Wx (methS g f fa)) := by
  refine pe_weak (pe_bm PySem.F.plainAttrs_str slot hty hm ho ha hbase hfew hline hs hplain) fun σ H Q ⟨RA, ρ, σd, B, b, l, q⟩ => ⟨RA, ρ, σd, B, b, l, (Aw.bind q).imp fun d B1 H1 a1 q1 x rx => ?_⟩
  cases e : dr ρ d with
  | str s =>
    simp only [e] at q1
    rw [view_str a1.base rx e]
    refine ⟨rfl, RA, ρ, σd, B1, a1.base, l.ex a1.bl, (Aw.bind q1).imp fun ds B2 H2 a2 q2 xs rxs => ?_⟩
    cases e2 : g ρ s ds with
    | none => simp only [e2, ofO, Aw] at q2
    | some d2 =>
      simp only [e2, ofO] at q2
      exact h RA ρ B2 H2 s xs ds d2 Q a2.base rxs e2 fun v B3 H3 a3 r3 => q2 B3 H3 a3 v r3
  | _ => simp only [e, Aw] at q1
end
/-- "..".join(texts) -/
def joinM (ρ : List D) (s : Str) (xs : List D) : Option D := match xs with
  | [d] => (itemsD ρ d).bind fun l => (strsD l).bind fun ys => if (ys.map (·.length)).sum + ys.length * s.length ≤ 16777216 then some (.str (Txt.join s ys)) else none
  | _ => none
def rJoinA (K : PySem.W.Frag) : V → List V → Hp → VK → Prop := fun x xs H Q => ∃ a p, ∃ ys : List Str, x = .str a ∧ xs = [.ref p] ∧ (SqL K H p (ys.map V.str) ∨ SqT K H p (ys.map V.str)) ∧ (ys.map (·.length)).sum + ys.length * a.length ≤ 16777216 ∧ Q (.str (Txt.join a ys)) H
theorem mtr_join {X : Cx} {K : PySem.W.Frag} (hK : X.K = K) : MtR X "str.join" (rJoinA K) := by subst hK; exact mt_join
theorem opm_join (W : Wd) : OpM W (rJoinA W.K) joinM := by
  intro RA ρ B H s xs ds d Q b r e h
  unfold joinM at e
  split at e
  · obtain ⟨x, rfl, rx⟩ := one_of r
    obtain ⟨l, e1, e⟩ := Option.bind_eq_some_iff.mp e
    obtain ⟨ys, e2, e⟩ := Option.bind_eq_some_iff.mp e
    split at e
    · rename_i hz
      cases e
      obtain ⟨p, vs, rfl, hp, hv⟩ := items_view b rx e1
      rw [strs_V hv e2] at hp
      exact ⟨s, p, ys, rfl, rfl, hp, hz, fin_flat b (fun _ => rep_str) h⟩
    · cases e
  · cases e
def ljustM (ρ : List D) (s : Str) (xs : List D) : Option D := match xs with
  | [.int i] => if PadOk i = true then some (.str (Txt.ljust s i)) else none
  | _ => none
def rjustM (ρ : List D) (s : Str) (xs : List D) : Option D := match xs with
  | [.int i] => if PadOk i = true then some (.str (Txt.rjust s i)) else none
  | _ => none
def rLjustA : V → List V → Hp → VK → Prop := fun x xs H Q => ∃ (a : Str) (i : Int), x = .str a ∧ xs = [.int i] ∧ PadOk i = true ∧ Q (.str (Txt.ljust a i)) H
def rRjustA : V → List V → Hp → VK → Prop := fun x xs H Q => ∃ (a : Str) (i : Int), x = .str a ∧ xs = [.int i] ∧ PadOk i = true ∧ Q (.str (Txt.rjust a i)) H
theorem mtr_ljust {X : Cx} : MtR X "str.ljust" rLjustA := mt_ljust
theorem mtr_rjust {X : Cx} : MtR X "str.rjust" rRjustA := mt_rjust
theorem opm_ljust (W : Wd) : OpM W rLjustA ljustM := by
  intro RA ρ B H s xs ds d Q b r e h
  unfold ljustM at e
  split at e
  · obtain ⟨x, rfl, rx⟩ := one_of r
    split at e
    · rename_i hz
      cases e
      simp only [Rep] at rx
      exact ⟨s, _, rfl, by rw [rx], hz, fin_flat b (fun _ => rep_str) h⟩
    · cases e
  · cases e
theorem opm_rjust (W : Wd) : OpM W rRjustA rjustM := by
  intro RA ρ B H s xs ds d Q b r e h
  unfold rjustM at e
  split at e
  · obtain ⟨x, rfl, rx⟩ := one_of r
    split at e
    · rename_i hz
      cases e
      simp only [Rep] at rx
      exact ⟨s, _, rfl, by rw [rx], hz, fin_flat b (fun _ => rep_str) h⟩
    · cases e
  · cases e
def splitM (ρ : List D) (s : Str) (xs : List D) : Option D := match xs with
  | [.str t] => if t.length ≠ 0 ∧ s.length ≤ 100000 then some (.lst ((Txt.split s t).map .str)) else none
  | _ => none
def rSplitA : V → List V → Hp → VK → Prop := fun x xs H Q => ∃ a b, x = .str a ∧ xs = [.str b] ∧ (b.length == 0) = false ∧ a.length + 2 ≤ sizeLine ∧ rNewStrs (Txt.split a b) H Q
theorem mtr_split {X : Cx} : MtR X "str.split" rSplitA := mt_split
theorem opm_split (W : Wd) : OpM W rSplitA splitM := by
  intro RA ρ B H s xs ds d Q b r e h
  unfold splitM at e
  split at e
  · obtain ⟨x, rfl, rx⟩ := one_of r
    split at e
    · rename_i hz
      cases e
      simp only [Rep] at rx
      refine ⟨s, _, rfl, by rw [rx], beq_eq_false_iff_ne.mpr hz.1, by have : (100002 : Nat) ≤ sizeLine := by decide
                                                                      omega, fun p hp => fin_lst b hp (repL_strs _) h⟩
    · cases e
  · cases e
end Dd

set_option Elab.async false
set_option linter.all false
set_option maxRecDepth 100000
set_option maxHeartbeats 2000000
/-! DdIter: what is walked, targets, for, list comprehensions, by data -/
namespace Dd
open PySem PySem.Spec PyProof.Rows L2 Evl OwnO My

/-- what is walked: the items, the roots that must stay meanwhile -/
abbrev IF := List D → Env → Res (List D × List Nat)
/-- a target: the roots, the value, the locals -/
abbrev TGF := List D → D → Env → Option Env

/-- J hands out ds, as long as the roots lk stay -/
def ItOk (W : Wd) (RA : List Addr) (B H : Hp) (J : It) (ds : List D) (lk : List Nat) : Prop := ∀ (i : Nat) (RA' : List Addr) (ρ' : List D) (B' H' : Hp), Base W RA' ρ' B' H' → Ex B B' → (∀ (r : Nat) (a : Addr), RA[r]? = some a → RA'[r]? = some a) → (∀ r ∈ lk, ∀ a o, RA[r]? = some a → H a = some o → H' a = some o) →
  (∀ d, ds[i]? = some d → J.go i H' ∧ ∀ x H'', J.yld i H' x H'' → ∃ B'', Aft W RA' ρ' B' H' B'' H'' ∧ Rep W RA' B'' d x) ∧ (ds.length ≤ i → J.stop i H')
def tI (W : Wd) (Wx : WX) (f : IF) : TI := fun σ H R => ∃ RA ρ σd B, Base W RA ρ B H ∧ LocOk W RA B σd σ ∧ Aw W Wx RA ρ σ B H (f ρ σd) fun p B' H' => ∀ J, ItOk W RA B' H' J p.1 p.2 → R J H'
/-- the slots outside ws are alike -/
def Off (ws : List Nat) (σ σ' : L2.St) : Prop := σ'.length = σ.length ∧ ∀ i, i ∉ ws → σ'[i]? = σ[i]?
def tG (W : Wd) (ws : List Nat) (g : TGF) : TG := fun v σ H Q => ∃ RA ρ σd B d, Base W RA ρ B H ∧ LocOk W RA B σd σ ∧ Rep W RA B d v ∧ ∃ σd', g ρ d σd = some σd' ∧ ∀ σ', LocOk W RA B σd' σ' → Off ws σ σ' → Q σ' H
def tGs (W : Wd) (ws : List Nat) (g : List D → List D → Env → Option Env) : TGs := fun vs σ H Q => ∃ RA ρ σd B ds, Base W RA ρ B H ∧ LocOk W RA B σd σ ∧ RepL W RA B ds vs ∧ ∃ σd', g ρ ds σd = some σd' ∧ ∀ σ', LocOk W RA B σd' σ' → Off ws σ σ' → Q σ' H
def nameG (i : Nat) : TGF := fun _ d σ => some (σ.set i (some d))
def nilG : List D → List D → Env → Option Env := fun _ ds σ => if ds.isEmpty = true then some σ else none
def consG (g : TGF) (h : List D → List D → Env → Option Env) : List D → List D → Env → Option Env := fun ρ ds σ => match ds with
  | d :: ds => (g ρ d σ).bind fun σ' => h ρ ds σ'
  | [] => none
def tupG (n : Nat) (h : List D → List D → Env → Option Env) : TGF := fun ρ d σ => match dr ρ d with
  | .tup l => if l.length = n then h ρ l σ else none
  | _ => none
theorem Off.refl {ws : List Nat} {σ : L2.St} : Off ws σ σ := ⟨rfl, fun _ _ => rfl⟩
theorem Off.trans {ws us : List Nat} {σ σ1 σ2 : L2.St} (a : Off ws σ σ1) (b : Off us σ1 σ2) : Off (ws ++ us) σ σ2 := ⟨b.1.trans a.1, fun i h => by
  simp only [List.mem_append, not_or] at h
  exact (b.2 i h.2).trans (a.2 i h.1)⟩
theorem Off.set {i : Nat} {σ : L2.St} {o : Option V} : Off [i] σ (σ.set i o) := ⟨by simp, fun j h => by
  simp only [List.mem_singleton] at h
  rw [List.getElem?_set_ne (fun e => h e.symm)]⟩
section
variable {X : Cx} {W : Wd} {e : Expr} {es : List Expr} {ws us : List Nat} {g : TGF} {h : List D → List D → Env → Option Env} {pos : Pos}
theorem pg_weak {tg : Expr} {t t' : TG} (h : PG X tg t) (k : ∀ v σ H Q, t' v σ H Q → t v σ H Q) : PG X tg t' := ⟨fun pins s σ H v u Q I r q => h.run pins s σ H v u Q I r (k v σ H Q q)⟩
theorem pgs_weak {tg : List Expr} {t t' : TGs} (h : PGs X tg t) (k : ∀ v σ H Q, t' v σ H Q → t v σ H Q) : PGs X tg t' := ⟨fun pins s σ H v u Q I r q => h.run pins s σ H v u Q I r (k v σ H Q q)⟩
theorem dg_name {i : Nat} {x : Str} (hN : X.N.Nodup) (hi : X.N[i]? = some x) (hx : Loc X.env.scope x) (hf : X.fn x = true ∨ X.env.scope.names.lookup x = some .local := by first | exact .inl rfl | exact .inr rfl | assumption) : PG X (.Name x pos) (tG W [i] (nameG i)) :=
  pg_weak (pg_name (i := i) hN hi hx hf) fun v σ H Q ⟨RA, ρ, σd, B, d, b, l, r, σd', e, q⟩ => by
    cases e
    exact q _ (l.set r i) .set
theorem dgs_nil : PGs X [] (tGs W [] nilG) := pgs_weak pgs_nil fun vs σ H Q ⟨RA, ρ, σd, B, ds, b, l, r, σd', e, q⟩ => by
  unfold nilG at e
  split at e
  · rename_i hz
    cases e
    cases ds with
    | nil => exact ⟨r.unnil, q σ l .refl⟩
    | cons _ _ => cases hz
  · cases e
theorem dgs_cons (h1 : PG X e (tG W ws g)) (h2 : PGs X es (tGs W us h)) (hs : (assignEach (e :: es) X.env).map (·.2) = assign e X.env :: (assignEach es X.env).map (·.2) := by rfl) : PGs X (e :: es) (tGs W (ws ++ us) (consG g h)) :=
  pgs_weak (pgs_cons h1 h2 hs) fun vs σ H Q ⟨RA, ρ, σd, B, ds, b, l, r, σd', e, q⟩ => by
    cases ds with
    | nil => simp only [consG] at e; cases e
    | cons d ds =>
      obtain ⟨v, vr, rfl, rv, rr⟩ := r.uncons
      simp only [consG] at e
      obtain ⟨σ1, e1, e2⟩ := Option.bind_eq_some_iff.mp e
      exact ⟨v, vr, rfl, RA, ρ, σd, B, d, b, l, rv, σ1, e1, fun σ' l' o1 => ⟨RA, ρ, σ1, B, ds, b, l', rr, σd', e2, fun σ'' l'' o2 => q σ'' l'' (o1.trans o2)⟩⟩
theorem dg_tup {k n : Nat} (hK : X.K = W.K) (hc : X.calm = true) (h1 : PGs X es (tGs W ws h)) (hn : (assignEach es X.env).length = n := by rfl) (hst : (assignEach es X.env).findIdx? (·.1) = none := by rfl) : PG X (.Tuple es k pos) (tG W ws (tupG n h)) :=
  pg_weak (pg_tup hc h1 hn hst) fun v σ H Q ⟨RA, ρ, σd, B, d, b, l, r, σd', e, q⟩ => by
    unfold tupG at e
    split at e
    · rename_i l1 e1
      split at e
      · rename_i hl
        obtain ⟨a, vs, rfl, ha, la⟩ := view_tup b r e1
        exact ⟨a, vs, rfl, by rw [hK]; exact ha, by rw [← la.len]; exact hl, RA, ρ, σd, B, l1, b, l, la, σd', e, q⟩
      · cases e
    · cases e
end

/-! ### sources -/
/-- the roots that must stay while d is walked -/
def lockD : D → List Nat
  | .rt r => [r]
  | _ => []
def seqI (f : EF) : IF := fun ρ σ => (f ρ σ).bind fun d => match dr ρ d with
  | .lst l => .ok (l, lockD d)
  | .scr l => .ok (l, [])
  | _ => .bad
def tupI (f : EF) : IF := fun ρ σ => (f ρ σ).bind fun d => match dr ρ d with
  | .tup l => .ok (l, [])
  | _ => .bad
def strI (f : EF) : IF := fun ρ σ => (f ρ σ).bind fun d => match dr ρ d with
  | .str s => if s.cps.size ≤ 100000 then .ok (s.cps.toList.map fun c => .str ⟨#[c]⟩, []) else .bad
  | _ => .bad
def rngL (lo : Int) (n : Nat) : List D := (List.range n).map fun i => .int (lo + (i : Nat))
def rng1I (f : EF) : IF := fun ρ σ => (f ρ σ).bind fun d => match dr ρ d with
  | .int j => if -(2 ^ 62) ≤ j ∧ j < 2 ^ 62 then .ok (rngL 0 j.toNat, []) else .bad
  | _ => .bad
def rng2I (f g : EF) : IF := fun ρ σ => (f ρ σ).bind fun d => (g ρ σ).bind fun e => match dr ρ d, dr ρ e with
  | .int i, .int j => if -(2 ^ 62) ≤ i ∧ i < 2 ^ 62 ∧ -(2 ^ 62) ≤ j ∧ j < 2 ^ 62 then .ok (rngL i (j - i).toNat, []) else .bad
  | _, _ => .bad
theorem rngL_len (lo : Int) (n : Nat) : (rngL lo n).length = n := by simp [rngL]
theorem rngL_get {lo : Int} {n i : Nat} {d : D} (h : (rngL lo n)[i]? = some d) : i < n ∧ d = .int (lo + (i : Nat)) := by
  unfold rngL at h
  rw [List.getElem?_map] at h
  obtain ⟨j, hj, rfl⟩ := Option.map_eq_some_iff.mp h
  obtain ⟨h1, h2⟩ := List.getElem?_eq_some_iff.mp hj
  simp at h1 h2
  exact ⟨h1, by rw [← h2]⟩
section
variable {X : Cx} {W : Wd} {Wx : WX} {tg e a b : Expr} {f g : EF} {pos p : Pos}
theorem rep_at {RA : List Addr} {B : Hp} {l : List D} {vs : List V} {i : Nat} {d : D} (h : RepL W RA B l vs) (e : l[i]? = some d) : ∃ v, vs[i]? = some v ∧ Rep W RA B d v := h.get e
/-- a list that is frozen or locked -/
theorem it_list {RA : List Addr} {B H : Hp} {a : Addr} {vs : List V} {l : List D} {lk : List Nat} (h : ∀ (RA' : List Addr) (ρ' : List D) (B' H' : Hp), Base W RA' ρ' B' H' → Ex B B' → (∀ r ∈ lk, ∀ a o, RA[r]? = some a → H a = some o → H' a = some o) → SqL W.K H' a vs) (hl : RepL W RA B l vs) :
    ItOk W RA B H (Itl W.K a) l lk := fun i RA' ρ' B' H' b' e hr hk => by
  have hs := h RA' ρ' B' H' b' e hk
  refine ⟨fun d hd => ?_, fun hle => ⟨vs, hs, by rw [← hl.len]; exact hle⟩⟩
  obtain ⟨v, hv, rv⟩ := hl.get hd
  refine ⟨⟨vs, v, hs, hv⟩, fun x H'' y => ?_⟩
  obtain ⟨rfl, hy⟩ := y
  have := hy vs hs
  rw [hv] at this
  cases this
  exact ⟨B', .refl b', Rep.mono e hr d v rv⟩
theorem d_seqI (hK : X.K = W.K) (he : PE X e (tE W Wx f)) : PI X tg e (tI W Wx (seqI f)) := pi_weak (pi_list he) fun σ H R ⟨RA, ρ, σd, B, b, l, q⟩ => ⟨RA, ρ, σd, B, b, l, (Aw.bind q).imp fun d B1 H1 a1 q1 v rv => by
  have b1 := a1.base
  cases d with
  | rt r =>
    obtain ⟨p, d', rfl, e', ra⟩ := view_rt b1 rv
    rw [e'] at q1
    cases d' with
    | lst l1 =>
      obtain ⟨vs, h1, h2⟩ := ra
      simp only [Rep] at rv
      obtain ⟨p', ep, hp'⟩ := rv
      cases ep
      refine ⟨p, rfl, by rw [hK]; exact ⟨vs, sq_of h1⟩, ?_⟩
      rw [hK]
      exact q1.here b1 _ (it_list (fun RA' ρ' B' H' b' e hk => sq_of (hk r (by simp [lockD]) p _ hp' h1)) h2)
    | dct _ _ => exact False.elim q1
    | ins _ _ => exact False.elim q1
    | _ => exact False.elim ra
  | lst l1 =>
    obtain ⟨p, vs, rfl, h1, h2⟩ := (by simpa only [Rep] using rv : ∃ a vs, v = .ref a ∧ B1 a = some (.lst vs) ∧ RepL W RA B1 l1 vs)
    refine ⟨p, rfl, by rw [hK]; exact ⟨vs, sq_of (b1.le p _ h1)⟩, ?_⟩
    rw [hK]
    exact q1.here b1 _ (it_list (fun RA' ρ' B' H' b' e hk => sq_of (b'.le p _ (e p _ h1))) h2)
  | scr l1 =>
    obtain ⟨p, vs, rfl, h1, h2⟩ := (by simpa only [Rep] using rv : ∃ a vs, v = .ref a ∧ SqL W.K B1 a vs ∧ RepL W RA B1 l1 vs)
    refine ⟨p, rfl, by rw [hK]; exact ⟨vs, ex_l b1.le h1⟩, ?_⟩
    rw [hK]
    exact q1.here b1 _ (it_list (fun RA' ρ' B' H' b' e hk => ex_l (e.trans b'.le) h1) h2)
  | _ => exact False.elim q1⟩
theorem d_tupI (hK : X.K = W.K) (he : PE X e (tE W Wx f)) : PI X tg e (tI W Wx (tupI f)) := pi_weak (pi_tup he) fun σ H R ⟨RA, ρ, σd, B, b, l, q⟩ => ⟨RA, ρ, σd, B, b, l, (Aw.bind q).imp fun d B1 H1 a1 q1 v rv => by
  have b1 := a1.base
  cases d with
  | rt r =>
    obtain ⟨p, d', rfl, e', ra⟩ := view_rt b1 rv
    rw [e'] at q1
    cases d' with
    | lst l1 => exact False.elim q1
    | dct _ _ => exact False.elim q1
    | ins _ _ => exact False.elim q1
    | _ => exact False.elim ra
  | tup l1 =>
    obtain ⟨p, vs, rfl, h1, h2⟩ := (by simpa only [Rep] using rv : ∃ a vs, v = .ref a ∧ SqT W.K B1 a vs ∧ RepL W RA B1 l1 vs)
    refine ⟨p, rfl, by rw [hK]; exact ⟨vs, ex_t b1.le h1⟩, ?_⟩
    rw [hK]
    refine q1.here b1 _ fun i RA' ρ' B' H' b' e hr hk => ?_
    have hs : SqT W.K H' p vs := ex_t (e.trans b'.le) h1
    refine ⟨fun d hd => ?_, fun hle => ⟨vs, hs, by rw [← h2.len]; exact hle⟩⟩
    obtain ⟨v, hv, rv⟩ := h2.get hd
    refine ⟨⟨vs, v, hs, hv⟩, fun x H'' y => ?_⟩
    obtain ⟨rfl, hy⟩ := y
    have := hy vs hs
    rw [hv] at this
    cases this
    exact ⟨B', .refl b', Rep.mono e hr d v rv⟩
  | _ => exact False.elim q1⟩
theorem it_rng {RA : List Addr} {B H : Hp} {lo : Int} {n : Nat} : ItOk W RA B H (Itr lo n) (rngL lo n) [] := fun i RA' ρ' B' H' b' e hr hk => by
  refine ⟨fun d hd => ?_, fun hle => by rw [rngL_len] at hle; exact hle⟩
  obtain ⟨h1, rfl⟩ := rngL_get hd
  refine ⟨h1, fun x H'' y => ?_⟩
  obtain ⟨rfl, rfl⟩ := y
  exact ⟨B', .refl b', rep_int⟩
theorem d_rng1 (hm : X.mg "range" = none) (he : PE X e (tE W Wx f)) (hg : Gl X "range" := by rfl) (hs : starEach [e] X.env = [(false, eval e X.env)] := by rfl) : PI X tg (.Call (.Name "range" p) [e] [] pos) (tI W Wx (rng1I f)) :=
  pi_weak (pi_range1 hg hm (da_cons he da_nil hs) hs) fun σ H R ⟨RA, ρ, σd, B, b, l, q⟩ => ⟨RA, ρ, σd, B, b, l, by
    have q := Aw.bind q
    unfold consA nilA
    cases hf : f ρ σd with
    | bad => rw [hf] at q; exact q
    | exc c fs => rw [hf] at q; exact q
    | ok d =>
      rw [hf] at q
      refine fun B1 H1 a1 vs rv => ?_
      obtain ⟨x, rfl, rx⟩ := one_of rv
      have q1 := q B1 H1 a1
      cases e1 : dr ρ d with
      | int j =>
        simp only [e1] at q1
        split at q1
        · rename_i hj
          exact ⟨j, by rw [view_int a1.base rx e1], hj.1, hj.2, q1.here a1.base _ it_rng⟩
        · exact False.elim q1
      | _ => simp only [e1, Aw] at q1⟩
theorem d_rng2 (hm : X.mg "range" = none) (ha : PE X a (tE W Wx f)) (hb : PE X b (tE W Wx g)) (hg : Gl X "range" := by rfl) (hs : starEach [a, b] X.env = [(false, eval a X.env), (false, eval b X.env)] := by rfl) (hs2 : starEach [b] X.env = [(false, eval b X.env)] := by rfl)
    (hs3 : starEach (a :: [b]) X.env = (false, eval a X.env) :: starEach [b] X.env := by rfl) : PI X tg (.Call (.Name "range" p) [a, b] [] pos) (tI W Wx (rng2I f g)) :=
  pi_weak (pi_range2 hg hm (da_cons ha (da_cons hb da_nil hs2) hs3) hs hs2) fun σ H R ⟨RA, ρ, σd, B, b, l, q⟩ => ⟨RA, ρ, σd, B, b, l, by
    have q := Aw.bind q
    unfold consA nilA
    cases hf : f ρ σd with
    | bad => rw [hf] at q; exact q
    | exc c fs => rw [hf] at q; exact q
    | ok d =>
      rw [hf] at q
      simp only [Res.bind]
      have q := fun B1 H1 a1 => Aw.bind (q B1 H1 a1)
      cases hg : g ρ σd with
      | bad => rw [hg] at q; exact (q B H (.refl b)).elim
      | exc c fs => rw [hg] at q; exact q B H (.refl b)
      | ok e =>
        rw [hg] at q
        refine fun B1 H1 a1 vs rv => ?_
        obtain ⟨x, y, rfl, rx, ry⟩ := two_of rv
        have q1 := q B H (.refl b) B1 H1 a1
        dsimp only at q1
        split at q1
        · rename_i i j e1 e2
          split at q1
          · rename_i hj
            exact ⟨i, j, by rw [view_int a1.base rx e1, view_int a1.base ry e2], ⟨hj.1, hj.2.1, hj.2.2.1, hj.2.2.2⟩, q1.here a1.base _ it_rng⟩
          · exact False.elim q1
        · exact False.elim q1⟩
end
end Dd

set_option Elab.async false
set_option linter.all false
set_option maxRecDepth 100000
set_option maxHeartbeats 2000000
/-! DdFor: statements, for, list comprehensions, by data -/
namespace Dd
open PySem PySem.Spec PyProof.Rows L2 Evl OwnO My

section
variable {W : Wd} {Wx : WX} {RA RA1 : List Addr} {ρ1 : List D} {B H B1 H1 : Hp} {ρ : List D} {mu mu' : Nat → Bool} {Dn : Ends} {o : Out}
theorem Grow.sub {RA' : List Addr} {ρ' : List D} {B' H' : Hp} (h : ∀ r, mu r = false → mu' r = false) (g : Grow W mu' RA ρ B H RA' ρ' B' H') : Grow W mu RA ρ B H RA' ρ' B' H' := ⟨g.pre, g.bl, g.base, fun a o e k => g.keep a o e fun r hr => h r (k r hr), g.new, g.bn, fun r hl hm => g.kd r hl (h r hm)⟩
theorem Done.sub (h : ∀ r, mu r = false → mu' r = false) (d : Done W Wx mu RA ρ B H Dn o) : Done W Wx mu' RA ρ B H Dn o := by
  cases o with
  | nx _ _ => exact fun RA' B' H' σ' g => d RA' B' H' σ' (g.sub h)
  | brk _ _ => exact fun RA' B' H' σ' g => d RA' B' H' σ' (g.sub h)
  | ct _ _ => exact fun RA' B' H' σ' g => d RA' B' H' σ' (g.sub h)
  | ret _ _ _ => exact fun RA' B' H' v g => d RA' B' H' v (g.sub h)
  | exc _ _ _ _ => exact fun RA' B' H' σ' cls dx g => d RA' B' H' σ' cls dx (g.sub h)
  | bad => exact d
theorem Done.mono (g : Grow W mu RA ρ B H RA1 ρ1 B1 H1) (d : Done W Wx mu RA ρ B H Dn o) : Done W Wx mu RA1 ρ1 B1 H1 Dn o := by
  cases o with
  | nx _ _ => exact fun RA' B' H' σ' g2 => d RA' B' H' σ' (g.trans g2)
  | brk _ _ => exact fun RA' B' H' σ' g2 => d RA' B' H' σ' (g.trans g2)
  | ct _ _ => exact fun RA' B' H' σ' g2 => d RA' B' H' σ' (g.trans g2)
  | ret fr _ _ => exact fun RA' B' H' v g2 r => d RA' B' H' v (g.trans g2) (by
      unfold ResAt at r ⊢
      split
      · rename_i hf
        rw [if_pos hf] at r
        obtain ⟨p, h1, h2, h3⟩ := r
        exact ⟨p, h1, g.free h2, h3⟩
      · rename_i hf
        rw [if_neg hf] at r
        exact r)
  | exc _ _ _ _ => exact fun RA' B' H' σ' cls dx g2 => d RA' B' H' σ' cls dx (g.trans g2)
  | bad => exact d
end
/-- an expression within a statement -/
def withE {α : Type} (r : Res α) (ρ : List D) (σ : Env) (k : α → Out) : Out := match r with
  | .ok a => k a
  | .exc c fs => .exc c fs ρ σ
  | .bad => .bad
theorem Done.withE {α : Type} {W : Wd} {Wx : WX} {RA : List Addr} {ρ : List D} {B H : Hp} {mu : Nat → Bool} {Dn : Ends} {r : Res α} {σd : Env} {σ : L2.St} {k : α → Out} (b : Base W RA ρ B H) (l : LocOk W RA B σd σ) (h : Done W Wx mu RA ρ B H Dn (Dd.withE r ρ σd k)) :
    Aw W Wx RA ρ σ B H r fun a B' H' => Done W Wx mu RA ρ B' H' Dn (k a) := by
  cases r with
  | ok a => exact fun B' H' af => Done.mono (.of_aft mu af) h
  | exc c fs => exact fun cls dx B' H' af x => h RA B' H' σ cls dx (.of_aft mu af) (l.ex af.bl) x
  | bad => exact h

/-! ### statements -/
def seqS (s t : SF) : SF := fun mu ρ σ => match s mu ρ σ with
  | .nx ρ' σ' => t mu ρ' σ'
  | o => o
def passS : SF := fun _ ρ σ => .nx ρ σ
def retS (f : EF) : SF := fun _ ρ σ => withE (f ρ σ) ρ σ fun d => .ret false d ρ
/-- return of a new thing -/
def retF (f : EF) : SF := fun _ ρ σ => withE (f ρ σ) ρ σ fun d => .ret true d ρ
def asgS (f : EF) (g : TGF) : SF := fun _ ρ σ => withE (f ρ σ) ρ σ fun d => match g ρ d σ with
  | some σ' => .nx ρ σ'
  | none => .bad
/-- a name gets a new thing, as a root -/
def ownS (i : Nat) (f : EF) : SF := fun _ ρ σ => withE (f ρ σ) ρ σ fun d => .nx (ρ ++ [d]) (σ.set i (some (.rt ρ.length)))
def iffS (t : TF) (s u : SF) : SF := fun mu ρ σ => withE (t ρ σ) ρ σ fun c => if c = true then s mu ρ σ else u mu ρ σ
def expS (f : EF) : SF := fun _ ρ σ => withE (f ρ σ) ρ σ fun _ => .nx ρ σ
def forL (g : TGF) (body : SF) (mu : Nat → Bool) : List D → List D → Env → Out
  | [], ρ, σ => .nx ρ σ
  | d :: ds, ρ, σ => match g ρ d σ with
    | none => .bad
    | some σ1 => match body mu ρ σ1 with
      | .nx ρ' σ' => forL g body mu ds ρ' σ'
      | .ct ρ' σ' => forL g body mu ds ρ' σ'
      | .brk ρ' σ' => .nx ρ' σ'
      | .ret fr d ρ' => .ret fr d ρ'
      | .exc c fs ρ' σ' => .exc c fs ρ' σ'
      | .bad => .bad
def forS (f : IF) (g : TGF) (body : SF) : SF := fun mu ρ σ => withE (f ρ σ) ρ σ fun p => forL g body (fun r => mu r && !p.2.contains r) p.1 ρ σ
section
variable {X : Cx} {W : Wd} {Wx : WX} {e c tg : Expr} {st : Stmt} {rest b1 b2 : List Stmt} {f : EF} {g : TGF} {s t u : SF} {tf : TF} {ws : List Nat} {pos : Pos} {mu : Nat → Bool}
/-- a statement's, a block's reading, whatever roots may be changed -/
def PSd (X : Cx) (W : Wd) (Wx : WX) (st : Stmt) (f : SF) : Prop := ∀ mu, PS X st (tS W Wx mu f)
def PSsd (X : Cx) (W : Wd) (Wx : WX) (st : List Stmt) (f : SF) : Prop := ∀ mu, PSs X st (tS W Wx mu f)
theorem dss_nil : PSsd X W Wx [] passS := fun mu => pss_weak pss_nil fun Dn σ H ⟨RA, ρ, σd, B, b, l, q⟩ => q RA B H σ (.refl mu b) l
theorem dss_one (h : PSd X W Wx st s) : PSsd X W Wx [st] s := fun mu => pss_one (h mu)
theorem dss_cons (h : PSd X W Wx st s) (k : PSsd X W Wx rest t) : PSsd X W Wx (st :: rest) (seqS s t) := fun mu => pss_weak (pss_cons (h mu) (k mu)) fun Dn σ H ⟨RA, ρ, σd, B, b, l, q⟩ => ⟨RA, ρ, σd, B, b, l, by
  unfold seqS at q
  cases e : s mu ρ σd with
  | nx ρ' σ' =>
    rw [e] at q
    exact fun RA' B' H' σ2 gr l' => ⟨RA', ρ', σ', B', gr.base, l', Done.mono gr q⟩
  | ret fr d ρ' => rw [e] at q; exact q
  | brk ρ' σ' => rw [e] at q; exact q
  | ct ρ' σ' => rw [e] at q; exact q
  | exc c fs ρ' σ' => rw [e] at q; exact q
  | bad => rw [e] at q; exact q⟩
theorem ds_pass : PSd X W Wx (.Pass pos) passS := fun mu => ps_weak ps_pass fun Dn σ H ⟨RA, ρ, σd, B, b, l, q⟩ => q RA B H σ (.refl mu b) l
theorem ds_ret (he : PE X e (tE W Wx f)) : PSd X W Wx (.Return (some e) pos) (retS f) := fun mu => ps_weak (ps_ret he) fun Dn σ H ⟨RA, ρ, σd, B, b, l, q⟩ =>
  ⟨RA, ρ, σd, B, b, l, (Done.withE b l q).imp fun d B1 H1 a1 q1 v rv => q1 RA B1 H1 v (.refl mu a1.base) rv⟩
theorem ds_retF (he : PE X e (tF W Wx f)) : PSd X W Wx (.Return (some e) pos) (retF f) := fun mu => ps_weak (ps_ret he) fun Dn σ H ⟨RA, ρ, σd, B, b, l, q⟩ => ⟨RA, ρ, σd, B, b, l, by
    cases hf : f ρ σd with
    | bad => unfold retF at q; rw [hf] at q; exact q
    | exc c fs => unfold retF at q; rw [hf] at q; exact fun cls dx B' H' af x => q RA B' H' σ cls dx (.of_aft mu af) (l.ex af.bl) x
    | ok d => unfold retF at q; rw [hf] at q; exact fun B1 H1 a1 v fr => q RA B1 H1 v (.of_aft mu a1) fr⟩
theorem ds_exp (he : PE X e (tE W Wx f)) (hs : swapsWith e none pos.line X.env = pure false := by rfl) : PSd X W Wx (.Expr e pos) (expS f) := fun mu => ps_weak (ps_expr he hs) fun Dn σ H ⟨RA, ρ, σd, B, b, l, q⟩ =>
  ⟨RA, ρ, σd, B, b, l, (Done.withE b l q).imp fun d B1 H1 a1 q1 v rv => q1 RA B1 H1 σ (.refl mu a1.base) (l.ex a1.bl)⟩
theorem ds_asg (he : PE X e (tE W Wx f)) (hg : PG X tg (tG W ws g)) (hs : swapsWithSole [tg] e pos.line X.env = pure false := by rfl) (hw : swappedStores [tg] e X.env = pure none := by rfl)
    (h1 : (assignEach [tg] X.env).map (·.2) = [assign tg X.env] := by rfl) : PSd X W Wx (.Assign [tg] e pos) (asgS f g) := fun mu => ps_weak (ps_asg he hg hs hw h1) fun Dn σ H ⟨RA, ρ, σd, B, b, l, q⟩ =>
  ⟨RA, ρ, σd, B, b, l, (Done.withE b l q).imp fun d B1 H1 a1 q1 v rv => by
    split at q1
    · rename_i σ' e
      exact ⟨RA, ρ, σd, B1, d, a1.base, l.ex a1.bl, rv, σ', e, fun σ2 l2 _ => q1 RA B1 H1 σ2 (.refl mu a1.base) l2⟩
    · exact False.elim q1⟩
theorem ds_set {i : Nat} {x : Str} {pos' : Pos} (hN : X.N.Nodup) (hi : X.N[i]? = some x) (hx : Loc X.env.scope x) (he : PE X e (tE W Wx f)) (hs : swapsWith e (some (.Name x pos')) pos.line X.env = pure false := by rfl) (hf : X.fn x = true ∨ X.env.scope.names.lookup x = some .local := by first | exact .inl rfl | exact .inr rfl | assumption) :
    PSd X W Wx (.Assign [.Name x pos'] e pos) (asgS f (nameG i)) := fun mu => ps_weak (ps_set (i := i) hN hi hx he hs hf) fun Dn σ H ⟨RA, ρ, σd, B, b, l, q⟩ =>
  ⟨RA, ρ, σd, B, b, l, (Done.withE b l q).imp fun d B1 H1 a1 q1 v rv => q1 RA B1 H1 _ (.refl mu a1.base) ((l.ex a1.bl).set rv i)⟩
/-- a new root -/
theorem Grow.root {RA : List Addr} {ρ : List D} {B H : Hp} {d : D} {v : V} {B0 H0 : Hp} (af : Aft W RA ρ B0 H0 B H) (fr : Fresh W RA H0 B H d v) (mu : Nat → Bool) :
    ∃ p, v = .ref p ∧ Grow W mu RA ρ B0 H0 (RA ++ [p]) (ρ ++ [d]) B H ∧ Rep W (RA ++ [p]) B (.rt ρ.length) v := by
  obtain ⟨p, rfl, hn, h1, h2, h3⟩ := fr
  have b := af.base
  have old : ∀ (r : Nat) (a : Addr), RA[r]? = some a → (RA ++ [p])[r]? = some a := fun r a h => by rw [List.getElem?_append_left (List.getElem?_eq_some_iff.mp h).1]; exact h
  have last : ∀ (r : Nat) (a : Addr), (RA ++ [p])[r]? = some a → RA.length ≤ r → r = RA.length ∧ a = p := fun r a hr hle => by
    have hl := (List.getElem?_eq_some_iff.mp hr).1
    simp at hl
    have hl2 : r = RA.length := by omega
    subst hl2
    rw [List.getElem?_append_right (Nat.le_refl _)] at hr
    simp at hr
    exact ⟨rfl, hr.symm⟩
  refine ⟨p, rfl, ⟨⟨[p], rfl⟩, af.bl, ⟨b.le, by simp [b.len], ?_, ?_, fun r a d' hr hd => ?_⟩, fun a o h _ => af.hp a o h, fun r a hle hr => ?_, af.bn, fun r hl _ => by rw [List.getElem?_append_left (by rw [← b.len]; exact hl)]⟩, ?_⟩
  · rw [List.nodup_append]
    exact ⟨b.nd, by simp, fun x hx y hy => by simp at hy; subst hy; exact fun e => h2 (e ▸ hx)⟩
  · intro a ha
    rcases List.mem_append.mp ha with ha | ha
    · exact b.out a ha
    · simp at ha; subst ha; exact h1
  · by_cases hl : r < RA.length
    · rw [List.getElem?_append_left hl] at hr
      rw [List.getElem?_append_left (by rw [← b.len]; exact hl)] at hd
      exact (b.roots r a d' hr hd).mono (Ex.refl B) old fun o h => h
    · obtain ⟨rfl, rfl⟩ := last r a hr (by omega)
      rw [List.getElem?_append_right (by rw [← b.len]; exact Nat.le_refl _), ← b.len] at hd
      simp at hd
      subst hd
      exact h3.mono (Ex.refl B) old fun o h => h
  · obtain ⟨_, rfl⟩ := last r a hr hle
    exact hn
  · simp only [Rep]
    exact ⟨p, rfl, by rw [← b.len, List.getElem?_append_right (Nat.le_refl _)]; simp⟩
theorem ds_own {i : Nat} {x : Str} {pos' : Pos} (hN : X.N.Nodup) (hi : X.N[i]? = some x) (hx : Loc X.env.scope x) (he : PE X e (tF W Wx f)) (hs : swapsWith e (some (.Name x pos')) pos.line X.env = pure false := by rfl) (hf : X.fn x = true ∨ X.env.scope.names.lookup x = some .local := by first | exact .inl rfl | exact .inr rfl | assumption) :
    PSd X W Wx (.Assign [.Name x pos'] e pos) (ownS i f) := fun mu => ps_weak (ps_set (i := i) hN hi hx he hs hf) fun Dn σ H ⟨RA, ρ, σd, B, b, l, q⟩ => ⟨RA, ρ, σd, B, b, l, by
    cases hf : f ρ σd with
    | bad => unfold ownS at q; rw [hf] at q; exact q
    | exc c fs => unfold ownS at q; rw [hf] at q; exact fun cls dx B' H' af x => q RA B' H' σ cls dx (.of_aft mu af) (l.ex af.bl) x
    | ok d =>
      unfold ownS at q
      rw [hf] at q
      refine fun B1 H1 a1 v fr => ?_
      obtain ⟨p, rfl, gr, rr⟩ := Grow.root a1 fr mu
      exact q _ _ _ _ gr ((l.mono a1.bl gr.ra).set rr i)⟩
theorem ds_if (hc : PT X c (tT W Wx tf)) (h1 : PSsd X W Wx b1 s) (h2 : PSsd X W Wx b2 t) : PSd X W Wx (.If c b1 b2 pos) (iffS tf s t) := fun mu => ps_weak (ps_if hc (h1 mu) (h2 mu)) fun Dn σ H ⟨RA, ρ, σd, B, b, l, q⟩ =>
  ⟨RA, ρ, σd, B, b, l, (Done.withE b l q).imp fun c B1 H1 a1 q1 => by
    cases c with
    | true => exact ⟨RA, ρ, σd, B1, a1.base, l.ex a1.bl, q1⟩
    | false => exact ⟨RA, ρ, σd, B1, a1.base, l.ex a1.bl, q1⟩⟩
theorem ds_for {iter : Expr} {body : List Stmt} {fi : IF} (hp : PassesOwn (model X.prog X.w) X.A X.env X.xe) (hc : X.calm = true) (hi : PI X tg iter (tI W Wx fi)) (hg : PG X tg (tG W ws g)) (hb : PSsd X W Wx body s) (hs : ∀ x, foldedSetIterable iter X.env x = pure x := by intro _; rfl) :
    PSd X W Wx (.For tg iter body [] pos) (forS fi g s) := fun mu => by
  -- the body's promise for each set of roots: chosen by what is walked
  refine ⟨fun pins sh σ H Dn I hq => ?_⟩
  obtain ⟨RA, ρ, σd, B, b, l, q⟩ := hq
  let lkOf : List Nat := match fi ρ σd with
    | .ok p => p.2
    | _ => []
  refine (ps_for hp hc hi hg (hb fun r => mu r && !lkOf.contains r) hs).run pins sh σ H Dn I ?_
  refine ⟨RA, ρ, σd, B, b, l, ?_⟩
  have q := Done.withE b l q
  cases hf : fi ρ σd with
  | bad => rw [hf] at q; exact q
  | exc c fs => rw [hf] at q; exact q
  | ok p =>
    rw [hf] at q
    have hlk : lkOf = p.2 := by show (match fi ρ σd with | .ok p => p.2 | _ => []) = p.2; rw [hf]
    obtain ⟨ds, lk⟩ := p
    refine fun B1 H1 a1 J ij => ?_
    have hsub : ∀ r, mu r = false → (mu r && !lk.contains r) = false := fun r h => by rw [h]; rfl
    have q1 := Done.sub hsub (q B1 H1 a1)
    have hmu : (fun r => mu r && !lkOf.contains r) = fun r => mu r && !lk.contains r := by rw [hlk]
    simp only [hmu]
    refine ⟨fun i m σ H' => m = ds.length - i ∧ i ≤ ds.length ∧ ∃ RA' ρ' σd' B', Grow W (fun r => mu r && !lk.contains r) RA ρ B1 H1 RA' ρ' B' H' ∧ LocOk W RA' B' σd' σ ∧ Done W Wx (fun r => mu r && !lk.contains r) RA' ρ' B' H' Dn (forL g s (fun r => mu r && !lk.contains r) (ds.drop i) ρ' σd'),
      ⟨ds.length, by simp, Nat.zero_le _, RA, ρ, σd, B1, .refl _ a1.base, l.ex a1.bl, by simpa using q1⟩, ?_⟩
    rintro i m σ H2 ⟨rfl, hi2, RA', ρ', σd', B', gr, l2, dn⟩
    have it := ij i RA' ρ' B' H2 gr.base gr.bl gr.ra (fun r hr a o ha ho => gr.keep a o ho fun r' hr' => by
      have : r' = r := by
        have h1 := (List.getElem?_eq_some_iff.mp hr').1
        exact (List.getElem?_inj h1 a1.base.nd).mp (hr'.trans ha.symm)
      subst this
      have : lk.contains r' = true := by simpa using hr
      show (mu r' && !lk.contains r') = false
      rw [this]
      simp)
    by_cases hlt : i < ds.length
    · obtain ⟨go, yl⟩ := it.1 ds[i] (List.getElem?_eq_getElem hlt)
      rw [List.drop_eq_getElem_cons hlt] at dn
      refine .inr ⟨go, fun σ' H' => ∃ RA' ρ' σd' B', Grow W (fun r => mu r && !lk.contains r) RA ρ B1 H1 RA' ρ' B' H' ∧ LocOk W RA' B' σd' σ' ∧ Done W Wx (fun r => mu r && !lk.contains r) RA' ρ' B' H' Dn (forL g s (fun r => mu r && !lk.contains r) (ds.drop (i + 1)) ρ' σd'),
        fun σ' H' n => ⟨ds.length - (i + 1), by omega, rfl, hlt, n⟩, fun x H3 y => ?_⟩
      obtain ⟨B3, a3, rx⟩ := yl x H3 y
      have dn3 := Done.mono (.of_aft (fun r => mu r && !lk.contains r) a3) dn
      simp only [forL] at dn3
      split at dn3
      · exact False.elim dn3
      · rename_i σ1 e1
        refine ⟨RA', ρ', σd', B3, ds[i], a3.base, l2.ex a3.bl, rx, σ1, e1, fun σ4 l4 _ => ?_⟩
        refine ⟨RA', ρ', σ1, B3, a3.base, l4, ?_⟩
        have g3 : Grow W (fun r => mu r && !lk.contains r) RA ρ B1 H1 RA' ρ' B3 H3 := gr.trans (.of_aft _ a3)
        split at dn3 <;> rename_i e2
        · rw [e2]
          exact fun RA5 B5 H5 σ5 g5 l5 => ⟨RA5, _, _, B5, g3.trans g5, l5, Done.mono g5 dn3⟩
        · rw [e2]
          exact fun RA5 B5 H5 σ5 g5 l5 => ⟨RA5, _, _, B5, g3.trans g5, l5, Done.mono g5 dn3⟩
        · rw [e2]; exact dn3
        · rw [e2]; exact dn3
        · rw [e2]; exact dn3
        · exact False.elim dn3
    · have e : i = ds.length := by omega
      subst e
      refine .inl ⟨it.2 (Nat.le_refl _), ?_⟩
      rw [List.drop_length] at dn
      exact dn RA' B' H2 σ (.refl _ gr.base) l2
end
end Dd

set_option Elab.async false
set_option linter.all false
set_option maxRecDepth 100000
set_option maxHeartbeats 2000000
/-! DdComp: list comprehensions by data -/
namespace Dd
open PySem PySem.Spec PyProof.Rows L2 Evl OwnO My

/-- nothing may be raised within a block -/
def WF : WX := fun _ _ _ _ => False
def yesT : TF := fun _ _ => .ok true
def lcL (g : TGF) (t : TF) (f : EF) (ρ : List D) (σ : Env) : List D → Res (List D)
  | [] => .ok []
  | d :: ds => match g ρ d σ with
    | none => .bad
    | some σ1 => (t ρ σ1).bind fun k => if k = true then (f ρ σ1).bind fun y => (lcL g t f ρ σ ds).bind fun ys => .ok (y :: ys) else lcL g t f ρ σ ds
def okOnly {α : Type} : Res α → Res α
  | .ok a => .ok a
  | _ => .bad
/-- [f for g in fi if t]; vs: the block's own slots -/
def lcS (fi : IF) (g : TGF) (t : TF) (f : EF) (vs : List Nat) : EF := fun ρ σ => (fi ρ σ).bind fun p => if p.1.length ≤ 100000 then (okOnly (lcL g t f ρ (wipeD σ vs) p.1)).bind fun ys => .ok (.lst ys) else .bad
theorem Base.upd {W : Wd} {RA : List Addr} {ρ : List D} {B H : Hp} (b : Base W RA ρ B H) {p : Addr} {o : HO} (h1 : B p = none) (h2 : p ∉ RA) : Base W RA ρ B (upd H p o) := ⟨fun a u e => by
    rw [upd_ne (fun z => by subst z; rw [h1] at e; cases e)]; exact b.le a u e, b.len, b.nd, b.out, fun r a d h3 h4 => (b.roots r a d h3 h4).mono (Ex.refl B) (fun _ _ q => q) fun o' h => by
    rw [upd_ne (fun z => by subst z; exact h2 (List.mem_of_getElem? h3))]; exact h⟩
theorem wipe_off {σ σ' : L2.St} : ∀ {vs : List Nat}, (∀ i, i ∉ vs → σ'[i]? = σ[i]?) → σ'.length = σ.length → wipe σ' vs = wipe σ vs := by
  intro vs h hl
  apply List.ext_getElem?
  intro i
  by_cases hi : i ∈ vs
  · have q : ∀ (τ : L2.St) (us : List Nat), i ∈ us → (wipe τ us)[i]? = if i < τ.length then some none else none := fun τ us => by
      induction us with
      | nil => intro z; cases z
      | cons v us ih =>
        intro hm
        show ((wipe τ us).set v none)[i]? = _
        by_cases e : v = i
        · subst e
          by_cases hl : v < τ.length
          · rw [List.getElem?_set_self (by rw [wipe_length]; exact hl), if_pos hl]
          · rw [List.getElem?_eq_none (by rw [List.length_set, wipe_length]; omega), if_neg hl]
        · rw [List.getElem?_set_ne e]
          exact ih ((List.mem_cons.mp hm).resolve_left fun z => e z.symm)
    rw [q _ _ hi, q _ _ hi, hl]
  · rw [wipe_out hi, wipe_out hi]; exact h i hi
theorem wipe_wipe {σ σ2 : L2.St} {vs ws : List Nat} (o : Off ws (wipe σ vs) σ2) (hs : ∀ i ∈ ws, i ∈ vs) : wipe σ2 vs = wipe σ vs := by
  have h1 : wipe σ2 vs = wipe (wipe σ vs) vs := wipe_off (fun i hi => o.2 i fun z => hi (hs i z)) o.1
  rw [h1]
  exact wipe_off (fun i hi => wipe_out hi) (wipe_length σ vs)
section
variable {X : Cx} {W : Wd} {Wx : WX} {elt tg iter : Expr} {ifs : List Expr} {fi : IF} {g : TGF} {t : TF} {f : EF} {ws vs : List Nat}
theorem pts_weak {t t' : TT} (h : PTs X ifs t) (k : ∀ σ H Q, t' σ H Q → t σ H Q) : PTs X ifs t' := ⟨fun pins s σ H Q I q => h.run pins s σ H Q I (k σ H Q q)⟩
theorem dts_nil : PTs X [] (tT W Wx yesT) := pts_weak pts_nil fun σ H Q ⟨RA, ρ, σd, B, b, l, q⟩ => q.here b
theorem dts_one {c : Expr} (h : PT X c (tT W Wx t)) : PTs X [c] (tT W Wx t) := pts_one h
/-- the reading of a list comprehension -/
theorem tF_lc (hs : ∀ i ∈ ws, i ∈ vs) (σ : L2.St) (H : Hp) (Q : VK) : tF W Wx (lcS fi g t f vs) σ H Q → tLc (tI W Wx fi) (tG W ws g) (tT W WF t) (tE W WF f) vs σ H Q := fun ⟨RA, ρ, σd, B, b, l, q⟩ => ⟨RA, ρ, σd, B, b, l, by
  have q := Aw.bind q
  cases hf : fi ρ σd with
  | bad => rw [hf] at q; exact q
  | exc c fs => rw [hf] at q; exact q
  | ok p =>
    obtain ⟨ds, lk⟩ := p
    rw [hf] at q
    refine fun B1 H1 a1 J ij D0 hD => ?_
    have q1 := q B1 H1 a1
    dsimp only at q1
    split at q1
    · rename_i hz
      cases hl : lcL g t f ρ (wipeD σd vs) ds with
      | bad => rw [hl] at q1; exact False.elim q1
      | exc c fs => rw [hl] at q1; exact False.elim q1
      | ok ys =>
        rw [hl] at q1
        have q1 : ∀ B' H', Aft W RA ρ B1 H1 B' H' → ∀ v, Fresh W RA H B' H' (.lst ys) v → Q v H' := q1
        have hDout := a1.base.fresh_out hD
        have lw : LocOk W RA B1 (wipeD σd vs) (wipe σ vs) := (l.ex a1.bl).wipe vs
        -- between two turns
        let Pv : Nat → Hp → Prop := fun i H2 => ∃ B2 acc zs, (∀ x o, B2 x = some o → B1 x = some o ∨ H1 x = none) ∧ Ex B1 B2 ∧ Ex H1 H2 ∧ Base W RA ρ B2 H2 ∧ B2 D0 = none ∧ H2 D0 = some (.lst acc) ∧ RepL W RA B2 zs acc ∧ zs.length ≤ i ∧ ∃ rest, lcL g t f ρ (wipeD σd vs) (ds.drop i) = .ok rest ∧ ys = zs ++ rest
        refine ⟨fun i m H2 => m = ds.length - i ∧ i ≤ ds.length ∧ Pv i H2, ⟨ds.length, by simp, Nat.zero_le _, B1, [], [], fun _ _ h => .inl h, Ex.refl _, Ex.new hD, a1.base.upd hDout.1 hDout.2, hDout.1, upd_same, .nil, Nat.zero_le _, ys, by simpa using hl, rfl⟩, ?_⟩
        rintro i m H2 ⟨rfl, hi, B2, acc, zs, bn, e1, e2, b2, hD2, hacc, hzs, hlen, rest, hrest, hys⟩
        have it := ij i RA ρ B2 H2 b2 e1 (fun _ _ h => h) (fun r _ a o _ ho => e2 a o ho)
        by_cases hlt : i < ds.length
        · obtain ⟨go, yl⟩ := it.1 ds[i] (List.getElem?_eq_getElem hlt)
          rw [List.drop_eq_getElem_cons hlt] at hrest
          simp only [lcL] at hrest
          refine .inr ⟨go, Pv (i + 1), fun H' p => ⟨ds.length - (i + 1), by omega, rfl, hlt, p⟩, fun x H3 y => ?_⟩
          obtain ⟨B3, a3, rx⟩ := yl x H3 y
          have l3 : LocOk W RA B3 (wipeD σd vs) (wipe σ vs) := (lw.ex e1).ex a3.bl
          -- the list that grows is no part of what freezes
          have out3 : ∀ {B4 H4 : Hp}, Aft W RA ρ B2 H2 B4 H4 → B4 D0 = none := fun {B4 H4} a => by
            cases e : B4 D0 with
            | none => rfl
            | some o =>
              rcases a.bn D0 o e with h | h
              · rw [hD2] at h; cases h
              · rw [hacc] at h; cases h
          have bn2 : ∀ {B4 H4 : Hp}, Aft W RA ρ B2 H2 B4 H4 → ∀ x o, B4 x = some o → B1 x = some o ∨ H1 x = none := fun {B4 H4} a x o h => by
            rcases a.bn x o h with h | h
            · exact bn x o h
            · exact .inr (fresh_back e2 h)
          split at hrest
          · cases hrest
          · rename_i σ1 e3
            refine ⟨RA, ρ, wipeD σd vs, B3, ds[i], a3.base, l3, rx, σ1, e3, fun σ4 l4 o4 => ⟨wipe_wipe o4 hs, ?_⟩⟩
            refine ⟨RA, ρ, σ1, B3, a3.base, l4, ?_⟩
            cases ht : t ρ σ1 with
            | bad => rw [ht] at hrest; cases hrest
            | exc c fs => rw [ht] at hrest; cases hrest
            | ok k =>
              rw [ht] at hrest
              simp only [Res.bind] at hrest
              refine fun B4 H4 a4 => ?_
              have a24 := a3.trans a4
              cases k with
              | false =>
                simp only [Bool.false_eq_true, if_false] at hrest ⊢
                exact ⟨B4, acc, zs, bn2 a24, e1.trans a24.bl, e2.trans a24.hp, a4.base, out3 a24, a24.hp D0 _ hacc, hzs.ex a24.bl, Nat.le_succ_of_le hlen, rest, hrest, hys⟩
              | true =>
                simp only [if_true] at hrest ⊢
                refine ⟨RA, ρ, σ1, B4, a4.base, l4.ex a4.bl, ?_⟩
                cases hf2 : f ρ σ1 with
                | bad => rw [hf2] at hrest; cases hrest
                | exc c fs => rw [hf2] at hrest; cases hrest
                | ok d =>
                  rw [hf2] at hrest
                  simp only [Res.bind] at hrest
                  cases hr2 : lcL g t f ρ (wipeD σd vs) (List.drop (i + 1) ds) with
                  | bad => rw [hr2] at hrest; cases hrest
                  | exc c fs => rw [hr2] at hrest; cases hrest
                  | ok rest2 =>
                    rw [hr2] at hrest
                    cases hrest
                    refine fun B5 H5 a5 v rv => ?_
                    have a25 := a24.trans a5
                    have hD5 := out3 a25
                    have hacc5 := a25.hp D0 _ hacc
                    refine ⟨acc, hacc5, sz_lt (by have := hzs.len; omega), B5, acc ++ [v], zs ++ [d], bn2 a25, e1.trans a25.bl, ?_, a5.base.upd hD5 hDout.2, hD5, upd_same, (hzs.ex a25.bl).append (.cons rv .nil), by rw [List.length_append]; exact Nat.succ_le_succ hlen, rest2, hr2, by rw [hys]; simp⟩
                    exact (e2.trans a25.hp).mut hD
        · have e : i = ds.length := by omega
          subst e
          refine .inl ⟨it.2 (Nat.le_refl _), ?_⟩
          rw [List.drop_length] at hrest
          cases hrest
          rw [List.append_nil] at hys
          subst hys
          refine q1 B2 H2 ⟨e2, e1, b2, bn⟩ _ ⟨D0, rfl, fresh_back a1.hp hD, hD2, hDout.2, acc, hacc, hzs⟩
    · exact False.elim q1⟩
section
variable {scope : Scope} {own : List (Str × Nat)} {pos : Pos}
theorem f_lc (hc : X.calm = true) (hN : X.N.Nodup) (hi : PI X tg iter (tI W Wx fi)) (ok : BlkOk X.N X.env.scope scope own) (hws : ∀ i ∈ ws, i ∈ own.map (·.2))
    (hg : ∀ (s : Shared) (H : Hp) (C : Addr) (cl : List (Str × Addr)) (fp : List Addr), PG (X.blk s H scope (compEnvC scope cl C X.env) fp) tg (tG W ws g)) (ht : ∀ (s : Shared) (H : Hp) (C : Addr) (cl : List (Str × Addr)) (fp : List Addr), PTs (X.blk s H scope (compEnvC scope cl C X.env) fp) ifs (tT W WF t))
    (he : ∀ (s : Shared) (H : Hp) (C : Addr) (cl : List (Str × Addr)) (fp : List Addr), PE (X.blk s H scope (compEnvC scope cl C X.env) fp) elt (tE W WF f)) (hs : ∀ x, foldedSetIterable iter X.env x = pure x := by intro _; rfl) :
    PE X (.ListComp elt [⟨tg, iter, ifs, 0⟩] scope pos) (tF W Wx (lcS fi g t f (own.map (·.2)))) := pe_weak (pe_lc hc hN hi ok hg ht he hs) (tF_lc hws)
/-- name = [..] -/
theorem ds_setLc {i : Nat} {y : Str} {py spos : Pos} (hc : X.calm = true) (hN : X.N.Nodup) (hy : X.N[i]? = some y) (hyl : X.env.scope.names.lookup y = some .local)
    (hsw : swapsWith (.ListComp elt [⟨tg, iter, ifs, 0⟩] scope pos) (some (.Name y py)) spos.line X.env = pure true) (hi : PI X tg iter (tI W Wx fi)) (ok : BlkOk X.N X.env.scope scope own) (hws : ∀ i ∈ ws, i ∈ own.map (·.2))
    (hg : ∀ (s : Shared) (H : Hp) (C : Addr) (cl : List (Str × Addr)) (fp : List Addr), PG (X.blk s H scope (compEnvC scope cl C X.env) fp) tg (tG W ws g)) (ht : ∀ (s : Shared) (H : Hp) (C : Addr) (cl : List (Str × Addr)) (fp : List Addr), PTs (X.blk s H scope (compEnvC scope cl C X.env) fp) ifs (tT W WF t))
    (he : ∀ (s : Shared) (H : Hp) (C : Addr) (cl : List (Str × Addr)) (fp : List Addr), PE (X.blk s H scope (compEnvC scope cl C X.env) fp) elt (tE W WF f)) (hs : ∀ x, foldedSetIterable iter X.env x = pure x := by intro _; rfl) :
    PSd X W Wx (.Assign [.Name y py] (.ListComp elt [⟨tg, iter, ifs, 0⟩] scope pos) spos) (asgS (lcS fi g t f (own.map (·.2))) (nameG i)) := fun mu => ps_weak (ps_setLc (i := i) hc hN hy hyl hsw hi ok hg ht he hs) fun Dn σ H ⟨RA, ρ, σd, B, b, l, q⟩ =>
  tF_lc hws σ H _ ⟨RA, ρ, σd, B, b, l, (Done.withE b l q).imp2 fun d k B1 H1 a1 v fr => by
    obtain ⟨B2, a2, r⟩ := Fresh.freeze a1 fr
    exact k B2 H1 a2 RA B2 H1 _ (.refl mu a2.base) ((l.ex a2.bl).set r i)⟩
end
end
end Dd

set_option Elab.async false
set_option linter.all false
set_option maxRecDepth 100000
set_option maxHeartbeats 2000000
/-! DdFn: defs by data: what a def gives (run), that it keeps to it (spF, fnOk_d); calls -/
namespace Dd
open PySem PySem.Spec PyProof.Rows L2 Evl OwnO My

mutual
/-- all roots in d are below n -/
def okRt (n : Nat) : D → Bool
  | .tup l => okRtL n l
  | .lst l => okRtL n l
  | .st l => okRtL n l
  | .dct _ l => okRtL n l
  | .wd _ l => okRtL n l
  | .ins _ l => okRtL n l
  | .exn _ l => okRtL n l
  | .rt r => decide (r < n)
  | .scr l => okRtL n l
  | _ => true
def okRtL (n : Nat) : List D → Bool
  | [] => true
  | d :: l => okRt n d && okRtL n l
end
inductive RRes where
  | ok (fr : Bool) (d : D) (ρ : List D) | exc (c : Nat) (fs : List D) (ρ : List D) | bad
/-- what calls give: the def's number, which roots may be changed, the roots, the arguments -/
abbrev Orc := Nat → (Nat → Bool) → List D → List D → RRes
structure Fn where
  np : Nat
  nl : Nat
  body : Orc → SF
/-- the roots below n0 that may have changed hold no root of the def's own -/
def keptOk (n0 : Nat) (mu : Nat → Bool) (ρ : List D) : Bool := (List.range n0).all fun r => !mu r || okRt n0 (ρ.getD r .non)
/-- the end of a def that was entered with n0 roots -/
def finR (n0 : Nat) (mu : Nat → Bool) : Out → RRes
  | .nx ρ _ => if keptOk n0 mu ρ = true then .ok false .non (ρ.take n0) else .bad
  | .ret fr d ρ => if keptOk n0 mu ρ = true then match d with
      | .rt r => if r < n0 then .ok false (.rt r) (ρ.take n0) else match ρ[r]? with
        | some c => if okRt n0 c = true then .ok true c (ρ.take n0) else .bad
        | none => .bad
      | d => if okRt n0 d = true then .ok fr d (ρ.take n0) else .bad
    else .bad
  | .exc c fs ρ _ => if keptOk n0 mu ρ = true ∧ okRtL n0 fs = true then .exc c fs (ρ.take n0) else .bad
  | _ => .bad
def run (T : Nat → Option Fn) : Nat → Orc
  | 0 => fun _ _ _ _ => .bad
  | n + 1 => fun g mu ρ ds => match T g with
    | none => .bad
    | some F => if ds.length = F.np then finR ρ.length mu (F.body (run T n) (fun r => mu r || decide (ρ.length ≤ r)) ρ (ds.map some ++ List.replicate (F.nl - F.np) none)) else .bad

section
variable {W : Wd} {RA RA' : List Addr} {ρ ρ' : List D} {B B' H H' : Hp}
mutual
theorem Rep.low (n : Nat) (hr : ∀ (r : Nat) (a : Addr), r < n → RA'[r]? = some a → RA[r]? = some a) : ∀ (d : D) (v : V), okRt n d = true → Rep W RA' B d v → Rep W RA B d v
  | .non, v, _, h => by simpa only [Rep] using h
  | .bl b, v, _, h => by simpa only [Rep] using h
  | .int i, v, _, h => by simpa only [Rep] using h
  | .str s, v, _, h => by simpa only [Rep] using h
  | .tup l, v, o, h => by
    simp only [Rep] at h ⊢
    obtain ⟨a, vs, h1, h2, h3⟩ := h
    exact ⟨a, vs, h1, h2, RepL.low n hr l vs (by simpa only [okRt] using o) h3⟩
  | .lst l, v, o, h => by
    simp only [Rep] at h ⊢
    obtain ⟨a, vs, h1, h2, h3⟩ := h
    exact ⟨a, vs, h1, h2, RepL.low n hr l vs (by simpa only [okRt] using o) h3⟩
  | .scr l, v, o, h => by
    simp only [Rep] at h ⊢
    obtain ⟨a, vs, h1, h2, h3⟩ := h
    exact ⟨a, vs, h1, h2, RepL.low n hr l vs (by simpa only [okRt] using o) h3⟩
  | .st l, v, o, h => by simpa only [Rep] using h
  | .dct ks l, v, o, h => by
    simp only [Rep] at h ⊢
    obtain ⟨a, kvs, h1, h2, h3, h4⟩ := h
    exact ⟨a, kvs, h1, h2, h3, RepL.low n hr l _ (by simpa only [okRt] using o) h4⟩
  | .wd ks l, v, o, h => by
    simp only [Rep] at h ⊢
    obtain ⟨a, vs, h1, h2, h3⟩ := h
    exact ⟨a, vs, h1, h2, RepL.low n hr l vs (by simpa only [okRt] using o) h3⟩
  | .ins c fs, v, o, h => by
    simp only [Rep] at h ⊢
    obtain ⟨a, dx, vs, h1, h2, h3, h4⟩ := h
    exact ⟨a, dx, vs, h1, h2, RepL.low n hr fs vs (by simpa only [okRt] using o) h3, h4⟩
  | .exn c fs, v, o, h => by
    simp only [Rep] at h ⊢
    obtain ⟨a, d, h1, h2, h3⟩ := h
    refine ⟨a, d, h1, h2, ?_⟩
    rcases h3 with h3 | ⟨dd, vs, h4, h5, h6, h7⟩
    · exact .inl h3
    · exact .inr ⟨dd, vs, h4, h5, RepL.low n hr fs vs (by simpa only [okRt] using o) h6, h7⟩
  | .rt r, v, o, h => by
    simp only [Rep] at h ⊢
    obtain ⟨a, h1, h2⟩ := h
    exact ⟨a, h1, hr r a (by simpa only [okRt, decide_eq_true_eq] using o) h2⟩
  | .ty n, v, _, h => by simpa only [Rep] using h
  | .cl c, v, _, h => by simpa only [Rep] using h
theorem RepL.low (n : Nat) (hr : ∀ (r : Nat) (a : Addr), r < n → RA'[r]? = some a → RA[r]? = some a) : ∀ (l : List D) (vs : List V), okRtL n l = true → RepL W RA' B l vs → RepL W RA B l vs
  | [], vs, _, h => by simpa only [RepL] using h
  | d :: l, vs, o, h => by
    simp only [RepL] at h ⊢
    simp only [okRtL, Bool.and_eq_true] at o
    obtain ⟨v, us, h1, h2, h3⟩ := h
    exact ⟨v, us, h1, Rep.low n hr d v o.1 h2, RepL.low n hr l us o.2 h3⟩
end
mutual
/-- what is represented has roots of RA alone -/
theorem Rep.okRt : ∀ (d : D) (v : V), Rep W RA B d v → Dd.okRt RA.length d = true
  | .non, v, h => rfl
  | .bl b, v, h => rfl
  | .int i, v, h => rfl
  | .str s, v, h => rfl
  | .tup l, v, h => by
    simp only [Rep] at h
    obtain ⟨a, vs, h1, h2, h3⟩ := h
    simpa only [Dd.okRt] using RepL.okRt l vs h3
  | .lst l, v, h => by
    simp only [Rep] at h
    obtain ⟨a, vs, h1, h2, h3⟩ := h
    simpa only [Dd.okRt] using RepL.okRt l vs h3
  | .scr l, v, h => by
    simp only [Rep] at h
    obtain ⟨a, vs, h1, h2, h3⟩ := h
    simpa only [Dd.okRt] using RepL.okRt l vs h3
  | .st l, v, h => by simp only [Rep] at h; obtain ⟨_, _, h⟩ := h; exact h.elim
  | .dct ks l, v, h => by
    simp only [Rep] at h
    obtain ⟨a, kvs, h1, h2, h3, h4⟩ := h
    simpa only [Dd.okRt] using RepL.okRt l _ h4
  | .wd ks l, v, h => by
    simp only [Rep] at h
    obtain ⟨a, vs, h1, h2, h3⟩ := h
    simpa only [Dd.okRt] using RepL.okRt l vs h3
  | .ins c fs, v, h => by
    simp only [Rep] at h
    obtain ⟨a, dx, vs, h1, h2, h3, h4⟩ := h
    simpa only [Dd.okRt] using RepL.okRt fs vs h3
  | .exn c fs, v, h => by
    simp only [Rep] at h
    obtain ⟨a, d, h1, h2, h3⟩ := h
    rcases h3 with ⟨h3, _⟩ | ⟨dd, vs, h4, h5, h6, h7⟩
    · rw [h3]; rfl
    · simpa only [Dd.okRt] using RepL.okRt fs vs h6
  | .rt r, v, h => by
    simp only [Rep] at h
    obtain ⟨a, h1, h2⟩ := h
    simpa only [Dd.okRt, decide_eq_true_eq] using (List.getElem?_eq_some_iff.mp h2).1
  | .ty n, v, h => rfl
  | .cl c, v, h => rfl
theorem RepL.okRt : ∀ (l : List D) (vs : List V), RepL W RA B l vs → okRtL RA.length l = true
  | [], vs, h => rfl
  | d :: l, vs, h => by
    simp only [RepL] at h
    obtain ⟨v, us, h1, h2, h3⟩ := h
    simp only [okRtL, Bool.and_eq_true]
    exact ⟨Rep.okRt d v h2, RepL.okRt l us h3⟩
end
theorem RootAt.low (n : Nat) (hr : ∀ (r : Nat) (a : Addr), r < n → RA'[r]? = some a → RA[r]? = some a) {a : Addr} : ∀ {d : D}, okRt n d = true → RootAt W RA' B H a d → RootAt W RA B H a d
  | .lst l, o, ⟨vs, h1, h2⟩ => ⟨vs, h1, RepL.low n hr l vs (by simpa only [Dd.okRt] using o) h2⟩
  | .dct ks l, o, ⟨kvs, h1, h2, h3⟩ => ⟨kvs, h1, h2, RepL.low n hr l _ (by simpa only [Dd.okRt] using o) h3⟩
  | .ins c fs, o, ⟨dx, vs, h1, h2, h3⟩ => ⟨dx, vs, h1, RepL.low n hr fs vs (by simpa only [Dd.okRt] using o) h2, h3⟩
theorem RootAt.okRt {a : Addr} : ∀ {d : D}, RootAt W RA B H a d → Dd.okRt RA.length d = true
  | .lst l, ⟨vs, h1, h2⟩ => by simpa only [Dd.okRt] using RepL.okRt l vs h2
  | .dct ks l, ⟨kvs, h1, h2, h3⟩ => by simpa only [Dd.okRt] using RepL.okRt l _ h3
  | .ins c fs, ⟨dx, vs, h1, h2, h3⟩ => by simpa only [Dd.okRt] using RepL.okRt fs vs h2
open Classical in
/-- a def's own roots freeze at its end, but for p -/
theorem Grow.close {mu : Nat → Bool} (b : Base W RA ρ B H) (g : Grow W (fun r => mu r || decide (ρ.length ≤ r)) RA ρ B H RA' ρ' B' H') (hk : keptOk ρ.length mu ρ' = true) (p : Option Addr) :
    ∃ B2, Grow W mu RA ρ B H RA (ρ'.take ρ.length) B2 H' ∧ Ex B' B2 ∧ (∀ (r : Nat) (a : Addr), ρ.length ≤ r → RA'[r]? = some a → p ≠ some a → B2 a = H' a) ∧ (∀ a, p = some a → B' a = none → B2 a = none) := by
  have hlen := b.len
  obtain ⟨t, et⟩ := g.pre
  have nd := g.base.nd
  have lows : ∀ (r : Nat) (a : Addr), RA[r]? = some a → RA'[r]? = some a := g.ra
  have hlow : ∀ (r : Nat) (a : Addr), r < ρ.length → RA'[r]? = some a → RA[r]? = some a := fun r a h1 h2 => by
    rw [et, List.getElem?_append_left (by rw [hlen]; exact h1)] at h2; exact h2
  have disj : ∀ a, a ∈ t → a ∉ RA := fun a ha hr => by
    rw [et, List.nodup_append] at nd
    exact nd.2.2 a hr a ha rfl
  have hlen' : ρ.length ≤ ρ'.length := by rw [← hlen, ← g.base.len, et, List.length_append]; omega
  refine ⟨fun a => if a ∈ t ∧ p ≠ some a then H' a else B' a, ⟨⟨[], by simp⟩, ?_, ⟨?_, ?_, b.nd, ?_, ?_⟩, ?_, ?_, ?_, ?_⟩, ?_, ?_, ?_⟩
  · intro a o h
    show (if a ∈ t ∧ p ≠ some a then H' a else B' a) = some o
    split
    · exact g.base.le a o (g.bl a o h)
    · exact g.bl a o h
  · intro a o h
    have h : (if a ∈ t ∧ p ≠ some a then H' a else B' a) = some o := h
    split at h
    · exact h
    · exact g.base.le a o h
  · rw [List.length_take]; omega
  · intro a ha
    show (if a ∈ t ∧ p ≠ some a then H' a else B' a) = none
    rw [if_neg fun z => disj a z.1 ha]
    exact g.base.out a (by rw [et]; exact List.mem_append_left _ ha)
  · intro r a d hr hd
    have hl : r < ρ.length := by rw [← hlen]; exact (List.getElem?_eq_some_iff.mp hr).1
    rw [List.getElem?_take_of_lt hl] at hd
    have hm : Ex B' (fun a => if a ∈ t ∧ p ≠ some a then H' a else B' a) := fun a o h => by
      show (if a ∈ t ∧ p ≠ some a then H' a else B' a) = some o
      split
      · exact g.base.le a o h
      · exact h
    have ra := g.base.roots r a d (lows r a hr) hd
    refine ((RootAt.mono hm (fun _ _ q => q) (fun o h => h) ra).low ρ.length hlow ?_)
    by_cases hmu : mu r = true
    · unfold keptOk at hk
      have q := List.all_eq_true.mp hk r (List.mem_range.mpr hl)
      have e : ρ'.getD r .non = d := by rw [List.getD_eq_getElem?_getD, hd]; rfl
      rw [e, hmu] at q
      simpa using q
    · have hmf : (mu r || decide (ρ.length ≤ r)) = false := by
        rw [Bool.or_eq_false_iff]
        exact ⟨by simpa using hmu, decide_eq_false (by omega)⟩
      have e : ρ'[r]? = ρ[r]? := g.kd r (by rw [hlen]; exact hl) hmf
      rw [hd] at e
      rw [← hlen]
      exact (b.roots r a d hr e.symm).okRt
  · exact fun a o h k => g.keep a o h fun r hr => by
      show (mu r || decide (ρ.length ≤ r)) = false
      rw [k r hr, decide_eq_false (by rw [← hlen]; have := (List.getElem?_eq_some_iff.mp hr).1; omega)]
      rfl
  · intro r a h1 h2
    rw [List.getElem?_eq_none h1] at h2; cases h2
  · intro a o h
    have h : (if a ∈ t ∧ p ≠ some a then H' a else B' a) = some o := h
    split at h
    · rename_i ht
      obtain ⟨j, hj⟩ := List.mem_iff_getElem?.mp ht.1
      refine .inr (g.new (RA.length + j) a (by omega) ?_)
      rw [et, List.getElem?_append_right (by omega)]
      simpa using hj
    · exact g.bn a o h
  · intro r h1 h2
    rw [List.getElem?_take_of_lt (by rw [← hlen]; exact h1)]
    exact g.kd r h1 (by rw [h2, decide_eq_false (by rw [← hlen]; omega)]; rfl)
  · intro a o h
    show (if a ∈ t ∧ p ≠ some a then H' a else B' a) = some o
    split
    · exact g.base.le a o h
    · exact h
  · intro r a h1 h2 hp
    show (if a ∈ t ∧ p ≠ some a then H' a else B' a) = H' a
    have hm : a ∈ t := by
      rw [et, List.getElem?_append_right (by rw [hlen]; exact h1)] at h2
      exact List.mem_of_getElem? h2
    exact if_pos ⟨hm, hp⟩
  · intro a ha hm
    show (if a ∈ t ∧ p ≠ some a then H' a else B' a) = none
    rw [if_neg fun z => z.2 ha]
    exact hm
/-! ### a def keeps to its function -/
/-- what a caller wants of what a def gives -/
def RDone (W : Wd) (mu : Nat → Bool) (RA : List Addr) (ρ : List D) (B H : Hp) (Q : VK) (E : XK) : RRes → Prop
  | .ok fr d ρ' => ∀ v B' H', Grow W mu RA ρ B H RA ρ' B' H' → ResAt W fr RA H B' H' d v → Q v H'
  | .exc c fs ρ' => ∀ cls dx B' H', Grow W mu RA ρ B H RA ρ' B' H' → ExcAt W RA B' H' c fs cls dx → E cls dx H'
  | .bad => False
/-- the promise of def g -/
def spF (W : Wd) (T : Nat → Option Fn) (n g : Nat) : Sp := fun vs H Q E => ∃ RA ρ B ds mu, Base W RA ρ B H ∧ RepL W RA B ds vs ∧ RDone W mu RA ρ B H Q E (run T n g mu ρ ds)
theorem spF_zero {T : Nat → Option Fn} {g : Nat} {vs : List V} {Q : VK} {E : XK} : ¬ spF W T 0 g vs H Q E := fun ⟨_, _, _, _, _, _, _, h⟩ => h
theorem rep_start {RA : List Addr} {B : Hp} : ∀ {ds : List D} {vs : List V}, RepL W RA B ds vs → ∀ (i : Nat) (d : D), (ds.map some)[i]? = some (some d) → ∃ v, (vs.map some)[i]? = some (some v) ∧ Rep W RA B d v := fun {ds vs} h i d e => by
  rw [List.getElem?_map] at e
  obtain ⟨d', e1, e2⟩ := Option.map_eq_some_iff.mp e
  cases e2
  obtain ⟨v, h1, h2⟩ := h.get e1
  exact ⟨v, by rw [List.getElem?_map, h1]; rfl, h2⟩
theorem loc_start {ds : List D} {vs : List V} {N : List Str} (h : RepL W RA B ds vs) : LocOk W RA B (ds.map some ++ List.replicate (N.length - ds.length) none) (L2.start N vs) := by
  unfold L2.start
  have hl := h.len
  refine ⟨by simp [hl], fun i d e => ?_⟩
  by_cases hi : i < (ds.map some).length
  · rw [List.getElem?_append_left hi] at e
    obtain ⟨v, h1, h2⟩ := rep_start h i d e
    refine ⟨v, ?_, h2⟩
    rw [List.getElem?_append_left (by simpa [← hl] using hi)]
    exact h1
  · rw [List.getElem?_append_right (by omega)] at e
    rw [List.getElem?_replicate] at e
    split at e <;> cases e
end
/-- the def's end meets its promise -/
theorem fin_ok {W : Wd} {RA : List Addr} {ρ : List D} {B H : Hp} {mu : Nat → Bool} {o : Out} {Q : VK} {E : XK} (b : Base W RA ρ B H) (h : RDone W mu RA ρ B H Q E (finR ρ.length mu o)) :
    Done W (fun cls dx _ H => E cls dx H) (fun r => mu r || decide (ρ.length ≤ r)) RA ρ B H { nx := fun _ H' => Q .non H', rt := Q } o := by
  cases o with
  | nx ρ' σ' =>
    intro RA' B' H' σ2 g l
    by_cases hk : keptOk ρ.length mu ρ' = true
    · simp only [finR, hk, if_true, RDone] at h
      obtain ⟨B2, g2, _⟩ := g.close b hk none
      exact h _ B2 H' g2 (by simp only [ResAt, Bool.false_eq_true, if_false]; exact rep_non)
    · simp only [finR, hk, if_false, RDone] at h
      exact h.elim
  | brk _ _ => exact h.elim
  | ct _ _ => exact h.elim
  | bad => exact h.elim
  | exc c fs ρ' σ' =>
    intro RA' B' H' σ2 cls dx g l x
    by_cases hk : keptOk ρ.length mu ρ' = true ∧ okRtL ρ.length fs = true
    · simp only [finR, if_pos hk, RDone] at h
      obtain ⟨B2, g2, e2, _⟩ := g.close b hk.1 none
      obtain ⟨t, et⟩ := g.pre
      refine h cls dx B2 H' g2 ⟨x.1, ?_⟩
      rcases x.2 with x | ⟨d, vs, h1, h2, h3, h4⟩
      · exact .inl x
      · refine .inr ⟨d, vs, h1, e2 d _ h2, ?_, h4⟩
        refine RepL.low ρ.length (fun r a h1 h2 => ?_) fs vs hk.2 (h3.ex e2)
        rw [et, List.getElem?_append_left (by rw [b.len]; exact h1)] at h2
        exact h2
    · simp only [finR, if_neg hk, RDone] at h
  | ret fr d ρ' =>
    intro RA' B' H' v g r
    obtain ⟨t, et⟩ := g.pre
    have hlow : ∀ (r : Nat) (a : Addr), r < ρ.length → RA'[r]? = some a → RA[r]? = some a := fun r a h1 h2 => by
      rw [et, List.getElem?_append_left (by rw [b.len]; exact h1)] at h2
      exact h2
    have old : ∀ a, a ∈ RA → a ∈ RA' := fun a ha => by rw [et]; exact List.mem_append_left _ ha
    by_cases hk : keptOk ρ.length mu ρ' = true
    · -- a value that stands as it is
      have plain : okRt ρ.length d = true → (∀ v B' H', Grow W mu RA ρ B H RA (ρ'.take ρ.length) B' H' → ResAt W fr RA H B' H' d v → Q v H') → Q v H' := fun ho k => by
        unfold ResAt at r k
        split at r
        · rename_i hf
          obtain ⟨p, rfl, h0, hB, hr, ra⟩ := r
          obtain ⟨B2, g2, e2, _, hp⟩ := g.close b hk (some p)
          exact k _ B2 H' g2 (by rw [if_pos hf]; exact ⟨p, rfl, h0, hp p rfl hB, fun z => hr (old p z), (RootAt.mono e2 (fun _ _ q => q) (fun o h => h) ra).low ρ.length hlow ho⟩)
        · rename_i hf
          obtain ⟨B2, g2, e2, _⟩ := g.close b hk none
          exact k v B2 H' g2 (by rw [if_neg hf]; exact Rep.low ρ.length hlow d v ho (r.ex e2))
      have other : (∀ r, d ≠ .rt r) → RDone W mu RA ρ B H Q E (if okRt ρ.length d = true then .ok fr d (ρ'.take ρ.length) else .bad) → Q v H' := fun _ k => by
        by_cases ho : okRt ρ.length d = true
        · rw [if_pos ho] at k; exact plain ho k
        · rw [if_neg ho] at k; exact k.elim
      cases d with
      | rt q =>
        simp only [finR, hk, if_true] at h
        by_cases hq : q < ρ.length
        · rw [if_pos hq] at h
          have rr : Rep W RA' B' (.rt q) v := by
            unfold ResAt at r
            split at r
            · obtain ⟨p, _, _, _, _, ra⟩ := r; exact ra.elim
            · exact r
          obtain ⟨B2, g2, e2, _⟩ := g.close b hk none
          exact h v B2 H' g2 (by simp only [ResAt, Bool.false_eq_true, if_false]; exact Rep.low ρ.length hlow (.rt q) v (by simp only [okRt, decide_eq_true_eq]; exact hq) (rr.ex e2))
        · rw [if_neg hq] at h
          have rr : Rep W RA' B' (.rt q) v := by
            unfold ResAt at r
            split at r
            · obtain ⟨p, _, _, _, _, ra⟩ := r; exact ra.elim
            · exact r
          simp only [Rep] at rr
          obtain ⟨a, rfl, ha⟩ := rr
          cases hc : ρ'[q]? with
          | none => rw [hc] at h; exact h.elim
          | some c =>
            rw [hc] at h
            dsimp only at h
            by_cases ho : okRt ρ.length c = true
            · rw [if_pos ho] at h
              obtain ⟨B2, g2, e2, _, hp⟩ := g.close b hk (some a)
              have ra := g.base.roots q a c ha hc
              refine h _ B2 H' g2 ?_
              simp only [ResAt, if_true]
              refine ⟨a, rfl, g.new q a (by rw [b.len]; omega) ha, hp a rfl (g.base.out a (List.mem_of_getElem? ha)), fun z => ?_, (RootAt.mono e2 (fun _ _ q => q) (fun o h => h) ra).low ρ.length hlow ho⟩
              obtain ⟨o, e⟩ := b.root_in z
              rw [g.new q a (by rw [b.len]; omega) ha] at e
              cases e
            · rw [if_neg ho] at h; exact h.elim
      | _ => exact other (fun r e => nomatch e) (by simpa only [finR, hk, if_true] using h)
    · simp only [finR, hk, if_false, RDone] at h
      exact h.elim
theorem fnOk_d {P : Program} {w : World} {K : PySem.W.Frag} {mg : Str → Option Value} {base : Heap} {W : Wd} {T : Nat → Option Fn} {n g : Nat} {f : Addr} {name qual : Str} {params : Arguments} {body : List Stmt} {scope : Scope} {dV kV doc pm cdv ct oc : Value} {an od : Option Addr}
    {osl : Array (Option Value)} {N ps : List Str} {F : Fn} (lk : K.lookup f = some ⟨oc, od, .func (PySem.W.fnOf name qual params body scope dV kV doc pm an cdv ct), osl⟩) (hcd : PySem.W.codeIn K cdv qual = true) (S : FnScope N ps scope) (hT : T g = some F) (hnp : F.np = ps.length) (hnl : F.nl = N.length)
    (der : ∀ (A : Around) (outer : List PySem.Env) (s : Shared) (H : Hp) (E : XK), Room (4 * n + 3) (A.deeper (envOfC qual scope s.heap.objs.size f cdv)) →
      PSsd (cxOf (L2.CX P w) P w K mg base N qual scope f cdv A outer s H E) W (fun cls dx _ H' => E cls dx H') body (F.body (run T n))) :
    FnOk P w K mg base (L2.CX P w) (4 * (n + 1)) f (PySem.W.fnOf name qual params body scope dV kV doc pm an cdv ct) ps (spF W T (n + 1) g) := by
  have hlen : ∀ vs H Q E, spF W T (n + 1) g vs H Q E → vs.length = ps.length := fun vs H Q E ⟨RA, ρ, B, ds, mu, b, rp, h⟩ => by
    simp only [run, hT] at h
    split at h
    · rename_i hl; rw [← rp.len, hl, hnp]
    · exact h.elim
  refine fn_of (k := 4 * n + 3) lk hcd S hlen fun A outer s H vs Q E hr hsp => ?_
  obtain ⟨RA, ρ, B, ds, mu, b, rp, h⟩ := id hsp
  have hl : ds.length = F.np := by
    simp only [run, hT] at h
    split at h
    · assumption
    · exact h.elim
  simp only [run, hT, if_pos hl] at h
  refine ⟨_, der A outer s H E hr (fun r => mu r || decide (ρ.length ≤ r)), RA, ρ, ds.map some ++ List.replicate (F.nl - F.np) none, B, b, ?_, fin_ok b h⟩
  rw [← hl, hnl]
  exact loc_start rp
theorem fnOk_zero {P : Program} {w : World} {K : PySem.W.Frag} {mg : Str → Option Value} {base : Heap} {W : Wd} {T : Nat → Option Fn} {CXx : CXT} {g : Nat} {f : Addr} {fd : FuncData} {ps : List Str} : FnOk P w K mg base CXx (4 * 0) f fd ps (spF W T 0 g) :=
  ⟨fun vs H Q E h => absurd h spF_zero, fun A outer s H args us vs Q E _ _ _ _ h => absurd h spF_zero⟩
end Dd

set_option Elab.async false
set_option linter.all false
set_option maxRecDepth 100000
set_option maxHeartbeats 2000000
/-! DdFnCall: a def's context; calls of defs, classes, methods; raise, by data -/
namespace Dd
open PySem PySem.Spec PyProof.Rows L2 Evl OwnO My

/-- def x of the module keeps to function g, n levels deep -/
structure HasF (P : Program) (w : World) (K : PySem.W.Frag) (mg : Str → Option Value) (base : Heap) (W : Wd) (T : Nat → Option Fn) (n : Nat) (x : Str) (g : Nat) (dvs : List V) : Prop where
  ex : ∃ f fd ps ds, FnOk P w K mg base (L2.CX P w) (4 * n) f fd ps (spF W T n g) ∧ mg x = some (.ref f) ∧ PySem.W.keepIn K (.ref f) = true ∧ Binds K fd ps ds ∧ Vals dvs ds
/-- a method m of the class at C keeps to function g -/
structure HasFM (P : Program) (w : World) (K : PySem.W.Frag) (mg : Str → Option Value) (base : Heap) (W : Wd) (T : Nat → Option Fn) (n : Nat) (C : Addr) (m : Str) (g : Nat) (dvs : List V) : Prop where
  ex : ∃ f fd ps ds, FnOk P w K mg base (L2.CX P w) (4 * n) f fd ps (spF W T n g) ∧ PySem.W.findIn K (.ref C) m = some (some (.ref f)) ∧ PySem.W.isFn K (.ref f) = true ∧ PySem.W.keepIn K (.ref f) = true ∧ Binds K fd ps ds ∧ Vals dvs ds
/-- the context of a body, n levels deep -/
structure Cok (X : Cx) (W : Wd) (Wx : WX) (n : Nat) : Prop where
  K : X.K = W.K
  w : X.w = W.w
  ok : WOk W
  calm : X.calm = true
  room : Room (4 * n + 3) X.A
  tk : Takes X Wx
  po : PassesOwn (model X.prog X.w) X.A X.env X.xe
theorem Cok.hu {X : Cx} {W : Wd} {Wx : WX} {n : Nat} (c : Cok X W Wx n) : X.A.units + 128 < cLine := by have := c.room.un; omega
theorem Cok.blk {X : Cx} {W : Wd} {Wx : WX} {n : Nat} (c : Cok X W Wx n) {s : Shared} {H : Hp} {scope : Scope} {cenv : PySem.Env} {fp : List Addr} : Cok (X.blk s H scope cenv fp) W WF n :=
  ⟨c.K, c.w, c.ok, c.calm, c.room, fun _ _ ⟨_, _, _, _, _, _, _, _, _, _, _, _, _, _, _, _, w⟩ => w.elim, PassesOwn.never⟩
theorem Cok.of {P : Program} {w : World} {mg : Str → Option Value} {base : Heap} {W : Wd} {n : Nat} {N : List Str} {qual : Str} {scope : Scope} {f : Addr} {cdv : Value} {A : Around} {outer : List PySem.Env} {s : Shared} {H : Hp} {E : XK} (hw : w = W.w) (ok : WOk W)
    (hr : Room (4 * n + 3) (A.deeper (envOfC qual scope s.heap.objs.size f cdv))) : Cok (cxOf (L2.CX P w) P w W.K mg base N qual scope f cdv A outer s H E) W (fun cls dx _ H' => E cls dx H') n :=
  ⟨rfl, hw, ok, rfl, hr, takes_of rfl rfl rfl rfl, passes_of rfl⟩
/-- a call of a def: ds its defaults -/
def callS (cl : Orc) (g : Nat) (dd : List D) (fa : AF) : EF := fun ρ σ => (fa ρ σ).bind fun xs => match cl g (fun _ => false) ρ (xs ++ dd) with
  | .ok _ d _ => .ok d
  | .exc c fs _ => .exc c fs
  | .bad => .bad
/-- a call whose answer is a new thing -/
def callN (cl : Orc) (g : Nat) (dd : List D) (fa : AF) : EF := fun ρ σ => (fa ρ σ).bind fun xs => match cl g (fun _ => false) ρ (xs ++ dd) with
  | .ok true d _ => .ok d
  | .ok false _ _ => .bad
  | .exc c fs _ => .exc c fs
  | .bad => .bad
section
variable {X : Cx} {W : Wd} {Wx : WX} {T : Nat → Option Fn} {n g : Nat} {x m : Str} {e o : Expr} {es : List Expr} {fa : AF} {f : EF} {pos p apos : Pos} {ds : List Value} {dvs : List V} {dd : List D}
/-- behind a call without changes -/
theorem Grow.aft {RA : List Addr} {ρ ρ' : List D} {B H B' H' : Hp} (b : Base W RA ρ B H) (gr : Grow W (fun _ => false) RA ρ B H RA ρ' B' H') : Aft W RA ρ B H B' H' := by
  refine ⟨fun a o h => gr.keep a o h fun _ _ => rfl, gr.bl, ?_, gr.bn⟩
  have e : ρ' = ρ := by
    apply List.ext_getElem?
    intro i
    by_cases hi : i < RA.length
    · exact gr.kd i hi rfl
    · rw [List.getElem?_eq_none (by rw [← gr.base.len]; omega), List.getElem?_eq_none (by rw [← b.len]; omega)]
  rw [← e]
  exact gr.base
theorem RepL.dflt {RA : List Addr} {B : Hp} (h : ∀ RA B, RepL W RA B dd dvs) {xs : List D} {vs : List V} (r : RepL W RA B xs vs) : RepL W RA B (xs ++ dd) (vs ++ dvs) := r.append (h RA B)
theorem tE_call (hd : ∀ RA B, RepL W RA B dd dvs) (σ : L2.St) (H : Hp) (Q : VK) : tE W Wx (callS (run T n) g dd fa) σ H Q → (tA W Wx fa) σ H fun vs H1 => spF W T n g (vs ++ dvs) H1 Q (WE Wx σ) := fun ⟨RA, ρ, σd, B, b, l, q⟩ =>
  ⟨RA, ρ, σd, B, b, l, (Aw.bind q).imp fun xs B1 H1 a1 q1 vs rv => ⟨RA, ρ, B1, xs ++ dd, fun _ => false, a1.base, rv.append (hd RA B1), by
    cases hr : run T n g (fun _ => false) ρ (xs ++ dd) with
    | ok fr d ρ' =>
      rw [hr] at q1
      intro v B2 H2 gr r
      have a2 := gr.aft a1.base
      unfold ResAt at r
      split at r
      · obtain ⟨B3, a3, r3⟩ := Fresh.freeze a2 r
        exact q1 B3 H2 a3 v r3
      · exact q1 B2 H2 a2 v r
    | exc c fs ρ' =>
      rw [hr] at q1
      intro cls dx B2 H2 gr x
      exact q1 cls dx B2 H2 (gr.aft a1.base) x
    | bad => rw [hr] at q1; exact q1⟩⟩
theorem tF_call (hd : ∀ RA B, RepL W RA B dd dvs) (σ : L2.St) (H : Hp) (Q : VK) : tF W Wx (callN (run T n) g dd fa) σ H Q → (tA W Wx fa) σ H fun vs H1 => spF W T n g (vs ++ dvs) H1 Q (WE Wx σ) := fun ⟨RA, ρ, σd, B, b, l, q⟩ =>
  ⟨RA, ρ, σd, B, b, l, (Aw.bind q).imp fun xs B1 H1 a1 q1 vs rv => ⟨RA, ρ, B1, xs ++ dd, fun _ => false, a1.base, rv.append (hd RA B1), by
    cases hr : run T n g (fun _ => false) ρ (xs ++ dd) with
    | ok fr d ρ' =>
      rw [hr] at q1
      intro v B2 H2 gr r
      have a2 := gr.aft a1.base
      cases fr with
      | true =>
        simp only [ResAt, if_true] at r
        exact q1 B2 H2 a2 v (r.back a1.hp)
      | false => exact q1.elim
    | exc c fs ρ' =>
      rw [hr] at q1
      intro cls dx B2 H2 gr x
      exact q1 cls dx B2 H2 (gr.aft a1.base) x
    | bad => rw [hr] at q1; exact q1⟩⟩
theorem PE.callSD {k : Nat} {f : Addr} {fd : FuncData} {ps : List Str} {sp : Sp} {E : L2.St → XK} {t : TA} (F : FnOk X.prog X.w X.K X.mg X.base (L2.CX X.prog X.w) k f fd ps sp) (hr : Room k X.A) (hg : Gl X x) (hm : X.mg x = some (.ref f)) (hk : PySem.W.keepIn X.K (.ref f) = true) (hb : Binds X.K fd ps ds) (hd : Vals dvs ds) (hx : ∀ σ, PassesAt (L2.CX X.prog X.w) X σ (E σ))
    (ha : PA X (e :: es) t) (hdb : (x == ("__debug__" : Str)) = false := by decide) (he : starEach (e :: es) X.env = (false, eval e X.env) :: starEach es X.env := by rfl) (hpl : (backTo pos (starEach es X.env)).any (·.1) = false := by rfl) :
    PE X (.Call (.Name x p) (e :: es) [] pos) (fun σ H Q => t σ H fun vs H1 => sp (vs ++ dvs) H1 Q (E σ)) := by
  refine ⟨fun pins s σ H Q I h => ?_⟩
  refine wpAny_Call_Name_kw (ld_glob I hg hm ?_ hdb)
  refine PySem.W.callWith_K (h₀ := X.base) I.ok.mod.kin hk (thn (ha.run pos pins s σ H _ I h) fun us s1 ⟨vs, H1, I1, r, q⟩ => ⟨I1.kIn, ?_⟩) he hpl
  exact run_fnSD F hr hb hd (hx σ) I1 r q
theorem d_call (c : Cok X W Wx n) (hf : HasF X.prog X.w X.K X.mg X.base W T n x g dvs) (hd : ∀ RA B, RepL W RA B dd dvs) (ha : PA X (e :: es) (tA W Wx fa)) (hg : Gl X x := by rfl)
    (hdb : (x == ("__debug__" : Str)) = false := by decide) (he : starEach (e :: es) X.env = (false, eval e X.env) :: starEach es X.env := by rfl) (hpl : (backTo pos (starEach es X.env)).any (·.1) = false := by rfl) :
    PE X (.Call (.Name x p) (e :: es) [] pos) (tE W Wx (callS (run T n) g dd fa)) := by
  obtain ⟨f, fd, ps, ds, F, hm, hk, hb, hv⟩ := hf.ex
  exact pe_weak (PE.callSD F (c.room.mono (by omega)) hg hm hk hb hv (fun σ => passAt c.tk σ) ha hdb he hpl) (tE_call hd)
theorem f_call (c : Cok X W Wx n) (hf : HasF X.prog X.w X.K X.mg X.base W T n x g dvs) (hd : ∀ RA B, RepL W RA B dd dvs) (ha : PA X (e :: es) (tA W Wx fa)) (hg : Gl X x := by rfl)
    (hdb : (x == ("__debug__" : Str)) = false := by decide) (he : starEach (e :: es) X.env = (false, eval e X.env) :: starEach es X.env := by rfl) (hpl : (backTo pos (starEach es X.env)).any (·.1) = false := by rfl) :
    PE X (.Call (.Name x p) (e :: es) [] pos) (tF W Wx (callN (run T n) g dd fa)) := by
  obtain ⟨f, fd, ps, ds, F, hm, hk, hb, hv⟩ := hf.ex
  exact pe_weak (PE.callSD F (c.room.mono (by omega)) hg hm hk hb hv (fun σ => passAt c.tk σ) ha hdb he hpl) (tF_call hd)
end
end Dd

set_option Elab.async false
set_option linter.all false
set_option maxRecDepth 100000
set_option maxHeartbeats 2000000
/-! DdMut: things that are changed: xs.append(e), xs[i] = e, d[k] = e, by data -/
namespace Dd
open PySem PySem.Spec PyProof.Rows L2 Evl OwnO My

section
variable {W : Wd} {RA : List Addr} {ρ : List D} {B H : Hp} {mu : Nat → Bool}
/-- a root's content has changed -/
theorem Grow.put (b : Base W RA ρ B H) {r : Nat} {a : Addr} {d : D} {o : HO} (hr : RA[r]? = some a) (hm : mu r = true) (h : RootAt W RA B (upd H a o) a d) : Grow W mu RA ρ B H RA (ρ.set r d) B (upd H a o) := by
  have hne : ∀ (i : Nat) (c : Addr), RA[i]? = some c → c = a → i = r := fun i c hi e => by
    subst e
    exact (List.getElem?_inj (List.getElem?_eq_some_iff.mp hi).1 b.nd).mp (hi.trans hr.symm)
  refine ⟨⟨[], by simp⟩, Ex.refl B, ⟨fun c u e => ?_, by simp [b.len], b.nd, b.out, fun i c d' hi hd => ?_⟩, fun c u e k => ?_, fun i c hle hi => ?_, fun c u e => .inl e, fun i _ hi => ?_⟩
  · rw [upd_ne (fun z => by subst z; rw [b.out _ (List.mem_of_getElem? hr)] at e; cases e)]
    exact b.le c u e
  · by_cases hir : i = r
    · subst hir
      rw [hr] at hi; cases hi
      rw [List.getElem?_set_self (by rw [← b.len]; exact (List.getElem?_eq_some_iff.mp hr).1)] at hd
      cases hd
      exact h
    · rw [List.getElem?_set_ne (Ne.symm hir)] at hd
      exact (b.roots i c d' hi hd).mono (Ex.refl B) (fun _ _ q => q) fun o' h' => by
        rw [upd_ne (fun z => hir (hne i c hi z))]; exact h'
  · rw [upd_ne (fun z => by subst z; rw [k r hr] at hm; cases hm)]; exact e
  · rw [List.getElem?_eq_none hle] at hi; cases hi
  · rw [List.getElem?_set_ne (fun z => by subst z; rw [hi] at hm; cases hm)]
theorem Base.rootLst (b : Base W RA ρ B H) {r : Nat} {x : V} {l : List D} (hx : Rep W RA B (.rt r) x) (hd : ρ[r]? = some (.lst l)) : ∃ a vs, x = .ref a ∧ RA[r]? = some a ∧ H a = some (.lst vs) ∧ RepL W RA B l vs := by
  simp only [Rep] at hx
  obtain ⟨a, rfl, ha⟩ := hx
  obtain ⟨vs, h1, h2⟩ := b.roots r a _ ha hd
  exact ⟨a, vs, rfl, ha, h1, h2⟩
theorem Base.rootDct (b : Base W RA ρ B H) {r : Nat} {x : V} {ks : List L2.Key} {l : List D} (hx : Rep W RA B (.rt r) x) (hd : ρ[r]? = some (.dct ks l)) : ∃ a kvs, x = .ref a ∧ RA[r]? = some a ∧ H a = some (.dK kvs) ∧ kvs.map (·.1) = ks ∧ RepL W RA B l (kvs.map (·.2)) := by
  simp only [Rep] at hx
  obtain ⟨a, rfl, ha⟩ := hx
  obtain ⟨vs, h1, h2⟩ := b.roots r a _ ha hd
  exact ⟨a, vs, rfl, ha, h1, h2⟩
end
def maxN : Nat := 100000
/-- xs.append(e) -/
def appS (f g : EF) : SF := fun mu ρ σ => withE (f ρ σ) ρ σ fun x => match x with
  | .rt r => match ρ[r]? with
    | some (.lst l) => withE (g ρ σ) ρ σ fun y => if mu r = true ∧ l.length < 100000 then .nx (ρ.set r (.lst (l ++ [y]))) σ else .bad
    | _ => .bad
  | _ => .bad
def dput (ks : List L2.Key) (l : List D) (k : L2.Key) (d : D) : List L2.Key × List D := if (ks.any fun k' => decide (k' = k)) = true then (ks, List.zipWith (fun k' x => if k' = k then d else x) ks l) else (ks ++ [k], l ++ [d])
/-- o[i] = e, of a list or dict; e first -/
def setS (f g h : EF) : SF := fun mu ρ σ => withE (f ρ σ) ρ σ fun y => withE (g ρ σ) ρ σ fun x => withE (h ρ σ) ρ σ fun i => match x with
  | .rt r => match ρ[r]? with
    | some (.lst l) => match i with
      | .int k => match ixN l.length k with
        | some j => if mu r = true then .nx (ρ.set r (.lst (l.set j y))) σ else .bad
        | none => .bad
      | _ => .bad
    | some (.dct ks l) => match keyD (dr ρ i) with
      | some k => if mu r = true ∧ ks.length < 100000 then .nx (ρ.set r (.dct (dput ks l k y).1 (dput ks l k y).2)) σ else .bad
      | none => .bad
    | _ => .bad
  | _ => .bad
theorem any_map_fst {kvs : List (L2.Key × V)} {k : L2.Key} : (kvs.any fun kv => decide (kv.1 = k)) = ((kvs.map (·.1)).any fun k' => decide (k' = k)) := by
  induction kvs with
  | nil => rfl
  | cons p r ih => simp only [List.any_cons, List.map_cons, ih]
theorem putK_fst {kvs : List (L2.Key × V)} {k : L2.Key} {v : V} {l : List D} {d : D} : (putK kvs k v).map (·.1) = (dput (kvs.map (·.1)) l k d).1 := by
  unfold putK dput
  rw [any_map_fst]
  split
  · simp only [List.map_map]
    apply List.map_congr_left
    intro x _
    simp only [Function.comp]
    split <;> rfl
  · simp
theorem rep_zw {W : Wd} {RA : List Addr} {B : Hp} {k : L2.Key} {d : D} {v : V} (hd : Rep W RA B d v) : ∀ {kvs : List (L2.Key × V)} {l : List D}, RepL W RA B l (kvs.map (·.2)) →
    RepL W RA B (List.zipWith (fun k' x => if k' = k then d else x) (kvs.map (·.1)) l) ((kvs.map fun kv => if kv.1 = k then (kv.1, v) else kv).map (·.2))
  | [], l, h => by
    have := h.len
    simp at this
    simp [this]
    exact .nil
  | p :: r, [], h => by have := h.len; simp at this
  | p :: r, x :: l, h => by
    obtain ⟨v', us, e1, h1, h2⟩ := h.uncons
    simp only [List.map_cons, List.cons.injEq] at e1
    obtain ⟨e1, e2⟩ := e1
    subst e1 e2
    simp only [List.map_cons, List.zipWith_cons_cons]
    by_cases c : p.1 = k
    · simp only [c, if_true]
      exact .cons hd (rep_zw hd h2)
    · simp only [c, if_false]
      exact .cons h1 (rep_zw hd h2)
theorem putK_snd {W : Wd} {RA : List Addr} {B : Hp} {kvs : List (L2.Key × V)} {k : L2.Key} {v : V} {l : List D} {d : D} (h : RepL W RA B l (kvs.map (·.2))) (hd : Rep W RA B d v) : RepL W RA B (dput (kvs.map (·.1)) l k d).2 ((putK kvs k v).map (·.2)) := by
  unfold putK dput
  rw [any_map_fst]
  split
  · exact rep_zw hd h
  · simp only [List.map_append, List.map_cons, List.map_nil]
    exact h.append (.cons hd .nil)
/-- one of two stores -/
theorem set_two {X : Cx} {t u : TSet} (h1 : PSet X t) (h2 : PSet X u) : PSet X fun o i v H Q => t o i v H Q ∨ u o i v H Q := fun pins s σ H o i v ov iv uv Q I ro ri rv h => h.elim (fun h => h1 pins s σ H o i v ov iv uv Q I ro ri rv h) (fun h => h2 pins s σ H o i v ov iv uv Q I ro ri rv h)
section
variable {X : Cx} {W : Wd} {Wx : WX} {o e i : Expr} {es : List Expr} {f g h : EF} {apos cpos pos spos : Pos}
theorem ds_app (hfo : PE X o (tE W Wx f)) (he : PE X e (tE W Wx g))
    (hbase : attributeBase o "append" X.env (eval o X.env) = eval o X.env := by rfl)
    (hfew : ((backTo cpos (starEach [e] X.env)).all (fun x => !x.1) && (backToKw cpos (keywordEach [] X.env)).all (fun x => x.1.isSome)
      && decide ([e].length + ([] : List Keyword).length + (if ([] : List Keyword).isEmpty then 0 else 1) < 30)) = true := by rfl)
    (hline : (apos.endLine == cpos.line) = true := by rfl) (hs : starEach [e] X.env = (false, eval e X.env) :: starEach [] X.env := by rfl) (hplain : (backTo cpos (starEach [] X.env)).any (·.1) = false := by rfl)
    (hsw : swapsWith (.Call (.Attribute o "append" apos) [e] [] cpos) none spos.line X.env = pure false := by rfl) :
    PSd X W Wx (.Expr (.Call (.Attribute o "append" apos) [e] [] cpos) spos) (appS f g) := fun mu =>
  ps_weak (ps_expr (pe_bm PySem.F.plainAttrs_list PySem.F.slot_list_append PySem.F.type_list_append mt_append hfo (pa_cons he pa_nil hs) hbase hfew hline hs hplain) hsw) fun Dn σ H ⟨RA, ρ, σd, B, b, l, q⟩ =>
  ⟨RA, ρ, σd, B, b, l, (Done.withE b l q).imp fun x B1 H1 a1 q1 v rv => by
    split at q1
    · rename_i r
      split at q1
      · rename_i l1 e1
        obtain ⟨p, vs, rfl, hr, hp, hv⟩ := a1.base.rootLst rv e1
        refine ⟨.inl ⟨rfl, _, sq_of hp⟩, RA, ρ, σd, B1, a1.base, l.ex a1.bl, (Done.withE a1.base (l.ex a1.bl) q1).imp fun y B2 H2 a2 q2 u ru => ?_⟩
        split at q2
        · rename_i hc
          have hp2 := a2.hp p _ hp
          refine ⟨p, vs, u, rfl, rfl, hp2, sz_lt (by rw [← hv.len]; exact hc.2), ?_⟩
          refine q2 RA B2 _ σ (Grow.put a2.base hr hc.1 ⟨vs ++ [u], upd_same, (hv.ex a2.bl).append (.cons ru .nil)⟩) ((l.ex a1.bl).ex a2.bl)
        · exact q2.elim
      · exact q1.elim
    · exact q1.elim⟩
theorem ds_setIx (hfo : PE X o (tE W Wx g)) (hi : PE X i (tE W Wx h)) (he : PE X e (tE W Wx f)) (hu : X.A.units + 1 < cLine) (hs : swapsWithSole [.Subscript o i apos] e pos.line X.env = pure false := by rfl) (hw : swappedStores [.Subscript o i apos] e X.env = pure none := by rfl)
    (h1 : (assignEach [.Subscript o i apos] X.env).map (·.2) = [assign (.Subscript o i apos) X.env] := by rfl)
    (ha : ∀ v, assign (.Subscript o i apos) X.env v = (do
      let ov ← holding [v] (eval o X.env)
      let iv ← holding [v, ov] (eval i X.env)
      standAt apos
      holding [v, ov, iv] (setItem ov iv v)
      release [v, ov, iv] []) := by intro _; rfl) : PSd X W Wx (.Assign [.Subscript o i apos] e pos) (setS f g h) := fun mu =>
  ps_weak (ps_asg he (pg_sub hfo hi (set_two set_list (set_dict hu)) ha) hs hw h1) fun Dn σ H ⟨RA, ρ, σd, B, b, l, q⟩ =>
  ⟨RA, ρ, σd, B, b, l, (Done.withE b l q).imp fun y B1 H1 a1 q1 u ru => ⟨RA, ρ, σd, B1, a1.base, l.ex a1.bl, (Done.withE a1.base (l.ex a1.bl) q1).imp fun x B2 H2 a2 q2 v rv => 
    ⟨RA, ρ, σd, B2, a2.base, (l.ex a1.bl).ex a2.bl, (Done.withE a2.base ((l.ex a1.bl).ex a2.bl) q2).imp fun k B3 H3 a3 q3 z rz => by
    have l3 := ((l.ex a1.bl).ex a2.bl).ex a3.bl
    have ru3 := (ru.ex a2.bl).ex a3.bl
    have rv3 := rv.ex a3.bl
    split at q3
    · rename_i r
      split at q3
      · rename_i l1 e1
        obtain ⟨p, vs, rfl, hr, hp, hv⟩ := a3.base.rootLst rv3 e1
        split at q3
        · rename_i ki
          split at q3
          · rename_i j ej
            split at q3
            · rename_i hm
              simp only [Rep] at rz
              refine .inl ⟨p, vs, ki, j, rfl, rz, hp, by rw [← hv.len]; exact ej, ?_⟩
              exact q3 RA B3 _ σ (Grow.put a3.base hr hm ⟨_, upd_same, hv.set ru3 j⟩) l3
            · exact q3.elim
          · exact q3.elim
        · exact q3.elim
      · rename_i ks l1 e1
        obtain ⟨p, kvs, rfl, hr, hp, hk, hv⟩ := a3.base.rootDct rv3 e1
        split at q3
        · rename_i kk ek
          split at q3
          · rename_i hm
            have ez := keyD_V a3.base rz ek
            subst hk
            refine .inr ⟨p, _, rfl, ?_, q3 RA B3 _ σ (Grow.put a3.base hr hm.1 ⟨_, upd_same, putK_fst, putK_snd hv ru3⟩) l3⟩
            rw [ez]
            exact DPut.k hp (sz_lt (by have := hm.2; simpa using this))
          · exact q3.elim
        · exact q3.elim
      · exact q3.elim
    · exact q3.elim⟩⟩⟩
end
end Dd

set_option Elab.async false
set_option linter.all false
set_option maxRecDepth 100000
set_option maxHeartbeats 2000000
/-! DdIter2: what is walked: lists, tuples or texts; zip, enumerate, reversed, range with a step -/
namespace Dd
open PySem PySem.Spec PyProof.Rows L2 Evl OwnO My

def seqD : D → Option (List D)
  | .lst l => some l
  | .scr l => some l
  | _ => none
def tupD : D → Option (List D)
  | .tup l => some l
  | _ => none
section
variable {W : Wd} {RA : List Addr} {ρ : List D} {B H : Hp} {d : D} {v : V} {l : List D}
/-- what stands while the roots lk stay -/
def Stay (W : Wd) (RA : List Addr) (B H : Hp) (lk : List Nat) (P : Hp → Prop) : Prop := ∀ (RA' : List Addr) (ρ' : List D) (B' H' : Hp), Base W RA' ρ' B' H' → Ex B B' → (∀ r ∈ lk, ∀ a o, RA[r]? = some a → H a = some o → H' a = some o) → P H'
theorem seq_stay (b : Base W RA ρ B H) (r : Rep W RA B d v) (e : seqD (dr ρ d) = some l) : ∃ a vs, v = .ref a ∧ RepL W RA B l vs ∧ SqL W.K H a vs ∧ Stay W RA B H (lockD d) fun H' => SqL W.K H' a vs := by
  cases d with
  | rt q =>
    obtain ⟨p, d', rfl, e', ra⟩ := view_rt b r
    rw [e'] at e
    cases d' with
    | lst l1 =>
      cases e
      obtain ⟨vs, h1, h2⟩ := ra
      simp only [Rep] at r
      obtain ⟨p', ep, hp'⟩ := r
      cases ep
      exact ⟨p, vs, rfl, h2, sq_of h1, fun RA' ρ' B' H' b' e hk => sq_of (hk q (by simp [lockD]) p _ hp' h1)⟩
    | dct _ _ => cases e
    | ins _ _ => cases e
    | _ => exact False.elim ra
  | lst l1 =>
    cases e
    obtain ⟨p, vs, rfl, h1, h2⟩ := (by simpa only [Rep] using r : ∃ a vs, v = .ref a ∧ B a = some (.lst vs) ∧ RepL W RA B l vs)
    exact ⟨p, vs, rfl, h2, sq_of (b.le p _ h1), fun RA' ρ' B' H' b' e hk => sq_of (b'.le p _ (e p _ h1))⟩
  | scr l1 =>
    cases e
    obtain ⟨p, vs, rfl, h1, h2⟩ := (by simpa only [Rep] using r : ∃ a vs, v = .ref a ∧ SqL W.K B a vs ∧ RepL W RA B l vs)
    exact ⟨p, vs, rfl, h2, ex_l b.le h1, fun RA' ρ' B' H' b' e hk => ex_l (e.trans b'.le) h1⟩
  | _ => cases e
theorem tup_stay (b : Base W RA ρ B H) (r : Rep W RA B d v) (e : tupD (dr ρ d) = some l) : ∃ a vs, v = .ref a ∧ RepL W RA B l vs ∧ SqT W.K H a vs ∧ Stay W RA B H [] fun H' => SqT W.K H' a vs := by
  cases d with
  | rt q =>
    obtain ⟨p, d', rfl, e', ra⟩ := view_rt b r
    rw [e'] at e
    cases d' with
    | lst l1 => cases e
    | dct _ _ => cases e
    | ins _ _ => cases e
    | _ => exact False.elim ra
  | tup l1 =>
    cases e
    obtain ⟨p, vs, rfl, h1, h2⟩ := (by simpa only [Rep] using r : ∃ a vs, v = .ref a ∧ SqT W.K B a vs ∧ RepL W RA B l vs)
    exact ⟨p, vs, rfl, h2, ex_t b.le h1, fun RA' ρ' B' H' b' e hk => ex_t (e.trans b'.le) h1⟩
  | _ => cases e
theorem Stay.mono {lk lk' : List Nat} {P : Hp → Prop} {B0 H0 : Hp} (a : Aft W RA ρ B0 H0 B H) (h : Stay W RA B0 H0 lk P) (hs : ∀ r ∈ lk, r ∈ lk') : Stay W RA B H lk' P := fun RA' ρ' B' H' b' e hk => h RA' ρ' B' H' b' (a.bl.trans e) fun r hr x o h1 h2 => hk r (hs r hr) x o h1 (a.hp x o h2)
theorem Stay.sub {lk lk' : List Nat} {P : Hp → Prop} (h : Stay W RA B H lk P) (hs : ∀ r ∈ lk, r ∈ lk') : Stay W RA B H lk' P := fun RA' ρ' B' H' b' e hk => h RA' ρ' B' H' b' e fun r hr => hk r (hs r hr)
/-- walked items that were there before -/
theorem it_old {J : It} {lk : List Nat} {vs : List V} (hl : RepL W RA B l vs) {P : Hp → Prop} (hs : Stay W RA B H lk P) (hg : ∀ i x H', P H' → vs[i]? = some x → J.go i H') (hy : ∀ i x H' y H'', P H' → vs[i]? = some x → J.yld i H' y H'' → H'' = H' ∧ y = x) (hd : ∀ i H', P H' → vs.length ≤ i → J.stop i H') : ItOk W RA B H J l lk := fun i RA' ρ' B' H' b' e hr hk => by
  have hP := hs RA' ρ' B' H' b' e hk
  refine ⟨fun d hd' => ?_, fun hle => hd i H' hP (by rw [← hl.len]; exact hle)⟩
  obtain ⟨v, hv, rv⟩ := hl.get hd'
  refine ⟨hg i v H' hP hv, fun x H'' y => ?_⟩
  obtain ⟨rfl, rfl⟩ := hy i v H' x H'' hP hv y
  exact ⟨B', .refl b', Rep.mono e hr d _ rv⟩
theorem it_lst {lk : List Nat} {a : Addr} {vs : List V} (hl : RepL W RA B l vs) (hs : Stay W RA B H lk fun H' => SqL W.K H' a vs) : ItOk W RA B H (Itl W.K a) l lk :=
  it_old hl hs (fun i x H' h hx => ⟨vs, x, h, hx⟩) (fun i x H' y H'' h hx yl => ⟨yl.1, by have := yl.2 vs h; rw [hx] at this; cases this; rfl⟩) fun i H' h hle => ⟨vs, h, hle⟩
theorem it_tup {lk : List Nat} {a : Addr} {vs : List V} (hl : RepL W RA B l vs) (hs : Stay W RA B H lk fun H' => SqT W.K H' a vs) : ItOk W RA B H (Itt W.K a) l lk :=
  it_old hl hs (fun i x H' h hx => ⟨vs, x, h, hx⟩) (fun i x H' y H'' h hx yl => ⟨yl.1, by have := yl.2 vs h; rw [hx] at this; cases this; rfl⟩) fun i H' h hle => ⟨vs, h, hle⟩
theorem it_str {s : Str} : ItOk W RA B H (Its s) (s.cps.toList.map fun c => .str ⟨#[c]⟩) [] := fun i RA' ρ' B' H' b' e hr hk => by
  refine ⟨fun d hd => ?_, fun hle => by show s.cps.size ≤ i; simpa using hle⟩
  rw [List.getElem?_map] at hd
  obtain ⟨c, hc, rfl⟩ := Option.map_eq_some_iff.mp hd
  have hc' : s.cps[i]? = some c := by simpa using hc
  refine ⟨(Array.getElem?_eq_some_iff.mp hc').1, fun x H'' y => ?_⟩
  obtain ⟨rfl, c', h1, rfl⟩ := y
  rw [hc'] at h1
  cases h1
  exact ⟨B', .refl b', rep_str⟩
/-- a new pair -/
theorem aft_pair {RA' : List Addr} {ρ' : List D} {B' H' : Hp} {T : Addr} {x y : V} {d1 d2 : D} (b : Base W RA' ρ' B' H') (hT : H' T = none) (r1 : Rep W RA' B' d1 x) (r2 : Rep W RA' B' d2 y) : ∃ B'', Aft W RA' ρ' B' H' B'' (upd H' T (.tup [x, y])) ∧ Rep W RA' B'' (.tup [d1, d2]) (.ref T) := by
  have a := Aft.laid (o := .tup [x, y]) b hT
  refine ⟨_, a, ?_⟩
  simp only [Rep]
  exact ⟨T, [x, y], rfl, SqT.of upd_same, .cons (r1.ex a.bl) (.cons (r2.ex a.bl) .nil)⟩
def zipL (l m : List D) : List D := List.zipWith (fun a b => D.tup [a, b]) l m
theorem zipL_get {l m : List D} {i : Nat} {d : D} (h : (zipL l m)[i]? = some d) : ∃ x y, l[i]? = some x ∧ m[i]? = some y ∧ d = .tup [x, y] := by
  unfold zipL at h
  rw [List.getElem?_zipWith] at h
  cases h1 : l[i]? with
  | none => rw [h1] at h; cases h
  | some x =>
    cases h2 : m[i]? with
    | none => rw [h1, h2] at h; cases h
    | some y => rw [h1, h2] at h; cases h; exact ⟨x, y, rfl, rfl, rfl⟩
theorem it_zip {lk lk' : List Nat} {a c : Addr} {vs us : List V} {m : List D} (hl : RepL W RA B l vs) (hm : RepL W RA B m us) (hs : Stay W RA B H lk fun H' => SqL W.K H' a vs) (hs' : Stay W RA B H lk' fun H' => SqL W.K H' c us) : ItOk W RA B H (Itz W.K a c) (zipL l m) (lk ++ lk') := fun i RA' ρ' B' H' b' e hr hk => by
  have h1 := hs RA' ρ' B' H' b' e fun r hr => hk r (List.mem_append_left _ hr)
  have h2 := hs' RA' ρ' B' H' b' e fun r hr => hk r (List.mem_append_right _ hr)
  refine ⟨fun d hd => ?_, fun hle => ⟨vs, us, h1, h2, by have e1 := hl.len; have e2 := hm.len; unfold zipL at hle; rw [List.length_zipWith] at hle; omega⟩⟩
  obtain ⟨x, y, hx, hy, rfl⟩ := zipL_get hd
  obtain ⟨v, hv, rv⟩ := hl.get hx
  obtain ⟨u, hu, ru⟩ := hm.get hy
  refine ⟨⟨vs, us, v, u, h1, h2, hv, hu⟩, fun z H'' yl => ?_⟩
  obtain ⟨T, x', y', rfl, hT, rfl, f1, f2⟩ := yl
  have := f1 vs h1; rw [hv] at this; cases this
  have := f2 us h2; rw [hu] at this; cases this
  exact aft_pair b' hT (Rep.mono e hr _ _ rv) (Rep.mono e hr _ _ ru)
theorem it_zipT {lk lk' : List Nat} {a c : Addr} {vs us : List V} {m : List D} (hl : RepL W RA B l vs) (hm : RepL W RA B m us) (hs : Stay W RA B H lk fun H' => SqT W.K H' a vs) (hs' : Stay W RA B H lk' fun H' => SqT W.K H' c us) : ItOk W RA B H (RZ.ItzT W.K a c) (zipL l m) (lk ++ lk') := fun i RA' ρ' B' H' b' e hr hk => by
  have h1 := hs RA' ρ' B' H' b' e fun r hr => hk r (List.mem_append_left _ hr)
  have h2 := hs' RA' ρ' B' H' b' e fun r hr => hk r (List.mem_append_right _ hr)
  refine ⟨fun d hd => ?_, fun hle => ⟨vs, us, h1, h2, by have e1 := hl.len; have e2 := hm.len; unfold zipL at hle; rw [List.length_zipWith] at hle; omega⟩⟩
  obtain ⟨x, y, hx, hy, rfl⟩ := zipL_get hd
  obtain ⟨v, hv, rv⟩ := hl.get hx
  obtain ⟨u, hu, ru⟩ := hm.get hy
  refine ⟨⟨vs, us, v, u, h1, h2, hv, hu⟩, fun z H'' yl => ?_⟩
  obtain ⟨T, x', y', rfl, hT, rfl, f1, f2⟩ := yl
  have := f1 vs h1; rw [hv] at this; cases this
  have := f2 us h2; rw [hu] at this; cases this
  exact aft_pair b' hT (Rep.mono e hr _ _ rv) (Rep.mono e hr _ _ ru)
def enumL (l : List D) : List D := zipL (rngL 0 l.length) l
theorem enumL_get {l : List D} {i : Nat} {d : D} (h : (enumL l)[i]? = some d) : ∃ y, l[i]? = some y ∧ d = .tup [.int (i : Nat), y] := by
  obtain ⟨x, y, h1, h2, rfl⟩ := zipL_get h
  obtain ⟨_, rfl⟩ := rngL_get h1
  exact ⟨y, h2, by simp⟩
theorem it_enum {lk : List Nat} {a : Addr} {vs : List V} (hl : RepL W RA B l vs) (hs : Stay W RA B H lk fun H' => SqL W.K H' a vs) : ItOk W RA B H (Ite W.K a) (enumL l) lk := fun i RA' ρ' B' H' b' e hr hk => by
  have h1 := hs RA' ρ' B' H' b' e hk
  refine ⟨fun d hd => ?_, fun hle => ⟨vs, h1, by have e1 := hl.len; unfold enumL zipL at hle; rw [List.length_zipWith, rngL_len] at hle; omega⟩⟩
  obtain ⟨y, hy, rfl⟩ := enumL_get hd
  obtain ⟨v, hv, rv⟩ := hl.get hy
  refine ⟨⟨vs, v, h1, hv⟩, fun z H'' yl => ?_⟩
  obtain ⟨T, x', rfl, hT, rfl, f1⟩ := yl
  have := f1 vs h1; rw [hv] at this; cases this
  exact aft_pair b' hT rep_int (Rep.mono e hr _ _ rv)
theorem rev_get {vs : List V} {i : Nat} (hi : i < vs.length) : vs.reverse[i]? = vs[vs.length - 1 - i]? := by
  rw [List.getElem?_reverse hi]
theorem RepL.reverse : ∀ {l : List D} {vs : List V}, RepL W RA B l vs → RepL W RA B l.reverse vs.reverse
  | [], vs, h => by rw [h.unnil]; exact .nil
  | d :: l, vs, h => by
    obtain ⟨v, us, rfl, h2, h3⟩ := h.uncons
    rw [List.reverse_cons, List.reverse_cons]
    exact (RepL.reverse h3).append (.cons h2 .nil)
theorem it_rev {lk : List Nat} {a : Addr} {vs : List V} (hl : RepL W RA B l vs) (hs : Stay W RA B H lk fun H' => SqL W.K H' a vs) : ItOk W RA B H (Itv W.K a vs.length) l.reverse lk :=
  it_old hl.reverse hs (fun i x H' h hx => by
    have hi : i < vs.length := by have := (List.getElem?_eq_some_iff.mp hx).1; simpa using this
    rw [rev_get hi] at hx
    exact ⟨hi, vs, x, h, hx⟩) (fun i x H' y H'' h hx yl => by
    have hi : i < vs.length := by have := (List.getElem?_eq_some_iff.mp hx).1; simpa using this
    rw [rev_get hi] at hx
    refine ⟨yl.1, ?_⟩
    have := yl.2 vs h
    rw [hx] at this; cases this; rfl) fun i H' h hle => by show vs.length ≤ i; simpa using hle
theorem it_revT {lk : List Nat} {a : Addr} {vs : List V} (hl : RepL W RA B l vs) (hs : Stay W RA B H lk fun H' => SqT W.K H' a vs) : ItOk W RA B H (RT.ItvT W.K a vs.length) l.reverse lk :=
  it_old hl.reverse hs (fun i x H' h hx => by
    have hi : i < vs.length := by have := (List.getElem?_eq_some_iff.mp hx).1; simpa using this
    rw [rev_get hi] at hx
    exact ⟨hi, vs, x, h, hx⟩) (fun i x H' y H'' h hx yl => by
    have hi : i < vs.length := by have := (List.getElem?_eq_some_iff.mp hx).1; simpa using this
    rw [rev_get hi] at hx
    refine ⟨yl.1, ?_⟩
    have := yl.2 vs h
    rw [hx] at this; cases this; rfl) fun i H' h hle => by show vs.length ≤ i; simpa using hle
def rng3L (lo c : Int) (n : Nat) : List D := (List.range n).map fun i => .int (lo + (i : Nat) * c)
theorem it_rng3 {lo c : Int} {n : Nat} : ItOk W RA B H (Itc lo c n) (rng3L lo c n) [] := fun i RA' ρ' B' H' b' e hr hk => by
  refine ⟨fun d hd => ?_, fun hle => by show n ≤ i; simpa [rng3L] using hle⟩
  unfold rng3L at hd
  rw [List.getElem?_map] at hd
  obtain ⟨j, hj, rfl⟩ := Option.map_eq_some_iff.mp hd
  obtain ⟨h1, h2⟩ := List.getElem?_eq_some_iff.mp hj
  simp at h1 h2
  subst h2
  refine ⟨h1, fun x H'' y => ?_⟩
  obtain ⟨rfl, rfl⟩ := y
  exact ⟨B', .refl b', rep_int⟩
end

/-- a list, a tuple or a text -/
def itI (f : EF) : IF := fun ρ σ => (f ρ σ).bind fun d => match dr ρ d with
  | .lst l => .ok (l, lockD d)
  | .scr l => .ok (l, lockD d)
  | .tup l => .ok (l, [])
  | .str s => .ok (s.cps.toList.map fun c => .str ⟨#[c]⟩, [])
  | _ => .bad
def zipI (f g : EF) : IF := fun ρ σ => (f ρ σ).bind fun x => (g ρ σ).bind fun y => match tupD (dr ρ x), tupD (dr ρ y) with
  | some l, some m => .ok (zipL l m, [])
  | _, _ => match seqD (dr ρ x), seqD (dr ρ y) with
    | some l, some m => .ok (zipL l m, lockD x ++ lockD y)
    | _, _ => .bad
def enumI (f : EF) : IF := fun ρ σ => (f ρ σ).bind fun x => match seqD (dr ρ x) with
  | some l => .ok (enumL l, lockD x)
  | none => .bad
def revI (f : EF) : IF := fun ρ σ => (f ρ σ).bind fun x => match tupD (dr ρ x) with
  | some l => .ok (l.reverse, [])
  | none => match seqD (dr ρ x) with
    | some l => .ok (l.reverse, lockD x)
    | none => .bad
def rng3I (f g h : EF) : IF := fun ρ σ => (f ρ σ).bind fun x => (g ρ σ).bind fun y => (h ρ σ).bind fun z => match dr ρ x, dr ρ y, dr ρ z with
  | .int i, .int j, .int c => if c ≠ 0 ∧ c.natAbs < 1073741824 ∧ Builtin.Range.small i j c = true ∧ 0 ≤ Builtin.Range.rangeSize i j c then .ok (rng3L i c (Builtin.Range.rangeSize i j c).toNat, []) else .bad
  | _, _, _ => .bad
section
variable {X : Cx} {W : Wd} {Wx : WX} {tg e a b c : Expr} {f g h : EF} {pos p : Pos}
theorem pi_or {t u : TI} (h1 : PI X tg e t) (h2 : PI X tg e u) : PI X tg e fun σ H R => t σ H R ∨ u σ H R := ⟨fun pins s σ H R I h => h.elim (h1.run pins s σ H R I) (h2.run pins s σ H R I)⟩
theorem Aw.bind2 {α β : Type} {RA : List Addr} {ρ : List D} {σ : L2.St} {B H : Hp} {r : Res α} {f : α → Res β} {P : β → Hp → Hp → Prop} (hq : Aw W Wx RA ρ σ B H (r.bind f) P) {P2 : α → Hp → Hp → Prop} (k : ∀ x, r = .ok x → ∀ B' H', Aft W RA ρ B H B' H' → Aw W Wx RA ρ σ B' H' (f x) P → P2 x B' H') : Aw W Wx RA ρ σ B H r P2 := by
  cases r with
  | ok x => exact fun B' H' a => k x rfl B' H' a (Aw.mono a hq)
  | exc c fs => exact hq
  | bad => exact hq
theorem aw_ok {α : Type} {RA : List Addr} {ρ : List D} {σ : L2.St} {B H : Hp} {x : α} {P : α → Hp → Hp → Prop} (b : Base W RA ρ B H) (h : Aw W Wx RA ρ σ B H (.ok x) P) : P x B H := h B H (.refl b)
theorem d_itI (hK : X.K = W.K) (he : PE X e (tE W Wx f)) : PI X tg e (tI W Wx (itI f)) := pi_weak (pi_or (pi_list he) (pi_or (pi_tup he) (pi_str he))) fun σ H R ⟨RA, ρ, σd, B, b, l, q⟩ => by
  unfold itI at q
  cases hf : f ρ σd with
  | bad => rw [hf] at q; exact q.elim
  | exc c fs => rw [hf] at q; exact .inl ⟨RA, ρ, σd, B, b, l, by rw [hf]; exact q⟩
  | ok d =>
    rw [hf] at q
    simp only [Res.bind] at q
    split at q
    · rename_i l1 e1
      refine .inl ⟨RA, ρ, σd, B, b, l, ?_⟩
      rw [hf]
      intro B1 H1 a1 v rv
      obtain ⟨a, vs, rfl, hv, hs, st⟩ := seq_stay a1.base rv (by rw [e1]; rfl)
      exact ⟨a, rfl, by rw [hK]; exact ⟨vs, hs⟩, by rw [hK]; exact q B1 H1 a1 _ (it_lst hv st)⟩
    · rename_i l1 e1
      refine .inl ⟨RA, ρ, σd, B, b, l, ?_⟩
      rw [hf]
      intro B1 H1 a1 v rv
      obtain ⟨a, vs, rfl, hv, hs, st⟩ := seq_stay a1.base rv (by rw [e1]; rfl)
      exact ⟨a, rfl, by rw [hK]; exact ⟨vs, hs⟩, by rw [hK]; exact q B1 H1 a1 _ (it_lst hv st)⟩
    · rename_i l1 e1
      refine .inr (.inl ⟨RA, ρ, σd, B, b, l, ?_⟩)
      rw [hf]
      intro B1 H1 a1 v rv
      obtain ⟨a, vs, rfl, hv, hs, st⟩ := tup_stay a1.base rv (by rw [e1]; rfl)
      exact ⟨a, rfl, by rw [hK]; exact ⟨vs, hs⟩, by rw [hK]; exact q B1 H1 a1 _ (it_tup hv st)⟩
    · rename_i s e1
      refine .inr (.inr ⟨RA, ρ, σd, B, b, l, ?_⟩)
      rw [hf]
      intro B1 H1 a1 v rv
      exact ⟨s, view_str a1.base rv e1, q B1 H1 a1 _ it_str⟩
    · exact q.elim
theorem aw_args {RA : List Addr} {ρ : List D} {σ : L2.St} {B H : Hp} {β : Type} {r : Res D} {k : D → Res β} {P : β → Hp → Hp → Prop} (q : Aw W Wx RA ρ σ B H (r.bind k) P) : Aw W Wx RA ρ σ B H (r.bind fun x => .ok [x]) fun ds B' H' => ∃ x, ds = [x] ∧ Aw W Wx RA ρ σ B' H' (k x) P := by
  cases r with
  | ok x => exact fun B' H' a => ⟨x, rfl, Aw.mono a q⟩
  | exc c fs => exact q
  | bad => exact q
theorem aw_args2 {RA : List Addr} {ρ : List D} {σ : L2.St} {B H : Hp} {β : Type} {r s : Res D} {k : D → D → Res β} {P : β → Hp → Hp → Prop} (q : Aw W Wx RA ρ σ B H (r.bind fun x => s.bind fun y => k x y) P) : Aw W Wx RA ρ σ B H (r.bind fun x => (s.bind fun y => .ok [y]).bind fun xs => .ok (x :: xs)) fun ds B' H' => ∃ x y, ds = [x, y] ∧ Aw W Wx RA ρ σ B' H' (k x y) P := by
  cases r with
  | ok x =>
    cases s with
    | ok y => exact fun B' H' a => ⟨x, y, rfl, Aw.mono a q⟩
    | exc c fs => exact q
    | bad => exact q
  | exc c fs => exact q
  | bad => exact q
theorem aw_args3 {RA : List Addr} {ρ : List D} {σ : L2.St} {B H : Hp} {β : Type} {r s t : Res D} {k : D → D → D → Res β} {P : β → Hp → Hp → Prop} (q : Aw W Wx RA ρ σ B H (r.bind fun x => s.bind fun y => t.bind fun z => k x y z) P) : Aw W Wx RA ρ σ B H (r.bind fun x => (s.bind fun y => (t.bind fun z => .ok [z]).bind fun xs => .ok (y :: xs)).bind fun xs => .ok (x :: xs)) fun ds B' H' => ∃ x y z, ds = [x, y, z] ∧ Aw W Wx RA ρ σ B' H' (k x y z) P := by
  cases r with
  | ok x =>
    cases s with
    | ok y =>
      cases t with
      | ok z => exact fun B' H' a => ⟨x, y, z, rfl, Aw.mono a q⟩
      | exc c fs => exact q
      | bad => exact q
    | exc c fs => exact q
    | bad => exact q
  | exc c fs => exact q
  | bad => exact q
theorem three_of {RA : List Addr} {B : Hp} {d1 d2 d3 : D} {vs : List V} (r : RepL W RA B [d1, d2, d3] vs) : ∃ x y z, vs = [x, y, z] ∧ Rep W RA B d1 x ∧ Rep W RA B d2 y ∧ Rep W RA B d3 z := by
  obtain ⟨x, us, rfl, h1, h2⟩ := r.uncons
  obtain ⟨y, z, rfl, h3, h4⟩ := two_of h2
  exact ⟨x, y, z, rfl, h1, h3, h4⟩
theorem d_zipI {elts : List Expr} {kk : Nat} {tpos : Pos} (hK : X.K = W.K) (hm : X.mg "zip" = none) (ha : PE X a (tE W Wx f)) (hb : PE X b (tE W Wx g)) (hg : Gl X "zip" := by rfl) (hs : starEach [a, b] X.env = (false, eval a X.env) :: starEach [b] X.env := by rfl) (hs2 : starEach [b] X.env = [(false, eval b X.env)] := by rfl) (hpl : (backTo pos (starEach [b] X.env)).any (·.1) = false := by rfl) :
    PI X (.Tuple elts kk tpos) (.Call (.Name "zip" p) [a, b] [] pos) (tI W Wx (zipI f g)) := pi_weak (RZ.pi_zipA hg hm (da_cons ha (da_cons hb da_nil hs2) hs) hs hpl) fun σ H R ⟨RA, ρ, σd, B, b, l, q⟩ => ⟨RA, ρ, σd, B, b, l, (aw_args2 q).imp fun ds B1 H1 a1 q1 vs rv => by
  obtain ⟨x, y, rfl, q1⟩ := q1
  obtain ⟨v, u, rfl, rx, ry⟩ := two_of rv
  split at q1
  · rename_i l1 m1 e1 e2
    obtain ⟨a, vs, rfl, hv, hs, st⟩ := tup_stay a1.base rx e1
    obtain ⟨c, us, rfl, hu, hs', st'⟩ := tup_stay a1.base ry e2
    exact ⟨a, c, vs, us, rfl, .inr ⟨by rw [hK]; exact hs, by rw [hK]; exact hs', by rw [hK]; exact aw_ok a1.base q1 _ (it_zipT hv hu st st')⟩⟩
  · split at q1
    · rename_i l1 m1 e1 e2
      obtain ⟨a, vs, rfl, hv, hs, st⟩ := seq_stay a1.base rx e1
      obtain ⟨c, us, rfl, hu, hs', st'⟩ := seq_stay a1.base ry e2
      exact ⟨a, c, vs, us, rfl, .inl ⟨by rw [hK]; exact hs, by rw [hK]; exact hs', by rw [hK]; exact aw_ok a1.base q1 _ (it_zip hv hu st st')⟩⟩
    · exact q1.elim⟩
theorem d_enumI {elts : List Expr} {kk : Nat} {tpos : Pos} (hK : X.K = W.K) (hm : X.mg "enumerate" = none) (he : PE X e (tE W Wx f)) (hg : Gl X "enumerate" := by rfl) (hs : starEach [e] X.env = [(false, eval e X.env)] := by rfl) :
    PI X (.Tuple elts kk tpos) (.Call (.Name "enumerate" p) [e] [] pos) (tI W Wx (enumI f)) := pi_weak (pi_enum hg hm (da_cons he da_nil hs) hs) fun σ H R ⟨RA, ρ, σd, B, b, l, q⟩ => ⟨RA, ρ, σd, B, b, l, (aw_args q).imp fun ds B1 H1 a1 q1 vs rv => by
  obtain ⟨x, rfl, q1⟩ := q1
  obtain ⟨v, rfl, rx⟩ := one_of rv
  split at q1
  · rename_i l1 e1
    obtain ⟨a, vs, rfl, hv, hs, st⟩ := seq_stay a1.base rx e1
    exact ⟨a, vs, rfl, by rw [hK]; exact hs, by rw [hK]; exact aw_ok a1.base q1 _ (it_enum hv st)⟩
  · exact q1.elim⟩
theorem d_revI (hK : X.K = W.K) (hm : X.mg "reversed" = none) (he : PE X e (tE W Wx f)) (hg : Gl X "reversed" := by rfl) (hs : starEach [e] X.env = [(false, eval e X.env)] := by rfl) :
    PI X tg (.Call (.Name "reversed" p) [e] [] pos) (tI W Wx (revI f)) := pi_weak (RT.pi_revA hg hm he hs) fun σ H R ⟨RA, ρ, σd, B, b, l, q⟩ => ⟨RA, ρ, σd, B, b, l, (Aw.bind q).imp fun x B1 H1 a1 q1 v rx => by
  split at q1
  · rename_i l1 e1
    obtain ⟨a, vs, rfl, hv, hs, st⟩ := tup_stay a1.base rx e1
    exact ⟨a, vs, rfl, .inr ⟨by rw [hK]; exact hs, by rw [hK]; exact aw_ok a1.base q1 _ (it_revT hv st)⟩⟩
  · split at q1
    · rename_i l1 e1
      obtain ⟨a, vs, rfl, hv, hs, st⟩ := seq_stay a1.base rx e1
      exact ⟨a, vs, rfl, .inl ⟨by rw [hK]; exact hs, by rw [hK]; exact aw_ok a1.base q1 _ (it_rev hv st)⟩⟩
    · exact q1.elim⟩
theorem d_rng3 (hm : X.mg "range" = none) (ha : PE X a (tE W Wx f)) (hb : PE X b (tE W Wx g)) (hc : PE X c (tE W Wx h)) (hg : Gl X "range" := by rfl) (hs : starEach [a, b, c] X.env = (false, eval a X.env) :: starEach [b, c] X.env := by rfl) (hs2 : starEach [b, c] X.env = (false, eval b X.env) :: starEach [c] X.env := by rfl) (hs3 : starEach [c] X.env = [(false, eval c X.env)] := by rfl) (hpl : (backTo pos (starEach [b, c] X.env)).any (·.1) = false := by rfl) :
    PI X tg (.Call (.Name "range" p) [a, b, c] [] pos) (tI W Wx (rng3I f g h)) := pi_weak (pi_range3 hg hm (da_cons ha (da_cons hb (da_cons hc da_nil hs3) hs2) hs) hs hpl) fun σ H R ⟨RA, ρ, σd, B, b, l, q⟩ => ⟨RA, ρ, σd, B, b, l, (aw_args3 q).imp fun ds B1 H1 a1 q1 vs rv => by
  obtain ⟨x, y, z, rfl, q1⟩ := q1
  obtain ⟨v, u, t, rfl, rx, ry, rz⟩ := three_of rv
  split at q1
  · rename_i i j k e1 e2 e3
    split at q1
    · rename_i hc
      refine ⟨i, j, k, _, ?_, ⟨hc.1, hc.2.1, hc.2.2.1, (Int.toNat_of_nonneg hc.2.2.2).symm⟩, aw_ok a1.base q1 _ it_rng3⟩
      rw [view_int a1.base rx e1, view_int a1.base ry e2, view_int a1.base rz e3]
    · exact q1.elim
  · exact q1.elim⟩
end
end Dd

set_option Elab.async false
set_option linter.all false
set_option maxRecDepth 100000
set_option maxHeartbeats 2000000
/-! DdStar: (a, .., *r) = a list -/
namespace Dd
open PySem PySem.Spec PyProof.Rows L2 Evl OwnO My

theorem vals_drop : ∀ (k : Nat) {xs : List V} {us : List Value}, Vals xs us → Vals (xs.drop k) (us.drop k)
  | 0, _, _, h => h
  | k + 1, _, _, .nil => .nil
  | k + 1, _, _, .cons _ t => vals_drop k t
theorem vals_take : ∀ (k : Nat) {xs : List V} {us : List Value}, Vals xs us → Vals (xs.take k) (us.take k)
  | 0, _, _, h => .nil
  | k + 1, _, _, .nil => .nil
  | k + 1, _, _, .cons r t => .cons r (vals_take k t)
theorem vals_snoc : ∀ {xs : List V} {us : List Value} {x : V} {u : Value}, Vals xs us → RelV x u → Vals (xs ++ [x]) (us ++ [u])
  | _, _, _, _, .nil, r => .cons r .nil
  | _, _, _, _, .cons r' t, r => .cons r' (vals_snoc t r)
section
variable {prog : Program} {w : World} {A : Around} {E : Value → Shared → Prop} {s : Shared}
theorem walks_from (hh : A.handled = none) (I ax : Addr) (hne : ax ≠ I) (items : Array Value) (k : Nat) (hk : k ≤ items.size) :
    Walks prog w A I [I, ax] [I] (items.size - k) (fun i v => items[k + i]? = some v) (fun i h => h.IsListIter I ax (k + i) ∧ h.IsList ax items) where
  sub := fun b hb => by simp at hb; simp [hb]
  frame := fun _ _ _ st hk => ⟨st.1.at fun o e => hk I (by simp) o e, st.2.at fun o e => hk ax (by simp) o e⟩
  item := fun i s Q E hi st hQ => by
    refine wpAny_pyNext_list_item st.1 st.2 (x := items[k + i]'(by omega)) (by simp) fun h' hit' hs' => ?_
    exact hQ _ h' s.toks (by simp) ⟨by rw [← Nat.add_assoc]; exact hit', st.2.extBut hs'.extBut hne⟩ fun b o hb e => hs'.extBut b o (fun h => hb (by simp [h])) e
  done := fun s Q E st hQ => wpAny_pyNext_list_end hh st.1 st.2 (by simp; omega) fun h' he' => hQ h' s.toks fun b o hb e => he' b o (fun h => hb (by simp [h])) e
  self := fun _ _ _ _ st hQ => wpAny_pyIter_listiter st.1 hQ
/-- the first k items, and a new list of the others -/
theorem unpack_star {l : Addr} {items : Array Value} {k : Nat} {Q : List Value → Shared → Prop} (hh : A.handled = none) (hl : s.heap.IsList l items) (hk : k ≤ items.size) (hz : items.size ≤ sizeLine)
    (hQ : ∀ (h' : Heap) (t' : Nat), (∀ b o, s.heap.get? b = some o → h'.get? b = some o) → Q (items.toList.take k ++ [.ref h'.objs.size]) { s with heap := h'.push { cls := .type "list", data := .seq (items.toList.drop k).toArray }, toks := t' }) :
    wpAny (model prog w) A (unpackItems (.ref l) (k + 1) (some k)) Q E s := by
  have hlt : l ≠ s.heap.objs.size := by obtain ⟨o, ho, _⟩ := hl; exact Nat.ne_of_lt (Heap.lt_size ho)
  unfold unpackItems
  refine wpAny_bind ?_
  unfold notIterableAtAll
  refine wpAny_bind (wpAny_specialOf hl.typeIs PySem.F.slot_list_iter.lookup ?_)
  refine wpAny_pure ?_
  simp only [Bool.false_eq_true, if_false]
  refine wpAny_bind (wpAny_holding (wpAny_pyIter_list hl ?_))
  refine wpAny_bind (wpAny_holding (PySem.W.kun_draw hlt k 0 _ _ ⟨_, Heap.get?_push_size _ rfl, rfl, rfl⟩ (hl.push _) (by omega) fun h₁ hit₁ hs₁ => ?_))
  have hall : (List.take k (List.drop 0 items.toList)).length = k := by rw [List.drop_zero]; simp; omega
  rw [if_neg (by rw [hall]; omega)]
  have hl₁ : h₁.IsList l items := (hl.push _).extBut hs₁.extBut hlt
  have hI : s.heap.objs.size < h₁.objs.size := by obtain ⟨o, ho, _⟩ := id hit₁; exact Heap.lt_size ho
  have hL : l < h₁.objs.size := by obtain ⟨o, ho, _⟩ := id hl₁; exact Heap.lt_size ho
  refine wpAny_bind (wpAny_holding ?_)
  refine wpAny_collect_iter (T := "list_iterator") (.inr (.inr (.inl rfl))) ((walks_from (prog := prog) (w := w) (A := A.in1) (by exact hh) s.heap.objs.size l hlt items k hk).toS) (fun i s' st => by obtain ⟨o, ho, hc, _⟩ := st.1; exact ⟨o, ho, hc⟩) ⟨by simpa using hit₁, hl₁⟩ (fun b hb => ?_) (by simp) (fun s' acc mv it => ?_) (by omega)
  · simp only [List.mem_cons, List.not_mem_nil, or_false] at hb
    rcases hb with rfl | rfl
    · exact hI
    · exact hL
  · have ea : acc.toList = items.toList.drop k := by
      apply List.ext_getElem?
      intro i
      rw [List.getElem?_drop]
      by_cases hi : i < acc.size
      · have := it.2 i acc[i] (by simp [hi])
        simp only [Array.getElem?_toList]
        rw [this]
        simp [hi]
      · rw [List.getElem?_eq_none (by simpa using hi), List.getElem?_eq_none (by rw [Array.length_toList]; have := it.1; omega)]
    rw [ea]
    have e0 : k + 1 - 1 - k = 0 := by omega
    simp only [e0]
    rw [if_neg (by omega)]
    simp only [Nat.sub_zero, List.take_length, List.drop_length, List.append_nil, List.drop_zero]
    unfold newList
    refine wpAny_bind (wpAny_newObj_type (wpAny_pure ?_) ?hz)
    case hz =>
      show (List.drop k items.toList).toArray.size ≤ sizeLine
      simp
      omega
    have es : s' = { s with heap := s'.heap, toks := s'.toks } := by
      obtain ⟨m1, m2, m3, m4, m5⟩ := mv
      cases s' with
      | mk h' g' d' t' o' =>
        simp only at m2 m3 m4
        rw [m2, m3, m4]
    rw [es]
    exact hQ s'.heap s'.toks fun b o e => mv.heap b o (fun hb => by
      simp only [List.mem_cons, List.not_mem_nil, or_false] at hb
      subst hb
      exact Nat.lt_irrefl _ (Heap.lt_size e)) (hs₁.extBut b o (fun hb => by subst hb; exact Nat.lt_irrefl _ (Heap.lt_size e)) (Heap.get?_push_of_some _ e))
end
/-- (.., *r) = a list: k names ahead -/
def gStar (K : PySem.W.Frag) (k : Nat) (t : TGs) : TG := fun v σ H Q => ∃ a xs, v = .ref a ∧ SqL K H a xs ∧ k ≤ xs.length ∧ ∀ p, H p = none → t (xs.take k ++ [.ref p]) σ (upd H p (.lst (xs.drop k))) Q
theorem pg_star {X : Cx} {pos : Pos} {es : List Expr} {kk k : Nat} {t : TGs} (hc : X.calm = true) (h : PGs X es t) (hn : (assignEach es X.env).length = k + 1 := by rfl) (hst : (assignEach es X.env).findIdx? (·.1) = some k := by rfl) : PG X (.Tuple es kk pos) (gStar X.K k t) := by
  refine ⟨fun pins s σ H v u Q I r hw => ?_⟩
  obtain ⟨a, xs, e1, hq, hk, hw⟩ := hw
  subst e1
  cases r
  obtain ⟨its, rv, pl, hz⟩ := I.list hq
  have hl' : s.heap.IsList a its.toArray := by
    obtain ⟨o, m, e, c, d, q⟩ := pl
    exact ⟨o, e, c, m, q⟩
  rw [PyProof.Rows.assign_Tuple]
  refine wpAny_bind (wpAny_standAt ?_)
  unfold unpack
  rw [hn, hst]
  refine wpAny_bind (wpAny_holding (unpack_star (I.ok.hd hc) hl' (by simp; rw [← rv.length]; exact hk) (by simp; rw [← rv.length]; exact hz) fun h' t' hx => ?_))
  have I1 : Inv X pins σ H { s with heap := h', toks := t' } := I.kept hx
  have hf : H h'.objs.size = none := I1.hok.fresh (Nat.le_refl _)
  have I2 : Inv X pins σ (upd H h'.objs.size (.lst (xs.drop k))) { s with heap := h'.push { cls := .type "list", data := .seq (its.drop k).toArray }, toks := t' } := by
    refine I1.laid (t' := t') (fun b u e => Heap.get?_push_of_some _ e) (Nat.le_refl _) ?_
    exact ⟨by simp only [List.length_drop]; omega, its.drop k, 0, vals_drop k rv, Heap.get?_push_size _ rfl⟩
  refine h.run pins _ σ _ (xs.take k ++ [.ref h'.objs.size]) _ Q (by simpa using I2) ?_ (hw _ hf)
  simpa using vals_snoc (x := .ref h'.objs.size) (u := .ref h'.objs.size) (vals_take k rv) rfl
/-- a, .., *r = e, e a list: n names ahead -/
def starS (n : Nat) (f : EF) (h : List D → List D → Env → Option Env) : SF := fun _ ρ σ => withE (f ρ σ) ρ σ fun d => match seqD (dr ρ d) with
  | some l => if n ≤ l.length then match h ρ (l.take n ++ [.lst (l.drop n)]) σ with
      | some σ' => .nx ρ σ'
      | none => .bad
    else .bad
  | none => .bad
theorem ds_star {X : Cx} {W : Wd} {Wx : WX} {es : List Expr} {e : Expr} {f : EF} {h : List D → List D → Env → Option Env} {ws : List Nat} {kk n : Nat} {pos tpos : Pos} (hK : X.K = W.K) (hc : X.calm = true) (he : PE X e (tE W Wx f)) (hg : PGs X es (tGs W ws h)) (hn : (assignEach es X.env).length = n + 1 := by rfl) (hst : (assignEach es X.env).findIdx? (·.1) = some n := by rfl)
    (hs : swapsWithSole [.Tuple es kk tpos] e pos.line X.env = pure false := by rfl) (hw : swappedStores [.Tuple es kk tpos] e X.env = pure none := by rfl) (h1 : (assignEach [.Tuple es kk tpos] X.env).map (·.2) = [assign (.Tuple es kk tpos) X.env] := by rfl) :
    PSd X W Wx (.Assign [.Tuple es kk tpos] e pos) (starS n f h) := fun mu => ps_weak (ps_asg he (pg_star hc hg hn hst) hs hw h1) fun Dn σ H ⟨RA, ρ, σd, B, b, l, q⟩ =>
  ⟨RA, ρ, σd, B, b, l, (Done.withE b l q).imp fun d B1 H1 a1 q1 v rv => by
    split at q1
    · rename_i l1 e1
      split at q1
      · rename_i hn
        obtain ⟨a, vs, rfl, hv, hsq, _⟩ := seq_stay a1.base rv e1
        refine ⟨a, vs, rfl, by rw [hK]; exact hsq, by rw [← hv.len]; exact hn, fun p hp => ?_⟩
        have a2 := Aft.laid (o := .lst (vs.drop n)) a1.base hp
        split at q1
        · rename_i σ' e2
          refine ⟨RA, ρ, σd, _, _, a2.base, (l.ex a1.bl).ex a2.bl, ((hv.ex a2.bl).take n).append (.cons ?_ .nil), σ', e2, fun σ2 l2 _ => q1 RA _ _ σ2 (.of_aft mu a2) l2⟩
          simp only [Rep]
          exact ⟨p, _, rfl, upd_same, (hv.ex a2.bl).drop n⟩
        · exact q1.elim
      · exact q1.elim
    · exact q1.elim⟩
theorem pgs_as {X : Cx} {e0 e : Expr} {es : List Expr} {t : TG} {u : TGs} (h1 : PG X e t) (h2 : PGs X es u) (hs : (assignEach (e0 :: es) X.env).map (·.2) = assign e X.env :: (assignEach es X.env).map (·.2)) : PGs X (e0 :: es) (gCons t u) := by
  refine ⟨fun pins s σ H vs us Q I r h => ?_⟩
  obtain ⟨v, vr, e1, h⟩ := h
  subst e1
  cases r with
  | cons r rr =>
    rw [hs]
    refine assignInOrder_cons (thn (h1.run pins s σ H _ _ _ I r h) fun _ s1 ⟨σ1, H1, I1, q1⟩ => ?_)
    exact h2.run pins s1 σ1 H1 _ _ Q I1 rr q1
theorem dgs_star {X : Cx} {W : Wd} {e : Expr} {p : Pos} {g : TGF} {ws : List Nat} (h1 : PG X e (tG W ws g)) (hs : (assignEach [.Starred e p] X.env).map (·.2) = assign e X.env :: (assignEach [] X.env).map (·.2) := by rfl) : PGs X [.Starred e p] (tGs W (ws ++ []) (consG g nilG)) :=
  pgs_weak (pgs_as h1 dgs_nil hs) fun vs σ H Q ⟨RA, ρ, σd, B, ds, b, l, r, σd', e, q⟩ => by
    cases ds with
    | nil => simp only [consG] at e; cases e
    | cons d ds =>
      obtain ⟨v, vr, rfl, rv, rr⟩ := r.uncons
      simp only [consG] at e
      obtain ⟨σ1, e1, e2⟩ := Option.bind_eq_some_iff.mp e
      exact ⟨v, vr, rfl, RA, ρ, σd, B, d, b, l, rv, σ1, e1, fun σ' l' o1 => ⟨RA, ρ, σ1, B, ds, b, l', rr, σd', e2, fun σ'' l'' o2 => q σ'' l'' (o1.trans o2)⟩⟩
end Dd

set_option Elab.async false
set_option linter.all false
set_option maxRecDepth 100000
set_option maxHeartbeats 2000000
/-! DdComp2: comprehensions of two clauses; a comprehension as a root; statements never reached -/
namespace Dd
open PySem PySem.Spec PyProof.Rows L2 Evl OwnO My

def lc2L (g : TGF) (t : TF) (fi1 : IF) (g1 : TGF) (t1 : TF) (f : EF) (vs1 : List Nat) (ρ : List D) (σ : Env) : List D → Res (List D)
  | [] => .ok []
  | d :: ds => match g ρ d σ with
    | none => .bad
    | some σ1 => (t ρ σ1).bind fun k => if k = true then (fi1 ρ σ1).bind fun p => (lcL g1 t1 f ρ (wipeD σ1 vs1) p.1).bind fun ys => (lc2L g t fi1 g1 t1 f vs1 ρ σ ds).bind fun zs => .ok (ys ++ zs) else lc2L g t fi1 g1 t1 f vs1 ρ σ ds
/-- [f for g in fi if t for g1 in fi1 if t1] -/
def lc2S (fi : IF) (g : TGF) (t : TF) (fi1 : IF) (g1 : TGF) (t1 : TF) (f : EF) (vs vs1 : List Nat) : EF := fun ρ σ => (fi ρ σ).bind fun p => (okOnly (lc2L g t fi1 g1 t1 f vs1 ρ (wipeD σ vs) p.1)).bind fun ys => if ys.length ≤ 100000 then .ok (.lst ys) else .bad
theorem bind_ok {α β : Type} {r : Res α} {f : α → Res β} {y : β} (h : r.bind f = .ok y) : ∃ x, r = .ok x ∧ f x = .ok y := by
  cases r with
  | ok x => exact ⟨x, rfl, h⟩
  | exc c fs => cases h
  | bad => cases h
/-- the growing list at D0, of zs -/
structure Mid (W : Wd) (RA : List Addr) (ρ : List D) (B1 H1 : Hp) (D0 : Addr) (B2 H2 : Hp) (zs : List D) : Prop where
  bn : ∀ x o, B2 x = some o → B1 x = some o ∨ H1 x = none
  bl : Ex B1 B2
  hp : Ex H1 H2
  base : Base W RA ρ B2 H2
  out : B2 D0 = none
  at_ : ∃ acc, H2 D0 = some (.lst acc) ∧ RepL W RA B2 zs acc
section
variable {W : Wd} {RA : List Addr} {ρ : List D} {B1 H1 B2 H2 B3 H3 : Hp} {D0 : Addr} {zs : List D}
theorem Mid.aft (m : Mid W RA ρ B1 H1 D0 B2 H2 zs) (a : Aft W RA ρ B2 H2 B3 H3) : Mid W RA ρ B1 H1 D0 B3 H3 zs := by
  obtain ⟨acc, h1, h2⟩ := m.at_
  refine ⟨fun x o h => ?_, m.bl.trans a.bl, m.hp.trans a.hp, a.base, ?_, acc, a.hp D0 _ h1, h2.ex a.bl⟩
  · rcases a.bn x o h with h | h
    · exact m.bn x o h
    · exact .inr (fresh_back m.hp h)
  · cases e : B3 D0 with
    | none => rfl
    | some o =>
      rcases a.bn D0 o e with h | h
      · rw [m.out] at h; cases h
      · rw [h1] at h; cases h
theorem Mid.add (m : Mid W RA ρ B1 H1 D0 B2 H2 zs) (hD : H1 D0 = none) (hr : D0 ∉ RA) {d : D} {v : V} (rv : Rep W RA B2 d v) (hz : zs.length < 100000) : ∃ acc, H2 D0 = some (.lst acc) ∧ acc.length < sizeLine ∧ Mid W RA ρ B1 H1 D0 B2 (upd H2 D0 (.lst (acc ++ [v]))) (zs ++ [d]) := by
  obtain ⟨acc, h1, h2⟩ := m.at_
  exact ⟨acc, h1, sz_lt (by rw [← h2.len]; exact hz), m.bn, m.bl, m.hp.mut hD, m.base.upd m.out hr, m.out, _, upd_same, h2.append (.cons rv .nil)⟩
end
section
variable {X : Cx} {W : Wd} {Wx : WX} {elt tg iter tg1 iter1 : Expr} {ifs ifs1 : List Expr} {fi fi1 : IF} {g g1 : TGF} {t t1 : TF} {f : EF} {ws ws1 vs vs1 : List Nat}
theorem tF_lc2 (hs : ∀ i ∈ ws, i ∈ vs) (hs1 : ∀ i ∈ ws1, i ∈ vs1) (σ : L2.St) (H : Hp) (Q : VK) : tF W Wx (lc2S fi g t fi1 g1 t1 f vs vs1) σ H Q → tLc2 (tI W Wx fi) (tG W ws g) (tT W WF t) (tI W WF fi1) (tG W ws1 g1) (tT W WF t1) (tE W WF f) vs vs1 σ H Q := fun ⟨RA, ρ, σd, B, b, l, q⟩ => ⟨RA, ρ, σd, B, b, l, by
  have q := Aw.bind q
  cases hf : fi ρ σd with
  | bad => rw [hf] at q; exact q
  | exc c fs => rw [hf] at q; exact q
  | ok p =>
    obtain ⟨ds, lk⟩ := p
    rw [hf] at q
    refine fun B1 H1 a1 J ij D0 hD => ?_
    have q1 := q B1 H1 a1
    dsimp only at q1
    cases hl : lc2L g t fi1 g1 t1 f vs1 ρ (wipeD σd vs) ds with
    | bad => rw [hl] at q1; exact False.elim q1
    | exc c fs => rw [hl] at q1; exact False.elim q1
    | ok ys =>
      rw [hl] at q1
      simp only [okOnly, Res.bind] at q1
      split at q1
      · rename_i hz
        have q1 : ∀ B' H', Aft W RA ρ B1 H1 B' H' → ∀ v, Fresh W RA H B' H' (.lst ys) v → Q v H' := q1
        have hDout := a1.base.fresh_out hD
        have lw : LocOk W RA B1 (wipeD σd vs) (wipe σ vs) := (l.ex a1.bl).wipe vs
        let Pv : Nat → Hp → Prop := fun i H2 => ∃ B2 zs, Mid W RA ρ B1 H1 D0 B2 H2 zs ∧ ∃ rest, lc2L g t fi1 g1 t1 f vs1 ρ (wipeD σd vs) (ds.drop i) = .ok rest ∧ ys = zs ++ rest
        refine ⟨fun i m H2 => m = ds.length - i ∧ i ≤ ds.length ∧ Pv i H2, ⟨ds.length, by simp, Nat.zero_le _, B1, [], ⟨fun _ _ h => .inl h, Ex.refl _, Ex.new hD, a1.base.upd hDout.1 hDout.2, hDout.1, [], upd_same, .nil⟩, ys, by simpa using hl, rfl⟩, ?_⟩
        rintro i m H2 ⟨rfl, hi, B2, zs, md, rest, hrest, hys⟩
        have it := ij i RA ρ B2 H2 md.base md.bl (fun _ _ h => h) (fun r _ a o _ ho => md.hp a o ho)
        by_cases hlt : i < ds.length
        · obtain ⟨go, yl⟩ := it.1 ds[i] (List.getElem?_eq_getElem hlt)
          rw [List.drop_eq_getElem_cons hlt] at hrest
          simp only [lc2L] at hrest
          refine .inr ⟨go, Pv (i + 1), fun H' p => ⟨ds.length - (i + 1), by omega, rfl, hlt, p⟩, fun x H3 y => ?_⟩
          obtain ⟨B3, a3, rx⟩ := yl x H3 y
          have l3 : LocOk W RA B3 (wipeD σd vs) (wipe σ vs) := (lw.ex md.bl).ex a3.bl
          split at hrest
          · cases hrest
          · rename_i σ1 e3
            refine ⟨RA, ρ, wipeD σd vs, B3, ds[i], a3.base, l3, rx, σ1, e3, fun σ4 l4 o4 => ⟨wipe_wipe o4 hs, ?_⟩⟩
            refine ⟨RA, ρ, σ1, B3, a3.base, l4, ?_⟩
            obtain ⟨k, ht, hrest⟩ := bind_ok hrest
            rw [ht]
            refine fun B4 H4 a4 => ?_
            have m4 := (md.aft a3).aft a4
            cases k with
            | false =>
              simp only [Bool.false_eq_true, if_false] at hrest ⊢
              exact ⟨B4, zs, m4, rest, hrest, hys⟩
            | true =>
              simp only [if_true] at hrest ⊢
              obtain ⟨⟨ds1, lk1⟩, hf1, hrest⟩ := bind_ok hrest
              dsimp only at hrest
              obtain ⟨us, hl1, hrest⟩ := bind_ok hrest
              obtain ⟨rest2, hr2, hrest⟩ := bind_ok hrest
              cases hrest
              refine ⟨RA, ρ, σ1, B4, a4.base, l4.ex a4.bl, ?_⟩
              rw [hf1]
              refine fun B5 H5 a5 J1 ij1 => ?_
              have m5 := m4.aft a5
              have l5 := (l4.ex a4.bl).ex a5.bl
              have lw5 : LocOk W RA B5 (wipeD σ1 vs1) (wipe σ4 vs1) := l5.wipe vs1
              let P1 : Nat → Hp → Prop := fun j H6 => ∃ B6 xs, Mid W RA ρ B1 H1 D0 B6 H6 xs ∧ Ex B5 B6 ∧ (∀ a o, a ≠ D0 → H5 a = some o → H6 a = some o) ∧ ∃ rest1, lcL g1 t1 f ρ (wipeD σ1 vs1) (ds1.drop j) = .ok rest1 ∧ ys = xs ++ (rest1 ++ rest2)
              refine ⟨fun j m H6 => m = ds1.length - j ∧ j ≤ ds1.length ∧ P1 j H6, ⟨ds1.length, by simp, Nat.zero_le _, B5, zs, m5, Ex.refl _, fun _ _ _ h => h, us, by simpa using hl1, hys⟩, ?_⟩
              rintro j m H6 ⟨rfl, hj, B6, xs, m6, e56, k56, rest1, hrest1, hys6⟩
              have it1 := ij1 j RA ρ B6 H6 m6.base e56 (fun _ _ h => h) (fun r _ a o ha ho => k56 a o (fun z => hDout.2 (by rw [← z]; exact List.mem_of_getElem? ha)) ho)
              by_cases hlt1 : j < ds1.length
              · obtain ⟨go1, yl1⟩ := it1.1 ds1[j] (List.getElem?_eq_getElem hlt1)
                rw [List.drop_eq_getElem_cons hlt1] at hrest1
                simp only [lcL] at hrest1
                refine .inr ⟨go1, P1 (j + 1), fun H' p => ⟨ds1.length - (j + 1), by omega, rfl, hlt1, p⟩, fun x H7 y => ?_⟩
                obtain ⟨B7, a7, rx7⟩ := yl1 x H7 y
                have l7 : LocOk W RA B7 (wipeD σ1 vs1) (wipe σ4 vs1) := (lw5.ex e56).ex a7.bl
                split at hrest1
                · cases hrest1
                · rename_i σ5 e7
                  refine ⟨RA, ρ, wipeD σ1 vs1, B7, ds1[j], a7.base, l7, rx7, σ5, e7, fun σ6 l6 o6 => ⟨wipe_wipe o6 hs1, ?_⟩⟩
                  refine ⟨RA, ρ, σ5, B7, a7.base, l6, ?_⟩
                  obtain ⟨k1, ht1, hrest1⟩ := bind_ok hrest1
                  rw [ht1]
                  refine fun B8 H8 a8 => ?_
                  have a78 := a7.trans a8
                  have m8 := m6.aft a78
                  have k58 : ∀ a o, a ≠ D0 → H5 a = some o → H8 a = some o := fun a o hne h => a78.hp a o (k56 a o hne h)
                  cases k1 with
                  | false =>
                    simp only [Bool.false_eq_true, if_false] at hrest1 ⊢
                    exact ⟨B8, xs, m8, e56.trans a78.bl, k58, rest1, hrest1, hys6⟩
                  | true =>
                    simp only [if_true] at hrest1 ⊢
                    obtain ⟨d, hfd, hrest1⟩ := bind_ok hrest1
                    obtain ⟨rest3, hr3, hrest1⟩ := bind_ok hrest1
                    cases hrest1
                    refine ⟨RA, ρ, σ5, B8, a8.base, l6.ex a8.bl, ?_⟩
                    rw [hfd]
                    refine fun B9 H9 a9 v rv => ?_
                    obtain ⟨acc, h1, h2, m9⟩ := (m8.aft a9).add hD hDout.2 rv (by
                      have := congrArg List.length hys6
                      simp only [List.length_append, List.length_cons] at this
                      omega)
                    refine ⟨acc, h1, h2, B9, xs ++ [d], m9, (e56.trans a78.bl).trans a9.bl, fun a o hne h => ?_, rest3, hr3, by rw [hys6]; simp⟩
                    rw [upd_ne hne]
                    exact a9.hp a o (k58 a o hne h)
              · have e : j = ds1.length := by omega
                subst e
                refine .inl ⟨it1.2 (Nat.le_refl _), ?_⟩
                rw [List.drop_length] at hrest1
                cases hrest1
                exact ⟨B6, xs, m6, rest2, hr2, by rw [hys6]; simp⟩
        · have e : i = ds.length := by omega
          subst e
          refine .inl ⟨it.2 (Nat.le_refl _), ?_⟩
          rw [List.drop_length] at hrest
          cases hrest
          rw [List.append_nil] at hys
          subst hys
          obtain ⟨acc, h1, h2⟩ := md.at_
          exact q1 B2 H2 ⟨md.hp, md.bl, md.base, md.bn⟩ _ ⟨D0, rfl, fresh_back a1.hp hD, md.out, hDout.2, acc, h1, h2⟩
      · exact False.elim q1⟩
end
section
variable {X : Cx} {W : Wd} {Wx : WX} {elt tg iter tg1 iter1 : Expr} {ifs ifs1 : List Expr} {fi fi1 : IF} {g g1 : TGF} {t t1 : TF} {f : EF} {ws ws1 vs1 : List Nat} {scope : Scope} {own : List (Str × Nat)} {pos : Pos}
theorem f_lc2 (hc : X.calm = true) (hN : X.N.Nodup) (hi : PI X tg iter (tI W Wx fi)) (ok : BlkOk X.N X.env.scope scope own) (hv : ∀ i ∈ vs1, i ∈ own.map (·.2)) (hws : ∀ i ∈ ws, i ∈ own.map (·.2)) (hws1 : ∀ i ∈ ws1, i ∈ vs1)
    (hg : ∀ (s : Shared) (H : Hp) (C : Addr) (cl : List (Str × Addr)) (fp : List Addr), PG (X.blk s H scope (compEnvC scope cl C X.env) fp) tg (tG W ws g)) (ht : ∀ (s : Shared) (H : Hp) (C : Addr) (cl : List (Str × Addr)) (fp : List Addr), PTs (X.blk s H scope (compEnvC scope cl C X.env) fp) ifs (tT W WF t))
    (hi1 : ∀ (s : Shared) (H : Hp) (C : Addr) (cl : List (Str × Addr)) (fp : List Addr), PI (X.blk s H scope (compEnvC scope cl C X.env) fp) tg1 iter1 (tI W WF fi1))
    (hg1 : ∀ (s : Shared) (H : Hp) (C : Addr) (cl : List (Str × Addr)) (fp : List Addr), PG (X.blk s H scope (compEnvC scope cl C X.env) fp) tg1 (tG W ws1 g1)) (ht1 : ∀ (s : Shared) (H : Hp) (C : Addr) (cl : List (Str × Addr)) (fp : List Addr), PTs (X.blk s H scope (compEnvC scope cl C X.env) fp) ifs1 (tT W WF t1))
    (he : ∀ (s : Shared) (H : Hp) (C : Addr) (cl : List (Str × Addr)) (fp : List Addr), PE (X.blk s H scope (compEnvC scope cl C X.env) fp) elt (tE W WF f)) (hs : ∀ x, foldedSetIterable iter X.env x = pure x := by intro _; rfl) (hs1 : ∀ env x, foldedSetIterable iter1 env x = pure x := by intro _ _; rfl) :
    PE X (.ListComp elt [⟨tg, iter, ifs, 0⟩, ⟨tg1, iter1, ifs1, 0⟩] scope pos) (tF W Wx (lc2S fi g t fi1 g1 t1 f (own.map (·.2)) vs1)) := pe_weak (pe_lc2 hc hN hi ok hv hg ht hi1 hg1 ht1 he hs hs1) (tF_lc2 hws hws1)
theorem ds_setLc2 {i : Nat} {y : Str} {py spos : Pos} (hc : X.calm = true) (hN : X.N.Nodup) (hy : X.N[i]? = some y) (hyl : X.env.scope.names.lookup y = some .local)
    (hsw : swapsWith (.ListComp elt [⟨tg, iter, ifs, 0⟩, ⟨tg1, iter1, ifs1, 0⟩] scope pos) (some (.Name y py)) spos.line X.env = pure true) (hi : PI X tg iter (tI W Wx fi)) (ok : BlkOk X.N X.env.scope scope own) (hv : ∀ i ∈ vs1, i ∈ own.map (·.2)) (hws : ∀ i ∈ ws, i ∈ own.map (·.2)) (hws1 : ∀ i ∈ ws1, i ∈ vs1)
    (hg : ∀ (s : Shared) (H : Hp) (C : Addr) (cl : List (Str × Addr)) (fp : List Addr), PG (X.blk s H scope (compEnvC scope cl C X.env) fp) tg (tG W ws g)) (ht : ∀ (s : Shared) (H : Hp) (C : Addr) (cl : List (Str × Addr)) (fp : List Addr), PTs (X.blk s H scope (compEnvC scope cl C X.env) fp) ifs (tT W WF t))
    (hi1 : ∀ (s : Shared) (H : Hp) (C : Addr) (cl : List (Str × Addr)) (fp : List Addr), PI (X.blk s H scope (compEnvC scope cl C X.env) fp) tg1 iter1 (tI W WF fi1))
    (hg1 : ∀ (s : Shared) (H : Hp) (C : Addr) (cl : List (Str × Addr)) (fp : List Addr), PG (X.blk s H scope (compEnvC scope cl C X.env) fp) tg1 (tG W ws1 g1)) (ht1 : ∀ (s : Shared) (H : Hp) (C : Addr) (cl : List (Str × Addr)) (fp : List Addr), PTs (X.blk s H scope (compEnvC scope cl C X.env) fp) ifs1 (tT W WF t1))
    (he : ∀ (s : Shared) (H : Hp) (C : Addr) (cl : List (Str × Addr)) (fp : List Addr), PE (X.blk s H scope (compEnvC scope cl C X.env) fp) elt (tE W WF f)) (hs : ∀ x, foldedSetIterable iter X.env x = pure x := by intro _; rfl) (hs1 : ∀ env x, foldedSetIterable iter1 env x = pure x := by intro _ _; rfl) :
    PSd X W Wx (.Assign [.Name y py] (.ListComp elt [⟨tg, iter, ifs, 0⟩, ⟨tg1, iter1, ifs1, 0⟩] scope pos) spos) (asgS (lc2S fi g t fi1 g1 t1 f (own.map (·.2)) vs1) (nameG i)) := fun mu => ps_weak (ps_setLc2 (i := i) hc hN hy hyl hsw hi ok hv hg ht hi1 hg1 ht1 he hs hs1) fun Dn σ H ⟨RA, ρ, σd, B, b, l, q⟩ =>
  tF_lc2 hws hws1 σ H _ ⟨RA, ρ, σd, B, b, l, (Done.withE b l q).imp2 fun d k B1 H1 a1 v fr => by
    obtain ⟨B2, a2, r⟩ := Fresh.freeze a1 fr
    exact k B2 H1 a2 RA B2 H1 _ (.refl mu a2.base) ((l.ex a2.bl).set r i)⟩
/-- name = [..], the list a root -/
theorem tF_own {te : TE} {i : Nat} {mu : Nat → Bool} {e : EF} (h : ∀ σ H Q, tF W Wx e σ H Q → te σ H Q) (Dn : Ends) (σ : L2.St) (H : Hp) : tS W Wx mu (ownS i e) Dn σ H → tAsg te (gName i) Dn σ H := fun ⟨RA, ρ, σd, B, b, l, q⟩ => h σ H _ ⟨RA, ρ, σd, B, b, l, by
    cases hf : e ρ σd with
    | bad => unfold ownS at q; rw [hf] at q; exact q
    | exc c fs => unfold ownS at q; rw [hf] at q; exact fun cls dx B' H' af x => q RA B' H' σ cls dx (.of_aft mu af) (l.ex af.bl) x
    | ok d =>
      unfold ownS at q
      rw [hf] at q
      refine fun B1 H1 a1 v fr => ?_
      obtain ⟨p, rfl, gr, rr⟩ := Grow.root a1 fr mu
      exact q _ _ _ _ gr ((l.mono a1.bl gr.ra).set rr i)⟩
theorem ds_ownLc {i : Nat} {y : Str} {py spos : Pos} (hc : X.calm = true) (hN : X.N.Nodup) (hy : X.N[i]? = some y) (hyl : X.env.scope.names.lookup y = some .local)
    (hsw : swapsWith (.ListComp elt [⟨tg, iter, ifs, 0⟩] scope pos) (some (.Name y py)) spos.line X.env = pure true) (hi : PI X tg iter (tI W Wx fi)) (ok : BlkOk X.N X.env.scope scope own) (hws : ∀ i ∈ ws, i ∈ own.map (·.2))
    (hg : ∀ (s : Shared) (H : Hp) (C : Addr) (cl : List (Str × Addr)) (fp : List Addr), PG (X.blk s H scope (compEnvC scope cl C X.env) fp) tg (tG W ws g)) (ht : ∀ (s : Shared) (H : Hp) (C : Addr) (cl : List (Str × Addr)) (fp : List Addr), PTs (X.blk s H scope (compEnvC scope cl C X.env) fp) ifs (tT W WF t))
    (he : ∀ (s : Shared) (H : Hp) (C : Addr) (cl : List (Str × Addr)) (fp : List Addr), PE (X.blk s H scope (compEnvC scope cl C X.env) fp) elt (tE W WF f)) (hs : ∀ x, foldedSetIterable iter X.env x = pure x := by intro _; rfl) :
    PSd X W Wx (.Assign [.Name y py] (.ListComp elt [⟨tg, iter, ifs, 0⟩] scope pos) spos) (ownS i (lcS fi g t f (own.map (·.2)))) := fun mu => ps_weak (ps_setLc (i := i) hc hN hy hyl hsw hi ok hg ht he hs) fun Dn σ H h => tF_own (tF_lc hws) Dn σ H h
end
/-- a statement that is never reached -/
def deadS : SF := fun _ _ _ => .bad
theorem ds_dead {X : Cx} {W : Wd} {Wx : WX} {st : Stmt} : PSd X W Wx st deadS := fun mu => ps_weak ps_never fun Dn σ H ⟨RA, ρ, σd, B, b, l, q⟩ => q
theorem dss_dead {X : Cx} {W : Wd} {Wx : WX} {st : List Stmt} : PSsd X W Wx st deadS := fun mu => ⟨fun pins sh σ H Dn I ⟨RA, ρ, σd, B, b, l, q⟩ => q.elim⟩
end Dd

set_option Elab.async false
set_option linter.all false
set_option maxRecDepth 100000
set_option maxHeartbeats 2000000
/-! DdSup: the __init__ of an exception's class that says super().__init__(..) and then self.f = v -/
namespace Dd
open PySem PySem.Spec PyProof.Rows L2 Evl OwnO My NdefX

/-- ValueError.__init__, bound to the exception at x, is called -/
theorem call_mw {prog : Program} {w : World} {A : Around} {E : Value → Shared → Prop} {h : Heap} {g : Array GenState} {d : Drawn} {tk : Nat} {os : OsState} {K : PySem.W.Frag} {C x u t0 : Addr} {rest : List Value} {Q : Value → Shared → Prop} (T : OexC K C) (X : K.In h)
    (hu : h.get? u = some (PySem.W.kxs_mw "ValueError.__init__" x)) (he : h.get? x = some (PySem.W.excObj C t0 none .none)) (hz : rest.length ≤ sizeLine)
    (hq : ∀ h' t', (∀ b o, b ≠ x → h.get? b = some o → h'.get? b = some o) → h'.get? x = some (PySem.W.excObj C t' none .none) → Q .none ⟨h', g, d, tk, os⟩) : wpAny (model prog w) A (call (.ref u) rest) Q E ⟨h, g, d, tk, os⟩ := by
  obtain ⟨nm, q, N, bs, bm, sn, sub, ab, col, dd, k0, k1, k2, k3, k5, hC, hbm⟩ := T.cls
  refine wpAny_call (codeAny_of_tree ?_)
  show wpAny _ A.in1 (callAny (.ref u) ⟨rest, []⟩) _ _ _
  simp only [callAny]
  refine wpAny_bind (wpAny_load hu ?_)
  simp only [PySem.W.kxs_mw, show (Value.type "method-wrapper" == Value.type "method" || Value.type "method-wrapper" == Value.type "builtin_function_or_method" || Value.type "method-wrapper" == Value.type "method-wrapper") = true by decide, if_true]
  refine PySem.W.KFB.if_so (by decide) ?_
  refine wpAny_bind (PySem.W.check_bound_init PySem.F.excBase_ValueError.toExcCallFacts (X _ _ hC) he rfl ?_)
  refine wpAny_bind (wpAny_pure (wpAny_pure ?_))
  refine ⟨PySem.plainId_quiet PySem.F.excBase_ValueError.init.plain _, codeAny_builtin PySem.F.excBase_ValueError.initEntry ?_⟩
  exact PySem.W.exc_init_tree (cls := .ref C) (t0 := t0) (dv := none) (c2 := .none) (c3 := .none) (b4 := .bool false) he hz fun h' k e' t' => hq h' _ k e'

/-- a pin more, a pin less -/
theorem inv_pin {X : Cx} {pins : List (Addr × Obj)} {σ : L2.St} {H : Hp} {s : Shared} {p : Addr} {o : Obj} (I : L2.Inv X pins σ H s) (h : s.heap.get? p = some o) (hn : H p = none) (h1 : p ≠ X.env.locals) (h2 : p ∉ X.fs) (h3 : ∀ v, o.data ≠ .cell v) : L2.Inv X ((p, o) :: pins) σ H s :=
  { I with
    pin := fun q hq => by
      rcases List.mem_append.mp hq with hq | hq
      · exact I.pin q (List.mem_append_left _ hq)
      · rcases List.mem_cons.mp hq with hq | hq
        · subst hq; exact ⟨h, hn, h1, h2, h3⟩
        · exact I.pin q (List.mem_append_right _ hq) }
theorem inv_unpin {X : Cx} {pins : List (Addr × Obj)} {σ : L2.St} {H : Hp} {s : Shared} {q : Addr × Obj} (I : L2.Inv X (q :: pins) σ H s) : L2.Inv X pins σ H s :=
  { I with
    pin := fun p hp => I.pin p (by
      rcases List.mem_append.mp hp with hp | hp
      · exact List.mem_append_left _ hp
      · exact List.mem_append_right _ (List.mem_cons_of_mem _ hp)) }
/-- what the written part says of the class and of its __init__ -/
structure SupC (P : Program) (K : PySem.W.Frag) (mg : Str → Option Value) (C cc cda : Addr) : Prop where
  T : OexC K C
  hsup : mg "super" = none
  cell : ∃ cl cld csl, K.lookup cc = some ⟨cl, cld, .cell (some (.ref C)), csl⟩
  code : ∃ ccl cdd vs ccs file tf, K.lookup cda = some ⟨ccl, cdd, .fields vs, ccs⟩ ∧ vs[2]? = some (.str file tf) ∧ ((P.main.file : Str) == file) = true
  htop : (P.main.scope.names.lookup ("super" : Str)).isSome = false
  hm : PySem.W.ks_superIn K C C "__init__" = some (some (.builtin "ValueError.__init__"))
  hself : PySem.W.mroIn K C (.ref C) = some true
  hB : PySem.W.subIn K (.ref C) (.type "ValueError") = some true
  hany : PySem.W.nsIn K cStatics "thirdparty.any" = some none
section
variable {CX : CXT} {P : Program} {w : World} {K : PySem.W.Frag} {mg : Str → Option Value} {base : Heap} {N : List Str} {name qual fld self arg : Str} {params : Arguments} {body : List Stmt} {scope : Scope} {C cc cda f : Addr} {A : Around} {outer : List PySem.Env} {s0 : Shared} {H0 : Hp} {E : XK}
/-- super().__init__(e) -/
theorem super_stmt {pins : List (Addr × Obj)} {σ : L2.St} {H : Hp} {s : Shared} {a : Addr} {e : Expr} {t : TA} {p0 p1 p2 p3 p4 : Pos} {ar : Arg} {oc kV doc pm ct : Value} {an od : Option Addr} {osl : Array (Option Value)} {Q : Flow → Shared → Prop}
    (SC : SupC P K mg C cc cda) (hf : K.lookup f = some ⟨oc, od, .func (PySem.W.ksFn name qual params body scope .none kV doc pm an (.ref cda) ct cc), osl⟩) (hp : (params.posonlyargs ++ params.args).head? = some ar)
    (hks : scope.names.lookup ("super" : Str) = some .globalImplicit) (hkc : scope.names.lookup ("__class__" : Str) = some .free) (hka : scope.names.lookup ar.arg = some .local) (hk : scope.kind = .function)
    (I : L2.Inv (ncx CX P w K mg base N ⟨name, qual, params, body, scope, [("__class__", cc)], cda⟩ f A outer s0 H0 E) pins σ H s) (hN : N[0]? = some ar.arg) (hσ : σ[0]? = some (some (.ref a))) (ha : H a = some (exo a C none))
    (he : PA (ncx CX P w K mg base N ⟨name, qual, params, body, scope, [("__class__", cc)], cda⟩ f A outer s0 H0 E) [e] t) (ht : ∀ (Q : List V → Hp → Prop), (∀ v, Q [v] H) → t σ H Q)
    {pl : Sem Bool} (hcall : eval (.Call (.Attribute (.Call (.Name "super" p0) [] [] p1) "__init__" p2) [e] [] p3) (PySem.W.ksEnv qual scope s0.heap.objs.size f (.ref cda) cc) = (do
      let ov ← attributeBase (.Call (.Name "super" p0) [] [] p1) "__init__" (PySem.W.ksEnv qual scope s0.heap.objs.size f (.ref cda) cc) (eval (.Call (.Name "super" p0) [] [] p1) (PySem.W.ksEnv qual scope s0.heap.objs.size f (.ref cda) cc))
      standAt p2.atName
      let (fx, first) ← holding [ov] (getMethod ov "__init__" pl)
      callWith p3 fx first (backTo p3 (starEach [e] (PySem.W.ksEnv qual scope s0.heap.objs.size f (.ref cda) cc))) []))
    (hst : starEach [e] (PySem.W.ksEnv qual scope s0.heap.objs.size f (.ref cda) cc) = [(false, eval e (PySem.W.ksEnv qual scope s0.heap.objs.size f (.ref cda) cc))])
    (hsw : swapsWith (.Call (.Attribute (.Call (.Name "super" p0) [] [] p1) "__init__" p2) [e] [] p3) none p4.line (PySem.W.ksEnv qual scope s0.heap.objs.size f (.ref cda) cc) = pure false)
    (hq : ∀ s', L2.Inv (ncx CX P w K mg base N ⟨name, qual, params, body, scope, [("__class__", cc)], cda⟩ f A outer s0 H0 E) pins σ H s' → Q .next s') :
    _root_.PySem.wpAt (model P w) (A.deeper (PySem.W.ksEnv qual scope s0.heap.objs.size f (.ref cda) cc)) (.func body (PySem.W.ksEnv qual scope s0.heap.objs.size f (.ref cda) cc)) (exec (.Expr (.Call (.Attribute (.Call (.Name "super" p0) [] [] p1) "__init__" p2) [e] [] p3) p4) (PySem.W.ksEnv qual scope s0.heap.objs.size f (.ref cda) cc)) Q (ncx CX P w K mg base N ⟨name, qual, params, body, scope, [("__class__", cc)], cda⟩ f A outer s0 H0 E).xe s := by
  obtain ⟨hh, g, d, tk, os⟩ := s
  obtain ⟨m, hns, hl⟩ := id I.loc
  obtain ⟨u, ru, hlook⟩ := hl 0 ar.arg (.ref a) hN hσ (.inl hka)
  obtain rfl : u = Value.ref a := ru
  have hma : m ar.arg = some (.ref a) := by
    rcases hlook with ⟨_, h⟩ | ⟨h, _⟩
    · exact h
    · rcases h with h | h
      · have h : scope.names.lookup ar.arg = some .cell := h
        rw [hka] at h; cases h
      · have h : scope.names.lookup ar.arg = some .free := h
        rw [hka] at h; cases h
  obtain ⟨nm, q, Nn, bs, bm, sn, sub, ab, col, dd, k0, k1, k2, k3, k5, hC, hbm⟩ := SC.T.cls
  obtain ⟨cl, cld, csl, hcell⟩ := SC.cell
  obtain ⟨ccl, cdd, vs, ccs, file, tf, hcode, hvs2, hfile⟩ := SC.code
  have hcl : PySem.W.clsIn K C = some { name := nm, bases := bs, mro := .ref C :: bm, ns := Nn, qualname := q, hasDict := true, slotNames := sn, subclasses := sub, abstract := ab, collection := col, hasDel := false } := by unfold PySem.W.clsIn; rw [hC] <;> rfl
  have X : K.In hh := I.kIn
  obtain ⟨t1, ho⟩ := exo_at I.hok ha
  have ho' : hh.get? a = some (PySem.W.excObj C t1 none .none) := ho
  have IA : PySem.W.InstAt hh a (PySem.W.excObj C t1 none .none) C none := ⟨ho', rfl, rfl, trivial⟩
  refine ks_wpAt_Expr_any (ks_wpAt_MethodCall (pl := pl) ?_ hcall) I.quiet hsw
  refine ks_wpAt_super_base (env := PySem.W.ksEnv qual scope s0.heap.objs.size f (.ref cda) cc) hks hkc rfl rfl (X _ _ hf) rfl hp rfl (X _ _ hcode) rfl hvs2 hfile SC.htop ?_
  obtain ⟨mb, hb1, hb2⟩ := I.mod.blt
  refine PySem.W.ks_loadName_global hk hks (Calls.loadGlobal_builtin (env := PySem.W.ksEnv qual scope s0.heap.objs.size f (.ref cda) cc) (I.mod.glob.keeps I.bk) SC.hsup (hb1.keeps I.bk) ((hb2 _ (by decide)).trans (by decide +kernel)) ⟨rfl, ?_⟩)
  refine wpAny_loadName_free hk hkc rfl ⟨_, X _ _ hcell, rfl⟩ ?_
  refine wpAny_loadName_local hk hka hns hma ?_
  refine ks_wpAny_isType_cls (X _ _ hC) rfl ⟨rfl, ?_⟩
  refine ks_wpAny_call_super (X _ _ hC) rfl ho' rfl (fun c e => nomatch e) (PySem.W.looks_mroIn X SC.hself) (fun h1 e1 kk => ?_)
  have I1 : L2.Inv (ncx CX P w K mg base N ⟨name, qual, params, body, scope, [("__class__", cc)], cda⟩ f A outer s0 H0 E) pins σ H ⟨h1, g, d, tk, os⟩ := I.kept (t' := tk) kk
  have X1 : K.In h1 := I1.kIn
  have IA1 : PySem.W.InstAt h1 a (PySem.W.excObj C t1 none .none) C none := ⟨kk _ _ ho', rfl, rfl, trivial⟩
  have hm2 := SC.hm
  unfold PySem.W.ks_superIn at hm2
  rw [hcl] at hm2
  refine PySem.W.kxs_getMethod PySem.W.kxs_ValueError e1 (PySem.W.looks_opaque X1 SC.hany) (l₀ := .ref C :: bm) ?hmro rfl X1 hm2 (IA1.type.andThen (PySem.W.looks_subIn X1 SC.hB)) (PySem.W.ks_ne X1 IA1 hcl) (by decide) ?_
  case hmro => exact fun A Q E s k q => wpAny_bind ((PySem.W.looks_clsIn X1 hcl) A _ E s k (wpAny_pure q))
  have k2 : ∀ b o, h1.get? b = some o → (h1.push (PySem.W.kxs_mw "ValueError.__init__" a)).get? b = some o := fun b o z => Heap.get?_push_of_some _ z
  have I2 : L2.Inv (ncx CX P w K mg base N ⟨name, qual, params, body, scope, [("__class__", cc)], cda⟩ f A outer s0 H0 E) pins σ H ⟨h1.push (PySem.W.kxs_mw "ValueError.__init__" a), g, d, tk + 1, os⟩ := I1.kept (t' := tk + 1) k2
  have hfr : H h1.objs.size = none := I1.hok.fresh (Nat.le_refl _)
  have I3 := inv_pin I2 (p := h1.objs.size) (o := PySem.W.kxs_mw "ValueError.__init__" a) (Heap.get?_push_at rfl rfl) hfr (Nat.ne_of_gt I1.lt) (I1.nofs (Nat.le_refl _)) (fun v z => nomatch z)
  show wpAny _ _ (callWith p3 (Value.ref h1.objs.size) [] (backTo p3 (starEach [e] (PySem.W.ksEnv qual scope s0.heap.objs.size f (.ref cda) cc))) []) _ _ _
  have hrun := he.run p3 _ _ σ H (fun vs H1 => ∃ v, vs = [v] ∧ H1 = H) I3 (ht _ fun v => ⟨v, rfl, rfl⟩)
  have hrun : wpAny (model P w) (A.deeper (PySem.W.ksEnv qual scope s0.heap.objs.size f (.ref cda) cc)) (spliced (backTo p3 (starEach [e] (PySem.W.ksEnv qual scope s0.heap.objs.size f (.ref cda) cc)))) _ _ _ := hrun
  rw [hst] at hrun ⊢
  refine PySem.W.kxs_callWith (i := "ValueError.__init__") (x := a) rfl (Calls.evalArgs_plain (wpAny_mono hrun (fun us s4 z => ?_) fun _ _ z => ?_))
  · obtain ⟨vs, H4, I4, r4, v, rfl, rfl⟩ := z
    have hp4 := (I4.pin (h1.objs.size, PySem.W.kxs_mw "ValueError.__init__" a) (List.mem_append_right _ List.mem_cons_self)).1
    refine ⟨hp4, ?_⟩
    have I5 := inv_unpin I4
    obtain ⟨t4, ho4⟩ := exo_at I5.hok ha
    obtain ⟨h4, g4, d4, tk4, os4⟩ := s4
    obtain ⟨u, rfl, _⟩ := r4.one
    refine call_mw SC.T I5.kIn hp4 (t0 := t4) ho4 (by simp; decide) fun h' t' k e' => ?_
    have J := I5.write (t' := tk4) (x := a) (e := a) (o := exo a C none) (by rw [ha]; exact True.intro) (.inl rfl) k ⟨_, e'⟩ (exo_ok e')
    have eu : upd H4 a (exo a C none) = H4 := by
      funext b
      by_cases hb : b = a
      · rw [hb, upd_same, ha]
      · rw [upd_ne hb]
    rw [eu] at J
    exact hq _ J
  · exact z
end
/-- what such an __init__ promises -/
def spI (C : Addr) (fld : Str) : Sp := fun vs H Q E => ∃ a v, vs = [.ref a, v] ∧ ((∃ y : Str, v = .str y ∧ y.length ≤ 100000) ∨ ∃ i : Int, v = .int i ∧ i.natAbs.log2 < 1920) ∧ H a = some (exo a C none) ∧ ∀ dx, H dx = none → dx ≠ a → Q .non (upd (upd H dx (exd dx [(fld, v)])) a (exo a C (some dx)))
theorem sup_init {CX : CXT} {P : Program} {w : World} {K : PySem.W.Frag} {mg : Str → Option Value} {base : Heap} {name qual fld self arg : Str} {params : Arguments} {body : List Stmt} {scope : Scope} {C cc cda f : Addr} {k : Nat} {oc kV doc pm ct : Value} {an od : Option Addr} {osl : Array (Option Value)} {ar : Arg} {e : Expr} {p0 p1 p2 p3 p4 p5 p6 p7 p8 : Pos}
    (SC : SupC P K mg C cc cda) (hf : K.lookup f = some ⟨oc, od, .func (PySem.W.ksFn name qual params body scope .none kV doc pm an (.ref cda) ct cc), osl⟩) (hcd : PySem.W.codeIn K (.ref cda) qual = true) (hp : (params.posonlyargs ++ params.args).head? = some ar) (har : ar.arg = self) (S : NScope [self, arg, "__class__"] [self, arg] ["__class__"] scope)
    (hks : scope.names.lookup ("super" : Str) = some .globalImplicit)
    (hbody : body = [.Expr (.Call (.Attribute (.Call (.Name "super" p0) [] [] p1) "__init__" p2) [e] [] p3) p4, .Assign [.Attribute (.Name self p5) fld p6] (.Name arg p7) p8])
    (hno : PySem.W.findIn K (.ref C) fld = some none)
    (he : ∀ (A : Around) (outer : List PySem.Env) (s : Shared) (H : Hp) (E : XK), ∃ t, PA (ncx CX P w K mg base [self, arg, "__class__"] ⟨name, qual, params, body, scope, [("__class__", cc)], cda⟩ f A outer s H E) [e] t ∧ ∀ a v, ((∃ y : Str, v = .str y ∧ y.length ≤ 100000) ∨ ∃ i : Int, v = .int i ∧ i.natAbs.log2 < 1920) → ∀ (Q : List V → Hp → Prop) H1, (∀ v, Q [v] H1) → t [some (.ref a), some v, none] H1 Q)
    (hpl : ∀ L, ∃ pl : Sem Bool, eval (.Call (.Attribute (.Call (.Name "super" p0) [] [] p1) "__init__" p2) [e] [] p3) (PySem.W.ksEnv qual scope L f (.ref cda) cc) = (do
      let ov ← attributeBase (.Call (.Name "super" p0) [] [] p1) "__init__" (PySem.W.ksEnv qual scope L f (.ref cda) cc) (eval (.Call (.Name "super" p0) [] [] p1) (PySem.W.ksEnv qual scope L f (.ref cda) cc))
      standAt p2.atName
      let (fx, first) ← holding [ov] (getMethod ov "__init__" pl)
      callWith p3 fx first (backTo p3 (starEach [e] (PySem.W.ksEnv qual scope L f (.ref cda) cc))) []))
    (hst : ∀ env, starEach [e] env = [(false, eval e env)])
    (hsw : ∀ L, swapsWith (.Call (.Attribute (.Call (.Name "super" p0) [] [] p1) "__init__" p2) [e] [] p3) none p4.line (PySem.W.ksEnv qual scope L f (.ref cda) cc) = pure false)
    (hsw2 : ∀ L, swapsWith (.Name arg p7) (some (.Attribute (.Name self p5) fld p6)) p8.line (PySem.W.ksEnv qual scope L f (.ref cda) cc) = pure false)
    (hd1 : (self == ("__debug__" : Str)) = false) (hd2 : (arg == ("__debug__" : Str)) = false) (hd3 : (self == ("__classdict__" : Str)) = false) (hd4 : (arg == ("__classdict__" : Str)) = false) :
    FnOk P w K mg base CX (k + 1) f (PySem.W.ksFn name qual params body scope .none kV doc pm an (.ref cda) ct cc) [self, arg] (spI C fld) := by
  refine ⟨fun vs H Q E ⟨a, v, ev, _⟩ => by rw [ev]; rfl, fun A outer s H args us vs Q E hr e0 hb r hsp => ?_⟩
  obtain ⟨a, v, rfl, hv, ha, hq⟩ := hsp
  have KX : K.In s.heap := e0.mod.kin.keeps fun b o e => (e0.bs b o e).1
  have lim : s.heap.NoLimit := e0.mod.nolimit.keeps fun b o e => (e0.bs b o e).1
  obtain ⟨cl, cld, csl, hcell⟩ := SC.cell
  refine codeAny_call_function hr.depth (KX _ _ hf) rfl S.co S.gen rfl (PySem.W.codeRec_of KX hcd) (hb _ _ _ _ ?_)
  refine wpAny_newFunctionEnv S.nocell (fun ⟨n, _⟩ hy => S.par n (List.of_mem_zip hy).1) (fun h₁ hns hsb => ⟨lim.fresh _ hsb, ?_⟩) S.kind
  show codeAny _ _ (.func body (PySem.W.ksEnv qual scope s.heap.objs.size f (.ref cda) cc)) _ _
  refine ks_codeAny_funcAt ?_
  have kp : ∀ b o, s.heap.get? b = some o → h₁.get? b = some o := fun b o e => hsb.extBut b o (Nat.ne_of_lt (Heap.lt_size e)) (Heap.get?_push_of_some _ e)
  have hccH : H cc = none := (e0.bs cc _ (e0.mod.kin _ _ hcell)).2
  have hlk : ∀ y c, ([("__class__", cc)] : List (Str × Addr)).lookup y = some c → y = "__class__" ∧ c = cc := fun y c hy => by
    rw [List.lookup_cons] at hy
    split at hy
    · rename_i h
      cases hy
      exact ⟨by simpa using h, rfl⟩
    · cases hy
  have CA : CellsAt [("__class__", cc)] ["__class__"] [none] s.heap H := by
    refine ⟨rfl, fun y c hy => ?_, fun x y c hx hy => ?_, fun i y hy => ?_⟩
    · rw [(hlk y c hy).2]
      exact ⟨hccH, _, _, KX _ _ hcell, rfl⟩
    · rw [(hlk x c hx).1, (hlk y c hy).1]
    · cases i with
      | zero =>
        simp at hy
        subst hy
        exact ⟨cc, by simp [List.lookup], fun v z => by simp at z⟩
      | succ i => simp at hy
  have I : L2.Inv (ncx CX P w K mg base [self, arg, "__class__"] ⟨name, qual, params, body, scope, [("__class__", cc)], cda⟩ f A outer s H E) [] (startF [self, arg, "__class__"] [.ref a, v] [none]) H { s with heap := h₁, toks := s.toks + ([self, arg].zip us).length } :=
    inv_startN S hr.hd e0 rfl r CA hns kp
  obtain ⟨t, ht, htq⟩ := he A outer s H E
  obtain ⟨pl, hcall⟩ := hpl s.heap.objs.size
  subst har
  have hex : ∀ env, execs body env = execs [.Expr (.Call (.Attribute (.Call (.Name "super" p0) [] [] p1) "__init__" p2) [e] [] p3) p4, .Assign [.Attribute (.Name ar.arg p5) fld p6] (.Name arg p7) p8] env := fun env => by rw [hbody]
  rw [hex]
  refine ks_wpAt_execs_cons (super_stmt (ar := ar) SC hf hp hks (S.frk _ (by simp)) (S.par _ (by simp)) S.kind I rfl rfl ha ht (fun Q hQ => htq a v hv Q H hQ) hcall (hst _) (hsw _) fun s' J => ?_)
  show _root_.PySem.wpAt _ _ _ (execs [_] _) _ _ s'
  have hps : PSs (ncx CX P w K mg base [ar.arg, arg, "__class__"] ⟨name, qual, params, body, scope, [("__class__", cc)], cda⟩ f A outer s H E) [.Assign [.Attribute (.Name ar.arg p5) fld p6] (.Name arg p7) p8] _ :=
    pss_one (ps_ost (pe_var (i := 0) rfl (.inl (S.par _ (by simp))) hd1 hd3) (pe_var (i := 1) rfl (.inl (S.par _ (by simp))) hd2 hd4) (hsw2 _))
  refine wpAt_of_wpAny (wpAny_mono (hps.run [] s' _ H { nx := fun _ H' => Q .non H', rt := Q } J ⟨v, rfl, .ref a, rfl, a, C, rfl, SC.T, hno, .inl ⟨ha, hq⟩⟩) (fun fl s' hs => ?_) fun e s' hs => hs)
  have fin : ∀ {σ' : L2.St} {H' : Hp} {v : V} {u : Value}, L2.Inv (ncx CX P w K mg base [ar.arg, arg, "__class__"] ⟨name, qual, params, body, scope, [("__class__", cc)], cda⟩ f A outer s H E) [] σ' H' s' → L2.RelV v u → Q v H' → CE outer P w H s Q u s' :=
    fun {σ' H' v u} J rv q => ⟨v, H', J.os, J.bare, J.base, J.hok, rv, q⟩
  cases fl with
  | ret u =>
    obtain ⟨v, σ', H', J, rv, q⟩ := hs
    exact fin J rv q
  | next =>
    obtain ⟨σ', H', J, q⟩ := hs
    exact fin (v := V.non) (u := Value.none) J rfl q
  | brk =>
    obtain ⟨_, _, _, q⟩ := hs
    exact False.elim q
  | cont =>
    obtain ⟨_, _, _, q⟩ := hs
    exact False.elim q
end Dd

set_option Elab.async false
set_option linter.all false
set_option maxRecDepth 100000
set_option maxHeartbeats 4000000
/-! DdExc: raise, try .. except, what an except suite asks of its exception, by data -/
namespace PySem.W
open PySem PySem.Spec PySem.Calls PyProof.Rows
section
variable {prog : Program} {w : World} {A : Around} {E : Value → Shared → Prop} {s : Shared} {K : Frag} {x D : Addr} {ox : Obj} {od : Option Obj}
theorem findObj_dataO {C : Addr} {name : Str} {a g : Value} (hc : (clsIn K C).isSome = true) (ha : findIn K (.ref C) name = some (some a)) (hg : specialIn K a "__get__" = some (some g)) (ht : takesIn K a = some true) : findObj K C od name = some (.bind g a) := by
  obtain ⟨cd, hc⟩ := Option.isSome_iff_exists.mp hc
  unfold findObj
  rw [hc, Option.bind_some, ha, Option.bind_some]
  simp [hg, ht]
/-- e.__class__, e an exception with or without a dict -/
theorem kin_classO {Q : Option Value → Shared → Prop} (C : L2.ExcC K D) (X : K.In s.heap) (I : InstAt s.heap x ox D od) (h : Q (some (.ref D)) { s with toks := s.toks + 1 }) : wpAny (model prog w) A (getAttr? (.ref x) "__class__") Q E s := by
  have hf : findObj K D od "__class__" = some (.bind (.builtin "getset_descriptor.__get__") (.builtin "object.__class__")) := findObj_dataO (by obtain ⟨cd, hc, _⟩ := any_some C.hd; rw [hc]; rfl) C.ha C.hn C.ht
  obtain ⟨hp, g, d, t, os⟩ := s
  have L0 := I.type (M := model prog w)
  have L1 := looks_findIn (M := model prog w) X C.hg
  have L2 := looks_findIn (M := model prog w) X C.hk
  have L3 := looks_find (M := model prog w) X I hf
  have sub : Looks (model prog w) hp (isInstance (.ref x) (.type "BaseException")) true := L0.andThen (looks_subIn X C.hs)
  have hx0 : (false && onTheHeap (Value.builtin "BaseException.__getattribute__")) = false := rfl
  have hx2 : (Value.builtin "BaseException.__getattribute__" == Value.builtin "object.__getattribute__") = false := by decide +kernel
  have hx1 : (onTheHeap (Value.ref D) && Value.builtin "BaseException.__getattribute__" == Value.builtin "object.__getattribute__") = false := by rw [hx2]; rfl
  unfold getAttr? getAttrBy? getAttrBy
  refine wpAny_bind (wpAny_mkText (wpAny_bind (wpAny_attempt (wpAny_holding (wpAny_bind (L0.at (wpAny_bind (L1.at ?_))))))))
  show wpAny _ _ (if (onTheHeap (Value.ref D) && Value.builtin "BaseException.__getattribute__" == Value.builtin "object.__getattribute__") = true then _ else _) _ _ _
  rw [hx1, if_neg Bool.false_ne_true]
  unfold getAttrByItsOwn hookBefore
  refine wpAny_bind ?_
  rw [if_pos (show onTheHeap (Value.ref D) = true from rfl)]
  refine L2.at ?_
  refine wpAny_bind (wpAny_attempt (wpAny_holding ?_))
  unfold callGetattribute
  rw [hx0, if_neg Bool.false_ne_true]
  unfold boundAndCalled
  rw [PySem.F.excAttr_ValueError.ga.bind (.ref x)]
  refine wpAny_bind (wpAny_pure ?_)
  show wpAny _ _ (call (.builtin "BaseException.__getattribute__") [.ref x, .str "__class__" t]) _ _ _
  refine wpAny_call (codeAny_call_builtin PySem.F.excAttr_ValueError.ga.plain PySem.F.entry_bexc_ga ?_)
  refine @check_slot (model prog w) _ _ ⟨hp, g, d, t + 1, os⟩ "BaseException.__getattribute__" "BaseException" "__getattribute__" (.ref x) [.str "__class__" t] [] _ (by decide +kernel) (by decide +kernel) sub (PySem.F.args_bexc_ga (.ref x) (.str "__class__" t)) ?_
  unfold Builtin.«object.__getattribute__»
  refine wpAny_bind (wpAny_of_eq (a := ((Value.ref x : Value), [Value.str "__class__" t])) (by first | rfl | (simp only [slotArgs]; rfl)) ?_)
  refine wpAny_bind (wpAny_pure (wpAny_bind (L0.at (wpAny_bind (L3.at ?_)))))
  show wpAny _ _ (holding [Value.builtin "object.__class__"] (call (.builtin "getset_descriptor.__get__") [.builtin "object.__class__", .ref x, .ref D]) >>= ret) _ _ _
  refine wpAny_bind (wpAny_holding (wpAny_call (class_get (s := ⟨hp, g, d, t + 1, os⟩) (ox := ox) (od := od) X I C.hm ?_)))
  refine wpAny_pure ?_
  show wpAny _ _ (handedOut (.ref D)) _ _ _
  rw [handedOut_of (v := .ref D) rfl]
  first
    | exact wpAny_pure (wpAny_pure h)
    | exact wpAny_pure h
    | exact wpAny_pure (wpAny_bind (wpAny_pure (wpAny_pure h)))
theorem kitx_excO (C : L2.ExcC K D) : KitX K (.ref x) (.ref D) (fun h => ∃ od, InstAt h x ox D od) where
  ty := fun _ _ _ ⟨_, I⟩ => I.type
  it := fun _ _ X _ => by
    obtain ⟨cdD, hcD, _⟩ := any_some C.hd
    unfold clsIn at hcD
    split at hcD
    · rename_i c' d' cd' sl' ho
      intro A' Q' E' s' k q
      unfold isType loadHead
      exact wpAny_bind (wpAny_loadPart (k _ _ (X _ _ ho)) (wpAny_pure q))
    · cases hcD
  ne := fun h tp dd its n sl X htp => by
    obtain ⟨cdD, hcD, _⟩ := any_some C.hd
    refine Bool.eq_false_iff.mpr fun q => ?_
    have e : D = tp := Value.ref.inj (beq_iff_eq.mp q)
    subst e
    unfold clsIn at hcD
    split at hcD
    · rename_i c' d' cd' sl' ho
      have z := (X _ _ ho).symm.trans htp
      cases z
    · cases hcD
  ca := fun X ⟨_, I⟩ k => kin_classO C X I k
end
end PySem.W
namespace Dd
open PySem PySem.Spec PyProof.Rows L2 Evl OwnO My

/-! ### raise -/
/-- raise C('..') -/
def raiS (c : Nat) : SF := fun _ ρ σ => .exc c [] ρ σ
def excArg (d : D) : Bool := match d with
  | .int i => decide (i.natAbs.log2 < 1920)
  | .str s => decide (s.length ≤ 100000)
  | _ => false
/-- raise C(e), C's own __init__ setting its one attribute -/
def rai1S (c : Nat) (f : EF) : SF := fun _ ρ σ => withE (f ρ σ) ρ σ fun x => if excArg x = true then .exc c [x] ρ σ else .bad
/-- an error class with an __init__ of its own -/
structure XiC (P : Program) (w : World) (K : PySem.W.Frag) (mg : Str → Option Value) (base : Heap) (x : Str) (C : Addr) (fld : Str) : Prop where
  T : OexC K C
  g : mg x = some (.ref C)
  i : ∃ fI fd ps, PySem.W.findIn K (.ref C) "__init__" = some (some (.ref fI)) ∧ PySem.W.typeIn K (.ref fI) = some (.type "function") ∧ FnOk P w K mg base (L2.CX P w) 1 fI fd ps (spI C fld) ∧ Binds K fd ps []
section
variable {X : Cx} {W : Wd} {Wx : WX} {n k : Nat} {x m : Str} {e : Expr} {f : EF} {p p2 pos pos' : Pos} {j : Nat}
theorem ds_raise (c : Cok X W Wx n) (E : ErrC X.K X.mg x (W.CA k)) (hg : Gl X x := by rfl) (hdb : (x == ("__debug__" : Str)) = false := by decide) : PSd X W Wx (.Raise (some (.Call (.Name x p) [.Constant (.str m) j p2] [] pos)) none pos') (raiS k) := fun mu =>
  ps_weak (ps_raise c.calm c.tk (pmk_own PySem.F.excBase_ValueError E.xi E.g E.kp (raises_own E.sb E.ty) hg hdb)) fun Dn σ H ⟨RA, ρ, σd, B, b, l, q⟩ => q RA B H σ _ _ (.refl mu b) l ⟨rfl, .inl ⟨rfl, rfl⟩⟩
theorem exc_arg {RA : List Addr} {B : Hp} {d : D} {v : V} (h : Rep W RA B d v) (e : excArg d = true) : (∃ y : Str, v = .str y ∧ y.length ≤ 100000) ∨ ∃ i : Int, v = .int i ∧ i.natAbs.log2 < 1920 := by
  unfold excArg at e
  split at e
  · exact .inr ⟨_, by simpa only [Rep] using h, of_decide_eq_true e⟩
  · exact .inl ⟨_, by simpa only [Rep] using h, of_decide_eq_true e⟩
  · cases e
theorem ds_raise1 {fld : Str} (c : Cok X W Wx n) (E : XiC X.prog X.w X.K X.mg X.base x (W.CA k) fld) (hF : W.CF k = [fld]) (he : PE X e (tE W Wx f)) (hg : Gl X x := by rfl) (hdb : (x == ("__debug__" : Str)) = false := by decide)
    (hs : starEach [e] X.env = (false, eval e X.env) :: starEach [] X.env := by rfl) (hpl : (backTo pos (starEach [] X.env)).any (·.1) = false := by rfl) : PSd X W Wx (.Raise (some (.Call (.Name x p) [e] [] pos)) none pos') (rai1S k f) := fun mu => by
  obtain ⟨fI, fd, ps, h1, h2, h3, h4⟩ := E.i
  refine ps_weak (ps_raise c.calm c.tk (pmk_oex (ds := []) (dvs := []) E.T h1 h2 h3 (c.room.mono (by omega)) h4 .nil (passes_call c.tk fun _ _ _ _ z => z.elim) hg E.g (pa_cons he pa_nil hs) hdb hs hpl)) fun Dn σ H ⟨RA, ρ, σd, B, b, l, q⟩ =>
    ⟨RA, ρ, σd, B, b, l, (Done.withE b l q).imp fun d B1 H1 a1 q1 v rv => ?_⟩
  split at q1
  · rename_i hx
    refine ⟨by show 1 ≤ 1000; omega, fun a ha => ⟨a, v, by simp, exc_arg rv hx, upd_same, fun dx hdx hne => ⟨rfl, dx, [(fld, v)], upd_same, ?_, ?_, ?_⟩⟩⟩
    · rw [upd_ne hne, upd_same]
    · rw [upd_ne hne] at hdx; exact hdx
    · have hdx1 : H1 dx = none := by rw [upd_ne hne] at hdx; exact hdx
      have eH : upd (del (upd (upd (upd H1 a (exo a (W.CA k) none)) dx (exd dx [(fld, v)])) a (exo a (W.CA k) (some dx))) a) dx (.xd [(fld, v)]) = upd H1 dx (.xd [(fld, v)]) := by
        funext z
        by_cases h1 : z = dx
        · subst h1; rw [upd_same, upd_same]
        · rw [upd_ne h1, upd_ne h1]
          by_cases h2 : z = a
          · subst h2; rw [del_same, ha]
          · rw [del_ne h2, upd_ne h2, upd_ne h1, upd_ne h2]
      rw [eH]
      have af := Aft.laid (o := .xd [(fld, v)]) a1.base hdx1
      refine q1 RA _ _ σ _ _ (.of_aft mu af) ((l.ex a1.bl).ex af.bl) ⟨rfl, .inr ⟨dx, [v], rfl, ?_, .cons (rv.ex af.bl) .nil, by rw [hF]; rfl⟩⟩
      rw [upd_same, hF]
      rfl
  · exact q1.elim
end

/-! ### an except suite -/
/-- within a suite: the exception at a -/
def Wd.at (W : Wd) (a : Addr) (cls : Value) (d : Option Addr) : Wd := { W with exn := fun x => if x = a then some (cls, d) else none }
mutual
def noX : D → Bool
  | .tup l => noXL l
  | .lst l => noXL l
  | .st l => noXL l
  | .dct _ l => noXL l
  | .wd _ l => noXL l
  | .ins _ l => noXL l
  | .exn _ _ => false
  | .scr l => noXL l
  | _ => true
def noXL : List D → Bool
  | [] => true
  | d :: l => noX d && noXL l
end
section
variable {W : Wd} {RA : List Addr} {B H : Hp} {a0 : Addr} {cls : Value} {dd : Option Addr}
mutual
theorem Rep.unx : ∀ (d : D) (v : V), noX d = true → Rep (W.at a0 cls dd) RA B d v → Rep W RA B d v
  | .non, v, _, h => by simpa only [Rep] using h
  | .bl b, v, _, h => by simpa only [Rep] using h
  | .int i, v, _, h => by simpa only [Rep] using h
  | .str s, v, _, h => by simpa only [Rep] using h
  | .tup l, v, o, h => by
    simp only [Rep] at h ⊢
    obtain ⟨a, vs, h1, h2, h3⟩ := h
    exact ⟨a, vs, h1, h2, RepL.unx l vs (by simpa only [noX] using o) h3⟩
  | .lst l, v, o, h => by
    simp only [Rep] at h ⊢
    obtain ⟨a, vs, h1, h2, h3⟩ := h
    exact ⟨a, vs, h1, h2, RepL.unx l vs (by simpa only [noX] using o) h3⟩
  | .scr l, v, o, h => by
    simp only [Rep] at h ⊢
    obtain ⟨a, vs, h1, h2, h3⟩ := h
    exact ⟨a, vs, h1, h2, RepL.unx l vs (by simpa only [noX] using o) h3⟩
  | .st l, v, o, h => by simpa only [Rep] using h
  | .dct ks l, v, o, h => by
    simp only [Rep] at h ⊢
    obtain ⟨a, kvs, h1, h2, h3, h4⟩ := h
    exact ⟨a, kvs, h1, h2, h3, RepL.unx l _ (by simpa only [noX] using o) h4⟩
  | .wd ks l, v, o, h => by
    simp only [Rep] at h ⊢
    obtain ⟨a, vs, h1, h2, h3⟩ := h
    exact ⟨a, vs, h1, h2, RepL.unx l vs (by simpa only [noX] using o) h3⟩
  | .ins c fs, v, o, h => by
    simp only [Rep] at h ⊢
    obtain ⟨a, dx, vs, h1, h2, h3, h4⟩ := h
    exact ⟨a, dx, vs, h1, h2, RepL.unx fs vs (by simpa only [noX] using o) h3, h4⟩
  | .exn c fs, v, o, h => by simp only [noX] at o; cases o
  | .rt r, v, _, h => by simpa only [Rep] using h
  | .ty n, v, _, h => by simpa only [Rep] using h
  | .cl c, v, _, h => by simp only [Rep] at h ⊢; exact h
theorem RepL.unx : ∀ (l : List D) (vs : List V), noXL l = true → RepL (W.at a0 cls dd) RA B l vs → RepL W RA B l vs
  | [], vs, _, h => by simpa only [RepL] using h
  | d :: l, vs, o, h => by
    simp only [RepL] at h ⊢
    simp only [noXL, Bool.and_eq_true] at o
    obtain ⟨v, us, h1, h2, h3⟩ := h
    exact ⟨v, us, h1, Rep.unx d v o.1 h2, RepL.unx l us o.2 h3⟩
end
mutual
theorem Rep.inx (hx : ∀ a, W.exn a = none) : ∀ (d : D) (v : V), Rep W RA B d v → Rep (W.at a0 cls dd) RA B d v
  | .non, v, h => by simpa only [Rep] using h
  | .bl b, v, h => by simpa only [Rep] using h
  | .int i, v, h => by simpa only [Rep] using h
  | .str s, v, h => by simpa only [Rep] using h
  | .tup l, v, h => by
    simp only [Rep] at h ⊢
    obtain ⟨a, vs, h1, h2, h3⟩ := h
    exact ⟨a, vs, h1, h2, RepL.inx hx l vs h3⟩
  | .lst l, v, h => by
    simp only [Rep] at h ⊢
    obtain ⟨a, vs, h1, h2, h3⟩ := h
    exact ⟨a, vs, h1, h2, RepL.inx hx l vs h3⟩
  | .scr l, v, h => by
    simp only [Rep] at h ⊢
    obtain ⟨a, vs, h1, h2, h3⟩ := h
    exact ⟨a, vs, h1, h2, RepL.inx hx l vs h3⟩
  | .st l, v, h => by simpa only [Rep] using h
  | .dct ks l, v, h => by
    simp only [Rep] at h ⊢
    obtain ⟨a, kvs, h1, h2, h3, h4⟩ := h
    exact ⟨a, kvs, h1, h2, h3, RepL.inx hx l _ h4⟩
  | .wd ks l, v, h => by
    simp only [Rep] at h ⊢
    obtain ⟨a, vs, h1, h2, h3⟩ := h
    exact ⟨a, vs, h1, h2, RepL.inx hx l vs h3⟩
  | .ins c fs, v, h => by
    simp only [Rep] at h ⊢
    obtain ⟨a, dx, vs, h1, h2, h3, h4⟩ := h
    exact ⟨a, dx, vs, h1, h2, RepL.inx hx fs vs h3, h4⟩
  | .exn c fs, v, h => by
    simp only [Rep] at h
    obtain ⟨a, d, h1, h2, h3⟩ := h
    rw [hx] at h2; cases h2
  | .rt r, v, h => by simpa only [Rep] using h
  | .ty n, v, h => by simpa only [Rep] using h
  | .cl c, v, h => by simp only [Rep] at h ⊢; exact h
theorem RepL.inx (hx : ∀ a, W.exn a = none) : ∀ (l : List D) (vs : List V), RepL W RA B l vs → RepL (W.at a0 cls dd) RA B l vs
  | [], vs, h => by simpa only [RepL] using h
  | d :: l, vs, h => by
    simp only [RepL] at h ⊢
    obtain ⟨v, us, h1, h2, h3⟩ := h
    exact ⟨v, us, h1, Rep.inx hx d v h2, RepL.inx hx l us h3⟩
end
theorem RootAt.unx {a : Addr} : ∀ {d : D}, noX d = true → RootAt (W.at a0 cls dd) RA B H a d → RootAt W RA B H a d
  | .lst l, o, ⟨vs, h1, h2⟩ => ⟨vs, h1, RepL.unx l vs (by simpa only [noX] using o) h2⟩
  | .dct ks l, o, ⟨kvs, h1, h2, h3⟩ => ⟨kvs, h1, h2, RepL.unx l _ (by simpa only [noX] using o) h3⟩
  | .ins c fs, o, ⟨dx, vs, h1, h2, h3⟩ => ⟨dx, vs, h1, RepL.unx fs vs (by simpa only [noX] using o) h2, h3⟩
theorem RootAt.inx (hx : ∀ a, W.exn a = none) {a : Addr} : ∀ {d : D}, RootAt W RA B H a d → RootAt (W.at a0 cls dd) RA B H a d
  | .lst l, ⟨vs, h1, h2⟩ => ⟨vs, h1, RepL.inx hx l vs h2⟩
  | .dct ks l, ⟨kvs, h1, h2, h3⟩ => ⟨kvs, h1, h2, RepL.inx hx l _ h3⟩
  | .ins c fs, ⟨dx, vs, h1, h2, h3⟩ => ⟨dx, vs, h1, RepL.inx hx fs vs h2, h3⟩
theorem Base.inx {ρ : List D} (hx : ∀ a, W.exn a = none) (b : Base W RA ρ B H) : Base (W.at a0 cls dd) RA ρ B H := ⟨b.le, b.len, b.nd, b.out, fun r a d h1 h2 => (b.roots r a d h1 h2).inx hx⟩
theorem LocOk.inx {σd : Env} {σ : L2.St} (hx : ∀ a, W.exn a = none) (l : LocOk W RA B σd σ) : LocOk (W.at a0 cls dd) RA B σd σ := ⟨l.1, fun i d h => by
  obtain ⟨v, h1, h2⟩ := l.2 i d h
  exact ⟨v, h1, Rep.inx hx d v h2⟩⟩
end
def suiteOut (ρ : List D) : Out → Out
  | .ret fr d ρ' => if ρ'.length = ρ.length ∧ noX d = true then .ret fr d ρ else .bad
  | _ => .bad
/-- an except clause: its class, its name's slot, its suite -/
abbrev Hd := Nat × Option Nat × SF
def handleS (ise : Nat → Bool) (sub : Nat → Nat → Bool) : List Hd → Nat → List D → List D → Env → Out
  | [], c, fs, ρ, σ => .exc c fs ρ σ
  | (k, i, s) :: r, c, fs, ρ, σ => if ise c = true ∧ ise k = true then (if sub c k = true then suiteOut ρ (s (fun _ => false) ρ (match i with
      | some i => σ.set i (some (.exn c fs))
      | none => σ)) else handleS ise sub r c fs ρ σ) else .bad
def tryS (ise : Nat → Bool) (sub : Nat → Nat → Bool) (b : SF) (hs : List Hd) : SF := fun mu ρ σ => match b mu ρ σ with
  | .exc c fs ρ' σ' => handleS ise sub hs c fs ρ' σ'
  | o => o
/-- the clauses' suites keep to their functions -/
inductive HdsD (X : Cx) (W : Wd) : List ExceptHandler → List Hd → Prop
  | nil : HdsD X W [] []
  | cons {x : Str} {k : Nat} {s : SF} {b₀ : Stmt} {suite : List Stmt} {np pos' : Pos} {hds : List ExceptHandler} {l : List Hd} (hc : Names X x (.ref (W.CA k)))
      (hsu : ∀ (a : Addr) (oe : Obj) (cls : Value) (d : Option Addr) (pn : List (Addr × Obj)), Zc cls d oe → (∃ vs, oe.data = .fields vs) → PSsd (X.suite a ((a, oe) :: pn)) (W.at a cls d) WF (b₀ :: suite) s) (r : HdsD X W hds l) :
      HdsD X W (.ExceptHandler (some (.Name x np)) none (b₀ :: suite) pos' :: hds) ((k, none, s) :: l)
  | consAs {x n : Str} {k i : Nat} {s : SF} {b₀ : Stmt} {suite : List Stmt} {np pos' : Pos} {hds : List ExceptHandler} {l : List Hd} (hc : Names X x (.ref (W.CA k))) (hN : X.N.Nodup) (hi : X.N[i]? = some n) (hln : X.env.kindOf n = some .local)
      (hsu : ∀ (a : Addr) (oe : Obj) (cls : Value) (d : Option Addr) (pn : List (Addr × Obj)), Zc cls d oe → (∃ vs, oe.data = .fields vs) → PSsd (X.suite a ((a, oe) :: pn)) (W.at a cls d) WF (b₀ :: suite) s) (r : HdsD X W hds l) :
      HdsD X W (.ExceptHandler (some (.Name x np)) (some n) (b₀ :: suite) pos' :: hds) ((k, some i, s) :: l)
def tHd (W : Wd) (h : Hd) : Value × Option Nat × SuiteT := (.ref (W.CA h.1), h.2.1, fun a cls d => tS (W.at a cls d) WF (fun _ => false) h.2.2)
section
variable {X : Cx} {W : Wd} {Wx : WX}
theorem HdsD.hds {hs : List ExceptHandler} {l : List Hd} (h : HdsD X W hs l) : HdsN X hs (l.map (tHd W)) := by
  induction h with
  | nil => exact .nil
  | cons hc hsu r ih => exact .cons hc (fun a oe cls d pn hz hf => hsu a oe cls d pn hz hf _) ih
  | consAs hc hN hi hln hsu r ih => exact .consAs hc hN hi hln (fun a oe cls d pn hz hf => hsu a oe cls d pn hz hf _) ih
/-- a suite has ended -/
theorem suite_out {RA RA' : List Addr} {ρ ρ' : List D} {B H B' H' : Hp} {mu : Nat → Bool} {a : Addr} {cls : Value} {d : Option Addr} {Dn : Ends} {Wy : WX} {o : Out} (hx : ∀ a, W.exn a = none) (gr : Grow W mu RA ρ B H RA' ρ' B' H') (q : Done W Wx mu RA ρ B H Dn (suiteOut ρ' o)) (D2 : Ends) (hD : D2.rt = Dn.rt) : Done (W.at a cls d) Wy (fun _ => false) RA' ρ' B' H' D2 o := by
  cases o with
  | ret fr x ρ2 =>
    simp only [suiteOut] at q
    split at q
    · rename_i hc
      intro RA2 B2 H2 v g2 r2
      have eR : RA2 = RA' := by
        obtain ⟨t, et⟩ := g2.pre
        have h1 := g2.base.len
        have h2 := gr.base.len
        rw [et, List.length_append] at h1
        have : t.length = 0 := by omega
        rw [et, List.eq_nil_of_length_eq_zero this, List.append_nil]
      subst eR
      have g3 : Grow W (fun _ => false) RA2 ρ' B' H' RA2 ρ' B2 H2 := ⟨⟨[], by simp⟩, g2.bl, ⟨g2.base.le, gr.base.len, gr.base.nd, g2.base.out, fun r c dd h1 h2 => (gr.base.roots r c dd h1 h2).mono g2.bl (fun _ _ z => z) fun o ho => g2.keep c o ho fun _ _ => rfl⟩, g2.keep, g2.new, g2.bn, fun r _ _ => rfl⟩
      have g4 := gr.trans (g3.sub (mu := mu) fun _ _ => rfl)
      rw [hD]
      refine q RA2 B2 H2 v g4 ?_
      unfold ResAt at r2 ⊢
      split
      · rename_i hf
        rw [if_pos hf] at r2
        obtain ⟨p, h1, h2, h3, h4, h5⟩ := r2
        exact ⟨p, h1, gr.free h2, h3, h4, h5.unx hc.2⟩
      · rename_i hf
        rw [if_neg hf] at r2
        exact Rep.unx x v hc.2 r2
    · exact q.elim
  | _ => exact q.elim
theorem hand_many {RA : List Addr} {ρ : List D} {B H : Hp} {mu : Nat → Bool} {Dn : Ends} (ok : WOk W) (hx : ∀ a, W.exn a = none) : ∀ (l : List Hd) {c : Nat} {fs ρ' : List D} {σd' : Env} {RA' : List Addr} {B' H' : Hp} {σ' : L2.St} {cls : Value} {dx : Option Addr}, Grow W mu RA ρ B H RA' ρ' B' H' → LocOk W RA' B' σd' σ' → ExcAt W RA' B' H' c fs cls dx →
    Done W Wx mu RA ρ B H Dn (handleS W.ise W.sub l c fs ρ' σd') → wManyN W.K Wx Dn (l.map (tHd W)) cls dx σ' H'
  | [], c, fs, ρ', σd', RA', B', H', σ', cls, dx, gr, lo, ex, q => q RA' B' H' σ' cls dx gr lo ex
  | (k, none, s) :: l, c, fs, ρ', σd', RA', B', H', σ', cls, dx, gr, lo, ex, q => by
    simp only [handleS] at q
    split at q
    · rename_i hi
      refine ⟨W.sub c k, by rw [ex.1]; exact ok.exm c k hi.1 hi.2, fun hs a ha => ?_, fun hs => ?_⟩
      · rw [if_pos hs] at q
        exact ⟨RA', ρ', σd', B', gr.base.inx hx, lo.inx hx, suite_out hx gr q _ rfl⟩
      · rw [if_neg (by rw [hs]; exact Bool.false_ne_true)] at q
        exact hand_many ok hx l gr lo ex q
    · exact q.elim
  | (k, some i, s) :: l, c, fs, ρ', σd', RA', B', H', σ', cls, dx, gr, lo, ex, q => by
    simp only [handleS] at q
    split at q
    · rename_i hi
      refine ⟨W.sub c k, by rw [ex.1]; exact ok.exm c k hi.1 hi.2, fun hs a ha => ?_, fun hs => ?_⟩
      · rw [if_pos hs] at q
        refine ⟨RA', ρ', _, B', gr.base.inx hx, (lo.inx hx).set (d := .exn c fs) ?_ i, suite_out hx gr q _ rfl⟩
        simp only [Rep]
        refine ⟨a, dx, rfl, by show (if a = a then some (cls, dx) else none) = _; rw [if_pos rfl, ex.1]; rfl, ?_⟩
        rcases ex.2 with z | ⟨d, vs, h1, h2, h3, h4⟩
        · exact .inl z
        · exact .inr ⟨d, vs, h1, h2, RepL.inx hx fs vs h3, h4⟩
      · rw [if_neg (by rw [hs]; exact Bool.false_ne_true)] at q
        exact hand_many ok hx l gr lo ex q
    · exact q.elim
theorem ds_try {n : Nat} {body : List Stmt} {h₀ : ExceptHandler} {hds : List ExceptHandler} {l : List Hd} {pos : Pos} {s : SF} (c : Cok X W Wx n) (hx : ∀ a, W.exn a = none) (hs : X.stack = X.env :: X.outer) (hf : X.env.frame = some X.env.locals)
    (hb : ∀ (Wy : WX) (pn : List (Addr × Obj)) (xe : Value → Shared → Prop), Cok (X.tr pn xe) W Wy n → PSsd (X.tr pn xe) W Wy body s) (hh : HdsD X W (h₀ :: hds) l) : PSd X W Wx (.Try body (h₀ :: hds) [] [] pos) (tryS W.ise W.sub s l) := fun mu =>
  ps_weak (ps_tryN hs hf c.tk (fun Wy pn xe tk po => hb Wy pn xe ⟨c.K, c.w, c.ok, c.calm, c.room, tk, po⟩ mu) hh.hds) fun Dn σ H ⟨RA, ρ, σd, B, b, lo, q⟩ => ⟨RA, ρ, σd, B, b, lo, by
    unfold tryS at q
    cases e : s mu ρ σd with
    | exc c' fs ρ' σ' =>
      rw [e] at q
      intro RA' B' H' σ2 cls dx gr l2 ex
      rw [c.K]
      exact hand_many c.ok hx l gr l2 ex q
    | nx _ _ => rw [e] at q; exact q
    | ret _ _ _ => rw [e] at q; exact q
    | brk _ _ => rw [e] at q; exact q
    | ct _ _ => rw [e] at q; exact q
    | bad => rw [e] at q; exact q⟩
end
end Dd

set_option Elab.async false
set_option linter.all false
set_option maxRecDepth 100000
set_option maxHeartbeats 4000000
/-! DdExc2: within an except suite: isinstance(e, C), e.f -/
namespace Dd
open PySem PySem.Spec PyProof.Rows L2 Evl OwnO My

/-- isinstance of an exception -/
def isxC (ise : Nat → Bool) (sub : Nat → Nat → Bool) (ρ : List D) (xs : List D) : Option D := match xs with
  | [.exn c fs, y] => if ise c = true then (match y with
      | .cl k => if ise k = true then some (.bl (sub c k)) else none
      | .ty .verr => some (.bl true)
      | _ => none) else none
  | _ => none
def rIsX (K : PySem.W.Frag) (a : Addr) (cls : Value) (d : Option Addr) : List V → Hp → VK → Prop := fun xs H Q => ∃ (D : Addr) (c : V) (cv : Value) (b : Bool), xs = [.ref a, c] ∧ cls = .ref D ∧ ExcC K D ∧ (∀ u, L2.RelV c u → u = cv) ∧ PySem.W.kitOne K (.ref D) cv = some b ∧ (d = none ∨ ∃ dd fs, d = some dd ∧ H dd = some (.xd fs)) ∧ Q (.bl b) H
theorem call_isX {X : Cx} {a : Addr} {cls : Value} {d : Option Addr} {oe : Obj} {pn : List (Addr × Obj)} (hz : Zc cls d oe) (hf : ∃ vs, oe.data = .fields vs) : CallR (X.suite a ((a, oe) :: pn)) (.builtin "isinstance") (rIsX X.K a cls d) := by
  intro pins s σ H xs us Q I r h
  obtain ⟨D, c, cv, b, rfl, rfl, C, hcv, e, hd, q⟩ := h
  cases r with
  | cons rx rr =>
    cases rr with
    | cons rt rr =>
      cases rr
      cases rx
      have ec := hcv _ rt
      subst ec
      obtain ⟨hget, _⟩ := I.pin (a, oe) (List.mem_append.mpr (.inl List.mem_cons_self))
      obtain ⟨vs, hv⟩ := hf
      have J : ∃ od, PySem.W.InstAt s.heap a oe D od := by
        rcases hd with hd | ⟨dd, fs, hd, hdd⟩
        · subst hd
          obtain ⟨oc, od, oda, osl⟩ := oe
          obtain ⟨h1, h2⟩ := hz
          dsimp only at h1 h2 hv
          subst h1 h2 hv
          exact ⟨none, hget, rfl, rfl, trivial⟩
        · subst hd
          have hx : ObjOk X.prog X.w H s.heap dd (.xd fs) := I.hok dd _ hdd
          obtain ⟨mA, hns, hr⟩ := hx
          obtain ⟨od, ho, hl⟩ := lookIn_ns hns
          exact ⟨some od, hget, hz.1, by unfold PySem.W.notCls; rw [hv] <;> rfl, by rw [hz.2]; exact ho⟩
      exact PySem.W.kia_one (PySem.W.kitx_excO C) I.kIn J e (fun z => nomatch z) fun tk => ⟨.bl b, H, I.kept (t' := tk) fun _ _ z => z, rfl, q⟩
/-- the exception that a suite holds -/
theorem view_exn {W : Wd} {RA : List Addr} {ρ : List D} {B H : Hp} {a0 : Addr} {cls : Value} {dx : Option Addr} {c : Nat} {fs : List D} {v : V} (b : Base (W.at a0 cls dx) RA ρ B H) (h : Rep (W.at a0 cls dx) RA B (.exn c fs) v) : v = .ref a0 ∧ cls = .ref (W.CA c) ∧ ((fs = [] ∧ dx = none) ∨ ∃ dd vs, dx = some dd ∧ H dd = some (.xd ((W.CF c).zip vs)) ∧ RepL (W.at a0 cls dx) RA B fs vs ∧ vs.length = (W.CF c).length) := by
  simp only [Rep] at h
  obtain ⟨a, d, rfl, h2, h3⟩ := h
  have h2 : (if a = a0 then some (cls, dx) else none) = some (.ref (W.CA c), d) := h2
  by_cases ea : a = a0
  · rw [if_pos ea] at h2
    have h7 : cls = .ref (W.CA c) ∧ dx = d := by
      have := Option.some.inj h2
      exact ⟨congrArg Prod.fst this, congrArg Prod.snd this⟩
    subst ea
    obtain ⟨h7, h8⟩ := h7
    subst h8
    refine ⟨rfl, h7, ?_⟩
    rcases h3 with h3 | ⟨dd, vs, h4, h5, h6⟩
    · exact .inl h3
    · exact .inr ⟨dd, vs, h4, b.le dd _ h5, h6⟩
  · rw [if_neg ea] at h2
    cases h2
theorem opc_isX {W : Wd} {a : Addr} {cls : Value} {d : Option Addr} (ok : WOk W) : OpC (W.at a cls d) (rIsX W.K a cls d) (isxC W.ise W.sub) := by
  intro RA ρ B H xs ds dv Q b r e h
  unfold isxC at e
  split at e
  · rename_i c fs y
    obtain ⟨x, v, rfl, rx, ry⟩ := two_of r
    split at e
    · rename_i hc
      obtain ⟨rfl, hcl, hd⟩ := view_exn b rx
      have hd' : d = none ∨ ∃ dd fs, d = some dd ∧ H dd = some (.xd fs) := by
        rcases hd with hd | ⟨dd, vs, h1, h2, _⟩
        · exact .inl hd.2
        · exact .inr ⟨dd, _, h1, h2⟩
      split at e
      · rename_i k
        split at e
        · rename_i hk
          cases e
          simp only [Rep] at ry
          exact ⟨W.CA c, v, .ref (W.CA k), _, rfl, hcl, (ok.exc c hc).1, fun u hu => by rw [ry] at hu; exact hu, ok.kit c k hc hk, hd', fin_flat b (fun _ => rep_bl) h⟩
        · cases e
      · cases e
        simp only [Rep] at ry
        exact ⟨W.CA c, v, .type "ValueError", _, rfl, hcl, (ok.exc c hc).1, fun u hu => by rw [ry] at hu; exact hu, ok.kitv c hc, hd', fin_flat b (fun _ => rep_bl) h⟩
      · cases e
    · cases e
  · cases e
/-- e.f in a suite, e in slot i -/
def fldxS (CF : Nat → List Str) (ise : Nat → Bool) (nm : Str) (i : Nat) : EF := fun ρ σ => (varS i ρ σ).bind fun x => match x with
  | .exn c fs => if ise c = true then (match (CF c).findIdx? (fun g => decide (g = nm)) with
      | some k => ofO (fs[k]?)
      | none => .bad) else .bad
  | _ => .bad
theorem d_xf {X : Cx} {W : Wd} {Wx : WX} {a : Addr} {cls : Value} {d : Option Addr} {oe : Obj} {pn : List (Addr × Obj)} {e : Expr} {i : Nat} {nm : Str} {pos : Pos} (ok : WOk W) (hK : X.K = W.K) (hz : Zc cls d oe) (hf : ∃ vs, oe.data = .fields vs) (he : PE (X.suite a ((a, oe) :: pn)) e (tE (W.at a cls d) Wx (varS i)))
    (hb : attributeBase e nm X.env (eval e X.env) = eval e X.env := by rfl) : PE (X.suite a ((a, oe) :: pn)) (.Attribute e nm pos) (tE (W.at a cls d) Wx (fldxS W.CF W.ise nm i)) := by
  refine ⟨fun pins s σ H Q I ⟨RA, ρ, σd, B, b, l, q⟩ => ?_⟩
  unfold fldxS at q
  cases hv : varS i ρ σd with
  | bad => rw [hv] at q; exact q.elim
  | exc c fs => unfold varS at hv; split at hv <;> cases hv
  | ok x =>
    rw [hv] at q
    simp only [Res.bind] at q
    split at q
    · rename_i c fs
      split at q
      · rename_i hc
        split at q
        · rename_i k hk
          cases hfk : fs[k]? with
          | none => rw [hfk] at q; exact q.elim
          | some y =>
            rw [hfk] at q
            obtain ⟨C, hno⟩ := ok.exc c hc
            have hmem : nm ∈ W.CF c := by
              obtain ⟨h1, h2, _⟩ := List.findIdx?_eq_some_iff_getElem.mp hk
              exact of_decide_eq_true h2 ▸ List.getElem_mem h1
            refine (pe_xf (C := W.CA c) (by rw [hK]; exact ⟨C.hg, C.hk, C.hs, C.hd⟩) (by rw [hK]; exact hno nm hmem) hz hf he hb).run pins s σ H Q I ⟨RA, ρ, σd, B, b, l, ?_⟩
            rw [hv]
            intro B1 H1 a1 v rv
            obtain ⟨rfl, hcl, hd⟩ := view_exn a1.base rv
            refine ⟨rfl, hcl, ?_⟩
            rcases hd with ⟨h1, _⟩ | ⟨dd, vs, h1, h2, h3, h4⟩
            · rw [h1] at hfk; simp at hfk
            · obtain ⟨w, hw, rw'⟩ := h3.get hfk
              exact ⟨dd, _, w, h1, h2, lookup_zip hk hw, q B1 H1 a1 w rw'⟩
        · exact q.elim
      · exact q.elim
    · exact q.elim
/-- what holds in a suite -/
structure Csu (X : Cx) (W : Wd) : Prop where
  K : X.K = W.K
  w : X.w = W.w
  ok : WOk W
  hu : X.A.units + 128 < cLine
theorem WOk.at {W : Wd} (ok : WOk W) (a : Addr) (cls : Value) (d : Option Addr) : WOk (W.at a cls d) := ⟨ok.cls, ok.exm, ok.kit, ok.kitv, ok.exc⟩
theorem Csu.at {X : Cx} {W : Wd} (c : Csu X W) {a : Addr} {cls : Value} {d : Option Addr} {pn : List (Addr × Obj)} : Csu (X.suite a pn) (W.at a cls d) := ⟨c.K, c.w, c.ok.at a cls d, c.hu⟩
theorem Cok.csu {X : Cx} {W : Wd} {Wx : WX} {n : Nat} (c : Cok X W Wx n) : Csu X W := ⟨c.K, c.w, c.ok, c.hu⟩
end Dd

set_option Elab.async false
set_option linter.all false
set_option maxRecDepth 100000
set_option maxHeartbeats 2000000
/-! DdGen: the rules in short, for derivations that gen2.py prints -/
namespace Dd
open PySem PySem.Spec PyProof.Rows L2 Evl OwnO My

def isbD (ρ : List D) (x y : D) : Option D := match dr ρ x, dr ρ y with
  | .bl a, .bl b => some (.bl (decide (a = b)))
  | _, _ => none
def notbD (ρ : List D) (x y : D) : Option D := match dr ρ x, dr ρ y with
  | .bl a, .bl b => some (.bl (!decide (a = b)))
  | _, _ => none
theorem op2_isb (W : Wd) : Op2 W rIsB isbD := by
  intro RA ρ B H x y d1 d2 d Q b r1 r2 e h
  unfold isbD at e
  split at e
  · rename_i i j e1 e2
    cases e
    exact ⟨i, j, view_bl b r1 e1, view_bl b r2 e2, fin_flat b (fun _ => rep_bl) h⟩
  · cases e
theorem op2_notb (W : Wd) : Op2 W rNotB notbD := by
  intro RA ρ B H x y d1 d2 d Q b r1 r2 e h
  unfold notbD at e
  split at e
  · rename_i i j e1 e2
    cases e
    exact ⟨i, j, view_bl b r1 e1, view_bl b r2 e2, fin_flat b (fun _ => rep_bl) h⟩
  · cases e
section
variable {X : Cx} {W : Wd} {Wx : WX} {n : Nat} {a b c e : Expr} {es : List Expr} {f g h : EF} {fa : AF} {pos p apos : Pos}
theorem dpv (i : Nat) {x : Str} (hN : X.N[i]? = some x := by rfl) (hv : Vis X.env.scope x := by first | exact Or.inl rfl | exact Or.inr (Or.inl rfl) | exact Or.inr (Or.inr rfl)) (hd : (x == ("__debug__" : Str)) = false := by decide)
    (hcd : (x == ("__classdict__" : Str)) = false := by decide) : PE X (.Name x pos) (tE W Wx (varS i)) := dv hN hv hd hcd
theorem x_add (c : Csu X W) (ha : PE X a (tE W Wx f)) (hb : PE X b (tE W Wx g)) : PE X (.BinOp a .Add b pos) (tE W Wx (bin2 addD f g)) := pe_bin2 (opr_add W.K c.K) (op2_add W) ha hb
theorem x_sub (c : Csu X W) (ha : PE X a (tE W Wx f)) (hb : PE X b (tE W Wx g)) : PE X (.BinOp a .Sub b pos) (tE W Wx (bin2 subD f g)) := pe_bin2 op_sub (op2_sub W) ha hb
theorem x_mul (c : Csu X W) (ha : PE X a (tE W Wx f)) (hb : PE X b (tE W Wx g)) : PE X (.BinOp a .Mult b pos) (tE W Wx (bin2 mulD f g)) := pe_bin2 (opr_mul W.K c.K) (op2_mul W) ha hb
theorem x_fdiv (c : Csu X W) (ha : PE X a (tE W Wx f)) (hb : PE X b (tE W Wx g)) : PE X (.BinOp a .FloorDiv b pos) (tE W Wx (bin2 fdivD f g)) := pe_bin2 op_fdiv (op2_fdiv W) ha hb
theorem x_mod (c : Csu X W) (ha : PE X a (tE W Wx f)) (hb : PE X b (tE W Wx g)) : PE X (.BinOp a .Mod b pos) (tE W Wx (bin2 modD f g)) := pe_bin2 op_mod (op2_mod W) ha hb
theorem x_pow (c : Csu X W) (ha : PE X a (tE W Wx f)) (hb : PE X b (tE W Wx g)) : PE X (.BinOp a .Pow b pos) (tE W Wx (bin2 powD f g)) := pe_bin2 op_pow (op2_pow W) ha hb
theorem x_neg (c : Csu X W) (ha : PE X a (tE W Wx f)) : PE X (.UnaryOp .USub a pos) (tE W Wx (un1 negD f)) := pe_un1 un_neg (op1_neg W) ha
theorem x_eq (c : Csu X W) (ha : PE X a (tE W Wx f)) (hb : PE X b (tE W Wx g)) : PE X (.Compare a [.Eq] [b] pos) (tE W Wx (bin2 eqD f g)) := pe_cmp2 (opr_eq W.K c.K c.hu) (op2_eq W) (nomark _) ha hb
theorem x_ne (c : Csu X W) (ha : PE X a (tE W Wx f)) (hb : PE X b (tE W Wx g)) : PE X (.Compare a [.NotEq] [b] pos) (tE W Wx (bin2 neD f g)) := pe_cmp2 (opr_ne W.K c.K c.hu) (op2_ne W) (nomark _) ha hb
theorem x_lt (c : Csu X W) (ha : PE X a (tE W Wx f)) (hb : PE X b (tE W Wx g)) : PE X (.Compare a [.Lt] [b] pos) (tE W Wx (bin2 ltD f g)) := pe_cmp2 op_lt (op2_ord W _) (nomark _) ha hb
theorem x_le (c : Csu X W) (ha : PE X a (tE W Wx f)) (hb : PE X b (tE W Wx g)) : PE X (.Compare a [.LtE] [b] pos) (tE W Wx (bin2 leD f g)) := pe_cmp2 op_le (op2_ord W _) (nomark _) ha hb
theorem x_gt (c : Csu X W) (ha : PE X a (tE W Wx f)) (hb : PE X b (tE W Wx g)) : PE X (.Compare a [.Gt] [b] pos) (tE W Wx (bin2 gtD f g)) := pe_cmp2 op_gt (op2_ord W _) (nomark _) ha hb
theorem x_ge (c : Csu X W) (ha : PE X a (tE W Wx f)) (hb : PE X b (tE W Wx g)) : PE X (.Compare a [.GtE] [b] pos) (tE W Wx (bin2 geD f g)) := pe_cmp2 op_ge (op2_ord W _) (nomark _) ha hb
theorem x_in (c : Csu X W) (ha : PE X a (tE W Wx f)) (hb : PE X b (tE W Wx g)) (hm : behindInMarks .In b = false := by rfl) : PE X (.Compare a [.In] [b] pos) (tE W Wx (bin2 inD f g)) := pe_cmp2 (opr_in W.K W.w c.K c.w c.hu) (op2_in W) hm ha hb
theorem x_nin (c : Csu X W) (ha : PE X a (tE W Wx f)) (hb : PE X b (tE W Wx g)) (hm : behindInMarks .NotIn b = false := by rfl) : PE X (.Compare a [.NotIn] [b] pos) (tE W Wx (bin2 ninD f g)) := pe_cmp2 (opr_nin W.K W.w c.K c.w c.hu) (op2_nin W) hm ha hb
theorem x_isn (c : Csu X W) (ha : PE X a (tE W Wx f)) (hb : PE X b (tE W Wx g)) : PE X (.Compare a [.Is] [b] pos) (tE W Wx (bin2 isnD f g)) := pe_cmp2 op_isNon (op2_isn W) (nomark _) ha hb
theorem x_notn (c : Csu X W) (ha : PE X a (tE W Wx f)) (hb : PE X b (tE W Wx g)) : PE X (.Compare a [.IsNot] [b] pos) (tE W Wx (bin2 notnD f g)) := pe_cmp2 op_notNon (op2_notn W) (nomark _) ha hb
theorem x_isb (c : Csu X W) (ha : PE X a (tE W Wx f)) (hb : PE X b (tE W Wx g)) : PE X (.Compare a [.Is] [b] pos) (tE W Wx (bin2 isbD f g)) := pe_cmp2 op_isBl (op2_isb W) (nomark _) ha hb
theorem x_notb (c : Csu X W) (ha : PE X a (tE W Wx f)) (hb : PE X b (tE W Wx g)) : PE X (.Compare a [.IsNot] [b] pos) (tE W Wx (bin2 notbD f g)) := pe_cmp2 op_notBl (op2_notb W) (nomark _) ha hb
theorem x_ix (c : Csu X W) (ha : PE X a (tE W Wx f)) (hb : PE X b (tE W Wx g)) (hs : PlainIx b := by exact fun _ _ => rfl) : PE X (.Subscript a b pos) (tE W Wx (bin2 ixD f g)) := pe_ix2 (ixr_all W.K W.w c.K c.w c.hu) (op2_ix W) hs ha hb
theorem x_ltlt (c : Csu X W) {d : Expr} (ha : PE X a (tE W Wx f)) (hb : PE X b (tE W Wx g)) (hc : PE X d (tE W Wx h)) (hm : lastMarks [.Lt, .Lt] [b, d] = false := by rfl) : PE X (.Compare a [.Lt, .Lt] [b, d] pos) (tE W Wx (chainS ltD ltD f g h)) := d_chain op_lt (op2_ord W _) op_lt (op2_ord W _) ha hb hc hm
theorem x_lelt (c : Csu X W) {d : Expr} (ha : PE X a (tE W Wx f)) (hb : PE X b (tE W Wx g)) (hc : PE X d (tE W Wx h)) (hm : lastMarks [.LtE, .Lt] [b, d] = false := by rfl) : PE X (.Compare a [.LtE, .Lt] [b, d] pos) (tE W Wx (chainS leD ltD f g h)) := d_chain op_le (op2_ord W _) op_lt (op2_ord W _) ha hb hc hm
theorem x_lele (c : Csu X W) {d : Expr} (ha : PE X a (tE W Wx f)) (hb : PE X b (tE W Wx g)) (hc : PE X d (tE W Wx h)) (hm : lastMarks [.LtE, .LtE] [b, d] = false := by rfl) : PE X (.Compare a [.LtE, .LtE] [b, d] pos) (tE W Wx (chainS leD leD f g h)) := d_chain op_le (op2_ord W _) op_le (op2_ord W _) ha hb hc hm
theorem x_not (c : Csu X W) (ha : PE X a (tE W Wx f)) : PE X (.UnaryOp .Not a pos) (tE W Wx (notS f)) := d_not c.K ha
theorem x_slice (c : Csu X W) {lo hi : Option Expr} {pl ph : PF} {p2 : Pos} (he : PE X e (tE W Wx f)) (hl : PO X lo (tP W Wx pl)) (hu : PO X hi (tP W Wx ph)) : PE X (.Subscript e (.Slice lo hi none p2) pos) (tE W Wx (slS f pl ph)) := d_slice c.K he hl hu
theorem xt (c : Csu X W) (ha : PE X a (tE W Wx f)) (he : ∀ whole, isTrue a X.env whole = (do let v ← whole; standAt a.pos; holding [v] (truthy v)) := by intro _; rfl) : PT X a (tT W Wx (testS f)) := dt_of c.K ha he
theorem t_eq (c : Csu X W) (ha : PE X a (tE W Wx f)) (hb : PE X b (tE W Wx g)) : PT X (.Compare a [.Eq] [b] pos) (tT W Wx (tb1 (bin2 eqD f g))) := t_cmp (opr_eq W.K c.K c.hu) (op2_eq W) (nomark _) ha hb
theorem t_ne (c : Csu X W) (ha : PE X a (tE W Wx f)) (hb : PE X b (tE W Wx g)) : PT X (.Compare a [.NotEq] [b] pos) (tT W Wx (tb1 (bin2 neD f g))) := t_cmp (opr_ne W.K c.K c.hu) (op2_ne W) (nomark _) ha hb
theorem t_lt (c : Csu X W) (ha : PE X a (tE W Wx f)) (hb : PE X b (tE W Wx g)) : PT X (.Compare a [.Lt] [b] pos) (tT W Wx (tb1 (bin2 ltD f g))) := t_cmp op_lt (op2_ord W _) (nomark _) ha hb
theorem t_le (c : Csu X W) (ha : PE X a (tE W Wx f)) (hb : PE X b (tE W Wx g)) : PT X (.Compare a [.LtE] [b] pos) (tT W Wx (tb1 (bin2 leD f g))) := t_cmp op_le (op2_ord W _) (nomark _) ha hb
theorem t_gt (c : Csu X W) (ha : PE X a (tE W Wx f)) (hb : PE X b (tE W Wx g)) : PT X (.Compare a [.Gt] [b] pos) (tT W Wx (tb1 (bin2 gtD f g))) := t_cmp op_gt (op2_ord W _) (nomark _) ha hb
theorem t_ge (c : Csu X W) (ha : PE X a (tE W Wx f)) (hb : PE X b (tE W Wx g)) : PT X (.Compare a [.GtE] [b] pos) (tT W Wx (tb1 (bin2 geD f g))) := t_cmp op_ge (op2_ord W _) (nomark _) ha hb
theorem t_in (c : Csu X W) (ha : PE X a (tE W Wx f)) (hb : PE X b (tE W Wx g)) (hm : behindInMarks .In b = false := by rfl) : PT X (.Compare a [.In] [b] pos) (tT W Wx (tb1 (bin2 inD f g))) := t_cmp (opr_in W.K W.w c.K c.w c.hu) (op2_in W) hm ha hb
theorem t_nin (c : Csu X W) (ha : PE X a (tE W Wx f)) (hb : PE X b (tE W Wx g)) (hm : behindInMarks .NotIn b = false := by rfl) : PT X (.Compare a [.NotIn] [b] pos) (tT W Wx (tb1 (bin2 ninD f g))) := t_cmp (opr_nin W.K W.w c.K c.w c.hu) (op2_nin W) hm ha hb
theorem t_isn (c : Csu X W) (ha : PE X a (tE W Wx f)) (hb : PE X b (tE W Wx g)) : PT X (.Compare a [.Is] [b] pos) (tT W Wx (tb1 (bin2 isnD f g))) := t_cmp op_isNon (op2_isn W) (nomark _) ha hb
theorem t_notn (c : Csu X W) (ha : PE X a (tE W Wx f)) (hb : PE X b (tE W Wx g)) : PT X (.Compare a [.IsNot] [b] pos) (tT W Wx (tb1 (bin2 notnD f g))) := t_cmp op_notNon (op2_notn W) (nomark _) ha hb
theorem t_isb (c : Csu X W) (ha : PE X a (tE W Wx f)) (hb : PE X b (tE W Wx g)) : PT X (.Compare a [.Is] [b] pos) (tT W Wx (tb1 (bin2 isbD f g))) := t_cmp op_isBl (op2_isb W) (nomark _) ha hb
theorem t_notb (c : Csu X W) (ha : PE X a (tE W Wx f)) (hb : PE X b (tE W Wx g)) : PT X (.Compare a [.IsNot] [b] pos) (tT W Wx (tb1 (bin2 notbD f g))) := t_cmp op_notBl (op2_notb W) (nomark _) ha hb
theorem t_ltlt (c : Csu X W) {d : Expr} (ha : PE X a (tE W Wx f)) (hb : PE X b (tE W Wx g)) (hc : PE X d (tE W Wx h)) (hm : lastMarks [.Lt, .Lt] [b, d] = false := by rfl) : PT X (.Compare a [.Lt, .Lt] [b, d] pos) (tT W Wx (tb1 (chainS ltD ltD f g h))) := t_chain op_lt (op2_ord W _) op_lt (op2_ord W _) ha hb hc hm
theorem t_lelt (c : Csu X W) {d : Expr} (ha : PE X a (tE W Wx f)) (hb : PE X b (tE W Wx g)) (hc : PE X d (tE W Wx h)) (hm : lastMarks [.LtE, .Lt] [b, d] = false := by rfl) : PT X (.Compare a [.LtE, .Lt] [b, d] pos) (tT W Wx (tb1 (chainS leD ltD f g h))) := t_chain op_le (op2_ord W _) op_lt (op2_ord W _) ha hb hc hm
theorem t_lele (c : Csu X W) {d : Expr} (ha : PE X a (tE W Wx f)) (hb : PE X b (tE W Wx g)) (hc : PE X d (tE W Wx h)) (hm : lastMarks [.LtE, .LtE] [b, d] = false := by rfl) : PT X (.Compare a [.LtE, .LtE] [b, d] pos) (tT W Wx (tb1 (chainS leD leD f g h))) := t_chain op_le (op2_ord W _) op_le (op2_ord W _) ha hb hc hm
/-! calls -/
section
variable (hg : Gl X "len")
theorem x_len (c : Csu X W) (hm : X.mg "len" = none) (ha : PA X (e :: es) (tA W Wx fa)) (hg : Gl X "len" := by rfl) (he : starEach (e :: es) X.env = (false, eval e X.env) :: starEach es X.env := by rfl) (hpl : (backTo pos (starEach es X.env)).any (·.1) = false := by rfl) : PE X (.Call (.Name "len" p) (e :: es) [] pos) (tE W Wx (callB lenD fa)) := d_callB (callr_len W.K c.K) (opc_len W) hm (by decide +kernel) ha hg (he := he) (hpl := hpl)
theorem x_int (c : Csu X W) (hm : X.mg "int" = none) (ha : PA X (e :: es) (tA W Wx fa)) (hg : Gl X "int" := by rfl) (he : starEach (e :: es) X.env = (false, eval e X.env) :: starEach es X.env := by rfl) (hpl : (backTo pos (starEach es X.env)).any (·.1) = false := by rfl) : PE X (.Call (.Name "int" p) (e :: es) [] pos) (tE W Wx (callB intC fa)) := d_callT callr_int (opc_int W) hm (by decide +kernel) ha hg (he := he) (hpl := hpl)
theorem x_str (c : Csu X W) (hm : X.mg "str" = none) (ha : PA X (e :: es) (tA W Wx fa)) (hg : Gl X "str" := by rfl) (he : starEach (e :: es) X.env = (false, eval e X.env) :: starEach es X.env := by rfl) (hpl : (backTo pos (starEach es X.env)).any (·.1) = false := by rfl) : PE X (.Call (.Name "str" p) (e :: es) [] pos) (tE W Wx (callB strC fa)) := d_callT callr_str (opc_str W) hm (by decide +kernel) ha hg (he := he) (hpl := hpl)
theorem x_max (c : Cok X W Wx n) (hm : X.mg "max" = none) (ha : PA X (e :: es) (tA W Wx fa)) (hg : Gl X "max" := by rfl) (he : starEach (e :: es) X.env = (false, eval e X.env) :: starEach es X.env := by rfl) (hpl : (backTo pos (starEach es X.env)).any (·.1) = false := by rfl) : PE X (.Call (.Name "max" p) (e :: es) [] pos) (tE W Wx (callB maxC fa)) := d_callB (callr_max W.K c.K c.calm) (opc_max W) hm (by decide +kernel) ha hg (he := he) (hpl := hpl)
theorem x_min (c : Cok X W Wx n) (hm : X.mg "min" = none) (ha : PA X (e :: es) (tA W Wx fa)) (hg : Gl X "min" := by rfl) (he : starEach (e :: es) X.env = (false, eval e X.env) :: starEach es X.env := by rfl) (hpl : (backTo pos (starEach es X.env)).any (·.1) = false := by rfl) : PE X (.Call (.Name "min" p) (e :: es) [] pos) (tE W Wx (callB minC fa)) := d_callB (callr_min W.K c.K c.calm) (opc_min W) hm (by decide +kernel) ha hg (he := he) (hpl := hpl)
theorem x_sum (c : Cok X W Wx n) (hm : X.mg "sum" = none) (ha : PA X (e :: es) (tA W Wx fa)) (hg : Gl X "sum" := by rfl) (he : starEach (e :: es) X.env = (false, eval e X.env) :: starEach es X.env := by rfl) (hpl : (backTo pos (starEach es X.env)).any (·.1) = false := by rfl) : PE X (.Call (.Name "sum" p) (e :: es) [] pos) (tE W Wx (callB sumC fa)) := d_callB (callr_sum W.K c.K c.calm) (opc_sum W) hm (by decide +kernel) ha hg (he := he) (hpl := hpl)
theorem x_any (c : Cok X W Wx n) (hm : X.mg "any" = none) (ha : PA X (e :: es) (tA W Wx fa)) (hg : Gl X "any" := by rfl) (he : starEach (e :: es) X.env = (false, eval e X.env) :: starEach es X.env := by rfl) (hpl : (backTo pos (starEach es X.env)).any (·.1) = false := by rfl) : PE X (.Call (.Name "any" p) (e :: es) [] pos) (tE W Wx (callB anyC fa)) := d_callB (callr_any W.K c.K c.calm) (opc_any W) hm (by decide +kernel) ha hg (he := he) (hpl := hpl)
theorem x_all (c : Cok X W Wx n) (hm : X.mg "all" = none) (ha : PA X (e :: es) (tA W Wx fa)) (hg : Gl X "all" := by rfl) (he : starEach (e :: es) X.env = (false, eval e X.env) :: starEach es X.env := by rfl) (hpl : (backTo pos (starEach es X.env)).any (·.1) = false := by rfl) : PE X (.Call (.Name "all" p) (e :: es) [] pos) (tE W Wx (callB allC fa)) := d_callB (callr_all W.K c.K c.calm) (opc_all W) hm (by decide +kernel) ha hg (he := he) (hpl := hpl)
theorem x_tuple (c : Csu X W) (hm : X.mg "tuple" = none) (ha : PA X (e :: es) (tA W Wx fa)) (hg : Gl X "tuple" := by rfl) (he : starEach (e :: es) X.env = (false, eval e X.env) :: starEach es X.env := by rfl) (hpl : (backTo pos (starEach es X.env)).any (·.1) = false := by rfl) : PE X (.Call (.Name "tuple" p) (e :: es) [] pos) (tE W Wx (callB tupleC fa)) := d_callT (callr_tuple W.K c.K) (opc_tuple W) hm (by decide +kernel) ha hg (he := he) (hpl := hpl)
theorem xf_list (c : Csu X W) (hm : X.mg "list" = none) (ha : PA X (e :: es) (tA W Wx fa)) (hg : Gl X "list" := by rfl) (he : starEach (e :: es) X.env = (false, eval e X.env) :: starEach es X.env := by rfl) (hpl : (backTo pos (starEach es X.env)).any (·.1) = false := by rfl) : PE X (.Call (.Name "list" p) (e :: es) [] pos) (tF W Wx (callB listC fa)) := f_callT (callr_list W.K c.K) (opc_list W) hm (by decide +kernel) ha hg (he := he) (hpl := hpl)
theorem x_isi (c : Csu X W) (hm : X.mg "isinstance" = none) (ha : PA X (e :: es) (tA W Wx fa)) (hg : Gl X "isinstance" := by rfl) (he : starEach (e :: es) X.env = (false, eval e X.env) :: starEach es X.env := by rfl) (hpl : (backTo pos (starEach es X.env)).any (·.1) = false := by rfl) : PE X (.Call (.Name "isinstance" p) (e :: es) [] pos) (tE W Wx (callB (isiC W.isc) fa)) := d_callB (callr_isi W.K c.K) (opc_isi W c.ok) hm (by decide +kernel) ha hg (he := he) (hpl := hpl)
theorem x_isx {a0 : Addr} {cls : Value} {d : Option Addr} {oe : Obj} {pn : List (Addr × Obj)} (c : Csu X W) (hz : Zc cls d oe) (hf : ∃ vs, oe.data = .fields vs) (hm : X.mg "isinstance" = none) (ha : PA (X.suite a0 ((a0, oe) :: pn)) (e :: es) (tA (W.at a0 cls d) Wx fa)) (hg : Gl X "isinstance" := by rfl) (he : starEach (e :: es) X.env = (false, eval e X.env) :: starEach es X.env := by rfl) (hpl : (backTo pos (starEach es X.env)).any (·.1) = false := by rfl) : PE (X.suite a0 ((a0, oe) :: pn)) (.Call (.Name "isinstance" p) (e :: es) [] pos) (tE (W.at a0 cls d) Wx (callB (isxC W.ise W.sub) fa)) := d_callB (X := X.suite a0 ((a0, oe) :: pn)) (by have := call_isX (X := X) (a := a0) (pn := pn) hz hf; rw [c.K] at this; exact this) (opc_isX c.ok) hm (by decide +kernel) ha hg (he := he) (hpl := hpl)
end
/-! methods of texts -/
theorem x_join (c : Csu X W) (ho : PE X a (tE W Wx f)) (ha : PA X (e :: es) (tA W Wx fa)) (hbase : attributeBase a "join" X.env (eval a X.env) = eval a X.env := by rfl)
    (hfew : ((backTo pos (starEach (e :: es) X.env)).all (fun x => !x.1) && (backToKw pos (keywordEach [] X.env)).all (fun x => x.1.isSome)
      && decide ((e :: es).length + ([] : List Keyword).length + (if ([] : List Keyword).isEmpty then 0 else 1) < 30)) = true := by rfl)
    (hline : (apos.endLine == pos.line) = true := by rfl) (hs : starEach (e :: es) X.env = (false, eval e X.env) :: starEach es X.env := by rfl) (hplain : (backTo pos (starEach es X.env)).any (·.1) = false := by rfl) :
    PE X (.Call (.Attribute a "join" apos) (e :: es) [] pos) (tE W Wx (methS joinM f fa)) := d_methS PySem.F.slot_str_join PySem.F.type_str_join (mtr_join c.K) (opm_join W) ho ha hbase hfew hline hs hplain
theorem x_split (c : Csu X W) (ho : PE X a (tE W Wx f)) (ha : PA X (e :: es) (tA W Wx fa)) (hbase : attributeBase a "split" X.env (eval a X.env) = eval a X.env := by rfl)
    (hfew : ((backTo pos (starEach (e :: es) X.env)).all (fun x => !x.1) && (backToKw pos (keywordEach [] X.env)).all (fun x => x.1.isSome)
      && decide ((e :: es).length + ([] : List Keyword).length + (if ([] : List Keyword).isEmpty then 0 else 1) < 30)) = true := by rfl)
    (hline : (apos.endLine == pos.line) = true := by rfl) (hs : starEach (e :: es) X.env = (false, eval e X.env) :: starEach es X.env := by rfl) (hplain : (backTo pos (starEach es X.env)).any (·.1) = false := by rfl) :
    PE X (.Call (.Attribute a "split" apos) (e :: es) [] pos) (tE W Wx (methS splitM f fa)) := d_methS PySem.F.slot_str_split PySem.F.type_str_split mtr_split (opm_split W) ho ha hbase hfew hline hs hplain
theorem x_ljust (c : Csu X W) (ho : PE X a (tE W Wx f)) (ha : PA X (e :: es) (tA W Wx fa)) (hbase : attributeBase a "ljust" X.env (eval a X.env) = eval a X.env := by rfl)
    (hfew : ((backTo pos (starEach (e :: es) X.env)).all (fun x => !x.1) && (backToKw pos (keywordEach [] X.env)).all (fun x => x.1.isSome)
      && decide ((e :: es).length + ([] : List Keyword).length + (if ([] : List Keyword).isEmpty then 0 else 1) < 30)) = true := by rfl)
    (hline : (apos.endLine == pos.line) = true := by rfl) (hs : starEach (e :: es) X.env = (false, eval e X.env) :: starEach es X.env := by rfl) (hplain : (backTo pos (starEach es X.env)).any (·.1) = false := by rfl) :
    PE X (.Call (.Attribute a "ljust" apos) (e :: es) [] pos) (tE W Wx (methS ljustM f fa)) := d_methS PySem.F.slot_str_ljust PySem.F.type_str_ljust mtr_ljust (opm_ljust W) ho ha hbase hfew hline hs hplain
theorem x_rjust (c : Csu X W) (ho : PE X a (tE W Wx f)) (ha : PA X (e :: es) (tA W Wx fa)) (hbase : attributeBase a "rjust" X.env (eval a X.env) = eval a X.env := by rfl)
    (hfew : ((backTo pos (starEach (e :: es) X.env)).all (fun x => !x.1) && (backToKw pos (keywordEach [] X.env)).all (fun x => x.1.isSome)
      && decide ((e :: es).length + ([] : List Keyword).length + (if ([] : List Keyword).isEmpty then 0 else 1) < 30)) = true := by rfl)
    (hline : (apos.endLine == pos.line) = true := by rfl) (hs : starEach (e :: es) X.env = (false, eval e X.env) :: starEach es X.env := by rfl) (hplain : (backTo pos (starEach es X.env)).any (·.1) = false := by rfl) :
    PE X (.Call (.Attribute a "rjust" apos) (e :: es) [] pos) (tE W Wx (methS rjustM f fa)) := d_methS PySem.F.slot_str_rjust PySem.F.type_str_rjust mtr_rjust (opm_rjust W) ho ha hbase hfew hline hs hplain
end
/-! ### defs -/
section
variable {P : Program} {w : World} {K : PySem.W.Frag} {mg : Str → Option Value} {base : Heap} {W : Wd} {T : Nat → Option Fn} {n g : Nat}
/-- a def keeps to its function, by its body's derivation -/
theorem fnD_ok {x qual : Str} {params : Arguments} {body : List Stmt} {scope : Scope} {dvs : List V} {kws : List (Str × V)} {f : Addr} {fd : FuncData} {N ps : List Str} {F : Fn} (D : FunD K x qual params body scope dvs kws f fd) (S : FnScope N ps scope) (hT : T g = some F) (hnp : F.np = ps.length) (hnl : F.nl = N.length)
    (der : ∀ (cdv : Value) (A : Around) (outer : List PySem.Env) (s : Shared) (H : Hp) (E : XK), Room (4 * n + 3) (A.deeper (envOfC qual scope s.heap.objs.size f cdv)) →
      PSsd (cxOf (L2.CX P w) P w K mg base N qual scope f cdv A outer s H E) W (fun cls dx _ H' => E cls dx H') body (F.body (run T n))) : FnOk P w K mg base (L2.CX P w) (4 * (n + 1)) f fd ps (spF W T (n + 1) g) := by
  obtain ⟨oc, od, dV, kV, doc, pm, an, cdv, ct, osl, rfl, lk, hcd, _, _⟩ := D.ex
  exact fnOk_d lk hcd S hT hnp hnl (der cdv)
/-- what the law's def is asked -/
def spLaw (K : PySem.W.Frag) : Sp := fun vs H Q E => ∃ (a : Addr) (ns : List Int), vs = [.ref a] ∧ ns.length ≤ 63 ∧ SqL K H a (ns.map V.int) ∧ ∀ H', Q (.bl true) H'
theorem repL_ints' (W : Wd) (RA : List Addr) (B : Hp) : ∀ ns : List Int, RepL W RA B (ns.map .int) (ns.map V.int)
  | [] => .nil
  | n :: ns => .cons rep_int (repL_ints' W RA B ns)
end
end Dd

set_option Elab.async false
set_option linter.all false
set_option maxRecDepth 100000
set_option maxHeartbeats 2000000
/-! DdConv: list(range(..)), tuple(range(..)); the module's constants -/
namespace Dd
open PySem PySem.Spec PyProof.Rows L2 Evl OwnO My

def rgD (ρ : List D) (x y : D) (k : List D → D) : Res D := match dr ρ x, dr ρ y with
  | .int i, .int j => if -(2 ^ 62) ≤ i ∧ i < 2 ^ 62 ∧ -(2 ^ 62) ≤ j ∧ j < 2 ^ 62 ∧ (j - i).toNat ≤ 100000 then .ok (k (rngL i (j - i).toNat)) else .bad
  | _, _ => .bad
/-- list(range(j)), list(range(i, j)), tuple(..) -/
def rg1S (k : List D → D) (f : EF) : EF := fun ρ σ => (f ρ σ).bind fun x => rgD ρ (.int 0) x k
def rg2S (k : List D → D) (f g : EF) : EF := fun ρ σ => (f ρ σ).bind fun x => (g ρ σ).bind fun y => rgD ρ x y k
section
variable {X : Cx} {W : Wd} {Wx : WX} {n : Nat} {a b : Expr} {f g : EF} {x : Str} {pos p q qpos : Pos} {d : D}
theorem repL_rg {RA : List Addr} {B : Hp} (i j : Int) : RepL W RA B (rngL i (j - i).toNat) (rgV i j) := by
  unfold rngL rgV
  generalize (j - i).toNat = n
  apply RepL.of_get (by simp)
  intro k d v h1 h2
  rw [List.getElem?_map] at h1 h2
  obtain ⟨r, hr, rfl⟩ := Option.map_eq_some_iff.mp h1
  obtain ⟨r', hr', rfl⟩ := Option.map_eq_some_iff.mp h2
  rw [hr] at hr'; cases hr'
  exact rep_int
theorem rgD_ok {ρ : List D} {RA : List Addr} {B H : Hp} {x y : D} {v u : V} {k : List D → D} {r : D} (b : Base W RA ρ B H) (hx : Rep W RA B x v) (hy : Rep W RA B y u) (e : rgD ρ x y k = .ok r) : ∃ i j, v = .int i ∧ u = .int j ∧ RgOk i j ∧ r = k (rngL i (j - i).toNat) := by
  unfold rgD at e
  split at e
  · rename_i i j e1 e2
    split at e
    · rename_i hc
      cases e
      exact ⟨i, j, view_int b hx e1, view_int b hy e2, ⟨hc.1, hc.2.1, hc.2.2.1, hc.2.2.2.1, by have := hc.2.2.2.2; omega⟩, rfl⟩
    · cases e
  · cases e
theorem aw_ofbind {α : Type} {RA : List Addr} {ρ : List D} {σ : L2.St} {B H : Hp} {r : Res α} {P : α → Hp → Hp → Prop} (b : Base W RA ρ B H) (hn : ∀ c fs, r ≠ .exc c fs) (h : Aw W Wx RA ρ σ B H r P) : ∃ x, r = .ok x ∧ ∀ B' H', Aft W RA ρ B H B' H' → P x B' H' := by
  cases r with
  | ok x => exact ⟨x, rfl, h⟩
  | exc c fs => exact absurd rfl (hn c fs)
  | bad => exact h.elim
theorem rgD_exc {ρ : List D} {x y : D} {k : List D → D} {c : Nat} {fs : List D} : rgD ρ x y k ≠ .exc c fs := by
  unfold rgD
  intro h
  split at h
  · split at h <;> cases h
  · cases h
theorem f_lrg1 (c : Cok X W Wx n) (hm : X.mg "list" = none) (hr : X.mg "range" = none) (ha : PE X a (tE W Wx f)) (hg : Gl X "list" := by rfl) (hgr : Gl X "range" := by rfl) (na : starEach [.Call (.Name "range" q) [a] [] qpos] X.env = (false, eval (.Call (.Name "range" q) [a] [] qpos) X.env) :: starEach [] X.env := by rfl) (na2 : starEach [a] X.env = (false, eval a X.env) :: starEach [] X.env := by rfl) :
    PE X (.Call (.Name "list" p) [.Call (.Name "range" q) [a] [] qpos] [] pos) (tF W Wx (rg1S .lst f)) := pe_weak (pe_listRg c.calm hg hm (prg_1 hgr hr ha na2) na) fun σ H Q ⟨RA, ρ, σd, B, b, l, h⟩ =>
  ⟨RA, ρ, σd, B, b, l, (Aw.bind h).imp fun d B1 H1 a1 q1 v rv => by
    obtain ⟨r, er, k⟩ := aw_ofbind a1.base (fun _ _ => rgD_exc) q1
    obtain ⟨i, j, hi, rfl, ok, rfl⟩ := rgD_ok a1.base rep_int rv er
    cases hi
    exact ⟨j, rfl, ok, fun p hp => fin_lstF a1.base hp (repL_rg 0 j) fun v B2 H2 a2 fr => k B2 H2 a2 v (fr.back a1.hp)⟩⟩
theorem f_lrg2 (c : Cok X W Wx n) (hm : X.mg "list" = none) (hr : X.mg "range" = none) (ha : PE X a (tE W Wx f)) (hb : PE X b (tE W Wx g)) (hg : Gl X "list" := by rfl) (hgr : Gl X "range" := by rfl) (na : starEach [.Call (.Name "range" q) [a, b] [] qpos] X.env = (false, eval (.Call (.Name "range" q) [a, b] [] qpos) X.env) :: starEach [] X.env := by rfl)
    (na2 : starEach [a, b] X.env = (false, eval a X.env) :: starEach [b] X.env := by rfl) (nb : starEach [b] X.env = (false, eval b X.env) :: starEach [] X.env := by rfl) (hp : (backTo qpos (starEach [b] X.env)).any (·.1) = false := by rfl) :
    PE X (.Call (.Name "list" p) [.Call (.Name "range" q) [a, b] [] qpos] [] pos) (tF W Wx (rg2S .lst f g)) := pe_weak (pe_listRg c.calm hg hm (prg_2 hgr hr ha hb na2 nb hp) na) fun σ H Q ⟨RA, ρ, σd, B, b, l, h⟩ =>
  ⟨RA, ρ, σd, B, b, l, (Aw.bind h).imp fun d B1 H1 a1 q1 v rv => ⟨RA, ρ, σd, B1, a1.base, l.ex a1.bl, (Aw.bind q1).imp fun d2 B2 H2 a2 q2 u ru => by
    obtain ⟨r, er, k⟩ := aw_ofbind a2.base (fun _ _ => rgD_exc) q2
    obtain ⟨i, j, rfl, rfl, ok, rfl⟩ := rgD_ok a2.base (rv.ex a2.bl) ru er
    exact ⟨i, j, rfl, rfl, ok, fun p hp => fin_lstF a2.base hp (repL_rg i j) fun v B3 H3 a3 fr => k B3 H3 a3 v (fr.back (a1.hp.trans a2.hp))⟩⟩⟩
theorem d_trg1 (c : Cok X W Wx n) (hm : X.mg "tuple" = none) (hr : X.mg "range" = none) (ha : PE X a (tE W Wx f)) (hg : Gl X "tuple" := by rfl) (hgr : Gl X "range" := by rfl) (na : starEach [.Call (.Name "range" q) [a] [] qpos] X.env = (false, eval (.Call (.Name "range" q) [a] [] qpos) X.env) :: starEach [] X.env := by rfl) (na2 : starEach [a] X.env = (false, eval a X.env) :: starEach [] X.env := by rfl) :
    PE X (.Call (.Name "tuple" p) [.Call (.Name "range" q) [a] [] qpos] [] pos) (tE W Wx (rg1S .tup f)) := pe_weak (pe_tupRg c.calm hg hm (prg_1 hgr hr ha na2) na) fun σ H Q ⟨RA, ρ, σd, B, b, l, h⟩ =>
  ⟨RA, ρ, σd, B, b, l, (Aw.bind h).imp fun d B1 H1 a1 q1 v rv => by
    obtain ⟨r, er, k⟩ := aw_ofbind a1.base (fun _ _ => rgD_exc) q1
    obtain ⟨i, j, hi, rfl, ok, rfl⟩ := rgD_ok a1.base rep_int rv er
    cases hi
    exact ⟨j, rfl, ok, fun p hp => fin_tup a1.base hp (repL_rg 0 j) fun v B2 H2 a2 fr => k B2 H2 a2 v fr⟩⟩
/-- a name of the module -/
theorem d_globE (h : ∃ v u, X.mg x = some u ∧ L2.RelV v u ∧ ∀ RA B, Rep W RA B d v) (hg : Gl X x := by rfl) (hd : (x == ("__debug__" : Str)) = false := by decide) : PE X (.Name x pos) (tE W Wx (conS d)) := by
  obtain ⟨v, u, hm, r, hr⟩ := h
  exact d_const (pe_glob hg hm r hd) hr
end
end Dd

set_option Elab.async false
set_option linter.all false
set_option maxRecDepth 100000
set_option maxHeartbeats 2000000
/-! DdEnd: the written part's constants as plain data; the kit's answer for own error classes -/
namespace Dd
open PySem PySem.Spec PyProof.Rows L2 Evl OwnO My
theorem kit_ref2 {K : PySem.W.Frag} {C D : Addr} {r : Bool} (h : PySem.W.subIn K (.ref C) (.ref D) = some r) (hs : PySem.W.subIn K (.ref D) (.ref D) = some true) (hd : PySem.W.hasDictIn K D = true) (ht : PySem.W.typeIn K (.ref D) = some (.type "type")) : PySem.W.kitOne K (.ref C) (.ref D) = some r := by
  unfold PySem.W.kitOne
  by_cases e : ((Value.ref C == Value.ref D) = true)
  · rw [if_pos e]
    have e2 : C = D := by simpa using e
    subst e2
    rw [← h, hs]
  · rw [if_neg e]
    obtain ⟨cd, hc, _⟩ := PySem.W.any_some hd
    have e2 : ((PySem.W.clsIn K D).isSome && PySem.W.typeIn K (.ref D) == some (.type "type")) = true := by rw [hc, ht] <;> rfl
    show (if ((PySem.W.clsIn K D).isSome && PySem.W.typeIn K (.ref D) == some (.type "type")) = true then PySem.W.subIn K (.ref C) (.ref D) else none) = some r
    rw [if_pos e2]
    exact h
theorem rep_ktup {W : Wd} {a : Addr} {od : Option Addr} {its : Array Value} {m : Nat} {sl : Array (Option Value)} {vs : List V} {l : List D} (h : W.K.lookup a = some ⟨.type "tuple", od, .seq its m, sl⟩) (hv : Vals vs its.toList) (hl : vs.length ≤ 100000) (r : ∀ RA B, RepL W RA B l vs) : ∀ RA B, Rep W RA B (.tup l) (.ref a) := fun RA B => by
  simp only [Rep]
  refine ⟨a, vs, rfl, .inr ⟨_, its, m, h, rfl, rfl, ?_, hv⟩, r RA B⟩
  have e := hv.length
  have : (100002 : Nat) ≤ sizeLine := by decide
  simp at e
  omega
theorem rep_kdct {W : Wd} {a : Addr} {es : Array DictEntry} {m : Nat} {ks : List Str} {vs : List V} {l : List D} (h : W.K.lookup a = some ⟨.type "dict", none, .dict es m, #[]⟩) (hk : PySem.W.KeysLit W.w.params es.toList) (ho : (a == sysModules) = false) (he : KEnt es.toList ks vs) (r : ∀ RA B, RepL W RA B l vs) : ∀ RA B, Rep W RA B (.wd ks l) (.ref a) := fun RA B => by
  simp only [Rep]
  exact ⟨a, vs, rfl, ⟨es, m, ⟨h, hk, ho⟩, he⟩, r RA B⟩
theorem str_len_add (a b : Str) : (a ++ b).length = a.length + b.length := by
  show (a ++ b).cps.size = a.cps.size + b.cps.size
  have := congrArg List.length (TL.tl_append a b)
  simpa using this
/-- f'..{x}..' of a number or a short text -/
theorem fmt3_ok {s1 s2 : Str} (h1 : s1.length ≤ 1000) (h2 : s2.length ≤ 1000) : ∀ (a : Addr) (v : V), ((∃ y : Str, v = .str y ∧ y.length ≤ 100000) ∨ ∃ i : Int, v = .int i ∧ i.natAbs.log2 < 1920) → ∀ (Q : List V → Hp → Prop) (H1 : Hp), (∀ v, Q [v] H1) →
    (tCons (fun σ H Q => tJs [tC (.str s1), tFmt (tVar 1), tC (.str s2)] Str.empty σ H fun out H1 => Q (.str out) H1) tNil) [some (.ref a), some v, none] H1 Q := by
  intro a v hv Q H1 hq
  have e0 : Str.empty.length = 0 := rfl
  have hz : (200000 : Nat) ≤ sizeLine := by decide
  refine ⟨s1, rfl, by rw [str_len_add, e0]; omega, v, rfl, ?_⟩
  rcases hv with ⟨y, rfl, hy⟩ | ⟨i, rfl, hi⟩
  · refine .inl ⟨y, rfl, by omega, y, rfl, by rw [str_len_add, str_len_add, e0]; omega, s2, rfl, by rw [str_len_add, str_len_add, str_len_add, e0]; omega, hq _⟩
  · have hl := int_text_len_1921 hi
    refine .inr ⟨i, rfl, hi, _, rfl, by rw [str_len_add, str_len_add, e0]; omega, s2, rfl, by rw [str_len_add, str_len_add, str_len_add, e0]; omega, hq _⟩
theorem fmt2_ok {s1 : Str} (h1 : s1.length ≤ 1000) : ∀ (a : Addr) (v : V), ((∃ y : Str, v = .str y ∧ y.length ≤ 100000) ∨ ∃ i : Int, v = .int i ∧ i.natAbs.log2 < 1920) → ∀ (Q : List V → Hp → Prop) (H1 : Hp), (∀ v, Q [v] H1) →
    (tCons (fun σ H Q => tJs [tC (.str s1), tFmt (tVar 1)] Str.empty σ H fun out H1 => Q (.str out) H1) tNil) [some (.ref a), some v, none] H1 Q := by
  intro a v hv Q H1 hq
  have e0 : Str.empty.length = 0 := rfl
  have hz : (200000 : Nat) ≤ sizeLine := by decide
  refine ⟨s1, rfl, by rw [str_len_add, e0]; omega, v, rfl, ?_⟩
  rcases hv with ⟨y, rfl, hy⟩ | ⟨i, rfl, hi⟩
  · exact .inl ⟨y, rfl, by omega, y, rfl, by rw [str_len_add, str_len_add, e0]; omega, hq _⟩
  · have hl := int_text_len_1921 hi
    exact .inr ⟨i, rfl, hi, _, rfl, by rw [str_len_add, str_len_add, e0]; omega, hq _⟩
/-- no exception leaves the law -/
theorem cx_false {P : Program} {w : World} (H : Hp) (s : Shared) (e : Value) (s' : Shared) (h : L2.CX P w [] H s (fun _ _ _ => False) e s') : False := by
  obtain ⟨_, _, _, _, _, _, _, _, _, _, _, _, h⟩ := h
  exact h
end Dd

set_option Elab.async false
set_option linter.all false
set_option maxRecDepth 100000
set_option maxHeartbeats 2000000
/-! DdMath: the evaluator by equations -/
namespace Dd
open PySem PySem.Spec PyProof.Rows L2 Evl OwnO My

/-! ### lists as environments -/
theorem get_0 {α : Type} {x : α} {l : List α} : (x :: l)[0]? = some x := id rfl
theorem get_s {α : Type} {x : α} {l : List α} {n : Nat} : (x :: l)[n + 1]? = l[n]? := id rfl
theorem set_0 {α : Type} {x y : α} {l : List α} : (x :: l).set 0 y = y :: l := id rfl
theorem set_s {α : Type} {x y : α} {l : List α} {n : Nat} : (x :: l).set (n + 1) y = x :: l.set n y := id rfl
theorem app_n {α : Type} {l : List α} : [] ++ l = l := id rfl
theorem app_c {α : Type} {x : α} {l m : List α} : (x :: l) ++ m = x :: (l ++ m) := id rfl
theorem map_n {α β : Type} {f : α → β} : List.map f [] = [] := id rfl
theorem map_c {α β : Type} {f : α → β} {x : α} {l : List α} : List.map f (x :: l) = f x :: List.map f l := id rfl
theorem rep_0 {α : Type} {x : α} : List.replicate 0 x = [] := id rfl
theorem rep_s {α : Type} {x : α} {n : Nat} : List.replicate (n + 1) x = x :: List.replicate n x := id rfl
theorem wipe_n {σ : Env} : wipeD σ [] = σ := id rfl
theorem wipe_c {σ : Env} {v : Nat} {vs : List Nat} : wipeD σ (v :: vs) = (wipeD σ vs).set v none := id rfl

/-! ### results -/
section
variable {α β : Type} {ρ ρ' : List D} {σ σ' : Env} {mu : Nat → Bool}
theorem rb_ok {a : α} {f : α → Res β} : (Res.ok a).bind f = f a := id rfl
theorem rb_exc {c : Nat} {fs : List D} {f : α → Res β} : (Res.exc c fs : Res α).bind f = .exc c fs := id rfl
theorem ofO_some {a : α} : ofO (some a) = .ok a := id rfl
def rd : Option (Option D) → Res D
  | some (some d) => .ok d
  | _ => .bad
theorem rd_some {d : D} : rd (some (some d)) = .ok d := id rfl
theorem varS_ap {i : Nat} : varS i ρ σ = rd σ[i]? := by unfold varS rd; rcases σ[i]? with _ | _ | d <;> rfl
theorem conS_ap {d : D} : conS d ρ σ = .ok d := id rfl
theorem nilA_ap : nilA ρ σ = .ok [] := id rfl
def consR : Res D → Res (List D) → Res (List D)
  | .ok x, r => r.bind fun xs => .ok (x :: xs)
  | .exc c fs, _ => .exc c fs
  | .bad, _ => .bad
theorem consA_ap {f : EF} {g : AF} : consA f g ρ σ = consR (f ρ σ) (g ρ σ) := by unfold consA consR; cases f ρ σ <;> rfl
theorem consR_ok {x : D} {xs : List D} : consR (.ok x) (.ok xs) = .ok (x :: xs) := id rfl
theorem consR_exc {x : D} {c : Nat} {fs : List D} : consR (.ok x) (.exc c fs) = .exc c fs := id rfl
theorem consR_exc0 {r : Res (List D)} {c : Nat} {fs : List D} : consR (.exc c fs) r = .exc c fs := id rfl
def itemsR : D → Option (List D)
  | .lst l => some l
  | .scr l => some l
  | .tup l => some l
  | _ => none
theorem items_ap {d : D} : itemsD ρ d = itemsR (dr ρ d) := id rfl
theorem items_lst {l : List D} : itemsR (.lst l) = some l := id rfl
theorem items_tup {l : List D} : itemsR (.tup l) = some l := id rfl
theorem items_scr {l : List D} : itemsR (.scr l) = some l := id rfl
def starR : Res (Option (List D)) → Res (List D) → Res (List D)
  | .ok (some ys), r => r.bind fun xs => .ok (ys ++ xs)
  | .ok none, _ => .bad
  | .exc c fs, _ => .exc c fs
  | .bad, _ => .bad
theorem starA_ap {f : EF} {g : AF} : starA f g ρ σ = starR ((f ρ σ).bind fun x => .ok (itemsD ρ x)) (g ρ σ) := by
  unfold starA
  cases f ρ σ with
  | ok x => show (ofO (itemsD ρ x)).bind _ = starR (.ok (itemsD ρ x)) _; cases itemsD ρ x <;> rfl
  | exc c fs => rfl
  | bad => rfl
theorem starR_ok {ys xs : List D} : starR (.ok (some ys)) (.ok xs) = .ok (ys ++ xs) := id rfl
def tupR : Res (List D) → Res D
  | .ok xs => if xs.length ≤ 100000 then .ok (.tup xs) else .bad
  | .exc c fs => .exc c fs
  | .bad => .bad
theorem tupS_ap {f : AF} : tupS f ρ σ = tupR (f ρ σ) := by unfold tupS tupR; cases f ρ σ <;> rfl
theorem tupR_ok {xs : List D} (h : xs.length ≤ 100000) : tupR (.ok xs) = .ok (.tup xs) := if_pos h
def lstR : Res (List D) → Res D
  | .ok xs => if xs.length ≤ 100000 then .ok (.lst xs) else .bad
  | .exc c fs => .exc c fs
  | .bad => .bad
theorem lstS_ap {f : AF} : lstS f ρ σ = lstR (f ρ σ) := by unfold lstS lstR; cases f ρ σ <;> rfl
theorem lstR_ok {xs : List D} (h : xs.length ≤ 100000) : lstR (.ok xs) = .ok (.lst xs) := if_pos h
def andR (r : Res D) (g : EF) (ρ : List D) (σ : Env) : Res D := r.bind fun x => match x with
  | .bl c => if c = true then g ρ σ else .ok (.bl false)
  | _ => .bad
theorem andS_ap {f g : EF} : andS f g ρ σ = andR (f ρ σ) g ρ σ := id rfl
theorem andR_t {g : EF} : andR (.ok (.bl true)) g ρ σ = g ρ σ := id rfl
theorem andR_f {g : EF} : andR (.ok (.bl false)) g ρ σ = .ok (.bl false) := id rfl
def orR (r : Res D) (g : EF) (ρ : List D) (σ : Env) : Res D := r.bind fun x => match x with
  | .bl c => if c = true then .ok (.bl true) else g ρ σ
  | _ => .bad
theorem orS_ap {f g : EF} : orS f g ρ σ = orR (f ρ σ) g ρ σ := id rfl
theorem orR_t {g : EF} : orR (.ok (.bl true)) g ρ σ = .ok (.bl true) := id rfl
theorem orR_f {g : EF} : orR (.ok (.bl false)) g ρ σ = g ρ σ := id rfl
def truR (ρ : List D) (r : Res D) : Res Bool := r.bind fun x => ofO (truthB ρ x)
theorem notS_ap {f : EF} : notS f ρ σ = (truR ρ (f ρ σ)).bind fun k => .ok (.bl (!k)) := by unfold notS truR; cases f ρ σ <;> rfl
theorem testS_ap {f : EF} : testS f ρ σ = truR ρ (f ρ σ) := id rfl
theorem truR_bl {b : Bool} : truR ρ (.ok (.bl b)) = .ok b := id rfl
theorem truR_int {i : Int} : truR ρ (.ok (.int i)) = .ok (i != 0) := id rfl
def ifR (r : Res Bool) (f g : EF) (ρ : List D) (σ : Env) : Res D := r.bind fun c => if c = true then f ρ σ else g ρ σ
theorem ifS_ap {t : TF} {f g : EF} : ifS t f g ρ σ = ifR (t ρ σ) f g ρ σ := id rfl
theorem ifR_t {f g : EF} : ifR (.ok true) f g ρ σ = f ρ σ := id rfl
theorem ifR_f {f g : EF} : ifR (.ok false) f g ρ σ = g ρ σ := id rfl
def andW (r : Res Bool) (u : TF) (ρ : List D) (σ : Env) : Res Bool := r.bind fun c => if c = true then u ρ σ else .ok false
theorem andT_ap {t u : TF} : andT t u ρ σ = andW (t ρ σ) u ρ σ := id rfl
theorem andW_t {u : TF} : andW (.ok true) u ρ σ = u ρ σ := id rfl
theorem andW_f {u : TF} : andW (.ok false) u ρ σ = .ok false := id rfl
def orW (r : Res Bool) (u : TF) (ρ : List D) (σ : Env) : Res Bool := r.bind fun c => if c = true then .ok true else u ρ σ
theorem orT_ap {t u : TF} : orT t u ρ σ = orW (t ρ σ) u ρ σ := id rfl
theorem orW_t {u : TF} : orW (.ok true) u ρ σ = .ok true := id rfl
theorem orW_f {u : TF} : orW (.ok false) u ρ σ = u ρ σ := id rfl
theorem notT_ap {t : TF} : notT t ρ σ = (t ρ σ).bind fun c => .ok (!c) := id rfl
theorem yesT_ap : yesT ρ σ = .ok true := id rfl
def blR (r : Res D) : Res Bool := r.bind fun d => match d with
  | .bl k => .ok k
  | _ => .bad
theorem tb1_ap {f : EF} : tb1 f ρ σ = blR (f ρ σ) := id rfl
theorem blR_bl {b : Bool} : blR (.ok (.bl b)) = .ok b := id rfl
def b2R (g : List D → D → D → Option D) (ρ : List D) : Res D → Res D → Res D
  | .ok x, r => r.bind fun y => ofO (g ρ x y)
  | .exc c fs, _ => .exc c fs
  | .bad, _ => .bad
theorem bin2_ap {g : List D → D → D → Option D} {f1 f2 : EF} : bin2 g f1 f2 ρ σ = b2R g ρ (f1 ρ σ) (f2 ρ σ) := by unfold bin2 b2R; cases f1 ρ σ <;> rfl
theorem b2R_ok {g : List D → D → D → Option D} {x y : D} : b2R g ρ (.ok x) (.ok y) = ofO (g ρ x y) := id rfl
theorem un1_ap {g : List D → D → Option D} {f : EF} : un1 g f ρ σ = (f ρ σ).bind fun x => ofO (g ρ x) := id rfl
def cbR (g : List D → List D → Option D) (ρ : List D) (r : Res (List D)) : Res D := r.bind fun xs => ofO (g ρ xs)
theorem callB_ap {g : List D → List D → Option D} {f : AF} : callB g f ρ σ = cbR g ρ (f ρ σ) := id rfl
theorem cbR_ok {g : List D → List D → Option D} {xs : List D} : cbR g ρ (.ok xs) = ofO (g ρ xs) := id rfl
def chR (g h : List D → D → D → Option D) (ρ : List D) : Res D → Res D → Res D → Res D
  | .ok x, .ok y, r => (ofO (g ρ x y)).bind fun k => match k with
    | .bl c => if c = true then r.bind fun z => ofO (h ρ y z) else .ok (.bl false)
    | _ => .bad
  | .ok _, .exc c fs, _ => .exc c fs
  | .exc c fs, _, _ => .exc c fs
  | _, _, _ => .bad
theorem chainS_ap {g h : List D → D → D → Option D} {f1 f2 f3 : EF} : chainS g h f1 f2 f3 ρ σ = chR g h ρ (f1 ρ σ) (f2 ρ σ) (f3 ρ σ) := by unfold chainS chR; cases f1 ρ σ <;> cases f2 ρ σ <;> rfl
theorem chR_ok {g h : List D → D → D → Option D} {x y z : D} {a b : Bool} (h1 : g ρ x y = some (.bl a)) (h2 : h ρ y z = some (.bl b)) : chR g h ρ (.ok x) (.ok y) (.ok z) = .ok (.bl (a && b)) := by
  simp only [chR, h1, h2, ofO, Res.bind]
  cases a <;> rfl
theorem noP_ap : noP ρ σ = .ok none := id rfl
def intR (ρ : List D) (r : Res D) : Res (Option Int) := r.bind fun x => match dr ρ x with
  | .int i => .ok (some i)
  | _ => .bad
theorem someP_ap {f : EF} : someP f ρ σ = intR ρ (f ρ σ) := id rfl
theorem intR_ok {i : Int} : intR ρ (.ok (.int i)) = .ok (some i) := id rfl
def slR (ρ : List D) : Res D → Res (Option Int) → Res (Option Int) → Res D
  | .ok x, .ok l, .ok h => ofO (slD ρ x l h)
  | .exc c fs, _, _ => .exc c fs
  | .ok _, .exc c fs, _ => .exc c fs
  | .ok _, .ok _, .exc c fs => .exc c fs
  | _, _, _ => .bad
theorem slS_ap {f : EF} {lo hi : PF} : slS f lo hi ρ σ = slR ρ (f ρ σ) (lo ρ σ) (hi ρ σ) := by unfold slS slR; cases f ρ σ <;> cases lo ρ σ <;> cases hi ρ σ <;> rfl
theorem slR_ok {x : D} {l h : Option Int} : slR ρ (.ok x) (.ok l) (.ok h) = ofO (slD ρ x l h) := id rfl
def slQ (x : D) (lo hi : Option Int) : Option D := match x with
  | .lst l => some (.lst (cutL l lo hi))
  | .scr l => some (.lst (cutL l lo hi))
  | .tup l => some (.tup (cutL l lo hi))
  | .str s => if s.length ≤ 100000 then some (.str (cutS s lo hi)) else none
  | _ => none
theorem slD_ap {x : D} {l h : Option Int} : slD ρ x l h = slQ (dr ρ x) l h := id rfl
theorem slQ_lst {l : List D} {lo hi : Option Int} : slQ (.lst l) lo hi = some (.lst (cutL l lo hi)) := id rfl
theorem slQ_tup {l : List D} {lo hi : Option Int} : slQ (.tup l) lo hi = some (.tup (cutL l lo hi)) := id rfl
def meR (g : List D → Str → List D → Option D) (ρ : List D) : Res D → Res (List D) → Res D
  | .ok x, r => match dr ρ x with
    | .str s => r.bind fun xs => ofO (g ρ s xs)
    | _ => .bad
  | .exc c fs, _ => .exc c fs
  | .bad, _ => .bad
theorem methS_ap {g : List D → Str → List D → Option D} {f : EF} {fa : AF} : methS g f fa ρ σ = meR g ρ (f ρ σ) (fa ρ σ) := by unfold methS meR; cases f ρ σ <;> rfl
theorem meR_ok {g : List D → Str → List D → Option D} {s : Str} {xs : List D} : meR g ρ (.ok (.str s)) (.ok xs) = ofO (g ρ s xs) := id rfl
def calR (cl : Orc) (g : Nat) (dd : List D) (ρ : List D) : Res (List D) → Res D
  | .ok xs => match cl g (fun _ => false) ρ (xs ++ dd) with
    | .ok _ d _ => .ok d
    | .exc c fs _ => .exc c fs
    | .bad => .bad
  | .exc c fs => .exc c fs
  | .bad => .bad
def cal1 : RRes → Res D
  | .ok _ d _ => .ok d
  | .exc c fs _ => .exc c fs
  | .bad => .bad
theorem callS_ap {cl : Orc} {g : Nat} {dd : List D} {fa : AF} : callS cl g dd fa ρ σ = calR cl g dd ρ (fa ρ σ) := by unfold callS calR; cases fa ρ σ <;> rfl
theorem calR_ok {cl : Orc} {g : Nat} {dd xs : List D} : calR cl g dd ρ (.ok xs) = cal1 (cl g (fun _ => false) ρ (xs ++ dd)) := by simp only [calR, cal1]
theorem cal1_ok {fr : Bool} {d : D} : cal1 (.ok fr d ρ) = .ok d := id rfl
theorem cal1_exc {c : Nat} {fs : List D} : cal1 (.exc c fs ρ) = .exc c fs := id rfl

/-! ### comprehensions, walks -/
def lcQ : Res (List D) → Res D
  | .ok ys => .ok (.lst ys)
  | _ => .bad
def lcR (r : Res (List D × List Nat)) (g : TGF) (t : TF) (f : EF) (ρ : List D) (σ : Env) : Res D := r.bind fun p => if p.1.length ≤ 100000 then lcQ (lcL g t f ρ σ p.1) else .bad
theorem lcS_ap {fi : IF} {g : TGF} {t : TF} {f : EF} {vs : List Nat} : lcS fi g t f vs ρ σ = lcR (fi ρ σ) g t f ρ (wipeD σ vs) := by
  unfold lcS lcR
  cases fi ρ σ with
  | ok p =>
    show (if p.1.length ≤ 100000 then _ else _) = (if p.1.length ≤ 100000 then _ else _)
    split
    · cases lcL g t f ρ (wipeD σ vs) p.1 <;> rfl
    · rfl
  | exc c fs => rfl
  | bad => rfl
theorem lcR_ok {l : List D} {lk : List Nat} {g : TGF} {t : TF} {f : EF} (h : l.length ≤ 100000) : lcR (.ok (l, lk)) g t f ρ σ = lcQ (lcL g t f ρ σ l) := if_pos h
theorem lcQ_ok {ys : List D} : lcQ (.ok ys) = .ok (.lst ys) := id rfl
theorem lcL_nil {g : TGF} {t : TF} {f : EF} : lcL g t f ρ σ [] = .ok [] := id rfl
def lcZ : Res D → Res (List D) → Res (List D)
  | .ok y, r => r.bind fun ys => .ok (y :: ys)
  | .exc c fs, _ => .exc c fs
  | .bad, _ => .bad
def lcY (o : Option Env) (f : EF) (ρ : List D) (r : Res (List D)) : Res (List D) := match o with
  | none => .bad
  | some σ1 => lcZ (f ρ σ1) r
theorem lcL_yes {g : TGF} {f : EF} {d : D} {ds : List D} : lcL g yesT f ρ σ (d :: ds) = lcY (g ρ d σ) f ρ (lcL g yesT f ρ σ ds) := by
  simp only [lcL, lcY, yesT]
  cases g ρ d σ with
  | none => rfl
  | some σ1 =>
    show (f ρ σ1).bind _ = lcZ (f ρ σ1) _
    cases f ρ σ1 <;> rfl
theorem lcY_ok {f : EF} {r : Res (List D)} : lcY (some σ) f ρ r = lcZ (f ρ σ) r := id rfl
theorem lcZ_ok {y : D} {ys : List D} : lcZ (.ok y) (.ok ys) = .ok (y :: ys) := id rfl
/-- a comprehension without a test, by what one round gives -/
theorem lc_map {γ : Type} {g : TGF} {f : EF} {mk r : γ → D} : ∀ (xs : List γ), (∀ x ∈ xs, ∃ σ1, g ρ (mk x) σ = some σ1 ∧ f ρ σ1 = .ok (r x)) → lcL g yesT f ρ σ (xs.map mk) = .ok (xs.map r)
  | [], _ => rfl
  | x :: xs, h => by
    obtain ⟨σ1, h1, h2⟩ := h x (List.mem_cons_self ..)
    rw [map_c, lcL_yes, h1, lcY_ok, h2, lc_map xs fun y hy => h y (List.mem_cons_of_mem _ hy), lcZ_ok, map_c]
/-- the same with a relation: there are values -/
theorem lc_ex {γ : Type} {g : TGF} {f : EF} {mk : γ → D} {R : γ → D → Prop} : ∀ (xs : List γ), (∀ x ∈ xs, ∃ σ1 d, g ρ (mk x) σ = some σ1 ∧ f ρ σ1 = .ok d ∧ R x d) → ∃ ys, lcL g yesT f ρ σ (xs.map mk) = .ok ys ∧ ys.length = xs.length ∧ ∀ (i : Nat) (x : γ), xs[i]? = some x → ∃ d, ys[i]? = some d ∧ R x d
  | [], _ => ⟨[], rfl, rfl, fun i x h => by simp at h⟩
  | x :: xs, h => by
    obtain ⟨σ1, d, h1, h2, h3⟩ := h x (List.mem_cons_self ..)
    obtain ⟨ys, e, hl, hy⟩ := lc_ex xs fun y hy => h y (List.mem_cons_of_mem _ hy)
    refine ⟨d :: ys, by rw [map_c, lcL_yes, h1, lcY_ok, h2, e, lcZ_ok], by simp [hl], fun i z hz => ?_⟩
    cases i with
    | zero => simp at hz; subst hz; exact ⟨d, rfl, h3⟩
    | succ i => simpa using hy i z (by simpa using hz)
def itR (ρ : List D) (r : Res D) : Res (List D × List Nat) := r.bind fun d => match dr ρ d with
  | .lst l => .ok (l, lockD d)
  | .scr l => .ok (l, lockD d)
  | .tup l => .ok (l, [])
  | .str s => .ok (s.cps.toList.map fun c => .str ⟨#[c]⟩, [])
  | _ => .bad
theorem itI_ap {f : EF} : itI f ρ σ = itR ρ (f ρ σ) := id rfl
theorem itR_lst {l : List D} : itR ρ (.ok (.lst l)) = .ok (l, []) := id rfl
theorem itR_scr {l : List D} : itR ρ (.ok (.scr l)) = .ok (l, []) := id rfl
theorem itR_tup {l : List D} : itR ρ (.ok (.tup l)) = .ok (l, []) := id rfl
theorem itR_str {s : Str} : itR ρ (.ok (.str s)) = .ok (s.cps.toList.map fun c => .str ⟨#[c]⟩, []) := id rfl
theorem itR_rt {r : Nat} {l : List D} (h : dr ρ (.rt r) = .lst l) : itR ρ (.ok (.rt r)) = .ok (l, [r]) := by simp only [itR, Res.bind, h, lockD]
def rn1R (ρ : List D) (r : Res D) : Res (List D × List Nat) := r.bind fun d => match dr ρ d with
  | .int j => if -(2 ^ 62) ≤ j ∧ j < 2 ^ 62 then .ok (rngL 0 j.toNat, []) else .bad
  | _ => .bad
theorem rng1I_ap {f : EF} : rng1I f ρ σ = rn1R ρ (f ρ σ) := id rfl
theorem rn1R_ok {j : Int} (h : -1000000 ≤ j) (h2 : j ≤ 1000000) : rn1R ρ (.ok (.int j)) = .ok (rngL 0 j.toNat, []) := by
  show (if -(2 ^ 62) ≤ j ∧ j < 2 ^ 62 then _ else _) = _
  rw [if_pos (by omega)]
def rn3R (ρ : List D) : Res D → Res D → Res D → Res (List D × List Nat)
  | .ok x, .ok y, .ok z => match dr ρ x, dr ρ y, dr ρ z with
    | .int i, .int j, .int c => if c ≠ 0 ∧ c.natAbs < 1073741824 ∧ Builtin.Range.small i j c = true ∧ 0 ≤ Builtin.Range.rangeSize i j c then .ok (rng3L i c (Builtin.Range.rangeSize i j c).toNat, []) else .bad
    | _, _, _ => .bad
  | .exc c fs, _, _ => .exc c fs
  | .ok _, .exc c fs, _ => .exc c fs
  | .ok _, .ok _, .exc c fs => .exc c fs
  | _, _, _ => .bad
theorem rng3I_ap {f g h : EF} : rng3I f g h ρ σ = rn3R ρ (f ρ σ) (g ρ σ) (h ρ σ) := by unfold rng3I rn3R; cases f ρ σ <;> cases g ρ σ <;> cases h ρ σ <;> rfl
theorem rn3R_up {i j c : Int} (hc : 0 < c) (hc2 : c ≤ 1000) (h1 : -1000000 ≤ i) (h2 : i ≤ 1000000) (h3 : -1000000 ≤ j) (h4 : j ≤ 1000000) : rn3R ρ (.ok (.int i)) (.ok (.int j)) (.ok (.int c)) = .ok (rng3L i c (Builtin.Range.rangeSize i j c).toNat, []) := by
  have hs : 0 ≤ Builtin.Range.rangeSize i j c ∧ Builtin.Range.rangeSize i j c ≤ 3000000 := by
    unfold Builtin.Range.rangeSize
    rw [if_pos hc]
    split
    · have h5 : 0 ≤ (j - i - 1) / c := Int.ediv_nonneg (by omega) (by omega)
      have h6 : (j - i - 1) / c ≤ j - i - 1 := Int.ediv_le_self _ (by omega)
      omega
    · omega
  show (if c ≠ 0 ∧ c.natAbs < 1073741824 ∧ Builtin.Range.small i j c = true ∧ 0 ≤ Builtin.Range.rangeSize i j c then _ else _) = _
  rw [if_pos]
  refine ⟨by omega, by omega, ?_, hs.1⟩
  unfold Builtin.Range.small Builtin.Range.rangeFitsLong
  simp only [Bool.and_eq_true, Bool.or_eq_true, decide_eq_true_eq, beq_iff_eq]
  refine ⟨⟨⟨⟨by omega, by omega⟩, by omega⟩, by omega⟩, .inr ?_⟩
  rw [if_pos hc]
  simp only [Bool.and_eq_true, decide_eq_true_eq]
  omega
def zpR (ρ : List D) : Res D → Res D → Res (List D × List Nat)
  | .ok x, .ok y => match tupD (dr ρ x), tupD (dr ρ y) with
    | some l, some m => .ok (zipL l m, [])
    | _, _ => match seqD (dr ρ x), seqD (dr ρ y) with
      | some l, some m => .ok (zipL l m, lockD x ++ lockD y)
      | _, _ => .bad
  | .exc c fs, _ => .exc c fs
  | .ok _, .exc c fs => .exc c fs
  | _, _ => .bad
theorem zipI_ap {f g : EF} : zipI f g ρ σ = zpR ρ (f ρ σ) (g ρ σ) := by unfold zipI zpR; cases f ρ σ <;> cases g ρ σ <;> rfl
theorem zpR_lst {l m : List D} : zpR ρ (.ok (.lst l)) (.ok (.lst m)) = .ok (zipL l m, []) := id rfl
theorem zpR_tup {l m : List D} : zpR ρ (.ok (.tup l)) (.ok (.tup m)) = .ok (zipL l m, []) := id rfl

/-! ### targets -/
theorem nameG_ap {i : Nat} {d : D} : nameG i ρ d σ = some (σ.set i (some d)) := id rfl
theorem nilG_ap : nilG ρ [] σ = some σ := id rfl
def cgR (o : Option Env) (h : List D → List D → Env → Option Env) (ρ ds : List D) : Option Env := o.bind fun σ' => h ρ ds σ'
theorem consG_ap {g : TGF} {h : List D → List D → Env → Option Env} {d : D} {ds : List D} : consG g h ρ (d :: ds) σ = cgR (g ρ d σ) h ρ ds := id rfl
theorem cgR_ok {h : List D → List D → Env → Option Env} {ds : List D} : cgR (some σ) h ρ ds = h ρ ds σ := id rfl
theorem tupG_2 {h : List D → List D → Env → Option Env} {a b : D} : tupG 2 h ρ (.tup [a, b]) σ = h ρ [a, b] σ := id rfl
theorem tupG_3 {h : List D → List D → Env → Option Env} {a b c : D} : tupG 3 h ρ (.tup [a, b, c]) σ = h ρ [a, b, c] σ := id rfl

/-! ### statements -/
def sqR (o : Out) (t : List D → Env → Out) : Out := match o with
  | .nx ρ' σ' => t ρ' σ'
  | o => o
theorem seqS_ap {s t : SF} : seqS s t mu ρ σ = sqR (s mu ρ σ) (t mu) := id rfl
theorem sqR_nx {t : List D → Env → Out} : sqR (.nx ρ σ) t = t ρ σ := id rfl
theorem sqR_ret {t : List D → Env → Out} {fr : Bool} {d : D} : sqR (.ret fr d ρ) t = .ret fr d ρ := id rfl
theorem sqR_exc {t : List D → Env → Out} {c : Nat} {fs : List D} : sqR (.exc c fs ρ σ) t = .exc c fs ρ σ := id rfl
theorem passS_ap : passS mu ρ σ = .nx ρ σ := id rfl
def reR (fr : Bool) (r : Res D) (ρ : List D) (σ : Env) : Out := withE r ρ σ fun d => .ret fr d ρ
theorem retS_ap {f : EF} : retS f mu ρ σ = reR false (f ρ σ) ρ σ := id rfl
theorem retF_ap {f : EF} : retF f mu ρ σ = reR true (f ρ σ) ρ σ := id rfl
theorem reR_ok {fr : Bool} {d : D} : reR fr (.ok d) ρ σ = .ret fr d ρ := id rfl
theorem reR_exc {fr : Bool} {c : Nat} {fs : List D} : reR fr (.exc c fs) ρ σ = .exc c fs ρ σ := id rfl
def agR (o : Option Env) (ρ : List D) : Out := match o with
  | some σ' => .nx ρ σ'
  | none => .bad
def asR (r : Res D) (g : TGF) (ρ : List D) (σ : Env) : Out := withE r ρ σ fun d => match g ρ d σ with
  | some σ' => .nx ρ σ'
  | none => .bad
theorem asgS_ap {f : EF} {g : TGF} : asgS f g mu ρ σ = asR (f ρ σ) g ρ σ := id rfl
theorem asR_ok {g : TGF} {d : D} : asR (.ok d) g ρ σ = agR (g ρ d σ) ρ := id rfl
theorem asR_exc {g : TGF} {c : Nat} {fs : List D} : asR (.exc c fs) g ρ σ = .exc c fs ρ σ := id rfl
theorem agR_ok : agR (some σ) ρ = .nx ρ σ := id rfl
def owR (r : Res D) (i : Nat) (ρ : List D) (σ : Env) : Out := withE r ρ σ fun d => .nx (ρ ++ [d]) (σ.set i (some (.rt ρ.length)))
theorem ownS_ap {i : Nat} {f : EF} : ownS i f mu ρ σ = owR (f ρ σ) i ρ σ := id rfl
theorem owR_ok {i : Nat} {d : D} : owR (.ok d) i ρ σ = .nx (ρ ++ [d]) (σ.set i (some (.rt ρ.length))) := id rfl
def ifO (r : Res Bool) (s u : SF) (mu : Nat → Bool) (ρ : List D) (σ : Env) : Out := withE r ρ σ fun c => if c = true then s mu ρ σ else u mu ρ σ
theorem iffS_ap {t : TF} {s u : SF} : iffS t s u mu ρ σ = ifO (t ρ σ) s u mu ρ σ := id rfl
theorem ifO_t {s u : SF} : ifO (.ok true) s u mu ρ σ = s mu ρ σ := id rfl
theorem ifO_f {s u : SF} : ifO (.ok false) s u mu ρ σ = u mu ρ σ := id rfl
theorem ifO_exc {s u : SF} {c : Nat} {fs : List D} : ifO (.exc c fs) s u mu ρ σ = .exc c fs ρ σ := id rfl
def exR (r : Res D) (ρ : List D) (σ : Env) : Out := withE r ρ σ fun _ => .nx ρ σ
theorem expS_ap {f : EF} : expS f mu ρ σ = exR (f ρ σ) ρ σ := id rfl
theorem exR_ok {d : D} : exR (.ok d) ρ σ = .nx ρ σ := id rfl
theorem exR_exc {c : Nat} {fs : List D} : exR (.exc c fs) ρ σ = .exc c fs ρ σ := id rfl
def foR (r : Res (List D × List Nat)) (g : TGF) (body : SF) (mu : Nat → Bool) (ρ : List D) (σ : Env) : Out := withE r ρ σ fun p => forL g body (fun r => mu r && !p.2.contains r) p.1 ρ σ
theorem forS_ap {f : IF} {g : TGF} {body : SF} : forS f g body mu ρ σ = foR (f ρ σ) g body mu ρ σ := id rfl
theorem foR_ok {l : List D} {lk : List Nat} {g : TGF} {body : SF} : foR (.ok (l, lk)) g body mu ρ σ = forL g body (fun r => mu r && !lk.contains r) l ρ σ := id rfl
theorem forL_nil {g : TGF} {body : SF} : forL g body mu [] ρ σ = .nx ρ σ := id rfl
def flB (o : Out) (k : List D → Env → Out) : Out := match o with
  | .nx ρ' σ' => k ρ' σ'
  | .ct ρ' σ' => k ρ' σ'
  | .brk ρ' σ' => .nx ρ' σ'
  | .ret fr d ρ' => .ret fr d ρ'
  | .exc c fs ρ' σ' => .exc c fs ρ' σ'
  | .bad => .bad
def flA (o : Option Env) (body : SF) (mu : Nat → Bool) (ρ : List D) (k : List D → Env → Out) : Out := match o with
  | none => .bad
  | some σ1 => flB (body mu ρ σ1) k
theorem forL_cons {g : TGF} {body : SF} {d : D} {ds : List D} : forL g body mu (d :: ds) ρ σ = flA (g ρ d σ) body mu ρ (forL g body mu ds) := by
  simp only [forL, flA]
  cases g ρ d σ with
  | none => rfl
  | some σ1 => show (match body mu ρ σ1 with | .nx ρ' σ' => _ | .ct ρ' σ' => _ | .brk ρ' σ' => _ | .ret fr d ρ' => _ | .exc c fs ρ' σ' => _ | .bad => _) = flB (body mu ρ σ1) _; cases body mu ρ σ1 <;> rfl
theorem flA_ok {body : SF} {k : List D → Env → Out} : flA (some σ) body mu ρ k = flB (body mu ρ σ) k := id rfl
theorem flB_nx {k : List D → Env → Out} : flB (.nx ρ σ) k = k ρ σ := id rfl
/-- a loop that goes to its end, by what holds ahead of each round -/
theorem forL_at {g : TGF} {body : SF} {l : List D} (P : Nat → List D → Env → Prop) (h0 : P 0 ρ σ) (step : ∀ (i : Nat) (d : D) (ρ : List D) (σ : Env), l[i]? = some d → P i ρ σ → ∃ σ1 ρ' σ', g ρ d σ = some σ1 ∧ body mu ρ σ1 = .nx ρ' σ' ∧ P (i + 1) ρ' σ') :
    ∃ ρ' σ', forL g body mu l ρ σ = .nx ρ' σ' ∧ P l.length ρ' σ' := by
  have gen : ∀ (k : Nat) (m : List D) (ρ : List D) (σ : Env), l.drop k = m → P k ρ σ → ∃ ρ' σ', forL g body mu m ρ σ = .nx ρ' σ' ∧ P (k + m.length) ρ' σ' := by
    intro k m
    induction m generalizing k with
    | nil => intro ρ σ hd hp; exact ⟨ρ, σ, rfl, hp⟩
    | cons d m ih =>
      intro ρ σ hd hp
      have hg : l[k]? = some d := by
        have := congrArg (fun z => z[0]?) hd
        simpa using this
      obtain ⟨σ1, ρ', σ', e1, e2, e3⟩ := step k d ρ σ hg hp
      have hd' : l.drop (k + 1) = m := by rw [← List.drop_drop, hd]; rfl
      obtain ⟨ρ2, σ2, e4, e5⟩ := ih (k + 1) ρ' σ' hd' e3
      refine ⟨ρ2, σ2, ?_, ?_⟩
      · rw [forL_cons, e1, flA_ok, e2, flB_nx, e4]
      · rw [List.length_cons, show k + (m.length + 1) = k + 1 + m.length by omega]; exact e5
  simpa using gen 0 l ρ σ rfl h0
def apR (r : Res D) (g : Res D) (mu : Nat → Bool) (ρ : List D) (σ : Env) : Out := withE r ρ σ fun x => match x with
  | .rt r => match ρ[r]? with
    | some (.lst l) => withE g ρ σ fun y => if mu r = true ∧ l.length < 100000 then .nx (ρ.set r (.lst (l ++ [y]))) σ else .bad
    | _ => .bad
  | _ => .bad
theorem appS_ap {f g : EF} : appS f g mu ρ σ = apR (f ρ σ) (g ρ σ) mu ρ σ := id rfl
theorem apR_ok {r : Nat} {l : List D} {y : D} (h : ρ[r]? = some (.lst l)) (hm : mu r = true) (hl : l.length < 100000) : apR (.ok (.rt r)) (.ok y) mu ρ σ = .nx (ρ.set r (.lst (l ++ [y]))) σ := by
  show (match ρ[r]? with | some (.lst l) => withE (.ok y) ρ σ fun y => if mu r = true ∧ l.length < 100000 then Out.nx (ρ.set r (.lst (l ++ [y]))) σ else .bad | _ => .bad) = _
  rw [h]
  exact if_pos ⟨hm, hl⟩
theorem apR_last {l : List D} {y : D} (hm : mu ρ.length = true) (hl : l.length < 100000) : apR (.ok (.rt ρ.length)) (.ok y) mu (ρ ++ [.lst l]) σ = .nx (ρ ++ [.lst (l ++ [y])]) σ := by
  rw [apR_ok (l := l) (by simp) hm hl]
  congr 1
  simp
theorem raiS_ap {c : Nat} : raiS c mu ρ σ = .exc c [] ρ σ := id rfl
def raR (c : Nat) (r : Res D) (ρ : List D) (σ : Env) : Out := withE r ρ σ fun x => if excArg x = true then .exc c [x] ρ σ else .bad
theorem rai1S_ap {c : Nat} {f : EF} : rai1S c f mu ρ σ = raR c (f ρ σ) ρ σ := id rfl
theorem raR_int {c : Nat} {i : Int} (h : i.natAbs.log2 < 1920) : raR c (.ok (.int i)) ρ σ = .exc c [.int i] ρ σ := by
  show (if decide (i.natAbs.log2 < 1920) = true then _ else _) = _
  rw [if_pos (by simpa using h)]
def trR (ise : Nat → Bool) (sub : Nat → Nat → Bool) (o : Out) (hs : List Hd) : Out := match o with
  | .exc c fs ρ' σ' => handleS ise sub hs c fs ρ' σ'
  | o => o
theorem tryS_ap {ise : Nat → Bool} {sub : Nat → Nat → Bool} {b : SF} {hs : List Hd} : tryS ise sub b hs mu ρ σ = trR ise sub (b mu ρ σ) hs := id rfl
theorem trR_nx {ise : Nat → Bool} {sub : Nat → Nat → Bool} {hs : List Hd} : trR ise sub (.nx ρ σ) hs = .nx ρ σ := id rfl
theorem trR_ret {ise : Nat → Bool} {sub : Nat → Nat → Bool} {hs : List Hd} {fr : Bool} {d : D} : trR ise sub (.ret fr d ρ) hs = .ret fr d ρ := id rfl
theorem trR_exc {ise : Nat → Bool} {sub : Nat → Nat → Bool} {hs : List Hd} {c : Nat} {fs : List D} : trR ise sub (.exc c fs ρ σ) hs = handleS ise sub hs c fs ρ σ := id rfl
def stR (n : Nat) (r : Res D) (h : List D → List D → Env → Option Env) (ρ : List D) (σ : Env) : Out := withE r ρ σ fun d => match seqD (dr ρ d) with
  | some l => if n ≤ l.length then match h ρ (l.take n ++ [.lst (l.drop n)]) σ with
      | some σ' => .nx ρ σ'
      | none => .bad
    else .bad
  | none => .bad
theorem starS_ap {n : Nat} {f : EF} {h : List D → List D → Env → Option Env} : starS n f h mu ρ σ = stR n (f ρ σ) h ρ σ := id rfl
theorem stR_1 {h : List D → List D → Env → Option Env} {x : D} {l : List D} : stR 1 (.ok (.lst (x :: l))) h ρ σ = agR (h ρ [x, .lst l] σ) ρ := by
  simp only [stR, withE, dr, seqD]
  rw [if_pos (by simp)]
  simp only [List.take_succ_cons, List.take_zero, List.drop_succ_cons, List.drop_zero, app_c, app_n]
  unfold agR
  rfl
end

/-! ### data -/
section
variable {ρ ρ' : List D} {σ σ' : Env}
theorem dr_int {i : Int} : dr ρ (.int i) = .int i := id rfl
theorem dr_str {i : Str} : dr ρ (.str i) = .str i := id rfl
theorem dr_bl {i : Bool} : dr ρ (.bl i) = .bl i := id rfl
theorem dr_non : dr ρ .non = .non := id rfl
theorem dr_tup {l : List D} : dr ρ (.tup l) = .tup l := id rfl
theorem dr_lst {l : List D} : dr ρ (.lst l) = .lst l := id rfl
theorem dr_scr {l : List D} : dr ρ (.scr l) = .scr l := id rfl
theorem dr_wd {ks : List Str} {l : List D} : dr ρ (.wd ks l) = .wd ks l := id rfl
theorem dr_exn {c : Nat} {l : List D} : dr ρ (.exn c l) = .exn c l := id rfl
theorem dr_last {d : D} (h : ∀ r, d ≠ .rt r) : dr (ρ ++ [d]) (.rt ρ.length) = d := by simp [dr]
theorem dr_lstR {l : List D} : dr (ρ ++ [.lst l]) (.rt ρ.length) = .lst l := by simp [dr]
theorem get_last {d : D} : (ρ ++ [d])[ρ.length]? = some d := by simp
theorem set_last {d e : D} : (ρ ++ [d]).set ρ.length e = ρ ++ [e] := by simp

def addQ (x y : D) : Option D := match x, y with
  | .int i, .int j => some (.int (i + j))
  | .str s, .str t => if s.length + t.length ≤ 100000 then some (.str (s ++ t)) else none
  | .lst l, .lst m => if l.length + m.length ≤ 100000 then some (.lst (l ++ m)) else none
  | .tup l, .tup m => if l.length + m.length ≤ 100000 then some (.tup (l ++ m)) else none
  | _, _ => none
theorem addD_ap {x y : D} : addD ρ x y = addQ (dr ρ x) (dr ρ y) := id rfl
theorem addQ_int {i j : Int} : addQ (.int i) (.int j) = some (.int (i + j)) := id rfl
theorem addQ_str {s t : Str} (h : s.length + t.length ≤ 100000) : addQ (.str s) (.str t) = some (.str (s ++ t)) := if_pos h
theorem addQ_lst {s t : List D} (h : s.length + t.length ≤ 100000) : addQ (.lst s) (.lst t) = some (.lst (s ++ t)) := if_pos h
theorem addQ_tup {s t : List D} (h : s.length + t.length ≤ 100000) : addQ (.tup s) (.tup t) = some (.tup (s ++ t)) := if_pos h
theorem subD_int {i j : Int} : subD ρ (.int i) (.int j) = some (.int (i - j)) := id rfl
theorem negD_int {i : Int} : negD ρ (.int i) = some (.int (-i)) := id rfl
theorem mulD_int {i j : Int} (h : (-(2 ^ 64) < i ∧ i < 2 ^ 64) ∨ (-(2 ^ 64) < j ∧ j < 2 ^ 64)) : mulD ρ (.int i) (.int j) = some (.int (i * j)) := if_pos h
def mulQ (x y : D) : Option D := match x, y with
  | .lst l, .int k => if -1000 ≤ k ∧ k ≤ 1000 ∧ l.length ≤ 100 then some (.lst (List.replicate k.toNat l).flatten) else none
  | _, _ => none
theorem mulD_lst {l : List D} {k : Int} (h1 : -1000 ≤ k) (h2 : k ≤ 1000) (h3 : l.length ≤ 100) : mulD ρ (.lst l) (.int k) = some (.lst (List.replicate k.toNat l).flatten) := if_pos ⟨h1, h2, h3⟩
theorem fdivD_int {i j : Int} (h1 : 0 < j) (h2 : j < 1073741824) : fdivD ρ (.int i) (.int j) = some (.int (i / j)) := if_pos ⟨h1, h2⟩
theorem modD_int {i j : Int} (h1 : 0 < j) : modD ρ (.int i) (.int j) = some (.int (i % j)) := if_pos h1
theorem powD_int {i j : Int} (h1 : 0 ≤ j) (h2 : j ≤ 1000000) (h3 : i.natAbs < 2 ^ 64) : powD ρ (.int i) (.int j) = some (.int (i ^ j.toNat)) := if_pos ⟨h1, h2, h3⟩
theorem ltD_int {i j : Int} : ordD (fun i j => decide (i < j)) ρ (.int i) (.int j) = some (.bl (decide (i < j))) := id rfl
theorem leD_int {i j : Int} : ordD (fun i j => decide (i ≤ j)) ρ (.int i) (.int j) = some (.bl (decide (i ≤ j))) := id rfl
theorem gtD_int {i j : Int} : ordD (fun i j => decide (j < i)) ρ (.int i) (.int j) = some (.bl (decide (j < i))) := id rfl
theorem geD_int {i j : Int} : ordD (fun i j => decide (j ≤ i)) ρ (.int i) (.int j) = some (.bl (decide (j ≤ i))) := id rfl
theorem isn_lst {l : List D} : isnD ρ (.lst l) .non = some (.bl false) := id rfl
theorem isn_non : isnD ρ .non .non = some (.bl true) := id rfl
/-- a text that compares -/
abbrev sOk (s : Str) : Prop := PyData.strOk s = true
theorem shaped_str {s : Str} (h : sOk s) : SeqAt.shaped (.str s) = true := by
  have h' : PyData.strOk s = true := h
  simp only [SeqAt.shaped, PyData.canLay0, PyData.depth, h']; rfl
theorem shaped_int {i : Int} : SeqAt.shaped (.int i) = true := by simp only [SeqAt.shaped, PyData.canLay0, PyData.depth]; rfl
theorem eqB_str {s t : Str} (h1 : sOk s) (h2 : sOk t) : eqB ρ (.str s) (.str t) = some (decide (s = t)) := by
  simp only [eqB, dr, toPy, Option.bind_some, shaped_str h1, shaped_str h2, and_self, if_true, PyData.eqv]
  rfl
theorem eqB_int {i j : Int} : eqB ρ (.int i) (.int j) = some (decide (i = j)) := by
  simp only [eqB, dr, toPy, Option.bind_some, shaped_int, and_self, if_true, PyData.eqv]
  rfl
theorem eqD_ap {x y : D} : eqD ρ x y = (eqB ρ x y).map .bl := id rfl
theorem neD_ap {x y : D} : neD ρ x y = (eqB ρ x y).map fun b => .bl (!b) := id rfl
theorem toPyL_strs : ∀ ss : List Str, toPyL (ss.map .str) = some (ss.map .str)
  | [] => rfl
  | s :: ss => by simp only [List.map, toPyL, toPy, toPyL_strs ss, Option.bind_some, Option.map_some]
theorem depthAll_strs : ∀ ss : List Str, PyData.depthAll (ss.map .str) = 0
  | [] => by simp only [List.map, PyData.depthAll]
  | s :: ss => by simp only [List.map, PyData.depthAll, PyData.depth, depthAll_strs ss, Nat.max_self]
theorem canLay_strs : ∀ {ss : List Str}, (∀ s ∈ ss, sOk s) → PyData.canLayAll0 (ss.map .str) = true
  | [], _ => by simp only [List.map, PyData.canLayAll0]
  | s :: ss, h => by
    have h' : PyData.strOk s = true := h s (List.mem_cons_self ..)
    simp only [List.map, PyData.canLayAll0, PyData.canLay0, h', canLay_strs (fun t ht => h t (List.mem_cons_of_mem _ ht)), Bool.and_self]
theorem any_strs {x : Str} : ∀ ss : List Str, ((ss.map PyData.str).any fun z => PyData.eqv z (.str x)) = decide (x ∈ ss)
  | [] => by simp
  | s :: ss => by
    rw [List.map_cons, List.any_cons, any_strs ss]
    simp only [PyData.eqv, List.mem_cons]
    by_cases e : x = s
    · subst e; simp
    · have : (s == x) = false := by simpa using fun z => e z.symm
      rw [this, Bool.false_or]; simp [e]
theorem inB_lst {x : Str} {ss : List Str} (h : sOk x) (hs : ∀ s ∈ ss, sOk s) : inB ρ (.str x) (.lst (ss.map .str)) = some (decide (x ∈ ss)) := by
  have e : SeqAt.shaped (.list (ss.map PyData.str)) = true := by simp only [SeqAt.shaped, PyData.canLay0, PyData.depth, canLay_strs hs, depthAll_strs]; rfl
  simp only [inB, dr, toPy, toPyL_strs, Option.bind_some, shaped_str h, e, and_self, if_true, any_strs]
theorem inB_tup {x : Str} {ss : List Str} (h : sOk x) (hs : ∀ s ∈ ss, sOk s) : inB ρ (.str x) (.tup (ss.map .str)) = some (decide (x ∈ ss)) := by
  have e : SeqAt.shaped (.tuple (ss.map PyData.str)) = true := by simp only [SeqAt.shaped, PyData.canLay0, PyData.depth, canLay_strs hs, depthAll_strs]; rfl
  simp only [inB, dr, toPy, toPyL_strs, Option.bind_some, shaped_str h, e, and_self, if_true, any_strs]
theorem inB_wd {x : Str} {ks : List Str} {l : List D} : inB ρ (.str x) (.wd ks l) = some (lookW ks l x).isSome := id rfl
theorem inB_chr {c : Nat} {z : Str} : inB ρ (.str ⟨#[c]⟩) (.str z) = some (decide (c ∈ z.cps.toList)) := by
  simp only [inB, dr]
  rw [if_pos (by rfl)]
  rfl
theorem inD_ap {x y : D} : inD ρ x y = (inB ρ x y).map .bl := id rfl
theorem ninD_ap {x y : D} : ninD ρ x y = (inB ρ x y).map fun b => .bl (!b) := id rfl
theorem omap_some {α β : Type} {f : α → β} {a : α} : Option.map f (some a) = some (f a) := id rfl
theorem look_n {j : Str} : lookW [] [] j = none := id rfl
theorem look_c {k j : Str} {ks : List Str} {d : D} {l : List D} : lookW (k :: ks) (d :: l) j = if k = j then some d else lookW ks l j := id rfl
def ixQ (x y : D) : Option D := match x with
  | .lst l => match y with
    | .int i => atI l i
    | _ => none
  | .scr l => match y with
    | .int i => atI l i
    | _ => none
  | .tup l => match y with
    | .int i => atI l i
    | _ => none
  | .str z => match y with
    | .int i => if z.length ≤ 100000 then (atI z.cps.toList i).map fun c => .str ⟨#[c]⟩ else none
    | _ => none
  | .dct ks l => (keyD y).bind fun k => lookK ks l k
  | .wd ks l => match y with
    | .str s => lookW ks l s
    | _ => none
  | _ => none
theorem ixD_ap {x y : D} : ixD ρ x y = ixQ (dr ρ x) (dr ρ y) := id rfl
theorem ixQ_lst {l : List D} {i : Int} : ixQ (.lst l) (.int i) = atI l i := id rfl
theorem ixQ_tup {l : List D} {i : Int} : ixQ (.tup l) (.int i) = atI l i := id rfl
theorem ixQ_scr {l : List D} {i : Int} : ixQ (.scr l) (.int i) = atI l i := id rfl
theorem ixQ_wd {ks : List Str} {l : List D} {s : Str} : ixQ (.wd ks l) (.str s) = lookW ks l s := id rfl
theorem ixQ_str {z : Str} {i : Int} (h : z.length ≤ 100000) : ixQ (.str z) (.int i) = (atI z.cps.toList i).map fun c => .str ⟨#[c]⟩ := if_pos h
theorem at_nat {α : Type} {l : List α} {n : Nat} {x : α} (h : l[n]? = some x) : atI l (n : Int) = some x := by
  have hl := (List.getElem?_eq_some_iff.mp h).1
  simp only [atI, ixN]
  rw [if_pos (by omega), if_pos (by omega)]
  simpa using h
theorem at_0 {α : Type} {l : List α} {x : α} : atI (x :: l) 0 = some x := at_nat (n := 0) rfl
theorem at_last {α : Type} {l : List α} {x : α} : atI (l ++ [x]) (-1) = some x := by
  have e : ixN (l ++ [x]).length (-1) = some l.length := by
    unfold ixN
    rw [if_neg (by omega), List.length_append, List.length_singleton, if_pos (by omega)]
    congr 1
    omega
  unfold atI
  rw [e]
  simp
theorem at_p {α : Type} {l : List α} {i : Int} (h0 : 0 ≤ i) (h1 : i < l.length) : atI l i = l[i.toNat]? := by
  have : i.toNat < l.length := by omega
  rw [List.getElem?_eq_getElem this]
  have := at_nat (l := l) (n := i.toNat) (List.getElem?_eq_getElem this)
  rwa [Int.toNat_of_nonneg h0] at this
theorem at_m1 {α : Type} {x : α} : atI [x] (-1) = some x := at_last (l := [])
theorem at_m1c {α : Type} {x y : α} {l : List α} : atI (x :: y :: l) (-1) = atI (y :: l) (-1) := by
  have h : ∀ (z : α) (m : List α), atI (z :: m) (-1) = (z :: m).getLast? := by
    intro z m
    have e := List.dropLast_concat_getLast (l := z :: m) (by simp)
    generalize (z :: m).dropLast = a at e
    generalize (z :: m).getLast _ = b at e
    rw [← e, at_last, List.getLast?_concat]
  rw [h, h, List.getLast?_cons_cons]
theorem at_get {α : Type} {l : List α} {i : Int} (h0 : 0 ≤ i) (h1 : i < l.length) : ∃ x, atI l i = some x ∧ l[i.toNat]? = some x := by
  have : i.toNat < l.length := by omega
  refine ⟨l[i.toNat], ?_, List.getElem?_eq_getElem this⟩
  have := at_nat (l := l) (n := i.toNat) (List.getElem?_eq_getElem this)
  rwa [Int.toNat_of_nonneg h0] at this
def lenQ : D → Option D
  | .lst l => some (.int l.length)
  | .scr l => some (.int l.length)
  | .tup l => some (.int l.length)
  | .str s => if s.length ≤ 100000 then some (.int s.length) else none
  | .dct ks _ => some (.int ks.length)
  | _ => none
theorem lenD_ap {d : D} : lenD ρ [d] = lenQ (dr ρ d) := id rfl
theorem lenQ_lst {l : List D} : lenQ (.lst l) = some (.int l.length) := id rfl
theorem lenQ_scr {l : List D} : lenQ (.scr l) = some (.int l.length) := id rfl
theorem lenQ_tup {l : List D} : lenQ (.tup l) = some (.int l.length) := id rfl
theorem lenQ_str {s : Str} (h : s.length ≤ 100000) : lenQ (.str s) = some (.int s.length) := if_pos h
theorem intC_int {i : Int} : intC ρ [.int i] = some (.int i) := id rfl
theorem intC_str {s : Str} {n : Int} (h : s.length ≤ 640) (e : PySem.intText? s = some n) : intC ρ [.str s] = some (.int n) := by
  show (if s.length ≤ 640 then (PySem.intText? s).map D.int else none) = _
  rw [if_pos h, e]; rfl
theorem strC_str {s : Str} : strC ρ [.str s] = some (.str s) := id rfl
theorem strC_int {i : Int} (h : i.natAbs.log2 < 1920) : strC ρ [.int i] = some (D.str ((toString i : String) : Str)) := if_pos h
theorem blsD_map {γ : Type} {f : γ → Bool} : ∀ l : List γ, blsD (l.map fun x => .bl (f x)) = some (l.map f)
  | [] => rfl
  | x :: l => by simp only [List.map, blsD, blsD_map l, Option.map_some]
theorem allC_map {γ : Type} {f : γ → Bool} {l : List γ} : allC ρ [.lst (l.map fun x => .bl (f x))] = some (.bl (l.all f)) := by
  simp only [allC, dr, blsD_map, Option.map_some]
  rw [List.all_map]; rfl
theorem anyC_map {γ : Type} {f : γ → Bool} {l : List γ} : anyC ρ [.lst (l.map fun x => .bl (f x))] = some (.bl (l.any f)) := by
  simp only [anyC, dr, blsD_map, Option.map_some]
  rw [List.any_map]; rfl
theorem listC_lst {l : List D} : listC ρ [.lst l] = some (.lst l) := id rfl
theorem listC_tup {l : List D} : listC ρ [.tup l] = some (.lst l) := id rfl
theorem tupleC_lst {l : List D} : tupleC ρ [.lst l] = some (.tup l) := id rfl
theorem tupleC_tup {l : List D} : tupleC ρ [.tup l] = some (.tup l) := id rfl
theorem strsD_map : ∀ l : List Str, strsD (l.map .str) = some l
  | [] => rfl
  | x :: l => by simp only [List.map, strsD, strsD_map l, Option.map_some]
def joinQ (s : Str) (d : D) : Option D := (itemsR d).bind fun l => (strsD l).bind fun ys => if (ys.map (·.length)).sum + ys.length * s.length ≤ 16777216 then some (.str (Txt.join s ys)) else none
theorem joinM_ap {s : Str} {d : D} : joinM ρ s [d] = joinQ s (dr ρ d) := id rfl
theorem joinQ_strs {s : Str} {ss : List Str} (h : (ss.map (·.length)).sum + ss.length * s.length ≤ 16777216) : joinQ s (.lst (ss.map .str)) = some (.str (Txt.join s ss)) := by
  simp only [joinQ, itemsR, Option.bind_some, strsD_map]
  rw [if_pos h]
theorem splitM_ok {s t : Str} (ht : t.length ≠ 0) (hs : s.length ≤ 100000) : splitM ρ s [.str t] = some (.lst ((Txt.split s t).map .str)) := if_pos ⟨ht, hs⟩
def rgQ (ρ : List D) (x y : D) : Res D := rgD ρ x y .lst
theorem rgD_ok' {i j : Int} {k : List D → D} (h1 : -1000000 ≤ i) (h2 : i ≤ 1000000) (h3 : -1000000 ≤ j) (h4 : j ≤ 1000000) (h5 : j - i ≤ 100000) : rgD ρ (.int i) (.int j) k = .ok (k (rngL i (j - i).toNat)) := by
  show (if -(2 ^ 62) ≤ i ∧ i < 2 ^ 62 ∧ -(2 ^ 62) ≤ j ∧ j < 2 ^ 62 ∧ (j - i).toNat ≤ 100000 then _ else _) = _
  rw [if_pos (by omega)]
end

section
variable {ρ : List D} {σ : Env}
def r2R (k : List D → D) (ρ : List D) : Res D → Res D → Res D
  | .ok x, .ok y => rgD ρ x y k
  | .exc c fs, _ => .exc c fs
  | .ok _, .exc c fs => .exc c fs
  | _, _ => .bad
theorem rg2S_ap {k : List D → D} {f g : EF} : rg2S k f g ρ σ = r2R k ρ (f ρ σ) (g ρ σ) := by unfold rg2S r2R; cases f ρ σ <;> cases g ρ σ <;> rfl
theorem r2R_ok {k : List D → D} {x y : D} : r2R k ρ (.ok x) (.ok y) = rgD ρ x y k := id rfl
def r1R (k : List D → D) (ρ : List D) (r : Res D) : Res D := r.bind fun x => rgD ρ (.int 0) x k
theorem rg1S_ap {k : List D → D} {f : EF} : rg1S k f ρ σ = r1R k ρ (f ρ σ) := id rfl
theorem r1R_ok {k : List D → D} {x : D} : r1R k ρ (.ok x) = rgD ρ (.int 0) x k := id rfl
end

/-! ### a def's run -/
section
variable {T : Nat → Option Fn} {n g : Nat} {ρ : List D} {ds : List D}
theorem run_res (np nl : Nat) (B : Orc → SF) {σ : Env} {o : Out} {r : RRes} (hT : T g = some ⟨np, nl, B⟩) (hl : ds.length = np) (hσ : ds.map some ++ List.replicate (nl - np) none = σ) (hb : B (run T n) (fun r => decide (ρ.length ≤ r)) ρ σ = o) (hf : finR ρ.length (fun _ => false) o = r) :
    run T (n + 1) g (fun _ => false) ρ ds = r := by
  simp only [run, hT]
  rw [if_pos hl]
  subst hσ hf hb
  rfl
theorem kept_no {n0 : Nat} {m : List D} : keptOk n0 (fun _ => false) m = true := by simp [keptOk]
theorem fin_ret {fr : Bool} {d : D} {m : List D} (hn : ∀ r, d ≠ .rt r) (h : okRt ρ.length d = true) : finR ρ.length (fun _ => false) (.ret fr d (ρ ++ m)) = .ok fr d ρ := by
  simp only [finR, kept_no, if_true]
  cases d <;> first | exact absurd rfl (hn _) | (simp only [h, if_true, List.take_left'])
theorem fin_ret0 {fr : Bool} {d : D} (hn : ∀ r, d ≠ .rt r) (h : okRt ρ.length d = true) : finR ρ.length (fun _ => false) (.ret fr d ρ) = .ok fr d ρ := by
  have := fin_ret (m := []) (fr := fr) hn h
  rwa [List.append_nil] at this
theorem fin_root {fr : Bool} {d : D} {m : List D} (h : okRt ρ.length d = true) : finR ρ.length (fun _ => false) (.ret fr (.rt ρ.length) (ρ ++ d :: m)) = .ok true d ρ := by
  simp only [finR, kept_no, if_true, Nat.lt_irrefl, if_false]
  simp [h]
theorem fin_nx {m : List D} {σ : Env} : finR ρ.length (fun _ => false) (.nx (ρ ++ m) σ) = .ok false .non ρ := by simp only [finR, kept_no, if_true, List.take_left']
theorem fin_nx0 {σ : Env} : finR ρ.length (fun _ => false) (.nx ρ σ) = .ok false .non ρ := by simp only [finR, kept_no, if_true, List.take_length]
theorem fin_exc {c : Nat} {fs : List D} {m : List D} {σ : Env} (h : okRtL ρ.length fs = true) : finR ρ.length (fun _ => false) (.exc c fs (ρ ++ m) σ) = .exc c fs ρ := by
  simp only [finR, kept_no, h, and_self, if_true, List.take_left']
theorem fin_exc0 {c : Nat} {fs : List D} {σ : Env} (h : okRtL ρ.length fs = true) : finR ρ.length (fun _ => false) (.exc c fs ρ σ) = .exc c fs ρ := by
  simp only [finR, kept_no, h, and_self, if_true, List.take_length]
theorem okL_mem : ∀ {n : Nat} {l : List D}, (∀ d ∈ l, okRt n d = true) → okRtL n l = true
  | _, [], _ => by simp only [okRtL]
  | n, d :: l, h => by simp only [okRtL, h d (List.mem_cons_self ..), okL_mem fun x hx => h x (List.mem_cons_of_mem _ hx), Bool.and_self]
theorem okL_map {γ : Type} {f : γ → D} {n : Nat} {l : List γ} (h : ∀ x ∈ l, okRt n (f x) = true) : okRtL n (l.map f) = true := okL_mem fun d hd => by
  obtain ⟨x, hx, rfl⟩ := List.mem_map.mp hd
  exact h x hx
end

/-! ### cuts -/
theorem cut_to {α : Type} {l : List α} {n : Nat} : cutL l none (some (n : Int)) = l.take n := by
  unfold cutL
  rw [HT.sIx_none, HT.sIx_nat, List.drop_zero, Nat.sub_zero]
  by_cases h : n ≤ l.length
  · rw [Nat.min_eq_left h]
  · rw [Nat.min_eq_right (by omega), List.take_length, List.take_of_length_le (by omega)]
theorem cut_from {α : Type} {l : List α} {n : Nat} : cutL l (some (n : Int)) none = l.drop n := by
  unfold cutL
  rw [HT.sIx_none, HT.sIx_nat]
  by_cases h : n ≤ l.length
  · rw [Nat.min_eq_left h, List.take_of_length_le (by simp)]
  · rw [Nat.min_eq_right (by omega), List.drop_of_length_le (Nat.le_refl _), List.drop_of_length_le (by omega)]; simp
theorem cut_mid {α : Type} {l : List α} {n m : Nat} (h : n ≤ m) (h2 : m ≤ l.length) : cutL l (some (n : Int)) (some (m : Int)) = (l.drop n).take (m - n) := by
  unfold cutL
  rw [HT.sIx_nat, HT.sIx_nat, Nat.min_eq_left h2, Nat.min_eq_left (by omega)]
theorem cut_init {α : Type} {l : List α} {x : α} : cutL (l ++ [x]) none (some (-1)) = l := by
  unfold cutL
  have e : HT.sIx (l ++ [x]).length (l ++ [x]).length (some (-1)) = l.length := by
    unfold HT.sIx
    simp only []
    rw [if_pos (by decide), List.length_append, List.length_singleton]; omega
  rw [e, HT.sIx_none, List.drop_zero, Nat.sub_zero]
  exact List.take_left' rfl
theorem cut_m1 {α : Type} {l : List α} : cutL l none (some (-1)) = l.dropLast := by
  rcases List.eq_nil_or_concat l with h | ⟨m, x, h⟩
  · subst h; rfl
  · subst h; rw [List.concat_eq_append, cut_init, List.dropLast_concat]
theorem cut_pos {α : Type} {l : List α} {i : Int} (h : 0 ≤ i) : cutL l none (some i) = l.take i.toNat := by
  have := cut_to (l := l) (n := i.toNat)
  rwa [Int.toNat_of_nonneg h] at this
theorem cut_posf {α : Type} {l : List α} {i : Int} (h : 0 ≤ i) : cutL l (some i) none = l.drop i.toNat := by
  have := cut_from (l := l) (n := i.toNat)
  rwa [Int.toNat_of_nonneg h] at this
theorem drop_0 {α : Type} {l : List α} : l.drop 0 = l := id rfl
theorem drop_s {α : Type} {x : α} {l : List α} {n : Nat} : (x :: l).drop (n + 1) = l.drop n := id rfl
theorem take_0 {α : Type} {l : List α} : l.take 0 = [] := id List.take_zero
theorem take_s {α : Type} {x : α} {l : List α} {n : Nat} : (x :: l).take (n + 1) = x :: l.take n := id rfl
theorem take_n {α : Type} {n : Nat} : ([] : List α).take n = [] := id List.take_nil
theorem dl_1 {α : Type} {x : α} : [x].dropLast = [] := id rfl
theorem dl_c {α : Type} {x y : α} {l : List α} : (x :: y :: l).dropLast = x :: (y :: l).dropLast := id rfl
theorem flat_rep {α : Type} {x : α} {n : Nat} : (List.replicate n [x]).flatten = List.replicate n x := List.flatten_replicate_singleton
theorem ofString_inj {a b : String} : (Str.ofString a = Str.ofString b) = (a = b) := by
  apply propext
  constructor
  · intro h
    rw [Str.ofString_eq_toList, Str.ofString_eq_toList] at h
    have h1 := congrArg (fun z => z.cps.toList) h
    simp only [List.toList_toArray] at h1
    have h2 : a.toList = b.toList := by
      have : Function.Injective Char.toNat := fun x y e => Char.ext (UInt32.toNat_inj.mp e)
      exact (List.map_inj_right this).mp h1
    exact String.toList_inj.mp h2
  · intro h; rw [h]

/-! ### texts -/
theorem tl_sp : TL.tl ("\x20" : Str) = [32] := by decide +kernel
theorem split_join_sp {ws : List Str} (hne : ws ≠ []) (hp : ∀ w ∈ ws, 32 ∉ TL.tl w) : Txt.split (Txt.join " " ws) " " = ws := TL.split_join (y := " ") (s := 32) (S := []) (by decide +kernel) (by decide +kernel) hne hp
theorem sok_lit {s : Str} (h : PyData.strOk s = true) : sOk s := h
end Dd

set_option Elab.async false
set_option linter.all false
set_option maxRecDepth 100000
set_option maxHeartbeats 2000000
/-! DdGrd: the law's own call, where its place (callerA) is known: repr of data -/
namespace Dd
open PySem PySem.Spec PyProof.Rows L2 Evl OwnO My

/-- a def's call at one place -/
theorem def_at {CX : CXT} {P : Program} {w : World} {K : PySem.W.Frag} {mg : Str → Option Value} {base : Heap} {k : Nat} {f : Addr} {name qual : Str} {params : Arguments} {body : List Stmt} {scope : Scope} {dV kV doc pm cdv ct oc : Value} {an od : Option Addr}
    {osl : Array (Option Value)} {N ps : List Str} {A : Around} {outer : List PySem.Env} {s : Shared} {H : Hp} {args : Args} {us : List Value} {vs : List V} {Q : VK} {E : XK} {t : TS}
    (lk : K.lookup f = some ⟨oc, od, .func (PySem.W.fnOf name qual params body scope dV kV doc pm an cdv ct), osl⟩) (hcd : PySem.W.codeIn K cdv qual = true) (S : FnScope N ps scope) (hl : vs.length = ps.length)
    (hr : Room (k + 1) A) (e0 : Env0 P w K mg base A outer s H) (hb : BindsTo s (PySem.W.fnOf name qual params body scope dV kV doc pm an cdv ct) args (ps.zip us)) (rv : Vals vs us)
    (ht : PSs (cxOf CX P w K mg base N qual scope f cdv A outer s H E) body t) (hq : t { nx := fun _ H' => Q .non H', rt := Q } (L2.start N vs) H) :
    codeAny (model P w) A (.call (.ref f) args) (CR CX outer P w H s Q E) s := by
  have inK : K.In s.heap := e0.mod.kin.keeps fun b o z => (e0.bs b o z).1
  have lims : s.heap.NoLimit := e0.mod.nolimit.keeps fun b o z => (e0.bs b o z).1
  refine codeAny_call_function hr.depth (inK _ _ lk) rfl S.co S.gen rfl (PySem.W.codeRec_of inK hcd) (hb _ _ _ _ (wpAny_newFunctionEnv_cells S.kind ?kinds fun env he s1 x => ?run))
  case kinds =>
    intro y hy
    obtain ⟨n, v⟩ := y
    cases S.par n (List.of_mem_zip hy).1 with
    | inl q => exact Or.inl q
    | inr q => exact Or.inr ⟨q, PySem.W.cellsFrom_some _ _ _ (Or.inl q)⟩
  case run =>
    cases he
    refine ⟨lims.keeps x.toInCall.keep, codeAny_func ?_⟩
    refine wpAny_mono (ht.run [] s1 (L2.start N vs) H _ (inv_start S hr.hd e0 hl rv x) hq) (fun fl s' z => ?_) fun e s' z => z
    match fl, z with
    | .ret u, ⟨v, σ', H', J, r, q⟩ => exact ⟨v, H', J.os, J.bare, J.base, J.hok, r, q⟩
    | .next, ⟨σ', H', J, q⟩ => exact ⟨V.non, H', J.os, J.bare, J.base, J.hok, rfl, q⟩
    | .brk, ⟨_, _, _, q⟩ => exact q.elim
    | .cont, ⟨_, _, _, q⟩ => exact q.elim

/-- the law's call, from its run at the caller's place -/
theorem law_grd {P : Program} {w : World} {K : PySem.W.Frag} {mg mb : Str → Option Value} {CX : CXT} {fa a : Addr} {s₁ : Shared} {vs : List Value} {ns : List Int}
    (ha : s₁.heap.get? a = some { cls := .type "list", data := .seq vs.toArray }) (hi : IntsAre vs ns) (hl : ns.length ≤ sizeLine) (KX : K.In s₁.heap) (hns : s₁.heap.Ns mainGlobals mg)
    (hg : s₁.gens = #[]) (hlim : s₁.heap.NoLimit) (hb : s₁.heap.Ns builtinsNs mb) (hbb : ∀ x : Str, x ≠ "__name__" → mb x = bootBuiltins x)
    (F : ∀ (base : Heap) (H : Hp), K.In base → base.Ns mainGlobals mg → Env0 P w K mg base callerA [] s₁ H → SqL K H a (ns.map V.int) →
      codeAny (model P w) callerA (.call (.ref fa) ⟨[.ref a], []⟩) (CR CX [] P w H s₁ (fun v _ => v = .bl true) fun _ _ _ => False) s₁)
    (hCX : ∀ H e s', CX [] H s₁ (fun _ _ _ => False) e s' → False) : codeAny (model P w) callerA (.call (.ref fa) ⟨[.ref a], []⟩)
      (fun r s' => r = .ok (.ret (.bool true)) ∧ OldK s₁.heap s'.heap ∧ s'.os = s₁.os ∧ AllBare s'.gens) s₁ := by
  have rv := vals_ints hi
  have hn : vs.length = ns.length := by have := hi.length; omega
  obtain ⟨H, hS, hok, hA⟩ : ∃ H : Hp, SqL K H a (ns.map V.int) ∧ HOk P w H s₁.heap ∧ ∀ b u, H b = some u → b = a ∧ K.lookup a = none ∧ u = .frz { cls := .type "list", data := .seq vs.toArray } (.lst (ns.map V.int)) := by
    cases hk : K.lookup a with
    | some o =>
      have e1 := KX a o hk
      rw [ha] at e1
      cases e1
      exact ⟨fun _ => none, .inr ⟨_, vs.toArray, _, hk, rfl, rfl, rfl, by rw [List.size_toArray, hn]; exact hl, by simpa using rv⟩, fun b u z => (nomatch (show (none : Option HO) = some u from z)), fun b u z => (nomatch (show (none : Option HO) = some u from z))⟩
    | none =>
      have sel : ∀ b u, (if b = a then some (HO.frz { cls := .type "list", data := .seq vs.toArray } (.lst (ns.map V.int))) else none) = some u → b = a ∧ u = .frz { cls := .type "list", data := .seq vs.toArray } (.lst (ns.map V.int)) := fun b u z => by
        by_cases h : b = a
        · rw [if_pos h] at z; cases z; exact ⟨h, rfl⟩
        · rw [if_neg h] at z; cases z
      refine ⟨fun b => if b = a then some (.frz { cls := .type "list", data := .seq vs.toArray } (.lst (ns.map V.int))) else none, .inl (.inr ⟨{ cls := .type "list", data := .seq vs.toArray }, if_pos rfl⟩), fun b u z => ?_, fun b u z => ⟨(sel b u z).1, rfl, (sel b u z).2⟩⟩
      obtain ⟨rfl, rfl⟩ := sel b u z
      exact ⟨ha, by rw [List.length_map]; exact hl, vs, _, rv, ha⟩
  have free : ∀ b, b ≠ a ∨ K.lookup a ≠ none → H b = none := fun b hx => by
    cases q : H b with
    | none => rfl
    | some u =>
      obtain ⟨h1, h2, _⟩ := hA b u q
      cases hx with
      | inl h => exact absurd h1 h
      | inr h => exact absurd h2 h
  have nsB : ∀ {b : Addr} {m : Str → Option Value}, s₁.heap.Ns b m → (hidT s₁.heap H).Ns b m := by
    rintro b m ⟨o, es, ep, e, d, r⟩
    refine ⟨o, es, ep, hidT_get e (free b (.inl fun z => ?_)), d, r⟩
    rw [z, ha] at e
    cases e
    exact nomatch (show Data.seq vs.toArray _ = Data.dict es ep from d)
  have inB : K.In (hidT s₁.heap H) := fun b o e => hidT_get (KX b o e) (free b (by
    by_cases z : b = a
    · subst z; exact .inr (by rw [e]; simp)
    · exact .inl z))
  obtain ⟨mc, l1, l2⟩ := hlim
  have e0 : Env0 P w K mg (hidT s₁.heap H) callerA [] s₁ H :=
    ⟨rfl, ⟨inB, nsB hns, ⟨mb, nsB hb, hbb⟩, ⟨mc, nsB l1, l2⟩⟩, fun b o e => of_hidT e, Nat.le_of_eq (hidT_size _ _), trivial, fun b z => (List.not_mem_nil (show b ∈ ([] : List Addr) from z)).elim, hok, .of_eq hg⟩
  refine codeAny_mono (F _ H inB (nsB hns) e0 hS) fun r s' h => ?_
  match r, h with
  | .error e, h => exact (hCX H e s' h).elim
  | .ok (.ret u), ⟨v, H', os, bare, un, hok', r', q⟩ =>
    obtain rfl : v = .bl true := q
    obtain rfl : u = Value.bool true := r'
    refine ⟨rfl, OldK.of_keep fun b o e => ?_, os, bare⟩
    cases q : H b with
    | none => exact un.keep b o e q (fun z => (List.not_mem_nil (show b ∈ ([] : List Addr) from z)).elim) (by simp)
    | some x =>
      obtain ⟨_, _, rfl⟩ := hA b x q
      obtain ⟨e1, _⟩ := hok b _ q
      obtain ⟨e2, _⟩ := hok' b _ (un.frzs b _ _ q)
      rw [e] at e1
      cases e1
      exact e2

/-! ### repr of data -/
def rRepr (K : PySem.W.Frag) : List V → Hp → VK → Prop := fun xs H Q => ∃ (a : Addr) (p : PyData), xs = [.ref a] ∧ Dp K H (.ref a) p ∧ p.showable = true ∧ p.hasDict = false ∧ p.depth ≤ 64 ∧ p.leavesShort 13 = true ∧ p.weight ≤ 2 ^ 20 ∧ Q (.str p.shown) H
theorem callr_repr {X : Cx} (K : PySem.W.Frag) (hK : X.K = K) (hgd : X.A.guards = some []) (hu : X.A.units + 128 < cLine) : CallR X (.builtin "repr") (rRepr K) := by
  subst hK
  intro pins s σ H xs us Q I r h
  obtain ⟨a, p, rfl, hp, h1, h2, h3, h4, h5, q⟩ := h
  obtain ⟨u, rfl, ru⟩ := r.one
  obtain rfl : u = Value.ref a := ru
  obtain ⟨as, rr⟩ := Dp.reads I p (.ref a) (.ref a) hp rfl
  exact repr_of_reads' rr h1 (PyData.noDict_hsm h2) hgd (by omega) (fun b o e => e) (fun h' u tk hk => ⟨.str p.shown, H, I.kept hk, ⟨_, rfl⟩, q⟩) (PyData.shown_fits (by decide) (by decide) h4 h5)
def okRepr (p : PyData) : Bool := p.showable && (!p.hasDict && (decide (p.depth ≤ 64) && (p.leavesShort 13 && decide (p.weight ≤ 2 ^ 20))))
def reprC (ρ : List D) (xs : List D) : Option D := match xs with
  | [d] => match dr ρ d with
    | .tup l => (toPy (.tup l)).bind fun p => if okRepr p = true then some (.str p.shown) else none
    | _ => none
  | _ => none
theorem opc_repr (W : Wd) : OpC W (rRepr W.K) reprC := by
  intro RA ρ B H xs ds d Q b r e h
  unfold reprC at e
  split at e
  · obtain ⟨x, rfl, rx⟩ := one_of r
    split at e
    · rename_i l e1
      obtain ⟨p, e2, e3⟩ := Option.bind_eq_some_iff.mp e
      split at e3
      · rename_i hc
        cases e3
        obtain ⟨a, vs, rfl, ha, la⟩ := view_tup b rx e1
        unfold okRepr at hc
        simp only [Bool.and_eq_true, Bool.not_eq_true', decide_eq_true_eq] at hc
        exact ⟨a, p, rfl, dp_dr b rx (by rw [e1]; exact e2), hc.1, hc.2.1, hc.2.2.1, hc.2.2.2.1, hc.2.2.2.2, fin_flat b (fun _ => rep_str) h⟩
      · cases e3
    · cases e
  · cases e
section
variable {X : Cx} {W : Wd} {Wx : WX} {e : Expr} {es : List Expr} {fa : AF} {pos p : Pos}
theorem x_repr (c : Csu X W) (hgd : X.A.guards = some []) (hm : X.mg "repr" = none) (ha : PA X (e :: es) (tA W Wx fa)) (hg : Gl X "repr" := by rfl) (he : starEach (e :: es) X.env = (false, eval e X.env) :: starEach es X.env := by rfl) (hpl : (backTo pos (starEach es X.env)).any (·.1) = false := by rfl) : PE X (.Call (.Name "repr" p) (e :: es) [] pos) (tE W Wx (callB reprC fa)) := d_callB (callr_repr W.K c.K hgd c.hu) (opc_repr W) hm (by decide +kernel) ha hg (he := he) (hpl := hpl)
end
/-- texts that differ -/
def neSD (ρ : List D) (x y : D) : Option D := match dr ρ x, dr ρ y with
  | .str s, .str t => some (.bl (!decide (s = t)))
  | _, _ => none
theorem op2_nes (W : Wd) : Op2 W rNe neSD := by
  intro RA ρ B H x y d1 d2 d Q b r1 r2 e h
  unfold neSD at e
  split at e
  · rename_i s t e1 e2
    cases e
    rw [view_str b r1 e1, view_str b r2 e2]
    have hd : decide (V.str s = V.str t) = decide (s = t) := by rw [Bool.eq_iff_iff]; simp
    exact ⟨rfl, by rw [hd]; exact fin_flat b (fun _ => rep_bl) h⟩
  · cases e
section
variable {X : Cx} {W : Wd} {Wx : WX} {a b : Expr} {f g : EF} {pos : Pos}
theorem x_nes (c : Csu X W) (ha : PE X a (tE W Wx f)) (hb : PE X b (tE W Wx g)) : PE X (.Compare a [.NotEq] [b] pos) (tE W Wx (bin2 neSD f g)) := pe_cmp2 op_ne (op2_nes W) (nomark _) ha hb
theorem t_nes (c : Csu X W) (ha : PE X a (tE W Wx f)) (hb : PE X b (tE W Wx g)) : PT X (.Compare a [.NotEq] [b] pos) (tT W Wx (tb1 (bin2 neSD f g))) := t_cmp op_ne (op2_nes W) (nomark _) ha hb
end
theorem nes_str {ρ : List D} {s t : Str} : neSD ρ (.str s) (.str t) = some (.bl (!decide (s = t))) := id rfl
/-- the law's def, at the caller's place -/
theorem grd_of {P : Program} {w : World} {K : PySem.W.Frag} {mg : Str → Option Value} {base : Heap} {W : Wd} {T : Nat → Option Fn} {n g : Nat} {x x' qual : Str} {params : Arguments} {body : List Stmt} {scope : Scope} {dvs : List V} {kws : List (Str × V)} {f : Addr} {fd : FuncData} {N : List Str} {F : Fn}
    (hK : W.K = K) (hD : FunD K x qual params body scope dvs kws f fd) (S : FnScope N [x'] scope) (hT : T g = some F) (hnp : F.np = 1) (hnl : F.nl = N.length) (hr : Room (4 * n + 3 + 1) callerA)
    (hrun : ∀ ns : List Int, ns.length ≤ 63 → run T (n + 1) g (fun _ => false) [] [.scr (ns.map .int)] = .ok false (.bl true) [])
    (der : ∀ (cdv : Value) (outer : List PySem.Env) (s : Shared) (H : Hp) (E : XK), Room (4 * n + 3) (callerA.deeper (envOfC qual scope s.heap.objs.size f cdv)) →
      PSsd (cxOf (L2.CX P w) P w K mg base N qual scope f cdv callerA outer s H E) W (fun cls dx _ H' => E cls dx H') body (F.body (run T n)))
    (hb : ∀ (s : Shared) (u : Value), BindsTo s fd ⟨[u], []⟩ [(x', u)]) {H : Hp} {s : Shared} {a : Addr} {ns : List Int} (hn : ns.length ≤ 63) (e0 : Env0 P w K mg base callerA [] s H) (hS : SqL K H a (ns.map V.int)) :
    codeAny (model P w) callerA (.call (.ref f) ⟨[.ref a], []⟩) (CR (L2.CX P w) [] P w H s (fun v _ => v = .bl true) fun _ _ _ => False) s := by
  obtain ⟨oc, od, dV, kV, doc, pm, an, cdv, ct, osl, rfl, lk, hcd, _, _⟩ := hD.ex
  have hl : ([.scr (ns.map .int)] : List D).length = F.np := hnp.symm
  have h := hrun ns hn
  simp only [run, hT, if_pos hl] at h
  have b : Base W [] [] H H := ⟨Ex.refl H, rfl, .nil, fun a h => (List.not_mem_nil h).elim, fun r a d h => by simp at h⟩
  have rp : RepL W [] H [.scr (ns.map .int)] [.ref a] := .cons (by simp only [Rep]; exact ⟨a, _, rfl, by rw [hK]; exact hS, repL_ints' _ _ _ ns⟩) .nil
  have hd : RDone W (fun _ => false) [] [] H H (fun v _ => v = .bl true) (fun _ _ _ => False) (.ok false (.bl true) []) := by
    intro v B' H' gg r
    simpa only [ResAt, Bool.false_eq_true, if_false, Rep] using r
  rw [← h] at hd
  refine def_at (us := [.ref a]) (vs := [.ref a]) lk hcd S rfl hr e0 (hb s (.ref a)) (.cons rfl .nil) (der cdv [] s H _ (hr.deeper _) (fun r => (fun _ => false) r || decide (([] : List D).length ≤ r))) ⟨[], [], [some (.scr (ns.map .int))] ++ List.replicate (F.nl - F.np) none, H, b, ?_, fin_ok b hd⟩
  have := loc_start (N := N) rp
  rw [hnp, hnl]
  exact this
/-- the walk, from the law's run at the caller's place -/
theorem walk_grd {l : PySem.W.OpenLaw} {n : Nat} {q : Program} {loose : List Str} {XP : (Str → Option Value) → Heap → Prop} {YP : World → Heap → Prop} {d : DefRec} {K : Params → PySem.W.Frag} {CX : World → CXT} (hn : l.most = some n) (hdf : d.params.defaults = []) (hn2 : n ≤ sizeLine)
    (F : ∀ (w : World) (mg : Str → Option Value) (fa : Addr) (h : Heap), (K w.params).In h → h.Ns mainGlobals mg → mg d.name = some (.ref fa) → ∀ (base : Heap) (H : Hp) (s : Shared) (a : Addr) (ns : List Int), ns.length ≤ n → (K w.params).In base → base.Ns mainGlobals mg →
      Env0 l.prog w (K w.params) mg base callerA [] s H → SqL (K w.params) H a (ns.map V.int) → codeAny (model l.prog w) callerA (.call (.ref fa) ⟨[.ref a], []⟩) (CR (CX w) [] l.prog w H s (fun v _ => v = .bl true) fun _ _ _ => False) s)
    (hCX : ∀ (w : World) (H : Hp) (s : Shared) (e : Value) (s' : Shared), CX w [] H s (fun _ _ _ => False) e s' → False) (hY : ∀ (w : World) (h : Heap), YP w h → (K w.params).In h) :
    PySem.W.WalkO q loose XP YP l.row.toRowW d [] (fun f vs => PySem.call f vs) := by
  refine Att.attach_call hn hdf ?_
  intro w s₀ s₁ mg mb fa o pm cd doc a vs ns G Y ho hd hcd hmg hobj hints hlen hg
  have iK := hY w _ Y
  exact law_grd hobj hints (Nat.le_trans hlen hn2) iK G.T.g hg G.T.nolimit G.T.b G.T.builtins (fun base H i1 i2 e0 hS => F w mg fa _ iK G.T.g hmg base H s₁ a ns hlen i1 i2 e0 hS) fun H e s' z => hCX w H s₁ e s' z

/-! ### repr by equations -/
theorem repr_ap {ρ : List D} {l : List D} : reprC ρ [.tup l] = (toPy (.tup l)).bind fun p => if okRepr p = true then some (.str p.shown) else none := id rfl
/-- small data -/
structure Sm (p : PyData) (d w : Nat) : Prop where
  sh : p.showable = true
  nd : p.hasDict = false
  dp : p.depth ≤ d
  lf : p.leavesShort 13 = true
  wt : p.weight ≤ w
theorem Sm.ok {p : PyData} {d w : Nat} (h : Sm p d w) (hd : d ≤ 64) (hw : w ≤ 2 ^ 20) : okRepr p = true := by
  unfold okRepr
  simp only [h.sh, h.nd, h.lf, Bool.not_false, Bool.true_and, Bool.and_eq_true, decide_eq_true_eq]
  exact ⟨Nat.le_trans h.dp hd, Nat.le_trans h.wt hw⟩
theorem Sm.mono {p : PyData} {d w d' w' : Nat} (h : Sm p d w) (hd : d ≤ d') (hw : w ≤ w') : Sm p d' w' := ⟨h.sh, h.nd, Nat.le_trans h.dp hd, h.lf, Nat.le_trans h.wt hw⟩
theorem sm_int {i : Int} (h : i.natAbs < 2 ^ 20) : Sm (.int i) 0 20 := by
  have hl : i.natAbs.log2 < 20 ∨ i.natAbs = 0 := by
    by_cases h0 : i.natAbs = 0
    · exact .inr h0
    · exact .inl ((Nat.log2_lt h0).mpr h)
  refine ⟨?_, rfl, by simp [PyData.depth], ?_, ?_⟩
  · simp only [PyData.showable, decide_eq_true_eq]
    rcases hl with hl | hl
    · omega
    · rw [hl]; decide
  · simp only [PyData.leavesShort, decide_eq_true_eq]
    exact PyData.shown_int_le (by omega)
  · simp only [PyData.weight]
    split
    · omega
    · rcases hl with hl | hl
      · omega
      · rename_i hz
        exact absurd (by simpa using (show i = 0 by omega)) hz
theorem sm_str {s : Str} {w : Nat} (h : sOk s) (hl : s.length ≤ w) : Sm (.str s) 0 w := by
  refine ⟨rfl, rfl, by simp [PyData.depth], ?_, hl⟩
  simp only [PyData.leavesShort, List.all_eq_true, decide_eq_true_eq]
  intro c hc
  unfold sOk PyData.strOk at h
  rw [← Array.all_toList, List.all_eq_true] at h
  have := h c hc
  simp only [decide_eq_true_eq] at this
  omega
theorem smAll {d w : Nat} : ∀ {ps : List PyData}, (∀ p ∈ ps, Sm p d w) → PyData.showableAll ps = true ∧ PyData.hasDictAll ps = false ∧ PyData.depthAll ps ≤ d ∧ PyData.leavesShortAll 13 ps = true ∧ PyData.weightAll ps ≤ ps.length * (w + 1)
  | [], _ => by simp [PyData.showableAll, PyData.hasDictAll, PyData.depthAll, PyData.leavesShortAll, PyData.weightAll]
  | p :: ps, h => by
    obtain ⟨h1, h2, h3, h4, h5⟩ := smAll fun q hq => h q (List.mem_cons_of_mem _ hq)
    have hp := h p (List.mem_cons_self ..)
    refine ⟨?_, ?_, ?_, ?_, ?_⟩
    · simp only [PyData.showableAll, hp.sh, h1, Bool.and_self]
    · simp only [PyData.hasDictAll, hp.nd, h2, Bool.or_self]
    · simp only [PyData.depthAll]; have := hp.dp; omega
    · simp only [PyData.leavesShortAll, hp.lf, h4, Bool.and_self]
    · simp only [PyData.weightAll, List.length_cons, Nat.add_mul, Nat.one_mul]; have := hp.wt; omega
theorem sm_tup {ps : List PyData} {d w : Nat} (h : ∀ p ∈ ps, Sm p d w) : Sm (.tuple ps) (d + 1) (ps.length * (w + 1)) := by
  obtain ⟨h1, h2, h3, h4, h5⟩ := smAll h
  exact ⟨by simpa only [PyData.showable] using h1, by simpa only [PyData.hasDict] using h2, by simp only [PyData.depth]; omega, by simpa only [PyData.leavesShort] using h4, by simpa only [PyData.weight] using h5⟩
end Dd

set_option Elab.async false
set_option linter.all false
set_option maxRecDepth 100000
set_option maxHeartbeats 4000000
namespace Toy
open PySem PySem.Spec PyProof.Rows L2 Evl OwnO My NdefX Dd
local macro_rules
  | `(tactic| walk_at "ds") => `(tactic| first
  | assumption
  | (simp only [List.length_append, List.length_cons, List.length_nil, List.length_map, List.length_replicate, List.length_range, List.length_take, List.length_drop]; omega)
  | omega
  | decide +kernel)
local macro_rules
  | `(tactic| walk_at "dd") => `(tactic| simp (disch := walk_at "ds") only [rep_0, rep_s, get_0, get_s, set_0, set_s, app_n, app_c, map_n, map_c, wipe_n, wipe_c, rb_ok, rb_exc, ofO_some, rd_some, varS_ap, conS_ap, nilA_ap, consA_ap, consR_ok, consR_exc, consR_exc0, items_ap, items_lst, items_tup, items_scr, starA_ap, starR_ok, tupS_ap, tupR_ok, lstS_ap, lstR_ok, andS_ap, andR_t, andR_f, orS_ap, orR_t, orR_f, notS_ap, testS_ap, truR_bl, truR_int, ifS_ap, ifR_t, ifR_f, andT_ap, andW_t, andW_f, orT_ap, orW_t, orW_f, notT_ap, yesT_ap, tb1_ap, blR_bl, bin2_ap, b2R_ok, un1_ap, callB_ap, cbR_ok, chainS_ap, noP_ap, someP_ap, intR_ok, slS_ap, slR_ok, slD_ap, slQ_lst, slQ_tup, methS_ap, meR_ok, callS_ap, calR_ok, cal1_ok, cal1_exc, lcS_ap, lcR_ok, lcQ_ok, lcL_nil, lcL_yes, lcY_ok, lcZ_ok, itI_ap, itR_lst, itR_scr, itR_tup, itR_str, rng1I_ap, rn1R_ok, rng3I_ap, rn3R_up, zipI_ap, zpR_lst, zpR_tup, nameG_ap, nilG_ap, consG_ap, cgR_ok, tupG_2, tupG_3, seqS_ap, sqR_nx, sqR_ret, sqR_exc, passS_ap, retS_ap, retF_ap, reR_ok, reR_exc, asgS_ap, asR_ok, asR_exc, agR_ok, ownS_ap, owR_ok, iffS_ap, ifO_t, ifO_f, ifO_exc, expS_ap, exR_ok, exR_exc, forS_ap, foR_ok, forL_nil, forL_cons, flA_ok, flB_nx, appS_ap, apR_last, raiS_ap, rai1S_ap, raR_int, tryS_ap, trR_nx, trR_ret, trR_exc, starS_ap, stR_1, dr_int, dr_str, dr_bl, dr_non, dr_tup, dr_lst, dr_scr, dr_wd, dr_exn, dr_lstR, addD_ap, addQ_int, addQ_str, addQ_lst, addQ_tup, subD_int, negD_int, mulD_int, mulD_lst, fdivD_int, modD_int, powD_int, ltD_int, leD_int, gtD_int, geD_int, isn_lst, isn_non, eqB_str, eqB_int, eqD_ap, neD_ap, inB_wd, inB_chr, inD_ap, ninD_ap, omap_some, look_n, look_c, ixD_ap, ixQ_lst, ixQ_tup, ixQ_scr, ixQ_wd, ixQ_str, at_0, at_m1, at_m1c, at_p, rg2S_ap, r2R_ok, rg1S_ap, r1R_ok, rgD_ok', cut_m1, cut_pos, cut_posf, drop_0, drop_s, take_0, take_s, take_n, dl_1, dl_c, flat_rep, eq_self, Int.cast_ofNat_Int, lenD_ap, lenQ_lst, lenQ_scr, lenQ_tup, lenQ_str, intC_int, strC_str, strC_int, listC_lst, listC_tup, tupleC_lst, tupleC_tup, joinM_ap, splitM_ok, ofString_inj, List.length_cons, List.length_nil, List.length_append, List.length_map, Int.reduceNeg, Int.reduceAdd, Int.reduceSub, Int.reduceMul, Int.reduceMod, Int.reducePow, Int.reduceDiv, Int.reduceLE, Int.reduceLT, Int.reduceEq, Int.reduceToNat, Nat.reduceAdd, Nat.reduceSub, Nat.reduceLeDiff, Nat.reduceEqDiff, String.reduceEq, decide_true, decide_false, Bool.not_true, Bool.not_false, Bool.and_true, Bool.true_and, Bool.and_false, Bool.false_and, Bool.or_true, Bool.or_false, Bool.true_or, Bool.false_or, Option.isSome_some, Option.isSome_none, if_true, if_false, Bool.false_eq_true, Int.reduceBNe])
def topS (i : Nat) : Stmt := PySem.Challenge.pw_cutproof_k15_step_lines.main.body.getD i (.Pass ⟨0, 0, 0, 0⟩)
abbrev s_words_of : Stmt := topS 8
abbrev N_words_of : List Str := ["part", "inner", "word"]
theorem sc_words_of : FnScope N_words_of ["part"] (defScope s_words_of) := ⟨rfl, rfl, rfl, by decide +kernel, rfl, by decide +kernel, by decide +kernel⟩
abbrev s_format_step : Stmt := topS 9
abbrev N_format_step : List Str := ["step"]
theorem sc_format_step : FnScope N_format_step ["step"] (defScope s_format_step) := ⟨rfl, rfl, rfl, by decide +kernel, rfl, by decide +kernel, by decide +kernel⟩
abbrev s_is_number : Stmt := topS 10
abbrev N_is_number : List Str := ["token", "sign"]
theorem sc_is_number : FnScope N_is_number ["token"] (defScope s_is_number) := ⟨rfl, rfl, rfl, by decide +kernel, rfl, by decide +kernel, by decide +kernel⟩
abbrev s_token_roles : Stmt := topS 11
abbrev N_token_roles : List Str := ["kind", "many", "roles", "rest", "fits"]
theorem sc_token_roles : FnScope N_token_roles ["kind", "many"] (defScope s_token_roles) := ⟨rfl, rfl, rfl, by decide +kernel, rfl, by decide +kernel, by decide +kernel⟩
abbrev s_is_well_formed : Stmt := topS 12
abbrev N_is_well_formed : List Str := ["kind", "tokens", "roles", "role", "token"]
theorem sc_is_well_formed : FnScope N_is_well_formed ["kind", "tokens"] (defScope s_is_well_formed) := ⟨rfl, rfl, rfl, by decide +kernel, rfl, by decide +kernel, by decide +kernel⟩
abbrev s_parse_step : Stmt := topS 13
abbrev N_parse_step : List Str := ["line", "number", "kind", "tokens", "roles", "parts", "tests", "role", "token", "at"]
theorem sc_parse_step : FnScope N_parse_step ["line", "number"] (defScope s_parse_step) := ⟨rfl, rfl, rfl, by decide +kernel, rfl, by decide +kernel, by decide +kernel⟩
abbrev s__law_draws : Stmt := topS 15
abbrev N__law_draws : List Str := ["_law_script", "_law_at", "_law_many", "_law_cell", "_law_left", "_law_out", "_law_k", "_law_one"]
theorem sc__law_draws : FnScope N__law_draws ["_law_script", "_law_at", "_law_many"] (defScope s__law_draws) := ⟨rfl, rfl, rfl, by decide +kernel, rfl, by decide +kernel, by decide +kernel⟩
abbrev s__law_token : Stmt := topS 16
abbrev N__law_token : List Str := ["_law_one", "_law_two", "_law_three", "_law_signs", "_law_k"]
theorem sc__law_token : FnScope N__law_token ["_law_one", "_law_two", "_law_three"] (defScope s__law_token) := ⟨rfl, rfl, rfl, by decide +kernel, rfl, by decide +kernel, by decide +kernel⟩
abbrev s__law_any_step : Stmt := topS 17
abbrev N__law_any_step : List Str := ["_law_d", "_law_one", "_law_two", "_law_kind", "_law_tests", "_law_span", "_law_k"]
theorem sc__law_any_step : FnScope N__law_any_step ["_law_d"] (defScope s__law_any_step) := ⟨rfl, rfl, rfl, by decide +kernel, rfl, by decide +kernel, by decide +kernel⟩
abbrev s__law_line : Stmt := topS 18
abbrev N__law_line : List Str := ["_law_step", "_law_words", "_law_last", "_law_test", "_law_part", "_law_column"]
theorem sc__law_line : FnScope N__law_line ["_law_step"] (defScope s__law_line) := ⟨rfl, rfl, rfl, by decide +kernel, rfl, by decide +kernel, by decide +kernel⟩
abbrev s_law : Stmt := topS 19
abbrev N_law : List Str := ["_law_script", "_law_k", "_law_step", "_law_line_here", "_law_told"]
theorem sc_law : FnScope N_law ["_law_script"] (defScope s_law) := ⟨rfl, rfl, rfl, by decide +kernel, rfl, by decide +kernel, by decide +kernel⟩
abbrev s_BadLine___init__ : Stmt := inClass (topS 2) 0
abbrev CFz : Nat → List Str := fun c => match c with | 0 => [] | 1 => ["number"] | _ => []
abbrev iscz : Nat → Bool := fun c => match c with | 0 => false | 1 => false | _ => false
abbrev isez : Nat → Bool := fun c => match c with | 0 => true | 1 => true | _ => false
abbrev subz : Nat → Nat → Bool := fun a b => (a == 0 && b == 0) || (a == 1 && b == 0) || (a == 1 && b == 1)
abbrev Wz (K : PySem.W.Frag) (w : World) (C_CutError C_BadLine : Addr) : Wd := { K := K, w := w, CA := fun c => match c with | 0 => C_CutError | 1 => C_BadLine | _ => 0, CF := CFz, isc := iscz, ise := isez, sub := subz }
def v_DIGITS : D := (.str "0123456789")
def v_KINDS : D := (.wd ["table", "same", "is", "when", "clip", "pair", "union", "keep"] [(.tup [(.str "name"), (.str "size")]), (.tup [(.str "step"), (.str "column"), (.str "column")]), (.tup [(.str "step"), (.str "column"), (.str "word")]), (.tup [(.str "step"), (.str "end"), (.str "operator"), (.str "mark")]), (.tup [(.str "step"), (.str "mark"), (.str "mark")]), (.tup [(.str "step"), (.str "step"), (.str "span"), (.str "tests")]), (.tup [(.str "step"), (.str "step")]), (.tup [(.str "step"), (.str "columns")])])
def v_TEST : D := (.tup [(.str "end"), (.str "operator"), (.str "end")])
def v_NUMBERS : D := (.tup [(.str "step"), (.str "column"), (.str "mark"), (.str "size")])
def B_words_of (cl : Orc) : SF := (seqS (iffS (testS (callB (isiC iscz) (consA (varS 0) (consA (conS (.ty .tuple)) nilA)))) (retS (lc2S (itI (varS 0)) (nameG 1) yesT (itI (callS cl 0 [] (consA (varS 1) nilA))) (nameG 2) yesT (varS 2) [1, 2] [2])) passS)
    (retS (lstS (consA (callB strC (consA (varS 0) nilA)) nilA))))
def B_format_step (cl : Orc) : SF := (retS (methS joinM (conS (.str " ")) (consA (callS cl 0 [] (consA (varS 0) nilA)) nilA)))
def B_is_number (cl : Orc) : SF := (seqS (iffS (tb1 (bin2 eqD (varS 0) (conS (.str "0")))) (retS (conS (.bl true))) passS)
    (retS (andS (chainS leD leD (conS (.int 1)) (callB lenD (consA (varS 0) nilA)) (conS (.int 2))) (andS (bin2 neD (bin2 ixD (varS 0) (conS (.int 0))) (conS (.str "0"))) (callB allC (consA (lcS (itI (varS 0)) (nameG 1) yesT (bin2 inD (varS 1) (conS v_DIGITS)) [1]) nilA))))))
def B_token_roles (cl : Orc) : SF := (seqS (ownS 2 (callB listC (consA (bin2 ixD (conS v_KINDS) (varS 0)) nilA)))
    (seqS (asgS (bin2 addD (bin2 subD (varS 1) (callB lenD (consA (varS 2) nilA))) (conS (.int 1))) (nameG 3))
    (seqS (iffS (tb1 (bin2 eqD (bin2 ixD (varS 2) (un1 negD (conS (.int 1)))) (conS (.str "tests")))) (seqS (asgS (andS (bin2 geD (varS 3) (conS (.int 0))) (bin2 eqD (bin2 modD (varS 3) (callB lenD (consA (conS v_TEST) nilA))) (conS (.int 0)))) (nameG 4))
    (retS (ifS (testS (varS 4)) (bin2 addD (slS (varS 2) noP (someP (un1 negD (conS (.int 1))))) (bin2 mulD (lstS (consA (conS (.str "test")) nilA)) (varS 3))) (conS .non)))) passS)
    (seqS (iffS (tb1 (bin2 eqD (bin2 ixD (varS 2) (un1 negD (conS (.int 1)))) (conS (.str "columns")))) (retS (ifS (tb1 (bin2 geD (varS 3) (conS (.int 1)))) (bin2 addD (slS (varS 2) noP (someP (un1 negD (conS (.int 1))))) (bin2 mulD (lstS (consA (conS (.str "column")) nilA)) (varS 3))) (conS .non))) passS)
    (retS (ifS (tb1 (bin2 eqD (varS 3) (conS (.int 1)))) (varS 2) (conS .non)))))))
def B_is_well_formed (cl : Orc) : SF := (seqS (iffS (orT (tb1 (bin2 ninD (varS 0) (conS v_KINDS))) (tb1 (bin2 inD (conS (.str "")) (varS 1)))) (retS (conS (.bl false))) passS)
    (seqS (asgS (callS cl 3 [] (consA (varS 0) (consA (callB lenD (consA (varS 1) nilA)) nilA))) (nameG 2))
    (seqS (iffS (tb1 (bin2 isnD (varS 2) (conS .non))) (retS (conS (.bl false))) passS)
    (retS (callB allC (consA (lcS (zipI (varS 2) (varS 1)) (tupG 2 (consG (nameG 3) (consG (nameG 4) nilG))) yesT (orS (bin2 ninD (varS 3) (conS v_NUMBERS)) (callS cl 2 [] (consA (varS 4) nilA))) [3, 4]) nilA))))))
def B_parse_step (cl : Orc) : SF := (seqS (starS 1 (methS splitM (varS 0) (consA (conS (.str " ")) nilA)) (consG (nameG 2) (consG (nameG 3) nilG)))
    (seqS (iffS (notT (testS (callS cl 4 [] (consA (varS 2) (consA (varS 3) nilA))))) (rai1S 1 (callB intC (consA (varS 1) nilA))) passS)
    (seqS (asgS (callS cl 3 [] (consA (varS 2) (consA (callB lenD (consA (varS 3) nilA)) nilA))) (nameG 4))
    (seqS (asgS (lcS (zipI (varS 4) (varS 3)) (tupG 2 (consG (nameG 7) (consG (nameG 8) nilG))) yesT (ifS (tb1 (bin2 inD (varS 7) (conS v_NUMBERS))) (callB intC (consA (varS 8) nilA)) (varS 8)) [7, 8]) (nameG 5))
    (seqS (iffS (tb1 (bin2 eqD (varS 2) (conS (.str "pair")))) (seqS (asgS (lcS (rng3I (conS (.int 3)) (callB lenD (consA (varS 5) nilA)) (callB lenD (consA (conS v_TEST) nilA))) (nameG 9) yesT (callB tupleC (consA (slS (varS 5) (someP (varS 9)) (someP (bin2 addD (varS 9) (callB lenD (consA (conS v_TEST) nilA))))) nilA)) [9]) (nameG 6))
    (retS (tupS (consA (varS 2) (starA (slS (varS 5) noP (someP (conS (.int 3)))) (consA (callB tupleC (consA (varS 6) nilA)) nilA)))))) passS)
    (seqS (iffS (tb1 (bin2 eqD (varS 2) (conS (.str "keep")))) (retS (tupS (consA (varS 2) (consA (bin2 ixD (varS 5) (conS (.int 0))) (consA (callB tupleC (consA (slS (varS 5) (someP (conS (.int 1))) noP) nilA)) nilA))))) passS)
    (retS (tupS (consA (varS 2) (starA (varS 5) nilA))))))))))
def B__law_draws (cl : Orc) : SF := (seqS (asgS (ifS (tb1 (bin2 ltD (varS 1) (callB lenD (consA (varS 0) nilA)))) (callB intC (consA (bin2 ixD (varS 0) (varS 1)) nilA)) (conS (.int 0))) (nameG 3))
    (seqS (asgS (ifS (tb1 (bin2 geD (varS 3) (bin2 powD (conS (.int 10)) (conS (.int 18))))) (varS 3) (conS (.int 0))) (nameG 4))
    (seqS (ownS 5 (lstS nilA))
    (seqS (forS (rng1I (varS 2)) (nameG 6) (iffS (tb1 (bin2 gtD (varS 4) (conS (.int 0)))) (seqS (appS (varS 5) (bin2 modD (callB intC (consA (varS 4) nilA)) (conS (.int 100))))
    (asgS (bin2 fdivD (varS 4) (conS (.int 100))) (nameG 4))) (seqS (asgS (bin2 modD (callB intC (consA (bin2 addD (bin2 addD (bin2 addD (bin2 mulD (conS (.int 7)) (varS 3)) (bin2 mulD (conS (.int 203)) (varS 1))) (bin2 mulD (conS (.int 13)) (varS 6))) (conS (.int 5))) nilA)) (conS (.int 101))) (nameG 7))
    (appS (varS 5) (bin2 modD (callB intC (consA (bin2 addD (bin2 addD (bin2 addD (bin2 mulD (bin2 mulD (varS 7) (varS 7)) (varS 7)) (bin2 mulD (conS (.int 29)) (varS 1))) (bin2 mulD (conS (.int 3)) (varS 6))) (varS 3)) nilA)) (conS (.int 97)))))))
    (retS (varS 5))))))
def B__law_token (cl : Orc) : SF := (seqS (asgS (conS (.str "!\"#$&'()*+,-./0123456789:;<=>?@ABCDEFGHIJKLMNOPQRSTUVWXYZ[\\]^_`abcdefghijklmnopqrstuvwxyz{|}~")) (nameG 3))
    (retS (methS joinM (conS (.str "")) (consA (lcS (rng1I (bin2 addD (conS (.int 1)) (bin2 modD (callB intC (consA (varS 2) nilA)) (conS (.int 12))))) (nameG 4) yesT (bin2 ixD (varS 3) (bin2 modD (callB intC (consA (bin2 addD (varS 0) (bin2 mulD (bin2 mulD (conS (.int 7)) (varS 4)) (varS 1))) nilA)) (conS (.int 93)))) [4]) nilA))))
def B__law_any_step (cl : Orc) : SF := (seqS (asgS (callS cl 7 [] (consA (bin2 ixD (varS 0) (conS (.int 5))) (consA (bin2 ixD (varS 0) (conS (.int 6))) (consA (bin2 ixD (varS 0) (conS (.int 7))) nilA)))) (nameG 1))
    (seqS (asgS (callS cl 7 [] (consA (bin2 ixD (varS 0) (conS (.int 6))) (consA (bin2 ixD (varS 0) (conS (.int 7))) (consA (bin2 ixD (varS 0) (conS (.int 8))) nilA)))) (nameG 2))
    (seqS (asgS (bin2 modD (bin2 ixD (varS 0) (conS (.int 0))) (conS (.int 8))) (nameG 3))
    (seqS (iffS (tb1 (bin2 eqD (varS 3) (conS (.int 0)))) (retS (tupS (consA (conS (.str "table")) (consA (varS 1) (consA (bin2 ixD (varS 0) (conS (.int 1))) nilA))))) passS)
    (seqS (iffS (tb1 (bin2 eqD (varS 3) (conS (.int 1)))) (retS (tupS (consA (conS (.str "same")) (consA (bin2 ixD (varS 0) (conS (.int 1))) (consA (bin2 ixD (varS 0) (conS (.int 2))) (consA (bin2 ixD (varS 0) (conS (.int 3))) nilA)))))) passS)
    (seqS (iffS (tb1 (bin2 eqD (varS 3) (conS (.int 2)))) (retS (tupS (consA (conS (.str "is")) (consA (bin2 ixD (varS 0) (conS (.int 1))) (consA (bin2 ixD (varS 0) (conS (.int 2))) (consA (varS 1) nilA)))))) passS)
    (seqS (iffS (tb1 (bin2 eqD (varS 3) (conS (.int 3)))) (retS (tupS (consA (conS (.str "when")) (consA (bin2 ixD (varS 0) (conS (.int 1))) (consA (bin2 ixD (lstS (consA (conS (.str "start")) (consA (conS (.str "stop")) (consA (varS 1) nilA)))) (bin2 modD (bin2 ixD (varS 0) (conS (.int 2))) (conS (.int 3)))) (consA (bin2 ixD (lstS (consA (conS (.str "<")) (consA (conS (.str "<=")) (consA (conS (.str "=")) (consA (conS (.str ">=")) (consA (conS (.str ">")) (consA (varS 2) nilA))))))) (bin2 modD (bin2 ixD (varS 0) (conS (.int 3))) (conS (.int 6)))) (consA (bin2 ixD (varS 0) (conS (.int 4))) nilA))))))) passS)
    (seqS (iffS (tb1 (bin2 eqD (varS 3) (conS (.int 4)))) (retS (tupS (consA (conS (.str "clip")) (consA (bin2 ixD (varS 0) (conS (.int 1))) (consA (bin2 ixD (varS 0) (conS (.int 2))) (consA (bin2 ixD (varS 0) (conS (.int 3))) nilA)))))) passS)
    (seqS (iffS (tb1 (bin2 eqD (varS 3) (conS (.int 5)))) (seqS (asgS (lstS (consA (tupS (consA (conS (.str "start")) (consA (conS (.str "<")) (consA (conS (.str "stop")) nilA)))) (consA (tupS (consA (varS 2) (consA (varS 1) (consA (varS 2) nilA)))) (consA (tupS (consA (conS (.str "stop")) (consA (conS (.str ">=")) (consA (conS (.str "start")) nilA)))) (consA (tupS (consA (varS 1) (consA (conS (.str "=")) (consA (conS (.str "start")) nilA)))) (consA (tupS (consA (varS 2) (consA (varS 2) (consA (varS 1) nilA)))) nilA)))))) (nameG 4))
    (seqS (asgS (bin2 ixD (lstS (consA (conS (.str "meet")) (consA (conS (.str "hull")) (consA (conS (.str "left")) (consA (conS (.str "right")) (consA (conS (.str "gap")) (consA (varS 1) nilA))))))) (bin2 modD (bin2 ixD (varS 0) (conS (.int 3))) (conS (.int 6)))) (nameG 5))
    (retS (tupS (consA (conS (.str "pair")) (consA (bin2 ixD (varS 0) (conS (.int 1))) (consA (bin2 ixD (varS 0) (conS (.int 2))) (consA (varS 5) (consA (callB tupleC (consA (slS (varS 4) noP (someP (bin2 modD (bin2 ixD (varS 0) (conS (.int 4))) (conS (.int 6))))) nilA)) nilA))))))))) passS)
    (seqS (iffS (tb1 (bin2 eqD (varS 3) (conS (.int 6)))) (retS (tupS (consA (conS (.str "union")) (consA (bin2 ixD (varS 0) (conS (.int 1))) (consA (bin2 ixD (varS 0) (conS (.int 2))) nilA))))) passS)
    (retS (tupS (consA (conS (.str "keep")) (consA (bin2 ixD (varS 0) (conS (.int 1))) (consA (callB tupleC (consA (lcS (rng1I (bin2 addD (conS (.int 1)) (bin2 modD (bin2 ixD (varS 0) (conS (.int 4))) (conS (.int 9))))) (nameG 6) yesT (bin2 modD (callB intC (consA (bin2 addD (bin2 ixD (varS 0) (conS (.int 2))) (bin2 mulD (varS 6) (bin2 ixD (varS 0) (conS (.int 3))))) nilA)) (conS (.int 100))) [6]) nilA)) nilA)))))))))))))))
def B__law_line (cl : Orc) : SF := (seqS (ownS 1 (lcS (itI (slS (varS 0) noP (someP (bin2 subD (callB lenD (consA (varS 0) nilA)) (conS (.int 1)))))) (nameG 4) yesT (callB strC (consA (varS 4) nilA)) [4]))
    (seqS (asgS (bin2 ixD (varS 0) (bin2 subD (callB lenD (consA (varS 0) nilA)) (conS (.int 1)))) (nameG 2))
    (seqS (iffS (tb1 (bin2 eqD (bin2 ixD (varS 0) (conS (.int 0))) (conS (.str "keep")))) (asgS (bin2 addD (varS 1) (lcS (itI (varS 2)) (nameG 5) yesT (callB strC (consA (varS 5) nilA)) [5])) (nameG 1)) (iffS (tb1 (bin2 eqD (bin2 ixD (varS 0) (conS (.int 0))) (conS (.str "pair")))) (forS (itI (varS 2)) (nameG 3) (asgS (bin2 addD (varS 1) (lstS (consA (bin2 ixD (varS 3) (conS (.int 0))) (consA (bin2 ixD (varS 3) (conS (.int 1))) (consA (bin2 ixD (varS 3) (conS (.int 2))) nilA))))) (nameG 1))) (appS (varS 1) (callB strC (consA (varS 2) nilA)))))
    (retS (methS joinM (conS (.str " ")) (consA (varS 1) nilA))))))
def B_law (cl : Orc) : SF := (seqS (forS (rng1I (conS (.int 3))) (nameG 1) (seqS (asgS (callS cl 8 [] (consA (callS cl 6 [] (consA (varS 0) (consA (varS 1) (consA (conS (.int 9)) nilA)))) nilA)) (nameG 2))
    (seqS (asgS (callS cl 1 [] (consA (varS 2) nilA)) (nameG 3))
    (seqS (iffS (orT (notT (testS (callB (isiC iscz) (consA (varS 3) (consA (conS (.ty .str)) nilA))))) (tb1 (bin2 neD (varS 3) (callS cl 9 [] (consA (varS 2) nilA))))) (retS (conS (.bl false))) passS)
    (forS (itI (lstS (consA (callS cl 5 [(.int 1)] (consA (varS 3) nilA)) (consA (callS cl 5 [] (consA (varS 3) (consA (bin2 addD (conS (.int 7)) (varS 1)) nilA))) (consA (callS cl 5 [(.int 1)] (consA (varS 3) nilA)) nilA))))) (nameG 4) (iffS (orT (notT (testS (callB (isiC iscz) (consA (varS 4) (consA (conS (.ty .tuple)) nilA))))) (tb1 (bin2 neSD (callB reprC (consA (varS 4) nilA)) (callB reprC (consA (varS 2) nilA))))) (retS (conS (.bl false))) passS))))))
    (retS (conS (.bl true))))
def Tb : Nat → Option Fn := fun g => match g with
  | 0 => some ⟨1, 3, B_words_of⟩
  | 1 => some ⟨1, 1, B_format_step⟩
  | 2 => some ⟨1, 2, B_is_number⟩
  | 3 => some ⟨2, 5, B_token_roles⟩
  | 4 => some ⟨2, 5, B_is_well_formed⟩
  | 5 => some ⟨2, 10, B_parse_step⟩
  | 6 => some ⟨3, 8, B__law_draws⟩
  | 7 => some ⟨3, 5, B__law_token⟩
  | 8 => some ⟨1, 7, B__law_any_step⟩
  | 9 => some ⟨1, 6, B__law_line⟩
  | 10 => some ⟨1, 5, B_law⟩
  | _ => none
def digS : List Nat := ("0123456789" : Str).cps.toList
def isNum (s : Str) : Bool := decide (s = "0") || (decide (1 ≤ (s.length : Int)) && decide ((s.length : Int) ≤ 2) && (!(decide ((⟨#[s.cps.toList.headD 0]⟩ : Str) = "0")) && s.cps.toList.all fun c => decide (c ∈ digS)))
theorem sok_c {s : Str} {c : Nat} (h : sOk s) (hc : c ∈ s.cps.toList) : sOk ⟨#[c]⟩ := by
  unfold sOk PyData.strOk at h ⊢
  rw [← Array.all_toList, List.all_eq_true] at h
  have := h c hc
  simpa using this
theorem r_is_number {n : Nat} {ρ : List D} {s : Str} (hs : sOk s) (hl : s.length ≤ 100000) : run Tb (n + 1) 2 (fun _ => false) ρ [.str s] = .ok false (.bl (isNum s)) ρ := by
  refine run_res 1 2 B_is_number (o := .ret false (.bl (isNum s)) ρ) rfl rfl rfl ?_ (fin_ret0 (by intro r h; cases h) rfl)
  by_cases e : s = "0"
  · have : isNum s = true := by unfold isNum; simp [e]
    rw [this]
    simp (disch := walk_at "ds") only [B_is_number, e, rep_0, rep_s, get_0, get_s, set_0, set_s, app_n, app_c, map_n, map_c, wipe_n, wipe_c, rb_ok, rb_exc, ofO_some, rd_some, varS_ap, conS_ap, nilA_ap, consA_ap, consR_ok, consR_exc, consR_exc0, items_ap, items_lst, items_tup, items_scr, starA_ap, starR_ok, tupS_ap, tupR_ok, lstS_ap, lstR_ok, andS_ap, andR_t, andR_f, orS_ap, orR_t, orR_f, notS_ap, testS_ap, truR_bl, truR_int, ifS_ap, ifR_t, ifR_f, andT_ap, andW_t, andW_f, orT_ap, orW_t, orW_f, notT_ap, yesT_ap, tb1_ap, blR_bl, bin2_ap, b2R_ok, un1_ap, callB_ap, cbR_ok, chainS_ap, noP_ap, someP_ap, intR_ok, slS_ap, slR_ok, slD_ap, slQ_lst, slQ_tup, methS_ap, meR_ok, callS_ap, calR_ok, cal1_ok, cal1_exc, lcS_ap, lcR_ok, lcQ_ok, lcL_nil, lcL_yes, lcY_ok, lcZ_ok, itI_ap, itR_lst, itR_scr, itR_tup, itR_str, rng1I_ap, rn1R_ok, rng3I_ap, rn3R_up, zipI_ap, zpR_lst, zpR_tup, nameG_ap, nilG_ap, consG_ap, cgR_ok, tupG_2, tupG_3, seqS_ap, sqR_nx, sqR_ret, sqR_exc, passS_ap, retS_ap, retF_ap, reR_ok, reR_exc, asgS_ap, asR_ok, asR_exc, agR_ok, ownS_ap, owR_ok, iffS_ap, ifO_t, ifO_f, ifO_exc, expS_ap, exR_ok, exR_exc, forS_ap, foR_ok, forL_nil, forL_cons, flA_ok, flB_nx, appS_ap, apR_last, raiS_ap, rai1S_ap, raR_int, tryS_ap, trR_nx, trR_ret, trR_exc, starS_ap, stR_1, dr_int, dr_str, dr_bl, dr_non, dr_tup, dr_lst, dr_scr, dr_wd, dr_exn, dr_lstR, addD_ap, addQ_int, addQ_str, addQ_lst, addQ_tup, subD_int, negD_int, mulD_int, mulD_lst, fdivD_int, modD_int, powD_int, ltD_int, leD_int, gtD_int, geD_int, isn_lst, isn_non, eqB_str, eqB_int, eqD_ap, neD_ap, inB_wd, inB_chr, inD_ap, ninD_ap, omap_some, look_n, look_c, ixD_ap, ixQ_lst, ixQ_tup, ixQ_scr, ixQ_wd, ixQ_str, at_0, at_m1, at_m1c, at_p, rg2S_ap, r2R_ok, rg1S_ap, r1R_ok, rgD_ok', cut_m1, cut_pos, cut_posf, drop_0, drop_s, take_0, take_s, take_n, dl_1, dl_c, flat_rep, eq_self, Int.cast_ofNat_Int, lenD_ap, lenQ_lst, lenQ_scr, lenQ_tup, lenQ_str, intC_int, strC_str, strC_int, listC_lst, listC_tup, tupleC_lst, tupleC_tup, joinM_ap, splitM_ok, ofString_inj, List.length_cons, List.length_nil, List.length_append, List.length_map, Int.reduceNeg, Int.reduceAdd, Int.reduceSub, Int.reduceMul, Int.reduceMod, Int.reducePow, Int.reduceDiv, Int.reduceLE, Int.reduceLT, Int.reduceEq, Int.reduceToNat, Nat.reduceAdd, Nat.reduceSub, Nat.reduceLeDiff, Nat.reduceEqDiff, String.reduceEq, decide_true, decide_false, Bool.not_true, Bool.not_false, Bool.and_true, Bool.true_and, Bool.and_false, Bool.false_and, Bool.or_true, Bool.or_false, Bool.true_or, Bool.false_or, Option.isSome_some, Option.isSome_none, if_true, if_false, Bool.false_eq_true, Int.reduceBNe]
  · by_cases h1 : (decide (1 ≤ (s.length : Int)) && decide ((s.length : Int) ≤ 2)) = true
    · obtain ⟨c, cs, hc⟩ : ∃ c cs, s.cps.toList = c :: cs := by
        cases h : s.cps.toList with
        | nil =>
          have : s.length = 0 := by show s.cps.size = 0; rw [← Array.length_toList, h]; rfl
          rw [this] at h1; simp at h1
        | cons c cs => exact ⟨c, cs, rfl⟩
      have hk : sOk ⟨#[c]⟩ := sok_c hs (by rw [hc]; simp)
      have hz : isNum s = (!(decide ((⟨#[c]⟩ : Str) = "0")) && s.cps.toList.all fun c => decide (c ∈ digS)) := by
        unfold isNum
        rw [h1, hc]
        simp [e]
      have hall : lcL (nameG 1) yesT (bin2 inD (varS 1) (conS v_DIGITS)) ρ [some (.str s), none] (s.cps.toList.map fun c => .str ⟨#[c]⟩) = .ok (s.cps.toList.map fun c => .bl (decide (c ∈ digS))) := by
        refine lc_map _ fun x hx => ⟨[some (.str s), some (.str ⟨#[x]⟩)], rfl, ?_⟩
        simp (disch := walk_at "ds") only [v_DIGITS, rep_0, rep_s, get_0, get_s, set_0, set_s, app_n, app_c, map_n, map_c, wipe_n, wipe_c, rb_ok, rb_exc, ofO_some, rd_some, varS_ap, conS_ap, nilA_ap, consA_ap, consR_ok, consR_exc, consR_exc0, items_ap, items_lst, items_tup, items_scr, starA_ap, starR_ok, tupS_ap, tupR_ok, lstS_ap, lstR_ok, andS_ap, andR_t, andR_f, orS_ap, orR_t, orR_f, notS_ap, testS_ap, truR_bl, truR_int, ifS_ap, ifR_t, ifR_f, andT_ap, andW_t, andW_f, orT_ap, orW_t, orW_f, notT_ap, yesT_ap, tb1_ap, blR_bl, bin2_ap, b2R_ok, un1_ap, callB_ap, cbR_ok, chainS_ap, noP_ap, someP_ap, intR_ok, slS_ap, slR_ok, slD_ap, slQ_lst, slQ_tup, methS_ap, meR_ok, callS_ap, calR_ok, cal1_ok, cal1_exc, lcS_ap, lcR_ok, lcQ_ok, lcL_nil, lcL_yes, lcY_ok, lcZ_ok, itI_ap, itR_lst, itR_scr, itR_tup, itR_str, rng1I_ap, rn1R_ok, rng3I_ap, rn3R_up, zipI_ap, zpR_lst, zpR_tup, nameG_ap, nilG_ap, consG_ap, cgR_ok, tupG_2, tupG_3, seqS_ap, sqR_nx, sqR_ret, sqR_exc, passS_ap, retS_ap, retF_ap, reR_ok, reR_exc, asgS_ap, asR_ok, asR_exc, agR_ok, ownS_ap, owR_ok, iffS_ap, ifO_t, ifO_f, ifO_exc, expS_ap, exR_ok, exR_exc, forS_ap, foR_ok, forL_nil, forL_cons, flA_ok, flB_nx, appS_ap, apR_last, raiS_ap, rai1S_ap, raR_int, tryS_ap, trR_nx, trR_ret, trR_exc, starS_ap, stR_1, dr_int, dr_str, dr_bl, dr_non, dr_tup, dr_lst, dr_scr, dr_wd, dr_exn, dr_lstR, addD_ap, addQ_int, addQ_str, addQ_lst, addQ_tup, subD_int, negD_int, mulD_int, mulD_lst, fdivD_int, modD_int, powD_int, ltD_int, leD_int, gtD_int, geD_int, isn_lst, isn_non, eqB_str, eqB_int, eqD_ap, neD_ap, inB_wd, inB_chr, inD_ap, ninD_ap, omap_some, look_n, look_c, ixD_ap, ixQ_lst, ixQ_tup, ixQ_scr, ixQ_wd, ixQ_str, at_0, at_m1, at_m1c, at_p, rg2S_ap, r2R_ok, rg1S_ap, r1R_ok, rgD_ok', cut_m1, cut_pos, cut_posf, drop_0, drop_s, take_0, take_s, take_n, dl_1, dl_c, flat_rep, eq_self, Int.cast_ofNat_Int, lenD_ap, lenQ_lst, lenQ_scr, lenQ_tup, lenQ_str, intC_int, strC_str, strC_int, listC_lst, listC_tup, tupleC_lst, tupleC_tup, joinM_ap, splitM_ok, ofString_inj, List.length_cons, List.length_nil, List.length_append, List.length_map, Int.reduceNeg, Int.reduceAdd, Int.reduceSub, Int.reduceMul, Int.reduceMod, Int.reducePow, Int.reduceDiv, Int.reduceLE, Int.reduceLT, Int.reduceEq, Int.reduceToNat, Nat.reduceAdd, Nat.reduceSub, Nat.reduceLeDiff, Nat.reduceEqDiff, String.reduceEq, decide_true, decide_false, Bool.not_true, Bool.not_false, Bool.and_true, Bool.true_and, Bool.and_false, Bool.false_and, Bool.or_true, Bool.or_false, Bool.true_or, Bool.false_or, Option.isSome_some, Option.isSome_none, if_true, if_false, Bool.false_eq_true, Int.reduceBNe]
        rfl
      have hlen : s.cps.toList.length ≤ 100000 := hl
      have hat : atI s.cps.toList 0 = some c := by rw [hc]; exact at_0
      rw [hz]
      have hch : chR leD leD ρ (.ok (.int 1)) (.ok (.int s.length)) (.ok (.int 2)) = .ok (.bl true) := by rw [chR_ok leD_int leD_int, h1]
      by_cases h0 : (⟨#[c]⟩ : Str) = "0"
      · simp (disch := walk_at "ds") only [B_is_number, e, hch, hat, hall, allC_map, h0, rep_0, rep_s, get_0, get_s, set_0, set_s, app_n, app_c, map_n, map_c, wipe_n, wipe_c, rb_ok, rb_exc, ofO_some, rd_some, varS_ap, conS_ap, nilA_ap, consA_ap, consR_ok, consR_exc, consR_exc0, items_ap, items_lst, items_tup, items_scr, starA_ap, starR_ok, tupS_ap, tupR_ok, lstS_ap, lstR_ok, andS_ap, andR_t, andR_f, orS_ap, orR_t, orR_f, notS_ap, testS_ap, truR_bl, truR_int, ifS_ap, ifR_t, ifR_f, andT_ap, andW_t, andW_f, orT_ap, orW_t, orW_f, notT_ap, yesT_ap, tb1_ap, blR_bl, bin2_ap, b2R_ok, un1_ap, callB_ap, cbR_ok, chainS_ap, noP_ap, someP_ap, intR_ok, slS_ap, slR_ok, slD_ap, slQ_lst, slQ_tup, methS_ap, meR_ok, callS_ap, calR_ok, cal1_ok, cal1_exc, lcS_ap, lcR_ok, lcQ_ok, lcL_nil, lcL_yes, lcY_ok, lcZ_ok, itI_ap, itR_lst, itR_scr, itR_tup, itR_str, rng1I_ap, rn1R_ok, rng3I_ap, rn3R_up, zipI_ap, zpR_lst, zpR_tup, nameG_ap, nilG_ap, consG_ap, cgR_ok, tupG_2, tupG_3, seqS_ap, sqR_nx, sqR_ret, sqR_exc, passS_ap, retS_ap, retF_ap, reR_ok, reR_exc, asgS_ap, asR_ok, asR_exc, agR_ok, ownS_ap, owR_ok, iffS_ap, ifO_t, ifO_f, ifO_exc, expS_ap, exR_ok, exR_exc, forS_ap, foR_ok, forL_nil, forL_cons, flA_ok, flB_nx, appS_ap, apR_last, raiS_ap, rai1S_ap, raR_int, tryS_ap, trR_nx, trR_ret, trR_exc, starS_ap, stR_1, dr_int, dr_str, dr_bl, dr_non, dr_tup, dr_lst, dr_scr, dr_wd, dr_exn, dr_lstR, addD_ap, addQ_int, addQ_str, addQ_lst, addQ_tup, subD_int, negD_int, mulD_int, mulD_lst, fdivD_int, modD_int, powD_int, ltD_int, leD_int, gtD_int, geD_int, isn_lst, isn_non, eqB_str, eqB_int, eqD_ap, neD_ap, inB_wd, inB_chr, inD_ap, ninD_ap, omap_some, look_n, look_c, ixD_ap, ixQ_lst, ixQ_tup, ixQ_scr, ixQ_wd, ixQ_str, at_0, at_m1, at_m1c, at_p, rg2S_ap, r2R_ok, rg1S_ap, r1R_ok, rgD_ok', cut_m1, cut_pos, cut_posf, drop_0, drop_s, take_0, take_s, take_n, dl_1, dl_c, flat_rep, eq_self, Int.cast_ofNat_Int, lenD_ap, lenQ_lst, lenQ_scr, lenQ_tup, lenQ_str, intC_int, strC_str, strC_int, listC_lst, listC_tup, tupleC_lst, tupleC_tup, joinM_ap, splitM_ok, ofString_inj, List.length_cons, List.length_nil, List.length_append, List.length_map, Int.reduceNeg, Int.reduceAdd, Int.reduceSub, Int.reduceMul, Int.reduceMod, Int.reducePow, Int.reduceDiv, Int.reduceLE, Int.reduceLT, Int.reduceEq, Int.reduceToNat, Nat.reduceAdd, Nat.reduceSub, Nat.reduceLeDiff, Nat.reduceEqDiff, String.reduceEq, decide_true, decide_false, Bool.not_true, Bool.not_false, Bool.and_true, Bool.true_and, Bool.and_false, Bool.false_and, Bool.or_true, Bool.or_false, Bool.true_or, Bool.false_or, Option.isSome_some, Option.isSome_none, if_true, if_false, Bool.false_eq_true, Int.reduceBNe]
      · simp (disch := walk_at "ds") only [B_is_number, e, hch, hat, hall, allC_map, h0, rep_0, rep_s, get_0, get_s, set_0, set_s, app_n, app_c, map_n, map_c, wipe_n, wipe_c, rb_ok, rb_exc, ofO_some, rd_some, varS_ap, conS_ap, nilA_ap, consA_ap, consR_ok, consR_exc, consR_exc0, items_ap, items_lst, items_tup, items_scr, starA_ap, starR_ok, tupS_ap, tupR_ok, lstS_ap, lstR_ok, andS_ap, andR_t, andR_f, orS_ap, orR_t, orR_f, notS_ap, testS_ap, truR_bl, truR_int, ifS_ap, ifR_t, ifR_f, andT_ap, andW_t, andW_f, orT_ap, orW_t, orW_f, notT_ap, yesT_ap, tb1_ap, blR_bl, bin2_ap, b2R_ok, un1_ap, callB_ap, cbR_ok, chainS_ap, noP_ap, someP_ap, intR_ok, slS_ap, slR_ok, slD_ap, slQ_lst, slQ_tup, methS_ap, meR_ok, callS_ap, calR_ok, cal1_ok, cal1_exc, lcS_ap, lcR_ok, lcQ_ok, lcL_nil, lcL_yes, lcY_ok, lcZ_ok, itI_ap, itR_lst, itR_scr, itR_tup, itR_str, rng1I_ap, rn1R_ok, rng3I_ap, rn3R_up, zipI_ap, zpR_lst, zpR_tup, nameG_ap, nilG_ap, consG_ap, cgR_ok, tupG_2, tupG_3, seqS_ap, sqR_nx, sqR_ret, sqR_exc, passS_ap, retS_ap, retF_ap, reR_ok, reR_exc, asgS_ap, asR_ok, asR_exc, agR_ok, ownS_ap, owR_ok, iffS_ap, ifO_t, ifO_f, ifO_exc, expS_ap, exR_ok, exR_exc, forS_ap, foR_ok, forL_nil, forL_cons, flA_ok, flB_nx, appS_ap, apR_last, raiS_ap, rai1S_ap, raR_int, tryS_ap, trR_nx, trR_ret, trR_exc, starS_ap, stR_1, dr_int, dr_str, dr_bl, dr_non, dr_tup, dr_lst, dr_scr, dr_wd, dr_exn, dr_lstR, addD_ap, addQ_int, addQ_str, addQ_lst, addQ_tup, subD_int, negD_int, mulD_int, mulD_lst, fdivD_int, modD_int, powD_int, ltD_int, leD_int, gtD_int, geD_int, isn_lst, isn_non, eqB_str, eqB_int, eqD_ap, neD_ap, inB_wd, inB_chr, inD_ap, ninD_ap, omap_some, look_n, look_c, ixD_ap, ixQ_lst, ixQ_tup, ixQ_scr, ixQ_wd, ixQ_str, at_0, at_m1, at_m1c, at_p, rg2S_ap, r2R_ok, rg1S_ap, r1R_ok, rgD_ok', cut_m1, cut_pos, cut_posf, drop_0, drop_s, take_0, take_s, take_n, dl_1, dl_c, flat_rep, eq_self, Int.cast_ofNat_Int, lenD_ap, lenQ_lst, lenQ_scr, lenQ_tup, lenQ_str, intC_int, strC_str, strC_int, listC_lst, listC_tup, tupleC_lst, tupleC_tup, joinM_ap, splitM_ok, ofString_inj, List.length_cons, List.length_nil, List.length_append, List.length_map, Int.reduceNeg, Int.reduceAdd, Int.reduceSub, Int.reduceMul, Int.reduceMod, Int.reducePow, Int.reduceDiv, Int.reduceLE, Int.reduceLT, Int.reduceEq, Int.reduceToNat, Nat.reduceAdd, Nat.reduceSub, Nat.reduceLeDiff, Nat.reduceEqDiff, String.reduceEq, decide_true, decide_false, Bool.not_true, Bool.not_false, Bool.and_true, Bool.true_and, Bool.and_false, Bool.false_and, Bool.or_true, Bool.or_false, Bool.true_or, Bool.false_or, Option.isSome_some, Option.isSome_none, if_true, if_false, Bool.false_eq_true, Int.reduceBNe]
    · have hz : isNum s = false := by
        unfold isNum
        simp only [Bool.not_eq_true] at h1
        rw [h1]; simp [e]
      have hch : chR leD leD ρ (.ok (.int 1)) (.ok (.int s.length)) (.ok (.int 2)) = .ok (.bl false) := by rw [chR_ok leD_int leD_int]; simp only [Bool.not_eq_true] at h1; rw [h1]
      rw [hz]
      simp (disch := walk_at "ds") only [B_is_number, e, hch, rep_0, rep_s, get_0, get_s, set_0, set_s, app_n, app_c, map_n, map_c, wipe_n, wipe_c, rb_ok, rb_exc, ofO_some, rd_some, varS_ap, conS_ap, nilA_ap, consA_ap, consR_ok, consR_exc, consR_exc0, items_ap, items_lst, items_tup, items_scr, starA_ap, starR_ok, tupS_ap, tupR_ok, lstS_ap, lstR_ok, andS_ap, andR_t, andR_f, orS_ap, orR_t, orR_f, notS_ap, testS_ap, truR_bl, truR_int, ifS_ap, ifR_t, ifR_f, andT_ap, andW_t, andW_f, orT_ap, orW_t, orW_f, notT_ap, yesT_ap, tb1_ap, blR_bl, bin2_ap, b2R_ok, un1_ap, callB_ap, cbR_ok, chainS_ap, noP_ap, someP_ap, intR_ok, slS_ap, slR_ok, slD_ap, slQ_lst, slQ_tup, methS_ap, meR_ok, callS_ap, calR_ok, cal1_ok, cal1_exc, lcS_ap, lcR_ok, lcQ_ok, lcL_nil, lcL_yes, lcY_ok, lcZ_ok, itI_ap, itR_lst, itR_scr, itR_tup, itR_str, rng1I_ap, rn1R_ok, rng3I_ap, rn3R_up, zipI_ap, zpR_lst, zpR_tup, nameG_ap, nilG_ap, consG_ap, cgR_ok, tupG_2, tupG_3, seqS_ap, sqR_nx, sqR_ret, sqR_exc, passS_ap, retS_ap, retF_ap, reR_ok, reR_exc, asgS_ap, asR_ok, asR_exc, agR_ok, ownS_ap, owR_ok, iffS_ap, ifO_t, ifO_f, ifO_exc, expS_ap, exR_ok, exR_exc, forS_ap, foR_ok, forL_nil, forL_cons, flA_ok, flB_nx, appS_ap, apR_last, raiS_ap, rai1S_ap, raR_int, tryS_ap, trR_nx, trR_ret, trR_exc, starS_ap, stR_1, dr_int, dr_str, dr_bl, dr_non, dr_tup, dr_lst, dr_scr, dr_wd, dr_exn, dr_lstR, addD_ap, addQ_int, addQ_str, addQ_lst, addQ_tup, subD_int, negD_int, mulD_int, mulD_lst, fdivD_int, modD_int, powD_int, ltD_int, leD_int, gtD_int, geD_int, isn_lst, isn_non, eqB_str, eqB_int, eqD_ap, neD_ap, inB_wd, inB_chr, inD_ap, ninD_ap, omap_some, look_n, look_c, ixD_ap, ixQ_lst, ixQ_tup, ixQ_scr, ixQ_wd, ixQ_str, at_0, at_m1, at_m1c, at_p, rg2S_ap, r2R_ok, rg1S_ap, r1R_ok, rgD_ok', cut_m1, cut_pos, cut_posf, drop_0, drop_s, take_0, take_s, take_n, dl_1, dl_c, flat_rep, eq_self, Int.cast_ofNat_Int, lenD_ap, lenQ_lst, lenQ_scr, lenQ_tup, lenQ_str, intC_int, strC_str, strC_int, listC_lst, listC_tup, tupleC_lst, tupleC_tup, joinM_ap, splitM_ok, ofString_inj, List.length_cons, List.length_nil, List.length_append, List.length_map, Int.reduceNeg, Int.reduceAdd, Int.reduceSub, Int.reduceMul, Int.reduceMod, Int.reducePow, Int.reduceDiv, Int.reduceLE, Int.reduceLT, Int.reduceEq, Int.reduceToNat, Nat.reduceAdd, Nat.reduceSub, Nat.reduceLeDiff, Nat.reduceEqDiff, String.reduceEq, decide_true, decide_false, Bool.not_true, Bool.not_false, Bool.and_true, Bool.true_and, Bool.and_false, Bool.false_and, Bool.or_true, Bool.or_false, Bool.true_or, Bool.false_or, Option.isSome_some, Option.isSome_none, if_true, if_false, Bool.false_eq_true, Int.reduceBNe]

/-- the roles of a kind's tokens, if so many tokens are let -/
def rolesS (k : Str) (n : Nat) : Option (List Str) :=
  if "table" = k then (if n = 2 then some ["name", "size"] else none)
  else if "same" = k then (if n = 3 then some ["step", "column", "column"] else none)
  else if "is" = k then (if n = 3 then some ["step", "column", "word"] else none)
  else if "when" = k then (if n = 4 then some ["step", "end", "operator", "mark"] else none)
  else if "clip" = k then (if n = 3 then some ["step", "mark", "mark"] else none)
  else if "pair" = k then (if 3 ≤ n ∧ n % 3 = 0 then some ((["step", "step", "span"] : List Str) ++ List.replicate (n - 3) ("test" : Str)) else none)
  else if "union" = k then (if n = 2 then some ["step", "step"] else none)
  else if "keep" = k then (if 2 ≤ n then some ("step" :: List.replicate (n - 1) ("column" : Str)) else none)
  else none
def kinds : List Str := ["table", "same", "is", "when", "clip", "pair", "union", "keep"]
theorem kind_cases {k : Str} (h : k ∈ kinds) : k = "table" ∨ k = "same" ∨ k = "is" ∨ k = "when" ∨ k = "clip" ∨ k = "pair" ∨ k = "union" ∨ k = "keep" := by simpa [kinds] using h
def rolD : Option (List Str) → D
  | none => .non
  | some rs => .lst (rs.map .str)
theorem rol_map (n : Nat) (s : Str) : (List.replicate n s).map D.str = List.replicate n (.str s) := List.map_replicate
theorem rolesS_lit (k : String) (n : Nat) : rolesS k n = if "table" = k then (if n = 2 then some (["name", "size"] : List Str) else none)
  else if "same" = k then (if n = 3 then some (["step", "column", "column"] : List Str) else none)
  else if "is" = k then (if n = 3 then some (["step", "column", "word"] : List Str) else none)
  else if "when" = k then (if n = 4 then some (["step", "end", "operator", "mark"] : List Str) else none)
  else if "clip" = k then (if n = 3 then some (["step", "mark", "mark"] : List Str) else none)
  else if "pair" = k then (if 3 ≤ n ∧ n % 3 = 0 then some ((["step", "step", "span"] : List Str) ++ List.replicate (n - 3) ("test" : Str)) else none)
  else if "union" = k then (if n = 2 then some (["step", "step"] : List Str) else none)
  else if "keep" = k then (if 2 ≤ n then some (("step" : Str) :: List.replicate (n - 1) ("column" : Str)) else none)
  else none := by
  unfold rolesS
  simp only [ofString_inj]
section
variable {ρ : List D}
theorem helpA (rs : List Str) : finR ρ.length (fun _ => false) (.ret false (.rt ρ.length) (ρ ++ [.lst (rs.map .str)])) = .ok true (rolD (some rs)) ρ := fin_root (okL_map (n := ρ.length) (f := D.str) fun _ _ => rfl)
theorem helpN (c : D) : finR ρ.length (fun _ => false) (.ret false .non (ρ ++ [c])) = .ok false (rolD none) ρ := fin_ret (by intro r h; cases h) rfl
theorem helpL (rs : List Str) (c : D) : finR ρ.length (fun _ => false) (.ret false (.lst (rs.map .str)) (ρ ++ [c])) = .ok false (rolD (some rs)) ρ := fin_ret (by intro r h; cases h) (okL_map (n := ρ.length) (f := D.str) fun _ _ => rfl)
end
theorem r_roles {n m : Nat} {ρ : List D} {k : Str} (hk : k ∈ kinds) (hm : m ≤ 900) : ∃ fr, run Tb (n + 1) 3 (fun _ => false) ρ [.str k, .int m] = .ok fr (rolD (rolesS k m)) ρ := by
  have two : ∀ {o : Out} {x : Option (List Str)} {fr : Bool}, rolesS k m = x → B_token_roles (run Tb n) (fun r => decide (ρ.length ≤ r)) ρ [some (.str k), some (.int m), none, none, none] = o → finR ρ.length (fun _ => false) o = .ok fr (rolD x) ρ → ∃ fr, run Tb (n + 1) 3 (fun _ => false) ρ [.str k, .int m] = .ok fr (rolD (rolesS k m)) ρ := fun h0 h1 h2 => ⟨_, by rw [h0]; exact run_res 2 5 B_token_roles rfl rfl rfl h1 h2⟩
  rcases kind_cases hk with rfl | rfl | rfl | rfl | rfl | rfl | rfl | rfl
  · by_cases e : m = 2
    · have e' : (m : Int) - 2 + 1 = 1 := by omega
      refine two (by simp [rolesS_lit, e]) ?_ (helpA ["name", "size"])
      simp (disch := walk_at "ds") only [B_token_roles, v_KINDS, v_TEST, e', rep_0, rep_s, get_0, get_s, set_0, set_s, app_n, app_c, map_n, map_c, wipe_n, wipe_c, rb_ok, rb_exc, ofO_some, rd_some, varS_ap, conS_ap, nilA_ap, consA_ap, consR_ok, consR_exc, consR_exc0, items_ap, items_lst, items_tup, items_scr, starA_ap, starR_ok, tupS_ap, tupR_ok, lstS_ap, lstR_ok, andS_ap, andR_t, andR_f, orS_ap, orR_t, orR_f, notS_ap, testS_ap, truR_bl, truR_int, ifS_ap, ifR_t, ifR_f, andT_ap, andW_t, andW_f, orT_ap, orW_t, orW_f, notT_ap, yesT_ap, tb1_ap, blR_bl, bin2_ap, b2R_ok, un1_ap, callB_ap, cbR_ok, chainS_ap, noP_ap, someP_ap, intR_ok, slS_ap, slR_ok, slD_ap, slQ_lst, slQ_tup, methS_ap, meR_ok, callS_ap, calR_ok, cal1_ok, cal1_exc, lcS_ap, lcR_ok, lcQ_ok, lcL_nil, lcL_yes, lcY_ok, lcZ_ok, itI_ap, itR_lst, itR_scr, itR_tup, itR_str, rng1I_ap, rn1R_ok, rng3I_ap, rn3R_up, zipI_ap, zpR_lst, zpR_tup, nameG_ap, nilG_ap, consG_ap, cgR_ok, tupG_2, tupG_3, seqS_ap, sqR_nx, sqR_ret, sqR_exc, passS_ap, retS_ap, retF_ap, reR_ok, reR_exc, asgS_ap, asR_ok, asR_exc, agR_ok, ownS_ap, owR_ok, iffS_ap, ifO_t, ifO_f, ifO_exc, expS_ap, exR_ok, exR_exc, forS_ap, foR_ok, forL_nil, forL_cons, flA_ok, flB_nx, appS_ap, apR_last, raiS_ap, rai1S_ap, raR_int, tryS_ap, trR_nx, trR_ret, trR_exc, starS_ap, stR_1, dr_int, dr_str, dr_bl, dr_non, dr_tup, dr_lst, dr_scr, dr_wd, dr_exn, dr_lstR, addD_ap, addQ_int, addQ_str, addQ_lst, addQ_tup, subD_int, negD_int, mulD_int, mulD_lst, fdivD_int, modD_int, powD_int, ltD_int, leD_int, gtD_int, geD_int, isn_lst, isn_non, eqB_str, eqB_int, eqD_ap, neD_ap, inB_wd, inB_chr, inD_ap, ninD_ap, omap_some, look_n, look_c, ixD_ap, ixQ_lst, ixQ_tup, ixQ_scr, ixQ_wd, ixQ_str, at_0, at_m1, at_m1c, at_p, rg2S_ap, r2R_ok, rg1S_ap, r1R_ok, rgD_ok', cut_m1, cut_pos, cut_posf, drop_0, drop_s, take_0, take_s, take_n, dl_1, dl_c, flat_rep, eq_self, Int.cast_ofNat_Int, lenD_ap, lenQ_lst, lenQ_scr, lenQ_tup, lenQ_str, intC_int, strC_str, strC_int, listC_lst, listC_tup, tupleC_lst, tupleC_tup, joinM_ap, splitM_ok, ofString_inj, List.length_cons, List.length_nil, List.length_append, List.length_map, Int.reduceNeg, Int.reduceAdd, Int.reduceSub, Int.reduceMul, Int.reduceMod, Int.reducePow, Int.reduceDiv, Int.reduceLE, Int.reduceLT, Int.reduceEq, Int.reduceToNat, Nat.reduceAdd, Nat.reduceSub, Nat.reduceLeDiff, Nat.reduceEqDiff, String.reduceEq, decide_true, decide_false, Bool.not_true, Bool.not_false, Bool.and_true, Bool.true_and, Bool.and_false, Bool.false_and, Bool.or_true, Bool.or_false, Bool.true_or, Bool.false_or, Option.isSome_some, Option.isSome_none, if_true, if_false, Bool.false_eq_true, Int.reduceBNe]
    · have e' : ¬ ((m : Int) - 2 + 1 = 1) := by omega
      refine two (by simp [rolesS_lit, e]) ?_ (helpN (.lst [.str "name", .str "size"]))
      simp (disch := walk_at "ds") only [B_token_roles, v_KINDS, v_TEST, e', rep_0, rep_s, get_0, get_s, set_0, set_s, app_n, app_c, map_n, map_c, wipe_n, wipe_c, rb_ok, rb_exc, ofO_some, rd_some, varS_ap, conS_ap, nilA_ap, consA_ap, consR_ok, consR_exc, consR_exc0, items_ap, items_lst, items_tup, items_scr, starA_ap, starR_ok, tupS_ap, tupR_ok, lstS_ap, lstR_ok, andS_ap, andR_t, andR_f, orS_ap, orR_t, orR_f, notS_ap, testS_ap, truR_bl, truR_int, ifS_ap, ifR_t, ifR_f, andT_ap, andW_t, andW_f, orT_ap, orW_t, orW_f, notT_ap, yesT_ap, tb1_ap, blR_bl, bin2_ap, b2R_ok, un1_ap, callB_ap, cbR_ok, chainS_ap, noP_ap, someP_ap, intR_ok, slS_ap, slR_ok, slD_ap, slQ_lst, slQ_tup, methS_ap, meR_ok, callS_ap, calR_ok, cal1_ok, cal1_exc, lcS_ap, lcR_ok, lcQ_ok, lcL_nil, lcL_yes, lcY_ok, lcZ_ok, itI_ap, itR_lst, itR_scr, itR_tup, itR_str, rng1I_ap, rn1R_ok, rng3I_ap, rn3R_up, zipI_ap, zpR_lst, zpR_tup, nameG_ap, nilG_ap, consG_ap, cgR_ok, tupG_2, tupG_3, seqS_ap, sqR_nx, sqR_ret, sqR_exc, passS_ap, retS_ap, retF_ap, reR_ok, reR_exc, asgS_ap, asR_ok, asR_exc, agR_ok, ownS_ap, owR_ok, iffS_ap, ifO_t, ifO_f, ifO_exc, expS_ap, exR_ok, exR_exc, forS_ap, foR_ok, forL_nil, forL_cons, flA_ok, flB_nx, appS_ap, apR_last, raiS_ap, rai1S_ap, raR_int, tryS_ap, trR_nx, trR_ret, trR_exc, starS_ap, stR_1, dr_int, dr_str, dr_bl, dr_non, dr_tup, dr_lst, dr_scr, dr_wd, dr_exn, dr_lstR, addD_ap, addQ_int, addQ_str, addQ_lst, addQ_tup, subD_int, negD_int, mulD_int, mulD_lst, fdivD_int, modD_int, powD_int, ltD_int, leD_int, gtD_int, geD_int, isn_lst, isn_non, eqB_str, eqB_int, eqD_ap, neD_ap, inB_wd, inB_chr, inD_ap, ninD_ap, omap_some, look_n, look_c, ixD_ap, ixQ_lst, ixQ_tup, ixQ_scr, ixQ_wd, ixQ_str, at_0, at_m1, at_m1c, at_p, rg2S_ap, r2R_ok, rg1S_ap, r1R_ok, rgD_ok', cut_m1, cut_pos, cut_posf, drop_0, drop_s, take_0, take_s, take_n, dl_1, dl_c, flat_rep, eq_self, Int.cast_ofNat_Int, lenD_ap, lenQ_lst, lenQ_scr, lenQ_tup, lenQ_str, intC_int, strC_str, strC_int, listC_lst, listC_tup, tupleC_lst, tupleC_tup, joinM_ap, splitM_ok, ofString_inj, List.length_cons, List.length_nil, List.length_append, List.length_map, Int.reduceNeg, Int.reduceAdd, Int.reduceSub, Int.reduceMul, Int.reduceMod, Int.reducePow, Int.reduceDiv, Int.reduceLE, Int.reduceLT, Int.reduceEq, Int.reduceToNat, Nat.reduceAdd, Nat.reduceSub, Nat.reduceLeDiff, Nat.reduceEqDiff, String.reduceEq, decide_true, decide_false, Bool.not_true, Bool.not_false, Bool.and_true, Bool.true_and, Bool.and_false, Bool.false_and, Bool.or_true, Bool.or_false, Bool.true_or, Bool.false_or, Option.isSome_some, Option.isSome_none, if_true, if_false, Bool.false_eq_true, Int.reduceBNe]
  · by_cases e : m = 3
    · have e' : (m : Int) - 3 + 1 = 1 := by omega
      refine two (by simp [rolesS_lit, e]) ?_ (helpA ["step", "column", "column"])
      simp (disch := walk_at "ds") only [B_token_roles, v_KINDS, v_TEST, e', rep_0, rep_s, get_0, get_s, set_0, set_s, app_n, app_c, map_n, map_c, wipe_n, wipe_c, rb_ok, rb_exc, ofO_some, rd_some, varS_ap, conS_ap, nilA_ap, consA_ap, consR_ok, consR_exc, consR_exc0, items_ap, items_lst, items_tup, items_scr, starA_ap, starR_ok, tupS_ap, tupR_ok, lstS_ap, lstR_ok, andS_ap, andR_t, andR_f, orS_ap, orR_t, orR_f, notS_ap, testS_ap, truR_bl, truR_int, ifS_ap, ifR_t, ifR_f, andT_ap, andW_t, andW_f, orT_ap, orW_t, orW_f, notT_ap, yesT_ap, tb1_ap, blR_bl, bin2_ap, b2R_ok, un1_ap, callB_ap, cbR_ok, chainS_ap, noP_ap, someP_ap, intR_ok, slS_ap, slR_ok, slD_ap, slQ_lst, slQ_tup, methS_ap, meR_ok, callS_ap, calR_ok, cal1_ok, cal1_exc, lcS_ap, lcR_ok, lcQ_ok, lcL_nil, lcL_yes, lcY_ok, lcZ_ok, itI_ap, itR_lst, itR_scr, itR_tup, itR_str, rng1I_ap, rn1R_ok, rng3I_ap, rn3R_up, zipI_ap, zpR_lst, zpR_tup, nameG_ap, nilG_ap, consG_ap, cgR_ok, tupG_2, tupG_3, seqS_ap, sqR_nx, sqR_ret, sqR_exc, passS_ap, retS_ap, retF_ap, reR_ok, reR_exc, asgS_ap, asR_ok, asR_exc, agR_ok, ownS_ap, owR_ok, iffS_ap, ifO_t, ifO_f, ifO_exc, expS_ap, exR_ok, exR_exc, forS_ap, foR_ok, forL_nil, forL_cons, flA_ok, flB_nx, appS_ap, apR_last, raiS_ap, rai1S_ap, raR_int, tryS_ap, trR_nx, trR_ret, trR_exc, starS_ap, stR_1, dr_int, dr_str, dr_bl, dr_non, dr_tup, dr_lst, dr_scr, dr_wd, dr_exn, dr_lstR, addD_ap, addQ_int, addQ_str, addQ_lst, addQ_tup, subD_int, negD_int, mulD_int, mulD_lst, fdivD_int, modD_int, powD_int, ltD_int, leD_int, gtD_int, geD_int, isn_lst, isn_non, eqB_str, eqB_int, eqD_ap, neD_ap, inB_wd, inB_chr, inD_ap, ninD_ap, omap_some, look_n, look_c, ixD_ap, ixQ_lst, ixQ_tup, ixQ_scr, ixQ_wd, ixQ_str, at_0, at_m1, at_m1c, at_p, rg2S_ap, r2R_ok, rg1S_ap, r1R_ok, rgD_ok', cut_m1, cut_pos, cut_posf, drop_0, drop_s, take_0, take_s, take_n, dl_1, dl_c, flat_rep, eq_self, Int.cast_ofNat_Int, lenD_ap, lenQ_lst, lenQ_scr, lenQ_tup, lenQ_str, intC_int, strC_str, strC_int, listC_lst, listC_tup, tupleC_lst, tupleC_tup, joinM_ap, splitM_ok, ofString_inj, List.length_cons, List.length_nil, List.length_append, List.length_map, Int.reduceNeg, Int.reduceAdd, Int.reduceSub, Int.reduceMul, Int.reduceMod, Int.reducePow, Int.reduceDiv, Int.reduceLE, Int.reduceLT, Int.reduceEq, Int.reduceToNat, Nat.reduceAdd, Nat.reduceSub, Nat.reduceLeDiff, Nat.reduceEqDiff, String.reduceEq, decide_true, decide_false, Bool.not_true, Bool.not_false, Bool.and_true, Bool.true_and, Bool.and_false, Bool.false_and, Bool.or_true, Bool.or_false, Bool.true_or, Bool.false_or, Option.isSome_some, Option.isSome_none, if_true, if_false, Bool.false_eq_true, Int.reduceBNe]
    · have e' : ¬ ((m : Int) - 3 + 1 = 1) := by omega
      refine two (by simp [rolesS_lit, e]) ?_ (helpN (.lst [.str "step", .str "column", .str "column"]))
      simp (disch := walk_at "ds") only [B_token_roles, v_KINDS, v_TEST, e', rep_0, rep_s, get_0, get_s, set_0, set_s, app_n, app_c, map_n, map_c, wipe_n, wipe_c, rb_ok, rb_exc, ofO_some, rd_some, varS_ap, conS_ap, nilA_ap, consA_ap, consR_ok, consR_exc, consR_exc0, items_ap, items_lst, items_tup, items_scr, starA_ap, starR_ok, tupS_ap, tupR_ok, lstS_ap, lstR_ok, andS_ap, andR_t, andR_f, orS_ap, orR_t, orR_f, notS_ap, testS_ap, truR_bl, truR_int, ifS_ap, ifR_t, ifR_f, andT_ap, andW_t, andW_f, orT_ap, orW_t, orW_f, notT_ap, yesT_ap, tb1_ap, blR_bl, bin2_ap, b2R_ok, un1_ap, callB_ap, cbR_ok, chainS_ap, noP_ap, someP_ap, intR_ok, slS_ap, slR_ok, slD_ap, slQ_lst, slQ_tup, methS_ap, meR_ok, callS_ap, calR_ok, cal1_ok, cal1_exc, lcS_ap, lcR_ok, lcQ_ok, lcL_nil, lcL_yes, lcY_ok, lcZ_ok, itI_ap, itR_lst, itR_scr, itR_tup, itR_str, rng1I_ap, rn1R_ok, rng3I_ap, rn3R_up, zipI_ap, zpR_lst, zpR_tup, nameG_ap, nilG_ap, consG_ap, cgR_ok, tupG_2, tupG_3, seqS_ap, sqR_nx, sqR_ret, sqR_exc, passS_ap, retS_ap, retF_ap, reR_ok, reR_exc, asgS_ap, asR_ok, asR_exc, agR_ok, ownS_ap, owR_ok, iffS_ap, ifO_t, ifO_f, ifO_exc, expS_ap, exR_ok, exR_exc, forS_ap, foR_ok, forL_nil, forL_cons, flA_ok, flB_nx, appS_ap, apR_last, raiS_ap, rai1S_ap, raR_int, tryS_ap, trR_nx, trR_ret, trR_exc, starS_ap, stR_1, dr_int, dr_str, dr_bl, dr_non, dr_tup, dr_lst, dr_scr, dr_wd, dr_exn, dr_lstR, addD_ap, addQ_int, addQ_str, addQ_lst, addQ_tup, subD_int, negD_int, mulD_int, mulD_lst, fdivD_int, modD_int, powD_int, ltD_int, leD_int, gtD_int, geD_int, isn_lst, isn_non, eqB_str, eqB_int, eqD_ap, neD_ap, inB_wd, inB_chr, inD_ap, ninD_ap, omap_some, look_n, look_c, ixD_ap, ixQ_lst, ixQ_tup, ixQ_scr, ixQ_wd, ixQ_str, at_0, at_m1, at_m1c, at_p, rg2S_ap, r2R_ok, rg1S_ap, r1R_ok, rgD_ok', cut_m1, cut_pos, cut_posf, drop_0, drop_s, take_0, take_s, take_n, dl_1, dl_c, flat_rep, eq_self, Int.cast_ofNat_Int, lenD_ap, lenQ_lst, lenQ_scr, lenQ_tup, lenQ_str, intC_int, strC_str, strC_int, listC_lst, listC_tup, tupleC_lst, tupleC_tup, joinM_ap, splitM_ok, ofString_inj, List.length_cons, List.length_nil, List.length_append, List.length_map, Int.reduceNeg, Int.reduceAdd, Int.reduceSub, Int.reduceMul, Int.reduceMod, Int.reducePow, Int.reduceDiv, Int.reduceLE, Int.reduceLT, Int.reduceEq, Int.reduceToNat, Nat.reduceAdd, Nat.reduceSub, Nat.reduceLeDiff, Nat.reduceEqDiff, String.reduceEq, decide_true, decide_false, Bool.not_true, Bool.not_false, Bool.and_true, Bool.true_and, Bool.and_false, Bool.false_and, Bool.or_true, Bool.or_false, Bool.true_or, Bool.false_or, Option.isSome_some, Option.isSome_none, if_true, if_false, Bool.false_eq_true, Int.reduceBNe]
  · by_cases e : m = 3
    · have e' : (m : Int) - 3 + 1 = 1 := by omega
      refine two (by simp [rolesS_lit, e]) ?_ (helpA ["step", "column", "word"])
      simp (disch := walk_at "ds") only [B_token_roles, v_KINDS, v_TEST, e', rep_0, rep_s, get_0, get_s, set_0, set_s, app_n, app_c, map_n, map_c, wipe_n, wipe_c, rb_ok, rb_exc, ofO_some, rd_some, varS_ap, conS_ap, nilA_ap, consA_ap, consR_ok, consR_exc, consR_exc0, items_ap, items_lst, items_tup, items_scr, starA_ap, starR_ok, tupS_ap, tupR_ok, lstS_ap, lstR_ok, andS_ap, andR_t, andR_f, orS_ap, orR_t, orR_f, notS_ap, testS_ap, truR_bl, truR_int, ifS_ap, ifR_t, ifR_f, andT_ap, andW_t, andW_f, orT_ap, orW_t, orW_f, notT_ap, yesT_ap, tb1_ap, blR_bl, bin2_ap, b2R_ok, un1_ap, callB_ap, cbR_ok, chainS_ap, noP_ap, someP_ap, intR_ok, slS_ap, slR_ok, slD_ap, slQ_lst, slQ_tup, methS_ap, meR_ok, callS_ap, calR_ok, cal1_ok, cal1_exc, lcS_ap, lcR_ok, lcQ_ok, lcL_nil, lcL_yes, lcY_ok, lcZ_ok, itI_ap, itR_lst, itR_scr, itR_tup, itR_str, rng1I_ap, rn1R_ok, rng3I_ap, rn3R_up, zipI_ap, zpR_lst, zpR_tup, nameG_ap, nilG_ap, consG_ap, cgR_ok, tupG_2, tupG_3, seqS_ap, sqR_nx, sqR_ret, sqR_exc, passS_ap, retS_ap, retF_ap, reR_ok, reR_exc, asgS_ap, asR_ok, asR_exc, agR_ok, ownS_ap, owR_ok, iffS_ap, ifO_t, ifO_f, ifO_exc, expS_ap, exR_ok, exR_exc, forS_ap, foR_ok, forL_nil, forL_cons, flA_ok, flB_nx, appS_ap, apR_last, raiS_ap, rai1S_ap, raR_int, tryS_ap, trR_nx, trR_ret, trR_exc, starS_ap, stR_1, dr_int, dr_str, dr_bl, dr_non, dr_tup, dr_lst, dr_scr, dr_wd, dr_exn, dr_lstR, addD_ap, addQ_int, addQ_str, addQ_lst, addQ_tup, subD_int, negD_int, mulD_int, mulD_lst, fdivD_int, modD_int, powD_int, ltD_int, leD_int, gtD_int, geD_int, isn_lst, isn_non, eqB_str, eqB_int, eqD_ap, neD_ap, inB_wd, inB_chr, inD_ap, ninD_ap, omap_some, look_n, look_c, ixD_ap, ixQ_lst, ixQ_tup, ixQ_scr, ixQ_wd, ixQ_str, at_0, at_m1, at_m1c, at_p, rg2S_ap, r2R_ok, rg1S_ap, r1R_ok, rgD_ok', cut_m1, cut_pos, cut_posf, drop_0, drop_s, take_0, take_s, take_n, dl_1, dl_c, flat_rep, eq_self, Int.cast_ofNat_Int, lenD_ap, lenQ_lst, lenQ_scr, lenQ_tup, lenQ_str, intC_int, strC_str, strC_int, listC_lst, listC_tup, tupleC_lst, tupleC_tup, joinM_ap, splitM_ok, ofString_inj, List.length_cons, List.length_nil, List.length_append, List.length_map, Int.reduceNeg, Int.reduceAdd, Int.reduceSub, Int.reduceMul, Int.reduceMod, Int.reducePow, Int.reduceDiv, Int.reduceLE, Int.reduceLT, Int.reduceEq, Int.reduceToNat, Nat.reduceAdd, Nat.reduceSub, Nat.reduceLeDiff, Nat.reduceEqDiff, String.reduceEq, decide_true, decide_false, Bool.not_true, Bool.not_false, Bool.and_true, Bool.true_and, Bool.and_false, Bool.false_and, Bool.or_true, Bool.or_false, Bool.true_or, Bool.false_or, Option.isSome_some, Option.isSome_none, if_true, if_false, Bool.false_eq_true, Int.reduceBNe]
    · have e' : ¬ ((m : Int) - 3 + 1 = 1) := by omega
      refine two (by simp [rolesS_lit, e]) ?_ (helpN (.lst [.str "step", .str "column", .str "word"]))
      simp (disch := walk_at "ds") only [B_token_roles, v_KINDS, v_TEST, e', rep_0, rep_s, get_0, get_s, set_0, set_s, app_n, app_c, map_n, map_c, wipe_n, wipe_c, rb_ok, rb_exc, ofO_some, rd_some, varS_ap, conS_ap, nilA_ap, consA_ap, consR_ok, consR_exc, consR_exc0, items_ap, items_lst, items_tup, items_scr, starA_ap, starR_ok, tupS_ap, tupR_ok, lstS_ap, lstR_ok, andS_ap, andR_t, andR_f, orS_ap, orR_t, orR_f, notS_ap, testS_ap, truR_bl, truR_int, ifS_ap, ifR_t, ifR_f, andT_ap, andW_t, andW_f, orT_ap, orW_t, orW_f, notT_ap, yesT_ap, tb1_ap, blR_bl, bin2_ap, b2R_ok, un1_ap, callB_ap, cbR_ok, chainS_ap, noP_ap, someP_ap, intR_ok, slS_ap, slR_ok, slD_ap, slQ_lst, slQ_tup, methS_ap, meR_ok, callS_ap, calR_ok, cal1_ok, cal1_exc, lcS_ap, lcR_ok, lcQ_ok, lcL_nil, lcL_yes, lcY_ok, lcZ_ok, itI_ap, itR_lst, itR_scr, itR_tup, itR_str, rng1I_ap, rn1R_ok, rng3I_ap, rn3R_up, zipI_ap, zpR_lst, zpR_tup, nameG_ap, nilG_ap, consG_ap, cgR_ok, tupG_2, tupG_3, seqS_ap, sqR_nx, sqR_ret, sqR_exc, passS_ap, retS_ap, retF_ap, reR_ok, reR_exc, asgS_ap, asR_ok, asR_exc, agR_ok, ownS_ap, owR_ok, iffS_ap, ifO_t, ifO_f, ifO_exc, expS_ap, exR_ok, exR_exc, forS_ap, foR_ok, forL_nil, forL_cons, flA_ok, flB_nx, appS_ap, apR_last, raiS_ap, rai1S_ap, raR_int, tryS_ap, trR_nx, trR_ret, trR_exc, starS_ap, stR_1, dr_int, dr_str, dr_bl, dr_non, dr_tup, dr_lst, dr_scr, dr_wd, dr_exn, dr_lstR, addD_ap, addQ_int, addQ_str, addQ_lst, addQ_tup, subD_int, negD_int, mulD_int, mulD_lst, fdivD_int, modD_int, powD_int, ltD_int, leD_int, gtD_int, geD_int, isn_lst, isn_non, eqB_str, eqB_int, eqD_ap, neD_ap, inB_wd, inB_chr, inD_ap, ninD_ap, omap_some, look_n, look_c, ixD_ap, ixQ_lst, ixQ_tup, ixQ_scr, ixQ_wd, ixQ_str, at_0, at_m1, at_m1c, at_p, rg2S_ap, r2R_ok, rg1S_ap, r1R_ok, rgD_ok', cut_m1, cut_pos, cut_posf, drop_0, drop_s, take_0, take_s, take_n, dl_1, dl_c, flat_rep, eq_self, Int.cast_ofNat_Int, lenD_ap, lenQ_lst, lenQ_scr, lenQ_tup, lenQ_str, intC_int, strC_str, strC_int, listC_lst, listC_tup, tupleC_lst, tupleC_tup, joinM_ap, splitM_ok, ofString_inj, List.length_cons, List.length_nil, List.length_append, List.length_map, Int.reduceNeg, Int.reduceAdd, Int.reduceSub, Int.reduceMul, Int.reduceMod, Int.reducePow, Int.reduceDiv, Int.reduceLE, Int.reduceLT, Int.reduceEq, Int.reduceToNat, Nat.reduceAdd, Nat.reduceSub, Nat.reduceLeDiff, Nat.reduceEqDiff, String.reduceEq, decide_true, decide_false, Bool.not_true, Bool.not_false, Bool.and_true, Bool.true_and, Bool.and_false, Bool.false_and, Bool.or_true, Bool.or_false, Bool.true_or, Bool.false_or, Option.isSome_some, Option.isSome_none, if_true, if_false, Bool.false_eq_true, Int.reduceBNe]
  · by_cases e : m = 4
    · have e' : (m : Int) - 4 + 1 = 1 := by omega
      refine two (by simp [rolesS_lit, e]) ?_ (helpA ["step", "end", "operator", "mark"])
      simp (disch := walk_at "ds") only [B_token_roles, v_KINDS, v_TEST, e', rep_0, rep_s, get_0, get_s, set_0, set_s, app_n, app_c, map_n, map_c, wipe_n, wipe_c, rb_ok, rb_exc, ofO_some, rd_some, varS_ap, conS_ap, nilA_ap, consA_ap, consR_ok, consR_exc, consR_exc0, items_ap, items_lst, items_tup, items_scr, starA_ap, starR_ok, tupS_ap, tupR_ok, lstS_ap, lstR_ok, andS_ap, andR_t, andR_f, orS_ap, orR_t, orR_f, notS_ap, testS_ap, truR_bl, truR_int, ifS_ap, ifR_t, ifR_f, andT_ap, andW_t, andW_f, orT_ap, orW_t, orW_f, notT_ap, yesT_ap, tb1_ap, blR_bl, bin2_ap, b2R_ok, un1_ap, callB_ap, cbR_ok, chainS_ap, noP_ap, someP_ap, intR_ok, slS_ap, slR_ok, slD_ap, slQ_lst, slQ_tup, methS_ap, meR_ok, callS_ap, calR_ok, cal1_ok, cal1_exc, lcS_ap, lcR_ok, lcQ_ok, lcL_nil, lcL_yes, lcY_ok, lcZ_ok, itI_ap, itR_lst, itR_scr, itR_tup, itR_str, rng1I_ap, rn1R_ok, rng3I_ap, rn3R_up, zipI_ap, zpR_lst, zpR_tup, nameG_ap, nilG_ap, consG_ap, cgR_ok, tupG_2, tupG_3, seqS_ap, sqR_nx, sqR_ret, sqR_exc, passS_ap, retS_ap, retF_ap, reR_ok, reR_exc, asgS_ap, asR_ok, asR_exc, agR_ok, ownS_ap, owR_ok, iffS_ap, ifO_t, ifO_f, ifO_exc, expS_ap, exR_ok, exR_exc, forS_ap, foR_ok, forL_nil, forL_cons, flA_ok, flB_nx, appS_ap, apR_last, raiS_ap, rai1S_ap, raR_int, tryS_ap, trR_nx, trR_ret, trR_exc, starS_ap, stR_1, dr_int, dr_str, dr_bl, dr_non, dr_tup, dr_lst, dr_scr, dr_wd, dr_exn, dr_lstR, addD_ap, addQ_int, addQ_str, addQ_lst, addQ_tup, subD_int, negD_int, mulD_int, mulD_lst, fdivD_int, modD_int, powD_int, ltD_int, leD_int, gtD_int, geD_int, isn_lst, isn_non, eqB_str, eqB_int, eqD_ap, neD_ap, inB_wd, inB_chr, inD_ap, ninD_ap, omap_some, look_n, look_c, ixD_ap, ixQ_lst, ixQ_tup, ixQ_scr, ixQ_wd, ixQ_str, at_0, at_m1, at_m1c, at_p, rg2S_ap, r2R_ok, rg1S_ap, r1R_ok, rgD_ok', cut_m1, cut_pos, cut_posf, drop_0, drop_s, take_0, take_s, take_n, dl_1, dl_c, flat_rep, eq_self, Int.cast_ofNat_Int, lenD_ap, lenQ_lst, lenQ_scr, lenQ_tup, lenQ_str, intC_int, strC_str, strC_int, listC_lst, listC_tup, tupleC_lst, tupleC_tup, joinM_ap, splitM_ok, ofString_inj, List.length_cons, List.length_nil, List.length_append, List.length_map, Int.reduceNeg, Int.reduceAdd, Int.reduceSub, Int.reduceMul, Int.reduceMod, Int.reducePow, Int.reduceDiv, Int.reduceLE, Int.reduceLT, Int.reduceEq, Int.reduceToNat, Nat.reduceAdd, Nat.reduceSub, Nat.reduceLeDiff, Nat.reduceEqDiff, String.reduceEq, decide_true, decide_false, Bool.not_true, Bool.not_false, Bool.and_true, Bool.true_and, Bool.and_false, Bool.false_and, Bool.or_true, Bool.or_false, Bool.true_or, Bool.false_or, Option.isSome_some, Option.isSome_none, if_true, if_false, Bool.false_eq_true, Int.reduceBNe]
    · have e' : ¬ ((m : Int) - 4 + 1 = 1) := by omega
      refine two (by simp [rolesS_lit, e]) ?_ (helpN (.lst [.str "step", .str "end", .str "operator", .str "mark"]))
      simp (disch := walk_at "ds") only [B_token_roles, v_KINDS, v_TEST, e', rep_0, rep_s, get_0, get_s, set_0, set_s, app_n, app_c, map_n, map_c, wipe_n, wipe_c, rb_ok, rb_exc, ofO_some, rd_some, varS_ap, conS_ap, nilA_ap, consA_ap, consR_ok, consR_exc, consR_exc0, items_ap, items_lst, items_tup, items_scr, starA_ap, starR_ok, tupS_ap, tupR_ok, lstS_ap, lstR_ok, andS_ap, andR_t, andR_f, orS_ap, orR_t, orR_f, notS_ap, testS_ap, truR_bl, truR_int, ifS_ap, ifR_t, ifR_f, andT_ap, andW_t, andW_f, orT_ap, orW_t, orW_f, notT_ap, yesT_ap, tb1_ap, blR_bl, bin2_ap, b2R_ok, un1_ap, callB_ap, cbR_ok, chainS_ap, noP_ap, someP_ap, intR_ok, slS_ap, slR_ok, slD_ap, slQ_lst, slQ_tup, methS_ap, meR_ok, callS_ap, calR_ok, cal1_ok, cal1_exc, lcS_ap, lcR_ok, lcQ_ok, lcL_nil, lcL_yes, lcY_ok, lcZ_ok, itI_ap, itR_lst, itR_scr, itR_tup, itR_str, rng1I_ap, rn1R_ok, rng3I_ap, rn3R_up, zipI_ap, zpR_lst, zpR_tup, nameG_ap, nilG_ap, consG_ap, cgR_ok, tupG_2, tupG_3, seqS_ap, sqR_nx, sqR_ret, sqR_exc, passS_ap, retS_ap, retF_ap, reR_ok, reR_exc, asgS_ap, asR_ok, asR_exc, agR_ok, ownS_ap, owR_ok, iffS_ap, ifO_t, ifO_f, ifO_exc, expS_ap, exR_ok, exR_exc, forS_ap, foR_ok, forL_nil, forL_cons, flA_ok, flB_nx, appS_ap, apR_last, raiS_ap, rai1S_ap, raR_int, tryS_ap, trR_nx, trR_ret, trR_exc, starS_ap, stR_1, dr_int, dr_str, dr_bl, dr_non, dr_tup, dr_lst, dr_scr, dr_wd, dr_exn, dr_lstR, addD_ap, addQ_int, addQ_str, addQ_lst, addQ_tup, subD_int, negD_int, mulD_int, mulD_lst, fdivD_int, modD_int, powD_int, ltD_int, leD_int, gtD_int, geD_int, isn_lst, isn_non, eqB_str, eqB_int, eqD_ap, neD_ap, inB_wd, inB_chr, inD_ap, ninD_ap, omap_some, look_n, look_c, ixD_ap, ixQ_lst, ixQ_tup, ixQ_scr, ixQ_wd, ixQ_str, at_0, at_m1, at_m1c, at_p, rg2S_ap, r2R_ok, rg1S_ap, r1R_ok, rgD_ok', cut_m1, cut_pos, cut_posf, drop_0, drop_s, take_0, take_s, take_n, dl_1, dl_c, flat_rep, eq_self, Int.cast_ofNat_Int, lenD_ap, lenQ_lst, lenQ_scr, lenQ_tup, lenQ_str, intC_int, strC_str, strC_int, listC_lst, listC_tup, tupleC_lst, tupleC_tup, joinM_ap, splitM_ok, ofString_inj, List.length_cons, List.length_nil, List.length_append, List.length_map, Int.reduceNeg, Int.reduceAdd, Int.reduceSub, Int.reduceMul, Int.reduceMod, Int.reducePow, Int.reduceDiv, Int.reduceLE, Int.reduceLT, Int.reduceEq, Int.reduceToNat, Nat.reduceAdd, Nat.reduceSub, Nat.reduceLeDiff, Nat.reduceEqDiff, String.reduceEq, decide_true, decide_false, Bool.not_true, Bool.not_false, Bool.and_true, Bool.true_and, Bool.and_false, Bool.false_and, Bool.or_true, Bool.or_false, Bool.true_or, Bool.false_or, Option.isSome_some, Option.isSome_none, if_true, if_false, Bool.false_eq_true, Int.reduceBNe]
  · by_cases e : m = 3
    · have e' : (m : Int) - 3 + 1 = 1 := by omega
      refine two (by simp [rolesS_lit, e]) ?_ (helpA ["step", "mark", "mark"])
      simp (disch := walk_at "ds") only [B_token_roles, v_KINDS, v_TEST, e', rep_0, rep_s, get_0, get_s, set_0, set_s, app_n, app_c, map_n, map_c, wipe_n, wipe_c, rb_ok, rb_exc, ofO_some, rd_some, varS_ap, conS_ap, nilA_ap, consA_ap, consR_ok, consR_exc, consR_exc0, items_ap, items_lst, items_tup, items_scr, starA_ap, starR_ok, tupS_ap, tupR_ok, lstS_ap, lstR_ok, andS_ap, andR_t, andR_f, orS_ap, orR_t, orR_f, notS_ap, testS_ap, truR_bl, truR_int, ifS_ap, ifR_t, ifR_f, andT_ap, andW_t, andW_f, orT_ap, orW_t, orW_f, notT_ap, yesT_ap, tb1_ap, blR_bl, bin2_ap, b2R_ok, un1_ap, callB_ap, cbR_ok, chainS_ap, noP_ap, someP_ap, intR_ok, slS_ap, slR_ok, slD_ap, slQ_lst, slQ_tup, methS_ap, meR_ok, callS_ap, calR_ok, cal1_ok, cal1_exc, lcS_ap, lcR_ok, lcQ_ok, lcL_nil, lcL_yes, lcY_ok, lcZ_ok, itI_ap, itR_lst, itR_scr, itR_tup, itR_str, rng1I_ap, rn1R_ok, rng3I_ap, rn3R_up, zipI_ap, zpR_lst, zpR_tup, nameG_ap, nilG_ap, consG_ap, cgR_ok, tupG_2, tupG_3, seqS_ap, sqR_nx, sqR_ret, sqR_exc, passS_ap, retS_ap, retF_ap, reR_ok, reR_exc, asgS_ap, asR_ok, asR_exc, agR_ok, ownS_ap, owR_ok, iffS_ap, ifO_t, ifO_f, ifO_exc, expS_ap, exR_ok, exR_exc, forS_ap, foR_ok, forL_nil, forL_cons, flA_ok, flB_nx, appS_ap, apR_last, raiS_ap, rai1S_ap, raR_int, tryS_ap, trR_nx, trR_ret, trR_exc, starS_ap, stR_1, dr_int, dr_str, dr_bl, dr_non, dr_tup, dr_lst, dr_scr, dr_wd, dr_exn, dr_lstR, addD_ap, addQ_int, addQ_str, addQ_lst, addQ_tup, subD_int, negD_int, mulD_int, mulD_lst, fdivD_int, modD_int, powD_int, ltD_int, leD_int, gtD_int, geD_int, isn_lst, isn_non, eqB_str, eqB_int, eqD_ap, neD_ap, inB_wd, inB_chr, inD_ap, ninD_ap, omap_some, look_n, look_c, ixD_ap, ixQ_lst, ixQ_tup, ixQ_scr, ixQ_wd, ixQ_str, at_0, at_m1, at_m1c, at_p, rg2S_ap, r2R_ok, rg1S_ap, r1R_ok, rgD_ok', cut_m1, cut_pos, cut_posf, drop_0, drop_s, take_0, take_s, take_n, dl_1, dl_c, flat_rep, eq_self, Int.cast_ofNat_Int, lenD_ap, lenQ_lst, lenQ_scr, lenQ_tup, lenQ_str, intC_int, strC_str, strC_int, listC_lst, listC_tup, tupleC_lst, tupleC_tup, joinM_ap, splitM_ok, ofString_inj, List.length_cons, List.length_nil, List.length_append, List.length_map, Int.reduceNeg, Int.reduceAdd, Int.reduceSub, Int.reduceMul, Int.reduceMod, Int.reducePow, Int.reduceDiv, Int.reduceLE, Int.reduceLT, Int.reduceEq, Int.reduceToNat, Nat.reduceAdd, Nat.reduceSub, Nat.reduceLeDiff, Nat.reduceEqDiff, String.reduceEq, decide_true, decide_false, Bool.not_true, Bool.not_false, Bool.and_true, Bool.true_and, Bool.and_false, Bool.false_and, Bool.or_true, Bool.or_false, Bool.true_or, Bool.false_or, Option.isSome_some, Option.isSome_none, if_true, if_false, Bool.false_eq_true, Int.reduceBNe]
    · have e' : ¬ ((m : Int) - 3 + 1 = 1) := by omega
      refine two (by simp [rolesS_lit, e]) ?_ (helpN (.lst [.str "step", .str "mark", .str "mark"]))
      simp (disch := walk_at "ds") only [B_token_roles, v_KINDS, v_TEST, e', rep_0, rep_s, get_0, get_s, set_0, set_s, app_n, app_c, map_n, map_c, wipe_n, wipe_c, rb_ok, rb_exc, ofO_some, rd_some, varS_ap, conS_ap, nilA_ap, consA_ap, consR_ok, consR_exc, consR_exc0, items_ap, items_lst, items_tup, items_scr, starA_ap, starR_ok, tupS_ap, tupR_ok, lstS_ap, lstR_ok, andS_ap, andR_t, andR_f, orS_ap, orR_t, orR_f, notS_ap, testS_ap, truR_bl, truR_int, ifS_ap, ifR_t, ifR_f, andT_ap, andW_t, andW_f, orT_ap, orW_t, orW_f, notT_ap, yesT_ap, tb1_ap, blR_bl, bin2_ap, b2R_ok, un1_ap, callB_ap, cbR_ok, chainS_ap, noP_ap, someP_ap, intR_ok, slS_ap, slR_ok, slD_ap, slQ_lst, slQ_tup, methS_ap, meR_ok, callS_ap, calR_ok, cal1_ok, cal1_exc, lcS_ap, lcR_ok, lcQ_ok, lcL_nil, lcL_yes, lcY_ok, lcZ_ok, itI_ap, itR_lst, itR_scr, itR_tup, itR_str, rng1I_ap, rn1R_ok, rng3I_ap, rn3R_up, zipI_ap, zpR_lst, zpR_tup, nameG_ap, nilG_ap, consG_ap, cgR_ok, tupG_2, tupG_3, seqS_ap, sqR_nx, sqR_ret, sqR_exc, passS_ap, retS_ap, retF_ap, reR_ok, reR_exc, asgS_ap, asR_ok, asR_exc, agR_ok, ownS_ap, owR_ok, iffS_ap, ifO_t, ifO_f, ifO_exc, expS_ap, exR_ok, exR_exc, forS_ap, foR_ok, forL_nil, forL_cons, flA_ok, flB_nx, appS_ap, apR_last, raiS_ap, rai1S_ap, raR_int, tryS_ap, trR_nx, trR_ret, trR_exc, starS_ap, stR_1, dr_int, dr_str, dr_bl, dr_non, dr_tup, dr_lst, dr_scr, dr_wd, dr_exn, dr_lstR, addD_ap, addQ_int, addQ_str, addQ_lst, addQ_tup, subD_int, negD_int, mulD_int, mulD_lst, fdivD_int, modD_int, powD_int, ltD_int, leD_int, gtD_int, geD_int, isn_lst, isn_non, eqB_str, eqB_int, eqD_ap, neD_ap, inB_wd, inB_chr, inD_ap, ninD_ap, omap_some, look_n, look_c, ixD_ap, ixQ_lst, ixQ_tup, ixQ_scr, ixQ_wd, ixQ_str, at_0, at_m1, at_m1c, at_p, rg2S_ap, r2R_ok, rg1S_ap, r1R_ok, rgD_ok', cut_m1, cut_pos, cut_posf, drop_0, drop_s, take_0, take_s, take_n, dl_1, dl_c, flat_rep, eq_self, Int.cast_ofNat_Int, lenD_ap, lenQ_lst, lenQ_scr, lenQ_tup, lenQ_str, intC_int, strC_str, strC_int, listC_lst, listC_tup, tupleC_lst, tupleC_tup, joinM_ap, splitM_ok, ofString_inj, List.length_cons, List.length_nil, List.length_append, List.length_map, Int.reduceNeg, Int.reduceAdd, Int.reduceSub, Int.reduceMul, Int.reduceMod, Int.reducePow, Int.reduceDiv, Int.reduceLE, Int.reduceLT, Int.reduceEq, Int.reduceToNat, Nat.reduceAdd, Nat.reduceSub, Nat.reduceLeDiff, Nat.reduceEqDiff, String.reduceEq, decide_true, decide_false, Bool.not_true, Bool.not_false, Bool.and_true, Bool.true_and, Bool.and_false, Bool.false_and, Bool.or_true, Bool.or_false, Bool.true_or, Bool.false_or, Option.isSome_some, Option.isSome_none, if_true, if_false, Bool.false_eq_true, Int.reduceBNe]
  · have hc : ((m : Int) - 4 + 1).toNat = m - 3 := by omega
    by_cases e : 3 ≤ m
    · have e1 : (0 : Int) ≤ (m : Int) - 4 + 1 := by omega
      by_cases e2 : m % 3 = 0
      · have e3 : ((m : Int) - 4 + 1) % 3 = 0 := by omega
        refine two (x := some ((["step", "step", "span"] : List Str) ++ List.replicate (m - 3) ("test" : Str))) (by simp [rolesS_lit, e, e2]) ?_ (helpL _ (.lst [.str "step", .str "step", .str "span", .str "tests"]))
        simp (disch := walk_at "ds") only [B_token_roles, v_KINDS, v_TEST, e1, e3, hc, List.map_append, rol_map, rep_0, rep_s, get_0, get_s, set_0, set_s, app_n, app_c, map_n, map_c, wipe_n, wipe_c, rb_ok, rb_exc, ofO_some, rd_some, varS_ap, conS_ap, nilA_ap, consA_ap, consR_ok, consR_exc, consR_exc0, items_ap, items_lst, items_tup, items_scr, starA_ap, starR_ok, tupS_ap, tupR_ok, lstS_ap, lstR_ok, andS_ap, andR_t, andR_f, orS_ap, orR_t, orR_f, notS_ap, testS_ap, truR_bl, truR_int, ifS_ap, ifR_t, ifR_f, andT_ap, andW_t, andW_f, orT_ap, orW_t, orW_f, notT_ap, yesT_ap, tb1_ap, blR_bl, bin2_ap, b2R_ok, un1_ap, callB_ap, cbR_ok, chainS_ap, noP_ap, someP_ap, intR_ok, slS_ap, slR_ok, slD_ap, slQ_lst, slQ_tup, methS_ap, meR_ok, callS_ap, calR_ok, cal1_ok, cal1_exc, lcS_ap, lcR_ok, lcQ_ok, lcL_nil, lcL_yes, lcY_ok, lcZ_ok, itI_ap, itR_lst, itR_scr, itR_tup, itR_str, rng1I_ap, rn1R_ok, rng3I_ap, rn3R_up, zipI_ap, zpR_lst, zpR_tup, nameG_ap, nilG_ap, consG_ap, cgR_ok, tupG_2, tupG_3, seqS_ap, sqR_nx, sqR_ret, sqR_exc, passS_ap, retS_ap, retF_ap, reR_ok, reR_exc, asgS_ap, asR_ok, asR_exc, agR_ok, ownS_ap, owR_ok, iffS_ap, ifO_t, ifO_f, ifO_exc, expS_ap, exR_ok, exR_exc, forS_ap, foR_ok, forL_nil, forL_cons, flA_ok, flB_nx, appS_ap, apR_last, raiS_ap, rai1S_ap, raR_int, tryS_ap, trR_nx, trR_ret, trR_exc, starS_ap, stR_1, dr_int, dr_str, dr_bl, dr_non, dr_tup, dr_lst, dr_scr, dr_wd, dr_exn, dr_lstR, addD_ap, addQ_int, addQ_str, addQ_lst, addQ_tup, subD_int, negD_int, mulD_int, mulD_lst, fdivD_int, modD_int, powD_int, ltD_int, leD_int, gtD_int, geD_int, isn_lst, isn_non, eqB_str, eqB_int, eqD_ap, neD_ap, inB_wd, inB_chr, inD_ap, ninD_ap, omap_some, look_n, look_c, ixD_ap, ixQ_lst, ixQ_tup, ixQ_scr, ixQ_wd, ixQ_str, at_0, at_m1, at_m1c, at_p, rg2S_ap, r2R_ok, rg1S_ap, r1R_ok, rgD_ok', cut_m1, cut_pos, cut_posf, drop_0, drop_s, take_0, take_s, take_n, dl_1, dl_c, flat_rep, eq_self, Int.cast_ofNat_Int, lenD_ap, lenQ_lst, lenQ_scr, lenQ_tup, lenQ_str, intC_int, strC_str, strC_int, listC_lst, listC_tup, tupleC_lst, tupleC_tup, joinM_ap, splitM_ok, ofString_inj, List.length_cons, List.length_nil, List.length_append, List.length_map, Int.reduceNeg, Int.reduceAdd, Int.reduceSub, Int.reduceMul, Int.reduceMod, Int.reducePow, Int.reduceDiv, Int.reduceLE, Int.reduceLT, Int.reduceEq, Int.reduceToNat, Nat.reduceAdd, Nat.reduceSub, Nat.reduceLeDiff, Nat.reduceEqDiff, String.reduceEq, decide_true, decide_false, Bool.not_true, Bool.not_false, Bool.and_true, Bool.true_and, Bool.and_false, Bool.false_and, Bool.or_true, Bool.or_false, Bool.true_or, Bool.false_or, Option.isSome_some, Option.isSome_none, if_true, if_false, Bool.false_eq_true, Int.reduceBNe]
      · have e3 : ¬ ((m : Int) - 4 + 1) % 3 = 0 := by omega
        refine two (by simp [rolesS_lit, e, e2]) ?_ (helpN (.lst [.str "step", .str "step", .str "span", .str "tests"]))
        simp (disch := walk_at "ds") only [B_token_roles, v_KINDS, v_TEST, e1, e3, hc, List.map_append, rol_map, rep_0, rep_s, get_0, get_s, set_0, set_s, app_n, app_c, map_n, map_c, wipe_n, wipe_c, rb_ok, rb_exc, ofO_some, rd_some, varS_ap, conS_ap, nilA_ap, consA_ap, consR_ok, consR_exc, consR_exc0, items_ap, items_lst, items_tup, items_scr, starA_ap, starR_ok, tupS_ap, tupR_ok, lstS_ap, lstR_ok, andS_ap, andR_t, andR_f, orS_ap, orR_t, orR_f, notS_ap, testS_ap, truR_bl, truR_int, ifS_ap, ifR_t, ifR_f, andT_ap, andW_t, andW_f, orT_ap, orW_t, orW_f, notT_ap, yesT_ap, tb1_ap, blR_bl, bin2_ap, b2R_ok, un1_ap, callB_ap, cbR_ok, chainS_ap, noP_ap, someP_ap, intR_ok, slS_ap, slR_ok, slD_ap, slQ_lst, slQ_tup, methS_ap, meR_ok, callS_ap, calR_ok, cal1_ok, cal1_exc, lcS_ap, lcR_ok, lcQ_ok, lcL_nil, lcL_yes, lcY_ok, lcZ_ok, itI_ap, itR_lst, itR_scr, itR_tup, itR_str, rng1I_ap, rn1R_ok, rng3I_ap, rn3R_up, zipI_ap, zpR_lst, zpR_tup, nameG_ap, nilG_ap, consG_ap, cgR_ok, tupG_2, tupG_3, seqS_ap, sqR_nx, sqR_ret, sqR_exc, passS_ap, retS_ap, retF_ap, reR_ok, reR_exc, asgS_ap, asR_ok, asR_exc, agR_ok, ownS_ap, owR_ok, iffS_ap, ifO_t, ifO_f, ifO_exc, expS_ap, exR_ok, exR_exc, forS_ap, foR_ok, forL_nil, forL_cons, flA_ok, flB_nx, appS_ap, apR_last, raiS_ap, rai1S_ap, raR_int, tryS_ap, trR_nx, trR_ret, trR_exc, starS_ap, stR_1, dr_int, dr_str, dr_bl, dr_non, dr_tup, dr_lst, dr_scr, dr_wd, dr_exn, dr_lstR, addD_ap, addQ_int, addQ_str, addQ_lst, addQ_tup, subD_int, negD_int, mulD_int, mulD_lst, fdivD_int, modD_int, powD_int, ltD_int, leD_int, gtD_int, geD_int, isn_lst, isn_non, eqB_str, eqB_int, eqD_ap, neD_ap, inB_wd, inB_chr, inD_ap, ninD_ap, omap_some, look_n, look_c, ixD_ap, ixQ_lst, ixQ_tup, ixQ_scr, ixQ_wd, ixQ_str, at_0, at_m1, at_m1c, at_p, rg2S_ap, r2R_ok, rg1S_ap, r1R_ok, rgD_ok', cut_m1, cut_pos, cut_posf, drop_0, drop_s, take_0, take_s, take_n, dl_1, dl_c, flat_rep, eq_self, Int.cast_ofNat_Int, lenD_ap, lenQ_lst, lenQ_scr, lenQ_tup, lenQ_str, intC_int, strC_str, strC_int, listC_lst, listC_tup, tupleC_lst, tupleC_tup, joinM_ap, splitM_ok, ofString_inj, List.length_cons, List.length_nil, List.length_append, List.length_map, Int.reduceNeg, Int.reduceAdd, Int.reduceSub, Int.reduceMul, Int.reduceMod, Int.reducePow, Int.reduceDiv, Int.reduceLE, Int.reduceLT, Int.reduceEq, Int.reduceToNat, Nat.reduceAdd, Nat.reduceSub, Nat.reduceLeDiff, Nat.reduceEqDiff, String.reduceEq, decide_true, decide_false, Bool.not_true, Bool.not_false, Bool.and_true, Bool.true_and, Bool.and_false, Bool.false_and, Bool.or_true, Bool.or_false, Bool.true_or, Bool.false_or, Option.isSome_some, Option.isSome_none, if_true, if_false, Bool.false_eq_true, Int.reduceBNe]
    · have e1 : ¬ (0 : Int) ≤ (m : Int) - 4 + 1 := by omega
      refine two (by simp [rolesS_lit, e]) ?_ (helpN (.lst [.str "step", .str "step", .str "span", .str "tests"]))
      simp (disch := walk_at "ds") only [B_token_roles, v_KINDS, v_TEST, e1, hc, List.map_append, rol_map, rep_0, rep_s, get_0, get_s, set_0, set_s, app_n, app_c, map_n, map_c, wipe_n, wipe_c, rb_ok, rb_exc, ofO_some, rd_some, varS_ap, conS_ap, nilA_ap, consA_ap, consR_ok, consR_exc, consR_exc0, items_ap, items_lst, items_tup, items_scr, starA_ap, starR_ok, tupS_ap, tupR_ok, lstS_ap, lstR_ok, andS_ap, andR_t, andR_f, orS_ap, orR_t, orR_f, notS_ap, testS_ap, truR_bl, truR_int, ifS_ap, ifR_t, ifR_f, andT_ap, andW_t, andW_f, orT_ap, orW_t, orW_f, notT_ap, yesT_ap, tb1_ap, blR_bl, bin2_ap, b2R_ok, un1_ap, callB_ap, cbR_ok, chainS_ap, noP_ap, someP_ap, intR_ok, slS_ap, slR_ok, slD_ap, slQ_lst, slQ_tup, methS_ap, meR_ok, callS_ap, calR_ok, cal1_ok, cal1_exc, lcS_ap, lcR_ok, lcQ_ok, lcL_nil, lcL_yes, lcY_ok, lcZ_ok, itI_ap, itR_lst, itR_scr, itR_tup, itR_str, rng1I_ap, rn1R_ok, rng3I_ap, rn3R_up, zipI_ap, zpR_lst, zpR_tup, nameG_ap, nilG_ap, consG_ap, cgR_ok, tupG_2, tupG_3, seqS_ap, sqR_nx, sqR_ret, sqR_exc, passS_ap, retS_ap, retF_ap, reR_ok, reR_exc, asgS_ap, asR_ok, asR_exc, agR_ok, ownS_ap, owR_ok, iffS_ap, ifO_t, ifO_f, ifO_exc, expS_ap, exR_ok, exR_exc, forS_ap, foR_ok, forL_nil, forL_cons, flA_ok, flB_nx, appS_ap, apR_last, raiS_ap, rai1S_ap, raR_int, tryS_ap, trR_nx, trR_ret, trR_exc, starS_ap, stR_1, dr_int, dr_str, dr_bl, dr_non, dr_tup, dr_lst, dr_scr, dr_wd, dr_exn, dr_lstR, addD_ap, addQ_int, addQ_str, addQ_lst, addQ_tup, subD_int, negD_int, mulD_int, mulD_lst, fdivD_int, modD_int, powD_int, ltD_int, leD_int, gtD_int, geD_int, isn_lst, isn_non, eqB_str, eqB_int, eqD_ap, neD_ap, inB_wd, inB_chr, inD_ap, ninD_ap, omap_some, look_n, look_c, ixD_ap, ixQ_lst, ixQ_tup, ixQ_scr, ixQ_wd, ixQ_str, at_0, at_m1, at_m1c, at_p, rg2S_ap, r2R_ok, rg1S_ap, r1R_ok, rgD_ok', cut_m1, cut_pos, cut_posf, drop_0, drop_s, take_0, take_s, take_n, dl_1, dl_c, flat_rep, eq_self, Int.cast_ofNat_Int, lenD_ap, lenQ_lst, lenQ_scr, lenQ_tup, lenQ_str, intC_int, strC_str, strC_int, listC_lst, listC_tup, tupleC_lst, tupleC_tup, joinM_ap, splitM_ok, ofString_inj, List.length_cons, List.length_nil, List.length_append, List.length_map, Int.reduceNeg, Int.reduceAdd, Int.reduceSub, Int.reduceMul, Int.reduceMod, Int.reducePow, Int.reduceDiv, Int.reduceLE, Int.reduceLT, Int.reduceEq, Int.reduceToNat, Nat.reduceAdd, Nat.reduceSub, Nat.reduceLeDiff, Nat.reduceEqDiff, String.reduceEq, decide_true, decide_false, Bool.not_true, Bool.not_false, Bool.and_true, Bool.true_and, Bool.and_false, Bool.false_and, Bool.or_true, Bool.or_false, Bool.true_or, Bool.false_or, Option.isSome_some, Option.isSome_none, if_true, if_false, Bool.false_eq_true, Int.reduceBNe]
  · by_cases e : m = 2
    · have e' : (m : Int) - 2 + 1 = 1 := by omega
      refine two (by simp [rolesS_lit, e]) ?_ (helpA ["step", "step"])
      simp (disch := walk_at "ds") only [B_token_roles, v_KINDS, v_TEST, e', rep_0, rep_s, get_0, get_s, set_0, set_s, app_n, app_c, map_n, map_c, wipe_n, wipe_c, rb_ok, rb_exc, ofO_some, rd_some, varS_ap, conS_ap, nilA_ap, consA_ap, consR_ok, consR_exc, consR_exc0, items_ap, items_lst, items_tup, items_scr, starA_ap, starR_ok, tupS_ap, tupR_ok, lstS_ap, lstR_ok, andS_ap, andR_t, andR_f, orS_ap, orR_t, orR_f, notS_ap, testS_ap, truR_bl, truR_int, ifS_ap, ifR_t, ifR_f, andT_ap, andW_t, andW_f, orT_ap, orW_t, orW_f, notT_ap, yesT_ap, tb1_ap, blR_bl, bin2_ap, b2R_ok, un1_ap, callB_ap, cbR_ok, chainS_ap, noP_ap, someP_ap, intR_ok, slS_ap, slR_ok, slD_ap, slQ_lst, slQ_tup, methS_ap, meR_ok, callS_ap, calR_ok, cal1_ok, cal1_exc, lcS_ap, lcR_ok, lcQ_ok, lcL_nil, lcL_yes, lcY_ok, lcZ_ok, itI_ap, itR_lst, itR_scr, itR_tup, itR_str, rng1I_ap, rn1R_ok, rng3I_ap, rn3R_up, zipI_ap, zpR_lst, zpR_tup, nameG_ap, nilG_ap, consG_ap, cgR_ok, tupG_2, tupG_3, seqS_ap, sqR_nx, sqR_ret, sqR_exc, passS_ap, retS_ap, retF_ap, reR_ok, reR_exc, asgS_ap, asR_ok, asR_exc, agR_ok, ownS_ap, owR_ok, iffS_ap, ifO_t, ifO_f, ifO_exc, expS_ap, exR_ok, exR_exc, forS_ap, foR_ok, forL_nil, forL_cons, flA_ok, flB_nx, appS_ap, apR_last, raiS_ap, rai1S_ap, raR_int, tryS_ap, trR_nx, trR_ret, trR_exc, starS_ap, stR_1, dr_int, dr_str, dr_bl, dr_non, dr_tup, dr_lst, dr_scr, dr_wd, dr_exn, dr_lstR, addD_ap, addQ_int, addQ_str, addQ_lst, addQ_tup, subD_int, negD_int, mulD_int, mulD_lst, fdivD_int, modD_int, powD_int, ltD_int, leD_int, gtD_int, geD_int, isn_lst, isn_non, eqB_str, eqB_int, eqD_ap, neD_ap, inB_wd, inB_chr, inD_ap, ninD_ap, omap_some, look_n, look_c, ixD_ap, ixQ_lst, ixQ_tup, ixQ_scr, ixQ_wd, ixQ_str, at_0, at_m1, at_m1c, at_p, rg2S_ap, r2R_ok, rg1S_ap, r1R_ok, rgD_ok', cut_m1, cut_pos, cut_posf, drop_0, drop_s, take_0, take_s, take_n, dl_1, dl_c, flat_rep, eq_self, Int.cast_ofNat_Int, lenD_ap, lenQ_lst, lenQ_scr, lenQ_tup, lenQ_str, intC_int, strC_str, strC_int, listC_lst, listC_tup, tupleC_lst, tupleC_tup, joinM_ap, splitM_ok, ofString_inj, List.length_cons, List.length_nil, List.length_append, List.length_map, Int.reduceNeg, Int.reduceAdd, Int.reduceSub, Int.reduceMul, Int.reduceMod, Int.reducePow, Int.reduceDiv, Int.reduceLE, Int.reduceLT, Int.reduceEq, Int.reduceToNat, Nat.reduceAdd, Nat.reduceSub, Nat.reduceLeDiff, Nat.reduceEqDiff, String.reduceEq, decide_true, decide_false, Bool.not_true, Bool.not_false, Bool.and_true, Bool.true_and, Bool.and_false, Bool.false_and, Bool.or_true, Bool.or_false, Bool.true_or, Bool.false_or, Option.isSome_some, Option.isSome_none, if_true, if_false, Bool.false_eq_true, Int.reduceBNe]
    · have e' : ¬ ((m : Int) - 2 + 1 = 1) := by omega
      refine two (by simp [rolesS_lit, e]) ?_ (helpN (.lst [.str "step", .str "step"]))
      simp (disch := walk_at "ds") only [B_token_roles, v_KINDS, v_TEST, e', rep_0, rep_s, get_0, get_s, set_0, set_s, app_n, app_c, map_n, map_c, wipe_n, wipe_c, rb_ok, rb_exc, ofO_some, rd_some, varS_ap, conS_ap, nilA_ap, consA_ap, consR_ok, consR_exc, consR_exc0, items_ap, items_lst, items_tup, items_scr, starA_ap, starR_ok, tupS_ap, tupR_ok, lstS_ap, lstR_ok, andS_ap, andR_t, andR_f, orS_ap, orR_t, orR_f, notS_ap, testS_ap, truR_bl, truR_int, ifS_ap, ifR_t, ifR_f, andT_ap, andW_t, andW_f, orT_ap, orW_t, orW_f, notT_ap, yesT_ap, tb1_ap, blR_bl, bin2_ap, b2R_ok, un1_ap, callB_ap, cbR_ok, chainS_ap, noP_ap, someP_ap, intR_ok, slS_ap, slR_ok, slD_ap, slQ_lst, slQ_tup, methS_ap, meR_ok, callS_ap, calR_ok, cal1_ok, cal1_exc, lcS_ap, lcR_ok, lcQ_ok, lcL_nil, lcL_yes, lcY_ok, lcZ_ok, itI_ap, itR_lst, itR_scr, itR_tup, itR_str, rng1I_ap, rn1R_ok, rng3I_ap, rn3R_up, zipI_ap, zpR_lst, zpR_tup, nameG_ap, nilG_ap, consG_ap, cgR_ok, tupG_2, tupG_3, seqS_ap, sqR_nx, sqR_ret, sqR_exc, passS_ap, retS_ap, retF_ap, reR_ok, reR_exc, asgS_ap, asR_ok, asR_exc, agR_ok, ownS_ap, owR_ok, iffS_ap, ifO_t, ifO_f, ifO_exc, expS_ap, exR_ok, exR_exc, forS_ap, foR_ok, forL_nil, forL_cons, flA_ok, flB_nx, appS_ap, apR_last, raiS_ap, rai1S_ap, raR_int, tryS_ap, trR_nx, trR_ret, trR_exc, starS_ap, stR_1, dr_int, dr_str, dr_bl, dr_non, dr_tup, dr_lst, dr_scr, dr_wd, dr_exn, dr_lstR, addD_ap, addQ_int, addQ_str, addQ_lst, addQ_tup, subD_int, negD_int, mulD_int, mulD_lst, fdivD_int, modD_int, powD_int, ltD_int, leD_int, gtD_int, geD_int, isn_lst, isn_non, eqB_str, eqB_int, eqD_ap, neD_ap, inB_wd, inB_chr, inD_ap, ninD_ap, omap_some, look_n, look_c, ixD_ap, ixQ_lst, ixQ_tup, ixQ_scr, ixQ_wd, ixQ_str, at_0, at_m1, at_m1c, at_p, rg2S_ap, r2R_ok, rg1S_ap, r1R_ok, rgD_ok', cut_m1, cut_pos, cut_posf, drop_0, drop_s, take_0, take_s, take_n, dl_1, dl_c, flat_rep, eq_self, Int.cast_ofNat_Int, lenD_ap, lenQ_lst, lenQ_scr, lenQ_tup, lenQ_str, intC_int, strC_str, strC_int, listC_lst, listC_tup, tupleC_lst, tupleC_tup, joinM_ap, splitM_ok, ofString_inj, List.length_cons, List.length_nil, List.length_append, List.length_map, Int.reduceNeg, Int.reduceAdd, Int.reduceSub, Int.reduceMul, Int.reduceMod, Int.reducePow, Int.reduceDiv, Int.reduceLE, Int.reduceLT, Int.reduceEq, Int.reduceToNat, Nat.reduceAdd, Nat.reduceSub, Nat.reduceLeDiff, Nat.reduceEqDiff, String.reduceEq, decide_true, decide_false, Bool.not_true, Bool.not_false, Bool.and_true, Bool.true_and, Bool.and_false, Bool.false_and, Bool.or_true, Bool.or_false, Bool.true_or, Bool.false_or, Option.isSome_some, Option.isSome_none, if_true, if_false, Bool.false_eq_true, Int.reduceBNe]
  · have hc : ((m : Int) - 2 + 1).toNat = m - 1 := by omega
    by_cases e : 2 ≤ m
    · have e1 : (1 : Int) ≤ (m : Int) - 2 + 1 := by omega
      refine two (x := some (("step" : Str) :: List.replicate (m - 1) ("column" : Str))) (by simp [rolesS_lit, e]) ?_ (helpL _ (.lst [.str "step", .str "columns"]))
      simp (disch := walk_at "ds") only [B_token_roles, v_KINDS, v_TEST, e1, hc, List.map_append, rol_map, rep_0, rep_s, get_0, get_s, set_0, set_s, app_n, app_c, map_n, map_c, wipe_n, wipe_c, rb_ok, rb_exc, ofO_some, rd_some, varS_ap, conS_ap, nilA_ap, consA_ap, consR_ok, consR_exc, consR_exc0, items_ap, items_lst, items_tup, items_scr, starA_ap, starR_ok, tupS_ap, tupR_ok, lstS_ap, lstR_ok, andS_ap, andR_t, andR_f, orS_ap, orR_t, orR_f, notS_ap, testS_ap, truR_bl, truR_int, ifS_ap, ifR_t, ifR_f, andT_ap, andW_t, andW_f, orT_ap, orW_t, orW_f, notT_ap, yesT_ap, tb1_ap, blR_bl, bin2_ap, b2R_ok, un1_ap, callB_ap, cbR_ok, chainS_ap, noP_ap, someP_ap, intR_ok, slS_ap, slR_ok, slD_ap, slQ_lst, slQ_tup, methS_ap, meR_ok, callS_ap, calR_ok, cal1_ok, cal1_exc, lcS_ap, lcR_ok, lcQ_ok, lcL_nil, lcL_yes, lcY_ok, lcZ_ok, itI_ap, itR_lst, itR_scr, itR_tup, itR_str, rng1I_ap, rn1R_ok, rng3I_ap, rn3R_up, zipI_ap, zpR_lst, zpR_tup, nameG_ap, nilG_ap, consG_ap, cgR_ok, tupG_2, tupG_3, seqS_ap, sqR_nx, sqR_ret, sqR_exc, passS_ap, retS_ap, retF_ap, reR_ok, reR_exc, asgS_ap, asR_ok, asR_exc, agR_ok, ownS_ap, owR_ok, iffS_ap, ifO_t, ifO_f, ifO_exc, expS_ap, exR_ok, exR_exc, forS_ap, foR_ok, forL_nil, forL_cons, flA_ok, flB_nx, appS_ap, apR_last, raiS_ap, rai1S_ap, raR_int, tryS_ap, trR_nx, trR_ret, trR_exc, starS_ap, stR_1, dr_int, dr_str, dr_bl, dr_non, dr_tup, dr_lst, dr_scr, dr_wd, dr_exn, dr_lstR, addD_ap, addQ_int, addQ_str, addQ_lst, addQ_tup, subD_int, negD_int, mulD_int, mulD_lst, fdivD_int, modD_int, powD_int, ltD_int, leD_int, gtD_int, geD_int, isn_lst, isn_non, eqB_str, eqB_int, eqD_ap, neD_ap, inB_wd, inB_chr, inD_ap, ninD_ap, omap_some, look_n, look_c, ixD_ap, ixQ_lst, ixQ_tup, ixQ_scr, ixQ_wd, ixQ_str, at_0, at_m1, at_m1c, at_p, rg2S_ap, r2R_ok, rg1S_ap, r1R_ok, rgD_ok', cut_m1, cut_pos, cut_posf, drop_0, drop_s, take_0, take_s, take_n, dl_1, dl_c, flat_rep, eq_self, Int.cast_ofNat_Int, lenD_ap, lenQ_lst, lenQ_scr, lenQ_tup, lenQ_str, intC_int, strC_str, strC_int, listC_lst, listC_tup, tupleC_lst, tupleC_tup, joinM_ap, splitM_ok, ofString_inj, List.length_cons, List.length_nil, List.length_append, List.length_map, Int.reduceNeg, Int.reduceAdd, Int.reduceSub, Int.reduceMul, Int.reduceMod, Int.reducePow, Int.reduceDiv, Int.reduceLE, Int.reduceLT, Int.reduceEq, Int.reduceToNat, Nat.reduceAdd, Nat.reduceSub, Nat.reduceLeDiff, Nat.reduceEqDiff, String.reduceEq, decide_true, decide_false, Bool.not_true, Bool.not_false, Bool.and_true, Bool.true_and, Bool.and_false, Bool.false_and, Bool.or_true, Bool.or_false, Bool.true_or, Bool.false_or, Option.isSome_some, Option.isSome_none, if_true, if_false, Bool.false_eq_true, Int.reduceBNe]
    · have e1 : ¬ (1 : Int) ≤ (m : Int) - 2 + 1 := by omega
      refine two (by simp [rolesS_lit, e]) ?_ (helpN (.lst [.str "step", .str "columns"]))
      simp (disch := walk_at "ds") only [B_token_roles, v_KINDS, v_TEST, e1, hc, rep_0, rep_s, get_0, get_s, set_0, set_s, app_n, app_c, map_n, map_c, wipe_n, wipe_c, rb_ok, rb_exc, ofO_some, rd_some, varS_ap, conS_ap, nilA_ap, consA_ap, consR_ok, consR_exc, consR_exc0, items_ap, items_lst, items_tup, items_scr, starA_ap, starR_ok, tupS_ap, tupR_ok, lstS_ap, lstR_ok, andS_ap, andR_t, andR_f, orS_ap, orR_t, orR_f, notS_ap, testS_ap, truR_bl, truR_int, ifS_ap, ifR_t, ifR_f, andT_ap, andW_t, andW_f, orT_ap, orW_t, orW_f, notT_ap, yesT_ap, tb1_ap, blR_bl, bin2_ap, b2R_ok, un1_ap, callB_ap, cbR_ok, chainS_ap, noP_ap, someP_ap, intR_ok, slS_ap, slR_ok, slD_ap, slQ_lst, slQ_tup, methS_ap, meR_ok, callS_ap, calR_ok, cal1_ok, cal1_exc, lcS_ap, lcR_ok, lcQ_ok, lcL_nil, lcL_yes, lcY_ok, lcZ_ok, itI_ap, itR_lst, itR_scr, itR_tup, itR_str, rng1I_ap, rn1R_ok, rng3I_ap, rn3R_up, zipI_ap, zpR_lst, zpR_tup, nameG_ap, nilG_ap, consG_ap, cgR_ok, tupG_2, tupG_3, seqS_ap, sqR_nx, sqR_ret, sqR_exc, passS_ap, retS_ap, retF_ap, reR_ok, reR_exc, asgS_ap, asR_ok, asR_exc, agR_ok, ownS_ap, owR_ok, iffS_ap, ifO_t, ifO_f, ifO_exc, expS_ap, exR_ok, exR_exc, forS_ap, foR_ok, forL_nil, forL_cons, flA_ok, flB_nx, appS_ap, apR_last, raiS_ap, rai1S_ap, raR_int, tryS_ap, trR_nx, trR_ret, trR_exc, starS_ap, stR_1, dr_int, dr_str, dr_bl, dr_non, dr_tup, dr_lst, dr_scr, dr_wd, dr_exn, dr_lstR, addD_ap, addQ_int, addQ_str, addQ_lst, addQ_tup, subD_int, negD_int, mulD_int, mulD_lst, fdivD_int, modD_int, powD_int, ltD_int, leD_int, gtD_int, geD_int, isn_lst, isn_non, eqB_str, eqB_int, eqD_ap, neD_ap, inB_wd, inB_chr, inD_ap, ninD_ap, omap_some, look_n, look_c, ixD_ap, ixQ_lst, ixQ_tup, ixQ_scr, ixQ_wd, ixQ_str, at_0, at_m1, at_m1c, at_p, rg2S_ap, r2R_ok, rg1S_ap, r1R_ok, rgD_ok', cut_m1, cut_pos, cut_posf, drop_0, drop_s, take_0, take_s, take_n, dl_1, dl_c, flat_rep, eq_self, Int.cast_ofNat_Int, lenD_ap, lenQ_lst, lenQ_scr, lenQ_tup, lenQ_str, intC_int, strC_str, strC_int, listC_lst, listC_tup, tupleC_lst, tupleC_tup, joinM_ap, splitM_ok, ofString_inj, List.length_cons, List.length_nil, List.length_append, List.length_map, Int.reduceNeg, Int.reduceAdd, Int.reduceSub, Int.reduceMul, Int.reduceMod, Int.reducePow, Int.reduceDiv, Int.reduceLE, Int.reduceLT, Int.reduceEq, Int.reduceToNat, Nat.reduceAdd, Nat.reduceSub, Nat.reduceLeDiff, Nat.reduceEqDiff, String.reduceEq, decide_true, decide_false, Bool.not_true, Bool.not_false, Bool.and_true, Bool.true_and, Bool.and_false, Bool.false_and, Bool.or_true, Bool.or_false, Bool.true_or, Bool.false_or, Option.isSome_some, Option.isSome_none, if_true, if_false, Bool.false_eq_true, Int.reduceBNe]

def numsR : List Str := ["step", "column", "mark", "size"]
theorem nums_eq : v_NUMBERS = .tup (numsR.map .str) := rfl
theorem nums_sok : ∀ s ∈ numsR, sOk s := by decide +kernel
theorem roles_ok {k : Str} {n : Nat} {rs : List Str} (h : rolesS k n = some rs) : rs.length = n ∧ (∀ r ∈ rs, sOk r) ∧ k ∈ kinds := by
  unfold rolesS at h
  repeat' split at h
  all_goals first
    | (cases h; done)
    | (injection h with h; subst h; rename_i h1 h2; subst h1; refine ⟨by simp; omega, ?_, by simp [kinds]⟩; decide +kernel)
    | (injection h with h; subst h; rename_i h1 h2; subst h1; refine ⟨by simp; omega, fun r hr => ?_, by simp [kinds]⟩; simp only [List.mem_append, List.mem_cons, List.mem_replicate, List.not_mem_nil, or_false] at hr; rcases hr with (rfl | rfl | rfl) | ⟨_, rfl⟩ <;> decide +kernel)
    | (injection h with h; subst h; rename_i h1 h2; subst h1; refine ⟨by simp; omega, fun r hr => ?_, by simp [kinds]⟩; simp only [List.mem_append, List.mem_cons, List.mem_replicate, List.not_mem_nil, or_false] at hr; rcases hr with rfl | ⟨_, rfl⟩ <;> decide +kernel)
def wfS (k : Str) (ts : List Str) : Bool := decide (k ∈ kinds) && (!decide (("" : Str) ∈ ts) && match rolesS k ts.length with
  | none => false
  | some rs => (List.zip rs ts).all fun p => !decide (p.1 ∈ numsR) || isNum p.2)
theorem in_kinds {ρ : List D} {k : Str} : inB ρ (.str k) v_KINDS = some (decide (k ∈ kinds)) := by
  show some (lookW _ _ k).isSome = _
  congr 1
  by_cases h : k ∈ kinds
  · rw [decide_eq_true h]
    rcases kind_cases h with rfl | rfl | rfl | rfl | rfl | rfl | rfl | rfl <;> simp only [look_c, look_n, ofString_inj, String.reduceEq, if_true, if_false, Option.isSome_some]
  · rw [decide_eq_false h]
    simp only [kinds, List.mem_cons, List.not_mem_nil, not_or] at h
    obtain ⟨h1, h2, h3, h4, h5, h6, h7, h8, _⟩ := h
    simp only [look_c, look_n, if_neg (Ne.symm h1), if_neg (Ne.symm h2), if_neg (Ne.symm h3), if_neg (Ne.symm h4), if_neg (Ne.symm h5), if_neg (Ne.symm h6), if_neg (Ne.symm h7), if_neg (Ne.symm h8), Option.isSome_none]
theorem zipL_strs : ∀ (l m : List Str), zipL (l.map .str) (m.map .str) = (List.zip l m).map fun p => .tup [.str p.1, .str p.2]
  | [], m => by simp [zipL]
  | a :: l, [] => by simp [zipL]
  | a :: l, b :: m => by
    have := zipL_strs l m
    simp only [zipL, List.map_cons, List.zipWith_cons_cons, List.zip_cons_cons] at this ⊢
    rw [this]
theorem r_wf {n : Nat} {ρ : List D} {k : Str} {ts : List Str} (hk : sOk k) (ht : ∀ t ∈ ts, sOk t ∧ t.length ≤ 100000) (hl : ts.length ≤ 900) : run Tb (n + 2) 4 (fun _ => false) ρ [.str k, .lst (ts.map .str)] = .ok false (.bl (wfS k ts)) ρ := by
  refine run_res 2 5 B_is_well_formed (o := .ret false (.bl (wfS k ts)) ρ) rfl rfl rfl ?_ (fin_ret0 (by intro r h; cases h) rfl)
  have hin := inB_lst (ρ := ρ) (x := "") (ss := ts) (by decide +kernel) fun t h => (ht t h).1
  unfold wfS
  by_cases h1 : k ∈ kinds
  · by_cases h2 : ("" : Str) ∈ ts
    · simp (disch := walk_at "ds") only [B_is_well_formed, in_kinds, h1, hin, h2, rep_0, rep_s, get_0, get_s, set_0, set_s, app_n, app_c, map_n, map_c, wipe_n, wipe_c, rb_ok, rb_exc, ofO_some, rd_some, varS_ap, conS_ap, nilA_ap, consA_ap, consR_ok, consR_exc, consR_exc0, items_ap, items_lst, items_tup, items_scr, starA_ap, starR_ok, tupS_ap, tupR_ok, lstS_ap, lstR_ok, andS_ap, andR_t, andR_f, orS_ap, orR_t, orR_f, notS_ap, testS_ap, truR_bl, truR_int, ifS_ap, ifR_t, ifR_f, andT_ap, andW_t, andW_f, orT_ap, orW_t, orW_f, notT_ap, yesT_ap, tb1_ap, blR_bl, bin2_ap, b2R_ok, un1_ap, callB_ap, cbR_ok, chainS_ap, noP_ap, someP_ap, intR_ok, slS_ap, slR_ok, slD_ap, slQ_lst, slQ_tup, methS_ap, meR_ok, callS_ap, calR_ok, cal1_ok, cal1_exc, lcS_ap, lcR_ok, lcQ_ok, lcL_nil, lcL_yes, lcY_ok, lcZ_ok, itI_ap, itR_lst, itR_scr, itR_tup, itR_str, rng1I_ap, rn1R_ok, rng3I_ap, rn3R_up, zipI_ap, zpR_lst, zpR_tup, nameG_ap, nilG_ap, consG_ap, cgR_ok, tupG_2, tupG_3, seqS_ap, sqR_nx, sqR_ret, sqR_exc, passS_ap, retS_ap, retF_ap, reR_ok, reR_exc, asgS_ap, asR_ok, asR_exc, agR_ok, ownS_ap, owR_ok, iffS_ap, ifO_t, ifO_f, ifO_exc, expS_ap, exR_ok, exR_exc, forS_ap, foR_ok, forL_nil, forL_cons, flA_ok, flB_nx, appS_ap, apR_last, raiS_ap, rai1S_ap, raR_int, tryS_ap, trR_nx, trR_ret, trR_exc, starS_ap, stR_1, dr_int, dr_str, dr_bl, dr_non, dr_tup, dr_lst, dr_scr, dr_wd, dr_exn, dr_lstR, addD_ap, addQ_int, addQ_str, addQ_lst, addQ_tup, subD_int, negD_int, mulD_int, mulD_lst, fdivD_int, modD_int, powD_int, ltD_int, leD_int, gtD_int, geD_int, isn_lst, isn_non, eqB_str, eqB_int, eqD_ap, neD_ap, inB_wd, inB_chr, inD_ap, ninD_ap, omap_some, look_n, look_c, ixD_ap, ixQ_lst, ixQ_tup, ixQ_scr, ixQ_wd, ixQ_str, at_0, at_m1, at_m1c, at_p, rg2S_ap, r2R_ok, rg1S_ap, r1R_ok, rgD_ok', cut_m1, cut_pos, cut_posf, drop_0, drop_s, take_0, take_s, take_n, dl_1, dl_c, flat_rep, eq_self, Int.cast_ofNat_Int, lenD_ap, lenQ_lst, lenQ_scr, lenQ_tup, lenQ_str, intC_int, strC_str, strC_int, listC_lst, listC_tup, tupleC_lst, tupleC_tup, joinM_ap, splitM_ok, ofString_inj, List.length_cons, List.length_nil, List.length_append, List.length_map, Int.reduceNeg, Int.reduceAdd, Int.reduceSub, Int.reduceMul, Int.reduceMod, Int.reducePow, Int.reduceDiv, Int.reduceLE, Int.reduceLT, Int.reduceEq, Int.reduceToNat, Nat.reduceAdd, Nat.reduceSub, Nat.reduceLeDiff, Nat.reduceEqDiff, String.reduceEq, decide_true, decide_false, Bool.not_true, Bool.not_false, Bool.and_true, Bool.true_and, Bool.and_false, Bool.false_and, Bool.or_true, Bool.or_false, Bool.true_or, Bool.false_or, Option.isSome_some, Option.isSome_none, if_true, if_false, Bool.false_eq_true, Int.reduceBNe]
    · obtain ⟨fr, hr⟩ := r_roles (n := n) (m := ts.length) (ρ := ρ) h1 hl
      cases e : rolesS k ts.length with
      | none =>
        rw [e] at hr
        simp only [rolD] at hr
        simp (disch := walk_at "ds") only [B_is_well_formed, in_kinds, h1, hin, h2, hr, rep_0, rep_s, get_0, get_s, set_0, set_s, app_n, app_c, map_n, map_c, wipe_n, wipe_c, rb_ok, rb_exc, ofO_some, rd_some, varS_ap, conS_ap, nilA_ap, consA_ap, consR_ok, consR_exc, consR_exc0, items_ap, items_lst, items_tup, items_scr, starA_ap, starR_ok, tupS_ap, tupR_ok, lstS_ap, lstR_ok, andS_ap, andR_t, andR_f, orS_ap, orR_t, orR_f, notS_ap, testS_ap, truR_bl, truR_int, ifS_ap, ifR_t, ifR_f, andT_ap, andW_t, andW_f, orT_ap, orW_t, orW_f, notT_ap, yesT_ap, tb1_ap, blR_bl, bin2_ap, b2R_ok, un1_ap, callB_ap, cbR_ok, chainS_ap, noP_ap, someP_ap, intR_ok, slS_ap, slR_ok, slD_ap, slQ_lst, slQ_tup, methS_ap, meR_ok, callS_ap, calR_ok, cal1_ok, cal1_exc, lcS_ap, lcR_ok, lcQ_ok, lcL_nil, lcL_yes, lcY_ok, lcZ_ok, itI_ap, itR_lst, itR_scr, itR_tup, itR_str, rng1I_ap, rn1R_ok, rng3I_ap, rn3R_up, zipI_ap, zpR_lst, zpR_tup, nameG_ap, nilG_ap, consG_ap, cgR_ok, tupG_2, tupG_3, seqS_ap, sqR_nx, sqR_ret, sqR_exc, passS_ap, retS_ap, retF_ap, reR_ok, reR_exc, asgS_ap, asR_ok, asR_exc, agR_ok, ownS_ap, owR_ok, iffS_ap, ifO_t, ifO_f, ifO_exc, expS_ap, exR_ok, exR_exc, forS_ap, foR_ok, forL_nil, forL_cons, flA_ok, flB_nx, appS_ap, apR_last, raiS_ap, rai1S_ap, raR_int, tryS_ap, trR_nx, trR_ret, trR_exc, starS_ap, stR_1, dr_int, dr_str, dr_bl, dr_non, dr_tup, dr_lst, dr_scr, dr_wd, dr_exn, dr_lstR, addD_ap, addQ_int, addQ_str, addQ_lst, addQ_tup, subD_int, negD_int, mulD_int, mulD_lst, fdivD_int, modD_int, powD_int, ltD_int, leD_int, gtD_int, geD_int, isn_lst, isn_non, eqB_str, eqB_int, eqD_ap, neD_ap, inB_wd, inB_chr, inD_ap, ninD_ap, omap_some, look_n, look_c, ixD_ap, ixQ_lst, ixQ_tup, ixQ_scr, ixQ_wd, ixQ_str, at_0, at_m1, at_m1c, at_p, rg2S_ap, r2R_ok, rg1S_ap, r1R_ok, rgD_ok', cut_m1, cut_pos, cut_posf, drop_0, drop_s, take_0, take_s, take_n, dl_1, dl_c, flat_rep, eq_self, Int.cast_ofNat_Int, lenD_ap, lenQ_lst, lenQ_scr, lenQ_tup, lenQ_str, intC_int, strC_str, strC_int, listC_lst, listC_tup, tupleC_lst, tupleC_tup, joinM_ap, splitM_ok, ofString_inj, List.length_cons, List.length_nil, List.length_append, List.length_map, Int.reduceNeg, Int.reduceAdd, Int.reduceSub, Int.reduceMul, Int.reduceMod, Int.reducePow, Int.reduceDiv, Int.reduceLE, Int.reduceLT, Int.reduceEq, Int.reduceToNat, Nat.reduceAdd, Nat.reduceSub, Nat.reduceLeDiff, Nat.reduceEqDiff, String.reduceEq, decide_true, decide_false, Bool.not_true, Bool.not_false, Bool.and_true, Bool.true_and, Bool.and_false, Bool.false_and, Bool.or_true, Bool.or_false, Bool.true_or, Bool.false_or, Option.isSome_some, Option.isSome_none, if_true, if_false, Bool.false_eq_true, Int.reduceBNe]
      | some rs =>
        rw [e] at hr
        simp only [rolD] at hr
        obtain ⟨o1, o2, _⟩ := roles_ok e
        have hm : lcL (tupG 2 (consG (nameG 3) (consG (nameG 4) nilG))) yesT (orS (bin2 ninD (varS 3) (conS v_NUMBERS)) (callS (run Tb (n + 1)) 2 [] (consA (varS 4) nilA))) ρ [some (D.str k), some (.lst (ts.map .str)), some (.lst (rs.map .str)), none, none] ((List.zip rs ts).map fun p => .tup [.str p.1, .str p.2]) = .ok ((List.zip rs ts).map fun p => .bl (!decide (p.1 ∈ numsR) || isNum p.2)) := by
          refine lc_map _ fun p hp => ⟨[some (.str k), some (.lst (ts.map .str)), some (.lst (rs.map .str)), some (.str p.1), some (.str p.2)], rfl, ?_⟩
          have m1 := (List.of_mem_zip hp).1
          have m2 := (List.of_mem_zip hp).2
          have hq := inB_tup (ρ := ρ) (o2 _ m1) nums_sok
          have hn := r_is_number (n := n) (ρ := ρ) (ht _ m2).1 (ht _ m2).2
          by_cases h3 : p.1 ∈ numsR
          · simp (disch := walk_at "ds") only [nums_eq, hq, h3, hn, rep_0, rep_s, get_0, get_s, set_0, set_s, app_n, app_c, map_n, map_c, wipe_n, wipe_c, rb_ok, rb_exc, ofO_some, rd_some, varS_ap, conS_ap, nilA_ap, consA_ap, consR_ok, consR_exc, consR_exc0, items_ap, items_lst, items_tup, items_scr, starA_ap, starR_ok, tupS_ap, tupR_ok, lstS_ap, lstR_ok, andS_ap, andR_t, andR_f, orS_ap, orR_t, orR_f, notS_ap, testS_ap, truR_bl, truR_int, ifS_ap, ifR_t, ifR_f, andT_ap, andW_t, andW_f, orT_ap, orW_t, orW_f, notT_ap, yesT_ap, tb1_ap, blR_bl, bin2_ap, b2R_ok, un1_ap, callB_ap, cbR_ok, chainS_ap, noP_ap, someP_ap, intR_ok, slS_ap, slR_ok, slD_ap, slQ_lst, slQ_tup, methS_ap, meR_ok, callS_ap, calR_ok, cal1_ok, cal1_exc, lcS_ap, lcR_ok, lcQ_ok, lcL_nil, lcL_yes, lcY_ok, lcZ_ok, itI_ap, itR_lst, itR_scr, itR_tup, itR_str, rng1I_ap, rn1R_ok, rng3I_ap, rn3R_up, zipI_ap, zpR_lst, zpR_tup, nameG_ap, nilG_ap, consG_ap, cgR_ok, tupG_2, tupG_3, seqS_ap, sqR_nx, sqR_ret, sqR_exc, passS_ap, retS_ap, retF_ap, reR_ok, reR_exc, asgS_ap, asR_ok, asR_exc, agR_ok, ownS_ap, owR_ok, iffS_ap, ifO_t, ifO_f, ifO_exc, expS_ap, exR_ok, exR_exc, forS_ap, foR_ok, forL_nil, forL_cons, flA_ok, flB_nx, appS_ap, apR_last, raiS_ap, rai1S_ap, raR_int, tryS_ap, trR_nx, trR_ret, trR_exc, starS_ap, stR_1, dr_int, dr_str, dr_bl, dr_non, dr_tup, dr_lst, dr_scr, dr_wd, dr_exn, dr_lstR, addD_ap, addQ_int, addQ_str, addQ_lst, addQ_tup, subD_int, negD_int, mulD_int, mulD_lst, fdivD_int, modD_int, powD_int, ltD_int, leD_int, gtD_int, geD_int, isn_lst, isn_non, eqB_str, eqB_int, eqD_ap, neD_ap, inB_wd, inB_chr, inD_ap, ninD_ap, omap_some, look_n, look_c, ixD_ap, ixQ_lst, ixQ_tup, ixQ_scr, ixQ_wd, ixQ_str, at_0, at_m1, at_m1c, at_p, rg2S_ap, r2R_ok, rg1S_ap, r1R_ok, rgD_ok', cut_m1, cut_pos, cut_posf, drop_0, drop_s, take_0, take_s, take_n, dl_1, dl_c, flat_rep, eq_self, Int.cast_ofNat_Int, lenD_ap, lenQ_lst, lenQ_scr, lenQ_tup, lenQ_str, intC_int, strC_str, strC_int, listC_lst, listC_tup, tupleC_lst, tupleC_tup, joinM_ap, splitM_ok, ofString_inj, List.length_cons, List.length_nil, List.length_append, List.length_map, Int.reduceNeg, Int.reduceAdd, Int.reduceSub, Int.reduceMul, Int.reduceMod, Int.reducePow, Int.reduceDiv, Int.reduceLE, Int.reduceLT, Int.reduceEq, Int.reduceToNat, Nat.reduceAdd, Nat.reduceSub, Nat.reduceLeDiff, Nat.reduceEqDiff, String.reduceEq, decide_true, decide_false, Bool.not_true, Bool.not_false, Bool.and_true, Bool.true_and, Bool.and_false, Bool.false_and, Bool.or_true, Bool.or_false, Bool.true_or, Bool.false_or, Option.isSome_some, Option.isSome_none, if_true, if_false, Bool.false_eq_true, Int.reduceBNe]
          · simp (disch := walk_at "ds") only [nums_eq, hq, h3, rep_0, rep_s, get_0, get_s, set_0, set_s, app_n, app_c, map_n, map_c, wipe_n, wipe_c, rb_ok, rb_exc, ofO_some, rd_some, varS_ap, conS_ap, nilA_ap, consA_ap, consR_ok, consR_exc, consR_exc0, items_ap, items_lst, items_tup, items_scr, starA_ap, starR_ok, tupS_ap, tupR_ok, lstS_ap, lstR_ok, andS_ap, andR_t, andR_f, orS_ap, orR_t, orR_f, notS_ap, testS_ap, truR_bl, truR_int, ifS_ap, ifR_t, ifR_f, andT_ap, andW_t, andW_f, orT_ap, orW_t, orW_f, notT_ap, yesT_ap, tb1_ap, blR_bl, bin2_ap, b2R_ok, un1_ap, callB_ap, cbR_ok, chainS_ap, noP_ap, someP_ap, intR_ok, slS_ap, slR_ok, slD_ap, slQ_lst, slQ_tup, methS_ap, meR_ok, callS_ap, calR_ok, cal1_ok, cal1_exc, lcS_ap, lcR_ok, lcQ_ok, lcL_nil, lcL_yes, lcY_ok, lcZ_ok, itI_ap, itR_lst, itR_scr, itR_tup, itR_str, rng1I_ap, rn1R_ok, rng3I_ap, rn3R_up, zipI_ap, zpR_lst, zpR_tup, nameG_ap, nilG_ap, consG_ap, cgR_ok, tupG_2, tupG_3, seqS_ap, sqR_nx, sqR_ret, sqR_exc, passS_ap, retS_ap, retF_ap, reR_ok, reR_exc, asgS_ap, asR_ok, asR_exc, agR_ok, ownS_ap, owR_ok, iffS_ap, ifO_t, ifO_f, ifO_exc, expS_ap, exR_ok, exR_exc, forS_ap, foR_ok, forL_nil, forL_cons, flA_ok, flB_nx, appS_ap, apR_last, raiS_ap, rai1S_ap, raR_int, tryS_ap, trR_nx, trR_ret, trR_exc, starS_ap, stR_1, dr_int, dr_str, dr_bl, dr_non, dr_tup, dr_lst, dr_scr, dr_wd, dr_exn, dr_lstR, addD_ap, addQ_int, addQ_str, addQ_lst, addQ_tup, subD_int, negD_int, mulD_int, mulD_lst, fdivD_int, modD_int, powD_int, ltD_int, leD_int, gtD_int, geD_int, isn_lst, isn_non, eqB_str, eqB_int, eqD_ap, neD_ap, inB_wd, inB_chr, inD_ap, ninD_ap, omap_some, look_n, look_c, ixD_ap, ixQ_lst, ixQ_tup, ixQ_scr, ixQ_wd, ixQ_str, at_0, at_m1, at_m1c, at_p, rg2S_ap, r2R_ok, rg1S_ap, r1R_ok, rgD_ok', cut_m1, cut_pos, cut_posf, drop_0, drop_s, take_0, take_s, take_n, dl_1, dl_c, flat_rep, eq_self, Int.cast_ofNat_Int, lenD_ap, lenQ_lst, lenQ_scr, lenQ_tup, lenQ_str, intC_int, strC_str, strC_int, listC_lst, listC_tup, tupleC_lst, tupleC_tup, joinM_ap, splitM_ok, ofString_inj, List.length_cons, List.length_nil, List.length_append, List.length_map, Int.reduceNeg, Int.reduceAdd, Int.reduceSub, Int.reduceMul, Int.reduceMod, Int.reducePow, Int.reduceDiv, Int.reduceLE, Int.reduceLT, Int.reduceEq, Int.reduceToNat, Nat.reduceAdd, Nat.reduceSub, Nat.reduceLeDiff, Nat.reduceEqDiff, String.reduceEq, decide_true, decide_false, Bool.not_true, Bool.not_false, Bool.and_true, Bool.true_and, Bool.and_false, Bool.false_and, Bool.or_true, Bool.or_false, Bool.true_or, Bool.false_or, Option.isSome_some, Option.isSome_none, if_true, if_false, Bool.false_eq_true, Int.reduceBNe]
        have hlen : (List.zip rs ts).length ≤ 100000 := by rw [List.length_zip]; omega
        simp (disch := walk_at "ds") only [B_is_well_formed, in_kinds, h1, hin, h2, hr, zipL_strs, hm, allC_map, rep_0, rep_s, get_0, get_s, set_0, set_s, app_n, app_c, map_n, map_c, wipe_n, wipe_c, rb_ok, rb_exc, ofO_some, rd_some, varS_ap, conS_ap, nilA_ap, consA_ap, consR_ok, consR_exc, consR_exc0, items_ap, items_lst, items_tup, items_scr, starA_ap, starR_ok, tupS_ap, tupR_ok, lstS_ap, lstR_ok, andS_ap, andR_t, andR_f, orS_ap, orR_t, orR_f, notS_ap, testS_ap, truR_bl, truR_int, ifS_ap, ifR_t, ifR_f, andT_ap, andW_t, andW_f, orT_ap, orW_t, orW_f, notT_ap, yesT_ap, tb1_ap, blR_bl, bin2_ap, b2R_ok, un1_ap, callB_ap, cbR_ok, chainS_ap, noP_ap, someP_ap, intR_ok, slS_ap, slR_ok, slD_ap, slQ_lst, slQ_tup, methS_ap, meR_ok, callS_ap, calR_ok, cal1_ok, cal1_exc, lcS_ap, lcR_ok, lcQ_ok, lcL_nil, lcL_yes, lcY_ok, lcZ_ok, itI_ap, itR_lst, itR_scr, itR_tup, itR_str, rng1I_ap, rn1R_ok, rng3I_ap, rn3R_up, zipI_ap, zpR_lst, zpR_tup, nameG_ap, nilG_ap, consG_ap, cgR_ok, tupG_2, tupG_3, seqS_ap, sqR_nx, sqR_ret, sqR_exc, passS_ap, retS_ap, retF_ap, reR_ok, reR_exc, asgS_ap, asR_ok, asR_exc, agR_ok, ownS_ap, owR_ok, iffS_ap, ifO_t, ifO_f, ifO_exc, expS_ap, exR_ok, exR_exc, forS_ap, foR_ok, forL_nil, forL_cons, flA_ok, flB_nx, appS_ap, apR_last, raiS_ap, rai1S_ap, raR_int, tryS_ap, trR_nx, trR_ret, trR_exc, starS_ap, stR_1, dr_int, dr_str, dr_bl, dr_non, dr_tup, dr_lst, dr_scr, dr_wd, dr_exn, dr_lstR, addD_ap, addQ_int, addQ_str, addQ_lst, addQ_tup, subD_int, negD_int, mulD_int, mulD_lst, fdivD_int, modD_int, powD_int, ltD_int, leD_int, gtD_int, geD_int, isn_lst, isn_non, eqB_str, eqB_int, eqD_ap, neD_ap, inB_wd, inB_chr, inD_ap, ninD_ap, omap_some, look_n, look_c, ixD_ap, ixQ_lst, ixQ_tup, ixQ_scr, ixQ_wd, ixQ_str, at_0, at_m1, at_m1c, at_p, rg2S_ap, r2R_ok, rg1S_ap, r1R_ok, rgD_ok', cut_m1, cut_pos, cut_posf, drop_0, drop_s, take_0, take_s, take_n, dl_1, dl_c, flat_rep, eq_self, Int.cast_ofNat_Int, lenD_ap, lenQ_lst, lenQ_scr, lenQ_tup, lenQ_str, intC_int, strC_str, strC_int, listC_lst, listC_tup, tupleC_lst, tupleC_tup, joinM_ap, splitM_ok, ofString_inj, List.length_cons, List.length_nil, List.length_append, List.length_map, Int.reduceNeg, Int.reduceAdd, Int.reduceSub, Int.reduceMul, Int.reduceMod, Int.reducePow, Int.reduceDiv, Int.reduceLE, Int.reduceLT, Int.reduceEq, Int.reduceToNat, Nat.reduceAdd, Nat.reduceSub, Nat.reduceLeDiff, Nat.reduceEqDiff, String.reduceEq, decide_true, decide_false, Bool.not_true, Bool.not_false, Bool.and_true, Bool.true_and, Bool.and_false, Bool.false_and, Bool.or_true, Bool.or_false, Bool.true_or, Bool.false_or, Option.isSome_some, Option.isSome_none, if_true, if_false, Bool.false_eq_true, Int.reduceBNe]
  · simp (disch := walk_at "ds") only [B_is_well_formed, in_kinds, h1, rep_0, rep_s, get_0, get_s, set_0, set_s, app_n, app_c, map_n, map_c, wipe_n, wipe_c, rb_ok, rb_exc, ofO_some, rd_some, varS_ap, conS_ap, nilA_ap, consA_ap, consR_ok, consR_exc, consR_exc0, items_ap, items_lst, items_tup, items_scr, starA_ap, starR_ok, tupS_ap, tupR_ok, lstS_ap, lstR_ok, andS_ap, andR_t, andR_f, orS_ap, orR_t, orR_f, notS_ap, testS_ap, truR_bl, truR_int, ifS_ap, ifR_t, ifR_f, andT_ap, andW_t, andW_f, orT_ap, orW_t, orW_f, notT_ap, yesT_ap, tb1_ap, blR_bl, bin2_ap, b2R_ok, un1_ap, callB_ap, cbR_ok, chainS_ap, noP_ap, someP_ap, intR_ok, slS_ap, slR_ok, slD_ap, slQ_lst, slQ_tup, methS_ap, meR_ok, callS_ap, calR_ok, cal1_ok, cal1_exc, lcS_ap, lcR_ok, lcQ_ok, lcL_nil, lcL_yes, lcY_ok, lcZ_ok, itI_ap, itR_lst, itR_scr, itR_tup, itR_str, rng1I_ap, rn1R_ok, rng3I_ap, rn3R_up, zipI_ap, zpR_lst, zpR_tup, nameG_ap, nilG_ap, consG_ap, cgR_ok, tupG_2, tupG_3, seqS_ap, sqR_nx, sqR_ret, sqR_exc, passS_ap, retS_ap, retF_ap, reR_ok, reR_exc, asgS_ap, asR_ok, asR_exc, agR_ok, ownS_ap, owR_ok, iffS_ap, ifO_t, ifO_f, ifO_exc, expS_ap, exR_ok, exR_exc, forS_ap, foR_ok, forL_nil, forL_cons, flA_ok, flB_nx, appS_ap, apR_last, raiS_ap, rai1S_ap, raR_int, tryS_ap, trR_nx, trR_ret, trR_exc, starS_ap, stR_1, dr_int, dr_str, dr_bl, dr_non, dr_tup, dr_lst, dr_scr, dr_wd, dr_exn, dr_lstR, addD_ap, addQ_int, addQ_str, addQ_lst, addQ_tup, subD_int, negD_int, mulD_int, mulD_lst, fdivD_int, modD_int, powD_int, ltD_int, leD_int, gtD_int, geD_int, isn_lst, isn_non, eqB_str, eqB_int, eqD_ap, neD_ap, inB_wd, inB_chr, inD_ap, ninD_ap, omap_some, look_n, look_c, ixD_ap, ixQ_lst, ixQ_tup, ixQ_scr, ixQ_wd, ixQ_str, at_0, at_m1, at_m1c, at_p, rg2S_ap, r2R_ok, rg1S_ap, r1R_ok, rgD_ok', cut_m1, cut_pos, cut_posf, drop_0, drop_s, take_0, take_s, take_n, dl_1, dl_c, flat_rep, eq_self, Int.cast_ofNat_Int, lenD_ap, lenQ_lst, lenQ_scr, lenQ_tup, lenQ_str, intC_int, strC_str, strC_int, listC_lst, listC_tup, tupleC_lst, tupleC_tup, joinM_ap, splitM_ok, ofString_inj, List.length_cons, List.length_nil, List.length_append, List.length_map, Int.reduceNeg, Int.reduceAdd, Int.reduceSub, Int.reduceMul, Int.reduceMod, Int.reducePow, Int.reduceDiv, Int.reduceLE, Int.reduceLT, Int.reduceEq, Int.reduceToNat, Nat.reduceAdd, Nat.reduceSub, Nat.reduceLeDiff, Nat.reduceEqDiff, String.reduceEq, decide_true, decide_false, Bool.not_true, Bool.not_false, Bool.and_true, Bool.true_and, Bool.and_false, Bool.false_and, Bool.or_true, Bool.or_false, Bool.true_or, Bool.false_or, Option.isSome_some, Option.isSome_none, if_true, if_false, Bool.false_eq_true, Int.reduceBNe]

theorem num_dig {s : Str} (h : isNum s = true) : ∃ m : Int, PySem.intText? s = some m ∧ s.length ≤ 640 := by
  have go : NumText.AllDigits s.cps.toList → s.cps.toList ≠ [] → s.length ≤ 2 → ∃ m : Int, PySem.intText? s = some m ∧ s.length ≤ 640 := fun h1 h2 h3 => ⟨_, intText_digits h1 h2 (by omega), by omega⟩
  unfold isNum at h
  rcases Bool.or_eq_true_iff.mp h with h | h
  · have e := of_decide_eq_true h
    subst e
    exact ⟨0, by decide +kernel, by decide +kernel⟩
  · simp only [Bool.and_eq_true, decide_eq_true_eq, List.all_eq_true] at h
    obtain ⟨⟨h1, h2⟩, _, h4⟩ := h
    refine go (fun c hc => ?_) (fun e => ?_) (by omega)
    · have hc' := h4 c hc
      have : ∀ d ∈ digS, 48 ≤ d ∧ d ≤ 57 := by decide +kernel
      exact this c hc'
    · have : s.length = 0 := by show s.cps.size = 0; rw [← Array.length_toList, e]; rfl
      rw [this] at h1; omega
def numV (s : Str) : Int := (PySem.intText? s).getD 0
/-- a token as a part of the step -/
def partD (p : Str × Str) : D := if p.1 ∈ numsR then .int (numV p.2) else .str p.2
def parseD (k : Str) (ps : List D) : D :=
  if k = "pair" then .tup (.str k :: (ps.take 3 ++ [.tup ((List.range (Builtin.Range.rangeSize 3 ps.length 3).toNat).map fun j => .tup (cutL ps (some (3 + (j : Nat) * 3)) (some (3 + (j : Nat) * 3 + 3))))]))
  else if k = "keep" then .tup [.str k, ps.headD .non, .tup (ps.drop 1)]
  else .tup (.str k :: ps)
theorem parse_nr {k : Str} {ps : List D} : ∀ r, parseD k ps ≠ .rt r := by
  intro r h
  unfold parseD at h
  split at h
  · cases h
  · split at h <;> cases h
def partsD (k : Str) (ts : List Str) : List D := (List.zip ((rolesS k ts.length).getD []) ts).map partD
theorem wf_inv {k : Str} {ts : List Str} (h : wfS k ts = true) : k ∈ kinds ∧ ("" : Str) ∉ ts ∧ ∃ rs, rolesS k ts.length = some rs ∧ ∀ p ∈ List.zip rs ts, p.1 ∈ numsR → isNum p.2 = true := by
  unfold wfS at h
  simp only [Bool.and_eq_true, decide_eq_true_eq, Bool.not_eq_true', decide_eq_false_iff_not] at h
  obtain ⟨h1, h2, h3⟩ := h
  cases e : rolesS k ts.length with
  | none => rw [e] at h3; cases h3
  | some rs =>
    rw [e] at h3
    simp only [List.all_eq_true, Bool.or_eq_true, Bool.not_eq_true', decide_eq_false_iff_not] at h3
    exact ⟨h1, h2, rs, rfl, fun p hp hn => (h3 p hp).resolve_left fun z => z hn⟩
theorem okRt_part (n : Nat) (p : Str × Str) : okRt n (partD p) = true := by unfold partD; split <;> rfl
theorem okL_parts (n : Nat) (l : List (Str × Str)) : ∀ d ∈ l.map partD, okRt n d = true := fun d hd => by
  obtain ⟨p, _, rfl⟩ := List.mem_map.mp hd
  exact okRt_part n p
theorem r_parse {n : Nat} {ρ : List D} {line k : Str} {ts : List Str} {i : Int} (hi : i.natAbs.log2 < 1920) (hl : line.length ≤ 100000) (hs : Txt.split line " " = k :: ts) (hk : sOk k) (ht : ∀ t ∈ ts, sOk t ∧ t.length ≤ 100000) (hn : ts.length ≤ 900) :
    run Tb (n + 3) 5 (fun _ => false) ρ [.str line, .int i] = if wfS k ts = true then .ok false (parseD k (partsD k ts)) ρ else .exc 1 [.int i] ρ := by
  have hw := r_wf (n := n) (ρ := ρ) hk ht hn
  have hsp : (" " : Str).length ≠ 0 := by decide +kernel
  by_cases h : wfS k ts = true
  · rw [if_pos h]
    rw [h] at hw
    obtain ⟨h1, h2, rs, e, hnum⟩ := wf_inv h
    obtain ⟨o1, o2, _⟩ := roles_ok e
    obtain ⟨fr, hr⟩ := r_roles (n := n + 1) (m := ts.length) (ρ := ρ) h1 hn
    rw [e] at hr
    simp only [rolD] at hr
    have hps : partsD k ts = (List.zip rs ts).map partD := by unfold partsD; rw [e]; rfl
    have hlp : (partsD k ts).length = ts.length := by rw [hps, List.length_map, List.length_zip]; omega
    have hall : ∀ d ∈ partsD k ts, okRt ρ.length d = true := by rw [hps]; exact okL_parts _ _
    have hlen : (List.zip rs ts).length ≤ 100000 := by rw [List.length_zip]; omega
    have hm : ∀ x9 : Option D, lcL (tupG 2 (consG (nameG 7) (consG (nameG 8) nilG))) yesT (ifS (tb1 (bin2 inD (varS 7) (conS v_NUMBERS))) (callB intC (consA (varS 8) nilA)) (varS 8)) ρ [some (D.str line), some (.int i), some (.str k), some (.lst (ts.map .str)), some (.lst (rs.map .str)), none, none, none, none, x9] ((List.zip rs ts).map fun p => .tup [.str p.1, .str p.2]) = .ok (partsD k ts) := by
      intro x9
      rw [hps]
      refine lc_map _ fun p hp => ⟨[some (D.str line), some (.int i), some (.str k), some (.lst (ts.map .str)), some (.lst (rs.map .str)), none, none, some (.str p.1), some (.str p.2), x9], rfl, ?_⟩
      have m1 := (List.of_mem_zip hp).1
      have m2 := (List.of_mem_zip hp).2
      have hq := inB_tup (ρ := ρ) (o2 _ m1) nums_sok
      unfold partD
      by_cases h3 : p.1 ∈ numsR
      · obtain ⟨m, e1, e2⟩ := num_dig (hnum p hp h3)
        have e3 : numV p.2 = m := by unfold numV; rw [e1]; rfl
        rw [if_pos h3, e3]
        simp (disch := walk_at "ds") only [nums_eq, hq, h3, intC_str e2 e1, rep_0, rep_s, get_0, get_s, set_0, set_s, app_n, app_c, map_n, map_c, wipe_n, wipe_c, rb_ok, rb_exc, ofO_some, rd_some, varS_ap, conS_ap, nilA_ap, consA_ap, consR_ok, consR_exc, consR_exc0, items_ap, items_lst, items_tup, items_scr, starA_ap, starR_ok, tupS_ap, tupR_ok, lstS_ap, lstR_ok, andS_ap, andR_t, andR_f, orS_ap, orR_t, orR_f, notS_ap, testS_ap, truR_bl, truR_int, ifS_ap, ifR_t, ifR_f, andT_ap, andW_t, andW_f, orT_ap, orW_t, orW_f, notT_ap, yesT_ap, tb1_ap, blR_bl, bin2_ap, b2R_ok, un1_ap, callB_ap, cbR_ok, chainS_ap, noP_ap, someP_ap, intR_ok, slS_ap, slR_ok, slD_ap, slQ_lst, slQ_tup, methS_ap, meR_ok, callS_ap, calR_ok, cal1_ok, cal1_exc, lcS_ap, lcR_ok, lcQ_ok, lcL_nil, lcL_yes, lcY_ok, lcZ_ok, itI_ap, itR_lst, itR_scr, itR_tup, itR_str, rng1I_ap, rn1R_ok, rng3I_ap, rn3R_up, zipI_ap, zpR_lst, zpR_tup, nameG_ap, nilG_ap, consG_ap, cgR_ok, tupG_2, tupG_3, seqS_ap, sqR_nx, sqR_ret, sqR_exc, passS_ap, retS_ap, retF_ap, reR_ok, reR_exc, asgS_ap, asR_ok, asR_exc, agR_ok, ownS_ap, owR_ok, iffS_ap, ifO_t, ifO_f, ifO_exc, expS_ap, exR_ok, exR_exc, forS_ap, foR_ok, forL_nil, forL_cons, flA_ok, flB_nx, appS_ap, apR_last, raiS_ap, rai1S_ap, raR_int, tryS_ap, trR_nx, trR_ret, trR_exc, starS_ap, stR_1, dr_int, dr_str, dr_bl, dr_non, dr_tup, dr_lst, dr_scr, dr_wd, dr_exn, dr_lstR, addD_ap, addQ_int, addQ_str, addQ_lst, addQ_tup, subD_int, negD_int, mulD_int, mulD_lst, fdivD_int, modD_int, powD_int, ltD_int, leD_int, gtD_int, geD_int, isn_lst, isn_non, eqB_str, eqB_int, eqD_ap, neD_ap, inB_wd, inB_chr, inD_ap, ninD_ap, omap_some, look_n, look_c, ixD_ap, ixQ_lst, ixQ_tup, ixQ_scr, ixQ_wd, ixQ_str, at_0, at_m1, at_m1c, at_p, rg2S_ap, r2R_ok, rg1S_ap, r1R_ok, rgD_ok', cut_m1, cut_pos, cut_posf, drop_0, drop_s, take_0, take_s, take_n, dl_1, dl_c, flat_rep, eq_self, Int.cast_ofNat_Int, lenD_ap, lenQ_lst, lenQ_scr, lenQ_tup, lenQ_str, intC_int, strC_str, strC_int, listC_lst, listC_tup, tupleC_lst, tupleC_tup, joinM_ap, splitM_ok, ofString_inj, List.length_cons, List.length_nil, List.length_append, List.length_map, Int.reduceNeg, Int.reduceAdd, Int.reduceSub, Int.reduceMul, Int.reduceMod, Int.reducePow, Int.reduceDiv, Int.reduceLE, Int.reduceLT, Int.reduceEq, Int.reduceToNat, Nat.reduceAdd, Nat.reduceSub, Nat.reduceLeDiff, Nat.reduceEqDiff, String.reduceEq, decide_true, decide_false, Bool.not_true, Bool.not_false, Bool.and_true, Bool.true_and, Bool.and_false, Bool.false_and, Bool.or_true, Bool.or_false, Bool.true_or, Bool.false_or, Option.isSome_some, Option.isSome_none, if_true, if_false, Bool.false_eq_true, Int.reduceBNe]
      · rw [if_neg h3]
        simp (disch := walk_at "ds") only [nums_eq, hq, h3, rep_0, rep_s, get_0, get_s, set_0, set_s, app_n, app_c, map_n, map_c, wipe_n, wipe_c, rb_ok, rb_exc, ofO_some, rd_some, varS_ap, conS_ap, nilA_ap, consA_ap, consR_ok, consR_exc, consR_exc0, items_ap, items_lst, items_tup, items_scr, starA_ap, starR_ok, tupS_ap, tupR_ok, lstS_ap, lstR_ok, andS_ap, andR_t, andR_f, orS_ap, orR_t, orR_f, notS_ap, testS_ap, truR_bl, truR_int, ifS_ap, ifR_t, ifR_f, andT_ap, andW_t, andW_f, orT_ap, orW_t, orW_f, notT_ap, yesT_ap, tb1_ap, blR_bl, bin2_ap, b2R_ok, un1_ap, callB_ap, cbR_ok, chainS_ap, noP_ap, someP_ap, intR_ok, slS_ap, slR_ok, slD_ap, slQ_lst, slQ_tup, methS_ap, meR_ok, callS_ap, calR_ok, cal1_ok, cal1_exc, lcS_ap, lcR_ok, lcQ_ok, lcL_nil, lcL_yes, lcY_ok, lcZ_ok, itI_ap, itR_lst, itR_scr, itR_tup, itR_str, rng1I_ap, rn1R_ok, rng3I_ap, rn3R_up, zipI_ap, zpR_lst, zpR_tup, nameG_ap, nilG_ap, consG_ap, cgR_ok, tupG_2, tupG_3, seqS_ap, sqR_nx, sqR_ret, sqR_exc, passS_ap, retS_ap, retF_ap, reR_ok, reR_exc, asgS_ap, asR_ok, asR_exc, agR_ok, ownS_ap, owR_ok, iffS_ap, ifO_t, ifO_f, ifO_exc, expS_ap, exR_ok, exR_exc, forS_ap, foR_ok, forL_nil, forL_cons, flA_ok, flB_nx, appS_ap, apR_last, raiS_ap, rai1S_ap, raR_int, tryS_ap, trR_nx, trR_ret, trR_exc, starS_ap, stR_1, dr_int, dr_str, dr_bl, dr_non, dr_tup, dr_lst, dr_scr, dr_wd, dr_exn, dr_lstR, addD_ap, addQ_int, addQ_str, addQ_lst, addQ_tup, subD_int, negD_int, mulD_int, mulD_lst, fdivD_int, modD_int, powD_int, ltD_int, leD_int, gtD_int, geD_int, isn_lst, isn_non, eqB_str, eqB_int, eqD_ap, neD_ap, inB_wd, inB_chr, inD_ap, ninD_ap, omap_some, look_n, look_c, ixD_ap, ixQ_lst, ixQ_tup, ixQ_scr, ixQ_wd, ixQ_str, at_0, at_m1, at_m1c, at_p, rg2S_ap, r2R_ok, rg1S_ap, r1R_ok, rgD_ok', cut_m1, cut_pos, cut_posf, drop_0, drop_s, take_0, take_s, take_n, dl_1, dl_c, flat_rep, eq_self, Int.cast_ofNat_Int, lenD_ap, lenQ_lst, lenQ_scr, lenQ_tup, lenQ_str, intC_int, strC_str, strC_int, listC_lst, listC_tup, tupleC_lst, tupleC_tup, joinM_ap, splitM_ok, ofString_inj, List.length_cons, List.length_nil, List.length_append, List.length_map, Int.reduceNeg, Int.reduceAdd, Int.reduceSub, Int.reduceMul, Int.reduceMod, Int.reducePow, Int.reduceDiv, Int.reduceLE, Int.reduceLT, Int.reduceEq, Int.reduceToNat, Nat.reduceAdd, Nat.reduceSub, Nat.reduceLeDiff, Nat.reduceEqDiff, String.reduceEq, decide_true, decide_false, Bool.not_true, Bool.not_false, Bool.and_true, Bool.true_and, Bool.and_false, Bool.false_and, Bool.or_true, Bool.or_false, Bool.true_or, Bool.false_or, Option.isSome_some, Option.isSome_none, if_true, if_false, Bool.false_eq_true, Int.reduceBNe]
    generalize hgp : partsD k ts = ps at *
    have hc3 : cutL ps none (some 3) = ps.take 3 := cut_to (n := 3)
    have hc1 : cutL ps (some 1) none = ps.drop 1 := cut_from (n := 1)
    refine run_res 2 10 B_parse_step (o := .ret false (parseD k ps) ρ) rfl rfl rfl ?_ (fin_ret0 parse_nr ?_)
    · unfold parseD
      by_cases hp : k = "pair"
      · rw [if_pos hp]
        have hpk : sOk "pair" := by decide +kernel
        have hts : lcL (nameG 9) yesT (callB tupleC (consA (slS (varS 5) (someP (varS 9)) (someP (bin2 addD (varS 9) (callB lenD (consA (conS v_TEST) nilA))))) nilA)) ρ [some (D.str line), some (.int i), some (.str k), some (.lst (ts.map .str)), some (.lst (rs.map .str)), some (.lst ps), none, none, none, none] (rng3L 3 3 (Builtin.Range.rangeSize 3 ps.length 3).toNat) = .ok ((List.range (Builtin.Range.rangeSize 3 ps.length 3).toNat).map fun j => .tup (cutL ps (some (3 + (j : Nat) * 3)) (some (3 + (j : Nat) * 3 + 3)))) := by
          refine lc_map _ fun j hj => ⟨[some (D.str line), some (.int i), some (.str k), some (.lst (ts.map .str)), some (.lst (rs.map .str)), some (.lst ps), none, none, none, some (.int (3 + (j : Nat) * 3))], rfl, ?_⟩
          simp (disch := walk_at "ds") only [v_TEST, rep_0, rep_s, get_0, get_s, set_0, set_s, app_n, app_c, map_n, map_c, wipe_n, wipe_c, rb_ok, rb_exc, ofO_some, rd_some, varS_ap, conS_ap, nilA_ap, consA_ap, consR_ok, consR_exc, consR_exc0, items_ap, items_lst, items_tup, items_scr, starA_ap, starR_ok, tupS_ap, tupR_ok, lstS_ap, lstR_ok, andS_ap, andR_t, andR_f, orS_ap, orR_t, orR_f, notS_ap, testS_ap, truR_bl, truR_int, ifS_ap, ifR_t, ifR_f, andT_ap, andW_t, andW_f, orT_ap, orW_t, orW_f, notT_ap, yesT_ap, tb1_ap, blR_bl, bin2_ap, b2R_ok, un1_ap, callB_ap, cbR_ok, chainS_ap, noP_ap, someP_ap, intR_ok, slS_ap, slR_ok, slD_ap, slQ_lst, slQ_tup, methS_ap, meR_ok, callS_ap, calR_ok, cal1_ok, cal1_exc, lcS_ap, lcR_ok, lcQ_ok, lcL_nil, lcL_yes, lcY_ok, lcZ_ok, itI_ap, itR_lst, itR_scr, itR_tup, itR_str, rng1I_ap, rn1R_ok, rng3I_ap, rn3R_up, zipI_ap, zpR_lst, zpR_tup, nameG_ap, nilG_ap, consG_ap, cgR_ok, tupG_2, tupG_3, seqS_ap, sqR_nx, sqR_ret, sqR_exc, passS_ap, retS_ap, retF_ap, reR_ok, reR_exc, asgS_ap, asR_ok, asR_exc, agR_ok, ownS_ap, owR_ok, iffS_ap, ifO_t, ifO_f, ifO_exc, expS_ap, exR_ok, exR_exc, forS_ap, foR_ok, forL_nil, forL_cons, flA_ok, flB_nx, appS_ap, apR_last, raiS_ap, rai1S_ap, raR_int, tryS_ap, trR_nx, trR_ret, trR_exc, starS_ap, stR_1, dr_int, dr_str, dr_bl, dr_non, dr_tup, dr_lst, dr_scr, dr_wd, dr_exn, dr_lstR, addD_ap, addQ_int, addQ_str, addQ_lst, addQ_tup, subD_int, negD_int, mulD_int, mulD_lst, fdivD_int, modD_int, powD_int, ltD_int, leD_int, gtD_int, geD_int, isn_lst, isn_non, eqB_str, eqB_int, eqD_ap, neD_ap, inB_wd, inB_chr, inD_ap, ninD_ap, omap_some, look_n, look_c, ixD_ap, ixQ_lst, ixQ_tup, ixQ_scr, ixQ_wd, ixQ_str, at_0, at_m1, at_m1c, at_p, rg2S_ap, r2R_ok, rg1S_ap, r1R_ok, rgD_ok', cut_m1, cut_pos, cut_posf, drop_0, drop_s, take_0, take_s, take_n, dl_1, dl_c, flat_rep, eq_self, Int.cast_ofNat_Int, lenD_ap, lenQ_lst, lenQ_scr, lenQ_tup, lenQ_str, intC_int, strC_str, strC_int, listC_lst, listC_tup, tupleC_lst, tupleC_tup, joinM_ap, splitM_ok, ofString_inj, List.length_cons, List.length_nil, List.length_append, List.length_map, Int.reduceNeg, Int.reduceAdd, Int.reduceSub, Int.reduceMul, Int.reduceMod, Int.reducePow, Int.reduceDiv, Int.reduceLE, Int.reduceLT, Int.reduceEq, Int.reduceToNat, Nat.reduceAdd, Nat.reduceSub, Nat.reduceLeDiff, Nat.reduceEqDiff, String.reduceEq, decide_true, decide_false, Bool.not_true, Bool.not_false, Bool.and_true, Bool.true_and, Bool.and_false, Bool.false_and, Bool.or_true, Bool.or_false, Bool.true_or, Bool.false_or, Option.isSome_some, Option.isSome_none, if_true, if_false, Bool.false_eq_true, Int.reduceBNe]
        have hrs : (rng3L 3 3 (Builtin.Range.rangeSize 3 ps.length 3).toNat).length ≤ 100000 := by
          unfold rng3L
          rw [List.length_map, List.length_range]
          unfold Builtin.Range.rangeSize
          rw [if_pos (by omega)]
          split <;> omega
        have hpv : v_TEST = .tup [.str "end", .str "operator", .str "end"] := rfl
        have hlt : lenQ v_TEST = some (.int 3) := rfl
        have hdt : dr ρ v_TEST = v_TEST := rfl
        have hp' := decide_eq_true hp
        simp (disch := walk_at "ds") only [B_parse_step, hs, hw, hr, zipL_strs, hm, hp', hts, hc3, hdt, hlt, rep_0, rep_s, get_0, get_s, set_0, set_s, app_n, app_c, map_n, map_c, wipe_n, wipe_c, rb_ok, rb_exc, ofO_some, rd_some, varS_ap, conS_ap, nilA_ap, consA_ap, consR_ok, consR_exc, consR_exc0, items_ap, items_lst, items_tup, items_scr, starA_ap, starR_ok, tupS_ap, tupR_ok, lstS_ap, lstR_ok, andS_ap, andR_t, andR_f, orS_ap, orR_t, orR_f, notS_ap, testS_ap, truR_bl, truR_int, ifS_ap, ifR_t, ifR_f, andT_ap, andW_t, andW_f, orT_ap, orW_t, orW_f, notT_ap, yesT_ap, tb1_ap, blR_bl, bin2_ap, b2R_ok, un1_ap, callB_ap, cbR_ok, chainS_ap, noP_ap, someP_ap, intR_ok, slS_ap, slR_ok, slD_ap, slQ_lst, slQ_tup, methS_ap, meR_ok, callS_ap, calR_ok, cal1_ok, cal1_exc, lcS_ap, lcR_ok, lcQ_ok, lcL_nil, lcL_yes, lcY_ok, lcZ_ok, itI_ap, itR_lst, itR_scr, itR_tup, itR_str, rng1I_ap, rn1R_ok, rng3I_ap, rn3R_up, zipI_ap, zpR_lst, zpR_tup, nameG_ap, nilG_ap, consG_ap, cgR_ok, tupG_2, tupG_3, seqS_ap, sqR_nx, sqR_ret, sqR_exc, passS_ap, retS_ap, retF_ap, reR_ok, reR_exc, asgS_ap, asR_ok, asR_exc, agR_ok, ownS_ap, owR_ok, iffS_ap, ifO_t, ifO_f, ifO_exc, expS_ap, exR_ok, exR_exc, forS_ap, foR_ok, forL_nil, forL_cons, flA_ok, flB_nx, appS_ap, apR_last, raiS_ap, rai1S_ap, raR_int, tryS_ap, trR_nx, trR_ret, trR_exc, starS_ap, stR_1, dr_int, dr_str, dr_bl, dr_non, dr_tup, dr_lst, dr_scr, dr_wd, dr_exn, dr_lstR, addD_ap, addQ_int, addQ_str, addQ_lst, addQ_tup, subD_int, negD_int, mulD_int, mulD_lst, fdivD_int, modD_int, powD_int, ltD_int, leD_int, gtD_int, geD_int, isn_lst, isn_non, eqB_str, eqB_int, eqD_ap, neD_ap, inB_wd, inB_chr, inD_ap, ninD_ap, omap_some, look_n, look_c, ixD_ap, ixQ_lst, ixQ_tup, ixQ_scr, ixQ_wd, ixQ_str, at_0, at_m1, at_m1c, at_p, rg2S_ap, r2R_ok, rg1S_ap, r1R_ok, rgD_ok', cut_m1, cut_pos, cut_posf, drop_0, drop_s, take_0, take_s, take_n, dl_1, dl_c, flat_rep, eq_self, Int.cast_ofNat_Int, lenD_ap, lenQ_lst, lenQ_scr, lenQ_tup, lenQ_str, intC_int, strC_str, strC_int, listC_lst, listC_tup, tupleC_lst, tupleC_tup, joinM_ap, splitM_ok, ofString_inj, List.length_cons, List.length_nil, List.length_append, List.length_map, Int.reduceNeg, Int.reduceAdd, Int.reduceSub, Int.reduceMul, Int.reduceMod, Int.reducePow, Int.reduceDiv, Int.reduceLE, Int.reduceLT, Int.reduceEq, Int.reduceToNat, Nat.reduceAdd, Nat.reduceSub, Nat.reduceLeDiff, Nat.reduceEqDiff, String.reduceEq, decide_true, decide_false, Bool.not_true, Bool.not_false, Bool.and_true, Bool.true_and, Bool.and_false, Bool.false_and, Bool.or_true, Bool.or_false, Bool.true_or, Bool.false_or, Option.isSome_some, Option.isSome_none, if_true, if_false, Bool.false_eq_true, Int.reduceBNe]
      · rw [if_neg hp]
        have hpk : sOk "pair" := by decide +kernel
        by_cases hq : k = "keep"
        · rw [if_pos hq]
          obtain ⟨p0, pr, hpr⟩ : ∃ p0 pr, ps = p0 :: pr := by
            cases hz : ps with
            | nil =>
              subst hq
              rw [hz] at hlp
              simp only [rolesS_lit, String.reduceEq, if_false, if_true] at e
              split at e
              · simp at hlp; omega
              · cases e
            | cons a b => exact ⟨a, b, rfl⟩
          have hat : atI ps 0 = some p0 := by rw [hpr]; exact at_0
          have hhd : ps.headD .non = p0 := by rw [hpr]; rfl
          rw [hhd]
          have hp' := decide_eq_false hp
          have hq' := decide_eq_true hq
          simp (disch := walk_at "ds") only [B_parse_step, hs, hw, hr, zipL_strs, hm, hp', hq', hat, hc1, rep_0, rep_s, get_0, get_s, set_0, set_s, app_n, app_c, map_n, map_c, wipe_n, wipe_c, rb_ok, rb_exc, ofO_some, rd_some, varS_ap, conS_ap, nilA_ap, consA_ap, consR_ok, consR_exc, consR_exc0, items_ap, items_lst, items_tup, items_scr, starA_ap, starR_ok, tupS_ap, tupR_ok, lstS_ap, lstR_ok, andS_ap, andR_t, andR_f, orS_ap, orR_t, orR_f, notS_ap, testS_ap, truR_bl, truR_int, ifS_ap, ifR_t, ifR_f, andT_ap, andW_t, andW_f, orT_ap, orW_t, orW_f, notT_ap, yesT_ap, tb1_ap, blR_bl, bin2_ap, b2R_ok, un1_ap, callB_ap, cbR_ok, chainS_ap, noP_ap, someP_ap, intR_ok, slS_ap, slR_ok, slD_ap, slQ_lst, slQ_tup, methS_ap, meR_ok, callS_ap, calR_ok, cal1_ok, cal1_exc, lcS_ap, lcR_ok, lcQ_ok, lcL_nil, lcL_yes, lcY_ok, lcZ_ok, itI_ap, itR_lst, itR_scr, itR_tup, itR_str, rng1I_ap, rn1R_ok, rng3I_ap, rn3R_up, zipI_ap, zpR_lst, zpR_tup, nameG_ap, nilG_ap, consG_ap, cgR_ok, tupG_2, tupG_3, seqS_ap, sqR_nx, sqR_ret, sqR_exc, passS_ap, retS_ap, retF_ap, reR_ok, reR_exc, asgS_ap, asR_ok, asR_exc, agR_ok, ownS_ap, owR_ok, iffS_ap, ifO_t, ifO_f, ifO_exc, expS_ap, exR_ok, exR_exc, forS_ap, foR_ok, forL_nil, forL_cons, flA_ok, flB_nx, appS_ap, apR_last, raiS_ap, rai1S_ap, raR_int, tryS_ap, trR_nx, trR_ret, trR_exc, starS_ap, stR_1, dr_int, dr_str, dr_bl, dr_non, dr_tup, dr_lst, dr_scr, dr_wd, dr_exn, dr_lstR, addD_ap, addQ_int, addQ_str, addQ_lst, addQ_tup, subD_int, negD_int, mulD_int, mulD_lst, fdivD_int, modD_int, powD_int, ltD_int, leD_int, gtD_int, geD_int, isn_lst, isn_non, eqB_str, eqB_int, eqD_ap, neD_ap, inB_wd, inB_chr, inD_ap, ninD_ap, omap_some, look_n, look_c, ixD_ap, ixQ_lst, ixQ_tup, ixQ_scr, ixQ_wd, ixQ_str, at_0, at_m1, at_m1c, at_p, rg2S_ap, r2R_ok, rg1S_ap, r1R_ok, rgD_ok', cut_m1, cut_pos, cut_posf, drop_0, drop_s, take_0, take_s, take_n, dl_1, dl_c, flat_rep, eq_self, Int.cast_ofNat_Int, lenD_ap, lenQ_lst, lenQ_scr, lenQ_tup, lenQ_str, intC_int, strC_str, strC_int, listC_lst, listC_tup, tupleC_lst, tupleC_tup, joinM_ap, splitM_ok, ofString_inj, List.length_cons, List.length_nil, List.length_append, List.length_map, Int.reduceNeg, Int.reduceAdd, Int.reduceSub, Int.reduceMul, Int.reduceMod, Int.reducePow, Int.reduceDiv, Int.reduceLE, Int.reduceLT, Int.reduceEq, Int.reduceToNat, Nat.reduceAdd, Nat.reduceSub, Nat.reduceLeDiff, Nat.reduceEqDiff, String.reduceEq, decide_true, decide_false, Bool.not_true, Bool.not_false, Bool.and_true, Bool.true_and, Bool.and_false, Bool.false_and, Bool.or_true, Bool.or_false, Bool.true_or, Bool.false_or, Option.isSome_some, Option.isSome_none, if_true, if_false, Bool.false_eq_true, Int.reduceBNe]
        · rw [if_neg hq]
          simp (disch := walk_at "ds") only [B_parse_step, hs, hw, hr, zipL_strs, hm, hp, hq, List.append_nil, rep_0, rep_s, get_0, get_s, set_0, set_s, app_n, app_c, map_n, map_c, wipe_n, wipe_c, rb_ok, rb_exc, ofO_some, rd_some, varS_ap, conS_ap, nilA_ap, consA_ap, consR_ok, consR_exc, consR_exc0, items_ap, items_lst, items_tup, items_scr, starA_ap, starR_ok, tupS_ap, tupR_ok, lstS_ap, lstR_ok, andS_ap, andR_t, andR_f, orS_ap, orR_t, orR_f, notS_ap, testS_ap, truR_bl, truR_int, ifS_ap, ifR_t, ifR_f, andT_ap, andW_t, andW_f, orT_ap, orW_t, orW_f, notT_ap, yesT_ap, tb1_ap, blR_bl, bin2_ap, b2R_ok, un1_ap, callB_ap, cbR_ok, chainS_ap, noP_ap, someP_ap, intR_ok, slS_ap, slR_ok, slD_ap, slQ_lst, slQ_tup, methS_ap, meR_ok, callS_ap, calR_ok, cal1_ok, cal1_exc, lcS_ap, lcR_ok, lcQ_ok, lcL_nil, lcL_yes, lcY_ok, lcZ_ok, itI_ap, itR_lst, itR_scr, itR_tup, itR_str, rng1I_ap, rn1R_ok, rng3I_ap, rn3R_up, zipI_ap, zpR_lst, zpR_tup, nameG_ap, nilG_ap, consG_ap, cgR_ok, tupG_2, tupG_3, seqS_ap, sqR_nx, sqR_ret, sqR_exc, passS_ap, retS_ap, retF_ap, reR_ok, reR_exc, asgS_ap, asR_ok, asR_exc, agR_ok, ownS_ap, owR_ok, iffS_ap, ifO_t, ifO_f, ifO_exc, expS_ap, exR_ok, exR_exc, forS_ap, foR_ok, forL_nil, forL_cons, flA_ok, flB_nx, appS_ap, apR_last, raiS_ap, rai1S_ap, raR_int, tryS_ap, trR_nx, trR_ret, trR_exc, starS_ap, stR_1, dr_int, dr_str, dr_bl, dr_non, dr_tup, dr_lst, dr_scr, dr_wd, dr_exn, dr_lstR, addD_ap, addQ_int, addQ_str, addQ_lst, addQ_tup, subD_int, negD_int, mulD_int, mulD_lst, fdivD_int, modD_int, powD_int, ltD_int, leD_int, gtD_int, geD_int, isn_lst, isn_non, eqB_str, eqB_int, eqD_ap, neD_ap, inB_wd, inB_chr, inD_ap, ninD_ap, omap_some, look_n, look_c, ixD_ap, ixQ_lst, ixQ_tup, ixQ_scr, ixQ_wd, ixQ_str, at_0, at_m1, at_m1c, at_p, rg2S_ap, r2R_ok, rg1S_ap, r1R_ok, rgD_ok', cut_m1, cut_pos, cut_posf, drop_0, drop_s, take_0, take_s, take_n, dl_1, dl_c, flat_rep, eq_self, Int.cast_ofNat_Int, lenD_ap, lenQ_lst, lenQ_scr, lenQ_tup, lenQ_str, intC_int, strC_str, strC_int, listC_lst, listC_tup, tupleC_lst, tupleC_tup, joinM_ap, splitM_ok, ofString_inj, List.length_cons, List.length_nil, List.length_append, List.length_map, Int.reduceNeg, Int.reduceAdd, Int.reduceSub, Int.reduceMul, Int.reduceMod, Int.reducePow, Int.reduceDiv, Int.reduceLE, Int.reduceLT, Int.reduceEq, Int.reduceToNat, Nat.reduceAdd, Nat.reduceSub, Nat.reduceLeDiff, Nat.reduceEqDiff, String.reduceEq, decide_true, decide_false, Bool.not_true, Bool.not_false, Bool.and_true, Bool.true_and, Bool.and_false, Bool.false_and, Bool.or_true, Bool.or_false, Bool.true_or, Bool.false_or, Option.isSome_some, Option.isSome_none, if_true, if_false, Bool.false_eq_true, Int.reduceBNe]
    · unfold parseD
      split
      · simp only [okRt, okRtL, Bool.true_and]
        refine okL_mem fun d hd => ?_
        rcases List.mem_append.mp hd with hd | hd
        · exact hall d (List.mem_of_mem_take hd)
        · rw [List.mem_singleton.mp hd]
          simp only [okRt]
          refine okL_map fun j _ => ?_
          simp only [okRt]
          exact okL_mem fun d hd => hall d (List.mem_of_mem_drop (List.mem_of_mem_take hd))
      · split
        · cases ps with
          | nil => rfl
          | cons a b =>
            simp only [okRt, okRtL, Bool.true_and, Bool.and_true, List.headD_cons, List.drop_succ_cons, List.drop_zero, hall a (List.mem_cons_self ..), okL_mem fun d hd => hall d (List.mem_cons_of_mem _ hd)]
        · simp only [okRt, okRtL, Bool.true_and]
          exact okL_mem hall
  · simp only [Bool.not_eq_true] at h
    rw [h] at hw ⊢
    rw [if_neg (by decide)]
    refine run_res 2 10 B_parse_step (o := .exc 1 [.int i] ρ [some (.str line), some (.int i), some (.str k), some (.lst (ts.map .str)), none, none, none, none, none, none]) rfl rfl rfl ?_ (fin_exc0 rfl)
    simp (disch := walk_at "ds") only [B_parse_step, hs, hw, rep_0, rep_s, get_0, get_s, set_0, set_s, app_n, app_c, map_n, map_c, wipe_n, wipe_c, rb_ok, rb_exc, ofO_some, rd_some, varS_ap, conS_ap, nilA_ap, consA_ap, consR_ok, consR_exc, consR_exc0, items_ap, items_lst, items_tup, items_scr, starA_ap, starR_ok, tupS_ap, tupR_ok, lstS_ap, lstR_ok, andS_ap, andR_t, andR_f, orS_ap, orR_t, orR_f, notS_ap, testS_ap, truR_bl, truR_int, ifS_ap, ifR_t, ifR_f, andT_ap, andW_t, andW_f, orT_ap, orW_t, orW_f, notT_ap, yesT_ap, tb1_ap, blR_bl, bin2_ap, b2R_ok, un1_ap, callB_ap, cbR_ok, chainS_ap, noP_ap, someP_ap, intR_ok, slS_ap, slR_ok, slD_ap, slQ_lst, slQ_tup, methS_ap, meR_ok, callS_ap, calR_ok, cal1_ok, cal1_exc, lcS_ap, lcR_ok, lcQ_ok, lcL_nil, lcL_yes, lcY_ok, lcZ_ok, itI_ap, itR_lst, itR_scr, itR_tup, itR_str, rng1I_ap, rn1R_ok, rng3I_ap, rn3R_up, zipI_ap, zpR_lst, zpR_tup, nameG_ap, nilG_ap, consG_ap, cgR_ok, tupG_2, tupG_3, seqS_ap, sqR_nx, sqR_ret, sqR_exc, passS_ap, retS_ap, retF_ap, reR_ok, reR_exc, asgS_ap, asR_ok, asR_exc, agR_ok, ownS_ap, owR_ok, iffS_ap, ifO_t, ifO_f, ifO_exc, expS_ap, exR_ok, exR_exc, forS_ap, foR_ok, forL_nil, forL_cons, flA_ok, flB_nx, appS_ap, apR_last, raiS_ap, rai1S_ap, raR_int, tryS_ap, trR_nx, trR_ret, trR_exc, starS_ap, stR_1, dr_int, dr_str, dr_bl, dr_non, dr_tup, dr_lst, dr_scr, dr_wd, dr_exn, dr_lstR, addD_ap, addQ_int, addQ_str, addQ_lst, addQ_tup, subD_int, negD_int, mulD_int, mulD_lst, fdivD_int, modD_int, powD_int, ltD_int, leD_int, gtD_int, geD_int, isn_lst, isn_non, eqB_str, eqB_int, eqD_ap, neD_ap, inB_wd, inB_chr, inD_ap, ninD_ap, omap_some, look_n, look_c, ixD_ap, ixQ_lst, ixQ_tup, ixQ_scr, ixQ_wd, ixQ_str, at_0, at_m1, at_m1c, at_p, rg2S_ap, r2R_ok, rg1S_ap, r1R_ok, rgD_ok', cut_m1, cut_pos, cut_posf, drop_0, drop_s, take_0, take_s, take_n, dl_1, dl_c, flat_rep, eq_self, Int.cast_ofNat_Int, lenD_ap, lenQ_lst, lenQ_scr, lenQ_tup, lenQ_str, intC_int, strC_str, strC_int, listC_lst, listC_tup, tupleC_lst, tupleC_tup, joinM_ap, splitM_ok, ofString_inj, List.length_cons, List.length_nil, List.length_append, List.length_map, Int.reduceNeg, Int.reduceAdd, Int.reduceSub, Int.reduceMul, Int.reduceMod, Int.reducePow, Int.reduceDiv, Int.reduceLE, Int.reduceLT, Int.reduceEq, Int.reduceToNat, Nat.reduceAdd, Nat.reduceSub, Nat.reduceLeDiff, Nat.reduceEqDiff, String.reduceEq, decide_true, decide_false, Bool.not_true, Bool.not_false, Bool.and_true, Bool.true_and, Bool.and_false, Bool.false_and, Bool.or_true, Bool.or_false, Bool.true_or, Bool.false_or, Option.isSome_some, Option.isSome_none, if_true, if_false, Bool.false_eq_true, Int.reduceBNe]

theorem rng_get {lo : Int} {m i : Nat} {d : D} (h : (rngL lo m)[i]? = some d) : d = .int (lo + (i : Nat)) ∧ i < m := by
  unfold rngL at h
  rw [List.getElem?_map] at h
  obtain ⟨j, hj, rfl⟩ := Option.map_eq_some_iff.mp h
  have := List.getElem?_eq_some_iff.mp hj
  obtain ⟨h1, h2⟩ := this
  rw [List.length_range] at h1
  rw [List.getElem_range] at h2
  subst h2
  exact ⟨rfl, h1⟩
theorem r_draws {n : Nat} {ρ : List D} {ns : List Int} {a m : Nat} (ha : a ≤ 1000) (hm : m ≤ 100) (hn : ns.length ≤ 1000) : ∃ L : List Int, L.length = m ∧ (∀ x ∈ L, 0 ≤ x ∧ x < 100) ∧ run Tb (n + 1) 6 (fun _ => false) ρ [.scr (ns.map .int), .int a, .int m] = .ok true (.lst (L.map .int)) ρ := by
  obtain ⟨cell, hcell⟩ : ∃ cell : Int, ifS (tb1 (bin2 ltD (varS 1) (callB lenD (consA (varS 0) nilA)))) (callB intC (consA (bin2 ixD (varS 0) (varS 1)) nilA)) (conS (.int 0)) ρ [some (.scr (ns.map .int)), some (.int a), some (.int m), none, none, none, none, none] = .ok (.int cell) := by
    by_cases h : (a : Int) < ns.length
    · have hl : a < ns.length := by omega
      have hat : atI (ns.map D.int) (a : Int) = some (.int ns[a]) := at_nat (by rw [List.getElem?_map, List.getElem?_eq_getElem hl]; rfl)
      exact ⟨ns[a], by simp (disch := walk_at "ds") only [h, hat, rep_0, rep_s, get_0, get_s, set_0, set_s, app_n, app_c, map_n, map_c, wipe_n, wipe_c, rb_ok, rb_exc, ofO_some, rd_some, varS_ap, conS_ap, nilA_ap, consA_ap, consR_ok, consR_exc, consR_exc0, items_ap, items_lst, items_tup, items_scr, starA_ap, starR_ok, tupS_ap, tupR_ok, lstS_ap, lstR_ok, andS_ap, andR_t, andR_f, orS_ap, orR_t, orR_f, notS_ap, testS_ap, truR_bl, truR_int, ifS_ap, ifR_t, ifR_f, andT_ap, andW_t, andW_f, orT_ap, orW_t, orW_f, notT_ap, yesT_ap, tb1_ap, blR_bl, bin2_ap, b2R_ok, un1_ap, callB_ap, cbR_ok, chainS_ap, noP_ap, someP_ap, intR_ok, slS_ap, slR_ok, slD_ap, slQ_lst, slQ_tup, methS_ap, meR_ok, callS_ap, calR_ok, cal1_ok, cal1_exc, lcS_ap, lcR_ok, lcQ_ok, lcL_nil, lcL_yes, lcY_ok, lcZ_ok, itI_ap, itR_lst, itR_scr, itR_tup, itR_str, rng1I_ap, rn1R_ok, rng3I_ap, rn3R_up, zipI_ap, zpR_lst, zpR_tup, nameG_ap, nilG_ap, consG_ap, cgR_ok, tupG_2, tupG_3, seqS_ap, sqR_nx, sqR_ret, sqR_exc, passS_ap, retS_ap, retF_ap, reR_ok, reR_exc, asgS_ap, asR_ok, asR_exc, agR_ok, ownS_ap, owR_ok, iffS_ap, ifO_t, ifO_f, ifO_exc, expS_ap, exR_ok, exR_exc, forS_ap, foR_ok, forL_nil, forL_cons, flA_ok, flB_nx, appS_ap, apR_last, raiS_ap, rai1S_ap, raR_int, tryS_ap, trR_nx, trR_ret, trR_exc, starS_ap, stR_1, dr_int, dr_str, dr_bl, dr_non, dr_tup, dr_lst, dr_scr, dr_wd, dr_exn, dr_lstR, addD_ap, addQ_int, addQ_str, addQ_lst, addQ_tup, subD_int, negD_int, mulD_int, mulD_lst, fdivD_int, modD_int, powD_int, ltD_int, leD_int, gtD_int, geD_int, isn_lst, isn_non, eqB_str, eqB_int, eqD_ap, neD_ap, inB_wd, inB_chr, inD_ap, ninD_ap, omap_some, look_n, look_c, ixD_ap, ixQ_lst, ixQ_tup, ixQ_scr, ixQ_wd, ixQ_str, at_0, at_m1, at_m1c, at_p, rg2S_ap, r2R_ok, rg1S_ap, r1R_ok, rgD_ok', cut_m1, cut_pos, cut_posf, drop_0, drop_s, take_0, take_s, take_n, dl_1, dl_c, flat_rep, eq_self, Int.cast_ofNat_Int, lenD_ap, lenQ_lst, lenQ_scr, lenQ_tup, lenQ_str, intC_int, strC_str, strC_int, listC_lst, listC_tup, tupleC_lst, tupleC_tup, joinM_ap, splitM_ok, ofString_inj, List.length_cons, List.length_nil, List.length_append, List.length_map, Int.reduceNeg, Int.reduceAdd, Int.reduceSub, Int.reduceMul, Int.reduceMod, Int.reducePow, Int.reduceDiv, Int.reduceLE, Int.reduceLT, Int.reduceEq, Int.reduceToNat, Nat.reduceAdd, Nat.reduceSub, Nat.reduceLeDiff, Nat.reduceEqDiff, String.reduceEq, decide_true, decide_false, Bool.not_true, Bool.not_false, Bool.and_true, Bool.true_and, Bool.and_false, Bool.false_and, Bool.or_true, Bool.or_false, Bool.true_or, Bool.false_or, Option.isSome_some, Option.isSome_none, if_true, if_false, Bool.false_eq_true, Int.reduceBNe]⟩
    · exact ⟨0, by simp (disch := walk_at "ds") only [h, rep_0, rep_s, get_0, get_s, set_0, set_s, app_n, app_c, map_n, map_c, wipe_n, wipe_c, rb_ok, rb_exc, ofO_some, rd_some, varS_ap, conS_ap, nilA_ap, consA_ap, consR_ok, consR_exc, consR_exc0, items_ap, items_lst, items_tup, items_scr, starA_ap, starR_ok, tupS_ap, tupR_ok, lstS_ap, lstR_ok, andS_ap, andR_t, andR_f, orS_ap, orR_t, orR_f, notS_ap, testS_ap, truR_bl, truR_int, ifS_ap, ifR_t, ifR_f, andT_ap, andW_t, andW_f, orT_ap, orW_t, orW_f, notT_ap, yesT_ap, tb1_ap, blR_bl, bin2_ap, b2R_ok, un1_ap, callB_ap, cbR_ok, chainS_ap, noP_ap, someP_ap, intR_ok, slS_ap, slR_ok, slD_ap, slQ_lst, slQ_tup, methS_ap, meR_ok, callS_ap, calR_ok, cal1_ok, cal1_exc, lcS_ap, lcR_ok, lcQ_ok, lcL_nil, lcL_yes, lcY_ok, lcZ_ok, itI_ap, itR_lst, itR_scr, itR_tup, itR_str, rng1I_ap, rn1R_ok, rng3I_ap, rn3R_up, zipI_ap, zpR_lst, zpR_tup, nameG_ap, nilG_ap, consG_ap, cgR_ok, tupG_2, tupG_3, seqS_ap, sqR_nx, sqR_ret, sqR_exc, passS_ap, retS_ap, retF_ap, reR_ok, reR_exc, asgS_ap, asR_ok, asR_exc, agR_ok, ownS_ap, owR_ok, iffS_ap, ifO_t, ifO_f, ifO_exc, expS_ap, exR_ok, exR_exc, forS_ap, foR_ok, forL_nil, forL_cons, flA_ok, flB_nx, appS_ap, apR_last, raiS_ap, rai1S_ap, raR_int, tryS_ap, trR_nx, trR_ret, trR_exc, starS_ap, stR_1, dr_int, dr_str, dr_bl, dr_non, dr_tup, dr_lst, dr_scr, dr_wd, dr_exn, dr_lstR, addD_ap, addQ_int, addQ_str, addQ_lst, addQ_tup, subD_int, negD_int, mulD_int, mulD_lst, fdivD_int, modD_int, powD_int, ltD_int, leD_int, gtD_int, geD_int, isn_lst, isn_non, eqB_str, eqB_int, eqD_ap, neD_ap, inB_wd, inB_chr, inD_ap, ninD_ap, omap_some, look_n, look_c, ixD_ap, ixQ_lst, ixQ_tup, ixQ_scr, ixQ_wd, ixQ_str, at_0, at_m1, at_m1c, at_p, rg2S_ap, r2R_ok, rg1S_ap, r1R_ok, rgD_ok', cut_m1, cut_pos, cut_posf, drop_0, drop_s, take_0, take_s, take_n, dl_1, dl_c, flat_rep, eq_self, Int.cast_ofNat_Int, lenD_ap, lenQ_lst, lenQ_scr, lenQ_tup, lenQ_str, intC_int, strC_str, strC_int, listC_lst, listC_tup, tupleC_lst, tupleC_tup, joinM_ap, splitM_ok, ofString_inj, List.length_cons, List.length_nil, List.length_append, List.length_map, Int.reduceNeg, Int.reduceAdd, Int.reduceSub, Int.reduceMul, Int.reduceMod, Int.reducePow, Int.reduceDiv, Int.reduceLE, Int.reduceLT, Int.reduceEq, Int.reduceToNat, Nat.reduceAdd, Nat.reduceSub, Nat.reduceLeDiff, Nat.reduceEqDiff, String.reduceEq, decide_true, decide_false, Bool.not_true, Bool.not_false, Bool.and_true, Bool.true_and, Bool.and_false, Bool.false_and, Bool.or_true, Bool.or_false, Bool.true_or, Bool.false_or, Option.isSome_some, Option.isSome_none, if_true, if_false, Bool.false_eq_true, Int.reduceBNe]⟩
  obtain ⟨left, h0, hleft⟩ : ∃ left : Int, 0 ≤ left ∧ ifS (tb1 (bin2 geD (varS 3) (bin2 powD (conS (.int 10)) (conS (.int 18))))) (varS 3) (conS (.int 0)) ρ [some (.scr (ns.map .int)), some (.int a), some (.int m), some (.int cell), none, none, none, none] = .ok (.int left) := by
    by_cases h : (1000000000000000000 : Int) ≤ cell
    · exact ⟨cell, by omega, by simp (disch := walk_at "ds") only [h, rep_0, rep_s, get_0, get_s, set_0, set_s, app_n, app_c, map_n, map_c, wipe_n, wipe_c, rb_ok, rb_exc, ofO_some, rd_some, varS_ap, conS_ap, nilA_ap, consA_ap, consR_ok, consR_exc, consR_exc0, items_ap, items_lst, items_tup, items_scr, starA_ap, starR_ok, tupS_ap, tupR_ok, lstS_ap, lstR_ok, andS_ap, andR_t, andR_f, orS_ap, orR_t, orR_f, notS_ap, testS_ap, truR_bl, truR_int, ifS_ap, ifR_t, ifR_f, andT_ap, andW_t, andW_f, orT_ap, orW_t, orW_f, notT_ap, yesT_ap, tb1_ap, blR_bl, bin2_ap, b2R_ok, un1_ap, callB_ap, cbR_ok, chainS_ap, noP_ap, someP_ap, intR_ok, slS_ap, slR_ok, slD_ap, slQ_lst, slQ_tup, methS_ap, meR_ok, callS_ap, calR_ok, cal1_ok, cal1_exc, lcS_ap, lcR_ok, lcQ_ok, lcL_nil, lcL_yes, lcY_ok, lcZ_ok, itI_ap, itR_lst, itR_scr, itR_tup, itR_str, rng1I_ap, rn1R_ok, rng3I_ap, rn3R_up, zipI_ap, zpR_lst, zpR_tup, nameG_ap, nilG_ap, consG_ap, cgR_ok, tupG_2, tupG_3, seqS_ap, sqR_nx, sqR_ret, sqR_exc, passS_ap, retS_ap, retF_ap, reR_ok, reR_exc, asgS_ap, asR_ok, asR_exc, agR_ok, ownS_ap, owR_ok, iffS_ap, ifO_t, ifO_f, ifO_exc, expS_ap, exR_ok, exR_exc, forS_ap, foR_ok, forL_nil, forL_cons, flA_ok, flB_nx, appS_ap, apR_last, raiS_ap, rai1S_ap, raR_int, tryS_ap, trR_nx, trR_ret, trR_exc, starS_ap, stR_1, dr_int, dr_str, dr_bl, dr_non, dr_tup, dr_lst, dr_scr, dr_wd, dr_exn, dr_lstR, addD_ap, addQ_int, addQ_str, addQ_lst, addQ_tup, subD_int, negD_int, mulD_int, mulD_lst, fdivD_int, modD_int, powD_int, ltD_int, leD_int, gtD_int, geD_int, isn_lst, isn_non, eqB_str, eqB_int, eqD_ap, neD_ap, inB_wd, inB_chr, inD_ap, ninD_ap, omap_some, look_n, look_c, ixD_ap, ixQ_lst, ixQ_tup, ixQ_scr, ixQ_wd, ixQ_str, at_0, at_m1, at_m1c, at_p, rg2S_ap, r2R_ok, rg1S_ap, r1R_ok, rgD_ok', cut_m1, cut_pos, cut_posf, drop_0, drop_s, take_0, take_s, take_n, dl_1, dl_c, flat_rep, eq_self, Int.cast_ofNat_Int, lenD_ap, lenQ_lst, lenQ_scr, lenQ_tup, lenQ_str, intC_int, strC_str, strC_int, listC_lst, listC_tup, tupleC_lst, tupleC_tup, joinM_ap, splitM_ok, ofString_inj, List.length_cons, List.length_nil, List.length_append, List.length_map, Int.reduceNeg, Int.reduceAdd, Int.reduceSub, Int.reduceMul, Int.reduceMod, Int.reducePow, Int.reduceDiv, Int.reduceLE, Int.reduceLT, Int.reduceEq, Int.reduceToNat, Nat.reduceAdd, Nat.reduceSub, Nat.reduceLeDiff, Nat.reduceEqDiff, String.reduceEq, decide_true, decide_false, Bool.not_true, Bool.not_false, Bool.and_true, Bool.true_and, Bool.and_false, Bool.false_and, Bool.or_true, Bool.or_false, Bool.true_or, Bool.false_or, Option.isSome_some, Option.isSome_none, if_true, if_false, Bool.false_eq_true, Int.reduceBNe]⟩
    · exact ⟨0, by omega, by simp (disch := walk_at "ds") only [h, rep_0, rep_s, get_0, get_s, set_0, set_s, app_n, app_c, map_n, map_c, wipe_n, wipe_c, rb_ok, rb_exc, ofO_some, rd_some, varS_ap, conS_ap, nilA_ap, consA_ap, consR_ok, consR_exc, consR_exc0, items_ap, items_lst, items_tup, items_scr, starA_ap, starR_ok, tupS_ap, tupR_ok, lstS_ap, lstR_ok, andS_ap, andR_t, andR_f, orS_ap, orR_t, orR_f, notS_ap, testS_ap, truR_bl, truR_int, ifS_ap, ifR_t, ifR_f, andT_ap, andW_t, andW_f, orT_ap, orW_t, orW_f, notT_ap, yesT_ap, tb1_ap, blR_bl, bin2_ap, b2R_ok, un1_ap, callB_ap, cbR_ok, chainS_ap, noP_ap, someP_ap, intR_ok, slS_ap, slR_ok, slD_ap, slQ_lst, slQ_tup, methS_ap, meR_ok, callS_ap, calR_ok, cal1_ok, cal1_exc, lcS_ap, lcR_ok, lcQ_ok, lcL_nil, lcL_yes, lcY_ok, lcZ_ok, itI_ap, itR_lst, itR_scr, itR_tup, itR_str, rng1I_ap, rn1R_ok, rng3I_ap, rn3R_up, zipI_ap, zpR_lst, zpR_tup, nameG_ap, nilG_ap, consG_ap, cgR_ok, tupG_2, tupG_3, seqS_ap, sqR_nx, sqR_ret, sqR_exc, passS_ap, retS_ap, retF_ap, reR_ok, reR_exc, asgS_ap, asR_ok, asR_exc, agR_ok, ownS_ap, owR_ok, iffS_ap, ifO_t, ifO_f, ifO_exc, expS_ap, exR_ok, exR_exc, forS_ap, foR_ok, forL_nil, forL_cons, flA_ok, flB_nx, appS_ap, apR_last, raiS_ap, rai1S_ap, raR_int, tryS_ap, trR_nx, trR_ret, trR_exc, starS_ap, stR_1, dr_int, dr_str, dr_bl, dr_non, dr_tup, dr_lst, dr_scr, dr_wd, dr_exn, dr_lstR, addD_ap, addQ_int, addQ_str, addQ_lst, addQ_tup, subD_int, negD_int, mulD_int, mulD_lst, fdivD_int, modD_int, powD_int, ltD_int, leD_int, gtD_int, geD_int, isn_lst, isn_non, eqB_str, eqB_int, eqD_ap, neD_ap, inB_wd, inB_chr, inD_ap, ninD_ap, omap_some, look_n, look_c, ixD_ap, ixQ_lst, ixQ_tup, ixQ_scr, ixQ_wd, ixQ_str, at_0, at_m1, at_m1c, at_p, rg2S_ap, r2R_ok, rg1S_ap, r1R_ok, rgD_ok', cut_m1, cut_pos, cut_posf, drop_0, drop_s, take_0, take_s, take_n, dl_1, dl_c, flat_rep, eq_self, Int.cast_ofNat_Int, lenD_ap, lenQ_lst, lenQ_scr, lenQ_tup, lenQ_str, intC_int, strC_str, strC_int, listC_lst, listC_tup, tupleC_lst, tupleC_tup, joinM_ap, splitM_ok, ofString_inj, List.length_cons, List.length_nil, List.length_append, List.length_map, Int.reduceNeg, Int.reduceAdd, Int.reduceSub, Int.reduceMul, Int.reduceMod, Int.reducePow, Int.reduceDiv, Int.reduceLE, Int.reduceLT, Int.reduceEq, Int.reduceToNat, Nat.reduceAdd, Nat.reduceSub, Nat.reduceLeDiff, Nat.reduceEqDiff, String.reduceEq, decide_true, decide_false, Bool.not_true, Bool.not_false, Bool.and_true, Bool.true_and, Bool.and_false, Bool.false_and, Bool.or_true, Bool.or_false, Bool.true_or, Bool.false_or, Option.isSome_some, Option.isSome_none, if_true, if_false, Bool.false_eq_true, Int.reduceBNe]⟩
  let P : Nat → List D → Dd.Env → Prop := fun i ρ' σ' => ∃ (L : List Int) (left : Int) (k o : Option D), L.length = i ∧ (∀ x ∈ L, 0 ≤ x ∧ x < 100) ∧ 0 ≤ left ∧ ρ' = ρ ++ [.lst (L.map .int)] ∧ σ' = [some (.scr (ns.map .int)), some (.int a), some (.int m), some (.int cell), some (.int left), some (.rt ρ.length), k, o]
  generalize hbody : (iffS (tb1 (bin2 gtD (varS 4) (conS (.int 0)))) (seqS (appS (varS 5) (bin2 modD (callB intC (consA (varS 4) nilA)) (conS (.int 100)))) (asgS (bin2 fdivD (varS 4) (conS (.int 100))) (nameG 4))) (seqS (asgS (bin2 modD (callB intC (consA (bin2 addD (bin2 addD (bin2 addD (bin2 mulD (conS (.int 7)) (varS 3)) (bin2 mulD (conS (.int 203)) (varS 1))) (bin2 mulD (conS (.int 13)) (varS 6))) (conS (.int 5))) nilA)) (conS (.int 101))) (nameG 7)) (appS (varS 5) (bin2 modD (callB intC (consA (bin2 addD (bin2 addD (bin2 addD (bin2 mulD (bin2 mulD (varS 7) (varS 7)) (varS 7)) (bin2 mulD (conS (.int 29)) (varS 1))) (bin2 mulD (conS (.int 3)) (varS 6))) (varS 3)) nilA)) (conS (.int 97)))))) = body
  have loop := forL_at (g := nameG 6) (body := body) (mu := fun r => decide (ρ.length ≤ r) && !([] : List Nat).contains r) (l := rngL 0 m) (ρ := ρ ++ [.lst []]) (σ := [some (.scr (ns.map .int)), some (.int a), some (.int m), some (.int cell), some (.int left), some (.rt ρ.length), none, none]) P ⟨[], left, none, none, rfl, by simp, h0, rfl, rfl⟩ ?_
  · obtain ⟨ρ', σ', e1, L, left', k, o, hL, hx, hl', rfl, rfl⟩ := loop
    refine ⟨L, ?_, hx, run_res 3 8 B__law_draws (o := .ret false (.rt ρ.length) (ρ ++ [.lst (L.map .int)])) rfl rfl rfl ?_ (fin_root (d := .lst (L.map .int)) (okL_map (n := ρ.length) (f := D.int) fun _ _ => rfl))⟩
    · rw [hL]; unfold rngL; simp
    · have ht : (m : Int).toNat = m := Int.toNat_natCast m
      simp (disch := walk_at "ds") only [B__law_draws, hcell, hleft, rep_0, rep_s, get_0, get_s, set_0, set_s, app_n, app_c, map_n, map_c, wipe_n, wipe_c, rb_ok, rb_exc, ofO_some, rd_some, varS_ap, conS_ap, nilA_ap, consA_ap, consR_ok, consR_exc, consR_exc0, items_ap, items_lst, items_tup, items_scr, starA_ap, starR_ok, tupS_ap, tupR_ok, lstS_ap, lstR_ok, andS_ap, andR_t, andR_f, orS_ap, orR_t, orR_f, notS_ap, testS_ap, truR_bl, truR_int, ifS_ap, ifR_t, ifR_f, andT_ap, andW_t, andW_f, orT_ap, orW_t, orW_f, notT_ap, yesT_ap, tb1_ap, blR_bl, bin2_ap, b2R_ok, un1_ap, callB_ap, cbR_ok, chainS_ap, noP_ap, someP_ap, intR_ok, slS_ap, slR_ok, slD_ap, slQ_lst, slQ_tup, methS_ap, meR_ok, callS_ap, calR_ok, cal1_ok, cal1_exc, lcS_ap, lcR_ok, lcQ_ok, lcL_nil, lcL_yes, lcY_ok, lcZ_ok, itI_ap, itR_lst, itR_scr, itR_tup, itR_str, rng1I_ap, rn1R_ok, rng3I_ap, rn3R_up, zipI_ap, zpR_lst, zpR_tup, nameG_ap, nilG_ap, consG_ap, cgR_ok, tupG_2, tupG_3, seqS_ap, sqR_nx, sqR_ret, sqR_exc, passS_ap, retS_ap, retF_ap, reR_ok, reR_exc, asgS_ap, asR_ok, asR_exc, agR_ok, ownS_ap, owR_ok, iffS_ap, ifO_t, ifO_f, ifO_exc, expS_ap, exR_ok, exR_exc, forS_ap, foR_ok, forL_nil, forL_cons, flA_ok, flB_nx, appS_ap, apR_last, raiS_ap, rai1S_ap, raR_int, tryS_ap, trR_nx, trR_ret, trR_exc, starS_ap, stR_1, dr_int, dr_str, dr_bl, dr_non, dr_tup, dr_lst, dr_scr, dr_wd, dr_exn, dr_lstR, addD_ap, addQ_int, addQ_str, addQ_lst, addQ_tup, subD_int, negD_int, mulD_int, mulD_lst, fdivD_int, modD_int, powD_int, ltD_int, leD_int, gtD_int, geD_int, isn_lst, isn_non, eqB_str, eqB_int, eqD_ap, neD_ap, inB_wd, inB_chr, inD_ap, ninD_ap, omap_some, look_n, look_c, ixD_ap, ixQ_lst, ixQ_tup, ixQ_scr, ixQ_wd, ixQ_str, at_0, at_m1, at_m1c, at_p, rg2S_ap, r2R_ok, rg1S_ap, r1R_ok, rgD_ok', cut_m1, cut_pos, cut_posf, drop_0, drop_s, take_0, take_s, take_n, dl_1, dl_c, flat_rep, eq_self, Int.cast_ofNat_Int, lenD_ap, lenQ_lst, lenQ_scr, lenQ_tup, lenQ_str, intC_int, strC_str, strC_int, listC_lst, listC_tup, tupleC_lst, tupleC_tup, joinM_ap, splitM_ok, ofString_inj, List.length_cons, List.length_nil, List.length_append, List.length_map, Int.reduceNeg, Int.reduceAdd, Int.reduceSub, Int.reduceMul, Int.reduceMod, Int.reducePow, Int.reduceDiv, Int.reduceLE, Int.reduceLT, Int.reduceEq, Int.reduceToNat, Nat.reduceAdd, Nat.reduceSub, Nat.reduceLeDiff, Nat.reduceEqDiff, String.reduceEq, decide_true, decide_false, Bool.not_true, Bool.not_false, Bool.and_true, Bool.true_and, Bool.and_false, Bool.false_and, Bool.or_true, Bool.or_false, Bool.true_or, Bool.false_or, Option.isSome_some, Option.isSome_none, if_true, if_false, Bool.false_eq_true, Int.reduceBNe]
      rw [hbody]
      simp (disch := walk_at "ds") only [ht, e1, rep_0, rep_s, get_0, get_s, set_0, set_s, app_n, app_c, map_n, map_c, wipe_n, wipe_c, rb_ok, rb_exc, ofO_some, rd_some, varS_ap, conS_ap, nilA_ap, consA_ap, consR_ok, consR_exc, consR_exc0, items_ap, items_lst, items_tup, items_scr, starA_ap, starR_ok, tupS_ap, tupR_ok, lstS_ap, lstR_ok, andS_ap, andR_t, andR_f, orS_ap, orR_t, orR_f, notS_ap, testS_ap, truR_bl, truR_int, ifS_ap, ifR_t, ifR_f, andT_ap, andW_t, andW_f, orT_ap, orW_t, orW_f, notT_ap, yesT_ap, tb1_ap, blR_bl, bin2_ap, b2R_ok, un1_ap, callB_ap, cbR_ok, chainS_ap, noP_ap, someP_ap, intR_ok, slS_ap, slR_ok, slD_ap, slQ_lst, slQ_tup, methS_ap, meR_ok, callS_ap, calR_ok, cal1_ok, cal1_exc, lcS_ap, lcR_ok, lcQ_ok, lcL_nil, lcL_yes, lcY_ok, lcZ_ok, itI_ap, itR_lst, itR_scr, itR_tup, itR_str, rng1I_ap, rn1R_ok, rng3I_ap, rn3R_up, zipI_ap, zpR_lst, zpR_tup, nameG_ap, nilG_ap, consG_ap, cgR_ok, tupG_2, tupG_3, seqS_ap, sqR_nx, sqR_ret, sqR_exc, passS_ap, retS_ap, retF_ap, reR_ok, reR_exc, asgS_ap, asR_ok, asR_exc, agR_ok, ownS_ap, owR_ok, iffS_ap, ifO_t, ifO_f, ifO_exc, expS_ap, exR_ok, exR_exc, forS_ap, foR_ok, forL_nil, forL_cons, flA_ok, flB_nx, appS_ap, apR_last, raiS_ap, rai1S_ap, raR_int, tryS_ap, trR_nx, trR_ret, trR_exc, starS_ap, stR_1, dr_int, dr_str, dr_bl, dr_non, dr_tup, dr_lst, dr_scr, dr_wd, dr_exn, dr_lstR, addD_ap, addQ_int, addQ_str, addQ_lst, addQ_tup, subD_int, negD_int, mulD_int, mulD_lst, fdivD_int, modD_int, powD_int, ltD_int, leD_int, gtD_int, geD_int, isn_lst, isn_non, eqB_str, eqB_int, eqD_ap, neD_ap, inB_wd, inB_chr, inD_ap, ninD_ap, omap_some, look_n, look_c, ixD_ap, ixQ_lst, ixQ_tup, ixQ_scr, ixQ_wd, ixQ_str, at_0, at_m1, at_m1c, at_p, rg2S_ap, r2R_ok, rg1S_ap, r1R_ok, rgD_ok', cut_m1, cut_pos, cut_posf, drop_0, drop_s, take_0, take_s, take_n, dl_1, dl_c, flat_rep, eq_self, Int.cast_ofNat_Int, lenD_ap, lenQ_lst, lenQ_scr, lenQ_tup, lenQ_str, intC_int, strC_str, strC_int, listC_lst, listC_tup, tupleC_lst, tupleC_tup, joinM_ap, splitM_ok, ofString_inj, List.length_cons, List.length_nil, List.length_append, List.length_map, Int.reduceNeg, Int.reduceAdd, Int.reduceSub, Int.reduceMul, Int.reduceMod, Int.reducePow, Int.reduceDiv, Int.reduceLE, Int.reduceLT, Int.reduceEq, Int.reduceToNat, Nat.reduceAdd, Nat.reduceSub, Nat.reduceLeDiff, Nat.reduceEqDiff, String.reduceEq, decide_true, decide_false, Bool.not_true, Bool.not_false, Bool.and_true, Bool.true_and, Bool.and_false, Bool.false_and, Bool.or_true, Bool.or_false, Bool.true_or, Bool.false_or, Option.isSome_some, Option.isSome_none, if_true, if_false, Bool.false_eq_true, Int.reduceBNe]
  · rintro i d ρ' σ' hd ⟨L, left', k, o, hL, hx, hl', rfl, rfl⟩
    obtain ⟨rfl, hi⟩ := rng_get hd
    rw [← hbody]
    have hmu : (fun r => decide (ρ.length ≤ r) && !([] : List Nat).contains r) ρ.length = true := by simp
    have hL2 : (L.map D.int).length < 100000 := by rw [List.length_map]; omega
    by_cases hz : 0 < left'
    · refine ⟨_, ρ ++ [.lst ((L ++ [left' % 100]).map .int)], [some (.scr (ns.map .int)), some (.int a), some (.int m), some (.int cell), some (.int (left' / 100)), some (.rt ρ.length), some (.int (0 + (i : Nat))), o], nameG_ap, ?_, L ++ [left' % 100], left' / 100, _, o, by simp [hL], ?_, by omega, rfl, rfl⟩
      · simp (disch := walk_at "ds") only [hz, List.map_append, rep_0, rep_s, get_0, get_s, set_0, set_s, app_n, app_c, map_n, map_c, wipe_n, wipe_c, rb_ok, rb_exc, ofO_some, rd_some, varS_ap, conS_ap, nilA_ap, consA_ap, consR_ok, consR_exc, consR_exc0, items_ap, items_lst, items_tup, items_scr, starA_ap, starR_ok, tupS_ap, tupR_ok, lstS_ap, lstR_ok, andS_ap, andR_t, andR_f, orS_ap, orR_t, orR_f, notS_ap, testS_ap, truR_bl, truR_int, ifS_ap, ifR_t, ifR_f, andT_ap, andW_t, andW_f, orT_ap, orW_t, orW_f, notT_ap, yesT_ap, tb1_ap, blR_bl, bin2_ap, b2R_ok, un1_ap, callB_ap, cbR_ok, chainS_ap, noP_ap, someP_ap, intR_ok, slS_ap, slR_ok, slD_ap, slQ_lst, slQ_tup, methS_ap, meR_ok, callS_ap, calR_ok, cal1_ok, cal1_exc, lcS_ap, lcR_ok, lcQ_ok, lcL_nil, lcL_yes, lcY_ok, lcZ_ok, itI_ap, itR_lst, itR_scr, itR_tup, itR_str, rng1I_ap, rn1R_ok, rng3I_ap, rn3R_up, zipI_ap, zpR_lst, zpR_tup, nameG_ap, nilG_ap, consG_ap, cgR_ok, tupG_2, tupG_3, seqS_ap, sqR_nx, sqR_ret, sqR_exc, passS_ap, retS_ap, retF_ap, reR_ok, reR_exc, asgS_ap, asR_ok, asR_exc, agR_ok, ownS_ap, owR_ok, iffS_ap, ifO_t, ifO_f, ifO_exc, expS_ap, exR_ok, exR_exc, forS_ap, foR_ok, forL_nil, forL_cons, flA_ok, flB_nx, appS_ap, apR_last, raiS_ap, rai1S_ap, raR_int, tryS_ap, trR_nx, trR_ret, trR_exc, starS_ap, stR_1, dr_int, dr_str, dr_bl, dr_non, dr_tup, dr_lst, dr_scr, dr_wd, dr_exn, dr_lstR, addD_ap, addQ_int, addQ_str, addQ_lst, addQ_tup, subD_int, negD_int, mulD_int, mulD_lst, fdivD_int, modD_int, powD_int, ltD_int, leD_int, gtD_int, geD_int, isn_lst, isn_non, eqB_str, eqB_int, eqD_ap, neD_ap, inB_wd, inB_chr, inD_ap, ninD_ap, omap_some, look_n, look_c, ixD_ap, ixQ_lst, ixQ_tup, ixQ_scr, ixQ_wd, ixQ_str, at_0, at_m1, at_m1c, at_p, rg2S_ap, r2R_ok, rg1S_ap, r1R_ok, rgD_ok', cut_m1, cut_pos, cut_posf, drop_0, drop_s, take_0, take_s, take_n, dl_1, dl_c, flat_rep, eq_self, Int.cast_ofNat_Int, lenD_ap, lenQ_lst, lenQ_scr, lenQ_tup, lenQ_str, intC_int, strC_str, strC_int, listC_lst, listC_tup, tupleC_lst, tupleC_tup, joinM_ap, splitM_ok, ofString_inj, List.length_cons, List.length_nil, List.length_append, List.length_map, Int.reduceNeg, Int.reduceAdd, Int.reduceSub, Int.reduceMul, Int.reduceMod, Int.reducePow, Int.reduceDiv, Int.reduceLE, Int.reduceLT, Int.reduceEq, Int.reduceToNat, Nat.reduceAdd, Nat.reduceSub, Nat.reduceLeDiff, Nat.reduceEqDiff, String.reduceEq, decide_true, decide_false, Bool.not_true, Bool.not_false, Bool.and_true, Bool.true_and, Bool.and_false, Bool.false_and, Bool.or_true, Bool.or_false, Bool.true_or, Bool.false_or, Option.isSome_some, Option.isSome_none, if_true, if_false, Bool.false_eq_true, Int.reduceBNe]
      · intro x hxx
        rcases List.mem_append.mp hxx with h | h
        · exact hx x h
        · rw [List.mem_singleton.mp h]; omega
    · generalize h1 : (7 * cell + 203 * (a : Int) + 13 * (0 + (i : Int)) + 5) % 101 = one
      generalize h2 : (one * one * one + 29 * (a : Int) + 3 * (0 + (i : Int)) + cell) % 97 = val
      refine ⟨_, ρ ++ [.lst ((L ++ [val]).map .int)], [some (.scr (ns.map .int)), some (.int a), some (.int m), some (.int cell), some (.int left'), some (.rt ρ.length), some (.int (0 + (i : Nat))), some (.int one)], nameG_ap, ?_, L ++ [val], left', _, _, by simp [hL], ?_, hl', rfl, rfl⟩
      · simp (disch := walk_at "ds") only [hz, List.map_append, h1, h2, rep_0, rep_s, get_0, get_s, set_0, set_s, app_n, app_c, map_n, map_c, wipe_n, wipe_c, rb_ok, rb_exc, ofO_some, rd_some, varS_ap, conS_ap, nilA_ap, consA_ap, consR_ok, consR_exc, consR_exc0, items_ap, items_lst, items_tup, items_scr, starA_ap, starR_ok, tupS_ap, tupR_ok, lstS_ap, lstR_ok, andS_ap, andR_t, andR_f, orS_ap, orR_t, orR_f, notS_ap, testS_ap, truR_bl, truR_int, ifS_ap, ifR_t, ifR_f, andT_ap, andW_t, andW_f, orT_ap, orW_t, orW_f, notT_ap, yesT_ap, tb1_ap, blR_bl, bin2_ap, b2R_ok, un1_ap, callB_ap, cbR_ok, chainS_ap, noP_ap, someP_ap, intR_ok, slS_ap, slR_ok, slD_ap, slQ_lst, slQ_tup, methS_ap, meR_ok, callS_ap, calR_ok, cal1_ok, cal1_exc, lcS_ap, lcR_ok, lcQ_ok, lcL_nil, lcL_yes, lcY_ok, lcZ_ok, itI_ap, itR_lst, itR_scr, itR_tup, itR_str, rng1I_ap, rn1R_ok, rng3I_ap, rn3R_up, zipI_ap, zpR_lst, zpR_tup, nameG_ap, nilG_ap, consG_ap, cgR_ok, tupG_2, tupG_3, seqS_ap, sqR_nx, sqR_ret, sqR_exc, passS_ap, retS_ap, retF_ap, reR_ok, reR_exc, asgS_ap, asR_ok, asR_exc, agR_ok, ownS_ap, owR_ok, iffS_ap, ifO_t, ifO_f, ifO_exc, expS_ap, exR_ok, exR_exc, forS_ap, foR_ok, forL_nil, forL_cons, flA_ok, flB_nx, appS_ap, apR_last, raiS_ap, rai1S_ap, raR_int, tryS_ap, trR_nx, trR_ret, trR_exc, starS_ap, stR_1, dr_int, dr_str, dr_bl, dr_non, dr_tup, dr_lst, dr_scr, dr_wd, dr_exn, dr_lstR, addD_ap, addQ_int, addQ_str, addQ_lst, addQ_tup, subD_int, negD_int, mulD_int, mulD_lst, fdivD_int, modD_int, powD_int, ltD_int, leD_int, gtD_int, geD_int, isn_lst, isn_non, eqB_str, eqB_int, eqD_ap, neD_ap, inB_wd, inB_chr, inD_ap, ninD_ap, omap_some, look_n, look_c, ixD_ap, ixQ_lst, ixQ_tup, ixQ_scr, ixQ_wd, ixQ_str, at_0, at_m1, at_m1c, at_p, rg2S_ap, r2R_ok, rg1S_ap, r1R_ok, rgD_ok', cut_m1, cut_pos, cut_posf, drop_0, drop_s, take_0, take_s, take_n, dl_1, dl_c, flat_rep, eq_self, Int.cast_ofNat_Int, lenD_ap, lenQ_lst, lenQ_scr, lenQ_tup, lenQ_str, intC_int, strC_str, strC_int, listC_lst, listC_tup, tupleC_lst, tupleC_tup, joinM_ap, splitM_ok, ofString_inj, List.length_cons, List.length_nil, List.length_append, List.length_map, Int.reduceNeg, Int.reduceAdd, Int.reduceSub, Int.reduceMul, Int.reduceMod, Int.reducePow, Int.reduceDiv, Int.reduceLE, Int.reduceLT, Int.reduceEq, Int.reduceToNat, Nat.reduceAdd, Nat.reduceSub, Nat.reduceLeDiff, Nat.reduceEqDiff, String.reduceEq, decide_true, decide_false, Bool.not_true, Bool.not_false, Bool.and_true, Bool.true_and, Bool.and_false, Bool.false_and, Bool.or_true, Bool.or_false, Bool.true_or, Bool.false_or, Option.isSome_some, Option.isSome_none, if_true, if_false, Bool.false_eq_true, Int.reduceBNe]
      · intro x hxx
        rcases List.mem_append.mp hxx with h | h
        · exact hx x h
        · rw [List.mem_singleton.mp h]; omega

/-- a token: it has signs, no space, and is short -/
structure TokS (t : Str) : Prop where
  ok : sOk t
  lo : 1 ≤ t.length
  hi : t.length ≤ 12
  sp : 32 ∉ TL.tl t
def signS : Str := "!\"#$&'()*+,-./0123456789:;<=>?@ABCDEFGHIJKLMNOPQRSTUVWXYZ[\\]^_`abcdefghijklmnopqrstuvwxyz{|}~"
theorem sign_len : signS.cps.toList.length = 93 := by decide +kernel
theorem sign_all : ∀ c ∈ signS.cps.toList, c < 0x110000 ∧ c ≠ 32 := by decide +kernel
theorem joinL_nil : ∀ l : List (List Nat), TL.joinL [] l = l.flatten
  | [] => rfl
  | [p] => by simp [TL.joinL]
  | p :: q :: r => by
    show p ++ ([] ++ TL.joinL [] (q :: r)) = _
    rw [joinL_nil (q :: r)]; simp
theorem tl_e : TL.tl ("" : Str) = [] := by decide +kernel
theorem tl_chars (l : List Nat) : TL.tl (Txt.join "" (l.map fun c => ⟨#[c]⟩)) = l := by
  rw [TL.join_eq, TL.tl_join, tl_e, joinL_nil, List.map_map]
  induction l with
  | nil => rfl
  | cons c l ih => rw [List.map_cons, List.flatten_cons, ih]; rfl
theorem len_tl' (s : Str) : s.length = (TL.tl s).length := by show s.cps.size = s.cps.toList.length; simp
theorem tok_of {l : List Nat} (h1 : 1 ≤ l.length) (h2 : l.length ≤ 12) (h : ∀ c ∈ l, c < 0x110000 ∧ c ≠ 32) : TokS (Txt.join "" (l.map fun c => ⟨#[c]⟩)) := by
  have e := tl_chars l
  refine ⟨?_, by rw [len_tl', e]; exact h1, by rw [len_tl', e]; exact h2, by rw [e]; exact fun m => (h 32 m).2 rfl⟩
  unfold sOk PyData.strOk
  rw [← Array.all_toList, List.all_eq_true]
  intro c hc
  have : c ∈ l := by rw [← e]; exact hc
  simpa using (h c this).1
theorem r_token {n : Nat} {ρ : List D} {a b c : Int} (ha : 0 ≤ a ∧ a < 100) (hb : 0 ≤ b ∧ b < 100) (hc : 0 ≤ c ∧ c < 100) : ∃ t, TokS t ∧ run Tb (n + 1) 7 (fun _ => false) ρ [.int a, .int b, .int c] = .ok false (.str t) ρ := by
  let f : Nat → Nat := fun k => signS.cps.toList.getD ((a + 7 * (0 + (k : Int)) * b) % 93).toNat 0
  have hf : ∀ k : Nat, atI signS.cps.toList ((a + 7 * (0 + (k : Int)) * b) % 93) = some (f k) ∧ f k ∈ signS.cps.toList := by
    intro k
    have hl := sign_len
    obtain ⟨x, e1, e2⟩ := at_get (l := signS.cps.toList) (i := (a + 7 * (0 + (k : Int)) * b) % 93) (by omega) (by omega)
    have : f k = x := by show List.getD _ _ _ = x; rw [List.getD_eq_getElem?_getD, e2]; rfl
    rw [this]
    exact ⟨e1, List.mem_of_getElem? e2⟩
  generalize hN : (1 + c % 12).toNat = N
  have hN1 : 1 ≤ N ∧ N ≤ 12 := by omega
  let l : List Nat := (List.range N).map f
  have hl : l.length = N := by simp [l]
  refine ⟨Txt.join "" (l.map fun c => ⟨#[c]⟩), tok_of (by omega) (by omega) (fun x hx => ?_), run_res 3 5 B__law_token (o := .ret false (.str (Txt.join "" (l.map fun c => ⟨#[c]⟩))) ρ) rfl rfl rfl ?_ (fin_ret0 (by intro r h; cases h) rfl)⟩
  · obtain ⟨k, _, rfl⟩ := List.mem_map.mp hx
    exact sign_all _ (hf k).2
  · have hlc : lcL (nameG 4) yesT (bin2 ixD (varS 3) (bin2 modD (callB intC (consA (bin2 addD (varS 0) (bin2 mulD (bin2 mulD (conS (.int 7)) (varS 4)) (varS 1))) nilA)) (conS (.int 93)))) ρ [some (.int a), some (.int b), some (.int c), some (.str signS), none] (rngL 0 N) = .ok ((l.map fun c => (⟨#[c]⟩ : Str)).map .str) := by
      have : (l.map fun c => (⟨#[c]⟩ : Str)).map D.str = (List.range N).map fun k => .str ⟨#[f k]⟩ := by simp [l, Function.comp_def]
      rw [this]
      refine lc_map _ fun k hk => ⟨[some (.int a), some (.int b), some (.int c), some (.str signS), some (.int (0 + (k : Nat)))], rfl, ?_⟩
      have := (hf k).1
      have hsl : signS.length ≤ 100000 := by decide +kernel
      simp (disch := walk_at "ds") only [this, rep_0, rep_s, get_0, get_s, set_0, set_s, app_n, app_c, map_n, map_c, wipe_n, wipe_c, rb_ok, rb_exc, ofO_some, rd_some, varS_ap, conS_ap, nilA_ap, consA_ap, consR_ok, consR_exc, consR_exc0, items_ap, items_lst, items_tup, items_scr, starA_ap, starR_ok, tupS_ap, tupR_ok, lstS_ap, lstR_ok, andS_ap, andR_t, andR_f, orS_ap, orR_t, orR_f, notS_ap, testS_ap, truR_bl, truR_int, ifS_ap, ifR_t, ifR_f, andT_ap, andW_t, andW_f, orT_ap, orW_t, orW_f, notT_ap, yesT_ap, tb1_ap, blR_bl, bin2_ap, b2R_ok, un1_ap, callB_ap, cbR_ok, chainS_ap, noP_ap, someP_ap, intR_ok, slS_ap, slR_ok, slD_ap, slQ_lst, slQ_tup, methS_ap, meR_ok, callS_ap, calR_ok, cal1_ok, cal1_exc, lcS_ap, lcR_ok, lcQ_ok, lcL_nil, lcL_yes, lcY_ok, lcZ_ok, itI_ap, itR_lst, itR_scr, itR_tup, itR_str, rng1I_ap, rn1R_ok, rng3I_ap, rn3R_up, zipI_ap, zpR_lst, zpR_tup, nameG_ap, nilG_ap, consG_ap, cgR_ok, tupG_2, tupG_3, seqS_ap, sqR_nx, sqR_ret, sqR_exc, passS_ap, retS_ap, retF_ap, reR_ok, reR_exc, asgS_ap, asR_ok, asR_exc, agR_ok, ownS_ap, owR_ok, iffS_ap, ifO_t, ifO_f, ifO_exc, expS_ap, exR_ok, exR_exc, forS_ap, foR_ok, forL_nil, forL_cons, flA_ok, flB_nx, appS_ap, apR_last, raiS_ap, rai1S_ap, raR_int, tryS_ap, trR_nx, trR_ret, trR_exc, starS_ap, stR_1, dr_int, dr_str, dr_bl, dr_non, dr_tup, dr_lst, dr_scr, dr_wd, dr_exn, dr_lstR, addD_ap, addQ_int, addQ_str, addQ_lst, addQ_tup, subD_int, negD_int, mulD_int, mulD_lst, fdivD_int, modD_int, powD_int, ltD_int, leD_int, gtD_int, geD_int, isn_lst, isn_non, eqB_str, eqB_int, eqD_ap, neD_ap, inB_wd, inB_chr, inD_ap, ninD_ap, omap_some, look_n, look_c, ixD_ap, ixQ_lst, ixQ_tup, ixQ_scr, ixQ_wd, ixQ_str, at_0, at_m1, at_m1c, at_p, rg2S_ap, r2R_ok, rg1S_ap, r1R_ok, rgD_ok', cut_m1, cut_pos, cut_posf, drop_0, drop_s, take_0, take_s, take_n, dl_1, dl_c, flat_rep, eq_self, Int.cast_ofNat_Int, lenD_ap, lenQ_lst, lenQ_scr, lenQ_tup, lenQ_str, intC_int, strC_str, strC_int, listC_lst, listC_tup, tupleC_lst, tupleC_tup, joinM_ap, splitM_ok, ofString_inj, List.length_cons, List.length_nil, List.length_append, List.length_map, Int.reduceNeg, Int.reduceAdd, Int.reduceSub, Int.reduceMul, Int.reduceMod, Int.reducePow, Int.reduceDiv, Int.reduceLE, Int.reduceLT, Int.reduceEq, Int.reduceToNat, Nat.reduceAdd, Nat.reduceSub, Nat.reduceLeDiff, Nat.reduceEqDiff, String.reduceEq, decide_true, decide_false, Bool.not_true, Bool.not_false, Bool.and_true, Bool.true_and, Bool.and_false, Bool.false_and, Bool.or_true, Bool.or_false, Bool.true_or, Bool.false_or, Option.isSome_some, Option.isSome_none, if_true, if_false, Bool.false_eq_true, Int.reduceBNe]
    have hj : joinQ "" (.lst ((l.map fun c => (⟨#[c]⟩ : Str)).map .str)) = some (.str (Txt.join "" (l.map fun c => ⟨#[c]⟩))) := joinQ_strs (by
      have h1 : (("" : Str).length) = 0 := by decide +kernel
      rw [h1]
      have : ((l.map fun c => (⟨#[c]⟩ : Str)).map (·.length)) = l.map fun _ => 1 := by rw [List.map_map]; rfl
      rw [this, List.map_const', List.sum_replicate_nat]
      omega)
    have hs : (.str "!\"#$&'()*+,-./0123456789:;<=>?@ABCDEFGHIJKLMNOPQRSTUVWXYZ[\\]^_`abcdefghijklmnopqrstuvwxyz{|}~" : D) = .str signS := rfl
    have hrl : (rngL 0 N).length ≤ 100000 := by simp [rngL]; omega
    simp (disch := walk_at "ds") only [B__law_token, hs, hN, hlc, hj, rep_0, rep_s, get_0, get_s, set_0, set_s, app_n, app_c, map_n, map_c, wipe_n, wipe_c, rb_ok, rb_exc, ofO_some, rd_some, varS_ap, conS_ap, nilA_ap, consA_ap, consR_ok, consR_exc, consR_exc0, items_ap, items_lst, items_tup, items_scr, starA_ap, starR_ok, tupS_ap, tupR_ok, lstS_ap, lstR_ok, andS_ap, andR_t, andR_f, orS_ap, orR_t, orR_f, notS_ap, testS_ap, truR_bl, truR_int, ifS_ap, ifR_t, ifR_f, andT_ap, andW_t, andW_f, orT_ap, orW_t, orW_f, notT_ap, yesT_ap, tb1_ap, blR_bl, bin2_ap, b2R_ok, un1_ap, callB_ap, cbR_ok, chainS_ap, noP_ap, someP_ap, intR_ok, slS_ap, slR_ok, slD_ap, slQ_lst, slQ_tup, methS_ap, meR_ok, callS_ap, calR_ok, cal1_ok, cal1_exc, lcS_ap, lcR_ok, lcQ_ok, lcL_nil, lcL_yes, lcY_ok, lcZ_ok, itI_ap, itR_lst, itR_scr, itR_tup, itR_str, rng1I_ap, rn1R_ok, rng3I_ap, rn3R_up, zipI_ap, zpR_lst, zpR_tup, nameG_ap, nilG_ap, consG_ap, cgR_ok, tupG_2, tupG_3, seqS_ap, sqR_nx, sqR_ret, sqR_exc, passS_ap, retS_ap, retF_ap, reR_ok, reR_exc, asgS_ap, asR_ok, asR_exc, agR_ok, ownS_ap, owR_ok, iffS_ap, ifO_t, ifO_f, ifO_exc, expS_ap, exR_ok, exR_exc, forS_ap, foR_ok, forL_nil, forL_cons, flA_ok, flB_nx, appS_ap, apR_last, raiS_ap, rai1S_ap, raR_int, tryS_ap, trR_nx, trR_ret, trR_exc, starS_ap, stR_1, dr_int, dr_str, dr_bl, dr_non, dr_tup, dr_lst, dr_scr, dr_wd, dr_exn, dr_lstR, addD_ap, addQ_int, addQ_str, addQ_lst, addQ_tup, subD_int, negD_int, mulD_int, mulD_lst, fdivD_int, modD_int, powD_int, ltD_int, leD_int, gtD_int, geD_int, isn_lst, isn_non, eqB_str, eqB_int, eqD_ap, neD_ap, inB_wd, inB_chr, inD_ap, ninD_ap, omap_some, look_n, look_c, ixD_ap, ixQ_lst, ixQ_tup, ixQ_scr, ixQ_wd, ixQ_str, at_0, at_m1, at_m1c, at_p, rg2S_ap, r2R_ok, rg1S_ap, r1R_ok, rgD_ok', cut_m1, cut_pos, cut_posf, drop_0, drop_s, take_0, take_s, take_n, dl_1, dl_c, flat_rep, eq_self, Int.cast_ofNat_Int, lenD_ap, lenQ_lst, lenQ_scr, lenQ_tup, lenQ_str, intC_int, strC_str, strC_int, listC_lst, listC_tup, tupleC_lst, tupleC_tup, joinM_ap, splitM_ok, ofString_inj, List.length_cons, List.length_nil, List.length_append, List.length_map, Int.reduceNeg, Int.reduceAdd, Int.reduceSub, Int.reduceMul, Int.reduceMod, Int.reducePow, Int.reduceDiv, Int.reduceLE, Int.reduceLT, Int.reduceEq, Int.reduceToNat, Nat.reduceAdd, Nat.reduceSub, Nat.reduceLeDiff, Nat.reduceEqDiff, String.reduceEq, decide_true, decide_false, Bool.not_true, Bool.not_false, Bool.and_true, Bool.true_and, Bool.and_false, Bool.false_and, Bool.or_true, Bool.or_false, Bool.true_or, Bool.false_or, Option.isSome_some, Option.isSome_none, if_true, if_false, Bool.false_eq_true, Int.reduceBNe]

/-- a number as text -/
abbrev nt (i : Int) : Str := ((toString i : String) : Str)
theorem nt_all : ∀ m : Fin 100, isNum (nt ((m : Nat) : Int)) = true ∧ PyData.strOk (nt ((m : Nat) : Int)) = true ∧ 1 ≤ (nt ((m : Nat) : Int)).length ∧ (nt ((m : Nat) : Int)).length ≤ 12 ∧ 32 ∉ TL.tl (nt ((m : Nat) : Int)) := by decide +kernel
theorem nt_ok {i : Int} (h : 0 ≤ i ∧ i < 100) : isNum (nt i) = true ∧ TokS (nt i) := by
  obtain ⟨m, rfl⟩ : ∃ m : Nat, i = (m : Int) := ⟨i.toNat, by omega⟩
  obtain ⟨h1, h2, h3, h4, h5⟩ := nt_all ⟨m, by omega⟩
  exact ⟨h1, ⟨h2, h3, h4, h5⟩⟩
theorem small_log {i : Int} (h : 0 ≤ i ∧ i < 100) : i.natAbs.log2 < 1920 := by
  have : i.natAbs < 2 ^ 7 := by omega
  have := Nat.log2_lt (n := i.natAbs) (k := 7)
  by_cases h0 : i.natAbs = 0
  · rw [h0]; decide
  · have := (this h0).mpr (by omega); omega
structure GoodL (k : Str) (ts : List Str) : Prop where
  wf : wfS k ts = true
  tok : ∀ t ∈ k :: ts, TokS t
  len : ts.length ≤ 30
theorem tok_ne {t : Str} (h : TokS t) : t ≠ "" := by
  intro e
  have h1 := h.lo
  rw [e] at h1
  revert h1
  decide +kernel
theorem nn_name : ¬ (("name" : Str) ∈ numsR) := by decide +kernel
theorem nn_word : ¬ (("word" : Str) ∈ numsR) := by decide +kernel
theorem nn_end : ¬ (("end" : Str) ∈ numsR) := by decide +kernel
theorem nn_op : ¬ (("operator" : Str) ∈ numsR) := by decide +kernel
theorem nn_span : ¬ (("span" : Str) ∈ numsR) := by decide +kernel
theorem nn_test : ¬ (("test" : Str) ∈ numsR) := by decide +kernel
/-- a line of tokens with their roles -/
theorem good_of {k : Str} {W : List (Str × Str)} (hk : k ∈ kinds) (hr : rolesS k W.length = some (W.map (·.1))) (h : ∀ p ∈ W, TokS p.2 ∧ (p.1 ∈ numsR → isNum p.2 = true)) (hl : W.length ≤ 30) : GoodL k (W.map (·.2)) := by
  refine ⟨?_, fun t ht => ?_, by rw [List.length_map]; exact hl⟩
  · unfold wfS
    have h1 : ("" : Str) ∉ W.map (·.2) := fun m => by
      obtain ⟨p, hp, e⟩ := List.mem_map.mp m
      exact tok_ne (h p hp).1 e
    rw [List.length_map, hr, decide_eq_true hk, decide_eq_false h1]
    simp only [Bool.not_false, Bool.true_and, List.all_eq_true, Bool.or_eq_true, Bool.not_eq_true', decide_eq_false_iff_not]
    intro p hp
    have e : List.zip (W.map (·.1)) (W.map (·.2)) = W := by
      have := List.zip_unzip W
      rwa [List.unzip_eq_map] at this
    rw [e] at hp
    by_cases q : p.1 ∈ numsR
    · exact .inr ((h p hp).2 q)
    · exact .inl q
  · rcases List.mem_cons.mp ht with rfl | ht
    · have hall : ∀ k ∈ kinds, PyData.strOk k = true ∧ 1 ≤ k.length ∧ k.length ≤ 12 ∧ 32 ∉ TL.tl k := by decide +kernel
      obtain ⟨h1, h2, h3, h4⟩ := hall _ hk
      exact ⟨h1, h2, h3, h4⟩
    · obtain ⟨p, hp, rfl⟩ := List.mem_map.mp ht
      exact (h p hp).1
theorem sum_le : ∀ {ss : List Str}, (∀ s ∈ ss, s.length ≤ 12) → (ss.map (·.length)).sum ≤ 12 * ss.length
  | [], _ => by simp
  | s :: ss, h => by
    have := sum_le fun t ht => h t (List.mem_cons_of_mem _ ht)
    have h1 := h s (List.mem_cons_self ..)
    simp only [List.map_cons, List.sum_cons, List.length_cons]
    omega
theorem len_sp : (" " : Str).length = 1 := by decide +kernel
theorem join_sp {ss : List Str} (h : ∀ s ∈ ss, s.length ≤ 12) (hl : ss.length ≤ 1000) : joinQ " " (.lst (ss.map .str)) = some (.str (Txt.join " " ss)) := joinQ_strs (by
  have := sum_le h
  rw [len_sp]
  omega)
theorem join_good {k : Str} {ts : List Str} (g : GoodL k ts) : joinQ " " (.lst ((k :: ts).map .str)) = some (.str (Txt.join " " (k :: ts))) := join_sp (fun s hs => (g.tok s hs).hi) (by have := g.len; simp; omega)


/-! ### the words of data -/
def wordsAll (f : D → Option (List Str)) : List D → Option (List Str)
  | [] => some []
  | d :: l => (f d).bind fun a => (wordsAll f l).map fun b => a ++ b
def wordsF : Nat → D → Option (List Str)
  | 0, _ => none
  | m + 1, .str s => some [s]
  | m + 1, .int i => if 0 ≤ i ∧ i < 100 then some [nt i] else none
  | m + 1, .tup l => wordsAll (wordsF m) l
  | _, _ => none
theorem lc2_all {ρ : List D} {σ : Dd.Env} {g g1 : TGF} {fi1 : IF} {f : EF} {vs1 : List Nat} {F : D → Option (List Str)} : ∀ (l : List D) (ws : List Str), wordsAll F l = some ws → (∀ d ∈ l, ∀ w, F d = some w → ∃ σ1 lk, g ρ d σ = some σ1 ∧ fi1 ρ σ1 = .ok (w.map .str, lk) ∧ lcL g1 yesT f ρ (wipeD σ1 vs1) (w.map .str) = .ok (w.map .str)) → lc2L g yesT fi1 g1 yesT f vs1 ρ σ l = .ok (ws.map .str)
  | [], ws, e, _ => by cases e; rfl
  | d :: l, ws, e, h => by
    simp only [wordsAll] at e
    obtain ⟨a, e1, e⟩ := Option.bind_eq_some_iff.mp e
    obtain ⟨b, e2, rfl⟩ := Option.map_eq_some_iff.mp e
    obtain ⟨σ1, lk, h1, h2, h3⟩ := h d (List.mem_cons_self ..) a e1
    have ih := lc2_all l b e2 fun d hd => h d (List.mem_cons_of_mem _ hd)
    simp only [lc2L, h1, yesT, Res.bind, if_true, h2, h3, ih, List.map_append]
theorem wordsAll_len {F : D → Option (List Str)} : ∀ {l : List D} {ws : List Str}, wordsAll F l = some ws → ∀ d ∈ l, ∃ w, F d = some w ∧ w.length ≤ ws.length
  | [], _, _, d, h => (List.not_mem_nil h).elim
  | d :: l, ws, e, d', h => by
    simp only [wordsAll] at e
    obtain ⟨a, e1, e⟩ := Option.bind_eq_some_iff.mp e
    obtain ⟨b, e2, rfl⟩ := Option.map_eq_some_iff.mp e
    rcases List.mem_cons.mp h with rfl | h
    · exact ⟨a, e1, by simp⟩
    · obtain ⟨w, h1, h2⟩ := wordsAll_len e2 d' h
      exact ⟨w, h1, by simp; omega⟩
theorem lc_self {ρ : List D} {σ : Dd.Env} {ws : List Str} (h : ∃ a b, σ = [a, b, none]) : lcL (nameG 2) yesT (varS 2) ρ σ (ws.map .str) = .ok (ws.map .str) := by
  obtain ⟨a, b, rfl⟩ := h
  refine lc_map ws fun s hs => ⟨[a, b, some (.str s)], rfl, ?_⟩
  walk_at "dd"
def iterLen (ρ : List D) (l : List D) : Prop := l.length ≤ 100000
theorem r_words {n : Nat} {ρ : List D} : ∀ (m : Nat) (d : D) (ws : List Str), wordsF m d = some ws → ws.length ≤ 1000 → ∃ fr, run Tb (n + m) 0 (fun _ => false) ρ [d] = .ok fr (.lst (ws.map .str)) ρ
  | 0, _, _, e, _ => by cases e
  | m + 1, .str s, ws, e, _ => by
    cases e
    refine ⟨false, run_res (n := n + m) 1 3 B_words_of (o := .ret false (.lst [.str s]) ρ) rfl rfl rfl ?_ (fin_ret0 (by intro r h; cases h) rfl)⟩
    have e1 : isiC iscz ρ [.str s, .ty .tuple] = some (.bl false) := rfl
    simp (disch := walk_at "ds") only [B_words_of, e1, rep_0, rep_s, get_0, get_s, set_0, set_s, app_n, app_c, map_n, map_c, wipe_n, wipe_c, rb_ok, rb_exc, ofO_some, rd_some, varS_ap, conS_ap, nilA_ap, consA_ap, consR_ok, consR_exc, consR_exc0, items_ap, items_lst, items_tup, items_scr, starA_ap, starR_ok, tupS_ap, tupR_ok, lstS_ap, lstR_ok, andS_ap, andR_t, andR_f, orS_ap, orR_t, orR_f, notS_ap, testS_ap, truR_bl, truR_int, ifS_ap, ifR_t, ifR_f, andT_ap, andW_t, andW_f, orT_ap, orW_t, orW_f, notT_ap, yesT_ap, tb1_ap, blR_bl, bin2_ap, b2R_ok, un1_ap, callB_ap, cbR_ok, chainS_ap, noP_ap, someP_ap, intR_ok, slS_ap, slR_ok, slD_ap, slQ_lst, slQ_tup, methS_ap, meR_ok, callS_ap, calR_ok, cal1_ok, cal1_exc, lcS_ap, lcR_ok, lcQ_ok, lcL_nil, lcL_yes, lcY_ok, lcZ_ok, itI_ap, itR_lst, itR_scr, itR_tup, itR_str, rng1I_ap, rn1R_ok, rng3I_ap, rn3R_up, zipI_ap, zpR_lst, zpR_tup, nameG_ap, nilG_ap, consG_ap, cgR_ok, tupG_2, tupG_3, seqS_ap, sqR_nx, sqR_ret, sqR_exc, passS_ap, retS_ap, retF_ap, reR_ok, reR_exc, asgS_ap, asR_ok, asR_exc, agR_ok, ownS_ap, owR_ok, iffS_ap, ifO_t, ifO_f, ifO_exc, expS_ap, exR_ok, exR_exc, forS_ap, foR_ok, forL_nil, forL_cons, flA_ok, flB_nx, appS_ap, apR_last, raiS_ap, rai1S_ap, raR_int, tryS_ap, trR_nx, trR_ret, trR_exc, starS_ap, stR_1, dr_int, dr_str, dr_bl, dr_non, dr_tup, dr_lst, dr_scr, dr_wd, dr_exn, dr_lstR, addD_ap, addQ_int, addQ_str, addQ_lst, addQ_tup, subD_int, negD_int, mulD_int, mulD_lst, fdivD_int, modD_int, powD_int, ltD_int, leD_int, gtD_int, geD_int, isn_lst, isn_non, eqB_str, eqB_int, eqD_ap, neD_ap, inB_wd, inB_chr, inD_ap, ninD_ap, omap_some, look_n, look_c, ixD_ap, ixQ_lst, ixQ_tup, ixQ_scr, ixQ_wd, ixQ_str, at_0, at_m1, at_m1c, at_p, rg2S_ap, r2R_ok, rg1S_ap, r1R_ok, rgD_ok', cut_m1, cut_pos, cut_posf, drop_0, drop_s, take_0, take_s, take_n, dl_1, dl_c, flat_rep, eq_self, Int.cast_ofNat_Int, lenD_ap, lenQ_lst, lenQ_scr, lenQ_tup, lenQ_str, intC_int, strC_str, strC_int, listC_lst, listC_tup, tupleC_lst, tupleC_tup, joinM_ap, splitM_ok, ofString_inj, List.length_cons, List.length_nil, List.length_append, List.length_map, Int.reduceNeg, Int.reduceAdd, Int.reduceSub, Int.reduceMul, Int.reduceMod, Int.reducePow, Int.reduceDiv, Int.reduceLE, Int.reduceLT, Int.reduceEq, Int.reduceToNat, Nat.reduceAdd, Nat.reduceSub, Nat.reduceLeDiff, Nat.reduceEqDiff, String.reduceEq, decide_true, decide_false, Bool.not_true, Bool.not_false, Bool.and_true, Bool.true_and, Bool.and_false, Bool.false_and, Bool.or_true, Bool.or_false, Bool.true_or, Bool.false_or, Option.isSome_some, Option.isSome_none, if_true, if_false, Bool.false_eq_true, Int.reduceBNe]
  | m + 1, .int i, ws, e, _ => by
    simp only [wordsF] at e
    split at e
    · rename_i hi
      cases e
      refine ⟨false, run_res (n := n + m) 1 3 B_words_of (o := .ret false (.lst [.str (nt i)]) ρ) rfl rfl rfl ?_ (fin_ret0 (by intro r h; cases h) rfl)⟩
      have e1 : isiC iscz ρ [.int i, .ty .tuple] = some (.bl false) := rfl
      have := small_log hi
      simp (disch := walk_at "ds") only [B_words_of, e1, rep_0, rep_s, get_0, get_s, set_0, set_s, app_n, app_c, map_n, map_c, wipe_n, wipe_c, rb_ok, rb_exc, ofO_some, rd_some, varS_ap, conS_ap, nilA_ap, consA_ap, consR_ok, consR_exc, consR_exc0, items_ap, items_lst, items_tup, items_scr, starA_ap, starR_ok, tupS_ap, tupR_ok, lstS_ap, lstR_ok, andS_ap, andR_t, andR_f, orS_ap, orR_t, orR_f, notS_ap, testS_ap, truR_bl, truR_int, ifS_ap, ifR_t, ifR_f, andT_ap, andW_t, andW_f, orT_ap, orW_t, orW_f, notT_ap, yesT_ap, tb1_ap, blR_bl, bin2_ap, b2R_ok, un1_ap, callB_ap, cbR_ok, chainS_ap, noP_ap, someP_ap, intR_ok, slS_ap, slR_ok, slD_ap, slQ_lst, slQ_tup, methS_ap, meR_ok, callS_ap, calR_ok, cal1_ok, cal1_exc, lcS_ap, lcR_ok, lcQ_ok, lcL_nil, lcL_yes, lcY_ok, lcZ_ok, itI_ap, itR_lst, itR_scr, itR_tup, itR_str, rng1I_ap, rn1R_ok, rng3I_ap, rn3R_up, zipI_ap, zpR_lst, zpR_tup, nameG_ap, nilG_ap, consG_ap, cgR_ok, tupG_2, tupG_3, seqS_ap, sqR_nx, sqR_ret, sqR_exc, passS_ap, retS_ap, retF_ap, reR_ok, reR_exc, asgS_ap, asR_ok, asR_exc, agR_ok, ownS_ap, owR_ok, iffS_ap, ifO_t, ifO_f, ifO_exc, expS_ap, exR_ok, exR_exc, forS_ap, foR_ok, forL_nil, forL_cons, flA_ok, flB_nx, appS_ap, apR_last, raiS_ap, rai1S_ap, raR_int, tryS_ap, trR_nx, trR_ret, trR_exc, starS_ap, stR_1, dr_int, dr_str, dr_bl, dr_non, dr_tup, dr_lst, dr_scr, dr_wd, dr_exn, dr_lstR, addD_ap, addQ_int, addQ_str, addQ_lst, addQ_tup, subD_int, negD_int, mulD_int, mulD_lst, fdivD_int, modD_int, powD_int, ltD_int, leD_int, gtD_int, geD_int, isn_lst, isn_non, eqB_str, eqB_int, eqD_ap, neD_ap, inB_wd, inB_chr, inD_ap, ninD_ap, omap_some, look_n, look_c, ixD_ap, ixQ_lst, ixQ_tup, ixQ_scr, ixQ_wd, ixQ_str, at_0, at_m1, at_m1c, at_p, rg2S_ap, r2R_ok, rg1S_ap, r1R_ok, rgD_ok', cut_m1, cut_pos, cut_posf, drop_0, drop_s, take_0, take_s, take_n, dl_1, dl_c, flat_rep, eq_self, Int.cast_ofNat_Int, lenD_ap, lenQ_lst, lenQ_scr, lenQ_tup, lenQ_str, intC_int, strC_str, strC_int, listC_lst, listC_tup, tupleC_lst, tupleC_tup, joinM_ap, splitM_ok, ofString_inj, List.length_cons, List.length_nil, List.length_append, List.length_map, Int.reduceNeg, Int.reduceAdd, Int.reduceSub, Int.reduceMul, Int.reduceMod, Int.reducePow, Int.reduceDiv, Int.reduceLE, Int.reduceLT, Int.reduceEq, Int.reduceToNat, Nat.reduceAdd, Nat.reduceSub, Nat.reduceLeDiff, Nat.reduceEqDiff, String.reduceEq, decide_true, decide_false, Bool.not_true, Bool.not_false, Bool.and_true, Bool.true_and, Bool.and_false, Bool.false_and, Bool.or_true, Bool.or_false, Bool.true_or, Bool.false_or, Option.isSome_some, Option.isSome_none, if_true, if_false, Bool.false_eq_true, Int.reduceBNe]
    · cases e
  | m + 1, .tup l, ws, e, hw => by
    simp only [wordsF] at e
    refine ⟨false, run_res (n := n + m) 1 3 B_words_of (o := .ret false (.lst (ws.map .str)) ρ) rfl rfl rfl ?_ (fin_ret0 (by intro r h; cases h) (okL_map (n := ρ.length) fun _ _ => rfl))⟩
    have e1 : isiC iscz ρ [.tup l, .ty .tuple] = some (.bl true) := rfl
    have h2 : lc2L (nameG 1) yesT (itI (callS (run Tb (n + m)) 0 [] (consA (varS 1) nilA))) (nameG 2) yesT (varS 2) [2] ρ [some (.tup l), none, none] l = .ok (ws.map .str) := by
      refine lc2_all l ws e fun d hd w hF => ?_
      obtain ⟨w', h1, h2⟩ := wordsAll_len e d hd
      rw [hF] at h1
      cases h1
      obtain ⟨fr, hr⟩ := r_words (n := n) (ρ := ρ) m d w hF (by omega)
      refine ⟨[some (.tup l), some d, none], [], rfl, ?_, lc_self ⟨_, _, rfl⟩⟩
      simp (disch := walk_at "ds") only [hr, rep_0, rep_s, get_0, get_s, set_0, set_s, app_n, app_c, map_n, map_c, wipe_n, wipe_c, rb_ok, rb_exc, ofO_some, rd_some, varS_ap, conS_ap, nilA_ap, consA_ap, consR_ok, consR_exc, consR_exc0, items_ap, items_lst, items_tup, items_scr, starA_ap, starR_ok, tupS_ap, tupR_ok, lstS_ap, lstR_ok, andS_ap, andR_t, andR_f, orS_ap, orR_t, orR_f, notS_ap, testS_ap, truR_bl, truR_int, ifS_ap, ifR_t, ifR_f, andT_ap, andW_t, andW_f, orT_ap, orW_t, orW_f, notT_ap, yesT_ap, tb1_ap, blR_bl, bin2_ap, b2R_ok, un1_ap, callB_ap, cbR_ok, chainS_ap, noP_ap, someP_ap, intR_ok, slS_ap, slR_ok, slD_ap, slQ_lst, slQ_tup, methS_ap, meR_ok, callS_ap, calR_ok, cal1_ok, cal1_exc, lcS_ap, lcR_ok, lcQ_ok, lcL_nil, lcL_yes, lcY_ok, lcZ_ok, itI_ap, itR_lst, itR_scr, itR_tup, itR_str, rng1I_ap, rn1R_ok, rng3I_ap, rn3R_up, zipI_ap, zpR_lst, zpR_tup, nameG_ap, nilG_ap, consG_ap, cgR_ok, tupG_2, tupG_3, seqS_ap, sqR_nx, sqR_ret, sqR_exc, passS_ap, retS_ap, retF_ap, reR_ok, reR_exc, asgS_ap, asR_ok, asR_exc, agR_ok, ownS_ap, owR_ok, iffS_ap, ifO_t, ifO_f, ifO_exc, expS_ap, exR_ok, exR_exc, forS_ap, foR_ok, forL_nil, forL_cons, flA_ok, flB_nx, appS_ap, apR_last, raiS_ap, rai1S_ap, raR_int, tryS_ap, trR_nx, trR_ret, trR_exc, starS_ap, stR_1, dr_int, dr_str, dr_bl, dr_non, dr_tup, dr_lst, dr_scr, dr_wd, dr_exn, dr_lstR, addD_ap, addQ_int, addQ_str, addQ_lst, addQ_tup, subD_int, negD_int, mulD_int, mulD_lst, fdivD_int, modD_int, powD_int, ltD_int, leD_int, gtD_int, geD_int, isn_lst, isn_non, eqB_str, eqB_int, eqD_ap, neD_ap, inB_wd, inB_chr, inD_ap, ninD_ap, omap_some, look_n, look_c, ixD_ap, ixQ_lst, ixQ_tup, ixQ_scr, ixQ_wd, ixQ_str, at_0, at_m1, at_m1c, at_p, rg2S_ap, r2R_ok, rg1S_ap, r1R_ok, rgD_ok', cut_m1, cut_pos, cut_posf, drop_0, drop_s, take_0, take_s, take_n, dl_1, dl_c, flat_rep, eq_self, Int.cast_ofNat_Int, lenD_ap, lenQ_lst, lenQ_scr, lenQ_tup, lenQ_str, intC_int, strC_str, strC_int, listC_lst, listC_tup, tupleC_lst, tupleC_tup, joinM_ap, splitM_ok, ofString_inj, List.length_cons, List.length_nil, List.length_append, List.length_map, Int.reduceNeg, Int.reduceAdd, Int.reduceSub, Int.reduceMul, Int.reduceMod, Int.reducePow, Int.reduceDiv, Int.reduceLE, Int.reduceLT, Int.reduceEq, Int.reduceToNat, Nat.reduceAdd, Nat.reduceSub, Nat.reduceLeDiff, Nat.reduceEqDiff, String.reduceEq, decide_true, decide_false, Bool.not_true, Bool.not_false, Bool.and_true, Bool.true_and, Bool.and_false, Bool.false_and, Bool.or_true, Bool.or_false, Bool.true_or, Bool.false_or, Option.isSome_some, Option.isSome_none, if_true, if_false, Bool.false_eq_true, Int.reduceBNe]
    have hl : (ws.map D.str).length ≤ 100000 := by rw [List.length_map]; omega
    have h3 : lc2S (itI (varS 0)) (nameG 1) yesT (itI (callS (run Tb (n + m)) 0 [] (consA (varS 1) nilA))) (nameG 2) yesT (varS 2) [1, 2] [2] ρ [some (.tup l), none, none] = .ok (.lst (ws.map .str)) := by
      unfold lc2S
      have e2 : itI (varS 0) ρ [some (.tup l), none, none] = .ok (l, []) := by walk_at "dd"
      rw [e2]
      simp only [Res.bind, wipe_c, wipe_n, set_s, set_0, h2, okOnly]
      rw [if_pos hl]
    simp (disch := walk_at "ds") only [B_words_of, e1, h3, rep_0, rep_s, get_0, get_s, set_0, set_s, app_n, app_c, map_n, map_c, wipe_n, wipe_c, rb_ok, rb_exc, ofO_some, rd_some, varS_ap, conS_ap, nilA_ap, consA_ap, consR_ok, consR_exc, consR_exc0, items_ap, items_lst, items_tup, items_scr, starA_ap, starR_ok, tupS_ap, tupR_ok, lstS_ap, lstR_ok, andS_ap, andR_t, andR_f, orS_ap, orR_t, orR_f, notS_ap, testS_ap, truR_bl, truR_int, ifS_ap, ifR_t, ifR_f, andT_ap, andW_t, andW_f, orT_ap, orW_t, orW_f, notT_ap, yesT_ap, tb1_ap, blR_bl, bin2_ap, b2R_ok, un1_ap, callB_ap, cbR_ok, chainS_ap, noP_ap, someP_ap, intR_ok, slS_ap, slR_ok, slD_ap, slQ_lst, slQ_tup, methS_ap, meR_ok, callS_ap, calR_ok, cal1_ok, cal1_exc, lcS_ap, lcR_ok, lcQ_ok, lcL_nil, lcL_yes, lcY_ok, lcZ_ok, itI_ap, itR_lst, itR_scr, itR_tup, itR_str, rng1I_ap, rn1R_ok, rng3I_ap, rn3R_up, zipI_ap, zpR_lst, zpR_tup, nameG_ap, nilG_ap, consG_ap, cgR_ok, tupG_2, tupG_3, seqS_ap, sqR_nx, sqR_ret, sqR_exc, passS_ap, retS_ap, retF_ap, reR_ok, reR_exc, asgS_ap, asR_ok, asR_exc, agR_ok, ownS_ap, owR_ok, iffS_ap, ifO_t, ifO_f, ifO_exc, expS_ap, exR_ok, exR_exc, forS_ap, foR_ok, forL_nil, forL_cons, flA_ok, flB_nx, appS_ap, apR_last, raiS_ap, rai1S_ap, raR_int, tryS_ap, trR_nx, trR_ret, trR_exc, starS_ap, stR_1, dr_int, dr_str, dr_bl, dr_non, dr_tup, dr_lst, dr_scr, dr_wd, dr_exn, dr_lstR, addD_ap, addQ_int, addQ_str, addQ_lst, addQ_tup, subD_int, negD_int, mulD_int, mulD_lst, fdivD_int, modD_int, powD_int, ltD_int, leD_int, gtD_int, geD_int, isn_lst, isn_non, eqB_str, eqB_int, eqD_ap, neD_ap, inB_wd, inB_chr, inD_ap, ninD_ap, omap_some, look_n, look_c, ixD_ap, ixQ_lst, ixQ_tup, ixQ_scr, ixQ_wd, ixQ_str, at_0, at_m1, at_m1c, at_p, rg2S_ap, r2R_ok, rg1S_ap, r1R_ok, rgD_ok', cut_m1, cut_pos, cut_posf, drop_0, drop_s, take_0, take_s, take_n, dl_1, dl_c, flat_rep, eq_self, Int.cast_ofNat_Int, lenD_ap, lenQ_lst, lenQ_scr, lenQ_tup, lenQ_str, intC_int, strC_str, strC_int, listC_lst, listC_tup, tupleC_lst, tupleC_tup, joinM_ap, splitM_ok, ofString_inj, List.length_cons, List.length_nil, List.length_append, List.length_map, Int.reduceNeg, Int.reduceAdd, Int.reduceSub, Int.reduceMul, Int.reduceMod, Int.reducePow, Int.reduceDiv, Int.reduceLE, Int.reduceLT, Int.reduceEq, Int.reduceToNat, Nat.reduceAdd, Nat.reduceSub, Nat.reduceLeDiff, Nat.reduceEqDiff, String.reduceEq, decide_true, decide_false, Bool.not_true, Bool.not_false, Bool.and_true, Bool.true_and, Bool.and_false, Bool.false_and, Bool.or_true, Bool.or_false, Bool.true_or, Bool.false_or, Option.isSome_some, Option.isSome_none, if_true, if_false, Bool.false_eq_true, Int.reduceBNe]
  | m + 1, .non, _, e, _ => by cases e
  | m + 1, .bl _, _, e, _ => by cases e
  | m + 1, .lst _, _, e, _ => by cases e
  | m + 1, .st _, _, e, _ => by cases e
  | m + 1, .dct _ _, _, e, _ => by cases e
  | m + 1, .wd _ _, _, e, _ => by cases e
  | m + 1, .ins _ _, _, e, _ => by cases e
  | m + 1, .exn _ _, _, e, _ => by cases e
  | m + 1, .rt _, _, e, _ => by cases e
  | m + 1, .scr _, _, e, _ => by cases e
  | m + 1, .ty _, _, e, _ => by cases e
  | m + 1, .cl _, _, e, _ => by cases e
structure Ext (st : List D) (k : Str) (ts : List Str) : Prop where
  parse : parseD k (partsD k ts) = .tup st
  words : wordsF 4 (.tup st) = some (k :: ts)
  data : ∃ p, toPy (.tup st) = some p ∧ Sm p 3 100000
theorem r_format {n : Nat} {ρ : List D} {st : List D} {k : Str} {ts : List Str} (x : Ext st k ts) (g : GoodL k ts) : ∃ fr, run Tb (n + 5) 1 (fun _ => false) ρ [.tup st] = .ok fr (.str (Txt.join " " (k :: ts))) ρ := by
  have hl := g.len
  obtain ⟨fr, hr⟩ := r_words (n := n) (ρ := ρ) 4 (.tup st) _ x.words (by simp; omega)
  refine ⟨false, run_res (n := n + 4) 1 1 B_format_step (o := .ret false (.str (Txt.join " " (k :: ts))) ρ) rfl rfl rfl ?_ (fin_ret0 (by intro r h; cases h) rfl)⟩
  have hj := join_good g
  generalize hW : k :: ts = W at *
  simp (disch := walk_at "ds") only [B_format_step, hr, hj, rep_0, rep_s, get_0, get_s, set_0, set_s, app_n, app_c, map_n, map_c, wipe_n, wipe_c, rb_ok, rb_exc, ofO_some, rd_some, varS_ap, conS_ap, nilA_ap, consA_ap, consR_ok, consR_exc, consR_exc0, items_ap, items_lst, items_tup, items_scr, starA_ap, starR_ok, tupS_ap, tupR_ok, lstS_ap, lstR_ok, andS_ap, andR_t, andR_f, orS_ap, orR_t, orR_f, notS_ap, testS_ap, truR_bl, truR_int, ifS_ap, ifR_t, ifR_f, andT_ap, andW_t, andW_f, orT_ap, orW_t, orW_f, notT_ap, yesT_ap, tb1_ap, blR_bl, bin2_ap, b2R_ok, un1_ap, callB_ap, cbR_ok, chainS_ap, noP_ap, someP_ap, intR_ok, slS_ap, slR_ok, slD_ap, slQ_lst, slQ_tup, methS_ap, meR_ok, callS_ap, calR_ok, cal1_ok, cal1_exc, lcS_ap, lcR_ok, lcQ_ok, lcL_nil, lcL_yes, lcY_ok, lcZ_ok, itI_ap, itR_lst, itR_scr, itR_tup, itR_str, rng1I_ap, rn1R_ok, rng3I_ap, rn3R_up, zipI_ap, zpR_lst, zpR_tup, nameG_ap, nilG_ap, consG_ap, cgR_ok, tupG_2, tupG_3, seqS_ap, sqR_nx, sqR_ret, sqR_exc, passS_ap, retS_ap, retF_ap, reR_ok, reR_exc, asgS_ap, asR_ok, asR_exc, agR_ok, ownS_ap, owR_ok, iffS_ap, ifO_t, ifO_f, ifO_exc, expS_ap, exR_ok, exR_exc, forS_ap, foR_ok, forL_nil, forL_cons, flA_ok, flB_nx, appS_ap, apR_last, raiS_ap, rai1S_ap, raR_int, tryS_ap, trR_nx, trR_ret, trR_exc, starS_ap, stR_1, dr_int, dr_str, dr_bl, dr_non, dr_tup, dr_lst, dr_scr, dr_wd, dr_exn, dr_lstR, addD_ap, addQ_int, addQ_str, addQ_lst, addQ_tup, subD_int, negD_int, mulD_int, mulD_lst, fdivD_int, modD_int, powD_int, ltD_int, leD_int, gtD_int, geD_int, isn_lst, isn_non, eqB_str, eqB_int, eqD_ap, neD_ap, inB_wd, inB_chr, inD_ap, ninD_ap, omap_some, look_n, look_c, ixD_ap, ixQ_lst, ixQ_tup, ixQ_scr, ixQ_wd, ixQ_str, at_0, at_m1, at_m1c, at_p, rg2S_ap, r2R_ok, rg1S_ap, r1R_ok, rgD_ok', cut_m1, cut_pos, cut_posf, drop_0, drop_s, take_0, take_s, take_n, dl_1, dl_c, flat_rep, eq_self, Int.cast_ofNat_Int, lenD_ap, lenQ_lst, lenQ_scr, lenQ_tup, lenQ_str, intC_int, strC_str, strC_int, listC_lst, listC_tup, tupleC_lst, tupleC_tup, joinM_ap, splitM_ok, ofString_inj, List.length_cons, List.length_nil, List.length_append, List.length_map, Int.reduceNeg, Int.reduceAdd, Int.reduceSub, Int.reduceMul, Int.reduceMod, Int.reducePow, Int.reduceDiv, Int.reduceLE, Int.reduceLT, Int.reduceEq, Int.reduceToNat, Nat.reduceAdd, Nat.reduceSub, Nat.reduceLeDiff, Nat.reduceEqDiff, String.reduceEq, decide_true, decide_false, Bool.not_true, Bool.not_false, Bool.and_true, Bool.true_and, Bool.and_false, Bool.false_and, Bool.or_true, Bool.or_false, Bool.true_or, Bool.false_or, Option.isSome_some, Option.isSome_none, if_true, if_false, Bool.false_eq_true, Int.reduceBNe]
theorem numV_all : ∀ m : Fin 100, numV (nt ((m : Nat) : Int)) = ((m : Nat) : Int) := by decide +kernel
theorem numV_nt {i : Int} (h : 0 ≤ i ∧ i < 100) : numV (nt i) = i := by
  obtain ⟨m, rfl⟩ : ∃ m : Nat, i = (m : Int) := ⟨i.toNat, by omega⟩
  exact numV_all ⟨m, by omega⟩
/-- a part of a step: its role, the datum, the token -/
def PartOk (t : Str × D × Str) : Prop := (t.1 ∈ numsR ∧ ∃ i : Int, (0 ≤ i ∧ i < 100) ∧ t.2.1 = .int i ∧ t.2.2 = nt i) ∨ (t.1 ∉ numsR ∧ t.2.1 = .str t.2.2 ∧ TokS t.2.2)
theorem po_num {r : Str} {i : Int} (hr : r ∈ numsR) (h : 0 ≤ i ∧ i < 100) : PartOk (r, .int i, nt i) := .inl ⟨hr, i, h, rfl, rfl⟩
theorem po_str {r s : Str} (hr : ¬ r ∈ numsR) (h : TokS s) : PartOk (r, .str s, s) := .inr ⟨hr, rfl, h⟩
theorem parts_map : ∀ {W : List (Str × D × Str)}, (∀ t ∈ W, PartOk t) → (List.zip (W.map (·.1)) (W.map (·.2.2))).map partD = W.map (·.2.1)
  | [], _ => rfl
  | t :: W, h => by
    have ih := parts_map fun x hx => h x (List.mem_cons_of_mem _ hx)
    simp only [List.map_cons, List.zip_cons_cons, ih]
    congr 1
    unfold partD
    rcases h t (List.mem_cons_self ..) with ⟨h1, i, h2, h3, h4⟩ | ⟨h1, h2, h3⟩
    · rw [if_pos h1, h3]
      simp only [h4, numV_nt h2]
    · rw [if_neg h1, h2]
theorem parts_eq {k : Str} {W : List (Str × D × Str)} (hr : rolesS k W.length = some (W.map (·.1))) (h : ∀ t ∈ W, PartOk t) : partsD k (W.map (·.2.2)) = W.map (·.2.1) := by
  unfold partsD
  rw [List.length_map, hr]
  exact parts_map h
theorem words_map {m : Nat} : ∀ {W : List (Str × D × Str)}, (∀ t ∈ W, PartOk t) → wordsAll (wordsF (m + 1)) (W.map (·.2.1)) = some (W.map (·.2.2))
  | [], _ => rfl
  | t :: W, h => by
    have ih := words_map (m := m) fun x hx => h x (List.mem_cons_of_mem _ hx)
    have : wordsF (m + 1) t.2.1 = some [t.2.2] := by
      rcases h t (List.mem_cons_self ..) with ⟨h1, i, h2, h3, h4⟩ | ⟨h1, h2, h3⟩
      · rw [h3, h4]; simp only [wordsF]; rw [if_pos h2]
      · rw [h2]; rfl
    simp only [List.map_cons, wordsAll, this, ih, Option.bind_some, Option.map_some]
    rfl
theorem data_map : ∀ {W : List (Str × D × Str)}, (∀ t ∈ W, PartOk t) → ∃ ps, toPyL (W.map (·.2.1)) = some ps ∧ ps.length = W.length ∧ ∀ p ∈ ps, Sm p 0 20
  | [], _ => ⟨[], rfl, rfl, fun p h => (List.not_mem_nil h).elim⟩
  | t :: W, h => by
    obtain ⟨ps, e, hl, hs⟩ := data_map fun x hx => h x (List.mem_cons_of_mem _ hx)
    obtain ⟨p, e1, s1⟩ : ∃ p, toPy t.2.1 = some p ∧ Sm p 0 20 := by
      rcases h t (List.mem_cons_self ..) with ⟨h1, i, h2, h3, h4⟩ | ⟨h1, h2, h3⟩
      · exact ⟨.int i, by rw [h3]; rfl, sm_int (by omega)⟩
      · exact ⟨.str t.2.2, by rw [h2]; rfl, sm_str h3.ok (by have := h3.hi; omega)⟩
    refine ⟨p :: ps, by simp only [List.map_cons, toPyL, e1, e, Option.bind_some, Option.map_some], by simp [hl], fun q hq => ?_⟩
    rcases List.mem_cons.mp hq with rfl | hq
    · exact s1
    · exact hs q hq
theorem sm_kind {k : Str} (hk : k ∈ kinds) : Sm (.str k) 0 20 := by
  have : ∀ k ∈ kinds, PyData.strOk k = true ∧ k.length ≤ 20 := by decide +kernel
  exact sm_str (this k hk).1 (this k hk).2
theorem ext_of {k : Str} {W : List (Str × D × Str)} (hk : k ∈ kinds) (hp : ¬ k = "pair") (hq : ¬ k = "keep") (hr : rolesS k W.length = some (W.map (·.1))) (h : ∀ t ∈ W, PartOk t) (hl : W.length ≤ 30) : Ext (.str k :: W.map (·.2.1)) k (W.map (·.2.2)) := by
  refine ⟨?_, ?_, ?_⟩
  · rw [parts_eq hr h]; unfold parseD; rw [if_neg hp, if_neg hq]
  · simp only [wordsF, wordsAll, words_map h, Option.bind_some, Option.map_some]; rfl
  · obtain ⟨ps, e, hl', hs⟩ := data_map h
    refine ⟨.tuple (.str k :: ps), by simp only [toPy, toPyL, e, Option.bind_some, Option.map_some], (sm_tup (d := 0) (w := 20) fun p hp => ?_).mono (by omega) (by simp only [List.length_cons]; omega)⟩
    rcases List.mem_cons.mp hp with rfl | hp
    · exact sm_kind hk
    · exact hs p hp
theorem nn_step : ("step" : Str) ∈ numsR := by decide +kernel
theorem nn_col : ("column" : Str) ∈ numsR := by decide +kernel
theorem nn_mark : ("mark" : Str) ∈ numsR := by decide +kernel
theorem nn_size : ("size" : Str) ∈ numsR := by decide +kernel
theorem ex_keep {d1 : Int} {c : Nat → Int} {N : Nat} (b1 : 0 ≤ d1 ∧ d1 < 100) (hc : ∀ k, 0 ≤ c k ∧ c k < 100) (hN : 1 ≤ N ∧ N ≤ 9) : Ext [.str "keep", .int d1, .tup ((List.range N).map fun k => .int (c k))] "keep" (nt d1 :: (List.range N).map fun k => nt (c k)) := by
  have hW : ∀ t ∈ (List.range N).map (fun k => (("column" : Str), (D.int (c k)), nt (c k))), PartOk t := by
    intro t ht
    obtain ⟨k, _, rfl⟩ := List.mem_map.mp ht
    exact po_num nn_col (hc k)
  have hW1 : ∀ t ∈ (("step" : Str), D.int d1, nt d1) :: (List.range N).map (fun k => (("column" : Str), (D.int (c k)), nt (c k))), PartOk t := by
    intro t ht
    rcases List.mem_cons.mp ht with rfl | ht
    · exact po_num nn_step b1
    · exact hW t ht
  have e := parts_eq (k := "keep") (W := (("step" : Str), D.int d1, nt d1) :: (List.range N).map (fun k => (("column" : Str), (D.int (c k)), nt (c k)))) (by
      rw [rolesS_lit]
      simp only [String.reduceEq, if_false, if_true, List.length_cons, List.length_map, List.length_range, List.map_cons, List.map_map]
      rw [if_pos (by omega)]
      congr 2
      rw [show ((fun x : Str × D × Str => x.1) ∘ fun k => (("column" : Str), D.int (c k), nt (c k))) = fun _ => ("column" : Str) from rfl, List.map_const', List.length_range]
      rfl) hW1
  simp only [List.map_cons, List.map_map, Function.comp_def] at e
  have w := words_map (m := 2) hW
  simp only [List.map_map, Function.comp_def] at w
  obtain ⟨ps, e2, hl', hs⟩ := data_map hW
  simp only [List.map_map, Function.comp_def, List.length_map, List.length_range] at e2 hl'
  refine ⟨?_, ?_, ?_⟩
  · rw [e]; unfold parseD; rw [if_neg (by decide +kernel), if_pos rfl]; rfl
  · have w2 := words_map (m := 1) hW
    simp only [List.map_map, Function.comp_def] at w2
    have w3 : wordsF 3 (.tup ((List.range N).map fun k => .int (c k))) = some ((List.range N).map fun k => nt (c k)) := w2
    have w1 : wordsF 3 (.int d1) = some [nt d1] := by simp only [wordsF]; rw [if_pos b1]
    have w0 : wordsF 3 (.str "keep") = some [("keep" : Str)] := rfl
    show wordsAll (wordsF 3) _ = _
    simp only [wordsAll, w0, w1, w3, Option.bind_some, Option.map_some, List.append_nil]
    rfl
  · refine ⟨.tuple [.str "keep", .int d1, .tuple ps], by simp only [toPy, toPyL, e2, Option.bind_some, Option.map_some], (sm_tup (d := 1) (w := 1000) fun p hp => ?_).mono (by omega) (by simp)⟩
    simp only [List.mem_cons, List.not_mem_nil, or_false] at hp
    rcases hp with rfl | rfl | rfl
    · exact (sm_kind (by decide +kernel)).mono (by omega) (by omega)
    · exact (sm_int (by omega)).mono (by omega) (by omega)
    · exact (sm_tup hs).mono (by omega) (by omega)
theorem sm_tok {s : Str} (h : TokS s) {d w : Nat} (hw : 20 ≤ w) : Sm (.str s) d w := (sm_str (w := 20) h.ok (by have := h.hi; omega)).mono (by omega) hw
theorem sm_num {i : Int} (h : 0 ≤ i ∧ i < 100) {d w : Nat} (hw : 20 ≤ w) : Sm (.int i) d w := (sm_int (by omega)).mono (by omega) hw
theorem sm_test {a b c : Str} (ha : TokS a) (hb : TokS b) (hc : TokS c) : Sm (.tuple [.str a, .str b, .str c]) 1 100 := (sm_tup (d := 0) (w := 20) fun p hp => by
  simp only [List.mem_cons, List.not_mem_nil, or_false] at hp
  rcases hp with rfl | rfl | rfl
  · exact sm_tok ha (by omega)
  · exact sm_tok hb (by omega)
  · exact sm_tok hc (by omega)).mono (by omega) (by simp)
theorem chunk {L : List D} {j : Nat} (h : 3 + 3 * j + 3 ≤ L.length) : cutL L (some (3 + (j : Int) * 3)) (some (3 + (j : Int) * 3 + 3)) = (L.drop (3 + 3 * j)).take 3 := by
  rw [show 3 + (j : Int) * 3 + 3 = ((3 + 3 * j + 3 : Nat) : Int) by omega, show 3 + (j : Int) * 3 = ((3 + 3 * j : Nat) : Int) by omega, cut_mid (by omega) h]
  congr 1
  omega
theorem parse_pair {L : List D} {m : Nat} (h : L.length = 3 + 3 * m) : parseD "pair" L = .tup (.str "pair" :: (L.take 3 ++ [.tup ((List.range m).map fun j => .tup ((L.drop (3 + 3 * j)).take 3))])) := by
  unfold parseD
  rw [if_pos rfl]
  have hr : (Builtin.Range.rangeSize 3 (L.length : Int) 3).toNat = m := by
    rw [h]
    unfold Builtin.Range.rangeSize
    rw [if_pos (by omega)]
    split <;> omega
  rw [hr]
  congr 5
  apply List.map_congr_left
  intro j hj
  have := List.mem_range.mp hj
  rw [chunk (by omega)]
theorem tok_dec {s : Str} (h : (PyData.strOk s && (decide (1 ≤ s.length) && (decide (s.length ≤ 12) && decide (32 ∉ TL.tl s)))) = true) : TokS s := by
  simp only [Bool.and_eq_true, decide_eq_true_eq] at h
  exact ⟨h.1, h.2.1, h.2.2.1, h.2.2.2⟩
theorem ex_pair0 {d1 d2 : Int} {one two sp : Str} (b1 : 0 ≤ d1 ∧ d1 < 100) (b2 : 0 ≤ d2 ∧ d2 < 100) (t1 : TokS one) (t2 : TokS two) (tsp : TokS sp) : Ext [.str "pair", .int d1, .int d2, .str sp, .tup []] "pair" [nt d1, nt d2, sp] := by
  have e := parts_eq (k := "pair") (W := [("step", .int d1, nt d1), ("step", .int d2, nt d2), ("span", .str sp, sp)]) (by simp [rolesS_lit, List.replicate]) (by
    intro t ht
    simp only [List.mem_cons, List.not_mem_nil, or_false] at ht
    rcases ht with rfl | rfl | rfl
    · exact po_num nn_step b1
    · exact po_num nn_step b2
    · exact po_str nn_span tsp
)
  simp only [map_c, map_n] at e
  have w1 : ∀ m, wordsF (m + 1) (.int d1) = some [nt d1] := fun m => by simp only [wordsF]; rw [if_pos b1]
  have w2 : ∀ m, wordsF (m + 1) (.int d2) = some [nt d2] := fun m => by simp only [wordsF]; rw [if_pos b2]
  refine ⟨?_, ?_, .tuple [.str "pair", .int d1, .int d2, .str sp, .tuple []], by simp only [toPy, toPyL, Option.bind_some, Option.map_some], (sm_tup (d := 2) (w := 1000) fun p hp => ?_).mono (by omega) (by simp)⟩
  · rw [e]
    rw [parse_pair (m := 0) rfl]
    rfl
  · simp only [wordsF, wordsAll, Option.bind_some, Option.map_some, app_c, app_n, if_pos b1, if_pos b2]
  · simp only [List.mem_cons, List.not_mem_nil, or_false] at hp
    rcases hp with rfl | rfl | rfl | rfl | rfl
    · exact (sm_kind (by decide +kernel)).mono (by omega) (by omega)
    · exact sm_num b1 (by omega)
    · exact sm_num b2 (by omega)
    · exact sm_tok tsp (by omega)
    · refine (sm_tup (d := 1) (w := 100) fun p hp => ?_).mono (by omega) (by simp)
      exact (List.not_mem_nil hp).elim
theorem ex_pair1 {d1 d2 : Int} {one two sp : Str} (b1 : 0 ≤ d1 ∧ d1 < 100) (b2 : 0 ≤ d2 ∧ d2 < 100) (t1 : TokS one) (t2 : TokS two) (tsp : TokS sp) : Ext [.str "pair", .int d1, .int d2, .str sp, .tup [.tup [.str "start", .str "<", .str "stop"]]] "pair" [nt d1, nt d2, sp, "start", "<", "stop"] := by
  have e := parts_eq (k := "pair") (W := [("step", .int d1, nt d1), ("step", .int d2, nt d2), ("span", .str sp, sp), ("test", .str "start", "start"), ("test", .str "<", "<"), ("test", .str "stop", "stop")]) (by simp [rolesS_lit, List.replicate]) (by
    intro t ht
    simp only [List.mem_cons, List.not_mem_nil, or_false] at ht
    rcases ht with rfl | rfl | rfl | rfl | rfl | rfl
    · exact po_num nn_step b1
    · exact po_num nn_step b2
    · exact po_str nn_span tsp
    · exact po_str nn_test (tok_dec (by decide +kernel))
    · exact po_str nn_test (tok_dec (by decide +kernel))
    · exact po_str nn_test (tok_dec (by decide +kernel)))
  simp only [map_c, map_n] at e
  have w1 : ∀ m, wordsF (m + 1) (.int d1) = some [nt d1] := fun m => by simp only [wordsF]; rw [if_pos b1]
  have w2 : ∀ m, wordsF (m + 1) (.int d2) = some [nt d2] := fun m => by simp only [wordsF]; rw [if_pos b2]
  refine ⟨?_, ?_, .tuple [.str "pair", .int d1, .int d2, .str sp, .tuple [.tuple [.str "start", .str "<", .str "stop"]]], by simp only [toPy, toPyL, Option.bind_some, Option.map_some], (sm_tup (d := 2) (w := 1000) fun p hp => ?_).mono (by omega) (by simp)⟩
  · rw [e]
    rw [parse_pair (m := 1) rfl]
    rfl
  · simp only [wordsF, wordsAll, Option.bind_some, Option.map_some, app_c, app_n, if_pos b1, if_pos b2]
  · simp only [List.mem_cons, List.not_mem_nil, or_false] at hp
    rcases hp with rfl | rfl | rfl | rfl | rfl
    · exact (sm_kind (by decide +kernel)).mono (by omega) (by omega)
    · exact sm_num b1 (by omega)
    · exact sm_num b2 (by omega)
    · exact sm_tok tsp (by omega)
    · refine (sm_tup (d := 1) (w := 100) fun p hp => ?_).mono (by omega) (by simp)
      simp only [List.mem_cons, List.not_mem_nil, or_false] at hp
      rcases hp with rfl
      · exact sm_test (tok_dec (by decide +kernel)) (tok_dec (by decide +kernel)) (tok_dec (by decide +kernel))
theorem ex_pair2 {d1 d2 : Int} {one two sp : Str} (b1 : 0 ≤ d1 ∧ d1 < 100) (b2 : 0 ≤ d2 ∧ d2 < 100) (t1 : TokS one) (t2 : TokS two) (tsp : TokS sp) : Ext [.str "pair", .int d1, .int d2, .str sp, .tup [.tup [.str "start", .str "<", .str "stop"], .tup [.str two, .str one, .str two]]] "pair" [nt d1, nt d2, sp, "start", "<", "stop", two, one, two] := by
  have e := parts_eq (k := "pair") (W := [("step", .int d1, nt d1), ("step", .int d2, nt d2), ("span", .str sp, sp), ("test", .str "start", "start"), ("test", .str "<", "<"), ("test", .str "stop", "stop"), ("test", .str two, two), ("test", .str one, one), ("test", .str two, two)]) (by simp [rolesS_lit, List.replicate]) (by
    intro t ht
    simp only [List.mem_cons, List.not_mem_nil, or_false] at ht
    rcases ht with rfl | rfl | rfl | rfl | rfl | rfl | rfl | rfl | rfl
    · exact po_num nn_step b1
    · exact po_num nn_step b2
    · exact po_str nn_span tsp
    · exact po_str nn_test (tok_dec (by decide +kernel))
    · exact po_str nn_test (tok_dec (by decide +kernel))
    · exact po_str nn_test (tok_dec (by decide +kernel))
    · exact po_str nn_test t2
    · exact po_str nn_test t1
    · exact po_str nn_test t2)
  simp only [map_c, map_n] at e
  have w1 : ∀ m, wordsF (m + 1) (.int d1) = some [nt d1] := fun m => by simp only [wordsF]; rw [if_pos b1]
  have w2 : ∀ m, wordsF (m + 1) (.int d2) = some [nt d2] := fun m => by simp only [wordsF]; rw [if_pos b2]
  refine ⟨?_, ?_, .tuple [.str "pair", .int d1, .int d2, .str sp, .tuple [.tuple [.str "start", .str "<", .str "stop"], .tuple [.str two, .str one, .str two]]], by simp only [toPy, toPyL, Option.bind_some, Option.map_some], (sm_tup (d := 2) (w := 1000) fun p hp => ?_).mono (by omega) (by simp)⟩
  · rw [e]
    rw [parse_pair (m := 2) rfl]
    rfl
  · simp only [wordsF, wordsAll, Option.bind_some, Option.map_some, app_c, app_n, if_pos b1, if_pos b2]
  · simp only [List.mem_cons, List.not_mem_nil, or_false] at hp
    rcases hp with rfl | rfl | rfl | rfl | rfl
    · exact (sm_kind (by decide +kernel)).mono (by omega) (by omega)
    · exact sm_num b1 (by omega)
    · exact sm_num b2 (by omega)
    · exact sm_tok tsp (by omega)
    · refine (sm_tup (d := 1) (w := 100) fun p hp => ?_).mono (by omega) (by simp)
      simp only [List.mem_cons, List.not_mem_nil, or_false] at hp
      rcases hp with rfl | rfl
      · exact sm_test (tok_dec (by decide +kernel)) (tok_dec (by decide +kernel)) (tok_dec (by decide +kernel))
      · exact sm_test t2 t1 t2
theorem ex_pair3 {d1 d2 : Int} {one two sp : Str} (b1 : 0 ≤ d1 ∧ d1 < 100) (b2 : 0 ≤ d2 ∧ d2 < 100) (t1 : TokS one) (t2 : TokS two) (tsp : TokS sp) : Ext [.str "pair", .int d1, .int d2, .str sp, .tup [.tup [.str "start", .str "<", .str "stop"], .tup [.str two, .str one, .str two], .tup [.str "stop", .str ">=", .str "start"]]] "pair" [nt d1, nt d2, sp, "start", "<", "stop", two, one, two, "stop", ">=", "start"] := by
  have e := parts_eq (k := "pair") (W := [("step", .int d1, nt d1), ("step", .int d2, nt d2), ("span", .str sp, sp), ("test", .str "start", "start"), ("test", .str "<", "<"), ("test", .str "stop", "stop"), ("test", .str two, two), ("test", .str one, one), ("test", .str two, two), ("test", .str "stop", "stop"), ("test", .str ">=", ">="), ("test", .str "start", "start")]) (by simp [rolesS_lit, List.replicate]) (by
    intro t ht
    simp only [List.mem_cons, List.not_mem_nil, or_false] at ht
    rcases ht with rfl | rfl | rfl | rfl | rfl | rfl | rfl | rfl | rfl | rfl | rfl | rfl
    · exact po_num nn_step b1
    · exact po_num nn_step b2
    · exact po_str nn_span tsp
    · exact po_str nn_test (tok_dec (by decide +kernel))
    · exact po_str nn_test (tok_dec (by decide +kernel))
    · exact po_str nn_test (tok_dec (by decide +kernel))
    · exact po_str nn_test t2
    · exact po_str nn_test t1
    · exact po_str nn_test t2
    · exact po_str nn_test (tok_dec (by decide +kernel))
    · exact po_str nn_test (tok_dec (by decide +kernel))
    · exact po_str nn_test (tok_dec (by decide +kernel)))
  simp only [map_c, map_n] at e
  have w1 : ∀ m, wordsF (m + 1) (.int d1) = some [nt d1] := fun m => by simp only [wordsF]; rw [if_pos b1]
  have w2 : ∀ m, wordsF (m + 1) (.int d2) = some [nt d2] := fun m => by simp only [wordsF]; rw [if_pos b2]
  refine ⟨?_, ?_, .tuple [.str "pair", .int d1, .int d2, .str sp, .tuple [.tuple [.str "start", .str "<", .str "stop"], .tuple [.str two, .str one, .str two], .tuple [.str "stop", .str ">=", .str "start"]]], by simp only [toPy, toPyL, Option.bind_some, Option.map_some], (sm_tup (d := 2) (w := 1000) fun p hp => ?_).mono (by omega) (by simp)⟩
  · rw [e]
    rw [parse_pair (m := 3) rfl]
    rfl
  · simp only [wordsF, wordsAll, Option.bind_some, Option.map_some, app_c, app_n, if_pos b1, if_pos b2]
  · simp only [List.mem_cons, List.not_mem_nil, or_false] at hp
    rcases hp with rfl | rfl | rfl | rfl | rfl
    · exact (sm_kind (by decide +kernel)).mono (by omega) (by omega)
    · exact sm_num b1 (by omega)
    · exact sm_num b2 (by omega)
    · exact sm_tok tsp (by omega)
    · refine (sm_tup (d := 1) (w := 100) fun p hp => ?_).mono (by omega) (by simp)
      simp only [List.mem_cons, List.not_mem_nil, or_false] at hp
      rcases hp with rfl | rfl | rfl
      · exact sm_test (tok_dec (by decide +kernel)) (tok_dec (by decide +kernel)) (tok_dec (by decide +kernel))
      · exact sm_test t2 t1 t2
      · exact sm_test (tok_dec (by decide +kernel)) (tok_dec (by decide +kernel)) (tok_dec (by decide +kernel))
theorem ex_pair4 {d1 d2 : Int} {one two sp : Str} (b1 : 0 ≤ d1 ∧ d1 < 100) (b2 : 0 ≤ d2 ∧ d2 < 100) (t1 : TokS one) (t2 : TokS two) (tsp : TokS sp) : Ext [.str "pair", .int d1, .int d2, .str sp, .tup [.tup [.str "start", .str "<", .str "stop"], .tup [.str two, .str one, .str two], .tup [.str "stop", .str ">=", .str "start"], .tup [.str one, .str "=", .str "start"]]] "pair" [nt d1, nt d2, sp, "start", "<", "stop", two, one, two, "stop", ">=", "start", one, "=", "start"] := by
  have e := parts_eq (k := "pair") (W := [("step", .int d1, nt d1), ("step", .int d2, nt d2), ("span", .str sp, sp), ("test", .str "start", "start"), ("test", .str "<", "<"), ("test", .str "stop", "stop"), ("test", .str two, two), ("test", .str one, one), ("test", .str two, two), ("test", .str "stop", "stop"), ("test", .str ">=", ">="), ("test", .str "start", "start"), ("test", .str one, one), ("test", .str "=", "="), ("test", .str "start", "start")]) (by simp [rolesS_lit, List.replicate]) (by
    intro t ht
    simp only [List.mem_cons, List.not_mem_nil, or_false] at ht
    rcases ht with rfl | rfl | rfl | rfl | rfl | rfl | rfl | rfl | rfl | rfl | rfl | rfl | rfl | rfl | rfl
    · exact po_num nn_step b1
    · exact po_num nn_step b2
    · exact po_str nn_span tsp
    · exact po_str nn_test (tok_dec (by decide +kernel))
    · exact po_str nn_test (tok_dec (by decide +kernel))
    · exact po_str nn_test (tok_dec (by decide +kernel))
    · exact po_str nn_test t2
    · exact po_str nn_test t1
    · exact po_str nn_test t2
    · exact po_str nn_test (tok_dec (by decide +kernel))
    · exact po_str nn_test (tok_dec (by decide +kernel))
    · exact po_str nn_test (tok_dec (by decide +kernel))
    · exact po_str nn_test t1
    · exact po_str nn_test (tok_dec (by decide +kernel))
    · exact po_str nn_test (tok_dec (by decide +kernel)))
  simp only [map_c, map_n] at e
  have w1 : ∀ m, wordsF (m + 1) (.int d1) = some [nt d1] := fun m => by simp only [wordsF]; rw [if_pos b1]
  have w2 : ∀ m, wordsF (m + 1) (.int d2) = some [nt d2] := fun m => by simp only [wordsF]; rw [if_pos b2]
  refine ⟨?_, ?_, .tuple [.str "pair", .int d1, .int d2, .str sp, .tuple [.tuple [.str "start", .str "<", .str "stop"], .tuple [.str two, .str one, .str two], .tuple [.str "stop", .str ">=", .str "start"], .tuple [.str one, .str "=", .str "start"]]], by simp only [toPy, toPyL, Option.bind_some, Option.map_some], (sm_tup (d := 2) (w := 1000) fun p hp => ?_).mono (by omega) (by simp)⟩
  · rw [e]
    rw [parse_pair (m := 4) rfl]
    rfl
  · simp only [wordsF, wordsAll, Option.bind_some, Option.map_some, app_c, app_n, if_pos b1, if_pos b2]
  · simp only [List.mem_cons, List.not_mem_nil, or_false] at hp
    rcases hp with rfl | rfl | rfl | rfl | rfl
    · exact (sm_kind (by decide +kernel)).mono (by omega) (by omega)
    · exact sm_num b1 (by omega)
    · exact sm_num b2 (by omega)
    · exact sm_tok tsp (by omega)
    · refine (sm_tup (d := 1) (w := 100) fun p hp => ?_).mono (by omega) (by simp)
      simp only [List.mem_cons, List.not_mem_nil, or_false] at hp
      rcases hp with rfl | rfl | rfl | rfl
      · exact sm_test (tok_dec (by decide +kernel)) (tok_dec (by decide +kernel)) (tok_dec (by decide +kernel))
      · exact sm_test t2 t1 t2
      · exact sm_test (tok_dec (by decide +kernel)) (tok_dec (by decide +kernel)) (tok_dec (by decide +kernel))
      · exact sm_test t1 (tok_dec (by decide +kernel)) (tok_dec (by decide +kernel))
theorem ex_pair5 {d1 d2 : Int} {one two sp : Str} (b1 : 0 ≤ d1 ∧ d1 < 100) (b2 : 0 ≤ d2 ∧ d2 < 100) (t1 : TokS one) (t2 : TokS two) (tsp : TokS sp) : Ext [.str "pair", .int d1, .int d2, .str sp, .tup [.tup [.str "start", .str "<", .str "stop"], .tup [.str two, .str one, .str two], .tup [.str "stop", .str ">=", .str "start"], .tup [.str one, .str "=", .str "start"], .tup [.str two, .str two, .str one]]] "pair" [nt d1, nt d2, sp, "start", "<", "stop", two, one, two, "stop", ">=", "start", one, "=", "start", two, two, one] := by
  have e := parts_eq (k := "pair") (W := [("step", .int d1, nt d1), ("step", .int d2, nt d2), ("span", .str sp, sp), ("test", .str "start", "start"), ("test", .str "<", "<"), ("test", .str "stop", "stop"), ("test", .str two, two), ("test", .str one, one), ("test", .str two, two), ("test", .str "stop", "stop"), ("test", .str ">=", ">="), ("test", .str "start", "start"), ("test", .str one, one), ("test", .str "=", "="), ("test", .str "start", "start"), ("test", .str two, two), ("test", .str two, two), ("test", .str one, one)]) (by simp [rolesS_lit, List.replicate]) (by
    intro t ht
    simp only [List.mem_cons, List.not_mem_nil, or_false] at ht
    rcases ht with rfl | rfl | rfl | rfl | rfl | rfl | rfl | rfl | rfl | rfl | rfl | rfl | rfl | rfl | rfl | rfl | rfl | rfl
    · exact po_num nn_step b1
    · exact po_num nn_step b2
    · exact po_str nn_span tsp
    · exact po_str nn_test (tok_dec (by decide +kernel))
    · exact po_str nn_test (tok_dec (by decide +kernel))
    · exact po_str nn_test (tok_dec (by decide +kernel))
    · exact po_str nn_test t2
    · exact po_str nn_test t1
    · exact po_str nn_test t2
    · exact po_str nn_test (tok_dec (by decide +kernel))
    · exact po_str nn_test (tok_dec (by decide +kernel))
    · exact po_str nn_test (tok_dec (by decide +kernel))
    · exact po_str nn_test t1
    · exact po_str nn_test (tok_dec (by decide +kernel))
    · exact po_str nn_test (tok_dec (by decide +kernel))
    · exact po_str nn_test t2
    · exact po_str nn_test t2
    · exact po_str nn_test t1)
  simp only [map_c, map_n] at e
  have w1 : ∀ m, wordsF (m + 1) (.int d1) = some [nt d1] := fun m => by simp only [wordsF]; rw [if_pos b1]
  have w2 : ∀ m, wordsF (m + 1) (.int d2) = some [nt d2] := fun m => by simp only [wordsF]; rw [if_pos b2]
  refine ⟨?_, ?_, .tuple [.str "pair", .int d1, .int d2, .str sp, .tuple [.tuple [.str "start", .str "<", .str "stop"], .tuple [.str two, .str one, .str two], .tuple [.str "stop", .str ">=", .str "start"], .tuple [.str one, .str "=", .str "start"], .tuple [.str two, .str two, .str one]]], by simp only [toPy, toPyL, Option.bind_some, Option.map_some], (sm_tup (d := 2) (w := 1000) fun p hp => ?_).mono (by omega) (by simp)⟩
  · rw [e]
    rw [parse_pair (m := 5) rfl]
    rfl
  · simp only [wordsF, wordsAll, Option.bind_some, Option.map_some, app_c, app_n, if_pos b1, if_pos b2]
  · simp only [List.mem_cons, List.not_mem_nil, or_false] at hp
    rcases hp with rfl | rfl | rfl | rfl | rfl
    · exact (sm_kind (by decide +kernel)).mono (by omega) (by omega)
    · exact sm_num b1 (by omega)
    · exact sm_num b2 (by omega)
    · exact sm_tok tsp (by omega)
    · refine (sm_tup (d := 1) (w := 100) fun p hp => ?_).mono (by omega) (by simp)
      simp only [List.mem_cons, List.not_mem_nil, or_false] at hp
      rcases hp with rfl | rfl | rfl | rfl | rfl
      · exact sm_test (tok_dec (by decide +kernel)) (tok_dec (by decide +kernel)) (tok_dec (by decide +kernel))
      · exact sm_test t2 t1 t2
      · exact sm_test (tok_dec (by decide +kernel)) (tok_dec (by decide +kernel)) (tok_dec (by decide +kernel))
      · exact sm_test t1 (tok_dec (by decide +kernel)) (tok_dec (by decide +kernel))
      · exact sm_test t2 t2 t1

section
variable {n : Nat} {ρ : List D} {d0 d1 d2 d3 d4 d5 d6 d7 d8 : Int}
/-- the nine numbers -/
abbrev Ld (d0 d1 d2 d3 d4 d5 d6 d7 d8 : Int) : D := .lst [.int d0, .int d1, .int d2, .int d3, .int d4, .int d5, .int d6, .int d7, .int d8]
theorem st_ok {l : D} {st : List D} (h : B__law_any_step (run Tb (n + 1)) (fun r => decide (ρ.length ≤ r)) ρ [some l, none, none, none, none, none, none] = .ret false (.tup st) ρ) (hr : okRtL ρ.length st = true) : run Tb (n + 2) 8 (fun _ => false) ρ [l] = .ok false (.tup st) ρ := run_res 1 7 B__law_any_step rfl rfl rfl h (fin_ret0 (by intro r h; cases h) hr)
theorem ln_ok {l c : D} {s : Str} (h : B__law_line (run Tb n) (fun r => decide (ρ.length ≤ r)) ρ [some l, none, none, none, none, none] = .ret false (.str s) (ρ ++ [c])) : run Tb (n + 1) 9 (fun _ => false) ρ [l] = .ok false (.str s) ρ := run_res 1 6 B__law_line rfl rfl rfl h (fin_ret (by intro r h; cases h) rfl)
def SL (n : Nat) (ρ : List D) (l : D) : Prop := ∃ st k ts, run Tb (n + 2) 8 (fun _ => false) ρ [l] = .ok false (.tup st) ρ ∧ run Tb (n + 2) 9 (fun _ => false) ρ [.tup st] = .ok false (.str (Txt.join " " (k :: ts))) ρ ∧ GoodL k ts ∧ Ext st k ts
theorem sl_table {one two : Str} (h0 : d0 % 8 = 0) (b1 : 0 ≤ d1 ∧ d1 < 100) (t1 : TokS one) (t2 : TokS two)
    (c1 : run Tb (n + 1) 7 (fun _ => false) ρ [.int d5, .int d6, .int d7] = .ok false (.str one) ρ) (c2 : run Tb (n + 1) 7 (fun _ => false) ρ [.int d6, .int d7, .int d8] = .ok false (.str two) ρ) : SL n ρ (Ld d0 d1 d2 d3 d4 d5 d6 d7 d8) := by
  have l1 := small_log b1
  have g : GoodL "table" [one, nt d1] := good_of (W := [("name", one), ("size", nt d1)]) (by decide +kernel) rfl (by
    intro p hp
    simp only [List.mem_cons, List.not_mem_nil, or_false] at hp
    rcases hp with rfl | rfl
    · exact ⟨t1, fun h => (nn_name h).elim⟩
    · exact ⟨(nt_ok b1).2, fun _ => (nt_ok b1).1⟩) (by simp)
  have hx := ext_of (k := "table") (W := [("name", .str one, one), ("size", .int d1, nt d1)]) (by decide +kernel) (by decide +kernel) (by decide +kernel) rfl (by
    intro t ht
    simp only [List.mem_cons, List.not_mem_nil, or_false] at ht
    rcases ht with rfl | rfl
    · exact po_str nn_name t1
    · exact po_num nn_size b1) (by simp)
  simp only [map_c, map_n] at hx
  refine ⟨[.str "table", .str one, .int d1], "table", [one, nt d1], st_ok ?_ rfl, ln_ok (c := .lst [.str "table", .str one, .str (nt d1)]) ?_, g, hx⟩
  · simp (disch := walk_at "ds") only [B__law_any_step, c1, c2, h0, rep_0, rep_s, get_0, get_s, set_0, set_s, app_n, app_c, map_n, map_c, wipe_n, wipe_c, rb_ok, rb_exc, ofO_some, rd_some, varS_ap, conS_ap, nilA_ap, consA_ap, consR_ok, consR_exc, consR_exc0, items_ap, items_lst, items_tup, items_scr, starA_ap, starR_ok, tupS_ap, tupR_ok, lstS_ap, lstR_ok, andS_ap, andR_t, andR_f, orS_ap, orR_t, orR_f, notS_ap, testS_ap, truR_bl, truR_int, ifS_ap, ifR_t, ifR_f, andT_ap, andW_t, andW_f, orT_ap, orW_t, orW_f, notT_ap, yesT_ap, tb1_ap, blR_bl, bin2_ap, b2R_ok, un1_ap, callB_ap, cbR_ok, chainS_ap, noP_ap, someP_ap, intR_ok, slS_ap, slR_ok, slD_ap, slQ_lst, slQ_tup, methS_ap, meR_ok, callS_ap, calR_ok, cal1_ok, cal1_exc, lcS_ap, lcR_ok, lcQ_ok, lcL_nil, lcL_yes, lcY_ok, lcZ_ok, itI_ap, itR_lst, itR_scr, itR_tup, itR_str, rng1I_ap, rn1R_ok, rng3I_ap, rn3R_up, zipI_ap, zpR_lst, zpR_tup, nameG_ap, nilG_ap, consG_ap, cgR_ok, tupG_2, tupG_3, seqS_ap, sqR_nx, sqR_ret, sqR_exc, passS_ap, retS_ap, retF_ap, reR_ok, reR_exc, asgS_ap, asR_ok, asR_exc, agR_ok, ownS_ap, owR_ok, iffS_ap, ifO_t, ifO_f, ifO_exc, expS_ap, exR_ok, exR_exc, forS_ap, foR_ok, forL_nil, forL_cons, flA_ok, flB_nx, appS_ap, apR_last, raiS_ap, rai1S_ap, raR_int, tryS_ap, trR_nx, trR_ret, trR_exc, starS_ap, stR_1, dr_int, dr_str, dr_bl, dr_non, dr_tup, dr_lst, dr_scr, dr_wd, dr_exn, dr_lstR, addD_ap, addQ_int, addQ_str, addQ_lst, addQ_tup, subD_int, negD_int, mulD_int, mulD_lst, fdivD_int, modD_int, powD_int, ltD_int, leD_int, gtD_int, geD_int, isn_lst, isn_non, eqB_str, eqB_int, eqD_ap, neD_ap, inB_wd, inB_chr, inD_ap, ninD_ap, omap_some, look_n, look_c, ixD_ap, ixQ_lst, ixQ_tup, ixQ_scr, ixQ_wd, ixQ_str, at_0, at_m1, at_m1c, at_p, rg2S_ap, r2R_ok, rg1S_ap, r1R_ok, rgD_ok', cut_m1, cut_pos, cut_posf, drop_0, drop_s, take_0, take_s, take_n, dl_1, dl_c, flat_rep, eq_self, Int.cast_ofNat_Int, lenD_ap, lenQ_lst, lenQ_scr, lenQ_tup, lenQ_str, intC_int, strC_str, strC_int, listC_lst, listC_tup, tupleC_lst, tupleC_tup, joinM_ap, splitM_ok, ofString_inj, List.length_cons, List.length_nil, List.length_append, List.length_map, Int.reduceNeg, Int.reduceAdd, Int.reduceSub, Int.reduceMul, Int.reduceMod, Int.reducePow, Int.reduceDiv, Int.reduceLE, Int.reduceLT, Int.reduceEq, Int.reduceToNat, Nat.reduceAdd, Nat.reduceSub, Nat.reduceLeDiff, Nat.reduceEqDiff, String.reduceEq, decide_true, decide_false, Bool.not_true, Bool.not_false, Bool.and_true, Bool.true_and, Bool.and_false, Bool.false_and, Bool.or_true, Bool.or_false, Bool.true_or, Bool.false_or, Option.isSome_some, Option.isSome_none, if_true, if_false, Bool.false_eq_true, Int.reduceBNe]
  · have hmu : (fun r => decide (ρ.length ≤ r)) ρ.length = true := by simp
    have hj : joinQ " " (.lst [.str "table", .str one, .str (nt d1)]) = some (.str (Txt.join " " ["table", one, nt d1])) := join_good g
    simp (disch := walk_at "ds") only [B__law_line, hj, rep_0, rep_s, get_0, get_s, set_0, set_s, app_n, app_c, map_n, map_c, wipe_n, wipe_c, rb_ok, rb_exc, ofO_some, rd_some, varS_ap, conS_ap, nilA_ap, consA_ap, consR_ok, consR_exc, consR_exc0, items_ap, items_lst, items_tup, items_scr, starA_ap, starR_ok, tupS_ap, tupR_ok, lstS_ap, lstR_ok, andS_ap, andR_t, andR_f, orS_ap, orR_t, orR_f, notS_ap, testS_ap, truR_bl, truR_int, ifS_ap, ifR_t, ifR_f, andT_ap, andW_t, andW_f, orT_ap, orW_t, orW_f, notT_ap, yesT_ap, tb1_ap, blR_bl, bin2_ap, b2R_ok, un1_ap, callB_ap, cbR_ok, chainS_ap, noP_ap, someP_ap, intR_ok, slS_ap, slR_ok, slD_ap, slQ_lst, slQ_tup, methS_ap, meR_ok, callS_ap, calR_ok, cal1_ok, cal1_exc, lcS_ap, lcR_ok, lcQ_ok, lcL_nil, lcL_yes, lcY_ok, lcZ_ok, itI_ap, itR_lst, itR_scr, itR_tup, itR_str, rng1I_ap, rn1R_ok, rng3I_ap, rn3R_up, zipI_ap, zpR_lst, zpR_tup, nameG_ap, nilG_ap, consG_ap, cgR_ok, tupG_2, tupG_3, seqS_ap, sqR_nx, sqR_ret, sqR_exc, passS_ap, retS_ap, retF_ap, reR_ok, reR_exc, asgS_ap, asR_ok, asR_exc, agR_ok, ownS_ap, owR_ok, iffS_ap, ifO_t, ifO_f, ifO_exc, expS_ap, exR_ok, exR_exc, forS_ap, foR_ok, forL_nil, forL_cons, flA_ok, flB_nx, appS_ap, apR_last, raiS_ap, rai1S_ap, raR_int, tryS_ap, trR_nx, trR_ret, trR_exc, starS_ap, stR_1, dr_int, dr_str, dr_bl, dr_non, dr_tup, dr_lst, dr_scr, dr_wd, dr_exn, dr_lstR, addD_ap, addQ_int, addQ_str, addQ_lst, addQ_tup, subD_int, negD_int, mulD_int, mulD_lst, fdivD_int, modD_int, powD_int, ltD_int, leD_int, gtD_int, geD_int, isn_lst, isn_non, eqB_str, eqB_int, eqD_ap, neD_ap, inB_wd, inB_chr, inD_ap, ninD_ap, omap_some, look_n, look_c, ixD_ap, ixQ_lst, ixQ_tup, ixQ_scr, ixQ_wd, ixQ_str, at_0, at_m1, at_m1c, at_p, rg2S_ap, r2R_ok, rg1S_ap, r1R_ok, rgD_ok', cut_m1, cut_pos, cut_posf, drop_0, drop_s, take_0, take_s, take_n, dl_1, dl_c, flat_rep, eq_self, Int.cast_ofNat_Int, lenD_ap, lenQ_lst, lenQ_scr, lenQ_tup, lenQ_str, intC_int, strC_str, strC_int, listC_lst, listC_tup, tupleC_lst, tupleC_tup, joinM_ap, splitM_ok, ofString_inj, List.length_cons, List.length_nil, List.length_append, List.length_map, Int.reduceNeg, Int.reduceAdd, Int.reduceSub, Int.reduceMul, Int.reduceMod, Int.reducePow, Int.reduceDiv, Int.reduceLE, Int.reduceLT, Int.reduceEq, Int.reduceToNat, Nat.reduceAdd, Nat.reduceSub, Nat.reduceLeDiff, Nat.reduceEqDiff, String.reduceEq, decide_true, decide_false, Bool.not_true, Bool.not_false, Bool.and_true, Bool.true_and, Bool.and_false, Bool.false_and, Bool.or_true, Bool.or_false, Bool.true_or, Bool.false_or, Option.isSome_some, Option.isSome_none, if_true, if_false, Bool.false_eq_true, Int.reduceBNe]
theorem at_tok {ss : List Str} (h : ∀ s ∈ ss, TokS s) {i : Int} (h0 : 0 ≤ i) (h1 : i < ss.length) : ∃ t, atI (ss.map D.str) i = some (.str t) ∧ TokS t := by
  obtain ⟨x, e1, e2⟩ := at_get (l := ss.map D.str) h0 (by rw [List.length_map]; exact h1)
  rw [List.getElem?_map] at e2
  obtain ⟨t, e3, rfl⟩ := Option.map_eq_some_iff.mp e2
  exact ⟨t, e1, h t (List.mem_of_getElem? e3)⟩
theorem sl_same {one two : Str} (h0 : d0 % 8 = 1) (b1 : 0 ≤ d1 ∧ d1 < 100) (b2 : 0 ≤ d2 ∧ d2 < 100) (b3 : 0 ≤ d3 ∧ d3 < 100) (b4 : 0 ≤ d4 ∧ d4 < 100) (t1 : TokS one) (t2 : TokS two)
    (c1 : run Tb (n + 1) 7 (fun _ => false) ρ [.int d5, .int d6, .int d7] = .ok false (.str one) ρ) (c2 : run Tb (n + 1) 7 (fun _ => false) ρ [.int d6, .int d7, .int d8] = .ok false (.str two) ρ) : SL n ρ (Ld d0 d1 d2 d3 d4 d5 d6 d7 d8) := by
  have l1 := small_log b1
  have l2 := small_log b2
  have l3 := small_log b3
  have l4 := small_log b4
  have hmu : (fun r => decide (ρ.length ≤ r)) ρ.length = true := by simp
  have g : GoodL "same" [nt d1, nt d2, nt d3] := good_of (W := [("step", nt d1), ("column", nt d2), ("column", nt d3)]) (by decide +kernel) rfl (by
    intro p hp
    simp only [List.mem_cons, List.not_mem_nil, or_false] at hp
    rcases hp with rfl|rfl|rfl
    all_goals first
      | exact ⟨(nt_ok ‹_›).2, fun _ => (nt_ok ‹_›).1⟩
      | exact ⟨‹_›, fun h => (nn_word h).elim⟩
      | exact ⟨‹_›, fun h => (nn_end h).elim⟩
      | exact ⟨‹_›, fun h => (nn_op h).elim⟩
      | exact ⟨‹_›, fun h => (nn_span h).elim⟩
      | exact ⟨‹_›, fun h => (nn_name h).elim⟩) (by simp)
  have hj : joinQ " " (.lst [.str "same", .str (nt d1), .str (nt d2), .str (nt d3)]) = some (.str (Txt.join " " ["same", nt d1, nt d2, nt d3])) := join_good g
  have hx := ext_of (k := "same") (W := [("step", .int d1, nt d1), ("column", .int d2, nt d2), ("column", .int d3, nt d3)]) (by decide +kernel) (by decide +kernel) (by decide +kernel) rfl (by
    intro t ht
    simp only [List.mem_cons, List.not_mem_nil, or_false] at ht
    rcases ht with rfl | rfl | rfl
    · exact po_num nn_step b1
    · exact po_num nn_col b2
    · exact po_num nn_col b3) (by simp)
  simp only [map_c, map_n] at hx
  refine ⟨[.str "same", .int d1, .int d2, .int d3], "same", [nt d1, nt d2, nt d3], st_ok ?_ rfl, ln_ok (c := .lst [.str "same", .str (nt d1), .str (nt d2), .str (nt d3)]) ?_, g, hx⟩
  · simp (disch := walk_at "ds") only [B__law_any_step, c1, c2, h0, rep_0, rep_s, get_0, get_s, set_0, set_s, app_n, app_c, map_n, map_c, wipe_n, wipe_c, rb_ok, rb_exc, ofO_some, rd_some, varS_ap, conS_ap, nilA_ap, consA_ap, consR_ok, consR_exc, consR_exc0, items_ap, items_lst, items_tup, items_scr, starA_ap, starR_ok, tupS_ap, tupR_ok, lstS_ap, lstR_ok, andS_ap, andR_t, andR_f, orS_ap, orR_t, orR_f, notS_ap, testS_ap, truR_bl, truR_int, ifS_ap, ifR_t, ifR_f, andT_ap, andW_t, andW_f, orT_ap, orW_t, orW_f, notT_ap, yesT_ap, tb1_ap, blR_bl, bin2_ap, b2R_ok, un1_ap, callB_ap, cbR_ok, chainS_ap, noP_ap, someP_ap, intR_ok, slS_ap, slR_ok, slD_ap, slQ_lst, slQ_tup, methS_ap, meR_ok, callS_ap, calR_ok, cal1_ok, cal1_exc, lcS_ap, lcR_ok, lcQ_ok, lcL_nil, lcL_yes, lcY_ok, lcZ_ok, itI_ap, itR_lst, itR_scr, itR_tup, itR_str, rng1I_ap, rn1R_ok, rng3I_ap, rn3R_up, zipI_ap, zpR_lst, zpR_tup, nameG_ap, nilG_ap, consG_ap, cgR_ok, tupG_2, tupG_3, seqS_ap, sqR_nx, sqR_ret, sqR_exc, passS_ap, retS_ap, retF_ap, reR_ok, reR_exc, asgS_ap, asR_ok, asR_exc, agR_ok, ownS_ap, owR_ok, iffS_ap, ifO_t, ifO_f, ifO_exc, expS_ap, exR_ok, exR_exc, forS_ap, foR_ok, forL_nil, forL_cons, flA_ok, flB_nx, appS_ap, apR_last, raiS_ap, rai1S_ap, raR_int, tryS_ap, trR_nx, trR_ret, trR_exc, starS_ap, stR_1, dr_int, dr_str, dr_bl, dr_non, dr_tup, dr_lst, dr_scr, dr_wd, dr_exn, dr_lstR, addD_ap, addQ_int, addQ_str, addQ_lst, addQ_tup, subD_int, negD_int, mulD_int, mulD_lst, fdivD_int, modD_int, powD_int, ltD_int, leD_int, gtD_int, geD_int, isn_lst, isn_non, eqB_str, eqB_int, eqD_ap, neD_ap, inB_wd, inB_chr, inD_ap, ninD_ap, omap_some, look_n, look_c, ixD_ap, ixQ_lst, ixQ_tup, ixQ_scr, ixQ_wd, ixQ_str, at_0, at_m1, at_m1c, at_p, rg2S_ap, r2R_ok, rg1S_ap, r1R_ok, rgD_ok', cut_m1, cut_pos, cut_posf, drop_0, drop_s, take_0, take_s, take_n, dl_1, dl_c, flat_rep, eq_self, Int.cast_ofNat_Int, lenD_ap, lenQ_lst, lenQ_scr, lenQ_tup, lenQ_str, intC_int, strC_str, strC_int, listC_lst, listC_tup, tupleC_lst, tupleC_tup, joinM_ap, splitM_ok, ofString_inj, List.length_cons, List.length_nil, List.length_append, List.length_map, Int.reduceNeg, Int.reduceAdd, Int.reduceSub, Int.reduceMul, Int.reduceMod, Int.reducePow, Int.reduceDiv, Int.reduceLE, Int.reduceLT, Int.reduceEq, Int.reduceToNat, Nat.reduceAdd, Nat.reduceSub, Nat.reduceLeDiff, Nat.reduceEqDiff, String.reduceEq, decide_true, decide_false, Bool.not_true, Bool.not_false, Bool.and_true, Bool.true_and, Bool.and_false, Bool.false_and, Bool.or_true, Bool.or_false, Bool.true_or, Bool.false_or, Option.isSome_some, Option.isSome_none, if_true, if_false, Bool.false_eq_true, Int.reduceBNe]
  · simp (disch := walk_at "ds") only [B__law_line, hj, rep_0, rep_s, get_0, get_s, set_0, set_s, app_n, app_c, map_n, map_c, wipe_n, wipe_c, rb_ok, rb_exc, ofO_some, rd_some, varS_ap, conS_ap, nilA_ap, consA_ap, consR_ok, consR_exc, consR_exc0, items_ap, items_lst, items_tup, items_scr, starA_ap, starR_ok, tupS_ap, tupR_ok, lstS_ap, lstR_ok, andS_ap, andR_t, andR_f, orS_ap, orR_t, orR_f, notS_ap, testS_ap, truR_bl, truR_int, ifS_ap, ifR_t, ifR_f, andT_ap, andW_t, andW_f, orT_ap, orW_t, orW_f, notT_ap, yesT_ap, tb1_ap, blR_bl, bin2_ap, b2R_ok, un1_ap, callB_ap, cbR_ok, chainS_ap, noP_ap, someP_ap, intR_ok, slS_ap, slR_ok, slD_ap, slQ_lst, slQ_tup, methS_ap, meR_ok, callS_ap, calR_ok, cal1_ok, cal1_exc, lcS_ap, lcR_ok, lcQ_ok, lcL_nil, lcL_yes, lcY_ok, lcZ_ok, itI_ap, itR_lst, itR_scr, itR_tup, itR_str, rng1I_ap, rn1R_ok, rng3I_ap, rn3R_up, zipI_ap, zpR_lst, zpR_tup, nameG_ap, nilG_ap, consG_ap, cgR_ok, tupG_2, tupG_3, seqS_ap, sqR_nx, sqR_ret, sqR_exc, passS_ap, retS_ap, retF_ap, reR_ok, reR_exc, asgS_ap, asR_ok, asR_exc, agR_ok, ownS_ap, owR_ok, iffS_ap, ifO_t, ifO_f, ifO_exc, expS_ap, exR_ok, exR_exc, forS_ap, foR_ok, forL_nil, forL_cons, flA_ok, flB_nx, appS_ap, apR_last, raiS_ap, rai1S_ap, raR_int, tryS_ap, trR_nx, trR_ret, trR_exc, starS_ap, stR_1, dr_int, dr_str, dr_bl, dr_non, dr_tup, dr_lst, dr_scr, dr_wd, dr_exn, dr_lstR, addD_ap, addQ_int, addQ_str, addQ_lst, addQ_tup, subD_int, negD_int, mulD_int, mulD_lst, fdivD_int, modD_int, powD_int, ltD_int, leD_int, gtD_int, geD_int, isn_lst, isn_non, eqB_str, eqB_int, eqD_ap, neD_ap, inB_wd, inB_chr, inD_ap, ninD_ap, omap_some, look_n, look_c, ixD_ap, ixQ_lst, ixQ_tup, ixQ_scr, ixQ_wd, ixQ_str, at_0, at_m1, at_m1c, at_p, rg2S_ap, r2R_ok, rg1S_ap, r1R_ok, rgD_ok', cut_m1, cut_pos, cut_posf, drop_0, drop_s, take_0, take_s, take_n, dl_1, dl_c, flat_rep, eq_self, Int.cast_ofNat_Int, lenD_ap, lenQ_lst, lenQ_scr, lenQ_tup, lenQ_str, intC_int, strC_str, strC_int, listC_lst, listC_tup, tupleC_lst, tupleC_tup, joinM_ap, splitM_ok, ofString_inj, List.length_cons, List.length_nil, List.length_append, List.length_map, Int.reduceNeg, Int.reduceAdd, Int.reduceSub, Int.reduceMul, Int.reduceMod, Int.reducePow, Int.reduceDiv, Int.reduceLE, Int.reduceLT, Int.reduceEq, Int.reduceToNat, Nat.reduceAdd, Nat.reduceSub, Nat.reduceLeDiff, Nat.reduceEqDiff, String.reduceEq, decide_true, decide_false, Bool.not_true, Bool.not_false, Bool.and_true, Bool.true_and, Bool.and_false, Bool.false_and, Bool.or_true, Bool.or_false, Bool.true_or, Bool.false_or, Option.isSome_some, Option.isSome_none, if_true, if_false, Bool.false_eq_true, Int.reduceBNe]
theorem sl_is {one two : Str} (h0 : d0 % 8 = 2) (b1 : 0 ≤ d1 ∧ d1 < 100) (b2 : 0 ≤ d2 ∧ d2 < 100) (b3 : 0 ≤ d3 ∧ d3 < 100) (b4 : 0 ≤ d4 ∧ d4 < 100) (t1 : TokS one) (t2 : TokS two)
    (c1 : run Tb (n + 1) 7 (fun _ => false) ρ [.int d5, .int d6, .int d7] = .ok false (.str one) ρ) (c2 : run Tb (n + 1) 7 (fun _ => false) ρ [.int d6, .int d7, .int d8] = .ok false (.str two) ρ) : SL n ρ (Ld d0 d1 d2 d3 d4 d5 d6 d7 d8) := by
  have l1 := small_log b1
  have l2 := small_log b2
  have l3 := small_log b3
  have l4 := small_log b4
  have hmu : (fun r => decide (ρ.length ≤ r)) ρ.length = true := by simp
  have g : GoodL "is" [nt d1, nt d2, one] := good_of (W := [("step", nt d1), ("column", nt d2), ("word", one)]) (by decide +kernel) rfl (by
    intro p hp
    simp only [List.mem_cons, List.not_mem_nil, or_false] at hp
    rcases hp with rfl|rfl|rfl
    all_goals first
      | exact ⟨(nt_ok ‹_›).2, fun _ => (nt_ok ‹_›).1⟩
      | exact ⟨‹_›, fun h => (nn_word h).elim⟩
      | exact ⟨‹_›, fun h => (nn_end h).elim⟩
      | exact ⟨‹_›, fun h => (nn_op h).elim⟩
      | exact ⟨‹_›, fun h => (nn_span h).elim⟩
      | exact ⟨‹_›, fun h => (nn_name h).elim⟩) (by simp)
  have hj : joinQ " " (.lst [.str "is", .str (nt d1), .str (nt d2), .str one]) = some (.str (Txt.join " " ["is", nt d1, nt d2, one])) := join_good g
  have hx := ext_of (k := "is") (W := [("step", .int d1, nt d1), ("column", .int d2, nt d2), ("word", .str one, one)]) (by decide +kernel) (by decide +kernel) (by decide +kernel) rfl (by
    intro t ht
    simp only [List.mem_cons, List.not_mem_nil, or_false] at ht
    rcases ht with rfl | rfl | rfl
    · exact po_num nn_step b1
    · exact po_num nn_col b2
    · exact po_str nn_word t1) (by simp)
  simp only [map_c, map_n] at hx
  refine ⟨[.str "is", .int d1, .int d2, .str one], "is", [nt d1, nt d2, one], st_ok ?_ rfl, ln_ok (c := .lst [.str "is", .str (nt d1), .str (nt d2), .str one]) ?_, g, hx⟩
  · simp (disch := walk_at "ds") only [B__law_any_step, c1, c2, h0, rep_0, rep_s, get_0, get_s, set_0, set_s, app_n, app_c, map_n, map_c, wipe_n, wipe_c, rb_ok, rb_exc, ofO_some, rd_some, varS_ap, conS_ap, nilA_ap, consA_ap, consR_ok, consR_exc, consR_exc0, items_ap, items_lst, items_tup, items_scr, starA_ap, starR_ok, tupS_ap, tupR_ok, lstS_ap, lstR_ok, andS_ap, andR_t, andR_f, orS_ap, orR_t, orR_f, notS_ap, testS_ap, truR_bl, truR_int, ifS_ap, ifR_t, ifR_f, andT_ap, andW_t, andW_f, orT_ap, orW_t, orW_f, notT_ap, yesT_ap, tb1_ap, blR_bl, bin2_ap, b2R_ok, un1_ap, callB_ap, cbR_ok, chainS_ap, noP_ap, someP_ap, intR_ok, slS_ap, slR_ok, slD_ap, slQ_lst, slQ_tup, methS_ap, meR_ok, callS_ap, calR_ok, cal1_ok, cal1_exc, lcS_ap, lcR_ok, lcQ_ok, lcL_nil, lcL_yes, lcY_ok, lcZ_ok, itI_ap, itR_lst, itR_scr, itR_tup, itR_str, rng1I_ap, rn1R_ok, rng3I_ap, rn3R_up, zipI_ap, zpR_lst, zpR_tup, nameG_ap, nilG_ap, consG_ap, cgR_ok, tupG_2, tupG_3, seqS_ap, sqR_nx, sqR_ret, sqR_exc, passS_ap, retS_ap, retF_ap, reR_ok, reR_exc, asgS_ap, asR_ok, asR_exc, agR_ok, ownS_ap, owR_ok, iffS_ap, ifO_t, ifO_f, ifO_exc, expS_ap, exR_ok, exR_exc, forS_ap, foR_ok, forL_nil, forL_cons, flA_ok, flB_nx, appS_ap, apR_last, raiS_ap, rai1S_ap, raR_int, tryS_ap, trR_nx, trR_ret, trR_exc, starS_ap, stR_1, dr_int, dr_str, dr_bl, dr_non, dr_tup, dr_lst, dr_scr, dr_wd, dr_exn, dr_lstR, addD_ap, addQ_int, addQ_str, addQ_lst, addQ_tup, subD_int, negD_int, mulD_int, mulD_lst, fdivD_int, modD_int, powD_int, ltD_int, leD_int, gtD_int, geD_int, isn_lst, isn_non, eqB_str, eqB_int, eqD_ap, neD_ap, inB_wd, inB_chr, inD_ap, ninD_ap, omap_some, look_n, look_c, ixD_ap, ixQ_lst, ixQ_tup, ixQ_scr, ixQ_wd, ixQ_str, at_0, at_m1, at_m1c, at_p, rg2S_ap, r2R_ok, rg1S_ap, r1R_ok, rgD_ok', cut_m1, cut_pos, cut_posf, drop_0, drop_s, take_0, take_s, take_n, dl_1, dl_c, flat_rep, eq_self, Int.cast_ofNat_Int, lenD_ap, lenQ_lst, lenQ_scr, lenQ_tup, lenQ_str, intC_int, strC_str, strC_int, listC_lst, listC_tup, tupleC_lst, tupleC_tup, joinM_ap, splitM_ok, ofString_inj, List.length_cons, List.length_nil, List.length_append, List.length_map, Int.reduceNeg, Int.reduceAdd, Int.reduceSub, Int.reduceMul, Int.reduceMod, Int.reducePow, Int.reduceDiv, Int.reduceLE, Int.reduceLT, Int.reduceEq, Int.reduceToNat, Nat.reduceAdd, Nat.reduceSub, Nat.reduceLeDiff, Nat.reduceEqDiff, String.reduceEq, decide_true, decide_false, Bool.not_true, Bool.not_false, Bool.and_true, Bool.true_and, Bool.and_false, Bool.false_and, Bool.or_true, Bool.or_false, Bool.true_or, Bool.false_or, Option.isSome_some, Option.isSome_none, if_true, if_false, Bool.false_eq_true, Int.reduceBNe]
  · simp (disch := walk_at "ds") only [B__law_line, hj, rep_0, rep_s, get_0, get_s, set_0, set_s, app_n, app_c, map_n, map_c, wipe_n, wipe_c, rb_ok, rb_exc, ofO_some, rd_some, varS_ap, conS_ap, nilA_ap, consA_ap, consR_ok, consR_exc, consR_exc0, items_ap, items_lst, items_tup, items_scr, starA_ap, starR_ok, tupS_ap, tupR_ok, lstS_ap, lstR_ok, andS_ap, andR_t, andR_f, orS_ap, orR_t, orR_f, notS_ap, testS_ap, truR_bl, truR_int, ifS_ap, ifR_t, ifR_f, andT_ap, andW_t, andW_f, orT_ap, orW_t, orW_f, notT_ap, yesT_ap, tb1_ap, blR_bl, bin2_ap, b2R_ok, un1_ap, callB_ap, cbR_ok, chainS_ap, noP_ap, someP_ap, intR_ok, slS_ap, slR_ok, slD_ap, slQ_lst, slQ_tup, methS_ap, meR_ok, callS_ap, calR_ok, cal1_ok, cal1_exc, lcS_ap, lcR_ok, lcQ_ok, lcL_nil, lcL_yes, lcY_ok, lcZ_ok, itI_ap, itR_lst, itR_scr, itR_tup, itR_str, rng1I_ap, rn1R_ok, rng3I_ap, rn3R_up, zipI_ap, zpR_lst, zpR_tup, nameG_ap, nilG_ap, consG_ap, cgR_ok, tupG_2, tupG_3, seqS_ap, sqR_nx, sqR_ret, sqR_exc, passS_ap, retS_ap, retF_ap, reR_ok, reR_exc, asgS_ap, asR_ok, asR_exc, agR_ok, ownS_ap, owR_ok, iffS_ap, ifO_t, ifO_f, ifO_exc, expS_ap, exR_ok, exR_exc, forS_ap, foR_ok, forL_nil, forL_cons, flA_ok, flB_nx, appS_ap, apR_last, raiS_ap, rai1S_ap, raR_int, tryS_ap, trR_nx, trR_ret, trR_exc, starS_ap, stR_1, dr_int, dr_str, dr_bl, dr_non, dr_tup, dr_lst, dr_scr, dr_wd, dr_exn, dr_lstR, addD_ap, addQ_int, addQ_str, addQ_lst, addQ_tup, subD_int, negD_int, mulD_int, mulD_lst, fdivD_int, modD_int, powD_int, ltD_int, leD_int, gtD_int, geD_int, isn_lst, isn_non, eqB_str, eqB_int, eqD_ap, neD_ap, inB_wd, inB_chr, inD_ap, ninD_ap, omap_some, look_n, look_c, ixD_ap, ixQ_lst, ixQ_tup, ixQ_scr, ixQ_wd, ixQ_str, at_0, at_m1, at_m1c, at_p, rg2S_ap, r2R_ok, rg1S_ap, r1R_ok, rgD_ok', cut_m1, cut_pos, cut_posf, drop_0, drop_s, take_0, take_s, take_n, dl_1, dl_c, flat_rep, eq_self, Int.cast_ofNat_Int, lenD_ap, lenQ_lst, lenQ_scr, lenQ_tup, lenQ_str, intC_int, strC_str, strC_int, listC_lst, listC_tup, tupleC_lst, tupleC_tup, joinM_ap, splitM_ok, ofString_inj, List.length_cons, List.length_nil, List.length_append, List.length_map, Int.reduceNeg, Int.reduceAdd, Int.reduceSub, Int.reduceMul, Int.reduceMod, Int.reducePow, Int.reduceDiv, Int.reduceLE, Int.reduceLT, Int.reduceEq, Int.reduceToNat, Nat.reduceAdd, Nat.reduceSub, Nat.reduceLeDiff, Nat.reduceEqDiff, String.reduceEq, decide_true, decide_false, Bool.not_true, Bool.not_false, Bool.and_true, Bool.true_and, Bool.and_false, Bool.false_and, Bool.or_true, Bool.or_false, Bool.true_or, Bool.false_or, Option.isSome_some, Option.isSome_none, if_true, if_false, Bool.false_eq_true, Int.reduceBNe]
theorem sl_when {one two : Str} (h0 : d0 % 8 = 3) (b1 : 0 ≤ d1 ∧ d1 < 100) (b2 : 0 ≤ d2 ∧ d2 < 100) (b3 : 0 ≤ d3 ∧ d3 < 100) (b4 : 0 ≤ d4 ∧ d4 < 100) (t1 : TokS one) (t2 : TokS two)
    (c1 : run Tb (n + 1) 7 (fun _ => false) ρ [.int d5, .int d6, .int d7] = .ok false (.str one) ρ) (c2 : run Tb (n + 1) 7 (fun _ => false) ρ [.int d6, .int d7, .int d8] = .ok false (.str two) ρ) : SL n ρ (Ld d0 d1 d2 d3 d4 d5 d6 d7 d8) := by
  have l1 := small_log b1
  have l2 := small_log b2
  have l3 := small_log b3
  have l4 := small_log b4
  have hmu : (fun r => decide (ρ.length ≤ r)) ρ.length = true := by simp
  obtain ⟨te, he, tte⟩ := at_tok (ss := ["start", "stop", one]) (i := d2 % 3) (by
    intro s hs
    simp only [List.mem_cons, List.not_mem_nil, or_false] at hs
    rcases hs with rfl | rfl | rfl
    · exact tok_dec (by decide +kernel)
    · exact tok_dec (by decide +kernel)
    · exact t1) (by omega) (by simp; omega)
  obtain ⟨to, ho, tto⟩ := at_tok (ss := ["<", "<=", "=", ">=", ">", two]) (i := d3 % 6) (by
    intro s hs
    simp only [List.mem_cons, List.not_mem_nil, or_false] at hs
    rcases hs with rfl | rfl | rfl | rfl | rfl | rfl
    · exact tok_dec (by decide +kernel)
    · exact tok_dec (by decide +kernel)
    · exact tok_dec (by decide +kernel)
    · exact tok_dec (by decide +kernel)
    · exact tok_dec (by decide +kernel)
    · exact t2) (by omega) (by simp; omega)
  simp only [List.map] at he ho
  have g : GoodL "when" [nt d1, te, to, nt d4] := good_of (W := [("step", nt d1), ("end", te), ("operator", to), ("mark", nt d4)]) (by decide +kernel) rfl (by
    intro p hp
    simp only [List.mem_cons, List.not_mem_nil, or_false] at hp
    rcases hp with rfl|rfl|rfl|rfl
    all_goals first
      | exact ⟨(nt_ok ‹_›).2, fun _ => (nt_ok ‹_›).1⟩
      | exact ⟨‹_›, fun h => (nn_word h).elim⟩
      | exact ⟨‹_›, fun h => (nn_end h).elim⟩
      | exact ⟨‹_›, fun h => (nn_op h).elim⟩
      | exact ⟨‹_›, fun h => (nn_span h).elim⟩
      | exact ⟨‹_›, fun h => (nn_name h).elim⟩) (by simp)
  have hj : joinQ " " (.lst [.str "when", .str (nt d1), .str te, .str to, .str (nt d4)]) = some (.str (Txt.join " " ["when", nt d1, te, to, nt d4])) := join_good g
  have hx := ext_of (k := "when") (W := [("step", .int d1, nt d1), ("end", .str te, te), ("operator", .str to, to), ("mark", .int d4, nt d4)]) (by decide +kernel) (by decide +kernel) (by decide +kernel) rfl (by
    intro t ht
    simp only [List.mem_cons, List.not_mem_nil, or_false] at ht
    rcases ht with rfl | rfl | rfl | rfl
    · exact po_num nn_step b1
    · exact po_str nn_end tte
    · exact po_str nn_op tto
    · exact po_num nn_mark b4) (by simp)
  simp only [map_c, map_n] at hx
  refine ⟨[.str "when", .int d1, .str te, .str to, .int d4], "when", [nt d1, te, to, nt d4], st_ok ?_ rfl, ln_ok (c := .lst [.str "when", .str (nt d1), .str te, .str to, .str (nt d4)]) ?_, g, hx⟩
  · simp (disch := walk_at "ds") only [B__law_any_step, c1, c2, h0, he, ho, rep_0, rep_s, get_0, get_s, set_0, set_s, app_n, app_c, map_n, map_c, wipe_n, wipe_c, rb_ok, rb_exc, ofO_some, rd_some, varS_ap, conS_ap, nilA_ap, consA_ap, consR_ok, consR_exc, consR_exc0, items_ap, items_lst, items_tup, items_scr, starA_ap, starR_ok, tupS_ap, tupR_ok, lstS_ap, lstR_ok, andS_ap, andR_t, andR_f, orS_ap, orR_t, orR_f, notS_ap, testS_ap, truR_bl, truR_int, ifS_ap, ifR_t, ifR_f, andT_ap, andW_t, andW_f, orT_ap, orW_t, orW_f, notT_ap, yesT_ap, tb1_ap, blR_bl, bin2_ap, b2R_ok, un1_ap, callB_ap, cbR_ok, chainS_ap, noP_ap, someP_ap, intR_ok, slS_ap, slR_ok, slD_ap, slQ_lst, slQ_tup, methS_ap, meR_ok, callS_ap, calR_ok, cal1_ok, cal1_exc, lcS_ap, lcR_ok, lcQ_ok, lcL_nil, lcL_yes, lcY_ok, lcZ_ok, itI_ap, itR_lst, itR_scr, itR_tup, itR_str, rng1I_ap, rn1R_ok, rng3I_ap, rn3R_up, zipI_ap, zpR_lst, zpR_tup, nameG_ap, nilG_ap, consG_ap, cgR_ok, tupG_2, tupG_3, seqS_ap, sqR_nx, sqR_ret, sqR_exc, passS_ap, retS_ap, retF_ap, reR_ok, reR_exc, asgS_ap, asR_ok, asR_exc, agR_ok, ownS_ap, owR_ok, iffS_ap, ifO_t, ifO_f, ifO_exc, expS_ap, exR_ok, exR_exc, forS_ap, foR_ok, forL_nil, forL_cons, flA_ok, flB_nx, appS_ap, apR_last, raiS_ap, rai1S_ap, raR_int, tryS_ap, trR_nx, trR_ret, trR_exc, starS_ap, stR_1, dr_int, dr_str, dr_bl, dr_non, dr_tup, dr_lst, dr_scr, dr_wd, dr_exn, dr_lstR, addD_ap, addQ_int, addQ_str, addQ_lst, addQ_tup, subD_int, negD_int, mulD_int, mulD_lst, fdivD_int, modD_int, powD_int, ltD_int, leD_int, gtD_int, geD_int, isn_lst, isn_non, eqB_str, eqB_int, eqD_ap, neD_ap, inB_wd, inB_chr, inD_ap, ninD_ap, omap_some, look_n, look_c, ixD_ap, ixQ_lst, ixQ_tup, ixQ_scr, ixQ_wd, ixQ_str, at_0, at_m1, at_m1c, at_p, rg2S_ap, r2R_ok, rg1S_ap, r1R_ok, rgD_ok', cut_m1, cut_pos, cut_posf, drop_0, drop_s, take_0, take_s, take_n, dl_1, dl_c, flat_rep, eq_self, Int.cast_ofNat_Int, lenD_ap, lenQ_lst, lenQ_scr, lenQ_tup, lenQ_str, intC_int, strC_str, strC_int, listC_lst, listC_tup, tupleC_lst, tupleC_tup, joinM_ap, splitM_ok, ofString_inj, List.length_cons, List.length_nil, List.length_append, List.length_map, Int.reduceNeg, Int.reduceAdd, Int.reduceSub, Int.reduceMul, Int.reduceMod, Int.reducePow, Int.reduceDiv, Int.reduceLE, Int.reduceLT, Int.reduceEq, Int.reduceToNat, Nat.reduceAdd, Nat.reduceSub, Nat.reduceLeDiff, Nat.reduceEqDiff, String.reduceEq, decide_true, decide_false, Bool.not_true, Bool.not_false, Bool.and_true, Bool.true_and, Bool.and_false, Bool.false_and, Bool.or_true, Bool.or_false, Bool.true_or, Bool.false_or, Option.isSome_some, Option.isSome_none, if_true, if_false, Bool.false_eq_true, Int.reduceBNe]
  · simp (disch := walk_at "ds") only [B__law_line, hj, rep_0, rep_s, get_0, get_s, set_0, set_s, app_n, app_c, map_n, map_c, wipe_n, wipe_c, rb_ok, rb_exc, ofO_some, rd_some, varS_ap, conS_ap, nilA_ap, consA_ap, consR_ok, consR_exc, consR_exc0, items_ap, items_lst, items_tup, items_scr, starA_ap, starR_ok, tupS_ap, tupR_ok, lstS_ap, lstR_ok, andS_ap, andR_t, andR_f, orS_ap, orR_t, orR_f, notS_ap, testS_ap, truR_bl, truR_int, ifS_ap, ifR_t, ifR_f, andT_ap, andW_t, andW_f, orT_ap, orW_t, orW_f, notT_ap, yesT_ap, tb1_ap, blR_bl, bin2_ap, b2R_ok, un1_ap, callB_ap, cbR_ok, chainS_ap, noP_ap, someP_ap, intR_ok, slS_ap, slR_ok, slD_ap, slQ_lst, slQ_tup, methS_ap, meR_ok, callS_ap, calR_ok, cal1_ok, cal1_exc, lcS_ap, lcR_ok, lcQ_ok, lcL_nil, lcL_yes, lcY_ok, lcZ_ok, itI_ap, itR_lst, itR_scr, itR_tup, itR_str, rng1I_ap, rn1R_ok, rng3I_ap, rn3R_up, zipI_ap, zpR_lst, zpR_tup, nameG_ap, nilG_ap, consG_ap, cgR_ok, tupG_2, tupG_3, seqS_ap, sqR_nx, sqR_ret, sqR_exc, passS_ap, retS_ap, retF_ap, reR_ok, reR_exc, asgS_ap, asR_ok, asR_exc, agR_ok, ownS_ap, owR_ok, iffS_ap, ifO_t, ifO_f, ifO_exc, expS_ap, exR_ok, exR_exc, forS_ap, foR_ok, forL_nil, forL_cons, flA_ok, flB_nx, appS_ap, apR_last, raiS_ap, rai1S_ap, raR_int, tryS_ap, trR_nx, trR_ret, trR_exc, starS_ap, stR_1, dr_int, dr_str, dr_bl, dr_non, dr_tup, dr_lst, dr_scr, dr_wd, dr_exn, dr_lstR, addD_ap, addQ_int, addQ_str, addQ_lst, addQ_tup, subD_int, negD_int, mulD_int, mulD_lst, fdivD_int, modD_int, powD_int, ltD_int, leD_int, gtD_int, geD_int, isn_lst, isn_non, eqB_str, eqB_int, eqD_ap, neD_ap, inB_wd, inB_chr, inD_ap, ninD_ap, omap_some, look_n, look_c, ixD_ap, ixQ_lst, ixQ_tup, ixQ_scr, ixQ_wd, ixQ_str, at_0, at_m1, at_m1c, at_p, rg2S_ap, r2R_ok, rg1S_ap, r1R_ok, rgD_ok', cut_m1, cut_pos, cut_posf, drop_0, drop_s, take_0, take_s, take_n, dl_1, dl_c, flat_rep, eq_self, Int.cast_ofNat_Int, lenD_ap, lenQ_lst, lenQ_scr, lenQ_tup, lenQ_str, intC_int, strC_str, strC_int, listC_lst, listC_tup, tupleC_lst, tupleC_tup, joinM_ap, splitM_ok, ofString_inj, List.length_cons, List.length_nil, List.length_append, List.length_map, Int.reduceNeg, Int.reduceAdd, Int.reduceSub, Int.reduceMul, Int.reduceMod, Int.reducePow, Int.reduceDiv, Int.reduceLE, Int.reduceLT, Int.reduceEq, Int.reduceToNat, Nat.reduceAdd, Nat.reduceSub, Nat.reduceLeDiff, Nat.reduceEqDiff, String.reduceEq, decide_true, decide_false, Bool.not_true, Bool.not_false, Bool.and_true, Bool.true_and, Bool.and_false, Bool.false_and, Bool.or_true, Bool.or_false, Bool.true_or, Bool.false_or, Option.isSome_some, Option.isSome_none, if_true, if_false, Bool.false_eq_true, Int.reduceBNe]
theorem sl_clip {one two : Str} (h0 : d0 % 8 = 4) (b1 : 0 ≤ d1 ∧ d1 < 100) (b2 : 0 ≤ d2 ∧ d2 < 100) (b3 : 0 ≤ d3 ∧ d3 < 100) (b4 : 0 ≤ d4 ∧ d4 < 100) (t1 : TokS one) (t2 : TokS two)
    (c1 : run Tb (n + 1) 7 (fun _ => false) ρ [.int d5, .int d6, .int d7] = .ok false (.str one) ρ) (c2 : run Tb (n + 1) 7 (fun _ => false) ρ [.int d6, .int d7, .int d8] = .ok false (.str two) ρ) : SL n ρ (Ld d0 d1 d2 d3 d4 d5 d6 d7 d8) := by
  have l1 := small_log b1
  have l2 := small_log b2
  have l3 := small_log b3
  have l4 := small_log b4
  have hmu : (fun r => decide (ρ.length ≤ r)) ρ.length = true := by simp
  have g : GoodL "clip" [nt d1, nt d2, nt d3] := good_of (W := [("step", nt d1), ("mark", nt d2), ("mark", nt d3)]) (by decide +kernel) rfl (by
    intro p hp
    simp only [List.mem_cons, List.not_mem_nil, or_false] at hp
    rcases hp with rfl|rfl|rfl
    all_goals first
      | exact ⟨(nt_ok ‹_›).2, fun _ => (nt_ok ‹_›).1⟩
      | exact ⟨‹_›, fun h => (nn_word h).elim⟩
      | exact ⟨‹_›, fun h => (nn_end h).elim⟩
      | exact ⟨‹_›, fun h => (nn_op h).elim⟩
      | exact ⟨‹_›, fun h => (nn_span h).elim⟩
      | exact ⟨‹_›, fun h => (nn_name h).elim⟩) (by simp)
  have hj : joinQ " " (.lst [.str "clip", .str (nt d1), .str (nt d2), .str (nt d3)]) = some (.str (Txt.join " " ["clip", nt d1, nt d2, nt d3])) := join_good g
  have hx := ext_of (k := "clip") (W := [("step", .int d1, nt d1), ("mark", .int d2, nt d2), ("mark", .int d3, nt d3)]) (by decide +kernel) (by decide +kernel) (by decide +kernel) rfl (by
    intro t ht
    simp only [List.mem_cons, List.not_mem_nil, or_false] at ht
    rcases ht with rfl | rfl | rfl
    · exact po_num nn_step b1
    · exact po_num nn_mark b2
    · exact po_num nn_mark b3) (by simp)
  simp only [map_c, map_n] at hx
  refine ⟨[.str "clip", .int d1, .int d2, .int d3], "clip", [nt d1, nt d2, nt d3], st_ok ?_ rfl, ln_ok (c := .lst [.str "clip", .str (nt d1), .str (nt d2), .str (nt d3)]) ?_, g, hx⟩
  · simp (disch := walk_at "ds") only [B__law_any_step, c1, c2, h0, rep_0, rep_s, get_0, get_s, set_0, set_s, app_n, app_c, map_n, map_c, wipe_n, wipe_c, rb_ok, rb_exc, ofO_some, rd_some, varS_ap, conS_ap, nilA_ap, consA_ap, consR_ok, consR_exc, consR_exc0, items_ap, items_lst, items_tup, items_scr, starA_ap, starR_ok, tupS_ap, tupR_ok, lstS_ap, lstR_ok, andS_ap, andR_t, andR_f, orS_ap, orR_t, orR_f, notS_ap, testS_ap, truR_bl, truR_int, ifS_ap, ifR_t, ifR_f, andT_ap, andW_t, andW_f, orT_ap, orW_t, orW_f, notT_ap, yesT_ap, tb1_ap, blR_bl, bin2_ap, b2R_ok, un1_ap, callB_ap, cbR_ok, chainS_ap, noP_ap, someP_ap, intR_ok, slS_ap, slR_ok, slD_ap, slQ_lst, slQ_tup, methS_ap, meR_ok, callS_ap, calR_ok, cal1_ok, cal1_exc, lcS_ap, lcR_ok, lcQ_ok, lcL_nil, lcL_yes, lcY_ok, lcZ_ok, itI_ap, itR_lst, itR_scr, itR_tup, itR_str, rng1I_ap, rn1R_ok, rng3I_ap, rn3R_up, zipI_ap, zpR_lst, zpR_tup, nameG_ap, nilG_ap, consG_ap, cgR_ok, tupG_2, tupG_3, seqS_ap, sqR_nx, sqR_ret, sqR_exc, passS_ap, retS_ap, retF_ap, reR_ok, reR_exc, asgS_ap, asR_ok, asR_exc, agR_ok, ownS_ap, owR_ok, iffS_ap, ifO_t, ifO_f, ifO_exc, expS_ap, exR_ok, exR_exc, forS_ap, foR_ok, forL_nil, forL_cons, flA_ok, flB_nx, appS_ap, apR_last, raiS_ap, rai1S_ap, raR_int, tryS_ap, trR_nx, trR_ret, trR_exc, starS_ap, stR_1, dr_int, dr_str, dr_bl, dr_non, dr_tup, dr_lst, dr_scr, dr_wd, dr_exn, dr_lstR, addD_ap, addQ_int, addQ_str, addQ_lst, addQ_tup, subD_int, negD_int, mulD_int, mulD_lst, fdivD_int, modD_int, powD_int, ltD_int, leD_int, gtD_int, geD_int, isn_lst, isn_non, eqB_str, eqB_int, eqD_ap, neD_ap, inB_wd, inB_chr, inD_ap, ninD_ap, omap_some, look_n, look_c, ixD_ap, ixQ_lst, ixQ_tup, ixQ_scr, ixQ_wd, ixQ_str, at_0, at_m1, at_m1c, at_p, rg2S_ap, r2R_ok, rg1S_ap, r1R_ok, rgD_ok', cut_m1, cut_pos, cut_posf, drop_0, drop_s, take_0, take_s, take_n, dl_1, dl_c, flat_rep, eq_self, Int.cast_ofNat_Int, lenD_ap, lenQ_lst, lenQ_scr, lenQ_tup, lenQ_str, intC_int, strC_str, strC_int, listC_lst, listC_tup, tupleC_lst, tupleC_tup, joinM_ap, splitM_ok, ofString_inj, List.length_cons, List.length_nil, List.length_append, List.length_map, Int.reduceNeg, Int.reduceAdd, Int.reduceSub, Int.reduceMul, Int.reduceMod, Int.reducePow, Int.reduceDiv, Int.reduceLE, Int.reduceLT, Int.reduceEq, Int.reduceToNat, Nat.reduceAdd, Nat.reduceSub, Nat.reduceLeDiff, Nat.reduceEqDiff, String.reduceEq, decide_true, decide_false, Bool.not_true, Bool.not_false, Bool.and_true, Bool.true_and, Bool.and_false, Bool.false_and, Bool.or_true, Bool.or_false, Bool.true_or, Bool.false_or, Option.isSome_some, Option.isSome_none, if_true, if_false, Bool.false_eq_true, Int.reduceBNe]
  · simp (disch := walk_at "ds") only [B__law_line, hj, rep_0, rep_s, get_0, get_s, set_0, set_s, app_n, app_c, map_n, map_c, wipe_n, wipe_c, rb_ok, rb_exc, ofO_some, rd_some, varS_ap, conS_ap, nilA_ap, consA_ap, consR_ok, consR_exc, consR_exc0, items_ap, items_lst, items_tup, items_scr, starA_ap, starR_ok, tupS_ap, tupR_ok, lstS_ap, lstR_ok, andS_ap, andR_t, andR_f, orS_ap, orR_t, orR_f, notS_ap, testS_ap, truR_bl, truR_int, ifS_ap, ifR_t, ifR_f, andT_ap, andW_t, andW_f, orT_ap, orW_t, orW_f, notT_ap, yesT_ap, tb1_ap, blR_bl, bin2_ap, b2R_ok, un1_ap, callB_ap, cbR_ok, chainS_ap, noP_ap, someP_ap, intR_ok, slS_ap, slR_ok, slD_ap, slQ_lst, slQ_tup, methS_ap, meR_ok, callS_ap, calR_ok, cal1_ok, cal1_exc, lcS_ap, lcR_ok, lcQ_ok, lcL_nil, lcL_yes, lcY_ok, lcZ_ok, itI_ap, itR_lst, itR_scr, itR_tup, itR_str, rng1I_ap, rn1R_ok, rng3I_ap, rn3R_up, zipI_ap, zpR_lst, zpR_tup, nameG_ap, nilG_ap, consG_ap, cgR_ok, tupG_2, tupG_3, seqS_ap, sqR_nx, sqR_ret, sqR_exc, passS_ap, retS_ap, retF_ap, reR_ok, reR_exc, asgS_ap, asR_ok, asR_exc, agR_ok, ownS_ap, owR_ok, iffS_ap, ifO_t, ifO_f, ifO_exc, expS_ap, exR_ok, exR_exc, forS_ap, foR_ok, forL_nil, forL_cons, flA_ok, flB_nx, appS_ap, apR_last, raiS_ap, rai1S_ap, raR_int, tryS_ap, trR_nx, trR_ret, trR_exc, starS_ap, stR_1, dr_int, dr_str, dr_bl, dr_non, dr_tup, dr_lst, dr_scr, dr_wd, dr_exn, dr_lstR, addD_ap, addQ_int, addQ_str, addQ_lst, addQ_tup, subD_int, negD_int, mulD_int, mulD_lst, fdivD_int, modD_int, powD_int, ltD_int, leD_int, gtD_int, geD_int, isn_lst, isn_non, eqB_str, eqB_int, eqD_ap, neD_ap, inB_wd, inB_chr, inD_ap, ninD_ap, omap_some, look_n, look_c, ixD_ap, ixQ_lst, ixQ_tup, ixQ_scr, ixQ_wd, ixQ_str, at_0, at_m1, at_m1c, at_p, rg2S_ap, r2R_ok, rg1S_ap, r1R_ok, rgD_ok', cut_m1, cut_pos, cut_posf, drop_0, drop_s, take_0, take_s, take_n, dl_1, dl_c, flat_rep, eq_self, Int.cast_ofNat_Int, lenD_ap, lenQ_lst, lenQ_scr, lenQ_tup, lenQ_str, intC_int, strC_str, strC_int, listC_lst, listC_tup, tupleC_lst, tupleC_tup, joinM_ap, splitM_ok, ofString_inj, List.length_cons, List.length_nil, List.length_append, List.length_map, Int.reduceNeg, Int.reduceAdd, Int.reduceSub, Int.reduceMul, Int.reduceMod, Int.reducePow, Int.reduceDiv, Int.reduceLE, Int.reduceLT, Int.reduceEq, Int.reduceToNat, Nat.reduceAdd, Nat.reduceSub, Nat.reduceLeDiff, Nat.reduceEqDiff, String.reduceEq, decide_true, decide_false, Bool.not_true, Bool.not_false, Bool.and_true, Bool.true_and, Bool.and_false, Bool.false_and, Bool.or_true, Bool.or_false, Bool.true_or, Bool.false_or, Option.isSome_some, Option.isSome_none, if_true, if_false, Bool.false_eq_true, Int.reduceBNe]
theorem sl_union {one two : Str} (h0 : d0 % 8 = 6) (b1 : 0 ≤ d1 ∧ d1 < 100) (b2 : 0 ≤ d2 ∧ d2 < 100) (b3 : 0 ≤ d3 ∧ d3 < 100) (b4 : 0 ≤ d4 ∧ d4 < 100) (t1 : TokS one) (t2 : TokS two)
    (c1 : run Tb (n + 1) 7 (fun _ => false) ρ [.int d5, .int d6, .int d7] = .ok false (.str one) ρ) (c2 : run Tb (n + 1) 7 (fun _ => false) ρ [.int d6, .int d7, .int d8] = .ok false (.str two) ρ) : SL n ρ (Ld d0 d1 d2 d3 d4 d5 d6 d7 d8) := by
  have l1 := small_log b1
  have l2 := small_log b2
  have l3 := small_log b3
  have l4 := small_log b4
  have hmu : (fun r => decide (ρ.length ≤ r)) ρ.length = true := by simp
  have g : GoodL "union" [nt d1, nt d2] := good_of (W := [("step", nt d1), ("step", nt d2)]) (by decide +kernel) rfl (by
    intro p hp
    simp only [List.mem_cons, List.not_mem_nil, or_false] at hp
    rcases hp with rfl|rfl
    all_goals first
      | exact ⟨(nt_ok ‹_›).2, fun _ => (nt_ok ‹_›).1⟩
      | exact ⟨‹_›, fun h => (nn_word h).elim⟩
      | exact ⟨‹_›, fun h => (nn_end h).elim⟩
      | exact ⟨‹_›, fun h => (nn_op h).elim⟩
      | exact ⟨‹_›, fun h => (nn_span h).elim⟩
      | exact ⟨‹_›, fun h => (nn_name h).elim⟩) (by simp)
  have hj : joinQ " " (.lst [.str "union", .str (nt d1), .str (nt d2)]) = some (.str (Txt.join " " ["union", nt d1, nt d2])) := join_good g
  have hx := ext_of (k := "union") (W := [("step", .int d1, nt d1), ("step", .int d2, nt d2)]) (by decide +kernel) (by decide +kernel) (by decide +kernel) rfl (by
    intro t ht
    simp only [List.mem_cons, List.not_mem_nil, or_false] at ht
    rcases ht with rfl | rfl
    · exact po_num nn_step b1
    · exact po_num nn_step b2) (by simp)
  simp only [map_c, map_n] at hx
  refine ⟨[.str "union", .int d1, .int d2], "union", [nt d1, nt d2], st_ok ?_ rfl, ln_ok (c := .lst [.str "union", .str (nt d1), .str (nt d2)]) ?_, g, hx⟩
  · simp (disch := walk_at "ds") only [B__law_any_step, c1, c2, h0, rep_0, rep_s, get_0, get_s, set_0, set_s, app_n, app_c, map_n, map_c, wipe_n, wipe_c, rb_ok, rb_exc, ofO_some, rd_some, varS_ap, conS_ap, nilA_ap, consA_ap, consR_ok, consR_exc, consR_exc0, items_ap, items_lst, items_tup, items_scr, starA_ap, starR_ok, tupS_ap, tupR_ok, lstS_ap, lstR_ok, andS_ap, andR_t, andR_f, orS_ap, orR_t, orR_f, notS_ap, testS_ap, truR_bl, truR_int, ifS_ap, ifR_t, ifR_f, andT_ap, andW_t, andW_f, orT_ap, orW_t, orW_f, notT_ap, yesT_ap, tb1_ap, blR_bl, bin2_ap, b2R_ok, un1_ap, callB_ap, cbR_ok, chainS_ap, noP_ap, someP_ap, intR_ok, slS_ap, slR_ok, slD_ap, slQ_lst, slQ_tup, methS_ap, meR_ok, callS_ap, calR_ok, cal1_ok, cal1_exc, lcS_ap, lcR_ok, lcQ_ok, lcL_nil, lcL_yes, lcY_ok, lcZ_ok, itI_ap, itR_lst, itR_scr, itR_tup, itR_str, rng1I_ap, rn1R_ok, rng3I_ap, rn3R_up, zipI_ap, zpR_lst, zpR_tup, nameG_ap, nilG_ap, consG_ap, cgR_ok, tupG_2, tupG_3, seqS_ap, sqR_nx, sqR_ret, sqR_exc, passS_ap, retS_ap, retF_ap, reR_ok, reR_exc, asgS_ap, asR_ok, asR_exc, agR_ok, ownS_ap, owR_ok, iffS_ap, ifO_t, ifO_f, ifO_exc, expS_ap, exR_ok, exR_exc, forS_ap, foR_ok, forL_nil, forL_cons, flA_ok, flB_nx, appS_ap, apR_last, raiS_ap, rai1S_ap, raR_int, tryS_ap, trR_nx, trR_ret, trR_exc, starS_ap, stR_1, dr_int, dr_str, dr_bl, dr_non, dr_tup, dr_lst, dr_scr, dr_wd, dr_exn, dr_lstR, addD_ap, addQ_int, addQ_str, addQ_lst, addQ_tup, subD_int, negD_int, mulD_int, mulD_lst, fdivD_int, modD_int, powD_int, ltD_int, leD_int, gtD_int, geD_int, isn_lst, isn_non, eqB_str, eqB_int, eqD_ap, neD_ap, inB_wd, inB_chr, inD_ap, ninD_ap, omap_some, look_n, look_c, ixD_ap, ixQ_lst, ixQ_tup, ixQ_scr, ixQ_wd, ixQ_str, at_0, at_m1, at_m1c, at_p, rg2S_ap, r2R_ok, rg1S_ap, r1R_ok, rgD_ok', cut_m1, cut_pos, cut_posf, drop_0, drop_s, take_0, take_s, take_n, dl_1, dl_c, flat_rep, eq_self, Int.cast_ofNat_Int, lenD_ap, lenQ_lst, lenQ_scr, lenQ_tup, lenQ_str, intC_int, strC_str, strC_int, listC_lst, listC_tup, tupleC_lst, tupleC_tup, joinM_ap, splitM_ok, ofString_inj, List.length_cons, List.length_nil, List.length_append, List.length_map, Int.reduceNeg, Int.reduceAdd, Int.reduceSub, Int.reduceMul, Int.reduceMod, Int.reducePow, Int.reduceDiv, Int.reduceLE, Int.reduceLT, Int.reduceEq, Int.reduceToNat, Nat.reduceAdd, Nat.reduceSub, Nat.reduceLeDiff, Nat.reduceEqDiff, String.reduceEq, decide_true, decide_false, Bool.not_true, Bool.not_false, Bool.and_true, Bool.true_and, Bool.and_false, Bool.false_and, Bool.or_true, Bool.or_false, Bool.true_or, Bool.false_or, Option.isSome_some, Option.isSome_none, if_true, if_false, Bool.false_eq_true, Int.reduceBNe]
  · simp (disch := walk_at "ds") only [B__law_line, hj, rep_0, rep_s, get_0, get_s, set_0, set_s, app_n, app_c, map_n, map_c, wipe_n, wipe_c, rb_ok, rb_exc, ofO_some, rd_some, varS_ap, conS_ap, nilA_ap, consA_ap, consR_ok, consR_exc, consR_exc0, items_ap, items_lst, items_tup, items_scr, starA_ap, starR_ok, tupS_ap, tupR_ok, lstS_ap, lstR_ok, andS_ap, andR_t, andR_f, orS_ap, orR_t, orR_f, notS_ap, testS_ap, truR_bl, truR_int, ifS_ap, ifR_t, ifR_f, andT_ap, andW_t, andW_f, orT_ap, orW_t, orW_f, notT_ap, yesT_ap, tb1_ap, blR_bl, bin2_ap, b2R_ok, un1_ap, callB_ap, cbR_ok, chainS_ap, noP_ap, someP_ap, intR_ok, slS_ap, slR_ok, slD_ap, slQ_lst, slQ_tup, methS_ap, meR_ok, callS_ap, calR_ok, cal1_ok, cal1_exc, lcS_ap, lcR_ok, lcQ_ok, lcL_nil, lcL_yes, lcY_ok, lcZ_ok, itI_ap, itR_lst, itR_scr, itR_tup, itR_str, rng1I_ap, rn1R_ok, rng3I_ap, rn3R_up, zipI_ap, zpR_lst, zpR_tup, nameG_ap, nilG_ap, consG_ap, cgR_ok, tupG_2, tupG_3, seqS_ap, sqR_nx, sqR_ret, sqR_exc, passS_ap, retS_ap, retF_ap, reR_ok, reR_exc, asgS_ap, asR_ok, asR_exc, agR_ok, ownS_ap, owR_ok, iffS_ap, ifO_t, ifO_f, ifO_exc, expS_ap, exR_ok, exR_exc, forS_ap, foR_ok, forL_nil, forL_cons, flA_ok, flB_nx, appS_ap, apR_last, raiS_ap, rai1S_ap, raR_int, tryS_ap, trR_nx, trR_ret, trR_exc, starS_ap, stR_1, dr_int, dr_str, dr_bl, dr_non, dr_tup, dr_lst, dr_scr, dr_wd, dr_exn, dr_lstR, addD_ap, addQ_int, addQ_str, addQ_lst, addQ_tup, subD_int, negD_int, mulD_int, mulD_lst, fdivD_int, modD_int, powD_int, ltD_int, leD_int, gtD_int, geD_int, isn_lst, isn_non, eqB_str, eqB_int, eqD_ap, neD_ap, inB_wd, inB_chr, inD_ap, ninD_ap, omap_some, look_n, look_c, ixD_ap, ixQ_lst, ixQ_tup, ixQ_scr, ixQ_wd, ixQ_str, at_0, at_m1, at_m1c, at_p, rg2S_ap, r2R_ok, rg1S_ap, r1R_ok, rgD_ok', cut_m1, cut_pos, cut_posf, drop_0, drop_s, take_0, take_s, take_n, dl_1, dl_c, flat_rep, eq_self, Int.cast_ofNat_Int, lenD_ap, lenQ_lst, lenQ_scr, lenQ_tup, lenQ_str, intC_int, strC_str, strC_int, listC_lst, listC_tup, tupleC_lst, tupleC_tup, joinM_ap, splitM_ok, ofString_inj, List.length_cons, List.length_nil, List.length_append, List.length_map, Int.reduceNeg, Int.reduceAdd, Int.reduceSub, Int.reduceMul, Int.reduceMod, Int.reducePow, Int.reduceDiv, Int.reduceLE, Int.reduceLT, Int.reduceEq, Int.reduceToNat, Nat.reduceAdd, Nat.reduceSub, Nat.reduceLeDiff, Nat.reduceEqDiff, String.reduceEq, decide_true, decide_false, Bool.not_true, Bool.not_false, Bool.and_true, Bool.true_and, Bool.and_false, Bool.false_and, Bool.or_true, Bool.or_false, Bool.true_or, Bool.false_or, Option.isSome_some, Option.isSome_none, if_true, if_false, Bool.false_eq_true, Int.reduceBNe]
end

section
variable {n : Nat} {ρ : List D} {d0 d1 d2 d3 d4 d5 d6 d7 d8 : Int}
theorem sl_pair0 {one two : Str} (h0 : d0 % 8 = 5) (h4 : d4 % 6 = 0) (b1 : 0 ≤ d1 ∧ d1 < 100) (b2 : 0 ≤ d2 ∧ d2 < 100) (b3 : 0 ≤ d3 ∧ d3 < 100) (b4 : 0 ≤ d4 ∧ d4 < 100) (t1 : TokS one) (t2 : TokS two)
    (c1 : run Tb (n + 1) 7 (fun _ => false) ρ [.int d5, .int d6, .int d7] = .ok false (.str one) ρ) (c2 : run Tb (n + 1) 7 (fun _ => false) ρ [.int d6, .int d7, .int d8] = .ok false (.str two) ρ) : SL n ρ (Ld d0 d1 d2 d3 d4 d5 d6 d7 d8) := by
  have l1 := small_log b1
  have l2 := small_log b2
  have l3 := small_log b3
  have l4 := small_log b4
  have hmu : (fun r => decide (ρ.length ≤ r)) ρ.length = true := by simp
  obtain ⟨sp, hsp, tsp⟩ := at_tok (ss := ["meet", "hull", "left", "right", "gap", one]) (i := d3 % 6) (by
    intro s hs
    simp only [List.mem_cons, List.not_mem_nil, or_false] at hs
    rcases hs with rfl | rfl | rfl | rfl | rfl | rfl
    · exact tok_dec (by decide +kernel)
    · exact tok_dec (by decide +kernel)
    · exact tok_dec (by decide +kernel)
    · exact tok_dec (by decide +kernel)
    · exact tok_dec (by decide +kernel)
    · exact t1) (by omega) (by simp; omega)
  simp only [List.map] at hsp
  have g : GoodL "pair" [nt d1, nt d2, sp] := good_of (W := [("step", nt d1), ("step", nt d2), ("span", sp)]) (by decide +kernel) (by simp [rolesS_lit, List.replicate]) (by
    intro p hp
    simp only [List.mem_cons, List.not_mem_nil, or_false] at hp
    rcases hp with rfl | rfl | rfl
    · exact ⟨(nt_ok b1).2, fun _ => (nt_ok b1).1⟩
    · exact ⟨(nt_ok b2).2, fun _ => (nt_ok b2).1⟩
    · exact ⟨tsp, fun h => (nn_span h).elim⟩) (by simp)
  have hj : joinQ " " (.lst [.str "pair", .str (nt d1), .str (nt d2), .str sp]) = some (.str (Txt.join " " ("pair" :: [nt d1, nt d2, sp]))) := by
    have := join_good g
    simp only [map_c, map_n] at this
    exact this
  refine ⟨[.str "pair", .int d1, .int d2, .str sp, .tup []], "pair", [nt d1, nt d2, sp], st_ok ?_ (by simp only [okRtL, okRt, Bool.and_self]), ln_ok (c := .lst [.str "pair", .str (nt d1), .str (nt d2), .str sp]) ?_, g, ex_pair0 b1 b2 t1 t2 tsp⟩
  · simp (disch := walk_at "ds") only [B__law_any_step, c1, c2, h0, h4, hsp, rep_0, rep_s, get_0, get_s, set_0, set_s, app_n, app_c, map_n, map_c, wipe_n, wipe_c, rb_ok, rb_exc, ofO_some, rd_some, varS_ap, conS_ap, nilA_ap, consA_ap, consR_ok, consR_exc, consR_exc0, items_ap, items_lst, items_tup, items_scr, starA_ap, starR_ok, tupS_ap, tupR_ok, lstS_ap, lstR_ok, andS_ap, andR_t, andR_f, orS_ap, orR_t, orR_f, notS_ap, testS_ap, truR_bl, truR_int, ifS_ap, ifR_t, ifR_f, andT_ap, andW_t, andW_f, orT_ap, orW_t, orW_f, notT_ap, yesT_ap, tb1_ap, blR_bl, bin2_ap, b2R_ok, un1_ap, callB_ap, cbR_ok, chainS_ap, noP_ap, someP_ap, intR_ok, slS_ap, slR_ok, slD_ap, slQ_lst, slQ_tup, methS_ap, meR_ok, callS_ap, calR_ok, cal1_ok, cal1_exc, lcS_ap, lcR_ok, lcQ_ok, lcL_nil, lcL_yes, lcY_ok, lcZ_ok, itI_ap, itR_lst, itR_scr, itR_tup, itR_str, rng1I_ap, rn1R_ok, rng3I_ap, rn3R_up, zipI_ap, zpR_lst, zpR_tup, nameG_ap, nilG_ap, consG_ap, cgR_ok, tupG_2, tupG_3, seqS_ap, sqR_nx, sqR_ret, sqR_exc, passS_ap, retS_ap, retF_ap, reR_ok, reR_exc, asgS_ap, asR_ok, asR_exc, agR_ok, ownS_ap, owR_ok, iffS_ap, ifO_t, ifO_f, ifO_exc, expS_ap, exR_ok, exR_exc, forS_ap, foR_ok, forL_nil, forL_cons, flA_ok, flB_nx, appS_ap, apR_last, raiS_ap, rai1S_ap, raR_int, tryS_ap, trR_nx, trR_ret, trR_exc, starS_ap, stR_1, dr_int, dr_str, dr_bl, dr_non, dr_tup, dr_lst, dr_scr, dr_wd, dr_exn, dr_lstR, addD_ap, addQ_int, addQ_str, addQ_lst, addQ_tup, subD_int, negD_int, mulD_int, mulD_lst, fdivD_int, modD_int, powD_int, ltD_int, leD_int, gtD_int, geD_int, isn_lst, isn_non, eqB_str, eqB_int, eqD_ap, neD_ap, inB_wd, inB_chr, inD_ap, ninD_ap, omap_some, look_n, look_c, ixD_ap, ixQ_lst, ixQ_tup, ixQ_scr, ixQ_wd, ixQ_str, at_0, at_m1, at_m1c, at_p, rg2S_ap, r2R_ok, rg1S_ap, r1R_ok, rgD_ok', cut_m1, cut_pos, cut_posf, drop_0, drop_s, take_0, take_s, take_n, dl_1, dl_c, flat_rep, eq_self, Int.cast_ofNat_Int, lenD_ap, lenQ_lst, lenQ_scr, lenQ_tup, lenQ_str, intC_int, strC_str, strC_int, listC_lst, listC_tup, tupleC_lst, tupleC_tup, joinM_ap, splitM_ok, ofString_inj, List.length_cons, List.length_nil, List.length_append, List.length_map, Int.reduceNeg, Int.reduceAdd, Int.reduceSub, Int.reduceMul, Int.reduceMod, Int.reducePow, Int.reduceDiv, Int.reduceLE, Int.reduceLT, Int.reduceEq, Int.reduceToNat, Nat.reduceAdd, Nat.reduceSub, Nat.reduceLeDiff, Nat.reduceEqDiff, String.reduceEq, decide_true, decide_false, Bool.not_true, Bool.not_false, Bool.and_true, Bool.true_and, Bool.and_false, Bool.false_and, Bool.or_true, Bool.or_false, Bool.true_or, Bool.false_or, Option.isSome_some, Option.isSome_none, if_true, if_false, Bool.false_eq_true, Int.reduceBNe]
  · simp (disch := walk_at "ds") only [B__law_line, hj, rep_0, rep_s, get_0, get_s, set_0, set_s, app_n, app_c, map_n, map_c, wipe_n, wipe_c, rb_ok, rb_exc, ofO_some, rd_some, varS_ap, conS_ap, nilA_ap, consA_ap, consR_ok, consR_exc, consR_exc0, items_ap, items_lst, items_tup, items_scr, starA_ap, starR_ok, tupS_ap, tupR_ok, lstS_ap, lstR_ok, andS_ap, andR_t, andR_f, orS_ap, orR_t, orR_f, notS_ap, testS_ap, truR_bl, truR_int, ifS_ap, ifR_t, ifR_f, andT_ap, andW_t, andW_f, orT_ap, orW_t, orW_f, notT_ap, yesT_ap, tb1_ap, blR_bl, bin2_ap, b2R_ok, un1_ap, callB_ap, cbR_ok, chainS_ap, noP_ap, someP_ap, intR_ok, slS_ap, slR_ok, slD_ap, slQ_lst, slQ_tup, methS_ap, meR_ok, callS_ap, calR_ok, cal1_ok, cal1_exc, lcS_ap, lcR_ok, lcQ_ok, lcL_nil, lcL_yes, lcY_ok, lcZ_ok, itI_ap, itR_lst, itR_scr, itR_tup, itR_str, rng1I_ap, rn1R_ok, rng3I_ap, rn3R_up, zipI_ap, zpR_lst, zpR_tup, nameG_ap, nilG_ap, consG_ap, cgR_ok, tupG_2, tupG_3, seqS_ap, sqR_nx, sqR_ret, sqR_exc, passS_ap, retS_ap, retF_ap, reR_ok, reR_exc, asgS_ap, asR_ok, asR_exc, agR_ok, ownS_ap, owR_ok, iffS_ap, ifO_t, ifO_f, ifO_exc, expS_ap, exR_ok, exR_exc, forS_ap, foR_ok, forL_nil, forL_cons, flA_ok, flB_nx, appS_ap, apR_last, raiS_ap, rai1S_ap, raR_int, tryS_ap, trR_nx, trR_ret, trR_exc, starS_ap, stR_1, dr_int, dr_str, dr_bl, dr_non, dr_tup, dr_lst, dr_scr, dr_wd, dr_exn, dr_lstR, addD_ap, addQ_int, addQ_str, addQ_lst, addQ_tup, subD_int, negD_int, mulD_int, mulD_lst, fdivD_int, modD_int, powD_int, ltD_int, leD_int, gtD_int, geD_int, isn_lst, isn_non, eqB_str, eqB_int, eqD_ap, neD_ap, inB_wd, inB_chr, inD_ap, ninD_ap, omap_some, look_n, look_c, ixD_ap, ixQ_lst, ixQ_tup, ixQ_scr, ixQ_wd, ixQ_str, at_0, at_m1, at_m1c, at_p, rg2S_ap, r2R_ok, rg1S_ap, r1R_ok, rgD_ok', cut_m1, cut_pos, cut_posf, drop_0, drop_s, take_0, take_s, take_n, dl_1, dl_c, flat_rep, eq_self, Int.cast_ofNat_Int, lenD_ap, lenQ_lst, lenQ_scr, lenQ_tup, lenQ_str, intC_int, strC_str, strC_int, listC_lst, listC_tup, tupleC_lst, tupleC_tup, joinM_ap, splitM_ok, ofString_inj, List.length_cons, List.length_nil, List.length_append, List.length_map, Int.reduceNeg, Int.reduceAdd, Int.reduceSub, Int.reduceMul, Int.reduceMod, Int.reducePow, Int.reduceDiv, Int.reduceLE, Int.reduceLT, Int.reduceEq, Int.reduceToNat, Nat.reduceAdd, Nat.reduceSub, Nat.reduceLeDiff, Nat.reduceEqDiff, String.reduceEq, decide_true, decide_false, Bool.not_true, Bool.not_false, Bool.and_true, Bool.true_and, Bool.and_false, Bool.false_and, Bool.or_true, Bool.or_false, Bool.true_or, Bool.false_or, Option.isSome_some, Option.isSome_none, if_true, if_false, Bool.false_eq_true, Int.reduceBNe]
theorem sl_pair1 {one two : Str} (h0 : d0 % 8 = 5) (h4 : d4 % 6 = 1) (b1 : 0 ≤ d1 ∧ d1 < 100) (b2 : 0 ≤ d2 ∧ d2 < 100) (b3 : 0 ≤ d3 ∧ d3 < 100) (b4 : 0 ≤ d4 ∧ d4 < 100) (t1 : TokS one) (t2 : TokS two)
    (c1 : run Tb (n + 1) 7 (fun _ => false) ρ [.int d5, .int d6, .int d7] = .ok false (.str one) ρ) (c2 : run Tb (n + 1) 7 (fun _ => false) ρ [.int d6, .int d7, .int d8] = .ok false (.str two) ρ) : SL n ρ (Ld d0 d1 d2 d3 d4 d5 d6 d7 d8) := by
  have l1 := small_log b1
  have l2 := small_log b2
  have l3 := small_log b3
  have l4 := small_log b4
  have hmu : (fun r => decide (ρ.length ≤ r)) ρ.length = true := by simp
  obtain ⟨sp, hsp, tsp⟩ := at_tok (ss := ["meet", "hull", "left", "right", "gap", one]) (i := d3 % 6) (by
    intro s hs
    simp only [List.mem_cons, List.not_mem_nil, or_false] at hs
    rcases hs with rfl | rfl | rfl | rfl | rfl | rfl
    · exact tok_dec (by decide +kernel)
    · exact tok_dec (by decide +kernel)
    · exact tok_dec (by decide +kernel)
    · exact tok_dec (by decide +kernel)
    · exact tok_dec (by decide +kernel)
    · exact t1) (by omega) (by simp; omega)
  simp only [List.map] at hsp
  have g : GoodL "pair" [nt d1, nt d2, sp, "start", "<", "stop"] := good_of (W := [("step", nt d1), ("step", nt d2), ("span", sp), ("test", "start"), ("test", "<"), ("test", "stop")]) (by decide +kernel) (by simp [rolesS_lit, List.replicate]) (by
    intro p hp
    simp only [List.mem_cons, List.not_mem_nil, or_false] at hp
    rcases hp with rfl | rfl | rfl | rfl | rfl | rfl
    · exact ⟨(nt_ok b1).2, fun _ => (nt_ok b1).1⟩
    · exact ⟨(nt_ok b2).2, fun _ => (nt_ok b2).1⟩
    · exact ⟨tsp, fun h => (nn_span h).elim⟩
    · exact ⟨tok_dec (by decide +kernel), fun h => (nn_test h).elim⟩
    · exact ⟨tok_dec (by decide +kernel), fun h => (nn_test h).elim⟩
    · exact ⟨tok_dec (by decide +kernel), fun h => (nn_test h).elim⟩) (by simp)
  have hj : joinQ " " (.lst [.str "pair", .str (nt d1), .str (nt d2), .str sp, .str "start", .str "<", .str "stop"]) = some (.str (Txt.join " " ("pair" :: [nt d1, nt d2, sp, "start", "<", "stop"]))) := by
    have := join_good g
    simp only [map_c, map_n] at this
    exact this
  refine ⟨[.str "pair", .int d1, .int d2, .str sp, .tup [.tup [.str "start", .str "<", .str "stop"]]], "pair", [nt d1, nt d2, sp, "start", "<", "stop"], st_ok ?_ (by simp only [okRtL, okRt, Bool.and_self]), ln_ok (c := .lst [.str "pair", .str (nt d1), .str (nt d2), .str sp]) ?_, g, ex_pair1 b1 b2 t1 t2 tsp⟩
  · simp (disch := walk_at "ds") only [B__law_any_step, c1, c2, h0, h4, hsp, rep_0, rep_s, get_0, get_s, set_0, set_s, app_n, app_c, map_n, map_c, wipe_n, wipe_c, rb_ok, rb_exc, ofO_some, rd_some, varS_ap, conS_ap, nilA_ap, consA_ap, consR_ok, consR_exc, consR_exc0, items_ap, items_lst, items_tup, items_scr, starA_ap, starR_ok, tupS_ap, tupR_ok, lstS_ap, lstR_ok, andS_ap, andR_t, andR_f, orS_ap, orR_t, orR_f, notS_ap, testS_ap, truR_bl, truR_int, ifS_ap, ifR_t, ifR_f, andT_ap, andW_t, andW_f, orT_ap, orW_t, orW_f, notT_ap, yesT_ap, tb1_ap, blR_bl, bin2_ap, b2R_ok, un1_ap, callB_ap, cbR_ok, chainS_ap, noP_ap, someP_ap, intR_ok, slS_ap, slR_ok, slD_ap, slQ_lst, slQ_tup, methS_ap, meR_ok, callS_ap, calR_ok, cal1_ok, cal1_exc, lcS_ap, lcR_ok, lcQ_ok, lcL_nil, lcL_yes, lcY_ok, lcZ_ok, itI_ap, itR_lst, itR_scr, itR_tup, itR_str, rng1I_ap, rn1R_ok, rng3I_ap, rn3R_up, zipI_ap, zpR_lst, zpR_tup, nameG_ap, nilG_ap, consG_ap, cgR_ok, tupG_2, tupG_3, seqS_ap, sqR_nx, sqR_ret, sqR_exc, passS_ap, retS_ap, retF_ap, reR_ok, reR_exc, asgS_ap, asR_ok, asR_exc, agR_ok, ownS_ap, owR_ok, iffS_ap, ifO_t, ifO_f, ifO_exc, expS_ap, exR_ok, exR_exc, forS_ap, foR_ok, forL_nil, forL_cons, flA_ok, flB_nx, appS_ap, apR_last, raiS_ap, rai1S_ap, raR_int, tryS_ap, trR_nx, trR_ret, trR_exc, starS_ap, stR_1, dr_int, dr_str, dr_bl, dr_non, dr_tup, dr_lst, dr_scr, dr_wd, dr_exn, dr_lstR, addD_ap, addQ_int, addQ_str, addQ_lst, addQ_tup, subD_int, negD_int, mulD_int, mulD_lst, fdivD_int, modD_int, powD_int, ltD_int, leD_int, gtD_int, geD_int, isn_lst, isn_non, eqB_str, eqB_int, eqD_ap, neD_ap, inB_wd, inB_chr, inD_ap, ninD_ap, omap_some, look_n, look_c, ixD_ap, ixQ_lst, ixQ_tup, ixQ_scr, ixQ_wd, ixQ_str, at_0, at_m1, at_m1c, at_p, rg2S_ap, r2R_ok, rg1S_ap, r1R_ok, rgD_ok', cut_m1, cut_pos, cut_posf, drop_0, drop_s, take_0, take_s, take_n, dl_1, dl_c, flat_rep, eq_self, Int.cast_ofNat_Int, lenD_ap, lenQ_lst, lenQ_scr, lenQ_tup, lenQ_str, intC_int, strC_str, strC_int, listC_lst, listC_tup, tupleC_lst, tupleC_tup, joinM_ap, splitM_ok, ofString_inj, List.length_cons, List.length_nil, List.length_append, List.length_map, Int.reduceNeg, Int.reduceAdd, Int.reduceSub, Int.reduceMul, Int.reduceMod, Int.reducePow, Int.reduceDiv, Int.reduceLE, Int.reduceLT, Int.reduceEq, Int.reduceToNat, Nat.reduceAdd, Nat.reduceSub, Nat.reduceLeDiff, Nat.reduceEqDiff, String.reduceEq, decide_true, decide_false, Bool.not_true, Bool.not_false, Bool.and_true, Bool.true_and, Bool.and_false, Bool.false_and, Bool.or_true, Bool.or_false, Bool.true_or, Bool.false_or, Option.isSome_some, Option.isSome_none, if_true, if_false, Bool.false_eq_true, Int.reduceBNe]
  · simp (disch := walk_at "ds") only [B__law_line, hj, rep_0, rep_s, get_0, get_s, set_0, set_s, app_n, app_c, map_n, map_c, wipe_n, wipe_c, rb_ok, rb_exc, ofO_some, rd_some, varS_ap, conS_ap, nilA_ap, consA_ap, consR_ok, consR_exc, consR_exc0, items_ap, items_lst, items_tup, items_scr, starA_ap, starR_ok, tupS_ap, tupR_ok, lstS_ap, lstR_ok, andS_ap, andR_t, andR_f, orS_ap, orR_t, orR_f, notS_ap, testS_ap, truR_bl, truR_int, ifS_ap, ifR_t, ifR_f, andT_ap, andW_t, andW_f, orT_ap, orW_t, orW_f, notT_ap, yesT_ap, tb1_ap, blR_bl, bin2_ap, b2R_ok, un1_ap, callB_ap, cbR_ok, chainS_ap, noP_ap, someP_ap, intR_ok, slS_ap, slR_ok, slD_ap, slQ_lst, slQ_tup, methS_ap, meR_ok, callS_ap, calR_ok, cal1_ok, cal1_exc, lcS_ap, lcR_ok, lcQ_ok, lcL_nil, lcL_yes, lcY_ok, lcZ_ok, itI_ap, itR_lst, itR_scr, itR_tup, itR_str, rng1I_ap, rn1R_ok, rng3I_ap, rn3R_up, zipI_ap, zpR_lst, zpR_tup, nameG_ap, nilG_ap, consG_ap, cgR_ok, tupG_2, tupG_3, seqS_ap, sqR_nx, sqR_ret, sqR_exc, passS_ap, retS_ap, retF_ap, reR_ok, reR_exc, asgS_ap, asR_ok, asR_exc, agR_ok, ownS_ap, owR_ok, iffS_ap, ifO_t, ifO_f, ifO_exc, expS_ap, exR_ok, exR_exc, forS_ap, foR_ok, forL_nil, forL_cons, flA_ok, flB_nx, appS_ap, apR_last, raiS_ap, rai1S_ap, raR_int, tryS_ap, trR_nx, trR_ret, trR_exc, starS_ap, stR_1, dr_int, dr_str, dr_bl, dr_non, dr_tup, dr_lst, dr_scr, dr_wd, dr_exn, dr_lstR, addD_ap, addQ_int, addQ_str, addQ_lst, addQ_tup, subD_int, negD_int, mulD_int, mulD_lst, fdivD_int, modD_int, powD_int, ltD_int, leD_int, gtD_int, geD_int, isn_lst, isn_non, eqB_str, eqB_int, eqD_ap, neD_ap, inB_wd, inB_chr, inD_ap, ninD_ap, omap_some, look_n, look_c, ixD_ap, ixQ_lst, ixQ_tup, ixQ_scr, ixQ_wd, ixQ_str, at_0, at_m1, at_m1c, at_p, rg2S_ap, r2R_ok, rg1S_ap, r1R_ok, rgD_ok', cut_m1, cut_pos, cut_posf, drop_0, drop_s, take_0, take_s, take_n, dl_1, dl_c, flat_rep, eq_self, Int.cast_ofNat_Int, lenD_ap, lenQ_lst, lenQ_scr, lenQ_tup, lenQ_str, intC_int, strC_str, strC_int, listC_lst, listC_tup, tupleC_lst, tupleC_tup, joinM_ap, splitM_ok, ofString_inj, List.length_cons, List.length_nil, List.length_append, List.length_map, Int.reduceNeg, Int.reduceAdd, Int.reduceSub, Int.reduceMul, Int.reduceMod, Int.reducePow, Int.reduceDiv, Int.reduceLE, Int.reduceLT, Int.reduceEq, Int.reduceToNat, Nat.reduceAdd, Nat.reduceSub, Nat.reduceLeDiff, Nat.reduceEqDiff, String.reduceEq, decide_true, decide_false, Bool.not_true, Bool.not_false, Bool.and_true, Bool.true_and, Bool.and_false, Bool.false_and, Bool.or_true, Bool.or_false, Bool.true_or, Bool.false_or, Option.isSome_some, Option.isSome_none, if_true, if_false, Bool.false_eq_true, Int.reduceBNe]
theorem sl_pair2 {one two : Str} (h0 : d0 % 8 = 5) (h4 : d4 % 6 = 2) (b1 : 0 ≤ d1 ∧ d1 < 100) (b2 : 0 ≤ d2 ∧ d2 < 100) (b3 : 0 ≤ d3 ∧ d3 < 100) (b4 : 0 ≤ d4 ∧ d4 < 100) (t1 : TokS one) (t2 : TokS two)
    (c1 : run Tb (n + 1) 7 (fun _ => false) ρ [.int d5, .int d6, .int d7] = .ok false (.str one) ρ) (c2 : run Tb (n + 1) 7 (fun _ => false) ρ [.int d6, .int d7, .int d8] = .ok false (.str two) ρ) : SL n ρ (Ld d0 d1 d2 d3 d4 d5 d6 d7 d8) := by
  have l1 := small_log b1
  have l2 := small_log b2
  have l3 := small_log b3
  have l4 := small_log b4
  have hmu : (fun r => decide (ρ.length ≤ r)) ρ.length = true := by simp
  obtain ⟨sp, hsp, tsp⟩ := at_tok (ss := ["meet", "hull", "left", "right", "gap", one]) (i := d3 % 6) (by
    intro s hs
    simp only [List.mem_cons, List.not_mem_nil, or_false] at hs
    rcases hs with rfl | rfl | rfl | rfl | rfl | rfl
    · exact tok_dec (by decide +kernel)
    · exact tok_dec (by decide +kernel)
    · exact tok_dec (by decide +kernel)
    · exact tok_dec (by decide +kernel)
    · exact tok_dec (by decide +kernel)
    · exact t1) (by omega) (by simp; omega)
  simp only [List.map] at hsp
  have g : GoodL "pair" [nt d1, nt d2, sp, "start", "<", "stop", two, one, two] := good_of (W := [("step", nt d1), ("step", nt d2), ("span", sp), ("test", "start"), ("test", "<"), ("test", "stop"), ("test", two), ("test", one), ("test", two)]) (by decide +kernel) (by simp [rolesS_lit, List.replicate]) (by
    intro p hp
    simp only [List.mem_cons, List.not_mem_nil, or_false] at hp
    rcases hp with rfl | rfl | rfl | rfl | rfl | rfl | rfl | rfl | rfl
    · exact ⟨(nt_ok b1).2, fun _ => (nt_ok b1).1⟩
    · exact ⟨(nt_ok b2).2, fun _ => (nt_ok b2).1⟩
    · exact ⟨tsp, fun h => (nn_span h).elim⟩
    · exact ⟨tok_dec (by decide +kernel), fun h => (nn_test h).elim⟩
    · exact ⟨tok_dec (by decide +kernel), fun h => (nn_test h).elim⟩
    · exact ⟨tok_dec (by decide +kernel), fun h => (nn_test h).elim⟩
    · exact ⟨t2, fun h => (nn_test h).elim⟩
    · exact ⟨t1, fun h => (nn_test h).elim⟩
    · exact ⟨t2, fun h => (nn_test h).elim⟩) (by simp)
  have hj : joinQ " " (.lst [.str "pair", .str (nt d1), .str (nt d2), .str sp, .str "start", .str "<", .str "stop", .str two, .str one, .str two]) = some (.str (Txt.join " " ("pair" :: [nt d1, nt d2, sp, "start", "<", "stop", two, one, two]))) := by
    have := join_good g
    simp only [map_c, map_n] at this
    exact this
  refine ⟨[.str "pair", .int d1, .int d2, .str sp, .tup [.tup [.str "start", .str "<", .str "stop"], .tup [.str two, .str one, .str two]]], "pair", [nt d1, nt d2, sp, "start", "<", "stop", two, one, two], st_ok ?_ (by simp only [okRtL, okRt, Bool.and_self]), ln_ok (c := .lst [.str "pair", .str (nt d1), .str (nt d2), .str sp]) ?_, g, ex_pair2 b1 b2 t1 t2 tsp⟩
  · simp (disch := walk_at "ds") only [B__law_any_step, c1, c2, h0, h4, hsp, rep_0, rep_s, get_0, get_s, set_0, set_s, app_n, app_c, map_n, map_c, wipe_n, wipe_c, rb_ok, rb_exc, ofO_some, rd_some, varS_ap, conS_ap, nilA_ap, consA_ap, consR_ok, consR_exc, consR_exc0, items_ap, items_lst, items_tup, items_scr, starA_ap, starR_ok, tupS_ap, tupR_ok, lstS_ap, lstR_ok, andS_ap, andR_t, andR_f, orS_ap, orR_t, orR_f, notS_ap, testS_ap, truR_bl, truR_int, ifS_ap, ifR_t, ifR_f, andT_ap, andW_t, andW_f, orT_ap, orW_t, orW_f, notT_ap, yesT_ap, tb1_ap, blR_bl, bin2_ap, b2R_ok, un1_ap, callB_ap, cbR_ok, chainS_ap, noP_ap, someP_ap, intR_ok, slS_ap, slR_ok, slD_ap, slQ_lst, slQ_tup, methS_ap, meR_ok, callS_ap, calR_ok, cal1_ok, cal1_exc, lcS_ap, lcR_ok, lcQ_ok, lcL_nil, lcL_yes, lcY_ok, lcZ_ok, itI_ap, itR_lst, itR_scr, itR_tup, itR_str, rng1I_ap, rn1R_ok, rng3I_ap, rn3R_up, zipI_ap, zpR_lst, zpR_tup, nameG_ap, nilG_ap, consG_ap, cgR_ok, tupG_2, tupG_3, seqS_ap, sqR_nx, sqR_ret, sqR_exc, passS_ap, retS_ap, retF_ap, reR_ok, reR_exc, asgS_ap, asR_ok, asR_exc, agR_ok, ownS_ap, owR_ok, iffS_ap, ifO_t, ifO_f, ifO_exc, expS_ap, exR_ok, exR_exc, forS_ap, foR_ok, forL_nil, forL_cons, flA_ok, flB_nx, appS_ap, apR_last, raiS_ap, rai1S_ap, raR_int, tryS_ap, trR_nx, trR_ret, trR_exc, starS_ap, stR_1, dr_int, dr_str, dr_bl, dr_non, dr_tup, dr_lst, dr_scr, dr_wd, dr_exn, dr_lstR, addD_ap, addQ_int, addQ_str, addQ_lst, addQ_tup, subD_int, negD_int, mulD_int, mulD_lst, fdivD_int, modD_int, powD_int, ltD_int, leD_int, gtD_int, geD_int, isn_lst, isn_non, eqB_str, eqB_int, eqD_ap, neD_ap, inB_wd, inB_chr, inD_ap, ninD_ap, omap_some, look_n, look_c, ixD_ap, ixQ_lst, ixQ_tup, ixQ_scr, ixQ_wd, ixQ_str, at_0, at_m1, at_m1c, at_p, rg2S_ap, r2R_ok, rg1S_ap, r1R_ok, rgD_ok', cut_m1, cut_pos, cut_posf, drop_0, drop_s, take_0, take_s, take_n, dl_1, dl_c, flat_rep, eq_self, Int.cast_ofNat_Int, lenD_ap, lenQ_lst, lenQ_scr, lenQ_tup, lenQ_str, intC_int, strC_str, strC_int, listC_lst, listC_tup, tupleC_lst, tupleC_tup, joinM_ap, splitM_ok, ofString_inj, List.length_cons, List.length_nil, List.length_append, List.length_map, Int.reduceNeg, Int.reduceAdd, Int.reduceSub, Int.reduceMul, Int.reduceMod, Int.reducePow, Int.reduceDiv, Int.reduceLE, Int.reduceLT, Int.reduceEq, Int.reduceToNat, Nat.reduceAdd, Nat.reduceSub, Nat.reduceLeDiff, Nat.reduceEqDiff, String.reduceEq, decide_true, decide_false, Bool.not_true, Bool.not_false, Bool.and_true, Bool.true_and, Bool.and_false, Bool.false_and, Bool.or_true, Bool.or_false, Bool.true_or, Bool.false_or, Option.isSome_some, Option.isSome_none, if_true, if_false, Bool.false_eq_true, Int.reduceBNe]
  · simp (disch := walk_at "ds") only [B__law_line, hj, rep_0, rep_s, get_0, get_s, set_0, set_s, app_n, app_c, map_n, map_c, wipe_n, wipe_c, rb_ok, rb_exc, ofO_some, rd_some, varS_ap, conS_ap, nilA_ap, consA_ap, consR_ok, consR_exc, consR_exc0, items_ap, items_lst, items_tup, items_scr, starA_ap, starR_ok, tupS_ap, tupR_ok, lstS_ap, lstR_ok, andS_ap, andR_t, andR_f, orS_ap, orR_t, orR_f, notS_ap, testS_ap, truR_bl, truR_int, ifS_ap, ifR_t, ifR_f, andT_ap, andW_t, andW_f, orT_ap, orW_t, orW_f, notT_ap, yesT_ap, tb1_ap, blR_bl, bin2_ap, b2R_ok, un1_ap, callB_ap, cbR_ok, chainS_ap, noP_ap, someP_ap, intR_ok, slS_ap, slR_ok, slD_ap, slQ_lst, slQ_tup, methS_ap, meR_ok, callS_ap, calR_ok, cal1_ok, cal1_exc, lcS_ap, lcR_ok, lcQ_ok, lcL_nil, lcL_yes, lcY_ok, lcZ_ok, itI_ap, itR_lst, itR_scr, itR_tup, itR_str, rng1I_ap, rn1R_ok, rng3I_ap, rn3R_up, zipI_ap, zpR_lst, zpR_tup, nameG_ap, nilG_ap, consG_ap, cgR_ok, tupG_2, tupG_3, seqS_ap, sqR_nx, sqR_ret, sqR_exc, passS_ap, retS_ap, retF_ap, reR_ok, reR_exc, asgS_ap, asR_ok, asR_exc, agR_ok, ownS_ap, owR_ok, iffS_ap, ifO_t, ifO_f, ifO_exc, expS_ap, exR_ok, exR_exc, forS_ap, foR_ok, forL_nil, forL_cons, flA_ok, flB_nx, appS_ap, apR_last, raiS_ap, rai1S_ap, raR_int, tryS_ap, trR_nx, trR_ret, trR_exc, starS_ap, stR_1, dr_int, dr_str, dr_bl, dr_non, dr_tup, dr_lst, dr_scr, dr_wd, dr_exn, dr_lstR, addD_ap, addQ_int, addQ_str, addQ_lst, addQ_tup, subD_int, negD_int, mulD_int, mulD_lst, fdivD_int, modD_int, powD_int, ltD_int, leD_int, gtD_int, geD_int, isn_lst, isn_non, eqB_str, eqB_int, eqD_ap, neD_ap, inB_wd, inB_chr, inD_ap, ninD_ap, omap_some, look_n, look_c, ixD_ap, ixQ_lst, ixQ_tup, ixQ_scr, ixQ_wd, ixQ_str, at_0, at_m1, at_m1c, at_p, rg2S_ap, r2R_ok, rg1S_ap, r1R_ok, rgD_ok', cut_m1, cut_pos, cut_posf, drop_0, drop_s, take_0, take_s, take_n, dl_1, dl_c, flat_rep, eq_self, Int.cast_ofNat_Int, lenD_ap, lenQ_lst, lenQ_scr, lenQ_tup, lenQ_str, intC_int, strC_str, strC_int, listC_lst, listC_tup, tupleC_lst, tupleC_tup, joinM_ap, splitM_ok, ofString_inj, List.length_cons, List.length_nil, List.length_append, List.length_map, Int.reduceNeg, Int.reduceAdd, Int.reduceSub, Int.reduceMul, Int.reduceMod, Int.reducePow, Int.reduceDiv, Int.reduceLE, Int.reduceLT, Int.reduceEq, Int.reduceToNat, Nat.reduceAdd, Nat.reduceSub, Nat.reduceLeDiff, Nat.reduceEqDiff, String.reduceEq, decide_true, decide_false, Bool.not_true, Bool.not_false, Bool.and_true, Bool.true_and, Bool.and_false, Bool.false_and, Bool.or_true, Bool.or_false, Bool.true_or, Bool.false_or, Option.isSome_some, Option.isSome_none, if_true, if_false, Bool.false_eq_true, Int.reduceBNe]
theorem sl_pair3 {one two : Str} (h0 : d0 % 8 = 5) (h4 : d4 % 6 = 3) (b1 : 0 ≤ d1 ∧ d1 < 100) (b2 : 0 ≤ d2 ∧ d2 < 100) (b3 : 0 ≤ d3 ∧ d3 < 100) (b4 : 0 ≤ d4 ∧ d4 < 100) (t1 : TokS one) (t2 : TokS two)
    (c1 : run Tb (n + 1) 7 (fun _ => false) ρ [.int d5, .int d6, .int d7] = .ok false (.str one) ρ) (c2 : run Tb (n + 1) 7 (fun _ => false) ρ [.int d6, .int d7, .int d8] = .ok false (.str two) ρ) : SL n ρ (Ld d0 d1 d2 d3 d4 d5 d6 d7 d8) := by
  have l1 := small_log b1
  have l2 := small_log b2
  have l3 := small_log b3
  have l4 := small_log b4
  have hmu : (fun r => decide (ρ.length ≤ r)) ρ.length = true := by simp
  obtain ⟨sp, hsp, tsp⟩ := at_tok (ss := ["meet", "hull", "left", "right", "gap", one]) (i := d3 % 6) (by
    intro s hs
    simp only [List.mem_cons, List.not_mem_nil, or_false] at hs
    rcases hs with rfl | rfl | rfl | rfl | rfl | rfl
    · exact tok_dec (by decide +kernel)
    · exact tok_dec (by decide +kernel)
    · exact tok_dec (by decide +kernel)
    · exact tok_dec (by decide +kernel)
    · exact tok_dec (by decide +kernel)
    · exact t1) (by omega) (by simp; omega)
  simp only [List.map] at hsp
  have g : GoodL "pair" [nt d1, nt d2, sp, "start", "<", "stop", two, one, two, "stop", ">=", "start"] := good_of (W := [("step", nt d1), ("step", nt d2), ("span", sp), ("test", "start"), ("test", "<"), ("test", "stop"), ("test", two), ("test", one), ("test", two), ("test", "stop"), ("test", ">="), ("test", "start")]) (by decide +kernel) (by simp [rolesS_lit, List.replicate]) (by
    intro p hp
    simp only [List.mem_cons, List.not_mem_nil, or_false] at hp
    rcases hp with rfl | rfl | rfl | rfl | rfl | rfl | rfl | rfl | rfl | rfl | rfl | rfl
    · exact ⟨(nt_ok b1).2, fun _ => (nt_ok b1).1⟩
    · exact ⟨(nt_ok b2).2, fun _ => (nt_ok b2).1⟩
    · exact ⟨tsp, fun h => (nn_span h).elim⟩
    · exact ⟨tok_dec (by decide +kernel), fun h => (nn_test h).elim⟩
    · exact ⟨tok_dec (by decide +kernel), fun h => (nn_test h).elim⟩
    · exact ⟨tok_dec (by decide +kernel), fun h => (nn_test h).elim⟩
    · exact ⟨t2, fun h => (nn_test h).elim⟩
    · exact ⟨t1, fun h => (nn_test h).elim⟩
    · exact ⟨t2, fun h => (nn_test h).elim⟩
    · exact ⟨tok_dec (by decide +kernel), fun h => (nn_test h).elim⟩
    · exact ⟨tok_dec (by decide +kernel), fun h => (nn_test h).elim⟩
    · exact ⟨tok_dec (by decide +kernel), fun h => (nn_test h).elim⟩) (by simp)
  have hj : joinQ " " (.lst [.str "pair", .str (nt d1), .str (nt d2), .str sp, .str "start", .str "<", .str "stop", .str two, .str one, .str two, .str "stop", .str ">=", .str "start"]) = some (.str (Txt.join " " ("pair" :: [nt d1, nt d2, sp, "start", "<", "stop", two, one, two, "stop", ">=", "start"]))) := by
    have := join_good g
    simp only [map_c, map_n] at this
    exact this
  refine ⟨[.str "pair", .int d1, .int d2, .str sp, .tup [.tup [.str "start", .str "<", .str "stop"], .tup [.str two, .str one, .str two], .tup [.str "stop", .str ">=", .str "start"]]], "pair", [nt d1, nt d2, sp, "start", "<", "stop", two, one, two, "stop", ">=", "start"], st_ok ?_ (by simp only [okRtL, okRt, Bool.and_self]), ln_ok (c := .lst [.str "pair", .str (nt d1), .str (nt d2), .str sp]) ?_, g, ex_pair3 b1 b2 t1 t2 tsp⟩
  · simp (disch := walk_at "ds") only [B__law_any_step, c1, c2, h0, h4, hsp, rep_0, rep_s, get_0, get_s, set_0, set_s, app_n, app_c, map_n, map_c, wipe_n, wipe_c, rb_ok, rb_exc, ofO_some, rd_some, varS_ap, conS_ap, nilA_ap, consA_ap, consR_ok, consR_exc, consR_exc0, items_ap, items_lst, items_tup, items_scr, starA_ap, starR_ok, tupS_ap, tupR_ok, lstS_ap, lstR_ok, andS_ap, andR_t, andR_f, orS_ap, orR_t, orR_f, notS_ap, testS_ap, truR_bl, truR_int, ifS_ap, ifR_t, ifR_f, andT_ap, andW_t, andW_f, orT_ap, orW_t, orW_f, notT_ap, yesT_ap, tb1_ap, blR_bl, bin2_ap, b2R_ok, un1_ap, callB_ap, cbR_ok, chainS_ap, noP_ap, someP_ap, intR_ok, slS_ap, slR_ok, slD_ap, slQ_lst, slQ_tup, methS_ap, meR_ok, callS_ap, calR_ok, cal1_ok, cal1_exc, lcS_ap, lcR_ok, lcQ_ok, lcL_nil, lcL_yes, lcY_ok, lcZ_ok, itI_ap, itR_lst, itR_scr, itR_tup, itR_str, rng1I_ap, rn1R_ok, rng3I_ap, rn3R_up, zipI_ap, zpR_lst, zpR_tup, nameG_ap, nilG_ap, consG_ap, cgR_ok, tupG_2, tupG_3, seqS_ap, sqR_nx, sqR_ret, sqR_exc, passS_ap, retS_ap, retF_ap, reR_ok, reR_exc, asgS_ap, asR_ok, asR_exc, agR_ok, ownS_ap, owR_ok, iffS_ap, ifO_t, ifO_f, ifO_exc, expS_ap, exR_ok, exR_exc, forS_ap, foR_ok, forL_nil, forL_cons, flA_ok, flB_nx, appS_ap, apR_last, raiS_ap, rai1S_ap, raR_int, tryS_ap, trR_nx, trR_ret, trR_exc, starS_ap, stR_1, dr_int, dr_str, dr_bl, dr_non, dr_tup, dr_lst, dr_scr, dr_wd, dr_exn, dr_lstR, addD_ap, addQ_int, addQ_str, addQ_lst, addQ_tup, subD_int, negD_int, mulD_int, mulD_lst, fdivD_int, modD_int, powD_int, ltD_int, leD_int, gtD_int, geD_int, isn_lst, isn_non, eqB_str, eqB_int, eqD_ap, neD_ap, inB_wd, inB_chr, inD_ap, ninD_ap, omap_some, look_n, look_c, ixD_ap, ixQ_lst, ixQ_tup, ixQ_scr, ixQ_wd, ixQ_str, at_0, at_m1, at_m1c, at_p, rg2S_ap, r2R_ok, rg1S_ap, r1R_ok, rgD_ok', cut_m1, cut_pos, cut_posf, drop_0, drop_s, take_0, take_s, take_n, dl_1, dl_c, flat_rep, eq_self, Int.cast_ofNat_Int, lenD_ap, lenQ_lst, lenQ_scr, lenQ_tup, lenQ_str, intC_int, strC_str, strC_int, listC_lst, listC_tup, tupleC_lst, tupleC_tup, joinM_ap, splitM_ok, ofString_inj, List.length_cons, List.length_nil, List.length_append, List.length_map, Int.reduceNeg, Int.reduceAdd, Int.reduceSub, Int.reduceMul, Int.reduceMod, Int.reducePow, Int.reduceDiv, Int.reduceLE, Int.reduceLT, Int.reduceEq, Int.reduceToNat, Nat.reduceAdd, Nat.reduceSub, Nat.reduceLeDiff, Nat.reduceEqDiff, String.reduceEq, decide_true, decide_false, Bool.not_true, Bool.not_false, Bool.and_true, Bool.true_and, Bool.and_false, Bool.false_and, Bool.or_true, Bool.or_false, Bool.true_or, Bool.false_or, Option.isSome_some, Option.isSome_none, if_true, if_false, Bool.false_eq_true, Int.reduceBNe]
  · simp (disch := walk_at "ds") only [B__law_line, hj, rep_0, rep_s, get_0, get_s, set_0, set_s, app_n, app_c, map_n, map_c, wipe_n, wipe_c, rb_ok, rb_exc, ofO_some, rd_some, varS_ap, conS_ap, nilA_ap, consA_ap, consR_ok, consR_exc, consR_exc0, items_ap, items_lst, items_tup, items_scr, starA_ap, starR_ok, tupS_ap, tupR_ok, lstS_ap, lstR_ok, andS_ap, andR_t, andR_f, orS_ap, orR_t, orR_f, notS_ap, testS_ap, truR_bl, truR_int, ifS_ap, ifR_t, ifR_f, andT_ap, andW_t, andW_f, orT_ap, orW_t, orW_f, notT_ap, yesT_ap, tb1_ap, blR_bl, bin2_ap, b2R_ok, un1_ap, callB_ap, cbR_ok, chainS_ap, noP_ap, someP_ap, intR_ok, slS_ap, slR_ok, slD_ap, slQ_lst, slQ_tup, methS_ap, meR_ok, callS_ap, calR_ok, cal1_ok, cal1_exc, lcS_ap, lcR_ok, lcQ_ok, lcL_nil, lcL_yes, lcY_ok, lcZ_ok, itI_ap, itR_lst, itR_scr, itR_tup, itR_str, rng1I_ap, rn1R_ok, rng3I_ap, rn3R_up, zipI_ap, zpR_lst, zpR_tup, nameG_ap, nilG_ap, consG_ap, cgR_ok, tupG_2, tupG_3, seqS_ap, sqR_nx, sqR_ret, sqR_exc, passS_ap, retS_ap, retF_ap, reR_ok, reR_exc, asgS_ap, asR_ok, asR_exc, agR_ok, ownS_ap, owR_ok, iffS_ap, ifO_t, ifO_f, ifO_exc, expS_ap, exR_ok, exR_exc, forS_ap, foR_ok, forL_nil, forL_cons, flA_ok, flB_nx, appS_ap, apR_last, raiS_ap, rai1S_ap, raR_int, tryS_ap, trR_nx, trR_ret, trR_exc, starS_ap, stR_1, dr_int, dr_str, dr_bl, dr_non, dr_tup, dr_lst, dr_scr, dr_wd, dr_exn, dr_lstR, addD_ap, addQ_int, addQ_str, addQ_lst, addQ_tup, subD_int, negD_int, mulD_int, mulD_lst, fdivD_int, modD_int, powD_int, ltD_int, leD_int, gtD_int, geD_int, isn_lst, isn_non, eqB_str, eqB_int, eqD_ap, neD_ap, inB_wd, inB_chr, inD_ap, ninD_ap, omap_some, look_n, look_c, ixD_ap, ixQ_lst, ixQ_tup, ixQ_scr, ixQ_wd, ixQ_str, at_0, at_m1, at_m1c, at_p, rg2S_ap, r2R_ok, rg1S_ap, r1R_ok, rgD_ok', cut_m1, cut_pos, cut_posf, drop_0, drop_s, take_0, take_s, take_n, dl_1, dl_c, flat_rep, eq_self, Int.cast_ofNat_Int, lenD_ap, lenQ_lst, lenQ_scr, lenQ_tup, lenQ_str, intC_int, strC_str, strC_int, listC_lst, listC_tup, tupleC_lst, tupleC_tup, joinM_ap, splitM_ok, ofString_inj, List.length_cons, List.length_nil, List.length_append, List.length_map, Int.reduceNeg, Int.reduceAdd, Int.reduceSub, Int.reduceMul, Int.reduceMod, Int.reducePow, Int.reduceDiv, Int.reduceLE, Int.reduceLT, Int.reduceEq, Int.reduceToNat, Nat.reduceAdd, Nat.reduceSub, Nat.reduceLeDiff, Nat.reduceEqDiff, String.reduceEq, decide_true, decide_false, Bool.not_true, Bool.not_false, Bool.and_true, Bool.true_and, Bool.and_false, Bool.false_and, Bool.or_true, Bool.or_false, Bool.true_or, Bool.false_or, Option.isSome_some, Option.isSome_none, if_true, if_false, Bool.false_eq_true, Int.reduceBNe]
theorem sl_pair4 {one two : Str} (h0 : d0 % 8 = 5) (h4 : d4 % 6 = 4) (b1 : 0 ≤ d1 ∧ d1 < 100) (b2 : 0 ≤ d2 ∧ d2 < 100) (b3 : 0 ≤ d3 ∧ d3 < 100) (b4 : 0 ≤ d4 ∧ d4 < 100) (t1 : TokS one) (t2 : TokS two)
    (c1 : run Tb (n + 1) 7 (fun _ => false) ρ [.int d5, .int d6, .int d7] = .ok false (.str one) ρ) (c2 : run Tb (n + 1) 7 (fun _ => false) ρ [.int d6, .int d7, .int d8] = .ok false (.str two) ρ) : SL n ρ (Ld d0 d1 d2 d3 d4 d5 d6 d7 d8) := by
  have l1 := small_log b1
  have l2 := small_log b2
  have l3 := small_log b3
  have l4 := small_log b4
  have hmu : (fun r => decide (ρ.length ≤ r)) ρ.length = true := by simp
  obtain ⟨sp, hsp, tsp⟩ := at_tok (ss := ["meet", "hull", "left", "right", "gap", one]) (i := d3 % 6) (by
    intro s hs
    simp only [List.mem_cons, List.not_mem_nil, or_false] at hs
    rcases hs with rfl | rfl | rfl | rfl | rfl | rfl
    · exact tok_dec (by decide +kernel)
    · exact tok_dec (by decide +kernel)
    · exact tok_dec (by decide +kernel)
    · exact tok_dec (by decide +kernel)
    · exact tok_dec (by decide +kernel)
    · exact t1) (by omega) (by simp; omega)
  simp only [List.map] at hsp
  have g : GoodL "pair" [nt d1, nt d2, sp, "start", "<", "stop", two, one, two, "stop", ">=", "start", one, "=", "start"] := good_of (W := [("step", nt d1), ("step", nt d2), ("span", sp), ("test", "start"), ("test", "<"), ("test", "stop"), ("test", two), ("test", one), ("test", two), ("test", "stop"), ("test", ">="), ("test", "start"), ("test", one), ("test", "="), ("test", "start")]) (by decide +kernel) (by simp [rolesS_lit, List.replicate]) (by
    intro p hp
    simp only [List.mem_cons, List.not_mem_nil, or_false] at hp
    rcases hp with rfl | rfl | rfl | rfl | rfl | rfl | rfl | rfl | rfl | rfl | rfl | rfl | rfl | rfl | rfl
    · exact ⟨(nt_ok b1).2, fun _ => (nt_ok b1).1⟩
    · exact ⟨(nt_ok b2).2, fun _ => (nt_ok b2).1⟩
    · exact ⟨tsp, fun h => (nn_span h).elim⟩
    · exact ⟨tok_dec (by decide +kernel), fun h => (nn_test h).elim⟩
    · exact ⟨tok_dec (by decide +kernel), fun h => (nn_test h).elim⟩
    · exact ⟨tok_dec (by decide +kernel), fun h => (nn_test h).elim⟩
    · exact ⟨t2, fun h => (nn_test h).elim⟩
    · exact ⟨t1, fun h => (nn_test h).elim⟩
    · exact ⟨t2, fun h => (nn_test h).elim⟩
    · exact ⟨tok_dec (by decide +kernel), fun h => (nn_test h).elim⟩
    · exact ⟨tok_dec (by decide +kernel), fun h => (nn_test h).elim⟩
    · exact ⟨tok_dec (by decide +kernel), fun h => (nn_test h).elim⟩
    · exact ⟨t1, fun h => (nn_test h).elim⟩
    · exact ⟨tok_dec (by decide +kernel), fun h => (nn_test h).elim⟩
    · exact ⟨tok_dec (by decide +kernel), fun h => (nn_test h).elim⟩) (by simp)
  have hj : joinQ " " (.lst [.str "pair", .str (nt d1), .str (nt d2), .str sp, .str "start", .str "<", .str "stop", .str two, .str one, .str two, .str "stop", .str ">=", .str "start", .str one, .str "=", .str "start"]) = some (.str (Txt.join " " ("pair" :: [nt d1, nt d2, sp, "start", "<", "stop", two, one, two, "stop", ">=", "start", one, "=", "start"]))) := by
    have := join_good g
    simp only [map_c, map_n] at this
    exact this
  refine ⟨[.str "pair", .int d1, .int d2, .str sp, .tup [.tup [.str "start", .str "<", .str "stop"], .tup [.str two, .str one, .str two], .tup [.str "stop", .str ">=", .str "start"], .tup [.str one, .str "=", .str "start"]]], "pair", [nt d1, nt d2, sp, "start", "<", "stop", two, one, two, "stop", ">=", "start", one, "=", "start"], st_ok ?_ (by simp only [okRtL, okRt, Bool.and_self]), ln_ok (c := .lst [.str "pair", .str (nt d1), .str (nt d2), .str sp]) ?_, g, ex_pair4 b1 b2 t1 t2 tsp⟩
  · simp (disch := walk_at "ds") only [B__law_any_step, c1, c2, h0, h4, hsp, rep_0, rep_s, get_0, get_s, set_0, set_s, app_n, app_c, map_n, map_c, wipe_n, wipe_c, rb_ok, rb_exc, ofO_some, rd_some, varS_ap, conS_ap, nilA_ap, consA_ap, consR_ok, consR_exc, consR_exc0, items_ap, items_lst, items_tup, items_scr, starA_ap, starR_ok, tupS_ap, tupR_ok, lstS_ap, lstR_ok, andS_ap, andR_t, andR_f, orS_ap, orR_t, orR_f, notS_ap, testS_ap, truR_bl, truR_int, ifS_ap, ifR_t, ifR_f, andT_ap, andW_t, andW_f, orT_ap, orW_t, orW_f, notT_ap, yesT_ap, tb1_ap, blR_bl, bin2_ap, b2R_ok, un1_ap, callB_ap, cbR_ok, chainS_ap, noP_ap, someP_ap, intR_ok, slS_ap, slR_ok, slD_ap, slQ_lst, slQ_tup, methS_ap, meR_ok, callS_ap, calR_ok, cal1_ok, cal1_exc, lcS_ap, lcR_ok, lcQ_ok, lcL_nil, lcL_yes, lcY_ok, lcZ_ok, itI_ap, itR_lst, itR_scr, itR_tup, itR_str, rng1I_ap, rn1R_ok, rng3I_ap, rn3R_up, zipI_ap, zpR_lst, zpR_tup, nameG_ap, nilG_ap, consG_ap, cgR_ok, tupG_2, tupG_3, seqS_ap, sqR_nx, sqR_ret, sqR_exc, passS_ap, retS_ap, retF_ap, reR_ok, reR_exc, asgS_ap, asR_ok, asR_exc, agR_ok, ownS_ap, owR_ok, iffS_ap, ifO_t, ifO_f, ifO_exc, expS_ap, exR_ok, exR_exc, forS_ap, foR_ok, forL_nil, forL_cons, flA_ok, flB_nx, appS_ap, apR_last, raiS_ap, rai1S_ap, raR_int, tryS_ap, trR_nx, trR_ret, trR_exc, starS_ap, stR_1, dr_int, dr_str, dr_bl, dr_non, dr_tup, dr_lst, dr_scr, dr_wd, dr_exn, dr_lstR, addD_ap, addQ_int, addQ_str, addQ_lst, addQ_tup, subD_int, negD_int, mulD_int, mulD_lst, fdivD_int, modD_int, powD_int, ltD_int, leD_int, gtD_int, geD_int, isn_lst, isn_non, eqB_str, eqB_int, eqD_ap, neD_ap, inB_wd, inB_chr, inD_ap, ninD_ap, omap_some, look_n, look_c, ixD_ap, ixQ_lst, ixQ_tup, ixQ_scr, ixQ_wd, ixQ_str, at_0, at_m1, at_m1c, at_p, rg2S_ap, r2R_ok, rg1S_ap, r1R_ok, rgD_ok', cut_m1, cut_pos, cut_posf, drop_0, drop_s, take_0, take_s, take_n, dl_1, dl_c, flat_rep, eq_self, Int.cast_ofNat_Int, lenD_ap, lenQ_lst, lenQ_scr, lenQ_tup, lenQ_str, intC_int, strC_str, strC_int, listC_lst, listC_tup, tupleC_lst, tupleC_tup, joinM_ap, splitM_ok, ofString_inj, List.length_cons, List.length_nil, List.length_append, List.length_map, Int.reduceNeg, Int.reduceAdd, Int.reduceSub, Int.reduceMul, Int.reduceMod, Int.reducePow, Int.reduceDiv, Int.reduceLE, Int.reduceLT, Int.reduceEq, Int.reduceToNat, Nat.reduceAdd, Nat.reduceSub, Nat.reduceLeDiff, Nat.reduceEqDiff, String.reduceEq, decide_true, decide_false, Bool.not_true, Bool.not_false, Bool.and_true, Bool.true_and, Bool.and_false, Bool.false_and, Bool.or_true, Bool.or_false, Bool.true_or, Bool.false_or, Option.isSome_some, Option.isSome_none, if_true, if_false, Bool.false_eq_true, Int.reduceBNe]
  · simp (disch := walk_at "ds") only [B__law_line, hj, rep_0, rep_s, get_0, get_s, set_0, set_s, app_n, app_c, map_n, map_c, wipe_n, wipe_c, rb_ok, rb_exc, ofO_some, rd_some, varS_ap, conS_ap, nilA_ap, consA_ap, consR_ok, consR_exc, consR_exc0, items_ap, items_lst, items_tup, items_scr, starA_ap, starR_ok, tupS_ap, tupR_ok, lstS_ap, lstR_ok, andS_ap, andR_t, andR_f, orS_ap, orR_t, orR_f, notS_ap, testS_ap, truR_bl, truR_int, ifS_ap, ifR_t, ifR_f, andT_ap, andW_t, andW_f, orT_ap, orW_t, orW_f, notT_ap, yesT_ap, tb1_ap, blR_bl, bin2_ap, b2R_ok, un1_ap, callB_ap, cbR_ok, chainS_ap, noP_ap, someP_ap, intR_ok, slS_ap, slR_ok, slD_ap, slQ_lst, slQ_tup, methS_ap, meR_ok, callS_ap, calR_ok, cal1_ok, cal1_exc, lcS_ap, lcR_ok, lcQ_ok, lcL_nil, lcL_yes, lcY_ok, lcZ_ok, itI_ap, itR_lst, itR_scr, itR_tup, itR_str, rng1I_ap, rn1R_ok, rng3I_ap, rn3R_up, zipI_ap, zpR_lst, zpR_tup, nameG_ap, nilG_ap, consG_ap, cgR_ok, tupG_2, tupG_3, seqS_ap, sqR_nx, sqR_ret, sqR_exc, passS_ap, retS_ap, retF_ap, reR_ok, reR_exc, asgS_ap, asR_ok, asR_exc, agR_ok, ownS_ap, owR_ok, iffS_ap, ifO_t, ifO_f, ifO_exc, expS_ap, exR_ok, exR_exc, forS_ap, foR_ok, forL_nil, forL_cons, flA_ok, flB_nx, appS_ap, apR_last, raiS_ap, rai1S_ap, raR_int, tryS_ap, trR_nx, trR_ret, trR_exc, starS_ap, stR_1, dr_int, dr_str, dr_bl, dr_non, dr_tup, dr_lst, dr_scr, dr_wd, dr_exn, dr_lstR, addD_ap, addQ_int, addQ_str, addQ_lst, addQ_tup, subD_int, negD_int, mulD_int, mulD_lst, fdivD_int, modD_int, powD_int, ltD_int, leD_int, gtD_int, geD_int, isn_lst, isn_non, eqB_str, eqB_int, eqD_ap, neD_ap, inB_wd, inB_chr, inD_ap, ninD_ap, omap_some, look_n, look_c, ixD_ap, ixQ_lst, ixQ_tup, ixQ_scr, ixQ_wd, ixQ_str, at_0, at_m1, at_m1c, at_p, rg2S_ap, r2R_ok, rg1S_ap, r1R_ok, rgD_ok', cut_m1, cut_pos, cut_posf, drop_0, drop_s, take_0, take_s, take_n, dl_1, dl_c, flat_rep, eq_self, Int.cast_ofNat_Int, lenD_ap, lenQ_lst, lenQ_scr, lenQ_tup, lenQ_str, intC_int, strC_str, strC_int, listC_lst, listC_tup, tupleC_lst, tupleC_tup, joinM_ap, splitM_ok, ofString_inj, List.length_cons, List.length_nil, List.length_append, List.length_map, Int.reduceNeg, Int.reduceAdd, Int.reduceSub, Int.reduceMul, Int.reduceMod, Int.reducePow, Int.reduceDiv, Int.reduceLE, Int.reduceLT, Int.reduceEq, Int.reduceToNat, Nat.reduceAdd, Nat.reduceSub, Nat.reduceLeDiff, Nat.reduceEqDiff, String.reduceEq, decide_true, decide_false, Bool.not_true, Bool.not_false, Bool.and_true, Bool.true_and, Bool.and_false, Bool.false_and, Bool.or_true, Bool.or_false, Bool.true_or, Bool.false_or, Option.isSome_some, Option.isSome_none, if_true, if_false, Bool.false_eq_true, Int.reduceBNe]
theorem sl_pair5 {one two : Str} (h0 : d0 % 8 = 5) (h4 : d4 % 6 = 5) (b1 : 0 ≤ d1 ∧ d1 < 100) (b2 : 0 ≤ d2 ∧ d2 < 100) (b3 : 0 ≤ d3 ∧ d3 < 100) (b4 : 0 ≤ d4 ∧ d4 < 100) (t1 : TokS one) (t2 : TokS two)
    (c1 : run Tb (n + 1) 7 (fun _ => false) ρ [.int d5, .int d6, .int d7] = .ok false (.str one) ρ) (c2 : run Tb (n + 1) 7 (fun _ => false) ρ [.int d6, .int d7, .int d8] = .ok false (.str two) ρ) : SL n ρ (Ld d0 d1 d2 d3 d4 d5 d6 d7 d8) := by
  have l1 := small_log b1
  have l2 := small_log b2
  have l3 := small_log b3
  have l4 := small_log b4
  have hmu : (fun r => decide (ρ.length ≤ r)) ρ.length = true := by simp
  obtain ⟨sp, hsp, tsp⟩ := at_tok (ss := ["meet", "hull", "left", "right", "gap", one]) (i := d3 % 6) (by
    intro s hs
    simp only [List.mem_cons, List.not_mem_nil, or_false] at hs
    rcases hs with rfl | rfl | rfl | rfl | rfl | rfl
    · exact tok_dec (by decide +kernel)
    · exact tok_dec (by decide +kernel)
    · exact tok_dec (by decide +kernel)
    · exact tok_dec (by decide +kernel)
    · exact tok_dec (by decide +kernel)
    · exact t1) (by omega) (by simp; omega)
  simp only [List.map] at hsp
  have g : GoodL "pair" [nt d1, nt d2, sp, "start", "<", "stop", two, one, two, "stop", ">=", "start", one, "=", "start", two, two, one] := good_of (W := [("step", nt d1), ("step", nt d2), ("span", sp), ("test", "start"), ("test", "<"), ("test", "stop"), ("test", two), ("test", one), ("test", two), ("test", "stop"), ("test", ">="), ("test", "start"), ("test", one), ("test", "="), ("test", "start"), ("test", two), ("test", two), ("test", one)]) (by decide +kernel) (by simp [rolesS_lit, List.replicate]) (by
    intro p hp
    simp only [List.mem_cons, List.not_mem_nil, or_false] at hp
    rcases hp with rfl | rfl | rfl | rfl | rfl | rfl | rfl | rfl | rfl | rfl | rfl | rfl | rfl | rfl | rfl | rfl | rfl | rfl
    · exact ⟨(nt_ok b1).2, fun _ => (nt_ok b1).1⟩
    · exact ⟨(nt_ok b2).2, fun _ => (nt_ok b2).1⟩
    · exact ⟨tsp, fun h => (nn_span h).elim⟩
    · exact ⟨tok_dec (by decide +kernel), fun h => (nn_test h).elim⟩
    · exact ⟨tok_dec (by decide +kernel), fun h => (nn_test h).elim⟩
    · exact ⟨tok_dec (by decide +kernel), fun h => (nn_test h).elim⟩
    · exact ⟨t2, fun h => (nn_test h).elim⟩
    · exact ⟨t1, fun h => (nn_test h).elim⟩
    · exact ⟨t2, fun h => (nn_test h).elim⟩
    · exact ⟨tok_dec (by decide +kernel), fun h => (nn_test h).elim⟩
    · exact ⟨tok_dec (by decide +kernel), fun h => (nn_test h).elim⟩
    · exact ⟨tok_dec (by decide +kernel), fun h => (nn_test h).elim⟩
    · exact ⟨t1, fun h => (nn_test h).elim⟩
    · exact ⟨tok_dec (by decide +kernel), fun h => (nn_test h).elim⟩
    · exact ⟨tok_dec (by decide +kernel), fun h => (nn_test h).elim⟩
    · exact ⟨t2, fun h => (nn_test h).elim⟩
    · exact ⟨t2, fun h => (nn_test h).elim⟩
    · exact ⟨t1, fun h => (nn_test h).elim⟩) (by simp)
  have hj : joinQ " " (.lst [.str "pair", .str (nt d1), .str (nt d2), .str sp, .str "start", .str "<", .str "stop", .str two, .str one, .str two, .str "stop", .str ">=", .str "start", .str one, .str "=", .str "start", .str two, .str two, .str one]) = some (.str (Txt.join " " ("pair" :: [nt d1, nt d2, sp, "start", "<", "stop", two, one, two, "stop", ">=", "start", one, "=", "start", two, two, one]))) := by
    have := join_good g
    simp only [map_c, map_n] at this
    exact this
  refine ⟨[.str "pair", .int d1, .int d2, .str sp, .tup [.tup [.str "start", .str "<", .str "stop"], .tup [.str two, .str one, .str two], .tup [.str "stop", .str ">=", .str "start"], .tup [.str one, .str "=", .str "start"], .tup [.str two, .str two, .str one]]], "pair", [nt d1, nt d2, sp, "start", "<", "stop", two, one, two, "stop", ">=", "start", one, "=", "start", two, two, one], st_ok ?_ (by simp only [okRtL, okRt, Bool.and_self]), ln_ok (c := .lst [.str "pair", .str (nt d1), .str (nt d2), .str sp]) ?_, g, ex_pair5 b1 b2 t1 t2 tsp⟩
  · simp (disch := walk_at "ds") only [B__law_any_step, c1, c2, h0, h4, hsp, rep_0, rep_s, get_0, get_s, set_0, set_s, app_n, app_c, map_n, map_c, wipe_n, wipe_c, rb_ok, rb_exc, ofO_some, rd_some, varS_ap, conS_ap, nilA_ap, consA_ap, consR_ok, consR_exc, consR_exc0, items_ap, items_lst, items_tup, items_scr, starA_ap, starR_ok, tupS_ap, tupR_ok, lstS_ap, lstR_ok, andS_ap, andR_t, andR_f, orS_ap, orR_t, orR_f, notS_ap, testS_ap, truR_bl, truR_int, ifS_ap, ifR_t, ifR_f, andT_ap, andW_t, andW_f, orT_ap, orW_t, orW_f, notT_ap, yesT_ap, tb1_ap, blR_bl, bin2_ap, b2R_ok, un1_ap, callB_ap, cbR_ok, chainS_ap, noP_ap, someP_ap, intR_ok, slS_ap, slR_ok, slD_ap, slQ_lst, slQ_tup, methS_ap, meR_ok, callS_ap, calR_ok, cal1_ok, cal1_exc, lcS_ap, lcR_ok, lcQ_ok, lcL_nil, lcL_yes, lcY_ok, lcZ_ok, itI_ap, itR_lst, itR_scr, itR_tup, itR_str, rng1I_ap, rn1R_ok, rng3I_ap, rn3R_up, zipI_ap, zpR_lst, zpR_tup, nameG_ap, nilG_ap, consG_ap, cgR_ok, tupG_2, tupG_3, seqS_ap, sqR_nx, sqR_ret, sqR_exc, passS_ap, retS_ap, retF_ap, reR_ok, reR_exc, asgS_ap, asR_ok, asR_exc, agR_ok, ownS_ap, owR_ok, iffS_ap, ifO_t, ifO_f, ifO_exc, expS_ap, exR_ok, exR_exc, forS_ap, foR_ok, forL_nil, forL_cons, flA_ok, flB_nx, appS_ap, apR_last, raiS_ap, rai1S_ap, raR_int, tryS_ap, trR_nx, trR_ret, trR_exc, starS_ap, stR_1, dr_int, dr_str, dr_bl, dr_non, dr_tup, dr_lst, dr_scr, dr_wd, dr_exn, dr_lstR, addD_ap, addQ_int, addQ_str, addQ_lst, addQ_tup, subD_int, negD_int, mulD_int, mulD_lst, fdivD_int, modD_int, powD_int, ltD_int, leD_int, gtD_int, geD_int, isn_lst, isn_non, eqB_str, eqB_int, eqD_ap, neD_ap, inB_wd, inB_chr, inD_ap, ninD_ap, omap_some, look_n, look_c, ixD_ap, ixQ_lst, ixQ_tup, ixQ_scr, ixQ_wd, ixQ_str, at_0, at_m1, at_m1c, at_p, rg2S_ap, r2R_ok, rg1S_ap, r1R_ok, rgD_ok', cut_m1, cut_pos, cut_posf, drop_0, drop_s, take_0, take_s, take_n, dl_1, dl_c, flat_rep, eq_self, Int.cast_ofNat_Int, lenD_ap, lenQ_lst, lenQ_scr, lenQ_tup, lenQ_str, intC_int, strC_str, strC_int, listC_lst, listC_tup, tupleC_lst, tupleC_tup, joinM_ap, splitM_ok, ofString_inj, List.length_cons, List.length_nil, List.length_append, List.length_map, Int.reduceNeg, Int.reduceAdd, Int.reduceSub, Int.reduceMul, Int.reduceMod, Int.reducePow, Int.reduceDiv, Int.reduceLE, Int.reduceLT, Int.reduceEq, Int.reduceToNat, Nat.reduceAdd, Nat.reduceSub, Nat.reduceLeDiff, Nat.reduceEqDiff, String.reduceEq, decide_true, decide_false, Bool.not_true, Bool.not_false, Bool.and_true, Bool.true_and, Bool.and_false, Bool.false_and, Bool.or_true, Bool.or_false, Bool.true_or, Bool.false_or, Option.isSome_some, Option.isSome_none, if_true, if_false, Bool.false_eq_true, Int.reduceBNe]
  · simp (disch := walk_at "ds") only [B__law_line, hj, rep_0, rep_s, get_0, get_s, set_0, set_s, app_n, app_c, map_n, map_c, wipe_n, wipe_c, rb_ok, rb_exc, ofO_some, rd_some, varS_ap, conS_ap, nilA_ap, consA_ap, consR_ok, consR_exc, consR_exc0, items_ap, items_lst, items_tup, items_scr, starA_ap, starR_ok, tupS_ap, tupR_ok, lstS_ap, lstR_ok, andS_ap, andR_t, andR_f, orS_ap, orR_t, orR_f, notS_ap, testS_ap, truR_bl, truR_int, ifS_ap, ifR_t, ifR_f, andT_ap, andW_t, andW_f, orT_ap, orW_t, orW_f, notT_ap, yesT_ap, tb1_ap, blR_bl, bin2_ap, b2R_ok, un1_ap, callB_ap, cbR_ok, chainS_ap, noP_ap, someP_ap, intR_ok, slS_ap, slR_ok, slD_ap, slQ_lst, slQ_tup, methS_ap, meR_ok, callS_ap, calR_ok, cal1_ok, cal1_exc, lcS_ap, lcR_ok, lcQ_ok, lcL_nil, lcL_yes, lcY_ok, lcZ_ok, itI_ap, itR_lst, itR_scr, itR_tup, itR_str, rng1I_ap, rn1R_ok, rng3I_ap, rn3R_up, zipI_ap, zpR_lst, zpR_tup, nameG_ap, nilG_ap, consG_ap, cgR_ok, tupG_2, tupG_3, seqS_ap, sqR_nx, sqR_ret, sqR_exc, passS_ap, retS_ap, retF_ap, reR_ok, reR_exc, asgS_ap, asR_ok, asR_exc, agR_ok, ownS_ap, owR_ok, iffS_ap, ifO_t, ifO_f, ifO_exc, expS_ap, exR_ok, exR_exc, forS_ap, foR_ok, forL_nil, forL_cons, flA_ok, flB_nx, appS_ap, apR_last, raiS_ap, rai1S_ap, raR_int, tryS_ap, trR_nx, trR_ret, trR_exc, starS_ap, stR_1, dr_int, dr_str, dr_bl, dr_non, dr_tup, dr_lst, dr_scr, dr_wd, dr_exn, dr_lstR, addD_ap, addQ_int, addQ_str, addQ_lst, addQ_tup, subD_int, negD_int, mulD_int, mulD_lst, fdivD_int, modD_int, powD_int, ltD_int, leD_int, gtD_int, geD_int, isn_lst, isn_non, eqB_str, eqB_int, eqD_ap, neD_ap, inB_wd, inB_chr, inD_ap, ninD_ap, omap_some, look_n, look_c, ixD_ap, ixQ_lst, ixQ_tup, ixQ_scr, ixQ_wd, ixQ_str, at_0, at_m1, at_m1c, at_p, rg2S_ap, r2R_ok, rg1S_ap, r1R_ok, rgD_ok', cut_m1, cut_pos, cut_posf, drop_0, drop_s, take_0, take_s, take_n, dl_1, dl_c, flat_rep, eq_self, Int.cast_ofNat_Int, lenD_ap, lenQ_lst, lenQ_scr, lenQ_tup, lenQ_str, intC_int, strC_str, strC_int, listC_lst, listC_tup, tupleC_lst, tupleC_tup, joinM_ap, splitM_ok, ofString_inj, List.length_cons, List.length_nil, List.length_append, List.length_map, Int.reduceNeg, Int.reduceAdd, Int.reduceSub, Int.reduceMul, Int.reduceMod, Int.reducePow, Int.reduceDiv, Int.reduceLE, Int.reduceLT, Int.reduceEq, Int.reduceToNat, Nat.reduceAdd, Nat.reduceSub, Nat.reduceLeDiff, Nat.reduceEqDiff, String.reduceEq, decide_true, decide_false, Bool.not_true, Bool.not_false, Bool.and_true, Bool.true_and, Bool.and_false, Bool.false_and, Bool.or_true, Bool.or_false, Bool.true_or, Bool.false_or, Option.isSome_some, Option.isSome_none, if_true, if_false, Bool.false_eq_true, Int.reduceBNe]
theorem sl_keep {one two : Str} (h0 : d0 % 8 = 7) (b1 : 0 ≤ d1 ∧ d1 < 100) (b2 : 0 ≤ d2 ∧ d2 < 100) (b3 : 0 ≤ d3 ∧ d3 < 100) (b4 : 0 ≤ d4 ∧ d4 < 100) (t1 : TokS one) (t2 : TokS two)
    (c1 : run Tb (n + 1) 7 (fun _ => false) ρ [.int d5, .int d6, .int d7] = .ok false (.str one) ρ) (c2 : run Tb (n + 1) 7 (fun _ => false) ρ [.int d6, .int d7, .int d8] = .ok false (.str two) ρ) : SL n ρ (Ld d0 d1 d2 d3 d4 d5 d6 d7 d8) := by
  have l1 := small_log b1
  have l2 := small_log b2
  have l3 := small_log b3
  have l4 := small_log b4
  have hmu : (fun r => decide (ρ.length ≤ r)) ρ.length = true := by simp
  have n4 : (1 + d4 % 9) ≤ 9 ∧ 1 ≤ (1 + d4 % 9) := by omega
  generalize hN : (1 + d4 % 9).toNat = N
  have hN1 : 1 ≤ N ∧ N ≤ 9 := by omega
  let c : Nat → Int := fun k => (d2 + (0 + (k : Int)) * d3) % 100
  have hc : ∀ k, 0 ≤ c k ∧ c k < 100 := fun k => by show 0 ≤ _ % 100 ∧ _ % 100 < (100 : Int); omega
  have g : GoodL "keep" (nt d1 :: (List.range N).map fun k => nt (c k)) := by
    have := good_of (k := "keep") (W := ("step", nt d1) :: (List.range N).map fun k => ("column", nt (c k))) (by decide +kernel) (by
      rw [rolesS_lit]
      simp only [String.reduceEq, if_false, if_true, List.length_cons, List.length_map, List.length_range, List.map_cons, List.map_map]
      rw [if_pos (by omega)]
      congr 2
      rw [show ((fun x : Str × Str => x.1) ∘ fun k => (("column" : Str), nt (c k))) = fun _ => ("column" : Str) from rfl, List.map_const', List.length_range]
      rfl) (by
      intro p hp
      rcases List.mem_cons.mp hp with rfl | hp
      · exact ⟨(nt_ok b1).2, fun _ => (nt_ok b1).1⟩
      · obtain ⟨k, _, rfl⟩ := List.mem_map.mp hp
        exact ⟨(nt_ok (hc k)).2, fun _ => (nt_ok (hc k)).1⟩) (by simp; omega)
    rw [List.map_cons, List.map_map] at this
    exact this
  have hj : joinQ " " (.lst (.str "keep" :: .str (nt d1) :: (List.range N).map fun k => .str (nt (c k)))) = some (.str (Txt.join " " ("keep" :: nt d1 :: (List.range N).map fun k => nt (c k)))) := by
    have := join_good g
    rw [List.map_cons, List.map_cons, List.map_map] at this
    exact this
  have hlc : lcL (nameG 6) yesT (bin2 modD (callB intC (consA (bin2 addD (bin2 ixD (varS 0) (conS (.int 2))) (bin2 mulD (varS 6) (bin2 ixD (varS 0) (conS (.int 3))))) nilA)) (conS (.int 100))) ρ [some (Ld d0 d1 d2 d3 d4 d5 d6 d7 d8), some (.str one), some (.str two), some (.int 7), none, none, none] (rngL 0 N) = .ok ((List.range N).map fun k => .int (c k)) := by
    refine lc_map _ fun k hk => ⟨[some (Ld d0 d1 d2 d3 d4 d5 d6 d7 d8), some (.str one), some (.str two), some (.int 7), none, none, some (.int (0 + (k : Nat)))], rfl, ?_⟩
    have hk' := List.mem_range.mp hk
    walk_at "dd"
    rfl
  have hrl : (rngL 0 N).length ≤ 100000 := by simp [rngL]; omega
  have hln : lcL (nameG 5) yesT (callB strC (consA (varS 5) nilA)) (ρ ++ [.lst [.str "keep", .str (nt d1)]]) [some (.tup [.str "keep", .int d1, .tup ((List.range N).map fun k => .int (c k))]), some (.rt ρ.length), some (.tup ((List.range N).map fun k => .int (c k))), none, none, none] ((List.range N).map fun k => .int (c k)) = .ok ((List.range N).map fun k => .str (nt (c k))) := by
    refine lc_map _ fun k hk => ⟨[some (.tup [.str "keep", .int d1, .tup ((List.range N).map fun k => .int (c k))]), some (.rt ρ.length), some (.tup ((List.range N).map fun k => .int (c k))), none, none, some (.int (c k))], rfl, ?_⟩
    have := small_log (hc k)
    walk_at "dd"
  refine ⟨[.str "keep", .int d1, .tup ((List.range N).map fun k => .int (c k))], "keep", nt d1 :: (List.range N).map fun k => nt (c k), st_ok ?_ ?_, ln_ok (c := .lst [.str "keep", .str (nt d1)]) ?_, g, ex_keep b1 hc hN1⟩
  · simp (disch := walk_at "ds") only [B__law_any_step, c1, c2, h0, hN, hlc, rep_0, rep_s, get_0, get_s, set_0, set_s, app_n, app_c, map_n, map_c, wipe_n, wipe_c, rb_ok, rb_exc, ofO_some, rd_some, varS_ap, conS_ap, nilA_ap, consA_ap, consR_ok, consR_exc, consR_exc0, items_ap, items_lst, items_tup, items_scr, starA_ap, starR_ok, tupS_ap, tupR_ok, lstS_ap, lstR_ok, andS_ap, andR_t, andR_f, orS_ap, orR_t, orR_f, notS_ap, testS_ap, truR_bl, truR_int, ifS_ap, ifR_t, ifR_f, andT_ap, andW_t, andW_f, orT_ap, orW_t, orW_f, notT_ap, yesT_ap, tb1_ap, blR_bl, bin2_ap, b2R_ok, un1_ap, callB_ap, cbR_ok, chainS_ap, noP_ap, someP_ap, intR_ok, slS_ap, slR_ok, slD_ap, slQ_lst, slQ_tup, methS_ap, meR_ok, callS_ap, calR_ok, cal1_ok, cal1_exc, lcS_ap, lcR_ok, lcQ_ok, lcL_nil, lcL_yes, lcY_ok, lcZ_ok, itI_ap, itR_lst, itR_scr, itR_tup, itR_str, rng1I_ap, rn1R_ok, rng3I_ap, rn3R_up, zipI_ap, zpR_lst, zpR_tup, nameG_ap, nilG_ap, consG_ap, cgR_ok, tupG_2, tupG_3, seqS_ap, sqR_nx, sqR_ret, sqR_exc, passS_ap, retS_ap, retF_ap, reR_ok, reR_exc, asgS_ap, asR_ok, asR_exc, agR_ok, ownS_ap, owR_ok, iffS_ap, ifO_t, ifO_f, ifO_exc, expS_ap, exR_ok, exR_exc, forS_ap, foR_ok, forL_nil, forL_cons, flA_ok, flB_nx, appS_ap, apR_last, raiS_ap, rai1S_ap, raR_int, tryS_ap, trR_nx, trR_ret, trR_exc, starS_ap, stR_1, dr_int, dr_str, dr_bl, dr_non, dr_tup, dr_lst, dr_scr, dr_wd, dr_exn, dr_lstR, addD_ap, addQ_int, addQ_str, addQ_lst, addQ_tup, subD_int, negD_int, mulD_int, mulD_lst, fdivD_int, modD_int, powD_int, ltD_int, leD_int, gtD_int, geD_int, isn_lst, isn_non, eqB_str, eqB_int, eqD_ap, neD_ap, inB_wd, inB_chr, inD_ap, ninD_ap, omap_some, look_n, look_c, ixD_ap, ixQ_lst, ixQ_tup, ixQ_scr, ixQ_wd, ixQ_str, at_0, at_m1, at_m1c, at_p, rg2S_ap, r2R_ok, rg1S_ap, r1R_ok, rgD_ok', cut_m1, cut_pos, cut_posf, drop_0, drop_s, take_0, take_s, take_n, dl_1, dl_c, flat_rep, eq_self, Int.cast_ofNat_Int, lenD_ap, lenQ_lst, lenQ_scr, lenQ_tup, lenQ_str, intC_int, strC_str, strC_int, listC_lst, listC_tup, tupleC_lst, tupleC_tup, joinM_ap, splitM_ok, ofString_inj, List.length_cons, List.length_nil, List.length_append, List.length_map, Int.reduceNeg, Int.reduceAdd, Int.reduceSub, Int.reduceMul, Int.reduceMod, Int.reducePow, Int.reduceDiv, Int.reduceLE, Int.reduceLT, Int.reduceEq, Int.reduceToNat, Nat.reduceAdd, Nat.reduceSub, Nat.reduceLeDiff, Nat.reduceEqDiff, String.reduceEq, decide_true, decide_false, Bool.not_true, Bool.not_false, Bool.and_true, Bool.true_and, Bool.and_false, Bool.false_and, Bool.or_true, Bool.or_false, Bool.true_or, Bool.false_or, Option.isSome_some, Option.isSome_none, if_true, if_false, Bool.false_eq_true, Int.reduceBNe]
  · simp only [okRtL, okRt, Bool.true_and, Bool.and_true]
    exact okL_map fun _ _ => rfl
  · simp (disch := walk_at "ds") only [B__law_line, hj, hln, rep_0, rep_s, get_0, get_s, set_0, set_s, app_n, app_c, map_n, map_c, wipe_n, wipe_c, rb_ok, rb_exc, ofO_some, rd_some, varS_ap, conS_ap, nilA_ap, consA_ap, consR_ok, consR_exc, consR_exc0, items_ap, items_lst, items_tup, items_scr, starA_ap, starR_ok, tupS_ap, tupR_ok, lstS_ap, lstR_ok, andS_ap, andR_t, andR_f, orS_ap, orR_t, orR_f, notS_ap, testS_ap, truR_bl, truR_int, ifS_ap, ifR_t, ifR_f, andT_ap, andW_t, andW_f, orT_ap, orW_t, orW_f, notT_ap, yesT_ap, tb1_ap, blR_bl, bin2_ap, b2R_ok, un1_ap, callB_ap, cbR_ok, chainS_ap, noP_ap, someP_ap, intR_ok, slS_ap, slR_ok, slD_ap, slQ_lst, slQ_tup, methS_ap, meR_ok, callS_ap, calR_ok, cal1_ok, cal1_exc, lcS_ap, lcR_ok, lcQ_ok, lcL_nil, lcL_yes, lcY_ok, lcZ_ok, itI_ap, itR_lst, itR_scr, itR_tup, itR_str, rng1I_ap, rn1R_ok, rng3I_ap, rn3R_up, zipI_ap, zpR_lst, zpR_tup, nameG_ap, nilG_ap, consG_ap, cgR_ok, tupG_2, tupG_3, seqS_ap, sqR_nx, sqR_ret, sqR_exc, passS_ap, retS_ap, retF_ap, reR_ok, reR_exc, asgS_ap, asR_ok, asR_exc, agR_ok, ownS_ap, owR_ok, iffS_ap, ifO_t, ifO_f, ifO_exc, expS_ap, exR_ok, exR_exc, forS_ap, foR_ok, forL_nil, forL_cons, flA_ok, flB_nx, appS_ap, apR_last, raiS_ap, rai1S_ap, raR_int, tryS_ap, trR_nx, trR_ret, trR_exc, starS_ap, stR_1, dr_int, dr_str, dr_bl, dr_non, dr_tup, dr_lst, dr_scr, dr_wd, dr_exn, dr_lstR, addD_ap, addQ_int, addQ_str, addQ_lst, addQ_tup, subD_int, negD_int, mulD_int, mulD_lst, fdivD_int, modD_int, powD_int, ltD_int, leD_int, gtD_int, geD_int, isn_lst, isn_non, eqB_str, eqB_int, eqD_ap, neD_ap, inB_wd, inB_chr, inD_ap, ninD_ap, omap_some, look_n, look_c, ixD_ap, ixQ_lst, ixQ_tup, ixQ_scr, ixQ_wd, ixQ_str, at_0, at_m1, at_m1c, at_p, rg2S_ap, r2R_ok, rg1S_ap, r1R_ok, rgD_ok', cut_m1, cut_pos, cut_posf, drop_0, drop_s, take_0, take_s, take_n, dl_1, dl_c, flat_rep, eq_self, Int.cast_ofNat_Int, lenD_ap, lenQ_lst, lenQ_scr, lenQ_tup, lenQ_str, intC_int, strC_str, strC_int, listC_lst, listC_tup, tupleC_lst, tupleC_tup, joinM_ap, splitM_ok, ofString_inj, List.length_cons, List.length_nil, List.length_append, List.length_map, Int.reduceNeg, Int.reduceAdd, Int.reduceSub, Int.reduceMul, Int.reduceMod, Int.reducePow, Int.reduceDiv, Int.reduceLE, Int.reduceLT, Int.reduceEq, Int.reduceToNat, Nat.reduceAdd, Nat.reduceSub, Nat.reduceLeDiff, Nat.reduceEqDiff, String.reduceEq, decide_true, decide_false, Bool.not_true, Bool.not_false, Bool.and_true, Bool.true_and, Bool.and_false, Bool.false_and, Bool.or_true, Bool.or_false, Bool.true_or, Bool.false_or, Option.isSome_some, Option.isSome_none, if_true, if_false, Bool.false_eq_true, Int.reduceBNe]
end

theorem r_any {n : Nat} {ρ : List D} {d0 d1 d2 d3 d4 d5 d6 d7 d8 : Int} (hb : ∀ x ∈ [d0, d1, d2, d3, d4, d5, d6, d7, d8], 0 ≤ x ∧ x < 100) : SL n ρ (Ld d0 d1 d2 d3 d4 d5 d6 d7 d8) := by
  simp only [List.forall_mem_cons] at hb
  obtain ⟨b0, b1, b2, b3, b4, b5, b6, b7, b8, _⟩ := hb
  obtain ⟨one, t1, c1⟩ := r_token (n := n) (ρ := ρ) b5 b6 b7
  obtain ⟨two, t2, c2⟩ := r_token (n := n) (ρ := ρ) b6 b7 b8
  have h : d0 % 8 = 0 ∨ d0 % 8 = 1 ∨ d0 % 8 = 2 ∨ d0 % 8 = 3 ∨ d0 % 8 = 4 ∨ d0 % 8 = 5 ∨ d0 % 8 = 6 ∨ d0 % 8 = 7 := by omega
  rcases h with h | h | h | h | h | h | h | h
  · exact sl_table h b1 t1 t2 c1 c2
  · exact sl_same h b1 b2 b3 b4 t1 t2 c1 c2
  · exact sl_is h b1 b2 b3 b4 t1 t2 c1 c2
  · exact sl_when h b1 b2 b3 b4 t1 t2 c1 c2
  · exact sl_clip h b1 b2 b3 b4 t1 t2 c1 c2
  · have h4 : d4 % 6 = 0 ∨ d4 % 6 = 1 ∨ d4 % 6 = 2 ∨ d4 % 6 = 3 ∨ d4 % 6 = 4 ∨ d4 % 6 = 5 := by omega
    rcases h4 with h4 | h4 | h4 | h4 | h4 | h4
    · exact sl_pair0 h h4 b1 b2 b3 b4 t1 t2 c1 c2
    · exact sl_pair1 h h4 b1 b2 b3 b4 t1 t2 c1 c2
    · exact sl_pair2 h h4 b1 b2 b3 b4 t1 t2 c1 c2
    · exact sl_pair3 h h4 b1 b2 b3 b4 t1 t2 c1 c2
    · exact sl_pair4 h h4 b1 b2 b3 b4 t1 t2 c1 c2
    · exact sl_pair5 h h4 b1 b2 b3 b4 t1 t2 c1 c2
  · exact sl_union h b1 b2 b3 b4 t1 t2 c1 c2
  · exact sl_keep h b1 b2 b3 b4 t1 t2 c1 c2

/-- a word of a line: maybe empty, without a space -/
def Wrd (t : Str) : Prop := sOk t ∧ t.length ≤ 12 ∧ 32 ∉ TL.tl t
theorem TokS.wrd {t : Str} (h : TokS t) : Wrd t := ⟨h.ok, h.hi, h.sp⟩
theorem goodw {k : Str} {ts : List Str} (g : GoodL k ts) : ∀ t ∈ k :: ts, Wrd t := fun t ht => (g.tok t ht).wrd
theorem joinL_len (S : List Nat) : ∀ l : List (List Nat), (TL.joinL S l).length ≤ (l.map List.length).sum + l.length * S.length
  | [] => by simp [TL.joinL]
  | [p] => by simp [TL.joinL]
  | p :: q :: r => by
    have := joinL_len S (q :: r)
    show (p ++ (S ++ TL.joinL S (q :: r))).length ≤ _
    simp only [List.length_append, List.map_cons, List.sum_cons, List.length_cons, Nat.add_mul, Nat.one_mul] at this ⊢
    omega
theorem jn_len {ss : List Str} (h : ∀ s ∈ ss, Wrd s) : (Txt.join " " ss).length ≤ 13 * ss.length := by
  rw [len_tl', TL.join_eq, TL.tl_join]
  have h1 := joinL_len (TL.tl " ") (ss.map TL.tl)
  have h2 := sum_le fun s hs => (h s hs).2.1
  have h3 : ((ss.map TL.tl).map List.length) = ss.map (·.length) := by rw [List.map_map]; apply List.map_congr_left; intro s _; exact (len_tl' s).symm
  rw [h3, List.length_map, show (TL.tl (" " : Str)).length = 1 from by decide +kernel] at h1
  omega
theorem mem_joinL {S : List Nat} {c : Nat} : ∀ {l : List (List Nat)}, c ∈ TL.joinL S l → c ∈ S ∨ ∃ p ∈ l, c ∈ p
  | [], h => by simp [TL.joinL] at h
  | [p], h => .inr ⟨p, by simp, by simpa [TL.joinL] using h⟩
  | p :: q :: r, h => by
    have h : c ∈ p ++ (S ++ TL.joinL S (q :: r)) := h
    simp only [List.mem_append] at h
    rcases h with h | h | h
    · exact .inr ⟨p, by simp, h⟩
    · exact .inl h
    · rcases mem_joinL h with h | ⟨x, hx, hc⟩
      · exact .inl h
      · exact .inr ⟨x, List.mem_cons_of_mem _ hx, hc⟩
theorem sOk_join {ws : List Str} (h : ∀ w ∈ ws, sOk w) : sOk (Txt.join " " ws) := by
  unfold sOk PyData.strOk
  rw [← Array.all_toList, List.all_eq_true]
  intro c hc
  have hc : c ∈ TL.tl (Txt.join " " ws) := hc
  rw [TL.join_eq, TL.tl_join, tl_sp] at hc
  rcases mem_joinL hc with h1 | ⟨p, hp, hc⟩
  · rw [List.mem_singleton.mp h1]; rfl
  · obtain ⟨w, hw, rfl⟩ := List.mem_map.mp hp
    have h2 := h w hw
    unfold sOk PyData.strOk at h2
    rw [← Array.all_toList, List.all_eq_true] at h2
    exact h2 c hc
theorem list9 {α : Type} {L : List α} (h : L.length = 9) : ∃ d0 d1 d2 d3 d4 d5 d6 d7 d8, L = [d0, d1, d2, d3, d4, d5, d6, d7, d8] := by
  match L, h with
  | [d0, d1, d2, d3, d4, d5, d6, d7, d8], _ => exact ⟨d0, d1, d2, d3, d4, d5, d6, d7, d8, rfl⟩
theorem law_run (ns : List Int) (h : ns.length ≤ 63) : run Tb 11 10 (fun _ => false) [] [.scr (ns.map .int)] = .ok false (.bl true) [] := by
  refine run_res (n := 10) 1 5 B_law (o := .ret false (.bl true) []) rfl rfl rfl ?_ rfl
  unfold B_law
  generalize hbody : (seqS (asgS (callS (run Tb 10) 8 [] (consA (callS (run Tb 10) 6 [] (consA (varS 0) (consA (varS 1) (consA (conS (.int 9)) nilA)))) nilA)) (nameG 2)) _) = body
  let P : Nat → List D → Dd.Env → Prop := fun i ρ' σ' => ρ' = [] ∧ ∃ a b c d, σ' = [some (.scr (ns.map .int)), a, b, c, d]
  have loop := forL_at (g := nameG 1) (body := body) (mu := fun r => decide (([] : List D).length ≤ r) && !([] : List Nat).contains r) (l := rngL 0 3) (ρ := []) (σ := [some (.scr (ns.map .int)), none, none, none, none]) P ⟨rfl, none, none, none, none, rfl⟩ ?_
  · obtain ⟨ρ', σ', e1, rfl, a, b, c, d, rfl⟩ := loop
    walk_at "dd"
    simp only [List.length_nil] at e1
    rw [e1]
    walk_at "dd"
  · rintro i x ρ' σ' hd ⟨rfl, a, b, c, d, rfl⟩
    obtain ⟨rfl, hi⟩ := rng_get hd
    obtain ⟨L, hL, hb, hdr⟩ := r_draws (n := 9) (ρ := []) (ns := ns) (a := i) (m := 9) (by omega) (by omega) (by omega)
    obtain ⟨d0, d1, d2, d3, d4, d5, d6, d7, d8, rfl⟩ := list9 hL
    obtain ⟨st, k, ts, hs1, hs2, g, hx⟩ := r_any (n := 8) (ρ := []) hb
    have hgw := goodw g
    have hgl := g.len
    have hsp := split_join_sp (ws := k :: ts) (by simp) fun t ht => (hgw t ht).2.2
    have hl1 := jn_len hgw
    simp only [List.length_cons] at hl1
    obtain ⟨fr, hfmt⟩ := r_format (n := 5) (ρ := []) hx g
    obtain ⟨p, hp, hsm⟩ := hx.data
    have hwk := hgw k (by simp)
    have hwt : ∀ t ∈ ts, sOk t ∧ t.length ≤ 100000 := fun t ht => ⟨(hgw t (by simp [ht])).1, by have := (hgw t (by simp [ht])).2.1; omega⟩
    have p1 := r_parse (n := 7) (ρ := []) (i := 1) (line := Txt.join " " (k :: ts)) (by decide) (by omega) hsp hwk.1 hwt (by omega)
    have p7 := r_parse (n := 7) (ρ := []) (i := 7 + (i : Int)) (line := Txt.join " " (k :: ts)) (small_log (by omega)) (by omega) hsp hwk.1 hwt (by omega)
    rw [if_pos g.wf, hx.parse] at p1 p7
    have hrep : reprC [] [.tup st] = some (.str p.shown) := by
      rw [repr_ap, hp, Option.bind_some, if_pos (hsm.ok (by decide) (by decide))]
    have hok : sOk (Txt.join " " (k :: ts)) := sOk_join fun t ht => (hgw t ht).1
    have i1 : ∀ s : Str, isiC iscz [] [.str s, .ty .str] = some (.bl true) := fun s => rfl
    have i2 : ∀ l : List D, isiC iscz [] [.tup l, .ty .tuple] = some (.bl true) := fun l => rfl
    simp only [map_c, map_n, Int.cast_ofNat_Int] at hdr
    simp only [Nat.reduceAdd] at hdr hs1 hs2 hfmt p1 p7
    generalize hW : k :: ts = W at *
    refine ⟨_, [], [some (.scr (ns.map .int)), some (.int (i : Nat)), some (.tup st), some (.str (Txt.join " " W)), some (.tup st)], nameG_ap, ?_, rfl, _, _, _, _, rfl⟩
    rw [← hbody]
    simp (disch := walk_at "ds") only [Int.zero_add, hdr, hs1, hs2, hfmt, p1, p7, hrep, i1, i2, nes_str, rep_0, rep_s, get_0, get_s, set_0, set_s, app_n, app_c, map_n, map_c, wipe_n, wipe_c, rb_ok, rb_exc, ofO_some, rd_some, varS_ap, conS_ap, nilA_ap, consA_ap, consR_ok, consR_exc, consR_exc0, items_ap, items_lst, items_tup, items_scr, starA_ap, starR_ok, tupS_ap, tupR_ok, lstS_ap, lstR_ok, andS_ap, andR_t, andR_f, orS_ap, orR_t, orR_f, notS_ap, testS_ap, truR_bl, truR_int, ifS_ap, ifR_t, ifR_f, andT_ap, andW_t, andW_f, orT_ap, orW_t, orW_f, notT_ap, yesT_ap, tb1_ap, blR_bl, bin2_ap, b2R_ok, un1_ap, callB_ap, cbR_ok, chainS_ap, noP_ap, someP_ap, intR_ok, slS_ap, slR_ok, slD_ap, slQ_lst, slQ_tup, methS_ap, meR_ok, callS_ap, calR_ok, cal1_ok, cal1_exc, lcS_ap, lcR_ok, lcQ_ok, lcL_nil, lcL_yes, lcY_ok, lcZ_ok, itI_ap, itR_lst, itR_scr, itR_tup, itR_str, rng1I_ap, rn1R_ok, rng3I_ap, rn3R_up, zipI_ap, zpR_lst, zpR_tup, nameG_ap, nilG_ap, consG_ap, cgR_ok, tupG_2, tupG_3, seqS_ap, sqR_nx, sqR_ret, sqR_exc, passS_ap, retS_ap, retF_ap, reR_ok, reR_exc, asgS_ap, asR_ok, asR_exc, agR_ok, ownS_ap, owR_ok, iffS_ap, ifO_t, ifO_f, ifO_exc, expS_ap, exR_ok, exR_exc, forS_ap, foR_ok, forL_nil, forL_cons, flA_ok, flB_nx, appS_ap, apR_last, raiS_ap, rai1S_ap, raR_int, tryS_ap, trR_nx, trR_ret, trR_exc, starS_ap, stR_1, dr_int, dr_str, dr_bl, dr_non, dr_tup, dr_lst, dr_scr, dr_wd, dr_exn, dr_lstR, addD_ap, addQ_int, addQ_str, addQ_lst, addQ_tup, subD_int, negD_int, mulD_int, mulD_lst, fdivD_int, modD_int, powD_int, ltD_int, leD_int, gtD_int, geD_int, isn_lst, isn_non, eqB_str, eqB_int, eqD_ap, neD_ap, inB_wd, inB_chr, inD_ap, ninD_ap, omap_some, look_n, look_c, ixD_ap, ixQ_lst, ixQ_tup, ixQ_scr, ixQ_wd, ixQ_str, at_0, at_m1, at_m1c, at_p, rg2S_ap, r2R_ok, rg1S_ap, r1R_ok, rgD_ok', cut_m1, cut_pos, cut_posf, drop_0, drop_s, take_0, take_s, take_n, dl_1, dl_c, flat_rep, eq_self, Int.cast_ofNat_Int, lenD_ap, lenQ_lst, lenQ_scr, lenQ_tup, lenQ_str, intC_int, strC_str, strC_int, listC_lst, listC_tup, tupleC_lst, tupleC_tup, joinM_ap, splitM_ok, ofString_inj, List.length_cons, List.length_nil, List.length_append, List.length_map, Int.reduceNeg, Int.reduceAdd, Int.reduceSub, Int.reduceMul, Int.reduceMod, Int.reducePow, Int.reduceDiv, Int.reduceLE, Int.reduceLT, Int.reduceEq, Int.reduceToNat, Nat.reduceAdd, Nat.reduceSub, Nat.reduceLeDiff, Nat.reduceEqDiff, String.reduceEq, decide_true, decide_false, Bool.not_true, Bool.not_false, Bool.and_true, Bool.true_and, Bool.and_false, Bool.false_and, Bool.or_true, Bool.or_false, Bool.true_or, Bool.false_or, Option.isSome_some, Option.isSome_none, if_true, if_false, Bool.false_eq_true, Int.reduceBNe]

structure Txt (P : Program) (w : World) (K : PySem.W.Frag) (mg : Str → Option Value) (C_CutError C_BadLine : Addr) : Prop where
  ok : WOk (Wz K w C_CutError C_BadLine)
  g_CutError : mg "CutError" = some (.ref C_CutError)
  g_BadLine : mg "BadLine" = some (.ref C_BadLine)
  b_tuple : mg "tuple" = none
  b_isinstance : mg "isinstance" = none
  b_str : mg "str" = none
  b_len : mg "len" = none
  b_all : mg "all" = none
  b_list : mg "list" = none
  b_zip : mg "zip" = none
  b_int : mg "int" = none
  b_range : mg "range" = none
  b_repr : mg "repr" = none
  v_DIGITS : ∃ v u, mg "DIGITS" = some u ∧ L2.RelV v u ∧ ∀ RA B, Rep (Wz K w C_CutError C_BadLine) RA B v_DIGITS v
  v_KINDS : ∃ v u, mg "KINDS" = some u ∧ L2.RelV v u ∧ ∀ RA B, Rep (Wz K w C_CutError C_BadLine) RA B v_KINDS v
  v_TEST : ∃ v u, mg "TEST" = some u ∧ L2.RelV v u ∧ ∀ RA B, Rep (Wz K w C_CutError C_BadLine) RA B v_TEST v
  v_NUMBERS : ∃ v u, mg "NUMBERS" = some u ∧ L2.RelV v u ∧ ∀ RA B, Rep (Wz K w C_CutError C_BadLine) RA B v_NUMBERS v
  xi_BadLine : ∀ base, XiC P w K mg base "BadLine" C_BadLine "number"
  d_words_of : ∃ f fd ds, FunD K "words_of" "words_of" (defArgs s_words_of) (defBody s_words_of) (defScope s_words_of) [] [] f fd ∧ mg "words_of" = some (.ref f) ∧ Binds K fd ["part"] ds ∧ Vals [] ds
  d_token_roles : ∃ f fd ds, FunD K "token_roles" "token_roles" (defArgs s_token_roles) (defBody s_token_roles) (defScope s_token_roles) [] [] f fd ∧ mg "token_roles" = some (.ref f) ∧ Binds K fd ["kind", "many"] ds ∧ Vals [] ds
  d_is_number : ∃ f fd ds, FunD K "is_number" "is_number" (defArgs s_is_number) (defBody s_is_number) (defScope s_is_number) [] [] f fd ∧ mg "is_number" = some (.ref f) ∧ Binds K fd ["token"] ds ∧ Vals [] ds
  d_is_well_formed : ∃ f fd ds, FunD K "is_well_formed" "is_well_formed" (defArgs s_is_well_formed) (defBody s_is_well_formed) (defScope s_is_well_formed) [] [] f fd ∧ mg "is_well_formed" = some (.ref f) ∧ Binds K fd ["kind", "tokens"] ds ∧ Vals [] ds
  d__law_token : ∃ f fd ds, FunD K "_law_token" "_law_token" (defArgs s__law_token) (defBody s__law_token) (defScope s__law_token) [] [] f fd ∧ mg "_law_token" = some (.ref f) ∧ Binds K fd ["_law_one", "_law_two", "_law_three"] ds ∧ Vals [] ds
  d__law_draws : ∃ f fd ds, FunD K "_law_draws" "_law_draws" (defArgs s__law_draws) (defBody s__law_draws) (defScope s__law_draws) [] [] f fd ∧ mg "_law_draws" = some (.ref f) ∧ Binds K fd ["_law_script", "_law_at", "_law_many"] ds ∧ Vals [] ds
  d__law_any_step : ∃ f fd ds, FunD K "_law_any_step" "_law_any_step" (defArgs s__law_any_step) (defBody s__law_any_step) (defScope s__law_any_step) [] [] f fd ∧ mg "_law_any_step" = some (.ref f) ∧ Binds K fd ["_law_d"] ds ∧ Vals [] ds
  d_format_step : ∃ f fd ds, FunD K "format_step" "format_step" (defArgs s_format_step) (defBody s_format_step) (defScope s_format_step) [] [] f fd ∧ mg "format_step" = some (.ref f) ∧ Binds K fd ["step"] ds ∧ Vals [] ds
  d__law_line : ∃ f fd ds, FunD K "_law_line" "_law_line" (defArgs s__law_line) (defBody s__law_line) (defScope s__law_line) [] [] f fd ∧ mg "_law_line" = some (.ref f) ∧ Binds K fd ["_law_step"] ds ∧ Vals [] ds
  d_parse_step_1 : ∃ f fd ds, FunD K "parse_step" "parse_step" (defArgs s_parse_step) (defBody s_parse_step) (defScope s_parse_step) [.int 1] [] f fd ∧ mg "parse_step" = some (.ref f) ∧ Binds K fd ["line", "number"] ds ∧ Vals [.int 1] ds
  d_parse_step : ∃ f fd ds, FunD K "parse_step" "parse_step" (defArgs s_parse_step) (defBody s_parse_step) (defScope s_parse_step) [.int 1] [] f fd ∧ mg "parse_step" = some (.ref f) ∧ Binds K fd ["line", "number"] ds ∧ Vals [] ds
theorem dd_parse_step_1 (W : Wd) : ∀ RA B, RepL W RA B [(.int 1)] [.int 1] := fun _ _ => .cons rep_int .nil
structure Hs (P : Program) (w : World) (K : PySem.W.Frag) (mg : Str → Option Value) (base : Heap) (C_CutError C_BadLine : Addr) (n : Nat) : Prop where
  f_words_of : HasF P w K mg base (Wz K w C_CutError C_BadLine) Tb n "words_of" 0 []
  f_token_roles : HasF P w K mg base (Wz K w C_CutError C_BadLine) Tb n "token_roles" 3 []
  f_is_number : HasF P w K mg base (Wz K w C_CutError C_BadLine) Tb n "is_number" 2 []
  f_is_well_formed : HasF P w K mg base (Wz K w C_CutError C_BadLine) Tb n "is_well_formed" 4 []
  f__law_token : HasF P w K mg base (Wz K w C_CutError C_BadLine) Tb n "_law_token" 7 []
  f__law_draws : HasF P w K mg base (Wz K w C_CutError C_BadLine) Tb n "_law_draws" 6 []
  f__law_any_step : HasF P w K mg base (Wz K w C_CutError C_BadLine) Tb n "_law_any_step" 8 []
  f_format_step : HasF P w K mg base (Wz K w C_CutError C_BadLine) Tb n "format_step" 1 []
  f__law_line : HasF P w K mg base (Wz K w C_CutError C_BadLine) Tb n "_law_line" 9 []
  f_parse_step_1 : HasF P w K mg base (Wz K w C_CutError C_BadLine) Tb n "parse_step" 5 [.int 1]
  f_parse_step : HasF P w K mg base (Wz K w C_CutError C_BadLine) Tb n "parse_step" 5 []
theorem dr_words_of {P : Program} {w : World} {K : PySem.W.Frag} {mg : Str → Option Value} {base : Heap} {C_CutError C_BadLine : Addr} {n : Nat} (T : Txt P w K mg C_CutError C_BadLine) (H : Hs P w K mg base C_CutError C_BadLine n) {f : Addr} {cdv : Value} {A : Around} {outer : List PySem.Env} {s : Shared} {H0 : Hp} {E : XK} (hr : Room (4 * n + 3) (A.deeper (envOfC "words_of" (defScope s_words_of) s.heap.objs.size f cdv))) :
    PSsd (cxOf (L2.CX P w) P w K mg base N_words_of "words_of" (defScope s_words_of) f cdv A outer s H0 E) (Wz K w C_CutError C_BadLine) (fun cls dx _ H' => E cls dx H') (defBody s_words_of) (B_words_of (run Tb n)) := by
  have c : Cok (cxOf (L2.CX P w) P w K mg base N_words_of "words_of" (defScope s_words_of) f cdv A outer s H0 E) (Wz K w C_CutError C_BadLine) (fun cls dx _ H' => E cls dx H') n := Cok.of rfl T.ok hr
  unfold B_words_of
  exact (dss_cons (ds_if (xt c.csu (x_isi c.csu T.b_isinstance (da_cons (dpv 0) (da_cons (d_ty .tuple T.b_tuple (by decide +kernel)) da_nil)))) (dss_one (ds_ret (pe_frz (f_lc2 (own := [("inner", 1), ("word", 2)]) (vs1 := [2]) c.calm sc_words_of.nd (d_itI c.csu.K (dpv 0)) (blkOk_by (own := [("inner", 1), ("word", 2)]) (N := N_words_of) (sc := defScope s_words_of) (by decide +kernel)) (by decide) (by decide) (by decide) (fun _ _ _ _ _ => (dg_name (i := 1) sc_words_of.nd rfl (by first | exact Or.inl rfl | exact Or.inr rfl))) (fun _ _ _ _ _ => dts_nil) (fun _ _ _ _ _ => (d_itI c.blk.csu.K (d_call c.blk H.f_words_of (fun _ _ => .nil) (da_cons (dpv 1) da_nil)))) (fun _ _ _ _ _ => (dg_name (i := 2) sc_words_of.nd rfl (by first | exact Or.inl rfl | exact Or.inr rfl))) (fun _ _ _ _ _ => dts_nil) (fun _ _ _ _ _ => (dpv 2)))))) dss_nil)
    (dss_one (ds_ret (pe_frz (f_lst (da_cons (x_str c.csu T.b_str (da_cons (dpv 0) da_nil)) da_nil))))))
theorem dr_format_step {P : Program} {w : World} {K : PySem.W.Frag} {mg : Str → Option Value} {base : Heap} {C_CutError C_BadLine : Addr} {n : Nat} (T : Txt P w K mg C_CutError C_BadLine) (H : Hs P w K mg base C_CutError C_BadLine n) {f : Addr} {cdv : Value} {A : Around} {outer : List PySem.Env} {s : Shared} {H0 : Hp} {E : XK} (hr : Room (4 * n + 3) (A.deeper (envOfC "format_step" (defScope s_format_step) s.heap.objs.size f cdv))) :
    PSsd (cxOf (L2.CX P w) P w K mg base N_format_step "format_step" (defScope s_format_step) f cdv A outer s H0 E) (Wz K w C_CutError C_BadLine) (fun cls dx _ H' => E cls dx H') (defBody s_format_step) (B_format_step (run Tb n)) := by
  have c : Cok (cxOf (L2.CX P w) P w K mg base N_format_step "format_step" (defScope s_format_step) f cdv A outer s H0 E) (Wz K w C_CutError C_BadLine) (fun cls dx _ H' => E cls dx H') n := Cok.of rfl T.ok hr
  unfold B_format_step
  exact (dss_one (ds_ret (x_join c.csu d_str (da_cons (d_call c H.f_words_of (fun _ _ => .nil) (da_cons (dpv 0) da_nil)) da_nil))))
theorem dr_is_number {P : Program} {w : World} {K : PySem.W.Frag} {mg : Str → Option Value} {base : Heap} {C_CutError C_BadLine : Addr} {n : Nat} (T : Txt P w K mg C_CutError C_BadLine) (H : Hs P w K mg base C_CutError C_BadLine n) {f : Addr} {cdv : Value} {A : Around} {outer : List PySem.Env} {s : Shared} {H0 : Hp} {E : XK} (hr : Room (4 * n + 3) (A.deeper (envOfC "is_number" (defScope s_is_number) s.heap.objs.size f cdv))) :
    PSsd (cxOf (L2.CX P w) P w K mg base N_is_number "is_number" (defScope s_is_number) f cdv A outer s H0 E) (Wz K w C_CutError C_BadLine) (fun cls dx _ H' => E cls dx H') (defBody s_is_number) (B_is_number (run Tb n)) := by
  have c : Cok (cxOf (L2.CX P w) P w K mg base N_is_number "is_number" (defScope s_is_number) f cdv A outer s H0 E) (Wz K w C_CutError C_BadLine) (fun cls dx _ H' => E cls dx H') n := Cok.of rfl T.ok hr
  unfold B_is_number
  exact (dss_cons (ds_if (t_eq c.csu (dpv 0) d_str) (dss_one (ds_ret d_bl)) dss_nil)
    (dss_one (ds_ret (d_and (x_lele c.csu d_int (x_len c.csu T.b_len (da_cons (dpv 0) da_nil)) d_int) (d_and (x_ne c.csu (x_ix c.csu (dpv 0) d_int) d_str) (d_one (x_all c T.b_all (da_cons (pe_frz (f_lc (own := [("sign", 1)]) c.calm sc_is_number.nd (d_itI c.csu.K (dpv 0)) (blkOk_by (own := [("sign", 1)]) (N := N_is_number) (sc := defScope s_is_number) (by decide +kernel)) (by decide) (fun _ _ _ _ _ => (dg_name (i := 1) sc_is_number.nd rfl (by first | exact Or.inl rfl | exact Or.inr rfl))) (fun _ _ _ _ _ => dts_nil) (fun _ _ _ _ _ => (x_in c.blk.csu (dpv 1) (d_globE T.v_DIGITS))))) da_nil))))))))
theorem dr_token_roles {P : Program} {w : World} {K : PySem.W.Frag} {mg : Str → Option Value} {base : Heap} {C_CutError C_BadLine : Addr} {n : Nat} (T : Txt P w K mg C_CutError C_BadLine) (H : Hs P w K mg base C_CutError C_BadLine n) {f : Addr} {cdv : Value} {A : Around} {outer : List PySem.Env} {s : Shared} {H0 : Hp} {E : XK} (hr : Room (4 * n + 3) (A.deeper (envOfC "token_roles" (defScope s_token_roles) s.heap.objs.size f cdv))) :
    PSsd (cxOf (L2.CX P w) P w K mg base N_token_roles "token_roles" (defScope s_token_roles) f cdv A outer s H0 E) (Wz K w C_CutError C_BadLine) (fun cls dx _ H' => E cls dx H') (defBody s_token_roles) (B_token_roles (run Tb n)) := by
  have c : Cok (cxOf (L2.CX P w) P w K mg base N_token_roles "token_roles" (defScope s_token_roles) f cdv A outer s H0 E) (Wz K w C_CutError C_BadLine) (fun cls dx _ H' => E cls dx H') n := Cok.of rfl T.ok hr
  unfold B_token_roles
  exact (dss_cons (ds_own (i := 2) sc_token_roles.nd rfl (by first | exact Or.inl rfl | exact Or.inr rfl) (xf_list c.csu T.b_list (da_cons (x_ix c.csu (d_globE T.v_KINDS) (dpv 0)) da_nil)))
    (dss_cons (ds_set (i := 3) sc_token_roles.nd rfl (by first | exact Or.inl rfl | exact Or.inr rfl) (x_add c.csu (x_sub c.csu (dpv 1) (x_len c.csu T.b_len (da_cons (dpv 2) da_nil))) d_int))
    (dss_cons (ds_if (t_eq c.csu (x_ix c.csu (dpv 2) (x_neg c.csu d_int)) d_str) (dss_cons (ds_set (i := 4) sc_token_roles.nd rfl (by first | exact Or.inl rfl | exact Or.inr rfl) (d_and (x_ge c.csu (dpv 3) d_int) (d_one (x_eq c.csu (x_mod c.csu (dpv 3) (x_len c.csu T.b_len (da_cons (d_globE T.v_TEST) da_nil))) d_int))))
    (dss_one (ds_ret (d_if (xt c.csu (dpv 4)) (x_add c.csu (x_slice c.csu (dpv 2) dp_none (dp_some (x_neg c.csu d_int))) (x_mul c.csu (pe_frz (f_lst (da_cons d_str da_nil))) (dpv 3))) d_non)))) dss_nil)
    (dss_cons (ds_if (t_eq c.csu (x_ix c.csu (dpv 2) (x_neg c.csu d_int)) d_str) (dss_one (ds_ret (d_if (t_ge c.csu (dpv 3) d_int) (x_add c.csu (x_slice c.csu (dpv 2) dp_none (dp_some (x_neg c.csu d_int))) (x_mul c.csu (pe_frz (f_lst (da_cons d_str da_nil))) (dpv 3))) d_non))) dss_nil)
    (dss_one (ds_ret (d_if (t_eq c.csu (dpv 3) d_int) (dpv 2) d_non)))))))
theorem dr_is_well_formed {P : Program} {w : World} {K : PySem.W.Frag} {mg : Str → Option Value} {base : Heap} {C_CutError C_BadLine : Addr} {n : Nat} (T : Txt P w K mg C_CutError C_BadLine) (H : Hs P w K mg base C_CutError C_BadLine n) {f : Addr} {cdv : Value} {A : Around} {outer : List PySem.Env} {s : Shared} {H0 : Hp} {E : XK} (hr : Room (4 * n + 3) (A.deeper (envOfC "is_well_formed" (defScope s_is_well_formed) s.heap.objs.size f cdv))) :
    PSsd (cxOf (L2.CX P w) P w K mg base N_is_well_formed "is_well_formed" (defScope s_is_well_formed) f cdv A outer s H0 E) (Wz K w C_CutError C_BadLine) (fun cls dx _ H' => E cls dx H') (defBody s_is_well_formed) (B_is_well_formed (run Tb n)) := by
  have c : Cok (cxOf (L2.CX P w) P w K mg base N_is_well_formed "is_well_formed" (defScope s_is_well_formed) f cdv A outer s H0 E) (Wz K w C_CutError C_BadLine) (fun cls dx _ H' => E cls dx H') n := Cok.of rfl T.ok hr
  unfold B_is_well_formed
  exact (dss_cons (ds_if (dt_w (dw_or (t_nin c.csu (dpv 0) (d_globE T.v_KINDS)) (dw_or1 (t_in c.csu d_str (dpv 1))))) (dss_one (ds_ret d_bl)) dss_nil)
    (dss_cons (ds_set (i := 2) sc_is_well_formed.nd rfl (by first | exact Or.inl rfl | exact Or.inr rfl) (d_call c H.f_token_roles (fun _ _ => .nil) (da_cons (dpv 0) (da_cons (x_len c.csu T.b_len (da_cons (dpv 1) da_nil)) da_nil))))
    (dss_cons (ds_if (t_isn c.csu (dpv 2) d_non) (dss_one (ds_ret d_bl)) dss_nil)
    (dss_one (ds_ret (x_all c T.b_all (da_cons (pe_frz (f_lc (own := [("role", 3), ("token", 4)]) c.calm sc_is_well_formed.nd (d_zipI c.csu.K T.b_zip (dpv 2) (dpv 1)) (blkOk_by (own := [("role", 3), ("token", 4)]) (N := N_is_well_formed) (sc := defScope s_is_well_formed) (by decide +kernel)) (by decide) (fun _ _ _ _ _ => (dg_tup c.blk.csu.K c.blk.calm (dgs_cons (dg_name (i := 3) sc_is_well_formed.nd rfl (by first | exact Or.inl rfl | exact Or.inr rfl)) (dgs_cons (dg_name (i := 4) sc_is_well_formed.nd rfl (by first | exact Or.inl rfl | exact Or.inr rfl)) dgs_nil)))) (fun _ _ _ _ _ => dts_nil) (fun _ _ _ _ _ => (d_or (x_nin c.blk.csu (dpv 3) (d_globE T.v_NUMBERS)) (d_one (d_call c.blk H.f_is_number (fun _ _ => .nil) (da_cons (dpv 4) da_nil))))))) da_nil)))))))
theorem dr_parse_step {P : Program} {w : World} {K : PySem.W.Frag} {mg : Str → Option Value} {base : Heap} {C_CutError C_BadLine : Addr} {n : Nat} (T : Txt P w K mg C_CutError C_BadLine) (H : Hs P w K mg base C_CutError C_BadLine n) {f : Addr} {cdv : Value} {A : Around} {outer : List PySem.Env} {s : Shared} {H0 : Hp} {E : XK} (hr : Room (4 * n + 3) (A.deeper (envOfC "parse_step" (defScope s_parse_step) s.heap.objs.size f cdv))) :
    PSsd (cxOf (L2.CX P w) P w K mg base N_parse_step "parse_step" (defScope s_parse_step) f cdv A outer s H0 E) (Wz K w C_CutError C_BadLine) (fun cls dx _ H' => E cls dx H') (defBody s_parse_step) (B_parse_step (run Tb n)) := by
  have c : Cok (cxOf (L2.CX P w) P w K mg base N_parse_step "parse_step" (defScope s_parse_step) f cdv A outer s H0 E) (Wz K w C_CutError C_BadLine) (fun cls dx _ H' => E cls dx H') n := Cok.of rfl T.ok hr
  unfold B_parse_step
  exact (dss_cons (ds_star c.csu.K c.calm (x_split c.csu (dpv 0) (da_cons d_str da_nil)) (dgs_cons (dg_name (i := 2) sc_parse_step.nd rfl (by first | exact Or.inl rfl | exact Or.inr rfl)) (dgs_star (dg_name (i := 3) sc_parse_step.nd rfl (by first | exact Or.inl rfl | exact Or.inr rfl)))))
    (dss_cons (ds_if (dt_not (xt c.csu (d_call c H.f_is_well_formed (fun _ _ => .nil) (da_cons (dpv 2) (da_cons (dpv 3) da_nil))))) (dss_one (ds_raise1 c (T.xi_BadLine _) rfl (x_int c.csu T.b_int (da_cons (dpv 1) da_nil)))) dss_nil)
    (dss_cons (ds_set (i := 4) sc_parse_step.nd rfl (by first | exact Or.inl rfl | exact Or.inr rfl) (d_call c H.f_token_roles (fun _ _ => .nil) (da_cons (dpv 2) (da_cons (x_len c.csu T.b_len (da_cons (dpv 3) da_nil)) da_nil))))
    (dss_cons (ds_set (i := 5) sc_parse_step.nd rfl (by first | exact Or.inl rfl | exact Or.inr rfl) (pe_frz (f_lc (own := [("role", 7), ("token", 8)]) c.calm sc_parse_step.nd (d_zipI c.csu.K T.b_zip (dpv 4) (dpv 3)) (blkOk_by (own := [("role", 7), ("token", 8)]) (N := N_parse_step) (sc := defScope s_parse_step) (by decide +kernel)) (by decide) (fun _ _ _ _ _ => (dg_tup c.blk.csu.K c.blk.calm (dgs_cons (dg_name (i := 7) sc_parse_step.nd rfl (by first | exact Or.inl rfl | exact Or.inr rfl)) (dgs_cons (dg_name (i := 8) sc_parse_step.nd rfl (by first | exact Or.inl rfl | exact Or.inr rfl)) dgs_nil)))) (fun _ _ _ _ _ => dts_nil) (fun _ _ _ _ _ => (d_if (t_in c.blk.csu (dpv 7) (d_globE T.v_NUMBERS)) (x_int c.blk.csu T.b_int (da_cons (dpv 8) da_nil)) (dpv 8))))))
    (dss_cons (ds_if (t_eq c.csu (dpv 2) d_str) (dss_cons (ds_setLc (i := 6) (own := [("at", 9)]) c.calm sc_parse_step.nd rfl rfl (sw_true rfl rfl rfl (by decide +kernel)) (d_rng3 T.b_range d_int (x_len c.csu T.b_len (da_cons (dpv 5) da_nil)) (x_len c.csu T.b_len (da_cons (d_globE T.v_TEST) da_nil))) (blkOk_by (own := [("at", 9)]) (N := N_parse_step) (sc := defScope s_parse_step) (by decide +kernel)) (by decide) (fun _ _ _ _ _ => (dg_name (i := 9) sc_parse_step.nd rfl (by first | exact Or.inl rfl | exact Or.inr rfl))) (fun _ _ _ _ _ => dts_nil) (fun _ _ _ _ _ => (x_tuple c.blk.csu T.b_tuple (da_cons (x_slice c.blk.csu (dpv 5) (dp_some (dpv 9)) (dp_some (x_add c.blk.csu (dpv 9) (x_len c.blk.csu T.b_len (da_cons (d_globE T.v_TEST) da_nil))))) da_nil))))
    (dss_one (ds_ret (d_tup (da_cons (dpv 2) (da_star c.csu.K (x_slice c.csu (dpv 5) dp_none (dp_some d_int)) (da_cons (x_tuple c.csu T.b_tuple (da_cons (dpv 6) da_nil)) da_nil))))))) dss_nil)
    (dss_cons (ds_if (t_eq c.csu (dpv 2) d_str) (dss_one (ds_ret (d_tup (da_cons (dpv 2) (da_cons (x_ix c.csu (dpv 5) d_int) (da_cons (x_tuple c.csu T.b_tuple (da_cons (x_slice c.csu (dpv 5) (dp_some d_int) dp_none) da_nil)) da_nil)))))) dss_nil)
    (dss_one (ds_ret (d_tup (da_cons (dpv 2) (da_star c.csu.K (dpv 5) da_nil)))))))))))
theorem dr__law_draws {P : Program} {w : World} {K : PySem.W.Frag} {mg : Str → Option Value} {base : Heap} {C_CutError C_BadLine : Addr} {n : Nat} (T : Txt P w K mg C_CutError C_BadLine) (H : Hs P w K mg base C_CutError C_BadLine n) {f : Addr} {cdv : Value} {A : Around} {outer : List PySem.Env} {s : Shared} {H0 : Hp} {E : XK} (hr : Room (4 * n + 3) (A.deeper (envOfC "_law_draws" (defScope s__law_draws) s.heap.objs.size f cdv))) :
    PSsd (cxOf (L2.CX P w) P w K mg base N__law_draws "_law_draws" (defScope s__law_draws) f cdv A outer s H0 E) (Wz K w C_CutError C_BadLine) (fun cls dx _ H' => E cls dx H') (defBody s__law_draws) (B__law_draws (run Tb n)) := by
  have c : Cok (cxOf (L2.CX P w) P w K mg base N__law_draws "_law_draws" (defScope s__law_draws) f cdv A outer s H0 E) (Wz K w C_CutError C_BadLine) (fun cls dx _ H' => E cls dx H') n := Cok.of rfl T.ok hr
  unfold B__law_draws
  exact (dss_cons (ds_set (i := 3) sc__law_draws.nd rfl (by first | exact Or.inl rfl | exact Or.inr rfl) (d_if (t_lt c.csu (dpv 1) (x_len c.csu T.b_len (da_cons (dpv 0) da_nil))) (x_int c.csu T.b_int (da_cons (x_ix c.csu (dpv 0) (dpv 1)) da_nil)) d_int))
    (dss_cons (ds_set (i := 4) sc__law_draws.nd rfl (by first | exact Or.inl rfl | exact Or.inr rfl) (d_if (t_ge c.csu (dpv 3) (x_pow c.csu d_int d_int)) (dpv 3) d_int))
    (dss_cons (ds_own (i := 5) sc__law_draws.nd rfl (by first | exact Or.inl rfl | exact Or.inr rfl) (f_lst da_nil))
    (dss_cons (ds_for c.po c.calm (d_rng1 T.b_range (dpv 2)) (dg_name (i := 6) sc__law_draws.nd rfl (by first | exact Or.inl rfl | exact Or.inr rfl)) (dss_one (ds_if (t_gt c.csu (dpv 4) d_int) (dss_cons (ds_app (dpv 5) (x_mod c.csu (x_int c.csu T.b_int (da_cons (dpv 4) da_nil)) d_int))
    (dss_one (ds_set (i := 4) sc__law_draws.nd rfl (by first | exact Or.inl rfl | exact Or.inr rfl) (x_fdiv c.csu (dpv 4) d_int)))) (dss_cons (ds_set (i := 7) sc__law_draws.nd rfl (by first | exact Or.inl rfl | exact Or.inr rfl) (x_mod c.csu (x_int c.csu T.b_int (da_cons (x_add c.csu (x_add c.csu (x_add c.csu (x_mul c.csu d_int (dpv 3)) (x_mul c.csu d_int (dpv 1))) (x_mul c.csu d_int (dpv 6))) d_int) da_nil)) d_int))
    (dss_one (ds_app (dpv 5) (x_mod c.csu (x_int c.csu T.b_int (da_cons (x_add c.csu (x_add c.csu (x_add c.csu (x_mul c.csu (x_mul c.csu (dpv 7) (dpv 7)) (dpv 7)) (x_mul c.csu d_int (dpv 1))) (x_mul c.csu d_int (dpv 6))) (dpv 3)) da_nil)) d_int)))))))
    (dss_one (ds_ret (dpv 5)))))))
theorem dr__law_token {P : Program} {w : World} {K : PySem.W.Frag} {mg : Str → Option Value} {base : Heap} {C_CutError C_BadLine : Addr} {n : Nat} (T : Txt P w K mg C_CutError C_BadLine) (H : Hs P w K mg base C_CutError C_BadLine n) {f : Addr} {cdv : Value} {A : Around} {outer : List PySem.Env} {s : Shared} {H0 : Hp} {E : XK} (hr : Room (4 * n + 3) (A.deeper (envOfC "_law_token" (defScope s__law_token) s.heap.objs.size f cdv))) :
    PSsd (cxOf (L2.CX P w) P w K mg base N__law_token "_law_token" (defScope s__law_token) f cdv A outer s H0 E) (Wz K w C_CutError C_BadLine) (fun cls dx _ H' => E cls dx H') (defBody s__law_token) (B__law_token (run Tb n)) := by
  have c : Cok (cxOf (L2.CX P w) P w K mg base N__law_token "_law_token" (defScope s__law_token) f cdv A outer s H0 E) (Wz K w C_CutError C_BadLine) (fun cls dx _ H' => E cls dx H') n := Cok.of rfl T.ok hr
  unfold B__law_token
  exact (dss_cons (ds_set (i := 3) sc__law_token.nd rfl (by first | exact Or.inl rfl | exact Or.inr rfl) d_str)
    (dss_one (ds_ret (x_join c.csu d_str (da_cons (pe_frz (f_lc (own := [("_law_k", 4)]) c.calm sc__law_token.nd (d_rng1 T.b_range (x_add c.csu d_int (x_mod c.csu (x_int c.csu T.b_int (da_cons (dpv 2) da_nil)) d_int))) (blkOk_by (own := [("_law_k", 4)]) (N := N__law_token) (sc := defScope s__law_token) (by decide +kernel)) (by decide) (fun _ _ _ _ _ => (dg_name (i := 4) sc__law_token.nd rfl (by first | exact Or.inl rfl | exact Or.inr rfl))) (fun _ _ _ _ _ => dts_nil) (fun _ _ _ _ _ => (x_ix c.blk.csu (dpv 3) (x_mod c.blk.csu (x_int c.blk.csu T.b_int (da_cons (x_add c.blk.csu (dpv 0) (x_mul c.blk.csu (x_mul c.blk.csu d_int (dpv 4)) (dpv 1))) da_nil)) d_int))))) da_nil)))))
theorem dr__law_any_step {P : Program} {w : World} {K : PySem.W.Frag} {mg : Str → Option Value} {base : Heap} {C_CutError C_BadLine : Addr} {n : Nat} (T : Txt P w K mg C_CutError C_BadLine) (H : Hs P w K mg base C_CutError C_BadLine n) {f : Addr} {cdv : Value} {A : Around} {outer : List PySem.Env} {s : Shared} {H0 : Hp} {E : XK} (hr : Room (4 * n + 3) (A.deeper (envOfC "_law_any_step" (defScope s__law_any_step) s.heap.objs.size f cdv))) :
    PSsd (cxOf (L2.CX P w) P w K mg base N__law_any_step "_law_any_step" (defScope s__law_any_step) f cdv A outer s H0 E) (Wz K w C_CutError C_BadLine) (fun cls dx _ H' => E cls dx H') (defBody s__law_any_step) (B__law_any_step (run Tb n)) := by
  have c : Cok (cxOf (L2.CX P w) P w K mg base N__law_any_step "_law_any_step" (defScope s__law_any_step) f cdv A outer s H0 E) (Wz K w C_CutError C_BadLine) (fun cls dx _ H' => E cls dx H') n := Cok.of rfl T.ok hr
  unfold B__law_any_step
  exact (dss_cons (ds_set (i := 1) sc__law_any_step.nd rfl (by first | exact Or.inl rfl | exact Or.inr rfl) (d_call c H.f__law_token (fun _ _ => .nil) (da_cons (x_ix c.csu (dpv 0) d_int) (da_cons (x_ix c.csu (dpv 0) d_int) (da_cons (x_ix c.csu (dpv 0) d_int) da_nil)))))
    (dss_cons (ds_set (i := 2) sc__law_any_step.nd rfl (by first | exact Or.inl rfl | exact Or.inr rfl) (d_call c H.f__law_token (fun _ _ => .nil) (da_cons (x_ix c.csu (dpv 0) d_int) (da_cons (x_ix c.csu (dpv 0) d_int) (da_cons (x_ix c.csu (dpv 0) d_int) da_nil)))))
    (dss_cons (ds_set (i := 3) sc__law_any_step.nd rfl (by first | exact Or.inl rfl | exact Or.inr rfl) (x_mod c.csu (x_ix c.csu (dpv 0) d_int) d_int))
    (dss_cons (ds_if (t_eq c.csu (dpv 3) d_int) (dss_one (ds_ret (d_tup (da_cons d_str (da_cons (dpv 1) (da_cons (x_ix c.csu (dpv 0) d_int) da_nil)))))) dss_nil)
    (dss_cons (ds_if (t_eq c.csu (dpv 3) d_int) (dss_one (ds_ret (d_tup (da_cons d_str (da_cons (x_ix c.csu (dpv 0) d_int) (da_cons (x_ix c.csu (dpv 0) d_int) (da_cons (x_ix c.csu (dpv 0) d_int) da_nil))))))) dss_nil)
    (dss_cons (ds_if (t_eq c.csu (dpv 3) d_int) (dss_one (ds_ret (d_tup (da_cons d_str (da_cons (x_ix c.csu (dpv 0) d_int) (da_cons (x_ix c.csu (dpv 0) d_int) (da_cons (dpv 1) da_nil))))))) dss_nil)
    (dss_cons (ds_if (t_eq c.csu (dpv 3) d_int) (dss_one (ds_ret (d_tup (da_cons d_str (da_cons (x_ix c.csu (dpv 0) d_int) (da_cons (x_ix c.csu (pe_frz (f_lst (da_cons d_str (da_cons d_str (da_cons (dpv 1) da_nil))))) (x_mod c.csu (x_ix c.csu (dpv 0) d_int) d_int)) (da_cons (x_ix c.csu (pe_frz (f_lst (da_cons d_str (da_cons d_str (da_cons d_str (da_cons d_str (da_cons d_str (da_cons (dpv 2) da_nil)))))))) (x_mod c.csu (x_ix c.csu (dpv 0) d_int) d_int)) (da_cons (x_ix c.csu (dpv 0) d_int) da_nil)))))))) dss_nil)
    (dss_cons (ds_if (t_eq c.csu (dpv 3) d_int) (dss_one (ds_ret (d_tup (da_cons d_str (da_cons (x_ix c.csu (dpv 0) d_int) (da_cons (x_ix c.csu (dpv 0) d_int) (da_cons (x_ix c.csu (dpv 0) d_int) da_nil))))))) dss_nil)
    (dss_cons (ds_if (t_eq c.csu (dpv 3) d_int) (dss_cons (ds_set (i := 4) sc__law_any_step.nd rfl (by first | exact Or.inl rfl | exact Or.inr rfl) (pe_frz (f_lst (da_cons (d_tup (da_cons d_str (da_cons d_str (da_cons d_str da_nil)))) (da_cons (d_tup (da_cons (dpv 2) (da_cons (dpv 1) (da_cons (dpv 2) da_nil)))) (da_cons (d_tup (da_cons d_str (da_cons d_str (da_cons d_str da_nil)))) (da_cons (d_tup (da_cons (dpv 1) (da_cons d_str (da_cons d_str da_nil)))) (da_cons (d_tup (da_cons (dpv 2) (da_cons (dpv 2) (da_cons (dpv 1) da_nil)))) da_nil))))))))
    (dss_cons (ds_set (i := 5) sc__law_any_step.nd rfl (by first | exact Or.inl rfl | exact Or.inr rfl) (x_ix c.csu (pe_frz (f_lst (da_cons d_str (da_cons d_str (da_cons d_str (da_cons d_str (da_cons d_str (da_cons (dpv 1) da_nil)))))))) (x_mod c.csu (x_ix c.csu (dpv 0) d_int) d_int)))
    (dss_one (ds_ret (d_tup (da_cons d_str (da_cons (x_ix c.csu (dpv 0) d_int) (da_cons (x_ix c.csu (dpv 0) d_int) (da_cons (dpv 5) (da_cons (x_tuple c.csu T.b_tuple (da_cons (x_slice c.csu (dpv 4) dp_none (dp_some (x_mod c.csu (x_ix c.csu (dpv 0) d_int) d_int))) da_nil)) da_nil)))))))))) dss_nil)
    (dss_cons (ds_if (t_eq c.csu (dpv 3) d_int) (dss_one (ds_ret (d_tup (da_cons d_str (da_cons (x_ix c.csu (dpv 0) d_int) (da_cons (x_ix c.csu (dpv 0) d_int) da_nil)))))) dss_nil)
    (dss_one (ds_ret (d_tup (da_cons d_str (da_cons (x_ix c.csu (dpv 0) d_int) (da_cons (x_tuple c.csu T.b_tuple (da_cons (pe_frz (f_lc (own := [("_law_k", 6)]) c.calm sc__law_any_step.nd (d_rng1 T.b_range (x_add c.csu d_int (x_mod c.csu (x_ix c.csu (dpv 0) d_int) d_int))) (blkOk_by (own := [("_law_k", 6)]) (N := N__law_any_step) (sc := defScope s__law_any_step) (by decide +kernel)) (by decide) (fun _ _ _ _ _ => (dg_name (i := 6) sc__law_any_step.nd rfl (by first | exact Or.inl rfl | exact Or.inr rfl))) (fun _ _ _ _ _ => dts_nil) (fun _ _ _ _ _ => (x_mod c.blk.csu (x_int c.blk.csu T.b_int (da_cons (x_add c.blk.csu (x_ix c.blk.csu (dpv 0) d_int) (x_mul c.blk.csu (dpv 6) (x_ix c.blk.csu (dpv 0) d_int))) da_nil)) d_int)))) da_nil)) da_nil))))))))))))))))
theorem dr__law_line {P : Program} {w : World} {K : PySem.W.Frag} {mg : Str → Option Value} {base : Heap} {C_CutError C_BadLine : Addr} {n : Nat} (T : Txt P w K mg C_CutError C_BadLine) (H : Hs P w K mg base C_CutError C_BadLine n) {f : Addr} {cdv : Value} {A : Around} {outer : List PySem.Env} {s : Shared} {H0 : Hp} {E : XK} (hr : Room (4 * n + 3) (A.deeper (envOfC "_law_line" (defScope s__law_line) s.heap.objs.size f cdv))) :
    PSsd (cxOf (L2.CX P w) P w K mg base N__law_line "_law_line" (defScope s__law_line) f cdv A outer s H0 E) (Wz K w C_CutError C_BadLine) (fun cls dx _ H' => E cls dx H') (defBody s__law_line) (B__law_line (run Tb n)) := by
  have c : Cok (cxOf (L2.CX P w) P w K mg base N__law_line "_law_line" (defScope s__law_line) f cdv A outer s H0 E) (Wz K w C_CutError C_BadLine) (fun cls dx _ H' => E cls dx H') n := Cok.of rfl T.ok hr
  unfold B__law_line
  exact (dss_cons (ds_ownLc (i := 1) (own := [("_law_part", 4)]) c.calm sc__law_line.nd rfl rfl (sw_true rfl rfl rfl (by decide +kernel)) (d_itI c.csu.K (x_slice c.csu (dpv 0) dp_none (dp_some (x_sub c.csu (x_len c.csu T.b_len (da_cons (dpv 0) da_nil)) d_int)))) (blkOk_by (own := [("_law_part", 4)]) (N := N__law_line) (sc := defScope s__law_line) (by decide +kernel)) (by decide) (fun _ _ _ _ _ => (dg_name (i := 4) sc__law_line.nd rfl (by first | exact Or.inl rfl | exact Or.inr rfl))) (fun _ _ _ _ _ => dts_nil) (fun _ _ _ _ _ => (x_str c.blk.csu T.b_str (da_cons (dpv 4) da_nil))))
    (dss_cons (ds_set (i := 2) sc__law_line.nd rfl (by first | exact Or.inl rfl | exact Or.inr rfl) (x_ix c.csu (dpv 0) (x_sub c.csu (x_len c.csu T.b_len (da_cons (dpv 0) da_nil)) d_int)))
    (dss_cons (ds_if (t_eq c.csu (x_ix c.csu (dpv 0) d_int) d_str) (dss_one (ds_set (i := 1) sc__law_line.nd rfl (by first | exact Or.inl rfl | exact Or.inr rfl) (x_add c.csu (dpv 1) (pe_frz (f_lc (own := [("_law_column", 5)]) c.calm sc__law_line.nd (d_itI c.csu.K (dpv 2)) (blkOk_by (own := [("_law_column", 5)]) (N := N__law_line) (sc := defScope s__law_line) (by decide +kernel)) (by decide) (fun _ _ _ _ _ => (dg_name (i := 5) sc__law_line.nd rfl (by first | exact Or.inl rfl | exact Or.inr rfl))) (fun _ _ _ _ _ => dts_nil) (fun _ _ _ _ _ => (x_str c.blk.csu T.b_str (da_cons (dpv 5) da_nil)))))))) (dss_one (ds_if (t_eq c.csu (x_ix c.csu (dpv 0) d_int) d_str) (dss_one (ds_for c.po c.calm (d_itI c.csu.K (dpv 2)) (dg_name (i := 3) sc__law_line.nd rfl (by first | exact Or.inl rfl | exact Or.inr rfl)) (dss_one (ds_set (i := 1) sc__law_line.nd rfl (by first | exact Or.inl rfl | exact Or.inr rfl) (x_add c.csu (dpv 1) (pe_frz (f_lst (da_cons (x_ix c.csu (dpv 3) d_int) (da_cons (x_ix c.csu (dpv 3) d_int) (da_cons (x_ix c.csu (dpv 3) d_int) da_nil)))))))))) (dss_one (ds_app (dpv 1) (x_str c.csu T.b_str (da_cons (dpv 2) da_nil)))))))
    (dss_one (ds_ret (x_join c.csu d_str (da_cons (dpv 1) da_nil)))))))
theorem dr_law {P : Program} {w : World} {K : PySem.W.Frag} {mg : Str → Option Value} {base : Heap} {C_CutError C_BadLine : Addr} {n : Nat} (T : Txt P w K mg C_CutError C_BadLine) (H : Hs P w K mg base C_CutError C_BadLine n) {f : Addr} {cdv : Value} {A : Around} {outer : List PySem.Env} {s : Shared} {H0 : Hp} {E : XK} (hr : Room (4 * n + 3) (A.deeper (envOfC "law" (defScope s_law) s.heap.objs.size f cdv))) (hgd : A.guards = some []) :
    PSsd (cxOf (L2.CX P w) P w K mg base N_law "law" (defScope s_law) f cdv A outer s H0 E) (Wz K w C_CutError C_BadLine) (fun cls dx _ H' => E cls dx H') (defBody s_law) (B_law (run Tb n)) := by
  have c : Cok (cxOf (L2.CX P w) P w K mg base N_law "law" (defScope s_law) f cdv A outer s H0 E) (Wz K w C_CutError C_BadLine) (fun cls dx _ H' => E cls dx H') n := Cok.of rfl T.ok hr
  unfold B_law
  exact (dss_cons (ds_for c.po c.calm (d_rng1 T.b_range d_int) (dg_name (i := 1) sc_law.nd rfl (by first | exact Or.inl rfl | exact Or.inr rfl)) (dss_cons (ds_set (i := 2) sc_law.nd rfl (by first | exact Or.inl rfl | exact Or.inr rfl) (d_call c H.f__law_any_step (fun _ _ => .nil) (da_cons (d_call c H.f__law_draws (fun _ _ => .nil) (da_cons (dpv 0) (da_cons (dpv 1) (da_cons d_int da_nil)))) da_nil)))
    (dss_cons (ds_set (i := 3) sc_law.nd rfl (by first | exact Or.inl rfl | exact Or.inr rfl) (d_call c H.f_format_step (fun _ _ => .nil) (da_cons (dpv 2) da_nil)))
    (dss_cons (ds_if (dt_w (dw_or (dt_not (xt c.csu (x_isi c.csu T.b_isinstance (da_cons (dpv 3) (da_cons (d_ty .str T.b_str (by decide +kernel)) da_nil))))) (dw_or1 (t_ne c.csu (dpv 3) (d_call c H.f__law_line (fun _ _ => .nil) (da_cons (dpv 2) da_nil)))))) (dss_one (ds_ret d_bl)) dss_nil)
    (dss_one (ds_for c.po c.calm (d_itI c.csu.K (pe_frz (f_lst (da_cons (d_call c H.f_parse_step_1 (dd_parse_step_1 _) (da_cons (dpv 3) da_nil)) (da_cons (d_call c H.f_parse_step (fun _ _ => .nil) (da_cons (dpv 3) (da_cons (x_add c.csu d_int (dpv 1)) da_nil))) (da_cons (d_call c H.f_parse_step_1 (dd_parse_step_1 _) (da_cons (dpv 3) da_nil)) da_nil)))))) (dg_name (i := 4) sc_law.nd rfl (by first | exact Or.inl rfl | exact Or.inr rfl)) (dss_one (ds_if (dt_w (dw_or (dt_not (xt c.csu (x_isi c.csu T.b_isinstance (da_cons (dpv 4) (da_cons (d_ty .tuple T.b_tuple (by decide +kernel)) da_nil))))) (dw_or1 (t_nes c.csu (x_repr c.csu hgd T.b_repr (da_cons (dpv 4) da_nil)) (x_repr c.csu hgd T.b_repr (da_cons (dpv 2) da_nil)))))) (dss_one (ds_ret d_bl)) dss_nil))))))))
    (dss_one (ds_ret d_bl)))
theorem all_ok {P : Program} {w : World} {K : PySem.W.Frag} {mg : Str → Option Value} {base : Heap} {C_CutError C_BadLine : Addr} (T : Txt P w K mg C_CutError C_BadLine) : ∀ n, Hs P w K mg base C_CutError C_BadLine n
  | 0 => by
    obtain ⟨f_words_of, fd_words_of, ds_words_of, D_words_of, m_words_of, b_words_of, v_words_of⟩ := T.d_words_of
    obtain ⟨f_token_roles, fd_token_roles, ds_token_roles, D_token_roles, m_token_roles, b_token_roles, v_token_roles⟩ := T.d_token_roles
    obtain ⟨f_is_number, fd_is_number, ds_is_number, D_is_number, m_is_number, b_is_number, v_is_number⟩ := T.d_is_number
    obtain ⟨f_is_well_formed, fd_is_well_formed, ds_is_well_formed, D_is_well_formed, m_is_well_formed, b_is_well_formed, v_is_well_formed⟩ := T.d_is_well_formed
    obtain ⟨f__law_token, fd__law_token, ds__law_token, D__law_token, m__law_token, b__law_token, v__law_token⟩ := T.d__law_token
    obtain ⟨f__law_draws, fd__law_draws, ds__law_draws, D__law_draws, m__law_draws, b__law_draws, v__law_draws⟩ := T.d__law_draws
    obtain ⟨f__law_any_step, fd__law_any_step, ds__law_any_step, D__law_any_step, m__law_any_step, b__law_any_step, v__law_any_step⟩ := T.d__law_any_step
    obtain ⟨f_format_step, fd_format_step, ds_format_step, D_format_step, m_format_step, b_format_step, v_format_step⟩ := T.d_format_step
    obtain ⟨f__law_line, fd__law_line, ds__law_line, D__law_line, m__law_line, b__law_line, v__law_line⟩ := T.d__law_line
    obtain ⟨f_parse_step_1, fd_parse_step_1, ds_parse_step_1, D_parse_step_1, m_parse_step_1, b_parse_step_1, v_parse_step_1⟩ := T.d_parse_step_1
    obtain ⟨f_parse_step, fd_parse_step, ds_parse_step, D_parse_step, m_parse_step, b_parse_step, v_parse_step⟩ := T.d_parse_step
    exact ⟨⟨⟨f_words_of, fd_words_of, _, ds_words_of, fnOk_zero, m_words_of, D_words_of.kp, b_words_of, v_words_of⟩⟩, ⟨⟨f_token_roles, fd_token_roles, _, ds_token_roles, fnOk_zero, m_token_roles, D_token_roles.kp, b_token_roles, v_token_roles⟩⟩, ⟨⟨f_is_number, fd_is_number, _, ds_is_number, fnOk_zero, m_is_number, D_is_number.kp, b_is_number, v_is_number⟩⟩, ⟨⟨f_is_well_formed, fd_is_well_formed, _, ds_is_well_formed, fnOk_zero, m_is_well_formed, D_is_well_formed.kp, b_is_well_formed, v_is_well_formed⟩⟩, ⟨⟨f__law_token, fd__law_token, _, ds__law_token, fnOk_zero, m__law_token, D__law_token.kp, b__law_token, v__law_token⟩⟩, ⟨⟨f__law_draws, fd__law_draws, _, ds__law_draws, fnOk_zero, m__law_draws, D__law_draws.kp, b__law_draws, v__law_draws⟩⟩, ⟨⟨f__law_any_step, fd__law_any_step, _, ds__law_any_step, fnOk_zero, m__law_any_step, D__law_any_step.kp, b__law_any_step, v__law_any_step⟩⟩, ⟨⟨f_format_step, fd_format_step, _, ds_format_step, fnOk_zero, m_format_step, D_format_step.kp, b_format_step, v_format_step⟩⟩, ⟨⟨f__law_line, fd__law_line, _, ds__law_line, fnOk_zero, m__law_line, D__law_line.kp, b__law_line, v__law_line⟩⟩, ⟨⟨f_parse_step_1, fd_parse_step_1, _, ds_parse_step_1, fnOk_zero, m_parse_step_1, D_parse_step_1.kp, b_parse_step_1, v_parse_step_1⟩⟩, ⟨⟨f_parse_step, fd_parse_step, _, ds_parse_step, fnOk_zero, m_parse_step, D_parse_step.kp, b_parse_step, v_parse_step⟩⟩⟩
  | n + 1 => by
    have H := all_ok (base := base) T n
    obtain ⟨f_words_of, fd_words_of, ds_words_of, D_words_of, m_words_of, b_words_of, v_words_of⟩ := T.d_words_of
    obtain ⟨f_token_roles, fd_token_roles, ds_token_roles, D_token_roles, m_token_roles, b_token_roles, v_token_roles⟩ := T.d_token_roles
    obtain ⟨f_is_number, fd_is_number, ds_is_number, D_is_number, m_is_number, b_is_number, v_is_number⟩ := T.d_is_number
    obtain ⟨f_is_well_formed, fd_is_well_formed, ds_is_well_formed, D_is_well_formed, m_is_well_formed, b_is_well_formed, v_is_well_formed⟩ := T.d_is_well_formed
    obtain ⟨f__law_token, fd__law_token, ds__law_token, D__law_token, m__law_token, b__law_token, v__law_token⟩ := T.d__law_token
    obtain ⟨f__law_draws, fd__law_draws, ds__law_draws, D__law_draws, m__law_draws, b__law_draws, v__law_draws⟩ := T.d__law_draws
    obtain ⟨f__law_any_step, fd__law_any_step, ds__law_any_step, D__law_any_step, m__law_any_step, b__law_any_step, v__law_any_step⟩ := T.d__law_any_step
    obtain ⟨f_format_step, fd_format_step, ds_format_step, D_format_step, m_format_step, b_format_step, v_format_step⟩ := T.d_format_step
    obtain ⟨f__law_line, fd__law_line, ds__law_line, D__law_line, m__law_line, b__law_line, v__law_line⟩ := T.d__law_line
    obtain ⟨f_parse_step_1, fd_parse_step_1, ds_parse_step_1, D_parse_step_1, m_parse_step_1, b_parse_step_1, v_parse_step_1⟩ := T.d_parse_step_1
    obtain ⟨f_parse_step, fd_parse_step, ds_parse_step, D_parse_step, m_parse_step, b_parse_step, v_parse_step⟩ := T.d_parse_step
    exact ⟨⟨⟨f_words_of, fd_words_of, _, ds_words_of, fnD_ok D_words_of sc_words_of (F := ⟨1, 3, B_words_of⟩) rfl rfl rfl (fun cdv A outer s H0 E hr => dr_words_of T H hr), m_words_of, D_words_of.kp, b_words_of, v_words_of⟩⟩, ⟨⟨f_token_roles, fd_token_roles, _, ds_token_roles, fnD_ok D_token_roles sc_token_roles (F := ⟨2, 5, B_token_roles⟩) rfl rfl rfl (fun cdv A outer s H0 E hr => dr_token_roles T H hr), m_token_roles, D_token_roles.kp, b_token_roles, v_token_roles⟩⟩, ⟨⟨f_is_number, fd_is_number, _, ds_is_number, fnD_ok D_is_number sc_is_number (F := ⟨1, 2, B_is_number⟩) rfl rfl rfl (fun cdv A outer s H0 E hr => dr_is_number T H hr), m_is_number, D_is_number.kp, b_is_number, v_is_number⟩⟩, ⟨⟨f_is_well_formed, fd_is_well_formed, _, ds_is_well_formed, fnD_ok D_is_well_formed sc_is_well_formed (F := ⟨2, 5, B_is_well_formed⟩) rfl rfl rfl (fun cdv A outer s H0 E hr => dr_is_well_formed T H hr), m_is_well_formed, D_is_well_formed.kp, b_is_well_formed, v_is_well_formed⟩⟩, ⟨⟨f__law_token, fd__law_token, _, ds__law_token, fnD_ok D__law_token sc__law_token (F := ⟨3, 5, B__law_token⟩) rfl rfl rfl (fun cdv A outer s H0 E hr => dr__law_token T H hr), m__law_token, D__law_token.kp, b__law_token, v__law_token⟩⟩, ⟨⟨f__law_draws, fd__law_draws, _, ds__law_draws, fnD_ok D__law_draws sc__law_draws (F := ⟨3, 8, B__law_draws⟩) rfl rfl rfl (fun cdv A outer s H0 E hr => dr__law_draws T H hr), m__law_draws, D__law_draws.kp, b__law_draws, v__law_draws⟩⟩, ⟨⟨f__law_any_step, fd__law_any_step, _, ds__law_any_step, fnD_ok D__law_any_step sc__law_any_step (F := ⟨1, 7, B__law_any_step⟩) rfl rfl rfl (fun cdv A outer s H0 E hr => dr__law_any_step T H hr), m__law_any_step, D__law_any_step.kp, b__law_any_step, v__law_any_step⟩⟩, ⟨⟨f_format_step, fd_format_step, _, ds_format_step, fnD_ok D_format_step sc_format_step (F := ⟨1, 1, B_format_step⟩) rfl rfl rfl (fun cdv A outer s H0 E hr => dr_format_step T H hr), m_format_step, D_format_step.kp, b_format_step, v_format_step⟩⟩, ⟨⟨f__law_line, fd__law_line, _, ds__law_line, fnD_ok D__law_line sc__law_line (F := ⟨1, 6, B__law_line⟩) rfl rfl rfl (fun cdv A outer s H0 E hr => dr__law_line T H hr), m__law_line, D__law_line.kp, b__law_line, v__law_line⟩⟩, ⟨⟨f_parse_step_1, fd_parse_step_1, _, ds_parse_step_1, fnD_ok D_parse_step_1 sc_parse_step (F := ⟨2, 10, B_parse_step⟩) rfl rfl rfl (fun cdv A outer s H0 E hr => dr_parse_step T H hr), m_parse_step_1, D_parse_step_1.kp, b_parse_step_1, v_parse_step_1⟩⟩, ⟨⟨f_parse_step, fd_parse_step, _, ds_parse_step, fnD_ok D_parse_step sc_parse_step (F := ⟨2, 10, B_parse_step⟩) rfl rfl rfl (fun cdv A outer s H0 E hr => dr_parse_step T H hr), m_parse_step, D_parse_step.kp, b_parse_step, v_parse_step⟩⟩⟩
theorem law_ok {P : Program} {w : World} {K : PySem.W.Frag} {mg : Str → Option Value} {base : Heap} {C_CutError C_BadLine : Addr} (T : Txt P w K mg C_CutError C_BadLine) {f : Addr} {fd : FuncData} (hD : FunD K "law" "law" (defArgs s_law) (defBody s_law) (defScope s_law) [] [] f fd) (hb : ∀ (s : Shared) (u : Value), BindsTo s fd ⟨[u], []⟩ [("_law_script", u)]) {H : Hp} {s : Shared} {a : Addr} {ns : List Int} (hn : ns.length ≤ 63) (e0 : Env0 P w K mg base callerA [] s H) (hS : SqL K H a (ns.map V.int)) :
    codeAny (model P w) callerA (.call (.ref f) ⟨[.ref a], []⟩) (CR (L2.CX P w) [] P w H s (fun v _ => v = .bl true) fun _ _ _ => False) s :=
  grd_of (n := 10) (T := Tb) (g := 10) (W := (Wz K w C_CutError C_BadLine)) rfl hD sc_law (F := ⟨1, 5, B_law⟩) rfl rfl rfl ⟨rfl, by decide, by decide⟩ (fun ns h => law_run ns h) (fun cdv outer s H0 E hr => dr_law T (all_ok T _) hr rfl) hb hn e0 hS
theorem all_mk {l : PySem.W.OpenLaw} {w : World} {K : PySem.W.Frag} {h : Heap} {mg : Str → Option Value} {fa : Addr} {C_CutError C_BadLine : Addr}
    {fI_BadLine cc_BadLine cda_BadLine N_BadLine : Addr} {oc_BadLine kV_BadLine dc_BadLine pm_BadLine ct_BadLine cl_BadLine ccl_BadLine : Value} {od_BadLine an_BadLine cld_BadLine cdd_BadLine dd_BadLine : Option Addr} {osl_BadLine csl_BadLine ccs_BadLine : Array (Option Value)} {vs_BadLine : Array Value} {file_BadLine nm_BadLine q_BadLine : Str} {tf_BadLine : Tok} {bs_BadLine bm_BadLine sub_BadLine : List Value} {sn_BadLine : List Str} {ab_BadLine : Bool} {col_BadLine : Option Bool} {k0_BadLine k1_BadLine k2_BadLine k3_BadLine k5_BadLine : Option Value}
    {tk_DIGITS : Tok}
    {a_KINDS_0 : Addr} {es_KINDS_0 : Array DictEntry} {m_KINDS_0 : Nat}
    {a_KINDS_1 : Addr} {od_KINDS_1 : Option Addr} {its_KINDS_1 : Array Value} {m_KINDS_1 : Nat} {sl_KINDS_1 : Array (Option Value)}
    {a_KINDS_2 : Addr} {od_KINDS_2 : Option Addr} {its_KINDS_2 : Array Value} {m_KINDS_2 : Nat} {sl_KINDS_2 : Array (Option Value)}
    {a_KINDS_3 : Addr} {od_KINDS_3 : Option Addr} {its_KINDS_3 : Array Value} {m_KINDS_3 : Nat} {sl_KINDS_3 : Array (Option Value)}
    {a_KINDS_4 : Addr} {od_KINDS_4 : Option Addr} {its_KINDS_4 : Array Value} {m_KINDS_4 : Nat} {sl_KINDS_4 : Array (Option Value)}
    {a_KINDS_5 : Addr} {od_KINDS_5 : Option Addr} {its_KINDS_5 : Array Value} {m_KINDS_5 : Nat} {sl_KINDS_5 : Array (Option Value)}
    {a_KINDS_6 : Addr} {od_KINDS_6 : Option Addr} {its_KINDS_6 : Array Value} {m_KINDS_6 : Nat} {sl_KINDS_6 : Array (Option Value)}
    {a_KINDS_7 : Addr} {od_KINDS_7 : Option Addr} {its_KINDS_7 : Array Value} {m_KINDS_7 : Nat} {sl_KINDS_7 : Array (Option Value)}
    {a_KINDS_8 : Addr} {od_KINDS_8 : Option Addr} {its_KINDS_8 : Array Value} {m_KINDS_8 : Nat} {sl_KINDS_8 : Array (Option Value)}
    {a_TEST_9 : Addr} {od_TEST_9 : Option Addr} {its_TEST_9 : Array Value} {m_TEST_9 : Nat} {sl_TEST_9 : Array (Option Value)}
    {a_NUMBERS_10 : Addr} {od_NUMBERS_10 : Option Addr} {its_NUMBERS_10 : Array Value} {m_NUMBERS_10 : Nat} {sl_NUMBERS_10 : Array (Option Value)}
    {f_words_of : Addr} {od_words_of an_words_of : Option Addr} {sl_words_of : Array (Option Value)} {oc_words_of kV_words_of dc_words_of pm_words_of cd_words_of ct_words_of : Value}
    {f_format_step : Addr} {od_format_step an_format_step : Option Addr} {sl_format_step : Array (Option Value)} {oc_format_step kV_format_step dc_format_step pm_format_step cd_format_step ct_format_step : Value}
    {f_is_number : Addr} {od_is_number an_is_number : Option Addr} {sl_is_number : Array (Option Value)} {oc_is_number kV_is_number dc_is_number pm_is_number cd_is_number ct_is_number : Value}
    {f_token_roles : Addr} {od_token_roles an_token_roles : Option Addr} {sl_token_roles : Array (Option Value)} {oc_token_roles kV_token_roles dc_token_roles pm_token_roles cd_token_roles ct_token_roles : Value}
    {f_is_well_formed : Addr} {od_is_well_formed an_is_well_formed : Option Addr} {sl_is_well_formed : Array (Option Value)} {oc_is_well_formed kV_is_well_formed dc_is_well_formed pm_is_well_formed cd_is_well_formed ct_is_well_formed : Value}
    {f_parse_step : Addr} {od_parse_step an_parse_step : Option Addr} {sl_parse_step : Array (Option Value)} {oc_parse_step kV_parse_step dc_parse_step pm_parse_step cd_parse_step ct_parse_step : Value}
    {dt_parse_step : Addr} {do_parse_step : Option Addr} {di_parse_step : List Value} {dn_parse_step : Nat} {ds_parse_step : Array (Option Value)}
    {f__law_draws : Addr} {od__law_draws an__law_draws : Option Addr} {sl__law_draws : Array (Option Value)} {oc__law_draws kV__law_draws dc__law_draws pm__law_draws cd__law_draws ct__law_draws : Value}
    {f__law_token : Addr} {od__law_token an__law_token : Option Addr} {sl__law_token : Array (Option Value)} {oc__law_token kV__law_token dc__law_token pm__law_token cd__law_token ct__law_token : Value}
    {f__law_any_step : Addr} {od__law_any_step an__law_any_step : Option Addr} {sl__law_any_step : Array (Option Value)} {oc__law_any_step kV__law_any_step dc__law_any_step pm__law_any_step cd__law_any_step ct__law_any_step : Value}
    {f__law_line : Addr} {od__law_line an__law_line : Option Addr} {sl__law_line : Array (Option Value)} {oc__law_line kV__law_line dc__law_line pm__law_line cd__law_line ct__law_line : Value}
    {f_law : Addr} {od_law an_law : Option Addr} {sl_law : Array (Option Value)} {oc_law kV_law dc_law pm_law cd_law ct_law : Value}
    (X : K.In h) (G : h.Ns mainGlobals mg) (hfa : mg "law" = some (.ref fa))
    (g_CutError : PySem.W.nsIn K mainGlobals "CutError" = some (some (.ref C_CutError)))
    (g_BadLine : PySem.W.nsIn K mainGlobals "BadLine" = some (some (.ref C_BadLine)))
    (sb_CutError : PySem.W.subIn K (.ref C_CutError) (.type "BaseException") = some true)
    (ty_CutError : PySem.W.typeIn K (.ref C_CutError) = some (.type "type"))
    (q4_CutError : PySem.W.hasDictIn K C_CutError = true)
    (q1_CutError : PySem.W.findIn K (.ref C_CutError) "__getattribute__" = some (some (.builtin "BaseException.__getattribute__")))
    (q2_CutError : PySem.W.findIn K (.ref C_CutError) "__getattr__" = some none)
    (q5_CutError : PySem.W.findIn K (.ref C_CutError) "__class__" = some (some (.builtin "object.__class__")))
    (q8_CutError : PySem.W.mroIn K C_CutError (.type "object") = some true)
    (ve_CutError : PySem.W.subIn K (.ref C_CutError) (.type "ValueError") = some true)
    (s_CutError_CutError : PySem.W.subIn K (.ref C_CutError) (.ref C_CutError) = some true)
    (s_CutError_BadLine : PySem.W.subIn K (.ref C_CutError) (.ref C_BadLine) = some false)
    (sb_BadLine : PySem.W.subIn K (.ref C_BadLine) (.type "BaseException") = some true)
    (ty_BadLine : PySem.W.typeIn K (.ref C_BadLine) = some (.type "type"))
    (q4_BadLine : PySem.W.hasDictIn K C_BadLine = true)
    (q1_BadLine : PySem.W.findIn K (.ref C_BadLine) "__getattribute__" = some (some (.builtin "BaseException.__getattribute__")))
    (q2_BadLine : PySem.W.findIn K (.ref C_BadLine) "__getattr__" = some none)
    (q5_BadLine : PySem.W.findIn K (.ref C_BadLine) "__class__" = some (some (.builtin "object.__class__")))
    (q8_BadLine : PySem.W.mroIn K C_BadLine (.type "object") = some true)
    (ve_BadLine : PySem.W.subIn K (.ref C_BadLine) (.type "ValueError") = some true)
    (s_BadLine_CutError : PySem.W.subIn K (.ref C_BadLine) (.ref C_CutError) = some true)
    (s_BadLine_BadLine : PySem.W.subIn K (.ref C_BadLine) (.ref C_BadLine) = some true)
    (nf_BadLine_number : PySem.W.findIn K (.ref C_BadLine) "number" = some none)
    (kp_BadLine : PySem.W.keepIn K (.ref C_BadLine) = true)
    (q6 : PySem.W.specialIn K (.builtin "object.__class__") "__get__" = some (some (.builtin "getset_descriptor.__get__")))
    (q7 : PySem.W.takesIn K (.builtin "object.__class__") = some true)
    (cls_BadLine : K.lookup C_BadLine = some (excClassObj nm_BadLine q_BadLine C_BadLine N_BadLine bs_BadLine bm_BadLine true sn_BadLine sub_BadLine ab_BadLine col_BadLine dd_BadLine k0_BadLine k1_BadLine k2_BadLine k3_BadLine k5_BadLine "ValueError.__new__"))
    (rf_BadLine : PySem.HandSPX.refsVE bm_BadLine = true)
    (sa_BadLine : PySem.W.findIn K (.ref C_BadLine) "__setattr__" = some (some (.builtin "object.__setattr__")))
    (in_BadLine : PySem.W.findIn K (.ref C_BadLine) "__init__" = some (some (.ref fI_BadLine)))
    (ti_BadLine : PySem.W.typeIn K (.ref fI_BadLine) = some (.type "function"))
    (li_BadLine : K.lookup fI_BadLine = some ⟨oc_BadLine, od_BadLine, .func (PySem.W.ksFn "__init__" "BadLine.__init__" (defArgs s_BadLine___init__) (defBody s_BadLine___init__) (defScope s_BadLine___init__) .none kV_BadLine dc_BadLine pm_BadLine an_BadLine (.ref cda_BadLine) ct_BadLine cc_BadLine), osl_BadLine⟩)
    (ci_BadLine : PySem.W.codeIn K (.ref cda_BadLine) "BadLine.__init__" = true)
    (ce_BadLine : K.lookup cc_BadLine = some ⟨cl_BadLine, cld_BadLine, .cell (some (.ref C_BadLine)), csl_BadLine⟩)
    (cd_BadLine : K.lookup cda_BadLine = some ⟨ccl_BadLine, cdd_BadLine, .fields vs_BadLine, ccs_BadLine⟩)
    (fl_BadLine : vs_BadLine[2]? = some (.str file_BadLine tf_BadLine))
    (fe_BadLine : ((l.prog.main.file : Str) == file_BadLine) = true)
    (su_BadLine : PySem.W.ks_superIn K C_BadLine C_BadLine "__init__" = some (some (.builtin "ValueError.__init__")))
    (ms_BadLine : PySem.W.mroIn K C_BadLine (.ref C_BadLine) = some true)
    (zsup : PySem.W.nsIn K mainGlobals "super" = some none)
    (any0 : PySem.W.nsIn K cStatics "thirdparty.any" = some none)
    (top0 : (l.prog.main.scope.names.lookup ("super" : Str)).isSome = false)
    (z_tuple : PySem.W.nsIn K mainGlobals "tuple" = some none)
    (z_isinstance : PySem.W.nsIn K mainGlobals "isinstance" = some none)
    (z_str : PySem.W.nsIn K mainGlobals "str" = some none)
    (z_len : PySem.W.nsIn K mainGlobals "len" = some none)
    (z_all : PySem.W.nsIn K mainGlobals "all" = some none)
    (z_list : PySem.W.nsIn K mainGlobals "list" = some none)
    (z_zip : PySem.W.nsIn K mainGlobals "zip" = some none)
    (z_int : PySem.W.nsIn K mainGlobals "int" = some none)
    (z_range : PySem.W.nsIn K mainGlobals "range" = some none)
    (z_repr : PySem.W.nsIn K mainGlobals "repr" = some none)
    (gv_DIGITS : PySem.W.nsIn K mainGlobals "DIGITS" = some (some (.str "0123456789" tk_DIGITS)))
    (gv_KINDS : PySem.W.nsIn K mainGlobals "KINDS" = some (some (.ref a_KINDS_0)))
    (lt_KINDS_0 : K.lookup a_KINDS_0 = some ⟨.type "dict", none, .dict es_KINDS_0 m_KINDS_0, #[]⟩)
    (kt_KINDS_0 : PySem.W.KeysLit w.params es_KINDS_0.toList)
    (lo_KINDS_0 : (a_KINDS_0 == sysModules) = false)
    (et_KINDS_0 : KEnt es_KINDS_0.toList ["table", "same", "is", "when", "clip", "pair", "union", "keep"] [.ref a_KINDS_1, .ref a_KINDS_2, .ref a_KINDS_3, .ref a_KINDS_4, .ref a_KINDS_5, .ref a_KINDS_6, .ref a_KINDS_7, .ref a_KINDS_8])
    (lt_KINDS_1 : K.lookup a_KINDS_1 = some ⟨.type "tuple", od_KINDS_1, .seq its_KINDS_1 m_KINDS_1, sl_KINDS_1⟩)
    (vt_KINDS_1 : Vals [.str "name", .str "size"] its_KINDS_1.toList)
    (lt_KINDS_2 : K.lookup a_KINDS_2 = some ⟨.type "tuple", od_KINDS_2, .seq its_KINDS_2 m_KINDS_2, sl_KINDS_2⟩)
    (vt_KINDS_2 : Vals [.str "step", .str "column", .str "column"] its_KINDS_2.toList)
    (lt_KINDS_3 : K.lookup a_KINDS_3 = some ⟨.type "tuple", od_KINDS_3, .seq its_KINDS_3 m_KINDS_3, sl_KINDS_3⟩)
    (vt_KINDS_3 : Vals [.str "step", .str "column", .str "word"] its_KINDS_3.toList)
    (lt_KINDS_4 : K.lookup a_KINDS_4 = some ⟨.type "tuple", od_KINDS_4, .seq its_KINDS_4 m_KINDS_4, sl_KINDS_4⟩)
    (vt_KINDS_4 : Vals [.str "step", .str "end", .str "operator", .str "mark"] its_KINDS_4.toList)
    (lt_KINDS_5 : K.lookup a_KINDS_5 = some ⟨.type "tuple", od_KINDS_5, .seq its_KINDS_5 m_KINDS_5, sl_KINDS_5⟩)
    (vt_KINDS_5 : Vals [.str "step", .str "mark", .str "mark"] its_KINDS_5.toList)
    (lt_KINDS_6 : K.lookup a_KINDS_6 = some ⟨.type "tuple", od_KINDS_6, .seq its_KINDS_6 m_KINDS_6, sl_KINDS_6⟩)
    (vt_KINDS_6 : Vals [.str "step", .str "step", .str "span", .str "tests"] its_KINDS_6.toList)
    (lt_KINDS_7 : K.lookup a_KINDS_7 = some ⟨.type "tuple", od_KINDS_7, .seq its_KINDS_7 m_KINDS_7, sl_KINDS_7⟩)
    (vt_KINDS_7 : Vals [.str "step", .str "step"] its_KINDS_7.toList)
    (lt_KINDS_8 : K.lookup a_KINDS_8 = some ⟨.type "tuple", od_KINDS_8, .seq its_KINDS_8 m_KINDS_8, sl_KINDS_8⟩)
    (vt_KINDS_8 : Vals [.str "step", .str "columns"] its_KINDS_8.toList)
    (gv_TEST : PySem.W.nsIn K mainGlobals "TEST" = some (some (.ref a_TEST_9)))
    (lt_TEST_9 : K.lookup a_TEST_9 = some ⟨.type "tuple", od_TEST_9, .seq its_TEST_9 m_TEST_9, sl_TEST_9⟩)
    (vt_TEST_9 : Vals [.str "end", .str "operator", .str "end"] its_TEST_9.toList)
    (gv_NUMBERS : PySem.W.nsIn K mainGlobals "NUMBERS" = some (some (.ref a_NUMBERS_10)))
    (lt_NUMBERS_10 : K.lookup a_NUMBERS_10 = some ⟨.type "tuple", od_NUMBERS_10, .seq its_NUMBERS_10 m_NUMBERS_10, sl_NUMBERS_10⟩)
    (vt_NUMBERS_10 : Vals [.str "step", .str "column", .str "mark", .str "size"] its_NUMBERS_10.toList)
    (a_words_of : PySem.W.nsIn K mainGlobals "words_of" = some (some (.ref f_words_of)))
    (l_words_of : K.lookup f_words_of = some ⟨oc_words_of, od_words_of, .func (PySem.W.fnOf "words_of" "words_of" (defArgs s_words_of) (defBody s_words_of) (defScope s_words_of) .none kV_words_of dc_words_of pm_words_of an_words_of cd_words_of ct_words_of), sl_words_of⟩)
    (c_words_of : PySem.W.codeIn K cd_words_of "words_of" = true)
    (k_words_of : PySem.W.keepIn K (.ref f_words_of) = true)
    (a_format_step : PySem.W.nsIn K mainGlobals "format_step" = some (some (.ref f_format_step)))
    (l_format_step : K.lookup f_format_step = some ⟨oc_format_step, od_format_step, .func (PySem.W.fnOf "format_step" "format_step" (defArgs s_format_step) (defBody s_format_step) (defScope s_format_step) .none kV_format_step dc_format_step pm_format_step an_format_step cd_format_step ct_format_step), sl_format_step⟩)
    (c_format_step : PySem.W.codeIn K cd_format_step "format_step" = true)
    (k_format_step : PySem.W.keepIn K (.ref f_format_step) = true)
    (a_is_number : PySem.W.nsIn K mainGlobals "is_number" = some (some (.ref f_is_number)))
    (l_is_number : K.lookup f_is_number = some ⟨oc_is_number, od_is_number, .func (PySem.W.fnOf "is_number" "is_number" (defArgs s_is_number) (defBody s_is_number) (defScope s_is_number) .none kV_is_number dc_is_number pm_is_number an_is_number cd_is_number ct_is_number), sl_is_number⟩)
    (c_is_number : PySem.W.codeIn K cd_is_number "is_number" = true)
    (k_is_number : PySem.W.keepIn K (.ref f_is_number) = true)
    (a_token_roles : PySem.W.nsIn K mainGlobals "token_roles" = some (some (.ref f_token_roles)))
    (l_token_roles : K.lookup f_token_roles = some ⟨oc_token_roles, od_token_roles, .func (PySem.W.fnOf "token_roles" "token_roles" (defArgs s_token_roles) (defBody s_token_roles) (defScope s_token_roles) .none kV_token_roles dc_token_roles pm_token_roles an_token_roles cd_token_roles ct_token_roles), sl_token_roles⟩)
    (c_token_roles : PySem.W.codeIn K cd_token_roles "token_roles" = true)
    (k_token_roles : PySem.W.keepIn K (.ref f_token_roles) = true)
    (a_is_well_formed : PySem.W.nsIn K mainGlobals "is_well_formed" = some (some (.ref f_is_well_formed)))
    (l_is_well_formed : K.lookup f_is_well_formed = some ⟨oc_is_well_formed, od_is_well_formed, .func (PySem.W.fnOf "is_well_formed" "is_well_formed" (defArgs s_is_well_formed) (defBody s_is_well_formed) (defScope s_is_well_formed) .none kV_is_well_formed dc_is_well_formed pm_is_well_formed an_is_well_formed cd_is_well_formed ct_is_well_formed), sl_is_well_formed⟩)
    (c_is_well_formed : PySem.W.codeIn K cd_is_well_formed "is_well_formed" = true)
    (k_is_well_formed : PySem.W.keepIn K (.ref f_is_well_formed) = true)
    (a_parse_step : PySem.W.nsIn K mainGlobals "parse_step" = some (some (.ref f_parse_step)))
    (l_parse_step : K.lookup f_parse_step = some ⟨oc_parse_step, od_parse_step, .func (PySem.W.fnOf "parse_step" "parse_step" (defArgs s_parse_step) (defBody s_parse_step) (defScope s_parse_step) (.ref dt_parse_step) kV_parse_step dc_parse_step pm_parse_step an_parse_step cd_parse_step ct_parse_step), sl_parse_step⟩)
    (c_parse_step : PySem.W.codeIn K cd_parse_step "parse_step" = true)
    (k_parse_step : PySem.W.keepIn K (.ref f_parse_step) = true)
    (dl_parse_step : K.lookup dt_parse_step = some ⟨.type "tuple", do_parse_step, .seq di_parse_step.toArray dn_parse_step, ds_parse_step⟩)
    (dv_parse_step : Vals [.int 1] di_parse_step)
    (a__law_draws : PySem.W.nsIn K mainGlobals "_law_draws" = some (some (.ref f__law_draws)))
    (l__law_draws : K.lookup f__law_draws = some ⟨oc__law_draws, od__law_draws, .func (PySem.W.fnOf "_law_draws" "_law_draws" (defArgs s__law_draws) (defBody s__law_draws) (defScope s__law_draws) .none kV__law_draws dc__law_draws pm__law_draws an__law_draws cd__law_draws ct__law_draws), sl__law_draws⟩)
    (c__law_draws : PySem.W.codeIn K cd__law_draws "_law_draws" = true)
    (k__law_draws : PySem.W.keepIn K (.ref f__law_draws) = true)
    (a__law_token : PySem.W.nsIn K mainGlobals "_law_token" = some (some (.ref f__law_token)))
    (l__law_token : K.lookup f__law_token = some ⟨oc__law_token, od__law_token, .func (PySem.W.fnOf "_law_token" "_law_token" (defArgs s__law_token) (defBody s__law_token) (defScope s__law_token) .none kV__law_token dc__law_token pm__law_token an__law_token cd__law_token ct__law_token), sl__law_token⟩)
    (c__law_token : PySem.W.codeIn K cd__law_token "_law_token" = true)
    (k__law_token : PySem.W.keepIn K (.ref f__law_token) = true)
    (a__law_any_step : PySem.W.nsIn K mainGlobals "_law_any_step" = some (some (.ref f__law_any_step)))
    (l__law_any_step : K.lookup f__law_any_step = some ⟨oc__law_any_step, od__law_any_step, .func (PySem.W.fnOf "_law_any_step" "_law_any_step" (defArgs s__law_any_step) (defBody s__law_any_step) (defScope s__law_any_step) .none kV__law_any_step dc__law_any_step pm__law_any_step an__law_any_step cd__law_any_step ct__law_any_step), sl__law_any_step⟩)
    (c__law_any_step : PySem.W.codeIn K cd__law_any_step "_law_any_step" = true)
    (k__law_any_step : PySem.W.keepIn K (.ref f__law_any_step) = true)
    (a__law_line : PySem.W.nsIn K mainGlobals "_law_line" = some (some (.ref f__law_line)))
    (l__law_line : K.lookup f__law_line = some ⟨oc__law_line, od__law_line, .func (PySem.W.fnOf "_law_line" "_law_line" (defArgs s__law_line) (defBody s__law_line) (defScope s__law_line) .none kV__law_line dc__law_line pm__law_line an__law_line cd__law_line ct__law_line), sl__law_line⟩)
    (c__law_line : PySem.W.codeIn K cd__law_line "_law_line" = true)
    (k__law_line : PySem.W.keepIn K (.ref f__law_line) = true)
    (a_law : PySem.W.nsIn K mainGlobals "law" = some (some (.ref f_law)))
    (l_law : K.lookup f_law = some ⟨oc_law, od_law, .func (PySem.W.fnOf "law" "law" (defArgs s_law) (defBody s_law) (defScope s_law) .none kV_law dc_law pm_law an_law cd_law ct_law), sl_law⟩)
    (c_law : PySem.W.codeIn K cd_law "law" = true)
    (k_law : PySem.W.keepIn K (.ref f_law) = true)
    : ∀ (base : Heap) (H : Hp) (s : Shared) (a : Addr) (ns : List Int), ns.length ≤ 63 → K.In base → base.Ns mainGlobals mg → Env0 l.prog w K mg base callerA [] s H → SqL K H a (ns.map V.int) → codeAny (model l.prog w) callerA (.call (.ref fa) ⟨[.ref a], []⟩) (CR (L2.CX l.prog w) [] l.prog w H s (fun v _ => v = .bl true) fun _ _ _ => False) s := by
  have e := hfa.symm.trans (PySem.W.mg_of X G a_law)
  cases e
  have ok : WOk (Wz K w C_CutError C_BadLine) := by
    refine ⟨?_, ?_, ?_, ?_, ?_⟩
    · exact fun c hc => match c, hc with | 0, hc => Bool.noConfusion hc | 1, hc => Bool.noConfusion hc | _ + 2, hc => Bool.noConfusion hc
    · intro c d hc hd
      match c, d, hc, hd with
      | 0, 0, _, _ => exact PySem.W.exm_ref sb_CutError q4_CutError ty_CutError s_CutError_CutError
      | 0, 1, _, _ => exact PySem.W.exm_ref sb_BadLine q4_BadLine ty_BadLine s_CutError_BadLine
      | 0, _ + 2, _, hd => exact Bool.noConfusion hd
      | 1, 0, _, _ => exact PySem.W.exm_ref sb_CutError q4_CutError ty_CutError s_BadLine_CutError
      | 1, 1, _, _ => exact PySem.W.exm_ref sb_BadLine q4_BadLine ty_BadLine s_BadLine_BadLine
      | 1, _ + 2, _, hd => exact Bool.noConfusion hd
      | _ + 2, _, hc, _ => exact Bool.noConfusion hc
    · intro c d hc hd
      match c, d, hc, hd with
      | 0, 0, _, _ => exact kit_ref2 s_CutError_CutError s_CutError_CutError q4_CutError ty_CutError
      | 0, 1, _, _ => exact kit_ref2 s_CutError_BadLine s_BadLine_BadLine q4_BadLine ty_BadLine
      | 0, _ + 2, _, hd => exact Bool.noConfusion hd
      | 1, 0, _, _ => exact kit_ref2 s_BadLine_CutError s_CutError_CutError q4_CutError ty_CutError
      | 1, 1, _, _ => exact kit_ref2 s_BadLine_BadLine s_BadLine_BadLine q4_BadLine ty_BadLine
      | 1, _ + 2, _, hd => exact Bool.noConfusion hd
      | _ + 2, _, hc, _ => exact Bool.noConfusion hc
    · exact fun c hc => match c, hc with | 0, hc => kit_own ve_CutError | 1, hc => kit_own ve_BadLine | _ + 2, hc => Bool.noConfusion hc
    · exact fun c hc => match c, hc with | 0, hc => ⟨⟨q1_CutError, q2_CutError, sb_CutError, q4_CutError, q5_CutError, q6, q7, q8_CutError⟩, fun f hf => (fun z => (List.not_mem_nil z).elim) hf⟩ | 1, hc => ⟨⟨q1_BadLine, q2_BadLine, sb_BadLine, q4_BadLine, q5_BadLine, q6, q7, q8_BadLine⟩, fun f hf => (fun z => (List.mem_cons.mp z).elim (fun z => z ▸ nf_BadLine_number) (fun z => (List.not_mem_nil z).elim)) hf⟩ | _ + 2, hc => Bool.noConfusion hc
  have T_BadLine : OexC K C_BadLine := ⟨⟨_, _, _, _, _, _, _, _, _, _, _, _, _, _, _, cls_BadLine, rf_BadLine⟩, sa_BadLine, sb_BadLine, ty_BadLine, kp_BadLine⟩
  have I_BadLine : SupC l.prog K mg C_BadLine cc_BadLine cda_BadLine := ⟨T_BadLine, PySem.W.mg_none_of X G zsup, ⟨_, _, _, ce_BadLine⟩, ⟨_, _, _, _, _, _, cd_BadLine, fl_BadLine, fe_BadLine⟩, top0, su_BadLine, ms_BadLine, ve_BadLine, any0⟩
  have F_BadLine : ∀ base, FnOk l.prog w K mg base (L2.CX l.prog w) 1 fI_BadLine _ ["self", "number"] (spI C_BadLine "number") := fun base => sup_init (k := 0) I_BadLine li_BadLine ci_BadLine rfl rfl (nscope_by (by decide +kernel)) rfl rfl nf_BadLine_number (fun A outer s H E => ⟨_, pa_cons (pe_joined (PJ.cons pe_str (PJ.cons (pe_fmt (pv 1)) (PJ.cons pe_str PJ.nil)))) pa_nil, fmt3_ok (by decide) (by decide)⟩) (fun L => ⟨_, rfl⟩) (fun _ => rfl) (fun L => rfl) (fun L => rfl) (by decide) (by decide) (by decide) (by decide)
  have X_BadLine : ∀ base, XiC l.prog w K mg base "BadLine" C_BadLine "number" := fun base => ⟨T_BadLine, PySem.W.mg_of X G g_BadLine, fI_BadLine, _, _, in_BadLine, ti_BadLine, F_BadLine base, .all fun us hl => match us, hl with | [_, _], _ => rfl⟩
  have D_words_of : FunD K "words_of" "words_of" (defArgs s_words_of) (defBody s_words_of) (defScope s_words_of) [] [] f_words_of (PySem.W.fnOf "words_of" "words_of" (defArgs s_words_of) (defBody s_words_of) (defScope s_words_of) .none kV_words_of dc_words_of pm_words_of an_words_of cd_words_of ct_words_of) := ⟨⟨oc_words_of, od_words_of, _, kV_words_of, dc_words_of, pm_words_of, an_words_of, cd_words_of, ct_words_of, sl_words_of, rfl, l_words_of, c_words_of, .inl ⟨rfl, rfl⟩, .inl rfl⟩, k_words_of⟩
  have D_format_step : FunD K "format_step" "format_step" (defArgs s_format_step) (defBody s_format_step) (defScope s_format_step) [] [] f_format_step (PySem.W.fnOf "format_step" "format_step" (defArgs s_format_step) (defBody s_format_step) (defScope s_format_step) .none kV_format_step dc_format_step pm_format_step an_format_step cd_format_step ct_format_step) := ⟨⟨oc_format_step, od_format_step, _, kV_format_step, dc_format_step, pm_format_step, an_format_step, cd_format_step, ct_format_step, sl_format_step, rfl, l_format_step, c_format_step, .inl ⟨rfl, rfl⟩, .inl rfl⟩, k_format_step⟩
  have D_is_number : FunD K "is_number" "is_number" (defArgs s_is_number) (defBody s_is_number) (defScope s_is_number) [] [] f_is_number (PySem.W.fnOf "is_number" "is_number" (defArgs s_is_number) (defBody s_is_number) (defScope s_is_number) .none kV_is_number dc_is_number pm_is_number an_is_number cd_is_number ct_is_number) := ⟨⟨oc_is_number, od_is_number, _, kV_is_number, dc_is_number, pm_is_number, an_is_number, cd_is_number, ct_is_number, sl_is_number, rfl, l_is_number, c_is_number, .inl ⟨rfl, rfl⟩, .inl rfl⟩, k_is_number⟩
  have D_token_roles : FunD K "token_roles" "token_roles" (defArgs s_token_roles) (defBody s_token_roles) (defScope s_token_roles) [] [] f_token_roles (PySem.W.fnOf "token_roles" "token_roles" (defArgs s_token_roles) (defBody s_token_roles) (defScope s_token_roles) .none kV_token_roles dc_token_roles pm_token_roles an_token_roles cd_token_roles ct_token_roles) := ⟨⟨oc_token_roles, od_token_roles, _, kV_token_roles, dc_token_roles, pm_token_roles, an_token_roles, cd_token_roles, ct_token_roles, sl_token_roles, rfl, l_token_roles, c_token_roles, .inl ⟨rfl, rfl⟩, .inl rfl⟩, k_token_roles⟩
  have D_is_well_formed : FunD K "is_well_formed" "is_well_formed" (defArgs s_is_well_formed) (defBody s_is_well_formed) (defScope s_is_well_formed) [] [] f_is_well_formed (PySem.W.fnOf "is_well_formed" "is_well_formed" (defArgs s_is_well_formed) (defBody s_is_well_formed) (defScope s_is_well_formed) .none kV_is_well_formed dc_is_well_formed pm_is_well_formed an_is_well_formed cd_is_well_formed ct_is_well_formed) := ⟨⟨oc_is_well_formed, od_is_well_formed, _, kV_is_well_formed, dc_is_well_formed, pm_is_well_formed, an_is_well_formed, cd_is_well_formed, ct_is_well_formed, sl_is_well_formed, rfl, l_is_well_formed, c_is_well_formed, .inl ⟨rfl, rfl⟩, .inl rfl⟩, k_is_well_formed⟩
  have D_parse_step : FunD K "parse_step" "parse_step" (defArgs s_parse_step) (defBody s_parse_step) (defScope s_parse_step) [.int 1] [] f_parse_step (PySem.W.fnOf "parse_step" "parse_step" (defArgs s_parse_step) (defBody s_parse_step) (defScope s_parse_step) (.ref dt_parse_step) kV_parse_step dc_parse_step pm_parse_step an_parse_step cd_parse_step ct_parse_step) := ⟨⟨oc_parse_step, od_parse_step, _, kV_parse_step, dc_parse_step, pm_parse_step, an_parse_step, cd_parse_step, ct_parse_step, sl_parse_step, rfl, l_parse_step, c_parse_step, .inr ⟨by simp, dt_parse_step, _, di_parse_step, dn_parse_step, rfl, dl_parse_step, rfl, dv_parse_step⟩, .inl rfl⟩, k_parse_step⟩
  have D__law_draws : FunD K "_law_draws" "_law_draws" (defArgs s__law_draws) (defBody s__law_draws) (defScope s__law_draws) [] [] f__law_draws (PySem.W.fnOf "_law_draws" "_law_draws" (defArgs s__law_draws) (defBody s__law_draws) (defScope s__law_draws) .none kV__law_draws dc__law_draws pm__law_draws an__law_draws cd__law_draws ct__law_draws) := ⟨⟨oc__law_draws, od__law_draws, _, kV__law_draws, dc__law_draws, pm__law_draws, an__law_draws, cd__law_draws, ct__law_draws, sl__law_draws, rfl, l__law_draws, c__law_draws, .inl ⟨rfl, rfl⟩, .inl rfl⟩, k__law_draws⟩
  have D__law_token : FunD K "_law_token" "_law_token" (defArgs s__law_token) (defBody s__law_token) (defScope s__law_token) [] [] f__law_token (PySem.W.fnOf "_law_token" "_law_token" (defArgs s__law_token) (defBody s__law_token) (defScope s__law_token) .none kV__law_token dc__law_token pm__law_token an__law_token cd__law_token ct__law_token) := ⟨⟨oc__law_token, od__law_token, _, kV__law_token, dc__law_token, pm__law_token, an__law_token, cd__law_token, ct__law_token, sl__law_token, rfl, l__law_token, c__law_token, .inl ⟨rfl, rfl⟩, .inl rfl⟩, k__law_token⟩
  have D__law_any_step : FunD K "_law_any_step" "_law_any_step" (defArgs s__law_any_step) (defBody s__law_any_step) (defScope s__law_any_step) [] [] f__law_any_step (PySem.W.fnOf "_law_any_step" "_law_any_step" (defArgs s__law_any_step) (defBody s__law_any_step) (defScope s__law_any_step) .none kV__law_any_step dc__law_any_step pm__law_any_step an__law_any_step cd__law_any_step ct__law_any_step) := ⟨⟨oc__law_any_step, od__law_any_step, _, kV__law_any_step, dc__law_any_step, pm__law_any_step, an__law_any_step, cd__law_any_step, ct__law_any_step, sl__law_any_step, rfl, l__law_any_step, c__law_any_step, .inl ⟨rfl, rfl⟩, .inl rfl⟩, k__law_any_step⟩
  have D__law_line : FunD K "_law_line" "_law_line" (defArgs s__law_line) (defBody s__law_line) (defScope s__law_line) [] [] f__law_line (PySem.W.fnOf "_law_line" "_law_line" (defArgs s__law_line) (defBody s__law_line) (defScope s__law_line) .none kV__law_line dc__law_line pm__law_line an__law_line cd__law_line ct__law_line) := ⟨⟨oc__law_line, od__law_line, _, kV__law_line, dc__law_line, pm__law_line, an__law_line, cd__law_line, ct__law_line, sl__law_line, rfl, l__law_line, c__law_line, .inl ⟨rfl, rfl⟩, .inl rfl⟩, k__law_line⟩
  have D_law : FunD K "law" "law" (defArgs s_law) (defBody s_law) (defScope s_law) [] [] fa (PySem.W.fnOf "law" "law" (defArgs s_law) (defBody s_law) (defScope s_law) .none kV_law dc_law pm_law an_law cd_law ct_law) := ⟨⟨oc_law, od_law, _, kV_law, dc_law, pm_law, an_law, cd_law, ct_law, sl_law, rfl, l_law, c_law, .inl ⟨rfl, rfl⟩, .inl rfl⟩, k_law⟩
  obtain ⟨ds_parse_step_1, vd_parse_step_1, bd_parse_step_1⟩ := D_parse_step.binds1 (ps := ["line", "number"]) 1 0 (by simp) rfl fun T kV doc pm an cdv ct us its h1 h2 => match us, its, h1, h2 with | [_], [_], _, _ => ⟨_, rfl, rfl⟩
  obtain ⟨ds_parse_step_0, vd_parse_step_0, bd_parse_step_0⟩ := D_parse_step.binds1 (ps := ["line", "number"]) 2 1 (by simp) rfl fun T kV doc pm an cdv ct us its h1 h2 => match us, its, h1, h2 with | [_, _], [_], _, _ => ⟨_, rfl, rfl⟩
  have T : Txt l.prog w K mg C_CutError C_BadLine := ⟨ok,
    PySem.W.mg_of X G g_CutError,
    PySem.W.mg_of X G g_BadLine,
    PySem.W.mg_none_of X G z_tuple,
    PySem.W.mg_none_of X G z_isinstance,
    PySem.W.mg_none_of X G z_str,
    PySem.W.mg_none_of X G z_len,
    PySem.W.mg_none_of X G z_all,
    PySem.W.mg_none_of X G z_list,
    PySem.W.mg_none_of X G z_zip,
    PySem.W.mg_none_of X G z_int,
    PySem.W.mg_none_of X G z_range,
    PySem.W.mg_none_of X G z_repr,
    ⟨.str "0123456789", _, PySem.W.mg_of X G gv_DIGITS, ⟨_, rfl⟩, (fun _ _ => rep_str)⟩,
    ⟨.ref a_KINDS_0, _, PySem.W.mg_of X G gv_KINDS, rfl, (rep_kdct (W := (Wz K w C_CutError C_BadLine)) lt_KINDS_0 kt_KINDS_0 lo_KINDS_0 et_KINDS_0 (fun _ _ => .cons ((rep_ktup (W := (Wz K w C_CutError C_BadLine)) lt_KINDS_1 vt_KINDS_1 (by decide) (fun _ _ => .cons ((fun _ _ => rep_str) _ _) (.cons ((fun _ _ => rep_str) _ _) (.nil)))) _ _) (.cons ((rep_ktup (W := (Wz K w C_CutError C_BadLine)) lt_KINDS_2 vt_KINDS_2 (by decide) (fun _ _ => .cons ((fun _ _ => rep_str) _ _) (.cons ((fun _ _ => rep_str) _ _) (.cons ((fun _ _ => rep_str) _ _) (.nil))))) _ _) (.cons ((rep_ktup (W := (Wz K w C_CutError C_BadLine)) lt_KINDS_3 vt_KINDS_3 (by decide) (fun _ _ => .cons ((fun _ _ => rep_str) _ _) (.cons ((fun _ _ => rep_str) _ _) (.cons ((fun _ _ => rep_str) _ _) (.nil))))) _ _) (.cons ((rep_ktup (W := (Wz K w C_CutError C_BadLine)) lt_KINDS_4 vt_KINDS_4 (by decide) (fun _ _ => .cons ((fun _ _ => rep_str) _ _) (.cons ((fun _ _ => rep_str) _ _) (.cons ((fun _ _ => rep_str) _ _) (.cons ((fun _ _ => rep_str) _ _) (.nil)))))) _ _) (.cons ((rep_ktup (W := (Wz K w C_CutError C_BadLine)) lt_KINDS_5 vt_KINDS_5 (by decide) (fun _ _ => .cons ((fun _ _ => rep_str) _ _) (.cons ((fun _ _ => rep_str) _ _) (.cons ((fun _ _ => rep_str) _ _) (.nil))))) _ _) (.cons ((rep_ktup (W := (Wz K w C_CutError C_BadLine)) lt_KINDS_6 vt_KINDS_6 (by decide) (fun _ _ => .cons ((fun _ _ => rep_str) _ _) (.cons ((fun _ _ => rep_str) _ _) (.cons ((fun _ _ => rep_str) _ _) (.cons ((fun _ _ => rep_str) _ _) (.nil)))))) _ _) (.cons ((rep_ktup (W := (Wz K w C_CutError C_BadLine)) lt_KINDS_7 vt_KINDS_7 (by decide) (fun _ _ => .cons ((fun _ _ => rep_str) _ _) (.cons ((fun _ _ => rep_str) _ _) (.nil)))) _ _) (.cons ((rep_ktup (W := (Wz K w C_CutError C_BadLine)) lt_KINDS_8 vt_KINDS_8 (by decide) (fun _ _ => .cons ((fun _ _ => rep_str) _ _) (.cons ((fun _ _ => rep_str) _ _) (.nil)))) _ _) (.nil))))))))))⟩,
    ⟨.ref a_TEST_9, _, PySem.W.mg_of X G gv_TEST, rfl, (rep_ktup (W := (Wz K w C_CutError C_BadLine)) lt_TEST_9 vt_TEST_9 (by decide) (fun _ _ => .cons ((fun _ _ => rep_str) _ _) (.cons ((fun _ _ => rep_str) _ _) (.cons ((fun _ _ => rep_str) _ _) (.nil)))))⟩,
    ⟨.ref a_NUMBERS_10, _, PySem.W.mg_of X G gv_NUMBERS, rfl, (rep_ktup (W := (Wz K w C_CutError C_BadLine)) lt_NUMBERS_10 vt_NUMBERS_10 (by decide) (fun _ _ => .cons ((fun _ _ => rep_str) _ _) (.cons ((fun _ _ => rep_str) _ _) (.cons ((fun _ _ => rep_str) _ _) (.cons ((fun _ _ => rep_str) _ _) (.nil))))))⟩,
    X_BadLine,
    ⟨f_words_of, _, [], D_words_of, PySem.W.mg_of X G a_words_of, D_words_of.bindsN fun _ _ _ _ _ _ us hl => match us, hl with | [_], _ => rfl, .nil⟩,
    ⟨f_token_roles, _, [], D_token_roles, PySem.W.mg_of X G a_token_roles, D_token_roles.bindsN fun _ _ _ _ _ _ us hl => match us, hl with | [_, _], _ => rfl, .nil⟩,
    ⟨f_is_number, _, [], D_is_number, PySem.W.mg_of X G a_is_number, D_is_number.bindsN fun _ _ _ _ _ _ us hl => match us, hl with | [_], _ => rfl, .nil⟩,
    ⟨f_is_well_formed, _, [], D_is_well_formed, PySem.W.mg_of X G a_is_well_formed, D_is_well_formed.bindsN fun _ _ _ _ _ _ us hl => match us, hl with | [_, _], _ => rfl, .nil⟩,
    ⟨f__law_token, _, [], D__law_token, PySem.W.mg_of X G a__law_token, D__law_token.bindsN fun _ _ _ _ _ _ us hl => match us, hl with | [_, _, _], _ => rfl, .nil⟩,
    ⟨f__law_draws, _, [], D__law_draws, PySem.W.mg_of X G a__law_draws, D__law_draws.bindsN fun _ _ _ _ _ _ us hl => match us, hl with | [_, _, _], _ => rfl, .nil⟩,
    ⟨f__law_any_step, _, [], D__law_any_step, PySem.W.mg_of X G a__law_any_step, D__law_any_step.bindsN fun _ _ _ _ _ _ us hl => match us, hl with | [_], _ => rfl, .nil⟩,
    ⟨f_format_step, _, [], D_format_step, PySem.W.mg_of X G a_format_step, D_format_step.bindsN fun _ _ _ _ _ _ us hl => match us, hl with | [_], _ => rfl, .nil⟩,
    ⟨f__law_line, _, [], D__law_line, PySem.W.mg_of X G a__law_line, D__law_line.bindsN fun _ _ _ _ _ _ us hl => match us, hl with | [_], _ => rfl, .nil⟩,
    ⟨f_parse_step, _, ds_parse_step_1, D_parse_step, PySem.W.mg_of X G a_parse_step, bd_parse_step_1, vd_parse_step_1⟩,
    ⟨f_parse_step, _, ds_parse_step_0, D_parse_step, PySem.W.mg_of X G a_parse_step, bd_parse_step_0, vd_parse_step_0⟩⟩
  exact fun base H s a ns hn hbK hbN e0 hS => law_ok T D_law (fun s v => .of_eq rfl) hn e0 hS
theorem walk {l : PySem.W.OpenLaw} {q : Program} {loose : List Str} {XP : (Str → Option Value) → Heap → Prop} {YP : World → Heap → Prop} {d : DefRec} {K : Params → PySem.W.Frag} (hn : l.most = some 63) (hdf : d.params.defaults = [])
    (hY : ∀ (w : World) (h : Heap), YP w h → (K w.params).In h)
    (F : ∀ (w : World) (mg : Str → Option Value) (fa : Addr) (h : Heap), (K w.params).In h → h.Ns mainGlobals mg → mg d.name = some (.ref fa) →
      ∀ (base : Heap) (H : Hp) (s : Shared) (a : Addr) (ns : List Int), ns.length ≤ 63 → (K w.params).In base → base.Ns mainGlobals mg → Env0 l.prog w (K w.params) mg base callerA [] s H → SqL (K w.params) H a (ns.map V.int) → codeAny (model l.prog w) callerA (.call (.ref fa) ⟨[.ref a], []⟩) (CR (L2.CX l.prog w) [] l.prog w H s (fun v _ => v = .bl true) fun _ _ _ => False) s) :
    PySem.W.WalkO q loose XP YP l.row.toRowW d [] (fun f vs => PySem.call f vs) :=
  walk_grd (n := 63) (CX := fun w => L2.CX l.prog w) hn hdf (by decide) F (fun w H s e s' z => cx_false H s e s' z) hY
end Toy
open PySem PySem.W PyProof.Rows in
set_option maxRecDepth 100000 in
set_option maxHeartbeats 0 in
theorem PySem.Challenge.cw_cutproof_k15_step_lines_holds : PySem.Challenge.rw_cutproof_k15_step_lines.Holds := by
  w_on; o_law; k_head; (case hw => w_witness2)
  k_fill
  refine Toy.walk (l := PySem.Challenge.rw_cutproof_k15_step_lines) rfl rfl (fun w h Y => PySem.W.kIn_of Y) ?F
  case F =>
    intro w mg fa h KX G hmg
    refine' Toy.all_mk KX G hmg ?g_CutError ?g_BadLine ?sb_CutError ?ty_CutError ?q4_CutError ?q1_CutError ?q2_CutError ?q5_CutError ?q8_CutError ?ve_CutError ?s_CutError_CutError ?s_CutError_BadLine ?sb_BadLine ?ty_BadLine ?q4_BadLine ?q1_BadLine ?q2_BadLine ?q5_BadLine ?q8_BadLine ?ve_BadLine ?s_BadLine_CutError ?s_BadLine_BadLine ?nf_BadLine_number ?kp_BadLine ?q6 ?q7 ?cls_BadLine ?rf_BadLine ?sa_BadLine ?in_BadLine ?ti_BadLine ?li_BadLine ?ci_BadLine ?ce_BadLine ?cd_BadLine ?fl_BadLine ?fe_BadLine ?su_BadLine ?ms_BadLine ?zsup ?any0 ?top0 ?z_tuple ?z_isinstance ?z_str ?z_len ?z_all ?z_list ?z_zip ?z_int ?z_range ?z_repr ?gv_DIGITS ?gv_KINDS ?lt_KINDS_0 ?kt_KINDS_0 ?lo_KINDS_0 ?et_KINDS_0 ?lt_KINDS_1 ?vt_KINDS_1 ?lt_KINDS_2 ?vt_KINDS_2 ?lt_KINDS_3 ?vt_KINDS_3 ?lt_KINDS_4 ?vt_KINDS_4 ?lt_KINDS_5 ?vt_KINDS_5 ?lt_KINDS_6 ?vt_KINDS_6 ?lt_KINDS_7 ?vt_KINDS_7 ?lt_KINDS_8 ?vt_KINDS_8 ?gv_TEST ?lt_TEST_9 ?vt_TEST_9 ?gv_NUMBERS ?lt_NUMBERS_10 ?vt_NUMBERS_10 ?a_words_of ?l_words_of ?c_words_of ?k_words_of ?a_format_step ?l_format_step ?c_format_step ?k_format_step ?a_is_number ?l_is_number ?c_is_number ?k_is_number ?a_token_roles ?l_token_roles ?c_token_roles ?k_token_roles ?a_is_well_formed ?l_is_well_formed ?c_is_well_formed ?k_is_well_formed ?a_parse_step ?l_parse_step ?c_parse_step ?k_parse_step ?dl_parse_step ?dv_parse_step ?a__law_draws ?l__law_draws ?c__law_draws ?k__law_draws ?a__law_token ?l__law_token ?c__law_token ?k__law_token ?a__law_any_step ?l__law_any_step ?c__law_any_step ?k__law_any_step ?a__law_line ?l__law_line ?c__law_line ?k__law_line ?a_law ?l_law ?c_law ?k_law
    (case g_CutError => k_is)
    (case g_BadLine => k_is)
    (case sb_CutError => k_is)
    (case ty_CutError => k_is)
    (case q4_CutError => k_is)
    (case q1_CutError => k_is)
    (case q2_CutError => k_is)
    (case q5_CutError => k_is)
    (case q8_CutError => k_is)
    (case ve_CutError => k_is)
    (case s_CutError_CutError => k_is)
    (case s_CutError_BadLine => k_is)
    (case sb_BadLine => k_is)
    (case ty_BadLine => k_is)
    (case q4_BadLine => k_is)
    (case q1_BadLine => k_is)
    (case q2_BadLine => k_is)
    (case q5_BadLine => k_is)
    (case q8_BadLine => k_is)
    (case ve_BadLine => k_is)
    (case s_BadLine_CutError => k_is)
    (case s_BadLine_BadLine => k_is)
    (case nf_BadLine_number => k_is)
    (case kp_BadLine => k_is)
    (case q6 => k_is)
    (case q7 => k_is)
    (case cls_BadLine => k_is)
    (case rf_BadLine => rfl)
    (case sa_BadLine => k_is)
    (case in_BadLine => k_is)
    (case ti_BadLine => k_is)
    (case li_BadLine => k_is)
    (case ci_BadLine => k_is)
    (case ce_BadLine => k_is)
    (case cd_BadLine => k_is)
    (case fl_BadLine => rfl)
    (case fe_BadLine => rfl)
    (case su_BadLine => ks_is)
    (case ms_BadLine => k_is)
    (case zsup => k_is)
    (case any0 => k_is)
    (case top0 => rfl)
    (case z_tuple => k_is)
    (case z_isinstance => k_is)
    (case z_str => k_is)
    (case z_len => k_is)
    (case z_all => k_is)
    (case z_list => k_is)
    (case z_zip => k_is)
    (case z_int => k_is)
    (case z_range => k_is)
    (case z_repr => k_is)
    (case gv_DIGITS => k_is)
    (case gv_KINDS => k_is)
    (case lt_KINDS_0 => k_is)
    (case kt_KINDS_0 => k_keys)
    (case lo_KINDS_0 => rfl)
    (case et_KINDS_0 => exact ⟨⟨_, rfl⟩, rfl, ⟨⟨_, rfl⟩, rfl, ⟨⟨_, rfl⟩, rfl, ⟨⟨_, rfl⟩, rfl, ⟨⟨_, rfl⟩, rfl, ⟨⟨_, rfl⟩, rfl, ⟨⟨_, rfl⟩, rfl, ⟨⟨_, rfl⟩, rfl, trivial⟩⟩⟩⟩⟩⟩⟩⟩)
    (case lt_KINDS_1 => k_is)
    (case vt_KINDS_1 => exact .cons ⟨_, rfl⟩ (.cons ⟨_, rfl⟩ (.nil)))
    (case lt_KINDS_2 => k_is)
    (case vt_KINDS_2 => exact .cons ⟨_, rfl⟩ (.cons ⟨_, rfl⟩ (.cons ⟨_, rfl⟩ (.nil))))
    (case lt_KINDS_3 => k_is)
    (case vt_KINDS_3 => exact .cons ⟨_, rfl⟩ (.cons ⟨_, rfl⟩ (.cons ⟨_, rfl⟩ (.nil))))
    (case lt_KINDS_4 => k_is)
    (case vt_KINDS_4 => exact .cons ⟨_, rfl⟩ (.cons ⟨_, rfl⟩ (.cons ⟨_, rfl⟩ (.cons ⟨_, rfl⟩ (.nil)))))
    (case lt_KINDS_5 => k_is)
    (case vt_KINDS_5 => exact .cons ⟨_, rfl⟩ (.cons ⟨_, rfl⟩ (.cons ⟨_, rfl⟩ (.nil))))
    (case lt_KINDS_6 => k_is)
    (case vt_KINDS_6 => exact .cons ⟨_, rfl⟩ (.cons ⟨_, rfl⟩ (.cons ⟨_, rfl⟩ (.cons ⟨_, rfl⟩ (.nil)))))
    (case lt_KINDS_7 => k_is)
    (case vt_KINDS_7 => exact .cons ⟨_, rfl⟩ (.cons ⟨_, rfl⟩ (.nil)))
    (case lt_KINDS_8 => k_is)
    (case vt_KINDS_8 => exact .cons ⟨_, rfl⟩ (.cons ⟨_, rfl⟩ (.nil)))
    (case gv_TEST => k_is)
    (case lt_TEST_9 => k_is)
    (case vt_TEST_9 => exact .cons ⟨_, rfl⟩ (.cons ⟨_, rfl⟩ (.cons ⟨_, rfl⟩ (.nil))))
    (case gv_NUMBERS => k_is)
    (case lt_NUMBERS_10 => k_is)
    (case vt_NUMBERS_10 => exact .cons ⟨_, rfl⟩ (.cons ⟨_, rfl⟩ (.cons ⟨_, rfl⟩ (.cons ⟨_, rfl⟩ (.nil)))))
    (case a_words_of => k_is)
    (case l_words_of => k_is)
    (case c_words_of => k_is)
    (case k_words_of => k_is)
    (case a_format_step => k_is)
    (case l_format_step => k_is)
    (case c_format_step => k_is)
    (case k_format_step => k_is)
    (case a_is_number => k_is)
    (case l_is_number => k_is)
    (case c_is_number => k_is)
    (case k_is_number => k_is)
    (case a_token_roles => k_is)
    (case l_token_roles => k_is)
    (case c_token_roles => k_is)
    (case k_token_roles => k_is)
    (case a_is_well_formed => k_is)
    (case l_is_well_formed => k_is)
    (case c_is_well_formed => k_is)
    (case k_is_well_formed => k_is)
    (case a_parse_step => k_is)
    (case l_parse_step => k_is)
    (case c_parse_step => k_is)
    (case k_parse_step => k_is)
    (case dl_parse_step => k_is)
    (case dv_parse_step => exact .cons ⟨_, rfl⟩ (.nil))
    (case a__law_draws => k_is)
    (case l__law_draws => k_is)
    (case c__law_draws => k_is)
    (case k__law_draws => k_is)
    (case a__law_token => k_is)
    (case l__law_token => k_is)
    (case c__law_token => k_is)
    (case k__law_token => k_is)
    (case a__law_any_step => k_is)
    (case l__law_any_step => k_is)
    (case c__law_any_step => k_is)
    (case k__law_any_step => k_is)
    (case a__law_line => k_is)
    (case l__law_line => k_is)
    (case c__law_line => k_is)
    (case k__law_line => k_is)
    (case a_law => k_is)
    (case l_law => k_is)
    (case c_law => k_is)
    (case k_law => k_is)
#print axioms PySem.Challenge.cw_cutproof_k15_step_lines_holds
