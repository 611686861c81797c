import PyProof.Rows.All
import Wide.All
import OpenK.AllK
import Wide.FinOn
import HandS.ForMost
import HandS.ForExc
import HandS.SlotsOwn
import HandS.IsInst
import HandS.Evl
import HandS.More
import HandS.TryMany
import HandS.ExcIs
import HandS.TupLe
import HandS.TupSets
import KE.KeyNested
import KE.KDictKeyed
import KE.SortData
import KE.GoesSet
import HandS.SetBool
import HandS.TupAny
import HandS.TupMul
import HandS.Deep
import HandS.Dict
import HandS.Wide
import HandS.RaiseMore
import HandS.Text
import HandS.StrMore
import HandS.Flow
import HandS.Star
import HandS.Iter
import HandS.Zip
import HandS.Defaults
import HandS.CallSlots
import HandS.Small
import HandS.Rev
import PyProof.CollectIter
import KE.KExcSuper
import HandS.ExcInit
import HandS.Nested
import HandS.FStr
import HandS.ExcField
import HandS.Style
import HandS.Words
import HandS.Conv
import PyProof.Rows.RegStrFacts
import KE.IntTextLaws
import PyProof.ReprRoads
import PyProof.Rows.ReprR
import HandS.DictComp
import HandS.SetFor
import HandS.Strs
import HandS.ClsMeth
import HandS.SortKw
import KE.DatumOrd
import PySem.Challenge.RW_cutproof_k11_tight_form
set_option Elab.async false
set_option linter.all false
set_option maxRecDepth 100000
set_option maxHeartbeats 2000000
/-! operators of own classes' instances, by the hand layer -/
namespace OwnO
open PySem PySem.Spec PyProof.Rows L2

section
variable {X : Cx} {CX : CXT} {pins : List (Addr × Obj)} {σ : L2.St} {H : Hp} {s : Shared} {a C dx f : Addr} {fs : List (Str × V)} {n k : Nat} {sp : Sp} {E : XK} {fd : FuncData} {ps : List Str}

theorem ins_inst (I : Inv X pins σ H s) (e : H a = some (.ins C dx fs)) : ∃ od, PySem.W.InstAt s.heap a (PySem.W.instObj C dx) C (some od) := by
  obtain ⟨mA, O, _⟩ := ins_get I.hok e
  obtain ⟨od, J, _⟩ := O.look
  exact ⟨od, J⟩

/-- x op y, both instances of the class at C, whose def for op keeps sp -/
def rOwn2 (C : Addr) (sp : Sp) (E : XK) : R2 := fun x y H Q => ∃ a dx fs b dy gs, x = .ref a ∧ y = .ref b ∧ H a = some (.ins C dx fs) ∧ H b = some (.ins C dy gs) ∧ sp [x, y] H Q E
theorem op_ownBin {op : Operator} (hc : PySem.W.selfFirst X.K C = true) (hs : PySem.W.findIn X.K (.ref C) (PySem.dunder op.info.2) = some (some (.ref f))) (hf : PySem.W.isFn X.K (.ref f) = true)
    (F : FnOk X.prog X.w X.K X.mg X.base CX k f fd ps sp) (hr : Room k X.A) (hb : Binds X.K fd ps []) (hx : Passes CX X E) : OpR X (binaryOp op) (rOwn2 C sp E) := by
  intro pins s σ H x y v u Q I rx ry h
  obtain ⟨a, dx, fs, b, dy, gs, rfl, rfl, ha, hb', q⟩ := h
  cases (show v = Value.ref a from rx)
  cases (show u = Value.ref b from ry)
  obtain ⟨od, J⟩ := ins_inst I ha
  obtain ⟨od', J'⟩ := ins_inst I hb'
  obtain ⟨m, hF⟩ := I.fr
  refine PySem.W.binop_K hF I.ok.mod.kin J J'.type hc hs hf ?_
  refine wpAny_mono (run_fn (us := [.ref a, .ref b]) (vs := [.ref a, .ref b]) (dvs := []) (ds := []) F hr hb .nil hx I (.cons rfl (.cons rfl .nil)) q) (fun w s' z => ?_) fun _ _ x => x
  obtain ⟨z', H', I', rz, qz⟩ := z
  exact SlX.cmpback rz ⟨z', H', I', rz, qz⟩

theorem notFirst_self {K : PySem.W.Frag} {C : Addr} : PySem.W.notFirst K C (.ref C) = true := by
  unfold PySem.W.notFirst
  rw [Bool.or_eq_true_iff]
  exact .inl (beq_self_eq_true _)
theorem op_ownCmp {op : CmpOp} (hop : ∀ a b, compareOp op a b = richCompare op a b) (hs : PySem.W.findIn X.K (.ref C) (cmpInfo op).2.1 = some (some (.ref f))) (hf : PySem.W.isFn X.K (.ref f) = true)
    (F : FnOk X.prog X.w X.K X.mg X.base CX k f fd ps sp) (hr : Room k X.A) (hb : Binds X.K fd ps []) (hx : Passes CX X E) : OpR X (compareOp op) (rOwn2 C sp E) := by
  intro pins s σ H x y v u Q I rx ry h
  obtain ⟨a, dx, fs, b, dy, gs, rfl, rfl, ha, hb', q⟩ := h
  cases (show v = Value.ref a from rx)
  cases (show u = Value.ref b from ry)
  obtain ⟨od, J⟩ := ins_inst I ha
  obtain ⟨od', J'⟩ := ins_inst I hb'
  obtain ⟨m, hF⟩ := I.fr
  rw [hop]
  refine PySem.W.cmp_K (op := op) (tb := .ref C) hr.units0 hF I.ok.mod.kin J J'.type notFirst_self hs hf ?_
  refine wpAny_mono (run_fn (us := [.ref a, .ref b]) (vs := [.ref a, .ref b]) (dvs := []) (ds := []) F hr hb .nil hx I (.cons rfl (.cons rfl .nil)) q) (fun w s' z => ?_) fun _ _ x => x
  obtain ⟨z', H', I', rz, qz⟩ := z
  exact SlX.cmpback rz ⟨z', H', I', rz, qz⟩

/-- y in x, x an instance of C -/
def rOwnIn (C : Addr) (sp : Sp) (E : XK) : R2 := fun y x H Q => ∃ a dx fs, x = .ref a ∧ H a = some (.ins C dx fs) ∧ sp [x, y] H (fun z H' => ∃ b, z = .bl b ∧ Q (.bl b) H') E
theorem op_ownIn (hs : PySem.W.findIn X.K (.ref C) "__contains__" = some (some (.ref f))) (hf : PySem.W.isFn X.K (.ref f) = true)
    (F : FnOk X.prog X.w X.K X.mg X.base CX k f fd ps sp) (hr : Room k X.A) (hb : Binds X.K fd ps []) (hx : Passes CX X E) : OpR X (compareOp .In) (rOwnIn C sp E) := by
  intro pins s σ H y x u v Q I ry rx h
  obtain ⟨a, dx, fs, rfl, ha, q⟩ := h
  cases (show v = Value.ref a from rx)
  obtain ⟨od, J⟩ := ins_inst I ha
  obtain ⟨m, hF⟩ := I.fr
  refine PySem.W.in_K hF I.ok.mod.kin J hs hf ?_
  refine wpAny_mono (run_fn (us := [.ref a, u]) (vs := [.ref a, y]) (dvs := []) (ds := []) F hr hb .nil hx I (.cons rfl (.cons ry .nil)) q) (fun w s' z => ?_) fun _ _ x => x
  obtain ⟨z', H', I', rz, b, ez, qz⟩ := z
  subst ez
  cases (show w = Value.bool b from rz)
  exact wpAny_truthy_bool ⟨.bl b, H', I', rfl, qz⟩

/-- an instance's truth -/
def rOwnTru (C : Addr) (sp : Sp) (E : XK) : V → Hp → (Bool → Hp → Prop) → Prop := fun x H Q => ∃ a dx fs, x = .ref a ∧ H a = some (.ins C dx fs) ∧ sp [x] H (fun z H' => ∃ b, z = .bl b ∧ Q b H') E
theorem tru_own (hs : PySem.W.findIn X.K (.ref C) "__bool__" = some (some (.ref f))) (hf : PySem.W.isFn X.K (.ref f) = true)
    (F : FnOk X.prog X.w X.K X.mg X.base CX k f fd ps sp) (hr : Room k X.A) (hb : Binds X.K fd ps []) (hx : Passes CX X E) : TruR X (rOwnTru C sp E) := by
  intro pins s σ H x v Q I rx h
  obtain ⟨a, dx, fs, rfl, ha, q⟩ := h
  cases (show v = Value.ref a from rx)
  obtain ⟨od, J⟩ := ins_inst I ha
  obtain ⟨m, hF⟩ := I.fr
  refine PySem.W.truthy_K hF I.ok.mod.kin J hs hf ?_
  refine wpAny_mono (run_fn (us := [.ref a]) (vs := [.ref a]) (dvs := []) (ds := []) F hr hb .nil hx I (.cons rfl .nil) q) (fun w s' z => ?_) fun _ _ x => x
  obtain ⟨z', H', I', rz, b, ez, qz⟩ := z
  subst ez
  cases (show w = Value.bool b from rz)
  exact ⟨H', I', qz⟩
def tTruR (r : V → Hp → (Bool → Hp → Prop) → Prop) (ta : TE) : TT := fun σ H Q => ta σ H fun x H1 => r x H1 Q
theorem pt_truR {r : V → Hp → (Bool → Hp → Prop) → Prop} {e : Expr} {ta : TE} (hr : TruR X r) (ha : PE X e ta) (he : ∀ whole, isTrue e X.env whole = (do let v ← whole; standAt e.pos; holding [v] (truthy v)) := by intro _; rfl) : PT X e (tTruR r ta) := by
  refine ⟨fun pins s σ H Q I h => ?_⟩
  exact isTrue_plain (thn (ha.run pins s σ H _ I h) fun v s1 ⟨x, H1, I1, r1, q1⟩ => hr pins s1 σ H1 x v Q I1 r1 q1) (he _)
end

section
variable {prog : Program} {w : World} {A : Around} {E : Value → Shared → Prop} {s : Shared}
/-- bool(x) by the truth of x -/
theorem bool_by {v : Value} {Q : Value → Shared → Prop} (h : wpAny (model prog w) A.in1.in1 (truthy v) (fun b s' => Q (.bool b) s') E s) : wpAny (model prog w) A (call (.type "bool") [v]) Q E s := by
  refine callType_codes (T := "bool") (Bi := Builtin.«object.__init__») (Q₁ := fun r s₁ => ∃ b, r = Value.bool b ∧ Q r s₁) PySem.F.called_bool (PySem.F.typeCall_bool_1 _) PySem.F.entry_object_init ?_ ?_
  · refine codeAny_of_tree ?_
    show wpAny _ A.in1.in1 (do checkBuiltinCall "bool.__new__" ⟨[.type "bool", v], []⟩; again (.builtin "bool.__new__" ⟨[.type "bool", v], []⟩)) _ _ s
    refine wpAny_bind (wpAny_of_eq (PySem.F.newCall_bool_1 _) (wpAny_pure ⟨plainId_quiet (by decide +kernel) _, codeAny_builtin PySem.F.entry_bool_new ?_⟩))
    rw [Around.under_plainId (by decide +kernel) _]
    unfold Builtin.«bool.__new__»
    have f1 := PySem.F.conv_sub_bool
    have h' := h
    obtain ⟨hp, g, d, tk, os⟩ := s
    repeat (first | (refine wpAny_bind (m := truthy v) (wpAny_mono h' (fun b s' hb => ?_) fun _ _ y => y)) | wp_step)
    all_goals exact ⟨b, rfl, hb⟩
  · rintro obj s₁ ⟨b, rfl, hq⟩
    exact ⟨PySem.typeIs_bool _ _, PySem.F.args_object_init_2 _ _, object_init_meets PySem.F.called_bool.init.lookup PySem.F.called_bool.made (by decide) prog w A.in1 _ s₁ ⟨PySem.typeIs_bool _ _, rfl, hq⟩⟩
end

section
variable {prog : Program} {w : World} {A : Around} {E : Value → Shared → Prop} {s : Shared} {K : PySem.W.Frag} {x y C f : Addr} {ox : Obj} {od : Option Obj}
theorem objNe_K (X : K.In s.heap) (I : PySem.W.InstAt s.heap x ox C od) (hs : PySem.W.findIn K (.ref C) "__eq__" = some (some (.ref f))) (hf : PySem.W.isFn K (.ref f) = true) (hu : A.units < cLine) {Q : PySem.Fin → Shared → Prop}
    (hcall : wpAny (model prog w) A (call (.ref f) [.ref x, .ref y]) (fun v s' => ∃ b, v = .bool b ∧ Q (.done (.ret (.bool (!b)))) s') E s) :
    wpAny (model prog w) A (Builtin.«object.__ne__» ⟨[.ref x, .ref y], []⟩) Q E s := by
  have hcall' := hcall
  obtain ⟨h, g, d, t, os⟩ := s
  unfold Builtin.«object.__ne__»
  repeat (first
    | with_reducible refine wpAny_cRoomFor hu ?_
    | (refine wpAny_bind (m := callSpecialIfBound? (.ref x) (Str.ofString "__eq__") [.ref y])
        (PySem.W.ifBound_K X I hs hf (wpAny_mono hcall' (fun r s' hr => by
          obtain ⟨b, rfl, hq⟩ := hr
          repeat (first | exact hq | exact wpAny_pure hq | exact wpAny_truthy_bool hq | (refine wpAny_bind (m := truthy (.bool _)) (wpAny_truthy_bool ?_)) | wp_step)) fun _ _ e => e)))
    | wp_step)
theorem ne_K {Q : Value → Shared → Prop} (hu : A.units + 1 < cLine) (X : K.In s.heap) (I : PySem.W.InstAt s.heap x ox C od) (hb : PySem.W.Looks (model prog w) s.heap (typeOf (.ref y)) (.ref C))
    (hn : PySem.W.findIn K (.ref C) "__ne__" = some (some (.builtin "object.__ne__"))) (hm : PySem.W.mroIn K C (.type "object") = some true)
    (hs : PySem.W.findIn K (.ref C) "__eq__" = some (some (.ref f))) (hf : PySem.W.isFn K (.ref f) = true)
    (h : wpAny (model prog w) A.in1 (call (.ref f) [.ref x, .ref y]) (fun v s' => ∃ b, v = .bool b ∧ Q (.bool (!b)) s') E s) : wpAny (model prog w) A (richCompare .NotEq (.ref x) (.ref y)) Q E s := by
  have hcall : wpAny (model prog w) A (call (.builtin "object.__ne__") [.ref x, .ref y]) (fun v s' => ∃ b, v = .bool b ∧ Q v s') E s := by
    refine wpAny_call (codeAny_call_builtin PySem.F.cmp_object.ne.plain PySem.F.cmpEntry_ne (PySem.W.check_slot (i := "object.__ne__") (owner := "object") (n := "__ne__") PySem.F.cmpKind_ne PySem.F.cmpSplit_ne (I.type.andThen (PySem.W.looks_mroIn X hm)) (PySem.F.cmpArgs_ne _ _)
      (objNe_K (A := A.in1) X I hs hf hu (wpAny_mono h (fun v s' hv => ?_) fun _ _ e => e))))
    obtain ⟨b, rfl, hq⟩ := hv
    exact ⟨b, rfl, ⟨_, rfl, hq⟩⟩
  have one : wpAny (model prog w) A (tryCompare (.ref x) "__ne__" (.ref y)) (fun r s' => ∃ v, r = some v ∧ Q v s') E s := by
    unfold tryCompare
    refine wpAny_bind (m := callSpecialIfBound? (.ref x) _ _) ?_
    simp only [callSpecialIfBound?, bindSpecialIfBound?]
    refine wpAny_holding (wpAny_bind (wpAny_bind (wpAny_bind (I.type.here ((PySem.W.looks_findIn X hn).here ?_)))))
    simp only [PySem.F.cmp_object.ne.bind]
    refine wpAny_bind (wpAny_askSetting (wpAny_ite ?_))
    have fin : wpAny (model prog w) A (call (.builtin "object.__ne__") ([.ref x] ++ [.ref y]) >>= fun v => pure (some v)) (fun r s' => ∃ b, r = some (.bool b) ∧ Q (.bool b) s') E s :=
      wpAny_bind (wpAny_mono hcall (fun v s' ⟨b, e, q⟩ => wpAny_pure ⟨b, by rw [e], by rw [← e]; exact q⟩) fun _ _ e => e)
    split
    · refine wpAny_bind (wpAny_pure (wpAny_pure (wpAny_mono fin (fun r s' ⟨b, e, q⟩ => ?_) fun _ _ e => e)))
      subst e
      first | exact wpAny_pure ⟨_, rfl, q⟩ | exact wpAny_pure (wpAny_pure ⟨_, rfl, q⟩)
    · refine wpAny_tryCatch (wpAny_bind (wpAny_pure (wpAny_pure (wpAny_mono fin (fun r s' ⟨b, e, q⟩ => ?_) fun _ _ e => e))))
      subst e
      first | exact wpAny_pure ⟨_, rfl, q⟩ | exact wpAny_pure (wpAny_pure ⟨_, rfl, q⟩)
  unfold richCompare
  simp only [oneThing_ref]
  refine wpAny_holding ?_
  refine wpAny_bind (wpAny_cRoomFor (Nat.lt_of_succ_lt hu) ?_)
  rw [cmpInfo_NotEq]
  dsimp only
  refine wpAny_bind (I.type.here (wpAny_bind (hb.here ?_)))
  rw [show (Value.ref C != Value.ref C) = false from by simp]
  simp only [Bool.false_eq_true, if_false]
  refine wpAny_bind (wpAny_pure ?_)
  simp only [Bool.false_eq_true, if_false]
  refine wpAny_bind (wpAny_mono one (fun r s' z => ?_) fun _ _ e => e)
  obtain ⟨v, rfl, hq⟩ := z
  exact wpAny_pure hq
end

section
variable {X : Cx} {CX : CXT} {pins : List (Addr × Obj)} {σ : L2.St} {H : Hp} {s : Shared} {a C dx f : Addr} {fs : List (Str × V)} {n k : Nat} {sp : Sp} {E : XK} {fd : FuncData} {ps : List Str}
theorem run_fnAt {A : Around} {Q : VK} {us : List Value} {vs : List V} (F : FnOk X.prog X.w X.K X.mg X.base CX k f fd ps sp) (hr : Room k A) (e0 : Env0 X.prog X.w X.K X.mg X.base A X.stack s H) (hb : Binds X.K fd ps []) (hx : Passes CX X E)
    (I : Inv X pins σ H s) (r : Vals vs us) (h : sp vs H Q E) : wpAny (model X.prog X.w) A (call (.ref f) us) (EP X pins σ Q) X.xe s := by
  have hl : (us ++ []).length = ps.length := by rw [List.append_nil, ← r.length]; exact F.len _ _ _ _ h
  have hb' := hb s us I.kIn hl
  rw [List.append_nil] at hb'
  refine wpAny_call (codeAny_mono (F.run A X.stack s H ⟨us, []⟩ us vs Q E hr e0 hb' r h) fun r s' hq => ?_)
  cases r with
  | error e => exact hx pins σ H s e s' I hq
  | ok fl =>
    cases fl with
    | ret u => exact I.after hq
    | next => exact False.elim hq
    | brk => exact False.elim hq
    | cont => exact False.elim hq
/-- bool(x), x an instance -/
def rOwnBool (C : Addr) (sp : Sp) (E : XK) : List V → Hp → VK → Prop := fun xs H Q => ∃ a dx fs, xs = [.ref a] ∧ H a = some (.ins C dx fs) ∧ sp [.ref a] H (fun z H' => ∃ b, z = .bl b ∧ Q (.bl b) H') E
theorem call_boolOwn (hs : PySem.W.findIn X.K (.ref C) "__bool__" = some (some (.ref f))) (hf : PySem.W.isFn X.K (.ref f) = true)
    (F : FnOk X.prog X.w X.K X.mg X.base CX k f fd ps sp) (hr : Room (k + 2) X.A) (hb : Binds X.K fd ps []) (hx : Passes CX X E) : CallR X (.type "bool") (rOwnBool C sp E) := by
  intro pins s σ H xs us Q I r h
  obtain ⟨a, dx, fs, rfl, ha, q⟩ := h
  obtain ⟨u, rfl, ru⟩ := vals1 r
  cases (show u = Value.ref a from ru)
  obtain ⟨od, J⟩ := ins_inst I ha
  obtain ⟨m, hF⟩ := I.fr
  have hr2 : Room k X.A.in1.in1 := (show Room (k + 1) X.A.in1 from Room.in1 hr).in1
  refine bool_by (PySem.W.truthy_K hF I.ok.mod.kin J hs hf ?_)
  refine wpAny_mono (run_fnAt (us := [.ref a]) (vs := [.ref a]) F hr2 I.env0.in1.in1 hb hx I (.cons rfl .nil) q) (fun w s' z => ?_) fun _ _ x => x
  obtain ⟨z', H', I', rz, b, ez, qz⟩ := z
  subst ez
  cases (show w = Value.bool b from rz)
  exact ⟨.bl b, H', I', rfl, qz⟩
/-- x != y by the own == -/
def rOwnNe (C : Addr) (sp : Sp) (E : XK) : R2 := fun x y H Q => ∃ a dx fs b dy gs, x = .ref a ∧ y = .ref b ∧ H a = some (.ins C dx fs) ∧ H b = some (.ins C dy gs) ∧ sp [x, y] H (fun z H' => ∃ k, z = .bl k ∧ Q (.bl (!k)) H') E
theorem op_ownNe (hn : PySem.W.findIn X.K (.ref C) "__ne__" = some (some (.builtin "object.__ne__"))) (hm : PySem.W.mroIn X.K C (.type "object") = some true) (hs : PySem.W.findIn X.K (.ref C) "__eq__" = some (some (.ref f))) (hf : PySem.W.isFn X.K (.ref f) = true)
    (F : FnOk X.prog X.w X.K X.mg X.base CX k f fd ps sp) (hr : Room (k + 1) X.A) (hb : Binds X.K fd ps []) (hx : Passes CX X E) : OpR X (compareOp .NotEq) (rOwnNe C sp E) := by
  intro pins s σ H x y v u Q I rx ry h
  obtain ⟨a, dx, fs, b, dy, gs, rfl, rfl, ha, hb', q⟩ := h
  cases (show v = Value.ref a from rx)
  cases (show u = Value.ref b from ry)
  obtain ⟨od, J⟩ := ins_inst I ha
  obtain ⟨od', J'⟩ := ins_inst I hb'
  show wpAny _ _ (richCompare .NotEq _ _) _ _ _
  refine ne_K (hu_of (hr.mono (Nat.le_refl _))) I.kIn J J'.type hn hm hs hf ?_
  refine wpAny_mono (run_fnAt (us := [.ref a, .ref b]) (vs := [.ref a, .ref b]) F hr.in1 I.env0.in1 hb hx I (.cons rfl (.cons rfl .nil)) q) (fun w s' z => ?_) fun _ _ x => x
  obtain ⟨z', H', I', rz, c, ez, qz⟩ := z
  subst ez
  cases (show w = Value.bool c from rz)
  exact ⟨c, rfl, .bl (!c), H', I', rfl, qz⟩
end
end OwnO

set_option Elab.async false
set_option linter.all false
set_option maxRecDepth 100000
set_option maxHeartbeats 2000000
/-! short words for a whole text: a def or class as it stands, the rules over them, what evaluates to what -/
namespace My
open PySem PySem.Spec PyProof.Rows L2 Evl OwnO

/-- a def of the module x keeps sp -/
structure Has (P : Program) (w : World) (K : PySem.W.Frag) (mg : Str → Option Value) (base : Heap) (CX : CXT) (x : Str) (k : Nat) (ps : List Str) (sp : Sp) : Prop where
  ex : ∃ f fd, FnOk P w K mg base CX k f fd ps sp ∧ mg x = some (.ref f) ∧ PySem.W.keepIn K (.ref f) = true ∧ Binds K fd ps []
/-- a method m of the class at C keeps sp -/
structure HasM (P : Program) (w : World) (K : PySem.W.Frag) (mg : Str → Option Value) (base : Heap) (CX : CXT) (C : Addr) (m : Str) (k : Nat) (ps : List Str) (sp : Sp) : Prop where
  ex : ∃ f fd, FnOk P w K mg base CX k f fd ps sp ∧ PySem.W.findIn K (.ref C) m = some (some (.ref f)) ∧ PySem.W.isFn K (.ref f) = true ∧ PySem.W.keepIn K (.ref f) = true ∧ Binds K fd ps []
/-- a class of the module, an ordinary one -/
structure HasC (K : PySem.W.Frag) (mg : Str → Option Value) (x : Str) (C : Addr) : Prop where
  g : mg x = some (.ref C)
  cl : Cls K C
  mks : PySem.W.makesIn K C = true
  kp : PySem.W.keepIn K (.ref C) = true
  ca : PySem.W.findIn K (.ref C) "__class__" = some (some (.builtin "object.__class__"))
  cn : PySem.W.specialIn K (.builtin "object.__class__") "__get__" = some (some (.builtin "getset_descriptor.__get__"))
  ct : PySem.W.takesIn K (.builtin "object.__class__") = some true
  cm : PySem.W.mroIn K C (.type "object") = some true
  sf : PySem.W.selfFirst K C = true
theorem HasC.ty {K : PySem.W.Frag} {mg : Str → Option Value} {x : Str} {C a dx : Addr} {fs : List (Str × V)} {H : Hp} (c : HasC K mg x C) (h : H a = some (.ins C dx fs)) : TyX K H (.ref a) (.ref C) :=
  .base (.ins h c.cl c.ca c.cn c.ct c.cm)

section
variable {X : Cx} {CX : CXT} {k : Nat} {C : Addr} {ps : List Str} {sp : Sp} {E : XK} {x m : Str} {p pos apos : Pos} {e o : Expr} {es : List Expr} {ta : TE} {t : TA}
theorem pe_callH (h : Has X.prog X.w X.K X.mg X.base CX x k ps sp) (hr : Room k X.A) (hx : Passes CX X E) (ha : PA X (e :: es) t) (hg : Gl X x := by rfl)
    (hdb : (x == ("__debug__" : Str)) = false := by decide) (he : starEach (e :: es) X.env = (false, eval e X.env) :: starEach es X.env := by rfl) (hpl : (backTo pos (starEach es X.env)).any (·.1) = false := by rfl) :
    PE X (.Call (.Name x p) (e :: es) [] pos) (tCall sp [] E t) := by
  obtain ⟨f, fd, F, hm, hk, hb⟩ := h.ex
  exact pe_call F hr hg hm hk hb .nil hx ha hdb he hpl
theorem pe_makeH (c : HasC X.K X.mg x C) (h : HasM X.prog X.w X.K X.mg X.base CX C "__init__" k ps sp) (hr : Room (k + 1) X.A) (hx : Passes CX X E) (ha : PA X (e :: es) t) (hg : Gl X x := by rfl)
    (hdb : (x == ("__debug__" : Str)) = false := by decide) (he : starEach (e :: es) X.env = (false, eval e X.env) :: starEach es X.env := by rfl) (hpl : (backTo pos (starEach es X.env)).any (·.1) = false := by rfl) :
    PE X (.Call (.Name x p) (e :: es) [] pos) (tMake C sp [] E t) := by
  obtain ⟨f, fd, F, hm, hi, hk, hb⟩ := h.ex
  exact pe_make ⟨c.mks, hm, hi, c.kp⟩ F hr hg c.g hb .nil hx ha hdb he hpl
theorem pe_methH {pl : Sem Bool} (he : PE X o ta) (c : Cls X.K C) (h : HasM X.prog X.w X.K X.mg X.base CX C m k ps sp) (hr : Room k X.A) (hx : Passes CX X E) (ha : PA X (e :: es) t)
    (hst : starEach (e :: es) X.env = (false, eval e X.env) :: starEach es X.env := by rfl) (hpl : (backTo pos (starEach es X.env)).any (·.1) = false := by rfl)
    (ht : eval (.Call (.Attribute o m apos) (e :: es) [] pos) X.env = (do
      let ov ← eval o X.env
      standAt apos.atName
      let (f, first) ← holding [ov] (getMethod ov m pl)
      callWith pos f first (backTo pos (starEach (e :: es) X.env)) (backToKw pos (keywordEach [] X.env))) := by rfl) :
    PE X (.Call (.Attribute o m apos) (e :: es) [] pos) (tMeth C m sp [] E ta t) := by
  obtain ⟨f, fd, F, hm, hi, hk, hb⟩ := h.ex
  exact pe_meth he c ⟨hm, hi, hk⟩ F hr hb .nil hx ha hst hpl ht
theorem pe_methH0 {pl : Sem Bool} (he : PE X o ta) (c : Cls X.K C) (h : HasM X.prog X.w X.K X.mg X.base CX C m k ps sp) (hr : Room k X.A) (hx : Passes CX X E)
    (ht : eval (.Call (.Attribute o m apos) [] [] pos) X.env = (do
      let ov ← eval o X.env
      standAt apos.atName
      let (f, first) ← holding [ov] (getMethod ov m pl)
      callWith pos f first (backTo pos (starEach [] X.env)) (backToKw pos (keywordEach [] X.env))) := by rfl) :
    PE X (.Call (.Attribute o m apos) [] [] pos) (tMeth C m sp [] E ta tNil) := by
  obtain ⟨f, fd, F, hm, hi, hk, hb⟩ := h.ex
  exact pe_meth0 he c ⟨hm, hi, hk⟩ F hr hb .nil hx ht
theorem op_binH {op : Operator} (c : HasC X.K X.mg x C) (h : HasM X.prog X.w X.K X.mg X.base CX C (PySem.dunder op.info.2) k ps sp) (hr : Room k X.A) (hx : Passes CX X E) : OpR X (binaryOp op) (rOwn2 C sp E) := by
  obtain ⟨f, fd, F, hm, hi, hk, hb⟩ := h.ex
  exact op_ownBin c.sf hm hi F hr hb hx
theorem op_cmpH {op : CmpOp} (hop : ∀ a b, compareOp op a b = richCompare op a b) (h : HasM X.prog X.w X.K X.mg X.base CX C (cmpInfo op).2.1 k ps sp) (hr : Room k X.A) (hx : Passes CX X E) : OpR X (compareOp op) (rOwn2 C sp E) := by
  obtain ⟨f, fd, F, hm, hi, hk, hb⟩ := h.ex
  exact op_ownCmp hop hm hi F hr hb hx
theorem op_inH (h : HasM X.prog X.w X.K X.mg X.base CX C "__contains__" k ps sp) (hr : Room k X.A) (hx : Passes CX X E) : OpR X (compareOp .In) (rOwnIn C sp E) := by
  obtain ⟨f, fd, F, hm, hi, hk, hb⟩ := h.ex
  exact op_ownIn hm hi F hr hb hx
theorem tru_H (h : HasM X.prog X.w X.K X.mg X.base CX C "__bool__" k ps sp) (hr : Room k X.A) (hx : Passes CX X E) : TruR X (rOwnTru C sp E) := by
  obtain ⟨f, fd, F, hm, hi, hk, hb⟩ := h.ex
  exact tru_own hm hi F hr hb hx
theorem call_boolH (h : HasM X.prog X.w X.K X.mg X.base CX C "__bool__" k ps sp) (hr : Room (k + 2) X.A) (hx : Passes CX X E) : CallR X (.type "bool") (rOwnBool C sp E) := by
  obtain ⟨f, fd, F, hm, hi, hk, hb⟩ := h.ex
  exact call_boolOwn hm hi F hr hb hx
theorem op_neH (c : HasC X.K X.mg x C) (hn : PySem.W.findIn X.K (.ref C) "__ne__" = some (some (.builtin "object.__ne__"))) (h : HasM X.prog X.w X.K X.mg X.base CX C "__eq__" k ps sp) (hr : Room (k + 1) X.A) (hx : Passes CX X E) : OpR X (compareOp .NotEq) (rOwnNe C sp E) := by
  obtain ⟨f, fd, F, hm, hi, hk, hb⟩ := h.ex
  exact op_ownNe hn c.cm hm hi F hr hb hx
end

/-! ### what evaluates to what, by a word -/
def EvP (te : TE) (σ : L2.St) (H : Hp) (P : V → Hp → Prop) : Prop := ∀ H1, Ex H H1 → ∀ Q : VK, (∀ v H2, Ex H1 H2 → P v H2 → Q v H2) → te σ H1 Q
def rInt1 : List V → Hp → VK → Prop := fun xs H Q => (∃ i, xs = [.int i] ∧ Q (.int i) H) ∨ ∃ k, xs = [.bl k] ∧ Q (.int (if k then 1 else 0)) H
theorem call_int' {X : Cx} : CallR X (.type "int") rInt1 := call_int1
def rMaxI : List V → Hp → VK → Prop := fun xs H Q => ∃ i j, xs = [.int i, .int j] ∧ Q (.int (if j > i then j else i)) H
def rMinI : List V → Hp → VK → Prop := fun xs H Q => ∃ i j, xs = [.int i, .int j] ∧ Q (.int (if j < i then j else i)) H
theorem call_max' {X : Cx} (hc : X.calm = true) : CallR X (.builtin "max") rMaxI := call_max2 hc
theorem call_min' {X : Cx} (hc : X.calm = true) : CallR X (.builtin "min") rMinI := call_min2 hc
def rLen' (K : PySem.W.Frag) : List V → Hp → VK → Prop := fun xs H Q => ∃ x n, xs = [x] ∧ LenV K x H n ∧ Q (.int n) H
theorem call_len' {X : Cx} : CallR X (.builtin "len") (rLen' X.K) := call_len
section
variable {K : PySem.W.Frag} {σ : L2.St} {H H' : Hp} {ta tb tc te tx : TE} {t u : TT} {x y z v : V} {r r' : R2} {D : Ends} {tu tw tz : TS} {P P' : V → Hp → Prop}
theorem ex_at {a : Addr} {o : HO} (e : Ex H H') (h : H a = some o) : H' a = some o := e a o h
theorem EvP.mono (e : Ex H H') (h : EvP te σ H P) : EvP te σ H' P := fun H1 a Q q => h H1 (e.trans a) Q q
theorem EvP.imp (h : EvP te σ H P) (hp : ∀ v H1, Ex H H1 → P v H1 → P' v H1) : EvP te σ H P' := fun H1 a Q q => h H1 a Q fun v H2 e2 p => q v H2 e2 (hp v H2 (a.trans e2) p)
theorem evp_of (h : Ev te σ H v) : EvP te σ H fun w _ => w = v := fun H1 e Q q => h H1 e Q fun H2 e2 => q v H2 e2 rfl
theorem ev_of (h : EvP te σ H fun w _ => w = v) : Ev te σ H v := fun H1 e Q q => h H1 e Q fun w H2 e2 p => by
  rw [p]
  exact q H2 e2
theorem rc_int {i : Int} : RC rInt1 [.int i] H (.int i) := fun H1 _ _ q => .inl ⟨i, rfl, q H1 (Ex.refl H1)⟩
theorem rc_max {i j : Int} : RC rMaxI [.int i, .int j] H (.int (if j > i then j else i)) := fun H1 _ _ q => ⟨i, j, rfl, q H1 (Ex.refl H1)⟩
theorem rc_min {i j : Int} : RC rMinI [.int i, .int j] H (.int (if j < i then j else i)) := fun H1 _ _ q => ⟨i, j, rfl, q H1 (Ex.refl H1)⟩
theorem ev_int {i : Int} (h : Ev ta σ H (.int i)) : Ev (tCB rInt1 (tCons ta tNil)) σ H (.int i) := ev_cb (ea_cons h ea_nil) rc_int
theorem ev_max {i j : Int} (h : Ev ta σ H (.int i)) (h' : Ev tb σ H (.int j)) : Ev (tCB rMaxI (tCons ta (tCons tb tNil))) σ H (.int (if j > i then j else i)) := ev_cb (ea_cons h (ea_cons h' ea_nil)) rc_max
theorem ev_min {i j : Int} (h : Ev ta σ H (.int i)) (h' : Ev tb σ H (.int j)) : Ev (tCB rMinI (tCons ta (tCons tb tNil))) σ H (.int (if j < i then j else i)) := ev_cb (ea_cons h (ea_cons h' ea_nil)) rc_min
theorem ev_lenL {p : Addr} {xs : List V} (ha : Ev ta σ H (.ref p)) (h : SqL K H p xs) : Ev (tCB (rLen' K) (tCons ta tNil)) σ H (.int (xs.length : Int)) := fun H1 e Q q =>
  ha H1 e _ fun H2 e2 => ⟨.ref p, xs.length, rfl, .inl ⟨xs, ex_l (e.trans e2) h, rfl⟩, q H2 e2⟩
theorem ev_lenT {p : Addr} {xs : List V} (ha : Ev ta σ H (.ref p)) (h : SqT K H p xs) : Ev (tCB (rLen' K) (tCons ta tNil)) σ H (.int (xs.length : Int)) := fun H1 e Q q =>
  ha H1 e _ fun H2 e2 => ⟨.ref p, xs.length, rfl, .inr ⟨xs, ex_t (e.trans e2) h, rfl⟩, q H2 e2⟩
/-- a < b < c -/
theorem ev_chain {b1 b2 : Bool} (ha : Ev ta σ H x) (hb : Ev tb σ H y) (hr : RV r x y H (.bl b1)) (hc : b1 = true → Ev tc σ H z) (hr' : b1 = true → RV r' y z H (.bl b2)) : Ev (tChain r r' ta tb tc) σ H (.bl (b1 && b2)) := fun H1 e Q q =>
  ha H1 e _ fun H2 e2 => hb H2 (e.trans e2) _ fun H3 e3 => hr H3 ((e.trans e2).trans e3) _ fun H4 e4 => ⟨b1, rfl, by
    cases b1 with
    | true =>
      show tc σ H4 _
      exact hc rfl H4 (((e.trans e2).trans e3).trans e4) _ fun H5 e5 => hr' rfl H5 ((((e.trans e2).trans e3).trans e4).trans e5) _ fun H6 e6 => q H6 ((((e2.trans e3).trans e4).trans e5).trans e6)
    | false =>
      show Q (.bl false) H4
      exact q H4 ((e2.trans e3).trans e4)⟩
/-- an attribute of an instance -/
theorem ev_fld {a C dx : Addr} {fs : List (Str × V)} {f : Str} (h : Ev ta σ H (.ref a)) (ho : H a = some (.ins C dx fs)) (hc : Cls K C) (hn : NoAttr K C f) (hl : fs.lookup f = some v) : Ev (tFld K ta f) σ H v := fun H1 e Q q =>
  h H1 e _ fun H2 e2 => ⟨a, C, dx, fs, v, rfl, e2 a _ (e a _ ho), hc, hn, hl, q H2 e2⟩
/-- a call by what its promise gives -/
theorem evp_call {sp : Sp} {dvs vs : List V} {E : XK} {tA : TA} (h : EvA tA σ H vs) (hs : ∀ H1, Ex H H1 → ∀ Q : VK, (∀ v H2, Ex H1 H2 → P v H2 → Q v H2) → sp (vs ++ dvs) H1 Q E) : EvP (tCall sp dvs E tA) σ H P := fun H1 e Q q =>
  h H1 e _ fun H2 e2 => hs H2 (e.trans e2) Q fun v H3 e3 p => q v H3 (e2.trans e3) p
theorem evp_op {P : V → Hp → Prop} (ha : Ev ta σ H x) (hb : Ev tb σ H y) (hr : ∀ H1, Ex H H1 → ∀ Q : VK, (∀ v H2, Ex H1 H2 → P v H2 → Q v H2) → r x y H1 Q) : EvP (tOp r ta tb) σ H P := fun H1 e Q q =>
  ha H1 e _ fun H2 e2 => hb H2 (e.trans e2) _ fun H3 e3 => hr H3 ((e.trans e2).trans e3) Q fun v H4 e4 p => q v H4 ((e2.trans e3).trans e4) p
theorem evp_make {sp : Sp} {dvs vs : List V} {E : XK} {C : Addr} {tA : TA} (h : EvA tA σ H vs) (hs : ∀ H1, Ex H H1 → ∀ x dx, H1 x = none → H1 dx = none → dx ≠ x → ∀ Q : VK, (∀ v H2, Ex H1 H2 → P v H2 → Q v H2) →
    sp (.ref x :: (vs ++ dvs)) (upd (upd H1 dx (.own x)) x (.ins C dx [])) (fun v H2 => v = .non ∧ Q (.ref x) H2) E) : EvP (tMake C sp dvs E tA) σ H P := fun H1 e Q q =>
  h H1 e _ fun H2 e2 => fun x dx hx hdx ne => hs H2 (e.trans e2) x dx hx hdx ne Q fun v H3 e3 p => q v H3 (e2.trans e3) p
theorem evp_if {b : Bool} (h : EvT t σ H b) (h1 : b = true → EvP ta σ H P) (h2 : b = false → EvP tb σ H P) : EvP (tIf t ta tb) σ H P := fun H1 e Q q => h H1 e _ fun H2 e2 => by
  cases b with
  | true =>
    show ta σ H2 Q
    exact h1 rfl H2 (e.trans e2) Q fun v H3 e3 p => q v H3 (e2.trans e3) p
  | false =>
    show tb σ H2 Q
    exact h2 rfl H2 (e.trans e2) Q fun v H3 e3 p => q v H3 (e2.trans e3) p
/-- a test that is a value's truth by an own rule -/
theorem et_truR {b : Bool} {rt : V → Hp → (Bool → Hp → Prop) → Prop} (h : Ev ta σ H x) (hr : ∀ H1, Ex H H1 → ∀ Q : Bool → Hp → Prop, (∀ H2, Ex H1 H2 → Q b H2) → rt x H1 Q) : EvT (tTruR rt ta) σ H b := fun H1 e Q q =>
  h H1 e _ fun H2 e2 => hr H2 (e.trans e2) Q fun H3 e3 => q H3 (e2.trans e3)
/-- statements by a word -/
theorem s_asgP {i : Nat} (h : EvP te σ H P) (k : ∀ v H1, Ex H H1 → P v H1 → D.nx (σ.set i (some v)) H1) : tAsg te (gName i) D σ H := h H (Ex.refl H) _ fun v H1 e p => k v H1 e p
theorem s_retP (h : EvP te σ H P) (k : ∀ v H1, Ex H H1 → P v H1 → D.rt v H1) : tRet te D σ H := h H (Ex.refl H) _ k
theorem s_dropP (h : EvP te σ H P) (k : ∀ v H1, Ex H H1 → P v H1 → D.nx σ H1) : tDrop te D σ H := h H (Ex.refl H) _ fun v H1 e p => k v H1 e p
theorem q_asgP {i : Nat} (h : EvP te σ H P) (k : ∀ v H1, Ex H H1 → P v H1 → tz D (σ.set i (some v)) H1) : tSeq (tAsg te (gName i)) tz D σ H := s_asgP (D := { D with nx := tz D }) h k
/-- an if both of whose ways are told apart -/
theorem q_if' {b : Bool} (h : EvT t σ H b) (h1 : b = true → ∀ H1, Ex H H1 → tu { D with nx := tz D } σ H1) (h2 : b = false → ∀ H1, Ex H H1 → tw { D with nx := tz D } σ H1) : tSeq (tIfS t tu tw) tz D σ H := q_if h h1 h2
theorem s_fld {a C dx : Addr} {fs : List (Str × V)} {f : Str} (hv : Ev te σ H y) (ha : Ev ta σ H (.ref a)) (ho : H a = some (.ins C dx fs)) (hc : Cls K C) (hn : NoAttr K C f) (hl : fs.length < 1000)
    (k : ∀ H1, Ex H H1 → D.nx σ (upd H1 a (.ins C dx (putF f y fs)))) : sFld K ta te f D σ H := hv H (Ex.refl H) _ fun H1 e1 => ha H1 e1 _ fun H2 e2 => ⟨a, C, dx, fs, rfl, (e1.trans e2) a _ ho, hc, hn, hl, k H2 (e1.trans e2)⟩
theorem q_fld {a C dx : Addr} {fs : List (Str × V)} {f : Str} (hv : Ev te σ H y) (ha : Ev ta σ H (.ref a)) (ho : H a = some (.ins C dx fs)) (hc : Cls K C) (hn : NoAttr K C f) (hl : fs.length < 1000)
    (k : ∀ H1, Ex H H1 → tz D σ (upd H1 a (.ins C dx (putF f y fs)))) : tSeq (sFld K ta te f) tz D σ H := s_fld (D := { D with nx := tz D }) hv ha ho hc hn hl k
/-- a value by cases of a test that is an int's comparison -/
theorem ev_ifI {b : Bool} {x y : V} (h : EvT t σ H b) (h1 : Ev ta σ H x) (h2 : Ev tb σ H y) : Ev (tIf t ta tb) σ H (if b = true then x else y) := ev_if h (fun e => by rw [e]; exact h1) (fun e => by rw [e]; exact h2)
/-- isinstance -/
theorem ev_isi {c : V} {ty cu : Value} {b : Bool} (ha : Ev ta σ H x) (hb : Ev tb σ H c) (hc : ClsV c cu) (ht : ∀ H1, Ex H H1 → TyX K H1 x ty) (hk : PySem.W.kitOne K ty cu = some b) : Ev (tCB (rIsi K) (tCons ta (tCons tb tNil))) σ H (.bl b) := fun H1 e Q q =>
  ha H1 e _ fun H2 e2 => hb H2 (e.trans e2) _ fun H3 e3 => ⟨x, c, ty, cu, b, rfl, hc, ht H3 ((e.trans e2).trans e3), hk, q H3 (e2.trans e3)⟩
theorem kit_self {K : PySem.W.Frag} {t : Value} : PySem.W.kitOne K t t = some true := by
  unfold PySem.W.kitOne
  rw [if_pos (beq_self_eq_true _)]
theorem ev_isi_int {i : Int} (ha : Ev ta σ H (.int i)) (hb : Ev tb σ H (.ty "int")) : Ev (tCB (rIsi K) (tCons ta (tCons tb tNil))) σ H (.bl true) := ev_isi ha hb (.ty _) (fun _ _ => .base (.int i)) kit_self
theorem ev_isi_ib {i : Int} (ha : Ev ta σ H (.int i)) (hb : Ev tb σ H (.ty "bool")) : Ev (tCB (rIsi K) (tCons ta (tCons tb tNil))) σ H (.bl false) := ev_isi ha hb (.ty _) (fun _ _ => .base (.int i)) (kit_ty (by decide +kernel))
theorem ev_isi_own {a C dx : Addr} {fs : List (Str × V)} {mg : Str → Option Value} {n : Str} (c : HasC K mg n C) (h : H a = some (.ins C dx fs)) (ha : Ev ta σ H (.ref a)) (hb : Ev tb σ H (.ref C)) : Ev (tCB (rIsi K) (tCons ta (tCons tb tNil))) σ H (.bl true) :=
  ev_isi ha hb (.own _) (fun _ e => c.ty (e a _ h)) kit_self
theorem ev_isi_lst {a : Addr} {xs : List V} (h : H a = some (.lst xs)) (ha : Ev ta σ H (.ref a)) (hb : Ev tb σ H (.ty "list")) : Ev (tCB (rIsi K) (tCons ta (tCons tb tNil))) σ H (.bl true) := ev_isi ha hb (.ty _) (fun _ e => .base (.lst (e a _ h))) kit_self
theorem ev_isi_tup {a : Addr} {xs : List V} (h : H a = some (.tup xs)) (ha : Ev ta σ H (.ref a)) (hb : Ev tb σ H (.ty "tuple")) : Ev (tCB (rIsi K) (tCons ta (tCons tb tNil))) σ H (.bl true) := ev_isi ha hb (.ty _) (fun _ e => .base (.tup (e a _ h))) kit_self
end
end My

set_option Elab.async false
set_option linter.all false
set_option maxRecDepth 100000
set_option maxHeartbeats 2000000
/-! several except clauses, some with a name; calls and operators that may raise, at the caller's slots -/
namespace My
open PySem PySem.Spec PyProof.Rows L2 Evl OwnO
abbrev SuiteT := Addr → Value → Option Addr → TS
/-- the ends of a suite whose clause has a name in slot i -/
def unEnds (D : Ends) (i : Nat) : Ends := { nx := fun σ' H' => D.nx (σ'.set i none) H', rt := D.rt, bk := fun σ' H' => D.bk (σ'.set i none) H', ct := fun σ' H' => D.ct (σ'.set i none) H' }
def wManyN (K : PySem.W.Frag) (Wout : WX) (D : Ends) : List (Value × Option Nat × SuiteT) → WX
  | [] => Wout
  | (c, none, ts) :: r => fun cls d σ H => ∃ b, PySem.W.exmOne K cls c = some b ∧ (b = true → ∀ a, H a = none → ts a cls d D σ H) ∧ (b = false → wManyN K Wout D r cls d σ H)
  | (c, some i, ts) :: r => fun cls d σ H => ∃ b, PySem.W.exmOne K cls c = some b ∧ (b = true → ∀ a, H a = none → ts a cls d (unEnds D i) (σ.set i (some (.ref a))) H) ∧ (b = false → wManyN K Wout D r cls d σ H)
inductive HdsN (X : Cx) : List ExceptHandler → List (Value × Option Nat × SuiteT) → Prop
  | nil : HdsN X [] []
  | cons {x : Str} {c : Value} {ts : SuiteT} {b₀ : Stmt} {suite : List Stmt} {np pos' : Pos} {hds : List ExceptHandler} {l : List (Value × Option Nat × SuiteT)} (hc : Names X x c)
      (hsu : ∀ (a : Addr) (oe : Obj) (cls : Value) (d : Option Addr) (pn : List (Addr × Obj)), Zc cls d oe → (∃ vs, oe.data = .fields vs) → PSs (X.suite a ((a, oe) :: pn)) (b₀ :: suite) (ts a cls d)) (r : HdsN X hds l) :
      HdsN X (.ExceptHandler (some (.Name x np)) none (b₀ :: suite) pos' :: hds) ((c, none, ts) :: l)
  | consAs {x n : Str} {c : Value} {i : Nat} {ts : SuiteT} {b₀ : Stmt} {suite : List Stmt} {np pos' : Pos} {hds : List ExceptHandler} {l : List (Value × Option Nat × SuiteT)} (hc : Names X x c) (hN : X.N.Nodup) (hi : X.N[i]? = some n) (hln : X.env.kindOf n = some .local)
      (hsu : ∀ (a : Addr) (oe : Obj) (cls : Value) (d : Option Addr) (pn : List (Addr × Obj)), Zc cls d oe → (∃ vs, oe.data = .fields vs) → PSs (X.suite a ((a, oe) :: pn)) (b₀ :: suite) (ts a cls d)) (r : HdsN X hds l) :
      HdsN X (.ExceptHandler (some (.Name x np)) (some n) (b₀ :: suite) pos' :: hds) ((c, some i, ts) :: l)
section
variable {X : Cx} {body : List Stmt} {h₀ : ExceptHandler} {hds : List ExceptHandler} {l : List (Value × Option Nat × SuiteT)} {pos : Pos} {tb : WX → TS} {Wout : WX}
theorem ps_tryN (hs : X.stack = X.env :: X.outer) (hf : X.env.frame = some X.env.locals) (tk : Takes X Wout)
    (hb : ∀ (W : WX) (pn : List (Addr × Obj)) (xe : Value → Shared → Prop), Takes (X.tr pn xe) W → PassesOwn (model X.prog X.w) X.A X.env xe → PSs (X.tr pn xe) body (tb W))
    (hh : HdsN X (h₀ :: hds) l) : PS X (.Try body (h₀ :: hds) [] [] pos) (fun D σ H => tb (wManyN X.K Wout D l) D σ H) := by
  refine ⟨fun pins s σ H D I h => ?_⟩
  have ok := I.ok
  have hfr : X.A.frames = some (X.env :: X.outer) := by rw [ok.frames, hs]
  refine wpAny_Try_except ?_
  refine wpAny_mono ((hb (wManyN X.K Wout D l) (X.pn ++ pins) (fun e s₁ => wpAny (model X.prog X.w) X.A (noteFrame e X.env) (fun _ s₂ => wpAny (model X.prog X.w) X.A (setFlight e none) (fun _ s₃ =>
    wpAny (model X.prog X.w) X.A (handleBy e X.env (h₀ :: hds)) (SP X pins D) X.xe s₃) X.xe s₂) X.xe s₁) (fun u s' xx => ?_) PassesOwn.looking).run [] s σ H D (I.toTry _) h) (fun f s1 hsp => ?_) (fun e s1 he => he)
  · obtain ⟨a, B, sI, pins', σ', H', cls, d, rfl, J', nb, up, sky, na, os, ag, w⟩ := xx
    have J : Inv X pins σ' H' sI := J'.ofTry ok
    have sky' : Sky B (X.env :: X.outer) a (Zc cls d) X.env.locals s'.heap := by rw [← hs]; exact sky
    show wpAny (model X.prog X.w) X.A (noteFrame (.ref a) X.env) _ _ _
    refine Sky.land Zc.steady hfr hf sky' fun h3 fl3 up3 => ?_
    have J3 : Inv X pins σ' H' { s' with heap := h3 } := J.landed nb fl3.1 (up.trans up3) os ag
    obtain ⟨oe3, vs3, he3, hz3, hd3⟩ := fl3.there
    have notFr : ∀ {h : Heap} {o : Obj} {vs : Array Value}, h.FunFrames B (X.env :: X.outer) → h.get? a = some o → o.data = .fields vs → a ∉ frs (X.env :: X.outer) := fun {h o vs} ff e dd hm => by
      obtain ⟨_, o', e', hnf⟩ := ff.mem hm
      rw [e] at e'; cases e'
      exact hnf _ dd
    have nfr := notFr fl3.2.2.1 he3 hd3
    have nL : a ≠ X.env.locals := fun z => nfr (List.mem_filterMap.mpr ⟨X.env, List.mem_cons_self, by rw [hf, z]⟩)
    have nF : a ∉ X.fs := fun hm => by
      obtain ⟨e, he, q⟩ := List.mem_filterMap.mp hm
      exact nfr (List.mem_filterMap.mpr ⟨e, List.mem_cons_of_mem _ he, q⟩)
    have S3 := J3.suite he3 hd3 na nL nF
    have go : ∀ {hds' : List ExceptHandler} {l' : List (Value × Option Nat × SuiteT)}, HdsN X hds' l' → wManyN X.K Wout D l' cls d σ' H' →
        wpAny (model X.prog X.w) X.A (handleBy (.ref a) X.env hds') (SP X pins D) X.xe { s' with heap := h3 } := by
      intro hds' l' hk
      induction hk with
      | nil =>
        intro w
        refine wpAny_handleBy_nil ?_
        obtain ⟨k1, k2, k3, oe, vs, T, oT, ts', he, hz, hd, h1, hr⟩ := id fl3
        unfold PySem.passOn
        refine wpAny_bind (wpAny_field he hd h1 ?_)
        rw [if_neg (show ¬ ((Value.ref T == Value.none) = true) from by simp)]
        have fin : wpAny (model X.prog X.w) X.A (setFlight (.ref a) X.env.frame) (fun _ s4 => wpAny (model X.prog X.w) X.A (throw (.ref a) : Sem Flow) (SP X pins D) X.xe s4) X.xe { s' with heap := h3 } := by
          rw [hf]
          refine HandSPX.setFlight_upZ fl3 fun h4 hh4 up4 => wpAny_throw (tk _ _ ?_)
          exact ⟨a, B, sI, pins, σ', H', cls, d, rfl, J, nb, (up.trans up3).trans up4, .inr (.inr (by rw [hs]; exact hh4)), na, os, ag, w⟩
        first
          | exact wpAny_bind (wpAny_pure (wpAny_bind fin))
          | exact wpAny_bind fin
      | @cons x c ts b₀ suite np pos' hds2 l2 hc hsu r ih =>
        intro w
        obtain ⟨b, hb1, hyes, hno⟩ := w
        refine wpAny_handleBy_cons (codeAny_handlers_test ?_) (by intro q; cases q)
        have LT : PySem.W.Looks (model X.prog X.w) h3 (typeOf (.ref a)) cls := fun A Q E s k q => wpAny_typeOf_ref (k _ _ he3) (by rw [hz3.1]; exact q)
        have LM := PySem.W.exm_one (M := model X.prog X.w) (J3.kIn) LT hb1
        have test : ∀ {Q : Value → Shared → Prop} {E : Value → Shared → Prop}, Q c { s' with heap := h3 } → wpAny (model X.prog X.w) (X.A.mark (some (.ref a))) (eval (.Name x np) X.env) Q E { s' with heap := h3 } := fun {Q E} q => by
          obtain ⟨hg, hdbg, hm | ⟨hm, hv, hnn⟩⟩ := hc
          · exact ld_glob (X := X.suite a ((a, oe3) :: (X.pn ++ pins))) S3 hg hm q hdbg
          · exact ld_blt (X := X.suite a ((a, oe3) :: (X.pn ++ pins))) S3 hg hm hv q hnn hdbg
        refine test (LM.here ?_)
        cases b with
        | true =>
          refine codeAny_handlers_suite ?_
          refine HandSPX.lands_againZ fl3 fun h4 fl4 up4 => ?_
          have J4 : Inv X pins σ' H' { s' with heap := h4 } := J.landed nb fl4.1 ((up.trans up3).trans up4) os ag
          obtain ⟨oe4, vs4, he4, hz4, hd4⟩ := fl4.there
          have S4 := J4.suite he4 hd4 na nL nF
          refine wpAny_mono ((hsu a oe4 cls d (X.pn ++ pins) hz4 ⟨_, hd4⟩).run [] _ _ H' _ S4 (hyes rfl a na)) (fun f s6 hsp => ?_) (fun _ _ z => False.elim z)
          cases f with
          | next =>
            obtain ⟨σ6, H6, S6, q6⟩ := hsp
            exact ⟨_, _, S6.unsuite ok, q6⟩
          | brk =>
            obtain ⟨σ6, H6, S6, q6⟩ := hsp
            exact ⟨_, _, S6.unsuite ok, q6⟩
          | cont =>
            obtain ⟨σ6, H6, S6, q6⟩ := hsp
            exact ⟨_, _, S6.unsuite ok, q6⟩
          | ret u =>
            obtain ⟨v6, σ6, H6, S6, r6, q6⟩ := hsp
            exact ⟨_, _, _, S6.unsuite ok, r6, q6⟩
        | false =>
          show wpAny _ X.A (handleBy (.ref a) X.env hds2) _ _ _
          exact ih (hno rfl)
      | @consAs x n c i ts b₀ suite np pos' hds2 l2 hc hN hi hln hsu r ih =>
        intro w
        obtain ⟨b, hb1, hyes, hno⟩ := w
        refine wpAny_handleBy_cons (codeAny_handlers_test ?_) (by intro q; cases q)
        have LT : PySem.W.Looks (model X.prog X.w) h3 (typeOf (.ref a)) cls := fun A Q E s k q => wpAny_typeOf_ref (k _ _ he3) (by rw [hz3.1]; exact q)
        have LM := PySem.W.exm_one (M := model X.prog X.w) (J3.kIn) LT hb1
        have test : ∀ {Q : Value → Shared → Prop} {E : Value → Shared → Prop}, Q c { s' with heap := h3 } → wpAny (model X.prog X.w) (X.A.mark (some (.ref a))) (eval (.Name x np) X.env) Q E { s' with heap := h3 } := fun {Q E} q => by
          obtain ⟨hg, hdbg, hm | ⟨hm, hv, hnn⟩⟩ := hc
          · exact ld_glob (X := X.suite a ((a, oe3) :: (X.pn ++ pins))) S3 hg hm q hdbg
          · exact ld_blt (X := X.suite a ((a, oe3) :: (X.pn ++ pins))) S3 hg hm hv q hnn hdbg
        refine test (LM.here ?_)
        cases b with
        | true =>
          refine codeAny_handlers_suite_as ?_
          refine HandSPX.lands_againZ fl3 fun h4 fl4 up4 => ?_
          have J4 : Inv X pins σ' H' { s' with heap := h4 } := J.landed nb fl4.1 ((up.trans up3).trans up4) os ag
          obtain ⟨oe4, vs4, he4, hz4, hd4⟩ := fl4.there
          have S4 := J4.suite he4 hd4 na nL nF
          refine store_ok (X := X.suite a ((a, oe4) :: (X.pn ++ pins))) (v := .ref a) S4 hN hi (.inl hln) rfl (fun s5 S5 => ?_) (.inr hln)
          refine wpAny_mono ((hsu a oe4 cls d (X.pn ++ pins) hz4 ⟨_, hd4⟩).run [] s5 _ H' _ S5 (hyes rfl a na)) (fun f s6 hsp => ?_) (fun _ _ z => False.elim z)
          have end_ : ∀ {σ6 : L2.St} {H6 : Hp} {Q : Shared → Prop}, Inv (X.suite a ((a, oe4) :: (X.pn ++ pins))) [] σ6 H6 s6 → (∀ s7, Inv X pins (σ6.set i none) H6 s7 → Q s7) →
              wpAny (model X.prog X.w) X.A (do bindName X.env n .none; unbindBehindTheSuite X.env n pos') (fun _ s7 => Q s7) X.xe s6 := fun {σ6 H6 Q} S6 hq => gone_ok (S6.unsuite ok) hN hi hln hq
          cases f with
          | next =>
            obtain ⟨σ6, H6, S6, q6⟩ := hsp
            exact end_ S6 fun s7 J7 => ⟨_, _, J7, q6⟩
          | brk =>
            obtain ⟨σ6, H6, S6, q6⟩ := hsp
            exact end_ S6 fun s7 J7 => ⟨_, _, J7, q6⟩
          | cont =>
            obtain ⟨σ6, H6, S6, q6⟩ := hsp
            exact end_ S6 fun s7 J7 => ⟨_, _, J7, q6⟩
          | ret u =>
            obtain ⟨v6, σ6, H6, S6, r6, q6⟩ := hsp
            exact end_ S6 fun s7 J7 => ⟨_, _, _, J7, r6, q6⟩
        | false =>
          show wpAny _ X.A (handleBy (.ref a) X.env hds2) _ _ _
          exact ih (hno rfl)
    exact go hh w
  · cases f with
    | next =>
      obtain ⟨σ', H', J', q⟩ := hsp
      exact wpAny_execs_nil ⟨σ', H', J'.ofTry ok, q⟩
    | brk =>
      obtain ⟨σ', H', J', q⟩ := hsp
      exact ⟨σ', H', J'.ofTry ok, q⟩
    | cont =>
      obtain ⟨σ', H', J', q⟩ := hsp
      exact ⟨σ', H', J'.ofTry ok, q⟩
    | ret u =>
      obtain ⟨v, σ', H', J', r, q⟩ := hsp
      exact ⟨v, σ', H', J'.ofTry ok, r, q⟩
end

/-! ### calls that may raise, the wish at the slots -/
def tMethS (C : Addr) (m : Str) (sp : Sp) (E : L2.St → XK) (ta : TE) (t : TA) : TE := fun σ H Q => ta σ H fun x H1 => ∃ a dx fs, x = .ref a ∧ H1 a = some (.ins C dx fs) ∧ fs.lookup m = none ∧ t σ H1 fun vs H2 => sp (x :: vs) H2 Q (E σ)
def tBinS (C : Addr) (sp : Sp) (E : L2.St → XK) (ta tb : TE) : TE := fun σ H Q => ta σ H fun x H1 => tb σ H1 fun y H2 => ∃ a dx fs b dy gs, x = .ref a ∧ y = .ref b ∧ H2 a = some (.ins C dx fs) ∧ H2 b = some (.ins C dy gs) ∧ sp [x, y] H2 Q (E σ)
section
variable {X : Cx} {CX : CXT} {k : Nat} {C : Addr} {ps : List Str} {sp : Sp} {E : L2.St → XK} {x m : Str} {p pos apos : Pos} {e o : Expr} {es : List Expr} {ta tb : TE} {t : TA}
theorem pe_callHS (h : Has X.prog X.w X.K X.mg X.base CX x k ps sp) (hr : Room k X.A) (hx : ∀ σ, PassesAt CX X σ (E σ)) (ha : PA X (e :: es) t) (hg : Gl X x := by rfl)
    (hdb : (x == ("__debug__" : Str)) = false := by decide) (he : starEach (e :: es) X.env = (false, eval e X.env) :: starEach es X.env := by rfl) (hpl : (backTo pos (starEach es X.env)).any (·.1) = false := by rfl) :
    PE X (.Call (.Name x p) (e :: es) [] pos) (tCallS sp E t) := by
  obtain ⟨f, fd, F, hm, hk, hb⟩ := h.ex
  exact pe_callS F hr hg hm hk hb hx ha hdb he hpl
theorem pe_methHS {pl : Sem Bool} (he : PE X o ta) (c : Cls X.K C) (h : HasM X.prog X.w X.K X.mg X.base CX C m k ps sp) (hr : Room k X.A) (hx : ∀ σ, PassesAt CX X σ (E σ)) (ha : PA X (e :: es) t)
    (hst : starEach (e :: es) X.env = (false, eval e X.env) :: starEach es X.env := by rfl) (hpl : (backTo pos (starEach es X.env)).any (·.1) = false := by rfl)
    (ht : eval (.Call (.Attribute o m apos) (e :: es) [] pos) X.env = (do
      let ov ← eval o X.env
      standAt apos.atName
      let (f, first) ← holding [ov] (getMethod ov m pl)
      callWith pos f first (backTo pos (starEach (e :: es) X.env)) (backToKw pos (keywordEach [] X.env))) := by rfl) :
    PE X (.Call (.Attribute o m apos) (e :: es) [] pos) (tMethS C m sp E ta t) := by
  obtain ⟨f, fd, F, hmm, hi, hk, hb⟩ := h.ex
  have hm : Meth X.K C m f := ⟨hmm, hi, hk⟩
  refine ⟨fun pins s σ H Q I h => ?_⟩
  refine PySem.W.methodCall_KW (pl := pl) (thn (he.run pins s σ H _ I h) fun u s1 ⟨x, H1, I1, rx, a, dx, fs, ex, ea, l, q⟩ => ?_) ht
  subst ex
  obtain rfl : u = Value.ref a := rx
  refine getmeth_ok I1 ea c hm l ?_
  refine PySem.W.callWith_K (first := [.ref a]) (h₀ := X.base) I.ok.mod.kin hm.kp (thn (ha.run pos pins s1 σ H1 _ I1 q) fun us s2 ⟨vs, H2, I2, r, q2⟩ => ⟨I2.kIn, ?_⟩) hst hpl
  exact run_fnS (us := .ref a :: us) (vs := .ref a :: vs) F hr hb (hx σ) I2 (.cons rfl r) q2
theorem pe_binHS {a b : Expr} {op : Operator} {nm : Str} (c : HasC X.K X.mg nm C) (h : HasM X.prog X.w X.K X.mg X.base CX C (PySem.dunder op.info.2) k ps sp) (hr : Room k X.A) (hx : ∀ σ, PassesAt CX X σ (E σ)) (ha : PE X a ta) (hb : PE X b tb) :
    PE X (.BinOp a op b pos) (tBinS C sp E ta tb) := by
  obtain ⟨f, fd, F, hm, hi, hk, hbb⟩ := h.ex
  refine ⟨fun pins s σ H Q I h => ?_⟩
  refine wpAny_BinOp (binT ha hb I h fun v u s2 x y H2 I2 rx ry q => ?_)
  obtain ⟨a, dx, fs, b, dy, gs, rfl, rfl, ha', hb', q⟩ := q
  cases (show v = Value.ref a from rx)
  cases (show u = Value.ref b from ry)
  obtain ⟨od, J⟩ := ins_inst I2 ha'
  obtain ⟨od', J'⟩ := ins_inst I2 hb'
  obtain ⟨m, hF⟩ := I2.fr
  refine PySem.W.binop_K hF I.ok.mod.kin J J'.type c.sf hm hi ?_
  refine wpAny_mono (run_fnS (us := [.ref a, .ref b]) (vs := [.ref a, .ref b]) F hr hbb (hx σ) I2 (.cons rfl (.cons rfl .nil)) q) (fun w s' z => ?_) fun _ _ x => x
  obtain ⟨z', H', I', rz, qz⟩ := z
  exact SlX.cmpback rz ⟨z', H', I', rz, qz⟩
end
/-- isinstance(e, c) in a suite, whatever the exception's class -/
def rIsE' (K : PySem.W.Frag) (cls : Value) (d : Option Addr) (D a : Addr) : List V → Hp → VK → Prop := fun xs H Q => cls = .ref D ∧ d = none ∧ rIsE K D a xs H Q
theorem call_isE' {X : Cx} {a D : Addr} {cls : Value} {d : Option Addr} {oe : Obj} {pn : List (Addr × Obj)} (C : ExcC X.K D) (hz : Zc cls d oe) (hf : ∃ vs, oe.data = .fields vs) : CallR (X.suite a ((a, oe) :: pn)) (.builtin "isinstance") (rIsE' X.K cls d D a) := by
  intro pins s σ H xs us Q I r h
  obtain ⟨rfl, rfl, h⟩ := h
  exact call_isE C hz hf pins s σ H xs us Q I r h
/-- an error class of the module -/
structure ErrC (K : PySem.W.Frag) (mg : Str → Option Value) (x : Str) (C : Addr) : Prop where
  g : mg x = some (.ref C)
  xi : PySem.W.excIn K C [.type "ValueError", .type "Exception", .type "BaseException", .type "object"] "ValueError.__new__" = true
  kp : PySem.W.keepIn K (.ref C) = true
  sb : PySem.W.subIn K (.ref C) (.type "BaseException") = some true
  ty : PySem.W.typeIn K (.ref C) = some (.type "type")

/-! ### arguments, tuples, lists, comprehensions by a word -/
def MonV (P : V → Hp → Prop) : Prop := ∀ v H1 H2, Ex H1 H2 → P v H1 → P v H2
def MonL (P : List V → Hp → Prop) : Prop := ∀ v H1 H2, Ex H1 H2 → P v H1 → P v H2
def EvAP (ta : TA) (σ : L2.St) (H : Hp) (P : List V → Hp → Prop) : Prop := ∀ H1, Ex H H1 → ∀ Q : List V → Hp → Prop, (∀ vs H2, Ex H1 H2 → P vs H2 → Q vs H2) → ta σ H1 Q
section
variable {K : PySem.W.Frag} {σ : L2.St} {H H' : Hp} {ta tb tc te tx tl : TE} {tA tr : TA} {t u tt : TT} {x y z v : V} {r r' : R2} {D : Ends} {tu tw tz : TS} {P P' : V → Hp → Prop} {R R' : List V → Hp → Prop}
theorem eap_nil : EvAP tNil σ H fun vs _ => vs = [] := fun H1 _ _ q => q [] H1 (Ex.refl H1) rfl
theorem eap_cons (hm : MonV P) (h : EvP te σ H P) (hr : EvAP tr σ H R) : EvAP (tCons te tr) σ H fun vs H => ∃ v r, vs = v :: r ∧ P v H ∧ R r H := fun H1 e Q q =>
  h H1 e _ fun v H2 e2 p => hr H2 (e.trans e2) _ fun vs H3 e3 pr => q _ H3 (e2.trans e3) ⟨v, vs, rfl, hm v H2 H3 e3 p, pr⟩
theorem eap_of {vs : List V} (h : EvA tA σ H vs) : EvAP tA σ H fun ws _ => ws = vs := fun H1 e Q q => h H1 e Q fun H2 e2 => q vs H2 e2 rfl
theorem EvAP.imp (h : EvAP tA σ H R) (hp : ∀ vs H1, Ex H H1 → R vs H1 → R' vs H1) : EvAP tA σ H R' := fun H1 a Q q => h H1 a Q fun v H2 e2 p => q v H2 e2 (hp v H2 (a.trans e2) p)
theorem evp_tupP (h : EvAP tA σ H R) (hm : MonL R) (hl : ∀ vs H, R vs H → vs.length ≤ 100000) : EvP (tTup tA) σ H fun v H => ∃ p vs, v = .ref p ∧ H p = some (.tup vs) ∧ R vs H := fun H1 e Q q =>
  h H1 e _ fun vs H2 e2 p => ⟨sz_of (hl vs H2 p), fun a ha => q _ _ (e2.trans (Ex.new ha)) ⟨a, vs, rfl, upd_same, hm vs _ _ (Ex.new ha) p⟩⟩
theorem evp_lstP (h : EvAP tA σ H R) (hm : MonL R) (hl : ∀ vs H, R vs H → vs.length ≤ 100000) : EvP (tLst tA) σ H fun v H => ∃ p vs, v = .ref p ∧ H p = some (.lst vs) ∧ R vs H := fun H1 e Q q =>
  h H1 e _ fun vs H2 e2 p => ⟨sz_of (hl vs H2 p), fun a ha => q _ _ (e2.trans (Ex.new ha)) ⟨a, vs, rfl, upd_same, hm vs _ _ (Ex.new ha) p⟩⟩
theorem evp_tup {vs : List V} (h : EvA tA σ H vs) (hl : vs.length ≤ 100000) : EvP (tTup tA) σ H fun v H => ∃ p, v = .ref p ∧ H p = some (.tup vs) := fun H1 e Q q =>
  h H1 e _ fun H2 e2 => ⟨sz_of hl, fun a ha => q _ _ (e2.trans (Ex.new ha)) ⟨a, rfl, upd_same⟩⟩
theorem evp_lst {vs : List V} (h : EvA tA σ H vs) (hl : vs.length ≤ 100000) : EvP (tLst tA) σ H fun v H => ∃ p, v = .ref p ∧ H p = some (.lst vs) := fun H1 e Q q =>
  h H1 e _ fun H2 e2 => ⟨sz_of hl, fun a ha => q _ _ (e2.trans (Ex.new ha)) ⟨a, rfl, upd_same⟩⟩
/-- a word of each item of a list -/
def Items (S : Nat → V → Hp → Prop) (n : Nat) (ys : List V) (H : Hp) : Prop := ys.length = n ∧ ∀ i y, ys[i]? = some y → S i y H
theorem Items.mono {S : Nat → V → Hp → Prop} (hm : ∀ i, MonV (S i)) {n : Nat} {ys : List V} (e : Ex H H') (h : Items S n ys H) : Items S n ys H' := ⟨h.1, fun i y hi => hm i y H H' e (h.2 i y hi)⟩
/-- a word that no list's change touches -/
def MutV (P : V → Hp → Prop) : Prop := ∀ v H (a : Addr) (xs ys : List V), H a = some (.lst xs) → P v H → P v (upd H a (.lst ys))
theorem mut_ins {C a dx p : Addr} {fs : List (Str × V)} {xs ys : List V} (h : H a = some (.lst xs)) (hp : H p = some (.ins C dx fs)) : upd H a (.lst ys) p = some (.ins C dx fs) := by
  rw [upd_ne (fun z => by rw [z, h] at hp; cases hp)]
  exact hp
theorem mut_tup {a p : Addr} {us xs ys : List V} (h : H a = some (.lst xs)) (hp : H p = some (.tup us)) : upd H a (.lst ys) p = some (.tup us) := by
  rw [upd_ne (fun z => by rw [z, h] at hp; cases hp)]
  exact hp
/-- [e for x in xs] over a list that stands, each new item by a word -/
theorem evp_lc {a : Addr} {xs : List V} {j : Nat} {vs : List Nat} (S : Nat → V → Hp → Prop) (hm : ∀ i, MonV (S i)) (hu : ∀ i, MutV (S i)) (h : Ev tl σ H (.ref a)) (hx : SqL K H a xs) (hz : xs.length ≤ 40000) (hw : ∀ x, wipe ((wipe σ vs).set j (some x)) vs = wipe σ vs)
    (he : ∀ (i : Nat) (x : V) H1, Ex H H1 → xs[i]? = some x → EvP te ((wipe σ vs).set j (some x)) H1 (S i)) :
    EvP (tLc (iList K tl) (gName j) tYes te vs) σ H fun v H => ∃ p ys, v = .ref p ∧ H p = some (.lst ys) ∧ Items S xs.length ys H := fun H0 e Q q => h H0 e _ fun H1 e1 => ⟨a, rfl, ⟨xs, ex_l (e.trans e1) hx⟩, fun Dl hD =>
  lc_list (xs := xs) (fun i H' => H1 Dl = none ∧ Ex H1 H' ∧ ∃ ys, H' Dl = some (.lst ys) ∧ Items S i ys H') ⟨hD, Ex.new hD, [], upd_same, rfl, fun i y hi => by simp at hi⟩ (fun i H' _ p => ex_l ((e.trans e1).trans p.2.1) hx)
    (fun i x H' hi ⟨p1, p2, ys, p3, p4⟩ => ⟨hw x, he i x H' ((e.trans e1).trans p2) hi H' (Ex.refl H') _ fun y H4 e4 hy => ⟨ys, e4 Dl _ p3, sz_lt (by have := (List.getElem?_eq_some_iff.mp hi).1; have := p4.1; omega), p1, Ex.mut (p2.trans e4) p1, ys ++ [y], upd_same, by rw [List.length_append, p4.1]; rfl, fun k w hk => by
      have hd := e4 Dl _ p3
      refine hu k w H4 Dl ys _ hd ?_
      rcases Nat.lt_or_ge k ys.length with c | c
      · rw [List.getElem?_append_left c] at hk
        exact hm k w H' H4 e4 (p4.2 k w hk)
      · rw [List.getElem?_append_right c] at hk
        have hk0 : k - ys.length = 0 := by
          rcases Nat.eq_zero_or_pos (k - ys.length) with z | z
          · exact z
          · rw [List.getElem?_eq_none (by simp; omega)] at hk
            cases hk
        rw [hk0] at hk
        have ew : y = w := by simpa using hk
        have ek : k = i := by have := p4.1; omega
        rw [ek, ← ew]
        exact hy⟩⟩)
    (fun H' ⟨p1, p2, ys, p3, p4⟩ => q _ H' (e1.trans p2) ⟨Dl, ys, rfl, p3, p4⟩)⟩
/-! ### the same for sequences compared -/
theorem eqv2 (a b c d : Int) : PyData.eqv (.tuple [.int a, .int b]) (.tuple [.int c, .int d]) = (decide (a = c) && decide (b = d)) := by
  have h1 : (a == c) = decide (a = c) := rfl
  have h2 : (b == d) = decide (b = d) := rfl
  simp only [PyData.eqv, PyData.eqvAll, Bool.and_true]
  first | rfl | rw [h1, h2]
theorem dp2 {p : Addr} {a b : Int} (h : SqT K H p [.int a, .int b]) : Dp K H (.ref p) (.tuple [.int a, .int b]) := .tup h (.cons (.int a) (.cons (.int b) .nil))
theorem shaped2 (a b : Int) : SeqAt.shaped (.tuple [.int a, .int b]) = true := by
  simp [SeqAt.shaped, PyData.canLay0, PyData.canLayAll0, PyData.depth, PyData.depthAll]
theorem rv_eq2 {p q : Addr} {a b c d : Int} (h : SqT K H p [.int a, .int b]) (h' : SqT K H q [.int c, .int d]) : RV (rEqD K) (.ref p) (.ref q) H (.bl (decide (a = c) && decide (b = d))) := fun H1 e Q k =>
  ⟨_, _, dp2 (ex_t e h), dp2 (ex_t e h'), shaped2 a b, shaped2 c d, by rw [eqv2]; exact k H1 (Ex.refl H1)⟩
theorem rv_ne2 {p q : Addr} {a b c d : Int} (h : SqT K H p [.int a, .int b]) (h' : SqT K H q [.int c, .int d]) : RV (rNeD K) (.ref p) (.ref q) H (.bl (!(decide (a = c) && decide (b = d)))) := fun H1 e Q k =>
  ⟨_, _, dp2 (ex_t e h), dp2 (ex_t e h'), shaped2 a b, shaped2 c d, by rw [eqv2]; exact k H1 (Ex.refl H1)⟩
theorem rv_lt2 {p q : Addr} {a b c d : Int} (h : SqT K H p [.int a, .int b]) (h' : SqT K H q [.int c, .int d]) : RV (rLtT K) (.ref p) (.ref q) H (.bl (HT.lexLt [a, b] [c, d])) := fun H1 e Q k =>
  ⟨p, q, [a, b], [c, d], rfl, rfl, ex_t e h, ex_t e h', k H1 (Ex.refl H1)⟩
def leT2 (a b c d : Int) : Bool := Ob.lexAt (fun j => decide (([a, b] : List Int).getD j 0 = ([c, d] : List Int).getD j 0)) (fun j => decide (([a, b] : List Int).getD j 0 ≤ ([c, d] : List Int).getD j 0)) (decide (([a, b] : List Int).length ≤ ([c, d] : List Int).length)) 0 (min ([a, b] : List Int).length ([c, d] : List Int).length)
theorem rv_le2 {p q : Addr} {a b c d : Int} (h : SqT K H p [.int a, .int b]) (h' : SqT K H q [.int c, .int d]) : RV (rLeT K) (.ref p) (.ref q) H (.bl (leT2 a b c d)) := fun H1 e Q k =>
  ⟨p, q, [a, b], [c, d], rfl, rfl, ex_t e h, ex_t e h', k H1 (Ex.refl H1)⟩
end

/-! ### the rules with the written part said by name (within a comprehension's block the context is another, its written part the same) -/
section
variable {X : Cx} {e f1 l tg : Expr} {ta te tl : TE} {pos : Pos} {f : Str}
theorem pe_fldK (K : PySem.W.Frag) (he : PE X e ta) (hb : attributeBase e f X.env (eval e X.env) = eval e X.env := by rfl) (hK : X.K = K := by rfl) : PE X (.Attribute e f pos) (tFld K ta f) := by subst hK; exact pe_fld he hb
theorem ix_listK (K : PySem.W.Frag) (hK : X.K = K := by rfl) : IxR X (rIxL K) := by subst hK; exact ix_list
theorem ix_tupK (K : PySem.W.Frag) (hK : X.K = K := by rfl) : IxR X (rIxT K) := by subst hK; exact ix_tup
theorem sl_listK (K : PySem.W.Frag) (hK : X.K = K := by rfl) : SlR X (rSlL K) := by subst hK; exact sl_list
theorem sl_tupK (K : PySem.W.Frag) (hK : X.K = K := by rfl) : SlR X (rSlT K) := by subst hK; exact sl_tup
theorem op_eqDK (K : PySem.W.Frag) (hu : X.A.units + 64 < cLine) (hK : X.K = K := by rfl) : OpR X (compareOp .Eq) (rEqD K) := by subst hK; exact op_eqD hu
theorem op_neDK (K : PySem.W.Frag) (hu : X.A.units + 64 < cLine) (hK : X.K = K := by rfl) : OpR X (compareOp .NotEq) (rNeD K) := by subst hK; exact op_neD hu
theorem op_ltTK (K : PySem.W.Frag) (hu : X.A.units < cLine) (hK : X.K = K := by rfl) : OpR X (compareOp .Lt) (rLtT K) := by subst hK; exact op_ltT hu
theorem op_leTK (K : PySem.W.Frag) (hu : X.A.units < cLine) (hK : X.K = K := by rfl) : OpR X (compareOp .LtE) (rLeT K) := by subst hK; exact op_leT hu
theorem call_lenK (K : PySem.W.Frag) (hK : X.K = K := by rfl) : CallR X (.builtin "len") (rLen' K) := by subst hK; exact call_len
theorem call_isiK' (K : PySem.W.Frag) (hK : X.K = K := by rfl) : CallR X (.builtin "isinstance") (rIsi K) := by subst hK; exact call_isi
theorem pi_listK (K : PySem.W.Frag) (hl : PE X l tl) (hK : X.K = K := by rfl) : PI X tg l (iList K tl) := by subst hK; exact pi_list hl
theorem pi_tupK (K : PySem.W.Frag) (hl : PE X l tl) (hK : X.K = K := by rfl) : PI X tg l (iTup K tl) := by subst hK; exact pi_tup hl
end
theorem kit_own {K : PySem.W.Frag} {C : Addr} {T : String} {r : Bool} (h : PySem.W.subIn K (.ref C) (.type T) = some r) (hm : PySem.W.kitMeta T = true := by decide +kernel) : PySem.W.kitOne K (.ref C) (.type T) = some r := by
  unfold PySem.W.kitOne PySem.W.kitCls
  rw [if_neg (by simp)]
  simp only [hm, if_true]
  exact h
def rIsNon : R2 := fun x y H Q => y = .non ∧ Q (.bl (decide (x = .non))) H
def rNotNon : R2 := fun x y H Q => y = .non ∧ Q (.bl (!decide (x = .non))) H
theorem op_isNon {X : Cx} : OpR X (compareOp .Is) rIsNon := op_isN
theorem op_notNon {X : Cx} : OpR X (compareOp .IsNot) rNotNon := op_notN
section
variable {K : PySem.W.Frag} {σ : L2.St} {H H' : Hp} {ta tb te : TE} {x y z v : V} {D : Ends} {tu tz : TS} {P : V → Hp → Prop}
theorem rv_isNon : RV rIsNon x .non H (.bl (decide (x = .non))) := fun H1 _ _ q => ⟨rfl, q H1 (Ex.refl H1)⟩
theorem rv_notNon : RV rNotNon x .non H (.bl (!decide (x = .non))) := fun H1 _ _ q => ⟨rfl, q H1 (Ex.refl H1)⟩
/-- two lists put together, both standing, or made on the way -/
theorem evp_cat {l : Addr} {xs zs : List V} (ha : Ev ta σ H (.ref l)) (hl : H l = some (.lst xs)) (hb : EvP tb σ H fun v H => ∃ b, v = .ref b ∧ H b = some (.lst zs)) (hz : xs.length + zs.length ≤ 100000) :
    EvP (tOp rCat ta tb) σ H fun v H => ∃ p, v = .ref p ∧ H p = some (.lst (xs ++ zs)) := fun H1 e Q q =>
  ha H1 e _ fun H2 e2 => hb H2 (e.trans e2) _ fun v H3 e3 ⟨b, eb, hb'⟩ => ⟨l, b, xs, zs, rfl, eb, ((e.trans e2).trans e3) l _ hl, hb', sz_of hz, fun p hp => q _ _ ((e2.trans e3).trans (Ex.new hp)) ⟨p, rfl, upd_same⟩⟩
/-- two operands by words -/
theorem evp_op2 {r : R2} {Pa Pb : V → Hp → Prop} (hm : MonV Pa) (ha : EvP ta σ H Pa) (hb : EvP tb σ H Pb) (hr : ∀ x y H1, Ex H H1 → Pa x H1 → Pb y H1 → ∀ Q : VK, (∀ v H2, Ex H1 H2 → P v H2 → Q v H2) → r x y H1 Q) : EvP (tOp r ta tb) σ H P := fun H1 e Q q =>
  ha H1 e _ fun x H2 e2 px => hb H2 (e.trans e2) _ fun y H3 e3 py => hr x y H3 ((e.trans e2).trans e3) (hm x _ _ e3 px) py Q fun v H4 e4 p => q v H4 ((e2.trans e3).trans e4) p
/-- a call whose arguments are by a word -/
theorem evp_callP {sp : Sp} {dvs : List V} {E : XK} {tA : TA} {R : List V → Hp → Prop} (h : EvAP tA σ H R) (hs : ∀ vs H1, Ex H H1 → R vs H1 → ∀ Q : VK, (∀ v H2, Ex H1 H2 → P v H2 → Q v H2) → sp (vs ++ dvs) H1 Q E) : EvP (tCall sp dvs E tA) σ H P := fun H1 e Q q =>
  h H1 e _ fun vs H2 e2 pv => hs vs H2 (e.trans e2) pv Q fun v H3 e3 p => q v H3 (e2.trans e3) p
end
end My

set_option Elab.async false
set_option linter.all false
set_option maxRecDepth 100000
/-! SetData: sets whose items are tuples of any data (texts, ints, None, tuples): what the model asks of such items, the search, adding, growing. Over L2's words of the table (HandS.TupSets). -/
namespace SD
open PySem PySem.Spec PyProof.Rows L2

/-- the tuple at b is the key k -/
structure Key (h : Heap) (k : NestedKey) (b : Addr) : Prop where
  is : NestedIs h k (.ref b)
  dep : k.depth ≤ 8
theorem Key.obj {h : Heap} {k : NestedKey} {b : Addr} (x : Key h k b) : ∃ o vs n, h.get? b = some o ∧ o.cls = .type "tuple" ∧ o.data = .seq vs n := by
  obtain ⟨x, _⟩ := x
  cases x with
  | tup h1 h2 h3 _ => exact ⟨_, _, _, h1, h2, h3⟩
theorem Key.inj {h : Heap} {k k' : NestedKey} {b : Addr} (x : Key h k b) (y : Key h k' b) : k = k' := NestedIs.inj _ _ _ x.is y.is
theorem Key.more {h h' : Heap} {k : NestedKey} {b : Addr} (x : Key h k b) (hk : ∀ c o, h.get? c = some o → h'.get? c = some o) : Key h' k b := ⟨NestedIs.at (fun _ _ _ _ e _ => hk _ _ e) _ _ x.is, x.dep⟩
/-- while only the set at a changes -/
theorem Key.but {h h' : Heap} {k : NestedKey} {a b : Addr} {o : Obj} {es : Array (Int × Value)} {ep : Nat} {t : SetTable} (x : Key h k b) (ho : h.get? a = some o) (hd : o.data = .set es ep t) (hs : Heap.SameBut a h h') : Key h' k b :=
  ⟨NestedIs.at (fun c o' vs n e z => by
    rw [hs.2 c (fun q => by
      rw [q, ho] at e
      rw [← Option.some.inj e, hd] at z
      exact nomatch z)]
    exact e) _ _ x.is, x.dep⟩

section
variable {P : Program} {w : World} {E : Value → Shared → Prop}
mutual
theorem cls_key : ∀ (k : NestedKey) (v : Value) (n : Nat) (A : Around) (s : Shared) (Q : Bool → Shared → Prop), NestedIs s.heap k v → k.depth ≤ n → Q false s → wpAny (model P w) A (ofAClassStatement n v) Q E s
  | .none, _, n, A, s, Q, x, _, h => by cases x; cases n <;> exact wpAny_pure h
  | .num _, _, n, A, s, Q, x, _, h => by cases x <;> cases n <;> exact wpAny_pure h
  | .text _, _, n, A, s, Q, x, _, h => by cases x; cases n <;> exact wpAny_pure h
  | .tup ks, _, 0, A, s, Q, x, hn, h => by simp [NestedKey.depth] at hn
  | .tup ks, _, n + 1, A, s, Q, x, hn, h => by
    cases x with
    | @tup a o vs m _ hg hc hd hk =>
      unfold ofAClassStatement
      refine wpAny_bind (wpAny_typeOf ⟨_, hg, hc⟩ ?_)
      have e : (("tuple" : String) == "tuple") = true := by decide
      simp only [e, if_true, Bool.not_true, Bool.false_eq_true, if_false]
      refine wpAny_bind (wpAny_pure ?_)
      simp only [Bool.not_true, Bool.false_eq_true, if_false]
      refine wpAny_bind (wpAny_seqItems hg hd ?_)
      dsimp only
      refine wpAny_bind ?_
      show wpAny _ _ (forIn vs _ _) _ _ s
      rw [← Array.forIn_toList]
      refine wpAny_forIn_list _ (fun rest r s' => r.1 = none ∧ s' = s ∧ rest ⊆ vs.toList) _ (fun v rest r s' z => ?_) (fun r s' z => ?_) _ _ ⟨rfl, rfl, fun _ h => h⟩
      · obtain ⟨z1, rfl, z2⟩ := z
        refine wpAny_bind (cls_keys ks vs.toList n A s' hk (by simp only [NestedKey.depth] at hn; omega) v (z2 List.mem_cons_self) _ ?_)
        simp only [Bool.false_eq_true, if_false]
        exact wpAny_pure ⟨rfl, rfl, fun u q => z2 (List.mem_cons_of_mem _ q)⟩
      · obtain ⟨r1, r2⟩ := r
        obtain ⟨z1, rfl, _⟩ := z
        simp only at z1
        subst z1
        exact wpAny_pure h
theorem cls_keys : ∀ (ks : List NestedKey) (vs : List Value) (n : Nat) (A : Around) (s : Shared), NestedAll s.heap ks vs → NestedKey.depthAll ks ≤ n → ∀ v ∈ vs, ∀ (Q : Bool → Shared → Prop), Q false s → wpAny (model P w) A (ofAClassStatement n v) Q E s
  | [], _, _, _, _, x, _, v, hv => by cases x; cases hv
  | k :: ks, _, n, A, s, x, hn, v, hv => fun Q h => by
    simp only [NestedKey.depthAll] at hn
    cases x with
    | cons x1 x2 =>
      rcases List.mem_cons.mp hv with e | hv
      · rw [e]; exact cls_key k _ n A s Q x1 (by omega) h
      · exact cls_keys ks _ n A s x2 (by omega) v hv Q h
end
mutual
/-- whether the hash tells the value: some answer, nothing changed -/
theorem plain_key : ∀ (k : NestedKey) (v : Value) (n : Nat) (A : Around) (s : Shared) (Q : Bool → Shared → Prop), NestedIs s.heap k v → (∀ b, Q b s) → wpAny (model P w) A (hashByValue n v) Q E s
  | .none, _, n, A, s, Q, x, h => by cases x; cases n <;> exact wpAny_pure (h _)
  | .num _, _, n, A, s, Q, x, h => by cases x <;> cases n <;> exact wpAny_pure (h _)
  | .text _, _, n, A, s, Q, x, h => by cases x; cases n <;> exact wpAny_pure (h _)
  | .tup ks, _, 0, A, s, Q, x, h => by cases x; exact wpAny_pure (h _)
  | .tup ks, _, n + 1, A, s, Q, x, h => by
    cases x with
    | @tup a o vs m _ hg hc hd hk =>
      have hT : s.TypeIs (.ref a) "tuple" := ⟨_, hg, hc⟩
      unfold hashByValue
      refine wpAny_bind (wpAny_specialOf hT F.slot_tuple_hash.lookup ?_)
      show wpAny _ _ (seqItems? (.ref a) >>= _) _ _ s
      refine wpAny_bind (wpAny_seqItems hg hd ?_)
      refine wpAny_bind ?_
      show wpAny _ _ (forIn vs _ _) _ _ s
      rw [← Array.forIn_toList]
      refine wpAny_forIn_list _ (fun rest r s' => s' = s ∧ rest ⊆ vs.toList) _ (fun v rest r s' z => ?_) (fun r s' z => ?_) _ _ ⟨rfl, fun _ h => h⟩
      · obtain ⟨rfl, z2⟩ := z
        refine wpAny_bind (plain_keys ks vs.toList n A s' hk v (z2 List.mem_cons_self) _ fun b => ?_)
        cases b with
        | false =>
          simp only [Bool.not_false, if_true]
          exact wpAny_pure (wpAny_pure (h _))
        | true =>
          simp only [Bool.not_true, Bool.false_eq_true, if_false]
          exact wpAny_pure ⟨rfl, fun u q => z2 (List.mem_cons_of_mem _ q)⟩
      · obtain ⟨r1, r2⟩ := r
        obtain ⟨rfl, _⟩ := z
        cases r1 with
        | none => exact wpAny_pure (h _)
        | some b => exact wpAny_pure (h _)
theorem plain_keys : ∀ (ks : List NestedKey) (vs : List Value) (n : Nat) (A : Around) (s : Shared), NestedAll s.heap ks vs → ∀ v ∈ vs, ∀ (Q : Bool → Shared → Prop), (∀ b, Q b s) → wpAny (model P w) A (hashByValue n v) Q E s
  | [], _, _, _, _, x, v, hv => by cases x; cases hv
  | k :: ks, _, n, A, s, x, v, hv => fun Q h => by
    cases x with
    | cons x1 x2 =>
      rcases List.mem_cons.mp hv with e | hv
      · rw [e]; exact plain_key k _ n A s Q x1 h
      · exact plain_keys ks _ n A s x2 v hv Q h
end
variable {A : Around} {s : Shared}
/-- a search among keys shows nothing -/
theorem unseen {k : NestedKey} {b : Addr} {Q : Bool → Shared → Prop} (hk : Key s.heap k b) {ys : List Value} (hy : ∀ y ∈ ys, ∃ k' c, y = Value.ref c ∧ Key s.heap k' c) (h : Q false s) : wpAny (model P w) A (searchCouldBeSeen (.ref b) ys) Q E s := by
  unfold searchCouldBeSeen
  refine wpAny_bind (wpAny_forIn_list _ (fun rest r s' => r.1 = none ∧ s' = s ∧ rest ⊆ ys) _ (fun v rest r s' z => ?_) (fun r s' z => ?_) _ _ ⟨rfl, rfl, fun _ h => h⟩)
  · obtain ⟨_, rfl, z2⟩ := z
    obtain ⟨k', c, rfl, hc⟩ := hy v (z2 List.mem_cons_self)
    have rest' : rest ⊆ ys := fun u q => z2 (List.mem_cons_of_mem _ q)
    dsimp only
    by_cases hv : (b == c || (carriedByValue (.ref b) && carriedByValue (.ref c))) = true
    · exact wp_if_pos hv (wpAny_pure ⟨rfl, rfl, rest'⟩)
    refine wp_if_neg hv ?_
    refine wpAny_bind (quiet_key k _ 8 s' hk.is hk.dep A E _ ?_)
    simp only [Bool.not_true, Bool.false_eq_true, if_false]
    refine wpAny_bind (quiet_key k' _ 8 s' hc.is hc.dep A E _ ?_)
    simp only [Bool.not_true, Bool.false_eq_true, if_false]
    refine wpAny_bind (cls_key k _ 8 A s' _ hk.is hk.dep ?_)
    simp only [Bool.false_eq_true, if_false]
    refine wpAny_bind (cls_key k' _ 8 A s' _ hc.is hc.dep ?_)
    simp only [Bool.false_eq_true, if_false]
    exact wpAny_pure ⟨rfl, rfl, rest'⟩
  · obtain ⟨r1, r2⟩ := r
    obtain ⟨z1, rfl, _⟩ := z
    simp only at z1
    subst z1
    exact wpAny_pure h
end

/-! ### the table -/
abbrev Row := Addr × NestedKey
def ents (w : World) (L : List Row) : List (Int × Value) := L.map fun p => (p.2.hash w, Value.ref p.1)
/-- at a stands a set of the rows L, in the table's order -/
structure KS (w : World) (h : Heap) (a : Addr) (L : List Row) (es : Array (Int × Value)) (ep : Nat) (t : SetTable) : Prop where
  ob : ∃ o, h.get? a = some o ∧ o.ExactSet ∧ o.data = .set es ep t
  ents : es.toList = ents w L
  tab : TabOk t (L.map fun p => p.2.hash w)
  once : (L.map (·.2)).Nodup
  keys : ∀ p ∈ L, Key h p.2 p.1
  led : w.params.followText "set-order" = true ∨ t.led = true
  room : L.length * 5 < t.mask * 3
  few : L.length < 64
variable {P : Program} {w : World} {A : Around} {E : Value → Shared → Prop} {s : Shared} {a : Addr} {L : List Row} {es : Array (Int × Value)} {ep : Nat} {t : SetTable}
theorem size_of_ents (h : es.toList = ents w L) : es.size = L.length := by
  have e := congrArg List.length h
  rw [Array.length_toList] at e
  rw [e]
  exact List.length_map _
theorem KS.size (R : KS w s.heap a L es ep t) : es.size = L.length := size_of_ents R.ents
theorem KS.places (R : KS w s.heap a L es ep t) : t.place.size = L.length := by
  rw [R.tab.sz, List.length_map]
theorem KS.fits (R : KS w s.heap a L es ep t) : t.fits es.size = true := by
  have q := R.room
  unfold SetTable.fits SetTable.fill
  rw [R.tab.dm, Bool.and_eq_true, beq_iff_eq, decide_eq_true_eq, R.places, R.size]
  exact ⟨rfl, by show L.length + 0 ≤ _; omega⟩
theorem KS.ent (R : KS w s.heap a L es ep t) {i : Nat} {p : Row} (h : L[i]? = some p) : es[i]? = some (p.2.hash w, Value.ref p.1) := by
  have e : es.toList[i]? = (SD.ents w L)[i]? := congrArg (·[i]?) R.ents
  rw [Array.getElem?_toList] at e
  rw [e]
  show (L.map _)[i]? = _
  rw [List.getElem?_map, h]
  rfl
theorem KS.same (R : KS w s.heap a L es ep t) : ¬ t.gaveWay = true := by
  unfold SetTable.gaveWay
  rw [mask_odd R.tab.mok]
  decide

/-! ### the search -/
abbrev cur (t : SetTable) (h : Int) (c : Nat) : SetTable.Probe := nth t.mask (runAt t.mask (SetTable.bits h % (t.mask + 1)) (SetTable.bits h)) c
theorem cur_add (t : SetTable) (h : Int) (c q : Nat) : nth t.mask (cur t h c) q = cur t h (c + q) := (nth_add t.mask c _ q).symm
theorem cur_dummy (t : SetTable) (h : Int) : ∀ c, (cur t h c).dummy = none
  | 0 => rfl
  | c + 1 => by
    have ih := cur_dummy t h c
    show (nth t.mask _ (c + 1)).dummy = none
    rw [nth_succ]
    unfold adv
    split <;> exact ih
/-- a slot has one place -/
theorem KS.one (R : KS w s.heap a L es ep t) {i i' j : Nat} (h : t.place.toList[i]? = some j) (h' : t.place.toList[i']? = some j) : i = i' := by
  have e := (slot_live R.tab.ris h).symm.trans (slot_live R.tab.ris h')
  injection e
/-- each place has its row -/
theorem KS.rowAt (R : KS w s.heap a L es ep t) {i j : Nat} (h : t.place.toList[i]? = some j) : ∃ p, L[i]? = some p ∧ p ∈ L := by
  have hi : i < L.length := by
    have q := (List.getElem?_eq_some_iff.mp h).1
    rw [Array.length_toList, R.places] at q
    exact q
  exact ⟨L[i], List.getElem?_eq_getElem hi, List.getElem_mem hi⟩

theorem seek (R : KS w s.heap a L es ep t) {x : Addr} {k : NestedKey} (hx : Key s.heap k x) (hu : A.units + 8 < cLine) {K : Nat} (hKf : K < 10 * SetTable.turns t.mask)
    (free : way t.mask (k.hash w) K ∉ t.place.toList) (full : ∀ c, c < K → way t.mask (k.hash w) c ∈ t.place.toList) {Q : SetFound → Shared → Prop}
    (hin : k ∈ L.map (·.2) → Q (.there none) s) (hout : k ∉ L.map (·.2) → Q (.free (way t.mask (k.hash w) K) false) s) :
    ∀ (f c : Nat) (stand : Option SetTable.Probe), stand.getD (t.probeStart (k.hash w)) = cur t (k.hash w) c → c ≤ K → K - c < f →
      (∀ c', c' < c → ∀ (i : Nat) (p : Row), t.place.toList[i]? = some (way t.mask (k.hash w) c') → L[i]? = some p → p.2 ≠ k) →
      wpAny (model P w) A (setSearchFrom a (.ref x) (k.hash w) true f stand) Q E s := by
  obtain ⟨o, ho, hex, hd⟩ := R.ob
  intro f
  induction f with
  | zero => exact fun c _ _ _ hf => absurd hf (Nat.not_lt_zero _)
  | succ f ih =>
    intro c stand hst hc hf past
    have at_ : ∀ q, (nth t.mask (cur t (k.hash w) c) q).j = way t.mask (k.hash w) (c + q) := fun q => congrArg SetTable.Probe.j (cur_add t (k.hash w) c q)
    have hashOf : ∀ (i : Nat) (p : Row), L[i]? = some p → (es[i]?.map (·.1)).getD 0 = p.2.hash w := fun i p hp => by
      rw [R.ent hp]
      rfl
    rw [setSearchFrom_succ]
    refine wpAny_bind (wpAny_setState_of ho hd R.fits ?_)
    dsimp only
    refine wp_if_neg R.same ?_
    rw [hst]
    rcases go_spec t R.tab.ris R.tab.dm (fun i => (es[i]?.map (·.1)).getD 0) (k.hash w) (10 * SetTable.turns t.mask) (K - c) (cur t (k.hash w) c) (cur_dummy t _ c) (by omega)
      (fun q hq => by rw [at_]; exact full _ (by omega)) (by rw [at_, show c + (K - c) = K by omega]; exact free) with ⟨q, i, hq, hi, _, hno, hpr⟩ | ⟨hno, hpr⟩
    · have hpr' : t.probe (fun i => (es[i]?.map (·.1)).getD 0) (k.hash w) (cur t (k.hash w) c) = some (.candidate (way t.mask (k.hash w) (c + q)) i (cur t (k.hash w) (c + (q + 1)))) := by
        rw [← at_, ← cur_add]
        exact hpr
      rw [hpr']
      dsimp only
      rw [at_] at hi
      obtain ⟨p, hp, hm⟩ := R.rowAt hi
      have go : wpAny (model P w) A (searchRest a (.ref x) (k.hash w) true f es t (way t.mask (k.hash w) (c + q)) i (cur t (k.hash w) (c + (q + 1)))) Q E s := by
        unfold searchRest
        rw [R.ent hp]
        dsimp only
        refine wpAny_bind (wpAny_holding (eqAt_key p.2 k A s _ _ (R.keys p hm).is hx.is (by have := hx.dep; omega) P w E _ ?_))
        refine wpAny_bind (wpAny_setState_of ho hd R.fits ?_)
        dsimp only
        cases hb : NestedKey.beq p.2 k with
        | true =>
          refine wp_if_pos (by simp) (wpAny_pure (hin ?_))
          exact List.mem_map.mpr ⟨p, hm, NestedKey.eq_of_beq _ _ hb⟩
        | false =>
          have hne : p.2 ≠ k := fun e => by
            rw [e, NestedKey.beq_self] at hb
            cases hb
          refine wp_if_neg (by simp) ?_
          rw [sameMem]
          dsimp only
          simp only [if_true, slot_live R.tab.ris hi, R.ent hp]
          refine wpAny_bind (wpAny_isSame_ref_self (wpAny_bind (wpAny_pure ?_)))
          simp only [if_true]
          refine wp_if_neg (by simp) ?_
          refine ih (c + (q + 1)) _ rfl (by omega) (by omega) fun c' hc' i' p' hi' hp' => ?_
          rcases Nat.lt_trichotomy c' (c + q) with z | z | z
          · rcases Nat.lt_or_ge c' c with y | y
            · exact past c' y i' p' hi' hp'
            · have n1 := hno (c' - c) i' (by omega) (by rw [at_, show c + (c' - c) = c' by omega]; exact hi')
              intro e
              exact n1 ((hashOf i' p' hp').trans (by rw [e]))
          · rw [z] at hi'
            rw [R.one hi' hi, hp] at hp'
            rw [← Option.some.inj hp']
            exact hne
          · omega
      by_cases hl : t.led = true
      · exact wp_if_neg (by simp [hl]) go
      · refine wp_if_pos (by simp [hl]) (wpAny_bind (unseen hx (fun y hy => ?_) (wp_if_neg (by decide) go)))
        obtain ⟨e, he, rfl⟩ := List.mem_map.mp hy
        have he' : e ∈ es.toList := by
          have z : e ∈ es ∧ e.1 = k.hash w := by simpa using he
          simpa using z.1
        rw [R.ents] at he'
        obtain ⟨p2, hp2, rfl⟩ := List.mem_map.mp he'
        exact ⟨p2.2, p2.1, rfl, R.keys p2 hp2⟩
    · have hpr' : t.probe (fun i => (es[i]?.map (·.1)).getD 0) (k.hash w) (cur t (k.hash w) c) = some (.empty (way t.mask (k.hash w) K) none) := by
        rw [show way t.mask (k.hash w) K = (nth t.mask (cur t (k.hash w) c) (K - c)).j by rw [at_, show c + (K - c) = K by omega]]
        exact hpr
      rw [hpr']
      dsimp only
      refine wpAny_pure (hout fun hm => ?_)
      obtain ⟨p0, h0, hk0⟩ := List.mem_map.mp hm
      obtain ⟨i0, hi0, e0⟩ := List.getElem_of_mem h0
      have hp0 : L[i0]? = some p0 := by rw [List.getElem?_eq_getElem hi0, e0]
      have hl0 : i0 < t.place.toList.length := by rw [Array.length_toList, R.places]; exact hi0
      have hj0 := List.getElem?_eq_getElem hl0
      obtain ⟨c0, hc0, ec0⟩ := R.tab.before free (h := k.hash w) (by rw [List.getElem?_map, hp0, ← hk0]; rfl) hj0
      rw [← ec0] at hj0
      rcases Nat.lt_or_ge c0 c with y | y
      · exact past c0 y i0 p0 hj0 hp0 hk0
      · refine hno (c0 - c) i0 (by omega) (by rw [at_, show c + (c0 - c) = c0 by omega]; exact hj0) ?_
        exact (hashOf i0 p0 hp0).trans (by rw [hk0])
theorem seek0 (R : KS w s.heap a L es ep t) {x : Addr} {k : NestedKey} (hx : Key s.heap k x) (hu : A.units + 8 < cLine) {Q : SetFound → Shared → Prop} (hin : k ∈ L.map (·.2) → Q (.there none) s)
    (hout : ∀ K, k ∉ L.map (·.2) → way t.mask (k.hash w) K ∉ t.place.toList → (∀ c, c < K → way t.mask (k.hash w) c ∈ t.place.toList) → Q (.free (way t.mask (k.hash w) K) false) s) :
    wpAny (model P w) A (setSearch a (.ref x) (k.hash w) true) Q E s := by
  have q := R.room
  obtain ⟨K, h1, h2, h3⟩ := R.tab.first (by rw [List.length_map]; omega) (k.hash w)
  have : 10 * SetTable.turns t.mask ≤ 1420 := by
    unfold SetTable.turns
    rcases R.tab.mok with e | e | e <;> omega
  exact seek R hx hu h1 h2 h3 hin (fun hn => hout K hn h2 h3) 100000 0 none rfl (Nat.zero_le _) (by omega) fun c' h => absurd h (Nat.not_lt_zero _)
end SD

set_option Elab.async false
set_option linter.all false
set_option maxRecDepth 100000
/-! SetData2: adding to a set of keys, growing, set(xs), sorted(set) -/
namespace SD
open PySem PySem.Spec PyProof.Rows L2

theorem all_places {α : Type} : ∀ l : List α, (List.range l.length).filterMap (fun i => l[i]?) = l
  | [] => rfl
  | x :: l => by
    rw [List.length_cons, List.range_succ_eq_map, List.filterMap_cons_some (f := fun i => (x :: l)[i]?) (b := x) rfl, List.filterMap_map]
    exact congrArg (x :: ·) (all_places l)
/-- two ways that agree on a list -/
theorem same_picks {α β : Type} {f g : α → Option β} : ∀ l : List α, (∀ x ∈ l, f x = g x) → l.filterMap f = l.filterMap g
  | [], _ => rfl
  | x :: l, h => by
    have ih := same_picks l fun y hy => h y (List.mem_cons_of_mem _ hy)
    have e := h x List.mem_cons_self
    cases hf : f x with
    | none => rw [List.filterMap_cons_none hf, List.filterMap_cons_none (e ▸ hf), ih]
    | some y => rw [List.filterMap_cons_some hf, List.filterMap_cons_some (e ▸ hf), ih]
theorem ents_at {w : World} {es : Array (Int × Value)} {L : List Row} (hr : es.toList = ents w L) (i : Nat) : es[i]? = (L[i]?).map fun p => (p.2.hash w, Value.ref p.1) := by
  rw [← Array.getElem?_toList, hr]
  exact List.getElem?_map
/-- the rows in another order -/
theorem reorder {w : World} {es : Array (Int × Value)} {L : List Row} {order : Array Nat} (hr : es.toList = ents w L) (hp : order.toList.Perm (List.range L.length)) :
    ∃ L2 : List Row, (order.filterMap (es[·]?)).toList = ents w L2 ∧ L2.Perm L ∧ (L2.map fun p => p.2.hash w) = order.toList.map fun i => (es.map (·.1)).getD i 0 := by
  refine ⟨order.toList.filterMap fun i => L[i]?, ?_, ?_, ?_⟩
  · rw [Array.toList_filterMap]
    unfold ents
    rw [List.map_filterMap]
    exact same_picks _ fun i _ => ents_at hr i
  · have q := hp.filterMap fun i => L[i]?
    rw [all_places] at q
    exact q
  · rw [List.map_filterMap, ← List.filterMap_eq_map]
    refine same_picks _ fun i hi => ?_
    have hl : i < L.length := List.mem_range.mp (hp.mem_iff.mp hi)
    show (L[i]?).map _ = some ((es.map (·.1)).getD i 0)
    rw [Array.getD_eq_getD_getElem?, Array.getElem?_map, ents_at hr, List.getElem?_eq_getElem hl]
    rfl
theorem ents_put {w : World} (L : List Row) (p : Nat) (r : Row) : ents w (L.take p ++ r :: L.drop p) = (ents w L).take p ++ (r.2.hash w, Value.ref r.1) :: (ents w L).drop p := by
  unfold ents
  rw [List.map_append, List.map_cons, List.map_take, List.map_drop]
section
variable {P : Program} {w : World} {A : Around} {E : Value → Shared → Prop} {s : Shared} {a : Addr} {L : List Row} {es : Array (Int × Value)} {ep : Nat} {t : SetTable}
/-- the table laid anew -/
theorem grow {o : Obj} (ho : s.heap.get? a = some o) (hex : o.ExactSet) (hd : o.data = .set es ep t) (he : es.toList = ents w L) (T : TabOk t (L.map fun p => p.2.hash w)) (hfl : L.length ≤ t.mask) (once : (L.map (·.2)).Nodup) (keys : ∀ p ∈ L, Key s.heap p.2 p.1)
    (led : w.params.followText "set-order" = true ∨ t.led = true) (few : L.length < 64) {wanted M : Nat} (hw : SetTable.sizeAbove wanted - 1 = M) (hM : MaskOk M) (hw2 : SetTable.sizeAbove wanted ≤ 128) (room : L.length * 5 < M * 3) {Q : Unit → Shared → Prop}
    (hQ : ∀ h' L' es' ep' t', Heap.SameBut a s.heap h' → KS w h' a L' es' ep' t' → L'.Perm L → Q () { s with heap := h' }) : wpAny (model P w) A (setRelay a wanted) Q E s := by
  have hes := size_of_ents he
  have hpl : t.place.size = L.length := by rw [T.sz, List.length_map]
  have fits : t.fits es.size = true := by
    unfold SetTable.fits SetTable.fill
    rw [T.dm, Bool.and_eq_true, beq_iff_eq, decide_eq_true_eq, hpl, hes]
    exact ⟨rfl, by show L.length + 0 ≤ _; omega⟩
  obtain ⟨t', order, e, hp, T', em, el, _, _⟩ := relaid_ok t (hs := es.map (·.1)) (wanted := wanted) hw hM (by rw [Array.size_map, hes]; omega)
  rw [Array.size_map, hes] at hp
  obtain ⟨L2, r1, r2, r3⟩ := reorder he hp
  rw [← r3] at T'
  have hsz : (order.filterMap (es[·]?)).size = es.size := by rw [size_of_ents r1, hes, r2.length_eq]
  rw [setRelay_eq]
  refine wpAny_bind (wpAny_setState_of ho hd fits ?_)
  dsimp only
  refine wp_if_neg (by rw [sizeLine_eq]; omega) ?_
  rw [e]
  dsimp only
  refine wpAny_bind (wp_if_neg (by rw [hsz]; simp) (wpAny_pure ?_))
  dsimp only
  refine wpAny_storeSet_of ho hd ?_ (by rw [hsz, hes, sizeLine_eq]; omega)
  have sb : Heap.SameBut a s.heap (s.heap.update a (Obj.putSet (order.filterMap (es[·]?)) t')) := Heap.SameBut.update ..
  exact hQ _ L2 (order.filterMap (es[·]?)) (ep + 1) t' sb ⟨⟨_, store_at ho hd, hex, rfl⟩, r1, T', (r2.map (·.2)).nodup_iff.mpr once, fun p hpm => (keys p (r2.mem_iff.mp hpm)).but ho hd sb, el ▸ led, by rw [r2.length_eq, em]; exact room, by rw [r2.length_eq]; exact few⟩ r2

theorem some_answer {β : Type} {c : Bool} {m : Sem Bool} {f : Bool → Sem β} {Q : β → Shared → Prop} (hm : ∀ Q : Bool → Shared → Prop, (∀ b, Q b s) → wpAny (model P w) A m Q E s) (h : ∀ b, wpAny (model P w) A (f b) Q E s) : wpAny (model P w) A (if c = true then (m >>= f) else (pure true >>= f)) Q E s := by
  cases c with
  | true => exact wp_if_pos rfl (wpAny_bind (hm _ h))
  | false => exact wp_if_neg (by decide) (wpAny_bind (wpAny_pure (h _)))
/-- whether it is plain doesn't move the table -/
theorem plain_or {t : SetTable} (b : Bool) {hs : List Int} (T : TabOk t hs) : ∃ t2, (if b = true then t else { t with plain := false }) = t2 ∧ TabOk t2 hs ∧ t2.mask = t.mask ∧ t2.led = t.led ∧ t2.fill = t.fill := by
  cases b with
  | true => exact ⟨_, if_pos rfl, T, rfl, rfl, rfl⟩
  | false => exact ⟨_, if_neg (by decide), ⟨T.ris, T.dm, T.sz, T.mok, T.bd, T.reach⟩, rfl, rfl, rfl⟩
/-- ADDING -/
theorem put_in (R : KS w s.heap a L es ep t) {x : Addr} {k : NestedKey} (hx : Key s.heap k x) (hu : A.units + 8 < cLine) (hfew : L.length + 1 < 64) {Q : Bool → Shared → Prop}
    (hQ : ∀ b h' L' es' ep' t', Heap.SameBut a s.heap h' → KS w h' a L' es' ep' t' → (k ∈ L.map (·.2) → L' = L) → (k ∉ L.map (·.2) → L'.Perm ((x, k) :: L)) → Q b { s with heap := h' }) :
    wpAny (model P w) A (setAddHashed a (.ref x) (k.hash w)) Q E s := by
  obtain ⟨o, ho, hex, hd⟩ := R.ob
  unfold setAddHashed
  refine wpAny_holding ?_
  rw [show (100000 : Nat) = 99999 + 1 from rfl, setAddHashedIn_succ]
  refine wpAny_bind (wpAny_setState_of ho hd R.fits ?_)
  dsimp only
  refine wp_if_neg (by simp [byScan, Value.scannable]) ?_
  refine wpAny_bind (seek0 R hx hu (fun hm => wpAny_pure (hQ false s.heap L es ep t (Heap.SameBut.refl a s.heap) R (fun _ => rfl) fun z => absurd hm z)) fun K hm free full => ?_)
  dsimp only
  refine wpAny_bind (wpAny_setState_of ho hd R.fits ?_)
  dsimp only
  obtain ⟨q1, q2, T1, q4, q5, _, _, _, q9⟩ := R.tab.put free full
  generalize t.put (way t.mask (k.hash w) K) = pt at q1 T1 q4 q5 q9 ⊢
  obtain ⟨t1, p⟩ := pt
  dsimp only at q1 T1 q4 q5 q9 ⊢
  rw [← q1] at q2 T1
  rw [List.length_map] at q2 q9
  have hin : (SetTable.insertAt es p (k.hash w, Value.ref x)).toList = ents w (L.take p ++ (x, k) :: L.drop p) := by
    rw [SetTable.toList_insertAt, ents_put, R.ents]
  have pm := put_perm L p (x, k)
  have T2 : TabOk t1 ((L.take p ++ (x, k) :: L.drop p).map fun q => q.2.hash w) := by
    rw [List.map_append, List.map_cons, List.map_take, List.map_drop]
    exact T1
  have hlen : (L.take p ++ (x, k) :: L.drop p).length = L.length + 1 := pm.length_eq
  have once1 : ((L.take p ++ (x, k) :: L.drop p).map (·.2)).Nodup := by
    rw [(pm.map (·.2)).nodup_iff, List.map_cons]
    exact List.nodup_cons.mpr ⟨hm, R.once⟩
  generalize SetTable.insertAt es p (k.hash w, Value.ref x) = es1 at hin ⊢
  generalize L.take p ++ (x, k) :: L.drop p = L1 at hin pm T2 hlen once1
  have hes1 : es1.size = L.length + 1 := by rw [size_of_ents hin, hlen]
  refine some_answer (fun Q' h' => plain_key k _ 8 A s Q' hx.is h') fun b => ?_
  obtain ⟨t2, e2, T3, em, el, ef⟩ := plain_or b T2
  rw [e2]
  refine wpAny_bind (wpAny_storeSet_of ho hd ?_ (by rw [hes1, sizeLine_eq]; omega))
  have sb : Heap.SameBut a s.heap (s.heap.update a (Obj.putSet es1 t2)) := Heap.SameBut.update ..
  have ho1 := store_at (es' := es1) (t' := t2) ho hd
  generalize s.heap.update a (Obj.putSet es1 t2) = h1 at sb ho1 ⊢
  have keys1 : ∀ q ∈ L1, Key h1 q.2 q.1 := fun q hq => by
    rcases List.mem_cons.mp (pm.mem_iff.mp hq) with e | hq
    · rw [e]; exact hx.but ho hd sb
    · exact (R.keys q hq).but ho hd sb
  have led1 : w.params.followText "set-order" = true ∨ t2.led = true := by rw [el, q5]; exact R.led
  have full_iff : t2.tooFull = true ↔ (L.length + 1) * 5 ≥ t.mask * 3 := by
    unfold SetTable.tooFull
    rw [decide_eq_true_eq, ef, q9, em, q4]
  have hroom := R.room
  by_cases hf : t2.tooFull = true
  · have hfull := full_iff.mp hf
    refine wp_if_pos (by simp [hf]) (wpAny_bind ?_)
    rw [R.size]
    have go : ∀ M, SetTable.sizeAbove (SetTable.grown (L.length + 1)) - 1 = M → MaskOk M → SetTable.sizeAbove (SetTable.grown (L.length + 1)) ≤ 128 → (L.length + 1) * 5 < M * 3 →
        wpAny (model P w) A (setRelay a (SetTable.grown (L.length + 1))) (fun _ s' => wpAny (model P w) A (pure true) Q E s') E { s with heap := h1 } := fun M m1 m2 m3 m4 =>
      grow (s := { s with heap := h1 }) ho1 hex rfl hin T3 (by rw [hlen, em, q4]; rcases R.tab.mok with e | e | e <;> omega) once1 keys1 led1 (by rw [hlen]; exact hfew) m1 m2 m3 (by rw [hlen]; exact m4)
        fun h2 L2 es2 ep2 t2 sb2 R2 pm2 => wpAny_pure (hQ true h2 L2 es2 ep2 t2 (sb.trans sb2) R2 (fun z => absurd z hm) fun _ => pm2.trans pm)
    rcases R.tab.mok with e | e | e
    · have e2 : L.length = 4 := by rw [e] at hfull hroom; omega
      exact go 31 (by rw [e2, size_20]) (.inr (.inl rfl)) (by rw [e2, size_20]; decide) (by omega)
    · have e2 : L.length = 18 := by rw [e] at hfull hroom; omega
      exact go 127 (by rw [e2, size_76]) (.inr (.inr rfl)) (by rw [e2, size_76]; decide) (by omega)
    · exfalso
      rw [e] at hfull
      omega
  · refine wp_if_neg (by simp [hf]) (wpAny_pure (hQ true h1 L1 es1 (ep + 1) t2 sb ⟨⟨_, ho1, hex, rfl⟩, hin, T3, once1, keys1, led1, ?_, by rw [hlen]; exact hfew⟩ (fun z => absurd z hm) fun _ => pm))
    rw [hlen, em, q4]
    exact Nat.lt_of_not_le fun z => hf (full_iff.mpr z)
end
end SD

set_option Elab.async false
set_option linter.all false
set_option maxRecDepth 100000
/-! SetData3: set.add, sorted(set), set(xs) for keys -/
namespace SD
open PySem PySem.Spec PySem.W PyProof.Rows L2
section
variable {P : Program} {w : World} {A : Around} {E : Value → Shared → Prop} {s : Shared} {a : Addr} {L : List Row} {es : Array (Int × Value)} {ep : Nat} {t : SetTable}
/-- setAdd: the hash, then the table -/
theorem put_hash (R : KS w s.heap a L es ep t) {x : Addr} {k : NestedKey} (hx : Key s.heap k x) (hu : A.units + 8 < cLine) (hfew : L.length + 1 < 64) {Q : Bool → Shared → Prop}
    (hQ : ∀ b h' L' es' ep' t', Heap.SameBut a s.heap h' → KS w h' a L' es' ep' t' → (k ∈ L.map (·.2) → L' = L) → (k ∉ L.map (·.2) → L'.Perm ((x, k) :: L)) → Q b { s with heap := h', toks := s.toks + k.draws }) :
    wpAny (model P w) A (setAdd a (.ref x)) Q E s := by
  unfold setAdd
  refine wpAny_holding (wpAny_bind (pyHash_key k _ A s _ hx.is (by have := hx.dep; omega) ?_))
  exact put_in (s := { s with toks := s.toks + k.draws }) R hx hu hfew hQ
/-- s.add(x) -/
theorem call_add (R : KS w s.heap a L es ep t) {x : Addr} {k : NestedKey} (hx : Key s.heap k x) (hu : A.units + 16 < cLine) (hfew : L.length + 1 < 64) {Q : Value → Shared → Prop}
    (hQ : ∀ h' L' es' ep' t', Heap.SameBut a s.heap h' → KS w h' a L' es' ep' t' → (k ∈ L.map (·.2) → L' = L) → (k ∉ L.map (·.2) → L'.Perm ((x, k) :: L)) → Q .none { s with heap := h', toks := s.toks + k.draws }) :
    wpAny (model P w) A (call (.builtin "set.add") [.ref a, .ref x]) Q E s := by
  obtain ⟨o, ho, hex, hd⟩ := R.ob
  refine wpAny_call_entry F.slot_set_add ⟨o, ho, hex.1⟩ F.entry_set_add ?_ (F.args_set_add_2 _ _)
  unfold Builtin.«set.add» Builtin.Frozenset.oneOther
  simp only [List.isEmpty_nil, bind_assoc]
  unfold Builtin.Frozenset.addrOf
  refine wpAny_bind (wpAny_pure ?_)
  refine wpAny_bind (wpAny_pure ?_)
  refine wpAny_bind (put_hash R hx (by simp only [Around.in1_units]; omega) hfew fun b h' L' es' ep' t' m1 m2 m3 m4 => ?_)
  exact wpAny_pure ⟨_, rfl, hQ h' L' es' ep' t' m1 m2 m3 m4⟩

/-- rows, told by their addresses -/
theorem rows_of {L : List Row} : ∀ vs : List Value, (∀ v ∈ vs, ∃ q ∈ L, v = Value.ref q.1) → ∃ L1 : List Row, vs = L1.map (fun q => Value.ref q.1) ∧ ∀ q ∈ L1, q ∈ L
  | [], _ => ⟨[], rfl, fun q h => (by cases h)⟩
  | v :: vs, h => by
    obtain ⟨q, hq, e⟩ := h v List.mem_cons_self
    obtain ⟨L1, e1, h1⟩ := rows_of vs fun u hu => h u (List.mem_cons_of_mem _ hu)
    exact ⟨q :: L1, by rw [List.map_cons, e, e1], fun r hr => (List.mem_cons.mp hr).elim (fun z => z ▸ hq) (h1 r)⟩
theorem KS.nodup (R : KS w s.heap a L es ep t) : L.Nodup := nodup_of_map R.once
/-- a permutation of the addresses is one of the rows -/
theorem KS.perm (R : KS w s.heap a L es ep t) {L1 : List Row} (hs : ∀ q ∈ L1, q ∈ L) (h : (L1.map fun q => Value.ref q.1).Perm (L.map fun q => Value.ref q.1)) : L1.Perm L := by
  have one : ∀ q ∈ L, ∀ r ∈ L, Value.ref q.1 = Value.ref r.1 → q = r := fun q hq r hr e => by
    injection e with e
    have k1 := R.keys q hq
    rw [e] at k1
    exact Prod.ext e (k1.inj (R.keys r hr))
  have nref : (L.map fun q => Value.ref q.1).Nodup :=
    List.pairwise_map.mpr (R.nodup.imp_of_mem fun {q r} hq hr hne e => hne (one q hq r hr e))
  refine (List.perm_ext_iff_of_nodup (nodup_of_map (h.nodup_iff.mpr nref)) R.nodup).mpr fun q => ⟨hs q, fun hq => ?_⟩
  obtain ⟨r, hr, e⟩ := List.mem_map.mp (h.mem_iff.mpr (List.mem_map.mpr ⟨q, hq, rfl⟩))
  exact one r (hs r hr) q hq e ▸ hr

mutual
theorem deep : ∀ k : NestedKey, k.data.depth = k.depth
  | .none => by simp [NestedKey.data, NestedKey.depth, PyData.depth]
  | .num _ => by simp [NestedKey.data, NestedKey.depth, PyData.depth]
  | .text _ => by simp [NestedKey.data, NestedKey.depth, PyData.depth]
  | .tup ks => by simp only [NestedKey.data, NestedKey.depth, PyData.depth, deeps ks]
theorem deeps : ∀ ks : List NestedKey, PyData.depthAll (NestedKey.datas ks) = NestedKey.depthAll ks
  | [] => by simp [NestedKey.datas, NestedKey.depthAll, PyData.depthAll]
  | k :: ks => by simp only [NestedKey.datas, NestedKey.depthAll, PyData.depthAll, deep k, deeps ks]
end
/-- the order of sorted -/
abbrev le (p q : Row) : Bool := dataLe false (fun r : Row => r.2.data) p q
theorem each_refs : ∀ L : List Row, EachIs (fun v (p : Row) => v = Value.ref p.1) (L.map fun q => Value.ref q.1) L
  | [] => .nil
  | _ :: L => .cons rfl (each_refs L)
theorem refs_each : ∀ {out : List Value} {L : List Row}, EachIs (fun v (p : Row) => v = Value.ref p.1) out L → out = L.map fun q => Value.ref q.1
  | _, _, .nil => rfl
  | _, _, .cons e h => by rw [List.map_cons, e, refs_each h]
theorem each_refs_of {R : Value → Row → Prop} : ∀ L : List Row, (∀ p ∈ L, R (.ref p.1) p) → EachIs R (L.map fun q => Value.ref q.1) L
  | [], _ => .nil
  | p :: L, h => .cons (h p List.mem_cons_self) (each_refs_of L fun q hq => h q (List.mem_cons_of_mem _ hq))

/-- sorted(set) -/
theorem sorted_keys (R : KS w s.heap a L es ep t) (hh : A.handled = none) (hu : A.units + 16 < cLine) (reads : ∀ p ∈ L, Reads s.heap (.ref p.1) p.2.data []) (hal : ∀ p ∈ L, ∀ q ∈ L, alike p.2.data q.2.data = true)
    (hk : Sortable (L.map fun p => p.2.data)) {Q : Value → Shared → Prop}
    (hQ : ∀ s' p (out : Array Value) (c : Nat) (L1 : List Row), (∀ b o, s.heap.get? b = some o → s'.heap.get? b = some o) → s'.gens = s.gens → s'.os = s.os → s.heap.objs.size ≤ p →
      s'.heap.get? p = some (seqObj "list" out c) → L1.Perm L → out.toList = (L1.mergeSort le).map (fun q => Value.ref q.1) → Q (.ref p) s') :
    wpAny (model P w) A (call (.builtin "sorted") [.ref a]) Q E s := by
  obtain ⟨o, ho, hex, hd⟩ := R.ob
  have hfew := R.few
  refine Calls.call_function_entry kind_sorted plain_sorted entry_sorted (args_sorted1 _) ?_
  unfold Builtin.«sorted»
  refine wpAny_bind (m := checkCount "sorted" 1 1 _) (wpAny_pure ?_)
  refine wpAny_bind (collect_set (A := A.in1) hh ⟨o, ho, hex.1, hd⟩ R.fits (by unfold scanBound; rw [R.size]; omega) R.tab.ris R.led fun s1 vs k1 hz g1 o1 pm => ?_)
  have hes : es.toList.map (·.2) = L.map fun q => Value.ref q.1 := by
    rw [R.ents]
    exact List.map_map ..
  rw [hes] at pm
  obtain ⟨L1, rfl, hs1⟩ := rows_of vs fun v hv => by
    obtain ⟨q, hq, e⟩ := List.mem_map.mp (pm.mem_iff.mp hv)
    exact ⟨q, hq, e.symm⟩
  have pL := R.perm hs1 pm
  have hlen : L1.length < 64 := by rw [pL.length_eq]; exact hfew
  refine wpAny_bind (wpAny_newList ?_ (by rw [List.length_map, sizeLine_eq]; omega))
  have hoL : (s1.heap.push (seqObj "list" (L1.map fun q => Value.ref q.1).toArray 0)).get? s1.heap.objs.size = some (seqObj "list" (L1.map fun q => Value.ref q.1).toArray 0) := Heap.get?_push_size _ rfl
  have old : ∀ b o, s.heap.get? b = some o → (s1.heap.push (seqObj "list" (L1.map fun q => Value.ref q.1).toArray 0)).get? b = some o := fun b o e => Heap.get?_push_of_some _ (k1 b o e)
  refine wpAny_bind (wpAny_holding (list_sort_data (s := { s1 with heap := s1.heap.push (seqObj "list" (L1.map fun q => Value.ref q.1).toArray 0) }) (bs := L1) (enc := fun r : Row => r.2.data) (R := fun v (p : Row) => v = Value.ref p.1) hoL (each_refs L1)
    (each_refs_of L1 fun p hp => ⟨[], PyProof.Rows.Reads.keeps (fun b o e => old b o e) (reads p (hs1 p hp)), by simp⟩) (fun d hd' d2 hd2 => ?_) ?_ (by rw [sizeLine_eq]; omega) (fun p hp => ?_) fun out e1 e2 => ?_))
  · obtain ⟨p, hp, rfl⟩ := List.mem_map.mp hd'
    obtain ⟨q, hq, rfl⟩ := List.mem_map.mp hd2
    exact hal p (hs1 p hp) q (hs1 q hq)
  · rcases hk with hk | hk
    · exact .inl fun d hd' => hk d ((pL.map fun p => p.2.data).mem_iff.mp hd')
    · exact .inr fun d hd' => hk d ((pL.map fun p => p.2.data).mem_iff.mp hd')
  · have hdep : (p.2.data).depth ≤ 8 := deep p.2 ▸ (R.keys p (hs1 p hp)).dep
    simp only [Around.in1_units]
    omega
  · obtain ⟨c, hc⟩ := sortedHeap_at (vs := L1.map fun q => Value.ref q.1) (out := out.toArray) hoL
    refine wpAny_pure ⟨_, rfl, hQ _ s1.heap.objs.size out.toArray c L1 (fun b u e => ?_) g1 o1 hz hc pL (refs_each e2)⟩
    have hlt := Heap.lt_size (k1 b u e)
    show (sortedHeap (s1.heap.push (seqObj "list" _ 0)) s1.heap.objs.size _ out.toArray).get? b = some u
    rw [sortedHeap_old (Nat.ne_of_lt hlt) (by rw [size_push']; exact Nat.lt_succ_of_lt hlt)]
    exact old b u e
end
end SD

set_option Elab.async false
set_option linter.all false
set_option maxRecDepth 100000
/-! SetData4: set(xs) for keys -/
namespace SD
open PySem PySem.Spec PySem.W PyProof.Rows L2
/-- what a set has of the first i rows -/
structure Part (ks : List Row) (i : Nat) (L : List Row) : Prop where
  sub : ∀ p ∈ L, p ∈ ks.take i
  all : ∀ p ∈ ks.take i, p.2 ∈ L.map (·.2)
  len : L.length ≤ i
theorem Part.zero (ks : List Row) : Part ks 0 [] := ⟨fun _ h => (by cases h), fun _ h => (by simp at h), Nat.le_refl _⟩
theorem Part.step {ks L L' : List Row} {i : Nat} {x : Row} (g : Part ks i L) (h : ks[i]? = some x) (h1 : x.2 ∈ L.map (·.2) → L' = L) (h2 : x.2 ∉ L.map (·.2) → L'.Perm (x :: L)) : Part ks (i + 1) L' := by
  have tk := take_next h
  by_cases c : x.2 ∈ L.map (·.2)
  · rw [h1 c]
    refine ⟨fun p hp => ?_, fun p hp => ?_, Nat.le_succ_of_le g.len⟩ <;> rw [tk] at *
    · exact List.mem_append_left _ (g.sub p hp)
    · rcases List.mem_append.mp hp with z | z
      · exact g.all p z
      · rw [List.mem_singleton.mp z]
        exact c
  · have pm := h2 c
    refine ⟨fun p hp => ?_, fun p hp => ?_, ?_⟩
    · rw [tk]
      rcases List.mem_cons.mp (pm.mem_iff.mp hp) with e | z
      · exact List.mem_append_right _ (List.mem_singleton.mpr e)
      · exact List.mem_append_left _ (g.sub p z)
    · rw [(pm.map (·.2)).mem_iff, List.map_cons]
      rw [tk] at hp
      rcases List.mem_append.mp hp with z | z
      · exact List.mem_cons_of_mem _ (g.all p z)
      · rw [List.mem_singleton.mp z]
        exact List.mem_cons_self
    · rw [pm.length_eq]
      exact Nat.succ_le_succ g.len
theorem Part.mem {ks L : List Row} {i : Nat} (g : Part ks i L) {p : Row} (h : p ∈ L) : p ∈ ks := List.mem_of_mem_take (g.sub p h)
section
variable {P : Program} {w : World} {A : Around} {E : Value → Shared → Prop} {s : Shared}
/-- a set stays one while it and its keys stay -/
theorem KS.kept {h h' : Heap} {a : Addr} {L : List Row} {es : Array (Int × Value)} {ep : Nat} {t : SetTable} (R : KS w h a L es ep t) (ha : ∀ o, h.get? a = some o → h'.get? a = some o) (hk : ∀ p ∈ L, Key h' p.2 p.1) : KS w h' a L es ep t :=
  ⟨let ⟨o, ho, r⟩ := R.ob; ⟨o, ha o ho, r⟩, R.ents, R.tab, R.once, hk, R.led, R.room, R.few⟩
abbrev emptySet (w : World) : Obj := { cls := .type "set", dict := none, data := .set #[] 0 (.fresh 0 0 (!w.params.followText "set-order")) }
theorem KS.empty {h : Heap} {a : Addr} (ho : h.get? a = some (emptySet w)) : KS w h a [] #[] 0 (.fresh 0 0 (!w.params.followText "set-order")) where
  ob := ⟨_, ho, ⟨rfl, rfl, rfl⟩, rfl⟩
  ents := rfl
  tab := ⟨List.Pairwise.nil, rfl, rfl, .inl rfl, fun _ hx => (by cases hx), fun _ _ _ hi => (by simp at hi)⟩
  once := List.nodup_nil
  keys := fun _ hp => (by cases hp)
  led := by
    cases e : w.params.followText "set-order"
    · exact .inr rfl
    · exact .inl rfl
  room := by show 0 * 5 < 7 * 3; decide
  few := by show 0 < 64; decide

/-- the loop of an update -/
theorem fill {I : Addr} {fp wr : List Addr} {G : Array GenState → Array GenState → Prop} {n : Nat} {Pv : Nat → Value → Prop} {St : Nat → Shared → Prop} {R : Result → Shared → Prop}
    (W : WalksS P w A.in1 I fp wr G n Pv St) (D : Addr) (hD : D ∉ fp) (ks : List Row) (hn : n = ks.length) (hfew : ks.length < 64) (hval : ∀ i v, Pv i v → ∃ p, ks[i]? = some p ∧ v = .ref p.1)
    (h0 : Heap) (hk : ∀ p ∈ ks, Key h0 p.2 p.1) (hD0 : h0.get? D = none) (hw0 : ∀ b ∈ wr, h0.get? b = none) (hu : A.in1.units + 8 < cLine) (s0 : Shared)
    (fin : ∀ s' L es ep t, Moved (D :: wr) G s0 s' → KS w s'.heap D L es ep t → Part ks n L → (∀ b o, h0.get? b = some o → s'.heap.get? b = some o) → R (.ok (.ret .none)) s') :
    ∀ (j i : Nat) (s : Shared), n - i = j → i ≤ n → St i s → Moved (D :: wr) G s0 s → (∀ b o, h0.get? b = some o → s.heap.get? b = some o) → (∃ L es ep t, KS w s.heap D L es ep t ∧ Part ks i L) →
      codeAny (model P w) A (.builtin "set.update.loop" ⟨[.ref D, .ref I], []⟩) R s := by
  have hDw : D ∉ wr := fun h => hD (W.sub _ h)
  have more : ∀ b ∈ wr, b ∈ D :: wr := fun b hb => List.mem_cons_of_mem _ hb
  -- a move of the iterator
  have moved : ∀ {s s' : Shared}, Moved wr G s s' → (∀ b o, h0.get? b = some o → s.heap.get? b = some o) → ∀ b o, h0.get? b = some o → s'.heap.get? b = some o := fun hm old b o e =>
    hm.heap b o (fun hb => by rw [hw0 b hb] at e; cases e) (old b o e)
  have keep : ∀ {s s' : Shared} {L : List Row} {es : Array (Int × Value)} {ep : Nat} {t : SetTable} {i : Nat}, Moved wr G s s' → (∀ b o, h0.get? b = some o → s'.heap.get? b = some o) → Part ks i L → KS w s.heap D L es ep t → KS w s'.heap D L es ep t := fun hm old g K =>
    K.kept (fun o e => hm.heap D o hDw e) fun p hp => (hk p (g.mem hp)).more old
  intro j
  induction j with
  | zero =>
    intro i s hj hi hst hm0 old ⟨L, es, ep, t, K, g⟩
    have e : i = n := by omega
    subst e
    refine codeAny_builtin F.entry_set_update_loop ?_
    rw [Around.under_plainId F.plain_set_update_loop _]
    show wpAny _ A.in1 (pyNext (.ref I) >>= _) _ _ s
    refine wpAny_bind (W.done s _ _ hst fun s' hm => ?_)
    have old' := moved hm old
    exact wpAny_pure (fin s' L es ep t (Moved.trans W.gtrans hm0 (hm.mono more)) (keep hm old' g K) g old')
  | succ j ih =>
    intro i s hj hi hst hm0 old ⟨L, es, ep, t, K, g⟩
    have hlt : i < n := by omega
    refine codeAny_builtin F.entry_set_update_loop ?_
    rw [Around.under_plainId F.plain_set_update_loop _]
    show wpAny _ A.in1 (pyNext (.ref I) >>= _) _ _ s
    refine wpAny_bind (W.item i s _ _ hlt hst fun v s' hP hst' hm => ?_)
    obtain ⟨p, hp, rfl⟩ := hval i v hP
    have old' := moved hm old
    show wpAny _ A.in1 (holding [Value.ref p.1] (setAdd D (.ref p.1)) >>= _) _ _ s'
    refine wpAny_bind (wpAny_holding (put_hash (keep hm old' g K) ((hk p (List.mem_of_getElem? hp)).more old') hu (by have := g.len; omega) fun b h' L' es' ep' t' sb K' c1 c2 => ?_))
    refine wpAny_pure ⟨plainId_quiet F.plain_set_update_loop _, ih (i + 1) _ (by omega) hlt (W.frame _ s' _ _ hst' (Nat.le_add_right _ _) fun b hb o e => ?_) (Moved.trans W.gtrans hm0 ((hm.mono more).then_heap (Nat.le_add_right _ _) fun b o hb e => ?_)) (fun b o e => ?_) ⟨L', es', ep', t', K', g.step hp c1 c2⟩⟩
    · exact (sb.2 b (fun z => hD (z ▸ hb))).trans e
    · exact (sb.2 b (fun z => hb (z ▸ List.mem_cons_self))).trans e
    · exact (sb.2 b (fun z => by rw [z, hD0] at e; cases e)).trans (old' b o e)
/-- set.__init__ of a list, the new set at D -/
theorem init_keys {l : Addr} {items : Array Value} (ks : List Row) (hh : A.handled = none) {s : Shared} {h0 : Heap} {D : Addr} (hl : s.heap.IsList l items) (hS : s.heap.get? D = some (emptySet w)) (hlD : l ≠ D) (hit : items.toList = ks.map fun p => Value.ref p.1)
    (old : ∀ b o, h0.get? b = some o → s.heap.get? b = some o) (hD0 : h0.get? D = none) (hz : h0.objs.size ≤ s.heap.objs.size) (hk : ∀ p ∈ ks, Key h0 p.2 p.1) (hfew : ks.length < 64) (hu : A.units + 32 < cLine) {Q : Fin → Shared → Prop}
    (h : ∀ (h' : Heap) (tk : Nat) L es ep t, KS w h' D L es ep t → Part ks ks.length L → (∀ b o, h0.get? b = some o → h'.get? b = some o) → Q (.done (.ret .none)) { s with heap := h', toks := tk }) :
    wpAny (model P w) A (Builtin.«set.__init__» ⟨[.ref D, .ref l], []⟩) Q E s := by
  have hl0 := hl
  obtain ⟨ol, hol, hcl, nl, hdl⟩ := hl
  obtain ⟨ocls, odict, odata, oslots⟩ := ol
  simp only at hcl hdl
  subst hcl
  subst hdl
  have hT : s.TypeIs (.ref D) "set" := ⟨_, hS, rfl⟩
  have hsls := F.sub_list_set
  have hslf := F.sub_list_frozenset
  have hne : (Value.type "list" == Value.type "dict") = false := by decide
  unfold Builtin.«set.__init__» noKeywords Builtin.Frozenset.updateFrom
  generalize hPI : pyIter = PI
  wp_walk
  subst hPI
  have hlD' : l < s.heap.objs.size := Heap.lt_size hol
  have hDD : D < s.heap.objs.size := Heap.lt_size hS
  refine wpAny_pyIter_list hl0 (wpAny_bind (wpAny_runValue ?_))
  have none_of : ∀ b, s.heap.objs.size ≤ b → h0.get? b = none := fun b hb => by
    cases q : h0.get? b with
    | none => rfl
    | some o => exact absurd (Nat.lt_of_lt_of_le (Heap.lt_size q) (Nat.le_trans hz hb)) (Nat.lt_irrefl _)
  have hval : ∀ (i : Nat) (v : Value), items[i]? = some v → ∃ p, ks[i]? = some p ∧ v = .ref p.1 := fun i v hv => by
    rw [← Array.getElem?_toList, hit, List.getElem?_map] at hv
    obtain ⟨p, hp, e⟩ := Option.map_eq_some_iff.mp hv
    exact ⟨p, hp, e.symm⟩
  have hn : items.size = ks.length := by rw [← Array.length_toList, hit, List.length_map]
  refine fill ((Walks.list (by simp [hh]) _ l (Nat.ne_of_lt hlD') items).toS) D (by
      simp only [List.mem_cons, List.not_mem_nil, or_false, not_or]
      exact ⟨Nat.ne_of_lt hDD, Ne.symm hlD⟩) ks hn hfew hval h0 hk hD0 (fun b hb => none_of b (by rw [List.mem_singleton.mp hb]; exact Nat.le_refl _)) (by simp only [Around.in1_units]; omega) _ ?fin (items.size - 0) 0 _ rfl (Nat.zero_le _)
    ⟨⟨_, Heap.get?_push_size _ rfl, rfl, rfl⟩, (hl0.push _)⟩ (Moved.refl fun _ => rfl) (fun b o e => Heap.get?_push_of_some _ (old b o e)) ⟨[], #[], 0, _, KS.empty (Heap.get?_push_of_some _ hS), Part.zero ks⟩
  intro s' L es ep t hm K g old'
  obtain ⟨h', g2, d', tk', os'⟩ := s'
  obtain rfl : g2 = s.gens := hm.gens
  obtain rfl : d' = s.drawn := hm.drawn
  obtain rfl : os' = s.os := hm.os
  rw [hn] at g
  exact wpAny_pure (wpAny_pure (h h' tk' L es ep t K g old'))
end
end SD

set_option Elab.async false
set_option linter.all false
set_option maxRecDepth 100000
/-! SetData5: set(xs) called; the sets in the abstract heap; the rules -/
namespace SD
open PySem PySem.Spec PySem.W PyProof.Rows L2
section
variable {P : Program} {w : World} {A : Around} {E : Value → Shared → Prop} {s : Shared}
set_option maxHeartbeats 3200000 in
/-- set(xs), xs a list of keys -/
theorem call_set_keys {l : Addr} {items : Array Value} (ks : List Row) {Q : Value → Shared → Prop} (hh : A.handled = none) (hl : s.heap.IsList l items) (hit : items.toList = ks.map fun p => Value.ref p.1)
    (hk : ∀ p ∈ ks, Key s.heap p.2 p.1) (hfew : ks.length < 64) (hu : A.units + 64 < cLine)
    (h : ∀ (h' : Heap) (tk : Nat) L es ep t, KS w h' s.heap.objs.size L es ep t → Part ks ks.length L → (∀ b o, s.heap.get? b = some o → h'.get? b = some o) → Q (.ref s.heap.objs.size) { s with heap := h', toks := tk }) :
    wpAny (model P w) A (call (.type "set") [.ref l]) Q E s := by
  obtain ⟨c, tl, hmro⟩ := F.called_set.mro
  have hmade := F.called_set.made
  have hsub := F.called_set.sub
  have h1 := F.called_set.notType
  have h2 := F.called_set.canCreate
  have hct := F.typeCall_set_1 (.ref l)
  refine wpAny_call (codeAny_of_tree ?_)
  show wpAny _ _ (callAny (.type "set") _) _ _ _
  refine wpAny_pure ⟨Code.quiet_builtin _ (by decide +kernel), codeAny_builtin F.entry_type_call ?_⟩
  rw [Around.under_plain (weight_type_call_type "set" [.ref l] []) rfl]
  repeat (any_goals (first | assumption | wp_step))
  refine codeAny_mono (code_set_led1 (.ref l) (E := E) (Q₁ := fun obj s₁ => obj = .ref s.heap.objs.size ∧ s₁ = { s with heap := s.heap.push (emptySet w) }) ⟨rfl, rfl⟩) fun r s₁ hr => ?_
  cases r with
  | error e => exact hr
  | ok f =>
    cases f with
    | ret obj =>
      obtain ⟨rfl, rfl⟩ := hr
      have hS : (s.heap.push (emptySet w)).get? s.heap.objs.size = some (emptySet w) := Heap.get?_push_size _ rfl
      have hT : Shared.TypeIs { s with heap := s.heap.push (emptySet w) } (.ref s.heap.objs.size) "set" := ⟨_, hS, rfl⟩
      have hli := F.called_set.init.lookup
      have hbi := F.called_set.init.bind (.ref s.heap.objs.size)
      repeat (any_goals (first | assumption | wp_step))
      refine codeAny_mono (codeAny_call_builtin (R := wants (fun r s₂ => r = .none ∧ ∃ h' tk L es ep t, s₂ = { s with heap := h', toks := tk } ∧ KS w h' s.heap.objs.size L es ep t ∧ Part ks ks.length L ∧
          (∀ b o, s.heap.get? b = some o → h'.get? b = some o)) E) F.called_set.init.plain F.entry_set_init (check_set_init_1 hT ?_)) fun r₂ s₂ hr₂ => ?_
      · have hlt : l < s.heap.objs.size := let ⟨_, ho, _⟩ := hl; Heap.lt_size ho
        have hl2 : (s.heap.push (emptySet w)).IsList l items := let ⟨o, ho, r⟩ := hl; ⟨o, Heap.get?_push_of_some _ ho, r⟩
        refine init_keys (s := { s with heap := s.heap.push (emptySet w) }) (h0 := s.heap) ks (by simp [hh]) hl2 hS (Nat.ne_of_lt hlt) hit (fun b o e => Heap.get?_push_of_some _ e) ?_ (by show _ ≤ (s.heap.push _).objs.size; rw [Heap.size_push]; exact Nat.le_succ _) hk hfew (by simp only [Around.in1_units]; omega)
          fun h' tk L es ep t K g old => ⟨rfl, h', tk, L, es, ep, t, rfl, K, g, old⟩
        cases q : s.heap.get? s.heap.objs.size with
        | none => rfl
        | some o => exact absurd (Heap.lt_size q) (Nat.lt_irrefl _)
      · cases r₂ with
        | error e => exact hr₂
        | ok f₂ =>
          cases f₂ with
          | ret r =>
            obtain ⟨rfl, h', tk, L, es, ep, t, rfl, K, g, old⟩ := hr₂
            repeat (any_goals (first | assumption | wp_step))
            exact h _ _ _ _ _ _ K g old
          | _ => exact hr₂.elim
    | _ => exact hr.elim
end
end SD

set_option Elab.async false
set_option linter.all false
set_option maxRecDepth 100000
/-! SetData6: sets of keys in the abstract heap; set(xs) and sorted(set) as rules of calls -/
namespace SD
open PySem PySem.Spec PySem.W PyProof.Rows L2
/-- the set at a; its keys are told by the abstract heap -/
def KS0 (w : World) (h : Heap) (a : Addr) (L : List Row) : Prop := ∃ (es : Array (Int × Value)) (ep : Nat) (t : SetTable), (∃ o, h.get? a = some o ∧ o.ExactSet ∧ o.data = .set es ep t) ∧ es.toList = ents w L ∧ TabOk t (L.map fun p => p.2.hash w) ∧
  (L.map (·.2)).Nodup ∧ (w.params.followText "set-order" = true ∨ t.led = true) ∧ L.length * 5 < t.mask * 3 ∧ L.length < 64
def SetKO (w : World) (a : Addr) (L : List Row) : HO := .ext fun h => KS0 w h a L
theorem KS.bare {w : World} {h : Heap} {a : Addr} {L : List Row} {es : Array (Int × Value)} {ep : Nat} {t : SetTable} (R : KS w h a L es ep t) : KS0 w h a L := ⟨es, ep, t, R.ob, R.ents, R.tab, R.once, R.led, R.room, R.few⟩
theorem KS0.full {w : World} {h : Heap} {a : Addr} {L : List Row} (R : KS0 w h a L) (hk : ∀ p ∈ L, Key h p.2 p.1) : ∃ es ep t, KS w h a L es ep t := by
  obtain ⟨es, ep, t, r1, r2, r3, r4, r5, r6, r7⟩ := R
  exact ⟨es, ep, t, r1, r2, r3, r4, hk, r5, r6, r7⟩
theorem setKO_new {P : Program} {w : World} {H : Hp} {h : Heap} {a : Addr} {L : List Row} (R : KS0 w h a L) : ObjOk P w H h a (SetKO w a L) := by
  refine ⟨R, ?_, fun h1 h2 p k => ?_⟩
  · obtain ⟨_, _, _, ⟨o, ho, _⟩, _⟩ := R
    exact ⟨o, ho⟩
  · obtain ⟨es, ep, t, ⟨o, ho, r⟩, q⟩ := p
    exact ⟨es, ep, t, ⟨o, k o ho, r⟩, q⟩
section
variable {X : Cx} {pins : List (Addr × Obj)} {σ : L2.St} {H : Hp} {s : Shared}
mutual
theorem key_at (I : Inv X pins σ H s) : ∀ (k : NestedKey) (v : V) (u : Value), Dp X.K H v k.data → RelV v u → NestedIs s.heap k u ∧ Reads s.heap u k.data []
  | .none, _, _, h, r => by
    cases h
    cases r
    exact ⟨.none, .none⟩
  | .num i, _, _, h, r => by
    cases h
    obtain ⟨t, rfl⟩ := r
    exact ⟨.int i t, .int i t⟩
  | .text x, _, _, h, r => by
    cases h
    obtain ⟨t, rfl⟩ := r
    exact ⟨.text x t, .str x t⟩
  | .tup ks, _, _, h, r => by
    simp only [NestedKey.data] at h ⊢
    cases h with
    | tup hs ha =>
      cases r
      obtain ⟨its, rv, ⟨o, ho, hc, n, hd⟩, _⟩ := I.tuple hs
      have q := keys_at I ks _ its ha rv
      exact ⟨.tup ho hc hd (by simpa using q.1), .tuple ho hc hd (by simpa using q.2)⟩
theorem keys_at (I : Inv X pins σ H s) : ∀ (ks : List NestedKey) (vs : List V) (us : List Value), DpAll X.K H vs (NestedKey.datas ks) → Vals vs us → NestedAll s.heap ks us ∧ ReadsAll s.heap us (NestedKey.datas ks) []
  | [], _, _, h, r => by
    cases h
    cases r
    exact ⟨.nil, .nil⟩
  | k :: ks, _, _, h, r => by
    simp only [NestedKey.datas] at h ⊢
    cases h with
    | cons h1 h2 =>
      cases r with
      | cons r1 r2 =>
        have q1 := key_at I k _ _ h1 r1
        have q2 := keys_at I ks _ _ h2 r2
        exact ⟨.cons q1.1 q2.1, .cons (as := []) (bs := []) q1.2 q2.2⟩
end
/-- a row: at its address stands its key -/
def AtRow (K : PySem.W.Frag) (H : Hp) (p : Row) : Prop := Dp K H (.ref p.1) p.2.data ∧ p.2.depth ≤ 8
theorem AtRow.key (I : Inv X pins σ H s) {p : Row} (h : AtRow X.K H p) : Key s.heap p.2 p.1 := ⟨(key_at I p.2 _ _ h.1 rfl).1, h.2⟩
theorem AtRow.reads (I : Inv X pins σ H s) {p : Row} (h : AtRow X.K H p) : Reads s.heap (.ref p.1) p.2.data [] := (key_at I p.2 _ _ h.1 rfl).2
theorem vals_refs {ks : List Row} {us : List Value} (h : Vals (ks.map fun p => V.ref p.1) us) : us = ks.map fun p => Value.ref p.1 := by
  induction ks generalizing us with
  | nil => cases h; rfl
  | cons p ks ih =>
    cases h with
    | cons r t =>
      cases r
      rw [ih t]
      rfl
theorem refs_vals (ks : List Row) : Vals (ks.map fun p => V.ref p.1) (ks.map fun p => Value.ref p.1) := by
  induction ks with
  | nil => exact .nil
  | cons p ks ih => exact .cons rfl ih
end
section
variable {X : Cx}
/-- set(xs) -/
def rSetOf (K : PySem.W.Frag) (w : World) : List V → Hp → VK → Prop := fun xs H Q => ∃ (l : Addr) (ks : List Row), xs = [V.ref l] ∧ SqL K H l (ks.map fun p => V.ref p.1) ∧ (∀ p ∈ ks, AtRow K H p) ∧ ks.length < 64 ∧
  ∀ a L, H a = none → (∀ p ∈ L, p ∈ ks) → (∀ p ∈ ks, p.2 ∈ L.map (·.2)) → (L.map (·.2)).Nodup → Q (.ref a) (upd H a (SetKO w a L))
theorem cr_setOf (hc : X.calm = true) (hu : X.A.units + 128 < cLine) : CallR X (.type "set") (rSetOf X.K X.w) := by
  intro pins s σ H xs us Q I r h
  obtain ⟨l, ks, rfl, hl, hk, hf, q⟩ := h
  rw [Vals.ref1 r]
  obtain ⟨its, rv, pl, hz⟩ := I.list hl
  refine call_set_keys (P := X.prog) (w := X.w) ks (I.ok.hd hc) pl.isList (by simpa using vals_refs rv) (fun p hp => (hk p hp).key I) hf (by omega) fun h' tk L es ep t R g old => ?_
  refine ⟨.ref s.heap.objs.size, upd H s.heap.objs.size (SetKO X.w s.heap.objs.size L), I.laid (t' := tk) old (Nat.le_refl _) (setKO_new R.bare), rfl, q _ L (I.hok.fresh (Nat.le_refl _)) (fun p hp => g.mem hp) (fun p hp => ?_) R.once⟩
  exact g.all p (by rw [List.take_length]; exact hp)
/-- sorted(set) -/
def rSorted (K : PySem.W.Frag) (w : World) : List V → Hp → VK → Prop := fun vs H Q => ∃ (a : Addr) (L : List Row), vs = [V.ref a] ∧ H a = some (SetKO w a L) ∧ (∀ p ∈ L, AtRow K H p) ∧ (∀ p ∈ L, ∀ q ∈ L, alike p.2.data q.2.data = true) ∧ Sortable (L.map fun p => p.2.data) ∧
  ∀ (L1 : List Row) (p : Addr), L1.Perm L → (L1.map (·.2)).Nodup → L1.length < 64 → H p = none → Q (.ref p) (upd H p (.lst ((L1.mergeSort le).map fun q => V.ref q.1)))
theorem cr_sorted (hc : X.calm = true) (hu : X.A.units + 64 < cLine) : CallR X (.builtin "sorted") (rSorted X.K X.w) := by
  intro pins s σ H vs us Q I r h
  obtain ⟨a, L, rfl, ha, hk, hal, hs, q⟩ := h
  have R0 : KS0 X.w s.heap a L := (I.hok a _ ha).1
  obtain ⟨es, ep, t, R⟩ := R0.full fun p hp => (hk p hp).key I
  rw [Vals.ref1 r]
  refine sorted_keys R (I.ok.hd hc) (by omega) (fun p hp => (hk p hp).reads I) hal hs fun s' p out c L1 old g o hp hg pm e => ?_
  have hfew : L1.length < 64 := by rw [pm.length_eq]; exact R.few
  have hn : H p = none := I.hok.fresh hp
  have hlen : ((L1.mergeSort le).map fun q => V.ref q.1).length ≤ sizeLine := by rw [List.length_map, List.length_mergeSort, sizeLine_eq]; omega
  have hv : Vals ((L1.mergeSort le).map fun q => V.ref q.1) out.toList := by rw [e]; exact refs_vals _
  have J : Inv X pins σ (upd H p (.lst ((L1.mergeSort le).map fun q => V.ref q.1))) { s with heap := s'.heap, gens := s'.gens, drawn := s'.drawn, toks := s'.toks } :=
    I.call (ch := []) (Un.laid old hp hn) (I.hok.laid old hp ⟨hlen, out.toList, c, hv, hg⟩) (by rw [g]; exact I.bare) (fun _ z => nomatch z)
  have es' : s' = { s with heap := s'.heap, gens := s'.gens, drawn := s'.drawn, toks := s'.toks } := by
    cases s'
    cases s
    cases o
    rfl
  rw [es']
  exact ⟨.ref p, _, J, rfl, q L1 p pm ((pm.map (·.2)).nodup_iff.mpr R.once) hfew hn⟩
end
end SD

set_option Elab.async false
set_option linter.all false
set_option maxRecDepth 100000
set_option maxHeartbeats 2000000
/-! SetComp: set comprehensions of any items: the loop within its own block, for whatever set.add does (AddR); for keys -/
namespace SD
open PySem PySem.Spec PySem.W PyProof.Rows L2 PpSet
/-- what set.add of one value does to the set at D, in the block Y -/
def AddR (Y : Cx) (D : Addr) (r : V → Hp → (Hp → Prop) → Prop) : Prop := ∀ (pins : List (Addr × Obj)) (σ : L2.St) (H : Hp) (s : Shared) (y : V) (u : Value) (Nx : Hp → Prop), Inv Y pins σ H s → RelV y u → r y H Nx →
  wpAny (model Y.prog Y.w) Y.A (call (.builtin "set.add") [.ref D, u]) (fun _ s' => ∃ H', Inv Y pins σ H' s' ∧ Nx H') (fun _ _ => False) s
/-- a turn's promise -/
def Turning (J : It) (g : TG) (tt : TT) (te : TE) (vs : List Nat) (σ : L2.St) (r : V → Hp → (Hp → Prop) → Prop) (W : Nat → Nat → Hp → Prop) (Qd : Hp → Prop) : Prop := ∀ i m H, W i m H →
  (J.stop i H ∧ Qd H) ∨ (J.go i H ∧ ∃ Nx : Hp → Prop, (∀ H', Nx H' → ∃ m', m' < m ∧ W (i + 1) m' H') ∧ ∀ x H', J.yld i H x H' → g x (wipe σ vs) H' fun σ2 H2 => wipe σ2 vs = wipe σ vs ∧ tt σ2 H2 fun b H3 =>
    if b = true then te σ2 H3 fun y H4 => r y H4 Nx else Nx H3)
section
variable {Y : Cx} {tg elt iter : Expr} {ifs : List Expr} {scope : Scope} {pos : Pos} {J : It} {fp : List Addr} {it D : Addr} {tn : Nat → Heap → Prop} {g : TG} {tt : TT} {te : TE} {vs : List Nat} {σ : L2.St} {r : V → Hp → (Hp → Prop) → Prop} {W : Nat → Nat → Hp → Prop} {Qd : Hp → Prop}
/-- between two turns -/
def Between (Y : Cx) (fp : List Addr) (tn : Nat → Heap → Prop) (σ0 : L2.St) (W : Nat → Nat → Hp → Prop) (n : Nat) (s : Shared) : Prop := ∃ i H, Inv Y [] σ0 H s ∧ tn i s.heap ∧ (∀ b ∈ fp, H b = none) ∧ W i n H
theorem own_fp (hex : Y.ex = fp) (hpn : Y.pn = []) {σ' : L2.St} {H : Hp} {s : Shared} (I : Inv Y [] σ' H s) (hn : ∀ b ∈ fp, H b = none) : ∀ b ∈ fp, FpOk Y [] H b := fun b hb => by
  subst hex
  exact ⟨hn b hb, (I.ok.exf b hb).1, I.ok.exfs b hb, .inl hb, (I.ok.exf b hb).2, fun p hp => by rw [hpn] at hp; exact absurd hp (by simp)⟩
theorem block_loop (hex : Y.ex = fp) (hpn : Y.pn = []) (hxe : Y.xe = fun _ _ => False) (hc : Y.calm = true) (T : Turn Y.prog Y.w Y.K tg J fp it tn) (pg : PG Y tg g) (pt : PTs Y ifs tt) (pe : PE Y elt te) (add : AddR Y D r) (turn : Turning J g tt te vs σ r W Qd)
    {R : Result → Shared → Prop} (fin : ∀ s H, Inv Y [] (wipe σ vs) H s → Qd H → R (.ok .next) s) {n : Nat} {s : Shared} (h : Between Y fp tn (wipe σ vs) W n s) :
    codeAny (model Y.prog Y.w) Y.A (.compLoop (.SetComp elt [⟨tg, iter, ifs, 0⟩] scope pos) 0 (.ref it) (.ref D) Y.env) R s := by
  refine compLoopS_any (Between Y fp tn (wipe σ vs) W) (fun n s b => ?_) n h
  obtain ⟨i, H, I, st, nf, w⟩ := b
  rcases turn i n H w with ⟨stop, qd⟩ | ⟨go, Nx, less, step⟩
  · refine thnF (T.done Y rfl rfl rfl hc i [] s _ H (fun _ _ => False) I (own_fp hex hpn I nf) st stop) fun r s1 z => ?_
    obtain ⟨rfl, I1⟩ := z
    exact fin s1 H I1 qd
  · refine thnF (T.item Y rfl rfl rfl hc i [] s _ H (fun _ _ => False) I (own_fp hex hpn I nf) st go) fun r s1 z => ?_
    obtain ⟨u, rfl, z⟩ := z
    refine thnF z fun _ s2 z => ?_
    obtain ⟨x, H2, I2, rx, y2, st2, nf2⟩ := z
    -- the iterator's objects stay through the turn
    have I2' := I2.pinned (own_fp hex hpn I2 nf2) (T.obj _ _ st2)
    have back : ∀ {s' : Shared} {H' : Hp} {σ' : L2.St}, wipe σ' vs = wipe σ vs → Inv Y ([] ++ pinsAt fp s2.heap) σ' H' s' → Nx H' → ∃ m, m < n ∧ Between Y fp tn (wipe σ vs) W m s' := fun {s' H' σ'} ew I' nx => by
      obtain ⟨m, hm, w'⟩ := less H' nx
      have pin : ∀ b ∈ fp, ∀ o, s2.heap.get? b = some o → s'.heap.get? b = some o ∧ H' b = none := fun b hb o e =>
        have z := I'.pin (b, o) (List.mem_append_right _ (List.mem_append_right _ (mem_pinsAt hb e)))
        ⟨z.1, z.2.1⟩
      refine ⟨m, hm, i + 1, H', I'.unpinned.weak (by rw [← ew, wipe_length]) (fun j v e => (wipe_some (ew ▸ e)).1), T.keep _ _ _ st2 fun b hb o e => (pin b hb o e).1, fun b hb => ?_, w'⟩
      obtain ⟨o, e, _⟩ := T.obj _ _ st2 b hb
      exact (pin b hb o e).2
    have r1 := pg.run _ s2 _ H2 x u _ I2' rx (step x H2 y2)
    rw [hxe] at r1
    refine thnF r1 fun _ s3 z => ?_
    obtain ⟨σ3, H3, I3, ew, q3⟩ := z
    have r2 := pt.run _ s3 σ3 H3 _ I3 q3
    rw [hxe] at r2
    refine thnF r2 fun b s4 z => ?_
    obtain ⟨H4, I4, q4⟩ := z
    cases b with
    | false => exact back ew I4 (by simpa using q4)
    | true =>
      simp only [if_true] at q4 ⊢
      have r3 := pe.run _ s4 σ3 H4 _ I4 q4
      rw [hxe] at r3
      refine thnF r3 fun v s5 z => ?_
      obtain ⟨y, H5, I5, ry, q5⟩ := z
      refine thnF (add _ σ3 H5 s5 y v Nx I5 ry q5) fun _ s6 z => ?_
      obtain ⟨H6, I6, nx⟩ := z
      exact back ew I6 nx
end
section
variable {X : Cx}
/-- {elt for target in iter if ..}: D the new set, N how it stands empty, r what an add does -/
def tScG (N : Addr → HO) (r : Addr → V → Hp → (Hp → Prop) → Prop) (wi : TI) (g : TG) (tt : TT) (te : TE) (vs : List Nat) : TE := fun σ H Q => wi σ H fun J H1 => ∀ D, H1 D = none → ∃ W : Nat → Nat → Hp → Prop, (∃ m, W 0 m (upd H1 D (N D))) ∧ Turning J g tt te vs σ (r D) W (Q (.ref D))
theorem pe_scG {N : Addr → HO} {r : Addr → V → Hp → (Hp → Prop) → Prop} {elt tg iter : Expr} {ifs : List Expr} {scope : Scope} {own : List (PySem.Str × Nat)} {pos : Pos} {wi : TI} {g : TG} {tt : TT} {te : TE}
    (hnew : ∀ (H : Hp) (h : Heap) (a : Addr), h.get? a = some (emptySet X.w) → ObjOk X.prog X.w H h a (N a)) (hadd : ∀ (s : Shared) (H : Hp) (C : Addr) (cl : List (PySem.Str × Addr)) (fp : List Addr) (D : Addr), AddR (X.blk s H scope (compEnvC scope cl C X.env) fp) D (r D))
    (hc : X.calm = true) (hN : X.N.Nodup) (hi : PI X tg iter wi) (ok : BlkOk X.N X.env.scope scope own)
    (hg : ∀ (s : Shared) (H : Hp) (C : Addr) (cl : List (PySem.Str × Addr)) (fp : List Addr), PG (X.blk s H scope (compEnvC scope cl C X.env) fp) tg g) (ht : ∀ (s : Shared) (H : Hp) (C : Addr) (cl : List (PySem.Str × Addr)) (fp : List Addr), PTs (X.blk s H scope (compEnvC scope cl C X.env) fp) ifs tt)
    (he : ∀ (s : Shared) (H : Hp) (C : Addr) (cl : List (PySem.Str × Addr)) (fp : List Addr), PE (X.blk s H scope (compEnvC scope cl C X.env) fp) elt te) (hs : ∀ x, foldedSetIterable iter X.env x = pure x := by intro _; rfl) :
    PE X (.SetComp elt [⟨tg, iter, ifs, 0⟩] scope pos) (tScG N r wi g tt te (own.map (·.2))) := by
  refine ⟨fun pins s σ H Q I h => ?_⟩
  rw [eval_SetComp]
  have cells : ∀ y ∈ scope.names, y.2 = .free → ∃ c, X.env.cells.lookup y.1 = some c := fun y hy e => I.ok.has _ (ok.free y hy e)
  refine wpAny_comprehension_free (use := none) rfl hs (closure_ok cells) ok.kind (fun y hy e => by rw [ok.uniq y hy, e]) (thn (hi.run pins s σ H _ I h) fun _ s1 z => thn z fun _ s2 z => ?_)
  obtain ⟨it, fp, tn, J, H2, rfl, I2, T, st2, f2, q⟩ := z
  refine newSet_ok (newEnv_comp ?_)
  obtain ⟨W, ⟨m0, w0⟩, turn⟩ := q s2.heap.objs.size (I2.hok.fresh (Nat.le_refl _))
  have I3 : Inv X pins σ (upd H2 s2.heap.objs.size (N s2.heap.objs.size)) { s2 with heap := s2.heap.push (emptySet X.w) } := I2.laid (t' := s2.toks) (fun b o e => Heap.get?_push_of_some _ e) (Nat.le_refl _) (hnew _ _ _ (Heap.get?_push_size _ rfl))
  have small : ∀ b ∈ fp, b < s2.heap.objs.size := fun b hb => by
    obtain ⟨o, e, _⟩ := T.obj _ _ st2 b hb
    exact Heap.lt_size e
  have f3 : ∀ b ∈ fp, FpOk X pins (upd H2 s2.heap.objs.size (N s2.heap.objs.size)) b ∧ b < (s2.heap.push (emptySet X.w)).objs.size := fun b hb => by
    refine ⟨⟨?_, (f2 b hb).2⟩, by rw [Heap.size_push]; exact Nat.lt_succ_of_lt (small b hb)⟩
    rw [upd_ne (Nat.ne_of_lt (small b hb))]
    exact (f2 b hb).1
  have st3 : tn 0 (s2.heap.push (emptySet X.w)) := T.keep _ _ _ st2 fun b _ o e => Heap.get?_push_of_some _ e
  generalize hs3 : ({ s2 with heap := s2.heap.push (emptySet X.w) } : Shared) = s3 at I3
  have eh : s2.heap.push (emptySet X.w) = s3.heap := by rw [← hs3]
  rw [eh] at f3 st3
  generalize s2.heap.objs.size = D at I3 f3 w0 turn ⊢
  generalize upd H2 D (N D) = H3 at I3 f3 w0
  have I4 := block_start I3 ok hN f3
  have nC : ∀ {H' : Hp} {σ' : L2.St} {s' : Shared}, Inv (X.blk s3 H3 scope (compEnvC scope (cellsFrom (s3.heap.objs.size + 1) scope.names (cloFrom X.env.cells scope.names [])) s3.heap.objs.size X.env) fp) [] σ' H' s' → H' s3.heap.objs.size = none := fun I => I.free
  have loop : codeAny (model X.prog X.w) X.A (.compLoop (.SetComp elt [⟨tg, iter, ifs, 0⟩] scope pos) 0 (.ref it) (.ref D) (compEnvC scope (cellsFrom (s3.heap.objs.size + 1) scope.names (cloFrom X.env.cells scope.names [])) s3.heap.objs.size X.env))
      (compPost (model X.prog X.w) X.A X.xe none (EP X pins σ Q) (.ref D) s3.heap.objs.size) { s3 with heap := pushCells (s3.heap.push { cls := .type "dict", data := .dict #[] }) scope.names } := by
    refine block_loop (Y := X.blk s3 H3 scope (compEnvC scope (cellsFrom (s3.heap.objs.size + 1) scope.names (cloFrom X.env.cells scope.names [])) s3.heap.objs.size X.env) fp) rfl rfl rfl hc T (hg ..) (ht ..) (he ..) (hadd _ _ _ _ _ _) turn (fun s' H' I' qd => ?_)
      ⟨0, H3, I4, T.keep _ _ _ st3 fun b _ o e => pushCells_keeps _ _ _ _ (Heap.get?_push_of_some _ e), fun b hb => (f3 b hb).1.1, w0⟩
    -- back in the def's own context
    have I6 : Inv X pins σ H' s' := I3.call' (ch := fp) I'.os I'.base I'.hok I'.bare fun b hb => ⟨(f3 b hb).1.2.2.2.1, (f3 b hb).1.2.1, (f3 b hb).1.2.2.2.2.1, (f3 b hb).1.2.2.2.2.2⟩
    obtain ⟨m, hn, _⟩ := I'.loc
    obtain ⟨f0, f1, f2, f3, f4, f5⟩ := I3.fpOk (Nat.le_refl _) (nC I')
    exact ⟨m, hn, fun h'' sb => ⟨.ref D, H', I6.turned (t' := s'.toks) (fun b o hb e => (sb.2 b hb).trans e) f0 f1 f3 f4 f5, rfl, qd⟩⟩
  have st4 : tn 0 (pushCells (s3.heap.push { cls := .type "dict", data := .dict #[] }) scope.names) := T.keep _ _ _ st3 fun b _ o e => pushCells_keeps _ _ _ _ (Heap.get?_push_of_some _ e)
  rw [← hs3] at loop st4 ⊢
  exact PpSet.codeAny_compStart_set loop (T.self X.A 0 _ _ _ st4 loop)
end
end SD

set_option Elab.async false
set_option linter.all false
set_option maxRecDepth 100000
set_option maxHeartbeats 2000000
/-! SetComp2: the comprehension of keys, over a list -/
namespace SD
open PySem PySem.Spec PySem.W PyProof.Rows L2 PpSet
def rAdd (K : PySem.W.Frag) (w : World) (D : Addr) : V → Hp → (Hp → Prop) → Prop := fun y H Nx => ∃ (x : Addr) (k : NestedKey) (L : List Row), y = .ref x ∧ AtRow K H (x, k) ∧ H D = some (SetKO w D L) ∧ (∀ p ∈ L, AtRow K H p) ∧ L.length + 1 < 64 ∧
  ∀ L' : List Row, (k ∈ L.map (·.2) → L' = L) → (k ∉ L.map (·.2) → L'.Perm ((x, k) :: L)) → (L'.map (·.2)).Nodup → Nx (upd H D (SetKO w D L'))
theorem add_keys {Y : Cx} (D : Addr) (hu : Y.A.units + 64 < cLine) : AddR Y D (rAdd Y.K Y.w D) := by
  intro pins σ H s y u Nx I ry h
  obtain ⟨x, k, L, rfl, hx, hD, hk, hf, q⟩ := h
  cases ry
  have R0 : KS0 Y.w s.heap D L := (I.hok D _ hD).1
  obtain ⟨es, ep, t, R⟩ := R0.full fun p hp => (hk p hp).key I
  refine call_add (P := Y.prog) (w := Y.w) R (hx.key I) (by omega) hf fun h' L' es' ep' t' sb K c1 c2 => ?_
  have new := setKO_new (P := Y.prog) (H := upd H D (SetKO Y.w D L')) K.bare
  have he : ∃ v, h'.get? D = some v := let ⟨o, ho, _⟩ := K.ob; ⟨o, ho⟩
  exact ⟨_, I.write (e := D) (t' := s.toks + k.draws) (by rw [hD]; trivial) (.inl rfl) (fun b v hb hv => (sb.2 b hb).trans hv) he new, q L' c1 c2 K.once⟩
theorem new_keys {X : Cx} (H : Hp) (h : Heap) (a : Addr) (e : h.get? a = some (emptySet X.w)) : ObjOk X.prog X.w H h a (SetKO X.w a []) := setKO_new (KS.empty e).bare
/-- {elt for target in iter if ..} of keys -/
theorem pe_scK {X : Cx} {elt tg iter : Expr} {ifs : List Expr} {scope : Scope} {own : List (PySem.Str × Nat)} {pos : Pos} {wi : TI} {g : TG} {tt : TT} {te : TE} (hu : X.A.units + 64 < cLine)
    (hc : X.calm = true) (hN : X.N.Nodup) (hi : PI X tg iter wi) (ok : BlkOk X.N X.env.scope scope own)
    (hg : ∀ (s : Shared) (H : Hp) (C : Addr) (cl : List (PySem.Str × Addr)) (fp : List Addr), PG (X.blk s H scope (compEnvC scope cl C X.env) fp) tg g) (ht : ∀ (s : Shared) (H : Hp) (C : Addr) (cl : List (PySem.Str × Addr)) (fp : List Addr), PTs (X.blk s H scope (compEnvC scope cl C X.env) fp) ifs tt)
    (he : ∀ (s : Shared) (H : Hp) (C : Addr) (cl : List (PySem.Str × Addr)) (fp : List Addr), PE (X.blk s H scope (compEnvC scope cl C X.env) fp) elt te) (hs : ∀ x, foldedSetIterable iter X.env x = pure x := by intro _; rfl) :
    PE X (.SetComp elt [⟨tg, iter, ifs, 0⟩] scope pos) (tScG (fun a => SetKO X.w a []) (rAdd X.K X.w) wi g tt te (own.map (·.2))) :=
  pe_scG (fun H h a e => new_keys H h a e) (fun s H C cl fp D => add_keys (Y := X.blk s H scope (compEnvC scope cl C X.env) fp) D hu) hc hN hi ok hg ht he hs
end SD

set_option Elab.async false
set_option linter.all false
set_option maxRecDepth 100000
/-! RowData: types of rows (RowTy: a key for each value), their order, the one ascending list without duplicates (canon); rows (data, start, stop), data, ends (moment, data) -/
namespace SD
open PySem PySem.Spec PySem.W PyProof.Rows L2
/-- a type whose values are keys -/
class RowTy (ρ : Type) where
  key : ρ → NestedKey
  inj : ∀ {p q : ρ}, key p = key q → p = q
  depth : ∀ r : ρ, (key r).depth ≤ 8
  alike : ∀ p q : ρ, PySem.W.alike (key p).data (key q).data = true
  toks : ∀ {p q : ρ}, keyToks (key p).data = keyToks (key q).data → p = q
section
variable {ρ : Type} [RowTy ρ]
abbrev rk (r : ρ) : NestedKey := RowTy.key r
def rlt (p q : ρ) : Bool := dataLt (rk p).data (rk q).data
def rle (p q : ρ) : Bool := !rlt q p
theorem rlt_irrefl (p : ρ) : rlt p p = false := lex_irrefl _
theorem rlt_trans {p q r : ρ} (h1 : rlt p q = true) (h2 : rlt q r = true) : rlt p r = true := lex_trans _ _ _ h1 h2
theorem rlt_total {p q : ρ} (h1 : rlt p q = false) (h2 : rlt q p = false) : p = q := RowTy.toks (lex_total _ _ h1 h2)
theorem rlt_tri {p q : ρ} (h : p ≠ q) (h1 : rlt p q = false) : rlt q p = true := by
  cases e : rlt q p with
  | true => rfl
  | false => exact absurd (rlt_total h1 e) h
theorem rle_total (p q : ρ) : (rle p q || rle q p) = true := by
  unfold rle
  cases e : rlt q p with
  | false => rfl
  | true =>
    cases e2 : rlt p q with
    | false => rfl
    | true => exact absurd (rlt_trans e e2) (by rw [rlt_irrefl]; decide)
theorem rle_trans {p q r : ρ} (h1 : rle p q = true) (h2 : rle q r = true) : rle p r = true := by
  unfold rle at *
  cases e : rlt r p with
  | false => rfl
  | true =>
    rcases lex_negTrans _ (keyToks (rk q).data) _ e with k | k
    · have k' : rlt r q = true := k
      rw [k'] at h2
      cases h2
    · have k' : rlt q p = true := k
      rw [k'] at h1
      cases h1
theorem rlt_of {p q : ρ} (h : rle p q = true) (ne : p ≠ q) : rlt p q = true := by
  unfold rle at h
  cases e : rlt p q with
  | true => rfl
  | false =>
    rw [rlt_tri ne e] at h
    cases h

/-! ### ascending without duplicates -/
def Asc (l : List ρ) : Prop := l.Pairwise fun p q => rlt p q = true
theorem Asc.ext : ∀ {a b : List ρ}, Asc a → Asc b → (∀ x, x ∈ a ↔ x ∈ b) → a = b
  | [], [], _, _, _ => rfl
  | [], y :: b, _, _, h => by simpa using (h y)
  | x :: a, [], _, _, h => by simpa using (h x)
  | x :: a, y :: b, ha, hb, h => by
    obtain ⟨a1, a2⟩ := List.pairwise_cons.mp ha
    obtain ⟨b1, b2⟩ := List.pairwise_cons.mp hb
    have e : x = y := by
      rcases List.mem_cons.mp ((h x).mp List.mem_cons_self) with e | e
      · exact e
      · rcases List.mem_cons.mp ((h y).mpr List.mem_cons_self) with e2 | e2
        · exact e2.symm
        · exact absurd (rlt_trans (a1 y e2) (b1 x e)) (by rw [rlt_irrefl]; decide)
    subst e
    refine congrArg (x :: ·) (Asc.ext a2 b2 fun z => ⟨fun hz => ?_, fun hz => ?_⟩)
    · rcases List.mem_cons.mp ((h z).mp (List.mem_cons_of_mem _ hz)) with e | e
      · rw [e] at hz
        exact absurd (a1 x hz) (by rw [rlt_irrefl]; decide)
      · exact e
    · rcases List.mem_cons.mp ((h z).mpr (List.mem_cons_of_mem _ hz)) with e | e
      · rw [e] at hz
        exact absurd (b1 x hz) (by rw [rlt_irrefl]; decide)
      · exact e
open Classical in
noncomputable def ins (x : ρ) : List ρ → List ρ
  | [] => [x]
  | y :: l => if x = y then y :: l else if rlt x y = true then x :: y :: l else y :: ins x l
theorem mem_ins' {x z : ρ} : ∀ {l : List ρ}, z ∈ ins x l ↔ z = x ∨ z ∈ l
  | [] => by simp [ins]
  | y :: l => by
    unfold ins
    by_cases h : x = y
    · rw [if_pos h, h]
      simp
    · rw [if_neg h]
      by_cases h2 : rlt x y = true
      · rw [if_pos h2]
        simp
      · rw [if_neg h2, List.mem_cons, mem_ins', List.mem_cons]
        constructor
        · rintro (z | z | z)
          · exact .inr (.inl z)
          · exact .inl z
          · exact .inr (.inr z)
        · rintro (z | z | z)
          · exact .inr (.inl z)
          · exact .inl z
          · exact .inr (.inr z)
theorem asc_ins {x : ρ} : ∀ {l : List ρ}, Asc l → Asc (ins x l)
  | [], _ => List.pairwise_singleton _ _
  | y :: l, h => by
    obtain ⟨h1, h2⟩ := List.pairwise_cons.mp h
    unfold ins
    by_cases e : x = y
    · rw [if_pos e]
      exact h
    · rw [if_neg e]
      by_cases e2 : rlt x y = true
      · rw [if_pos e2]
        refine List.pairwise_cons.mpr ⟨fun z hz => ?_, h⟩
        rcases List.mem_cons.mp hz with e3 | hz
        · rw [e3]; exact e2
        · exact rlt_trans e2 (h1 z hz)
      · rw [if_neg e2]
        refine List.pairwise_cons.mpr ⟨fun z hz => ?_, asc_ins h2⟩
        rcases mem_ins'.mp hz with e3 | hz
        · rw [e3]
          exact rlt_tri e (by simpa using e2)
        · exact h1 z hz
/-- the rows, ascending, each once -/
noncomputable def canon (l : List ρ) : List ρ := l.foldr ins []
theorem mem_canon {x : ρ} : ∀ {l : List ρ}, x ∈ canon l ↔ x ∈ l
  | [] => by simp [canon]
  | y :: l => by
    show x ∈ ins y (canon l) ↔ _
    rw [mem_ins', mem_canon, List.mem_cons]
theorem asc_canon : ∀ l : List ρ, Asc (canon l)
  | [] => List.Pairwise.nil
  | y :: l => asc_ins (asc_canon l)
theorem canon_eq {a b : List ρ} (ha : Asc a) (h : ∀ x, x ∈ a ↔ x ∈ b) : a = canon b := Asc.ext ha (asc_canon b) fun x => (h x).trans mem_canon.symm
theorem canon_asc {a : List ρ} (ha : Asc a) : canon a = a := (canon_eq ha fun _ => Iff.rfl).symm
theorem canon_congr {a b : List ρ} (h : ∀ x, x ∈ a ↔ x ∈ b) : canon a = canon b := canon_eq (asc_canon a) fun x => mem_canon.trans (h x)
/-- sorted without a duplicate is ascending -/
theorem asc_of {l : List ρ} (h1 : l.Pairwise fun p q => rle p q = true) (h2 : l.Nodup) : Asc l := (h1.and h2).imp fun h => rlt_of h.1 h.2
theorem Asc.nodup {l : List ρ} (h : Asc l) : l.Nodup := h.imp fun {a b} hab e => by rw [e, rlt_irrefl] at hab; cases hab
theorem asc_sort {l : List ρ} (h : l.Nodup) : Asc (l.mergeSort rle) :=
  asc_of (List.pairwise_mergeSort (le := rle) (fun _ _ _ h1 h2 => rle_trans h1 h2) (fun a b => rle_total a b) l) ((List.mergeSort_perm l rle).nodup_iff.mpr h)
end

/-- the data (texts), the start, the stop -/
abbrev RowD := List Str × Int × Int
def keyR (r : RowD) : NestedKey := .tup [.tup (r.1.map .text), .num r.2.1, .num r.2.2]
theorem texts_inj : ∀ {xs ys : List Str}, xs.map NestedKey.text = ys.map NestedKey.text → xs = ys
  | [], [], _ => rfl
  | [], _ :: _, h => by cases h
  | _ :: _, [], h => by cases h
  | x :: xs, y :: ys, h => by
    rw [List.map_cons, List.map_cons] at h
    injection h with h1 h2
    injection h1 with h1
    rw [h1, texts_inj h2]
theorem keyR_inj {p q : RowD} (h : keyR p = keyR q) : p = q := by
  obtain ⟨a, b, c⟩ := p
  obtain ⟨a', b', c'⟩ := q
  unfold keyR at h
  injection h with h
  injection h with h1 h2
  injection h1 with h1
  injection h2 with h2 h3
  injection h2 with h2
  injection h3 with h3 _
  injection h3 with h3
  have e := texts_inj h1
  dsimp only at e h2 h3
  rw [e, h2, h3]
theorem datas_texts : ∀ xs : List Str, NestedKey.datas (xs.map .text) = xs.map .str
  | [] => by simp [NestedKey.datas]
  | x :: xs => by
    rw [List.map_cons, List.map_cons, NestedKey.datas, datas_texts xs]
    simp [NestedKey.data]
theorem keyR_data (r : RowD) : (keyR r).data = .tuple [.tuple (r.1.map .str), .int r.2.1, .int r.2.2] := by
  unfold keyR
  simp only [NestedKey.data, NestedKey.datas, datas_texts]
theorem texts_depth : ∀ xs : List Str, NestedKey.depthAll (xs.map .text) = 0
  | [] => by simp [NestedKey.depthAll]
  | x :: xs => by
    rw [List.map_cons, NestedKey.depthAll, texts_depth xs]
    simp [NestedKey.depth]
theorem keyR_depth (r : RowD) : (keyR r).depth ≤ 8 := by
  unfold keyR
  simp only [NestedKey.depth, NestedKey.depthAll, texts_depth]
  omega
theorem alike_texts : ∀ xs ys : List Str, alikeAll (xs.map .str) (ys.map .str) = true
  | [], _ => by simp [alikeAll]
  | _ :: _, [] => by simp [alikeAll]
  | x :: xs, y :: ys => by
    rw [List.map_cons, List.map_cons, alikeAll, alike_texts xs ys]
    simp [alike]
theorem keyR_alike (p q : RowD) : alike (keyR p).data (keyR q).data = true := by
  rw [keyR_data, keyR_data]
  simp [alike, alikeAll, alike_texts]
theorem toks_texts : ∀ {xs ys : List Str} {u v : List (Int ⊕ List Nat)}, keyToksAll (xs.map .str) ++ u = keyToksAll (ys.map .str) ++ v → xs = ys ∧ u = v
  | [], [], u, v, h => ⟨rfl, by simpa [keyToksAll] using h⟩
  | [], y :: ys, u, v, h => by simp [keyToksAll] at h
  | x :: xs, [], u, v, h => by simp [keyToksAll] at h
  | x :: xs, y :: ys, u, v, h => by
    simp only [List.map_cons, keyToksAll, keyToks, List.cons_append, List.nil_append, List.cons.injEq, true_and, Sum.inr.injEq] at h
    obtain ⟨h1, h2⟩ := h
    obtain ⟨e1, e2⟩ := toks_texts h2
    have ex : x = y := by
      cases x with | mk a => cases y with | mk b => exact congrArg Str.mk (Array.toList_inj.mp h1)
    exact ⟨by rw [ex, e1], e2⟩
theorem keyR_toks {p q : RowD} (h : keyToks (keyR p).data = keyToks (keyR q).data) : p = q := by
  obtain ⟨a, b, c⟩ := p
  obtain ⟨a', b', c'⟩ := q
  rw [keyR_data, keyR_data] at h
  simp only [keyToks, keyToksAll, List.cons_append, List.nil_append, List.cons.injEq, true_and] at h
  obtain ⟨e, h⟩ := toks_texts h
  simp at h
  rw [e, h.1, h.2]
instance : RowTy RowD := ⟨keyR, keyR_inj, keyR_depth, keyR_alike, keyR_toks⟩
theorem rk_row (r : RowD) : rk r = keyR r := rfl
/-- data: a tuple of texts -/
def keyT (xs : List Str) : NestedKey := .tup (xs.map .text)
theorem keyT_data (xs : List Str) : (keyT xs).data = .tuple (xs.map .str) := by
  unfold keyT
  simp only [NestedKey.data, datas_texts]
instance : RowTy (List Str) where
  key := keyT
  inj := fun h => by
    unfold keyT at h
    injection h with h
    exact texts_inj h
  depth := fun r => by
    unfold keyT
    simp only [NestedKey.depth, texts_depth]
    omega
  alike := fun p q => by
    rw [keyT_data, keyT_data]
    simp [alike, alike_texts]
  toks := fun {p q} h => by
    rw [keyT_data, keyT_data] at h
    simp only [keyToks] at h
    exact (toks_texts (u := []) (v := []) (by rw [h])).1
/-- an end: the moment and the data -/
def keyE (r : Int × List Str) : NestedKey := .tup [.num r.1, .tup (r.2.map .text)]
theorem keyE_data (r : Int × List Str) : (keyE r).data = .tuple [.int r.1, .tuple (r.2.map .str)] := by
  unfold keyE
  simp only [NestedKey.data, NestedKey.datas, datas_texts]
instance : RowTy (Int × List Str) where
  key := keyE
  inj := fun {p q} h => by
    obtain ⟨a, b⟩ := p
    obtain ⟨a', b'⟩ := q
    unfold keyE at h
    injection h with h
    injection h with h1 h2
    injection h1 with h1
    injection h2 with h2 _
    injection h2 with h2
    have e := texts_inj h2
    dsimp only at e h1
    rw [e, h1]
  depth := fun r => by
    unfold keyE
    simp only [NestedKey.depth, NestedKey.depthAll, texts_depth]
    omega
  alike := fun p q => by
    rw [keyE_data, keyE_data]
    simp [alike, alikeAll, alike_texts]
  toks := fun {p q} h => by
    obtain ⟨a, b⟩ := p
    obtain ⟨a', b'⟩ := q
    rw [keyE_data, keyE_data] at h
    simp only [keyToks, keyToksAll, List.cons_append, List.nil_append, List.cons.injEq, true_and, Sum.inl.injEq] at h
    rw [h.1, (toks_texts h.2).1]
end SD

set_option Elab.async false
set_option linter.all false
set_option maxRecDepth 100000
/-! RowRules: lists and sets of rows by a word: set(xs), sorted(set) -/
namespace SD
open PySem PySem.Spec PySem.W PyProof.Rows L2 Evl My
mutual
theorem dp_ex {K : PySem.W.Frag} {H H' : Hp} (e : Ex H H') : ∀ (d : PyData) (v : V), Dp K H v d → Dp K H' v d
  | .none, _, h => by cases h; exact .non
  | .bool b, _, h => by cases h; exact .bl b
  | .int i, _, h => by cases h; exact .int i
  | .str x, _, h => by cases h; exact .str x
  | .list ds, _, h => by
    cases h with
    | lst hs ha => exact .lst (ex_l e hs) (dps_ex e ds _ ha)
  | .tuple ds, _, h => by
    cases h with
    | tup hs ha => exact .tup (ex_t e hs) (dps_ex e ds _ ha)
  | .dict _, _, h => by cases h
theorem dps_ex {K : PySem.W.Frag} {H H' : Hp} (e : Ex H H') : ∀ (ds : List PyData) (vs : List V), DpAll K H vs ds → DpAll K H' vs ds
  | [], _, h => by cases h; exact .nil
  | d :: ds, _, h => by
    cases h with
    | cons h1 h2 => exact .cons (dp_ex e d _ h1) (dps_ex e ds _ h2)
end
theorem AtRow.ex {K : PySem.W.Frag} {H H' : Hp} (e : Ex H H') {p : Row} (h : AtRow K H p) : AtRow K H' p := ⟨dp_ex e _ _ h.1, h.2⟩
variable {ρ : Type} [RowTy ρ]
/-- the values xs are the rows ds -/
def RowsAt (K : PySem.W.Frag) (H : Hp) (xs : List V) (ds : List ρ) : Prop := ∃ ks : List Row, xs = ks.map (fun p => V.ref p.1) ∧ (∀ p ∈ ks, AtRow K H p) ∧ ks.map (·.2) = ds.map rk
theorem RowsAt.ex {K : PySem.W.Frag} {H H' : Hp} (e : Ex H H') {xs : List V} {ds : List ρ} (h : RowsAt K H xs ds) : RowsAt K H' xs ds := by
  obtain ⟨ks, h1, h2, h3⟩ := h
  exact ⟨ks, h1, fun p hp => (h2 p hp).ex e, h3⟩
theorem RowsAt.length {K : PySem.W.Frag} {H : Hp} {xs : List V} {ds : List ρ} (h : RowsAt K H xs ds) : xs.length = ds.length := by
  obtain ⟨ks, h1, _, h3⟩ := h
  have e := congrArg List.length h3
  rw [List.length_map, List.length_map] at e
  rw [h1, List.length_map, e]
/-- at a stands a set of the rows ds -/
def SetRows (K : PySem.W.Frag) (w : World) (H : Hp) (a : Addr) (ds : List ρ) : Prop := ∃ L : List Row, H a = some (SetKO w a L) ∧ (∀ p ∈ L, AtRow K H p ∧ ∃ r ∈ ds, p.2 = rk r) ∧ ∀ r ∈ ds, rk r ∈ L.map (·.2)
theorem SetRows.ex {K : PySem.W.Frag} {w : World} {H H' : Hp} (e : Ex H H') {a : Addr} {ds : List ρ} (h : SetRows K w H a ds) : SetRows K w H' a ds := by
  obtain ⟨L, h1, h2, h3⟩ := h
  exact ⟨L, e _ _ h1, fun p hp => ⟨(h2 p hp).1.ex e, (h2 p hp).2⟩, h3⟩
theorem rows_keys {ks : List Row} {ds : List ρ} (h : ks.map (·.2) = ds.map rk) {p : Row} (hp : p ∈ ks) : ∃ r ∈ ds, p.2 = rk r := by
  have q : p.2 ∈ ds.map rk := by
    rw [← h]
    exact List.mem_map.mpr ⟨p, hp, rfl⟩
  obtain ⟨r, hr, e⟩ := List.mem_map.mp q
  exact ⟨r, hr, e.symm⟩
section
variable {K : PySem.W.Frag} {w : World} {σ : L2.St} {H : Hp} {ta : TE} {ds : List ρ}
/-- set(xs) -/
theorem evp_setOf (h : EvP ta σ H fun v H => ∃ a xs, v = .ref a ∧ SqL K H a xs ∧ RowsAt K H xs ds) (hf : ds.length < 64) : EvP (tCB (rSetOf K w) (tCons ta tNil)) σ H fun v H => ∃ a, v = .ref a ∧ SetRows K w H a ds := fun H1 e Q q =>
  h H1 e _ fun v H2 e2 ⟨a, xs, hv, hx, hr⟩ => by
    subst hv
    obtain ⟨ks, rfl, h2, h3⟩ := hr
    have hl : ks.length < 64 := by
      have z := congrArg List.length h3
      rw [List.length_map, List.length_map] at z
      rw [z]
      exact hf
    refine ⟨a, ks, rfl, hx, h2, hl, fun b L hb sub all _ => q _ _ (e2.trans (Ex.new hb)) ⟨b, rfl, L, upd_same, fun p hp => ⟨(h2 p (sub p hp)).ex (Ex.new hb), rows_keys h3 (sub p hp)⟩, fun r hr => ?_⟩⟩
    have z : rk r ∈ ks.map (·.2) := by
      rw [h3]
      exact List.mem_map.mpr ⟨r, hr, rfl⟩
    obtain ⟨p, hp, ep⟩ := List.mem_map.mp z
    rw [← ep]
    exact all p hp
theorem keys_rows {ds : List ρ} : ∀ (L : List Row), (∀ p ∈ L, ∃ r ∈ ds, p.2 = rk r) → ∃ ds1 : List ρ, L.map (·.2) = ds1.map rk
  | [], _ => ⟨[], rfl⟩
  | p :: L, h => by
    obtain ⟨r, _, e⟩ := h p List.mem_cons_self
    obtain ⟨ds1, e1⟩ := keys_rows L fun q hq => h q (List.mem_cons_of_mem _ hq)
    exact ⟨r :: ds1, by rw [List.map_cons, List.map_cons, e, e1]⟩
theorem mem_rk {ds : List ρ} {r : ρ} : rk r ∈ ds.map rk ↔ r ∈ ds := ⟨fun h => by
  obtain ⟨q, hq, e⟩ := List.mem_map.mp h
  rw [← RowTy.inj e]
  exact hq, fun h => List.mem_map.mpr ⟨r, h, rfl⟩⟩
/-- no row is the empty tuple -/
def Full (ds : List ρ) : Prop := ∀ r ∈ ds, ∃ x l, (rk r).data = .tuple (x :: l)
theorem full_rows (ds : List (List Str × Int × Int)) : Full ds := fun r _ => ⟨_, _, keyR_data r⟩
theorem full_ends (ds : List (Int × List Str)) : Full ds := fun r _ => ⟨_, _, keyE_data r⟩
theorem full_datas {ds : List (List Str)} (h : ∀ r ∈ ds, r ≠ []) : Full ds := fun r hr => by
  cases e : r with
  | nil => exact absurd e (h r hr)
  | cons x l => exact ⟨_, _, keyT_data (x :: l)⟩
/-- the sorted rows of a set -/
theorem sorted_canon {L L1 : List Row} (h2 : ∀ p ∈ L, ∃ r ∈ ds, p.2 = rk r) (h3 : ∀ r ∈ ds, rk r ∈ L.map (·.2)) (pm : L1.Perm L) (nd : (L1.map (·.2)).Nodup) : (L1.mergeSort le).map (·.2) = (canon ds).map rk := by
  obtain ⟨ds1, e1⟩ := keys_rows L1 fun p hp => h2 p (pm.mem_iff.mp hp)
  have z1 : (L1.mergeSort le).map (·.2) = (L1.map (·.2)).mergeSort fun a b => !dataLt b.data a.data := List.map_mergeSort fun a _ b _ => rfl
  have z2 : (ds1.mergeSort rle).map rk = (ds1.map rk).mergeSort fun a b => !dataLt b.data a.data := List.map_mergeSort fun a _ b _ => rfl
  rw [z1, e1, ← z2]
  refine congrArg (List.map rk) (canon_eq (asc_sort (nodup_of_map (f := rk) (e1 ▸ nd))) fun x => ?_)
  rw [(List.mergeSort_perm ds1 rle).mem_iff, ← mem_rk, ← e1, (pm.map (·.2)).mem_iff]
  constructor
  · intro hx
    obtain ⟨p, hp, e⟩ := List.mem_map.mp hx
    obtain ⟨r, hr, e2⟩ := h2 p hp
    rw [RowTy.inj (e.symm.trans e2)]
    exact hr
  · exact h3 x
/-- sorted(set) -/
theorem evp_sorted (full : Full ds) (h : EvP ta σ H fun v H => ∃ a, v = .ref a ∧ SetRows K w H a ds) : EvP (tCB (rSorted K w) (tCons ta tNil)) σ H fun v H => ∃ p xs, v = .ref p ∧ H p = some (.lst xs) ∧ RowsAt K H xs (canon ds) := fun H1 e Q q =>
  h H1 e _ fun v H2 e2 ⟨a, hv, L, h1, h2, h3⟩ => by
    subst hv
    have alk : ∀ p ∈ L, ∀ q ∈ L, alike p.2.data q.2.data = true := fun p hp q hq => by
      obtain ⟨r, _, er⟩ := (h2 p hp).2
      obtain ⟨t, _, et⟩ := (h2 q hq).2
      rw [er, et]
      exact RowTy.alike r t
    have srt : Sortable (L.map fun p => p.2.data) := .inl fun d hd => by
      obtain ⟨p, hp, rfl⟩ := List.mem_map.mp hd
      obtain ⟨r, hr, er⟩ := (h2 p hp).2
      rw [er]
      exact full r hr
    refine ⟨a, L, rfl, h1, fun p hp => (h2 p hp).1, alk, srt, fun L1 p pm nd _ hn => q _ _ (e2.trans (Ex.new hn)) ⟨p, _, rfl, upd_same, L1.mergeSort le, rfl, fun r hr => ?_, sorted_canon (fun p hp => (h2 p hp).2) h3 pm nd⟩⟩
    exact (h2 r (pm.mem_iff.mp ((List.mergeSort_perm L1 le).mem_iff.mp hr))).1.ex (Ex.new hn)
end
end SD

set_option Elab.async false
set_option linter.all false
set_option maxRecDepth 100000
/-! RowSort: sorted(xs) of a list of rows -/
namespace SD
open PySem PySem.Spec PySem.W PyProof.Rows L2 Evl My
section
variable {X : Cx}
/-- sorted(xs) -/
def rSortedL (K : PySem.W.Frag) : List V → Hp → VK → Prop := fun vs H Q => ∃ (l : Addr) (ks : List Row), vs = [V.ref l] ∧ SqL K H l (ks.map fun p => V.ref p.1) ∧ (∀ p ∈ ks, AtRow K H p) ∧ (∀ p ∈ ks, ∀ q ∈ ks, alike p.2.data q.2.data = true) ∧ Sortable (ks.map fun p => p.2.data) ∧ ks.length ≤ 100000 ∧
  ∀ p : Addr, H p = none → Q (.ref p) (upd H p (.lst ((ks.mergeSort le).map fun q => V.ref q.1)))
theorem cr_sortedL (hu : X.A.units + 64 < cLine) : CallR X (.builtin "sorted") (rSortedL X.K) := by
  intro pins s σ H vs us Q I r h
  obtain ⟨l, ks, rfl, hl, hk, hal, hs, hz, q⟩ := h
  rw [Vals.ref1 r]
  obtain ⟨its, rv, pl, _⟩ := I.list hl
  obtain rfl := vals_refs rv
  have hz' : ks.length ≤ sizeLine := by rw [sizeLine_eq]; omega
  refine sorted_data (bs := ks) (enc := fun p : Row => p.2.data) (R := fun v (p : Row) => v = Value.ref p.1) pl.isList (each_refs ks) (each_refs_of ks fun p hp => ⟨[], (hk p hp).reads I⟩) (fun d hd d2 hd2 => ?_) hs hz' (fun p hp => by rw [deep]; have := (hk p hp).2; omega) fun out _ e => ?_
  · obtain ⟨p, hp, rfl⟩ := List.mem_map.mp hd
    obtain ⟨q, hq, rfl⟩ := List.mem_map.mp hd2
    exact hal p hp q hq
  have eo : out = (ks.mergeSort le).map fun q => Value.ref q.1 := refs_each e
  have hn : H (s.heap.objs.size + 1) = none := I.hok.fresh (Nat.le_succ _)
  obtain ⟨c, hc⟩ := sortedAll_at s.heap (ks.map fun q => Value.ref q.1) out.toArray
  have hlen : ((ks.mergeSort le).map fun q => V.ref q.1).length ≤ sizeLine := by rw [List.length_map, List.length_mergeSort]; exact hz'
  exact ⟨.ref _, upd H (s.heap.objs.size + 1) (.lst ((ks.mergeSort le).map fun q => V.ref q.1)), I.laid (t' := s.toks) (fun _ _ => sortedAll_old) (Nat.le_succ _) ⟨hlen, out, c, by rw [eo]; exact refs_vals _, hc⟩, rfl, q _ hn⟩
end
section
variable {ρ : Type} [RowTy ρ] {K : PySem.W.Frag} {w : World} {σ : L2.St} {H : Hp} {ta : TE} {ds : List ρ}
theorem sort_rows {ks : List Row} (h : ks.map (·.2) = ds.map rk) : (ks.mergeSort le).map (·.2) = (ds.mergeSort rle).map rk := by
  have z1 : (ks.mergeSort le).map (·.2) = (ks.map (·.2)).mergeSort fun a b => !dataLt b.data a.data := List.map_mergeSort fun a _ b _ => rfl
  have z2 : (ds.mergeSort rle).map rk = (ds.map rk).mergeSort fun a b => !dataLt b.data a.data := List.map_mergeSort fun a _ b _ => rfl
  rw [z1, h, ← z2]
/-- sorted(xs) of a list of rows -/
theorem evp_sortedL (full : Full ds) (h : EvP ta σ H fun v H => ∃ a xs, v = .ref a ∧ SqL K H a xs ∧ RowsAt K H xs ds) (hz : ds.length ≤ 100000) : EvP (tCB (rSortedL K) (tCons ta tNil)) σ H fun v H => ∃ p xs, v = .ref p ∧ H p = some (.lst xs) ∧ RowsAt K H xs (ds.mergeSort rle) := fun H1 e Q q =>
  h H1 e _ fun v H2 e2 ⟨a, xs, hv, hx, hr⟩ => by
    subst hv
    obtain ⟨ks, rfl, h2, h3⟩ := hr
    have hl : ks.length ≤ 100000 := by
      have z := congrArg List.length h3
      rw [List.length_map, List.length_map] at z
      rw [z]
      exact hz
    have alk : ∀ p ∈ ks, ∀ q ∈ ks, alike p.2.data q.2.data = true := fun p hp q hq => by
      obtain ⟨r, _, er⟩ := rows_keys h3 hp
      obtain ⟨t, _, et⟩ := rows_keys h3 hq
      rw [er, et]
      exact RowTy.alike r t
    have srt : Sortable (ks.map fun p => p.2.data) := .inl fun d hd => by
      obtain ⟨p, hp, rfl⟩ := List.mem_map.mp hd
      obtain ⟨r, hr, er⟩ := rows_keys h3 hp
      rw [er]
      exact full r hr
    exact ⟨a, ks, rfl, hx, h2, alk, srt, hl, fun p hn => q _ _ (e2.trans (Ex.new hn)) ⟨p, _, rfl, upd_same, ks.mergeSort le, rfl, fun r hr => (h2 r ((List.mergeSort_perm ks le).mem_iff.mp hr)).ex (Ex.new hn), sort_rows h3⟩⟩
/-- sorted rows that are no duplicates -/
theorem sort_canon {ds : List ρ} (h : ds.Nodup) : ds.mergeSort rle = canon ds := canon_eq (asc_sort h) fun x => (List.mergeSort_perm ds rle).mem_iff
end
end SD

set_option Elab.async false
set_option linter.all false
set_option maxRecDepth 100000
set_option maxHeartbeats 2000000
/-! DdCore: Python's data as plain Lean data (D), with roots for what is changed; how data lie in the abstract heap; what holds between two heaps -/
namespace Dd
open PySem PySem.Spec PyProof.Rows L2 Evl OwnO My

/-- the built-in classes that a program names -/
inductive BT where
  | int | bool | str | list | tuple | dict | non | verr
  deriving DecidableEq
def BT.name : BT → String
  | .int => "int" | .bool => "bool" | .str => "str" | .list => "list" | .tuple => "tuple" | .dict => "dict" | .non => "NoneType" | .verr => "ValueError"
/-- plain data; ins: an instance of class c, its attributes in their order; exn: an exception in an except suite; rt: a root, that is a thing that may be changed; scr: a list that is only read (the script); wd: a dict of the module's top; ty, cl: a class, built-in or own -/
inductive D where
  | non | bl (b : Bool) | int (i : Int) | str (s : Str)
  | tup (l : List D) | lst (l : List D) | st (l : List D)
  | dct (ks : List L2.Key) (l : List D) | wd (ks : List Str) (l : List D)
  | ins (c : Nat) (fs : List D) | exn (c : Nat) (fs : List D)
  | rt (r : Nat) | scr (l : List D) | ty (n : BT) | cl (c : Nat)
abbrev Env := List (Option D)

/-- the written part, the classes' places, their attributes' names in order -/
structure Wd where
  K : PySem.W.Frag
  w : World
  CA : Nat → Addr
  CF : Nat → List Str
  /-- the ordinary classes; the error classes; which is a subclass of which -/
  isc : Nat → Bool
  ise : Nat → Bool
  sub : Nat → Nat → Bool
  /-- the exception that an except suite holds: its class, its dict -/
  exn : Addr → Option (Value × Option Addr) := fun _ => none
/-- an ordinary class -/
structure ClsT (K : PySem.W.Frag) (C : Addr) : Prop where
  cl : Cls K C
  ca : PySem.W.findIn K (.ref C) "__class__" = some (some (.builtin "object.__class__"))
  cn : PySem.W.specialIn K (.builtin "object.__class__") "__get__" = some (some (.builtin "getset_descriptor.__get__"))
  ct : PySem.W.takesIn K (.builtin "object.__class__") = some true
  cm : PySem.W.mroIn K C (.type "object") = some true
theorem ClsT.ty {K : PySem.W.Frag} {C a dx : Addr} {fs : List (Str × V)} {H : Hp} (c : ClsT K C) (h : H a = some (.ins C dx fs)) : TyX K H (.ref a) (.ref C) := .base (.ins h c.cl c.ca c.cn c.ct c.cm)
/-- what is known of the classes -/
structure WOk (W : Wd) : Prop where
  cls : ∀ c, W.isc c = true → ClsT W.K (W.CA c) ∧ ∀ f ∈ W.CF c, NoAttr W.K (W.CA c) f
  exm : ∀ c d, W.ise c = true → W.ise d = true → PySem.W.exmOne W.K (.ref (W.CA c)) (.ref (W.CA d)) = some (W.sub c d)
  kit : ∀ c d, W.ise c = true → W.ise d = true → PySem.W.kitOne W.K (.ref (W.CA c)) (.ref (W.CA d)) = some (W.sub c d)
  kitv : ∀ c, W.ise c = true → PySem.W.kitOne W.K (.ref (W.CA c)) (.type "ValueError") = some true
  exc : ∀ c, W.ise c = true → ExcC W.K (W.CA c) ∧ ∀ f ∈ W.CF c, PySem.W.findIn W.K (.ref (W.CA c)) f = some none

/-- a written dict's entries -/
def KEnt : List DictEntry → List Str → List V → Prop
  | [], [], [] => True
  | e :: es, k :: ks, v :: vs => (∃ t, e.key = .str k t) ∧ RelV v e.val ∧ KEnt es ks vs
  | _, _, _ => False
def KDv (K : PySem.W.Frag) (w : World) (a : Addr) (ks : List Str) (vs : List V) : Prop := ∃ es n, KDict K w a es n ∧ KEnt es.toList ks vs
section
variable (W : Wd)
/-- a set of plain data: its items l -/
def StAt (B : Hp) (a : Addr) (l : List D) : Prop := False
mutual
def Rep (RA : List Addr) (B : Hp) : D → V → Prop
  | .non, v => v = .non
  | .bl b, v => v = .bl b
  | .int i, v => v = .int i
  | .str s, v => v = .str s
  | .tup l, v => ∃ a vs, v = .ref a ∧ SqT W.K B a vs ∧ RepL RA B l vs
  | .lst l, v => ∃ a vs, v = .ref a ∧ B a = some (.lst vs) ∧ RepL RA B l vs
  | .scr l, v => ∃ a vs, v = .ref a ∧ SqL W.K B a vs ∧ RepL RA B l vs
  | .ty n, v => v = .ty n.name
  | .cl c, v => v = .ref (W.CA c)
  | .st l, v => ∃ a, v = .ref a ∧ StAt B a l
  | .dct ks l, v => ∃ a kvs, v = .ref a ∧ B a = some (.dK kvs) ∧ kvs.map (·.1) = ks ∧ RepL RA B l (kvs.map (·.2))
  | .wd ks l, v => ∃ a vs, v = .ref a ∧ KDv W.K W.w a ks vs ∧ RepL RA B l vs
  | .ins c fs, v => ∃ a dx vs, v = .ref a ∧ B a = some (.ins (W.CA c) dx ((W.CF c).zip vs)) ∧ RepL RA B fs vs ∧ vs.length ≤ (W.CF c).length
  | .exn c fs, v => ∃ a d, v = .ref a ∧ W.exn a = some (.ref (W.CA c), d) ∧ ((fs = [] ∧ d = none) ∨ ∃ dd vs, d = some dd ∧ B dd = some (.xd ((W.CF c).zip vs)) ∧ RepL RA B fs vs ∧ vs.length = (W.CF c).length)
  | .rt r, v => ∃ a, v = .ref a ∧ RA[r]? = some a
def RepL (RA : List Addr) (B : Hp) : List D → List V → Prop
  | [], vs => vs = []
  | d :: l, vs => ∃ v us, vs = v :: us ∧ Rep RA B d v ∧ RepL RA B l us
end
/-- a root's content -/
def RootAt (RA : List Addr) (B H : Hp) (a : Addr) : D → Prop
  | .lst l => ∃ vs, H a = some (.lst vs) ∧ RepL W RA B l vs
  | .dct ks l => ∃ kvs, H a = some (.dK kvs) ∧ kvs.map (·.1) = ks ∧ RepL W RA B l (kvs.map (·.2))
  | .ins c fs => ∃ dx vs, H a = some (.ins (W.CA c) dx ((W.CF c).zip vs)) ∧ RepL W RA B fs vs ∧ vs.length ≤ (W.CF c).length
  | _ => False
end
section
variable {W : Wd} {RA RA' : List Addr} {B B' H H' : Hp}
mutual
theorem Rep.mono (e : Ex B B') (hr : ∀ (r : Nat) (a : Addr), RA[r]? = some a → RA'[r]? = some a) : ∀ (d : D) (v : V), Rep W RA B d v → Rep W RA' B' d v
  | .non, v, h => by simpa only [Rep] using h
  | .bl b, v, h => by simpa only [Rep] using h
  | .int i, v, h => by simpa only [Rep] using h
  | .str s, v, h => by simpa only [Rep] using h
  | .tup l, v, h => by
    simp only [Rep] at h ⊢
    obtain ⟨a, vs, h1, h2, h3⟩ := h
    exact ⟨a, vs, h1, ex_t e h2, RepL.mono e hr l vs h3⟩
  | .lst l, v, h => by
    simp only [Rep] at h ⊢
    obtain ⟨a, vs, h1, h2, h3⟩ := h
    exact ⟨a, vs, h1, e a _ h2, RepL.mono e hr l vs h3⟩
  | .scr l, v, h => by
    simp only [Rep] at h ⊢
    obtain ⟨a, vs, h1, h2, h3⟩ := h
    exact ⟨a, vs, h1, ex_l e h2, RepL.mono e hr l vs h3⟩
  | .ty n, v, h => by simpa only [Rep] using h
  | .cl c, v, h => by simpa only [Rep] using h
  | .st l, v, h => by
    simp only [Rep] at h ⊢
    obtain ⟨a, h1, h2⟩ := h
    exact ⟨a, h1, h2.elim⟩
  | .dct ks l, v, h => by
    simp only [Rep] at h ⊢
    obtain ⟨a, kvs, h1, h2, h3, h4⟩ := h
    exact ⟨a, kvs, h1, e a _ h2, h3, RepL.mono e hr l _ h4⟩
  | .wd ks l, v, h => by
    simp only [Rep] at h ⊢
    obtain ⟨a, vs, h1, h2, h3⟩ := h
    exact ⟨a, vs, h1, h2, RepL.mono e hr l vs h3⟩
  | .ins c fs, v, h => by
    simp only [Rep] at h ⊢
    obtain ⟨a, dx, vs, h1, h2, h3, h4⟩ := h
    exact ⟨a, dx, vs, h1, e a _ h2, RepL.mono e hr fs vs h3, h4⟩
  | .exn c fs, v, h => by
    simp only [Rep] at h ⊢
    obtain ⟨a, d, h1, h2, h3⟩ := h
    refine ⟨a, d, h1, h2, ?_⟩
    rcases h3 with h3 | ⟨dd, vs, h4, h5, h6, h7⟩
    · exact .inl h3
    · exact .inr ⟨dd, vs, h4, e dd _ h5, RepL.mono e hr fs vs h6, h7⟩
  | .rt r, v, h => by
    simp only [Rep] at h ⊢
    obtain ⟨a, h1, h2⟩ := h
    exact ⟨a, h1, hr r a h2⟩
theorem RepL.mono (e : Ex B B') (hr : ∀ (r : Nat) (a : Addr), RA[r]? = some a → RA'[r]? = some a) : ∀ (l : List D) (vs : List V), RepL W RA B l vs → RepL W RA' B' l vs
  | [], vs, h => by simpa only [RepL] using h
  | d :: l, vs, h => by
    simp only [RepL] at h ⊢
    obtain ⟨v, us, h1, h2, h3⟩ := h
    exact ⟨v, us, h1, Rep.mono e hr d v h2, RepL.mono e hr l us h3⟩
end
theorem Rep.ex (e : Ex B B') {d : D} {v : V} (h : Rep W RA B d v) : Rep W RA B' d v := Rep.mono e (fun _ _ q => q) d v h
theorem RepL.ex (e : Ex B B') {d : List D} {v : List V} (h : RepL W RA B d v) : RepL W RA B' d v := RepL.mono e (fun _ _ q => q) d v h

theorem RepL.len : ∀ {l : List D} {vs : List V}, RepL W RA B l vs → l.length = vs.length
  | [], vs, h => by simp only [RepL] at h; rw [h]; rfl
  | d :: l, vs, h => by
    simp only [RepL] at h
    obtain ⟨v, us, rfl, _, h3⟩ := h
    simp [RepL.len h3]
theorem RepL.get : ∀ {l : List D} {vs : List V} {i : Nat} {d : D}, RepL W RA B l vs → l[i]? = some d → ∃ v, vs[i]? = some v ∧ Rep W RA B d v
  | [], vs, i, d, h, e => by simp at e
  | d :: l, vs, 0, d', h, e => by
    simp only [RepL] at h
    obtain ⟨v, us, rfl, h2, h3⟩ := h
    simp at e; subst e
    exact ⟨v, by simp, h2⟩
  | d :: l, vs, i + 1, d', h, e => by
    simp only [RepL] at h
    obtain ⟨v, us, rfl, h2, h3⟩ := h
    obtain ⟨v', e1, r1⟩ := RepL.get (i := i) h3 (by simpa using e)
    exact ⟨v', by simpa using e1, r1⟩
theorem RepL.cons {d : D} {l : List D} {v : V} {vs : List V} (h : Rep W RA B d v) (t : RepL W RA B l vs) : RepL W RA B (d :: l) (v :: vs) := by
  simp only [RepL]
  exact ⟨v, vs, rfl, h, t⟩
theorem RepL.nil : RepL W RA B [] [] := by simp only [RepL]
theorem RepL.uncons {d : D} {l : List D} {vs : List V} (h : RepL W RA B (d :: l) vs) : ∃ v us, vs = v :: us ∧ Rep W RA B d v ∧ RepL W RA B l us := by
  simpa only [RepL] using h
theorem RepL.unnil {vs : List V} (h : RepL W RA B [] vs) : vs = [] := by simpa only [RepL] using h
theorem RepL.append : ∀ {l m : List D} {vs us : List V}, RepL W RA B l vs → RepL W RA B m us → RepL W RA B (l ++ m) (vs ++ us)
  | [], m, vs, us, h, t => by rw [h.unnil]; exact t
  | d :: l, m, vs, us, h, t => by
    obtain ⟨v, ws, rfl, h2, h3⟩ := h.uncons
    exact RepL.cons h2 (RepL.append h3 t)
theorem RepL.unappend : ∀ {l m : List D} {vs : List V}, RepL W RA B (l ++ m) vs → ∃ us ws, vs = us ++ ws ∧ RepL W RA B l us ∧ RepL W RA B m ws
  | [], m, vs, h => ⟨[], vs, rfl, .nil, h⟩
  | d :: l, m, vs, h => by
    obtain ⟨v, us, rfl, h2, h3⟩ := RepL.uncons (show RepL W RA B (d :: (l ++ m)) vs from h)
    obtain ⟨u1, u2, rfl, h4, h5⟩ := RepL.unappend h3
    exact ⟨v :: u1, u2, rfl, .cons h2 h4, h5⟩
theorem RepL.take {l : List D} {vs : List V} : ∀ (n : Nat), RepL W RA B l vs → RepL W RA B (l.take n) (vs.take n) := by
  induction l generalizing vs with
  | nil => intro n h; rw [h.unnil]; simp; exact .nil
  | cons d l ih =>
    intro n h
    obtain ⟨v, us, rfl, h2, h3⟩ := h.uncons
    cases n with
    | zero => simp; exact .nil
    | succ n => exact .cons h2 (ih n h3)
theorem RepL.drop {l : List D} {vs : List V} : ∀ (n : Nat), RepL W RA B l vs → RepL W RA B (l.drop n) (vs.drop n) := by
  induction l generalizing vs with
  | nil => intro n h; rw [h.unnil]; simp; exact .nil
  | cons d l ih =>
    intro n h
    obtain ⟨v, us, rfl, h2, h3⟩ := h.uncons
    cases n with
    | zero => exact .cons h2 h3
    | succ n => exact ih n h3
theorem RepL.set {l : List D} {vs : List V} {d : D} {v : V} (hd : Rep W RA B d v) : ∀ (n : Nat), RepL W RA B l vs → RepL W RA B (l.set n d) (vs.set n v) := by
  induction l generalizing vs with
  | nil => intro n h; rw [h.unnil]; simp; exact .nil
  | cons d l ih =>
    intro n h
    obtain ⟨v, us, rfl, h2, h3⟩ := h.uncons
    cases n with
    | zero => exact .cons hd h3
    | succ n => exact .cons h2 (ih n h3)
theorem RepL.of_get : ∀ {l : List D} {vs : List V}, l.length = vs.length → (∀ (i : Nat) (d : D) (v : V), l[i]? = some d → vs[i]? = some v → Rep W RA B d v) → RepL W RA B l vs
  | [], [], _, _ => .nil
  | [], _ :: _, h, _ => by simp at h
  | _ :: _, [], h, _ => by simp at h
  | d :: l, v :: vs, h, k => .cons (k 0 d v rfl rfl) (RepL.of_get (by simpa using h) fun i d' v' h1 h2 => k (i + 1) d' v' (by simpa using h1) (by simpa using h2))
theorem RootAt.mono (e : Ex B B') (hr : ∀ (r : Nat) (a : Addr), RA[r]? = some a → RA'[r]? = some a) {a : Addr} (hh : ∀ o, H a = some o → H' a = some o) : ∀ {d : D}, RootAt W RA B H a d → RootAt W RA' B' H' a d
  | .lst l, ⟨vs, h1, h2⟩ => ⟨vs, hh _ h1, RepL.mono e hr l vs h2⟩
  | .dct ks l, ⟨kvs, h1, h2, h3⟩ => ⟨kvs, hh _ h1, h2, RepL.mono e hr l _ h3⟩
  | .ins c fs, ⟨dx, vs, h1, h2, h3⟩ => ⟨dx, vs, hh _ h1, RepL.mono e hr fs vs h2, h3⟩
end

/-- the frozen part B lies within H; at each root's place stands its content -/
structure Base (W : Wd) (RA : List Addr) (ρ : List D) (B H : Hp) : Prop where
  le : Ex B H
  len : RA.length = ρ.length
  nd : RA.Nodup
  out : ∀ a ∈ RA, B a = none
  roots : ∀ (r : Nat) (a : Addr) (d : D), RA[r]? = some a → ρ[r]? = some d → RootAt W RA B H a d
/-- the locals -/
def LocOk (W : Wd) (RA : List Addr) (B : Hp) (σd : Env) (σ : L2.St) : Prop := σd.length = σ.length ∧ ∀ (i : Nat) (d : D), σd[i]? = some (some d) → ∃ v, σ[i]? = some (some v) ∧ Rep W RA B d v
section
variable {W : Wd} {RA RA' : List Addr} {ρ ρ' : List D} {B B' H H' : Hp} {σd : Env} {σ : L2.St}
theorem LocOk.mono (e : Ex B B') (hr : ∀ (r : Nat) (a : Addr), RA[r]? = some a → RA'[r]? = some a) (h : LocOk W RA B σd σ) : LocOk W RA' B' σd σ := ⟨h.1, fun i d hi => by
  obtain ⟨v, h1, h2⟩ := h.2 i d hi
  exact ⟨v, h1, Rep.mono e hr d v h2⟩⟩
theorem LocOk.ex (e : Ex B B') (h : LocOk W RA B σd σ) : LocOk W RA B' σd σ := h.mono e fun _ _ q => q
theorem LocOk.set (h : LocOk W RA B σd σ) {d : D} {v : V} (hd : Rep W RA B d v) (i : Nat) : LocOk W RA B (σd.set i (some d)) (σ.set i (some v)) := ⟨by simp [h.1], fun j d' hj => by
  by_cases e : i = j
  · subst e
    by_cases hl : i < σd.length
    · rw [List.getElem?_set_self hl] at hj
      cases hj
      exact ⟨v, by rw [List.getElem?_set_self (by rw [← h.1]; exact hl)], hd⟩
    · rw [List.getElem?_eq_none (by simpa using hl)] at hj
      cases hj
  · rw [List.getElem?_set_ne e] at hj ⊢
    exact h.2 j d' hj⟩
theorem LocOk.unset (h : LocOk W RA B σd σ) (i : Nat) (o : Option V) : LocOk W RA B (σd.set i none) (σ.set i o) := ⟨by simp [h.1], fun j d' hj => by
  by_cases e : i = j
  · subst e
    by_cases hl : i < σd.length
    · rw [List.getElem?_set_self hl] at hj
      cases hj
    · rw [List.getElem?_eq_none (by simpa using hl)] at hj
      cases hj
  · rw [List.getElem?_set_ne e] at hj ⊢
    exact h.2 j d' hj⟩
/-- the slots of a comprehension's own names forgotten -/
def wipeD (σd : Env) : List Nat → Env
  | [] => σd
  | v :: vs => (wipeD σd vs).set v none
theorem LocOk.wipe (h : LocOk W RA B σd σ) : ∀ vs : List Nat, LocOk W RA B (wipeD σd vs) (wipe σ vs)
  | [] => h
  | v :: vs => (LocOk.wipe h vs).unset v none

/-- behind an expression: nothing that stood has changed; what has frozen is new -/
structure Aft (W : Wd) (RA : List Addr) (ρ : List D) (B H B' H' : Hp) : Prop where
  hp : Ex H H'
  bl : Ex B B'
  base : Base W RA ρ B' H'
  bn : ∀ a o, B' a = some o → B a = some o ∨ H a = none
theorem Aft.refl (b : Base W RA ρ B H) : Aft W RA ρ B H B H := ⟨Ex.refl H, Ex.refl B, b, fun _ _ h => .inl h⟩
theorem Aft.trans {B1 H1 : Hp} (a : Aft W RA ρ B H B1 H1) (b : Aft W RA ρ B1 H1 B' H') : Aft W RA ρ B H B' H' := ⟨a.hp.trans b.hp, a.bl.trans b.bl, b.base, fun x o h => by
  rcases b.bn x o h with h | h
  · exact a.bn x o h
  · exact .inr (fresh_back a.hp h)⟩
theorem Base.hp (b : Base W RA ρ B H) (e : Ex H H') : Base W RA ρ B H' := ⟨b.le.trans e, b.len, b.nd, b.out, fun r a d h1 h2 => (b.roots r a d h1 h2).mono (Ex.refl B) (fun _ _ q => q) fun o h => e a o h⟩
theorem Aft.heap (b : Base W RA ρ B H) (e : Ex H H') : Aft W RA ρ B H B H' := ⟨e, Ex.refl B, b.hp e, fun _ _ h => .inl h⟩
theorem Base.root_in (b : Base W RA ρ B H) {a : Addr} (h : a ∈ RA) : ∃ o, H a = some o := by
  obtain ⟨r, hr⟩ := List.mem_iff_getElem?.mp h
  have hl : r < RA.length := (List.getElem?_eq_some_iff.mp hr).1
  have hd : ρ[r]? = some (ρ[r]'(by rw [← b.len]; exact hl)) := List.getElem?_eq_getElem _
  have q := b.roots r a _ hr hd
  cases h : ρ[r]'(by rw [← b.len]; exact hl) with
  | lst l => rw [h] at q; obtain ⟨vs, e, _⟩ := q; exact ⟨_, e⟩
  | dct ks l => rw [h] at q; obtain ⟨vs, e, _⟩ := q; exact ⟨_, e⟩
  | ins c fs => rw [h] at q; obtain ⟨dx, vs, e, _⟩ := q; exact ⟨_, e⟩
  | _ => rw [h] at q; exact False.elim q
/-- a new object freezes at once -/
theorem Aft.laid (b : Base W RA ρ B H) {p : Addr} {o : HO} (hp : H p = none) : Aft W RA ρ B H (upd B p o) (upd H p o) := by
  have hB : B p = none := by
    cases e : B p with
    | none => rfl
    | some u => rw [b.le p u e] at hp; cases hp
  have hr : p ∉ RA := fun m => by
    obtain ⟨o', e⟩ := b.root_in m
    rw [hp] at e; cases e
  refine ⟨Ex.new hp, Ex.new hB, ⟨fun a u e => ?_, b.len, b.nd, fun a m => ?_, fun r a d h1 h2 => (b.roots r a d h1 h2).mono (Ex.new hB) (fun _ _ q => q) fun o h => Ex.new hp a o h⟩, fun a u e => ?_⟩
  · by_cases h : a = p
    · subst h; rw [upd_same] at e ⊢; exact e
    · rw [upd_ne h] at e ⊢; exact b.le a u e
  · rw [upd_ne (fun e => hr (by rw [← e]; exact m))]; exact b.out a m
  · by_cases h : a = p
    · subst h; exact .inr hp
    · rw [upd_ne h] at e; exact .inl e
/-- an object that stands, new since H0, of which the frozen part knows nothing and which is no root, freezes -/
theorem Aft.freeze {B0 H0 : Hp} (a : Aft W RA ρ B0 H0 B H) {p : Addr} {o : HO} (hp : H p = some o) (h0 : H0 p = none) (hB : B p = none) (hr : p ∉ RA) : Aft W RA ρ B0 H0 (upd B p o) H := by
  have b := a.base
  refine ⟨a.hp, a.bl.trans (Ex.new hB), ⟨fun a u e => ?_, b.len, b.nd, fun a m => ?_, fun r a d h1 h2 => (b.roots r a d h1 h2).mono (Ex.new hB) (fun _ _ q => q) fun o h => h⟩, fun x u e => ?_⟩
  · by_cases h : a = p
    · subst h; rw [upd_same] at e; cases e; exact hp
    · rw [upd_ne h] at e; exact b.le a u e
  · rw [upd_ne (fun e => hr (by rw [← e]; exact m))]; exact b.out a m
  · by_cases h : x = p
    · subst h; exact .inr h0
    · rw [upd_ne h] at e; exact a.bn x u e
theorem Base.fresh_out (b : Base W RA ρ B H) {p : Addr} (hp : H p = none) : B p = none ∧ p ∉ RA := by
  refine ⟨?_, fun m => ?_⟩
  · cases e : B p with
    | none => rfl
    | some u => rw [b.le p u e] at hp; cases hp
  · obtain ⟨o', e⟩ := b.root_in m
    rw [hp] at e; cases e
end
end Dd

set_option Elab.async false
set_option linter.all false
set_option maxRecDepth 100000
set_option maxHeartbeats 2000000
/-! DdRead: what code does to plain data (EF, SF), and the readings that say so (tE, tS); calls; a def keeps to its function -/
namespace Dd
open PySem PySem.Spec PyProof.Rows L2 Evl OwnO My

/-- what an expression gives -/
inductive Res (α : Type) where
  | ok (a : α) | exc (c : Nat) (fs : List D) | bad
def Res.bind {α β : Type} (r : Res α) (f : α → Res β) : Res β := match r with
  | .ok a => f a
  | .exc c fs => .exc c fs
  | .bad => .bad
instance : Monad Res where
  pure := .ok
  bind := Res.bind
abbrev EF := List D → Env → Res D
abbrev AF := List D → Env → Res (List D)
/-- what a block gives -/
inductive Out where
  | nx (ρ : List D) (σ : Env) | ret (fr : Bool) (d : D) (ρ : List D) | brk (ρ : List D) (σ : Env) | ct (ρ : List D) (σ : Env) | exc (c : Nat) (fs : List D) (ρ : List D) (σ : Env) | bad
/-- a statement: which roots may be changed, the roots, the locals -/
abbrev SF := (Nat → Bool) → List D → Env → Out

/-- an exception as it flies: its class, its own dict -/
def ExcAt (W : Wd) (RA : List Addr) (B H : Hp) (c : Nat) (fs : List D) (cls : Value) (dx : Option Addr) : Prop :=
  cls = .ref (W.CA c) ∧ ((fs = [] ∧ dx = none) ∨ ∃ d vs, dx = some d ∧ B d = some (.xd ((W.CF c).zip vs)) ∧ RepL W RA B fs vs ∧ vs.length = (W.CF c).length)

section
variable (W : Wd) (Wx : WX)
/-- what is to hold behind an expression's evaluation -/
def Aw {α : Type} (RA : List Addr) (ρ : List D) (σ : L2.St) (B H : Hp) (r : Res α) (P : α → Hp → Hp → Prop) : Prop := match r with
  | .ok a => ∀ B' H', Aft W RA ρ B H B' H' → P a B' H'
  | .exc c fs => ∀ cls dx B' H', Aft W RA ρ B H B' H' → ExcAt W RA B' H' c fs cls dx → Wx cls dx σ H'
  | .bad => False
/-- what is new since H0 and not yet frozen -/
def Fresh (RA : List Addr) (H0 B H : Hp) (d : D) (v : V) : Prop := ∃ p, v = .ref p ∧ H0 p = none ∧ B p = none ∧ p ∉ RA ∧ RootAt W RA B H p d
/-- an expression's reading -/
def tE (f : EF) : TE := fun σ H Q => ∃ RA ρ σd B, Base W RA ρ B H ∧ LocOk W RA B σd σ ∧ Aw W Wx RA ρ σ B H (f ρ σd) fun d B' H' => ∀ v, Rep W RA B' d v → Q v H'
/-- an expression whose value is a new thing -/
def tF (f : EF) : TE := fun σ H Q => ∃ RA ρ σd B, Base W RA ρ B H ∧ LocOk W RA B σd σ ∧ Aw W Wx RA ρ σ B H (f ρ σd) fun d B' H' => ∀ v, Fresh W RA H B' H' d v → Q v H'
def tA (f : AF) : TA := fun σ H Q => ∃ RA ρ σd B, Base W RA ρ B H ∧ LocOk W RA B σd σ ∧ Aw W Wx RA ρ σ B H (f ρ σd) fun ds B' H' => ∀ vs, RepL W RA B' ds vs → Q vs H'
/-- a test: its data's truth -/
def tT (f : List D → Env → Res Bool) : TT := fun σ H Q => ∃ RA ρ σd B, Base W RA ρ B H ∧ LocOk W RA B σd σ ∧ Aw W Wx RA ρ σ B H (f ρ σd) fun b _ H' => Q b H'
/-- behind a statement: RA', ρ', B', H' grown out of RA, ρ, B, H, where only roots of mu have changed -/
structure Grow (mu : Nat → Bool) (RA : List Addr) (ρ : List D) (B H : Hp) (RA' : List Addr) (ρ' : List D) (B' H' : Hp) : Prop where
  pre : ∃ t, RA' = RA ++ t
  bl : Ex B B'
  base : Base W RA' ρ' B' H'
  keep : ∀ a o, H a = some o → (∀ r, RA[r]? = some a → mu r = false) → H' a = some o
  new : ∀ (r : Nat) (a : Addr), RA.length ≤ r → RA'[r]? = some a → H a = none
  bn : ∀ a o, B' a = some o → B a = some o ∨ H a = none
  kd : ∀ r, r < RA.length → mu r = false → ρ'[r]? = ρ[r]?
def ResAt (fr : Bool) (RA : List Addr) (H0 B H : Hp) (d : D) (v : V) : Prop := if fr = true then Fresh W RA H0 B H d v else Rep W RA B d v
def Done (mu : Nat → Bool) (RA : List Addr) (ρ : List D) (B H : Hp) (Dn : Ends) : Out → Prop
  | .nx ρ' σd' => ∀ RA' B' H' σ', Grow W mu RA ρ B H RA' ρ' B' H' → LocOk W RA' B' σd' σ' → Dn.nx σ' H'
  | .brk ρ' σd' => ∀ RA' B' H' σ', Grow W mu RA ρ B H RA' ρ' B' H' → LocOk W RA' B' σd' σ' → Dn.bk σ' H'
  | .ct ρ' σd' => ∀ RA' B' H' σ', Grow W mu RA ρ B H RA' ρ' B' H' → LocOk W RA' B' σd' σ' → Dn.ct σ' H'
  | .ret fr d ρ' => ∀ RA' B' H' v, Grow W mu RA ρ B H RA' ρ' B' H' → ResAt W fr RA' H B' H' d v → Dn.rt v H'
  | .exc c fs ρ' σd' => ∀ RA' B' H' σ' cls dx, Grow W mu RA ρ B H RA' ρ' B' H' → LocOk W RA' B' σd' σ' → ExcAt W RA' B' H' c fs cls dx → Wx cls dx σ' H'
  | .bad => False
def tS (mu : Nat → Bool) (f : SF) : TS := fun Dn σ H => ∃ RA ρ σd B, Base W RA ρ B H ∧ LocOk W RA B σd σ ∧ Done W Wx mu RA ρ B H Dn (f mu ρ σd)
end
section
variable {W : Wd} {Wx : WX} {RA RA' RA1 : List Addr} {ρ ρ' ρ1 : List D} {B B' B1 H H' H1 : Hp} {σd σd' : Env} {σ : L2.St} {mu : Nat → Bool}
theorem Grow.of_aft (mu : Nat → Bool) (a : Aft W RA ρ B H B' H') : Grow W mu RA ρ B H RA ρ B' H' := ⟨⟨[], by simp⟩, a.bl, a.base, fun x o h _ => a.hp x o h, fun r x h1 h2 => (by rw [List.getElem?_eq_none h1] at h2; cases h2), a.bn, fun _ _ _ => rfl⟩
theorem Grow.refl (mu : Nat → Bool) (b : Base W RA ρ B H) : Grow W mu RA ρ B H RA ρ B H := .of_aft mu (.refl b)
theorem Grow.ra (g : Grow W mu RA ρ B H RA' ρ' B' H') : ∀ (r : Nat) (a : Addr), RA[r]? = some a → RA'[r]? = some a := fun r a h => by
  obtain ⟨t, e⟩ := g.pre
  rw [e, List.getElem?_append_left (List.getElem?_eq_some_iff.mp h).1]; exact h
/-- what is free behind was free before -/
theorem Grow.free (g : Grow W mu RA ρ B H RA' ρ' B' H') {p : Addr} (h : H' p = none) : H p = none := by
  cases e : H p with
  | none => rfl
  | some o =>
    by_cases hr : p ∈ RA
    · obtain ⟨r, hr⟩ := List.mem_iff_getElem?.mp hr
      obtain ⟨o', e'⟩ := g.base.root_in (List.mem_of_getElem? (g.ra r p hr))
      rw [h] at e'; cases e'
    · have := g.keep p o e fun r hr' => absurd (List.mem_of_getElem? hr') hr
      rw [h] at this; cases this
theorem Grow.trans (a : Grow W mu RA ρ B H RA1 ρ1 B1 H1) (b : Grow W mu RA1 ρ1 B1 H1 RA' ρ' B' H') : Grow W mu RA ρ B H RA' ρ' B' H' where
  pre := by
    obtain ⟨t, e⟩ := a.pre
    obtain ⟨u, f⟩ := b.pre
    exact ⟨t ++ u, by rw [f, e, List.append_assoc]⟩
  bl := a.bl.trans b.bl
  base := b.base
  keep := fun x o h hm => b.keep x o (a.keep x o h hm) fun r hr => by
    by_cases hl : r < RA.length
    · obtain ⟨t, e⟩ := a.pre
      rw [e, List.getElem?_append_left hl] at hr
      exact hm r hr
    · have q := a.new r x (by omega) hr
      rw [h] at q; cases q
  new := fun r x h1 h2 => by
    by_cases hl : r < RA1.length
    · obtain ⟨u, f⟩ := b.pre
      rw [f, List.getElem?_append_left hl] at h2
      exact a.new r x h1 h2
    · exact a.free (b.new r x (by omega) h2)
  bn := fun x o h => by
    rcases b.bn x o h with h | h
    · exact a.bn x o h
    · exact .inr (a.free h)
  kd := fun r h hm => by
    obtain ⟨t, e⟩ := a.pre
    rw [b.kd r (by rw [e, List.length_append]; omega) hm]
    exact a.kd r h hm
theorem Fresh.back {H0 H2 : Hp} {d : D} {v : V} (e : Ex H0 H2) (h : Fresh W RA H2 B H d v) : Fresh W RA H0 B H d v := by
  obtain ⟨p, h1, h2, h3⟩ := h
  exact ⟨p, h1, fresh_back e h2, h3⟩
/-- a new thing, frozen -/
theorem Fresh.freeze {B0 H0 : Hp} {d : D} {v : V} (a : Aft W RA ρ B0 H0 B H) (h : Fresh W RA H0 B H d v) : ∃ B', Aft W RA ρ B0 H0 B' H ∧ Rep W RA B' d v := by
  obtain ⟨p, rfl, h0, hB, hr, ho⟩ := h
  cases d with
  | lst l =>
    obtain ⟨vs, e, r⟩ := ho
    exact ⟨_, a.freeze e h0 hB hr, by simp only [Rep]; exact ⟨p, vs, rfl, upd_same, r.ex (Ex.new hB)⟩⟩
  | dct ks l =>
    obtain ⟨kvs, e, h2, r⟩ := ho
    exact ⟨_, a.freeze e h0 hB hr, by simp only [Rep]; exact ⟨p, kvs, rfl, upd_same, h2, r.ex (Ex.new hB)⟩⟩
  | ins c fs =>
    obtain ⟨dx, vs, e, r, h4⟩ := ho
    exact ⟨_, a.freeze e h0 hB hr, by simp only [Rep]; exact ⟨p, dx, vs, rfl, upd_same, r.ex (Ex.new hB), h4⟩⟩
  | _ => exact False.elim ho
theorem Fresh.of_new {p : Addr} {o : HO} {d : D} (b : Base W RA ρ B H) (hp : H p = none) (h : RootAt W RA B (upd H p o) p d) : Aft W RA ρ B H B (upd H p o) ∧ Fresh W RA H B (upd H p o) d (.ref p) :=
  ⟨.heap b (Ex.new hp), p, rfl, hp, (b.fresh_out hp).1, (b.fresh_out hp).2, h⟩
end

section
variable {W : Wd} {Wx : WX} {RA : List Addr} {ρ : List D} {σ : L2.St} {B B' H H' : Hp} {α β : Type} {r : Res α} {P P' : α → Hp → Hp → Prop}
theorem Aw.mono (a : Aft W RA ρ B H B' H') (h : Aw W Wx RA ρ σ B H r P) : Aw W Wx RA ρ σ B' H' r P := by
  cases r with
  | ok x => exact fun B2 H2 a2 => h B2 H2 (a.trans a2)
  | exc c fs => exact fun cls dx B2 H2 a2 => h cls dx B2 H2 (a.trans a2)
  | bad => exact h
theorem Aw.imp (h : Aw W Wx RA ρ σ B H r P) (k : ∀ x B' H', Aft W RA ρ B H B' H' → P x B' H' → P' x B' H') : Aw W Wx RA ρ σ B H r P' := by
  cases r with
  | ok x => exact fun B2 H2 a2 => k x B2 H2 a2 (h B2 H2 a2)
  | exc c fs => exact h
  | bad => exact h
theorem Aw.imp2 (h : Aw W Wx RA ρ σ B H r P) (k : ∀ x, (∀ B' H', Aft W RA ρ B H B' H' → P x B' H') → ∀ B' H', Aft W RA ρ B H B' H' → P' x B' H') : Aw W Wx RA ρ σ B H r P' := by
  cases r with
  | ok x => exact k x h
  | exc c fs => exact h
  | bad => exact h
theorem Aw.bind {f : α → Res β} {P : β → Hp → Hp → Prop} (h : Aw W Wx RA ρ σ B H (r.bind f) P) : Aw W Wx RA ρ σ B H r fun x B' H' => Aw W Wx RA ρ σ B' H' (f x) P := by
  cases r with
  | ok x => exact fun B2 H2 a2 => Aw.mono a2 h
  | exc c fs => exact h
  | bad => exact h
theorem Aw.here {x : α} (b : Base W RA ρ B H) (h : Aw W Wx RA ρ σ B H (.ok x) P) : P x B H := h B H (.refl b)
end

/-! ### a new thing, as any value -/
section
variable {X : Cx} {W : Wd} {Wx : WX} {e : Expr} {f : EF}
theorem pe_weak {t t' : TE} (h : PE X e t) (k : ∀ σ H Q, t' σ H Q → t σ H Q) : PE X e t' := ⟨fun pins s σ H Q I q => h.run pins s σ H Q I (k σ H Q q)⟩
theorem pt_weak {t t' : TT} (h : PT X e t) (k : ∀ σ H Q, t' σ H Q → t σ H Q) : PT X e t' := ⟨fun pins s σ H Q I q => h.run pins s σ H Q I (k σ H Q q)⟩
theorem pa_weak {es : List Expr} {t t' : TA} (h : PA X es t) (k : ∀ σ H Q, t' σ H Q → t σ H Q) : PA X es t' := ⟨fun pos pins s σ H Q I q => h.run pos pins s σ H Q I (k σ H Q q)⟩
theorem ps_weak {st : Stmt} {t t' : TS} (h : PS X st t) (k : ∀ Dn σ H, t' Dn σ H → t Dn σ H) : PS X st t' := ⟨fun pins s σ H Dn I q => h.run pins s σ H Dn I (k Dn σ H q)⟩
theorem pss_weak {st : List Stmt} {t t' : TS} (h : PSs X st t) (k : ∀ Dn σ H, t' Dn σ H → t Dn σ H) : PSs X st t' := ⟨fun pins s σ H Dn I q => h.run pins s σ H Dn I (k Dn σ H q)⟩
theorem pi_weak {tg it : Expr} {t t' : TI} (h : PI X tg it t) (k : ∀ σ H R, t' σ H R → t σ H R) : PI X tg it t' := ⟨fun pins s σ H R I q => h.run pins s σ H R I (k σ H R q)⟩
theorem pe_frz (h : PE X e (tF W Wx f)) : PE X e (tE W Wx f) := pe_weak h fun σ H Q ⟨RA, ρ, σd, B, b, l, q⟩ => ⟨RA, ρ, σd, B, b, l, q.imp2 fun d k B' H' a v fr => by
  obtain ⟨B2, a2, r⟩ := Fresh.freeze a fr
  exact k B2 H' a2 v r⟩
end
end Dd

set_option Elab.async false
set_option linter.all false
set_option maxRecDepth 100000
set_option maxHeartbeats 2000000
/-! DdOps: what operators, subscripts and built-in functions do to plain data -/
namespace Dd
open PySem PySem.Spec PyProof.Rows L2 Evl OwnO My

/-- a root's content, or the thing itself -/
def dr (ρ : List D) : D → D
  | .rt r => (ρ[r]?).getD (.rt r)
  | d => d
def ofO {α : Type} : Option α → Res α
  | some a => .ok a
  | none => .bad
section
variable {W : Wd} {RA : List Addr} {ρ : List D} {B H : Hp} {d : D} {x : V} {l ks : List D}
theorem view_rt (b : Base W RA ρ B H) {r : Nat} (h : Rep W RA B (.rt r) x) : ∃ a d, x = .ref a ∧ dr ρ (.rt r) = d ∧ RootAt W RA B H a d := by
  simp only [Rep] at h
  obtain ⟨a, rfl, hr⟩ := h
  have hl := (List.getElem?_eq_some_iff.mp hr).1
  have hd : ρ[r]? = some (ρ[r]'(by rw [← b.len]; exact hl)) := List.getElem?_eq_getElem _
  exact ⟨a, _, rfl, by simp only [dr, hd, Option.getD_some], b.roots r a _ hr hd⟩
theorem view_lst (b : Base W RA ρ B H) (h : Rep W RA B d x) (e : dr ρ d = .lst l) : ∃ a vs, x = .ref a ∧ H a = some (.lst vs) ∧ RepL W RA B l vs := by
  cases d with
  | lst m =>
    cases e
    simp only [Rep] at h
    obtain ⟨a, vs, rfl, h2, h3⟩ := h
    exact ⟨a, vs, rfl, b.le a _ h2, h3⟩
  | rt r =>
    obtain ⟨a, d', rfl, e', ra⟩ := view_rt b h
    rw [e] at e'; subst e'
    obtain ⟨vs, h1, h2⟩ := ra
    exact ⟨a, vs, rfl, h1, h2⟩
  | _ => cases e
theorem view_scr (b : Base W RA ρ B H) (h : Rep W RA B d x) (e : dr ρ d = .scr l) : ∃ a vs, x = .ref a ∧ SqL W.K H a vs ∧ RepL W RA B l vs := by
  cases d with
  | scr m =>
    cases e
    simp only [Rep] at h
    obtain ⟨a, vs, rfl, h2, h3⟩ := h
    exact ⟨a, vs, rfl, ex_l b.le h2, h3⟩
  | rt r =>
    obtain ⟨a, d', rfl, e', ra⟩ := view_rt b h
    rw [e] at e'; subst e'
    exact False.elim ra
  | _ => cases e
theorem view_tup (b : Base W RA ρ B H) (h : Rep W RA B d x) (e : dr ρ d = .tup l) : ∃ a vs, x = .ref a ∧ SqT W.K H a vs ∧ RepL W RA B l vs := by
  cases d with
  | tup m =>
    cases e
    simp only [Rep] at h
    obtain ⟨a, vs, rfl, h2, h3⟩ := h
    exact ⟨a, vs, rfl, ex_t b.le h2, h3⟩
  | rt r =>
    obtain ⟨a, d', rfl, e', ra⟩ := view_rt b h
    rw [e] at e'; subst e'
    exact False.elim ra
  | _ => cases e
theorem view_dct {ks : List L2.Key} (b : Base W RA ρ B H) (h : Rep W RA B d x) (e : dr ρ d = .dct ks l) : ∃ a kvs, x = .ref a ∧ H a = some (.dK kvs) ∧ kvs.map (·.1) = ks ∧ RepL W RA B l (kvs.map (·.2)) := by
  cases d with
  | dct m n =>
    cases e
    simp only [Rep] at h
    obtain ⟨a, vs, rfl, h2, h3⟩ := h
    exact ⟨a, vs, rfl, b.le a _ h2, h3⟩
  | rt r =>
    obtain ⟨a, d', rfl, e', ra⟩ := view_rt b h
    rw [e] at e'; subst e'
    obtain ⟨vs, h1, h2⟩ := ra
    exact ⟨a, vs, rfl, h1, h2⟩
  | _ => cases e
theorem view_wd {ks : List Str} (b : Base W RA ρ B H) (h : Rep W RA B d x) (e : dr ρ d = .wd ks l) : ∃ a vs, x = .ref a ∧ KDv W.K W.w a ks vs ∧ RepL W RA B l vs := by
  cases d with
  | wd m n =>
    cases e
    simpa only [Rep] using h
  | rt r =>
    obtain ⟨a, d', rfl, e', ra⟩ := view_rt b h
    rw [e] at e'; subst e'
    exact False.elim ra
  | _ => cases e
theorem view_ins {c : Nat} (b : Base W RA ρ B H) (h : Rep W RA B d x) (e : dr ρ d = .ins c l) : ∃ a dx vs, x = .ref a ∧ H a = some (.ins (W.CA c) dx ((W.CF c).zip vs)) ∧ RepL W RA B l vs ∧ vs.length ≤ (W.CF c).length := by
  cases d with
  | ins m n =>
    cases e
    simp only [Rep] at h
    obtain ⟨a, dx, vs, rfl, h2, h3, h4⟩ := h
    exact ⟨a, dx, vs, rfl, b.le a _ h2, h3, h4⟩
  | rt r =>
    obtain ⟨a, d', rfl, e', ra⟩ := view_rt b h
    rw [e] at e'; subst e'
    obtain ⟨dx, vs, h1, h2, h3⟩ := ra
    exact ⟨a, dx, vs, rfl, h1, h2, h3⟩
  | _ => cases e
theorem view_flat (b : Base W RA ρ B H) (h : Rep W RA B d x) : (∀ i, dr ρ d = .int i → x = .int i) ∧ (∀ i, dr ρ d = .str i → x = .str i) ∧ (∀ i, dr ρ d = .bl i → x = .bl i) ∧ (dr ρ d = .non → x = .non) ∧ (∀ n, dr ρ d = .ty n → x = .ty n.name) ∧ (∀ n, dr ρ d = .cl n → x = .ref (W.CA n)) := by
  cases d with
  | rt r =>
    obtain ⟨a, d', rfl, e', ra⟩ := view_rt b h
    rw [e']
    refine ⟨fun i e => ?_, fun i e => ?_, fun i e => ?_, fun e => ?_, fun i e => ?_, fun i e => ?_⟩ <;> (subst e; exact False.elim ra)
  | _ => simp_all [dr, Rep]
theorem view_int (b : Base W RA ρ B H) (h : Rep W RA B d x) {i : Int} (e : dr ρ d = .int i) : x = .int i := (view_flat b h).1 i e
theorem view_str (b : Base W RA ρ B H) (h : Rep W RA B d x) {i : Str} (e : dr ρ d = .str i) : x = .str i := (view_flat b h).2.1 i e
theorem view_bl (b : Base W RA ρ B H) (h : Rep W RA B d x) {i : Bool} (e : dr ρ d = .bl i) : x = .bl i := (view_flat b h).2.2.1 i e
theorem view_non (b : Base W RA ρ B H) (h : Rep W RA B d x) (e : dr ρ d = .non) : x = .non := (view_flat b h).2.2.2.1 e
theorem view_ty (b : Base W RA ρ B H) (h : Rep W RA B d x) {n : BT} (e : dr ρ d = .ty n) : x = .ty n.name := (view_flat b h).2.2.2.2.1 n e
theorem view_cl (b : Base W RA ρ B H) (h : Rep W RA B d x) {n : Nat} (e : dr ρ d = .cl n) : x = .ref (W.CA n) := (view_flat b h).2.2.2.2.2 n e
end

/-! ### rules by values, on data -/
section
variable (W : Wd)
/-- a two-place rule does to data what g says -/
def Op2 (r : R2) (g : List D → D → D → Option D) : Prop := ∀ (RA : List Addr) (ρ : List D) (B H : Hp) (x y : V) (d1 d2 d : D) (Q : VK), Base W RA ρ B H → Rep W RA B d1 x → Rep W RA B d2 y → g ρ d1 d2 = some d →
  (∀ v B' H', Aft W RA ρ B H B' H' → Rep W RA B' d v → Q v H') → r x y H Q
def Op1 (r : V → Hp → VK → Prop) (g : List D → D → Option D) : Prop := ∀ (RA : List Addr) (ρ : List D) (B H : Hp) (x : V) (d1 d : D) (Q : VK), Base W RA ρ B H → Rep W RA B d1 x → g ρ d1 = some d →
  (∀ v B' H', Aft W RA ρ B H B' H' → Rep W RA B' d v → Q v H') → r x H Q
/-- a call of a built-in -/
def OpC (r : List V → Hp → VK → Prop) (g : List D → List D → Option D) : Prop := ∀ (RA : List Addr) (ρ : List D) (B H : Hp) (xs : List V) (ds : List D) (d : D) (Q : VK), Base W RA ρ B H → RepL W RA B ds xs → g ρ ds = some d →
  (∀ v B' H', Aft W RA ρ B H B' H' → Rep W RA B' d v → Q v H') → r xs H Q
/-- one whose value is a new thing -/
def OpCF (r : List V → Hp → VK → Prop) (g : List D → List D → Option D) : Prop := ∀ (RA : List Addr) (ρ : List D) (B H : Hp) (xs : List V) (ds : List D) (d : D) (Q : VK), Base W RA ρ B H → RepL W RA B ds xs → g ρ ds = some d →
  (∀ v B' H', Aft W RA ρ B H B' H' → Fresh W RA H B' H' d v → Q v H') → r xs H Q
end
def bin2 (g : List D → D → D → Option D) (f1 f2 : EF) : EF := fun ρ σ => (f1 ρ σ).bind fun x => (f2 ρ σ).bind fun y => ofO (g ρ x y)
def un1 (g : List D → D → Option D) (f : EF) : EF := fun ρ σ => (f ρ σ).bind fun x => ofO (g ρ x)
def callB (g : List D → List D → Option D) (f : AF) : EF := fun ρ σ => (f ρ σ).bind fun xs => ofO (g ρ xs)
section
variable {W : Wd} {Wx : WX} {X : Cx} {a b : Expr} {f1 f2 f : EF} {fa : AF} {pos p : Pos}
theorem tE_bin {r : R2} {g : List D → D → D → Option D} (h : Op2 W r g) (σ : L2.St) (H : Hp) (Q : VK) : tE W Wx (bin2 g f1 f2) σ H Q → tOp r (tE W Wx f1) (tE W Wx f2) σ H Q := fun ⟨RA, ρ, σd, B, b, l, q⟩ =>
  ⟨RA, ρ, σd, B, b, l, (Aw.bind q).imp fun d1 B1 H1 a1 q1 x rx => ⟨RA, ρ, σd, B1, a1.base, l.ex a1.bl, (Aw.bind q1).imp fun d2 B2 H2 a2 q2 y ry => by
    cases e : g ρ d1 d2 with
    | none => simp only [e, ofO, Aw] at q2
    | some d =>
      simp only [e, ofO, Aw] at q2
      exact h RA ρ B2 H2 x y d1 d2 d Q a2.base (rx.ex a2.bl) ry e fun v B3 H3 a3 r3 => q2 B3 H3 a3 v r3⟩⟩
theorem pe_bin2 {op : Operator} {r : R2} {g : List D → D → D → Option D} (ho : OpR X (binaryOp op) r) (h : Op2 W r g) (ha : PE X a (tE W Wx f1)) (hb : PE X b (tE W Wx f2)) : PE X (.BinOp a op b pos) (tE W Wx (bin2 g f1 f2)) := pe_weak (pe_op ho ha hb) (tE_bin h)
theorem pe_cmp2 {op : CmpOp} {r : R2} {g : List D → D → D → Option D} (ho : OpR X (compareOp op) r) (h : Op2 W r g) (hm : behindInMarks op b = false) (ha : PE X a (tE W Wx f1)) (hb : PE X b (tE W Wx f2)) : PE X (.Compare a [op] [b] pos) (tE W Wx (bin2 g f1 f2)) := pe_weak (pe_cmpR ho ha hb hm) (tE_bin h)
theorem pe_ix2 {r : R2} {g : List D → D → D → Option D} (ho : IxR X r) (h : Op2 W r g) (hs : PlainIx b) (ha : PE X a (tE W Wx f1)) (hb : PE X b (tE W Wx f2)) : PE X (.Subscript a b pos) (tE W Wx (bin2 g f1 f2)) := pe_weak (pe_ix ho ha hb hs) (tE_bin h)
theorem pe_un1 {op : UnaryOp} {r : V → Hp → VK → Prop} {g : List D → D → Option D} (ho : UnR X (unaryOp op) r) (h : Op1 W r g) (ha : PE X a (tE W Wx f)) : PE X (.UnaryOp op a pos) (tE W Wx (un1 g f)) := pe_weak (pe_un ho ha) fun σ H Q ⟨RA, ρ, σd, B, b, l, q⟩ =>
  ⟨RA, ρ, σd, B, b, l, (Aw.bind q).imp fun d1 B1 H1 a1 q1 x rx => by
    cases e : g ρ d1 with
    | none => simp only [e, ofO, Aw] at q1
    | some d =>
      simp only [e, ofO, Aw] at q1
      exact h RA ρ B1 H1 x d1 d Q a1.base rx e fun v B3 H3 a3 r3 => q1 B3 H3 a3 v r3⟩
theorem tE_callB {r : List V → Hp → VK → Prop} {g : List D → List D → Option D} (h : OpC W r g) (σ : L2.St) (H : Hp) (Q : VK) : tE W Wx (callB g fa) σ H Q → tCB r (tA W Wx fa) σ H Q := fun ⟨RA, ρ, σd, B, b, l, q⟩ =>
  ⟨RA, ρ, σd, B, b, l, (Aw.bind q).imp fun ds B1 H1 a1 q1 xs rx => by
    cases e : g ρ ds with
    | none => simp only [e, ofO, Aw] at q1
    | some d =>
      simp only [e, ofO, Aw] at q1
      exact h RA ρ B1 H1 xs ds d Q a1.base rx e fun v B3 H3 a3 r3 => q1 B3 H3 a3 v r3⟩
theorem tF_callB {r : List V → Hp → VK → Prop} {g : List D → List D → Option D} (h : OpCF W r g) (σ : L2.St) (H : Hp) (Q : VK) : tF W Wx (callB g fa) σ H Q → tCB r (tA W Wx fa) σ H Q := fun ⟨RA, ρ, σd, B, b, l, q⟩ =>
  ⟨RA, ρ, σd, B, b, l, (Aw.bind q).imp fun ds B1 H1 a1 q1 xs rx => by
    cases e : g ρ ds with
    | none => simp only [e, ofO, Aw] at q1
    | some d =>
      simp only [e, ofO, Aw] at q1
      exact h RA ρ B1 H1 xs ds d Q a1.base rx e fun v B3 H3 a3 r3 => q1 B3 H3 a3 v (r3.back a1.hp)⟩
end
end Dd

set_option Elab.async false
set_option linter.all false
set_option maxRecDepth 100000
set_option maxHeartbeats 2000000
namespace Dd
open PySem PySem.Spec PyProof.Rows L2 Evl OwnO My

/-! ### arithmetic -/
def addD (ρ : List D) (x y : D) : Option D := match dr ρ x, dr ρ y with
  | .int i, .int j => some (.int (i + j))
  | .str s, .str t => if s.length + t.length ≤ 100000 then some (.str (s ++ t)) else none
  | .lst l, .lst m => if l.length + m.length ≤ 100000 then some (.lst (l ++ m)) else none
  | .tup l, .tup m => if l.length + m.length ≤ 100000 then some (.tup (l ++ m)) else none
  | _, _ => none
def subD (ρ : List D) (x y : D) : Option D := match dr ρ x, dr ρ y with
  | .int i, .int j => some (.int (i - j))
  | _, _ => none
def mulD (ρ : List D) (x y : D) : Option D := match dr ρ x, dr ρ y with
  | .int i, .int j => if (-(2 ^ 64) < i ∧ i < 2 ^ 64) ∨ (-(2 ^ 64) < j ∧ j < 2 ^ 64) then some (.int (i * j)) else none
  | .lst l, .int k => if -1000 ≤ k ∧ k ≤ 1000 ∧ l.length ≤ 100 then some (.lst (List.replicate k.toNat l).flatten) else none
  | .tup l, .int k => if 1 ≤ k ∧ k ≤ 1000 ∧ l ≠ [] ∧ l.length ≤ 1000 then some (.tup (List.replicate k.toNat l).flatten) else none
  | _, _ => none
def fdivD (ρ : List D) (x y : D) : Option D := match dr ρ x, dr ρ y with
  | .int i, .int j => if 0 < j ∧ j < 1073741824 then some (.int (i / j)) else none
  | _, _ => none
def modD (ρ : List D) (x y : D) : Option D := match dr ρ x, dr ρ y with
  | .int i, .int j => if 0 < j then some (.int (i % j)) else none
  | _, _ => none
def powD (ρ : List D) (x y : D) : Option D := match dr ρ x, dr ρ y with
  | .int i, .int j => if 0 ≤ j ∧ j ≤ 1000000 ∧ i.natAbs < 2 ^ 64 then some (.int (i ^ j.toNat)) else none
  | _, _ => none
def negD (ρ : List D) (x : D) : Option D := match dr ρ x with
  | .int i => some (.int (-i))
  | _ => none

section
variable {W : Wd} {RA : List Addr} {ρ : List D} {B H : Hp} {P : V → Hp → Prop}
theorem fin_flat {Q : VK} {d : D} (b : Base W RA ρ B H) {v : V} (hv : ∀ B', Rep W RA B' d v) (h : ∀ v B' H', Aft W RA ρ B H B' H' → Rep W RA B' d v → Q v H') : Q v H := h v B H (.refl b) (hv B)
theorem rep_int {i : Int} : Rep W RA B (.int i) (.int i) := by simp only [Rep]
theorem rep_str {i : Str} : Rep W RA B (.str i) (.str i) := by simp only [Rep]
theorem rep_bl {i : Bool} : Rep W RA B (.bl i) (.bl i) := by simp only [Rep]
theorem rep_non : Rep W RA B .non .non := by simp only [Rep]
theorem fin_new {Q : VK} {d : D} {o : HO} {p : Addr} (b : Base W RA ρ B H) (hp : H p = none) (hr : Rep W RA (upd B p o) d (.ref p)) (h : ∀ v B' H', Aft W RA ρ B H B' H' → Rep W RA B' d v → Q v H') : Q (.ref p) (upd H p o) :=
  h _ _ _ (.laid b hp) hr
theorem fin_lst {Q : VK} {l : List D} {vs : List V} {p : Addr} (b : Base W RA ρ B H) (hp : H p = none) (hr : RepL W RA B l vs) (h : ∀ v B' H', Aft W RA ρ B H B' H' → Rep W RA B' (.lst l) v → Q v H') : Q (.ref p) (upd H p (.lst vs)) :=
  fin_new b hp (by simp only [Rep]; exact ⟨p, vs, rfl, upd_same, hr.ex (Ex.new (b.fresh_out hp).1)⟩) h
theorem fin_tup {Q : VK} {l : List D} {vs : List V} {p : Addr} (b : Base W RA ρ B H) (hp : H p = none) (hr : RepL W RA B l vs) (h : ∀ v B' H', Aft W RA ρ B H B' H' → Rep W RA B' (.tup l) v → Q v H') : Q (.ref p) (upd H p (.tup vs)) :=
  fin_new b hp (by simp only [Rep]; exact ⟨p, vs, rfl, .of upd_same, hr.ex (Ex.new (b.fresh_out hp).1)⟩) h
theorem fin_lstF {Q : VK} {l : List D} {vs : List V} {p : Addr} (b : Base W RA ρ B H) (hp : H p = none) (hr : RepL W RA B l vs) (h : ∀ v B' H', Aft W RA ρ B H B' H' → Fresh W RA H B' H' (.lst l) v → Q v H') : Q (.ref p) (upd H p (.lst vs)) :=
  h _ _ _ (.heap b (Ex.new hp)) ⟨p, rfl, hp, (b.fresh_out hp).1, (b.fresh_out hp).2, vs, upd_same, hr⟩
end
theorem units0 {X : Cx} (h : X.A.units + 128 < cLine) : X.A.units < cLine := by omega
theorem units64 {X : Cx} (h : X.A.units + 128 < cLine) : X.A.units + 64 < cLine := by omega
theorem units65 {X : Cx} (h : X.A.units + 128 < cLine) : X.A.units + 65 < cLine := by omega

def rAddD (K : PySem.W.Frag) : R2 := fun x y H Q => (∃ i j, x = .int i ∧ y = .int j ∧ Q (.int (i + j)) H) ∨ (∃ i j, x = .str i ∧ y = .str j ∧ i.length + j.length ≤ sizeLine ∧ Q (.str (i ++ j)) H) ∨ rCat x y H Q ∨ rCatA K x y H Q
theorem opr_add {X : Cx} (K : PySem.W.Frag) (hK : X.K = K) : OpR X (binaryOp .Add) (rAddD K) := by subst hK; exact op_add.or (op_add_str.or (op_cat.or op_catA))
theorem op2_add (W : Wd) : Op2 W (rAddD W.K) addD := by
  intro RA ρ B H x y d1 d2 d Q b r1 r2 e h
  unfold addD at e
  split at e
  · rename_i i j e1 e2
    cases e
    rw [view_int b r1 e1, view_int b r2 e2]
    exact .inl ⟨i, j, rfl, rfl, fin_flat b (fun _ => rep_int) h⟩
  · rename_i s t e1 e2
    split at e
    · rename_i hz
      cases e
      rw [view_str b r1 e1, view_str b r2 e2]
      exact .inr (.inl ⟨s, t, rfl, rfl, sz_of hz, fin_flat b (fun _ => rep_str) h⟩)
    · cases e
  · rename_i l m e1 e2
    split at e
    · rename_i hz
      cases e
      obtain ⟨a, vs, rfl, ha, la⟩ := view_lst b r1 e1
      obtain ⟨a', us, rfl, hb, lb⟩ := view_lst b r2 e2
      refine .inr (.inr (.inl ⟨a, a', vs, us, rfl, rfl, ha, hb, sz_of (by rw [← la.len, ← lb.len]; exact hz), fun p hp => fin_lst b hp (la.append lb) h⟩))
    · cases e
  · rename_i l m e1 e2
    split at e
    · rename_i hz
      cases e
      obtain ⟨a, vs, rfl, ha, la⟩ := view_tup b r1 e1
      obtain ⟨a', us, rfl, hb, lb⟩ := view_tup b r2 e2
      cases d1 with
      | tup l' =>
        cases e1
        cases d2 with
        | tup m' =>
          cases e2
          refine .inr (.inr (.inr ⟨a, a', vs, us, rfl, rfl, ha, hb, sz_of (by rw [← la.len, ← lb.len]; exact hz), fun e => ?_, fun e e' => ?_, fun _ _ p hp => fin_tup b hp (la.append lb) h⟩))
          · subst e
            have : l = [] := List.eq_nil_of_length_eq_zero (by rw [la.len]; rfl)
            subst this
            exact h _ B H (.refl b) r2
          · subst e'
            have : m = [] := List.eq_nil_of_length_eq_zero (by rw [lb.len]; rfl)
            subst this
            exact h _ B H (.refl b) (by rw [List.append_nil]; exact r1)
        | rt r =>
          obtain ⟨a2, d', _, e', ra⟩ := view_rt b r2
          rw [e2] at e'; subst e'; exact False.elim ra
        | _ => cases e2
      | rt r =>
        obtain ⟨a2, d', _, e', ra⟩ := view_rt b r1
        rw [e1] at e'; subst e'; exact False.elim ra
      | _ => cases e1
    · cases e
  · cases e
theorem op2_sub (W : Wd) : Op2 W (rI0 fun i j => .int (i - j)) subD := by
  intro RA ρ B H x y d1 d2 d Q b r1 r2 e h
  unfold subD at e
  split at e
  · rename_i i j e1 e2
    cases e
    rw [view_int b r1 e1, view_int b r2 e2]
    exact ⟨i, j, rfl, rfl, fin_flat b (fun _ => rep_int) h⟩
  · cases e
theorem op2_fdiv (W : Wd) : Op2 W (rI CDiv fun i j => .int (i / j)) fdivD := by
  intro RA ρ B H x y d1 d2 d Q b r1 r2 e h
  unfold fdivD at e
  split at e
  · rename_i i j e1 e2
    split at e
    · rename_i hc
      cases e
      rw [view_int b r1 e1, view_int b r2 e2]
      exact ⟨i, j, rfl, rfl, hc, fin_flat b (fun _ => rep_int) h⟩
    · cases e
  · cases e
theorem op2_mod (W : Wd) : Op2 W (rI (fun _ j => 0 < j) fun i j => .int (i % j)) modD := by
  intro RA ρ B H x y d1 d2 d Q b r1 r2 e h
  unfold modD at e
  split at e
  · rename_i i j e1 e2
    split at e
    · rename_i hc
      cases e
      rw [view_int b r1 e1, view_int b r2 e2]
      exact ⟨i, j, rfl, rfl, hc, fin_flat b (fun _ => rep_int) h⟩
    · cases e
  · cases e
theorem op2_pow (W : Wd) : Op2 W (rI CPow fun i j => .int (i ^ j.toNat)) powD := by
  intro RA ρ B H x y d1 d2 d Q b r1 r2 e h
  unfold powD at e
  split at e
  · rename_i i j e1 e2
    split at e
    · rename_i hc
      cases e
      rw [view_int b r1 e1, view_int b r2 e2]
      exact ⟨i, j, rfl, rfl, hc, fin_flat b (fun _ => rep_int) h⟩
    · cases e
  · cases e
theorem op1_neg (W : Wd) : Op1 W (rU fun i => .int (-i)) negD := by
  intro RA ρ B H x d1 d Q b r1 e h
  unfold negD at e
  split at e
  · rename_i i e1
    cases e
    rw [view_int b r1 e1]
    exact ⟨i, rfl, fin_flat b (fun _ => rep_int) h⟩
  · cases e
/-- t * 1 is t -/
theorem tuple_mul1 (l : Addr) (items : Array Value) (n : Nat) (dd : Option Addr) (sl : Array (Option Value)) (u : Tok) :
    Meets (Builtin.«tuple.__mul__» ⟨[.ref l, .int 1 u], []⟩) (fun _ R s => s.heap.get? l = some { cls := .type "tuple", dict := dd, data := .seq items n, slots := sl } ∧ R (.ok (.ret (Value.ref l))) s) :=
  .of_wp fun prog w A R s h => by
    obtain ⟨hp, g, d, tk, os⟩ := s
    obtain ⟨hl, h⟩ := h
    have f1 := AutoSeq1.idx_int
    wp_walk using wpAny_loadPart' hl
    repeat (first
      | (refine wpAny_ite_false (decide_eq_false (by decide)) ?_; wp_walk using wpAny_loadPart' hl)
      | (refine wpAny_ite_true (by simp) ?_; wp_walk using wpAny_loadPart' hl)
      | (refine wpAny_ite_true (decide_eq_true (by simp)) ?_; wp_walk using wpAny_loadPart' hl))
    exact ⟨_, rfl, h⟩
def rRep1 (K : PySem.W.Frag) : R2 := fun x y H Q => ∃ l xs, x = .ref l ∧ y = .int 1 ∧ SqT K H l xs ∧ Q (.ref l) H
theorem op_rep1 {X : Cx} : OpR X (binaryOp .Mult) (rRep1 X.K) := by
  intro pins s σ H x y v u Q I rx ry h
  obtain ⟨l, xs, rfl, rfl, hT, q⟩ := h
  cases rx
  obtain ⟨t, rfl⟩ := ry
  obtain ⟨its, r, ⟨⟨cls, dd, data, sl⟩, ho, hc, n, hd⟩, hs⟩ := I.tuple hT
  simp only at hc hd
  subst hc hd
  refine wpAny_binaryOp_repeat_ref (T := "tuple") (U := "int") (by decide) ⟨_, ho, rfl⟩ (fun s' => typeIs_int s' 1 t) noFill_tuple_mul F.fills_int_mul F.slot_int_rmul repeat_tuple F.slot_int_index.lookup
    (call_meets F.slot_int_rmul (typeIs_int s 1 t) F.entry_int_rmul (F.args_int_rmul_2 _ _) (int_rmul_tuple 1 t l its.toArray n dd sl)
      ⟨ho, rfl, ⟨_, ho, rfl⟩, call_meets F.slot_tuple_mul ⟨_, ho, rfl⟩ F.entry_tuple_mul (F.args_tuple_mul_2 _ _) (tuple_mul1 l its.toArray n dd sl t) ⟨ho, ?_⟩⟩)
  exact ⟨.ref l, H, I, rfl, q⟩
def rMulD (K : PySem.W.Frag) : R2 := fun x y H Q => (rI CMul (fun i j => .int (i * j)) x y H Q) ∨ rRep x y H Q ∨ rRep1 K x y H Q ∨ rRepT K x y H Q
theorem opr_mul {X : Cx} (K : PySem.W.Frag) (hK : X.K = K) : OpR X (binaryOp .Mult) (rMulD K) := by subst hK; exact op_mul.or (op_rep.or (op_rep1.or op_repT))
theorem RepL.flat {W : Wd} {RA : List Addr} {B : Hp} {l : List D} {vs : List V} (h : RepL W RA B l vs) : ∀ n : Nat, RepL W RA B (List.replicate n l).flatten (List.replicate n vs).flatten
  | 0 => .nil
  | n + 1 => by
    rw [List.replicate_succ, List.replicate_succ, List.flatten_cons, List.flatten_cons]
    exact h.append (RepL.flat h n)
theorem op2_mul (W : Wd) : Op2 W (rMulD W.K) mulD := by
  intro RA ρ B H x y d1 d2 d Q b r1 r2 e h
  unfold mulD at e
  split at e
  · rename_i i j e1 e2
    split at e
    · rename_i hc
      cases e
      rw [view_int b r1 e1, view_int b r2 e2]
      exact .inl ⟨i, j, rfl, rfl, hc, fin_flat b (fun _ => rep_int) h⟩
    · cases e
  · rename_i l k e1 e2
    split at e
    · rename_i hc
      cases e
      obtain ⟨a, vs, rfl, ha, la⟩ := view_lst b r1 e1
      rw [view_int b r2 e2]
      refine .inr (.inl ⟨a, k, vs, rfl, rfl, ha, by omega, by omega, sz_of ?_, fun p hp => fin_lst b hp (la.flat _) h⟩)
      rw [← la.len]
      have h1 : l.length * k.toNat ≤ 100 * 1000 := Nat.mul_le_mul hc.2.2 (by omega)
      exact h1
    · cases e
  · rename_i l k e1 e2
    split at e
    · rename_i hc
      cases e
      cases d1 with
      | tup l' =>
        cases e1
        obtain ⟨a, vs, rfl, ha, la⟩ := view_tup b r1 rfl
        rw [view_int b r2 e2]
        by_cases hk : k = 1
        · subst hk
          refine .inr (.inr (.inl ⟨a, vs, rfl, rfl, ha, h _ B H (.refl b) ?_⟩))
          have : (List.replicate (Int.toNat 1) l).flatten = l := by
            show (List.replicate 1 l).flatten = l
            simp
          rw [this]
          exact r1
        · refine .inr (.inr (.inr ⟨a, k, vs, rfl, rfl, ha, fun z => hc.2.2.1 ?_, by omega, hc.2.1, by rw [← la.len]; exact hc.2.2.2, fun p hp => fin_tup b hp (la.flat _) h⟩))
          exact List.eq_nil_of_length_eq_zero (by rw [la.len, z]; rfl)
      | rt r =>
        obtain ⟨a2, d', _, e', ra⟩ := view_rt b r1
        rw [e1] at e'; subst e'; exact False.elim ra
      | _ => cases e1
    · cases e
  · cases e

/-! ### comparisons -/
mutual
def toPy : D → Option PyData
  | .non => some .none
  | .bl b => some (.bool b)
  | .int i => some (.int i)
  | .str s => some (.str s)
  | .tup l => (toPyL l).map .tuple
  | .lst l => (toPyL l).map .list
  | _ => none
def toPyL : List D → Option (List PyData)
  | [] => some []
  | d :: l => (toPy d).bind fun p => (toPyL l).map fun r => p :: r
end
section
variable {W : Wd} {RA : List Addr} {ρ : List D} {B H : Hp}
mutual
theorem dp_of (hB : Ex B H) : ∀ (d : D) (v : V) (p : PyData), Rep W RA B d v → toPy d = some p → Dp W.K H v p
  | .non, v, p, h, e => by simp only [Rep] at h; simp only [toPy] at e; cases e; subst h; exact .non
  | .bl b, v, p, h, e => by simp only [Rep] at h; simp only [toPy] at e; cases e; subst h; exact .bl b
  | .int i, v, p, h, e => by simp only [Rep] at h; simp only [toPy] at e; cases e; subst h; exact .int i
  | .str s, v, p, h, e => by simp only [Rep] at h; simp only [toPy] at e; cases e; subst h; exact .str s
  | .tup l, v, p, h, e => by
    simp only [Rep] at h
    obtain ⟨a, vs, rfl, h2, h3⟩ := h
    simp only [toPy] at e
    obtain ⟨ps, e1, rfl⟩ := Option.map_eq_some_iff.mp e
    exact .tup (ex_t hB h2) (dpL_of hB l vs ps h3 e1)
  | .lst l, v, p, h, e => by
    simp only [Rep] at h
    obtain ⟨a, vs, rfl, h2, h3⟩ := h
    simp only [toPy] at e
    obtain ⟨ps, e1, rfl⟩ := Option.map_eq_some_iff.mp e
    exact .lst (sq_of (hB a _ h2)) (dpL_of hB l vs ps h3 e1)
  | .st _, _, _, _, e => by simp only [toPy] at e; cases e
  | .dct _ _, _, _, _, e => by simp only [toPy] at e; cases e
  | .wd _ _, _, _, _, e => by simp only [toPy] at e; cases e
  | .ins _ _, _, _, _, e => by simp only [toPy] at e; cases e
  | .exn _ _, _, _, _, e => by simp only [toPy] at e; cases e
  | .rt _, _, _, _, e => by simp only [toPy] at e; cases e
  | .scr _, _, _, _, e => by simp only [toPy] at e; cases e
  | .ty _, _, _, _, e => by simp only [toPy] at e; cases e
  | .cl _, _, _, _, e => by simp only [toPy] at e; cases e
theorem dpL_of (hB : Ex B H) : ∀ (l : List D) (vs : List V) (ps : List PyData), RepL W RA B l vs → toPyL l = some ps → DpAll W.K H vs ps
  | [], vs, ps, h, e => by rw [h.unnil]; simp only [toPyL] at e; cases e; exact .nil
  | d :: l, vs, ps, h, e => by
    obtain ⟨v, us, rfl, h2, h3⟩ := h.uncons
    simp only [toPyL] at e
    obtain ⟨p, e1, e⟩ := Option.bind_eq_some_iff.mp e
    obtain ⟨r, e2, rfl⟩ := Option.map_eq_some_iff.mp e
    exact .cons (dp_of hB d v p h2 e1) (dpL_of hB l us r h3 e2)
end
theorem dp_dr (b : Base W RA ρ B H) {d : D} {v : V} {p : PyData} (h : Rep W RA B d v) (e : toPy (dr ρ d) = some p) : Dp W.K H v p := by
  cases d with
  | rt r =>
    obtain ⟨a, d', rfl, e', ra⟩ := view_rt b h
    rw [e'] at e
    cases d' with
    | lst l =>
      obtain ⟨vs, h1, h2⟩ := ra
      simp only [toPy] at e
      obtain ⟨ps, e1, rfl⟩ := Option.map_eq_some_iff.mp e
      exact .lst (sq_of h1) (dpL_of b.le l vs ps h2 e1)
    | dct _ _ => simp only [toPy] at e; cases e
    | ins _ _ => simp only [toPy] at e; cases e
    | _ => exact False.elim ra
  | _ => exact dp_of b.le _ v p h e
end
/-- == of plain data -/
def eqB (ρ : List D) (x y : D) : Option Bool := (toPy (dr ρ x)).bind fun p => (toPy (dr ρ y)).bind fun q => if SeqAt.shaped p = true ∧ SeqAt.shaped q = true then some (PyData.eqv p q) else none
def eqD (ρ : List D) (x y : D) : Option D := (eqB ρ x y).map .bl
def neD (ρ : List D) (x y : D) : Option D := (eqB ρ x y).map fun b => .bl (!b)
theorem eqB_some {ρ : List D} {x y : D} {b : Bool} (h : eqB ρ x y = some b) : ∃ p q, toPy (dr ρ x) = some p ∧ toPy (dr ρ y) = some q ∧ SeqAt.shaped p = true ∧ SeqAt.shaped q = true ∧ PyData.eqv p q = b := by
  unfold eqB at h
  obtain ⟨p, e1, h⟩ := Option.bind_eq_some_iff.mp h
  obtain ⟨q, e2, h⟩ := Option.bind_eq_some_iff.mp h
  split at h
  · rename_i hc
    cases h
    exact ⟨p, q, e1, e2, hc.1, hc.2, rfl⟩
  · cases h
theorem opr_eq {X : Cx} (K : PySem.W.Frag) (hK : X.K = K) (hu : X.A.units + 128 < cLine) : OpR X (compareOp .Eq) (rEqD K) := by subst hK; exact op_eqD (units64 hu)
theorem opr_ne {X : Cx} (K : PySem.W.Frag) (hK : X.K = K) (hu : X.A.units + 128 < cLine) : OpR X (compareOp .NotEq) (rNeD K) := by subst hK; exact op_neD (units64 hu)
theorem op2_eq (W : Wd) : Op2 W (rEqD W.K) eqD := by
  intro RA ρ B H x y d1 d2 d Q b r1 r2 e h
  unfold eqD at e
  obtain ⟨k, e0, rfl⟩ := Option.map_eq_some_iff.mp e
  obtain ⟨p, q, e1, e2, s1, s2, rfl⟩ := eqB_some e0
  exact ⟨p, q, dp_dr b r1 e1, dp_dr b r2 e2, s1, s2, fin_flat b (fun _ => rep_bl) h⟩
theorem op2_ne (W : Wd) : Op2 W (rNeD W.K) neD := by
  intro RA ρ B H x y d1 d2 d Q b r1 r2 e h
  unfold neD at e
  obtain ⟨k, e0, rfl⟩ := Option.map_eq_some_iff.mp e
  obtain ⟨p, q, e1, e2, s1, s2, rfl⟩ := eqB_some e0
  exact ⟨p, q, dp_dr b r1 e1, dp_dr b r2 e2, s1, s2, fin_flat b (fun _ => rep_bl) h⟩
/-- an order of ints -/
def ordD (p : Int → Int → Bool) (ρ : List D) (x y : D) : Option D := match dr ρ x, dr ρ y with
  | .int i, .int j => some (.bl (p i j))
  | _, _ => none
theorem op2_ord (W : Wd) (p : Int → Int → Bool) : Op2 W (rI0 fun i j => .bl (p i j)) (ordD p) := by
  intro RA ρ B H x y d1 d2 d Q b r1 r2 e h
  unfold ordD at e
  split at e
  · rename_i i j e1 e2
    cases e
    rw [view_int b r1 e1, view_int b r2 e2]
    exact ⟨i, j, rfl, rfl, fin_flat b (fun _ => rep_bl) h⟩
  · cases e
abbrev ltD := ordD fun i j => decide (i < j)
abbrev leD := ordD fun i j => decide (i ≤ j)
abbrev gtD := ordD fun i j => decide (j < i)
abbrev geD := ordD fun i j => decide (j ≤ i)
/-- x is None -/
def isnD (ρ : List D) (x y : D) : Option D := match dr ρ y, dr ρ x with
  | .non, .non => some (.bl true)
  | .non, .exn _ _ => none
  | .non, _ => some (.bl false)
  | _, _ => none
def notnD (ρ : List D) (x y : D) : Option D := match dr ρ y, dr ρ x with
  | .non, .non => some (.bl false)
  | .non, .exn _ _ => none
  | .non, _ => some (.bl true)
  | _, _ => none
theorem rep_nonz {W : Wd} {RA : List Addr} {ρ : List D} {B H : Hp} {d : D} {x : V} (b : Base W RA ρ B H) (h : Rep W RA B d x) (h1 : dr ρ d ≠ .non) : x ≠ .non := by
  cases d with
  | rt r =>
    obtain ⟨a, d', rfl, e', ra⟩ := view_rt b h
    intro z; cases z
  | non => exact absurd rfl h1
  | exn _ _ => simp only [Rep] at h; obtain ⟨_, _, rfl, _⟩ := h; intro z; cases z
  | tup _ => simp only [Rep] at h; obtain ⟨_, _, rfl, _⟩ := h; intro z; cases z
  | lst _ => simp only [Rep] at h; obtain ⟨_, _, rfl, _⟩ := h; intro z; cases z
  | scr _ => simp only [Rep] at h; obtain ⟨_, _, rfl, _⟩ := h; intro z; cases z
  | st _ => simp only [Rep] at h; obtain ⟨_, rfl, _⟩ := h; intro z; cases z
  | dct _ _ => simp only [Rep] at h; obtain ⟨_, _, rfl, _⟩ := h; intro z; cases z
  | wd _ _ => simp only [Rep] at h; obtain ⟨_, _, rfl, _⟩ := h; intro z; cases z
  | ins _ _ => simp only [Rep] at h; obtain ⟨_, _, _, rfl, _⟩ := h; intro z; cases z
  | _ => simp only [Rep] at h; subst h; intro z; cases z
theorem op2_isn (W : Wd) : Op2 W rIsNon isnD := by
  intro RA ρ B H x y d1 d2 d Q b r1 r2 e h
  unfold isnD at e
  split at e
  · rename_i e1 e2
    cases e
    rw [view_non b r1 e2, view_non b r2 e1]
    exact ⟨rfl, fin_flat b (fun _ => rep_bl) h⟩
  · cases e
  · rename_i e1 e2 e3
    cases e
    rw [view_non b r2 e1]
    refine ⟨rfl, ?_⟩
    rw [decide_eq_false (rep_nonz b r1 e2)]
    exact fin_flat b (fun _ => rep_bl) h
  · cases e
theorem op2_notn (W : Wd) : Op2 W rNotNon notnD := by
  intro RA ρ B H x y d1 d2 d Q b r1 r2 e h
  unfold notnD at e
  split at e
  · rename_i e1 e2
    cases e
    rw [view_non b r1 e2, view_non b r2 e1]
    exact ⟨rfl, fin_flat b (fun _ => rep_bl) h⟩
  · cases e
  · rename_i e1 e2 e3
    cases e
    rw [view_non b r2 e1]
    refine ⟨rfl, ?_⟩
    rw [decide_eq_false (rep_nonz b r1 e2)]
    exact fin_flat b (fun _ => rep_bl) h
  · cases e
end Dd

set_option Elab.async false
set_option linter.all false
set_option maxRecDepth 100000
set_option maxHeartbeats 2000000
namespace Dd
open PySem PySem.Spec PyProof.Rows L2 Evl OwnO My

/-! ### in -/
def keyD : D → Option L2.Key
  | .int i => some (.inl i)
  | .str s => some (.inr s)
  | _ => none
/-- the value at a key -/
def lookK : List L2.Key → List D → L2.Key → Option D
  | k :: ks, d :: l, j => if k = j then some d else lookK ks l j
  | _, _, _ => none
theorem keyD_V {W : Wd} {RA : List Addr} {ρ : List D} {B H : Hp} {d : D} {x : V} {k : L2.Key} (b : Base W RA ρ B H) (h : Rep W RA B d x) (e : keyD (dr ρ d) = some k) : x = kV k := by
  cases e1 : dr ρ d with
  | int i => rw [e1] at e; cases e; exact view_int b h e1
  | str s => rw [e1] at e; cases e; exact view_str b h e1
  | _ => rw [e1] at e; cases e
theorem lookK_rep {W : Wd} {RA : List Addr} {B : Hp} : ∀ {kvs : List (L2.Key × V)} {l : List D} {k : L2.Key}, RepL W RA B l (kvs.map (·.2)) → (∀ d, lookK (kvs.map (·.1)) l k = some d → ∃ v, valV kvs k = some v ∧ Rep W RA B d v) ∧ (lookK (kvs.map (·.1)) l k = none → valV kvs k = none)
  | [], l, k, h => ⟨fun d e => by simp [lookK] at e, fun _ => rfl⟩
  | (j, v) :: kvs, [], k, h => by have := h.len; simp at this
  | (j, v) :: kvs, d :: l, k, h => by
    obtain ⟨v', us, e, h2, h3⟩ := RepL.uncons (show RepL W RA B (d :: l) (v :: kvs.map (·.2)) from h)
    cases e
    have ih := lookK_rep (k := k) h3
    simp only [List.map_cons, lookK]
    by_cases e : j = k
    · subst e
      simp only [if_true]
      exact ⟨fun d' e' => by cases e'; exact ⟨v, valV_pos rfl, h2⟩, fun e' => by cases e'⟩
    · rw [if_neg e, valV_neg e]
      exact ih
/-- a written dict's value at a key -/
def lookW : List Str → List D → Str → Option D
  | k :: ks, d :: l, j => if k = j then some d else lookW ks l j
  | _, _, _ => none
theorem kent_look {W : Wd} {RA : List Addr} {B : Hp} {z : Str} : ∀ {es : List DictEntry} {ks : List Str} {vs : List V} {l : List D}, KEnt es ks vs → RepL W RA B l vs → ∃ r : Option Value, (match es.find? (·.key.isStr z) with
      | some e => some (some e.val)
      | none => if es.any (·.refKey) then none else some none) = some r ∧ r.isSome = (lookW ks l z).isSome ∧ ∀ d, lookW ks l z = some d → ∃ u v, r = some u ∧ RelV v u ∧ Rep W RA B d v
  | [], [], [], l, _, hl => by
    cases l with
    | nil => exact ⟨none, rfl, rfl, fun d e => by simp [lookW] at e⟩
    | cons _ _ => have := hl.len; simp at this
  | e :: es, k :: ks, v :: vs, l, ⟨⟨t, hk⟩, hv, hr⟩, hl => by
    cases l with
    | nil => have := hl.len; simp at this
    | cons d l =>
      obtain ⟨v', us, e1, h1, h2⟩ := hl.uncons
      cases e1
      obtain ⟨r, ih1, ih2, ih3⟩ := kent_look (z := z) hr h2
      have ek : e.key.isStr z = decide (k = z) := by rw [hk]; show (k == z) = _; by_cases c : k = z <;> simp [c]
      have er : e.refKey = false := by unfold DictEntry.refKey; rw [hk]
      rw [List.find?_cons, ek]
      by_cases c : k = z
      · simp only [c, decide_true]
        refine ⟨some e.val, rfl, by simp [lookW], fun d' e' => ?_⟩
        simp only [lookW, if_true] at e'
        cases e'
        exact ⟨e.val, v, rfl, hv, h1⟩
      · simp only [c, decide_false]
        refine ⟨r, ?_, ?_, ?_⟩
        · rw [List.any_cons, er, Bool.false_or]; exact ih1
        · simp only [lookW, if_neg c]; exact ih2
        · simp only [lookW, if_neg c]; exact ih3
theorem kd_look {W : Wd} {RA : List Addr} {B : Hp} {a : Addr} {ks : List Str} {vs : List V} {l : List D} (z : Str) (h : KDv W.K W.w a ks vs) (hl : RepL W RA B l vs) : ∃ es n r, KDict W.K W.w a es n ∧ PySem.W.nsIn W.K a z = some r ∧ r.isSome = (lookW ks l z).isSome ∧ ∀ d, lookW ks l z = some d → ∃ u v, r = some u ∧ RelV v u ∧ Rep W RA B d v := by
  obtain ⟨es, n, hd, he⟩ := h
  obtain ⟨r, h1, h2, h3⟩ := kent_look (z := z) he hl
  refine ⟨es, n, r, hd, ?_, h2, h3⟩
  unfold PySem.W.nsIn
  rw [hd.at_]
  exact h1
/-- x in y -/
def inB (ρ : List D) (x y : D) : Option Bool := match dr ρ y with
  | .lst l => (toPy (dr ρ x)).bind fun p => (toPyL l).bind fun ps => if SeqAt.shaped p = true ∧ SeqAt.shaped (.list ps) = true then some (ps.any fun z => PyData.eqv z p) else none
  | .tup l => (toPy (dr ρ x)).bind fun p => (toPyL l).bind fun ps => if SeqAt.shaped p = true ∧ SeqAt.shaped (.tuple ps) = true then some (ps.any fun z => PyData.eqv z p) else none
  | .dct ks l => (keyD (dr ρ x)).map fun k => (lookK ks l k).isSome
  | .wd ks l => match dr ρ x with
    | .str s => some (lookW ks l s).isSome
    | _ => none
  | .str z => match dr ρ x with
    | .str s => if s.cps.toList.length = 1 then some (decide (s.cps.toList.getD 0 0 ∈ z.cps.toList)) else none
    | _ => none
  | _ => none
def inD (ρ : List D) (x y : D) : Option D := (inB ρ x y).map .bl
def ninD (ρ : List D) (x y : D) : Option D := (inB ρ x y).map fun b => .bl (!b)
def rInT (K : PySem.W.Frag) (neg : Bool) : R2 := fun x y H Q => ∃ d ds, Dp K H x d ∧ Dp K H y (.tuple ds) ∧ SeqAt.shaped d = true ∧ SeqAt.shaped (.tuple ds) = true ∧ Q (.bl (if neg = true then !(ds.any fun z => PyData.eqv z d) else ds.any fun z => PyData.eqv z d)) H
def rInDct (neg : Bool) : R2 := fun x y H Q => ∃ a o, y = .ref a ∧ DGet H a x o ∧ Q (.bl (if neg = true then !o.isSome else o.isSome)) H
def rInSig (neg : Bool) : R2 := fun x y H Q => ∃ (c : Nat) (z : Str), x = .str ⟨#[c]⟩ ∧ y = .str z ∧ Q (.bl (if neg = true then !decide (c ∈ z.cps.toList) else decide (c ∈ z.cps.toList))) H
section
variable {X : Cx}
theorem op_inT (hu : X.A.units + 128 < cLine) : OpR X (compareOp .In) (rInT X.K false) := by
  intro pins s σ H x y v u Q I rx ry h
  obtain ⟨d, ds, hd, he, sd, se, q⟩ := h
  obtain ⟨as, r1⟩ := Dp.reads I d x v hd rx
  obtain ⟨bs, r2⟩ := Dp.reads I (.tuple ds) y u he ry
  exact SeqAt.in_tuple_reads r2 r1 (SeqAt.canLay_of_shaped se) (SeqAt.canLay_of_shaped sd) (room_in_shaped sd (units65 hu)) ⟨.bl _, H, I, rfl, q⟩
theorem op_ninT (hu : X.A.units + 128 < cLine) : OpR X (compareOp .NotIn) (rInT X.K true) := by
  intro pins s σ H x y v u Q I rx ry h
  obtain ⟨d, ds, hd, he, sd, se, q⟩ := h
  obtain ⟨as, r1⟩ := Dp.reads I d x v hd rx
  obtain ⟨bs, r2⟩ := Dp.reads I (.tuple ds) y u he ry
  exact SeqAt.notIn_tuple_reads r2 r1 (SeqAt.canLay_of_shaped se) (SeqAt.canLay_of_shaped sd) (room_in_shaped sd (units65 hu)) ⟨.bl _, H, I, rfl, q⟩
theorem op_inDct (hu : X.A.units + 128 < cLine) : OpR X (compareOp .In) (rInDct false) := by
  intro pins s σ H x y v u Q I rx ry h
  obtain ⟨a, o, rfl, g, q⟩ := h
  cases ry
  exact d_in (by omega) I g rx fun s' I' => ⟨.bl _, H, I', rfl, q⟩
theorem op_ninDct (hu : X.A.units + 128 < cLine) : OpR X (compareOp .NotIn) (rInDct true) := by
  intro pins s σ H x y v u Q I rx ry h
  obtain ⟨a, o, rfl, g, q⟩ := h
  cases ry
  exact d_notIn (by omega) I g rx fun s' I' => ⟨.bl _, H, I', rfl, q⟩
end
def rInK (K : PySem.W.Frag) (w : World) (neg : Bool) : R2 := fun x y H Q => ∃ (d : Addr) (es : Array DictEntry) (n : Nat) (z : Str) (r : Option Value), KDict K w d es n ∧ x = .str z ∧ y = .ref d ∧ PySem.W.nsIn K d z = some r ∧ Q (.bl (if neg = true then !r.isSome else r.isSome)) H
theorem op_inK {X : Cx} : OpR X (compareOp .In) (rInK X.K X.w false) := fun pins s σ H x y v u Q I rx ry ⟨d, es, n, z, r, D, ex, ey, e, q⟩ => op_in_kd D pins s σ H x y v u Q I rx ry ⟨z, r, ex, ey, e, q⟩
theorem op_ninK {X : Cx} : OpR X (compareOp .NotIn) (rInK X.K X.w true) := fun pins s σ H x y v u Q I rx ry ⟨d, es, n, z, r, D, ex, ey, e, q⟩ => op_notIn_kd D pins s σ H x y v u Q I rx ry ⟨z, r, ex, ey, e, q⟩
def rInA (K : PySem.W.Frag) (w : World) : R2 := fun x y H Q => rInD K x y H Q ∨ rInT K false x y H Q ∨ rInDct false x y H Q ∨ rInSig false x y H Q ∨ rInK K w false x y H Q
def rNinA (K : PySem.W.Frag) (w : World) : R2 := fun x y H Q => rNotInD K x y H Q ∨ rInT K true x y H Q ∨ rInDct true x y H Q ∨ rInSig true x y H Q ∨ rInK K w true x y H Q
theorem opr_in {X : Cx} (K : PySem.W.Frag) (w : World) (hK : X.K = K) (hw : X.w = w) (hu : X.A.units + 128 < cLine) : OpR X (compareOp .In) (rInA K w) := by subst hK hw; exact (op_inD (units65 hu)).or ((op_inT hu).or ((op_inDct hu).or (op_in_sign.or op_inK)))
theorem opr_nin {X : Cx} (K : PySem.W.Frag) (w : World) (hK : X.K = K) (hw : X.w = w) (hu : X.A.units + 128 < cLine) : OpR X (compareOp .NotIn) (rNinA K w) := by subst hK hw; exact (op_notInD (units65 hu)).or ((op_ninT hu).or ((op_ninDct hu).or (op_notIn_sign.or op_ninK)))
theorem one_sign {s : Str} (h : s.cps.toList.length = 1) : s = ⟨#[s.cps.toList.getD 0 0]⟩ := by
  cases s with
  | mk a =>
    cases a with
    | mk l =>
      cases l with
      | nil => simp at h
      | cons c l => cases l with
        | nil => rfl
        | cons _ _ => simp at h
theorem dp_lst {W : Wd} {RA : List Addr} {ρ : List D} {B H : Hp} {d : D} {y : V} {l : List D} {ps : List PyData} (b : Base W RA ρ B H) (h : Rep W RA B d y) (e : dr ρ d = .lst l) (e2 : toPyL l = some ps) : Dp W.K H y (.list ps) :=
  dp_dr b h (by rw [e]; simp only [toPy, e2, Option.map_some])
theorem dp_tup {W : Wd} {RA : List Addr} {ρ : List D} {B H : Hp} {d : D} {y : V} {l : List D} {ps : List PyData} (b : Base W RA ρ B H) (h : Rep W RA B d y) (e : dr ρ d = .tup l) (e2 : toPyL l = some ps) : Dp W.K H y (.tuple ps) :=
  dp_dr b h (by rw [e]; simp only [toPy, e2, Option.map_some])
theorem inB_run {W : Wd} {RA : List Addr} {ρ : List D} {B H : Hp} {d1 d2 : D} {x y : V} {k : Bool} (b : Base W RA ρ B H) (r1 : Rep W RA B d1 x) (r2 : Rep W RA B d2 y) (e : inB ρ d1 d2 = some k) {Q : VK} :
    (Q (.bl k) H → rInA W.K W.w x y H Q) ∧ (Q (.bl (!k)) H → rNinA W.K W.w x y H Q) := by
  unfold inB at e
  split at e
  · rename_i l e1
    obtain ⟨p, ep, e⟩ := Option.bind_eq_some_iff.mp e
    obtain ⟨ps, eps, e⟩ := Option.bind_eq_some_iff.mp e
    split at e
    · rename_i hc
      cases e
      exact ⟨fun q => .inl ⟨p, ps, dp_dr b r1 ep, dp_lst b r2 e1 eps, hc.1, hc.2, q⟩, fun q => .inl ⟨p, ps, dp_dr b r1 ep, dp_lst b r2 e1 eps, hc.1, hc.2, q⟩⟩
    · cases e
  · rename_i l e1
    obtain ⟨p, ep, e⟩ := Option.bind_eq_some_iff.mp e
    obtain ⟨ps, eps, e⟩ := Option.bind_eq_some_iff.mp e
    split at e
    · rename_i hc
      cases e
      exact ⟨fun q => .inr (.inl ⟨p, ps, dp_dr b r1 ep, dp_tup b r2 e1 eps, hc.1, hc.2, q⟩), fun q => .inr (.inl ⟨p, ps, dp_dr b r1 ep, dp_tup b r2 e1 eps, hc.1, hc.2, q⟩)⟩
    · cases e
  · rename_i ks l e1
    obtain ⟨k', ek, rfl⟩ := Option.map_eq_some_iff.mp e
    obtain ⟨a, kvs, rfl, ha, rfl, hl⟩ := view_dct b r2 e1
    rw [keyD_V b r1 ek]
    have g : DGet H a (kV k') (valV kvs k') := DGet.k ha
    have es : (valV kvs k').isSome = (lookK (kvs.map (·.1)) l k').isSome := by
      have q := lookK_rep (k := k') hl
      cases el : lookK (kvs.map (·.1)) l k' with
      | none => rw [q.2 el]; rfl
      | some d =>
        obtain ⟨v, hv, _⟩ := q.1 d el
        rw [hv]; rfl
    rw [← es]
    exact ⟨fun q => .inr (.inr (.inl ⟨a, _, rfl, g, q⟩)), fun q => .inr (.inr (.inl ⟨a, _, rfl, g, q⟩))⟩
  · rename_i ks l e1
    split at e
    · rename_i s e2
      cases e
      obtain ⟨a, vs, rfl, hd, hl⟩ := view_wd b r2 e1
      rw [view_str b r1 e2]
      obtain ⟨es, n, r, D, hn, hs, _⟩ := kd_look s hd hl
      rw [← hs]
      exact ⟨fun q => .inr (.inr (.inr (.inr ⟨a, es, n, s, r, D, rfl, rfl, hn, q⟩))), fun q => .inr (.inr (.inr (.inr ⟨a, es, n, s, r, D, rfl, rfl, hn, q⟩)))⟩
    · cases e
  · rename_i z e1
    split at e
    · rename_i s e2
      split at e
      · rename_i hc
        cases e
        rw [view_str b r1 e2, view_str b r2 e1]
        exact ⟨fun q => .inr (.inr (.inr (.inl ⟨_, z, congrArg V.str (one_sign hc), rfl, q⟩))), fun q => .inr (.inr (.inr (.inl ⟨_, z, congrArg V.str (one_sign hc), rfl, q⟩)))⟩
      · cases e
    · cases e
  · cases e
theorem op2_in (W : Wd) : Op2 W (rInA W.K W.w) inD := by
  intro RA ρ B H x y d1 d2 d Q b r1 r2 e h
  unfold inD at e
  obtain ⟨k, e0, rfl⟩ := Option.map_eq_some_iff.mp e
  exact (inB_run b r1 r2 e0).1 (fin_flat b (fun _ => rep_bl) h)
theorem op2_nin (W : Wd) : Op2 W (rNinA W.K W.w) ninD := by
  intro RA ρ B H x y d1 d2 d Q b r1 r2 e h
  unfold ninD at e
  obtain ⟨k, e0, rfl⟩ := Option.map_eq_some_iff.mp e
  exact (inB_run b r1 r2 e0).2 (fin_flat b (fun _ => rep_bl) h)

/-! ### x[i] -/
def ixD (ρ : List D) (x y : D) : Option D := match dr ρ x with
  | .lst l => match dr ρ y with
    | .int i => atI l i
    | _ => none
  | .scr l => match dr ρ y with
    | .int i => atI l i
    | _ => none
  | .tup l => match dr ρ y with
    | .int i => atI l i
    | _ => none
  | .str z => match dr ρ y with
    | .int i => if z.length ≤ 100000 then (atI z.cps.toList i).map fun c => .str ⟨#[c]⟩ else none
    | _ => none
  | .dct ks l => (keyD (dr ρ y)).bind fun k => lookK ks l k
  | .wd ks l => match dr ρ y with
    | .str s => lookW ks l s
    | _ => none
  | _ => none
def rIxDct : R2 := fun x y H Q => ∃ a v, x = .ref a ∧ DGet H a y (some v) ∧ Q v H
theorem ix_dct {X : Cx} (hu : X.A.units + 128 < cLine) : IxR X rIxDct := by
  intro value slice pins s σ H x y v u Q I rx ry h hs
  obtain ⟨a, w, rfl, g, q⟩ := h
  cases rx
  exact tail_any (dict_typeIs I g) slot_dict_getitem.lookup (d_getItem (by omega) I g ry fun w' s' I' r => ⟨w, H, I', r, q⟩) hs
def rIxK (K : PySem.W.Frag) (w : World) : R2 := fun x y H Q => ∃ (d : Addr) (es : Array DictEntry) (n : Nat) (z : Str) (u0 : Value) (v0 : V), KDict K w d es n ∧ x = .ref d ∧ y = .str z ∧ PySem.W.nsIn K d z = some (some u0) ∧ RelV v0 u0 ∧ Q v0 H
theorem ix_K {X : Cx} : IxR X (rIxK X.K X.w) := by
  intro value slice pins s σ H x y v u Q I rx ry h hs
  obtain ⟨d, es, n, z, u0, v0, D, rfl, rfl, hn, r, q⟩ := h
  have rx' := rx
  cases rx
  exact tail_any (kd_type D I) slot_dict_getitem.lookup (op_item_kd D pins s σ H (.ref d) (.str z) (.ref d) u Q I rx' ry ⟨z, u0, v0, rfl, rfl, hn, r, q⟩) hs
def rIxA (K : PySem.W.Frag) (w : World) : R2 := fun x y H Q => rIxL K x y H Q ∨ rIxT K x y H Q ∨ rIxS x y H Q ∨ rIxDct x y H Q ∨ rIxK K w x y H Q
theorem ixr_all {X : Cx} (K : PySem.W.Frag) (w : World) (hK : X.K = K) (hw : X.w = w) (hu : X.A.units + 128 < cLine) : IxR X (rIxA K w) := by subst hK hw; exact ix_list.or (ix_tup.or (ix_str.or ((ix_dct hu).or ix_K)))
theorem atI_rep {W : Wd} {RA : List Addr} {B : Hp} {l : List D} {vs : List V} {i : Int} {d : D} (h : RepL W RA B l vs) (e : atI l i = some d) : ∃ v, atI vs i = some v ∧ Rep W RA B d v := by
  unfold atI at e ⊢
  rw [← h.len]
  obtain ⟨j, e1, e2⟩ := Option.bind_eq_some_iff.mp e
  obtain ⟨v, h1, h2⟩ := h.get e2
  exact ⟨v, by rw [e1]; exact h1, h2⟩
theorem op2_ix (W : Wd) : Op2 W (rIxA W.K W.w) ixD := by
  intro RA ρ B H x y d1 d2 d Q b r1 r2 e h
  unfold ixD at e
  split at e
  · rename_i l e1
    split at e
    · rename_i i e2
      obtain ⟨a, vs, rfl, ha, la⟩ := view_lst b r1 e1
      rw [view_int b r2 e2]
      obtain ⟨v, h1, h2⟩ := atI_rep la e
      exact .inl ⟨a, vs, i, v, rfl, rfl, sq_of ha, h1, h v B H (.refl b) h2⟩
    · cases e
  · rename_i l e1
    split at e
    · rename_i i e2
      obtain ⟨a, vs, rfl, ha, la⟩ := view_scr b r1 e1
      rw [view_int b r2 e2]
      obtain ⟨v, h1, h2⟩ := atI_rep la e
      exact .inl ⟨a, vs, i, v, rfl, rfl, ha, h1, h v B H (.refl b) h2⟩
    · cases e
  · rename_i l e1
    split at e
    · rename_i i e2
      obtain ⟨a, vs, rfl, ha, la⟩ := view_tup b r1 e1
      rw [view_int b r2 e2]
      obtain ⟨v, h1, h2⟩ := atI_rep la e
      exact .inr (.inl ⟨a, vs, i, v, rfl, rfl, ha, h1, h v B H (.refl b) h2⟩)
    · cases e
  · rename_i z e1
    split at e
    · rename_i i e2
      split at e
      · rename_i hz
        obtain ⟨c, e3, rfl⟩ := Option.map_eq_some_iff.mp e
        rw [view_str b r1 e1, view_int b r2 e2]
        exact .inr (.inr (.inl ⟨z, i, c, rfl, rfl, sz_of hz, e3, fin_flat b (fun _ => rep_str) h⟩))
      · cases e
    · cases e
  · rename_i ks l e1
    obtain ⟨k, e2, e3⟩ := Option.bind_eq_some_iff.mp e
    obtain ⟨a, kvs, rfl, ha, rfl, hl⟩ := view_dct b r1 e1
    rw [keyD_V b r2 e2]
    obtain ⟨v, h1, h2⟩ := (lookK_rep (k := k) hl).1 d e3
    exact .inr (.inr (.inr (.inl ⟨a, v, rfl, by rw [← h1]; exact DGet.k ha, h v B H (.refl b) h2⟩)))
  · rename_i ks l e1
    split at e
    · rename_i s e2
      obtain ⟨a, vs, rfl, hd, hl⟩ := view_wd b r1 e1
      rw [view_str b r2 e2]
      obtain ⟨es, n, r, D, hn, _, hs⟩ := kd_look s hd hl
      obtain ⟨u, v, rfl, ru, rv⟩ := hs d e
      exact .inr (.inr (.inr (.inr ⟨a, es, n, s, u, v, D, rfl, rfl, hn, ru, h v B H (.refl b) rv⟩)))
    · cases e
  · cases e
end Dd

set_option Elab.async false
set_option linter.all false
set_option maxRecDepth 100000
set_option maxHeartbeats 2000000
namespace Dd
open PySem PySem.Spec PyProof.Rows L2 Evl OwnO My

def intsD : List D → Option (List Int)
  | [] => some []
  | .int i :: l => (intsD l).map fun r => i :: r
  | _ :: _ => none
def strsD : List D → Option (List Str)
  | [] => some []
  | .str i :: l => (strsD l).map fun r => i :: r
  | _ :: _ => none
def blsD : List D → Option (List Bool)
  | [] => some []
  | .bl i :: l => (blsD l).map fun r => i :: r
  | _ :: _ => none
section
variable {W : Wd} {RA : List Addr} {ρ : List D} {B H : Hp}
theorem ints_V : ∀ {l : List D} {vs : List V} {ns : List Int}, RepL W RA B l vs → intsD l = some ns → vs = ns.map V.int
  | [], vs, ns, h, e => by cases e; rw [h.unnil]; rfl
  | d :: l, vs, ns, h, e => by
    obtain ⟨v, us, rfl, h2, h3⟩ := h.uncons
    cases d with
    | int i =>
      simp only [intsD] at e
      obtain ⟨r, e1, rfl⟩ := Option.map_eq_some_iff.mp e
      simp only [Rep] at h2
      rw [h2, ints_V h3 e1]; rfl
    | _ => simp only [intsD] at e; cases e
theorem strs_V : ∀ {l : List D} {vs : List V} {ns : List Str}, RepL W RA B l vs → strsD l = some ns → vs = ns.map V.str
  | [], vs, ns, h, e => by cases e; rw [h.unnil]; rfl
  | d :: l, vs, ns, h, e => by
    obtain ⟨v, us, rfl, h2, h3⟩ := h.uncons
    cases d with
    | str i =>
      simp only [strsD] at e
      obtain ⟨r, e1, rfl⟩ := Option.map_eq_some_iff.mp e
      simp only [Rep] at h2
      rw [h2, strs_V h3 e1]; rfl
    | _ => simp only [strsD] at e; cases e
theorem bls_V : ∀ {l : List D} {vs : List V} {ns : List Bool}, RepL W RA B l vs → blsD l = some ns → vs = ns.map V.bl
  | [], vs, ns, h, e => by cases e; rw [h.unnil]; rfl
  | d :: l, vs, ns, h, e => by
    obtain ⟨v, us, rfl, h2, h3⟩ := h.uncons
    cases d with
    | bl i =>
      simp only [blsD] at e
      obtain ⟨r, e1, rfl⟩ := Option.map_eq_some_iff.mp e
      simp only [Rep] at h2
      rw [h2, bls_V h3 e1]; rfl
    | _ => simp only [blsD] at e; cases e
theorem repL_ints : ∀ ns : List Int, RepL W RA B (ns.map .int) (ns.map V.int)
  | [] => .nil
  | n :: ns => .cons rep_int (repL_ints ns)
theorem repL_strs : ∀ ns : List Str, RepL W RA B (ns.map .str) (ns.map V.str)
  | [] => .nil
  | n :: ns => .cons rep_str (repL_strs ns)
end

/-! ### truth, len -/
def truthB (ρ : List D) (d : D) : Option Bool := match dr ρ d with
  | .non => some false
  | .bl b => some b
  | .int i => some (i != 0)
  | .str s => if s.length ≤ 100000 then some ((s.length : Int) != 0) else none
  | .lst l => some (!l.isEmpty)
  | .scr l => some (!l.isEmpty)
  | .tup l => some (!l.isEmpty)
  | .dct ks _ => some (!ks.isEmpty)
  | _ => none
theorem repL_empty {W : Wd} {RA : List Addr} {B : Hp} {l : List D} {vs : List V} (h : RepL W RA B l vs) : (!vs.isEmpty) = !l.isEmpty := by
  cases l with
  | nil => rw [h.unnil]; rfl
  | cons d l => obtain ⟨v, us, rfl, _⟩ := h.uncons; rfl
theorem truth_V {W : Wd} {RA : List Addr} {ρ : List D} {B H : Hp} {d : D} {x : V} {k : Bool} (b : Base W RA ρ B H) (h : Rep W RA B d x) (e : truthB ρ d = some k) : TruV W.K x H k := by
  unfold truthB at e
  split at e
  · rename_i e1; cases e; rw [view_non b h e1]; rfl
  · rename_i e1; cases e; rw [view_bl b h e1]; rfl
  · rename_i e1; cases e; rw [view_int b h e1]; rfl
  · rename_i e1
    split at e
    · rename_i hz; cases e; rw [view_str b h e1]; exact ⟨sz_of hz, rfl⟩
    · cases e
  · rename_i e1; cases e; obtain ⟨a, vs, rfl, ha, la⟩ := view_lst b h e1; exact .inl ⟨vs, sq_of ha, (repL_empty la).symm⟩
  · rename_i e1; cases e; obtain ⟨a, vs, rfl, ha, la⟩ := view_scr b h e1; exact .inl ⟨vs, ha, (repL_empty la).symm⟩
  · rename_i e1; cases e; obtain ⟨a, vs, rfl, ha, la⟩ := view_tup b h e1; exact .inr (.inl ⟨vs, ha, (repL_empty la).symm⟩)
  · rename_i e1
    cases e
    obtain ⟨a, kvs, rfl, ha, e2, _⟩ := view_dct b h e1
    refine .inr (.inr ⟨kvs, ha, ?_⟩)
    rw [← e2]; cases kvs <;> rfl
  · cases e
def testS (f : EF) : List D → Env → Res Bool := fun ρ σ => (f ρ σ).bind fun d => ofO (truthB ρ d)
section
variable {W : Wd} {Wx : WX} {X : Cx} {a : Expr} {f : EF} {pos : Pos}
/-- any expression as a test -/
theorem pt_of (hK : X.K = W.K) (ha : PE X a (tE W Wx f)) (he : ∀ whole, isTrue a X.env whole = (do let v ← whole; standAt a.pos; holding [v] (truthy v))) : PT X a (tT W Wx (testS f)) :=
  pt_weak (pt_truth ha he) fun σ H Q ⟨RA, ρ, σd, B, b, l, q⟩ => ⟨RA, ρ, σd, B, b, l, (Aw.bind q).imp fun d B1 H1 a1 q1 x rx => by
    cases e : truthB ρ d with
    | none => simp only [e, ofO, Aw] at q1
    | some k =>
      simp only [e, ofO] at q1
      exact ⟨k, by rw [hK]; exact truth_V a1.base rx e, q1.here a1.base⟩⟩
end
def lenD (ρ : List D) (xs : List D) : Option D := match xs with
  | [d] => match dr ρ d with
    | .lst l => some (.int l.length)
    | .scr l => some (.int l.length)
    | .tup l => some (.int l.length)
    | .str s => if s.length ≤ 100000 then some (.int s.length) else none
    | .dct ks _ => some (.int ks.length)
    | _ => none
  | _ => none
def rLenA (K : PySem.W.Frag) : List V → Hp → VK → Prop := fun xs H Q => (∃ x n, xs = [x] ∧ LenV K x H n ∧ Q (.int n) H) ∨ ∃ a kvs, xs = [.ref a] ∧ H a = some (.dK kvs) ∧ Q (.int kvs.length) H
theorem call_lenDct {X : Cx} : CallR X (.builtin "len") (fun xs H Q => ∃ a kvs, xs = [.ref a] ∧ H a = some (.dK kvs) ∧ Q (.int kvs.length) H) := by
  intro pins s σ H xs us Q I r h
  obtain ⟨a, kvs, rfl, ha, q⟩ := h
  rw [Vals.ref1 r]
  exact d_len I (.inl ha) fun t s' I' => ⟨.int _, H, I', ⟨t, rfl⟩, q⟩
theorem callr_len {X : Cx} (K : PySem.W.Frag) (hK : X.K = K) : CallR X (.builtin "len") (rLenA K) := by subst hK; exact call_len.or call_lenDct
theorem one_of {W : Wd} {RA : List Addr} {B : Hp} {d : D} {xs : List V} (r : RepL W RA B [d] xs) : ∃ x, xs = [x] ∧ Rep W RA B d x := by
  obtain ⟨x, us, rfl, rx, ru⟩ := r.uncons
  rw [ru.unnil]
  exact ⟨x, rfl, rx⟩
theorem two_of {W : Wd} {RA : List Addr} {B : Hp} {d e : D} {xs : List V} (r : RepL W RA B [d, e] xs) : ∃ x y, xs = [x, y] ∧ Rep W RA B d x ∧ Rep W RA B e y := by
  obtain ⟨x, us, rfl, rx, ru⟩ := r.uncons
  obtain ⟨y, rfl, ry⟩ := one_of ru
  exact ⟨x, y, rfl, rx, ry⟩
theorem opc_len (W : Wd) : OpC W (rLenA W.K) lenD := by
  intro RA ρ B H xs ds d Q b r e h
  unfold lenD at e
  split at e
  · obtain ⟨x, rfl, rx⟩ := one_of r
    split at e
    · rename_i e1; cases e; obtain ⟨a, vs, rfl, ha, la⟩ := view_lst b rx e1; exact .inl ⟨_, _, rfl, .inl ⟨vs, sq_of ha, la.len⟩, fin_flat b (fun _ => rep_int) h⟩
    · rename_i e1; cases e; obtain ⟨a, vs, rfl, ha, la⟩ := view_scr b rx e1; exact .inl ⟨_, _, rfl, .inl ⟨vs, ha, la.len⟩, fin_flat b (fun _ => rep_int) h⟩
    · rename_i e1; cases e; obtain ⟨a, vs, rfl, ha, la⟩ := view_tup b rx e1; exact .inl ⟨_, _, rfl, .inr ⟨vs, ha, la.len⟩, fin_flat b (fun _ => rep_int) h⟩
    · rename_i e1
      split at e
      · rename_i hz; cases e; rw [view_str b rx e1]; exact .inl ⟨_, _, rfl, ⟨sz_of hz, rfl⟩, fin_flat b (fun _ => rep_int) h⟩
      · cases e
    · rename_i e1
      cases e
      obtain ⟨a, kvs, rfl, ha, e2, _⟩ := view_dct b rx e1
      exact .inr ⟨a, kvs, rfl, ha, fin_flat b (fun _ => by rw [← e2, List.length_map]; exact rep_int) h⟩
    · cases e
  · cases e

/-! ### int, str, max, min, sum, any, all, list, tuple -/
def intC (ρ : List D) (xs : List D) : Option D := match xs with
  | [d] => match dr ρ d with
    | .int i => some (.int i)
    | .bl k => some (.int (if k = true then 1 else 0))
    | .str s => if s.length ≤ 640 then (PySem.intText? s).map .int else none
    | _ => none
  | _ => none
def rIntA : List V → Hp → VK → Prop := fun xs H Q => ((∃ i, xs = [.int i] ∧ Q (.int i) H) ∨ ∃ k, xs = [.bl k] ∧ Q (.int (if k then 1 else 0)) H) ∨ ∃ a n, xs = [.str a] ∧ PySem.intText? a = some n ∧ a.length ≤ 640 ∧ Q (.int n) H
theorem callr_int {X : Cx} : CallR X (.type "int") rIntA := call_int1.or call_int_str
theorem opc_int (W : Wd) : OpC W rIntA intC := by
  intro RA ρ B H xs ds d Q b r e h
  unfold intC at e
  split at e
  · obtain ⟨x, rfl, rx⟩ := one_of r
    split at e
    · rename_i e1; cases e; rw [view_int b rx e1]; exact .inl (.inl ⟨_, rfl, fin_flat b (fun _ => rep_int) h⟩)
    · rename_i e1; cases e; rw [view_bl b rx e1]; exact .inl (.inr ⟨_, rfl, fin_flat b (fun _ => rep_int) h⟩)
    · rename_i e1
      split at e
      · rename_i hz
        obtain ⟨n, e2, rfl⟩ := Option.map_eq_some_iff.mp e
        rw [view_str b rx e1]
        exact .inr ⟨_, n, rfl, e2, hz, fin_flat b (fun _ => rep_int) h⟩
      · cases e
    · cases e
  · cases e
def strC (ρ : List D) (xs : List D) : Option D := match xs with
  | [d] => match dr ρ d with
    | .int i => if i.natAbs.log2 < 1920 then some (.str (toString i)) else none
    | .str s => some (.str s)
    | _ => none
  | _ => none
def rStrA : List V → Hp → VK → Prop := fun xs H Q => (∃ i, xs = [.int i] ∧ i.natAbs.log2 < 1920 ∧ Q (.str (toString i)) H) ∨ ∃ a, xs = [.str a] ∧ Q (.str a) H
theorem callr_str {X : Cx} : CallR X (.type "str") rStrA := call_str_int.or SkE.call_str_str
theorem opc_str (W : Wd) : OpC W rStrA strC := by
  intro RA ρ B H xs ds d Q b r e h
  unfold strC at e
  split at e
  · obtain ⟨x, rfl, rx⟩ := one_of r
    split at e
    · rename_i e1
      split at e
      · rename_i hz; cases e; rw [view_int b rx e1]; exact .inl ⟨_, rfl, hz, fin_flat b (fun _ => rep_str) h⟩
      · cases e
    · rename_i e1; cases e; rw [view_str b rx e1]; exact .inr ⟨_, rfl, fin_flat b (fun _ => rep_str) h⟩
    · cases e
  · cases e
/-- max, min: two ints; a list of ints -/
def mxC (gt : Int → Int → Bool) (ρ : List D) (xs : List D) : Option D := match xs with
  | [c, d] => match dr ρ c, dr ρ d with
    | .int i, .int j => some (.int (if gt j i = true then j else i))
    | _, _ => none
  | [d] => match dr ρ d with
    | .lst l => (intsD l).bind fun ns => match ns with
      | [] => none
      | n :: ns => some (.int (ns.foldl (fun a b => if gt b a = true then b else a) n))
    | _ => none
  | _ => none
abbrev maxC := mxC fun j i => decide (j > i)
abbrev minC := mxC fun j i => decide (j < i)
def rMaxA (K : PySem.W.Frag) : List V → Hp → VK → Prop := fun xs H Q => (∃ i j, xs = [.int i, .int j] ∧ Q (.int (if j > i then j else i)) H) ∨ rMax K xs H Q
def rMinA (K : PySem.W.Frag) : List V → Hp → VK → Prop := fun xs H Q => (∃ i j, xs = [.int i, .int j] ∧ Q (.int (if j < i then j else i)) H) ∨ rMin K xs H Q
theorem callr_max {X : Cx} (K : PySem.W.Frag) (hK : X.K = K) (hc : X.calm = true) : CallR X (.builtin "max") (rMaxA K) := by subst hK; exact (call_max2 hc).or (cr_max hc)
theorem callr_min {X : Cx} (K : PySem.W.Frag) (hK : X.K = K) (hc : X.calm = true) : CallR X (.builtin "min") (rMinA K) := by subst hK; exact (call_min2 hc).or (cr_min hc)
theorem fold_max : ∀ (ns : List Int) (n m : Int), m ∈ n :: ns → (∀ y, y ∈ n :: ns → y ≤ m) → ns.foldl (fun a b => if decide (b > a) = true then b else a) n = m
  | [], n, m, h, k => by simp at h; simp [h]
  | x :: ns, n, m, h, k => by
    rw [List.foldl_cons]
    refine fold_max ns _ m ?_ fun y hy => ?_
    · have h1 := k n (by simp)
      have h2 := k x (by simp)
      simp only [List.mem_cons] at h ⊢
      rcases h with h | h | h
      · subst h
        by_cases e : x > m
        · omega
        · simp [e]
      · subst h
        by_cases e : m > n
        · simp [e]
        · left; simp [e]; omega
      · exact .inr h
    · simp only [List.mem_cons] at hy
      rcases hy with h | h
      · rw [h]; split
        · exact k x (by simp)
        · exact k n (by simp)
      · exact k y (by simp [h])
theorem fold_min : ∀ (ns : List Int) (n m : Int), m ∈ n :: ns → (∀ y, y ∈ n :: ns → m ≤ y) → ns.foldl (fun a b => if decide (b < a) = true then b else a) n = m
  | [], n, m, h, k => by simp at h; simp [h]
  | x :: ns, n, m, h, k => by
    rw [List.foldl_cons]
    refine fold_min ns _ m ?_ fun y hy => ?_
    · have h1 := k n (by simp)
      have h2 := k x (by simp)
      simp only [List.mem_cons] at h ⊢
      rcases h with h | h | h
      · subst h
        by_cases e : x < m
        · omega
        · simp [e]
      · subst h
        by_cases e : m < n
        · simp [e]
        · left; simp [e]; omega
      · exact .inr h
    · simp only [List.mem_cons] at hy
      rcases hy with h | h
      · rw [h]; split
        · exact k x (by simp)
        · exact k n (by simp)
      · exact k y (by simp [h])
theorem opc_max (W : Wd) : OpC W (rMaxA W.K) maxC := by
  intro RA ρ B H xs ds d Q b r e h
  unfold maxC mxC at e
  split at e
  · obtain ⟨x, y, rfl, rx, ry⟩ := two_of r
    split at e
    · rename_i i j e1 e2
      cases e
      rw [view_int b rx e1, view_int b ry e2]
      refine .inl ⟨_, _, rfl, ?_⟩
      refine fin_flat b (d := .int (if decide (j > i) = true then j else i)) (fun _ => ?_) h
      simp only [decide_eq_true_eq]; exact rep_int
    · cases e
  · obtain ⟨x, rfl, rx⟩ := one_of r
    split at e
    · rename_i l e1
      obtain ⟨ns, e2, e⟩ := Option.bind_eq_some_iff.mp e
      obtain ⟨a, vs, rfl, ha, la⟩ := view_lst b rx e1
      have ev := ints_V la e2
      subst ev
      cases ns with
      | nil => cases e
      | cons n ns =>
        cases e
        refine .inr ⟨a, n :: ns, rfl, sq_of ha, by simp, fun m hm hk => ?_⟩
        rw [fold_max ns n m hm hk] at h
        exact fin_flat b (fun _ => rep_int) h
    · cases e
  · cases e
theorem opc_min (W : Wd) : OpC W (rMinA W.K) minC := by
  intro RA ρ B H xs ds d Q b r e h
  unfold minC mxC at e
  split at e
  · obtain ⟨x, y, rfl, rx, ry⟩ := two_of r
    split at e
    · rename_i i j e1 e2
      cases e
      rw [view_int b rx e1, view_int b ry e2]
      refine .inl ⟨_, _, rfl, ?_⟩
      refine fin_flat b (d := .int (if decide (j < i) = true then j else i)) (fun _ => ?_) h
      simp only [decide_eq_true_eq]; exact rep_int
    · cases e
  · obtain ⟨x, rfl, rx⟩ := one_of r
    split at e
    · rename_i l e1
      obtain ⟨ns, e2, e⟩ := Option.bind_eq_some_iff.mp e
      obtain ⟨a, vs, rfl, ha, la⟩ := view_lst b rx e1
      have ev := ints_V la e2
      subst ev
      cases ns with
      | nil => cases e
      | cons n ns =>
        cases e
        refine .inr ⟨a, n :: ns, rfl, sq_of ha, by simp, fun m hm hk => ?_⟩
        rw [fold_min ns n m hm hk] at h
        exact fin_flat b (fun _ => rep_int) h
    · cases e
  · cases e
def sumC (ρ : List D) (xs : List D) : Option D := match xs with
  | [d] => match dr ρ d with
    | .lst l => (intsD l).map fun ns => .int ns.sum
    | _ => none
  | _ => none
def anyC (ρ : List D) (xs : List D) : Option D := match xs with
  | [d] => match dr ρ d with
    | .lst l => (blsD l).map fun ns => .bl (ns.any id)
    | _ => none
  | _ => none
def allC (ρ : List D) (xs : List D) : Option D := match xs with
  | [d] => match dr ρ d with
    | .lst l => (blsD l).map fun ns => .bl (ns.all id)
    | _ => none
  | _ => none
theorem callr_sum {X : Cx} (K : PySem.W.Frag) (hK : X.K = K) (hc : X.calm = true) : CallR X (.builtin "sum") (rSum K) := by subst hK; exact cr_sum hc
theorem callr_any {X : Cx} (K : PySem.W.Frag) (hK : X.K = K) (hc : X.calm = true) : CallR X (.builtin "any") (rAny K) := by subst hK; exact cr_any hc
theorem callr_all {X : Cx} (K : PySem.W.Frag) (hK : X.K = K) (hc : X.calm = true) : CallR X (.builtin "all") (rAll K) := by subst hK; exact cr_all hc
theorem opc_sum (W : Wd) : OpC W (rSum W.K) sumC := by
  intro RA ρ B H xs ds d Q b r e h
  unfold sumC at e
  split at e
  · obtain ⟨x, rfl, rx⟩ := one_of r
    split at e
    · rename_i l e1
      obtain ⟨ns, e2, rfl⟩ := Option.map_eq_some_iff.mp e
      obtain ⟨a, vs, rfl, ha, la⟩ := view_lst b rx e1
      rw [ints_V la e2] at ha
      exact ⟨a, ns, rfl, sq_of ha, fin_flat b (fun _ => rep_int) h⟩
    · cases e
  · cases e
theorem opc_any (W : Wd) : OpC W (rAny W.K) anyC := by
  intro RA ρ B H xs ds d Q b r e h
  unfold anyC at e
  split at e
  · obtain ⟨x, rfl, rx⟩ := one_of r
    split at e
    · rename_i l e1
      obtain ⟨ns, e2, rfl⟩ := Option.map_eq_some_iff.mp e
      obtain ⟨a, vs, rfl, ha, la⟩ := view_lst b rx e1
      rw [bls_V la e2] at ha
      exact ⟨a, ns, rfl, sq_of ha, fin_flat b (fun _ => rep_bl) h⟩
    · cases e
  · cases e
theorem opc_all (W : Wd) : OpC W (rAll W.K) allC := by
  intro RA ρ B H xs ds d Q b r e h
  unfold allC at e
  split at e
  · obtain ⟨x, rfl, rx⟩ := one_of r
    split at e
    · rename_i l e1
      obtain ⟨ns, e2, rfl⟩ := Option.map_eq_some_iff.mp e
      obtain ⟨a, vs, rfl, ha, la⟩ := view_lst b rx e1
      rw [bls_V la e2] at ha
      exact ⟨a, ns, rfl, sq_of ha, fin_flat b (fun _ => rep_bl) h⟩
    · cases e
  · cases e
/-- list(x): a new list -/
def listC (ρ : List D) (xs : List D) : Option D := match xs with
  | [d] => match dr ρ d with
    | .lst l => some (.lst l)
    | .tup l => some (.lst l)
    | _ => none
  | _ => none
def rListA (K : PySem.W.Frag) : List V → Hp → VK → Prop := fun xs H Q => ∃ p ys, xs = [.ref p] ∧ (SqL K H p ys ∨ SqT K H p ys) ∧ ∀ l, H l = none → Q (.ref l) (upd H l (.lst ys))
theorem callr_list {X : Cx} (K : PySem.W.Frag) (hK : X.K = K) : CallR X (.type "list") (rListA K) := by subst hK; exact call_list_of
theorem opc_list (W : Wd) : OpCF W (rListA W.K) listC := by
  intro RA ρ B H xs ds d Q b r e h
  unfold listC at e
  split at e
  · obtain ⟨x, rfl, rx⟩ := one_of r
    split at e
    · rename_i l e1
      cases e
      obtain ⟨a, vs, rfl, ha, la⟩ := view_lst b rx e1
      exact ⟨a, vs, rfl, .inl (sq_of ha), fun p hp => fin_lstF b hp la h⟩
    · rename_i l e1
      cases e
      obtain ⟨a, vs, rfl, ha, la⟩ := view_tup b rx e1
      exact ⟨a, vs, rfl, .inr ha, fun p hp => fin_lstF b hp la h⟩
    · cases e
  · cases e
def tupleC (ρ : List D) (xs : List D) : Option D := match xs with
  | [d] => match d with
    | .tup l => some (.tup l)
    | d => match dr ρ d with
      | .lst l => some (.tup l)
      | _ => none
  | _ => none
def rTupleA (K : PySem.W.Frag) : List V → Hp → VK → Prop := fun xs H Q => ∃ p ys, xs = [.ref p] ∧ ((SqL K H p ys ∧ ∀ l, H l = none → Q (.ref l) (upd H l (.tup ys))) ∨ (SqT K H p ys ∧ Q (.ref p) H))
theorem callr_tuple {X : Cx} (K : PySem.W.Frag) (hK : X.K = K) : CallR X (.type "tuple") (rTupleA K) := by subst hK; exact call_tuple_of
theorem opc_tuple (W : Wd) : OpC W (rTupleA W.K) tupleC := by
  intro RA ρ B H xs ds d Q b r e h
  unfold tupleC at e
  split at e
  · obtain ⟨x, rfl, rx⟩ := one_of r
    split at e
    · rename_i l
      cases e
      obtain ⟨a, vs, rfl, ha, la⟩ := view_tup b rx rfl
      exact ⟨a, vs, rfl, .inr ⟨ha, h _ B H (.refl b) rx⟩⟩
    · split at e
      · rename_i l e1
        cases e
        obtain ⟨a, vs, rfl, ha, la⟩ := view_lst b rx e1
        exact ⟨a, vs, rfl, .inl ⟨sq_of ha, fun p hp => fin_tup b hp la h⟩⟩
      · cases e
  · cases e
/-! ### isinstance -/
def BT.of : D → Option BT
  | .int _ => some .int
  | .bl _ => some .bool
  | .str _ => some .str
  | .lst _ => some .list
  | .scr _ => some .list
  | .tup _ => some .tuple
  | .dct _ _ => some .dict
  | .non => some .non
  | _ => none
def isiC (isc : Nat → Bool) (ρ : List D) (xs : List D) : Option D := match xs with
  | [d, c] => match dr ρ c with
    | .ty t => if t = .non then none else (BT.of (dr ρ d)).map fun k => .bl (decide (k = t) || (decide (k = .bool) && decide (t = .int)))
    | .cl c => match dr ρ d with
      | .ins c' _ => if c = c' ∧ isc c = true then some (.bl true) else none
      | _ => none
    | _ => none
  | _ => none
theorem kit_bt {K : PySem.W.Frag} (k t : BT) (ht : t ≠ .non) : PySem.W.kitOne K (.type k.name) (.type t.name) = some (decide (k = t) || (decide (k = .bool) && decide (t = .int))) := by
  by_cases e : k = t
  · subst e; simp only [decide_true, Bool.true_or]; exact kit_self
  · refine kit_ty ?_
    cases k <;> cases t <;> first | exact absurd rfl e | exact absurd rfl ht | decide +kernel
theorem sqL_ty {K : PySem.W.Frag} {H : Hp} {a : Addr} {vs : List V} (h : SqL K H a vs) : TyX K H (.ref a) (.type "list") := by
  rcases h with (h | ⟨o, h⟩) | ⟨o, its, n, h, hc, _⟩
  · exact .base (.lst h)
  · exact .base (.frz h)
  · exact .kList h hc
theorem sqT_ty {K : PySem.W.Frag} {H : Hp} {a : Addr} {vs : List V} (h : SqT K H a vs) : TyX K H (.ref a) (.type "tuple") := by
  rcases h with (h | ⟨o, h⟩) | ⟨o, its, n, h, hc, _⟩
  · exact .base (.tup h)
  · exact .fTuple h
  · exact .kTuple h hc
theorem bt_of {W : Wd} {RA : List Addr} {ρ : List D} {B H : Hp} {d : D} {x : V} {k : BT} (b : Base W RA ρ B H) (h : Rep W RA B d x) (e : BT.of (dr ρ d) = some k) : TyX W.K H x (.type k.name) := by
  cases e1 : dr ρ d with
  | int i => rw [e1] at e; cases e; rw [view_int b h e1]; exact .base (.int i)
  | bl i => rw [e1] at e; cases e; rw [view_bl b h e1]; exact .base (.bl i)
  | str i => rw [e1] at e; cases e; rw [view_str b h e1]; exact .base (.str i)
  | non => rw [e1] at e; cases e; rw [view_non b h e1]; exact .base .non
  | lst l => rw [e1] at e; cases e; obtain ⟨a, vs, rfl, ha, la⟩ := view_lst b h e1; exact .base (.lst ha)
  | scr l => rw [e1] at e; cases e; obtain ⟨a, vs, rfl, ha, la⟩ := view_scr b h e1; exact sqL_ty ha
  | tup l => rw [e1] at e; cases e; obtain ⟨a, vs, rfl, ha, la⟩ := view_tup b h e1; exact sqT_ty ha
  | dct ks l => rw [e1] at e; cases e; obtain ⟨a, vs, rfl, ha, la⟩ := view_dct b h e1; exact .base (.dK ha)
  | _ => rw [e1] at e; cases e
theorem callr_isi {X : Cx} (K : PySem.W.Frag) (hK : X.K = K) : CallR X (.builtin "isinstance") (rIsi K) := by subst hK; exact call_isi
theorem opc_isi (W : Wd) (ok : WOk W) : OpC W (rIsi W.K) (isiC W.isc) := by
  intro RA ρ B H xs ds d Q b r e h
  unfold isiC at e
  split at e
  · obtain ⟨x, y, rfl, rx, ry⟩ := two_of r
    split at e
    · rename_i t e1
      split at e
      · cases e
      · rename_i ht
        obtain ⟨k, e2, rfl⟩ := Option.map_eq_some_iff.mp e
        exact ⟨x, y, _, _, _, rfl, by rw [view_ty b ry e1]; exact .ty _, bt_of b rx e2, kit_bt k t ht, fin_flat b (fun _ => rep_bl) h⟩
    · rename_i c e1
      split at e
      · rename_i c' fs e2
        split at e
        · rename_i hc
          cases e
          obtain ⟨rfl, hc⟩ := hc
          obtain ⟨a, dx, vs, rfl, ha, _⟩ := view_ins b rx e2
          exact ⟨_, y, _, _, true, rfl, by rw [view_cl b ry e1]; exact .own _, (ok.cls c hc).1.ty ha, kit_self, fin_flat b (fun _ => rep_bl) h⟩
        · cases e
      · cases e
    · cases e
  · cases e
end Dd

set_option Elab.async false
set_option linter.all false
set_option maxRecDepth 100000
set_option maxHeartbeats 2000000
/-! DdExpr: expressions by data -/
namespace Dd
open PySem PySem.Spec PyProof.Rows L2 Evl OwnO My

def varS (i : Nat) : EF := fun _ σ => match σ[i]? with
  | some (some d) => .ok d
  | _ => .bad
def conS (d : D) : EF := fun _ _ => .ok d
def nilA : AF := fun _ _ => .ok []
def consA (f : EF) (g : AF) : AF := fun ρ σ => (f ρ σ).bind fun x => (g ρ σ).bind fun xs => .ok (x :: xs)
/-- the items of a list or tuple -/
def itemsD (ρ : List D) (d : D) : Option (List D) := match dr ρ d with
  | .lst l => some l
  | .scr l => some l
  | .tup l => some l
  | _ => none
def starA (f : EF) (g : AF) : AF := fun ρ σ => (f ρ σ).bind fun x => (ofO (itemsD ρ x)).bind fun ys => (g ρ σ).bind fun xs => .ok (ys ++ xs)
def tupS (f : AF) : EF := fun ρ σ => (f ρ σ).bind fun xs => if xs.length ≤ 100000 then .ok (.tup xs) else .bad
def lstS (f : AF) : EF := fun ρ σ => (f ρ σ).bind fun xs => if xs.length ≤ 100000 then .ok (.lst xs) else .bad
def andS (f g : EF) : EF := fun ρ σ => (f ρ σ).bind fun x => match x with
  | .bl c => if c = true then g ρ σ else .ok (.bl false)
  | _ => .bad
def orS (f g : EF) : EF := fun ρ σ => (f ρ σ).bind fun x => match x with
  | .bl c => if c = true then .ok (.bl true) else g ρ σ
  | _ => .bad
def notS (f : EF) : EF := fun ρ σ => (f ρ σ).bind fun x => (ofO (truthB ρ x)).bind fun k => .ok (.bl (!k))
abbrev TF := List D → Env → Res Bool
def ifS (t : TF) (f g : EF) : EF := fun ρ σ => (t ρ σ).bind fun c => if c = true then f ρ σ else g ρ σ
def andT (t u : TF) : TF := fun ρ σ => (t ρ σ).bind fun c => if c = true then u ρ σ else .ok false
def orT (t u : TF) : TF := fun ρ σ => (t ρ σ).bind fun c => if c = true then .ok true else u ρ σ
def notT (t : TF) : TF := fun ρ σ => (t ρ σ).bind fun c => .ok (!c)
def chainS (g h : List D → D → D → Option D) (f1 f2 f3 : EF) : EF := fun ρ σ => (f1 ρ σ).bind fun x => (f2 ρ σ).bind fun y => (ofO (g ρ x y)).bind fun k => match k with
  | .bl c => if c = true then (f3 ρ σ).bind fun z => ofO (h ρ y z) else .ok (.bl false)
  | _ => .bad
/-- a slice's part -/
abbrev PF := List D → Env → Res (Option Int)
def noP : PF := fun _ _ => .ok none
def someP (f : EF) : PF := fun ρ σ => (f ρ σ).bind fun x => match dr ρ x with
  | .int i => .ok (some i)
  | _ => .bad
def cutL {α : Type} (xs : List α) (lo hi : Option Int) : List α := (xs.drop (HT.sIx xs.length 0 lo)).take (HT.sIx xs.length xs.length hi - HT.sIx xs.length 0 lo)
def slD (ρ : List D) (x : D) (lo hi : Option Int) : Option D := match dr ρ x with
  | .lst l => some (.lst (cutL l lo hi))
  | .scr l => some (.lst (cutL l lo hi))
  | .tup l => some (.tup (cutL l lo hi))
  | .str s => if s.length ≤ 100000 then some (.str (cutS s lo hi)) else none
  | _ => none
def slS (f : EF) (lo hi : PF) : EF := fun ρ σ => (f ρ σ).bind fun x => (lo ρ σ).bind fun l => (hi ρ σ).bind fun h => ofO (slD ρ x l h)
/-- attribute number k of an instance -/
def fldD (k : Nat) (ρ : List D) (x : D) : Option D := match dr ρ x with
  | .ins c fs => fs[k]?
  | _ => none
/-- attribute k of an instance of class c -/
def fldS (c k : Nat) (f : EF) : EF := fun ρ σ => (f ρ σ).bind fun x => match dr ρ x with
  | .ins c' fs => if c' = c then ofO (fs[k]?) else .bad
  | _ => .bad

section
variable {W : Wd} {Wx : WX} {X : Cx} {a b c e : Expr} {es : List Expr} {f f1 f2 f3 g : EF} {fa ga : AF} {t u : TF} {pos p : Pos}
theorem dv {i : Nat} {x : Str} (hN : X.N[i]? = some x) (hv : Vis X.env.scope x) (hd : (x == ("__debug__" : Str)) = false := by decide) (hcd : (x == ("__classdict__" : Str)) = false := by decide) : PE X (.Name x pos) (tE W Wx (varS i)) :=
  pe_weak (pe_var (i := i) hN hv hd hcd) fun σ H Q ⟨RA, ρ, σd, B, b, l, q⟩ => by
    unfold varS at q
    split at q
    · rename_i d e
      obtain ⟨v, h1, h2⟩ := l.2 i d e
      exact ⟨v, h1, q.here b v h2⟩
    · exact False.elim q
theorem d_const {v : V} {d : D} (h : PE X e (tC v)) (hr : ∀ RA B, Rep W RA B d v) : PE X e (tE W Wx (conS d)) := pe_weak h fun σ H Q ⟨RA, ρ, σd, B, b, l, q⟩ => q.here b v (hr RA B)
theorem d_int {i : Int} {j : Nat} : PE X (.Constant (.int i) j pos) (tE W Wx (conS (.int i))) := d_const pe_int fun _ _ => rep_int
theorem d_bl {i : Bool} {j : Nat} : PE X (.Constant (.bool i) j pos) (tE W Wx (conS (.bl i))) := d_const pe_bl fun _ _ => rep_bl
theorem d_str {i : Str} {j : Nat} : PE X (.Constant (.str i) j pos) (tE W Wx (conS (.str i))) := d_const pe_str fun _ _ => rep_str
theorem d_non {j : Nat} : PE X (.Constant .none j pos) (tE W Wx (conS .non)) := d_const pe_non fun _ _ => rep_non
/-- a name of the module -/
theorem d_glob {x : Str} {v : V} {d : D} {u : Value} (hr : ∀ RA B, Rep W RA B d v) (hm : X.mg x = some u) (r : RelV v u) (hg : Gl X x := by rfl) (hd : (x == ("__debug__" : Str)) = false := by decide) : PE X (.Name x pos) (tE W Wx (conS d)) := d_const (pe_glob hg hm r hd) hr
theorem d_ty {x : Str} (n : BT) (hm : X.mg x = none) (hv : bootBuiltins x = some (.type n.name)) (hg : Gl X x := by rfl) (hn : x ≠ "__name__" := by decide) (hd : (x == ("__debug__" : Str)) = false := by decide) : PE X (.Name x pos) (tE W Wx (conS (.ty n))) :=
  d_const (pe_bltn (v := .ty n.name) hg hm hv rfl hn hd) fun _ _ => by simp only [Rep]
theorem d_cl {x : Str} (n : Nat) (hm : X.mg x = some (.ref (W.CA n))) (hg : Gl X x := by rfl) (hd : (x == ("__debug__" : Str)) = false := by decide) : PE X (.Name x pos) (tE W Wx (conS (.cl n))) := d_glob (v := .ref (W.CA n)) (fun _ _ => by simp only [Rep]) hm rfl hg hd
theorem da_nil : PA X [] (tA W Wx nilA) := pa_weak pa_nil fun σ H Q ⟨RA, ρ, σd, B, b, l, q⟩ => q.here b [] .nil
theorem da_cons (he : PE X e (tE W Wx f)) (ha : PA X es (tA W Wx fa)) (hs : starEach (e :: es) X.env = (false, eval e X.env) :: starEach es X.env := by rfl) : PA X (e :: es) (tA W Wx (consA f fa)) := pa_weak (pa_cons he ha hs) fun σ H Q ⟨RA, ρ, σd, B, b, l, q⟩ =>
  ⟨RA, ρ, σd, B, b, l, (Aw.bind q).imp fun d B1 H1 a1 q1 v rv => ⟨RA, ρ, σd, B1, a1.base, l.ex a1.bl, (Aw.bind q1).imp fun ds B2 H2 a2 q2 vs rvs => q2.here a2.base _ (.cons (rv.ex a2.bl) rvs)⟩⟩
theorem d_tup {x1} (h : PA X es (tA W Wx fa)) : PE X (.Tuple es x1 pos) (tE W Wx (tupS fa)) := pe_weak (pe_tup h) fun σ H Q ⟨RA, ρ, σd, B, b, l, q⟩ =>
  ⟨RA, ρ, σd, B, b, l, (Aw.bind q).imp fun ds B1 H1 a1 q1 vs rv => by
    split at q1
    · rename_i hz
      exact ⟨sz_of (by rw [← rv.len]; exact hz), fun p hp => fin_tup a1.base hp rv fun v B2 H2 a2 r => q1 B2 H2 a2 v r⟩
    · exact False.elim q1⟩
theorem f_lst (h : PA X es (tA W Wx fa)) : PE X (.List es pos) (tF W Wx (lstS fa)) := pe_weak (pe_lst h) fun σ H Q ⟨RA, ρ, σd, B, b, l, q⟩ =>
  ⟨RA, ρ, σd, B, b, l, (Aw.bind q).imp fun ds B1 H1 a1 q1 vs rv => by
    split at q1
    · rename_i hz
      exact ⟨sz_of (by rw [← rv.len]; exact hz), fun p hp => fin_lstF a1.base hp rv fun v B2 H2 a2 r => q1 B2 H2 a2 v (r.back a1.hp)⟩
    · exact False.elim q1⟩
theorem d_lst (h : PA X es (tA W Wx fa)) : PE X (.List es pos) (tE W Wx (lstS fa)) := pe_frz (f_lst h)

/-! ### tests, and, or, not, if -/
theorem dt_of (hK : X.K = W.K) (ha : PE X a (tE W Wx f)) (he : ∀ whole, isTrue a X.env whole = (do let v ← whole; standAt a.pos; holding [v] (truthy v)) := by intro _; rfl) : PT X a (tT W Wx (testS f)) := pt_of hK ha he
theorem pw_weak {t t' : TT} (h : PW X e t) (k : ∀ σ H Q, t' σ H Q → t σ H Q) : PW X e t' := ⟨fun whole pins s σ H Q I q => h.run whole pins s σ H Q I (k σ H Q q)⟩
theorem dt_not (ha : PT X a (tT W Wx t)) : PT X (.UnaryOp .Not a pos) (tT W Wx (notT t)) := pt_weak (pt_not ha) fun σ H Q ⟨RA, ρ, σd, B, b, l, q⟩ =>
  ⟨RA, ρ, σd, B, b, l, (Aw.bind q).imp fun c B1 H1 a1 q1 => q1.here a1.base⟩
theorem dw_and1 (ha : PT X a (tT W Wx t)) : PW X (.BoolOp .And [a] pos) (tT W Wx t) := pw_and1 ha
theorem dw_or1 (ha : PT X a (tT W Wx t)) : PW X (.BoolOp .Or [a] pos) (tT W Wx t) := pw_or1 ha
theorem tT_if {t1 t2 : TF} {σ : L2.St} {RA : List Addr} {ρ : List D} {σd : Env} {B H : Hp} {Q : Bool → Hp → Prop} (l : LocOk W RA B σd σ) {g : Bool → Res Bool} (h1 : ∀ c, g c = if c = true then t1 ρ σd else t2 ρ σd) {c : Bool} (b : Base W RA ρ B H) (q : Aw W Wx RA ρ σ B H (g c) fun b _ H' => Q b H') :
    if c = true then tT W Wx t1 σ H Q else tT W Wx t2 σ H Q := by
  rw [h1] at q
  cases c with
  | true => exact ⟨RA, ρ, σd, B, b, l, q⟩
  | false => exact ⟨RA, ρ, σd, B, b, l, q⟩
theorem dw_and {rest : List Expr} (ha : PT X a (tT W Wx t)) (hb : PW X (.BoolOp .And (b :: rest) pos) (tT W Wx u)) : PW X (.BoolOp .And (a :: b :: rest) pos) (tT W Wx (andT t u)) := pw_weak (pw_and ha hb) fun σ H Q ⟨RA, ρ, σd, B, b, l, q⟩ =>
  ⟨RA, ρ, σd, B, b, l, (Aw.bind q).imp fun c B1 H1 a1 q1 => by
    cases c with
    | true => exact ⟨RA, ρ, σd, B1, a1.base, l.ex a1.bl, q1⟩
    | false => exact q1.here a1.base⟩
theorem dw_or {rest : List Expr} (ha : PT X a (tT W Wx t)) (hb : PW X (.BoolOp .Or (b :: rest) pos) (tT W Wx u)) : PW X (.BoolOp .Or (a :: b :: rest) pos) (tT W Wx (orT t u)) := pw_weak (pw_or ha hb) fun σ H Q ⟨RA, ρ, σd, B, b, l, q⟩ =>
  ⟨RA, ρ, σd, B, b, l, (Aw.bind q).imp fun c B1 H1 a1 q1 => by
    cases c with
    | false => exact ⟨RA, ρ, σd, B1, a1.base, l.ex a1.bl, q1⟩
    | true => exact q1.here a1.base⟩
theorem dt_w (h : PW X e (tT W Wx t)) : PT X e (tT W Wx t) := h.pt
theorem d_if (hc : PT X c (tT W Wx t)) (ha : PE X a (tE W Wx f)) (hb : PE X b (tE W Wx g)) : PE X (.IfExp c a b pos) (tE W Wx (ifS t f g)) := pe_weak (pe_ifExp hc ha hb) fun σ H Q ⟨RA, ρ, σd, B, b, l, q⟩ =>
  ⟨RA, ρ, σd, B, b, l, (Aw.bind q).imp fun c B1 H1 a1 q1 => by
    cases c with
    | true => exact ⟨RA, ρ, σd, B1, a1.base, l.ex a1.bl, q1⟩
    | false => exact ⟨RA, ρ, σd, B1, a1.base, l.ex a1.bl, q1⟩⟩
theorem d_one {op} (h : PE X a (tE W Wx f)) : PE X (.BoolOp op [a] pos) (tE W Wx f) := pe_one h
theorem d_and {rest : List Expr} (ha : PE X a (tE W Wx f)) (hb : PE X (.BoolOp .And (b :: rest) pos) (tE W Wx g)) : PE X (.BoolOp .And (a :: b :: rest) pos) (tE W Wx (andS f g)) := pe_weak (pe_and ha hb) fun σ H Q ⟨RA, ρ, σd, B, b, l, q⟩ =>
  ⟨RA, ρ, σd, B, b, l, (Aw.bind q).imp fun d B1 H1 a1 q1 v rv => by
    cases d with
    | bl c =>
      simp only [Rep] at rv
      refine ⟨c, rv, ?_⟩
      cases c with
      | true => exact ⟨RA, ρ, σd, B1, a1.base, l.ex a1.bl, q1⟩
      | false => exact q1.here a1.base _ rep_bl
    | _ => exact False.elim q1⟩
theorem d_or {rest : List Expr} (ha : PE X a (tE W Wx f)) (hb : PE X (.BoolOp .Or (b :: rest) pos) (tE W Wx g)) : PE X (.BoolOp .Or (a :: b :: rest) pos) (tE W Wx (orS f g)) := pe_weak (pe_or ha hb) fun σ H Q ⟨RA, ρ, σd, B, b, l, q⟩ =>
  ⟨RA, ρ, σd, B, b, l, (Aw.bind q).imp fun d B1 H1 a1 q1 v rv => by
    cases d with
    | bl c =>
      simp only [Rep] at rv
      refine ⟨c, rv, ?_⟩
      cases c with
      | true => exact q1.here a1.base _ rep_bl
      | false => exact ⟨RA, ρ, σd, B1, a1.base, l.ex a1.bl, q1⟩
    | _ => exact False.elim q1⟩
theorem d_not (hK : X.K = W.K) (ha : PE X a (tE W Wx f)) : PE X (.UnaryOp .Not a pos) (tE W Wx (notS f)) := pe_weak (pe_notT ha) fun σ H Q ⟨RA, ρ, σd, B, b, l, q⟩ =>
  ⟨RA, ρ, σd, B, b, l, (Aw.bind q).imp fun d B1 H1 a1 q1 v rv => by
    cases e : truthB ρ d with
    | none => simp only [e, ofO, Res.bind, Aw] at q1
    | some k =>
      simp only [e, ofO, Res.bind] at q1
      exact ⟨k, by rw [hK]; exact truth_V a1.base rv e, q1.here a1.base _ rep_bl⟩⟩
theorem tE_chain {r r' : R2} {g h : List D → D → D → Option D} (hg : Op2 W r g) (hh : Op2 W r' h) : ∀ σ H Q, tE W Wx (chainS g h f1 f2 f3) σ H Q → tChain r r' (tE W Wx f1) (tE W Wx f2) (tE W Wx f3) σ H Q := fun σ H Q ⟨RA, ρ, σd, B, b, l, q⟩ =>
  ⟨RA, ρ, σd, B, b, l, (Aw.bind q).imp fun d1 B1 H1 a1 q1 x rx => ⟨RA, ρ, σd, B1, a1.base, l.ex a1.bl, (Aw.bind q1).imp fun d2 B2 H2 a2 q2 y ry => by
    cases e : g ρ d1 d2 with
    | none => simp only [e, ofO, Res.bind, Aw] at q2
    | some k =>
      simp only [e, ofO, Res.bind] at q2
      refine hg RA ρ B2 H2 x y d1 d2 k _ a2.base (rx.ex a2.bl) ry e fun v B3 H3 a3 r3 => ?_
      cases k with
      | bl c =>
        simp only [Rep] at r3
        refine ⟨c, r3, ?_⟩
        have q3 := Aw.mono a3 q2
        cases c with
        | true =>
          simp only [if_true] at q3 ⊢
          exact ⟨RA, ρ, σd, B3, a3.base, (l.ex a1.bl).ex (a2.bl.trans a3.bl), (Aw.bind q3).imp fun d3 B4 H4 a4 q4 z rz => by
            cases e2 : h ρ d2 d3 with
            | none => simp only [e2, ofO, Aw] at q4
            | some k2 =>
              simp only [e2, ofO] at q4
              exact hh RA ρ B4 H4 y z d2 d3 k2 _ a4.base ((ry.ex a3.bl).ex a4.bl) rz e2 fun v B5 H5 a5 r5 => q4 B5 H5 a5 v r5⟩
        | false => exact q3.here a3.base _ rep_bl
      | _ => exact False.elim q2⟩⟩
theorem d_chain {op op' : CmpOp} {r r' : R2} {g h : List D → D → D → Option D} (ho : OpR X (compareOp op) r) (hg : Op2 W r g) (ho' : OpR X (compareOp op') r') (hh : Op2 W r' h) (ha : PE X a (tE W Wx f1)) (hb : PE X b (tE W Wx f2)) (hc : PE X c (tE W Wx f3)) (hm : lastMarks [op, op'] [b, c] = false := by rfl) :
    PE X (.Compare a [op, op'] [b, c] pos) (tE W Wx (chainS g h f1 f2 f3)) := pe_weak (pe_chain ho ho' ha hb hc (hm := hm)) (tE_chain hg hh)
/-- an expression that gives True or False, as a test -/
def tb1 (f : EF) : TF := fun ρ σ => (f ρ σ).bind fun d => match d with
  | .bl k => .ok k
  | _ => .bad
theorem tT_tb1 {f : EF} (σ : L2.St) (H : Hp) (Q : Bool → Hp → Prop) : tT W Wx (tb1 f) σ H Q → tE W Wx f σ H fun x H' => ∃ k, x = .bl k ∧ Q k H' := fun ⟨RA, ρ, σd, B, b, l, q⟩ => ⟨RA, ρ, σd, B, b, l, (Aw.bind q).imp fun d B1 H1 a1 q1 v rv => by
  cases d with
  | bl k => exact ⟨k, by simpa only [Rep] using rv, q1.here a1.base⟩
  | _ => exact q1.elim⟩
theorem t_cmp {op : CmpOp} {r : R2} {g : List D → D → D → Option D} (ho : OpR X (compareOp op) r) (h : Op2 W r g) (hm : behindInMarks op b = false) (ha : PE X a (tE W Wx f1)) (hb : PE X b (tE W Wx f2)) : PT X (.Compare a [op] [b] pos) (tT W Wx (tb1 (bin2 g f1 f2))) := pt_weak (pt_cmpR ho ha hb hm) fun σ H Q q => tE_bin h σ H _ (tT_tb1 σ H Q q)
theorem t_chain {op op' : CmpOp} {r r' : R2} {g h : List D → D → D → Option D} (ho : OpR X (compareOp op) r) (hg : Op2 W r g) (ho' : OpR X (compareOp op') r') (hh : Op2 W r' h) (ha : PE X a (tE W Wx f1)) (hb : PE X b (tE W Wx f2)) (hc : PE X c (tE W Wx f3)) (hm : lastMarks [op, op'] [b, c] = false := by rfl) :
    PT X (.Compare a [op, op'] [b, c] pos) (tT W Wx (tb1 (chainS g h f1 f2 f3))) := pt_weak (pt_chain ho ho' ha hb hc (hm := hm)) fun σ H Q q => tE_chain hg hh σ H _ (tT_tb1 σ H Q q)

/-! ### slices -/
theorem po_weak {e : Option Expr} {t t' : TO} (h : PO X e t) (k : ∀ σ H Q, t' σ H Q → t σ H Q) : PO X e t' := ⟨fun pins s σ H Q I q => h.run pins s σ H Q I (k σ H Q q)⟩
def tP (W : Wd) (Wx : WX) (f : PF) : TO := fun σ H Q => ∃ RA ρ σd B, Base W RA ρ B H ∧ LocOk W RA B σd σ ∧ Aw W Wx RA ρ σ B H (f ρ σd) fun o _ H' => Q o H'
theorem dp_none : PO X none (tP W Wx noP) := po_weak po_none fun σ H Q ⟨RA, ρ, σd, B, b, l, q⟩ => q.here b
theorem dp_some (h : PE X e (tE W Wx f)) : PO X (some e) (tP W Wx (someP f)) := po_weak (po_some h) fun σ H Q ⟨RA, ρ, σd, B, b, l, q⟩ =>
  ⟨RA, ρ, σd, B, b, l, (Aw.bind q).imp fun d B1 H1 a1 q1 v rv => by
    cases e : dr ρ d with
    | int i => simp only [e] at q1; exact ⟨i, view_int a1.base rv e, q1.here a1.base⟩
    | _ => simp only [e, Aw] at q1⟩
def rSlAll (K : PySem.W.Frag) : V → Option Int → Option Int → Hp → VK → Prop := fun x lo hi H Q => rSlL K x lo hi H Q ∨ rSlA K x lo hi H Q ∨ rSlS x lo hi H Q
theorem slr_all {K : PySem.W.Frag} (hK : X.K = K) : SlR X (rSlAll K) := by subst hK; exact sl_list.or (sl_tupA.or sl_str)
theorem cutL_rep {RA : List Addr} {B : Hp} {l : List D} {vs : List V} (h : RepL W RA B l vs) (lo hi : Option Int) : RepL W RA B (cutL l lo hi) (cutV vs lo hi) := by
  unfold cutL cutV
  rw [← h.len]
  exact (h.drop _).take _
theorem d_slice {lo hi : Option Expr} {pl ph : PF} {p2 : Pos} (hK : X.K = W.K) (he : PE X e (tE W Wx f)) (hl : PO X lo (tP W Wx pl)) (hu : PO X hi (tP W Wx ph)) : PE X (.Subscript e (.Slice lo hi none p2) pos) (tE W Wx (slS f pl ph)) :=
  pe_weak (pe_slice (slr_all hK) he hl hu) fun σ H Q ⟨RA, ρ, σd, B, b, l, q⟩ =>
  ⟨RA, ρ, σd, B, b, l, (Aw.bind q).imp fun d B1 H1 a1 q1 x rx => ⟨RA, ρ, σd, B1, a1.base, l.ex a1.bl, (Aw.bind q1).imp fun lo B2 H2 a2 q2 => ⟨RA, ρ, σd, B2, a2.base, (l.ex a1.bl).ex a2.bl, (Aw.bind q2).imp fun hi B3 H3 a3 q3 => by
    have r3 := (rx.ex a2.bl).ex a3.bl
    have b3 := a3.base
    cases hs : slD ρ d lo hi with
    | none => simp only [hs, ofO, Aw] at q3
    | some d' =>
      simp only [hs, ofO] at q3
      have k3 : ∀ v B' H', Aft W RA ρ B3 H3 B' H' → Rep W RA B' d' v → Q v H' := fun v B' H' a r => q3 B' H' a v r
      unfold slD at hs
      split at hs
      · rename_i l1 e1
        cases hs
        obtain ⟨p, vs, rfl, hp, hv⟩ := view_lst b3 r3 e1
        exact .inl ⟨p, vs, rfl, sq_of hp, fun p' hp' => fin_lst b3 hp' (cutL_rep hv lo hi) k3⟩
      · rename_i l1 e1
        cases hs
        obtain ⟨p, vs, rfl, hp, hv⟩ := view_scr b3 r3 e1
        exact .inl ⟨p, vs, rfl, hp, fun p' hp' => fin_lst b3 hp' (cutL_rep hv lo hi) k3⟩
      · rename_i l1 e1
        cases hs
        obtain ⟨p, vs, rfl, hp, hv⟩ := view_tup b3 r3 e1
        refine .inr (.inl ⟨p, vs, rfl, hp, fun hw => ?_, fun _ p' hp' => fin_tup b3 hp' (cutL_rep hv lo hi) k3⟩)
        have ew : cutL l1 lo hi = l1 := by
          unfold cutL
          rw [hv.len, hw.1, hw.2]
          simp only [List.drop_zero, Nat.sub_zero]
          rw [← hv.len, List.take_length]
        refine k3 _ B3 H3 (.refl b3) ?_
        rw [ew]
        cases d with
        | tup l' => cases e1; exact r3
        | rt r =>
          obtain ⟨a2, d', _, e', ra⟩ := view_rt b3 r3
          rw [e1] at e'; subst e'; exact False.elim ra
        | _ => cases e1
      · rename_i s1 e1
        split at hs
        · rename_i hz
          cases hs
          rw [view_str b3 r3 e1]
          exact .inr (.inr ⟨s1, rfl, sz_of hz, fin_flat b3 (fun _ => rep_str) k3⟩)
        · cases hs
      · cases hs⟩⟩⟩
end
end Dd

set_option Elab.async false
set_option linter.all false
set_option maxRecDepth 100000
set_option maxHeartbeats 2000000
/-! DdCall: attributes, stars, methods of texts, calls of built-ins and of defs, by data -/
namespace Dd
open PySem PySem.Spec PyProof.Rows L2 Evl OwnO My

/-! ### attributes -/
theorem lookup_zip {f : Str} : ∀ {names : List Str} {vs : List V} {k : Nat} {v : V}, names.findIdx? (fun g => decide (g = f)) = some k → vs[k]? = some v → (names.zip vs).lookup f = some v
  | [], vs, k, v, h, _ => by simp at h
  | n :: names, [], k, v, _, h => by simp at h
  | n :: names, v' :: vs, k, v, h, hv => by
    rw [List.findIdx?_cons] at h
    by_cases e : n = f
    · subst e
      simp at h
      subst h
      simp at hv
      subst hv
      simp [List.lookup]
    · simp only [e, decide_false] at h
      obtain ⟨j, hj, rfl⟩ := Option.map_eq_some_iff.mp (by simpa using h)
      rw [List.zip_cons_cons, List.lookup_cons, (show (f == n) = false from beq_eq_false_iff_ne.mpr fun z => e z.symm)]
      exact lookup_zip hj (by simpa using hv)
/-- attribute f of class c is number k -/
def AttrAt (W : Wd) (c : Nat) (f : Str) (k : Nat) : Prop := W.isc c = true ∧ (W.CF c).findIdx? (fun g => decide (g = f)) = some k
theorem AttrAt.mem {W : Wd} {c k : Nat} {f : Str} (h : AttrAt W c f k) : (W.CF c)[k]? = some f := by
  obtain ⟨h1, h2, _⟩ := List.findIdx?_eq_some_iff_getElem.mp h.2
  rw [List.getElem?_eq_getElem h1]
  exact congrArg some (of_decide_eq_true h2)
section
variable {W : Wd} {Wx : WX} {X : Cx} {a b c e : Expr} {es : List Expr} {f f1 f2 f3 g : EF} {fa ga : AF} {t u : TF} {pos p apos : Pos}
theorem d_fld {c k : Nat} {nm : Str} (ok : WOk W) (hK : X.K = W.K) (ha : AttrAt W c nm k) (he : PE X e (tE W Wx f)) (hb : attributeBase e nm X.env (eval e X.env) = eval e X.env := by rfl) : PE X (.Attribute e nm pos) (tE W Wx (fldS c k f)) :=
  pe_weak (pe_fld he hb) fun σ H Q ⟨RA, ρ, σd, B, b, l, q⟩ => ⟨RA, ρ, σd, B, b, l, (Aw.bind q).imp fun d B1 H1 a1 q1 x rx => by
    cases e : dr ρ d with
    | ins c' fs =>
      simp only [e] at q1
      split at q1
      · rename_i hc
        subst hc
        cases e2 : fs[k]? with
        | none => simp only [e2, ofO, Aw] at q1
        | some d2 =>
          simp only [e2, ofO] at q1
          obtain ⟨p, dx, vs, rfl, hp, hv, _⟩ := view_ins a1.base rx e
          obtain ⟨v, h1, h2⟩ := hv.get e2
          obtain ⟨ct, hn⟩ := ok.cls c' ha.1
          exact ⟨p, _, dx, _, v, rfl, hp, by rw [hK]; exact ct.cl, by rw [hK]; exact hn nm (List.mem_of_getElem? ha.mem), lookup_zip ha.2 h1, q1.here a1.base v h2⟩
      · exact False.elim q1
    | _ => simp only [e, Aw] at q1⟩

/-! ### stars -/
theorem items_view {RA : List Addr} {ρ : List D} {B H : Hp} {d : D} {x : V} {ys : List D} (b : Base W RA ρ B H) (h : Rep W RA B d x) (e : itemsD ρ d = some ys) : ∃ a vs, x = .ref a ∧ (SqL W.K H a vs ∨ SqT W.K H a vs) ∧ RepL W RA B ys vs := by
  unfold itemsD at e
  split at e
  · rename_i e1; cases e; obtain ⟨a, vs, rfl, ha, la⟩ := view_lst b h e1; exact ⟨a, vs, rfl, .inl (sq_of ha), la⟩
  · rename_i e1; cases e; obtain ⟨a, vs, rfl, ha, la⟩ := view_scr b h e1; exact ⟨a, vs, rfl, .inl ha, la⟩
  · rename_i e1; cases e; obtain ⟨a, vs, rfl, ha, la⟩ := view_tup b h e1; exact ⟨a, vs, rfl, .inr ha, la⟩
  · cases e
theorem da_star (hK : X.K = W.K) (he : PE X e (tE W Wx f)) (ha : PA X es (tA W Wx fa)) (hs : starEach (.Starred e p :: es) X.env = (true, eval e X.env) :: starEach es X.env := by rfl) : PA X (.Starred e p :: es) (tA W Wx (starA f fa)) := by
  refine pa_weak (StX.pa_star he ha hs) fun σ H Q ⟨RA, ρ, σd, B, b, l, q⟩ => ⟨RA, ρ, σd, B, b, l, (Aw.bind q).imp fun d B1 H1 a1 q1 v rv => ?_⟩
  cases e : itemsD ρ d with
  | none => simp only [e, ofO, Res.bind, Aw] at q1
  | some ys =>
    simp only [e, ofO, Res.bind] at q1
    obtain ⟨p, vs, rfl, hp, hv⟩ := items_view a1.base rv e
    exact ⟨p, vs, rfl, by rw [hK]; exact hp.symm, RA, ρ, σd, B1, a1.base, l.ex a1.bl, (Aw.bind q1).imp fun ds B2 H2 a2 q2 us ru => q2.here a2.base _ ((hv.ex a2.bl).append ru)⟩

/-! ### a call of a built-in -/
theorem d_callB {x : Str} {id : String} {r : List V → Hp → VK → Prop} {g : List D → List D → Option D} (hc : CallR X (.builtin id) r) (h : OpC W r g) (hm : X.mg x = none) (hv : bootBuiltins x = some (.builtin id)) (ha : PA X (e :: es) (tA W Wx fa)) (hg : Gl X x := by rfl) (hn : x ≠ "__name__" := by decide) (hdb : (x == ("__debug__" : Str)) = false := by decide)
    (he : starEach (e :: es) X.env = (false, eval e X.env) :: starEach es X.env := by rfl) (hpl : (backTo pos (starEach es X.env)).any (·.1) = false := by rfl) : PE X (.Call (.Name x p) (e :: es) [] pos) (tE W Wx (callB g fa)) := pe_weak (pe_callB hc hg hm hv ha hn hdb he hpl) (tE_callB h)
theorem d_callT {x : Str} {id : String} {r : List V → Hp → VK → Prop} {g : List D → List D → Option D} (hc : CallR X (.type id) r) (h : OpC W r g) (hm : X.mg x = none) (hv : bootBuiltins x = some (.type id)) (ha : PA X (e :: es) (tA W Wx fa)) (hg : Gl X x := by rfl) (hn : x ≠ "__name__" := by decide) (hdb : (x == ("__debug__" : Str)) = false := by decide)
    (he : starEach (e :: es) X.env = (false, eval e X.env) :: starEach es X.env := by rfl) (hpl : (backTo pos (starEach es X.env)).any (·.1) = false := by rfl) : PE X (.Call (.Name x p) (e :: es) [] pos) (tE W Wx (callB g fa)) := pe_weak (pe_callTy hc hg hm hv ha hn hdb he hpl) (tE_callB h)
theorem f_callB {x : Str} {id : String} {r : List V → Hp → VK → Prop} {g : List D → List D → Option D} (hc : CallR X (.builtin id) r) (h : OpCF W r g) (hm : X.mg x = none) (hv : bootBuiltins x = some (.builtin id)) (ha : PA X (e :: es) (tA W Wx fa)) (hg : Gl X x := by rfl) (hn : x ≠ "__name__" := by decide) (hdb : (x == ("__debug__" : Str)) = false := by decide)
    (he : starEach (e :: es) X.env = (false, eval e X.env) :: starEach es X.env := by rfl) (hpl : (backTo pos (starEach es X.env)).any (·.1) = false := by rfl) : PE X (.Call (.Name x p) (e :: es) [] pos) (tF W Wx (callB g fa)) := pe_weak (pe_callB hc hg hm hv ha hn hdb he hpl) (tF_callB h)
theorem f_callT {x : Str} {id : String} {r : List V → Hp → VK → Prop} {g : List D → List D → Option D} (hc : CallR X (.type id) r) (h : OpCF W r g) (hm : X.mg x = none) (hv : bootBuiltins x = some (.type id)) (ha : PA X (e :: es) (tA W Wx fa)) (hg : Gl X x := by rfl) (hn : x ≠ "__name__" := by decide) (hdb : (x == ("__debug__" : Str)) = false := by decide)
    (he : starEach (e :: es) X.env = (false, eval e X.env) :: starEach es X.env := by rfl) (hpl : (backTo pos (starEach es X.env)).any (·.1) = false := by rfl) : PE X (.Call (.Name x p) (e :: es) [] pos) (tF W Wx (callB g fa)) := pe_weak (pe_callTy hc hg hm hv ha hn hdb he hpl) (tF_callB h)

/-! ### methods of texts -/
/-- a method of a text: the text, the arguments -/
def OpM (W : Wd) (r : V → List V → Hp → VK → Prop) (g : List D → Str → List D → Option D) : Prop := ∀ (RA : List Addr) (ρ : List D) (B H : Hp) (s : Str) (xs : List V) (ds : List D) (d : D) (Q : VK), Base W RA ρ B H → RepL W RA B ds xs → g ρ s ds = some d →
  (∀ v B' H', Aft W RA ρ B H B' H' → Rep W RA B' d v → Q v H') → r (.str s) xs H Q
def methS (g : List D → Str → List D → Option D) (f : EF) (fa : AF) : EF := fun ρ σ => (f ρ σ).bind fun x => match dr ρ x with
  | .str s => (fa ρ σ).bind fun xs => ofO (g ρ s xs)
  | _ => .bad
theorem d_methS {name : Str} {id : String} {r : V → List V → Hp → VK → Prop} {g : List D → Str → List D → Option D} (slot : Slot "str" name id) (hty : typeOf (.builtin id) = pure (.type "method_descriptor")) (hm : MtR X id r) (h : OpM W r g) (ho : PE X a (tE W Wx f)) (ha : PA X (e :: es) (tA W Wx fa))
    (hbase : attributeBase a name X.env (eval a X.env) = eval a X.env := by rfl)
    (hfew : ((backTo pos (starEach (e :: es) X.env)).all (fun x => !x.1) && (backToKw pos (keywordEach [] X.env)).all (fun x => x.1.isSome)
      && decide ((e :: es).length + ([] : List Keyword).length + (if ([] : List Keyword).isEmpty then 0 else 1) < 30)) = true := by rfl)
    (hline : (apos.endLine == pos.line) = true := by rfl) (hs : starEach (e :: es) X.env = (false, eval e X.env) :: starEach es X.env := by rfl) (hplain : (backTo pos (starEach es X.env)).any (·.1) = false := by rfl) :
    PE X (.Call (.Attribute a name apos) (e :: es) [] pos) (tE W Wx (methS g f fa)) := by
  refine pe_weak (pe_bm PySem.F.plainAttrs_str slot hty hm ho ha hbase hfew hline hs hplain) fun σ H Q ⟨RA, ρ, σd, B, b, l, q⟩ => ⟨RA, ρ, σd, B, b, l, (Aw.bind q).imp fun d B1 H1 a1 q1 x rx => ?_⟩
  cases e : dr ρ d with
  | str s =>
    simp only [e] at q1
    rw [view_str a1.base rx e]
    refine ⟨rfl, RA, ρ, σd, B1, a1.base, l.ex a1.bl, (Aw.bind q1).imp fun ds B2 H2 a2 q2 xs rxs => ?_⟩
    cases e2 : g ρ s ds with
    | none => simp only [e2, ofO, Aw] at q2
    | some d2 =>
      simp only [e2, ofO] at q2
      exact h RA ρ B2 H2 s xs ds d2 Q a2.base rxs e2 fun v B3 H3 a3 r3 => q2 B3 H3 a3 v r3
  | _ => simp only [e, Aw] at q1
end
/-- "..".join(texts) -/
def joinM (ρ : List D) (s : Str) (xs : List D) : Option D := match xs with
  | [d] => (itemsD ρ d).bind fun l => (strsD l).bind fun ys => if (ys.map (·.length)).sum + ys.length * s.length ≤ 16777216 then some (.str (Txt.join s ys)) else none
  | _ => none
def rJoinA (K : PySem.W.Frag) : V → List V → Hp → VK → Prop := fun x xs H Q => ∃ a p, ∃ ys : List Str, x = .str a ∧ xs = [.ref p] ∧ (SqL K H p (ys.map V.str) ∨ SqT K H p (ys.map V.str)) ∧ (ys.map (·.length)).sum + ys.length * a.length ≤ 16777216 ∧ Q (.str (Txt.join a ys)) H
theorem mtr_join {X : Cx} {K : PySem.W.Frag} (hK : X.K = K) : MtR X "str.join" (rJoinA K) := by subst hK; exact mt_join
theorem opm_join (W : Wd) : OpM W (rJoinA W.K) joinM := by
  intro RA ρ B H s xs ds d Q b r e h
  unfold joinM at e
  split at e
  · obtain ⟨x, rfl, rx⟩ := one_of r
    obtain ⟨l, e1, e⟩ := Option.bind_eq_some_iff.mp e
    obtain ⟨ys, e2, e⟩ := Option.bind_eq_some_iff.mp e
    split at e
    · rename_i hz
      cases e
      obtain ⟨p, vs, rfl, hp, hv⟩ := items_view b rx e1
      rw [strs_V hv e2] at hp
      exact ⟨s, p, ys, rfl, rfl, hp, hz, fin_flat b (fun _ => rep_str) h⟩
    · cases e
  · cases e
def ljustM (ρ : List D) (s : Str) (xs : List D) : Option D := match xs with
  | [.int i] => if PadOk i = true then some (.str (Txt.ljust s i)) else none
  | _ => none
def rjustM (ρ : List D) (s : Str) (xs : List D) : Option D := match xs with
  | [.int i] => if PadOk i = true then some (.str (Txt.rjust s i)) else none
  | _ => none
def rLjustA : V → List V → Hp → VK → Prop := fun x xs H Q => ∃ (a : Str) (i : Int), x = .str a ∧ xs = [.int i] ∧ PadOk i = true ∧ Q (.str (Txt.ljust a i)) H
def rRjustA : V → List V → Hp → VK → Prop := fun x xs H Q => ∃ (a : Str) (i : Int), x = .str a ∧ xs = [.int i] ∧ PadOk i = true ∧ Q (.str (Txt.rjust a i)) H
theorem mtr_ljust {X : Cx} : MtR X "str.ljust" rLjustA := mt_ljust
theorem mtr_rjust {X : Cx} : MtR X "str.rjust" rRjustA := mt_rjust
theorem opm_ljust (W : Wd) : OpM W rLjustA ljustM := by
  intro RA ρ B H s xs ds d Q b r e h
  unfold ljustM at e
  split at e
  · obtain ⟨x, rfl, rx⟩ := one_of r
    split at e
    · rename_i hz
      cases e
      simp only [Rep] at rx
      exact ⟨s, _, rfl, by rw [rx], hz, fin_flat b (fun _ => rep_str) h⟩
    · cases e
  · cases e
theorem opm_rjust (W : Wd) : OpM W rRjustA rjustM := by
  intro RA ρ B H s xs ds d Q b r e h
  unfold rjustM at e
  split at e
  · obtain ⟨x, rfl, rx⟩ := one_of r
    split at e
    · rename_i hz
      cases e
      simp only [Rep] at rx
      exact ⟨s, _, rfl, by rw [rx], hz, fin_flat b (fun _ => rep_str) h⟩
    · cases e
  · cases e
def splitM (ρ : List D) (s : Str) (xs : List D) : Option D := match xs with
  | [.str t] => if t.length ≠ 0 ∧ s.length ≤ 100000 then some (.lst ((Txt.split s t).map .str)) else none
  | _ => none
def rSplitA : V → List V → Hp → VK → Prop := fun x xs H Q => ∃ a b, x = .str a ∧ xs = [.str b] ∧ (b.length == 0) = false ∧ a.length + 2 ≤ sizeLine ∧ rNewStrs (Txt.split a b) H Q
theorem mtr_split {X : Cx} : MtR X "str.split" rSplitA := mt_split
theorem opm_split (W : Wd) : OpM W rSplitA splitM := by
  intro RA ρ B H s xs ds d Q b r e h
  unfold splitM at e
  split at e
  · obtain ⟨x, rfl, rx⟩ := one_of r
    split at e
    · rename_i hz
      cases e
      simp only [Rep] at rx
      refine ⟨s, _, rfl, by rw [rx], beq_eq_false_iff_ne.mpr hz.1, by have : (100002 : Nat) ≤ sizeLine := by decide
                                                                      omega, fun p hp => fin_lst b hp (repL_strs _) h⟩
    · cases e
  · cases e
end Dd

set_option Elab.async false
set_option linter.all false
set_option maxRecDepth 100000
set_option maxHeartbeats 2000000
/-! DdIter: what is walked, targets, for, list comprehensions, by data -/
namespace Dd
open PySem PySem.Spec PyProof.Rows L2 Evl OwnO My

/-- what is walked: the items, the roots that must stay meanwhile -/
abbrev IF := List D → Env → Res (List D × List Nat)
/-- a target: the roots, the value, the locals -/
abbrev TGF := List D → D → Env → Option Env

/-- J hands out ds, as long as the roots lk stay -/
def ItOk (W : Wd) (RA : List Addr) (B H : Hp) (J : It) (ds : List D) (lk : List Nat) : Prop := ∀ (i : Nat) (RA' : List Addr) (ρ' : List D) (B' H' : Hp), Base W RA' ρ' B' H' → Ex B B' → (∀ (r : Nat) (a : Addr), RA[r]? = some a → RA'[r]? = some a) → (∀ r ∈ lk, ∀ a o, RA[r]? = some a → H a = some o → H' a = some o) →
  (∀ d, ds[i]? = some d → J.go i H' ∧ ∀ x H'', J.yld i H' x H'' → ∃ B'', Aft W RA' ρ' B' H' B'' H'' ∧ Rep W RA' B'' d x) ∧ (ds.length ≤ i → J.stop i H')
def tI (W : Wd) (Wx : WX) (f : IF) : TI := fun σ H R => ∃ RA ρ σd B, Base W RA ρ B H ∧ LocOk W RA B σd σ ∧ Aw W Wx RA ρ σ B H (f ρ σd) fun p B' H' => ∀ J, ItOk W RA B' H' J p.1 p.2 → R J H'
/-- the slots outside ws are alike -/
def Off (ws : List Nat) (σ σ' : L2.St) : Prop := σ'.length = σ.length ∧ ∀ i, i ∉ ws → σ'[i]? = σ[i]?
def tG (W : Wd) (ws : List Nat) (g : TGF) : TG := fun v σ H Q => ∃ RA ρ σd B d, Base W RA ρ B H ∧ LocOk W RA B σd σ ∧ Rep W RA B d v ∧ ∃ σd', g ρ d σd = some σd' ∧ ∀ σ', LocOk W RA B σd' σ' → Off ws σ σ' → Q σ' H
def tGs (W : Wd) (ws : List Nat) (g : List D → List D → Env → Option Env) : TGs := fun vs σ H Q => ∃ RA ρ σd B ds, Base W RA ρ B H ∧ LocOk W RA B σd σ ∧ RepL W RA B ds vs ∧ ∃ σd', g ρ ds σd = some σd' ∧ ∀ σ', LocOk W RA B σd' σ' → Off ws σ σ' → Q σ' H
def nameG (i : Nat) : TGF := fun _ d σ => some (σ.set i (some d))
def nilG : List D → List D → Env → Option Env := fun _ ds σ => if ds.isEmpty = true then some σ else none
def consG (g : TGF) (h : List D → List D → Env → Option Env) : List D → List D → Env → Option Env := fun ρ ds σ => match ds with
  | d :: ds => (g ρ d σ).bind fun σ' => h ρ ds σ'
  | [] => none
def tupG (n : Nat) (h : List D → List D → Env → Option Env) : TGF := fun ρ d σ => match dr ρ d with
  | .tup l => if l.length = n then h ρ l σ else none
  | _ => none
theorem Off.refl {ws : List Nat} {σ : L2.St} : Off ws σ σ := ⟨rfl, fun _ _ => rfl⟩
theorem Off.trans {ws us : List Nat} {σ σ1 σ2 : L2.St} (a : Off ws σ σ1) (b : Off us σ1 σ2) : Off (ws ++ us) σ σ2 := ⟨b.1.trans a.1, fun i h => by
  simp only [List.mem_append, not_or] at h
  exact (b.2 i h.2).trans (a.2 i h.1)⟩
theorem Off.set {i : Nat} {σ : L2.St} {o : Option V} : Off [i] σ (σ.set i o) := ⟨by simp, fun j h => by
  simp only [List.mem_singleton] at h
  rw [List.getElem?_set_ne (fun e => h e.symm)]⟩
section
variable {X : Cx} {W : Wd} {e : Expr} {es : List Expr} {ws us : List Nat} {g : TGF} {h : List D → List D → Env → Option Env} {pos : Pos}
theorem pg_weak {tg : Expr} {t t' : TG} (h : PG X tg t) (k : ∀ v σ H Q, t' v σ H Q → t v σ H Q) : PG X tg t' := ⟨fun pins s σ H v u Q I r q => h.run pins s σ H v u Q I r (k v σ H Q q)⟩
theorem pgs_weak {tg : List Expr} {t t' : TGs} (h : PGs X tg t) (k : ∀ v σ H Q, t' v σ H Q → t v σ H Q) : PGs X tg t' := ⟨fun pins s σ H v u Q I r q => h.run pins s σ H v u Q I r (k v σ H Q q)⟩
theorem dg_name {i : Nat} {x : Str} (hN : X.N.Nodup) (hi : X.N[i]? = some x) (hx : Loc X.env.scope x) (hf : X.fn x = true ∨ X.env.scope.names.lookup x = some .local := by first | exact .inl rfl | exact .inr rfl | assumption) : PG X (.Name x pos) (tG W [i] (nameG i)) :=
  pg_weak (pg_name (i := i) hN hi hx hf) fun v σ H Q ⟨RA, ρ, σd, B, d, b, l, r, σd', e, q⟩ => by
    cases e
    exact q _ (l.set r i) .set
theorem dgs_nil : PGs X [] (tGs W [] nilG) := pgs_weak pgs_nil fun vs σ H Q ⟨RA, ρ, σd, B, ds, b, l, r, σd', e, q⟩ => by
  unfold nilG at e
  split at e
  · rename_i hz
    cases e
    cases ds with
    | nil => exact ⟨r.unnil, q σ l .refl⟩
    | cons _ _ => cases hz
  · cases e
theorem dgs_cons (h1 : PG X e (tG W ws g)) (h2 : PGs X es (tGs W us h)) (hs : (assignEach (e :: es) X.env).map (·.2) = assign e X.env :: (assignEach es X.env).map (·.2) := by rfl) : PGs X (e :: es) (tGs W (ws ++ us) (consG g h)) :=
  pgs_weak (pgs_cons h1 h2 hs) fun vs σ H Q ⟨RA, ρ, σd, B, ds, b, l, r, σd', e, q⟩ => by
    cases ds with
    | nil => simp only [consG] at e; cases e
    | cons d ds =>
      obtain ⟨v, vr, rfl, rv, rr⟩ := r.uncons
      simp only [consG] at e
      obtain ⟨σ1, e1, e2⟩ := Option.bind_eq_some_iff.mp e
      exact ⟨v, vr, rfl, RA, ρ, σd, B, d, b, l, rv, σ1, e1, fun σ' l' o1 => ⟨RA, ρ, σ1, B, ds, b, l', rr, σd', e2, fun σ'' l'' o2 => q σ'' l'' (o1.trans o2)⟩⟩
theorem dg_tup {k n : Nat} (hK : X.K = W.K) (hc : X.calm = true) (h1 : PGs X es (tGs W ws h)) (hn : (assignEach es X.env).length = n := by rfl) (hst : (assignEach es X.env).findIdx? (·.1) = none := by rfl) : PG X (.Tuple es k pos) (tG W ws (tupG n h)) :=
  pg_weak (pg_tup hc h1 hn hst) fun v σ H Q ⟨RA, ρ, σd, B, d, b, l, r, σd', e, q⟩ => by
    unfold tupG at e
    split at e
    · rename_i l1 e1
      split at e
      · rename_i hl
        obtain ⟨a, vs, rfl, ha, la⟩ := view_tup b r e1
        exact ⟨a, vs, rfl, by rw [hK]; exact ha, by rw [← la.len]; exact hl, RA, ρ, σd, B, l1, b, l, la, σd', e, q⟩
      · cases e
    · cases e
end

/-! ### sources -/
/-- the roots that must stay while d is walked -/
def lockD : D → List Nat
  | .rt r => [r]
  | _ => []
def seqI (f : EF) : IF := fun ρ σ => (f ρ σ).bind fun d => match dr ρ d with
  | .lst l => .ok (l, lockD d)
  | .scr l => .ok (l, [])
  | _ => .bad
def tupI (f : EF) : IF := fun ρ σ => (f ρ σ).bind fun d => match dr ρ d with
  | .tup l => .ok (l, [])
  | _ => .bad
def strI (f : EF) : IF := fun ρ σ => (f ρ σ).bind fun d => match dr ρ d with
  | .str s => if s.cps.size ≤ 100000 then .ok (s.cps.toList.map fun c => .str ⟨#[c]⟩, []) else .bad
  | _ => .bad
def rngL (lo : Int) (n : Nat) : List D := (List.range n).map fun i => .int (lo + (i : Nat))
def rng1I (f : EF) : IF := fun ρ σ => (f ρ σ).bind fun d => match dr ρ d with
  | .int j => if -(2 ^ 62) ≤ j ∧ j < 2 ^ 62 then .ok (rngL 0 j.toNat, []) else .bad
  | _ => .bad
def rng2I (f g : EF) : IF := fun ρ σ => (f ρ σ).bind fun d => (g ρ σ).bind fun e => match dr ρ d, dr ρ e with
  | .int i, .int j => if -(2 ^ 62) ≤ i ∧ i < 2 ^ 62 ∧ -(2 ^ 62) ≤ j ∧ j < 2 ^ 62 then .ok (rngL i (j - i).toNat, []) else .bad
  | _, _ => .bad
theorem rngL_len (lo : Int) (n : Nat) : (rngL lo n).length = n := by simp [rngL]
theorem rngL_get {lo : Int} {n i : Nat} {d : D} (h : (rngL lo n)[i]? = some d) : i < n ∧ d = .int (lo + (i : Nat)) := by
  unfold rngL at h
  rw [List.getElem?_map] at h
  obtain ⟨j, hj, rfl⟩ := Option.map_eq_some_iff.mp h
  obtain ⟨h1, h2⟩ := List.getElem?_eq_some_iff.mp hj
  simp at h1 h2
  exact ⟨h1, by rw [← h2]⟩
section
variable {X : Cx} {W : Wd} {Wx : WX} {tg e a b : Expr} {f g : EF} {pos p : Pos}
theorem rep_at {RA : List Addr} {B : Hp} {l : List D} {vs : List V} {i : Nat} {d : D} (h : RepL W RA B l vs) (e : l[i]? = some d) : ∃ v, vs[i]? = some v ∧ Rep W RA B d v := h.get e
/-- a list that is frozen or locked -/
theorem it_list {RA : List Addr} {B H : Hp} {a : Addr} {vs : List V} {l : List D} {lk : List Nat} (h : ∀ (RA' : List Addr) (ρ' : List D) (B' H' : Hp), Base W RA' ρ' B' H' → Ex B B' → (∀ r ∈ lk, ∀ a o, RA[r]? = some a → H a = some o → H' a = some o) → SqL W.K H' a vs) (hl : RepL W RA B l vs) :
    ItOk W RA B H (Itl W.K a) l lk := fun i RA' ρ' B' H' b' e hr hk => by
  have hs := h RA' ρ' B' H' b' e hk
  refine ⟨fun d hd => ?_, fun hle => ⟨vs, hs, by rw [← hl.len]; exact hle⟩⟩
  obtain ⟨v, hv, rv⟩ := hl.get hd
  refine ⟨⟨vs, v, hs, hv⟩, fun x H'' y => ?_⟩
  obtain ⟨rfl, hy⟩ := y
  have := hy vs hs
  rw [hv] at this
  cases this
  exact ⟨B', .refl b', Rep.mono e hr d v rv⟩
theorem d_seqI (hK : X.K = W.K) (he : PE X e (tE W Wx f)) : PI X tg e (tI W Wx (seqI f)) := pi_weak (pi_list he) fun σ H R ⟨RA, ρ, σd, B, b, l, q⟩ => ⟨RA, ρ, σd, B, b, l, (Aw.bind q).imp fun d B1 H1 a1 q1 v rv => by
  have b1 := a1.base
  cases d with
  | rt r =>
    obtain ⟨p, d', rfl, e', ra⟩ := view_rt b1 rv
    rw [e'] at q1
    cases d' with
    | lst l1 =>
      obtain ⟨vs, h1, h2⟩ := ra
      simp only [Rep] at rv
      obtain ⟨p', ep, hp'⟩ := rv
      cases ep
      refine ⟨p, rfl, by rw [hK]; exact ⟨vs, sq_of h1⟩, ?_⟩
      rw [hK]
      exact q1.here b1 _ (it_list (fun RA' ρ' B' H' b' e hk => sq_of (hk r (by simp [lockD]) p _ hp' h1)) h2)
    | dct _ _ => exact False.elim q1
    | ins _ _ => exact False.elim q1
    | _ => exact False.elim ra
  | lst l1 =>
    obtain ⟨p, vs, rfl, h1, h2⟩ := (by simpa only [Rep] using rv : ∃ a vs, v = .ref a ∧ B1 a = some (.lst vs) ∧ RepL W RA B1 l1 vs)
    refine ⟨p, rfl, by rw [hK]; exact ⟨vs, sq_of (b1.le p _ h1)⟩, ?_⟩
    rw [hK]
    exact q1.here b1 _ (it_list (fun RA' ρ' B' H' b' e hk => sq_of (b'.le p _ (e p _ h1))) h2)
  | scr l1 =>
    obtain ⟨p, vs, rfl, h1, h2⟩ := (by simpa only [Rep] using rv : ∃ a vs, v = .ref a ∧ SqL W.K B1 a vs ∧ RepL W RA B1 l1 vs)
    refine ⟨p, rfl, by rw [hK]; exact ⟨vs, ex_l b1.le h1⟩, ?_⟩
    rw [hK]
    exact q1.here b1 _ (it_list (fun RA' ρ' B' H' b' e hk => ex_l (e.trans b'.le) h1) h2)
  | _ => exact False.elim q1⟩
theorem d_tupI (hK : X.K = W.K) (he : PE X e (tE W Wx f)) : PI X tg e (tI W Wx (tupI f)) := pi_weak (pi_tup he) fun σ H R ⟨RA, ρ, σd, B, b, l, q⟩ => ⟨RA, ρ, σd, B, b, l, (Aw.bind q).imp fun d B1 H1 a1 q1 v rv => by
  have b1 := a1.base
  cases d with
  | rt r =>
    obtain ⟨p, d', rfl, e', ra⟩ := view_rt b1 rv
    rw [e'] at q1
    cases d' with
    | lst l1 => exact False.elim q1
    | dct _ _ => exact False.elim q1
    | ins _ _ => exact False.elim q1
    | _ => exact False.elim ra
  | tup l1 =>
    obtain ⟨p, vs, rfl, h1, h2⟩ := (by simpa only [Rep] using rv : ∃ a vs, v = .ref a ∧ SqT W.K B1 a vs ∧ RepL W RA B1 l1 vs)
    refine ⟨p, rfl, by rw [hK]; exact ⟨vs, ex_t b1.le h1⟩, ?_⟩
    rw [hK]
    refine q1.here b1 _ fun i RA' ρ' B' H' b' e hr hk => ?_
    have hs : SqT W.K H' p vs := ex_t (e.trans b'.le) h1
    refine ⟨fun d hd => ?_, fun hle => ⟨vs, hs, by rw [← h2.len]; exact hle⟩⟩
    obtain ⟨v, hv, rv⟩ := h2.get hd
    refine ⟨⟨vs, v, hs, hv⟩, fun x H'' y => ?_⟩
    obtain ⟨rfl, hy⟩ := y
    have := hy vs hs
    rw [hv] at this
    cases this
    exact ⟨B', .refl b', Rep.mono e hr d v rv⟩
  | _ => exact False.elim q1⟩
theorem it_rng {RA : List Addr} {B H : Hp} {lo : Int} {n : Nat} : ItOk W RA B H (Itr lo n) (rngL lo n) [] := fun i RA' ρ' B' H' b' e hr hk => by
  refine ⟨fun d hd => ?_, fun hle => by rw [rngL_len] at hle; exact hle⟩
  obtain ⟨h1, rfl⟩ := rngL_get hd
  refine ⟨h1, fun x H'' y => ?_⟩
  obtain ⟨rfl, rfl⟩ := y
  exact ⟨B', .refl b', rep_int⟩
theorem d_rng1 (hm : X.mg "range" = none) (he : PE X e (tE W Wx f)) (hg : Gl X "range" := by rfl) (hs : starEach [e] X.env = [(false, eval e X.env)] := by rfl) : PI X tg (.Call (.Name "range" p) [e] [] pos) (tI W Wx (rng1I f)) :=
  pi_weak (pi_range1 hg hm (da_cons he da_nil hs) hs) fun σ H R ⟨RA, ρ, σd, B, b, l, q⟩ => ⟨RA, ρ, σd, B, b, l, by
    have q := Aw.bind q
    unfold consA nilA
    cases hf : f ρ σd with
    | bad => rw [hf] at q; exact q
    | exc c fs => rw [hf] at q; exact q
    | ok d =>
      rw [hf] at q
      refine fun B1 H1 a1 vs rv => ?_
      obtain ⟨x, rfl, rx⟩ := one_of rv
      have q1 := q B1 H1 a1
      cases e1 : dr ρ d with
      | int j =>
        simp only [e1] at q1
        split at q1
        · rename_i hj
          exact ⟨j, by rw [view_int a1.base rx e1], hj.1, hj.2, q1.here a1.base _ it_rng⟩
        · exact False.elim q1
      | _ => simp only [e1, Aw] at q1⟩
theorem d_rng2 (hm : X.mg "range" = none) (ha : PE X a (tE W Wx f)) (hb : PE X b (tE W Wx g)) (hg : Gl X "range" := by rfl) (hs : starEach [a, b] X.env = [(false, eval a X.env), (false, eval b X.env)] := by rfl) (hs2 : starEach [b] X.env = [(false, eval b X.env)] := by rfl)
    (hs3 : starEach (a :: [b]) X.env = (false, eval a X.env) :: starEach [b] X.env := by rfl) : PI X tg (.Call (.Name "range" p) [a, b] [] pos) (tI W Wx (rng2I f g)) :=
  pi_weak (pi_range2 hg hm (da_cons ha (da_cons hb da_nil hs2) hs3) hs hs2) fun σ H R ⟨RA, ρ, σd, B, b, l, q⟩ => ⟨RA, ρ, σd, B, b, l, by
    have q := Aw.bind q
    unfold consA nilA
    cases hf : f ρ σd with
    | bad => rw [hf] at q; exact q
    | exc c fs => rw [hf] at q; exact q
    | ok d =>
      rw [hf] at q
      simp only [Res.bind]
      have q := fun B1 H1 a1 => Aw.bind (q B1 H1 a1)
      cases hg : g ρ σd with
      | bad => rw [hg] at q; exact (q B H (.refl b)).elim
      | exc c fs => rw [hg] at q; exact q B H (.refl b)
      | ok e =>
        rw [hg] at q
        refine fun B1 H1 a1 vs rv => ?_
        obtain ⟨x, y, rfl, rx, ry⟩ := two_of rv
        have q1 := q B H (.refl b) B1 H1 a1
        dsimp only at q1
        split at q1
        · rename_i i j e1 e2
          split at q1
          · rename_i hj
            exact ⟨i, j, by rw [view_int a1.base rx e1, view_int a1.base ry e2], ⟨hj.1, hj.2.1, hj.2.2.1, hj.2.2.2⟩, q1.here a1.base _ it_rng⟩
          · exact False.elim q1
        · exact False.elim q1⟩
end
end Dd

set_option Elab.async false
set_option linter.all false
set_option maxRecDepth 100000
set_option maxHeartbeats 2000000
/-! DdFor: statements, for, list comprehensions, by data -/
namespace Dd
open PySem PySem.Spec PyProof.Rows L2 Evl OwnO My

section
variable {W : Wd} {Wx : WX} {RA RA1 : List Addr} {ρ1 : List D} {B H B1 H1 : Hp} {ρ : List D} {mu mu' : Nat → Bool} {Dn : Ends} {o : Out}
theorem Grow.sub {RA' : List Addr} {ρ' : List D} {B' H' : Hp} (h : ∀ r, mu r = false → mu' r = false) (g : Grow W mu' RA ρ B H RA' ρ' B' H') : Grow W mu RA ρ B H RA' ρ' B' H' := ⟨g.pre, g.bl, g.base, fun a o e k => g.keep a o e fun r hr => h r (k r hr), g.new, g.bn, fun r hl hm => g.kd r hl (h r hm)⟩
theorem Done.sub (h : ∀ r, mu r = false → mu' r = false) (d : Done W Wx mu RA ρ B H Dn o) : Done W Wx mu' RA ρ B H Dn o := by
  cases o with
  | nx _ _ => exact fun RA' B' H' σ' g => d RA' B' H' σ' (g.sub h)
  | brk _ _ => exact fun RA' B' H' σ' g => d RA' B' H' σ' (g.sub h)
  | ct _ _ => exact fun RA' B' H' σ' g => d RA' B' H' σ' (g.sub h)
  | ret _ _ _ => exact fun RA' B' H' v g => d RA' B' H' v (g.sub h)
  | exc _ _ _ _ => exact fun RA' B' H' σ' cls dx g => d RA' B' H' σ' cls dx (g.sub h)
  | bad => exact d
theorem Done.mono (g : Grow W mu RA ρ B H RA1 ρ1 B1 H1) (d : Done W Wx mu RA ρ B H Dn o) : Done W Wx mu RA1 ρ1 B1 H1 Dn o := by
  cases o with
  | nx _ _ => exact fun RA' B' H' σ' g2 => d RA' B' H' σ' (g.trans g2)
  | brk _ _ => exact fun RA' B' H' σ' g2 => d RA' B' H' σ' (g.trans g2)
  | ct _ _ => exact fun RA' B' H' σ' g2 => d RA' B' H' σ' (g.trans g2)
  | ret fr _ _ => exact fun RA' B' H' v g2 r => d RA' B' H' v (g.trans g2) (by
      unfold ResAt at r ⊢
      split
      · rename_i hf
        rw [if_pos hf] at r
        obtain ⟨p, h1, h2, h3⟩ := r
        exact ⟨p, h1, g.free h2, h3⟩
      · rename_i hf
        rw [if_neg hf] at r
        exact r)
  | exc _ _ _ _ => exact fun RA' B' H' σ' cls dx g2 => d RA' B' H' σ' cls dx (g.trans g2)
  | bad => exact d
end
/-- an expression within a statement -/
def withE {α : Type} (r : Res α) (ρ : List D) (σ : Env) (k : α → Out) : Out := match r with
  | .ok a => k a
  | .exc c fs => .exc c fs ρ σ
  | .bad => .bad
theorem Done.withE {α : Type} {W : Wd} {Wx : WX} {RA : List Addr} {ρ : List D} {B H : Hp} {mu : Nat → Bool} {Dn : Ends} {r : Res α} {σd : Env} {σ : L2.St} {k : α → Out} (b : Base W RA ρ B H) (l : LocOk W RA B σd σ) (h : Done W Wx mu RA ρ B H Dn (Dd.withE r ρ σd k)) :
    Aw W Wx RA ρ σ B H r fun a B' H' => Done W Wx mu RA ρ B' H' Dn (k a) := by
  cases r with
  | ok a => exact fun B' H' af => Done.mono (.of_aft mu af) h
  | exc c fs => exact fun cls dx B' H' af x => h RA B' H' σ cls dx (.of_aft mu af) (l.ex af.bl) x
  | bad => exact h

/-! ### statements -/
def seqS (s t : SF) : SF := fun mu ρ σ => match s mu ρ σ with
  | .nx ρ' σ' => t mu ρ' σ'
  | o => o
def passS : SF := fun _ ρ σ => .nx ρ σ
def retS (f : EF) : SF := fun _ ρ σ => withE (f ρ σ) ρ σ fun d => .ret false d ρ
/-- return of a new thing -/
def retF (f : EF) : SF := fun _ ρ σ => withE (f ρ σ) ρ σ fun d => .ret true d ρ
def asgS (f : EF) (g : TGF) : SF := fun _ ρ σ => withE (f ρ σ) ρ σ fun d => match g ρ d σ with
  | some σ' => .nx ρ σ'
  | none => .bad
/-- a name gets a new thing, as a root -/
def ownS (i : Nat) (f : EF) : SF := fun _ ρ σ => withE (f ρ σ) ρ σ fun d => .nx (ρ ++ [d]) (σ.set i (some (.rt ρ.length)))
def iffS (t : TF) (s u : SF) : SF := fun mu ρ σ => withE (t ρ σ) ρ σ fun c => if c = true then s mu ρ σ else u mu ρ σ
def expS (f : EF) : SF := fun _ ρ σ => withE (f ρ σ) ρ σ fun _ => .nx ρ σ
def forL (g : TGF) (body : SF) (mu : Nat → Bool) : List D → List D → Env → Out
  | [], ρ, σ => .nx ρ σ
  | d :: ds, ρ, σ => match g ρ d σ with
    | none => .bad
    | some σ1 => match body mu ρ σ1 with
      | .nx ρ' σ' => forL g body mu ds ρ' σ'
      | .ct ρ' σ' => forL g body mu ds ρ' σ'
      | .brk ρ' σ' => .nx ρ' σ'
      | .ret fr d ρ' => .ret fr d ρ'
      | .exc c fs ρ' σ' => .exc c fs ρ' σ'
      | .bad => .bad
def forS (f : IF) (g : TGF) (body : SF) : SF := fun mu ρ σ => withE (f ρ σ) ρ σ fun p => forL g body (fun r => mu r && !p.2.contains r) p.1 ρ σ
section
variable {X : Cx} {W : Wd} {Wx : WX} {e c tg : Expr} {st : Stmt} {rest b1 b2 : List Stmt} {f : EF} {g : TGF} {s t u : SF} {tf : TF} {ws : List Nat} {pos : Pos} {mu : Nat → Bool}
/-- a statement's, a block's reading, whatever roots may be changed -/
def PSd (X : Cx) (W : Wd) (Wx : WX) (st : Stmt) (f : SF) : Prop := ∀ mu, PS X st (tS W Wx mu f)
def PSsd (X : Cx) (W : Wd) (Wx : WX) (st : List Stmt) (f : SF) : Prop := ∀ mu, PSs X st (tS W Wx mu f)
theorem dss_nil : PSsd X W Wx [] passS := fun mu => pss_weak pss_nil fun Dn σ H ⟨RA, ρ, σd, B, b, l, q⟩ => q RA B H σ (.refl mu b) l
theorem dss_one (h : PSd X W Wx st s) : PSsd X W Wx [st] s := fun mu => pss_one (h mu)
theorem dss_cons (h : PSd X W Wx st s) (k : PSsd X W Wx rest t) : PSsd X W Wx (st :: rest) (seqS s t) := fun mu => pss_weak (pss_cons (h mu) (k mu)) fun Dn σ H ⟨RA, ρ, σd, B, b, l, q⟩ => ⟨RA, ρ, σd, B, b, l, by
  unfold seqS at q
  cases e : s mu ρ σd with
  | nx ρ' σ' =>
    rw [e] at q
    exact fun RA' B' H' σ2 gr l' => ⟨RA', ρ', σ', B', gr.base, l', Done.mono gr q⟩
  | ret fr d ρ' => rw [e] at q; exact q
  | brk ρ' σ' => rw [e] at q; exact q
  | ct ρ' σ' => rw [e] at q; exact q
  | exc c fs ρ' σ' => rw [e] at q; exact q
  | bad => rw [e] at q; exact q⟩
theorem ds_pass : PSd X W Wx (.Pass pos) passS := fun mu => ps_weak ps_pass fun Dn σ H ⟨RA, ρ, σd, B, b, l, q⟩ => q RA B H σ (.refl mu b) l
theorem ds_ret (he : PE X e (tE W Wx f)) : PSd X W Wx (.Return (some e) pos) (retS f) := fun mu => ps_weak (ps_ret he) fun Dn σ H ⟨RA, ρ, σd, B, b, l, q⟩ =>
  ⟨RA, ρ, σd, B, b, l, (Done.withE b l q).imp fun d B1 H1 a1 q1 v rv => q1 RA B1 H1 v (.refl mu a1.base) rv⟩
theorem ds_retF (he : PE X e (tF W Wx f)) : PSd X W Wx (.Return (some e) pos) (retF f) := fun mu => ps_weak (ps_ret he) fun Dn σ H ⟨RA, ρ, σd, B, b, l, q⟩ => ⟨RA, ρ, σd, B, b, l, by
    cases hf : f ρ σd with
    | bad => unfold retF at q; rw [hf] at q; exact q
    | exc c fs => unfold retF at q; rw [hf] at q; exact fun cls dx B' H' af x => q RA B' H' σ cls dx (.of_aft mu af) (l.ex af.bl) x
    | ok d => unfold retF at q; rw [hf] at q; exact fun B1 H1 a1 v fr => q RA B1 H1 v (.of_aft mu a1) fr⟩
theorem ds_exp (he : PE X e (tE W Wx f)) (hs : swapsWith e none pos.line X.env = pure false := by rfl) : PSd X W Wx (.Expr e pos) (expS f) := fun mu => ps_weak (ps_expr he hs) fun Dn σ H ⟨RA, ρ, σd, B, b, l, q⟩ =>
  ⟨RA, ρ, σd, B, b, l, (Done.withE b l q).imp fun d B1 H1 a1 q1 v rv => q1 RA B1 H1 σ (.refl mu a1.base) (l.ex a1.bl)⟩
theorem ds_asg (he : PE X e (tE W Wx f)) (hg : PG X tg (tG W ws g)) (hs : swapsWithSole [tg] e pos.line X.env = pure false := by rfl) (hw : swappedStores [tg] e X.env = pure none := by rfl)
    (h1 : (assignEach [tg] X.env).map (·.2) = [assign tg X.env] := by rfl) : PSd X W Wx (.Assign [tg] e pos) (asgS f g) := fun mu => ps_weak (ps_asg he hg hs hw h1) fun Dn σ H ⟨RA, ρ, σd, B, b, l, q⟩ =>
  ⟨RA, ρ, σd, B, b, l, (Done.withE b l q).imp fun d B1 H1 a1 q1 v rv => by
    split at q1
    · rename_i σ' e
      exact ⟨RA, ρ, σd, B1, d, a1.base, l.ex a1.bl, rv, σ', e, fun σ2 l2 _ => q1 RA B1 H1 σ2 (.refl mu a1.base) l2⟩
    · exact False.elim q1⟩
theorem ds_set {i : Nat} {x : Str} {pos' : Pos} (hN : X.N.Nodup) (hi : X.N[i]? = some x) (hx : Loc X.env.scope x) (he : PE X e (tE W Wx f)) (hs : swapsWith e (some (.Name x pos')) pos.line X.env = pure false := by rfl) (hf : X.fn x = true ∨ X.env.scope.names.lookup x = some .local := by first | exact .inl rfl | exact .inr rfl | assumption) :
    PSd X W Wx (.Assign [.Name x pos'] e pos) (asgS f (nameG i)) := fun mu => ps_weak (ps_set (i := i) hN hi hx he hs hf) fun Dn σ H ⟨RA, ρ, σd, B, b, l, q⟩ =>
  ⟨RA, ρ, σd, B, b, l, (Done.withE b l q).imp fun d B1 H1 a1 q1 v rv => q1 RA B1 H1 _ (.refl mu a1.base) ((l.ex a1.bl).set rv i)⟩
/-- a new root -/
theorem Grow.root {RA : List Addr} {ρ : List D} {B H : Hp} {d : D} {v : V} {B0 H0 : Hp} (af : Aft W RA ρ B0 H0 B H) (fr : Fresh W RA H0 B H d v) (mu : Nat → Bool) :
    ∃ p, v = .ref p ∧ Grow W mu RA ρ B0 H0 (RA ++ [p]) (ρ ++ [d]) B H ∧ Rep W (RA ++ [p]) B (.rt ρ.length) v := by
  obtain ⟨p, rfl, hn, h1, h2, h3⟩ := fr
  have b := af.base
  have old : ∀ (r : Nat) (a : Addr), RA[r]? = some a → (RA ++ [p])[r]? = some a := fun r a h => by rw [List.getElem?_append_left (List.getElem?_eq_some_iff.mp h).1]; exact h
  have last : ∀ (r : Nat) (a : Addr), (RA ++ [p])[r]? = some a → RA.length ≤ r → r = RA.length ∧ a = p := fun r a hr hle => by
    have hl := (List.getElem?_eq_some_iff.mp hr).1
    simp at hl
    have hl2 : r = RA.length := by omega
    subst hl2
    rw [List.getElem?_append_right (Nat.le_refl _)] at hr
    simp at hr
    exact ⟨rfl, hr.symm⟩
  refine ⟨p, rfl, ⟨⟨[p], rfl⟩, af.bl, ⟨b.le, by simp [b.len], ?_, ?_, fun r a d' hr hd => ?_⟩, fun a o h _ => af.hp a o h, fun r a hle hr => ?_, af.bn, fun r hl _ => by rw [List.getElem?_append_left (by rw [← b.len]; exact hl)]⟩, ?_⟩
  · rw [List.nodup_append]
    exact ⟨b.nd, by simp, fun x hx y hy => by simp at hy; subst hy; exact fun e => h2 (e ▸ hx)⟩
  · intro a ha
    rcases List.mem_append.mp ha with ha | ha
    · exact b.out a ha
    · simp at ha; subst ha; exact h1
  · by_cases hl : r < RA.length
    · rw [List.getElem?_append_left hl] at hr
      rw [List.getElem?_append_left (by rw [← b.len]; exact hl)] at hd
      exact (b.roots r a d' hr hd).mono (Ex.refl B) old fun o h => h
    · obtain ⟨rfl, rfl⟩ := last r a hr (by omega)
      rw [List.getElem?_append_right (by rw [← b.len]; exact Nat.le_refl _), ← b.len] at hd
      simp at hd
      subst hd
      exact h3.mono (Ex.refl B) old fun o h => h
  · obtain ⟨_, rfl⟩ := last r a hr hle
    exact hn
  · simp only [Rep]
    exact ⟨p, rfl, by rw [← b.len, List.getElem?_append_right (Nat.le_refl _)]; simp⟩
theorem ds_own {i : Nat} {x : Str} {pos' : Pos} (hN : X.N.Nodup) (hi : X.N[i]? = some x) (hx : Loc X.env.scope x) (he : PE X e (tF W Wx f)) (hs : swapsWith e (some (.Name x pos')) pos.line X.env = pure false := by rfl) (hf : X.fn x = true ∨ X.env.scope.names.lookup x = some .local := by first | exact .inl rfl | exact .inr rfl | assumption) :
    PSd X W Wx (.Assign [.Name x pos'] e pos) (ownS i f) := fun mu => ps_weak (ps_set (i := i) hN hi hx he hs hf) fun Dn σ H ⟨RA, ρ, σd, B, b, l, q⟩ => ⟨RA, ρ, σd, B, b, l, by
    cases hf : f ρ σd with
    | bad => unfold ownS at q; rw [hf] at q; exact q
    | exc c fs => unfold ownS at q; rw [hf] at q; exact fun cls dx B' H' af x => q RA B' H' σ cls dx (.of_aft mu af) (l.ex af.bl) x
    | ok d =>
      unfold ownS at q
      rw [hf] at q
      refine fun B1 H1 a1 v fr => ?_
      obtain ⟨p, rfl, gr, rr⟩ := Grow.root a1 fr mu
      exact q _ _ _ _ gr ((l.mono a1.bl gr.ra).set rr i)⟩
theorem ds_if (hc : PT X c (tT W Wx tf)) (h1 : PSsd X W Wx b1 s) (h2 : PSsd X W Wx b2 t) : PSd X W Wx (.If c b1 b2 pos) (iffS tf s t) := fun mu => ps_weak (ps_if hc (h1 mu) (h2 mu)) fun Dn σ H ⟨RA, ρ, σd, B, b, l, q⟩ =>
  ⟨RA, ρ, σd, B, b, l, (Done.withE b l q).imp fun c B1 H1 a1 q1 => by
    cases c with
    | true => exact ⟨RA, ρ, σd, B1, a1.base, l.ex a1.bl, q1⟩
    | false => exact ⟨RA, ρ, σd, B1, a1.base, l.ex a1.bl, q1⟩⟩
theorem ds_for {iter : Expr} {body : List Stmt} {fi : IF} (hp : PassesOwn (model X.prog X.w) X.A X.env X.xe) (hc : X.calm = true) (hi : PI X tg iter (tI W Wx fi)) (hg : PG X tg (tG W ws g)) (hb : PSsd X W Wx body s) (hs : ∀ x, foldedSetIterable iter X.env x = pure x := by intro _; rfl) :
    PSd X W Wx (.For tg iter body [] pos) (forS fi g s) := fun mu => by
  -- the body's promise for each set of roots: chosen by what is walked
  refine ⟨fun pins sh σ H Dn I hq => ?_⟩
  obtain ⟨RA, ρ, σd, B, b, l, q⟩ := hq
  let lkOf : List Nat := match fi ρ σd with
    | .ok p => p.2
    | _ => []
  refine (ps_for hp hc hi hg (hb fun r => mu r && !lkOf.contains r) hs).run pins sh σ H Dn I ?_
  refine ⟨RA, ρ, σd, B, b, l, ?_⟩
  have q := Done.withE b l q
  cases hf : fi ρ σd with
  | bad => rw [hf] at q; exact q
  | exc c fs => rw [hf] at q; exact q
  | ok p =>
    rw [hf] at q
    have hlk : lkOf = p.2 := by show (match fi ρ σd with | .ok p => p.2 | _ => []) = p.2; rw [hf]
    obtain ⟨ds, lk⟩ := p
    refine fun B1 H1 a1 J ij => ?_
    have hsub : ∀ r, mu r = false → (mu r && !lk.contains r) = false := fun r h => by rw [h]; rfl
    have q1 := Done.sub hsub (q B1 H1 a1)
    have hmu : (fun r => mu r && !lkOf.contains r) = fun r => mu r && !lk.contains r := by rw [hlk]
    simp only [hmu]
    refine ⟨fun i m σ H' => m = ds.length - i ∧ i ≤ ds.length ∧ ∃ RA' ρ' σd' B', Grow W (fun r => mu r && !lk.contains r) RA ρ B1 H1 RA' ρ' B' H' ∧ LocOk W RA' B' σd' σ ∧ Done W Wx (fun r => mu r && !lk.contains r) RA' ρ' B' H' Dn (forL g s (fun r => mu r && !lk.contains r) (ds.drop i) ρ' σd'),
      ⟨ds.length, by simp, Nat.zero_le _, RA, ρ, σd, B1, .refl _ a1.base, l.ex a1.bl, by simpa using q1⟩, ?_⟩
    rintro i m σ H2 ⟨rfl, hi2, RA', ρ', σd', B', gr, l2, dn⟩
    have it := ij i RA' ρ' B' H2 gr.base gr.bl gr.ra (fun r hr a o ha ho => gr.keep a o ho fun r' hr' => by
      have : r' = r := by
        have h1 := (List.getElem?_eq_some_iff.mp hr').1
        exact (List.getElem?_inj h1 a1.base.nd).mp (hr'.trans ha.symm)
      subst this
      have : lk.contains r' = true := by simpa using hr
      show (mu r' && !lk.contains r') = false
      rw [this]
      simp)
    by_cases hlt : i < ds.length
    · obtain ⟨go, yl⟩ := it.1 ds[i] (List.getElem?_eq_getElem hlt)
      rw [List.drop_eq_getElem_cons hlt] at dn
      refine .inr ⟨go, fun σ' H' => ∃ RA' ρ' σd' B', Grow W (fun r => mu r && !lk.contains r) RA ρ B1 H1 RA' ρ' B' H' ∧ LocOk W RA' B' σd' σ' ∧ Done W Wx (fun r => mu r && !lk.contains r) RA' ρ' B' H' Dn (forL g s (fun r => mu r && !lk.contains r) (ds.drop (i + 1)) ρ' σd'),
        fun σ' H' n => ⟨ds.length - (i + 1), by omega, rfl, hlt, n⟩, fun x H3 y => ?_⟩
      obtain ⟨B3, a3, rx⟩ := yl x H3 y
      have dn3 := Done.mono (.of_aft (fun r => mu r && !lk.contains r) a3) dn
      simp only [forL] at dn3
      split at dn3
      · exact False.elim dn3
      · rename_i σ1 e1
        refine ⟨RA', ρ', σd', B3, ds[i], a3.base, l2.ex a3.bl, rx, σ1, e1, fun σ4 l4 _ => ?_⟩
        refine ⟨RA', ρ', σ1, B3, a3.base, l4, ?_⟩
        have g3 : Grow W (fun r => mu r && !lk.contains r) RA ρ B1 H1 RA' ρ' B3 H3 := gr.trans (.of_aft _ a3)
        split at dn3 <;> rename_i e2
        · rw [e2]
          exact fun RA5 B5 H5 σ5 g5 l5 => ⟨RA5, _, _, B5, g3.trans g5, l5, Done.mono g5 dn3⟩
        · rw [e2]
          exact fun RA5 B5 H5 σ5 g5 l5 => ⟨RA5, _, _, B5, g3.trans g5, l5, Done.mono g5 dn3⟩
        · rw [e2]; exact dn3
        · rw [e2]; exact dn3
        · rw [e2]; exact dn3
        · exact False.elim dn3
    · have e : i = ds.length := by omega
      subst e
      refine .inl ⟨it.2 (Nat.le_refl _), ?_⟩
      rw [List.drop_length] at dn
      exact dn RA' B' H2 σ (.refl _ gr.base) l2
end
end Dd

set_option Elab.async false
set_option linter.all false
set_option maxRecDepth 100000
set_option maxHeartbeats 2000000
/-! DdComp: list comprehensions by data -/
namespace Dd
open PySem PySem.Spec PyProof.Rows L2 Evl OwnO My

/-- nothing may be raised within a block -/
def WF : WX := fun _ _ _ _ => False
def yesT : TF := fun _ _ => .ok true
def lcL (g : TGF) (t : TF) (f : EF) (ρ : List D) (σ : Env) : List D → Res (List D)
  | [] => .ok []
  | d :: ds => match g ρ d σ with
    | none => .bad
    | some σ1 => (t ρ σ1).bind fun k => if k = true then (f ρ σ1).bind fun y => (lcL g t f ρ σ ds).bind fun ys => .ok (y :: ys) else lcL g t f ρ σ ds
def okOnly {α : Type} : Res α → Res α
  | .ok a => .ok a
  | _ => .bad
/-- [f for g in fi if t]; vs: the block's own slots -/
def lcS (fi : IF) (g : TGF) (t : TF) (f : EF) (vs : List Nat) : EF := fun ρ σ => (fi ρ σ).bind fun p => if p.1.length ≤ 100000 then (okOnly (lcL g t f ρ (wipeD σ vs) p.1)).bind fun ys => .ok (.lst ys) else .bad
theorem Base.upd {W : Wd} {RA : List Addr} {ρ : List D} {B H : Hp} (b : Base W RA ρ B H) {p : Addr} {o : HO} (h1 : B p = none) (h2 : p ∉ RA) : Base W RA ρ B (upd H p o) := ⟨fun a u e => by
    rw [upd_ne (fun z => by subst z; rw [h1] at e; cases e)]; exact b.le a u e, b.len, b.nd, b.out, fun r a d h3 h4 => (b.roots r a d h3 h4).mono (Ex.refl B) (fun _ _ q => q) fun o' h => by
    rw [upd_ne (fun z => by subst z; exact h2 (List.mem_of_getElem? h3))]; exact h⟩
theorem wipe_off {σ σ' : L2.St} : ∀ {vs : List Nat}, (∀ i, i ∉ vs → σ'[i]? = σ[i]?) → σ'.length = σ.length → wipe σ' vs = wipe σ vs := by
  intro vs h hl
  apply List.ext_getElem?
  intro i
  by_cases hi : i ∈ vs
  · have q : ∀ (τ : L2.St) (us : List Nat), i ∈ us → (wipe τ us)[i]? = if i < τ.length then some none else none := fun τ us => by
      induction us with
      | nil => intro z; cases z
      | cons v us ih =>
        intro hm
        show ((wipe τ us).set v none)[i]? = _
        by_cases e : v = i
        · subst e
          by_cases hl : v < τ.length
          · rw [List.getElem?_set_self (by rw [wipe_length]; exact hl), if_pos hl]
          · rw [List.getElem?_eq_none (by rw [List.length_set, wipe_length]; omega), if_neg hl]
        · rw [List.getElem?_set_ne e]
          exact ih ((List.mem_cons.mp hm).resolve_left fun z => e z.symm)
    rw [q _ _ hi, q _ _ hi, hl]
  · rw [wipe_out hi, wipe_out hi]; exact h i hi
theorem wipe_wipe {σ σ2 : L2.St} {vs ws : List Nat} (o : Off ws (wipe σ vs) σ2) (hs : ∀ i ∈ ws, i ∈ vs) : wipe σ2 vs = wipe σ vs := by
  have h1 : wipe σ2 vs = wipe (wipe σ vs) vs := wipe_off (fun i hi => o.2 i fun z => hi (hs i z)) o.1
  rw [h1]
  exact wipe_off (fun i hi => wipe_out hi) (wipe_length σ vs)
section
variable {X : Cx} {W : Wd} {Wx : WX} {elt tg iter : Expr} {ifs : List Expr} {fi : IF} {g : TGF} {t : TF} {f : EF} {ws vs : List Nat}
theorem pts_weak {t t' : TT} (h : PTs X ifs t) (k : ∀ σ H Q, t' σ H Q → t σ H Q) : PTs X ifs t' := ⟨fun pins s σ H Q I q => h.run pins s σ H Q I (k σ H Q q)⟩
theorem dts_nil : PTs X [] (tT W Wx yesT) := pts_weak pts_nil fun σ H Q ⟨RA, ρ, σd, B, b, l, q⟩ => q.here b
theorem dts_one {c : Expr} (h : PT X c (tT W Wx t)) : PTs X [c] (tT W Wx t) := pts_one h
/-- the reading of a list comprehension -/
theorem tF_lc (hs : ∀ i ∈ ws, i ∈ vs) (σ : L2.St) (H : Hp) (Q : VK) : tF W Wx (lcS fi g t f vs) σ H Q → tLc (tI W Wx fi) (tG W ws g) (tT W WF t) (tE W WF f) vs σ H Q := fun ⟨RA, ρ, σd, B, b, l, q⟩ => ⟨RA, ρ, σd, B, b, l, by
  have q := Aw.bind q
  cases hf : fi ρ σd with
  | bad => rw [hf] at q; exact q
  | exc c fs => rw [hf] at q; exact q
  | ok p =>
    obtain ⟨ds, lk⟩ := p
    rw [hf] at q
    refine fun B1 H1 a1 J ij D0 hD => ?_
    have q1 := q B1 H1 a1
    dsimp only at q1
    split at q1
    · rename_i hz
      cases hl : lcL g t f ρ (wipeD σd vs) ds with
      | bad => rw [hl] at q1; exact False.elim q1
      | exc c fs => rw [hl] at q1; exact False.elim q1
      | ok ys =>
        rw [hl] at q1
        have q1 : ∀ B' H', Aft W RA ρ B1 H1 B' H' → ∀ v, Fresh W RA H B' H' (.lst ys) v → Q v H' := q1
        have hDout := a1.base.fresh_out hD
        have lw : LocOk W RA B1 (wipeD σd vs) (wipe σ vs) := (l.ex a1.bl).wipe vs
        -- between two turns
        let Pv : Nat → Hp → Prop := fun i H2 => ∃ B2 acc zs, (∀ x o, B2 x = some o → B1 x = some o ∨ H1 x = none) ∧ Ex B1 B2 ∧ Ex H1 H2 ∧ Base W RA ρ B2 H2 ∧ B2 D0 = none ∧ H2 D0 = some (.lst acc) ∧ RepL W RA B2 zs acc ∧ zs.length ≤ i ∧ ∃ rest, lcL g t f ρ (wipeD σd vs) (ds.drop i) = .ok rest ∧ ys = zs ++ rest
        refine ⟨fun i m H2 => m = ds.length - i ∧ i ≤ ds.length ∧ Pv i H2, ⟨ds.length, by simp, Nat.zero_le _, B1, [], [], fun _ _ h => .inl h, Ex.refl _, Ex.new hD, a1.base.upd hDout.1 hDout.2, hDout.1, upd_same, .nil, Nat.zero_le _, ys, by simpa using hl, rfl⟩, ?_⟩
        rintro i m H2 ⟨rfl, hi, B2, acc, zs, bn, e1, e2, b2, hD2, hacc, hzs, hlen, rest, hrest, hys⟩
        have it := ij i RA ρ B2 H2 b2 e1 (fun _ _ h => h) (fun r _ a o _ ho => e2 a o ho)
        by_cases hlt : i < ds.length
        · obtain ⟨go, yl⟩ := it.1 ds[i] (List.getElem?_eq_getElem hlt)
          rw [List.drop_eq_getElem_cons hlt] at hrest
          simp only [lcL] at hrest
          refine .inr ⟨go, Pv (i + 1), fun H' p => ⟨ds.length - (i + 1), by omega, rfl, hlt, p⟩, fun x H3 y => ?_⟩
          obtain ⟨B3, a3, rx⟩ := yl x H3 y
          have l3 : LocOk W RA B3 (wipeD σd vs) (wipe σ vs) := (lw.ex e1).ex a3.bl
          -- the list that grows is no part of what freezes
          have out3 : ∀ {B4 H4 : Hp}, Aft W RA ρ B2 H2 B4 H4 → B4 D0 = none := fun {B4 H4} a => by
            cases e : B4 D0 with
            | none => rfl
            | some o =>
              rcases a.bn D0 o e with h | h
              · rw [hD2] at h; cases h
              · rw [hacc] at h; cases h
          have bn2 : ∀ {B4 H4 : Hp}, Aft W RA ρ B2 H2 B4 H4 → ∀ x o, B4 x = some o → B1 x = some o ∨ H1 x = none := fun {B4 H4} a x o h => by
            rcases a.bn x o h with h | h
            · exact bn x o h
            · exact .inr (fresh_back e2 h)
          split at hrest
          · cases hrest
          · rename_i σ1 e3
            refine ⟨RA, ρ, wipeD σd vs, B3, ds[i], a3.base, l3, rx, σ1, e3, fun σ4 l4 o4 => ⟨wipe_wipe o4 hs, ?_⟩⟩
            refine ⟨RA, ρ, σ1, B3, a3.base, l4, ?_⟩
            cases ht : t ρ σ1 with
            | bad => rw [ht] at hrest; cases hrest
            | exc c fs => rw [ht] at hrest; cases hrest
            | ok k =>
              rw [ht] at hrest
              simp only [Res.bind] at hrest
              refine fun B4 H4 a4 => ?_
              have a24 := a3.trans a4
              cases k with
              | false =>
                simp only [Bool.false_eq_true, if_false] at hrest ⊢
                exact ⟨B4, acc, zs, bn2 a24, e1.trans a24.bl, e2.trans a24.hp, a4.base, out3 a24, a24.hp D0 _ hacc, hzs.ex a24.bl, Nat.le_succ_of_le hlen, rest, hrest, hys⟩
              | true =>
                simp only [if_true] at hrest ⊢
                refine ⟨RA, ρ, σ1, B4, a4.base, l4.ex a4.bl, ?_⟩
                cases hf2 : f ρ σ1 with
                | bad => rw [hf2] at hrest; cases hrest
                | exc c fs => rw [hf2] at hrest; cases hrest
                | ok d =>
                  rw [hf2] at hrest
                  simp only [Res.bind] at hrest
                  cases hr2 : lcL g t f ρ (wipeD σd vs) (List.drop (i + 1) ds) with
                  | bad => rw [hr2] at hrest; cases hrest
                  | exc c fs => rw [hr2] at hrest; cases hrest
                  | ok rest2 =>
                    rw [hr2] at hrest
                    cases hrest
                    refine fun B5 H5 a5 v rv => ?_
                    have a25 := a24.trans a5
                    have hD5 := out3 a25
                    have hacc5 := a25.hp D0 _ hacc
                    refine ⟨acc, hacc5, sz_lt (by have := hzs.len; omega), B5, acc ++ [v], zs ++ [d], bn2 a25, e1.trans a25.bl, ?_, a5.base.upd hD5 hDout.2, hD5, upd_same, (hzs.ex a25.bl).append (.cons rv .nil), by rw [List.length_append]; exact Nat.succ_le_succ hlen, rest2, hr2, by rw [hys]; simp⟩
                    exact (e2.trans a25.hp).mut hD
        · have e : i = ds.length := by omega
          subst e
          refine .inl ⟨it.2 (Nat.le_refl _), ?_⟩
          rw [List.drop_length] at hrest
          cases hrest
          rw [List.append_nil] at hys
          subst hys
          refine q1 B2 H2 ⟨e2, e1, b2, bn⟩ _ ⟨D0, rfl, fresh_back a1.hp hD, hD2, hDout.2, acc, hacc, hzs⟩
    · exact False.elim q1⟩
section
variable {scope : Scope} {own : List (Str × Nat)} {pos : Pos}
theorem f_lc (hc : X.calm = true) (hN : X.N.Nodup) (hi : PI X tg iter (tI W Wx fi)) (ok : BlkOk X.N X.env.scope scope own) (hws : ∀ i ∈ ws, i ∈ own.map (·.2))
    (hg : ∀ (s : Shared) (H : Hp) (C : Addr) (cl : List (Str × Addr)) (fp : List Addr), PG (X.blk s H scope (compEnvC scope cl C X.env) fp) tg (tG W ws g)) (ht : ∀ (s : Shared) (H : Hp) (C : Addr) (cl : List (Str × Addr)) (fp : List Addr), PTs (X.blk s H scope (compEnvC scope cl C X.env) fp) ifs (tT W WF t))
    (he : ∀ (s : Shared) (H : Hp) (C : Addr) (cl : List (Str × Addr)) (fp : List Addr), PE (X.blk s H scope (compEnvC scope cl C X.env) fp) elt (tE W WF f)) (hs : ∀ x, foldedSetIterable iter X.env x = pure x := by intro _; rfl) :
    PE X (.ListComp elt [⟨tg, iter, ifs, 0⟩] scope pos) (tF W Wx (lcS fi g t f (own.map (·.2)))) := pe_weak (pe_lc hc hN hi ok hg ht he hs) (tF_lc hws)
/-- name = [..] -/
theorem ds_setLc {i : Nat} {y : Str} {py spos : Pos} (hc : X.calm = true) (hN : X.N.Nodup) (hy : X.N[i]? = some y) (hyl : X.env.scope.names.lookup y = some .local)
    (hsw : swapsWith (.ListComp elt [⟨tg, iter, ifs, 0⟩] scope pos) (some (.Name y py)) spos.line X.env = pure true) (hi : PI X tg iter (tI W Wx fi)) (ok : BlkOk X.N X.env.scope scope own) (hws : ∀ i ∈ ws, i ∈ own.map (·.2))
    (hg : ∀ (s : Shared) (H : Hp) (C : Addr) (cl : List (Str × Addr)) (fp : List Addr), PG (X.blk s H scope (compEnvC scope cl C X.env) fp) tg (tG W ws g)) (ht : ∀ (s : Shared) (H : Hp) (C : Addr) (cl : List (Str × Addr)) (fp : List Addr), PTs (X.blk s H scope (compEnvC scope cl C X.env) fp) ifs (tT W WF t))
    (he : ∀ (s : Shared) (H : Hp) (C : Addr) (cl : List (Str × Addr)) (fp : List Addr), PE (X.blk s H scope (compEnvC scope cl C X.env) fp) elt (tE W WF f)) (hs : ∀ x, foldedSetIterable iter X.env x = pure x := by intro _; rfl) :
    PSd X W Wx (.Assign [.Name y py] (.ListComp elt [⟨tg, iter, ifs, 0⟩] scope pos) spos) (asgS (lcS fi g t f (own.map (·.2))) (nameG i)) := fun mu => ps_weak (ps_setLc (i := i) hc hN hy hyl hsw hi ok hg ht he hs) fun Dn σ H ⟨RA, ρ, σd, B, b, l, q⟩ =>
  tF_lc hws σ H _ ⟨RA, ρ, σd, B, b, l, (Done.withE b l q).imp2 fun d k B1 H1 a1 v fr => by
    obtain ⟨B2, a2, r⟩ := Fresh.freeze a1 fr
    exact k B2 H1 a2 RA B2 H1 _ (.refl mu a2.base) ((l.ex a2.bl).set r i)⟩
end
end
end Dd

set_option Elab.async false
set_option linter.all false
set_option maxRecDepth 100000
set_option maxHeartbeats 2000000
/-! DdFn: defs by data: what a def gives (run), that it keeps to it (spF, fnOk_d); calls -/
namespace Dd
open PySem PySem.Spec PyProof.Rows L2 Evl OwnO My

mutual
/-- all roots in d are below n -/
def okRt (n : Nat) : D → Bool
  | .tup l => okRtL n l
  | .lst l => okRtL n l
  | .st l => okRtL n l
  | .dct _ l => okRtL n l
  | .wd _ l => okRtL n l
  | .ins _ l => okRtL n l
  | .exn _ l => okRtL n l
  | .rt r => decide (r < n)
  | .scr l => okRtL n l
  | _ => true
def okRtL (n : Nat) : List D → Bool
  | [] => true
  | d :: l => okRt n d && okRtL n l
end
inductive RRes where
  | ok (fr : Bool) (d : D) (ρ : List D) | exc (c : Nat) (fs : List D) (ρ : List D) | bad
/-- what calls give: the def's number, which roots may be changed, the roots, the arguments -/
abbrev Orc := Nat → (Nat → Bool) → List D → List D → RRes
structure Fn where
  np : Nat
  nl : Nat
  body : Orc → SF
/-- the roots below n0 that may have changed hold no root of the def's own -/
def keptOk (n0 : Nat) (mu : Nat → Bool) (ρ : List D) : Bool := (List.range n0).all fun r => !mu r || okRt n0 (ρ.getD r .non)
/-- the end of a def that was entered with n0 roots -/
def finR (n0 : Nat) (mu : Nat → Bool) : Out → RRes
  | .nx ρ _ => if keptOk n0 mu ρ = true then .ok false .non (ρ.take n0) else .bad
  | .ret fr d ρ => if keptOk n0 mu ρ = true then match d with
      | .rt r => if r < n0 then .ok false (.rt r) (ρ.take n0) else match ρ[r]? with
        | some c => if okRt n0 c = true then .ok true c (ρ.take n0) else .bad
        | none => .bad
      | d => if okRt n0 d = true then .ok fr d (ρ.take n0) else .bad
    else .bad
  | .exc c fs ρ _ => if keptOk n0 mu ρ = true ∧ okRtL n0 fs = true then .exc c fs (ρ.take n0) else .bad
  | _ => .bad
def run (T : Nat → Option Fn) : Nat → Orc
  | 0 => fun _ _ _ _ => .bad
  | n + 1 => fun g mu ρ ds => match T g with
    | none => .bad
    | some F => if ds.length = F.np then finR ρ.length mu (F.body (run T n) (fun r => mu r || decide (ρ.length ≤ r)) ρ (ds.map some ++ List.replicate (F.nl - F.np) none)) else .bad

section
variable {W : Wd} {RA RA' : List Addr} {ρ ρ' : List D} {B B' H H' : Hp}
mutual
theorem Rep.low (n : Nat) (hr : ∀ (r : Nat) (a : Addr), r < n → RA'[r]? = some a → RA[r]? = some a) : ∀ (d : D) (v : V), okRt n d = true → Rep W RA' B d v → Rep W RA B d v
  | .non, v, _, h => by simpa only [Rep] using h
  | .bl b, v, _, h => by simpa only [Rep] using h
  | .int i, v, _, h => by simpa only [Rep] using h
  | .str s, v, _, h => by simpa only [Rep] using h
  | .tup l, v, o, h => by
    simp only [Rep] at h ⊢
    obtain ⟨a, vs, h1, h2, h3⟩ := h
    exact ⟨a, vs, h1, h2, RepL.low n hr l vs (by simpa only [okRt] using o) h3⟩
  | .lst l, v, o, h => by
    simp only [Rep] at h ⊢
    obtain ⟨a, vs, h1, h2, h3⟩ := h
    exact ⟨a, vs, h1, h2, RepL.low n hr l vs (by simpa only [okRt] using o) h3⟩
  | .scr l, v, o, h => by
    simp only [Rep] at h ⊢
    obtain ⟨a, vs, h1, h2, h3⟩ := h
    exact ⟨a, vs, h1, h2, RepL.low n hr l vs (by simpa only [okRt] using o) h3⟩
  | .st l, v, o, h => by simpa only [Rep] using h
  | .dct ks l, v, o, h => by
    simp only [Rep] at h ⊢
    obtain ⟨a, kvs, h1, h2, h3, h4⟩ := h
    exact ⟨a, kvs, h1, h2, h3, RepL.low n hr l _ (by simpa only [okRt] using o) h4⟩
  | .wd ks l, v, o, h => by
    simp only [Rep] at h ⊢
    obtain ⟨a, vs, h1, h2, h3⟩ := h
    exact ⟨a, vs, h1, h2, RepL.low n hr l vs (by simpa only [okRt] using o) h3⟩
  | .ins c fs, v, o, h => by
    simp only [Rep] at h ⊢
    obtain ⟨a, dx, vs, h1, h2, h3, h4⟩ := h
    exact ⟨a, dx, vs, h1, h2, RepL.low n hr fs vs (by simpa only [okRt] using o) h3, h4⟩
  | .exn c fs, v, o, h => by
    simp only [Rep] at h ⊢
    obtain ⟨a, d, h1, h2, h3⟩ := h
    refine ⟨a, d, h1, h2, ?_⟩
    rcases h3 with h3 | ⟨dd, vs, h4, h5, h6, h7⟩
    · exact .inl h3
    · exact .inr ⟨dd, vs, h4, h5, RepL.low n hr fs vs (by simpa only [okRt] using o) h6, h7⟩
  | .rt r, v, o, h => by
    simp only [Rep] at h ⊢
    obtain ⟨a, h1, h2⟩ := h
    exact ⟨a, h1, hr r a (by simpa only [okRt, decide_eq_true_eq] using o) h2⟩
  | .ty n, v, _, h => by simpa only [Rep] using h
  | .cl c, v, _, h => by simpa only [Rep] using h
theorem RepL.low (n : Nat) (hr : ∀ (r : Nat) (a : Addr), r < n → RA'[r]? = some a → RA[r]? = some a) : ∀ (l : List D) (vs : List V), okRtL n l = true → RepL W RA' B l vs → RepL W RA B l vs
  | [], vs, _, h => by simpa only [RepL] using h
  | d :: l, vs, o, h => by
    simp only [RepL] at h ⊢
    simp only [okRtL, Bool.and_eq_true] at o
    obtain ⟨v, us, h1, h2, h3⟩ := h
    exact ⟨v, us, h1, Rep.low n hr d v o.1 h2, RepL.low n hr l us o.2 h3⟩
end
mutual
/-- what is represented has roots of RA alone -/
theorem Rep.okRt : ∀ (d : D) (v : V), Rep W RA B d v → Dd.okRt RA.length d = true
  | .non, v, h => rfl
  | .bl b, v, h => rfl
  | .int i, v, h => rfl
  | .str s, v, h => rfl
  | .tup l, v, h => by
    simp only [Rep] at h
    obtain ⟨a, vs, h1, h2, h3⟩ := h
    simpa only [Dd.okRt] using RepL.okRt l vs h3
  | .lst l, v, h => by
    simp only [Rep] at h
    obtain ⟨a, vs, h1, h2, h3⟩ := h
    simpa only [Dd.okRt] using RepL.okRt l vs h3
  | .scr l, v, h => by
    simp only [Rep] at h
    obtain ⟨a, vs, h1, h2, h3⟩ := h
    simpa only [Dd.okRt] using RepL.okRt l vs h3
  | .st l, v, h => by simp only [Rep] at h; obtain ⟨_, _, h⟩ := h; exact h.elim
  | .dct ks l, v, h => by
    simp only [Rep] at h
    obtain ⟨a, kvs, h1, h2, h3, h4⟩ := h
    simpa only [Dd.okRt] using RepL.okRt l _ h4
  | .wd ks l, v, h => by
    simp only [Rep] at h
    obtain ⟨a, vs, h1, h2, h3⟩ := h
    simpa only [Dd.okRt] using RepL.okRt l vs h3
  | .ins c fs, v, h => by
    simp only [Rep] at h
    obtain ⟨a, dx, vs, h1, h2, h3, h4⟩ := h
    simpa only [Dd.okRt] using RepL.okRt fs vs h3
  | .exn c fs, v, h => by
    simp only [Rep] at h
    obtain ⟨a, d, h1, h2, h3⟩ := h
    rcases h3 with ⟨h3, _⟩ | ⟨dd, vs, h4, h5, h6, h7⟩
    · rw [h3]; rfl
    · simpa only [Dd.okRt] using RepL.okRt fs vs h6
  | .rt r, v, h => by
    simp only [Rep] at h
    obtain ⟨a, h1, h2⟩ := h
    simpa only [Dd.okRt, decide_eq_true_eq] using (List.getElem?_eq_some_iff.mp h2).1
  | .ty n, v, h => rfl
  | .cl c, v, h => rfl
theorem RepL.okRt : ∀ (l : List D) (vs : List V), RepL W RA B l vs → okRtL RA.length l = true
  | [], vs, h => rfl
  | d :: l, vs, h => by
    simp only [RepL] at h
    obtain ⟨v, us, h1, h2, h3⟩ := h
    simp only [okRtL, Bool.and_eq_true]
    exact ⟨Rep.okRt d v h2, RepL.okRt l us h3⟩
end
theorem RootAt.low (n : Nat) (hr : ∀ (r : Nat) (a : Addr), r < n → RA'[r]? = some a → RA[r]? = some a) {a : Addr} : ∀ {d : D}, okRt n d = true → RootAt W RA' B H a d → RootAt W RA B H a d
  | .lst l, o, ⟨vs, h1, h2⟩ => ⟨vs, h1, RepL.low n hr l vs (by simpa only [Dd.okRt] using o) h2⟩
  | .dct ks l, o, ⟨kvs, h1, h2, h3⟩ => ⟨kvs, h1, h2, RepL.low n hr l _ (by simpa only [Dd.okRt] using o) h3⟩
  | .ins c fs, o, ⟨dx, vs, h1, h2, h3⟩ => ⟨dx, vs, h1, RepL.low n hr fs vs (by simpa only [Dd.okRt] using o) h2, h3⟩
theorem RootAt.okRt {a : Addr} : ∀ {d : D}, RootAt W RA B H a d → Dd.okRt RA.length d = true
  | .lst l, ⟨vs, h1, h2⟩ => by simpa only [Dd.okRt] using RepL.okRt l vs h2
  | .dct ks l, ⟨kvs, h1, h2, h3⟩ => by simpa only [Dd.okRt] using RepL.okRt l _ h3
  | .ins c fs, ⟨dx, vs, h1, h2, h3⟩ => by simpa only [Dd.okRt] using RepL.okRt fs vs h2
open Classical in
/-- a def's own roots freeze at its end, but for p -/
theorem Grow.close {mu : Nat → Bool} (b : Base W RA ρ B H) (g : Grow W (fun r => mu r || decide (ρ.length ≤ r)) RA ρ B H RA' ρ' B' H') (hk : keptOk ρ.length mu ρ' = true) (p : Option Addr) :
    ∃ B2, Grow W mu RA ρ B H RA (ρ'.take ρ.length) B2 H' ∧ Ex B' B2 ∧ (∀ (r : Nat) (a : Addr), ρ.length ≤ r → RA'[r]? = some a → p ≠ some a → B2 a = H' a) ∧ (∀ a, p = some a → B' a = none → B2 a = none) := by
  have hlen := b.len
  obtain ⟨t, et⟩ := g.pre
  have nd := g.base.nd
  have lows : ∀ (r : Nat) (a : Addr), RA[r]? = some a → RA'[r]? = some a := g.ra
  have hlow : ∀ (r : Nat) (a : Addr), r < ρ.length → RA'[r]? = some a → RA[r]? = some a := fun r a h1 h2 => by
    rw [et, List.getElem?_append_left (by rw [hlen]; exact h1)] at h2; exact h2
  have disj : ∀ a, a ∈ t → a ∉ RA := fun a ha hr => by
    rw [et, List.nodup_append] at nd
    exact nd.2.2 a hr a ha rfl
  have hlen' : ρ.length ≤ ρ'.length := by rw [← hlen, ← g.base.len, et, List.length_append]; omega
  refine ⟨fun a => if a ∈ t ∧ p ≠ some a then H' a else B' a, ⟨⟨[], by simp⟩, ?_, ⟨?_, ?_, b.nd, ?_, ?_⟩, ?_, ?_, ?_, ?_⟩, ?_, ?_, ?_⟩
  · intro a o h
    show (if a ∈ t ∧ p ≠ some a then H' a else B' a) = some o
    split
    · exact g.base.le a o (g.bl a o h)
    · exact g.bl a o h
  · intro a o h
    have h : (if a ∈ t ∧ p ≠ some a then H' a else B' a) = some o := h
    split at h
    · exact h
    · exact g.base.le a o h
  · rw [List.length_take]; omega
  · intro a ha
    show (if a ∈ t ∧ p ≠ some a then H' a else B' a) = none
    rw [if_neg fun z => disj a z.1 ha]
    exact g.base.out a (by rw [et]; exact List.mem_append_left _ ha)
  · intro r a d hr hd
    have hl : r < ρ.length := by rw [← hlen]; exact (List.getElem?_eq_some_iff.mp hr).1
    rw [List.getElem?_take_of_lt hl] at hd
    have hm : Ex B' (fun a => if a ∈ t ∧ p ≠ some a then H' a else B' a) := fun a o h => by
      show (if a ∈ t ∧ p ≠ some a then H' a else B' a) = some o
      split
      · exact g.base.le a o h
      · exact h
    have ra := g.base.roots r a d (lows r a hr) hd
    refine ((RootAt.mono hm (fun _ _ q => q) (fun o h => h) ra).low ρ.length hlow ?_)
    by_cases hmu : mu r = true
    · unfold keptOk at hk
      have q := List.all_eq_true.mp hk r (List.mem_range.mpr hl)
      have e : ρ'.getD r .non = d := by rw [List.getD_eq_getElem?_getD, hd]; rfl
      rw [e, hmu] at q
      simpa using q
    · have hmf : (mu r || decide (ρ.length ≤ r)) = false := by
        rw [Bool.or_eq_false_iff]
        exact ⟨by simpa using hmu, decide_eq_false (by omega)⟩
      have e : ρ'[r]? = ρ[r]? := g.kd r (by rw [hlen]; exact hl) hmf
      rw [hd] at e
      rw [← hlen]
      exact (b.roots r a d hr e.symm).okRt
  · exact fun a o h k => g.keep a o h fun r hr => by
      show (mu r || decide (ρ.length ≤ r)) = false
      rw [k r hr, decide_eq_false (by rw [← hlen]; have := (List.getElem?_eq_some_iff.mp hr).1; omega)]
      rfl
  · intro r a h1 h2
    rw [List.getElem?_eq_none h1] at h2; cases h2
  · intro a o h
    have h : (if a ∈ t ∧ p ≠ some a then H' a else B' a) = some o := h
    split at h
    · rename_i ht
      obtain ⟨j, hj⟩ := List.mem_iff_getElem?.mp ht.1
      refine .inr (g.new (RA.length + j) a (by omega) ?_)
      rw [et, List.getElem?_append_right (by omega)]
      simpa using hj
    · exact g.bn a o h
  · intro r h1 h2
    rw [List.getElem?_take_of_lt (by rw [← hlen]; exact h1)]
    exact g.kd r h1 (by rw [h2, decide_eq_false (by rw [← hlen]; omega)]; rfl)
  · intro a o h
    show (if a ∈ t ∧ p ≠ some a then H' a else B' a) = some o
    split
    · exact g.base.le a o h
    · exact h
  · intro r a h1 h2 hp
    show (if a ∈ t ∧ p ≠ some a then H' a else B' a) = H' a
    have hm : a ∈ t := by
      rw [et, List.getElem?_append_right (by rw [hlen]; exact h1)] at h2
      exact List.mem_of_getElem? h2
    exact if_pos ⟨hm, hp⟩
  · intro a ha hm
    show (if a ∈ t ∧ p ≠ some a then H' a else B' a) = none
    rw [if_neg fun z => z.2 ha]
    exact hm
/-! ### a def keeps to its function -/
/-- what a caller wants of what a def gives -/
def RDone (W : Wd) (mu : Nat → Bool) (RA : List Addr) (ρ : List D) (B H : Hp) (Q : VK) (E : XK) : RRes → Prop
  | .ok fr d ρ' => ∀ v B' H', Grow W mu RA ρ B H RA ρ' B' H' → ResAt W fr RA H B' H' d v → Q v H'
  | .exc c fs ρ' => ∀ cls dx B' H', Grow W mu RA ρ B H RA ρ' B' H' → ExcAt W RA B' H' c fs cls dx → E cls dx H'
  | .bad => False
/-- the promise of def g -/
def spF (W : Wd) (T : Nat → Option Fn) (n g : Nat) : Sp := fun vs H Q E => ∃ RA ρ B ds mu, Base W RA ρ B H ∧ RepL W RA B ds vs ∧ RDone W mu RA ρ B H Q E (run T n g mu ρ ds)
theorem spF_zero {T : Nat → Option Fn} {g : Nat} {vs : List V} {Q : VK} {E : XK} : ¬ spF W T 0 g vs H Q E := fun ⟨_, _, _, _, _, _, _, h⟩ => h
theorem rep_start {RA : List Addr} {B : Hp} : ∀ {ds : List D} {vs : List V}, RepL W RA B ds vs → ∀ (i : Nat) (d : D), (ds.map some)[i]? = some (some d) → ∃ v, (vs.map some)[i]? = some (some v) ∧ Rep W RA B d v := fun {ds vs} h i d e => by
  rw [List.getElem?_map] at e
  obtain ⟨d', e1, e2⟩ := Option.map_eq_some_iff.mp e
  cases e2
  obtain ⟨v, h1, h2⟩ := h.get e1
  exact ⟨v, by rw [List.getElem?_map, h1]; rfl, h2⟩
theorem loc_start {ds : List D} {vs : List V} {N : List Str} (h : RepL W RA B ds vs) : LocOk W RA B (ds.map some ++ List.replicate (N.length - ds.length) none) (L2.start N vs) := by
  unfold L2.start
  have hl := h.len
  refine ⟨by simp [hl], fun i d e => ?_⟩
  by_cases hi : i < (ds.map some).length
  · rw [List.getElem?_append_left hi] at e
    obtain ⟨v, h1, h2⟩ := rep_start h i d e
    refine ⟨v, ?_, h2⟩
    rw [List.getElem?_append_left (by simpa [← hl] using hi)]
    exact h1
  · rw [List.getElem?_append_right (by omega)] at e
    rw [List.getElem?_replicate] at e
    split at e <;> cases e
end
/-- the def's end meets its promise -/
theorem fin_ok {W : Wd} {RA : List Addr} {ρ : List D} {B H : Hp} {mu : Nat → Bool} {o : Out} {Q : VK} {E : XK} (b : Base W RA ρ B H) (h : RDone W mu RA ρ B H Q E (finR ρ.length mu o)) :
    Done W (fun cls dx _ H => E cls dx H) (fun r => mu r || decide (ρ.length ≤ r)) RA ρ B H { nx := fun _ H' => Q .non H', rt := Q } o := by
  cases o with
  | nx ρ' σ' =>
    intro RA' B' H' σ2 g l
    by_cases hk : keptOk ρ.length mu ρ' = true
    · simp only [finR, hk, if_true, RDone] at h
      obtain ⟨B2, g2, _⟩ := g.close b hk none
      exact h _ B2 H' g2 (by simp only [ResAt, Bool.false_eq_true, if_false]; exact rep_non)
    · simp only [finR, hk, if_false, RDone] at h
      exact h.elim
  | brk _ _ => exact h.elim
  | ct _ _ => exact h.elim
  | bad => exact h.elim
  | exc c fs ρ' σ' =>
    intro RA' B' H' σ2 cls dx g l x
    by_cases hk : keptOk ρ.length mu ρ' = true ∧ okRtL ρ.length fs = true
    · simp only [finR, if_pos hk, RDone] at h
      obtain ⟨B2, g2, e2, _⟩ := g.close b hk.1 none
      obtain ⟨t, et⟩ := g.pre
      refine h cls dx B2 H' g2 ⟨x.1, ?_⟩
      rcases x.2 with x | ⟨d, vs, h1, h2, h3, h4⟩
      · exact .inl x
      · refine .inr ⟨d, vs, h1, e2 d _ h2, ?_, h4⟩
        refine RepL.low ρ.length (fun r a h1 h2 => ?_) fs vs hk.2 (h3.ex e2)
        rw [et, List.getElem?_append_left (by rw [b.len]; exact h1)] at h2
        exact h2
    · simp only [finR, if_neg hk, RDone] at h
  | ret fr d ρ' =>
    intro RA' B' H' v g r
    obtain ⟨t, et⟩ := g.pre
    have hlow : ∀ (r : Nat) (a : Addr), r < ρ.length → RA'[r]? = some a → RA[r]? = some a := fun r a h1 h2 => by
      rw [et, List.getElem?_append_left (by rw [b.len]; exact h1)] at h2
      exact h2
    have old : ∀ a, a ∈ RA → a ∈ RA' := fun a ha => by rw [et]; exact List.mem_append_left _ ha
    by_cases hk : keptOk ρ.length mu ρ' = true
    · -- a value that stands as it is
      have plain : okRt ρ.length d = true → (∀ v B' H', Grow W mu RA ρ B H RA (ρ'.take ρ.length) B' H' → ResAt W fr RA H B' H' d v → Q v H') → Q v H' := fun ho k => by
        unfold ResAt at r k
        split at r
        · rename_i hf
          obtain ⟨p, rfl, h0, hB, hr, ra⟩ := r
          obtain ⟨B2, g2, e2, _, hp⟩ := g.close b hk (some p)
          exact k _ B2 H' g2 (by rw [if_pos hf]; exact ⟨p, rfl, h0, hp p rfl hB, fun z => hr (old p z), (RootAt.mono e2 (fun _ _ q => q) (fun o h => h) ra).low ρ.length hlow ho⟩)
        · rename_i hf
          obtain ⟨B2, g2, e2, _⟩ := g.close b hk none
          exact k v B2 H' g2 (by rw [if_neg hf]; exact Rep.low ρ.length hlow d v ho (r.ex e2))
      have other : (∀ r, d ≠ .rt r) → RDone W mu RA ρ B H Q E (if okRt ρ.length d = true then .ok fr d (ρ'.take ρ.length) else .bad) → Q v H' := fun _ k => by
        by_cases ho : okRt ρ.length d = true
        · rw [if_pos ho] at k; exact plain ho k
        · rw [if_neg ho] at k; exact k.elim
      cases d with
      | rt q =>
        simp only [finR, hk, if_true] at h
        by_cases hq : q < ρ.length
        · rw [if_pos hq] at h
          have rr : Rep W RA' B' (.rt q) v := by
            unfold ResAt at r
            split at r
            · obtain ⟨p, _, _, _, _, ra⟩ := r; exact ra.elim
            · exact r
          obtain ⟨B2, g2, e2, _⟩ := g.close b hk none
          exact h v B2 H' g2 (by simp only [ResAt, Bool.false_eq_true, if_false]; exact Rep.low ρ.length hlow (.rt q) v (by simp only [okRt, decide_eq_true_eq]; exact hq) (rr.ex e2))
        · rw [if_neg hq] at h
          have rr : Rep W RA' B' (.rt q) v := by
            unfold ResAt at r
            split at r
            · obtain ⟨p, _, _, _, _, ra⟩ := r; exact ra.elim
            · exact r
          simp only [Rep] at rr
          obtain ⟨a, rfl, ha⟩ := rr
          cases hc : ρ'[q]? with
          | none => rw [hc] at h; exact h.elim
          | some c =>
            rw [hc] at h
            dsimp only at h
            by_cases ho : okRt ρ.length c = true
            · rw [if_pos ho] at h
              obtain ⟨B2, g2, e2, _, hp⟩ := g.close b hk (some a)
              have ra := g.base.roots q a c ha hc
              refine h _ B2 H' g2 ?_
              simp only [ResAt, if_true]
              refine ⟨a, rfl, g.new q a (by rw [b.len]; omega) ha, hp a rfl (g.base.out a (List.mem_of_getElem? ha)), fun z => ?_, (RootAt.mono e2 (fun _ _ q => q) (fun o h => h) ra).low ρ.length hlow ho⟩
              obtain ⟨o, e⟩ := b.root_in z
              rw [g.new q a (by rw [b.len]; omega) ha] at e
              cases e
            · rw [if_neg ho] at h; exact h.elim
      | _ => exact other (fun r e => nomatch e) (by simpa only [finR, hk, if_true] using h)
    · simp only [finR, hk, if_false, RDone] at h
      exact h.elim
theorem fnOk_d {P : Program} {w : World} {K : PySem.W.Frag} {mg : Str → Option Value} {base : Heap} {W : Wd} {T : Nat → Option Fn} {n g : Nat} {f : Addr} {name qual : Str} {params : Arguments} {body : List Stmt} {scope : Scope} {dV kV doc pm cdv ct oc : Value} {an od : Option Addr}
    {osl : Array (Option Value)} {N ps : List Str} {F : Fn} (lk : K.lookup f = some ⟨oc, od, .func (PySem.W.fnOf name qual params body scope dV kV doc pm an cdv ct), osl⟩) (hcd : PySem.W.codeIn K cdv qual = true) (S : FnScope N ps scope) (hT : T g = some F) (hnp : F.np = ps.length) (hnl : F.nl = N.length)
    (der : ∀ (A : Around) (outer : List PySem.Env) (s : Shared) (H : Hp) (E : XK), Room (4 * n + 3) (A.deeper (envOfC qual scope s.heap.objs.size f cdv)) →
      PSsd (cxOf (L2.CX P w) P w K mg base N qual scope f cdv A outer s H E) W (fun cls dx _ H' => E cls dx H') body (F.body (run T n))) :
    FnOk P w K mg base (L2.CX P w) (4 * (n + 1)) f (PySem.W.fnOf name qual params body scope dV kV doc pm an cdv ct) ps (spF W T (n + 1) g) := by
  have hlen : ∀ vs H Q E, spF W T (n + 1) g vs H Q E → vs.length = ps.length := fun vs H Q E ⟨RA, ρ, B, ds, mu, b, rp, h⟩ => by
    simp only [run, hT] at h
    split at h
    · rename_i hl; rw [← rp.len, hl, hnp]
    · exact h.elim
  refine fn_of (k := 4 * n + 3) lk hcd S hlen fun A outer s H vs Q E hr hsp => ?_
  obtain ⟨RA, ρ, B, ds, mu, b, rp, h⟩ := id hsp
  have hl : ds.length = F.np := by
    simp only [run, hT] at h
    split at h
    · assumption
    · exact h.elim
  simp only [run, hT, if_pos hl] at h
  refine ⟨_, der A outer s H E hr (fun r => mu r || decide (ρ.length ≤ r)), RA, ρ, ds.map some ++ List.replicate (F.nl - F.np) none, B, b, ?_, fin_ok b h⟩
  rw [← hl, hnl]
  exact loc_start rp
theorem fnOk_zero {P : Program} {w : World} {K : PySem.W.Frag} {mg : Str → Option Value} {base : Heap} {W : Wd} {T : Nat → Option Fn} {CXx : CXT} {g : Nat} {f : Addr} {fd : FuncData} {ps : List Str} : FnOk P w K mg base CXx (4 * 0) f fd ps (spF W T 0 g) :=
  ⟨fun vs H Q E h => absurd h spF_zero, fun A outer s H args us vs Q E _ _ _ _ h => absurd h spF_zero⟩
end Dd

set_option Elab.async false
set_option linter.all false
set_option maxRecDepth 100000
set_option maxHeartbeats 2000000
/-! DdFnCall: a def's context; calls of defs, classes, methods; raise, by data -/
namespace Dd
open PySem PySem.Spec PyProof.Rows L2 Evl OwnO My

/-- def x of the module keeps to function g, n levels deep -/
structure HasF (P : Program) (w : World) (K : PySem.W.Frag) (mg : Str → Option Value) (base : Heap) (W : Wd) (T : Nat → Option Fn) (n : Nat) (x : Str) (g : Nat) (dvs : List V) : Prop where
  ex : ∃ f fd ps ds, FnOk P w K mg base (L2.CX P w) (4 * n) f fd ps (spF W T n g) ∧ mg x = some (.ref f) ∧ PySem.W.keepIn K (.ref f) = true ∧ Binds K fd ps ds ∧ Vals dvs ds
/-- a method m of the class at C keeps to function g -/
structure HasFM (P : Program) (w : World) (K : PySem.W.Frag) (mg : Str → Option Value) (base : Heap) (W : Wd) (T : Nat → Option Fn) (n : Nat) (C : Addr) (m : Str) (g : Nat) (dvs : List V) : Prop where
  ex : ∃ f fd ps ds, FnOk P w K mg base (L2.CX P w) (4 * n) f fd ps (spF W T n g) ∧ PySem.W.findIn K (.ref C) m = some (some (.ref f)) ∧ PySem.W.isFn K (.ref f) = true ∧ PySem.W.keepIn K (.ref f) = true ∧ Binds K fd ps ds ∧ Vals dvs ds
/-- the context of a body, n levels deep -/
structure Cok (X : Cx) (W : Wd) (Wx : WX) (n : Nat) : Prop where
  K : X.K = W.K
  w : X.w = W.w
  ok : WOk W
  calm : X.calm = true
  room : Room (4 * n + 3) X.A
  tk : Takes X Wx
  po : PassesOwn (model X.prog X.w) X.A X.env X.xe
theorem Cok.hu {X : Cx} {W : Wd} {Wx : WX} {n : Nat} (c : Cok X W Wx n) : X.A.units + 128 < cLine := by have := c.room.un; omega
theorem Cok.blk {X : Cx} {W : Wd} {Wx : WX} {n : Nat} (c : Cok X W Wx n) {s : Shared} {H : Hp} {scope : Scope} {cenv : PySem.Env} {fp : List Addr} : Cok (X.blk s H scope cenv fp) W WF n :=
  ⟨c.K, c.w, c.ok, c.calm, c.room, fun _ _ ⟨_, _, _, _, _, _, _, _, _, _, _, _, _, _, _, _, w⟩ => w.elim, PassesOwn.never⟩
theorem Cok.of {P : Program} {w : World} {mg : Str → Option Value} {base : Heap} {W : Wd} {n : Nat} {N : List Str} {qual : Str} {scope : Scope} {f : Addr} {cdv : Value} {A : Around} {outer : List PySem.Env} {s : Shared} {H : Hp} {E : XK} (hw : w = W.w) (ok : WOk W)
    (hr : Room (4 * n + 3) (A.deeper (envOfC qual scope s.heap.objs.size f cdv))) : Cok (cxOf (L2.CX P w) P w W.K mg base N qual scope f cdv A outer s H E) W (fun cls dx _ H' => E cls dx H') n :=
  ⟨rfl, hw, ok, rfl, hr, takes_of rfl rfl rfl rfl, passes_of rfl⟩
/-- a call of a def: ds its defaults -/
def callS (cl : Orc) (g : Nat) (dd : List D) (fa : AF) : EF := fun ρ σ => (fa ρ σ).bind fun xs => match cl g (fun _ => false) ρ (xs ++ dd) with
  | .ok _ d _ => .ok d
  | .exc c fs _ => .exc c fs
  | .bad => .bad
/-- a call whose answer is a new thing -/
def callN (cl : Orc) (g : Nat) (dd : List D) (fa : AF) : EF := fun ρ σ => (fa ρ σ).bind fun xs => match cl g (fun _ => false) ρ (xs ++ dd) with
  | .ok true d _ => .ok d
  | .ok false _ _ => .bad
  | .exc c fs _ => .exc c fs
  | .bad => .bad
section
variable {X : Cx} {W : Wd} {Wx : WX} {T : Nat → Option Fn} {n g : Nat} {x m : Str} {e o : Expr} {es : List Expr} {fa : AF} {f : EF} {pos p apos : Pos} {ds : List Value} {dvs : List V} {dd : List D}
/-- behind a call without changes -/
theorem Grow.aft {RA : List Addr} {ρ ρ' : List D} {B H B' H' : Hp} (b : Base W RA ρ B H) (gr : Grow W (fun _ => false) RA ρ B H RA ρ' B' H') : Aft W RA ρ B H B' H' := by
  refine ⟨fun a o h => gr.keep a o h fun _ _ => rfl, gr.bl, ?_, gr.bn⟩
  have e : ρ' = ρ := by
    apply List.ext_getElem?
    intro i
    by_cases hi : i < RA.length
    · exact gr.kd i hi rfl
    · rw [List.getElem?_eq_none (by rw [← gr.base.len]; omega), List.getElem?_eq_none (by rw [← b.len]; omega)]
  rw [← e]
  exact gr.base
theorem RepL.dflt {RA : List Addr} {B : Hp} (h : ∀ RA B, RepL W RA B dd dvs) {xs : List D} {vs : List V} (r : RepL W RA B xs vs) : RepL W RA B (xs ++ dd) (vs ++ dvs) := r.append (h RA B)
theorem tE_call (hd : ∀ RA B, RepL W RA B dd dvs) (σ : L2.St) (H : Hp) (Q : VK) : tE W Wx (callS (run T n) g dd fa) σ H Q → (tA W Wx fa) σ H fun vs H1 => spF W T n g (vs ++ dvs) H1 Q (WE Wx σ) := fun ⟨RA, ρ, σd, B, b, l, q⟩ =>
  ⟨RA, ρ, σd, B, b, l, (Aw.bind q).imp fun xs B1 H1 a1 q1 vs rv => ⟨RA, ρ, B1, xs ++ dd, fun _ => false, a1.base, rv.append (hd RA B1), by
    cases hr : run T n g (fun _ => false) ρ (xs ++ dd) with
    | ok fr d ρ' =>
      rw [hr] at q1
      intro v B2 H2 gr r
      have a2 := gr.aft a1.base
      unfold ResAt at r
      split at r
      · obtain ⟨B3, a3, r3⟩ := Fresh.freeze a2 r
        exact q1 B3 H2 a3 v r3
      · exact q1 B2 H2 a2 v r
    | exc c fs ρ' =>
      rw [hr] at q1
      intro cls dx B2 H2 gr x
      exact q1 cls dx B2 H2 (gr.aft a1.base) x
    | bad => rw [hr] at q1; exact q1⟩⟩
theorem tF_call (hd : ∀ RA B, RepL W RA B dd dvs) (σ : L2.St) (H : Hp) (Q : VK) : tF W Wx (callN (run T n) g dd fa) σ H Q → (tA W Wx fa) σ H fun vs H1 => spF W T n g (vs ++ dvs) H1 Q (WE Wx σ) := fun ⟨RA, ρ, σd, B, b, l, q⟩ =>
  ⟨RA, ρ, σd, B, b, l, (Aw.bind q).imp fun xs B1 H1 a1 q1 vs rv => ⟨RA, ρ, B1, xs ++ dd, fun _ => false, a1.base, rv.append (hd RA B1), by
    cases hr : run T n g (fun _ => false) ρ (xs ++ dd) with
    | ok fr d ρ' =>
      rw [hr] at q1
      intro v B2 H2 gr r
      have a2 := gr.aft a1.base
      cases fr with
      | true =>
        simp only [ResAt, if_true] at r
        exact q1 B2 H2 a2 v (r.back a1.hp)
      | false => exact q1.elim
    | exc c fs ρ' =>
      rw [hr] at q1
      intro cls dx B2 H2 gr x
      exact q1 cls dx B2 H2 (gr.aft a1.base) x
    | bad => rw [hr] at q1; exact q1⟩⟩
theorem PE.callSD {k : Nat} {f : Addr} {fd : FuncData} {ps : List Str} {sp : Sp} {E : L2.St → XK} {t : TA} (F : FnOk X.prog X.w X.K X.mg X.base (L2.CX X.prog X.w) k f fd ps sp) (hr : Room k X.A) (hg : Gl X x) (hm : X.mg x = some (.ref f)) (hk : PySem.W.keepIn X.K (.ref f) = true) (hb : Binds X.K fd ps ds) (hd : Vals dvs ds) (hx : ∀ σ, PassesAt (L2.CX X.prog X.w) X σ (E σ))
    (ha : PA X (e :: es) t) (hdb : (x == ("__debug__" : Str)) = false := by decide) (he : starEach (e :: es) X.env = (false, eval e X.env) :: starEach es X.env := by rfl) (hpl : (backTo pos (starEach es X.env)).any (·.1) = false := by rfl) :
    PE X (.Call (.Name x p) (e :: es) [] pos) (fun σ H Q => t σ H fun vs H1 => sp (vs ++ dvs) H1 Q (E σ)) := by
  refine ⟨fun pins s σ H Q I h => ?_⟩
  refine wpAny_Call_Name_kw (ld_glob I hg hm ?_ hdb)
  refine PySem.W.callWith_K (h₀ := X.base) I.ok.mod.kin hk (thn (ha.run pos pins s σ H _ I h) fun us s1 ⟨vs, H1, I1, r, q⟩ => ⟨I1.kIn, ?_⟩) he hpl
  exact run_fnSD F hr hb hd (hx σ) I1 r q
theorem d_call (c : Cok X W Wx n) (hf : HasF X.prog X.w X.K X.mg X.base W T n x g dvs) (hd : ∀ RA B, RepL W RA B dd dvs) (ha : PA X (e :: es) (tA W Wx fa)) (hg : Gl X x := by rfl)
    (hdb : (x == ("__debug__" : Str)) = false := by decide) (he : starEach (e :: es) X.env = (false, eval e X.env) :: starEach es X.env := by rfl) (hpl : (backTo pos (starEach es X.env)).any (·.1) = false := by rfl) :
    PE X (.Call (.Name x p) (e :: es) [] pos) (tE W Wx (callS (run T n) g dd fa)) := by
  obtain ⟨f, fd, ps, ds, F, hm, hk, hb, hv⟩ := hf.ex
  exact pe_weak (PE.callSD F (c.room.mono (by omega)) hg hm hk hb hv (fun σ => passAt c.tk σ) ha hdb he hpl) (tE_call hd)
theorem f_call (c : Cok X W Wx n) (hf : HasF X.prog X.w X.K X.mg X.base W T n x g dvs) (hd : ∀ RA B, RepL W RA B dd dvs) (ha : PA X (e :: es) (tA W Wx fa)) (hg : Gl X x := by rfl)
    (hdb : (x == ("__debug__" : Str)) = false := by decide) (he : starEach (e :: es) X.env = (false, eval e X.env) :: starEach es X.env := by rfl) (hpl : (backTo pos (starEach es X.env)).any (·.1) = false := by rfl) :
    PE X (.Call (.Name x p) (e :: es) [] pos) (tF W Wx (callN (run T n) g dd fa)) := by
  obtain ⟨f, fd, ps, ds, F, hm, hk, hb, hv⟩ := hf.ex
  exact pe_weak (PE.callSD F (c.room.mono (by omega)) hg hm hk hb hv (fun σ => passAt c.tk σ) ha hdb he hpl) (tF_call hd)
end
end Dd

set_option Elab.async false
set_option linter.all false
set_option maxRecDepth 100000
set_option maxHeartbeats 2000000
/-! DdMut: things that are changed: xs.append(e), xs[i] = e, d[k] = e, by data -/
namespace Dd
open PySem PySem.Spec PyProof.Rows L2 Evl OwnO My

section
variable {W : Wd} {RA : List Addr} {ρ : List D} {B H : Hp} {mu : Nat → Bool}
/-- a root's content has changed -/
theorem Grow.put (b : Base W RA ρ B H) {r : Nat} {a : Addr} {d : D} {o : HO} (hr : RA[r]? = some a) (hm : mu r = true) (h : RootAt W RA B (upd H a o) a d) : Grow W mu RA ρ B H RA (ρ.set r d) B (upd H a o) := by
  have hne : ∀ (i : Nat) (c : Addr), RA[i]? = some c → c = a → i = r := fun i c hi e => by
    subst e
    exact (List.getElem?_inj (List.getElem?_eq_some_iff.mp hi).1 b.nd).mp (hi.trans hr.symm)
  refine ⟨⟨[], by simp⟩, Ex.refl B, ⟨fun c u e => ?_, by simp [b.len], b.nd, b.out, fun i c d' hi hd => ?_⟩, fun c u e k => ?_, fun i c hle hi => ?_, fun c u e => .inl e, fun i _ hi => ?_⟩
  · rw [upd_ne (fun z => by subst z; rw [b.out _ (List.mem_of_getElem? hr)] at e; cases e)]
    exact b.le c u e
  · by_cases hir : i = r
    · subst hir
      rw [hr] at hi; cases hi
      rw [List.getElem?_set_self (by rw [← b.len]; exact (List.getElem?_eq_some_iff.mp hr).1)] at hd
      cases hd
      exact h
    · rw [List.getElem?_set_ne (Ne.symm hir)] at hd
      exact (b.roots i c d' hi hd).mono (Ex.refl B) (fun _ _ q => q) fun o' h' => by
        rw [upd_ne (fun z => hir (hne i c hi z))]; exact h'
  · rw [upd_ne (fun z => by subst z; rw [k r hr] at hm; cases hm)]; exact e
  · rw [List.getElem?_eq_none hle] at hi; cases hi
  · rw [List.getElem?_set_ne (fun z => by subst z; rw [hi] at hm; cases hm)]
theorem Base.rootLst (b : Base W RA ρ B H) {r : Nat} {x : V} {l : List D} (hx : Rep W RA B (.rt r) x) (hd : ρ[r]? = some (.lst l)) : ∃ a vs, x = .ref a ∧ RA[r]? = some a ∧ H a = some (.lst vs) ∧ RepL W RA B l vs := by
  simp only [Rep] at hx
  obtain ⟨a, rfl, ha⟩ := hx
  obtain ⟨vs, h1, h2⟩ := b.roots r a _ ha hd
  exact ⟨a, vs, rfl, ha, h1, h2⟩
theorem Base.rootDct (b : Base W RA ρ B H) {r : Nat} {x : V} {ks : List L2.Key} {l : List D} (hx : Rep W RA B (.rt r) x) (hd : ρ[r]? = some (.dct ks l)) : ∃ a kvs, x = .ref a ∧ RA[r]? = some a ∧ H a = some (.dK kvs) ∧ kvs.map (·.1) = ks ∧ RepL W RA B l (kvs.map (·.2)) := by
  simp only [Rep] at hx
  obtain ⟨a, rfl, ha⟩ := hx
  obtain ⟨vs, h1, h2⟩ := b.roots r a _ ha hd
  exact ⟨a, vs, rfl, ha, h1, h2⟩
end
def maxN : Nat := 100000
/-- xs.append(e) -/
def appS (f g : EF) : SF := fun mu ρ σ => withE (f ρ σ) ρ σ fun x => match x with
  | .rt r => match ρ[r]? with
    | some (.lst l) => withE (g ρ σ) ρ σ fun y => if mu r = true ∧ l.length < 100000 then .nx (ρ.set r (.lst (l ++ [y]))) σ else .bad
    | _ => .bad
  | _ => .bad
def dput (ks : List L2.Key) (l : List D) (k : L2.Key) (d : D) : List L2.Key × List D := if (ks.any fun k' => decide (k' = k)) = true then (ks, List.zipWith (fun k' x => if k' = k then d else x) ks l) else (ks ++ [k], l ++ [d])
/-- o[i] = e, of a list or dict; e first -/
def setS (f g h : EF) : SF := fun mu ρ σ => withE (f ρ σ) ρ σ fun y => withE (g ρ σ) ρ σ fun x => withE (h ρ σ) ρ σ fun i => match x with
  | .rt r => match ρ[r]? with
    | some (.lst l) => match i with
      | .int k => match ixN l.length k with
        | some j => if mu r = true then .nx (ρ.set r (.lst (l.set j y))) σ else .bad
        | none => .bad
      | _ => .bad
    | some (.dct ks l) => match keyD (dr ρ i) with
      | some k => if mu r = true ∧ ks.length < 100000 then .nx (ρ.set r (.dct (dput ks l k y).1 (dput ks l k y).2)) σ else .bad
      | none => .bad
    | _ => .bad
  | _ => .bad
theorem any_map_fst {kvs : List (L2.Key × V)} {k : L2.Key} : (kvs.any fun kv => decide (kv.1 = k)) = ((kvs.map (·.1)).any fun k' => decide (k' = k)) := by
  induction kvs with
  | nil => rfl
  | cons p r ih => simp only [List.any_cons, List.map_cons, ih]
theorem putK_fst {kvs : List (L2.Key × V)} {k : L2.Key} {v : V} {l : List D} {d : D} : (putK kvs k v).map (·.1) = (dput (kvs.map (·.1)) l k d).1 := by
  unfold putK dput
  rw [any_map_fst]
  split
  · simp only [List.map_map]
    apply List.map_congr_left
    intro x _
    simp only [Function.comp]
    split <;> rfl
  · simp
theorem rep_zw {W : Wd} {RA : List Addr} {B : Hp} {k : L2.Key} {d : D} {v : V} (hd : Rep W RA B d v) : ∀ {kvs : List (L2.Key × V)} {l : List D}, RepL W RA B l (kvs.map (·.2)) →
    RepL W RA B (List.zipWith (fun k' x => if k' = k then d else x) (kvs.map (·.1)) l) ((kvs.map fun kv => if kv.1 = k then (kv.1, v) else kv).map (·.2))
  | [], l, h => by
    have := h.len
    simp at this
    simp [this]
    exact .nil
  | p :: r, [], h => by have := h.len; simp at this
  | p :: r, x :: l, h => by
    obtain ⟨v', us, e1, h1, h2⟩ := h.uncons
    simp only [List.map_cons, List.cons.injEq] at e1
    obtain ⟨e1, e2⟩ := e1
    subst e1 e2
    simp only [List.map_cons, List.zipWith_cons_cons]
    by_cases c : p.1 = k
    · simp only [c, if_true]
      exact .cons hd (rep_zw hd h2)
    · simp only [c, if_false]
      exact .cons h1 (rep_zw hd h2)
theorem putK_snd {W : Wd} {RA : List Addr} {B : Hp} {kvs : List (L2.Key × V)} {k : L2.Key} {v : V} {l : List D} {d : D} (h : RepL W RA B l (kvs.map (·.2))) (hd : Rep W RA B d v) : RepL W RA B (dput (kvs.map (·.1)) l k d).2 ((putK kvs k v).map (·.2)) := by
  unfold putK dput
  rw [any_map_fst]
  split
  · exact rep_zw hd h
  · simp only [List.map_append, List.map_cons, List.map_nil]
    exact h.append (.cons hd .nil)
/-- one of two stores -/
theorem set_two {X : Cx} {t u : TSet} (h1 : PSet X t) (h2 : PSet X u) : PSet X fun o i v H Q => t o i v H Q ∨ u o i v H Q := fun pins s σ H o i v ov iv uv Q I ro ri rv h => h.elim (fun h => h1 pins s σ H o i v ov iv uv Q I ro ri rv h) (fun h => h2 pins s σ H o i v ov iv uv Q I ro ri rv h)
section
variable {X : Cx} {W : Wd} {Wx : WX} {o e i : Expr} {es : List Expr} {f g h : EF} {apos cpos pos spos : Pos}
theorem ds_app (hfo : PE X o (tE W Wx f)) (he : PE X e (tE W Wx g))
    (hbase : attributeBase o "append" X.env (eval o X.env) = eval o X.env := by rfl)
    (hfew : ((backTo cpos (starEach [e] X.env)).all (fun x => !x.1) && (backToKw cpos (keywordEach [] X.env)).all (fun x => x.1.isSome)
      && decide ([e].length + ([] : List Keyword).length + (if ([] : List Keyword).isEmpty then 0 else 1) < 30)) = true := by rfl)
    (hline : (apos.endLine == cpos.line) = true := by rfl) (hs : starEach [e] X.env = (false, eval e X.env) :: starEach [] X.env := by rfl) (hplain : (backTo cpos (starEach [] X.env)).any (·.1) = false := by rfl)
    (hsw : swapsWith (.Call (.Attribute o "append" apos) [e] [] cpos) none spos.line X.env = pure false := by rfl) :
    PSd X W Wx (.Expr (.Call (.Attribute o "append" apos) [e] [] cpos) spos) (appS f g) := fun mu =>
  ps_weak (ps_expr (pe_bm PySem.F.plainAttrs_list PySem.F.slot_list_append PySem.F.type_list_append mt_append hfo (pa_cons he pa_nil hs) hbase hfew hline hs hplain) hsw) fun Dn σ H ⟨RA, ρ, σd, B, b, l, q⟩ =>
  ⟨RA, ρ, σd, B, b, l, (Done.withE b l q).imp fun x B1 H1 a1 q1 v rv => by
    split at q1
    · rename_i r
      split at q1
      · rename_i l1 e1
        obtain ⟨p, vs, rfl, hr, hp, hv⟩ := a1.base.rootLst rv e1
        refine ⟨.inl ⟨rfl, _, sq_of hp⟩, RA, ρ, σd, B1, a1.base, l.ex a1.bl, (Done.withE a1.base (l.ex a1.bl) q1).imp fun y B2 H2 a2 q2 u ru => ?_⟩
        split at q2
        · rename_i hc
          have hp2 := a2.hp p _ hp
          refine ⟨p, vs, u, rfl, rfl, hp2, sz_lt (by rw [← hv.len]; exact hc.2), ?_⟩
          refine q2 RA B2 _ σ (Grow.put a2.base hr hc.1 ⟨vs ++ [u], upd_same, (hv.ex a2.bl).append (.cons ru .nil)⟩) ((l.ex a1.bl).ex a2.bl)
        · exact q2.elim
      · exact q1.elim
    · exact q1.elim⟩
theorem ds_setIx (hfo : PE X o (tE W Wx g)) (hi : PE X i (tE W Wx h)) (he : PE X e (tE W Wx f)) (hu : X.A.units + 1 < cLine) (hs : swapsWithSole [.Subscript o i apos] e pos.line X.env = pure false := by rfl) (hw : swappedStores [.Subscript o i apos] e X.env = pure none := by rfl)
    (h1 : (assignEach [.Subscript o i apos] X.env).map (·.2) = [assign (.Subscript o i apos) X.env] := by rfl)
    (ha : ∀ v, assign (.Subscript o i apos) X.env v = (do
      let ov ← holding [v] (eval o X.env)
      let iv ← holding [v, ov] (eval i X.env)
      standAt apos
      holding [v, ov, iv] (setItem ov iv v)
      release [v, ov, iv] []) := by intro _; rfl) : PSd X W Wx (.Assign [.Subscript o i apos] e pos) (setS f g h) := fun mu =>
  ps_weak (ps_asg he (pg_sub hfo hi (set_two set_list (set_dict hu)) ha) hs hw h1) fun Dn σ H ⟨RA, ρ, σd, B, b, l, q⟩ =>
  ⟨RA, ρ, σd, B, b, l, (Done.withE b l q).imp fun y B1 H1 a1 q1 u ru => ⟨RA, ρ, σd, B1, a1.base, l.ex a1.bl, (Done.withE a1.base (l.ex a1.bl) q1).imp fun x B2 H2 a2 q2 v rv => 
    ⟨RA, ρ, σd, B2, a2.base, (l.ex a1.bl).ex a2.bl, (Done.withE a2.base ((l.ex a1.bl).ex a2.bl) q2).imp fun k B3 H3 a3 q3 z rz => by
    have l3 := ((l.ex a1.bl).ex a2.bl).ex a3.bl
    have ru3 := (ru.ex a2.bl).ex a3.bl
    have rv3 := rv.ex a3.bl
    split at q3
    · rename_i r
      split at q3
      · rename_i l1 e1
        obtain ⟨p, vs, rfl, hr, hp, hv⟩ := a3.base.rootLst rv3 e1
        split at q3
        · rename_i ki
          split at q3
          · rename_i j ej
            split at q3
            · rename_i hm
              simp only [Rep] at rz
              refine .inl ⟨p, vs, ki, j, rfl, rz, hp, by rw [← hv.len]; exact ej, ?_⟩
              exact q3 RA B3 _ σ (Grow.put a3.base hr hm ⟨_, upd_same, hv.set ru3 j⟩) l3
            · exact q3.elim
          · exact q3.elim
        · exact q3.elim
      · rename_i ks l1 e1
        obtain ⟨p, kvs, rfl, hr, hp, hk, hv⟩ := a3.base.rootDct rv3 e1
        split at q3
        · rename_i kk ek
          split at q3
          · rename_i hm
            have ez := keyD_V a3.base rz ek
            subst hk
            refine .inr ⟨p, _, rfl, ?_, q3 RA B3 _ σ (Grow.put a3.base hr hm.1 ⟨_, upd_same, putK_fst, putK_snd hv ru3⟩) l3⟩
            rw [ez]
            exact DPut.k hp (sz_lt (by have := hm.2; simpa using this))
          · exact q3.elim
        · exact q3.elim
      · exact q3.elim
    · exact q3.elim⟩⟩⟩
end
end Dd

set_option Elab.async false
set_option linter.all false
set_option maxRecDepth 100000
set_option maxHeartbeats 2000000
/-! DdIter2: what is walked: lists, tuples or texts; zip, enumerate, reversed, range with a step -/
namespace Dd
open PySem PySem.Spec PyProof.Rows L2 Evl OwnO My

def seqD : D → Option (List D)
  | .lst l => some l
  | .scr l => some l
  | _ => none
def tupD : D → Option (List D)
  | .tup l => some l
  | _ => none
section
variable {W : Wd} {RA : List Addr} {ρ : List D} {B H : Hp} {d : D} {v : V} {l : List D}
/-- what stands while the roots lk stay -/
def Stay (W : Wd) (RA : List Addr) (B H : Hp) (lk : List Nat) (P : Hp → Prop) : Prop := ∀ (RA' : List Addr) (ρ' : List D) (B' H' : Hp), Base W RA' ρ' B' H' → Ex B B' → (∀ r ∈ lk, ∀ a o, RA[r]? = some a → H a = some o → H' a = some o) → P H'
theorem seq_stay (b : Base W RA ρ B H) (r : Rep W RA B d v) (e : seqD (dr ρ d) = some l) : ∃ a vs, v = .ref a ∧ RepL W RA B l vs ∧ SqL W.K H a vs ∧ Stay W RA B H (lockD d) fun H' => SqL W.K H' a vs := by
  cases d with
  | rt q =>
    obtain ⟨p, d', rfl, e', ra⟩ := view_rt b r
    rw [e'] at e
    cases d' with
    | lst l1 =>
      cases e
      obtain ⟨vs, h1, h2⟩ := ra
      simp only [Rep] at r
      obtain ⟨p', ep, hp'⟩ := r
      cases ep
      exact ⟨p, vs, rfl, h2, sq_of h1, fun RA' ρ' B' H' b' e hk => sq_of (hk q (by simp [lockD]) p _ hp' h1)⟩
    | dct _ _ => cases e
    | ins _ _ => cases e
    | _ => exact False.elim ra
  | lst l1 =>
    cases e
    obtain ⟨p, vs, rfl, h1, h2⟩ := (by simpa only [Rep] using r : ∃ a vs, v = .ref a ∧ B a = some (.lst vs) ∧ RepL W RA B l vs)
    exact ⟨p, vs, rfl, h2, sq_of (b.le p _ h1), fun RA' ρ' B' H' b' e hk => sq_of (b'.le p _ (e p _ h1))⟩
  | scr l1 =>
    cases e
    obtain ⟨p, vs, rfl, h1, h2⟩ := (by simpa only [Rep] using r : ∃ a vs, v = .ref a ∧ SqL W.K B a vs ∧ RepL W RA B l vs)
    exact ⟨p, vs, rfl, h2, ex_l b.le h1, fun RA' ρ' B' H' b' e hk => ex_l (e.trans b'.le) h1⟩
  | _ => cases e
theorem tup_stay (b : Base W RA ρ B H) (r : Rep W RA B d v) (e : tupD (dr ρ d) = some l) : ∃ a vs, v = .ref a ∧ RepL W RA B l vs ∧ SqT W.K H a vs ∧ Stay W RA B H [] fun H' => SqT W.K H' a vs := by
  cases d with
  | rt q =>
    obtain ⟨p, d', rfl, e', ra⟩ := view_rt b r
    rw [e'] at e
    cases d' with
    | lst l1 => cases e
    | dct _ _ => cases e
    | ins _ _ => cases e
    | _ => exact False.elim ra
  | tup l1 =>
    cases e
    obtain ⟨p, vs, rfl, h1, h2⟩ := (by simpa only [Rep] using r : ∃ a vs, v = .ref a ∧ SqT W.K B a vs ∧ RepL W RA B l vs)
    exact ⟨p, vs, rfl, h2, ex_t b.le h1, fun RA' ρ' B' H' b' e hk => ex_t (e.trans b'.le) h1⟩
  | _ => cases e
theorem Stay.mono {lk lk' : List Nat} {P : Hp → Prop} {B0 H0 : Hp} (a : Aft W RA ρ B0 H0 B H) (h : Stay W RA B0 H0 lk P) (hs : ∀ r ∈ lk, r ∈ lk') : Stay W RA B H lk' P := fun RA' ρ' B' H' b' e hk => h RA' ρ' B' H' b' (a.bl.trans e) fun r hr x o h1 h2 => hk r (hs r hr) x o h1 (a.hp x o h2)
theorem Stay.sub {lk lk' : List Nat} {P : Hp → Prop} (h : Stay W RA B H lk P) (hs : ∀ r ∈ lk, r ∈ lk') : Stay W RA B H lk' P := fun RA' ρ' B' H' b' e hk => h RA' ρ' B' H' b' e fun r hr => hk r (hs r hr)
/-- walked items that were there before -/
theorem it_old {J : It} {lk : List Nat} {vs : List V} (hl : RepL W RA B l vs) {P : Hp → Prop} (hs : Stay W RA B H lk P) (hg : ∀ i x H', P H' → vs[i]? = some x → J.go i H') (hy : ∀ i x H' y H'', P H' → vs[i]? = some x → J.yld i H' y H'' → H'' = H' ∧ y = x) (hd : ∀ i H', P H' → vs.length ≤ i → J.stop i H') : ItOk W RA B H J l lk := fun i RA' ρ' B' H' b' e hr hk => by
  have hP := hs RA' ρ' B' H' b' e hk
  refine ⟨fun d hd' => ?_, fun hle => hd i H' hP (by rw [← hl.len]; exact hle)⟩
  obtain ⟨v, hv, rv⟩ := hl.get hd'
  refine ⟨hg i v H' hP hv, fun x H'' y => ?_⟩
  obtain ⟨rfl, rfl⟩ := hy i v H' x H'' hP hv y
  exact ⟨B', .refl b', Rep.mono e hr d _ rv⟩
theorem it_lst {lk : List Nat} {a : Addr} {vs : List V} (hl : RepL W RA B l vs) (hs : Stay W RA B H lk fun H' => SqL W.K H' a vs) : ItOk W RA B H (Itl W.K a) l lk :=
  it_old hl hs (fun i x H' h hx => ⟨vs, x, h, hx⟩) (fun i x H' y H'' h hx yl => ⟨yl.1, by have := yl.2 vs h; rw [hx] at this; cases this; rfl⟩) fun i H' h hle => ⟨vs, h, hle⟩
theorem it_tup {lk : List Nat} {a : Addr} {vs : List V} (hl : RepL W RA B l vs) (hs : Stay W RA B H lk fun H' => SqT W.K H' a vs) : ItOk W RA B H (Itt W.K a) l lk :=
  it_old hl hs (fun i x H' h hx => ⟨vs, x, h, hx⟩) (fun i x H' y H'' h hx yl => ⟨yl.1, by have := yl.2 vs h; rw [hx] at this; cases this; rfl⟩) fun i H' h hle => ⟨vs, h, hle⟩
theorem it_str {s : Str} : ItOk W RA B H (Its s) (s.cps.toList.map fun c => .str ⟨#[c]⟩) [] := fun i RA' ρ' B' H' b' e hr hk => by
  refine ⟨fun d hd => ?_, fun hle => by show s.cps.size ≤ i; simpa using hle⟩
  rw [List.getElem?_map] at hd
  obtain ⟨c, hc, rfl⟩ := Option.map_eq_some_iff.mp hd
  have hc' : s.cps[i]? = some c := by simpa using hc
  refine ⟨(Array.getElem?_eq_some_iff.mp hc').1, fun x H'' y => ?_⟩
  obtain ⟨rfl, c', h1, rfl⟩ := y
  rw [hc'] at h1
  cases h1
  exact ⟨B', .refl b', rep_str⟩
/-- a new pair -/
theorem aft_pair {RA' : List Addr} {ρ' : List D} {B' H' : Hp} {T : Addr} {x y : V} {d1 d2 : D} (b : Base W RA' ρ' B' H') (hT : H' T = none) (r1 : Rep W RA' B' d1 x) (r2 : Rep W RA' B' d2 y) : ∃ B'', Aft W RA' ρ' B' H' B'' (upd H' T (.tup [x, y])) ∧ Rep W RA' B'' (.tup [d1, d2]) (.ref T) := by
  have a := Aft.laid (o := .tup [x, y]) b hT
  refine ⟨_, a, ?_⟩
  simp only [Rep]
  exact ⟨T, [x, y], rfl, SqT.of upd_same, .cons (r1.ex a.bl) (.cons (r2.ex a.bl) .nil)⟩
def zipL (l m : List D) : List D := List.zipWith (fun a b => D.tup [a, b]) l m
theorem zipL_get {l m : List D} {i : Nat} {d : D} (h : (zipL l m)[i]? = some d) : ∃ x y, l[i]? = some x ∧ m[i]? = some y ∧ d = .tup [x, y] := by
  unfold zipL at h
  rw [List.getElem?_zipWith] at h
  cases h1 : l[i]? with
  | none => rw [h1] at h; cases h
  | some x =>
    cases h2 : m[i]? with
    | none => rw [h1, h2] at h; cases h
    | some y => rw [h1, h2] at h; cases h; exact ⟨x, y, rfl, rfl, rfl⟩
theorem it_zip {lk lk' : List Nat} {a c : Addr} {vs us : List V} {m : List D} (hl : RepL W RA B l vs) (hm : RepL W RA B m us) (hs : Stay W RA B H lk fun H' => SqL W.K H' a vs) (hs' : Stay W RA B H lk' fun H' => SqL W.K H' c us) : ItOk W RA B H (Itz W.K a c) (zipL l m) (lk ++ lk') := fun i RA' ρ' B' H' b' e hr hk => by
  have h1 := hs RA' ρ' B' H' b' e fun r hr => hk r (List.mem_append_left _ hr)
  have h2 := hs' RA' ρ' B' H' b' e fun r hr => hk r (List.mem_append_right _ hr)
  refine ⟨fun d hd => ?_, fun hle => ⟨vs, us, h1, h2, by have e1 := hl.len; have e2 := hm.len; unfold zipL at hle; rw [List.length_zipWith] at hle; omega⟩⟩
  obtain ⟨x, y, hx, hy, rfl⟩ := zipL_get hd
  obtain ⟨v, hv, rv⟩ := hl.get hx
  obtain ⟨u, hu, ru⟩ := hm.get hy
  refine ⟨⟨vs, us, v, u, h1, h2, hv, hu⟩, fun z H'' yl => ?_⟩
  obtain ⟨T, x', y', rfl, hT, rfl, f1, f2⟩ := yl
  have := f1 vs h1; rw [hv] at this; cases this
  have := f2 us h2; rw [hu] at this; cases this
  exact aft_pair b' hT (Rep.mono e hr _ _ rv) (Rep.mono e hr _ _ ru)
theorem it_zipT {lk lk' : List Nat} {a c : Addr} {vs us : List V} {m : List D} (hl : RepL W RA B l vs) (hm : RepL W RA B m us) (hs : Stay W RA B H lk fun H' => SqT W.K H' a vs) (hs' : Stay W RA B H lk' fun H' => SqT W.K H' c us) : ItOk W RA B H (RZ.ItzT W.K a c) (zipL l m) (lk ++ lk') := fun i RA' ρ' B' H' b' e hr hk => by
  have h1 := hs RA' ρ' B' H' b' e fun r hr => hk r (List.mem_append_left _ hr)
  have h2 := hs' RA' ρ' B' H' b' e fun r hr => hk r (List.mem_append_right _ hr)
  refine ⟨fun d hd => ?_, fun hle => ⟨vs, us, h1, h2, by have e1 := hl.len; have e2 := hm.len; unfold zipL at hle; rw [List.length_zipWith] at hle; omega⟩⟩
  obtain ⟨x, y, hx, hy, rfl⟩ := zipL_get hd
  obtain ⟨v, hv, rv⟩ := hl.get hx
  obtain ⟨u, hu, ru⟩ := hm.get hy
  refine ⟨⟨vs, us, v, u, h1, h2, hv, hu⟩, fun z H'' yl => ?_⟩
  obtain ⟨T, x', y', rfl, hT, rfl, f1, f2⟩ := yl
  have := f1 vs h1; rw [hv] at this; cases this
  have := f2 us h2; rw [hu] at this; cases this
  exact aft_pair b' hT (Rep.mono e hr _ _ rv) (Rep.mono e hr _ _ ru)
def enumL (l : List D) : List D := zipL (rngL 0 l.length) l
theorem enumL_get {l : List D} {i : Nat} {d : D} (h : (enumL l)[i]? = some d) : ∃ y, l[i]? = some y ∧ d = .tup [.int (i : Nat), y] := by
  obtain ⟨x, y, h1, h2, rfl⟩ := zipL_get h
  obtain ⟨_, rfl⟩ := rngL_get h1
  exact ⟨y, h2, by simp⟩
theorem it_enum {lk : List Nat} {a : Addr} {vs : List V} (hl : RepL W RA B l vs) (hs : Stay W RA B H lk fun H' => SqL W.K H' a vs) : ItOk W RA B H (Ite W.K a) (enumL l) lk := fun i RA' ρ' B' H' b' e hr hk => by
  have h1 := hs RA' ρ' B' H' b' e hk
  refine ⟨fun d hd => ?_, fun hle => ⟨vs, h1, by have e1 := hl.len; unfold enumL zipL at hle; rw [List.length_zipWith, rngL_len] at hle; omega⟩⟩
  obtain ⟨y, hy, rfl⟩ := enumL_get hd
  obtain ⟨v, hv, rv⟩ := hl.get hy
  refine ⟨⟨vs, v, h1, hv⟩, fun z H'' yl => ?_⟩
  obtain ⟨T, x', rfl, hT, rfl, f1⟩ := yl
  have := f1 vs h1; rw [hv] at this; cases this
  exact aft_pair b' hT rep_int (Rep.mono e hr _ _ rv)
theorem rev_get {vs : List V} {i : Nat} (hi : i < vs.length) : vs.reverse[i]? = vs[vs.length - 1 - i]? := by
  rw [List.getElem?_reverse hi]
theorem RepL.reverse : ∀ {l : List D} {vs : List V}, RepL W RA B l vs → RepL W RA B l.reverse vs.reverse
  | [], vs, h => by rw [h.unnil]; exact .nil
  | d :: l, vs, h => by
    obtain ⟨v, us, rfl, h2, h3⟩ := h.uncons
    rw [List.reverse_cons, List.reverse_cons]
    exact (RepL.reverse h3).append (.cons h2 .nil)
theorem it_rev {lk : List Nat} {a : Addr} {vs : List V} (hl : RepL W RA B l vs) (hs : Stay W RA B H lk fun H' => SqL W.K H' a vs) : ItOk W RA B H (Itv W.K a vs.length) l.reverse lk :=
  it_old hl.reverse hs (fun i x H' h hx => by
    have hi : i < vs.length := by have := (List.getElem?_eq_some_iff.mp hx).1; simpa using this
    rw [rev_get hi] at hx
    exact ⟨hi, vs, x, h, hx⟩) (fun i x H' y H'' h hx yl => by
    have hi : i < vs.length := by have := (List.getElem?_eq_some_iff.mp hx).1; simpa using this
    rw [rev_get hi] at hx
    refine ⟨yl.1, ?_⟩
    have := yl.2 vs h
    rw [hx] at this; cases this; rfl) fun i H' h hle => by show vs.length ≤ i; simpa using hle
theorem it_revT {lk : List Nat} {a : Addr} {vs : List V} (hl : RepL W RA B l vs) (hs : Stay W RA B H lk fun H' => SqT W.K H' a vs) : ItOk W RA B H (RT.ItvT W.K a vs.length) l.reverse lk :=
  it_old hl.reverse hs (fun i x H' h hx => by
    have hi : i < vs.length := by have := (List.getElem?_eq_some_iff.mp hx).1; simpa using this
    rw [rev_get hi] at hx
    exact ⟨hi, vs, x, h, hx⟩) (fun i x H' y H'' h hx yl => by
    have hi : i < vs.length := by have := (List.getElem?_eq_some_iff.mp hx).1; simpa using this
    rw [rev_get hi] at hx
    refine ⟨yl.1, ?_⟩
    have := yl.2 vs h
    rw [hx] at this; cases this; rfl) fun i H' h hle => by show vs.length ≤ i; simpa using hle
def rng3L (lo c : Int) (n : Nat) : List D := (List.range n).map fun i => .int (lo + (i : Nat) * c)
theorem it_rng3 {lo c : Int} {n : Nat} : ItOk W RA B H (Itc lo c n) (rng3L lo c n) [] := fun i RA' ρ' B' H' b' e hr hk => by
  refine ⟨fun d hd => ?_, fun hle => by show n ≤ i; simpa [rng3L] using hle⟩
  unfold rng3L at hd
  rw [List.getElem?_map] at hd
  obtain ⟨j, hj, rfl⟩ := Option.map_eq_some_iff.mp hd
  obtain ⟨h1, h2⟩ := List.getElem?_eq_some_iff.mp hj
  simp at h1 h2
  subst h2
  refine ⟨h1, fun x H'' y => ?_⟩
  obtain ⟨rfl, rfl⟩ := y
  exact ⟨B', .refl b', rep_int⟩
end

/-- a list, a tuple or a text -/
def itI (f : EF) : IF := fun ρ σ => (f ρ σ).bind fun d => match dr ρ d with
  | .lst l => .ok (l, lockD d)
  | .scr l => .ok (l, lockD d)
  | .tup l => .ok (l, [])
  | .str s => .ok (s.cps.toList.map fun c => .str ⟨#[c]⟩, [])
  | _ => .bad
def zipI (f g : EF) : IF := fun ρ σ => (f ρ σ).bind fun x => (g ρ σ).bind fun y => match tupD (dr ρ x), tupD (dr ρ y) with
  | some l, some m => .ok (zipL l m, [])
  | _, _ => match seqD (dr ρ x), seqD (dr ρ y) with
    | some l, some m => .ok (zipL l m, lockD x ++ lockD y)
    | _, _ => .bad
def enumI (f : EF) : IF := fun ρ σ => (f ρ σ).bind fun x => match seqD (dr ρ x) with
  | some l => .ok (enumL l, lockD x)
  | none => .bad
def revI (f : EF) : IF := fun ρ σ => (f ρ σ).bind fun x => match tupD (dr ρ x) with
  | some l => .ok (l.reverse, [])
  | none => match seqD (dr ρ x) with
    | some l => .ok (l.reverse, lockD x)
    | none => .bad
def rng3I (f g h : EF) : IF := fun ρ σ => (f ρ σ).bind fun x => (g ρ σ).bind fun y => (h ρ σ).bind fun z => match dr ρ x, dr ρ y, dr ρ z with
  | .int i, .int j, .int c => if c ≠ 0 ∧ c.natAbs < 1073741824 ∧ Builtin.Range.small i j c = true ∧ 0 ≤ Builtin.Range.rangeSize i j c then .ok (rng3L i c (Builtin.Range.rangeSize i j c).toNat, []) else .bad
  | _, _, _ => .bad
section
variable {X : Cx} {W : Wd} {Wx : WX} {tg e a b c : Expr} {f g h : EF} {pos p : Pos}
theorem pi_or {t u : TI} (h1 : PI X tg e t) (h2 : PI X tg e u) : PI X tg e fun σ H R => t σ H R ∨ u σ H R := ⟨fun pins s σ H R I h => h.elim (h1.run pins s σ H R I) (h2.run pins s σ H R I)⟩
theorem Aw.bind2 {α β : Type} {RA : List Addr} {ρ : List D} {σ : L2.St} {B H : Hp} {r : Res α} {f : α → Res β} {P : β → Hp → Hp → Prop} (hq : Aw W Wx RA ρ σ B H (r.bind f) P) {P2 : α → Hp → Hp → Prop} (k : ∀ x, r = .ok x → ∀ B' H', Aft W RA ρ B H B' H' → Aw W Wx RA ρ σ B' H' (f x) P → P2 x B' H') : Aw W Wx RA ρ σ B H r P2 := by
  cases r with
  | ok x => exact fun B' H' a => k x rfl B' H' a (Aw.mono a hq)
  | exc c fs => exact hq
  | bad => exact hq
theorem aw_ok {α : Type} {RA : List Addr} {ρ : List D} {σ : L2.St} {B H : Hp} {x : α} {P : α → Hp → Hp → Prop} (b : Base W RA ρ B H) (h : Aw W Wx RA ρ σ B H (.ok x) P) : P x B H := h B H (.refl b)
theorem d_itI (hK : X.K = W.K) (he : PE X e (tE W Wx f)) : PI X tg e (tI W Wx (itI f)) := pi_weak (pi_or (pi_list he) (pi_or (pi_tup he) (pi_str he))) fun σ H R ⟨RA, ρ, σd, B, b, l, q⟩ => by
  unfold itI at q
  cases hf : f ρ σd with
  | bad => rw [hf] at q; exact q.elim
  | exc c fs => rw [hf] at q; exact .inl ⟨RA, ρ, σd, B, b, l, by rw [hf]; exact q⟩
  | ok d =>
    rw [hf] at q
    simp only [Res.bind] at q
    split at q
    · rename_i l1 e1
      refine .inl ⟨RA, ρ, σd, B, b, l, ?_⟩
      rw [hf]
      intro B1 H1 a1 v rv
      obtain ⟨a, vs, rfl, hv, hs, st⟩ := seq_stay a1.base rv (by rw [e1]; rfl)
      exact ⟨a, rfl, by rw [hK]; exact ⟨vs, hs⟩, by rw [hK]; exact q B1 H1 a1 _ (it_lst hv st)⟩
    · rename_i l1 e1
      refine .inl ⟨RA, ρ, σd, B, b, l, ?_⟩
      rw [hf]
      intro B1 H1 a1 v rv
      obtain ⟨a, vs, rfl, hv, hs, st⟩ := seq_stay a1.base rv (by rw [e1]; rfl)
      exact ⟨a, rfl, by rw [hK]; exact ⟨vs, hs⟩, by rw [hK]; exact q B1 H1 a1 _ (it_lst hv st)⟩
    · rename_i l1 e1
      refine .inr (.inl ⟨RA, ρ, σd, B, b, l, ?_⟩)
      rw [hf]
      intro B1 H1 a1 v rv
      obtain ⟨a, vs, rfl, hv, hs, st⟩ := tup_stay a1.base rv (by rw [e1]; rfl)
      exact ⟨a, rfl, by rw [hK]; exact ⟨vs, hs⟩, by rw [hK]; exact q B1 H1 a1 _ (it_tup hv st)⟩
    · rename_i s e1
      refine .inr (.inr ⟨RA, ρ, σd, B, b, l, ?_⟩)
      rw [hf]
      intro B1 H1 a1 v rv
      exact ⟨s, view_str a1.base rv e1, q B1 H1 a1 _ it_str⟩
    · exact q.elim
theorem aw_args {RA : List Addr} {ρ : List D} {σ : L2.St} {B H : Hp} {β : Type} {r : Res D} {k : D → Res β} {P : β → Hp → Hp → Prop} (q : Aw W Wx RA ρ σ B H (r.bind k) P) : Aw W Wx RA ρ σ B H (r.bind fun x => .ok [x]) fun ds B' H' => ∃ x, ds = [x] ∧ Aw W Wx RA ρ σ B' H' (k x) P := by
  cases r with
  | ok x => exact fun B' H' a => ⟨x, rfl, Aw.mono a q⟩
  | exc c fs => exact q
  | bad => exact q
theorem aw_args2 {RA : List Addr} {ρ : List D} {σ : L2.St} {B H : Hp} {β : Type} {r s : Res D} {k : D → D → Res β} {P : β → Hp → Hp → Prop} (q : Aw W Wx RA ρ σ B H (r.bind fun x => s.bind fun y => k x y) P) : Aw W Wx RA ρ σ B H (r.bind fun x => (s.bind fun y => .ok [y]).bind fun xs => .ok (x :: xs)) fun ds B' H' => ∃ x y, ds = [x, y] ∧ Aw W Wx RA ρ σ B' H' (k x y) P := by
  cases r with
  | ok x =>
    cases s with
    | ok y => exact fun B' H' a => ⟨x, y, rfl, Aw.mono a q⟩
    | exc c fs => exact q
    | bad => exact q
  | exc c fs => exact q
  | bad => exact q
theorem aw_args3 {RA : List Addr} {ρ : List D} {σ : L2.St} {B H : Hp} {β : Type} {r s t : Res D} {k : D → D → D → Res β} {P : β → Hp → Hp → Prop} (q : Aw W Wx RA ρ σ B H (r.bind fun x => s.bind fun y => t.bind fun z => k x y z) P) : Aw W Wx RA ρ σ B H (r.bind fun x => (s.bind fun y => (t.bind fun z => .ok [z]).bind fun xs => .ok (y :: xs)).bind fun xs => .ok (x :: xs)) fun ds B' H' => ∃ x y z, ds = [x, y, z] ∧ Aw W Wx RA ρ σ B' H' (k x y z) P := by
  cases r with
  | ok x =>
    cases s with
    | ok y =>
      cases t with
      | ok z => exact fun B' H' a => ⟨x, y, z, rfl, Aw.mono a q⟩
      | exc c fs => exact q
      | bad => exact q
    | exc c fs => exact q
    | bad => exact q
  | exc c fs => exact q
  | bad => exact q
theorem three_of {RA : List Addr} {B : Hp} {d1 d2 d3 : D} {vs : List V} (r : RepL W RA B [d1, d2, d3] vs) : ∃ x y z, vs = [x, y, z] ∧ Rep W RA B d1 x ∧ Rep W RA B d2 y ∧ Rep W RA B d3 z := by
  obtain ⟨x, us, rfl, h1, h2⟩ := r.uncons
  obtain ⟨y, z, rfl, h3, h4⟩ := two_of h2
  exact ⟨x, y, z, rfl, h1, h3, h4⟩
theorem d_zipI {elts : List Expr} {kk : Nat} {tpos : Pos} (hK : X.K = W.K) (hm : X.mg "zip" = none) (ha : PE X a (tE W Wx f)) (hb : PE X b (tE W Wx g)) (hg : Gl X "zip" := by rfl) (hs : starEach [a, b] X.env = (false, eval a X.env) :: starEach [b] X.env := by rfl) (hs2 : starEach [b] X.env = [(false, eval b X.env)] := by rfl) (hpl : (backTo pos (starEach [b] X.env)).any (·.1) = false := by rfl) :
    PI X (.Tuple elts kk tpos) (.Call (.Name "zip" p) [a, b] [] pos) (tI W Wx (zipI f g)) := pi_weak (RZ.pi_zipA hg hm (da_cons ha (da_cons hb da_nil hs2) hs) hs hpl) fun σ H R ⟨RA, ρ, σd, B, b, l, q⟩ => ⟨RA, ρ, σd, B, b, l, (aw_args2 q).imp fun ds B1 H1 a1 q1 vs rv => by
  obtain ⟨x, y, rfl, q1⟩ := q1
  obtain ⟨v, u, rfl, rx, ry⟩ := two_of rv
  split at q1
  · rename_i l1 m1 e1 e2
    obtain ⟨a, vs, rfl, hv, hs, st⟩ := tup_stay a1.base rx e1
    obtain ⟨c, us, rfl, hu, hs', st'⟩ := tup_stay a1.base ry e2
    exact ⟨a, c, vs, us, rfl, .inr ⟨by rw [hK]; exact hs, by rw [hK]; exact hs', by rw [hK]; exact aw_ok a1.base q1 _ (it_zipT hv hu st st')⟩⟩
  · split at q1
    · rename_i l1 m1 e1 e2
      obtain ⟨a, vs, rfl, hv, hs, st⟩ := seq_stay a1.base rx e1
      obtain ⟨c, us, rfl, hu, hs', st'⟩ := seq_stay a1.base ry e2
      exact ⟨a, c, vs, us, rfl, .inl ⟨by rw [hK]; exact hs, by rw [hK]; exact hs', by rw [hK]; exact aw_ok a1.base q1 _ (it_zip hv hu st st')⟩⟩
    · exact q1.elim⟩
theorem d_enumI {elts : List Expr} {kk : Nat} {tpos : Pos} (hK : X.K = W.K) (hm : X.mg "enumerate" = none) (he : PE X e (tE W Wx f)) (hg : Gl X "enumerate" := by rfl) (hs : starEach [e] X.env = [(false, eval e X.env)] := by rfl) :
    PI X (.Tuple elts kk tpos) (.Call (.Name "enumerate" p) [e] [] pos) (tI W Wx (enumI f)) := pi_weak (pi_enum hg hm (da_cons he da_nil hs) hs) fun σ H R ⟨RA, ρ, σd, B, b, l, q⟩ => ⟨RA, ρ, σd, B, b, l, (aw_args q).imp fun ds B1 H1 a1 q1 vs rv => by
  obtain ⟨x, rfl, q1⟩ := q1
  obtain ⟨v, rfl, rx⟩ := one_of rv
  split at q1
  · rename_i l1 e1
    obtain ⟨a, vs, rfl, hv, hs, st⟩ := seq_stay a1.base rx e1
    exact ⟨a, vs, rfl, by rw [hK]; exact hs, by rw [hK]; exact aw_ok a1.base q1 _ (it_enum hv st)⟩
  · exact q1.elim⟩
theorem d_revI (hK : X.K = W.K) (hm : X.mg "reversed" = none) (he : PE X e (tE W Wx f)) (hg : Gl X "reversed" := by rfl) (hs : starEach [e] X.env = [(false, eval e X.env)] := by rfl) :
    PI X tg (.Call (.Name "reversed" p) [e] [] pos) (tI W Wx (revI f)) := pi_weak (RT.pi_revA hg hm he hs) fun σ H R ⟨RA, ρ, σd, B, b, l, q⟩ => ⟨RA, ρ, σd, B, b, l, (Aw.bind q).imp fun x B1 H1 a1 q1 v rx => by
  split at q1
  · rename_i l1 e1
    obtain ⟨a, vs, rfl, hv, hs, st⟩ := tup_stay a1.base rx e1
    exact ⟨a, vs, rfl, .inr ⟨by rw [hK]; exact hs, by rw [hK]; exact aw_ok a1.base q1 _ (it_revT hv st)⟩⟩
  · split at q1
    · rename_i l1 e1
      obtain ⟨a, vs, rfl, hv, hs, st⟩ := seq_stay a1.base rx e1
      exact ⟨a, vs, rfl, .inl ⟨by rw [hK]; exact hs, by rw [hK]; exact aw_ok a1.base q1 _ (it_rev hv st)⟩⟩
    · exact q1.elim⟩
theorem d_rng3 (hm : X.mg "range" = none) (ha : PE X a (tE W Wx f)) (hb : PE X b (tE W Wx g)) (hc : PE X c (tE W Wx h)) (hg : Gl X "range" := by rfl) (hs : starEach [a, b, c] X.env = (false, eval a X.env) :: starEach [b, c] X.env := by rfl) (hs2 : starEach [b, c] X.env = (false, eval b X.env) :: starEach [c] X.env := by rfl) (hs3 : starEach [c] X.env = [(false, eval c X.env)] := by rfl) (hpl : (backTo pos (starEach [b, c] X.env)).any (·.1) = false := by rfl) :
    PI X tg (.Call (.Name "range" p) [a, b, c] [] pos) (tI W Wx (rng3I f g h)) := pi_weak (pi_range3 hg hm (da_cons ha (da_cons hb (da_cons hc da_nil hs3) hs2) hs) hs hpl) fun σ H R ⟨RA, ρ, σd, B, b, l, q⟩ => ⟨RA, ρ, σd, B, b, l, (aw_args3 q).imp fun ds B1 H1 a1 q1 vs rv => by
  obtain ⟨x, y, z, rfl, q1⟩ := q1
  obtain ⟨v, u, t, rfl, rx, ry, rz⟩ := three_of rv
  split at q1
  · rename_i i j k e1 e2 e3
    split at q1
    · rename_i hc
      refine ⟨i, j, k, _, ?_, ⟨hc.1, hc.2.1, hc.2.2.1, (Int.toNat_of_nonneg hc.2.2.2).symm⟩, aw_ok a1.base q1 _ it_rng3⟩
      rw [view_int a1.base rx e1, view_int a1.base ry e2, view_int a1.base rz e3]
    · exact q1.elim
  · exact q1.elim⟩
end
end Dd

set_option Elab.async false
set_option linter.all false
set_option maxRecDepth 100000
set_option maxHeartbeats 2000000
/-! DdStar: (a, .., *r) = a list -/
namespace Dd
open PySem PySem.Spec PyProof.Rows L2 Evl OwnO My

theorem vals_drop : ∀ (k : Nat) {xs : List V} {us : List Value}, Vals xs us → Vals (xs.drop k) (us.drop k)
  | 0, _, _, h => h
  | k + 1, _, _, .nil => .nil
  | k + 1, _, _, .cons _ t => vals_drop k t
theorem vals_take : ∀ (k : Nat) {xs : List V} {us : List Value}, Vals xs us → Vals (xs.take k) (us.take k)
  | 0, _, _, h => .nil
  | k + 1, _, _, .nil => .nil
  | k + 1, _, _, .cons r t => .cons r (vals_take k t)
theorem vals_snoc : ∀ {xs : List V} {us : List Value} {x : V} {u : Value}, Vals xs us → RelV x u → Vals (xs ++ [x]) (us ++ [u])
  | _, _, _, _, .nil, r => .cons r .nil
  | _, _, _, _, .cons r' t, r => .cons r' (vals_snoc t r)
section
variable {prog : Program} {w : World} {A : Around} {E : Value → Shared → Prop} {s : Shared}
theorem walks_from (hh : A.handled = none) (I ax : Addr) (hne : ax ≠ I) (items : Array Value) (k : Nat) (hk : k ≤ items.size) :
    Walks prog w A I [I, ax] [I] (items.size - k) (fun i v => items[k + i]? = some v) (fun i h => h.IsListIter I ax (k + i) ∧ h.IsList ax items) where
  sub := fun b hb => by simp at hb; simp [hb]
  frame := fun _ _ _ st hk => ⟨st.1.at fun o e => hk I (by simp) o e, st.2.at fun o e => hk ax (by simp) o e⟩
  item := fun i s Q E hi st hQ => by
    refine wpAny_pyNext_list_item st.1 st.2 (x := items[k + i]'(by omega)) (by simp) fun h' hit' hs' => ?_
    exact hQ _ h' s.toks (by simp) ⟨by rw [← Nat.add_assoc]; exact hit', st.2.extBut hs'.extBut hne⟩ fun b o hb e => hs'.extBut b o (fun h => hb (by simp [h])) e
  done := fun s Q E st hQ => wpAny_pyNext_list_end hh st.1 st.2 (by simp; omega) fun h' he' => hQ h' s.toks fun b o hb e => he' b o (fun h => hb (by simp [h])) e
  self := fun _ _ _ _ st hQ => wpAny_pyIter_listiter st.1 hQ
/-- the first k items, and a new list of the others -/
theorem unpack_star {l : Addr} {items : Array Value} {k : Nat} {Q : List Value → Shared → Prop} (hh : A.handled = none) (hl : s.heap.IsList l items) (hk : k ≤ items.size) (hz : items.size ≤ sizeLine)
    (hQ : ∀ (h' : Heap) (t' : Nat), (∀ b o, s.heap.get? b = some o → h'.get? b = some o) → Q (items.toList.take k ++ [.ref h'.objs.size]) { s with heap := h'.push { cls := .type "list", data := .seq (items.toList.drop k).toArray }, toks := t' }) :
    wpAny (model prog w) A (unpackItems (.ref l) (k + 1) (some k)) Q E s := by
  have hlt : l ≠ s.heap.objs.size := by obtain ⟨o, ho, _⟩ := hl; exact Nat.ne_of_lt (Heap.lt_size ho)
  unfold unpackItems
  refine wpAny_bind ?_
  unfold notIterableAtAll
  refine wpAny_bind (wpAny_specialOf hl.typeIs PySem.F.slot_list_iter.lookup ?_)
  refine wpAny_pure ?_
  simp only [Bool.false_eq_true, if_false]
  refine wpAny_bind (wpAny_holding (wpAny_pyIter_list hl ?_))
  refine wpAny_bind (wpAny_holding (PySem.W.kun_draw hlt k 0 _ _ ⟨_, Heap.get?_push_size _ rfl, rfl, rfl⟩ (hl.push _) (by omega) fun h₁ hit₁ hs₁ => ?_))
  have hall : (List.take k (List.drop 0 items.toList)).length = k := by rw [List.drop_zero]; simp; omega
  rw [if_neg (by rw [hall]; omega)]
  have hl₁ : h₁.IsList l items := (hl.push _).extBut hs₁.extBut hlt
  have hI : s.heap.objs.size < h₁.objs.size := by obtain ⟨o, ho, _⟩ := id hit₁; exact Heap.lt_size ho
  have hL : l < h₁.objs.size := by obtain ⟨o, ho, _⟩ := id hl₁; exact Heap.lt_size ho
  refine wpAny_bind (wpAny_holding ?_)
  refine wpAny_collect_iter (T := "list_iterator") (.inr (.inr (.inl rfl))) ((walks_from (prog := prog) (w := w) (A := A.in1) (by exact hh) s.heap.objs.size l hlt items k hk).toS) (fun i s' st => by obtain ⟨o, ho, hc, _⟩ := st.1; exact ⟨o, ho, hc⟩) ⟨by simpa using hit₁, hl₁⟩ (fun b hb => ?_) (by simp) (fun s' acc mv it => ?_) (by omega)
  · simp only [List.mem_cons, List.not_mem_nil, or_false] at hb
    rcases hb with rfl | rfl
    · exact hI
    · exact hL
  · have ea : acc.toList = items.toList.drop k := by
      apply List.ext_getElem?
      intro i
      rw [List.getElem?_drop]
      by_cases hi : i < acc.size
      · have := it.2 i acc[i] (by simp [hi])
        simp only [Array.getElem?_toList]
        rw [this]
        simp [hi]
      · rw [List.getElem?_eq_none (by simpa using hi), List.getElem?_eq_none (by rw [Array.length_toList]; have := it.1; omega)]
    rw [ea]
    have e0 : k + 1 - 1 - k = 0 := by omega
    simp only [e0]
    rw [if_neg (by omega)]
    simp only [Nat.sub_zero, List.take_length, List.drop_length, List.append_nil, List.drop_zero]
    unfold newList
    refine wpAny_bind (wpAny_newObj_type (wpAny_pure ?_) ?hz)
    case hz =>
      show (List.drop k items.toList).toArray.size ≤ sizeLine
      simp
      omega
    have es : s' = { s with heap := s'.heap, toks := s'.toks } := by
      obtain ⟨m1, m2, m3, m4, m5⟩ := mv
      cases s' with
      | mk h' g' d' t' o' =>
        simp only at m2 m3 m4
        rw [m2, m3, m4]
    rw [es]
    exact hQ s'.heap s'.toks fun b o e => mv.heap b o (fun hb => by
      simp only [List.mem_cons, List.not_mem_nil, or_false] at hb
      subst hb
      exact Nat.lt_irrefl _ (Heap.lt_size e)) (hs₁.extBut b o (fun hb => by subst hb; exact Nat.lt_irrefl _ (Heap.lt_size e)) (Heap.get?_push_of_some _ e))
end
/-- (.., *r) = a list: k names ahead -/
def gStar (K : PySem.W.Frag) (k : Nat) (t : TGs) : TG := fun v σ H Q => ∃ a xs, v = .ref a ∧ SqL K H a xs ∧ k ≤ xs.length ∧ ∀ p, H p = none → t (xs.take k ++ [.ref p]) σ (upd H p (.lst (xs.drop k))) Q
theorem pg_star {X : Cx} {pos : Pos} {es : List Expr} {kk k : Nat} {t : TGs} (hc : X.calm = true) (h : PGs X es t) (hn : (assignEach es X.env).length = k + 1 := by rfl) (hst : (assignEach es X.env).findIdx? (·.1) = some k := by rfl) : PG X (.Tuple es kk pos) (gStar X.K k t) := by
  refine ⟨fun pins s σ H v u Q I r hw => ?_⟩
  obtain ⟨a, xs, e1, hq, hk, hw⟩ := hw
  subst e1
  cases r
  obtain ⟨its, rv, pl, hz⟩ := I.list hq
  have hl' : s.heap.IsList a its.toArray := by
    obtain ⟨o, m, e, c, d, q⟩ := pl
    exact ⟨o, e, c, m, q⟩
  rw [PyProof.Rows.assign_Tuple]
  refine wpAny_bind (wpAny_standAt ?_)
  unfold unpack
  rw [hn, hst]
  refine wpAny_bind (wpAny_holding (unpack_star (I.ok.hd hc) hl' (by simp; rw [← rv.length]; exact hk) (by simp; rw [← rv.length]; exact hz) fun h' t' hx => ?_))
  have I1 : Inv X pins σ H { s with heap := h', toks := t' } := I.kept hx
  have hf : H h'.objs.size = none := I1.hok.fresh (Nat.le_refl _)
  have I2 : Inv X pins σ (upd H h'.objs.size (.lst (xs.drop k))) { s with heap := h'.push { cls := .type "list", data := .seq (its.drop k).toArray }, toks := t' } := by
    refine I1.laid (t' := t') (fun b u e => Heap.get?_push_of_some _ e) (Nat.le_refl _) ?_
    exact ⟨by simp only [List.length_drop]; omega, its.drop k, 0, vals_drop k rv, Heap.get?_push_size _ rfl⟩
  refine h.run pins _ σ _ (xs.take k ++ [.ref h'.objs.size]) _ Q (by simpa using I2) ?_ (hw _ hf)
  simpa using vals_snoc (x := .ref h'.objs.size) (u := .ref h'.objs.size) (vals_take k rv) rfl
/-- a, .., *r = e, e a list: n names ahead -/
def starS (n : Nat) (f : EF) (h : List D → List D → Env → Option Env) : SF := fun _ ρ σ => withE (f ρ σ) ρ σ fun d => match seqD (dr ρ d) with
  | some l => if n ≤ l.length then match h ρ (l.take n ++ [.lst (l.drop n)]) σ with
      | some σ' => .nx ρ σ'
      | none => .bad
    else .bad
  | none => .bad
theorem ds_star {X : Cx} {W : Wd} {Wx : WX} {es : List Expr} {e : Expr} {f : EF} {h : List D → List D → Env → Option Env} {ws : List Nat} {kk n : Nat} {pos tpos : Pos} (hK : X.K = W.K) (hc : X.calm = true) (he : PE X e (tE W Wx f)) (hg : PGs X es (tGs W ws h)) (hn : (assignEach es X.env).length = n + 1 := by rfl) (hst : (assignEach es X.env).findIdx? (·.1) = some n := by rfl)
    (hs : swapsWithSole [.Tuple es kk tpos] e pos.line X.env = pure false := by rfl) (hw : swappedStores [.Tuple es kk tpos] e X.env = pure none := by rfl) (h1 : (assignEach [.Tuple es kk tpos] X.env).map (·.2) = [assign (.Tuple es kk tpos) X.env] := by rfl) :
    PSd X W Wx (.Assign [.Tuple es kk tpos] e pos) (starS n f h) := fun mu => ps_weak (ps_asg he (pg_star hc hg hn hst) hs hw h1) fun Dn σ H ⟨RA, ρ, σd, B, b, l, q⟩ =>
  ⟨RA, ρ, σd, B, b, l, (Done.withE b l q).imp fun d B1 H1 a1 q1 v rv => by
    split at q1
    · rename_i l1 e1
      split at q1
      · rename_i hn
        obtain ⟨a, vs, rfl, hv, hsq, _⟩ := seq_stay a1.base rv e1
        refine ⟨a, vs, rfl, by rw [hK]; exact hsq, by rw [← hv.len]; exact hn, fun p hp => ?_⟩
        have a2 := Aft.laid (o := .lst (vs.drop n)) a1.base hp
        split at q1
        · rename_i σ' e2
          refine ⟨RA, ρ, σd, _, _, a2.base, (l.ex a1.bl).ex a2.bl, ((hv.ex a2.bl).take n).append (.cons ?_ .nil), σ', e2, fun σ2 l2 _ => q1 RA _ _ σ2 (.of_aft mu a2) l2⟩
          simp only [Rep]
          exact ⟨p, _, rfl, upd_same, (hv.ex a2.bl).drop n⟩
        · exact q1.elim
      · exact q1.elim
    · exact q1.elim⟩
theorem pgs_as {X : Cx} {e0 e : Expr} {es : List Expr} {t : TG} {u : TGs} (h1 : PG X e t) (h2 : PGs X es u) (hs : (assignEach (e0 :: es) X.env).map (·.2) = assign e X.env :: (assignEach es X.env).map (·.2)) : PGs X (e0 :: es) (gCons t u) := by
  refine ⟨fun pins s σ H vs us Q I r h => ?_⟩
  obtain ⟨v, vr, e1, h⟩ := h
  subst e1
  cases r with
  | cons r rr =>
    rw [hs]
    refine assignInOrder_cons (thn (h1.run pins s σ H _ _ _ I r h) fun _ s1 ⟨σ1, H1, I1, q1⟩ => ?_)
    exact h2.run pins s1 σ1 H1 _ _ Q I1 rr q1
theorem dgs_star {X : Cx} {W : Wd} {e : Expr} {p : Pos} {g : TGF} {ws : List Nat} (h1 : PG X e (tG W ws g)) (hs : (assignEach [.Starred e p] X.env).map (·.2) = assign e X.env :: (assignEach [] X.env).map (·.2) := by rfl) : PGs X [.Starred e p] (tGs W (ws ++ []) (consG g nilG)) :=
  pgs_weak (pgs_as h1 dgs_nil hs) fun vs σ H Q ⟨RA, ρ, σd, B, ds, b, l, r, σd', e, q⟩ => by
    cases ds with
    | nil => simp only [consG] at e; cases e
    | cons d ds =>
      obtain ⟨v, vr, rfl, rv, rr⟩ := r.uncons
      simp only [consG] at e
      obtain ⟨σ1, e1, e2⟩ := Option.bind_eq_some_iff.mp e
      exact ⟨v, vr, rfl, RA, ρ, σd, B, d, b, l, rv, σ1, e1, fun σ' l' o1 => ⟨RA, ρ, σ1, B, ds, b, l', rr, σd', e2, fun σ'' l'' o2 => q σ'' l'' (o1.trans o2)⟩⟩
end Dd

set_option Elab.async false
set_option linter.all false
set_option maxRecDepth 100000
set_option maxHeartbeats 2000000
/-! DdComp2: comprehensions of two clauses; a comprehension as a root; statements never reached -/
namespace Dd
open PySem PySem.Spec PyProof.Rows L2 Evl OwnO My

def lc2L (g : TGF) (t : TF) (fi1 : IF) (g1 : TGF) (t1 : TF) (f : EF) (vs1 : List Nat) (ρ : List D) (σ : Env) : List D → Res (List D)
  | [] => .ok []
  | d :: ds => match g ρ d σ with
    | none => .bad
    | some σ1 => (t ρ σ1).bind fun k => if k = true then (fi1 ρ σ1).bind fun p => (lcL g1 t1 f ρ (wipeD σ1 vs1) p.1).bind fun ys => (lc2L g t fi1 g1 t1 f vs1 ρ σ ds).bind fun zs => .ok (ys ++ zs) else lc2L g t fi1 g1 t1 f vs1 ρ σ ds
/-- [f for g in fi if t for g1 in fi1 if t1] -/
def lc2S (fi : IF) (g : TGF) (t : TF) (fi1 : IF) (g1 : TGF) (t1 : TF) (f : EF) (vs vs1 : List Nat) : EF := fun ρ σ => (fi ρ σ).bind fun p => (okOnly (lc2L g t fi1 g1 t1 f vs1 ρ (wipeD σ vs) p.1)).bind fun ys => if ys.length ≤ 100000 then .ok (.lst ys) else .bad
theorem bind_ok {α β : Type} {r : Res α} {f : α → Res β} {y : β} (h : r.bind f = .ok y) : ∃ x, r = .ok x ∧ f x = .ok y := by
  cases r with
  | ok x => exact ⟨x, rfl, h⟩
  | exc c fs => cases h
  | bad => cases h
/-- the growing list at D0, of zs -/
structure Mid (W : Wd) (RA : List Addr) (ρ : List D) (B1 H1 : Hp) (D0 : Addr) (B2 H2 : Hp) (zs : List D) : Prop where
  bn : ∀ x o, B2 x = some o → B1 x = some o ∨ H1 x = none
  bl : Ex B1 B2
  hp : Ex H1 H2
  base : Base W RA ρ B2 H2
  out : B2 D0 = none
  at_ : ∃ acc, H2 D0 = some (.lst acc) ∧ RepL W RA B2 zs acc
section
variable {W : Wd} {RA : List Addr} {ρ : List D} {B1 H1 B2 H2 B3 H3 : Hp} {D0 : Addr} {zs : List D}
theorem Mid.aft (m : Mid W RA ρ B1 H1 D0 B2 H2 zs) (a : Aft W RA ρ B2 H2 B3 H3) : Mid W RA ρ B1 H1 D0 B3 H3 zs := by
  obtain ⟨acc, h1, h2⟩ := m.at_
  refine ⟨fun x o h => ?_, m.bl.trans a.bl, m.hp.trans a.hp, a.base, ?_, acc, a.hp D0 _ h1, h2.ex a.bl⟩
  · rcases a.bn x o h with h | h
    · exact m.bn x o h
    · exact .inr (fresh_back m.hp h)
  · cases e : B3 D0 with
    | none => rfl
    | some o =>
      rcases a.bn D0 o e with h | h
      · rw [m.out] at h; cases h
      · rw [h1] at h; cases h
theorem Mid.add (m : Mid W RA ρ B1 H1 D0 B2 H2 zs) (hD : H1 D0 = none) (hr : D0 ∉ RA) {d : D} {v : V} (rv : Rep W RA B2 d v) (hz : zs.length < 100000) : ∃ acc, H2 D0 = some (.lst acc) ∧ acc.length < sizeLine ∧ Mid W RA ρ B1 H1 D0 B2 (upd H2 D0 (.lst (acc ++ [v]))) (zs ++ [d]) := by
  obtain ⟨acc, h1, h2⟩ := m.at_
  exact ⟨acc, h1, sz_lt (by rw [← h2.len]; exact hz), m.bn, m.bl, m.hp.mut hD, m.base.upd m.out hr, m.out, _, upd_same, h2.append (.cons rv .nil)⟩
end
section
variable {X : Cx} {W : Wd} {Wx : WX} {elt tg iter tg1 iter1 : Expr} {ifs ifs1 : List Expr} {fi fi1 : IF} {g g1 : TGF} {t t1 : TF} {f : EF} {ws ws1 vs vs1 : List Nat}
theorem tF_lc2 (hs : ∀ i ∈ ws, i ∈ vs) (hs1 : ∀ i ∈ ws1, i ∈ vs1) (σ : L2.St) (H : Hp) (Q : VK) : tF W Wx (lc2S fi g t fi1 g1 t1 f vs vs1) σ H Q → tLc2 (tI W Wx fi) (tG W ws g) (tT W WF t) (tI W WF fi1) (tG W ws1 g1) (tT W WF t1) (tE W WF f) vs vs1 σ H Q := fun ⟨RA, ρ, σd, B, b, l, q⟩ => ⟨RA, ρ, σd, B, b, l, by
  have q := Aw.bind q
  cases hf : fi ρ σd with
  | bad => rw [hf] at q; exact q
  | exc c fs => rw [hf] at q; exact q
  | ok p =>
    obtain ⟨ds, lk⟩ := p
    rw [hf] at q
    refine fun B1 H1 a1 J ij D0 hD => ?_
    have q1 := q B1 H1 a1
    dsimp only at q1
    cases hl : lc2L g t fi1 g1 t1 f vs1 ρ (wipeD σd vs) ds with
    | bad => rw [hl] at q1; exact False.elim q1
    | exc c fs => rw [hl] at q1; exact False.elim q1
    | ok ys =>
      rw [hl] at q1
      simp only [okOnly, Res.bind] at q1
      split at q1
      · rename_i hz
        have q1 : ∀ B' H', Aft W RA ρ B1 H1 B' H' → ∀ v, Fresh W RA H B' H' (.lst ys) v → Q v H' := q1
        have hDout := a1.base.fresh_out hD
        have lw : LocOk W RA B1 (wipeD σd vs) (wipe σ vs) := (l.ex a1.bl).wipe vs
        let Pv : Nat → Hp → Prop := fun i H2 => ∃ B2 zs, Mid W RA ρ B1 H1 D0 B2 H2 zs ∧ ∃ rest, lc2L g t fi1 g1 t1 f vs1 ρ (wipeD σd vs) (ds.drop i) = .ok rest ∧ ys = zs ++ rest
        refine ⟨fun i m H2 => m = ds.length - i ∧ i ≤ ds.length ∧ Pv i H2, ⟨ds.length, by simp, Nat.zero_le _, B1, [], ⟨fun _ _ h => .inl h, Ex.refl _, Ex.new hD, a1.base.upd hDout.1 hDout.2, hDout.1, [], upd_same, .nil⟩, ys, by simpa using hl, rfl⟩, ?_⟩
        rintro i m H2 ⟨rfl, hi, B2, zs, md, rest, hrest, hys⟩
        have it := ij i RA ρ B2 H2 md.base md.bl (fun _ _ h => h) (fun r _ a o _ ho => md.hp a o ho)
        by_cases hlt : i < ds.length
        · obtain ⟨go, yl⟩ := it.1 ds[i] (List.getElem?_eq_getElem hlt)
          rw [List.drop_eq_getElem_cons hlt] at hrest
          simp only [lc2L] at hrest
          refine .inr ⟨go, Pv (i + 1), fun H' p => ⟨ds.length - (i + 1), by omega, rfl, hlt, p⟩, fun x H3 y => ?_⟩
          obtain ⟨B3, a3, rx⟩ := yl x H3 y
          have l3 : LocOk W RA B3 (wipeD σd vs) (wipe σ vs) := (lw.ex md.bl).ex a3.bl
          split at hrest
          · cases hrest
          · rename_i σ1 e3
            refine ⟨RA, ρ, wipeD σd vs, B3, ds[i], a3.base, l3, rx, σ1, e3, fun σ4 l4 o4 => ⟨wipe_wipe o4 hs, ?_⟩⟩
            refine ⟨RA, ρ, σ1, B3, a3.base, l4, ?_⟩
            obtain ⟨k, ht, hrest⟩ := bind_ok hrest
            rw [ht]
            refine fun B4 H4 a4 => ?_
            have m4 := (md.aft a3).aft a4
            cases k with
            | false =>
              simp only [Bool.false_eq_true, if_false] at hrest ⊢
              exact ⟨B4, zs, m4, rest, hrest, hys⟩
            | true =>
              simp only [if_true] at hrest ⊢
              obtain ⟨⟨ds1, lk1⟩, hf1, hrest⟩ := bind_ok hrest
              dsimp only at hrest
              obtain ⟨us, hl1, hrest⟩ := bind_ok hrest
              obtain ⟨rest2, hr2, hrest⟩ := bind_ok hrest
              cases hrest
              refine ⟨RA, ρ, σ1, B4, a4.base, l4.ex a4.bl, ?_⟩
              rw [hf1]
              refine fun B5 H5 a5 J1 ij1 => ?_
              have m5 := m4.aft a5
              have l5 := (l4.ex a4.bl).ex a5.bl
              have lw5 : LocOk W RA B5 (wipeD σ1 vs1) (wipe σ4 vs1) := l5.wipe vs1
              let P1 : Nat → Hp → Prop := fun j H6 => ∃ B6 xs, Mid W RA ρ B1 H1 D0 B6 H6 xs ∧ Ex B5 B6 ∧ (∀ a o, a ≠ D0 → H5 a = some o → H6 a = some o) ∧ ∃ rest1, lcL g1 t1 f ρ (wipeD σ1 vs1) (ds1.drop j) = .ok rest1 ∧ ys = xs ++ (rest1 ++ rest2)
              refine ⟨fun j m H6 => m = ds1.length - j ∧ j ≤ ds1.length ∧ P1 j H6, ⟨ds1.length, by simp, Nat.zero_le _, B5, zs, m5, Ex.refl _, fun _ _ _ h => h, us, by simpa using hl1, hys⟩, ?_⟩
              rintro j m H6 ⟨rfl, hj, B6, xs, m6, e56, k56, rest1, hrest1, hys6⟩
              have it1 := ij1 j RA ρ B6 H6 m6.base e56 (fun _ _ h => h) (fun r _ a o ha ho => k56 a o (fun z => hDout.2 (by rw [← z]; exact List.mem_of_getElem? ha)) ho)
              by_cases hlt1 : j < ds1.length
              · obtain ⟨go1, yl1⟩ := it1.1 ds1[j] (List.getElem?_eq_getElem hlt1)
                rw [List.drop_eq_getElem_cons hlt1] at hrest1
                simp only [lcL] at hrest1
                refine .inr ⟨go1, P1 (j + 1), fun H' p => ⟨ds1.length - (j + 1), by omega, rfl, hlt1, p⟩, fun x H7 y => ?_⟩
                obtain ⟨B7, a7, rx7⟩ := yl1 x H7 y
                have l7 : LocOk W RA B7 (wipeD σ1 vs1) (wipe σ4 vs1) := (lw5.ex e56).ex a7.bl
                split at hrest1
                · cases hrest1
                · rename_i σ5 e7
                  refine ⟨RA, ρ, wipeD σ1 vs1, B7, ds1[j], a7.base, l7, rx7, σ5, e7, fun σ6 l6 o6 => ⟨wipe_wipe o6 hs1, ?_⟩⟩
                  refine ⟨RA, ρ, σ5, B7, a7.base, l6, ?_⟩
                  obtain ⟨k1, ht1, hrest1⟩ := bind_ok hrest1
                  rw [ht1]
                  refine fun B8 H8 a8 => ?_
                  have a78 := a7.trans a8
                  have m8 := m6.aft a78
                  have k58 : ∀ a o, a ≠ D0 → H5 a = some o → H8 a = some o := fun a o hne h => a78.hp a o (k56 a o hne h)
                  cases k1 with
                  | false =>
                    simp only [Bool.false_eq_true, if_false] at hrest1 ⊢
                    exact ⟨B8, xs, m8, e56.trans a78.bl, k58, rest1, hrest1, hys6⟩
                  | true =>
                    simp only [if_true] at hrest1 ⊢
                    obtain ⟨d, hfd, hrest1⟩ := bind_ok hrest1
                    obtain ⟨rest3, hr3, hrest1⟩ := bind_ok hrest1
                    cases hrest1
                    refine ⟨RA, ρ, σ5, B8, a8.base, l6.ex a8.bl, ?_⟩
                    rw [hfd]
                    refine fun B9 H9 a9 v rv => ?_
                    obtain ⟨acc, h1, h2, m9⟩ := (m8.aft a9).add hD hDout.2 rv (by
                      have := congrArg List.length hys6
                      simp only [List.length_append, List.length_cons] at this
                      omega)
                    refine ⟨acc, h1, h2, B9, xs ++ [d], m9, (e56.trans a78.bl).trans a9.bl, fun a o hne h => ?_, rest3, hr3, by rw [hys6]; simp⟩
                    rw [upd_ne hne]
                    exact a9.hp a o (k58 a o hne h)
              · have e : j = ds1.length := by omega
                subst e
                refine .inl ⟨it1.2 (Nat.le_refl _), ?_⟩
                rw [List.drop_length] at hrest1
                cases hrest1
                exact ⟨B6, xs, m6, rest2, hr2, by rw [hys6]; simp⟩
        · have e : i = ds.length := by omega
          subst e
          refine .inl ⟨it.2 (Nat.le_refl _), ?_⟩
          rw [List.drop_length] at hrest
          cases hrest
          rw [List.append_nil] at hys
          subst hys
          obtain ⟨acc, h1, h2⟩ := md.at_
          exact q1 B2 H2 ⟨md.hp, md.bl, md.base, md.bn⟩ _ ⟨D0, rfl, fresh_back a1.hp hD, md.out, hDout.2, acc, h1, h2⟩
      · exact False.elim q1⟩
end
section
variable {X : Cx} {W : Wd} {Wx : WX} {elt tg iter tg1 iter1 : Expr} {ifs ifs1 : List Expr} {fi fi1 : IF} {g g1 : TGF} {t t1 : TF} {f : EF} {ws ws1 vs1 : List Nat} {scope : Scope} {own : List (Str × Nat)} {pos : Pos}
theorem f_lc2 (hc : X.calm = true) (hN : X.N.Nodup) (hi : PI X tg iter (tI W Wx fi)) (ok : BlkOk X.N X.env.scope scope own) (hv : ∀ i ∈ vs1, i ∈ own.map (·.2)) (hws : ∀ i ∈ ws, i ∈ own.map (·.2)) (hws1 : ∀ i ∈ ws1, i ∈ vs1)
    (hg : ∀ (s : Shared) (H : Hp) (C : Addr) (cl : List (Str × Addr)) (fp : List Addr), PG (X.blk s H scope (compEnvC scope cl C X.env) fp) tg (tG W ws g)) (ht : ∀ (s : Shared) (H : Hp) (C : Addr) (cl : List (Str × Addr)) (fp : List Addr), PTs (X.blk s H scope (compEnvC scope cl C X.env) fp) ifs (tT W WF t))
    (hi1 : ∀ (s : Shared) (H : Hp) (C : Addr) (cl : List (Str × Addr)) (fp : List Addr), PI (X.blk s H scope (compEnvC scope cl C X.env) fp) tg1 iter1 (tI W WF fi1))
    (hg1 : ∀ (s : Shared) (H : Hp) (C : Addr) (cl : List (Str × Addr)) (fp : List Addr), PG (X.blk s H scope (compEnvC scope cl C X.env) fp) tg1 (tG W ws1 g1)) (ht1 : ∀ (s : Shared) (H : Hp) (C : Addr) (cl : List (Str × Addr)) (fp : List Addr), PTs (X.blk s H scope (compEnvC scope cl C X.env) fp) ifs1 (tT W WF t1))
    (he : ∀ (s : Shared) (H : Hp) (C : Addr) (cl : List (Str × Addr)) (fp : List Addr), PE (X.blk s H scope (compEnvC scope cl C X.env) fp) elt (tE W WF f)) (hs : ∀ x, foldedSetIterable iter X.env x = pure x := by intro _; rfl) (hs1 : ∀ env x, foldedSetIterable iter1 env x = pure x := by intro _ _; rfl) :
    PE X (.ListComp elt [⟨tg, iter, ifs, 0⟩, ⟨tg1, iter1, ifs1, 0⟩] scope pos) (tF W Wx (lc2S fi g t fi1 g1 t1 f (own.map (·.2)) vs1)) := pe_weak (pe_lc2 hc hN hi ok hv hg ht hi1 hg1 ht1 he hs hs1) (tF_lc2 hws hws1)
theorem ds_setLc2 {i : Nat} {y : Str} {py spos : Pos} (hc : X.calm = true) (hN : X.N.Nodup) (hy : X.N[i]? = some y) (hyl : X.env.scope.names.lookup y = some .local)
    (hsw : swapsWith (.ListComp elt [⟨tg, iter, ifs, 0⟩, ⟨tg1, iter1, ifs1, 0⟩] scope pos) (some (.Name y py)) spos.line X.env = pure true) (hi : PI X tg iter (tI W Wx fi)) (ok : BlkOk X.N X.env.scope scope own) (hv : ∀ i ∈ vs1, i ∈ own.map (·.2)) (hws : ∀ i ∈ ws, i ∈ own.map (·.2)) (hws1 : ∀ i ∈ ws1, i ∈ vs1)
    (hg : ∀ (s : Shared) (H : Hp) (C : Addr) (cl : List (Str × Addr)) (fp : List Addr), PG (X.blk s H scope (compEnvC scope cl C X.env) fp) tg (tG W ws g)) (ht : ∀ (s : Shared) (H : Hp) (C : Addr) (cl : List (Str × Addr)) (fp : List Addr), PTs (X.blk s H scope (compEnvC scope cl C X.env) fp) ifs (tT W WF t))
    (hi1 : ∀ (s : Shared) (H : Hp) (C : Addr) (cl : List (Str × Addr)) (fp : List Addr), PI (X.blk s H scope (compEnvC scope cl C X.env) fp) tg1 iter1 (tI W WF fi1))
    (hg1 : ∀ (s : Shared) (H : Hp) (C : Addr) (cl : List (Str × Addr)) (fp : List Addr), PG (X.blk s H scope (compEnvC scope cl C X.env) fp) tg1 (tG W ws1 g1)) (ht1 : ∀ (s : Shared) (H : Hp) (C : Addr) (cl : List (Str × Addr)) (fp : List Addr), PTs (X.blk s H scope (compEnvC scope cl C X.env) fp) ifs1 (tT W WF t1))
    (he : ∀ (s : Shared) (H : Hp) (C : Addr) (cl : List (Str × Addr)) (fp : List Addr), PE (X.blk s H scope (compEnvC scope cl C X.env) fp) elt (tE W WF f)) (hs : ∀ x, foldedSetIterable iter X.env x = pure x := by intro _; rfl) (hs1 : ∀ env x, foldedSetIterable iter1 env x = pure x := by intro _ _; rfl) :
    PSd X W Wx (.Assign [.Name y py] (.ListComp elt [⟨tg, iter, ifs, 0⟩, ⟨tg1, iter1, ifs1, 0⟩] scope pos) spos) (asgS (lc2S fi g t fi1 g1 t1 f (own.map (·.2)) vs1) (nameG i)) := fun mu => ps_weak (ps_setLc2 (i := i) hc hN hy hyl hsw hi ok hv hg ht hi1 hg1 ht1 he hs hs1) fun Dn σ H ⟨RA, ρ, σd, B, b, l, q⟩ =>
  tF_lc2 hws hws1 σ H _ ⟨RA, ρ, σd, B, b, l, (Done.withE b l q).imp2 fun d k B1 H1 a1 v fr => by
    obtain ⟨B2, a2, r⟩ := Fresh.freeze a1 fr
    exact k B2 H1 a2 RA B2 H1 _ (.refl mu a2.base) ((l.ex a2.bl).set r i)⟩
/-- name = [..], the list a root -/
theorem tF_own {te : TE} {i : Nat} {mu : Nat → Bool} {e : EF} (h : ∀ σ H Q, tF W Wx e σ H Q → te σ H Q) (Dn : Ends) (σ : L2.St) (H : Hp) : tS W Wx mu (ownS i e) Dn σ H → tAsg te (gName i) Dn σ H := fun ⟨RA, ρ, σd, B, b, l, q⟩ => h σ H _ ⟨RA, ρ, σd, B, b, l, by
    cases hf : e ρ σd with
    | bad => unfold ownS at q; rw [hf] at q; exact q
    | exc c fs => unfold ownS at q; rw [hf] at q; exact fun cls dx B' H' af x => q RA B' H' σ cls dx (.of_aft mu af) (l.ex af.bl) x
    | ok d =>
      unfold ownS at q
      rw [hf] at q
      refine fun B1 H1 a1 v fr => ?_
      obtain ⟨p, rfl, gr, rr⟩ := Grow.root a1 fr mu
      exact q _ _ _ _ gr ((l.mono a1.bl gr.ra).set rr i)⟩
theorem ds_ownLc {i : Nat} {y : Str} {py spos : Pos} (hc : X.calm = true) (hN : X.N.Nodup) (hy : X.N[i]? = some y) (hyl : X.env.scope.names.lookup y = some .local)
    (hsw : swapsWith (.ListComp elt [⟨tg, iter, ifs, 0⟩] scope pos) (some (.Name y py)) spos.line X.env = pure true) (hi : PI X tg iter (tI W Wx fi)) (ok : BlkOk X.N X.env.scope scope own) (hws : ∀ i ∈ ws, i ∈ own.map (·.2))
    (hg : ∀ (s : Shared) (H : Hp) (C : Addr) (cl : List (Str × Addr)) (fp : List Addr), PG (X.blk s H scope (compEnvC scope cl C X.env) fp) tg (tG W ws g)) (ht : ∀ (s : Shared) (H : Hp) (C : Addr) (cl : List (Str × Addr)) (fp : List Addr), PTs (X.blk s H scope (compEnvC scope cl C X.env) fp) ifs (tT W WF t))
    (he : ∀ (s : Shared) (H : Hp) (C : Addr) (cl : List (Str × Addr)) (fp : List Addr), PE (X.blk s H scope (compEnvC scope cl C X.env) fp) elt (tE W WF f)) (hs : ∀ x, foldedSetIterable iter X.env x = pure x := by intro _; rfl) :
    PSd X W Wx (.Assign [.Name y py] (.ListComp elt [⟨tg, iter, ifs, 0⟩] scope pos) spos) (ownS i (lcS fi g t f (own.map (·.2)))) := fun mu => ps_weak (ps_setLc (i := i) hc hN hy hyl hsw hi ok hg ht he hs) fun Dn σ H h => tF_own (tF_lc hws) Dn σ H h
end
/-- a statement that is never reached -/
def deadS : SF := fun _ _ _ => .bad
theorem ds_dead {X : Cx} {W : Wd} {Wx : WX} {st : Stmt} : PSd X W Wx st deadS := fun mu => ps_weak ps_never fun Dn σ H ⟨RA, ρ, σd, B, b, l, q⟩ => q
theorem dss_dead {X : Cx} {W : Wd} {Wx : WX} {st : List Stmt} : PSsd X W Wx st deadS := fun mu => ⟨fun pins sh σ H Dn I ⟨RA, ρ, σd, B, b, l, q⟩ => q.elim⟩
end Dd

set_option Elab.async false
set_option linter.all false
set_option maxRecDepth 100000
set_option maxHeartbeats 2000000
/-! DdSup: the __init__ of an exception's class that says super().__init__(..) and then self.f = v -/
namespace Dd
open PySem PySem.Spec PyProof.Rows L2 Evl OwnO My NdefX

/-- ValueError.__init__, bound to the exception at x, is called -/
theorem call_mw {prog : Program} {w : World} {A : Around} {E : Value → Shared → Prop} {h : Heap} {g : Array GenState} {d : Drawn} {tk : Nat} {os : OsState} {K : PySem.W.Frag} {C x u t0 : Addr} {rest : List Value} {Q : Value → Shared → Prop} (T : OexC K C) (X : K.In h)
    (hu : h.get? u = some (PySem.W.kxs_mw "ValueError.__init__" x)) (he : h.get? x = some (PySem.W.excObj C t0 none .none)) (hz : rest.length ≤ sizeLine)
    (hq : ∀ h' t', (∀ b o, b ≠ x → h.get? b = some o → h'.get? b = some o) → h'.get? x = some (PySem.W.excObj C t' none .none) → Q .none ⟨h', g, d, tk, os⟩) : wpAny (model prog w) A (call (.ref u) rest) Q E ⟨h, g, d, tk, os⟩ := by
  obtain ⟨nm, q, N, bs, bm, sn, sub, ab, col, dd, k0, k1, k2, k3, k5, hC, hbm⟩ := T.cls
  refine wpAny_call (codeAny_of_tree ?_)
  show wpAny _ A.in1 (callAny (.ref u) ⟨rest, []⟩) _ _ _
  simp only [callAny]
  refine wpAny_bind (wpAny_load hu ?_)
  simp only [PySem.W.kxs_mw, show (Value.type "method-wrapper" == Value.type "method" || Value.type "method-wrapper" == Value.type "builtin_function_or_method" || Value.type "method-wrapper" == Value.type "method-wrapper") = true by decide, if_true]
  refine PySem.W.KFB.if_so (by decide) ?_
  refine wpAny_bind (PySem.W.check_bound_init PySem.F.excBase_ValueError.toExcCallFacts (X _ _ hC) he rfl ?_)
  refine wpAny_bind (wpAny_pure (wpAny_pure ?_))
  refine ⟨PySem.plainId_quiet PySem.F.excBase_ValueError.init.plain _, codeAny_builtin PySem.F.excBase_ValueError.initEntry ?_⟩
  exact PySem.W.exc_init_tree (cls := .ref C) (t0 := t0) (dv := none) (c2 := .none) (c3 := .none) (b4 := .bool false) he hz fun h' k e' t' => hq h' _ k e'

/-- a pin more, a pin less -/
theorem inv_pin {X : Cx} {pins : List (Addr × Obj)} {σ : L2.St} {H : Hp} {s : Shared} {p : Addr} {o : Obj} (I : L2.Inv X pins σ H s) (h : s.heap.get? p = some o) (hn : H p = none) (h1 : p ≠ X.env.locals) (h2 : p ∉ X.fs) (h3 : ∀ v, o.data ≠ .cell v) : L2.Inv X ((p, o) :: pins) σ H s :=
  { I with
    pin := fun q hq => by
      rcases List.mem_append.mp hq with hq | hq
      · exact I.pin q (List.mem_append_left _ hq)
      · rcases List.mem_cons.mp hq with hq | hq
        · subst hq; exact ⟨h, hn, h1, h2, h3⟩
        · exact I.pin q (List.mem_append_right _ hq) }
theorem inv_unpin {X : Cx} {pins : List (Addr × Obj)} {σ : L2.St} {H : Hp} {s : Shared} {q : Addr × Obj} (I : L2.Inv X (q :: pins) σ H s) : L2.Inv X pins σ H s :=
  { I with
    pin := fun p hp => I.pin p (by
      rcases List.mem_append.mp hp with hp | hp
      · exact List.mem_append_left _ hp
      · exact List.mem_append_right _ (List.mem_cons_of_mem _ hp)) }
/-- what the written part says of the class and of its __init__ -/
structure SupC (P : Program) (K : PySem.W.Frag) (mg : Str → Option Value) (C cc cda : Addr) : Prop where
  T : OexC K C
  hsup : mg "super" = none
  cell : ∃ cl cld csl, K.lookup cc = some ⟨cl, cld, .cell (some (.ref C)), csl⟩
  code : ∃ ccl cdd vs ccs file tf, K.lookup cda = some ⟨ccl, cdd, .fields vs, ccs⟩ ∧ vs[2]? = some (.str file tf) ∧ ((P.main.file : Str) == file) = true
  htop : (P.main.scope.names.lookup ("super" : Str)).isSome = false
  hm : PySem.W.ks_superIn K C C "__init__" = some (some (.builtin "ValueError.__init__"))
  hself : PySem.W.mroIn K C (.ref C) = some true
  hB : PySem.W.subIn K (.ref C) (.type "ValueError") = some true
  hany : PySem.W.nsIn K cStatics "thirdparty.any" = some none
section
variable {CX : CXT} {P : Program} {w : World} {K : PySem.W.Frag} {mg : Str → Option Value} {base : Heap} {N : List Str} {name qual fld self arg : Str} {params : Arguments} {body : List Stmt} {scope : Scope} {C cc cda f : Addr} {A : Around} {outer : List PySem.Env} {s0 : Shared} {H0 : Hp} {E : XK}
/-- super().__init__(e) -/
theorem super_stmt {pins : List (Addr × Obj)} {σ : L2.St} {H : Hp} {s : Shared} {a : Addr} {e : Expr} {t : TA} {p0 p1 p2 p3 p4 : Pos} {ar : Arg} {oc kV doc pm ct : Value} {an od : Option Addr} {osl : Array (Option Value)} {Q : Flow → Shared → Prop}
    (SC : SupC P K mg C cc cda) (hf : K.lookup f = some ⟨oc, od, .func (PySem.W.ksFn name qual params body scope .none kV doc pm an (.ref cda) ct cc), osl⟩) (hp : (params.posonlyargs ++ params.args).head? = some ar)
    (hks : scope.names.lookup ("super" : Str) = some .globalImplicit) (hkc : scope.names.lookup ("__class__" : Str) = some .free) (hka : scope.names.lookup ar.arg = some .local) (hk : scope.kind = .function)
    (I : L2.Inv (ncx CX P w K mg base N ⟨name, qual, params, body, scope, [("__class__", cc)], cda⟩ f A outer s0 H0 E) pins σ H s) (hN : N[0]? = some ar.arg) (hσ : σ[0]? = some (some (.ref a))) (ha : H a = some (exo a C none))
    (he : PA (ncx CX P w K mg base N ⟨name, qual, params, body, scope, [("__class__", cc)], cda⟩ f A outer s0 H0 E) [e] t) (ht : ∀ (Q : List V → Hp → Prop), (∀ v, Q [v] H) → t σ H Q)
    {pl : Sem Bool} (hcall : eval (.Call (.Attribute (.Call (.Name "super" p0) [] [] p1) "__init__" p2) [e] [] p3) (PySem.W.ksEnv qual scope s0.heap.objs.size f (.ref cda) cc) = (do
      let ov ← attributeBase (.Call (.Name "super" p0) [] [] p1) "__init__" (PySem.W.ksEnv qual scope s0.heap.objs.size f (.ref cda) cc) (eval (.Call (.Name "super" p0) [] [] p1) (PySem.W.ksEnv qual scope s0.heap.objs.size f (.ref cda) cc))
      standAt p2.atName
      let (fx, first) ← holding [ov] (getMethod ov "__init__" pl)
      callWith p3 fx first (backTo p3 (starEach [e] (PySem.W.ksEnv qual scope s0.heap.objs.size f (.ref cda) cc))) []))
    (hst : starEach [e] (PySem.W.ksEnv qual scope s0.heap.objs.size f (.ref cda) cc) = [(false, eval e (PySem.W.ksEnv qual scope s0.heap.objs.size f (.ref cda) cc))])
    (hsw : swapsWith (.Call (.Attribute (.Call (.Name "super" p0) [] [] p1) "__init__" p2) [e] [] p3) none p4.line (PySem.W.ksEnv qual scope s0.heap.objs.size f (.ref cda) cc) = pure false)
    (hq : ∀ s', L2.Inv (ncx CX P w K mg base N ⟨name, qual, params, body, scope, [("__class__", cc)], cda⟩ f A outer s0 H0 E) pins σ H s' → Q .next s') :
    _root_.PySem.wpAt (model P w) (A.deeper (PySem.W.ksEnv qual scope s0.heap.objs.size f (.ref cda) cc)) (.func body (PySem.W.ksEnv qual scope s0.heap.objs.size f (.ref cda) cc)) (exec (.Expr (.Call (.Attribute (.Call (.Name "super" p0) [] [] p1) "__init__" p2) [e] [] p3) p4) (PySem.W.ksEnv qual scope s0.heap.objs.size f (.ref cda) cc)) Q (ncx CX P w K mg base N ⟨name, qual, params, body, scope, [("__class__", cc)], cda⟩ f A outer s0 H0 E).xe s := by
  obtain ⟨hh, g, d, tk, os⟩ := s
  obtain ⟨m, hns, hl⟩ := id I.loc
  obtain ⟨u, ru, hlook⟩ := hl 0 ar.arg (.ref a) hN hσ (.inl hka)
  obtain rfl : u = Value.ref a := ru
  have hma : m ar.arg = some (.ref a) := by
    rcases hlook with ⟨_, h⟩ | ⟨h, _⟩
    · exact h
    · rcases h with h | h
      · have h : scope.names.lookup ar.arg = some .cell := h
        rw [hka] at h; cases h
      · have h : scope.names.lookup ar.arg = some .free := h
        rw [hka] at h; cases h
  obtain ⟨nm, q, Nn, bs, bm, sn, sub, ab, col, dd, k0, k1, k2, k3, k5, hC, hbm⟩ := SC.T.cls
  obtain ⟨cl, cld, csl, hcell⟩ := SC.cell
  obtain ⟨ccl, cdd, vs, ccs, file, tf, hcode, hvs2, hfile⟩ := SC.code
  have hcl : PySem.W.clsIn K C = some { name := nm, bases := bs, mro := .ref C :: bm, ns := Nn, qualname := q, hasDict := true, slotNames := sn, subclasses := sub, abstract := ab, collection := col, hasDel := false } := by unfold PySem.W.clsIn; rw [hC] <;> rfl
  have X : K.In hh := I.kIn
  obtain ⟨t1, ho⟩ := exo_at I.hok ha
  have ho' : hh.get? a = some (PySem.W.excObj C t1 none .none) := ho
  have IA : PySem.W.InstAt hh a (PySem.W.excObj C t1 none .none) C none := ⟨ho', rfl, rfl, trivial⟩
  refine ks_wpAt_Expr_any (ks_wpAt_MethodCall (pl := pl) ?_ hcall) I.quiet hsw
  refine ks_wpAt_super_base (env := PySem.W.ksEnv qual scope s0.heap.objs.size f (.ref cda) cc) hks hkc rfl rfl (X _ _ hf) rfl hp rfl (X _ _ hcode) rfl hvs2 hfile SC.htop ?_
  obtain ⟨mb, hb1, hb2⟩ := I.mod.blt
  refine PySem.W.ks_loadName_global hk hks (Calls.loadGlobal_builtin (env := PySem.W.ksEnv qual scope s0.heap.objs.size f (.ref cda) cc) (I.mod.glob.keeps I.bk) SC.hsup (hb1.keeps I.bk) ((hb2 _ (by decide)).trans (by decide +kernel)) ⟨rfl, ?_⟩)
  refine wpAny_loadName_free hk hkc rfl ⟨_, X _ _ hcell, rfl⟩ ?_
  refine wpAny_loadName_local hk hka hns hma ?_
  refine ks_wpAny_isType_cls (X _ _ hC) rfl ⟨rfl, ?_⟩
  refine ks_wpAny_call_super (X _ _ hC) rfl ho' rfl (fun c e => nomatch e) (PySem.W.looks_mroIn X SC.hself) (fun h1 e1 kk => ?_)
  have I1 : L2.Inv (ncx CX P w K mg base N ⟨name, qual, params, body, scope, [("__class__", cc)], cda⟩ f A outer s0 H0 E) pins σ H ⟨h1, g, d, tk, os⟩ := I.kept (t' := tk) kk
  have X1 : K.In h1 := I1.kIn
  have IA1 : PySem.W.InstAt h1 a (PySem.W.excObj C t1 none .none) C none := ⟨kk _ _ ho', rfl, rfl, trivial⟩
  have hm2 := SC.hm
  unfold PySem.W.ks_superIn at hm2
  rw [hcl] at hm2
  refine PySem.W.kxs_getMethod PySem.W.kxs_ValueError e1 (PySem.W.looks_opaque X1 SC.hany) (l₀ := .ref C :: bm) ?hmro rfl X1 hm2 (IA1.type.andThen (PySem.W.looks_subIn X1 SC.hB)) (PySem.W.ks_ne X1 IA1 hcl) (by decide) ?_
  case hmro => exact fun A Q E s k q => wpAny_bind ((PySem.W.looks_clsIn X1 hcl) A _ E s k (wpAny_pure q))
  have k2 : ∀ b o, h1.get? b = some o → (h1.push (PySem.W.kxs_mw "ValueError.__init__" a)).get? b = some o := fun b o z => Heap.get?_push_of_some _ z
  have I2 : L2.Inv (ncx CX P w K mg base N ⟨name, qual, params, body, scope, [("__class__", cc)], cda⟩ f A outer s0 H0 E) pins σ H ⟨h1.push (PySem.W.kxs_mw "ValueError.__init__" a), g, d, tk + 1, os⟩ := I1.kept (t' := tk + 1) k2
  have hfr : H h1.objs.size = none := I1.hok.fresh (Nat.le_refl _)
  have I3 := inv_pin I2 (p := h1.objs.size) (o := PySem.W.kxs_mw "ValueError.__init__" a) (Heap.get?_push_at rfl rfl) hfr (Nat.ne_of_gt I1.lt) (I1.nofs (Nat.le_refl _)) (fun v z => nomatch z)
  show wpAny _ _ (callWith p3 (Value.ref h1.objs.size) [] (backTo p3 (starEach [e] (PySem.W.ksEnv qual scope s0.heap.objs.size f (.ref cda) cc))) []) _ _ _
  have hrun := he.run p3 _ _ σ H (fun vs H1 => ∃ v, vs = [v] ∧ H1 = H) I3 (ht _ fun v => ⟨v, rfl, rfl⟩)
  have hrun : wpAny (model P w) (A.deeper (PySem.W.ksEnv qual scope s0.heap.objs.size f (.ref cda) cc)) (spliced (backTo p3 (starEach [e] (PySem.W.ksEnv qual scope s0.heap.objs.size f (.ref cda) cc)))) _ _ _ := hrun
  rw [hst] at hrun ⊢
  refine PySem.W.kxs_callWith (i := "ValueError.__init__") (x := a) rfl (Calls.evalArgs_plain (wpAny_mono hrun (fun us s4 z => ?_) fun _ _ z => ?_))
  · obtain ⟨vs, H4, I4, r4, v, rfl, rfl⟩ := z
    have hp4 := (I4.pin (h1.objs.size, PySem.W.kxs_mw "ValueError.__init__" a) (List.mem_append_right _ List.mem_cons_self)).1
    refine ⟨hp4, ?_⟩
    have I5 := inv_unpin I4
    obtain ⟨t4, ho4⟩ := exo_at I5.hok ha
    obtain ⟨h4, g4, d4, tk4, os4⟩ := s4
    obtain ⟨u, rfl, _⟩ := r4.one
    refine call_mw SC.T I5.kIn hp4 (t0 := t4) ho4 (by simp; decide) fun h' t' k e' => ?_
    have J := I5.write (t' := tk4) (x := a) (e := a) (o := exo a C none) (by rw [ha]; exact True.intro) (.inl rfl) k ⟨_, e'⟩ (exo_ok e')
    have eu : upd H4 a (exo a C none) = H4 := by
      funext b
      by_cases hb : b = a
      · rw [hb, upd_same, ha]
      · rw [upd_ne hb]
    rw [eu] at J
    exact hq _ J
  · exact z
end
/-- what such an __init__ promises -/
def spI (C : Addr) (fld : Str) : Sp := fun vs H Q E => ∃ a v, vs = [.ref a, v] ∧ ((∃ y : Str, v = .str y ∧ y.length ≤ 100000) ∨ ∃ i : Int, v = .int i ∧ i.natAbs.log2 < 1920) ∧ H a = some (exo a C none) ∧ ∀ dx, H dx = none → dx ≠ a → Q .non (upd (upd H dx (exd dx [(fld, v)])) a (exo a C (some dx)))
theorem sup_init {CX : CXT} {P : Program} {w : World} {K : PySem.W.Frag} {mg : Str → Option Value} {base : Heap} {name qual fld self arg : Str} {params : Arguments} {body : List Stmt} {scope : Scope} {C cc cda f : Addr} {k : Nat} {oc kV doc pm ct : Value} {an od : Option Addr} {osl : Array (Option Value)} {ar : Arg} {e : Expr} {p0 p1 p2 p3 p4 p5 p6 p7 p8 : Pos}
    (SC : SupC P K mg C cc cda) (hf : K.lookup f = some ⟨oc, od, .func (PySem.W.ksFn name qual params body scope .none kV doc pm an (.ref cda) ct cc), osl⟩) (hcd : PySem.W.codeIn K (.ref cda) qual = true) (hp : (params.posonlyargs ++ params.args).head? = some ar) (har : ar.arg = self) (S : NScope [self, arg, "__class__"] [self, arg] ["__class__"] scope)
    (hks : scope.names.lookup ("super" : Str) = some .globalImplicit)
    (hbody : body = [.Expr (.Call (.Attribute (.Call (.Name "super" p0) [] [] p1) "__init__" p2) [e] [] p3) p4, .Assign [.Attribute (.Name self p5) fld p6] (.Name arg p7) p8])
    (hno : PySem.W.findIn K (.ref C) fld = some none)
    (he : ∀ (A : Around) (outer : List PySem.Env) (s : Shared) (H : Hp) (E : XK), ∃ t, PA (ncx CX P w K mg base [self, arg, "__class__"] ⟨name, qual, params, body, scope, [("__class__", cc)], cda⟩ f A outer s H E) [e] t ∧ ∀ a v, ((∃ y : Str, v = .str y ∧ y.length ≤ 100000) ∨ ∃ i : Int, v = .int i ∧ i.natAbs.log2 < 1920) → ∀ (Q : List V → Hp → Prop) H1, (∀ v, Q [v] H1) → t [some (.ref a), some v, none] H1 Q)
    (hpl : ∀ L, ∃ pl : Sem Bool, eval (.Call (.Attribute (.Call (.Name "super" p0) [] [] p1) "__init__" p2) [e] [] p3) (PySem.W.ksEnv qual scope L f (.ref cda) cc) = (do
      let ov ← attributeBase (.Call (.Name "super" p0) [] [] p1) "__init__" (PySem.W.ksEnv qual scope L f (.ref cda) cc) (eval (.Call (.Name "super" p0) [] [] p1) (PySem.W.ksEnv qual scope L f (.ref cda) cc))
      standAt p2.atName
      let (fx, first) ← holding [ov] (getMethod ov "__init__" pl)
      callWith p3 fx first (backTo p3 (starEach [e] (PySem.W.ksEnv qual scope L f (.ref cda) cc))) []))
    (hst : ∀ env, starEach [e] env = [(false, eval e env)])
    (hsw : ∀ L, swapsWith (.Call (.Attribute (.Call (.Name "super" p0) [] [] p1) "__init__" p2) [e] [] p3) none p4.line (PySem.W.ksEnv qual scope L f (.ref cda) cc) = pure false)
    (hsw2 : ∀ L, swapsWith (.Name arg p7) (some (.Attribute (.Name self p5) fld p6)) p8.line (PySem.W.ksEnv qual scope L f (.ref cda) cc) = pure false)
    (hd1 : (self == ("__debug__" : Str)) = false) (hd2 : (arg == ("__debug__" : Str)) = false) (hd3 : (self == ("__classdict__" : Str)) = false) (hd4 : (arg == ("__classdict__" : Str)) = false) :
    FnOk P w K mg base CX (k + 1) f (PySem.W.ksFn name qual params body scope .none kV doc pm an (.ref cda) ct cc) [self, arg] (spI C fld) := by
  refine ⟨fun vs H Q E ⟨a, v, ev, _⟩ => by rw [ev]; rfl, fun A outer s H args us vs Q E hr e0 hb r hsp => ?_⟩
  obtain ⟨a, v, rfl, hv, ha, hq⟩ := hsp
  have KX : K.In s.heap := e0.mod.kin.keeps fun b o e => (e0.bs b o e).1
  have lim : s.heap.NoLimit := e0.mod.nolimit.keeps fun b o e => (e0.bs b o e).1
  obtain ⟨cl, cld, csl, hcell⟩ := SC.cell
  refine codeAny_call_function hr.depth (KX _ _ hf) rfl S.co S.gen rfl (PySem.W.codeRec_of KX hcd) (hb _ _ _ _ ?_)
  refine wpAny_newFunctionEnv S.nocell (fun ⟨n, _⟩ hy => S.par n (List.of_mem_zip hy).1) (fun h₁ hns hsb => ⟨lim.fresh _ hsb, ?_⟩) S.kind
  show codeAny _ _ (.func body (PySem.W.ksEnv qual scope s.heap.objs.size f (.ref cda) cc)) _ _
  refine ks_codeAny_funcAt ?_
  have kp : ∀ b o, s.heap.get? b = some o → h₁.get? b = some o := fun b o e => hsb.extBut b o (Nat.ne_of_lt (Heap.lt_size e)) (Heap.get?_push_of_some _ e)
  have hccH : H cc = none := (e0.bs cc _ (e0.mod.kin _ _ hcell)).2
  have hlk : ∀ y c, ([("__class__", cc)] : List (Str × Addr)).lookup y = some c → y = "__class__" ∧ c = cc := fun y c hy => by
    rw [List.lookup_cons] at hy
    split at hy
    · rename_i h
      cases hy
      exact ⟨by simpa using h, rfl⟩
    · cases hy
  have CA : CellsAt [("__class__", cc)] ["__class__"] [none] s.heap H := by
    refine ⟨rfl, fun y c hy => ?_, fun x y c hx hy => ?_, fun i y hy => ?_⟩
    · rw [(hlk y c hy).2]
      exact ⟨hccH, _, _, KX _ _ hcell, rfl⟩
    · rw [(hlk x c hx).1, (hlk y c hy).1]
    · cases i with
      | zero =>
        simp at hy
        subst hy
        exact ⟨cc, by simp [List.lookup], fun v z => by simp at z⟩
      | succ i => simp at hy
  have I : L2.Inv (ncx CX P w K mg base [self, arg, "__class__"] ⟨name, qual, params, body, scope, [("__class__", cc)], cda⟩ f A outer s H E) [] (startF [self, arg, "__class__"] [.ref a, v] [none]) H { s with heap := h₁, toks := s.toks + ([self, arg].zip us).length } :=
    inv_startN S hr.hd e0 rfl r CA hns kp
  obtain ⟨t, ht, htq⟩ := he A outer s H E
  obtain ⟨pl, hcall⟩ := hpl s.heap.objs.size
  subst har
  have hex : ∀ env, execs body env = execs [.Expr (.Call (.Attribute (.Call (.Name "super" p0) [] [] p1) "__init__" p2) [e] [] p3) p4, .Assign [.Attribute (.Name ar.arg p5) fld p6] (.Name arg p7) p8] env := fun env => by rw [hbody]
  rw [hex]
  refine ks_wpAt_execs_cons (super_stmt (ar := ar) SC hf hp hks (S.frk _ (by simp)) (S.par _ (by simp)) S.kind I rfl rfl ha ht (fun Q hQ => htq a v hv Q H hQ) hcall (hst _) (hsw _) fun s' J => ?_)
  show _root_.PySem.wpAt _ _ _ (execs [_] _) _ _ s'
  have hps : PSs (ncx CX P w K mg base [ar.arg, arg, "__class__"] ⟨name, qual, params, body, scope, [("__class__", cc)], cda⟩ f A outer s H E) [.Assign [.Attribute (.Name ar.arg p5) fld p6] (.Name arg p7) p8] _ :=
    pss_one (ps_ost (pe_var (i := 0) rfl (.inl (S.par _ (by simp))) hd1 hd3) (pe_var (i := 1) rfl (.inl (S.par _ (by simp))) hd2 hd4) (hsw2 _))
  refine wpAt_of_wpAny (wpAny_mono (hps.run [] s' _ H { nx := fun _ H' => Q .non H', rt := Q } J ⟨v, rfl, .ref a, rfl, a, C, rfl, SC.T, hno, .inl ⟨ha, hq⟩⟩) (fun fl s' hs => ?_) fun e s' hs => hs)
  have fin : ∀ {σ' : L2.St} {H' : Hp} {v : V} {u : Value}, L2.Inv (ncx CX P w K mg base [ar.arg, arg, "__class__"] ⟨name, qual, params, body, scope, [("__class__", cc)], cda⟩ f A outer s H E) [] σ' H' s' → L2.RelV v u → Q v H' → CE outer P w H s Q u s' :=
    fun {σ' H' v u} J rv q => ⟨v, H', J.os, J.bare, J.base, J.hok, rv, q⟩
  cases fl with
  | ret u =>
    obtain ⟨v, σ', H', J, rv, q⟩ := hs
    exact fin J rv q
  | next =>
    obtain ⟨σ', H', J, q⟩ := hs
    exact fin (v := V.non) (u := Value.none) J rfl q
  | brk =>
    obtain ⟨_, _, _, q⟩ := hs
    exact False.elim q
  | cont =>
    obtain ⟨_, _, _, q⟩ := hs
    exact False.elim q
end Dd

set_option Elab.async false
set_option linter.all false
set_option maxRecDepth 100000
set_option maxHeartbeats 4000000
/-! DdExc: raise, try .. except, what an except suite asks of its exception, by data -/
namespace PySem.W
open PySem PySem.Spec PySem.Calls PyProof.Rows
section
variable {prog : Program} {w : World} {A : Around} {E : Value → Shared → Prop} {s : Shared} {K : Frag} {x D : Addr} {ox : Obj} {od : Option Obj}
theorem findObj_dataO {C : Addr} {name : Str} {a g : Value} (hc : (clsIn K C).isSome = true) (ha : findIn K (.ref C) name = some (some a)) (hg : specialIn K a "__get__" = some (some g)) (ht : takesIn K a = some true) : findObj K C od name = some (.bind g a) := by
  obtain ⟨cd, hc⟩ := Option.isSome_iff_exists.mp hc
  unfold findObj
  rw [hc, Option.bind_some, ha, Option.bind_some]
  simp [hg, ht]
/-- e.__class__, e an exception with or without a dict -/
theorem kin_classO {Q : Option Value → Shared → Prop} (C : L2.ExcC K D) (X : K.In s.heap) (I : InstAt s.heap x ox D od) (h : Q (some (.ref D)) { s with toks := s.toks + 1 }) : wpAny (model prog w) A (getAttr? (.ref x) "__class__") Q E s := by
  have hf : findObj K D od "__class__" = some (.bind (.builtin "getset_descriptor.__get__") (.builtin "object.__class__")) := findObj_dataO (by obtain ⟨cd, hc, _⟩ := any_some C.hd; rw [hc]; rfl) C.ha C.hn C.ht
  obtain ⟨hp, g, d, t, os⟩ := s
  have L0 := I.type (M := model prog w)
  have L1 := looks_findIn (M := model prog w) X C.hg
  have L2 := looks_findIn (M := model prog w) X C.hk
  have L3 := looks_find (M := model prog w) X I hf
  have sub : Looks (model prog w) hp (isInstance (.ref x) (.type "BaseException")) true := L0.andThen (looks_subIn X C.hs)
  have hx0 : (false && onTheHeap (Value.builtin "BaseException.__getattribute__")) = false := rfl
  have hx2 : (Value.builtin "BaseException.__getattribute__" == Value.builtin "object.__getattribute__") = false := by decide +kernel
  have hx1 : (onTheHeap (Value.ref D) && Value.builtin "BaseException.__getattribute__" == Value.builtin "object.__getattribute__") = false := by rw [hx2]; rfl
  unfold getAttr? getAttrBy? getAttrBy
  refine wpAny_bind (wpAny_mkText (wpAny_bind (wpAny_attempt (wpAny_holding (wpAny_bind (L0.at (wpAny_bind (L1.at ?_))))))))
  show wpAny _ _ (if (onTheHeap (Value.ref D) && Value.builtin "BaseException.__getattribute__" == Value.builtin "object.__getattribute__") = true then _ else _) _ _ _
  rw [hx1, if_neg Bool.false_ne_true]
  unfold getAttrByItsOwn hookBefore
  refine wpAny_bind ?_
  rw [if_pos (show onTheHeap (Value.ref D) = true from rfl)]
  refine L2.at ?_
  refine wpAny_bind (wpAny_attempt (wpAny_holding ?_))
  unfold callGetattribute
  rw [hx0, if_neg Bool.false_ne_true]
  unfold boundAndCalled
  rw [PySem.F.excAttr_ValueError.ga.bind (.ref x)]
  refine wpAny_bind (wpAny_pure ?_)
  show wpAny _ _ (call (.builtin "BaseException.__getattribute__") [.ref x, .str "__class__" t]) _ _ _
  refine wpAny_call (codeAny_call_builtin PySem.F.excAttr_ValueError.ga.plain PySem.F.entry_bexc_ga ?_)
  refine @check_slot (model prog w) _ _ ⟨hp, g, d, t + 1, os⟩ "BaseException.__getattribute__" "BaseException" "__getattribute__" (.ref x) [.str "__class__" t] [] _ (by decide +kernel) (by decide +kernel) sub (PySem.F.args_bexc_ga (.ref x) (.str "__class__" t)) ?_
  unfold Builtin.«object.__getattribute__»
  refine wpAny_bind (wpAny_of_eq (a := ((Value.ref x : Value), [Value.str "__class__" t])) (by first | rfl | (simp only [slotArgs]; rfl)) ?_)
  refine wpAny_bind (wpAny_pure (wpAny_bind (L0.at (wpAny_bind (L3.at ?_)))))
  show wpAny _ _ (holding [Value.builtin "object.__class__"] (call (.builtin "getset_descriptor.__get__") [.builtin "object.__class__", .ref x, .ref D]) >>= ret) _ _ _
  refine wpAny_bind (wpAny_holding (wpAny_call (class_get (s := ⟨hp, g, d, t + 1, os⟩) (ox := ox) (od := od) X I C.hm ?_)))
  refine wpAny_pure ?_
  show wpAny _ _ (handedOut (.ref D)) _ _ _
  rw [handedOut_of (v := .ref D) rfl]
  first
    | exact wpAny_pure (wpAny_pure h)
    | exact wpAny_pure h
    | exact wpAny_pure (wpAny_bind (wpAny_pure (wpAny_pure h)))
theorem kitx_excO (C : L2.ExcC K D) : KitX K (.ref x) (.ref D) (fun h => ∃ od, InstAt h x ox D od) where
  ty := fun _ _ _ ⟨_, I⟩ => I.type
  it := fun _ _ X _ => by
    obtain ⟨cdD, hcD, _⟩ := any_some C.hd
    unfold clsIn at hcD
    split at hcD
    · rename_i c' d' cd' sl' ho
      intro A' Q' E' s' k q
      unfold isType loadHead
      exact wpAny_bind (wpAny_loadPart (k _ _ (X _ _ ho)) (wpAny_pure q))
    · cases hcD
  ne := fun h tp dd its n sl X htp => by
    obtain ⟨cdD, hcD, _⟩ := any_some C.hd
    refine Bool.eq_false_iff.mpr fun q => ?_
    have e : D = tp := Value.ref.inj (beq_iff_eq.mp q)
    subst e
    unfold clsIn at hcD
    split at hcD
    · rename_i c' d' cd' sl' ho
      have z := (X _ _ ho).symm.trans htp
      cases z
    · cases hcD
  ca := fun X ⟨_, I⟩ k => kin_classO C X I k
end
end PySem.W
namespace Dd
open PySem PySem.Spec PyProof.Rows L2 Evl OwnO My

/-! ### raise -/
/-- raise C('..') -/
def raiS (c : Nat) : SF := fun _ ρ σ => .exc c [] ρ σ
def excArg (d : D) : Bool := match d with
  | .int i => decide (i.natAbs.log2 < 1920)
  | .str s => decide (s.length ≤ 100000)
  | _ => false
/-- raise C(e), C's own __init__ setting its one attribute -/
def rai1S (c : Nat) (f : EF) : SF := fun _ ρ σ => withE (f ρ σ) ρ σ fun x => if excArg x = true then .exc c [x] ρ σ else .bad
/-- an error class with an __init__ of its own -/
structure XiC (P : Program) (w : World) (K : PySem.W.Frag) (mg : Str → Option Value) (base : Heap) (x : Str) (C : Addr) (fld : Str) : Prop where
  T : OexC K C
  g : mg x = some (.ref C)
  i : ∃ fI fd ps, PySem.W.findIn K (.ref C) "__init__" = some (some (.ref fI)) ∧ PySem.W.typeIn K (.ref fI) = some (.type "function") ∧ FnOk P w K mg base (L2.CX P w) 1 fI fd ps (spI C fld) ∧ Binds K fd ps []
section
variable {X : Cx} {W : Wd} {Wx : WX} {n k : Nat} {x m : Str} {e : Expr} {f : EF} {p p2 pos pos' : Pos} {j : Nat}
theorem ds_raise (c : Cok X W Wx n) (E : ErrC X.K X.mg x (W.CA k)) (hg : Gl X x := by rfl) (hdb : (x == ("__debug__" : Str)) = false := by decide) : PSd X W Wx (.Raise (some (.Call (.Name x p) [.Constant (.str m) j p2] [] pos)) none pos') (raiS k) := fun mu =>
  ps_weak (ps_raise c.calm c.tk (pmk_own PySem.F.excBase_ValueError E.xi E.g E.kp (raises_own E.sb E.ty) hg hdb)) fun Dn σ H ⟨RA, ρ, σd, B, b, l, q⟩ => q RA B H σ _ _ (.refl mu b) l ⟨rfl, .inl ⟨rfl, rfl⟩⟩
theorem exc_arg {RA : List Addr} {B : Hp} {d : D} {v : V} (h : Rep W RA B d v) (e : excArg d = true) : (∃ y : Str, v = .str y ∧ y.length ≤ 100000) ∨ ∃ i : Int, v = .int i ∧ i.natAbs.log2 < 1920 := by
  unfold excArg at e
  split at e
  · exact .inr ⟨_, by simpa only [Rep] using h, of_decide_eq_true e⟩
  · exact .inl ⟨_, by simpa only [Rep] using h, of_decide_eq_true e⟩
  · cases e
theorem ds_raise1 {fld : Str} (c : Cok X W Wx n) (E : XiC X.prog X.w X.K X.mg X.base x (W.CA k) fld) (hF : W.CF k = [fld]) (he : PE X e (tE W Wx f)) (hg : Gl X x := by rfl) (hdb : (x == ("__debug__" : Str)) = false := by decide)
    (hs : starEach [e] X.env = (false, eval e X.env) :: starEach [] X.env := by rfl) (hpl : (backTo pos (starEach [] X.env)).any (·.1) = false := by rfl) : PSd X W Wx (.Raise (some (.Call (.Name x p) [e] [] pos)) none pos') (rai1S k f) := fun mu => by
  obtain ⟨fI, fd, ps, h1, h2, h3, h4⟩ := E.i
  refine ps_weak (ps_raise c.calm c.tk (pmk_oex (ds := []) (dvs := []) E.T h1 h2 h3 (c.room.mono (by omega)) h4 .nil (passes_call c.tk fun _ _ _ _ z => z.elim) hg E.g (pa_cons he pa_nil hs) hdb hs hpl)) fun Dn σ H ⟨RA, ρ, σd, B, b, l, q⟩ =>
    ⟨RA, ρ, σd, B, b, l, (Done.withE b l q).imp fun d B1 H1 a1 q1 v rv => ?_⟩
  split at q1
  · rename_i hx
    refine ⟨by show 1 ≤ 1000; omega, fun a ha => ⟨a, v, by simp, exc_arg rv hx, upd_same, fun dx hdx hne => ⟨rfl, dx, [(fld, v)], upd_same, ?_, ?_, ?_⟩⟩⟩
    · rw [upd_ne hne, upd_same]
    · rw [upd_ne hne] at hdx; exact hdx
    · have hdx1 : H1 dx = none := by rw [upd_ne hne] at hdx; exact hdx
      have eH : upd (del (upd (upd (upd H1 a (exo a (W.CA k) none)) dx (exd dx [(fld, v)])) a (exo a (W.CA k) (some dx))) a) dx (.xd [(fld, v)]) = upd H1 dx (.xd [(fld, v)]) := by
        funext z
        by_cases h1 : z = dx
        · subst h1; rw [upd_same, upd_same]
        · rw [upd_ne h1, upd_ne h1]
          by_cases h2 : z = a
          · subst h2; rw [del_same, ha]
          · rw [del_ne h2, upd_ne h2, upd_ne h1, upd_ne h2]
      rw [eH]
      have af := Aft.laid (o := .xd [(fld, v)]) a1.base hdx1
      refine q1 RA _ _ σ _ _ (.of_aft mu af) ((l.ex a1.bl).ex af.bl) ⟨rfl, .inr ⟨dx, [v], rfl, ?_, .cons (rv.ex af.bl) .nil, by rw [hF]; rfl⟩⟩
      rw [upd_same, hF]
      rfl
  · exact q1.elim
end

/-! ### an except suite -/
/-- within a suite: the exception at a -/
def Wd.at (W : Wd) (a : Addr) (cls : Value) (d : Option Addr) : Wd := { W with exn := fun x => if x = a then some (cls, d) else none }
mutual
def noX : D → Bool
  | .tup l => noXL l
  | .lst l => noXL l
  | .st l => noXL l
  | .dct _ l => noXL l
  | .wd _ l => noXL l
  | .ins _ l => noXL l
  | .exn _ _ => false
  | .scr l => noXL l
  | _ => true
def noXL : List D → Bool
  | [] => true
  | d :: l => noX d && noXL l
end
section
variable {W : Wd} {RA : List Addr} {B H : Hp} {a0 : Addr} {cls : Value} {dd : Option Addr}
mutual
theorem Rep.unx : ∀ (d : D) (v : V), noX d = true → Rep (W.at a0 cls dd) RA B d v → Rep W RA B d v
  | .non, v, _, h => by simpa only [Rep] using h
  | .bl b, v, _, h => by simpa only [Rep] using h
  | .int i, v, _, h => by simpa only [Rep] using h
  | .str s, v, _, h => by simpa only [Rep] using h
  | .tup l, v, o, h => by
    simp only [Rep] at h ⊢
    obtain ⟨a, vs, h1, h2, h3⟩ := h
    exact ⟨a, vs, h1, h2, RepL.unx l vs (by simpa only [noX] using o) h3⟩
  | .lst l, v, o, h => by
    simp only [Rep] at h ⊢
    obtain ⟨a, vs, h1, h2, h3⟩ := h
    exact ⟨a, vs, h1, h2, RepL.unx l vs (by simpa only [noX] using o) h3⟩
  | .scr l, v, o, h => by
    simp only [Rep] at h ⊢
    obtain ⟨a, vs, h1, h2, h3⟩ := h
    exact ⟨a, vs, h1, h2, RepL.unx l vs (by simpa only [noX] using o) h3⟩
  | .st l, v, o, h => by simpa only [Rep] using h
  | .dct ks l, v, o, h => by
    simp only [Rep] at h ⊢
    obtain ⟨a, kvs, h1, h2, h3, h4⟩ := h
    exact ⟨a, kvs, h1, h2, h3, RepL.unx l _ (by simpa only [noX] using o) h4⟩
  | .wd ks l, v, o, h => by
    simp only [Rep] at h ⊢
    obtain ⟨a, vs, h1, h2, h3⟩ := h
    exact ⟨a, vs, h1, h2, RepL.unx l vs (by simpa only [noX] using o) h3⟩
  | .ins c fs, v, o, h => by
    simp only [Rep] at h ⊢
    obtain ⟨a, dx, vs, h1, h2, h3, h4⟩ := h
    exact ⟨a, dx, vs, h1, h2, RepL.unx fs vs (by simpa only [noX] using o) h3, h4⟩
  | .exn c fs, v, o, h => by simp only [noX] at o; cases o
  | .rt r, v, _, h => by simpa only [Rep] using h
  | .ty n, v, _, h => by simpa only [Rep] using h
  | .cl c, v, _, h => by simp only [Rep] at h ⊢; exact h
theorem RepL.unx : ∀ (l : List D) (vs : List V), noXL l = true → RepL (W.at a0 cls dd) RA B l vs → RepL W RA B l vs
  | [], vs, _, h => by simpa only [RepL] using h
  | d :: l, vs, o, h => by
    simp only [RepL] at h ⊢
    simp only [noXL, Bool.and_eq_true] at o
    obtain ⟨v, us, h1, h2, h3⟩ := h
    exact ⟨v, us, h1, Rep.unx d v o.1 h2, RepL.unx l us o.2 h3⟩
end
mutual
theorem Rep.inx (hx : ∀ a, W.exn a = none) : ∀ (d : D) (v : V), Rep W RA B d v → Rep (W.at a0 cls dd) RA B d v
  | .non, v, h => by simpa only [Rep] using h
  | .bl b, v, h => by simpa only [Rep] using h
  | .int i, v, h => by simpa only [Rep] using h
  | .str s, v, h => by simpa only [Rep] using h
  | .tup l, v, h => by
    simp only [Rep] at h ⊢
    obtain ⟨a, vs, h1, h2, h3⟩ := h
    exact ⟨a, vs, h1, h2, RepL.inx hx l vs h3⟩
  | .lst l, v, h => by
    simp only [Rep] at h ⊢
    obtain ⟨a, vs, h1, h2, h3⟩ := h
    exact ⟨a, vs, h1, h2, RepL.inx hx l vs h3⟩
  | .scr l, v, h => by
    simp only [Rep] at h ⊢
    obtain ⟨a, vs, h1, h2, h3⟩ := h
    exact ⟨a, vs, h1, h2, RepL.inx hx l vs h3⟩
  | .st l, v, h => by simpa only [Rep] using h
  | .dct ks l, v, h => by
    simp only [Rep] at h ⊢
    obtain ⟨a, kvs, h1, h2, h3, h4⟩ := h
    exact ⟨a, kvs, h1, h2, h3, RepL.inx hx l _ h4⟩
  | .wd ks l, v, h => by
    simp only [Rep] at h ⊢
    obtain ⟨a, vs, h1, h2, h3⟩ := h
    exact ⟨a, vs, h1, h2, RepL.inx hx l vs h3⟩
  | .ins c fs, v, h => by
    simp only [Rep] at h ⊢
    obtain ⟨a, dx, vs, h1, h2, h3, h4⟩ := h
    exact ⟨a, dx, vs, h1, h2, RepL.inx hx fs vs h3, h4⟩
  | .exn c fs, v, h => by
    simp only [Rep] at h
    obtain ⟨a, d, h1, h2, h3⟩ := h
    rw [hx] at h2; cases h2
  | .rt r, v, h => by simpa only [Rep] using h
  | .ty n, v, h => by simpa only [Rep] using h
  | .cl c, v, h => by simp only [Rep] at h ⊢; exact h
theorem RepL.inx (hx : ∀ a, W.exn a = none) : ∀ (l : List D) (vs : List V), RepL W RA B l vs → RepL (W.at a0 cls dd) RA B l vs
  | [], vs, h => by simpa only [RepL] using h
  | d :: l, vs, h => by
    simp only [RepL] at h ⊢
    obtain ⟨v, us, h1, h2, h3⟩ := h
    exact ⟨v, us, h1, Rep.inx hx d v h2, RepL.inx hx l us h3⟩
end
theorem RootAt.unx {a : Addr} : ∀ {d : D}, noX d = true → RootAt (W.at a0 cls dd) RA B H a d → RootAt W RA B H a d
  | .lst l, o, ⟨vs, h1, h2⟩ => ⟨vs, h1, RepL.unx l vs (by simpa only [noX] using o) h2⟩
  | .dct ks l, o, ⟨kvs, h1, h2, h3⟩ => ⟨kvs, h1, h2, RepL.unx l _ (by simpa only [noX] using o) h3⟩
  | .ins c fs, o, ⟨dx, vs, h1, h2, h3⟩ => ⟨dx, vs, h1, RepL.unx fs vs (by simpa only [noX] using o) h2, h3⟩
theorem RootAt.inx (hx : ∀ a, W.exn a = none) {a : Addr} : ∀ {d : D}, RootAt W RA B H a d → RootAt (W.at a0 cls dd) RA B H a d
  | .lst l, ⟨vs, h1, h2⟩ => ⟨vs, h1, RepL.inx hx l vs h2⟩
  | .dct ks l, ⟨kvs, h1, h2, h3⟩ => ⟨kvs, h1, h2, RepL.inx hx l _ h3⟩
  | .ins c fs, ⟨dx, vs, h1, h2, h3⟩ => ⟨dx, vs, h1, RepL.inx hx fs vs h2, h3⟩
theorem Base.inx {ρ : List D} (hx : ∀ a, W.exn a = none) (b : Base W RA ρ B H) : Base (W.at a0 cls dd) RA ρ B H := ⟨b.le, b.len, b.nd, b.out, fun r a d h1 h2 => (b.roots r a d h1 h2).inx hx⟩
theorem LocOk.inx {σd : Env} {σ : L2.St} (hx : ∀ a, W.exn a = none) (l : LocOk W RA B σd σ) : LocOk (W.at a0 cls dd) RA B σd σ := ⟨l.1, fun i d h => by
  obtain ⟨v, h1, h2⟩ := l.2 i d h
  exact ⟨v, h1, Rep.inx hx d v h2⟩⟩
end
def suiteOut (ρ : List D) : Out → Out
  | .ret fr d ρ' => if ρ'.length = ρ.length ∧ noX d = true then .ret fr d ρ else .bad
  | _ => .bad
/-- an except clause: its class, its name's slot, its suite -/
abbrev Hd := Nat × Option Nat × SF
def handleS (ise : Nat → Bool) (sub : Nat → Nat → Bool) : List Hd → Nat → List D → List D → Env → Out
  | [], c, fs, ρ, σ => .exc c fs ρ σ
  | (k, i, s) :: r, c, fs, ρ, σ => if ise c = true ∧ ise k = true then (if sub c k = true then suiteOut ρ (s (fun _ => false) ρ (match i with
      | some i => σ.set i (some (.exn c fs))
      | none => σ)) else handleS ise sub r c fs ρ σ) else .bad
def tryS (ise : Nat → Bool) (sub : Nat → Nat → Bool) (b : SF) (hs : List Hd) : SF := fun mu ρ σ => match b mu ρ σ with
  | .exc c fs ρ' σ' => handleS ise sub hs c fs ρ' σ'
  | o => o
/-- the clauses' suites keep to their functions -/
inductive HdsD (X : Cx) (W : Wd) : List ExceptHandler → List Hd → Prop
  | nil : HdsD X W [] []
  | cons {x : Str} {k : Nat} {s : SF} {b₀ : Stmt} {suite : List Stmt} {np pos' : Pos} {hds : List ExceptHandler} {l : List Hd} (hc : Names X x (.ref (W.CA k)))
      (hsu : ∀ (a : Addr) (oe : Obj) (cls : Value) (d : Option Addr) (pn : List (Addr × Obj)), Zc cls d oe → (∃ vs, oe.data = .fields vs) → PSsd (X.suite a ((a, oe) :: pn)) (W.at a cls d) WF (b₀ :: suite) s) (r : HdsD X W hds l) :
      HdsD X W (.ExceptHandler (some (.Name x np)) none (b₀ :: suite) pos' :: hds) ((k, none, s) :: l)
  | consAs {x n : Str} {k i : Nat} {s : SF} {b₀ : Stmt} {suite : List Stmt} {np pos' : Pos} {hds : List ExceptHandler} {l : List Hd} (hc : Names X x (.ref (W.CA k))) (hN : X.N.Nodup) (hi : X.N[i]? = some n) (hln : X.env.kindOf n = some .local)
      (hsu : ∀ (a : Addr) (oe : Obj) (cls : Value) (d : Option Addr) (pn : List (Addr × Obj)), Zc cls d oe → (∃ vs, oe.data = .fields vs) → PSsd (X.suite a ((a, oe) :: pn)) (W.at a cls d) WF (b₀ :: suite) s) (r : HdsD X W hds l) :
      HdsD X W (.ExceptHandler (some (.Name x np)) (some n) (b₀ :: suite) pos' :: hds) ((k, some i, s) :: l)
def tHd (W : Wd) (h : Hd) : Value × Option Nat × SuiteT := (.ref (W.CA h.1), h.2.1, fun a cls d => tS (W.at a cls d) WF (fun _ => false) h.2.2)
section
variable {X : Cx} {W : Wd} {Wx : WX}
theorem HdsD.hds {hs : List ExceptHandler} {l : List Hd} (h : HdsD X W hs l) : HdsN X hs (l.map (tHd W)) := by
  induction h with
  | nil => exact .nil
  | cons hc hsu r ih => exact .cons hc (fun a oe cls d pn hz hf => hsu a oe cls d pn hz hf _) ih
  | consAs hc hN hi hln hsu r ih => exact .consAs hc hN hi hln (fun a oe cls d pn hz hf => hsu a oe cls d pn hz hf _) ih
/-- a suite has ended -/
theorem suite_out {RA RA' : List Addr} {ρ ρ' : List D} {B H B' H' : Hp} {mu : Nat → Bool} {a : Addr} {cls : Value} {d : Option Addr} {Dn : Ends} {Wy : WX} {o : Out} (hx : ∀ a, W.exn a = none) (gr : Grow W mu RA ρ B H RA' ρ' B' H') (q : Done W Wx mu RA ρ B H Dn (suiteOut ρ' o)) (D2 : Ends) (hD : D2.rt = Dn.rt) : Done (W.at a cls d) Wy (fun _ => false) RA' ρ' B' H' D2 o := by
  cases o with
  | ret fr x ρ2 =>
    simp only [suiteOut] at q
    split at q
    · rename_i hc
      intro RA2 B2 H2 v g2 r2
      have eR : RA2 = RA' := by
        obtain ⟨t, et⟩ := g2.pre
        have h1 := g2.base.len
        have h2 := gr.base.len
        rw [et, List.length_append] at h1
        have : t.length = 0 := by omega
        rw [et, List.eq_nil_of_length_eq_zero this, List.append_nil]
      subst eR
      have g3 : Grow W (fun _ => false) RA2 ρ' B' H' RA2 ρ' B2 H2 := ⟨⟨[], by simp⟩, g2.bl, ⟨g2.base.le, gr.base.len, gr.base.nd, g2.base.out, fun r c dd h1 h2 => (gr.base.roots r c dd h1 h2).mono g2.bl (fun _ _ z => z) fun o ho => g2.keep c o ho fun _ _ => rfl⟩, g2.keep, g2.new, g2.bn, fun r _ _ => rfl⟩
      have g4 := gr.trans (g3.sub (mu := mu) fun _ _ => rfl)
      rw [hD]
      refine q RA2 B2 H2 v g4 ?_
      unfold ResAt at r2 ⊢
      split
      · rename_i hf
        rw [if_pos hf] at r2
        obtain ⟨p, h1, h2, h3, h4, h5⟩ := r2
        exact ⟨p, h1, gr.free h2, h3, h4, h5.unx hc.2⟩
      · rename_i hf
        rw [if_neg hf] at r2
        exact Rep.unx x v hc.2 r2
    · exact q.elim
  | _ => exact q.elim
theorem hand_many {RA : List Addr} {ρ : List D} {B H : Hp} {mu : Nat → Bool} {Dn : Ends} (ok : WOk W) (hx : ∀ a, W.exn a = none) : ∀ (l : List Hd) {c : Nat} {fs ρ' : List D} {σd' : Env} {RA' : List Addr} {B' H' : Hp} {σ' : L2.St} {cls : Value} {dx : Option Addr}, Grow W mu RA ρ B H RA' ρ' B' H' → LocOk W RA' B' σd' σ' → ExcAt W RA' B' H' c fs cls dx →
    Done W Wx mu RA ρ B H Dn (handleS W.ise W.sub l c fs ρ' σd') → wManyN W.K Wx Dn (l.map (tHd W)) cls dx σ' H'
  | [], c, fs, ρ', σd', RA', B', H', σ', cls, dx, gr, lo, ex, q => q RA' B' H' σ' cls dx gr lo ex
  | (k, none, s) :: l, c, fs, ρ', σd', RA', B', H', σ', cls, dx, gr, lo, ex, q => by
    simp only [handleS] at q
    split at q
    · rename_i hi
      refine ⟨W.sub c k, by rw [ex.1]; exact ok.exm c k hi.1 hi.2, fun hs a ha => ?_, fun hs => ?_⟩
      · rw [if_pos hs] at q
        exact ⟨RA', ρ', σd', B', gr.base.inx hx, lo.inx hx, suite_out hx gr q _ rfl⟩
      · rw [if_neg (by rw [hs]; exact Bool.false_ne_true)] at q
        exact hand_many ok hx l gr lo ex q
    · exact q.elim
  | (k, some i, s) :: l, c, fs, ρ', σd', RA', B', H', σ', cls, dx, gr, lo, ex, q => by
    simp only [handleS] at q
    split at q
    · rename_i hi
      refine ⟨W.sub c k, by rw [ex.1]; exact ok.exm c k hi.1 hi.2, fun hs a ha => ?_, fun hs => ?_⟩
      · rw [if_pos hs] at q
        refine ⟨RA', ρ', _, B', gr.base.inx hx, (lo.inx hx).set (d := .exn c fs) ?_ i, suite_out hx gr q _ rfl⟩
        simp only [Rep]
        refine ⟨a, dx, rfl, by show (if a = a then some (cls, dx) else none) = _; rw [if_pos rfl, ex.1]; rfl, ?_⟩
        rcases ex.2 with z | ⟨d, vs, h1, h2, h3, h4⟩
        · exact .inl z
        · exact .inr ⟨d, vs, h1, h2, RepL.inx hx fs vs h3, h4⟩
      · rw [if_neg (by rw [hs]; exact Bool.false_ne_true)] at q
        exact hand_many ok hx l gr lo ex q
    · exact q.elim
theorem ds_try {n : Nat} {body : List Stmt} {h₀ : ExceptHandler} {hds : List ExceptHandler} {l : List Hd} {pos : Pos} {s : SF} (c : Cok X W Wx n) (hx : ∀ a, W.exn a = none) (hs : X.stack = X.env :: X.outer) (hf : X.env.frame = some X.env.locals)
    (hb : ∀ (Wy : WX) (pn : List (Addr × Obj)) (xe : Value → Shared → Prop), Cok (X.tr pn xe) W Wy n → PSsd (X.tr pn xe) W Wy body s) (hh : HdsD X W (h₀ :: hds) l) : PSd X W Wx (.Try body (h₀ :: hds) [] [] pos) (tryS W.ise W.sub s l) := fun mu =>
  ps_weak (ps_tryN hs hf c.tk (fun Wy pn xe tk po => hb Wy pn xe ⟨c.K, c.w, c.ok, c.calm, c.room, tk, po⟩ mu) hh.hds) fun Dn σ H ⟨RA, ρ, σd, B, b, lo, q⟩ => ⟨RA, ρ, σd, B, b, lo, by
    unfold tryS at q
    cases e : s mu ρ σd with
    | exc c' fs ρ' σ' =>
      rw [e] at q
      intro RA' B' H' σ2 cls dx gr l2 ex
      rw [c.K]
      exact hand_many c.ok hx l gr l2 ex q
    | nx _ _ => rw [e] at q; exact q
    | ret _ _ _ => rw [e] at q; exact q
    | brk _ _ => rw [e] at q; exact q
    | ct _ _ => rw [e] at q; exact q
    | bad => rw [e] at q; exact q⟩
end
end Dd

set_option Elab.async false
set_option linter.all false
set_option maxRecDepth 100000
set_option maxHeartbeats 4000000
/-! DdExc2: within an except suite: isinstance(e, C), e.f -/
namespace Dd
open PySem PySem.Spec PyProof.Rows L2 Evl OwnO My

/-- isinstance of an exception -/
def isxC (ise : Nat → Bool) (sub : Nat → Nat → Bool) (ρ : List D) (xs : List D) : Option D := match xs with
  | [.exn c fs, y] => if ise c = true then (match y with
      | .cl k => if ise k = true then some (.bl (sub c k)) else none
      | .ty .verr => some (.bl true)
      | _ => none) else none
  | _ => none
def rIsX (K : PySem.W.Frag) (a : Addr) (cls : Value) (d : Option Addr) : List V → Hp → VK → Prop := fun xs H Q => ∃ (D : Addr) (c : V) (cv : Value) (b : Bool), xs = [.ref a, c] ∧ cls = .ref D ∧ ExcC K D ∧ (∀ u, L2.RelV c u → u = cv) ∧ PySem.W.kitOne K (.ref D) cv = some b ∧ (d = none ∨ ∃ dd fs, d = some dd ∧ H dd = some (.xd fs)) ∧ Q (.bl b) H
theorem call_isX {X : Cx} {a : Addr} {cls : Value} {d : Option Addr} {oe : Obj} {pn : List (Addr × Obj)} (hz : Zc cls d oe) (hf : ∃ vs, oe.data = .fields vs) : CallR (X.suite a ((a, oe) :: pn)) (.builtin "isinstance") (rIsX X.K a cls d) := by
  intro pins s σ H xs us Q I r h
  obtain ⟨D, c, cv, b, rfl, rfl, C, hcv, e, hd, q⟩ := h
  cases r with
  | cons rx rr =>
    cases rr with
    | cons rt rr =>
      cases rr
      cases rx
      have ec := hcv _ rt
      subst ec
      obtain ⟨hget, _⟩ := I.pin (a, oe) (List.mem_append.mpr (.inl List.mem_cons_self))
      obtain ⟨vs, hv⟩ := hf
      have J : ∃ od, PySem.W.InstAt s.heap a oe D od := by
        rcases hd with hd | ⟨dd, fs, hd, hdd⟩
        · subst hd
          obtain ⟨oc, od, oda, osl⟩ := oe
          obtain ⟨h1, h2⟩ := hz
          dsimp only at h1 h2 hv
          subst h1 h2 hv
          exact ⟨none, hget, rfl, rfl, trivial⟩
        · subst hd
          have hx : ObjOk X.prog X.w H s.heap dd (.xd fs) := I.hok dd _ hdd
          obtain ⟨mA, hns, hr⟩ := hx
          obtain ⟨od, ho, hl⟩ := lookIn_ns hns
          exact ⟨some od, hget, hz.1, by unfold PySem.W.notCls; rw [hv] <;> rfl, by rw [hz.2]; exact ho⟩
      exact PySem.W.kia_one (PySem.W.kitx_excO C) I.kIn J e (fun z => nomatch z) fun tk => ⟨.bl b, H, I.kept (t' := tk) fun _ _ z => z, rfl, q⟩
/-- the exception that a suite holds -/
theorem view_exn {W : Wd} {RA : List Addr} {ρ : List D} {B H : Hp} {a0 : Addr} {cls : Value} {dx : Option Addr} {c : Nat} {fs : List D} {v : V} (b : Base (W.at a0 cls dx) RA ρ B H) (h : Rep (W.at a0 cls dx) RA B (.exn c fs) v) : v = .ref a0 ∧ cls = .ref (W.CA c) ∧ ((fs = [] ∧ dx = none) ∨ ∃ dd vs, dx = some dd ∧ H dd = some (.xd ((W.CF c).zip vs)) ∧ RepL (W.at a0 cls dx) RA B fs vs ∧ vs.length = (W.CF c).length) := by
  simp only [Rep] at h
  obtain ⟨a, d, rfl, h2, h3⟩ := h
  have h2 : (if a = a0 then some (cls, dx) else none) = some (.ref (W.CA c), d) := h2
  by_cases ea : a = a0
  · rw [if_pos ea] at h2
    have h7 : cls = .ref (W.CA c) ∧ dx = d := by
      have := Option.some.inj h2
      exact ⟨congrArg Prod.fst this, congrArg Prod.snd this⟩
    subst ea
    obtain ⟨h7, h8⟩ := h7
    subst h8
    refine ⟨rfl, h7, ?_⟩
    rcases h3 with h3 | ⟨dd, vs, h4, h5, h6⟩
    · exact .inl h3
    · exact .inr ⟨dd, vs, h4, b.le dd _ h5, h6⟩
  · rw [if_neg ea] at h2
    cases h2
theorem opc_isX {W : Wd} {a : Addr} {cls : Value} {d : Option Addr} (ok : WOk W) : OpC (W.at a cls d) (rIsX W.K a cls d) (isxC W.ise W.sub) := by
  intro RA ρ B H xs ds dv Q b r e h
  unfold isxC at e
  split at e
  · rename_i c fs y
    obtain ⟨x, v, rfl, rx, ry⟩ := two_of r
    split at e
    · rename_i hc
      obtain ⟨rfl, hcl, hd⟩ := view_exn b rx
      have hd' : d = none ∨ ∃ dd fs, d = some dd ∧ H dd = some (.xd fs) := by
        rcases hd with hd | ⟨dd, vs, h1, h2, _⟩
        · exact .inl hd.2
        · exact .inr ⟨dd, _, h1, h2⟩
      split at e
      · rename_i k
        split at e
        · rename_i hk
          cases e
          simp only [Rep] at ry
          exact ⟨W.CA c, v, .ref (W.CA k), _, rfl, hcl, (ok.exc c hc).1, fun u hu => by rw [ry] at hu; exact hu, ok.kit c k hc hk, hd', fin_flat b (fun _ => rep_bl) h⟩
        · cases e
      · cases e
        simp only [Rep] at ry
        exact ⟨W.CA c, v, .type "ValueError", _, rfl, hcl, (ok.exc c hc).1, fun u hu => by rw [ry] at hu; exact hu, ok.kitv c hc, hd', fin_flat b (fun _ => rep_bl) h⟩
      · cases e
    · cases e
  · cases e
/-- e.f in a suite, e in slot i -/
def fldxS (CF : Nat → List Str) (ise : Nat → Bool) (nm : Str) (i : Nat) : EF := fun ρ σ => (varS i ρ σ).bind fun x => match x with
  | .exn c fs => if ise c = true then (match (CF c).findIdx? (fun g => decide (g = nm)) with
      | some k => ofO (fs[k]?)
      | none => .bad) else .bad
  | _ => .bad
theorem d_xf {X : Cx} {W : Wd} {Wx : WX} {a : Addr} {cls : Value} {d : Option Addr} {oe : Obj} {pn : List (Addr × Obj)} {e : Expr} {i : Nat} {nm : Str} {pos : Pos} (ok : WOk W) (hK : X.K = W.K) (hz : Zc cls d oe) (hf : ∃ vs, oe.data = .fields vs) (he : PE (X.suite a ((a, oe) :: pn)) e (tE (W.at a cls d) Wx (varS i)))
    (hb : attributeBase e nm X.env (eval e X.env) = eval e X.env := by rfl) : PE (X.suite a ((a, oe) :: pn)) (.Attribute e nm pos) (tE (W.at a cls d) Wx (fldxS W.CF W.ise nm i)) := by
  refine ⟨fun pins s σ H Q I ⟨RA, ρ, σd, B, b, l, q⟩ => ?_⟩
  unfold fldxS at q
  cases hv : varS i ρ σd with
  | bad => rw [hv] at q; exact q.elim
  | exc c fs => unfold varS at hv; split at hv <;> cases hv
  | ok x =>
    rw [hv] at q
    simp only [Res.bind] at q
    split at q
    · rename_i c fs
      split at q
      · rename_i hc
        split at q
        · rename_i k hk
          cases hfk : fs[k]? with
          | none => rw [hfk] at q; exact q.elim
          | some y =>
            rw [hfk] at q
            obtain ⟨C, hno⟩ := ok.exc c hc
            have hmem : nm ∈ W.CF c := by
              obtain ⟨h1, h2, _⟩ := List.findIdx?_eq_some_iff_getElem.mp hk
              exact of_decide_eq_true h2 ▸ List.getElem_mem h1
            refine (pe_xf (C := W.CA c) (by rw [hK]; exact ⟨C.hg, C.hk, C.hs, C.hd⟩) (by rw [hK]; exact hno nm hmem) hz hf he hb).run pins s σ H Q I ⟨RA, ρ, σd, B, b, l, ?_⟩
            rw [hv]
            intro B1 H1 a1 v rv
            obtain ⟨rfl, hcl, hd⟩ := view_exn a1.base rv
            refine ⟨rfl, hcl, ?_⟩
            rcases hd with ⟨h1, _⟩ | ⟨dd, vs, h1, h2, h3, h4⟩
            · rw [h1] at hfk; simp at hfk
            · obtain ⟨w, hw, rw'⟩ := h3.get hfk
              exact ⟨dd, _, w, h1, h2, lookup_zip hk hw, q B1 H1 a1 w rw'⟩
        · exact q.elim
      · exact q.elim
    · exact q.elim
/-- what holds in a suite -/
structure Csu (X : Cx) (W : Wd) : Prop where
  K : X.K = W.K
  w : X.w = W.w
  ok : WOk W
  hu : X.A.units + 128 < cLine
theorem WOk.at {W : Wd} (ok : WOk W) (a : Addr) (cls : Value) (d : Option Addr) : WOk (W.at a cls d) := ⟨ok.cls, ok.exm, ok.kit, ok.kitv, ok.exc⟩
theorem Csu.at {X : Cx} {W : Wd} (c : Csu X W) {a : Addr} {cls : Value} {d : Option Addr} {pn : List (Addr × Obj)} : Csu (X.suite a pn) (W.at a cls d) := ⟨c.K, c.w, c.ok.at a cls d, c.hu⟩
theorem Cok.csu {X : Cx} {W : Wd} {Wx : WX} {n : Nat} (c : Cok X W Wx n) : Csu X W := ⟨c.K, c.w, c.ok, c.hu⟩
end Dd

set_option Elab.async false
set_option linter.all false
set_option maxRecDepth 100000
set_option maxHeartbeats 2000000
/-! DdGen: the rules in short, for derivations that gen2.py prints -/
namespace Dd
open PySem PySem.Spec PyProof.Rows L2 Evl OwnO My

def isbD (ρ : List D) (x y : D) : Option D := match dr ρ x, dr ρ y with
  | .bl a, .bl b => some (.bl (decide (a = b)))
  | _, _ => none
def notbD (ρ : List D) (x y : D) : Option D := match dr ρ x, dr ρ y with
  | .bl a, .bl b => some (.bl (!decide (a = b)))
  | _, _ => none
theorem op2_isb (W : Wd) : Op2 W rIsB isbD := by
  intro RA ρ B H x y d1 d2 d Q b r1 r2 e h
  unfold isbD at e
  split at e
  · rename_i i j e1 e2
    cases e
    exact ⟨i, j, view_bl b r1 e1, view_bl b r2 e2, fin_flat b (fun _ => rep_bl) h⟩
  · cases e
theorem op2_notb (W : Wd) : Op2 W rNotB notbD := by
  intro RA ρ B H x y d1 d2 d Q b r1 r2 e h
  unfold notbD at e
  split at e
  · rename_i i j e1 e2
    cases e
    exact ⟨i, j, view_bl b r1 e1, view_bl b r2 e2, fin_flat b (fun _ => rep_bl) h⟩
  · cases e
section
variable {X : Cx} {W : Wd} {Wx : WX} {n : Nat} {a b c e : Expr} {es : List Expr} {f g h : EF} {fa : AF} {pos p apos : Pos}
theorem dpv (i : Nat) {x : Str} (hN : X.N[i]? = some x := by rfl) (hv : Vis X.env.scope x := by first | exact Or.inl rfl | exact Or.inr (Or.inl rfl) | exact Or.inr (Or.inr rfl)) (hd : (x == ("__debug__" : Str)) = false := by decide)
    (hcd : (x == ("__classdict__" : Str)) = false := by decide) : PE X (.Name x pos) (tE W Wx (varS i)) := dv hN hv hd hcd
theorem x_add (c : Csu X W) (ha : PE X a (tE W Wx f)) (hb : PE X b (tE W Wx g)) : PE X (.BinOp a .Add b pos) (tE W Wx (bin2 addD f g)) := pe_bin2 (opr_add W.K c.K) (op2_add W) ha hb
theorem x_sub (c : Csu X W) (ha : PE X a (tE W Wx f)) (hb : PE X b (tE W Wx g)) : PE X (.BinOp a .Sub b pos) (tE W Wx (bin2 subD f g)) := pe_bin2 op_sub (op2_sub W) ha hb
theorem x_mul (c : Csu X W) (ha : PE X a (tE W Wx f)) (hb : PE X b (tE W Wx g)) : PE X (.BinOp a .Mult b pos) (tE W Wx (bin2 mulD f g)) := pe_bin2 (opr_mul W.K c.K) (op2_mul W) ha hb
theorem x_fdiv (c : Csu X W) (ha : PE X a (tE W Wx f)) (hb : PE X b (tE W Wx g)) : PE X (.BinOp a .FloorDiv b pos) (tE W Wx (bin2 fdivD f g)) := pe_bin2 op_fdiv (op2_fdiv W) ha hb
theorem x_mod (c : Csu X W) (ha : PE X a (tE W Wx f)) (hb : PE X b (tE W Wx g)) : PE X (.BinOp a .Mod b pos) (tE W Wx (bin2 modD f g)) := pe_bin2 op_mod (op2_mod W) ha hb
theorem x_pow (c : Csu X W) (ha : PE X a (tE W Wx f)) (hb : PE X b (tE W Wx g)) : PE X (.BinOp a .Pow b pos) (tE W Wx (bin2 powD f g)) := pe_bin2 op_pow (op2_pow W) ha hb
theorem x_neg (c : Csu X W) (ha : PE X a (tE W Wx f)) : PE X (.UnaryOp .USub a pos) (tE W Wx (un1 negD f)) := pe_un1 un_neg (op1_neg W) ha
theorem x_eq (c : Csu X W) (ha : PE X a (tE W Wx f)) (hb : PE X b (tE W Wx g)) : PE X (.Compare a [.Eq] [b] pos) (tE W Wx (bin2 eqD f g)) := pe_cmp2 (opr_eq W.K c.K c.hu) (op2_eq W) (nomark _) ha hb
theorem x_ne (c : Csu X W) (ha : PE X a (tE W Wx f)) (hb : PE X b (tE W Wx g)) : PE X (.Compare a [.NotEq] [b] pos) (tE W Wx (bin2 neD f g)) := pe_cmp2 (opr_ne W.K c.K c.hu) (op2_ne W) (nomark _) ha hb
theorem x_lt (c : Csu X W) (ha : PE X a (tE W Wx f)) (hb : PE X b (tE W Wx g)) : PE X (.Compare a [.Lt] [b] pos) (tE W Wx (bin2 ltD f g)) := pe_cmp2 op_lt (op2_ord W _) (nomark _) ha hb
theorem x_le (c : Csu X W) (ha : PE X a (tE W Wx f)) (hb : PE X b (tE W Wx g)) : PE X (.Compare a [.LtE] [b] pos) (tE W Wx (bin2 leD f g)) := pe_cmp2 op_le (op2_ord W _) (nomark _) ha hb
theorem x_gt (c : Csu X W) (ha : PE X a (tE W Wx f)) (hb : PE X b (tE W Wx g)) : PE X (.Compare a [.Gt] [b] pos) (tE W Wx (bin2 gtD f g)) := pe_cmp2 op_gt (op2_ord W _) (nomark _) ha hb
theorem x_ge (c : Csu X W) (ha : PE X a (tE W Wx f)) (hb : PE X b (tE W Wx g)) : PE X (.Compare a [.GtE] [b] pos) (tE W Wx (bin2 geD f g)) := pe_cmp2 op_ge (op2_ord W _) (nomark _) ha hb
theorem x_in (c : Csu X W) (ha : PE X a (tE W Wx f)) (hb : PE X b (tE W Wx g)) (hm : behindInMarks .In b = false := by rfl) : PE X (.Compare a [.In] [b] pos) (tE W Wx (bin2 inD f g)) := pe_cmp2 (opr_in W.K W.w c.K c.w c.hu) (op2_in W) hm ha hb
theorem x_nin (c : Csu X W) (ha : PE X a (tE W Wx f)) (hb : PE X b (tE W Wx g)) (hm : behindInMarks .NotIn b = false := by rfl) : PE X (.Compare a [.NotIn] [b] pos) (tE W Wx (bin2 ninD f g)) := pe_cmp2 (opr_nin W.K W.w c.K c.w c.hu) (op2_nin W) hm ha hb
theorem x_isn (c : Csu X W) (ha : PE X a (tE W Wx f)) (hb : PE X b (tE W Wx g)) : PE X (.Compare a [.Is] [b] pos) (tE W Wx (bin2 isnD f g)) := pe_cmp2 op_isNon (op2_isn W) (nomark _) ha hb
theorem x_notn (c : Csu X W) (ha : PE X a (tE W Wx f)) (hb : PE X b (tE W Wx g)) : PE X (.Compare a [.IsNot] [b] pos) (tE W Wx (bin2 notnD f g)) := pe_cmp2 op_notNon (op2_notn W) (nomark _) ha hb
theorem x_isb (c : Csu X W) (ha : PE X a (tE W Wx f)) (hb : PE X b (tE W Wx g)) : PE X (.Compare a [.Is] [b] pos) (tE W Wx (bin2 isbD f g)) := pe_cmp2 op_isBl (op2_isb W) (nomark _) ha hb
theorem x_notb (c : Csu X W) (ha : PE X a (tE W Wx f)) (hb : PE X b (tE W Wx g)) : PE X (.Compare a [.IsNot] [b] pos) (tE W Wx (bin2 notbD f g)) := pe_cmp2 op_notBl (op2_notb W) (nomark _) ha hb
theorem x_ix (c : Csu X W) (ha : PE X a (tE W Wx f)) (hb : PE X b (tE W Wx g)) (hs : PlainIx b := by exact fun _ _ => rfl) : PE X (.Subscript a b pos) (tE W Wx (bin2 ixD f g)) := pe_ix2 (ixr_all W.K W.w c.K c.w c.hu) (op2_ix W) hs ha hb
theorem x_ltlt (c : Csu X W) {d : Expr} (ha : PE X a (tE W Wx f)) (hb : PE X b (tE W Wx g)) (hc : PE X d (tE W Wx h)) (hm : lastMarks [.Lt, .Lt] [b, d] = false := by rfl) : PE X (.Compare a [.Lt, .Lt] [b, d] pos) (tE W Wx (chainS ltD ltD f g h)) := d_chain op_lt (op2_ord W _) op_lt (op2_ord W _) ha hb hc hm
theorem x_lelt (c : Csu X W) {d : Expr} (ha : PE X a (tE W Wx f)) (hb : PE X b (tE W Wx g)) (hc : PE X d (tE W Wx h)) (hm : lastMarks [.LtE, .Lt] [b, d] = false := by rfl) : PE X (.Compare a [.LtE, .Lt] [b, d] pos) (tE W Wx (chainS leD ltD f g h)) := d_chain op_le (op2_ord W _) op_lt (op2_ord W _) ha hb hc hm
theorem x_lele (c : Csu X W) {d : Expr} (ha : PE X a (tE W Wx f)) (hb : PE X b (tE W Wx g)) (hc : PE X d (tE W Wx h)) (hm : lastMarks [.LtE, .LtE] [b, d] = false := by rfl) : PE X (.Compare a [.LtE, .LtE] [b, d] pos) (tE W Wx (chainS leD leD f g h)) := d_chain op_le (op2_ord W _) op_le (op2_ord W _) ha hb hc hm
theorem x_not (c : Csu X W) (ha : PE X a (tE W Wx f)) : PE X (.UnaryOp .Not a pos) (tE W Wx (notS f)) := d_not c.K ha
theorem x_slice (c : Csu X W) {lo hi : Option Expr} {pl ph : PF} {p2 : Pos} (he : PE X e (tE W Wx f)) (hl : PO X lo (tP W Wx pl)) (hu : PO X hi (tP W Wx ph)) : PE X (.Subscript e (.Slice lo hi none p2) pos) (tE W Wx (slS f pl ph)) := d_slice c.K he hl hu
theorem xt (c : Csu X W) (ha : PE X a (tE W Wx f)) (he : ∀ whole, isTrue a X.env whole = (do let v ← whole; standAt a.pos; holding [v] (truthy v)) := by intro _; rfl) : PT X a (tT W Wx (testS f)) := dt_of c.K ha he
theorem t_eq (c : Csu X W) (ha : PE X a (tE W Wx f)) (hb : PE X b (tE W Wx g)) : PT X (.Compare a [.Eq] [b] pos) (tT W Wx (tb1 (bin2 eqD f g))) := t_cmp (opr_eq W.K c.K c.hu) (op2_eq W) (nomark _) ha hb
theorem t_ne (c : Csu X W) (ha : PE X a (tE W Wx f)) (hb : PE X b (tE W Wx g)) : PT X (.Compare a [.NotEq] [b] pos) (tT W Wx (tb1 (bin2 neD f g))) := t_cmp (opr_ne W.K c.K c.hu) (op2_ne W) (nomark _) ha hb
theorem t_lt (c : Csu X W) (ha : PE X a (tE W Wx f)) (hb : PE X b (tE W Wx g)) : PT X (.Compare a [.Lt] [b] pos) (tT W Wx (tb1 (bin2 ltD f g))) := t_cmp op_lt (op2_ord W _) (nomark _) ha hb
theorem t_le (c : Csu X W) (ha : PE X a (tE W Wx f)) (hb : PE X b (tE W Wx g)) : PT X (.Compare a [.LtE] [b] pos) (tT W Wx (tb1 (bin2 leD f g))) := t_cmp op_le (op2_ord W _) (nomark _) ha hb
theorem t_gt (c : Csu X W) (ha : PE X a (tE W Wx f)) (hb : PE X b (tE W Wx g)) : PT X (.Compare a [.Gt] [b] pos) (tT W Wx (tb1 (bin2 gtD f g))) := t_cmp op_gt (op2_ord W _) (nomark _) ha hb
theorem t_ge (c : Csu X W) (ha : PE X a (tE W Wx f)) (hb : PE X b (tE W Wx g)) : PT X (.Compare a [.GtE] [b] pos) (tT W Wx (tb1 (bin2 geD f g))) := t_cmp op_ge (op2_ord W _) (nomark _) ha hb
theorem t_in (c : Csu X W) (ha : PE X a (tE W Wx f)) (hb : PE X b (tE W Wx g)) (hm : behindInMarks .In b = false := by rfl) : PT X (.Compare a [.In] [b] pos) (tT W Wx (tb1 (bin2 inD f g))) := t_cmp (opr_in W.K W.w c.K c.w c.hu) (op2_in W) hm ha hb
theorem t_nin (c : Csu X W) (ha : PE X a (tE W Wx f)) (hb : PE X b (tE W Wx g)) (hm : behindInMarks .NotIn b = false := by rfl) : PT X (.Compare a [.NotIn] [b] pos) (tT W Wx (tb1 (bin2 ninD f g))) := t_cmp (opr_nin W.K W.w c.K c.w c.hu) (op2_nin W) hm ha hb
theorem t_isn (c : Csu X W) (ha : PE X a (tE W Wx f)) (hb : PE X b (tE W Wx g)) : PT X (.Compare a [.Is] [b] pos) (tT W Wx (tb1 (bin2 isnD f g))) := t_cmp op_isNon (op2_isn W) (nomark _) ha hb
theorem t_notn (c : Csu X W) (ha : PE X a (tE W Wx f)) (hb : PE X b (tE W Wx g)) : PT X (.Compare a [.IsNot] [b] pos) (tT W Wx (tb1 (bin2 notnD f g))) := t_cmp op_notNon (op2_notn W) (nomark _) ha hb
theorem t_isb (c : Csu X W) (ha : PE X a (tE W Wx f)) (hb : PE X b (tE W Wx g)) : PT X (.Compare a [.Is] [b] pos) (tT W Wx (tb1 (bin2 isbD f g))) := t_cmp op_isBl (op2_isb W) (nomark _) ha hb
theorem t_notb (c : Csu X W) (ha : PE X a (tE W Wx f)) (hb : PE X b (tE W Wx g)) : PT X (.Compare a [.IsNot] [b] pos) (tT W Wx (tb1 (bin2 notbD f g))) := t_cmp op_notBl (op2_notb W) (nomark _) ha hb
theorem t_ltlt (c : Csu X W) {d : Expr} (ha : PE X a (tE W Wx f)) (hb : PE X b (tE W Wx g)) (hc : PE X d (tE W Wx h)) (hm : lastMarks [.Lt, .Lt] [b, d] = false := by rfl) : PT X (.Compare a [.Lt, .Lt] [b, d] pos) (tT W Wx (tb1 (chainS ltD ltD f g h))) := t_chain op_lt (op2_ord W _) op_lt (op2_ord W _) ha hb hc hm
theorem t_lelt (c : Csu X W) {d : Expr} (ha : PE X a (tE W Wx f)) (hb : PE X b (tE W Wx g)) (hc : PE X d (tE W Wx h)) (hm : lastMarks [.LtE, .Lt] [b, d] = false := by rfl) : PT X (.Compare a [.LtE, .Lt] [b, d] pos) (tT W Wx (tb1 (chainS leD ltD f g h))) := t_chain op_le (op2_ord W _) op_lt (op2_ord W _) ha hb hc hm
theorem t_lele (c : Csu X W) {d : Expr} (ha : PE X a (tE W Wx f)) (hb : PE X b (tE W Wx g)) (hc : PE X d (tE W Wx h)) (hm : lastMarks [.LtE, .LtE] [b, d] = false := by rfl) : PT X (.Compare a [.LtE, .LtE] [b, d] pos) (tT W Wx (tb1 (chainS leD leD f g h))) := t_chain op_le (op2_ord W _) op_le (op2_ord W _) ha hb hc hm
/-! calls -/
section
variable (hg : Gl X "len")
theorem x_len (c : Csu X W) (hm : X.mg "len" = none) (ha : PA X (e :: es) (tA W Wx fa)) (hg : Gl X "len" := by rfl) (he : starEach (e :: es) X.env = (false, eval e X.env) :: starEach es X.env := by rfl) (hpl : (backTo pos (starEach es X.env)).any (·.1) = false := by rfl) : PE X (.Call (.Name "len" p) (e :: es) [] pos) (tE W Wx (callB lenD fa)) := d_callB (callr_len W.K c.K) (opc_len W) hm (by decide +kernel) ha hg (he := he) (hpl := hpl)
theorem x_int (c : Csu X W) (hm : X.mg "int" = none) (ha : PA X (e :: es) (tA W Wx fa)) (hg : Gl X "int" := by rfl) (he : starEach (e :: es) X.env = (false, eval e X.env) :: starEach es X.env := by rfl) (hpl : (backTo pos (starEach es X.env)).any (·.1) = false := by rfl) : PE X (.Call (.Name "int" p) (e :: es) [] pos) (tE W Wx (callB intC fa)) := d_callT callr_int (opc_int W) hm (by decide +kernel) ha hg (he := he) (hpl := hpl)
theorem x_str (c : Csu X W) (hm : X.mg "str" = none) (ha : PA X (e :: es) (tA W Wx fa)) (hg : Gl X "str" := by rfl) (he : starEach (e :: es) X.env = (false, eval e X.env) :: starEach es X.env := by rfl) (hpl : (backTo pos (starEach es X.env)).any (·.1) = false := by rfl) : PE X (.Call (.Name "str" p) (e :: es) [] pos) (tE W Wx (callB strC fa)) := d_callT callr_str (opc_str W) hm (by decide +kernel) ha hg (he := he) (hpl := hpl)
theorem x_max (c : Cok X W Wx n) (hm : X.mg "max" = none) (ha : PA X (e :: es) (tA W Wx fa)) (hg : Gl X "max" := by rfl) (he : starEach (e :: es) X.env = (false, eval e X.env) :: starEach es X.env := by rfl) (hpl : (backTo pos (starEach es X.env)).any (·.1) = false := by rfl) : PE X (.Call (.Name "max" p) (e :: es) [] pos) (tE W Wx (callB maxC fa)) := d_callB (callr_max W.K c.K c.calm) (opc_max W) hm (by decide +kernel) ha hg (he := he) (hpl := hpl)
theorem x_min (c : Cok X W Wx n) (hm : X.mg "min" = none) (ha : PA X (e :: es) (tA W Wx fa)) (hg : Gl X "min" := by rfl) (he : starEach (e :: es) X.env = (false, eval e X.env) :: starEach es X.env := by rfl) (hpl : (backTo pos (starEach es X.env)).any (·.1) = false := by rfl) : PE X (.Call (.Name "min" p) (e :: es) [] pos) (tE W Wx (callB minC fa)) := d_callB (callr_min W.K c.K c.calm) (opc_min W) hm (by decide +kernel) ha hg (he := he) (hpl := hpl)
theorem x_sum (c : Cok X W Wx n) (hm : X.mg "sum" = none) (ha : PA X (e :: es) (tA W Wx fa)) (hg : Gl X "sum" := by rfl) (he : starEach (e :: es) X.env = (false, eval e X.env) :: starEach es X.env := by rfl) (hpl : (backTo pos (starEach es X.env)).any (·.1) = false := by rfl) : PE X (.Call (.Name "sum" p) (e :: es) [] pos) (tE W Wx (callB sumC fa)) := d_callB (callr_sum W.K c.K c.calm) (opc_sum W) hm (by decide +kernel) ha hg (he := he) (hpl := hpl)
theorem x_any (c : Cok X W Wx n) (hm : X.mg "any" = none) (ha : PA X (e :: es) (tA W Wx fa)) (hg : Gl X "any" := by rfl) (he : starEach (e :: es) X.env = (false, eval e X.env) :: starEach es X.env := by rfl) (hpl : (backTo pos (starEach es X.env)).any (·.1) = false := by rfl) : PE X (.Call (.Name "any" p) (e :: es) [] pos) (tE W Wx (callB anyC fa)) := d_callB (callr_any W.K c.K c.calm) (opc_any W) hm (by decide +kernel) ha hg (he := he) (hpl := hpl)
theorem x_all (c : Cok X W Wx n) (hm : X.mg "all" = none) (ha : PA X (e :: es) (tA W Wx fa)) (hg : Gl X "all" := by rfl) (he : starEach (e :: es) X.env = (false, eval e X.env) :: starEach es X.env := by rfl) (hpl : (backTo pos (starEach es X.env)).any (·.1) = false := by rfl) : PE X (.Call (.Name "all" p) (e :: es) [] pos) (tE W Wx (callB allC fa)) := d_callB (callr_all W.K c.K c.calm) (opc_all W) hm (by decide +kernel) ha hg (he := he) (hpl := hpl)
theorem x_tuple (c : Csu X W) (hm : X.mg "tuple" = none) (ha : PA X (e :: es) (tA W Wx fa)) (hg : Gl X "tuple" := by rfl) (he : starEach (e :: es) X.env = (false, eval e X.env) :: starEach es X.env := by rfl) (hpl : (backTo pos (starEach es X.env)).any (·.1) = false := by rfl) : PE X (.Call (.Name "tuple" p) (e :: es) [] pos) (tE W Wx (callB tupleC fa)) := d_callT (callr_tuple W.K c.K) (opc_tuple W) hm (by decide +kernel) ha hg (he := he) (hpl := hpl)
theorem xf_list (c : Csu X W) (hm : X.mg "list" = none) (ha : PA X (e :: es) (tA W Wx fa)) (hg : Gl X "list" := by rfl) (he : starEach (e :: es) X.env = (false, eval e X.env) :: starEach es X.env := by rfl) (hpl : (backTo pos (starEach es X.env)).any (·.1) = false := by rfl) : PE X (.Call (.Name "list" p) (e :: es) [] pos) (tF W Wx (callB listC fa)) := f_callT (callr_list W.K c.K) (opc_list W) hm (by decide +kernel) ha hg (he := he) (hpl := hpl)
theorem x_isi (c : Csu X W) (hm : X.mg "isinstance" = none) (ha : PA X (e :: es) (tA W Wx fa)) (hg : Gl X "isinstance" := by rfl) (he : starEach (e :: es) X.env = (false, eval e X.env) :: starEach es X.env := by rfl) (hpl : (backTo pos (starEach es X.env)).any (·.1) = false := by rfl) : PE X (.Call (.Name "isinstance" p) (e :: es) [] pos) (tE W Wx (callB (isiC W.isc) fa)) := d_callB (callr_isi W.K c.K) (opc_isi W c.ok) hm (by decide +kernel) ha hg (he := he) (hpl := hpl)
theorem x_isx {a0 : Addr} {cls : Value} {d : Option Addr} {oe : Obj} {pn : List (Addr × Obj)} (c : Csu X W) (hz : Zc cls d oe) (hf : ∃ vs, oe.data = .fields vs) (hm : X.mg "isinstance" = none) (ha : PA (X.suite a0 ((a0, oe) :: pn)) (e :: es) (tA (W.at a0 cls d) Wx fa)) (hg : Gl X "isinstance" := by rfl) (he : starEach (e :: es) X.env = (false, eval e X.env) :: starEach es X.env := by rfl) (hpl : (backTo pos (starEach es X.env)).any (·.1) = false := by rfl) : PE (X.suite a0 ((a0, oe) :: pn)) (.Call (.Name "isinstance" p) (e :: es) [] pos) (tE (W.at a0 cls d) Wx (callB (isxC W.ise W.sub) fa)) := d_callB (X := X.suite a0 ((a0, oe) :: pn)) (by have := call_isX (X := X) (a := a0) (pn := pn) hz hf; rw [c.K] at this; exact this) (opc_isX c.ok) hm (by decide +kernel) ha hg (he := he) (hpl := hpl)
end
/-! methods of texts -/
theorem x_join (c : Csu X W) (ho : PE X a (tE W Wx f)) (ha : PA X (e :: es) (tA W Wx fa)) (hbase : attributeBase a "join" X.env (eval a X.env) = eval a X.env := by rfl)
    (hfew : ((backTo pos (starEach (e :: es) X.env)).all (fun x => !x.1) && (backToKw pos (keywordEach [] X.env)).all (fun x => x.1.isSome)
      && decide ((e :: es).length + ([] : List Keyword).length + (if ([] : List Keyword).isEmpty then 0 else 1) < 30)) = true := by rfl)
    (hline : (apos.endLine == pos.line) = true := by rfl) (hs : starEach (e :: es) X.env = (false, eval e X.env) :: starEach es X.env := by rfl) (hplain : (backTo pos (starEach es X.env)).any (·.1) = false := by rfl) :
    PE X (.Call (.Attribute a "join" apos) (e :: es) [] pos) (tE W Wx (methS joinM f fa)) := d_methS PySem.F.slot_str_join PySem.F.type_str_join (mtr_join c.K) (opm_join W) ho ha hbase hfew hline hs hplain
theorem x_split (c : Csu X W) (ho : PE X a (tE W Wx f)) (ha : PA X (e :: es) (tA W Wx fa)) (hbase : attributeBase a "split" X.env (eval a X.env) = eval a X.env := by rfl)
    (hfew : ((backTo pos (starEach (e :: es) X.env)).all (fun x => !x.1) && (backToKw pos (keywordEach [] X.env)).all (fun x => x.1.isSome)
      && decide ((e :: es).length + ([] : List Keyword).length + (if ([] : List Keyword).isEmpty then 0 else 1) < 30)) = true := by rfl)
    (hline : (apos.endLine == pos.line) = true := by rfl) (hs : starEach (e :: es) X.env = (false, eval e X.env) :: starEach es X.env := by rfl) (hplain : (backTo pos (starEach es X.env)).any (·.1) = false := by rfl) :
    PE X (.Call (.Attribute a "split" apos) (e :: es) [] pos) (tE W Wx (methS splitM f fa)) := d_methS PySem.F.slot_str_split PySem.F.type_str_split mtr_split (opm_split W) ho ha hbase hfew hline hs hplain
theorem x_ljust (c : Csu X W) (ho : PE X a (tE W Wx f)) (ha : PA X (e :: es) (tA W Wx fa)) (hbase : attributeBase a "ljust" X.env (eval a X.env) = eval a X.env := by rfl)
    (hfew : ((backTo pos (starEach (e :: es) X.env)).all (fun x => !x.1) && (backToKw pos (keywordEach [] X.env)).all (fun x => x.1.isSome)
      && decide ((e :: es).length + ([] : List Keyword).length + (if ([] : List Keyword).isEmpty then 0 else 1) < 30)) = true := by rfl)
    (hline : (apos.endLine == pos.line) = true := by rfl) (hs : starEach (e :: es) X.env = (false, eval e X.env) :: starEach es X.env := by rfl) (hplain : (backTo pos (starEach es X.env)).any (·.1) = false := by rfl) :
    PE X (.Call (.Attribute a "ljust" apos) (e :: es) [] pos) (tE W Wx (methS ljustM f fa)) := d_methS PySem.F.slot_str_ljust PySem.F.type_str_ljust mtr_ljust (opm_ljust W) ho ha hbase hfew hline hs hplain
theorem x_rjust (c : Csu X W) (ho : PE X a (tE W Wx f)) (ha : PA X (e :: es) (tA W Wx fa)) (hbase : attributeBase a "rjust" X.env (eval a X.env) = eval a X.env := by rfl)
    (hfew : ((backTo pos (starEach (e :: es) X.env)).all (fun x => !x.1) && (backToKw pos (keywordEach [] X.env)).all (fun x => x.1.isSome)
      && decide ((e :: es).length + ([] : List Keyword).length + (if ([] : List Keyword).isEmpty then 0 else 1) < 30)) = true := by rfl)
    (hline : (apos.endLine == pos.line) = true := by rfl) (hs : starEach (e :: es) X.env = (false, eval e X.env) :: starEach es X.env := by rfl) (hplain : (backTo pos (starEach es X.env)).any (·.1) = false := by rfl) :
    PE X (.Call (.Attribute a "rjust" apos) (e :: es) [] pos) (tE W Wx (methS rjustM f fa)) := d_methS PySem.F.slot_str_rjust PySem.F.type_str_rjust mtr_rjust (opm_rjust W) ho ha hbase hfew hline hs hplain
end
/-! ### defs -/
section
variable {P : Program} {w : World} {K : PySem.W.Frag} {mg : Str → Option Value} {base : Heap} {W : Wd} {T : Nat → Option Fn} {n g : Nat}
/-- a def keeps to its function, by its body's derivation -/
theorem fnD_ok {x qual : Str} {params : Arguments} {body : List Stmt} {scope : Scope} {dvs : List V} {kws : List (Str × V)} {f : Addr} {fd : FuncData} {N ps : List Str} {F : Fn} (D : FunD K x qual params body scope dvs kws f fd) (S : FnScope N ps scope) (hT : T g = some F) (hnp : F.np = ps.length) (hnl : F.nl = N.length)
    (der : ∀ (cdv : Value) (A : Around) (outer : List PySem.Env) (s : Shared) (H : Hp) (E : XK), Room (4 * n + 3) (A.deeper (envOfC qual scope s.heap.objs.size f cdv)) →
      PSsd (cxOf (L2.CX P w) P w K mg base N qual scope f cdv A outer s H E) W (fun cls dx _ H' => E cls dx H') body (F.body (run T n))) : FnOk P w K mg base (L2.CX P w) (4 * (n + 1)) f fd ps (spF W T (n + 1) g) := by
  obtain ⟨oc, od, dV, kV, doc, pm, an, cdv, ct, osl, rfl, lk, hcd, _, _⟩ := D.ex
  exact fnOk_d lk hcd S hT hnp hnl (der cdv)
/-- what the law's def is asked -/
def spLaw (K : PySem.W.Frag) : Sp := fun vs H Q E => ∃ (a : Addr) (ns : List Int), vs = [.ref a] ∧ ns.length ≤ 63 ∧ SqL K H a (ns.map V.int) ∧ ∀ H', Q (.bl true) H'
theorem repL_ints' (W : Wd) (RA : List Addr) (B : Hp) : ∀ ns : List Int, RepL W RA B (ns.map .int) (ns.map V.int)
  | [] => .nil
  | n :: ns => .cons rep_int (repL_ints' W RA B ns)
end
end Dd

set_option Elab.async false
set_option linter.all false
set_option maxRecDepth 100000
set_option maxHeartbeats 2000000
/-! DdConv: list(range(..)), tuple(range(..)); the module's constants -/
namespace Dd
open PySem PySem.Spec PyProof.Rows L2 Evl OwnO My

def rgD (ρ : List D) (x y : D) (k : List D → D) : Res D := match dr ρ x, dr ρ y with
  | .int i, .int j => if -(2 ^ 62) ≤ i ∧ i < 2 ^ 62 ∧ -(2 ^ 62) ≤ j ∧ j < 2 ^ 62 ∧ (j - i).toNat ≤ 100000 then .ok (k (rngL i (j - i).toNat)) else .bad
  | _, _ => .bad
/-- list(range(j)), list(range(i, j)), tuple(..) -/
def rg1S (k : List D → D) (f : EF) : EF := fun ρ σ => (f ρ σ).bind fun x => rgD ρ (.int 0) x k
def rg2S (k : List D → D) (f g : EF) : EF := fun ρ σ => (f ρ σ).bind fun x => (g ρ σ).bind fun y => rgD ρ x y k
section
variable {X : Cx} {W : Wd} {Wx : WX} {n : Nat} {a b : Expr} {f g : EF} {x : Str} {pos p q qpos : Pos} {d : D}
theorem repL_rg {RA : List Addr} {B : Hp} (i j : Int) : RepL W RA B (rngL i (j - i).toNat) (rgV i j) := by
  unfold rngL rgV
  generalize (j - i).toNat = n
  apply RepL.of_get (by simp)
  intro k d v h1 h2
  rw [List.getElem?_map] at h1 h2
  obtain ⟨r, hr, rfl⟩ := Option.map_eq_some_iff.mp h1
  obtain ⟨r', hr', rfl⟩ := Option.map_eq_some_iff.mp h2
  rw [hr] at hr'; cases hr'
  exact rep_int
theorem rgD_ok {ρ : List D} {RA : List Addr} {B H : Hp} {x y : D} {v u : V} {k : List D → D} {r : D} (b : Base W RA ρ B H) (hx : Rep W RA B x v) (hy : Rep W RA B y u) (e : rgD ρ x y k = .ok r) : ∃ i j, v = .int i ∧ u = .int j ∧ RgOk i j ∧ r = k (rngL i (j - i).toNat) := by
  unfold rgD at e
  split at e
  · rename_i i j e1 e2
    split at e
    · rename_i hc
      cases e
      exact ⟨i, j, view_int b hx e1, view_int b hy e2, ⟨hc.1, hc.2.1, hc.2.2.1, hc.2.2.2.1, by have := hc.2.2.2.2; omega⟩, rfl⟩
    · cases e
  · cases e
theorem aw_ofbind {α : Type} {RA : List Addr} {ρ : List D} {σ : L2.St} {B H : Hp} {r : Res α} {P : α → Hp → Hp → Prop} (b : Base W RA ρ B H) (hn : ∀ c fs, r ≠ .exc c fs) (h : Aw W Wx RA ρ σ B H r P) : ∃ x, r = .ok x ∧ ∀ B' H', Aft W RA ρ B H B' H' → P x B' H' := by
  cases r with
  | ok x => exact ⟨x, rfl, h⟩
  | exc c fs => exact absurd rfl (hn c fs)
  | bad => exact h.elim
theorem rgD_exc {ρ : List D} {x y : D} {k : List D → D} {c : Nat} {fs : List D} : rgD ρ x y k ≠ .exc c fs := by
  unfold rgD
  intro h
  split at h
  · split at h <;> cases h
  · cases h
theorem f_lrg1 (c : Cok X W Wx n) (hm : X.mg "list" = none) (hr : X.mg "range" = none) (ha : PE X a (tE W Wx f)) (hg : Gl X "list" := by rfl) (hgr : Gl X "range" := by rfl) (na : starEach [.Call (.Name "range" q) [a] [] qpos] X.env = (false, eval (.Call (.Name "range" q) [a] [] qpos) X.env) :: starEach [] X.env := by rfl) (na2 : starEach [a] X.env = (false, eval a X.env) :: starEach [] X.env := by rfl) :
    PE X (.Call (.Name "list" p) [.Call (.Name "range" q) [a] [] qpos] [] pos) (tF W Wx (rg1S .lst f)) := pe_weak (pe_listRg c.calm hg hm (prg_1 hgr hr ha na2) na) fun σ H Q ⟨RA, ρ, σd, B, b, l, h⟩ =>
  ⟨RA, ρ, σd, B, b, l, (Aw.bind h).imp fun d B1 H1 a1 q1 v rv => by
    obtain ⟨r, er, k⟩ := aw_ofbind a1.base (fun _ _ => rgD_exc) q1
    obtain ⟨i, j, hi, rfl, ok, rfl⟩ := rgD_ok a1.base rep_int rv er
    cases hi
    exact ⟨j, rfl, ok, fun p hp => fin_lstF a1.base hp (repL_rg 0 j) fun v B2 H2 a2 fr => k B2 H2 a2 v (fr.back a1.hp)⟩⟩
theorem f_lrg2 (c : Cok X W Wx n) (hm : X.mg "list" = none) (hr : X.mg "range" = none) (ha : PE X a (tE W Wx f)) (hb : PE X b (tE W Wx g)) (hg : Gl X "list" := by rfl) (hgr : Gl X "range" := by rfl) (na : starEach [.Call (.Name "range" q) [a, b] [] qpos] X.env = (false, eval (.Call (.Name "range" q) [a, b] [] qpos) X.env) :: starEach [] X.env := by rfl)
    (na2 : starEach [a, b] X.env = (false, eval a X.env) :: starEach [b] X.env := by rfl) (nb : starEach [b] X.env = (false, eval b X.env) :: starEach [] X.env := by rfl) (hp : (backTo qpos (starEach [b] X.env)).any (·.1) = false := by rfl) :
    PE X (.Call (.Name "list" p) [.Call (.Name "range" q) [a, b] [] qpos] [] pos) (tF W Wx (rg2S .lst f g)) := pe_weak (pe_listRg c.calm hg hm (prg_2 hgr hr ha hb na2 nb hp) na) fun σ H Q ⟨RA, ρ, σd, B, b, l, h⟩ =>
  ⟨RA, ρ, σd, B, b, l, (Aw.bind h).imp fun d B1 H1 a1 q1 v rv => ⟨RA, ρ, σd, B1, a1.base, l.ex a1.bl, (Aw.bind q1).imp fun d2 B2 H2 a2 q2 u ru => by
    obtain ⟨r, er, k⟩ := aw_ofbind a2.base (fun _ _ => rgD_exc) q2
    obtain ⟨i, j, rfl, rfl, ok, rfl⟩ := rgD_ok a2.base (rv.ex a2.bl) ru er
    exact ⟨i, j, rfl, rfl, ok, fun p hp => fin_lstF a2.base hp (repL_rg i j) fun v B3 H3 a3 fr => k B3 H3 a3 v (fr.back (a1.hp.trans a2.hp))⟩⟩⟩
theorem d_trg1 (c : Cok X W Wx n) (hm : X.mg "tuple" = none) (hr : X.mg "range" = none) (ha : PE X a (tE W Wx f)) (hg : Gl X "tuple" := by rfl) (hgr : Gl X "range" := by rfl) (na : starEach [.Call (.Name "range" q) [a] [] qpos] X.env = (false, eval (.Call (.Name "range" q) [a] [] qpos) X.env) :: starEach [] X.env := by rfl) (na2 : starEach [a] X.env = (false, eval a X.env) :: starEach [] X.env := by rfl) :
    PE X (.Call (.Name "tuple" p) [.Call (.Name "range" q) [a] [] qpos] [] pos) (tE W Wx (rg1S .tup f)) := pe_weak (pe_tupRg c.calm hg hm (prg_1 hgr hr ha na2) na) fun σ H Q ⟨RA, ρ, σd, B, b, l, h⟩ =>
  ⟨RA, ρ, σd, B, b, l, (Aw.bind h).imp fun d B1 H1 a1 q1 v rv => by
    obtain ⟨r, er, k⟩ := aw_ofbind a1.base (fun _ _ => rgD_exc) q1
    obtain ⟨i, j, hi, rfl, ok, rfl⟩ := rgD_ok a1.base rep_int rv er
    cases hi
    exact ⟨j, rfl, ok, fun p hp => fin_tup a1.base hp (repL_rg 0 j) fun v B2 H2 a2 fr => k B2 H2 a2 v fr⟩⟩
/-- a name of the module -/
theorem d_globE (h : ∃ v u, X.mg x = some u ∧ L2.RelV v u ∧ ∀ RA B, Rep W RA B d v) (hg : Gl X x := by rfl) (hd : (x == ("__debug__" : Str)) = false := by decide) : PE X (.Name x pos) (tE W Wx (conS d)) := by
  obtain ⟨v, u, hm, r, hr⟩ := h
  exact d_const (pe_glob hg hm r hd) hr
end
end Dd

set_option Elab.async false
set_option linter.all false
set_option maxRecDepth 100000
set_option maxHeartbeats 2000000
/-! DdEnd: the written part's constants as plain data; the kit's answer for own error classes -/
namespace Dd
open PySem PySem.Spec PyProof.Rows L2 Evl OwnO My
theorem kit_ref2 {K : PySem.W.Frag} {C D : Addr} {r : Bool} (h : PySem.W.subIn K (.ref C) (.ref D) = some r) (hs : PySem.W.subIn K (.ref D) (.ref D) = some true) (hd : PySem.W.hasDictIn K D = true) (ht : PySem.W.typeIn K (.ref D) = some (.type "type")) : PySem.W.kitOne K (.ref C) (.ref D) = some r := by
  unfold PySem.W.kitOne
  by_cases e : ((Value.ref C == Value.ref D) = true)
  · rw [if_pos e]
    have e2 : C = D := by simpa using e
    subst e2
    rw [← h, hs]
  · rw [if_neg e]
    obtain ⟨cd, hc, _⟩ := PySem.W.any_some hd
    have e2 : ((PySem.W.clsIn K D).isSome && PySem.W.typeIn K (.ref D) == some (.type "type")) = true := by rw [hc, ht] <;> rfl
    show (if ((PySem.W.clsIn K D).isSome && PySem.W.typeIn K (.ref D) == some (.type "type")) = true then PySem.W.subIn K (.ref C) (.ref D) else none) = some r
    rw [if_pos e2]
    exact h
theorem rep_ktup {W : Wd} {a : Addr} {od : Option Addr} {its : Array Value} {m : Nat} {sl : Array (Option Value)} {vs : List V} {l : List D} (h : W.K.lookup a = some ⟨.type "tuple", od, .seq its m, sl⟩) (hv : Vals vs its.toList) (hl : vs.length ≤ 100000) (r : ∀ RA B, RepL W RA B l vs) : ∀ RA B, Rep W RA B (.tup l) (.ref a) := fun RA B => by
  simp only [Rep]
  refine ⟨a, vs, rfl, .inr ⟨_, its, m, h, rfl, rfl, ?_, hv⟩, r RA B⟩
  have e := hv.length
  have : (100002 : Nat) ≤ sizeLine := by decide
  simp at e
  omega
theorem rep_kdct {W : Wd} {a : Addr} {es : Array DictEntry} {m : Nat} {ks : List Str} {vs : List V} {l : List D} (h : W.K.lookup a = some ⟨.type "dict", none, .dict es m, #[]⟩) (hk : PySem.W.KeysLit W.w.params es.toList) (ho : (a == sysModules) = false) (he : KEnt es.toList ks vs) (r : ∀ RA B, RepL W RA B l vs) : ∀ RA B, Rep W RA B (.wd ks l) (.ref a) := fun RA B => by
  simp only [Rep]
  exact ⟨a, vs, rfl, ⟨es, m, ⟨h, hk, ho⟩, he⟩, r RA B⟩
theorem str_len_add (a b : Str) : (a ++ b).length = a.length + b.length := by
  show (a ++ b).cps.size = a.cps.size + b.cps.size
  have := congrArg List.length (TL.tl_append a b)
  simpa using this
/-- f'..{x}..' of a number or a short text -/
theorem fmt3_ok {s1 s2 : Str} (h1 : s1.length ≤ 1000) (h2 : s2.length ≤ 1000) : ∀ (a : Addr) (v : V), ((∃ y : Str, v = .str y ∧ y.length ≤ 100000) ∨ ∃ i : Int, v = .int i ∧ i.natAbs.log2 < 1920) → ∀ (Q : List V → Hp → Prop) (H1 : Hp), (∀ v, Q [v] H1) →
    (tCons (fun σ H Q => tJs [tC (.str s1), tFmt (tVar 1), tC (.str s2)] Str.empty σ H fun out H1 => Q (.str out) H1) tNil) [some (.ref a), some v, none] H1 Q := by
  intro a v hv Q H1 hq
  have e0 : Str.empty.length = 0 := rfl
  have hz : (200000 : Nat) ≤ sizeLine := by decide
  refine ⟨s1, rfl, by rw [str_len_add, e0]; omega, v, rfl, ?_⟩
  rcases hv with ⟨y, rfl, hy⟩ | ⟨i, rfl, hi⟩
  · refine .inl ⟨y, rfl, by omega, y, rfl, by rw [str_len_add, str_len_add, e0]; omega, s2, rfl, by rw [str_len_add, str_len_add, str_len_add, e0]; omega, hq _⟩
  · have hl := int_text_len_1921 hi
    refine .inr ⟨i, rfl, hi, _, rfl, by rw [str_len_add, str_len_add, e0]; omega, s2, rfl, by rw [str_len_add, str_len_add, str_len_add, e0]; omega, hq _⟩
theorem fmt2_ok {s1 : Str} (h1 : s1.length ≤ 1000) : ∀ (a : Addr) (v : V), ((∃ y : Str, v = .str y ∧ y.length ≤ 100000) ∨ ∃ i : Int, v = .int i ∧ i.natAbs.log2 < 1920) → ∀ (Q : List V → Hp → Prop) (H1 : Hp), (∀ v, Q [v] H1) →
    (tCons (fun σ H Q => tJs [tC (.str s1), tFmt (tVar 1)] Str.empty σ H fun out H1 => Q (.str out) H1) tNil) [some (.ref a), some v, none] H1 Q := by
  intro a v hv Q H1 hq
  have e0 : Str.empty.length = 0 := rfl
  have hz : (200000 : Nat) ≤ sizeLine := by decide
  refine ⟨s1, rfl, by rw [str_len_add, e0]; omega, v, rfl, ?_⟩
  rcases hv with ⟨y, rfl, hy⟩ | ⟨i, rfl, hi⟩
  · exact .inl ⟨y, rfl, by omega, y, rfl, by rw [str_len_add, str_len_add, e0]; omega, hq _⟩
  · have hl := int_text_len_1921 hi
    exact .inr ⟨i, rfl, hi, _, rfl, by rw [str_len_add, str_len_add, e0]; omega, hq _⟩
/-- no exception leaves the law -/
theorem cx_false {P : Program} {w : World} (H : Hp) (s : Shared) (e : Value) (s' : Shared) (h : L2.CX P w [] H s (fun _ _ _ => False) e s') : False := by
  obtain ⟨_, _, _, _, _, _, _, _, _, _, _, _, h⟩ := h
  exact h
end Dd

set_option Elab.async false
set_option linter.all false
set_option maxRecDepth 100000
set_option maxHeartbeats 2000000
/-! DdMath: the evaluator by equations -/
namespace Dd
open PySem PySem.Spec PyProof.Rows L2 Evl OwnO My

/-! ### lists as environments -/
theorem get_0 {α : Type} {x : α} {l : List α} : (x :: l)[0]? = some x := id rfl
theorem get_s {α : Type} {x : α} {l : List α} {n : Nat} : (x :: l)[n + 1]? = l[n]? := id rfl
theorem set_0 {α : Type} {x y : α} {l : List α} : (x :: l).set 0 y = y :: l := id rfl
theorem set_s {α : Type} {x y : α} {l : List α} {n : Nat} : (x :: l).set (n + 1) y = x :: l.set n y := id rfl
theorem app_n {α : Type} {l : List α} : [] ++ l = l := id rfl
theorem app_c {α : Type} {x : α} {l m : List α} : (x :: l) ++ m = x :: (l ++ m) := id rfl
theorem map_n {α β : Type} {f : α → β} : List.map f [] = [] := id rfl
theorem map_c {α β : Type} {f : α → β} {x : α} {l : List α} : List.map f (x :: l) = f x :: List.map f l := id rfl
theorem rep_0 {α : Type} {x : α} : List.replicate 0 x = [] := id rfl
theorem rep_s {α : Type} {x : α} {n : Nat} : List.replicate (n + 1) x = x :: List.replicate n x := id rfl
theorem wipe_n {σ : Env} : wipeD σ [] = σ := id rfl
theorem wipe_c {σ : Env} {v : Nat} {vs : List Nat} : wipeD σ (v :: vs) = (wipeD σ vs).set v none := id rfl

/-! ### results -/
section
variable {α β : Type} {ρ ρ' : List D} {σ σ' : Env} {mu : Nat → Bool}
theorem rb_ok {a : α} {f : α → Res β} : (Res.ok a).bind f = f a := id rfl
theorem rb_exc {c : Nat} {fs : List D} {f : α → Res β} : (Res.exc c fs : Res α).bind f = .exc c fs := id rfl
theorem ofO_some {a : α} : ofO (some a) = .ok a := id rfl
def rd : Option (Option D) → Res D
  | some (some d) => .ok d
  | _ => .bad
theorem rd_some {d : D} : rd (some (some d)) = .ok d := id rfl
theorem varS_ap {i : Nat} : varS i ρ σ = rd σ[i]? := by unfold varS rd; rcases σ[i]? with _ | _ | d <;> rfl
theorem conS_ap {d : D} : conS d ρ σ = .ok d := id rfl
theorem nilA_ap : nilA ρ σ = .ok [] := id rfl
def consR : Res D → Res (List D) → Res (List D)
  | .ok x, r => r.bind fun xs => .ok (x :: xs)
  | .exc c fs, _ => .exc c fs
  | .bad, _ => .bad
theorem consA_ap {f : EF} {g : AF} : consA f g ρ σ = consR (f ρ σ) (g ρ σ) := by unfold consA consR; cases f ρ σ <;> rfl
theorem consR_ok {x : D} {xs : List D} : consR (.ok x) (.ok xs) = .ok (x :: xs) := id rfl
theorem consR_exc {x : D} {c : Nat} {fs : List D} : consR (.ok x) (.exc c fs) = .exc c fs := id rfl
theorem consR_exc0 {r : Res (List D)} {c : Nat} {fs : List D} : consR (.exc c fs) r = .exc c fs := id rfl
def itemsR : D → Option (List D)
  | .lst l => some l
  | .scr l => some l
  | .tup l => some l
  | _ => none
theorem items_ap {d : D} : itemsD ρ d = itemsR (dr ρ d) := id rfl
theorem items_lst {l : List D} : itemsR (.lst l) = some l := id rfl
theorem items_tup {l : List D} : itemsR (.tup l) = some l := id rfl
theorem items_scr {l : List D} : itemsR (.scr l) = some l := id rfl
def starR : Res (Option (List D)) → Res (List D) → Res (List D)
  | .ok (some ys), r => r.bind fun xs => .ok (ys ++ xs)
  | .ok none, _ => .bad
  | .exc c fs, _ => .exc c fs
  | .bad, _ => .bad
theorem starA_ap {f : EF} {g : AF} : starA f g ρ σ = starR ((f ρ σ).bind fun x => .ok (itemsD ρ x)) (g ρ σ) := by
  unfold starA
  cases f ρ σ with
  | ok x => show (ofO (itemsD ρ x)).bind _ = starR (.ok (itemsD ρ x)) _; cases itemsD ρ x <;> rfl
  | exc c fs => rfl
  | bad => rfl
theorem starR_ok {ys xs : List D} : starR (.ok (some ys)) (.ok xs) = .ok (ys ++ xs) := id rfl
def tupR : Res (List D) → Res D
  | .ok xs => if xs.length ≤ 100000 then .ok (.tup xs) else .bad
  | .exc c fs => .exc c fs
  | .bad => .bad
theorem tupS_ap {f : AF} : tupS f ρ σ = tupR (f ρ σ) := by unfold tupS tupR; cases f ρ σ <;> rfl
theorem tupR_ok {xs : List D} (h : xs.length ≤ 100000) : tupR (.ok xs) = .ok (.tup xs) := if_pos h
def lstR : Res (List D) → Res D
  | .ok xs => if xs.length ≤ 100000 then .ok (.lst xs) else .bad
  | .exc c fs => .exc c fs
  | .bad => .bad
theorem lstS_ap {f : AF} : lstS f ρ σ = lstR (f ρ σ) := by unfold lstS lstR; cases f ρ σ <;> rfl
theorem lstR_ok {xs : List D} (h : xs.length ≤ 100000) : lstR (.ok xs) = .ok (.lst xs) := if_pos h
def andR (r : Res D) (g : EF) (ρ : List D) (σ : Env) : Res D := r.bind fun x => match x with
  | .bl c => if c = true then g ρ σ else .ok (.bl false)
  | _ => .bad
theorem andS_ap {f g : EF} : andS f g ρ σ = andR (f ρ σ) g ρ σ := id rfl
theorem andR_t {g : EF} : andR (.ok (.bl true)) g ρ σ = g ρ σ := id rfl
theorem andR_f {g : EF} : andR (.ok (.bl false)) g ρ σ = .ok (.bl false) := id rfl
def orR (r : Res D) (g : EF) (ρ : List D) (σ : Env) : Res D := r.bind fun x => match x with
  | .bl c => if c = true then .ok (.bl true) else g ρ σ
  | _ => .bad
theorem orS_ap {f g : EF} : orS f g ρ σ = orR (f ρ σ) g ρ σ := id rfl
theorem orR_t {g : EF} : orR (.ok (.bl true)) g ρ σ = .ok (.bl true) := id rfl
theorem orR_f {g : EF} : orR (.ok (.bl false)) g ρ σ = g ρ σ := id rfl
def truR (ρ : List D) (r : Res D) : Res Bool := r.bind fun x => ofO (truthB ρ x)
theorem notS_ap {f : EF} : notS f ρ σ = (truR ρ (f ρ σ)).bind fun k => .ok (.bl (!k)) := by unfold notS truR; cases f ρ σ <;> rfl
theorem testS_ap {f : EF} : testS f ρ σ = truR ρ (f ρ σ) := id rfl
theorem truR_bl {b : Bool} : truR ρ (.ok (.bl b)) = .ok b := id rfl
theorem truR_int {i : Int} : truR ρ (.ok (.int i)) = .ok (i != 0) := id rfl
def ifR (r : Res Bool) (f g : EF) (ρ : List D) (σ : Env) : Res D := r.bind fun c => if c = true then f ρ σ else g ρ σ
theorem ifS_ap {t : TF} {f g : EF} : ifS t f g ρ σ = ifR (t ρ σ) f g ρ σ := id rfl
theorem ifR_t {f g : EF} : ifR (.ok true) f g ρ σ = f ρ σ := id rfl
theorem ifR_f {f g : EF} : ifR (.ok false) f g ρ σ = g ρ σ := id rfl
def andW (r : Res Bool) (u : TF) (ρ : List D) (σ : Env) : Res Bool := r.bind fun c => if c = true then u ρ σ else .ok false
theorem andT_ap {t u : TF} : andT t u ρ σ = andW (t ρ σ) u ρ σ := id rfl
theorem andW_t {u : TF} : andW (.ok true) u ρ σ = u ρ σ := id rfl
theorem andW_f {u : TF} : andW (.ok false) u ρ σ = .ok false := id rfl
def orW (r : Res Bool) (u : TF) (ρ : List D) (σ : Env) : Res Bool := r.bind fun c => if c = true then .ok true else u ρ σ
theorem orT_ap {t u : TF} : orT t u ρ σ = orW (t ρ σ) u ρ σ := id rfl
theorem orW_t {u : TF} : orW (.ok true) u ρ σ = .ok true := id rfl
theorem orW_f {u : TF} : orW (.ok false) u ρ σ = u ρ σ := id rfl
theorem notT_ap {t : TF} : notT t ρ σ = (t ρ σ).bind fun c => .ok (!c) := id rfl
theorem yesT_ap : yesT ρ σ = .ok true := id rfl
def blR (r : Res D) : Res Bool := r.bind fun d => match d with
  | .bl k => .ok k
  | _ => .bad
theorem tb1_ap {f : EF} : tb1 f ρ σ = blR (f ρ σ) := id rfl
theorem blR_bl {b : Bool} : blR (.ok (.bl b)) = .ok b := id rfl
def b2R (g : List D → D → D → Option D) (ρ : List D) : Res D → Res D → Res D
  | .ok x, r => r.bind fun y => ofO (g ρ x y)
  | .exc c fs, _ => .exc c fs
  | .bad, _ => .bad
theorem bin2_ap {g : List D → D → D → Option D} {f1 f2 : EF} : bin2 g f1 f2 ρ σ = b2R g ρ (f1 ρ σ) (f2 ρ σ) := by unfold bin2 b2R; cases f1 ρ σ <;> rfl
theorem b2R_ok {g : List D → D → D → Option D} {x y : D} : b2R g ρ (.ok x) (.ok y) = ofO (g ρ x y) := id rfl
theorem un1_ap {g : List D → D → Option D} {f : EF} : un1 g f ρ σ = (f ρ σ).bind fun x => ofO (g ρ x) := id rfl
def cbR (g : List D → List D → Option D) (ρ : List D) (r : Res (List D)) : Res D := r.bind fun xs => ofO (g ρ xs)
theorem callB_ap {g : List D → List D → Option D} {f : AF} : callB g f ρ σ = cbR g ρ (f ρ σ) := id rfl
theorem cbR_ok {g : List D → List D → Option D} {xs : List D} : cbR g ρ (.ok xs) = ofO (g ρ xs) := id rfl
def chR (g h : List D → D → D → Option D) (ρ : List D) : Res D → Res D → Res D → Res D
  | .ok x, .ok y, r => (ofO (g ρ x y)).bind fun k => match k with
    | .bl c => if c = true then r.bind fun z => ofO (h ρ y z) else .ok (.bl false)
    | _ => .bad
  | .ok _, .exc c fs, _ => .exc c fs
  | .exc c fs, _, _ => .exc c fs
  | _, _, _ => .bad
theorem chainS_ap {g h : List D → D → D → Option D} {f1 f2 f3 : EF} : chainS g h f1 f2 f3 ρ σ = chR g h ρ (f1 ρ σ) (f2 ρ σ) (f3 ρ σ) := by unfold chainS chR; cases f1 ρ σ <;> cases f2 ρ σ <;> rfl
theorem chR_ok {g h : List D → D → D → Option D} {x y z : D} {a b : Bool} (h1 : g ρ x y = some (.bl a)) (h2 : h ρ y z = some (.bl b)) : chR g h ρ (.ok x) (.ok y) (.ok z) = .ok (.bl (a && b)) := by
  simp only [chR, h1, h2, ofO, Res.bind]
  cases a <;> rfl
theorem noP_ap : noP ρ σ = .ok none := id rfl
def intR (ρ : List D) (r : Res D) : Res (Option Int) := r.bind fun x => match dr ρ x with
  | .int i => .ok (some i)
  | _ => .bad
theorem someP_ap {f : EF} : someP f ρ σ = intR ρ (f ρ σ) := id rfl
theorem intR_ok {i : Int} : intR ρ (.ok (.int i)) = .ok (some i) := id rfl
def slR (ρ : List D) : Res D → Res (Option Int) → Res (Option Int) → Res D
  | .ok x, .ok l, .ok h => ofO (slD ρ x l h)
  | .exc c fs, _, _ => .exc c fs
  | .ok _, .exc c fs, _ => .exc c fs
  | .ok _, .ok _, .exc c fs => .exc c fs
  | _, _, _ => .bad
theorem slS_ap {f : EF} {lo hi : PF} : slS f lo hi ρ σ = slR ρ (f ρ σ) (lo ρ σ) (hi ρ σ) := by unfold slS slR; cases f ρ σ <;> cases lo ρ σ <;> cases hi ρ σ <;> rfl
theorem slR_ok {x : D} {l h : Option Int} : slR ρ (.ok x) (.ok l) (.ok h) = ofO (slD ρ x l h) := id rfl
def slQ (x : D) (lo hi : Option Int) : Option D := match x with
  | .lst l => some (.lst (cutL l lo hi))
  | .scr l => some (.lst (cutL l lo hi))
  | .tup l => some (.tup (cutL l lo hi))
  | .str s => if s.length ≤ 100000 then some (.str (cutS s lo hi)) else none
  | _ => none
theorem slD_ap {x : D} {l h : Option Int} : slD ρ x l h = slQ (dr ρ x) l h := id rfl
theorem slQ_lst {l : List D} {lo hi : Option Int} : slQ (.lst l) lo hi = some (.lst (cutL l lo hi)) := id rfl
theorem slQ_tup {l : List D} {lo hi : Option Int} : slQ (.tup l) lo hi = some (.tup (cutL l lo hi)) := id rfl
def meR (g : List D → Str → List D → Option D) (ρ : List D) : Res D → Res (List D) → Res D
  | .ok x, r => match dr ρ x with
    | .str s => r.bind fun xs => ofO (g ρ s xs)
    | _ => .bad
  | .exc c fs, _ => .exc c fs
  | .bad, _ => .bad
theorem methS_ap {g : List D → Str → List D → Option D} {f : EF} {fa : AF} : methS g f fa ρ σ = meR g ρ (f ρ σ) (fa ρ σ) := by unfold methS meR; cases f ρ σ <;> rfl
theorem meR_ok {g : List D → Str → List D → Option D} {s : Str} {xs : List D} : meR g ρ (.ok (.str s)) (.ok xs) = ofO (g ρ s xs) := id rfl
def calR (cl : Orc) (g : Nat) (dd : List D) (ρ : List D) : Res (List D) → Res D
  | .ok xs => match cl g (fun _ => false) ρ (xs ++ dd) with
    | .ok _ d _ => .ok d
    | .exc c fs _ => .exc c fs
    | .bad => .bad
  | .exc c fs => .exc c fs
  | .bad => .bad
def cal1 : RRes → Res D
  | .ok _ d _ => .ok d
  | .exc c fs _ => .exc c fs
  | .bad => .bad
theorem callS_ap {cl : Orc} {g : Nat} {dd : List D} {fa : AF} : callS cl g dd fa ρ σ = calR cl g dd ρ (fa ρ σ) := by unfold callS calR; cases fa ρ σ <;> rfl
theorem calR_ok {cl : Orc} {g : Nat} {dd xs : List D} : calR cl g dd ρ (.ok xs) = cal1 (cl g (fun _ => false) ρ (xs ++ dd)) := by simp only [calR, cal1]
theorem cal1_ok {fr : Bool} {d : D} : cal1 (.ok fr d ρ) = .ok d := id rfl
theorem cal1_exc {c : Nat} {fs : List D} : cal1 (.exc c fs ρ) = .exc c fs := id rfl

/-! ### comprehensions, walks -/
def lcQ : Res (List D) → Res D
  | .ok ys => .ok (.lst ys)
  | _ => .bad
def lcR (r : Res (List D × List Nat)) (g : TGF) (t : TF) (f : EF) (ρ : List D) (σ : Env) : Res D := r.bind fun p => if p.1.length ≤ 100000 then lcQ (lcL g t f ρ σ p.1) else .bad
theorem lcS_ap {fi : IF} {g : TGF} {t : TF} {f : EF} {vs : List Nat} : lcS fi g t f vs ρ σ = lcR (fi ρ σ) g t f ρ (wipeD σ vs) := by
  unfold lcS lcR
  cases fi ρ σ with
  | ok p =>
    show (if p.1.length ≤ 100000 then _ else _) = (if p.1.length ≤ 100000 then _ else _)
    split
    · cases lcL g t f ρ (wipeD σ vs) p.1 <;> rfl
    · rfl
  | exc c fs => rfl
  | bad => rfl
theorem lcR_ok {l : List D} {lk : List Nat} {g : TGF} {t : TF} {f : EF} (h : l.length ≤ 100000) : lcR (.ok (l, lk)) g t f ρ σ = lcQ (lcL g t f ρ σ l) := if_pos h
theorem lcQ_ok {ys : List D} : lcQ (.ok ys) = .ok (.lst ys) := id rfl
theorem lcL_nil {g : TGF} {t : TF} {f : EF} : lcL g t f ρ σ [] = .ok [] := id rfl
def lcZ : Res D → Res (List D) → Res (List D)
  | .ok y, r => r.bind fun ys => .ok (y :: ys)
  | .exc c fs, _ => .exc c fs
  | .bad, _ => .bad
def lcY (o : Option Env) (f : EF) (ρ : List D) (r : Res (List D)) : Res (List D) := match o with
  | none => .bad
  | some σ1 => lcZ (f ρ σ1) r
theorem lcL_yes {g : TGF} {f : EF} {d : D} {ds : List D} : lcL g yesT f ρ σ (d :: ds) = lcY (g ρ d σ) f ρ (lcL g yesT f ρ σ ds) := by
  simp only [lcL, lcY, yesT]
  cases g ρ d σ with
  | none => rfl
  | some σ1 =>
    show (f ρ σ1).bind _ = lcZ (f ρ σ1) _
    cases f ρ σ1 <;> rfl
theorem lcY_ok {f : EF} {r : Res (List D)} : lcY (some σ) f ρ r = lcZ (f ρ σ) r := id rfl
theorem lcZ_ok {y : D} {ys : List D} : lcZ (.ok y) (.ok ys) = .ok (y :: ys) := id rfl
/-- a comprehension without a test, by what one round gives -/
theorem lc_map {γ : Type} {g : TGF} {f : EF} {mk r : γ → D} : ∀ (xs : List γ), (∀ x ∈ xs, ∃ σ1, g ρ (mk x) σ = some σ1 ∧ f ρ σ1 = .ok (r x)) → lcL g yesT f ρ σ (xs.map mk) = .ok (xs.map r)
  | [], _ => rfl
  | x :: xs, h => by
    obtain ⟨σ1, h1, h2⟩ := h x (List.mem_cons_self ..)
    rw [map_c, lcL_yes, h1, lcY_ok, h2, lc_map xs fun y hy => h y (List.mem_cons_of_mem _ hy), lcZ_ok, map_c]
/-- the same with a relation: there are values -/
theorem lc_ex {γ : Type} {g : TGF} {f : EF} {mk : γ → D} {R : γ → D → Prop} : ∀ (xs : List γ), (∀ x ∈ xs, ∃ σ1 d, g ρ (mk x) σ = some σ1 ∧ f ρ σ1 = .ok d ∧ R x d) → ∃ ys, lcL g yesT f ρ σ (xs.map mk) = .ok ys ∧ ys.length = xs.length ∧ ∀ (i : Nat) (x : γ), xs[i]? = some x → ∃ d, ys[i]? = some d ∧ R x d
  | [], _ => ⟨[], rfl, rfl, fun i x h => by simp at h⟩
  | x :: xs, h => by
    obtain ⟨σ1, d, h1, h2, h3⟩ := h x (List.mem_cons_self ..)
    obtain ⟨ys, e, hl, hy⟩ := lc_ex xs fun y hy => h y (List.mem_cons_of_mem _ hy)
    refine ⟨d :: ys, by rw [map_c, lcL_yes, h1, lcY_ok, h2, e, lcZ_ok], by simp [hl], fun i z hz => ?_⟩
    cases i with
    | zero => simp at hz; subst hz; exact ⟨d, rfl, h3⟩
    | succ i => simpa using hy i z (by simpa using hz)
def itR (ρ : List D) (r : Res D) : Res (List D × List Nat) := r.bind fun d => match dr ρ d with
  | .lst l => .ok (l, lockD d)
  | .scr l => .ok (l, lockD d)
  | .tup l => .ok (l, [])
  | .str s => .ok (s.cps.toList.map fun c => .str ⟨#[c]⟩, [])
  | _ => .bad
theorem itI_ap {f : EF} : itI f ρ σ = itR ρ (f ρ σ) := id rfl
theorem itR_lst {l : List D} : itR ρ (.ok (.lst l)) = .ok (l, []) := id rfl
theorem itR_scr {l : List D} : itR ρ (.ok (.scr l)) = .ok (l, []) := id rfl
theorem itR_tup {l : List D} : itR ρ (.ok (.tup l)) = .ok (l, []) := id rfl
theorem itR_str {s : Str} : itR ρ (.ok (.str s)) = .ok (s.cps.toList.map fun c => .str ⟨#[c]⟩, []) := id rfl
theorem itR_rt {r : Nat} {l : List D} (h : dr ρ (.rt r) = .lst l) : itR ρ (.ok (.rt r)) = .ok (l, [r]) := by simp only [itR, Res.bind, h, lockD]
def rn1R (ρ : List D) (r : Res D) : Res (List D × List Nat) := r.bind fun d => match dr ρ d with
  | .int j => if -(2 ^ 62) ≤ j ∧ j < 2 ^ 62 then .ok (rngL 0 j.toNat, []) else .bad
  | _ => .bad
theorem rng1I_ap {f : EF} : rng1I f ρ σ = rn1R ρ (f ρ σ) := id rfl
theorem rn1R_ok {j : Int} (h : -1000000 ≤ j) (h2 : j ≤ 1000000) : rn1R ρ (.ok (.int j)) = .ok (rngL 0 j.toNat, []) := by
  show (if -(2 ^ 62) ≤ j ∧ j < 2 ^ 62 then _ else _) = _
  rw [if_pos (by omega)]
def rn3R (ρ : List D) : Res D → Res D → Res D → Res (List D × List Nat)
  | .ok x, .ok y, .ok z => match dr ρ x, dr ρ y, dr ρ z with
    | .int i, .int j, .int c => if c ≠ 0 ∧ c.natAbs < 1073741824 ∧ Builtin.Range.small i j c = true ∧ 0 ≤ Builtin.Range.rangeSize i j c then .ok (rng3L i c (Builtin.Range.rangeSize i j c).toNat, []) else .bad
    | _, _, _ => .bad
  | .exc c fs, _, _ => .exc c fs
  | .ok _, .exc c fs, _ => .exc c fs
  | .ok _, .ok _, .exc c fs => .exc c fs
  | _, _, _ => .bad
theorem rng3I_ap {f g h : EF} : rng3I f g h ρ σ = rn3R ρ (f ρ σ) (g ρ σ) (h ρ σ) := by unfold rng3I rn3R; cases f ρ σ <;> cases g ρ σ <;> cases h ρ σ <;> rfl
theorem rn3R_up {i j c : Int} (hc : 0 < c) (hc2 : c ≤ 1000) (h1 : -1000000 ≤ i) (h2 : i ≤ 1000000) (h3 : -1000000 ≤ j) (h4 : j ≤ 1000000) : rn3R ρ (.ok (.int i)) (.ok (.int j)) (.ok (.int c)) = .ok (rng3L i c (Builtin.Range.rangeSize i j c).toNat, []) := by
  have hs : 0 ≤ Builtin.Range.rangeSize i j c ∧ Builtin.Range.rangeSize i j c ≤ 3000000 := by
    unfold Builtin.Range.rangeSize
    rw [if_pos hc]
    split
    · have h5 : 0 ≤ (j - i - 1) / c := Int.ediv_nonneg (by omega) (by omega)
      have h6 : (j - i - 1) / c ≤ j - i - 1 := Int.ediv_le_self _ (by omega)
      omega
    · omega
  show (if c ≠ 0 ∧ c.natAbs < 1073741824 ∧ Builtin.Range.small i j c = true ∧ 0 ≤ Builtin.Range.rangeSize i j c then _ else _) = _
  rw [if_pos]
  refine ⟨by omega, by omega, ?_, hs.1⟩
  unfold Builtin.Range.small Builtin.Range.rangeFitsLong
  simp only [Bool.and_eq_true, Bool.or_eq_true, decide_eq_true_eq, beq_iff_eq]
  refine ⟨⟨⟨⟨by omega, by omega⟩, by omega⟩, by omega⟩, .inr ?_⟩
  rw [if_pos hc]
  simp only [Bool.and_eq_true, decide_eq_true_eq]
  omega
def zpR (ρ : List D) : Res D → Res D → Res (List D × List Nat)
  | .ok x, .ok y => match tupD (dr ρ x), tupD (dr ρ y) with
    | some l, some m => .ok (zipL l m, [])
    | _, _ => match seqD (dr ρ x), seqD (dr ρ y) with
      | some l, some m => .ok (zipL l m, lockD x ++ lockD y)
      | _, _ => .bad
  | .exc c fs, _ => .exc c fs
  | .ok _, .exc c fs => .exc c fs
  | _, _ => .bad
theorem zipI_ap {f g : EF} : zipI f g ρ σ = zpR ρ (f ρ σ) (g ρ σ) := by unfold zipI zpR; cases f ρ σ <;> cases g ρ σ <;> rfl
theorem zpR_lst {l m : List D} : zpR ρ (.ok (.lst l)) (.ok (.lst m)) = .ok (zipL l m, []) := id rfl
theorem zpR_tup {l m : List D} : zpR ρ (.ok (.tup l)) (.ok (.tup m)) = .ok (zipL l m, []) := id rfl

/-! ### targets -/
theorem nameG_ap {i : Nat} {d : D} : nameG i ρ d σ = some (σ.set i (some d)) := id rfl
theorem nilG_ap : nilG ρ [] σ = some σ := id rfl
def cgR (o : Option Env) (h : List D → List D → Env → Option Env) (ρ ds : List D) : Option Env := o.bind fun σ' => h ρ ds σ'
theorem consG_ap {g : TGF} {h : List D → List D → Env → Option Env} {d : D} {ds : List D} : consG g h ρ (d :: ds) σ = cgR (g ρ d σ) h ρ ds := id rfl
theorem cgR_ok {h : List D → List D → Env → Option Env} {ds : List D} : cgR (some σ) h ρ ds = h ρ ds σ := id rfl
theorem tupG_2 {h : List D → List D → Env → Option Env} {a b : D} : tupG 2 h ρ (.tup [a, b]) σ = h ρ [a, b] σ := id rfl
theorem tupG_3 {h : List D → List D → Env → Option Env} {a b c : D} : tupG 3 h ρ (.tup [a, b, c]) σ = h ρ [a, b, c] σ := id rfl

/-! ### statements -/
def sqR (o : Out) (t : List D → Env → Out) : Out := match o with
  | .nx ρ' σ' => t ρ' σ'
  | o => o
theorem seqS_ap {s t : SF} : seqS s t mu ρ σ = sqR (s mu ρ σ) (t mu) := id rfl
theorem sqR_nx {t : List D → Env → Out} : sqR (.nx ρ σ) t = t ρ σ := id rfl
theorem sqR_ret {t : List D → Env → Out} {fr : Bool} {d : D} : sqR (.ret fr d ρ) t = .ret fr d ρ := id rfl
theorem sqR_exc {t : List D → Env → Out} {c : Nat} {fs : List D} : sqR (.exc c fs ρ σ) t = .exc c fs ρ σ := id rfl
theorem passS_ap : passS mu ρ σ = .nx ρ σ := id rfl
def reR (fr : Bool) (r : Res D) (ρ : List D) (σ : Env) : Out := withE r ρ σ fun d => .ret fr d ρ
theorem retS_ap {f : EF} : retS f mu ρ σ = reR false (f ρ σ) ρ σ := id rfl
theorem retF_ap {f : EF} : retF f mu ρ σ = reR true (f ρ σ) ρ σ := id rfl
theorem reR_ok {fr : Bool} {d : D} : reR fr (.ok d) ρ σ = .ret fr d ρ := id rfl
theorem reR_exc {fr : Bool} {c : Nat} {fs : List D} : reR fr (.exc c fs) ρ σ = .exc c fs ρ σ := id rfl
def agR (o : Option Env) (ρ : List D) : Out := match o with
  | some σ' => .nx ρ σ'
  | none => .bad
def asR (r : Res D) (g : TGF) (ρ : List D) (σ : Env) : Out := withE r ρ σ fun d => match g ρ d σ with
  | some σ' => .nx ρ σ'
  | none => .bad
theorem asgS_ap {f : EF} {g : TGF} : asgS f g mu ρ σ = asR (f ρ σ) g ρ σ := id rfl
theorem asR_ok {g : TGF} {d : D} : asR (.ok d) g ρ σ = agR (g ρ d σ) ρ := id rfl
theorem asR_exc {g : TGF} {c : Nat} {fs : List D} : asR (.exc c fs) g ρ σ = .exc c fs ρ σ := id rfl
theorem agR_ok : agR (some σ) ρ = .nx ρ σ := id rfl
def owR (r : Res D) (i : Nat) (ρ : List D) (σ : Env) : Out := withE r ρ σ fun d => .nx (ρ ++ [d]) (σ.set i (some (.rt ρ.length)))
theorem ownS_ap {i : Nat} {f : EF} : ownS i f mu ρ σ = owR (f ρ σ) i ρ σ := id rfl
theorem owR_ok {i : Nat} {d : D} : owR (.ok d) i ρ σ = .nx (ρ ++ [d]) (σ.set i (some (.rt ρ.length))) := id rfl
def ifO (r : Res Bool) (s u : SF) (mu : Nat → Bool) (ρ : List D) (σ : Env) : Out := withE r ρ σ fun c => if c = true then s mu ρ σ else u mu ρ σ
theorem iffS_ap {t : TF} {s u : SF} : iffS t s u mu ρ σ = ifO (t ρ σ) s u mu ρ σ := id rfl
theorem ifO_t {s u : SF} : ifO (.ok true) s u mu ρ σ = s mu ρ σ := id rfl
theorem ifO_f {s u : SF} : ifO (.ok false) s u mu ρ σ = u mu ρ σ := id rfl
theorem ifO_exc {s u : SF} {c : Nat} {fs : List D} : ifO (.exc c fs) s u mu ρ σ = .exc c fs ρ σ := id rfl
def exR (r : Res D) (ρ : List D) (σ : Env) : Out := withE r ρ σ fun _ => .nx ρ σ
theorem expS_ap {f : EF} : expS f mu ρ σ = exR (f ρ σ) ρ σ := id rfl
theorem exR_ok {d : D} : exR (.ok d) ρ σ = .nx ρ σ := id rfl
theorem exR_exc {c : Nat} {fs : List D} : exR (.exc c fs) ρ σ = .exc c fs ρ σ := id rfl
def foR (r : Res (List D × List Nat)) (g : TGF) (body : SF) (mu : Nat → Bool) (ρ : List D) (σ : Env) : Out := withE r ρ σ fun p => forL g body (fun r => mu r && !p.2.contains r) p.1 ρ σ
theorem forS_ap {f : IF} {g : TGF} {body : SF} : forS f g body mu ρ σ = foR (f ρ σ) g body mu ρ σ := id rfl
theorem foR_ok {l : List D} {lk : List Nat} {g : TGF} {body : SF} : foR (.ok (l, lk)) g body mu ρ σ = forL g body (fun r => mu r && !lk.contains r) l ρ σ := id rfl
theorem forL_nil {g : TGF} {body : SF} : forL g body mu [] ρ σ = .nx ρ σ := id rfl
def flB (o : Out) (k : List D → Env → Out) : Out := match o with
  | .nx ρ' σ' => k ρ' σ'
  | .ct ρ' σ' => k ρ' σ'
  | .brk ρ' σ' => .nx ρ' σ'
  | .ret fr d ρ' => .ret fr d ρ'
  | .exc c fs ρ' σ' => .exc c fs ρ' σ'
  | .bad => .bad
def flA (o : Option Env) (body : SF) (mu : Nat → Bool) (ρ : List D) (k : List D → Env → Out) : Out := match o with
  | none => .bad
  | some σ1 => flB (body mu ρ σ1) k
theorem forL_cons {g : TGF} {body : SF} {d : D} {ds : List D} : forL g body mu (d :: ds) ρ σ = flA (g ρ d σ) body mu ρ (forL g body mu ds) := by
  simp only [forL, flA]
  cases g ρ d σ with
  | none => rfl
  | some σ1 => show (match body mu ρ σ1 with | .nx ρ' σ' => _ | .ct ρ' σ' => _ | .brk ρ' σ' => _ | .ret fr d ρ' => _ | .exc c fs ρ' σ' => _ | .bad => _) = flB (body mu ρ σ1) _; cases body mu ρ σ1 <;> rfl
theorem flA_ok {body : SF} {k : List D → Env → Out} : flA (some σ) body mu ρ k = flB (body mu ρ σ) k := id rfl
theorem flB_nx {k : List D → Env → Out} : flB (.nx ρ σ) k = k ρ σ := id rfl
/-- a loop that goes to its end, by what holds ahead of each round -/
theorem forL_at {g : TGF} {body : SF} {l : List D} (P : Nat → List D → Env → Prop) (h0 : P 0 ρ σ) (step : ∀ (i : Nat) (d : D) (ρ : List D) (σ : Env), l[i]? = some d → P i ρ σ → ∃ σ1 ρ' σ', g ρ d σ = some σ1 ∧ body mu ρ σ1 = .nx ρ' σ' ∧ P (i + 1) ρ' σ') :
    ∃ ρ' σ', forL g body mu l ρ σ = .nx ρ' σ' ∧ P l.length ρ' σ' := by
  have gen : ∀ (k : Nat) (m : List D) (ρ : List D) (σ : Env), l.drop k = m → P k ρ σ → ∃ ρ' σ', forL g body mu m ρ σ = .nx ρ' σ' ∧ P (k + m.length) ρ' σ' := by
    intro k m
    induction m generalizing k with
    | nil => intro ρ σ hd hp; exact ⟨ρ, σ, rfl, hp⟩
    | cons d m ih =>
      intro ρ σ hd hp
      have hg : l[k]? = some d := by
        have := congrArg (fun z => z[0]?) hd
        simpa using this
      obtain ⟨σ1, ρ', σ', e1, e2, e3⟩ := step k d ρ σ hg hp
      have hd' : l.drop (k + 1) = m := by rw [← List.drop_drop, hd]; rfl
      obtain ⟨ρ2, σ2, e4, e5⟩ := ih (k + 1) ρ' σ' hd' e3
      refine ⟨ρ2, σ2, ?_, ?_⟩
      · rw [forL_cons, e1, flA_ok, e2, flB_nx, e4]
      · rw [List.length_cons, show k + (m.length + 1) = k + 1 + m.length by omega]; exact e5
  simpa using gen 0 l ρ σ rfl h0
def apR (r : Res D) (g : Res D) (mu : Nat → Bool) (ρ : List D) (σ : Env) : Out := withE r ρ σ fun x => match x with
  | .rt r => match ρ[r]? with
    | some (.lst l) => withE g ρ σ fun y => if mu r = true ∧ l.length < 100000 then .nx (ρ.set r (.lst (l ++ [y]))) σ else .bad
    | _ => .bad
  | _ => .bad
theorem appS_ap {f g : EF} : appS f g mu ρ σ = apR (f ρ σ) (g ρ σ) mu ρ σ := id rfl
theorem apR_ok {r : Nat} {l : List D} {y : D} (h : ρ[r]? = some (.lst l)) (hm : mu r = true) (hl : l.length < 100000) : apR (.ok (.rt r)) (.ok y) mu ρ σ = .nx (ρ.set r (.lst (l ++ [y]))) σ := by
  show (match ρ[r]? with | some (.lst l) => withE (.ok y) ρ σ fun y => if mu r = true ∧ l.length < 100000 then Out.nx (ρ.set r (.lst (l ++ [y]))) σ else .bad | _ => .bad) = _
  rw [h]
  exact if_pos ⟨hm, hl⟩
theorem apR_last {l : List D} {y : D} (hm : mu ρ.length = true) (hl : l.length < 100000) : apR (.ok (.rt ρ.length)) (.ok y) mu (ρ ++ [.lst l]) σ = .nx (ρ ++ [.lst (l ++ [y])]) σ := by
  rw [apR_ok (l := l) (by simp) hm hl]
  congr 1
  simp
theorem raiS_ap {c : Nat} : raiS c mu ρ σ = .exc c [] ρ σ := id rfl
def raR (c : Nat) (r : Res D) (ρ : List D) (σ : Env) : Out := withE r ρ σ fun x => if excArg x = true then .exc c [x] ρ σ else .bad
theorem rai1S_ap {c : Nat} {f : EF} : rai1S c f mu ρ σ = raR c (f ρ σ) ρ σ := id rfl
theorem raR_int {c : Nat} {i : Int} (h : i.natAbs.log2 < 1920) : raR c (.ok (.int i)) ρ σ = .exc c [.int i] ρ σ := by
  show (if decide (i.natAbs.log2 < 1920) = true then _ else _) = _
  rw [if_pos (by simpa using h)]
def trR (ise : Nat → Bool) (sub : Nat → Nat → Bool) (o : Out) (hs : List Hd) : Out := match o with
  | .exc c fs ρ' σ' => handleS ise sub hs c fs ρ' σ'
  | o => o
theorem tryS_ap {ise : Nat → Bool} {sub : Nat → Nat → Bool} {b : SF} {hs : List Hd} : tryS ise sub b hs mu ρ σ = trR ise sub (b mu ρ σ) hs := id rfl
theorem trR_nx {ise : Nat → Bool} {sub : Nat → Nat → Bool} {hs : List Hd} : trR ise sub (.nx ρ σ) hs = .nx ρ σ := id rfl
theorem trR_ret {ise : Nat → Bool} {sub : Nat → Nat → Bool} {hs : List Hd} {fr : Bool} {d : D} : trR ise sub (.ret fr d ρ) hs = .ret fr d ρ := id rfl
theorem trR_exc {ise : Nat → Bool} {sub : Nat → Nat → Bool} {hs : List Hd} {c : Nat} {fs : List D} : trR ise sub (.exc c fs ρ σ) hs = handleS ise sub hs c fs ρ σ := id rfl
def stR (n : Nat) (r : Res D) (h : List D → List D → Env → Option Env) (ρ : List D) (σ : Env) : Out := withE r ρ σ fun d => match seqD (dr ρ d) with
  | some l => if n ≤ l.length then match h ρ (l.take n ++ [.lst (l.drop n)]) σ with
      | some σ' => .nx ρ σ'
      | none => .bad
    else .bad
  | none => .bad
theorem starS_ap {n : Nat} {f : EF} {h : List D → List D → Env → Option Env} : starS n f h mu ρ σ = stR n (f ρ σ) h ρ σ := id rfl
theorem stR_1 {h : List D → List D → Env → Option Env} {x : D} {l : List D} : stR 1 (.ok (.lst (x :: l))) h ρ σ = agR (h ρ [x, .lst l] σ) ρ := by
  simp only [stR, withE, dr, seqD]
  rw [if_pos (by simp)]
  simp only [List.take_succ_cons, List.take_zero, List.drop_succ_cons, List.drop_zero, app_c, app_n]
  unfold agR
  rfl
end

/-! ### data -/
section
variable {ρ ρ' : List D} {σ σ' : Env}
theorem dr_int {i : Int} : dr ρ (.int i) = .int i := id rfl
theorem dr_str {i : Str} : dr ρ (.str i) = .str i := id rfl
theorem dr_bl {i : Bool} : dr ρ (.bl i) = .bl i := id rfl
theorem dr_non : dr ρ .non = .non := id rfl
theorem dr_tup {l : List D} : dr ρ (.tup l) = .tup l := id rfl
theorem dr_lst {l : List D} : dr ρ (.lst l) = .lst l := id rfl
theorem dr_scr {l : List D} : dr ρ (.scr l) = .scr l := id rfl
theorem dr_wd {ks : List Str} {l : List D} : dr ρ (.wd ks l) = .wd ks l := id rfl
theorem dr_exn {c : Nat} {l : List D} : dr ρ (.exn c l) = .exn c l := id rfl
theorem dr_last {d : D} (h : ∀ r, d ≠ .rt r) : dr (ρ ++ [d]) (.rt ρ.length) = d := by simp [dr]
theorem dr_lstR {l : List D} : dr (ρ ++ [.lst l]) (.rt ρ.length) = .lst l := by simp [dr]
theorem get_last {d : D} : (ρ ++ [d])[ρ.length]? = some d := by simp
theorem set_last {d e : D} : (ρ ++ [d]).set ρ.length e = ρ ++ [e] := by simp

def addQ (x y : D) : Option D := match x, y with
  | .int i, .int j => some (.int (i + j))
  | .str s, .str t => if s.length + t.length ≤ 100000 then some (.str (s ++ t)) else none
  | .lst l, .lst m => if l.length + m.length ≤ 100000 then some (.lst (l ++ m)) else none
  | .tup l, .tup m => if l.length + m.length ≤ 100000 then some (.tup (l ++ m)) else none
  | _, _ => none
theorem addD_ap {x y : D} : addD ρ x y = addQ (dr ρ x) (dr ρ y) := id rfl
theorem addQ_int {i j : Int} : addQ (.int i) (.int j) = some (.int (i + j)) := id rfl
theorem addQ_str {s t : Str} (h : s.length + t.length ≤ 100000) : addQ (.str s) (.str t) = some (.str (s ++ t)) := if_pos h
theorem addQ_lst {s t : List D} (h : s.length + t.length ≤ 100000) : addQ (.lst s) (.lst t) = some (.lst (s ++ t)) := if_pos h
theorem addQ_tup {s t : List D} (h : s.length + t.length ≤ 100000) : addQ (.tup s) (.tup t) = some (.tup (s ++ t)) := if_pos h
theorem subD_int {i j : Int} : subD ρ (.int i) (.int j) = some (.int (i - j)) := id rfl
theorem negD_int {i : Int} : negD ρ (.int i) = some (.int (-i)) := id rfl
theorem mulD_int {i j : Int} (h : (-(2 ^ 64) < i ∧ i < 2 ^ 64) ∨ (-(2 ^ 64) < j ∧ j < 2 ^ 64)) : mulD ρ (.int i) (.int j) = some (.int (i * j)) := if_pos h
def mulQ (x y : D) : Option D := match x, y with
  | .lst l, .int k => if -1000 ≤ k ∧ k ≤ 1000 ∧ l.length ≤ 100 then some (.lst (List.replicate k.toNat l).flatten) else none
  | _, _ => none
theorem mulD_lst {l : List D} {k : Int} (h1 : -1000 ≤ k) (h2 : k ≤ 1000) (h3 : l.length ≤ 100) : mulD ρ (.lst l) (.int k) = some (.lst (List.replicate k.toNat l).flatten) := if_pos ⟨h1, h2, h3⟩
theorem fdivD_int {i j : Int} (h1 : 0 < j) (h2 : j < 1073741824) : fdivD ρ (.int i) (.int j) = some (.int (i / j)) := if_pos ⟨h1, h2⟩
theorem modD_int {i j : Int} (h1 : 0 < j) : modD ρ (.int i) (.int j) = some (.int (i % j)) := if_pos h1
theorem powD_int {i j : Int} (h1 : 0 ≤ j) (h2 : j ≤ 1000000) (h3 : i.natAbs < 2 ^ 64) : powD ρ (.int i) (.int j) = some (.int (i ^ j.toNat)) := if_pos ⟨h1, h2, h3⟩
theorem ltD_int {i j : Int} : ordD (fun i j => decide (i < j)) ρ (.int i) (.int j) = some (.bl (decide (i < j))) := id rfl
theorem leD_int {i j : Int} : ordD (fun i j => decide (i ≤ j)) ρ (.int i) (.int j) = some (.bl (decide (i ≤ j))) := id rfl
theorem gtD_int {i j : Int} : ordD (fun i j => decide (j < i)) ρ (.int i) (.int j) = some (.bl (decide (j < i))) := id rfl
theorem geD_int {i j : Int} : ordD (fun i j => decide (j ≤ i)) ρ (.int i) (.int j) = some (.bl (decide (j ≤ i))) := id rfl
theorem isn_lst {l : List D} : isnD ρ (.lst l) .non = some (.bl false) := id rfl
theorem isn_non : isnD ρ .non .non = some (.bl true) := id rfl
/-- a text that compares -/
abbrev sOk (s : Str) : Prop := PyData.strOk s = true
theorem shaped_str {s : Str} (h : sOk s) : SeqAt.shaped (.str s) = true := by
  have h' : PyData.strOk s = true := h
  simp only [SeqAt.shaped, PyData.canLay0, PyData.depth, h']; rfl
theorem shaped_int {i : Int} : SeqAt.shaped (.int i) = true := by simp only [SeqAt.shaped, PyData.canLay0, PyData.depth]; rfl
theorem eqB_str {s t : Str} (h1 : sOk s) (h2 : sOk t) : eqB ρ (.str s) (.str t) = some (decide (s = t)) := by
  simp only [eqB, dr, toPy, Option.bind_some, shaped_str h1, shaped_str h2, and_self, if_true, PyData.eqv]
  rfl
theorem eqB_int {i j : Int} : eqB ρ (.int i) (.int j) = some (decide (i = j)) := by
  simp only [eqB, dr, toPy, Option.bind_some, shaped_int, and_self, if_true, PyData.eqv]
  rfl
theorem eqD_ap {x y : D} : eqD ρ x y = (eqB ρ x y).map .bl := id rfl
theorem neD_ap {x y : D} : neD ρ x y = (eqB ρ x y).map fun b => .bl (!b) := id rfl
theorem toPyL_strs : ∀ ss : List Str, toPyL (ss.map .str) = some (ss.map .str)
  | [] => rfl
  | s :: ss => by simp only [List.map, toPyL, toPy, toPyL_strs ss, Option.bind_some, Option.map_some]
theorem depthAll_strs : ∀ ss : List Str, PyData.depthAll (ss.map .str) = 0
  | [] => by simp only [List.map, PyData.depthAll]
  | s :: ss => by simp only [List.map, PyData.depthAll, PyData.depth, depthAll_strs ss, Nat.max_self]
theorem canLay_strs : ∀ {ss : List Str}, (∀ s ∈ ss, sOk s) → PyData.canLayAll0 (ss.map .str) = true
  | [], _ => by simp only [List.map, PyData.canLayAll0]
  | s :: ss, h => by
    have h' : PyData.strOk s = true := h s (List.mem_cons_self ..)
    simp only [List.map, PyData.canLayAll0, PyData.canLay0, h', canLay_strs (fun t ht => h t (List.mem_cons_of_mem _ ht)), Bool.and_self]
theorem any_strs {x : Str} : ∀ ss : List Str, ((ss.map PyData.str).any fun z => PyData.eqv z (.str x)) = decide (x ∈ ss)
  | [] => by simp
  | s :: ss => by
    rw [List.map_cons, List.any_cons, any_strs ss]
    simp only [PyData.eqv, List.mem_cons]
    by_cases e : x = s
    · subst e; simp
    · have : (s == x) = false := by simpa using fun z => e z.symm
      rw [this, Bool.false_or]; simp [e]
theorem inB_lst {x : Str} {ss : List Str} (h : sOk x) (hs : ∀ s ∈ ss, sOk s) : inB ρ (.str x) (.lst (ss.map .str)) = some (decide (x ∈ ss)) := by
  have e : SeqAt.shaped (.list (ss.map PyData.str)) = true := by simp only [SeqAt.shaped, PyData.canLay0, PyData.depth, canLay_strs hs, depthAll_strs]; rfl
  simp only [inB, dr, toPy, toPyL_strs, Option.bind_some, shaped_str h, e, and_self, if_true, any_strs]
theorem inB_tup {x : Str} {ss : List Str} (h : sOk x) (hs : ∀ s ∈ ss, sOk s) : inB ρ (.str x) (.tup (ss.map .str)) = some (decide (x ∈ ss)) := by
  have e : SeqAt.shaped (.tuple (ss.map PyData.str)) = true := by simp only [SeqAt.shaped, PyData.canLay0, PyData.depth, canLay_strs hs, depthAll_strs]; rfl
  simp only [inB, dr, toPy, toPyL_strs, Option.bind_some, shaped_str h, e, and_self, if_true, any_strs]
theorem inB_wd {x : Str} {ks : List Str} {l : List D} : inB ρ (.str x) (.wd ks l) = some (lookW ks l x).isSome := id rfl
theorem inB_chr {c : Nat} {z : Str} : inB ρ (.str ⟨#[c]⟩) (.str z) = some (decide (c ∈ z.cps.toList)) := by
  simp only [inB, dr]
  rw [if_pos (by rfl)]
  rfl
theorem inD_ap {x y : D} : inD ρ x y = (inB ρ x y).map .bl := id rfl
theorem ninD_ap {x y : D} : ninD ρ x y = (inB ρ x y).map fun b => .bl (!b) := id rfl
theorem omap_some {α β : Type} {f : α → β} {a : α} : Option.map f (some a) = some (f a) := id rfl
theorem look_n {j : Str} : lookW [] [] j = none := id rfl
theorem look_c {k j : Str} {ks : List Str} {d : D} {l : List D} : lookW (k :: ks) (d :: l) j = if k = j then some d else lookW ks l j := id rfl
def ixQ (x y : D) : Option D := match x with
  | .lst l => match y with
    | .int i => atI l i
    | _ => none
  | .scr l => match y with
    | .int i => atI l i
    | _ => none
  | .tup l => match y with
    | .int i => atI l i
    | _ => none
  | .str z => match y with
    | .int i => if z.length ≤ 100000 then (atI z.cps.toList i).map fun c => .str ⟨#[c]⟩ else none
    | _ => none
  | .dct ks l => (keyD y).bind fun k => lookK ks l k
  | .wd ks l => match y with
    | .str s => lookW ks l s
    | _ => none
  | _ => none
theorem ixD_ap {x y : D} : ixD ρ x y = ixQ (dr ρ x) (dr ρ y) := id rfl
theorem ixQ_lst {l : List D} {i : Int} : ixQ (.lst l) (.int i) = atI l i := id rfl
theorem ixQ_tup {l : List D} {i : Int} : ixQ (.tup l) (.int i) = atI l i := id rfl
theorem ixQ_scr {l : List D} {i : Int} : ixQ (.scr l) (.int i) = atI l i := id rfl
theorem ixQ_wd {ks : List Str} {l : List D} {s : Str} : ixQ (.wd ks l) (.str s) = lookW ks l s := id rfl
theorem ixQ_str {z : Str} {i : Int} (h : z.length ≤ 100000) : ixQ (.str z) (.int i) = (atI z.cps.toList i).map fun c => .str ⟨#[c]⟩ := if_pos h
theorem at_nat {α : Type} {l : List α} {n : Nat} {x : α} (h : l[n]? = some x) : atI l (n : Int) = some x := by
  have hl := (List.getElem?_eq_some_iff.mp h).1
  simp only [atI, ixN]
  rw [if_pos (by omega), if_pos (by omega)]
  simpa using h
theorem at_0 {α : Type} {l : List α} {x : α} : atI (x :: l) 0 = some x := at_nat (n := 0) rfl
theorem at_last {α : Type} {l : List α} {x : α} : atI (l ++ [x]) (-1) = some x := by
  have e : ixN (l ++ [x]).length (-1) = some l.length := by
    unfold ixN
    rw [if_neg (by omega), List.length_append, List.length_singleton, if_pos (by omega)]
    congr 1
    omega
  unfold atI
  rw [e]
  simp
theorem at_p {α : Type} {l : List α} {i : Int} (h0 : 0 ≤ i) (h1 : i < l.length) : atI l i = l[i.toNat]? := by
  have : i.toNat < l.length := by omega
  rw [List.getElem?_eq_getElem this]
  have := at_nat (l := l) (n := i.toNat) (List.getElem?_eq_getElem this)
  rwa [Int.toNat_of_nonneg h0] at this
theorem at_m1 {α : Type} {x : α} : atI [x] (-1) = some x := at_last (l := [])
theorem at_m1c {α : Type} {x y : α} {l : List α} : atI (x :: y :: l) (-1) = atI (y :: l) (-1) := by
  have h : ∀ (z : α) (m : List α), atI (z :: m) (-1) = (z :: m).getLast? := by
    intro z m
    have e := List.dropLast_concat_getLast (l := z :: m) (by simp)
    generalize (z :: m).dropLast = a at e
    generalize (z :: m).getLast _ = b at e
    rw [← e, at_last, List.getLast?_concat]
  rw [h, h, List.getLast?_cons_cons]
theorem at_get {α : Type} {l : List α} {i : Int} (h0 : 0 ≤ i) (h1 : i < l.length) : ∃ x, atI l i = some x ∧ l[i.toNat]? = some x := by
  have : i.toNat < l.length := by omega
  refine ⟨l[i.toNat], ?_, List.getElem?_eq_getElem this⟩
  have := at_nat (l := l) (n := i.toNat) (List.getElem?_eq_getElem this)
  rwa [Int.toNat_of_nonneg h0] at this
def lenQ : D → Option D
  | .lst l => some (.int l.length)
  | .scr l => some (.int l.length)
  | .tup l => some (.int l.length)
  | .str s => if s.length ≤ 100000 then some (.int s.length) else none
  | .dct ks _ => some (.int ks.length)
  | _ => none
theorem lenD_ap {d : D} : lenD ρ [d] = lenQ (dr ρ d) := id rfl
theorem lenQ_lst {l : List D} : lenQ (.lst l) = some (.int l.length) := id rfl
theorem lenQ_scr {l : List D} : lenQ (.scr l) = some (.int l.length) := id rfl
theorem lenQ_tup {l : List D} : lenQ (.tup l) = some (.int l.length) := id rfl
theorem lenQ_str {s : Str} (h : s.length ≤ 100000) : lenQ (.str s) = some (.int s.length) := if_pos h
theorem intC_int {i : Int} : intC ρ [.int i] = some (.int i) := id rfl
theorem intC_str {s : Str} {n : Int} (h : s.length ≤ 640) (e : PySem.intText? s = some n) : intC ρ [.str s] = some (.int n) := by
  show (if s.length ≤ 640 then (PySem.intText? s).map D.int else none) = _
  rw [if_pos h, e]; rfl
theorem strC_str {s : Str} : strC ρ [.str s] = some (.str s) := id rfl
theorem strC_int {i : Int} (h : i.natAbs.log2 < 1920) : strC ρ [.int i] = some (D.str ((toString i : String) : Str)) := if_pos h
theorem blsD_map {γ : Type} {f : γ → Bool} : ∀ l : List γ, blsD (l.map fun x => .bl (f x)) = some (l.map f)
  | [] => rfl
  | x :: l => by simp only [List.map, blsD, blsD_map l, Option.map_some]
theorem allC_map {γ : Type} {f : γ → Bool} {l : List γ} : allC ρ [.lst (l.map fun x => .bl (f x))] = some (.bl (l.all f)) := by
  simp only [allC, dr, blsD_map, Option.map_some]
  rw [List.all_map]; rfl
theorem anyC_map {γ : Type} {f : γ → Bool} {l : List γ} : anyC ρ [.lst (l.map fun x => .bl (f x))] = some (.bl (l.any f)) := by
  simp only [anyC, dr, blsD_map, Option.map_some]
  rw [List.any_map]; rfl
theorem listC_lst {l : List D} : listC ρ [.lst l] = some (.lst l) := id rfl
theorem listC_tup {l : List D} : listC ρ [.tup l] = some (.lst l) := id rfl
theorem tupleC_lst {l : List D} : tupleC ρ [.lst l] = some (.tup l) := id rfl
theorem tupleC_tup {l : List D} : tupleC ρ [.tup l] = some (.tup l) := id rfl
theorem strsD_map : ∀ l : List Str, strsD (l.map .str) = some l
  | [] => rfl
  | x :: l => by simp only [List.map, strsD, strsD_map l, Option.map_some]
def joinQ (s : Str) (d : D) : Option D := (itemsR d).bind fun l => (strsD l).bind fun ys => if (ys.map (·.length)).sum + ys.length * s.length ≤ 16777216 then some (.str (Txt.join s ys)) else none
theorem joinM_ap {s : Str} {d : D} : joinM ρ s [d] = joinQ s (dr ρ d) := id rfl
theorem joinQ_strs {s : Str} {ss : List Str} (h : (ss.map (·.length)).sum + ss.length * s.length ≤ 16777216) : joinQ s (.lst (ss.map .str)) = some (.str (Txt.join s ss)) := by
  simp only [joinQ, itemsR, Option.bind_some, strsD_map]
  rw [if_pos h]
theorem splitM_ok {s t : Str} (ht : t.length ≠ 0) (hs : s.length ≤ 100000) : splitM ρ s [.str t] = some (.lst ((Txt.split s t).map .str)) := if_pos ⟨ht, hs⟩
def rgQ (ρ : List D) (x y : D) : Res D := rgD ρ x y .lst
theorem rgD_ok' {i j : Int} {k : List D → D} (h1 : -1000000 ≤ i) (h2 : i ≤ 1000000) (h3 : -1000000 ≤ j) (h4 : j ≤ 1000000) (h5 : j - i ≤ 100000) : rgD ρ (.int i) (.int j) k = .ok (k (rngL i (j - i).toNat)) := by
  show (if -(2 ^ 62) ≤ i ∧ i < 2 ^ 62 ∧ -(2 ^ 62) ≤ j ∧ j < 2 ^ 62 ∧ (j - i).toNat ≤ 100000 then _ else _) = _
  rw [if_pos (by omega)]
end

section
variable {ρ : List D} {σ : Env}
def r2R (k : List D → D) (ρ : List D) : Res D → Res D → Res D
  | .ok x, .ok y => rgD ρ x y k
  | .exc c fs, _ => .exc c fs
  | .ok _, .exc c fs => .exc c fs
  | _, _ => .bad
theorem rg2S_ap {k : List D → D} {f g : EF} : rg2S k f g ρ σ = r2R k ρ (f ρ σ) (g ρ σ) := by unfold rg2S r2R; cases f ρ σ <;> cases g ρ σ <;> rfl
theorem r2R_ok {k : List D → D} {x y : D} : r2R k ρ (.ok x) (.ok y) = rgD ρ x y k := id rfl
def r1R (k : List D → D) (ρ : List D) (r : Res D) : Res D := r.bind fun x => rgD ρ (.int 0) x k
theorem rg1S_ap {k : List D → D} {f : EF} : rg1S k f ρ σ = r1R k ρ (f ρ σ) := id rfl
theorem r1R_ok {k : List D → D} {x : D} : r1R k ρ (.ok x) = rgD ρ (.int 0) x k := id rfl
end

/-! ### a def's run -/
section
variable {T : Nat → Option Fn} {n g : Nat} {ρ : List D} {ds : List D}
theorem run_res (np nl : Nat) (B : Orc → SF) {σ : Env} {o : Out} {r : RRes} (hT : T g = some ⟨np, nl, B⟩) (hl : ds.length = np) (hσ : ds.map some ++ List.replicate (nl - np) none = σ) (hb : B (run T n) (fun r => decide (ρ.length ≤ r)) ρ σ = o) (hf : finR ρ.length (fun _ => false) o = r) :
    run T (n + 1) g (fun _ => false) ρ ds = r := by
  simp only [run, hT]
  rw [if_pos hl]
  subst hσ hf hb
  rfl
theorem kept_no {n0 : Nat} {m : List D} : keptOk n0 (fun _ => false) m = true := by simp [keptOk]
theorem fin_ret {fr : Bool} {d : D} {m : List D} (hn : ∀ r, d ≠ .rt r) (h : okRt ρ.length d = true) : finR ρ.length (fun _ => false) (.ret fr d (ρ ++ m)) = .ok fr d ρ := by
  simp only [finR, kept_no, if_true]
  cases d <;> first | exact absurd rfl (hn _) | (simp only [h, if_true, List.take_left'])
theorem fin_ret0 {fr : Bool} {d : D} (hn : ∀ r, d ≠ .rt r) (h : okRt ρ.length d = true) : finR ρ.length (fun _ => false) (.ret fr d ρ) = .ok fr d ρ := by
  have := fin_ret (m := []) (fr := fr) hn h
  rwa [List.append_nil] at this
theorem fin_root {fr : Bool} {d : D} {m : List D} (h : okRt ρ.length d = true) : finR ρ.length (fun _ => false) (.ret fr (.rt ρ.length) (ρ ++ d :: m)) = .ok true d ρ := by
  simp only [finR, kept_no, if_true, Nat.lt_irrefl, if_false]
  simp [h]
theorem fin_nx {m : List D} {σ : Env} : finR ρ.length (fun _ => false) (.nx (ρ ++ m) σ) = .ok false .non ρ := by simp only [finR, kept_no, if_true, List.take_left']
theorem fin_nx0 {σ : Env} : finR ρ.length (fun _ => false) (.nx ρ σ) = .ok false .non ρ := by simp only [finR, kept_no, if_true, List.take_length]
theorem fin_exc {c : Nat} {fs : List D} {m : List D} {σ : Env} (h : okRtL ρ.length fs = true) : finR ρ.length (fun _ => false) (.exc c fs (ρ ++ m) σ) = .exc c fs ρ := by
  simp only [finR, kept_no, h, and_self, if_true, List.take_left']
theorem fin_exc0 {c : Nat} {fs : List D} {σ : Env} (h : okRtL ρ.length fs = true) : finR ρ.length (fun _ => false) (.exc c fs ρ σ) = .exc c fs ρ := by
  simp only [finR, kept_no, h, and_self, if_true, List.take_length]
theorem okL_mem : ∀ {n : Nat} {l : List D}, (∀ d ∈ l, okRt n d = true) → okRtL n l = true
  | _, [], _ => by simp only [okRtL]
  | n, d :: l, h => by simp only [okRtL, h d (List.mem_cons_self ..), okL_mem fun x hx => h x (List.mem_cons_of_mem _ hx), Bool.and_self]
theorem okL_map {γ : Type} {f : γ → D} {n : Nat} {l : List γ} (h : ∀ x ∈ l, okRt n (f x) = true) : okRtL n (l.map f) = true := okL_mem fun d hd => by
  obtain ⟨x, hx, rfl⟩ := List.mem_map.mp hd
  exact h x hx
end

/-! ### cuts -/
theorem cut_to {α : Type} {l : List α} {n : Nat} : cutL l none (some (n : Int)) = l.take n := by
  unfold cutL
  rw [HT.sIx_none, HT.sIx_nat, List.drop_zero, Nat.sub_zero]
  by_cases h : n ≤ l.length
  · rw [Nat.min_eq_left h]
  · rw [Nat.min_eq_right (by omega), List.take_length, List.take_of_length_le (by omega)]
theorem cut_from {α : Type} {l : List α} {n : Nat} : cutL l (some (n : Int)) none = l.drop n := by
  unfold cutL
  rw [HT.sIx_none, HT.sIx_nat]
  by_cases h : n ≤ l.length
  · rw [Nat.min_eq_left h, List.take_of_length_le (by simp)]
  · rw [Nat.min_eq_right (by omega), List.drop_of_length_le (Nat.le_refl _), List.drop_of_length_le (by omega)]; simp
theorem cut_mid {α : Type} {l : List α} {n m : Nat} (h : n ≤ m) (h2 : m ≤ l.length) : cutL l (some (n : Int)) (some (m : Int)) = (l.drop n).take (m - n) := by
  unfold cutL
  rw [HT.sIx_nat, HT.sIx_nat, Nat.min_eq_left h2, Nat.min_eq_left (by omega)]
theorem cut_init {α : Type} {l : List α} {x : α} : cutL (l ++ [x]) none (some (-1)) = l := by
  unfold cutL
  have e : HT.sIx (l ++ [x]).length (l ++ [x]).length (some (-1)) = l.length := by
    unfold HT.sIx
    simp only []
    rw [if_pos (by decide), List.length_append, List.length_singleton]; omega
  rw [e, HT.sIx_none, List.drop_zero, Nat.sub_zero]
  exact List.take_left' rfl
theorem cut_m1 {α : Type} {l : List α} : cutL l none (some (-1)) = l.dropLast := by
  rcases List.eq_nil_or_concat l with h | ⟨m, x, h⟩
  · subst h; rfl
  · subst h; rw [List.concat_eq_append, cut_init, List.dropLast_concat]
theorem cut_pos {α : Type} {l : List α} {i : Int} (h : 0 ≤ i) : cutL l none (some i) = l.take i.toNat := by
  have := cut_to (l := l) (n := i.toNat)
  rwa [Int.toNat_of_nonneg h] at this
theorem cut_posf {α : Type} {l : List α} {i : Int} (h : 0 ≤ i) : cutL l (some i) none = l.drop i.toNat := by
  have := cut_from (l := l) (n := i.toNat)
  rwa [Int.toNat_of_nonneg h] at this
theorem drop_0 {α : Type} {l : List α} : l.drop 0 = l := id rfl
theorem drop_s {α : Type} {x : α} {l : List α} {n : Nat} : (x :: l).drop (n + 1) = l.drop n := id rfl
theorem take_0 {α : Type} {l : List α} : l.take 0 = [] := id List.take_zero
theorem take_s {α : Type} {x : α} {l : List α} {n : Nat} : (x :: l).take (n + 1) = x :: l.take n := id rfl
theorem take_n {α : Type} {n : Nat} : ([] : List α).take n = [] := id List.take_nil
theorem dl_1 {α : Type} {x : α} : [x].dropLast = [] := id rfl
theorem dl_c {α : Type} {x y : α} {l : List α} : (x :: y :: l).dropLast = x :: (y :: l).dropLast := id rfl
theorem flat_rep {α : Type} {x : α} {n : Nat} : (List.replicate n [x]).flatten = List.replicate n x := List.flatten_replicate_singleton
theorem ofString_inj {a b : String} : (Str.ofString a = Str.ofString b) = (a = b) := by
  apply propext
  constructor
  · intro h
    rw [Str.ofString_eq_toList, Str.ofString_eq_toList] at h
    have h1 := congrArg (fun z => z.cps.toList) h
    simp only [List.toList_toArray] at h1
    have h2 : a.toList = b.toList := by
      have : Function.Injective Char.toNat := fun x y e => Char.ext (UInt32.toNat_inj.mp e)
      exact (List.map_inj_right this).mp h1
    exact String.toList_inj.mp h2
  · intro h; rw [h]

/-! ### texts -/
theorem tl_sp : TL.tl ("\x20" : Str) = [32] := by decide +kernel
theorem split_join_sp {ws : List Str} (hne : ws ≠ []) (hp : ∀ w ∈ ws, 32 ∉ TL.tl w) : Txt.split (Txt.join " " ws) " " = ws := TL.split_join (y := " ") (s := 32) (S := []) (by decide +kernel) (by decide +kernel) hne hp
theorem sok_lit {s : Str} (h : PyData.strOk s = true) : sOk s := h
end Dd

set_option Elab.async false
set_option linter.all false
set_option maxRecDepth 100000
set_option maxHeartbeats 2000000
/-! DdGrd: the law's own call, where its place (callerA) is known: repr of data -/
namespace Dd
open PySem PySem.Spec PyProof.Rows L2 Evl OwnO My

/-- a def's call at one place -/
theorem def_at {CX : CXT} {P : Program} {w : World} {K : PySem.W.Frag} {mg : Str → Option Value} {base : Heap} {k : Nat} {f : Addr} {name qual : Str} {params : Arguments} {body : List Stmt} {scope : Scope} {dV kV doc pm cdv ct oc : Value} {an od : Option Addr}
    {osl : Array (Option Value)} {N ps : List Str} {A : Around} {outer : List PySem.Env} {s : Shared} {H : Hp} {args : Args} {us : List Value} {vs : List V} {Q : VK} {E : XK} {t : TS}
    (lk : K.lookup f = some ⟨oc, od, .func (PySem.W.fnOf name qual params body scope dV kV doc pm an cdv ct), osl⟩) (hcd : PySem.W.codeIn K cdv qual = true) (S : FnScope N ps scope) (hl : vs.length = ps.length)
    (hr : Room (k + 1) A) (e0 : Env0 P w K mg base A outer s H) (hb : BindsTo s (PySem.W.fnOf name qual params body scope dV kV doc pm an cdv ct) args (ps.zip us)) (rv : Vals vs us)
    (ht : PSs (cxOf CX P w K mg base N qual scope f cdv A outer s H E) body t) (hq : t { nx := fun _ H' => Q .non H', rt := Q } (L2.start N vs) H) :
    codeAny (model P w) A (.call (.ref f) args) (CR CX outer P w H s Q E) s := by
  have inK : K.In s.heap := e0.mod.kin.keeps fun b o z => (e0.bs b o z).1
  have lims : s.heap.NoLimit := e0.mod.nolimit.keeps fun b o z => (e0.bs b o z).1
  refine codeAny_call_function hr.depth (inK _ _ lk) rfl S.co S.gen rfl (PySem.W.codeRec_of inK hcd) (hb _ _ _ _ (wpAny_newFunctionEnv_cells S.kind ?kinds fun env he s1 x => ?run))
  case kinds =>
    intro y hy
    obtain ⟨n, v⟩ := y
    cases S.par n (List.of_mem_zip hy).1 with
    | inl q => exact Or.inl q
    | inr q => exact Or.inr ⟨q, PySem.W.cellsFrom_some _ _ _ (Or.inl q)⟩
  case run =>
    cases he
    refine ⟨lims.keeps x.toInCall.keep, codeAny_func ?_⟩
    refine wpAny_mono (ht.run [] s1 (L2.start N vs) H _ (inv_start S hr.hd e0 hl rv x) hq) (fun fl s' z => ?_) fun e s' z => z
    match fl, z with
    | .ret u, ⟨v, σ', H', J, r, q⟩ => exact ⟨v, H', J.os, J.bare, J.base, J.hok, r, q⟩
    | .next, ⟨σ', H', J, q⟩ => exact ⟨V.non, H', J.os, J.bare, J.base, J.hok, rfl, q⟩
    | .brk, ⟨_, _, _, q⟩ => exact q.elim
    | .cont, ⟨_, _, _, q⟩ => exact q.elim

/-- the law's call, from its run at the caller's place -/
theorem law_grd {P : Program} {w : World} {K : PySem.W.Frag} {mg mb : Str → Option Value} {CX : CXT} {fa a : Addr} {s₁ : Shared} {vs : List Value} {ns : List Int}
    (ha : s₁.heap.get? a = some { cls := .type "list", data := .seq vs.toArray }) (hi : IntsAre vs ns) (hl : ns.length ≤ sizeLine) (KX : K.In s₁.heap) (hns : s₁.heap.Ns mainGlobals mg)
    (hg : s₁.gens = #[]) (hlim : s₁.heap.NoLimit) (hb : s₁.heap.Ns builtinsNs mb) (hbb : ∀ x : Str, x ≠ "__name__" → mb x = bootBuiltins x)
    (F : ∀ (base : Heap) (H : Hp), K.In base → base.Ns mainGlobals mg → Env0 P w K mg base callerA [] s₁ H → SqL K H a (ns.map V.int) →
      codeAny (model P w) callerA (.call (.ref fa) ⟨[.ref a], []⟩) (CR CX [] P w H s₁ (fun v _ => v = .bl true) fun _ _ _ => False) s₁)
    (hCX : ∀ H e s', CX [] H s₁ (fun _ _ _ => False) e s' → False) : codeAny (model P w) callerA (.call (.ref fa) ⟨[.ref a], []⟩)
      (fun r s' => r = .ok (.ret (.bool true)) ∧ OldK s₁.heap s'.heap ∧ s'.os = s₁.os ∧ AllBare s'.gens) s₁ := by
  have rv := vals_ints hi
  have hn : vs.length = ns.length := by have := hi.length; omega
  obtain ⟨H, hS, hok, hA⟩ : ∃ H : Hp, SqL K H a (ns.map V.int) ∧ HOk P w H s₁.heap ∧ ∀ b u, H b = some u → b = a ∧ K.lookup a = none ∧ u = .frz { cls := .type "list", data := .seq vs.toArray } (.lst (ns.map V.int)) := by
    cases hk : K.lookup a with
    | some o =>
      have e1 := KX a o hk
      rw [ha] at e1
      cases e1
      exact ⟨fun _ => none, .inr ⟨_, vs.toArray, _, hk, rfl, rfl, rfl, by rw [List.size_toArray, hn]; exact hl, by simpa using rv⟩, fun b u z => (nomatch (show (none : Option HO) = some u from z)), fun b u z => (nomatch (show (none : Option HO) = some u from z))⟩
    | none =>
      have sel : ∀ b u, (if b = a then some (HO.frz { cls := .type "list", data := .seq vs.toArray } (.lst (ns.map V.int))) else none) = some u → b = a ∧ u = .frz { cls := .type "list", data := .seq vs.toArray } (.lst (ns.map V.int)) := fun b u z => by
        by_cases h : b = a
        · rw [if_pos h] at z; cases z; exact ⟨h, rfl⟩
        · rw [if_neg h] at z; cases z
      refine ⟨fun b => if b = a then some (.frz { cls := .type "list", data := .seq vs.toArray } (.lst (ns.map V.int))) else none, .inl (.inr ⟨{ cls := .type "list", data := .seq vs.toArray }, if_pos rfl⟩), fun b u z => ?_, fun b u z => ⟨(sel b u z).1, rfl, (sel b u z).2⟩⟩
      obtain ⟨rfl, rfl⟩ := sel b u z
      exact ⟨ha, by rw [List.length_map]; exact hl, vs, _, rv, ha⟩
  have free : ∀ b, b ≠ a ∨ K.lookup a ≠ none → H b = none := fun b hx => by
    cases q : H b with
    | none => rfl
    | some u =>
      obtain ⟨h1, h2, _⟩ := hA b u q
      cases hx with
      | inl h => exact absurd h1 h
      | inr h => exact absurd h2 h
  have nsB : ∀ {b : Addr} {m : Str → Option Value}, s₁.heap.Ns b m → (hidT s₁.heap H).Ns b m := by
    rintro b m ⟨o, es, ep, e, d, r⟩
    refine ⟨o, es, ep, hidT_get e (free b (.inl fun z => ?_)), d, r⟩
    rw [z, ha] at e
    cases e
    exact nomatch (show Data.seq vs.toArray _ = Data.dict es ep from d)
  have inB : K.In (hidT s₁.heap H) := fun b o e => hidT_get (KX b o e) (free b (by
    by_cases z : b = a
    · subst z; exact .inr (by rw [e]; simp)
    · exact .inl z))
  obtain ⟨mc, l1, l2⟩ := hlim
  have e0 : Env0 P w K mg (hidT s₁.heap H) callerA [] s₁ H :=
    ⟨rfl, ⟨inB, nsB hns, ⟨mb, nsB hb, hbb⟩, ⟨mc, nsB l1, l2⟩⟩, fun b o e => of_hidT e, Nat.le_of_eq (hidT_size _ _), trivial, fun b z => (List.not_mem_nil (show b ∈ ([] : List Addr) from z)).elim, hok, .of_eq hg⟩
  refine codeAny_mono (F _ H inB (nsB hns) e0 hS) fun r s' h => ?_
  match r, h with
  | .error e, h => exact (hCX H e s' h).elim
  | .ok (.ret u), ⟨v, H', os, bare, un, hok', r', q⟩ =>
    obtain rfl : v = .bl true := q
    obtain rfl : u = Value.bool true := r'
    refine ⟨rfl, OldK.of_keep fun b o e => ?_, os, bare⟩
    cases q : H b with
    | none => exact un.keep b o e q (fun z => (List.not_mem_nil (show b ∈ ([] : List Addr) from z)).elim) (by simp)
    | some x =>
      obtain ⟨_, _, rfl⟩ := hA b x q
      obtain ⟨e1, _⟩ := hok b _ q
      obtain ⟨e2, _⟩ := hok' b _ (un.frzs b _ _ q)
      rw [e] at e1
      cases e1
      exact e2

/-! ### repr of data -/
def rRepr (K : PySem.W.Frag) : List V → Hp → VK → Prop := fun xs H Q => ∃ (a : Addr) (p : PyData), xs = [.ref a] ∧ Dp K H (.ref a) p ∧ p.showable = true ∧ p.hasDict = false ∧ p.depth ≤ 64 ∧ p.leavesShort 13 = true ∧ p.weight ≤ 2 ^ 20 ∧ Q (.str p.shown) H
theorem callr_repr {X : Cx} (K : PySem.W.Frag) (hK : X.K = K) (hgd : X.A.guards = some []) (hu : X.A.units + 128 < cLine) : CallR X (.builtin "repr") (rRepr K) := by
  subst hK
  intro pins s σ H xs us Q I r h
  obtain ⟨a, p, rfl, hp, h1, h2, h3, h4, h5, q⟩ := h
  obtain ⟨u, rfl, ru⟩ := r.one
  obtain rfl : u = Value.ref a := ru
  obtain ⟨as, rr⟩ := Dp.reads I p (.ref a) (.ref a) hp rfl
  exact repr_of_reads' rr h1 (PyData.noDict_hsm h2) hgd (by omega) (fun b o e => e) (fun h' u tk hk => ⟨.str p.shown, H, I.kept hk, ⟨_, rfl⟩, q⟩) (PyData.shown_fits (by decide) (by decide) h4 h5)
def okRepr (p : PyData) : Bool := p.showable && (!p.hasDict && (decide (p.depth ≤ 64) && (p.leavesShort 13 && decide (p.weight ≤ 2 ^ 20))))
def reprC (ρ : List D) (xs : List D) : Option D := match xs with
  | [d] => match dr ρ d with
    | .tup l => (toPy (.tup l)).bind fun p => if okRepr p = true then some (.str p.shown) else none
    | _ => none
  | _ => none
theorem opc_repr (W : Wd) : OpC W (rRepr W.K) reprC := by
  intro RA ρ B H xs ds d Q b r e h
  unfold reprC at e
  split at e
  · obtain ⟨x, rfl, rx⟩ := one_of r
    split at e
    · rename_i l e1
      obtain ⟨p, e2, e3⟩ := Option.bind_eq_some_iff.mp e
      split at e3
      · rename_i hc
        cases e3
        obtain ⟨a, vs, rfl, ha, la⟩ := view_tup b rx e1
        unfold okRepr at hc
        simp only [Bool.and_eq_true, Bool.not_eq_true', decide_eq_true_eq] at hc
        exact ⟨a, p, rfl, dp_dr b rx (by rw [e1]; exact e2), hc.1, hc.2.1, hc.2.2.1, hc.2.2.2.1, hc.2.2.2.2, fin_flat b (fun _ => rep_str) h⟩
      · cases e3
    · cases e
  · cases e
section
variable {X : Cx} {W : Wd} {Wx : WX} {e : Expr} {es : List Expr} {fa : AF} {pos p : Pos}
theorem x_repr (c : Csu X W) (hgd : X.A.guards = some []) (hm : X.mg "repr" = none) (ha : PA X (e :: es) (tA W Wx fa)) (hg : Gl X "repr" := by rfl) (he : starEach (e :: es) X.env = (false, eval e X.env) :: starEach es X.env := by rfl) (hpl : (backTo pos (starEach es X.env)).any (·.1) = false := by rfl) : PE X (.Call (.Name "repr" p) (e :: es) [] pos) (tE W Wx (callB reprC fa)) := d_callB (callr_repr W.K c.K hgd c.hu) (opc_repr W) hm (by decide +kernel) ha hg (he := he) (hpl := hpl)
end
/-- texts that differ -/
def neSD (ρ : List D) (x y : D) : Option D := match dr ρ x, dr ρ y with
  | .str s, .str t => some (.bl (!decide (s = t)))
  | _, _ => none
theorem op2_nes (W : Wd) : Op2 W rNe neSD := by
  intro RA ρ B H x y d1 d2 d Q b r1 r2 e h
  unfold neSD at e
  split at e
  · rename_i s t e1 e2
    cases e
    rw [view_str b r1 e1, view_str b r2 e2]
    have hd : decide (V.str s = V.str t) = decide (s = t) := by rw [Bool.eq_iff_iff]; simp
    exact ⟨rfl, by rw [hd]; exact fin_flat b (fun _ => rep_bl) h⟩
  · cases e
section
variable {X : Cx} {W : Wd} {Wx : WX} {a b : Expr} {f g : EF} {pos : Pos}
theorem x_nes (c : Csu X W) (ha : PE X a (tE W Wx f)) (hb : PE X b (tE W Wx g)) : PE X (.Compare a [.NotEq] [b] pos) (tE W Wx (bin2 neSD f g)) := pe_cmp2 op_ne (op2_nes W) (nomark _) ha hb
theorem t_nes (c : Csu X W) (ha : PE X a (tE W Wx f)) (hb : PE X b (tE W Wx g)) : PT X (.Compare a [.NotEq] [b] pos) (tT W Wx (tb1 (bin2 neSD f g))) := t_cmp op_ne (op2_nes W) (nomark _) ha hb
end
theorem nes_str {ρ : List D} {s t : Str} : neSD ρ (.str s) (.str t) = some (.bl (!decide (s = t))) := id rfl
/-- the law's def, at the caller's place -/
theorem grd_of {P : Program} {w : World} {K : PySem.W.Frag} {mg : Str → Option Value} {base : Heap} {W : Wd} {T : Nat → Option Fn} {n g : Nat} {x x' qual : Str} {params : Arguments} {body : List Stmt} {scope : Scope} {dvs : List V} {kws : List (Str × V)} {f : Addr} {fd : FuncData} {N : List Str} {F : Fn}
    (hK : W.K = K) (hD : FunD K x qual params body scope dvs kws f fd) (S : FnScope N [x'] scope) (hT : T g = some F) (hnp : F.np = 1) (hnl : F.nl = N.length) (hr : Room (4 * n + 3 + 1) callerA)
    (hrun : ∀ ns : List Int, ns.length ≤ 63 → run T (n + 1) g (fun _ => false) [] [.scr (ns.map .int)] = .ok false (.bl true) [])
    (der : ∀ (cdv : Value) (outer : List PySem.Env) (s : Shared) (H : Hp) (E : XK), Room (4 * n + 3) (callerA.deeper (envOfC qual scope s.heap.objs.size f cdv)) →
      PSsd (cxOf (L2.CX P w) P w K mg base N qual scope f cdv callerA outer s H E) W (fun cls dx _ H' => E cls dx H') body (F.body (run T n)))
    (hb : ∀ (s : Shared) (u : Value), BindsTo s fd ⟨[u], []⟩ [(x', u)]) {H : Hp} {s : Shared} {a : Addr} {ns : List Int} (hn : ns.length ≤ 63) (e0 : Env0 P w K mg base callerA [] s H) (hS : SqL K H a (ns.map V.int)) :
    codeAny (model P w) callerA (.call (.ref f) ⟨[.ref a], []⟩) (CR (L2.CX P w) [] P w H s (fun v _ => v = .bl true) fun _ _ _ => False) s := by
  obtain ⟨oc, od, dV, kV, doc, pm, an, cdv, ct, osl, rfl, lk, hcd, _, _⟩ := hD.ex
  have hl : ([.scr (ns.map .int)] : List D).length = F.np := hnp.symm
  have h := hrun ns hn
  simp only [run, hT, if_pos hl] at h
  have b : Base W [] [] H H := ⟨Ex.refl H, rfl, .nil, fun a h => (List.not_mem_nil h).elim, fun r a d h => by simp at h⟩
  have rp : RepL W [] H [.scr (ns.map .int)] [.ref a] := .cons (by simp only [Rep]; exact ⟨a, _, rfl, by rw [hK]; exact hS, repL_ints' _ _ _ ns⟩) .nil
  have hd : RDone W (fun _ => false) [] [] H H (fun v _ => v = .bl true) (fun _ _ _ => False) (.ok false (.bl true) []) := by
    intro v B' H' gg r
    simpa only [ResAt, Bool.false_eq_true, if_false, Rep] using r
  rw [← h] at hd
  refine def_at (us := [.ref a]) (vs := [.ref a]) lk hcd S rfl hr e0 (hb s (.ref a)) (.cons rfl .nil) (der cdv [] s H _ (hr.deeper _) (fun r => (fun _ => false) r || decide (([] : List D).length ≤ r))) ⟨[], [], [some (.scr (ns.map .int))] ++ List.replicate (F.nl - F.np) none, H, b, ?_, fin_ok b hd⟩
  have := loc_start (N := N) rp
  rw [hnp, hnl]
  exact this
/-- the walk, from the law's run at the caller's place -/
theorem walk_grd {l : PySem.W.OpenLaw} {n : Nat} {q : Program} {loose : List Str} {XP : (Str → Option Value) → Heap → Prop} {YP : World → Heap → Prop} {d : DefRec} {K : Params → PySem.W.Frag} {CX : World → CXT} (hn : l.most = some n) (hdf : d.params.defaults = []) (hn2 : n ≤ sizeLine)
    (F : ∀ (w : World) (mg : Str → Option Value) (fa : Addr) (h : Heap), (K w.params).In h → h.Ns mainGlobals mg → mg d.name = some (.ref fa) → ∀ (base : Heap) (H : Hp) (s : Shared) (a : Addr) (ns : List Int), ns.length ≤ n → (K w.params).In base → base.Ns mainGlobals mg →
      Env0 l.prog w (K w.params) mg base callerA [] s H → SqL (K w.params) H a (ns.map V.int) → codeAny (model l.prog w) callerA (.call (.ref fa) ⟨[.ref a], []⟩) (CR (CX w) [] l.prog w H s (fun v _ => v = .bl true) fun _ _ _ => False) s)
    (hCX : ∀ (w : World) (H : Hp) (s : Shared) (e : Value) (s' : Shared), CX w [] H s (fun _ _ _ => False) e s' → False) (hY : ∀ (w : World) (h : Heap), YP w h → (K w.params).In h) :
    PySem.W.WalkO q loose XP YP l.row.toRowW d [] (fun f vs => PySem.call f vs) := by
  refine Att.attach_call hn hdf ?_
  intro w s₀ s₁ mg mb fa o pm cd doc a vs ns G Y ho hd hcd hmg hobj hints hlen hg
  have iK := hY w _ Y
  exact law_grd hobj hints (Nat.le_trans hlen hn2) iK G.T.g hg G.T.nolimit G.T.b G.T.builtins (fun base H i1 i2 e0 hS => F w mg fa _ iK G.T.g hmg base H s₁ a ns hlen i1 i2 e0 hS) fun H e s' z => hCX w H s₁ e s' z

/-! ### repr by equations -/
theorem repr_ap {ρ : List D} {l : List D} : reprC ρ [.tup l] = (toPy (.tup l)).bind fun p => if okRepr p = true then some (.str p.shown) else none := id rfl
/-- small data -/
structure Sm (p : PyData) (d w : Nat) : Prop where
  sh : p.showable = true
  nd : p.hasDict = false
  dp : p.depth ≤ d
  lf : p.leavesShort 13 = true
  wt : p.weight ≤ w
theorem Sm.ok {p : PyData} {d w : Nat} (h : Sm p d w) (hd : d ≤ 64) (hw : w ≤ 2 ^ 20) : okRepr p = true := by
  unfold okRepr
  simp only [h.sh, h.nd, h.lf, Bool.not_false, Bool.true_and, Bool.and_eq_true, decide_eq_true_eq]
  exact ⟨Nat.le_trans h.dp hd, Nat.le_trans h.wt hw⟩
theorem Sm.mono {p : PyData} {d w d' w' : Nat} (h : Sm p d w) (hd : d ≤ d') (hw : w ≤ w') : Sm p d' w' := ⟨h.sh, h.nd, Nat.le_trans h.dp hd, h.lf, Nat.le_trans h.wt hw⟩
theorem sm_int {i : Int} (h : i.natAbs < 2 ^ 20) : Sm (.int i) 0 20 := by
  have hl : i.natAbs.log2 < 20 ∨ i.natAbs = 0 := by
    by_cases h0 : i.natAbs = 0
    · exact .inr h0
    · exact .inl ((Nat.log2_lt h0).mpr h)
  refine ⟨?_, rfl, by simp [PyData.depth], ?_, ?_⟩
  · simp only [PyData.showable, decide_eq_true_eq]
    rcases hl with hl | hl
    · omega
    · rw [hl]; decide
  · simp only [PyData.leavesShort, decide_eq_true_eq]
    exact PyData.shown_int_le (by omega)
  · simp only [PyData.weight]
    split
    · omega
    · rcases hl with hl | hl
      · omega
      · rename_i hz
        exact absurd (by simpa using (show i = 0 by omega)) hz
theorem sm_str {s : Str} {w : Nat} (h : sOk s) (hl : s.length ≤ w) : Sm (.str s) 0 w := by
  refine ⟨rfl, rfl, by simp [PyData.depth], ?_, hl⟩
  simp only [PyData.leavesShort, List.all_eq_true, decide_eq_true_eq]
  intro c hc
  unfold sOk PyData.strOk at h
  rw [← Array.all_toList, List.all_eq_true] at h
  have := h c hc
  simp only [decide_eq_true_eq] at this
  omega
theorem smAll {d w : Nat} : ∀ {ps : List PyData}, (∀ p ∈ ps, Sm p d w) → PyData.showableAll ps = true ∧ PyData.hasDictAll ps = false ∧ PyData.depthAll ps ≤ d ∧ PyData.leavesShortAll 13 ps = true ∧ PyData.weightAll ps ≤ ps.length * (w + 1)
  | [], _ => by simp [PyData.showableAll, PyData.hasDictAll, PyData.depthAll, PyData.leavesShortAll, PyData.weightAll]
  | p :: ps, h => by
    obtain ⟨h1, h2, h3, h4, h5⟩ := smAll fun q hq => h q (List.mem_cons_of_mem _ hq)
    have hp := h p (List.mem_cons_self ..)
    refine ⟨?_, ?_, ?_, ?_, ?_⟩
    · simp only [PyData.showableAll, hp.sh, h1, Bool.and_self]
    · simp only [PyData.hasDictAll, hp.nd, h2, Bool.or_self]
    · simp only [PyData.depthAll]; have := hp.dp; omega
    · simp only [PyData.leavesShortAll, hp.lf, h4, Bool.and_self]
    · simp only [PyData.weightAll, List.length_cons, Nat.add_mul, Nat.one_mul]; have := hp.wt; omega
theorem sm_tup {ps : List PyData} {d w : Nat} (h : ∀ p ∈ ps, Sm p d w) : Sm (.tuple ps) (d + 1) (ps.length * (w + 1)) := by
  obtain ⟨h1, h2, h3, h4, h5⟩ := smAll h
  exact ⟨by simpa only [PyData.showable] using h1, by simpa only [PyData.hasDict] using h2, by simp only [PyData.depth]; omega, by simpa only [PyData.leavesShort] using h4, by simpa only [PyData.weight] using h5⟩
end Dd

set_option Elab.async false
set_option linter.all false
set_option maxRecDepth 100000
set_option maxHeartbeats 2000000
/-! DdObj: instances of own classes: made, their attributes set, their methods called -/
namespace Dd
open PySem PySem.Spec PyProof.Rows L2 Evl OwnO My

section
variable {X : Cx} {CX : CXT} {k : Nat} {f C : Addr} {fd : FuncData} {ps : List Str} {sp : Sp} {dvs : List V} {ds : List Value} {x m : Str} {p pos apos : Pos} {e o : Expr} {es : List Expr} {ta : TE} {t : TA}
/-- C(..) runs, where the wish for an exception hangs on the slots -/
theorem make_at {E : XK} {pins : List (Addr × Obj)} {σ : L2.St} {H : Hp} {s : Shared} {Q : VK} {us : List Value} {vs : List V} (M : Mk X.K C f) (F : FnOk X.prog X.w X.K X.mg X.base CX k f fd ps sp) (hr : Room (k + 1) X.A) (hb : Binds X.K fd ps ds) (hd : Vals dvs ds)
    (hx : PassesAt CX X σ E) (I : L2.Inv X pins σ H s) (r : Vals vs us)
    (h : ∀ a dx, H a = none → H dx = none → dx ≠ a → sp (.ref a :: (vs ++ dvs)) (upd (upd H dx (.own a)) a (.ins C dx [])) (fun v H2 => v = .non ∧ Q (.ref a) H2) E) : wpAny (model X.prog X.w) X.A (call (.ref C) us) (EP X pins σ Q) X.xe s := by
  have J : L2.Inv X pins σ _ _ := Inv.made (C := C) I
  have hq := h (s.heap.objs.size + 1) s.heap.objs.size (I.hok.fresh (Nat.le_succ _)) (I.hok.fresh (Nat.le_refl _)) (Nat.ne_of_lt (Nat.lt_succ_self _))
  have rr : Vals (V.ref (s.heap.objs.size + 1) :: (vs ++ dvs)) (Value.ref (s.heap.objs.size + 1) :: (us ++ ds)) := .cons rfl (r.append hd)
  have hlen : ((Value.ref (s.heap.objs.size + 1) :: us) ++ ds).length = ps.length := rr.length.symm.trans (F.len _ _ _ _ hq)
  refine wpAny_call (make_map (f := f) I.kIn M.makes M.init (beq_iff_eq.mp M.fn) (codeAny_mono (F.run _ X.stack _ _ ⟨Value.ref (s.heap.objs.size + 1) :: us, []⟩ _ _ _ E (hr.make C us []) (J.env0.make C us []) (hb _ (Value.ref (s.heap.objs.size + 1) :: us) J.kIn hlen) rr hq) ?_))
  intro res s' z
  match res, z with
  | .error e, z => exact hx pins _ _ e s' J z
  | .ok (.ret u), z =>
    obtain ⟨v, H', I3, rv, ev, q3⟩ := J.after z
    subst ev
    exact ⟨rv, V.ref (s.heap.objs.size + 1), H', I3, rfl, q3⟩
  | .ok .next, z => exact False.elim z
  | .ok .brk, z => exact False.elim z
  | .ok .cont, z => exact False.elim z
def tMakeS (C : Addr) (sp : Sp) (dvs : List V) (E : L2.St → XK) (t : TA) : TE := fun σ H Q => t σ H fun vs H1 => ∀ a dx, H1 a = none → H1 dx = none → dx ≠ a →
  sp (.ref a :: (vs ++ dvs)) (upd (upd H1 dx (.own a)) a (.ins C dx [])) (fun v H2 => v = .non ∧ Q (.ref a) H2) (E σ)
theorem pe_makeS {E : L2.St → XK} (M : Mk X.K C f) (F : FnOk X.prog X.w X.K X.mg X.base CX k f fd ps sp) (hr : Room (k + 1) X.A) (hg : Gl X x) (hm : X.mg x = some (.ref C)) (hb : Binds X.K fd ps ds) (hd : Vals dvs ds) (hx : ∀ σ, PassesAt CX X σ (E σ))
    (ha : PA X (e :: es) t) (hdb : (x == ("__debug__" : Str)) = false := by decide) (he : starEach (e :: es) X.env = (false, eval e X.env) :: starEach es X.env := by rfl) (hpl : (backTo pos (starEach es X.env)).any (·.1) = false := by rfl) :
    PE X (.Call (.Name x p) (e :: es) [] pos) (tMakeS C sp dvs E t) := ⟨fun pins s σ H Q I h =>
  wpAny_Call_Name_kw (ld_glob I hg hm (PySem.W.callWith_K (h₀ := X.base) I.ok.mod.kin M.kp (thn (ha.run pos pins s σ H _ I h) fun us s1 ⟨vs, H1, I1, r, q⟩ => ⟨I1.kIn, make_at M F hr hb hd (hx σ) I1 r q⟩) he hpl) hdb)⟩
/-- o.m(..), with defaults, at the slots -/
def tMethD (C : Addr) (m : Str) (sp : Sp) (dvs : List V) (E : L2.St → XK) (ta : TE) (t : TA) : TE := fun σ H Q => ta σ H fun x H1 => ∃ a dx fs, x = .ref a ∧ H1 a = some (.ins C dx fs) ∧ fs.lookup m = none ∧
  t σ H1 fun vs H2 => sp (x :: (vs ++ dvs)) H2 Q (E σ)
theorem pe_methD {E : L2.St → XK} {pl : Sem Bool} (he : PE X o ta) (c : Cls X.K C) (hm : Meth X.K C m f) (F : FnOk X.prog X.w X.K X.mg X.base CX k f fd ps sp) (hr : Room k X.A) (hb : Binds X.K fd ps ds) (hd : Vals dvs ds) (hx : ∀ σ, PassesAt CX X σ (E σ)) (ha : PA X (e :: es) t)
    (hst : starEach (e :: es) X.env = (false, eval e X.env) :: starEach es X.env := by rfl) (hpl : (backTo pos (starEach es X.env)).any (·.1) = false := by rfl)
    (ht : eval (.Call (.Attribute o m apos) (e :: es) [] pos) X.env = (do
      let ov ← eval o X.env
      standAt apos.atName
      let (f, first) ← holding [ov] (getMethod ov m pl)
      callWith pos f first (backTo pos (starEach (e :: es) X.env)) (backToKw pos (keywordEach [] X.env))) := by rfl) :
    PE X (.Call (.Attribute o m apos) (e :: es) [] pos) (tMethD C m sp dvs E ta t) := ⟨fun pins s σ H Q I h => by
  refine PySem.W.methodCall_KW (pl := pl) (thn (he.run pins s σ H _ I h) ?_) ht
  rintro u s1 ⟨x, H1, I1, rx, a, dx, fs, rfl, ea, l, q⟩
  obtain rfl : u = Value.ref a := rx
  exact getmeth_ok I1 ea c hm l (PySem.W.callWith_K (first := [.ref a]) (h₀ := X.base) I.ok.mod.kin hm.kp (thn (ha.run pos pins s1 σ H1 _ I1 q) fun us s2 ⟨vs, H2, I2, r, q2⟩ => ⟨I2.kIn, run_fnSD (us := .ref a :: us) (vs := .ref a :: vs) F hr hb hd (hx σ) I2 (.cons rfl r) q2⟩) hst hpl)⟩
theorem pe_methD0 {E : L2.St → XK} {pl : Sem Bool} (he : PE X o ta) (c : Cls X.K C) (hm : Meth X.K C m f) (F : FnOk X.prog X.w X.K X.mg X.base CX k f fd ps sp) (hr : Room k X.A) (hb : Binds X.K fd ps ds) (hd : Vals dvs ds) (hx : ∀ σ, PassesAt CX X σ (E σ))
    (ht : eval (.Call (.Attribute o m apos) [] [] pos) X.env = (do
      let ov ← eval o X.env
      standAt apos.atName
      let (f, first) ← holding [ov] (getMethod ov m pl)
      callWith pos f first (backTo pos (starEach [] X.env)) (backToKw pos (keywordEach [] X.env))) := by rfl) :
    PE X (.Call (.Attribute o m apos) [] [] pos) (tMethD C m sp dvs E ta tNil) := ⟨fun pins s σ H Q I h => by
  refine PySem.W.methodCall_KW (pl := pl) (thn (he.run pins s σ H _ I h) ?_) ht
  rintro u s1 ⟨x, H1, I1, rx, a, dx, fs, rfl, ea, l, q⟩
  obtain rfl : u = Value.ref a := rx
  exact getmeth_ok I1 ea c hm l (PySem.W.callWith_K0 (first := [.ref a]) I1.kIn hm.kp (run_fnSD (us := [.ref a]) (vs := [.ref a]) F hr hb hd (hx σ) I1 (.cons rfl .nil) q))⟩
end

/-! ### an attribute is set -/
theorem putF_zip {f : Str} {v : V} : ∀ {names : List Str} {vs : List V} {k : Nat}, names.findIdx? (fun g => decide (g = f)) = some k → k ≤ vs.length → vs.length ≤ names.length → putF f v (names.zip vs) = names.zip (if k < vs.length then vs.set k v else vs ++ [v])
  | [], vs, k, h, _, _ => by simp at h
  | g :: names, vs, k, h, h1, h2 => by
    rw [List.findIdx?_cons] at h
    by_cases e : g = f
    · rw [if_pos (by simpa using e)] at h
      cases h
      cases vs with
      | nil => simp [putF, e]
      | cons x vs => rw [if_pos (by simp), e]; simp [putF]
    · rw [if_neg (by simpa using e)] at h
      obtain ⟨j, hj, rfl⟩ := Option.map_eq_some_iff.mp h
      cases vs with
      | nil => simp at h1
      | cons x vs =>
        have ih := putF_zip (v := v) hj (by simpa using h1) (by simpa using h2)
        rw [List.zip_cons_cons]
        simp only [putF, if_neg e, ih, List.length_cons, Nat.add_lt_add_iff_right]
        split <;> simp
/-- o.f = e: attribute k of the root set (a new one is the next one) -/
def attS (c k : Nat) (f g : EF) : SF := fun mu ρ σ => withE (f ρ σ) ρ σ fun y => withE (g ρ σ) ρ σ fun x => match x with
  | .rt r => match ρ[r]? with
    | some (.ins c' fs) => if c' = c ∧ mu r = true ∧ k ≤ fs.length then .nx (ρ.set r (.ins c (if k < fs.length then fs.set k y else fs ++ [y]))) σ else .bad
    | _ => .bad
  | _ => .bad
theorem Base.rootIns {W : Wd} {RA : List Addr} {ρ : List D} {B H : Hp} (b : Base W RA ρ B H) {r c : Nat} {x : V} {fs : List D} (hx : Rep W RA B (.rt r) x) (hd : ρ[r]? = some (.ins c fs)) : ∃ a dx vs, x = .ref a ∧ RA[r]? = some a ∧ H a = some (.ins (W.CA c) dx ((W.CF c).zip vs)) ∧ RepL W RA B fs vs ∧ vs.length ≤ (W.CF c).length := by
  simp only [Rep] at hx
  obtain ⟨a, rfl, ha⟩ := hx
  obtain ⟨dx, vs, h1, h2, h3⟩ := b.roots r a _ ha hd
  exact ⟨a, dx, vs, rfl, ha, h1, h2, h3⟩
section
variable {X : Cx} {W : Wd} {Wx : WX} {o e : Expr} {es : List Expr} {f g : EF} {pos pos' : Pos} {n : Nat}
theorem ds_att {c k : Nat} {nm : Str} (ok : WOk W) (hK : X.K = W.K) (ha : AttrAt W c nm k) (hcf : (W.CF c).length < 1000) (he : PE X e (tE W Wx f)) (ho : PE X o (tE W Wx g)) (hs : swapsWith e (some (.Attribute o nm pos')) pos.line X.env = pure false := by rfl) :
    PSd X W Wx (.Assign [.Attribute o nm pos'] e pos) (attS c k f g) := fun mu =>
  ps_weak (ps_fld ho he hs) fun Dn σ H ⟨RA, ρ, σd, B, b, l, q⟩ =>
  ⟨RA, ρ, σd, B, b, l, (Done.withE b l q).imp fun y B1 H1 a1 q1 u ru => ⟨RA, ρ, σd, B1, a1.base, l.ex a1.bl, (Done.withE a1.base (l.ex a1.bl) q1).imp fun x B2 H2 a2 q2 v rv => by
    split at q2
    · rename_i r
      split at q2
      · rename_i c' fs e1
        split at q2
        · rename_i hc
          obtain ⟨rfl, hm, hk⟩ := hc
          obtain ⟨a, dx, vs, rfl, hr, hp, hv, hl⟩ := a2.base.rootIns rv e1
          obtain ⟨ct, hn⟩ := ok.cls c' ha.1
          have hlen := hv.len
          have hkl : k < (W.CF c').length := (List.getElem?_eq_some_iff.mp ha.mem).1
          refine ⟨a, _, dx, _, rfl, hp, by rw [hK]; exact ct.cl, by rw [hK]; exact hn nm (List.mem_of_getElem? ha.mem), by rw [List.length_zip]; omega, ?_⟩
          rw [putF_zip ha.2 (by omega) hl]
          refine q2 RA B2 _ σ (Grow.put a2.base hr hm ⟨dx, _, upd_same, ?_, ?_⟩) ((l.ex a1.bl).ex a2.bl)
          · rw [← hlen]
            split
            · exact hv.set (ru.ex a2.bl) k
            · exact hv.append (.cons (ru.ex a2.bl) .nil)
          · split
            · rw [List.length_set]; exact hl
            · rw [List.length_append, List.length_singleton]; omega
        · exact q2.elim
      · exact q2.elim
    · exact q2.elim⟩⟩
end

/-! ### an instance is made -/
/-- C(..) by the def g of its __init__ -/
def makeN (cl : Orc) (c g : Nat) (dd : List D) (fa : AF) : EF := fun ρ σ => (fa ρ σ).bind fun xs => match cl g (fun r => decide (r = ρ.length)) (ρ ++ [.ins c []]) (.rt ρ.length :: (xs ++ dd)) with
  | .ok _ d ρ' => match d, ρ'[ρ.length]? with
    | .non, some (.ins c' fs) => if c' = c ∧ okRtL ρ.length fs = true then .ok (.ins c fs) else .bad
    | _, _ => .bad
  | .exc k fs _ => if okRtL ρ.length fs = true then .exc k fs else .bad
  | .bad => .bad
theorem low_len {RA : List Addr} {x : Addr} {n : Nat} (hn : RA.length = n) : ∀ (r : Nat) (a : Addr), r < n → (RA ++ [x])[r]? = some a → RA[r]? = some a := fun r a hr h => by
  rwa [List.getElem?_append_left (by omega)] at h
section
variable {W : Wd} {RA : List Addr} {ρ : List D} {B H : Hp} {x dx : Addr} {c : Nat}
/-- the new instance, empty, as one root more -/
theorem base_made (b : Base W RA ρ B H) (hx : H x = none) (hd : H dx = none) (hne : dx ≠ x) : Base W (RA ++ [x]) (ρ ++ [.ins c []]) B (upd (upd H dx (.own x)) x (.ins (W.CA c) dx [])) := by
  have e1 : Ex H (upd (upd H dx (.own x)) x (.ins (W.CA c) dx [])) := (Ex.new hd).trans (Ex.new (by rw [upd_ne (Ne.symm hne)]; exact hx))
  refine ⟨b.le.trans e1, by simp [b.len], ?_, ?_, ?_⟩
  · rw [List.nodup_append]
    refine ⟨b.nd, by simp, fun a ha y hy => ?_⟩
    rw [List.mem_singleton] at hy
    subst hy
    exact fun e => (b.fresh_out hx).2 (e ▸ ha)
  · intro a ha
    rcases List.mem_append.mp ha with ha | ha
    · exact b.out a ha
    · rw [List.mem_singleton.mp ha]; exact (b.fresh_out hx).1
  · intro r a d h1 h2
    by_cases hr : r < RA.length
    · rw [List.getElem?_append_left hr] at h1
      rw [List.getElem?_append_left (by rw [← b.len]; exact hr)] at h2
      exact (b.roots r a d h1 h2).mono (Ex.refl B) (fun r a z => by rw [List.getElem?_append_left (List.getElem?_eq_some_iff.mp z).1]; exact z) fun o z => e1 a o z
    · rw [List.getElem?_append_right (by omega)] at h1
      rw [List.getElem?_append_right (by rw [← b.len]; omega)] at h2
      rw [b.len] at h1
      have h0 : r - ρ.length = 0 := by
        have := (List.getElem?_eq_some_iff.mp h2).1
        simp at this; omega
      rw [h0] at h1 h2
      cases h1
      cases h2
      exact ⟨dx, [], by rw [upd_same]; simp, .nil, by simp⟩
/-- behind __init__: the instance may freeze -/
theorem grow_made {B' H' : Hp} {ρ' : List D} (b : Base W RA ρ B H) (hx : H x = none) (hd : H dx = none) (hne : dx ≠ x)
    (g : Grow W (fun r => decide (r = ρ.length)) (RA ++ [x]) (ρ ++ [.ins c []]) B (upd (upd H dx (.own x)) x (.ins (W.CA c) dx [])) (RA ++ [x]) ρ' B' H') : Aft W RA ρ B H B' H' := by
  have keep : ∀ a o, H a = some o → H' a = some o := fun a o ha => by
    have n1 : a ≠ x := fun e => by rw [e, hx] at ha; cases ha
    have n2 : a ≠ dx := fun e => by rw [e, hd] at ha; cases ha
    refine g.keep a o (by rw [upd_ne n1, upd_ne n2]; exact ha) fun r hr => ?_
    have : r ≠ ρ.length := fun e => by
      rw [e, ← b.len, List.getElem?_append_right (Nat.le_refl _)] at hr
      simp at hr
      exact n1 hr.symm
    simpa using this
  refine ⟨keep, g.bl, ⟨g.base.le, b.len, b.nd, fun a ha => g.base.out a (List.mem_append_left _ ha), fun r a d h1 h2 => (b.roots r a d h1 h2).mono g.bl (fun _ _ z => z) fun o z => keep a o z⟩, fun a o h => ?_⟩
  rcases g.bn a o h with h | h
  · exact .inl h
  · refine .inr ?_
    by_cases n1 : a = x
    · rw [n1]; exact hx
    · by_cases n2 : a = dx
      · rw [n2]; exact hd
      · rw [upd_ne n1, upd_ne n2] at h; exact h
end

section
variable {W : Wd} {Wx : WX} {T : Nat → Option Fn} {n g c : Nat} {dd : List D} {dvs : List V} {fa : AF} {fo : EF}
theorem tF_make (hd : ∀ RA B, RepL W RA B dd dvs) (σ : L2.St) (H : Hp) (Q : VK) : tF W Wx (makeN (run T n) c g dd fa) σ H Q → tMakeS (W.CA c) (spF W T n g) dvs (WE Wx) (tA W Wx fa) σ H Q := fun ⟨RA, ρ, σd, B, b, l, q⟩ =>
  ⟨RA, ρ, σd, B, b, l, (Aw.bind q).imp fun xs B1 H1 a1 q1 vs rv a dx ha hdx hne => by
    have b1 := a1.base
    have hlen : RA.length = ρ.length := b1.len
    have up : ∀ (r : Nat) (a' : Addr), RA[r]? = some a' → (RA ++ [a])[r]? = some a' := fun r a' z => by rw [List.getElem?_append_left (List.getElem?_eq_some_iff.mp z).1]; exact z
    have hroot : (RA ++ [a])[ρ.length]? = some a := by rw [← hlen]; simp
    refine ⟨RA ++ [a], ρ ++ [.ins c []], B1, .rt ρ.length :: (xs ++ dd), fun r => decide (r = ρ.length), base_made b1 ha hdx hne, .cons (by simp only [Rep]; exact ⟨a, rfl, hroot⟩) (.append (RepL.mono (Ex.refl B1) up xs vs rv) (hd _ B1)), ?_⟩
    cases hr : run T n g (fun r => decide (r = ρ.length)) (ρ ++ [.ins c []]) (.rt ρ.length :: (xs ++ dd)) with
    | ok fr d ρ' =>
      rw [hr] at q1
      intro v B2 H2 gr r
      dsimp only at q1
      split at q1
      · rename_i c' fs hg
        split at q1
        · rename_i hc
          obtain ⟨rfl, hok⟩ := hc
          have a2 := grow_made b1 ha hdx hne gr
          have fr2 : Fresh W RA H1 B2 H2 (.ins c' fs) (.ref a) := ⟨a, rfl, ha, gr.base.out a (by simp), (b1.fresh_out ha).2, (gr.base.roots ρ.length a _ hroot hg).low ρ.length (low_len hlen) (by simpa only [okRt] using hok)⟩
          refine ⟨?_, q1 B2 H2 a2 (.ref a) (fr2.back a1.hp)⟩
          unfold ResAt at r
          split at r
          · obtain ⟨p, _, _, _, _, z⟩ := r; exact z.elim
          · simpa only [Rep] using r
        · exact q1.elim
      · exact q1.elim
    | exc k fs ρ' =>
      rw [hr] at q1
      intro cls dx' B2 H2 gr x
      dsimp only at q1
      split at q1
      · rename_i hok
        refine q1 cls dx' B2 H2 (grow_made b1 ha hdx hne gr) ⟨x.1, ?_⟩
        rcases x.2 with h | ⟨d', vs', h1, h2, h3, h4⟩
        · exact .inl h
        · exact .inr ⟨d', vs', h1, h2, RepL.low ρ.length (low_len hlen) fs vs' hok h3, h4⟩
      · exact q1.elim
    | bad => rw [hr] at q1; exact q1.elim⟩
structure HasK (P : Program) (w : World) (K : PySem.W.Frag) (mg : Str → Option Value) (base : Heap) (W : Wd) (T : Nat → Option Fn) (n : Nat) (x : Str) (c g : Nat) (dvs : List V) : Prop where
  ex : ∃ f fd ps ds, FnOk P w K mg base (L2.CX P w) (4 * n) f fd ps (spF W T n g) ∧ Mk K (W.CA c) f ∧ mg x = some (.ref (W.CA c)) ∧ Binds K fd ps ds ∧ Vals dvs ds
theorem f_make {X : Cx} {x : Str} {e : Expr} {es : List Expr} {p pos : Pos} (ck : Cok X W Wx n) (hf : HasK X.prog X.w X.K X.mg X.base W T n x c g dvs) (hd : ∀ RA B, RepL W RA B dd dvs) (ha : PA X (e :: es) (tA W Wx fa)) (hg : Gl X x := by rfl)
    (hdb : (x == ("__debug__" : Str)) = false := by decide) (he : starEach (e :: es) X.env = (false, eval e X.env) :: starEach es X.env := by rfl) (hpl : (backTo pos (starEach es X.env)).any (·.1) = false := by rfl) :
    PE X (.Call (.Name x p) (e :: es) [] pos) (tF W Wx (makeN (run T n) c g dd fa)) := by
  obtain ⟨f, fd, ps, ds, F, M, hm, hb, hv⟩ := hf.ex
  exact pe_weak (pe_makeS M F (ck.room.mono (by omega)) hg hm hb hv (fun σ => passAt ck.tk σ) ha hdb he hpl) (tF_make hd)

/-! ### a method is called -/
/-- o.m(..), o an instance of class c, m its def g, which changes nothing -/
def metS (cl : Orc) (c g : Nat) (dd : List D) (fo : EF) (fa : AF) : EF := fun ρ σ => (fo ρ σ).bind fun x => match dr ρ x with
  | .ins c' _ => if c' = c then (fa ρ σ).bind fun xs => match cl g (fun _ => false) ρ (x :: (xs ++ dd)) with
    | .ok _ d _ => .ok d
    | .exc k fs _ => .exc k fs
    | .bad => .bad
    else .bad
  | _ => .bad
theorem lookup_zip_none {m : Str} : ∀ {names : List Str} {vs : List V}, m ∉ names → (names.zip vs).lookup m = none
  | [], _, _ => by simp
  | g :: names, [], _ => by simp
  | g :: names, v :: vs, h => by
    rw [List.zip_cons_cons, List.lookup_cons]
    have h1 : (m == g) = false := by simpa using fun e => h (by simp [e])
    rw [h1]
    exact lookup_zip_none fun z => h (List.mem_cons_of_mem _ z)
theorem tE_meth {m : Str} (hm : m ∉ W.CF c) (hd : ∀ RA B, RepL W RA B dd dvs) (σ : L2.St) (H : Hp) (Q : VK) : tE W Wx (metS (run T n) c g dd fo fa) σ H Q → tMethD (W.CA c) m (spF W T n g) dvs (WE Wx) (tE W Wx fo) (tA W Wx fa) σ H Q := fun ⟨RA, ρ, σd, B, b, l, q⟩ =>
  ⟨RA, ρ, σd, B, b, l, (Aw.bind q).imp fun x B1 H1 a1 q1 u ru => by
    split at q1
    · rename_i c' fs e1
      split at q1
      · rename_i hc
        subst hc
        obtain ⟨a, dx, us, rfl, ha, _, _⟩ := view_ins a1.base ru e1
        refine ⟨a, dx, _, rfl, ha, lookup_zip_none hm, RA, ρ, σd, B1, a1.base, l.ex a1.bl, (Aw.bind q1).imp fun xs B2 H2 a2 q2 vs rv => ⟨RA, ρ, B2, x :: (xs ++ dd), fun _ => false, a2.base, .cons (ru.ex a2.bl) (rv.append (hd RA B2)), ?_⟩⟩
        cases hr : run T n g (fun _ => false) ρ (x :: (xs ++ dd)) with
        | ok fr d ρ' =>
          rw [hr] at q2
          intro v B3 H3 gr r
          have a3 := gr.aft a2.base
          unfold ResAt at r
          split at r
          · obtain ⟨B4, a4, r4⟩ := Fresh.freeze a3 r
            exact q2 B4 H3 a4 v r4
          · exact q2 B3 H3 a3 v r
        | exc k fs' ρ' =>
          rw [hr] at q2
          intro cls dx' B3 H3 gr z
          exact q2 cls dx' B3 H3 (gr.aft a2.base) z
        | bad => rw [hr] at q2; exact q2.elim
      · exact q1.elim
    · exact q1.elim⟩
structure HasMt (P : Program) (w : World) (K : PySem.W.Frag) (mg : Str → Option Value) (base : Heap) (W : Wd) (T : Nat → Option Fn) (n : Nat) (c : Nat) (m : Str) (g : Nat) (dvs : List V) : Prop where
  ex : ∃ f fd ps ds, FnOk P w K mg base (L2.CX P w) (4 * n) f fd ps (spF W T n g) ∧ Meth K (W.CA c) m f ∧ Binds K fd ps ds ∧ Vals dvs ds
section
variable {X : Cx} {m : Str} {o e : Expr} {es : List Expr} {pos apos : Pos}
theorem d_meth {pl : Sem Bool} (ck : Cok X W Wx n) (hi : W.isc c = true) (hf : HasMt X.prog X.w X.K X.mg X.base W T n c m g dvs) (hm : m ∉ W.CF c) (hd : ∀ RA B, RepL W RA B dd dvs) (ho : PE X o (tE W Wx fo)) (ha : PA X (e :: es) (tA W Wx fa))
    (hst : starEach (e :: es) X.env = (false, eval e X.env) :: starEach es X.env := by rfl) (hpl : (backTo pos (starEach es X.env)).any (·.1) = false := by rfl)
    (ht : eval (.Call (.Attribute o m apos) (e :: es) [] pos) X.env = (do
      let ov ← eval o X.env
      standAt apos.atName
      let (f, first) ← holding [ov] (getMethod ov m pl)
      callWith pos f first (backTo pos (starEach (e :: es) X.env)) (backToKw pos (keywordEach [] X.env))) := by rfl) :
    PE X (.Call (.Attribute o m apos) (e :: es) [] pos) (tE W Wx (metS (run T n) c g dd fo fa)) := by
  obtain ⟨f, fd, ps, ds, F, M, hb, hv⟩ := hf.ex
  have cl := (ck.ok.cls c hi).1.cl
  rw [← ck.K] at cl
  exact pe_weak (pe_methD (pl := pl) ho cl M F (ck.room.mono (by omega)) hb hv (fun σ => passAt ck.tk σ) ha hst hpl ht) (tE_meth hm hd)
theorem d_meth0 {pl : Sem Bool} (ck : Cok X W Wx n) (hi : W.isc c = true) (hf : HasMt X.prog X.w X.K X.mg X.base W T n c m g dvs) (hm : m ∉ W.CF c) (hd : ∀ RA B, RepL W RA B dd dvs) (ho : PE X o (tE W Wx fo))
    (ht : eval (.Call (.Attribute o m apos) [] [] pos) X.env = (do
      let ov ← eval o X.env
      standAt apos.atName
      let (f, first) ← holding [ov] (getMethod ov m pl)
      callWith pos f first (backTo pos (starEach [] X.env)) (backToKw pos (keywordEach [] X.env))) := by rfl) :
    PE X (.Call (.Attribute o m apos) [] [] pos) (tE W Wx (metS (run T n) c g dd fo nilA)) := by
  obtain ⟨f, fd, ps, ds, F, M, hb, hv⟩ := hf.ex
  have cl := (ck.ok.cls c hi).1.cl
  rw [← ck.K] at cl
  refine pe_weak (pe_methD0 (pl := pl) ho cl M F (ck.room.mono (by omega)) hb hv (fun σ => passAt ck.tk σ) ht) fun σ H Q q => ?_
  obtain ⟨RA, ρ, σd, B, b, l, z⟩ := tE_meth hm hd σ H Q q
  refine ⟨RA, ρ, σd, B, b, l, z.imp fun x B1 H1 a1 h v rv => ?_⟩
  obtain ⟨a, dx, fs, e1, e2, e3, RA', ρ', σd', B', b', l', z'⟩ := h v rv
  exact ⟨a, dx, fs, e1, e2, e3, Aw.here (W := W) (Wx := Wx) (σ := σ) b' (x := ([] : List D)) z' [] .nil⟩
end
end
end Dd

set_option Elab.async false
set_option linter.all false
set_option maxRecDepth 100000
set_option maxHeartbeats 2000000
/-! DdSet: sorted(set(xs)), sorted({.. for .. in ..}) of rows, over plain data -/
namespace Dd
open PySem PySem.Spec PyProof.Rows L2 Evl OwnO My
open SD (RowTy rk canon AtRow SetKO Full rSetOf rSorted cr_setOf cr_sorted sorted_canon rows_keys)

/-- rows as plain data -/
class RowE (τ : Type) [RowTy τ] where
  enc : τ → D
  dec : D → Option τ
  back : ∀ {d : D} {r : τ}, dec d = some r → d = enc r
  py : ∀ r : τ, toPy (enc r) = some (rk r).data
  tup : ∀ r : τ, ∃ l, enc r = .tup l
section
variable {τ : Type} [RowTy τ] [RowE τ]
def decL : List D → Option (List τ)
  | [] => some []
  | d :: l => (RowE.dec d).bind fun r => (decL l).map fun rs => r :: rs
theorem decL_enc : ∀ {l : List D} {ds : List τ}, decL l = some ds → l = ds.map RowE.enc
  | [], ds, h => by cases h; rfl
  | d :: l, ds, h => by
    simp only [decL] at h
    obtain ⟨r, h1, h⟩ := Option.bind_eq_some_iff.mp h
    obtain ⟨rs, h2, rfl⟩ := Option.map_eq_some_iff.mp h
    rw [RowE.back h1, decL_enc h2]; rfl
open Classical in
/-- the sorted list of a list's different rows -/
noncomputable def ssD (τ : Type) [RowTy τ] [RowE τ] (l : List D) : Option D := match decL (τ := τ) l with
  | some ds => if ds.length < 64 ∧ Full ds then some (.lst ((canon ds).map RowE.enc)) else none
  | none => none
theorem ssD_some {l : List D} {d : D} (h : ssD τ l = some d) : ∃ ds : List τ, l = ds.map RowE.enc ∧ ds.length < 64 ∧ Full ds ∧ d = .lst ((canon ds).map RowE.enc) := by
  unfold ssD at h
  split at h
  · rename_i ds e
    split at h
    · rename_i hc
      cases h
      exact ⟨ds, decL_enc e, hc.1, hc.2, rfl⟩
    · cases h
  · cases h
variable {W : Wd} {Wx : WX} {RA : List Addr} {B H : Hp}
/-- a list of rows in the heap, as places and keys -/
theorem rows_of : ∀ {ds : List τ} {vs : List V}, RepL W RA B (ds.map RowE.enc) vs → ∃ ks : List SD.Row, vs = ks.map (fun p => V.ref p.1) ∧ ks.map (·.2) = ds.map rk ∧ ∀ p ∈ ks, ∃ r ∈ ds, p.2 = rk r ∧ Rep W RA B (RowE.enc r) (.ref p.1)
  | [], vs, h => ⟨[], by rw [h.unnil]; rfl, rfl, fun p hp => (List.not_mem_nil hp).elim⟩
  | r :: ds, vs, h => by
    obtain ⟨v, us, rfl, hv, hu⟩ := RepL.uncons (show RepL W RA B (RowE.enc r :: ds.map RowE.enc) vs from h)
    obtain ⟨ks, rfl, e2, h3⟩ := rows_of hu
    obtain ⟨l, el⟩ := RowE.tup r
    have hv' := hv
    rw [el] at hv'
    simp only [Rep] at hv'
    obtain ⟨a, _, rfl, _⟩ := hv'
    refine ⟨(a, rk r) :: ks, rfl, by simp [e2], fun p hp => ?_⟩
    rcases List.mem_cons.mp hp with rfl | hp
    · exact ⟨r, by simp, rfl, hv⟩
    · obtain ⟨r', h4, h5, h6⟩ := h3 p hp
      exact ⟨r', by simp [h4], h5, h6⟩
theorem at_row (le : Ex B H) {r : τ} {a : Addr} (h : Rep W RA B (RowE.enc r) (.ref a)) : AtRow W.K H (a, rk r) := ⟨dp_of le _ _ _ h (RowE.py r), RowTy.depth r⟩
/-- the sorted rows lie there -/
theorem rep_canon {ds : List τ} {L : List SD.Row} (h2 : ∀ p ∈ L, ∃ r : τ, p.2 = rk r ∧ Rep W RA B (RowE.enc r) (.ref p.1)) (e : L.map (·.2) = (canon ds).map rk) : RepL W RA B ((canon ds).map RowE.enc) (L.map fun p => V.ref p.1) := by
  generalize canon ds = cs at e
  induction L generalizing cs with
  | nil =>
    cases cs with
    | nil => exact .nil
    | cons c cs => simp at e
  | cons p L ih =>
    cases cs with
    | nil => simp at e
    | cons c cs =>
      simp only [List.map_cons, List.cons.injEq] at e
      obtain ⟨r, h3, h4⟩ := h2 p (by simp)
      have : c = r := RowTy.inj (e.1.symm.trans h3)
      subst this
      exact .cons h4 (ih (fun q hq => h2 q (by simp [hq])) cs e.2)
/-- sorted(..) of such a set, whatever its order -/
theorem sorted_rows {K : PySem.W.Frag} {w : World} {H0 : Hp} {ρ : List D} {σ : L2.St} {ds : List τ} {L : List SD.Row} {D0 : Addr} {Q : VK} (hK : W.K = K) (a1 : Aft W RA ρ B H B H0) (full : Full ds) (hD : H0 D0 = some (SetKO w D0 L))
    (h2 : ∀ p ∈ L, ∃ r ∈ ds, p.2 = rk r ∧ Rep W RA B (RowE.enc r) (.ref p.1)) (h3 : ∀ r ∈ ds, rk r ∈ L.map (·.2)) (q : ∀ v H', Aft W RA ρ B H B H' → Fresh W RA H B H' (.lst ((canon ds).map RowE.enc)) v → Q v H') : rSorted K w [.ref D0] H0 Q := by
  subst hK
  refine ⟨D0, L, rfl, hD, fun p hp => ?_, fun p hp p' hp' => ?_, .inl fun d hd => ?_, fun L1 p pm nd hlt hp => ?_⟩
  · obtain ⟨r, _, e, hr⟩ := h2 p hp
    have := at_row a1.base.le hr
    rw [← e] at this
    exact this
  · obtain ⟨r, _, e, _⟩ := h2 p hp
    obtain ⟨r', _, e', _⟩ := h2 p' hp'
    rw [e, e']
    exact RowTy.alike r r'
  · obtain ⟨p, hp, rfl⟩ := List.mem_map.mp hd
    obtain ⟨r, hr, e, _⟩ := h2 p hp
    rw [e]
    exact full r hr
  · have e := sorted_canon (ds := ds) (fun p hp => by obtain ⟨r, h4, h5, _⟩ := h2 p hp; exact ⟨r, h4, h5⟩) h3 pm nd
    obtain ⟨o1, o2⟩ := a1.base.fresh_out hp
    have hH : H p = none := fresh_back a1.hp hp
    refine q _ _ (a1.trans (Aft.heap a1.base (Ex.new hp))) ⟨p, rfl, hH, o1, o2, _, upd_same, rep_canon (fun x hx => ?_) e⟩
    obtain ⟨r, _, h5, h6⟩ := h2 x (pm.mem_iff.mp ((List.mergeSort_perm L1 SD.le).mem_iff.mp hx))
    exact ⟨r, h5, h6⟩
end
/-- sorted(set(e)) -/
noncomputable def ssS (τ : Type) [RowTy τ] [RowE τ] (f : EF) : EF := fun ρ σ => (f ρ σ).bind fun x => match dr ρ x with
  | .lst l => ofO (ssD τ l)
  | _ => .bad
section
variable {τ : Type} [RowTy τ] [RowE τ] {X : Cx} {W : Wd} {Wx : WX} {f : EF} {e : Expr} {p p2 pos pos2 : Pos}
theorem f_sset (c : Csu X W) (hcalm : X.calm = true) (hs : X.mg "sorted" = none) (ht : X.mg "set" = none) (he : PE X e (tE W Wx f)) (hgs : Gl X "sorted" := by rfl) (hgt : Gl X "set" := by rfl)
    (h1 : starEach [e] X.env = (false, eval e X.env) :: starEach [] X.env := by rfl) (h2 : (backTo pos2 (starEach [] X.env)).any (·.1) = false := by rfl)
    (h3 : starEach [.Call (.Name "set" p2) [e] [] pos2] X.env = (false, eval (.Call (.Name "set" p2) [e] [] pos2) X.env) :: starEach [] X.env := by rfl) (h4 : (backTo pos (starEach [] X.env)).any (·.1) = false := by rfl) :
    PE X (.Call (.Name "sorted" p) [.Call (.Name "set" p2) [e] [] pos2] [] pos) (tF W Wx (ssS τ f)) := by
  have hset : PE X (.Call (.Name "set" p2) [e] [] pos2) (tCB (rSetOf X.K X.w) (tCons (tE W Wx f) tNil)) := pe_callTy (cr_setOf hcalm c.hu) hgt ht (by decide +kernel) (pa_cons he pa_nil h1) (he := h1) (hpl := h2)
  refine pe_weak (pe_callB (cr_sorted hcalm (by have := c.hu; omega)) hgs hs (by decide +kernel) (pa_cons hset pa_nil h3) (he := h3) (hpl := h4)) fun σ H Q ⟨RA, ρ, σd, B, b, l, q⟩ => ?_
  refine ⟨RA, ρ, σd, B, b, l, (Aw.bind q).imp fun d B1 H1 a1 q1 v rv => ?_⟩
  split at q1
  · rename_i l1 e1
    cases e2 : ssD τ l1 with
    | none => rw [e2] at q1; exact q1.elim
    | some d2 =>
      rw [e2] at q1
      obtain ⟨ds, rfl, hlen, full, rfl⟩ := ssD_some e2
      obtain ⟨a, vs, rfl, ha, la⟩ := view_lst a1.base rv e1
      obtain ⟨ks, rfl, ek, hk⟩ := rows_of la
      have hkl : ks.length < 64 := by
        have z := congrArg List.length ek
        rw [List.length_map, List.length_map] at z
        omega
      refine ⟨a, ks, rfl, sq_of ha, fun p hp => ?_, hkl, fun D0 L hD sub all nd => ?_⟩
      · obtain ⟨r, _, e, hr⟩ := hk p hp
        have := at_row (τ := τ) a1.base.le hr
        rw [← e, ← c.K] at this
        exact this
      · have a2 : Aft W RA ρ B1 H1 B1 (upd H1 D0 (SetKO X.w D0 L)) := Aft.heap a1.base (Ex.new hD)
        refine sorted_rows (τ := τ) (σ := σ) (ds := ds) (L := L) c.K.symm a2 full upd_same (fun p hp => hk p (sub p hp)) (fun r hr => ?_) fun v H' a3 fr => q1 B1 H' a3 v (fr.back a1.hp)
        have : rk r ∈ ks.map (·.2) := by rw [ek]; exact List.mem_map.mpr ⟨r, hr, rfl⟩
        obtain ⟨p, hp, ep⟩ := List.mem_map.mp this
        rw [← ep]
        exact all p hp
  · exact q1.elim
end

/-! ### a set comprehension, sorted -/
open SD (rAdd tScG pe_scK)
/-- sorted({f for g in fi if t}) -/
noncomputable def scS (τ : Type) [RowTy τ] [RowE τ] (fi : IF) (g : TGF) (t : TF) (f : EF) (vs : List Nat) : EF := fun ρ σ => (fi ρ σ).bind fun p => if p.1.length < 64 then (okOnly (lcL g t f ρ (wipeD σ vs) p.1)).bind fun ys => ofO (ssD τ ys) else .bad
section
variable {τ : Type} [RowTy τ] [RowE τ] {X : Cx} {W : Wd} {Wx : WX} {elt tg iter : Expr} {ifs : List Expr} {fi : IF} {g : TGF} {t : TF} {f : EF} {ws vs : List Nat}
theorem tF_sc (hK : W.K = X.K) (hs : ∀ i ∈ ws, i ∈ vs) (σ : L2.St) (H : Hp) (Q : VK) : tF W Wx (scS τ fi g t f vs) σ H Q →
    tScG (fun a => SetKO X.w a []) (rAdd X.K X.w) (tI W Wx fi) (tG W ws g) (tT W WF t) (tE W WF f) vs σ H (fun v H1 => rSorted X.K X.w [v] H1 Q) := fun ⟨RA, ρ, σd, B, b, l, q⟩ => ⟨RA, ρ, σd, B, b, l, by
  have q := Aw.bind q
  cases hf : fi ρ σd with
  | bad => rw [hf] at q; exact q
  | exc c fs => rw [hf] at q; exact q
  | ok p =>
    obtain ⟨ds, lk⟩ := p
    rw [hf] at q
    refine fun B1 H1 a1 J ij D0 hD => ?_
    have q1 := q B1 H1 a1
    dsimp only at q1
    split at q1
    · rename_i hz
      cases hl : lcL g t f ρ (wipeD σd vs) ds with
      | bad => rw [hl] at q1; exact False.elim q1
      | exc c fs => rw [hl] at q1; exact False.elim q1
      | ok ys =>
        rw [hl] at q1
        have q1 : Aw W Wx RA ρ σ B1 H1 (ofO (ssD τ ys)) fun d B' H' => ∀ v, Fresh W RA H B' H' d v → Q v H' := q1
        cases e2 : ssD τ ys with
        | none => rw [e2] at q1; exact q1.elim
        | some d2 =>
          rw [e2] at q1
          obtain ⟨all, rfl, hlen, full, rfl⟩ := ssD_some e2
          have hDout := a1.base.fresh_out hD
          have lw : LocOk W RA B1 (wipeD σd vs) (wipe σ vs) := (l.ex a1.bl).wipe vs
          let Pv : Nat → Hp → Prop := fun i H2 => ∃ (B2 : Hp) (L : List SD.Row) (zs rs : List τ), (∀ x o, B2 x = some o → B1 x = some o ∨ H1 x = none) ∧ Ex B1 B2 ∧ Ex H1 H2 ∧ Base W RA ρ B2 H2 ∧ B2 D0 = none ∧ H2 D0 = some (SetKO X.w D0 L) ∧
            (∀ p ∈ L, ∃ r ∈ zs, p.2 = rk r ∧ Rep W RA B2 (RowE.enc r) (.ref p.1)) ∧ (∀ r ∈ zs, rk r ∈ L.map (·.2)) ∧ L.length ≤ i ∧ lcL g t f ρ (wipeD σd vs) (ds.drop i) = .ok (rs.map RowE.enc) ∧ all = zs ++ rs
          refine ⟨fun i m H2 => m = ds.length - i ∧ i ≤ ds.length ∧ Pv i H2, ⟨ds.length, by simp, Nat.zero_le _, B1, [], [], all, fun _ _ h => .inl h, Ex.refl _, Ex.new hD, a1.base.upd hDout.1 hDout.2, hDout.1, upd_same, fun p hp => (List.not_mem_nil hp).elim, fun r hr => (List.not_mem_nil hr).elim, Nat.zero_le _, by simpa using hl, rfl⟩, ?_⟩
          rintro i m H2 ⟨rfl, hi, B2, L, zs, rs, bn, e1, e2', b2, hD2, hacc, hL, hzs, hlenL, hrest, hys⟩
          have it := ij i RA ρ B2 H2 b2 e1 (fun _ _ h => h) (fun r _ a o _ ho => e2' a o ho)
          by_cases hlt : i < ds.length
          · obtain ⟨go, yl⟩ := it.1 ds[i] (List.getElem?_eq_getElem hlt)
            rw [List.drop_eq_getElem_cons hlt] at hrest
            simp only [lcL] at hrest
            refine .inr ⟨go, Pv (i + 1), fun H' p => ⟨ds.length - (i + 1), by omega, rfl, hlt, p⟩, fun x H3 y => ?_⟩
            obtain ⟨B3, a3, rx⟩ := yl x H3 y
            have l3 : LocOk W RA B3 (wipeD σd vs) (wipe σ vs) := (lw.ex e1).ex a3.bl
            have out3 : ∀ {B4 H4 : Hp}, Aft W RA ρ B2 H2 B4 H4 → B4 D0 = none := fun {B4 H4} a => by
              cases e : B4 D0 with
              | none => rfl
              | some o =>
                rcases a.bn D0 o e with h | h
                · rw [hD2] at h; cases h
                · rw [hacc] at h; cases h
            have bn2 : ∀ {B4 H4 : Hp}, Aft W RA ρ B2 H2 B4 H4 → ∀ x o, B4 x = some o → B1 x = some o ∨ H1 x = none := fun {B4 H4} a x o h => by
              rcases a.bn x o h with h | h
              · exact bn x o h
              · exact .inr (fresh_back e2' h)
            have hL2 : ∀ {B4 : Hp}, Ex B2 B4 → ∀ p ∈ L, ∃ r ∈ zs, p.2 = rk r ∧ Rep W RA B4 (RowE.enc r) (.ref p.1) := fun {B4} e p hp => by
              obtain ⟨r, h1, h2, h3⟩ := hL p hp
              exact ⟨r, h1, h2, h3.ex e⟩
            split at hrest
            · cases hrest
            · rename_i σ1 e3
              refine ⟨RA, ρ, wipeD σd vs, B3, ds[i], a3.base, l3, rx, σ1, e3, fun σ4 l4 o4 => ⟨wipe_wipe o4 hs, ?_⟩⟩
              refine ⟨RA, ρ, σ1, B3, a3.base, l4, ?_⟩
              cases ht : t ρ σ1 with
              | bad => rw [ht] at hrest; cases hrest
              | exc c fs => rw [ht] at hrest; cases hrest
              | ok k =>
                rw [ht] at hrest
                simp only [Res.bind] at hrest
                refine fun B4 H4 a4 => ?_
                have a24 := a3.trans a4
                cases k with
                | false =>
                  simp only [Bool.false_eq_true, if_false] at hrest ⊢
                  exact ⟨B4, L, zs, rs, bn2 a24, e1.trans a24.bl, e2'.trans a24.hp, a4.base, out3 a24, a24.hp D0 _ hacc, hL2 a24.bl, hzs, Nat.le_succ_of_le hlenL, hrest, hys⟩
                | true =>
                  simp only [if_true] at hrest ⊢
                  refine ⟨RA, ρ, σ1, B4, a4.base, l4.ex a4.bl, ?_⟩
                  cases hf2 : f ρ σ1 with
                  | bad => rw [hf2] at hrest; cases hrest
                  | exc c fs => rw [hf2] at hrest; cases hrest
                  | ok d =>
                    rw [hf2] at hrest
                    simp only [Res.bind] at hrest
                    cases hr2 : lcL g t f ρ (wipeD σd vs) (List.drop (i + 1) ds) with
                    | bad => rw [hr2] at hrest; cases hrest
                    | exc c fs => rw [hr2] at hrest; cases hrest
                    | ok rest2 =>
                      rw [hr2] at hrest
                      obtain ⟨r0, rs2, rfl, rfl, rfl⟩ : ∃ r0 rs2, rs = r0 :: rs2 ∧ d = RowE.enc r0 ∧ rest2 = rs2.map RowE.enc := by
                        cases rs with
                        | nil => simp at hrest
                        | cons a b =>
                          simp only [List.map_cons, Res.ok.injEq, List.cons.injEq] at hrest
                          exact ⟨a, b, rfl, hrest.1, hrest.2⟩
                      refine fun B5 H5 a5 v rv => ?_
                      have a25 := a24.trans a5
                      have hD5 := out3 a25
                      have hacc5 := a25.hp D0 _ hacc
                      obtain ⟨ll, el⟩ := RowE.tup r0
                      have rv' := rv
                      rw [el] at rv'
                      simp only [Rep] at rv'
                      obtain ⟨x0, _, rfl, _⟩ := rv'
                      refine ⟨x0, rk r0, L, rfl, by rw [← hK]; exact at_row a5.base.le rv, hacc5, fun p hp => ?_, by omega, fun L' c1 c2 nd => ?_⟩
                      · obtain ⟨r, _, h2, h3⟩ := hL2 a25.bl p hp
                        have := at_row (τ := τ) a5.base.le h3
                        rw [← h2, hK] at this
                        exact this
                      · have hL5 := hL2 a25.bl
                        refine ⟨B5, L', zs ++ [r0], rs2, bn2 a25, e1.trans a25.bl, (e2'.trans a25.hp).mut hD, a5.base.upd hD5 hDout.2, hD5, upd_same, fun p hp => ?_, fun r hr => ?_, ?_, hr2, by rw [hys]; simp⟩
                        · by_cases hm : rk r0 ∈ L.map (·.2)
                          · rw [c1 hm] at hp
                            obtain ⟨r, h1, h2, h3⟩ := hL5 p hp
                            exact ⟨r, by simp [h1], h2, h3⟩
                          · rcases List.mem_cons.mp ((c2 hm).mem_iff.mp hp) with rfl | hp
                            · exact ⟨r0, by simp, rfl, rv⟩
                            · obtain ⟨r, h1, h2, h3⟩ := hL5 p hp
                              exact ⟨r, by simp [h1], h2, h3⟩
                        · by_cases hm : rk r0 ∈ L.map (·.2)
                          · rw [c1 hm]
                            rcases List.mem_append.mp hr with hr | hr
                            · exact hzs r hr
                            · rw [List.mem_singleton.mp hr]; exact hm
                          · refine ((c2 hm).map (·.2)).mem_iff.mpr ?_
                            rcases List.mem_append.mp hr with hr | hr
                            · exact List.mem_cons_of_mem _ (hzs r hr)
                            · rw [List.mem_singleton.mp hr]; simp
                        · by_cases hm : rk r0 ∈ L.map (·.2)
                          · rw [c1 hm]; omega
                          · rw [(c2 hm).length_eq]; simp; omega
          · have e : i = ds.length := by omega
            subst e
            refine .inl ⟨it.2 (Nat.le_refl _), ?_⟩
            rw [List.drop_length] at hrest
            have : rs = [] := by
              cases rs with
              | nil => rfl
              | cons a b => simp [lcL] at hrest
            subst this
            rw [List.append_nil] at hys
            subst hys
            have aft : Aft W RA ρ B1 H1 B2 H2 := ⟨e2', e1, b2, bn⟩
            exact sorted_rows (τ := τ) (σ := σ) (ds := all) hK (Aft.refl b2) full hacc hL hzs fun v H' a3 fr => q1 B2 H' (aft.trans a3) v (fr.back (a1.hp.trans e2'))
    · exact False.elim q1⟩
theorem f_ssc {scope : Scope} {own : List (Str × Nat)} {p pos pos2 : Pos} (c : Csu X W) (hc : X.calm = true) (hss : X.mg "sorted" = none) (hN : X.N.Nodup) (hi : PI X tg iter (tI W Wx fi)) (ok : BlkOk X.N X.env.scope scope own) (hws : ∀ i ∈ ws, i ∈ own.map (·.2))
    (hg : ∀ (s : Shared) (H : Hp) (C : Addr) (cl : List (Str × Addr)) (fp : List Addr), PG (X.blk s H scope (compEnvC scope cl C X.env) fp) tg (tG W ws g)) (ht : ∀ (s : Shared) (H : Hp) (C : Addr) (cl : List (Str × Addr)) (fp : List Addr), PTs (X.blk s H scope (compEnvC scope cl C X.env) fp) ifs (tT W WF t))
    (he : ∀ (s : Shared) (H : Hp) (C : Addr) (cl : List (Str × Addr)) (fp : List Addr), PE (X.blk s H scope (compEnvC scope cl C X.env) fp) elt (tE W WF f)) (hs : ∀ x, foldedSetIterable iter X.env x = pure x := by intro _; rfl) (hgs : Gl X "sorted" := by rfl)
    (h3 : starEach [.SetComp elt [⟨tg, iter, ifs, 0⟩] scope pos2] X.env = (false, eval (.SetComp elt [⟨tg, iter, ifs, 0⟩] scope pos2) X.env) :: starEach [] X.env := by rfl) (h4 : (backTo pos (starEach [] X.env)).any (·.1) = false := by rfl) :
    PE X (.Call (.Name "sorted" p) [.SetComp elt [⟨tg, iter, ifs, 0⟩] scope pos2] [] pos) (tF W Wx (scS τ fi g t f (own.map (·.2)))) :=
  pe_weak (pe_callB (cr_sorted hc (by have := c.hu; omega)) hgs hss (by decide +kernel) (pa_cons (pe_scK (by have := c.hu; omega) hc hN hi ok hg ht he hs) pa_nil h3) (he := h3) (hpl := h4)) (tF_sc c.K.symm hws)
end
end Dd

set_option Elab.async false
set_option linter.all false
set_option maxRecDepth 100000
set_option maxHeartbeats 2000000
/-! DdDct: dict comprehensions by data: keys ints or texts, all different -/
namespace Dd
open PySem PySem.Spec PyProof.Rows L2 Evl OwnO My

def dcL (g : TGF) (t : TF) (fk fv : EF) (ρ : List D) (σ : Env) : List D → Res (List (L2.Key × D))
  | [] => .ok []
  | d :: ds => match g ρ d σ with
    | none => .bad
    | some σ1 => (t ρ σ1).bind fun k => if k = true then (fk ρ σ1).bind fun y => (fv ρ σ1).bind fun z => (ofO (keyD (dr ρ y))).bind fun j => (dcL g t fk fv ρ σ ds).bind fun r => .ok ((j, z) :: r) else dcL g t fk fv ρ σ ds
/-- {fk: fv for g in fi if t}; vs: the block's own slots -/
def dcS (fi : IF) (g : TGF) (t : TF) (fk fv : EF) (vs : List Nat) : EF := fun ρ σ => (fi ρ σ).bind fun p => if p.1.length ≤ 100000 then
  (okOnly (dcL g t fk fv ρ (wipeD σ vs) p.1)).bind fun r => if (r.map (·.1)).Nodup then .ok (.dct (r.map (·.1)) (r.map (·.2))) else .bad else .bad
theorem valV_off {kvs : List (L2.Key × V)} {k : L2.Key} (h : k ∉ kvs.map (·.1)) : valV kvs k = none := by
  unfold valV
  rw [Option.map_eq_none_iff, List.find?_eq_none]
  intro x hx e
  exact h (List.mem_map.mpr ⟨x, hx, of_decide_eq_true e⟩)
section
variable {X : Cx} {W : Wd} {Wx : WX} {kx vx tg iter : Expr} {ifs : List Expr} {fi : IF} {g : TGF} {t : TF} {fk fv : EF} {ws vs : List Nat}
theorem tF_dc (hs : ∀ i ∈ ws, i ∈ vs) (σ : L2.St) (H : Hp) (Q : VK) : tF W Wx (dcS fi g t fk fv vs) σ H Q → tDc (tI W Wx fi) (tG W ws g) (tT W WF t) (tE W WF fk) (tE W WF fv) vs σ H Q := fun ⟨RA, ρ, σd, B, b, l, q⟩ => ⟨RA, ρ, σd, B, b, l, by
  have q := Aw.bind q
  cases hf : fi ρ σd with
  | bad => rw [hf] at q; exact q
  | exc c fs => rw [hf] at q; exact q
  | ok p =>
    obtain ⟨ds, lk⟩ := p
    rw [hf] at q
    refine fun B1 H1 a1 J ij D0 hD => ?_
    have q1 := q B1 H1 a1
    dsimp only at q1
    split at q1
    case isFalse => exact False.elim q1
    rename_i hz
    cases hl : dcL g t fk fv ρ (wipeD σd vs) ds with
    | bad => rw [hl] at q1; exact False.elim q1
    | exc c fs => rw [hl] at q1; exact False.elim q1
    | ok ys =>
      rw [hl] at q1
      simp only [okOnly, Res.bind] at q1
      split at q1
      case isFalse => exact False.elim q1
      rename_i hnd
      have q1 : ∀ B' H', Aft W RA ρ B1 H1 B' H' → ∀ v, Fresh W RA H B' H' (.dct (ys.map (·.1)) (ys.map (·.2))) v → Q v H' := q1
      have hDout := a1.base.fresh_out hD
      have lw : LocOk W RA B1 (wipeD σd vs) (wipe σ vs) := (l.ex a1.bl).wipe vs
      let Pv : Nat → Hp → Prop := fun i H2 => ∃ (B2 : Hp) (kvs : List (L2.Key × V)) (zs rest : List (L2.Key × D)), (∀ x o, B2 x = some o → B1 x = some o ∨ H1 x = none) ∧ Ex B1 B2 ∧ Ex H1 H2 ∧ Base W RA ρ B2 H2 ∧ B2 D0 = none ∧ H2 D0 = some (.dK kvs) ∧
        kvs.map (·.1) = zs.map (·.1) ∧ RepL W RA B2 (zs.map (·.2)) (kvs.map (·.2)) ∧ zs.length ≤ i ∧ dcL g t fk fv ρ (wipeD σd vs) (ds.drop i) = .ok rest ∧ ys = zs ++ rest
      refine ⟨fun i m H2 => m = ds.length - i ∧ i ≤ ds.length ∧ Pv i H2, ⟨ds.length, by simp, Nat.zero_le _, B1, [], [], ys, fun _ _ h => .inl h, Ex.refl _, Ex.new hD, a1.base.upd hDout.1 hDout.2, hDout.1, upd_same, rfl, .nil, Nat.zero_le _, by simpa using hl, rfl⟩, ?_⟩
      rintro i m H2 ⟨rfl, hi, B2, kvs, zs, rest, bn, e1, e2, b2, hD2, hacc, hks, hzs, hlen, hrest, hys⟩
      have it := ij i RA ρ B2 H2 b2 e1 (fun _ _ h => h) (fun r _ a o _ ho => e2 a o ho)
      by_cases hlt : i < ds.length
      · obtain ⟨go, yl⟩ := it.1 ds[i] (List.getElem?_eq_getElem hlt)
        rw [List.drop_eq_getElem_cons hlt] at hrest
        simp only [dcL] at hrest
        refine .inr ⟨go, Pv (i + 1), fun H' p => ⟨ds.length - (i + 1), by omega, rfl, hlt, p⟩, fun x H3 y => ?_⟩
        obtain ⟨B3, a3, rx⟩ := yl x H3 y
        have l3 : LocOk W RA B3 (wipeD σd vs) (wipe σ vs) := (lw.ex e1).ex a3.bl
        have out3 : ∀ {B4 H4 : Hp}, Aft W RA ρ B2 H2 B4 H4 → B4 D0 = none := fun {B4 H4} a => by
          cases e : B4 D0 with
          | none => rfl
          | some o =>
            rcases a.bn D0 o e with h | h
            · rw [hD2] at h; cases h
            · rw [hacc] at h; cases h
        have bn2 : ∀ {B4 H4 : Hp}, Aft W RA ρ B2 H2 B4 H4 → ∀ x o, B4 x = some o → B1 x = some o ∨ H1 x = none := fun {B4 H4} a x o h => by
          rcases a.bn x o h with h | h
          · exact bn x o h
          · exact .inr (fresh_back e2 h)
        split at hrest
        · cases hrest
        · rename_i σ1 e3
          refine ⟨RA, ρ, wipeD σd vs, B3, ds[i], a3.base, l3, rx, σ1, e3, fun σ4 l4 o4 => ⟨wipe_wipe o4 hs, ?_⟩⟩
          refine ⟨RA, ρ, σ1, B3, a3.base, l4, ?_⟩
          cases ht : t ρ σ1 with
          | bad => rw [ht] at hrest; cases hrest
          | exc c fs => rw [ht] at hrest; cases hrest
          | ok k =>
            rw [ht] at hrest
            simp only [Res.bind] at hrest
            refine fun B4 H4 a4 => ?_
            have a24 := a3.trans a4
            cases k with
            | false =>
              simp only [Bool.false_eq_true, if_false] at hrest ⊢
              exact ⟨B4, kvs, zs, rest, bn2 a24, e1.trans a24.bl, e2.trans a24.hp, a4.base, out3 a24, a24.hp D0 _ hacc, hks, hzs.ex a24.bl, Nat.le_succ_of_le hlen, hrest, hys⟩
            | true =>
              simp only [if_true] at hrest ⊢
              refine ⟨RA, ρ, σ1, B4, a4.base, l4.ex a4.bl, ?_⟩
              cases hf2 : fk ρ σ1 with
              | bad => rw [hf2] at hrest; cases hrest
              | exc c fs => rw [hf2] at hrest; cases hrest
              | ok dk =>
                rw [hf2] at hrest
                simp only [Res.bind] at hrest
                cases hf3 : fv ρ σ1 with
                | bad => rw [hf3] at hrest; cases hrest
                | exc c fs => rw [hf3] at hrest; cases hrest
                | ok dv =>
                  rw [hf3] at hrest
                  simp only [] at hrest
                  cases hkey : keyD (dr ρ dk) with
                  | none => rw [hkey] at hrest; cases hrest
                  | some j =>
                    rw [hkey] at hrest
                    simp only [ofO, Res.bind] at hrest
                    cases hr2 : dcL g t fk fv ρ (wipeD σd vs) (List.drop (i + 1) ds) with
                    | bad => rw [hr2] at hrest; cases hrest
                    | exc c fs => rw [hr2] at hrest; cases hrest
                    | ok rest2 =>
                      rw [hr2] at hrest
                      cases hrest
                      refine fun B5 H5 a5 vk rvk => ⟨RA, ρ, σ1, B5, a5.base, (l4.ex a4.bl).ex a5.bl, ?_⟩
                      rw [hf3]
                      refine fun B6 H6 a6 vv rvv => ?_
                      have a26 := (a24.trans a5).trans a6
                      have hD6 := out3 a26
                      have hacc6 := a26.hp D0 _ hacc
                      have hj : j ∉ kvs.map (·.1) := by
                        rw [hks]
                        rw [hys, List.map_append, List.map_cons, List.nodup_append] at hnd
                        exact fun z => hnd.2.2 j z j (List.mem_cons_self ..) rfl
                      refine ⟨kvs, j, keyD_V a5.base rvk hkey, hacc6, sz_lt (by have := hzs.len; simp only [List.length_map] at this; omega), ?_⟩
                      rw [putK_new vv (valV_off hj)]
                      refine ⟨B6, kvs ++ [(j, vv)], zs ++ [(j, dv)], rest2, bn2 a26, e1.trans a26.bl, (e2.trans a26.hp).mut hD, a6.base.upd hD6 hDout.2, hD6, upd_same, by simp [hks], ?_, by rw [List.length_append]; exact Nat.succ_le_succ hlen, hr2, by rw [hys]; simp⟩
                      rw [List.map_append, List.map_append]
                      exact (hzs.ex a26.bl).append (.cons rvv .nil)
      · have e : i = ds.length := by omega
        subst e
        refine .inl ⟨it.2 (Nat.le_refl _), ?_⟩
        rw [List.drop_length] at hrest
        cases hrest
        rw [List.append_nil] at hys
        subst hys
        exact q1 B2 H2 ⟨e2, e1, b2, bn⟩ _ ⟨D0, rfl, fresh_back a1.hp hD, hD2, hDout.2, kvs, hacc, hks, hzs⟩⟩
theorem f_dc {scope : Scope} {own : List (Str × Nat)} {pos : Pos} (hc : X.calm = true) (hN : X.N.Nodup) (hi : PI X tg iter (tI W Wx fi)) (ok : BlkOk X.N X.env.scope scope own) (hws : ∀ i ∈ ws, i ∈ own.map (·.2))
    (hg : ∀ (s : Shared) (H : Hp) (C : Addr) (cl : List (Str × Addr)) (fp : List Addr), PG (X.blk s H scope (compEnvC scope cl C X.env) fp) tg (tG W ws g)) (ht : ∀ (s : Shared) (H : Hp) (C : Addr) (cl : List (Str × Addr)) (fp : List Addr), PTs (X.blk s H scope (compEnvC scope cl C X.env) fp) ifs (tT W WF t))
    (hk : ∀ (s : Shared) (H : Hp) (C : Addr) (cl : List (Str × Addr)) (fp : List Addr), PE (X.blk s H scope (compEnvC scope cl C X.env) fp) kx (tE W WF fk))
    (he : ∀ (s : Shared) (H : Hp) (C : Addr) (cl : List (Str × Addr)) (fp : List Addr), PE (X.blk s H scope (compEnvC scope cl C X.env) fp) vx (tE W WF fv)) (hs : ∀ x, foldedSetIterable iter X.env x = pure x := by intro _; rfl) :
    PE X (.DictComp kx vx [⟨tg, iter, ifs, 0⟩] scope pos) (tF W Wx (dcS fi g t fk fv (own.map (·.2)))) := pe_weak (pe_dc hc hN hi ok hg ht hk he hs) (tF_dc hws)
end
end Dd

set_option Elab.async false
set_option linter.all false
set_option maxRecDepth 100000
set_option maxHeartbeats 4000000
/-! DdInt: sorted(set(xs)) of ints, over plain data -/
namespace Dd
open PySem PySem.Spec PyProof.Rows L2 Evl OwnO My
open SD (emptySet)

section
variable {P : Program} {w : World} {A : Around} {E : Value → Shared → Prop}
/-- set.__init__ of a list of ints, the new set at D -/
theorem init_ints {l : Addr} {items : Array Value} (ns : List Int) (hh : A.handled = none) {s : Shared} {h0 : Heap} {D : Addr} (hl : s.heap.IsList l items) (hS : s.heap.get? D = some (emptySet w)) (hlD : l ≠ D) (hit : IntsAre items.toList ns)
    (old : ∀ b o, h0.get? b = some o → s.heap.get? b = some o) (hD0 : h0.get? D = none) (hz : h0.objs.size ≤ s.heap.objs.size) (hb : ns.length + 1 < scanBound) {Q : Fin → Shared → Prop}
    (h : ∀ (h' : Heap) (tk c : Nat), SetR w h' D (fun j => decide (j ∈ ns)) c → c ≤ ns.length → (∀ b o, h0.get? b = some o → h'.get? b = some o) → Q (.done (.ret .none)) { s with heap := h', toks := tk }) :
    wpAny (model P w) A (Builtin.«set.__init__» ⟨[.ref D, .ref l], []⟩) Q E s := by
  have hl0 := hl
  obtain ⟨ol, hol, hcl, nl, hdl⟩ := hl
  obtain ⟨ocls, odict, odata, oslots⟩ := ol
  simp only at hcl hdl
  subst hcl
  subst hdl
  have hT : s.TypeIs (.ref D) "set" := ⟨_, hS, rfl⟩
  have hsls := F.sub_list_set
  have hslf := F.sub_list_frozenset
  have hne : (Value.type "list" == Value.type "dict") = false := by decide
  unfold Builtin.«set.__init__» noKeywords Builtin.Frozenset.updateFrom
  generalize hPI : pyIter = PI
  wp_walk
  subst hPI
  have hlD' : l < s.heap.objs.size := Heap.lt_size hol
  have hDD : D < s.heap.objs.size := Heap.lt_size hS
  refine wpAny_pyIter_list hl0 (wpAny_bind (wpAny_runValue ?_))
  have hn : items.size = ns.length := by have q := IntsAre.length hit; rwa [Array.length_toList] at q
  have hval : ∀ (i : Nat) (v : Value), items[i]? = some v → ∃ k t, ns[i]? = some k ∧ v = .int k t := fun i v hv => by
    have hi : i < ns.length := by rw [← hn]; exact (Array.getElem?_eq_some_iff.mp hv).1
    obtain ⟨t, e⟩ := PyProof.Rows.IntsAre.int_at hit i v (by rw [Array.getElem?_toList]; exact hv)
    refine ⟨ns[i], t, List.getElem?_eq_getElem hi, ?_⟩
    rw [e, List.getD_eq_getElem?_getD, List.getElem?_eq_getElem hi]
    rfl
  have hDn : D ∉ [s.heap.objs.size, l] := by
    simp only [List.mem_cons, List.not_mem_nil, or_false, not_or]
    exact ⟨Nat.ne_of_lt hDD, Ne.symm hlD⟩
  refine set_update_ints ((Walks.list (by simp [hh]) _ l (Nat.ne_of_lt hlD') items).toS) D hDn ns hn hb hval (items.size - 0) 0 _ (by omega) (Nat.zero_le _) ⟨⟨_, Heap.get?_push_size _ rfl, rfl, rfl⟩, (hl0.push _)⟩ ⟨0, Nat.le_refl 0, setR_new_at (Heap.get?_push_of_some _ hS)⟩ fun s' c hm hc hS' => ?_
  obtain ⟨h', g2, d', tk', os'⟩ := s'
  obtain rfl : g2 = s.gens := hm.gens
  obtain rfl : d' = s.drawn := hm.drawn
  obtain rfl : os' = s.os := hm.os
  rw [hn] at hc
  refine wpAny_pure (wpAny_pure (h h' tk' c hS' hc fun b o e => hm.heap b o (fun hb => ?_) (Heap.get?_push_of_some _ (old b o e))))
  simp only [List.mem_cons, List.not_mem_nil, or_false] at hb
  rcases hb with rfl | rfl
  · rw [hD0] at e; cases e
  · exact absurd (Nat.lt_of_lt_of_le (Heap.lt_size e) hz) (Nat.lt_irrefl _)
set_option maxHeartbeats 3200000 in
/-- set(xs), xs a list of ints -/
theorem call_set_ints {s : Shared} {l : Addr} {items : Array Value} (ns : List Int) {Q : Value → Shared → Prop} (hh : A.handled = none) (hl : s.heap.IsList l items) (hit : IntsAre items.toList ns) (hb : ns.length + 1 < scanBound)
    (h : ∀ (h' : Heap) (tk c : Nat), SetR w h' s.heap.objs.size (fun j => decide (j ∈ ns)) c → c ≤ ns.length → (∀ b o, s.heap.get? b = some o → h'.get? b = some o) → Q (.ref s.heap.objs.size) { s with heap := h', toks := tk }) :
    wpAny (model P w) A (call (.type "set") [.ref l]) Q E s := by
  obtain ⟨c, tl, hmro⟩ := F.called_set.mro
  have hmade := F.called_set.made
  have hsub := F.called_set.sub
  have h1 := F.called_set.notType
  have h2 := F.called_set.canCreate
  have hct := F.typeCall_set_1 (.ref l)
  refine wpAny_call (codeAny_of_tree ?_)
  show wpAny _ _ (callAny (.type "set") _) _ _ _
  refine wpAny_pure ⟨Code.quiet_builtin _ (by decide +kernel), codeAny_builtin F.entry_type_call ?_⟩
  rw [Around.under_plain (weight_type_call_type "set" [.ref l] []) rfl]
  repeat (any_goals (first | assumption | wp_step))
  refine codeAny_mono (code_set_led1 (.ref l) (E := E) (Q₁ := fun obj s₁ => obj = .ref s.heap.objs.size ∧ s₁ = { s with heap := s.heap.push (emptySet w) }) ⟨rfl, rfl⟩) fun r s₁ hr => ?_
  cases r with
  | error e => exact hr
  | ok f =>
    cases f with
    | ret obj =>
      obtain ⟨rfl, rfl⟩ := hr
      have hS : (s.heap.push (emptySet w)).get? s.heap.objs.size = some (emptySet w) := Heap.get?_push_size _ rfl
      have hT : Shared.TypeIs { s with heap := s.heap.push (emptySet w) } (.ref s.heap.objs.size) "set" := ⟨_, hS, rfl⟩
      have hli := F.called_set.init.lookup
      have hbi := F.called_set.init.bind (.ref s.heap.objs.size)
      repeat (any_goals (first | assumption | wp_step))
      refine codeAny_mono (codeAny_call_builtin (R := wants (fun r s₂ => r = .none ∧ ∃ h' tk c, s₂ = { s with heap := h', toks := tk } ∧ SetR w h' s.heap.objs.size (fun j => decide (j ∈ ns)) c ∧ c ≤ ns.length ∧
          (∀ b o, s.heap.get? b = some o → h'.get? b = some o)) E) F.called_set.init.plain F.entry_set_init (check_set_init_1 hT ?_)) fun r₂ s₂ hr₂ => ?_
      · have hlt : l < s.heap.objs.size := let ⟨_, ho, _⟩ := hl; Heap.lt_size ho
        have hl2 : (s.heap.push (emptySet w)).IsList l items := let ⟨o, ho, r⟩ := hl; ⟨o, Heap.get?_push_of_some _ ho, r⟩
        refine init_ints (s := { s with heap := s.heap.push (emptySet w) }) (h0 := s.heap) ns (by simp [hh]) hl2 hS (Nat.ne_of_lt hlt) hit (fun b o e => Heap.get?_push_of_some _ e) ?_ (by show _ ≤ (s.heap.push _).objs.size; rw [Heap.size_push]; exact Nat.le_succ _) hb
          fun h' tk c K g old => ⟨rfl, h', tk, c, rfl, K, g, old⟩
        cases q : s.heap.get? s.heap.objs.size with
        | none => rfl
        | some o => exact absurd (Heap.lt_size q) (Nat.lt_irrefl _)
      · cases r₂ with
        | error e => exact hr₂
        | ok f₂ =>
          cases f₂ with
          | ret r =>
            obtain ⟨rfl, h', tk, c, rfl, K, g, old⟩ := hr₂
            repeat (any_goals (first | assumption | wp_step))
            exact h _ _ _ K g old
          | _ => exact hr₂.elim
    | _ => exact hr.elim
end
section
variable {X : Cx}
/-- set(xs) of ints -/
def rSetI (K : PySem.W.Frag) (w : World) : List V → Hp → VK → Prop := fun xs H Q => ∃ (l : Addr) (ns : List Int), xs = [V.ref l] ∧ SqL K H l (ns.map V.int) ∧ ns.length < 64 ∧ ∀ a c, H a = none → c ≤ ns.length → Q (.ref a) (upd H a (SetO w a (fun j => decide (j ∈ ns)) c))
theorem cr_setI (hc : X.calm = true) : CallR X (.type "set") (rSetI X.K X.w) := by
  intro pins s σ H xs us Q I r h
  obtain ⟨l, ns, rfl, hl, hf, q⟩ := h
  rw [Vals.ref1 r]
  obtain ⟨its, rv, pl, hz⟩ := I.list hl
  have hi : IntsAre its ns := ints_of_vals rv
  refine call_set_ints (P := X.prog) (w := X.w) ns (I.ok.hd hc) pl.isList (by simpa using hi) (by unfold scanBound; omega) fun h' tk c R g old => ?_
  exact ⟨.ref s.heap.objs.size, upd H s.heap.objs.size (SetO X.w s.heap.objs.size (fun j => decide (j ∈ ns)) c), I.laid (t' := tk) old (Nat.le_refl _) (setO_new R), rfl, q _ c (I.hok.fresh (Nat.le_refl _)) g⟩
end

/-! ### the ascending list of a list's different ints -/
def insI (x : Int) : List Int → List Int
  | [] => [x]
  | y :: l => if x = y then y :: l else if x < y then x :: y :: l else y :: insI x l
def siL (l : List Int) : List Int := l.foldr insI []
theorem mem_insI {x z : Int} : ∀ {l : List Int}, z ∈ insI x l ↔ z = x ∨ z ∈ l
  | [] => by simp [insI]
  | y :: l => by
    unfold insI
    by_cases h : x = y
    · rw [if_pos h, h]; simp
    · rw [if_neg h]
      by_cases h2 : x < y
      · rw [if_pos h2]; simp
      · rw [if_neg h2, List.mem_cons, mem_insI, List.mem_cons]
        constructor
        · rintro (z | z | z)
          · exact .inr (.inl z)
          · exact .inl z
          · exact .inr (.inr z)
        · rintro (z | z | z)
          · exact .inr (.inl z)
          · exact .inl z
          · exact .inr (.inr z)
theorem asc_insI {x : Int} : ∀ {l : List Int}, l.Pairwise (· < ·) → (insI x l).Pairwise (· < ·)
  | [], _ => List.pairwise_singleton _ _
  | y :: l, h => by
    obtain ⟨h1, h2⟩ := List.pairwise_cons.mp h
    unfold insI
    by_cases e : x = y
    · rw [if_pos e]; exact h
    · rw [if_neg e]
      by_cases e2 : x < y
      · rw [if_pos e2]
        refine List.pairwise_cons.mpr ⟨fun z hz => ?_, h⟩
        rcases List.mem_cons.mp hz with e3 | hz
        · omega
        · have := h1 z hz; omega
      · rw [if_neg e2]
        refine List.pairwise_cons.mpr ⟨fun z hz => ?_, asc_insI h2⟩
        rcases mem_insI.mp hz with e3 | hz
        · omega
        · exact h1 z hz
theorem mem_siL {z : Int} : ∀ {l : List Int}, z ∈ siL l ↔ z ∈ l
  | [] => by simp [siL]
  | x :: l => by
    show z ∈ insI x (siL l) ↔ _
    rw [mem_insI, mem_siL, List.mem_cons]
theorem asc_siL : ∀ {l : List Int}, (siL l).Pairwise (· < ·)
  | [] => List.Pairwise.nil
  | x :: l => asc_insI (asc_siL (l := l))
theorem asc_ext : ∀ {a b : List Int}, a.Pairwise (· < ·) → b.Pairwise (· < ·) → (∀ x, x ∈ a ↔ x ∈ b) → a = b
  | [], [], _, _, _ => rfl
  | [], y :: b, _, _, h => by simpa using (h y)
  | x :: a, [], _, _, h => by simpa using (h x)
  | x :: a, y :: b, ha, hb, h => by
    obtain ⟨a1, a2⟩ := List.pairwise_cons.mp ha
    obtain ⟨b1, b2⟩ := List.pairwise_cons.mp hb
    have e : x = y := by
      rcases List.mem_cons.mp ((h x).mp List.mem_cons_self) with e | e
      · exact e
      · rcases List.mem_cons.mp ((h y).mpr List.mem_cons_self) with e2 | e2
        · exact e2.symm
        · have := a1 y e2; have := b1 x e; omega
    subst e
    refine congrArg (x :: ·) (asc_ext a2 b2 fun z => ⟨fun hz => ?_, fun hz => ?_⟩)
    · rcases List.mem_cons.mp ((h z).mp (List.mem_cons_of_mem _ hz)) with e | e
      · rw [e] at hz; have := a1 x hz; omega
      · exact e
    · rcases List.mem_cons.mp ((h z).mpr (List.mem_cons_of_mem _ hz)) with e | e
      · rw [e] at hz; have := b1 x hz; omega
      · exact e
/-- sorted(set(e)) of ints -/
def siQ (d : D) : Option D := match d with
  | .lst l => (intsD l).bind fun ns => if ns.length < 64 then some (.lst ((siL ns).map .int)) else none
  | _ => none
def siS (f : EF) : EF := fun ρ σ => (f ρ σ).bind fun x => ofO (siQ (dr ρ x))
section
variable {X : Cx} {W : Wd} {Wx : WX} {f : EF} {e : Expr} {p p2 pos pos2 : Pos}
theorem f_sseti (c : Csu X W) (hcalm : X.calm = true) (hs : X.mg "sorted" = none) (ht : X.mg "set" = none) (he : PE X e (tE W Wx f)) (hgs : Gl X "sorted" := by rfl) (hgt : Gl X "set" := by rfl)
    (h1 : starEach [e] X.env = (false, eval e X.env) :: starEach [] X.env := by rfl) (h2 : (backTo pos2 (starEach [] X.env)).any (·.1) = false := by rfl)
    (h3 : starEach [.Call (.Name "set" p2) [e] [] pos2] X.env = (false, eval (.Call (.Name "set" p2) [e] [] pos2) X.env) :: starEach [] X.env := by rfl) (h4 : (backTo pos (starEach [] X.env)).any (·.1) = false := by rfl) :
    PE X (.Call (.Name "sorted" p) [.Call (.Name "set" p2) [e] [] pos2] [] pos) (tF W Wx (siS f)) := by
  have hset : PE X (.Call (.Name "set" p2) [e] [] pos2) (tCB (rSetI X.K X.w) (tCons (tE W Wx f) tNil)) := pe_callTy (cr_setI hcalm) hgt ht (by decide +kernel) (pa_cons he pa_nil h1) (he := h1) (hpl := h2)
  refine pe_weak (pe_callB (cr_sortedSet hcalm) hgs hs (by decide +kernel) (pa_cons hset pa_nil h3) (he := h3) (hpl := h4)) fun σ H Q ⟨RA, ρ, σd, B, b, l, q⟩ => ?_
  refine ⟨RA, ρ, σd, B, b, l, (Aw.bind q).imp fun d B1 H1 a1 q1 v rv => ?_⟩
  cases e1 : dr ρ d with
  | lst l1 =>
    rw [e1] at q1
    simp only [siQ] at q1
    cases e2 : intsD l1 with
    | none => rw [e2] at q1; exact q1.elim
    | some ns =>
      rw [e2] at q1
      simp only [Option.bind_some] at q1
      split at q1
      case isFalse => exact q1.elim
      rename_i hlen
      obtain ⟨a, vs, rfl, ha, la⟩ := view_lst a1.base rv e1
      have ev := ints_V la e2
      subst ev
      refine ⟨a, ns, rfl, by rw [c.K]; exact sq_of ha, hlen, fun D0 n hD hn => ⟨D0, _, n, rfl, upd_same, by omega, fun ms p h1 h2 h3 hp => ?_⟩⟩
      have em : ms = siL ns := asc_ext h1 asc_siL fun x => by rw [h2, mem_siL]; simp
      subst em
      have hp1 : H1 p = none := by
        by_cases e : p = D0
        · subst e; exact hD
        · rwa [upd_ne e] at hp
      have hpD : p ≠ D0 := fun e => by subst e; rw [upd_same] at hp; cases hp
      have a2 : Aft W RA ρ B1 H1 B1 (upd H1 D0 (SetO X.w D0 (fun j => decide (j ∈ ns)) n)) := Aft.heap a1.base (Ex.new hD)
      have a3 : Aft W RA ρ B1 H1 B1 (upd (upd H1 D0 (SetO X.w D0 (fun j => decide (j ∈ ns)) n)) p (.lst ((siL ns).map V.int))) := a2.trans (Aft.heap a2.base (Ex.new hp))
      obtain ⟨o1, o2⟩ := a1.base.fresh_out hp1
      exact q1 B1 _ a3 _ ⟨p, rfl, fresh_back a1.hp hp1, o1, o2, _, upd_same, repL_ints _⟩
  | _ => rw [e1] at q1; exact q1.elim
end
end Dd

set_option Elab.async false
set_option linter.all false
set_option maxRecDepth 100000
set_option maxHeartbeats 2000000
/-! DdStat: C.m(..), m a static method of an own class; max(xs, default=e) -/
namespace Dd
open PySem PySem.Spec PyProof.Rows L2 Evl OwnO My

/-- C.m is the def at f -/
structure SMet (K : PySem.W.Frag) (C : Addr) (m : Str) (f : Addr) : Prop where
  at_ : ∃ p rest, PySem.W.findCls K (.ref C) (.type "type") m = some (.get (.builtin "staticmethod.__get__") (.ref p) .none (.ref C)) ∧ PySem.W.recIn K p "staticmethod" = some (.ref f :: rest)
  rd : PySem.W.readsIn K C (.type "type") = true
  ga : PySem.W.specialIn K (.ref C) "__getattribute__" = some (some (.builtin "type.__getattribute__"))
  kp : PySem.W.keepIn K (.ref f) = true
section
variable {X : Cx} {C f : Addr} {m x : Str} {k : Nat} {fd : FuncData} {ps : List Str} {sp : Sp} {dvs : List V} {ds : List Value} {p pos apos : Pos} {e : Expr} {es : List Expr} {t : TA}
theorem smet_got {pl : Sem Bool} {pins : List (Addr × Obj)} {σ : L2.St} {H : Hp} {s : Shared} {A : Around} {E : Value → Shared → Prop} {Q : Value × List Value → Shared → Prop} (I : L2.Inv X pins σ H s) (c : SMet X.K C m f) (h : ∀ s', L2.Inv X pins σ H s' → Q (.ref f, []) s') :
    wpAny (model X.prog X.w) A (getMethod (.ref C) m pl) Q E s := by
  obtain ⟨q, rest, h1, h2⟩ := c.at_
  refine PySem.W.method_cls I.kIn c.ga (PySem.W.cls_bind I.kIn c.rd h1 ?_)
  refine wpAny_call (PySem.W.sm_get (s := { s with toks := s.toks + 1 }) I.kIn h2 (PySem.W.handed_on rfl ?_))
  exact h _ (I.tok _)
theorem pe_smeth {E : L2.St → XK} {pl : Sem Bool} (c : SMet X.K C m f) (F : FnOk X.prog X.w X.K X.mg X.base (L2.CX X.prog X.w) k f fd ps sp) (hr : Room k X.A) (hg : Gl X x) (hm : X.mg x = some (.ref C)) (hb : Binds X.K fd ps ds) (hd : Vals dvs ds) (hx : ∀ σ, PassesAt (L2.CX X.prog X.w) X σ (E σ)) (ha : PA X (e :: es) t)
    (hdb : (x == ("__debug__" : Str)) = false := by decide) (hst : starEach (e :: es) X.env = (false, eval e X.env) :: starEach es X.env := by rfl) (hpl : (backTo pos (starEach es X.env)).any (·.1) = false := by rfl)
    (ht : eval (.Call (.Attribute (.Name x p) m apos) (e :: es) [] pos) X.env = (do
      let ov ← eval (.Name x p) X.env
      standAt apos.atName
      let (f, first) ← holding [ov] (getMethod ov m pl)
      callWith pos f first (backTo pos (starEach (e :: es) X.env)) (backToKw pos (keywordEach [] X.env))) := by rfl) :
    PE X (.Call (.Attribute (.Name x p) m apos) (e :: es) [] pos) (fun σ H Q => t σ H fun vs H1 => sp (vs ++ dvs) H1 Q (E σ)) := ⟨fun pins s σ H Q I h => by
  refine PySem.W.methodCall_KW (pl := pl) (ld_glob I hg hm ?_ hdb) ht
  refine smet_got I c fun s1 I1 => ?_
  refine PySem.W.callWith_K (h₀ := X.base) I.ok.mod.kin c.kp (thn (ha.run pos pins s1 σ H _ I1 h) fun us s2 ⟨vs, H1, I2, r, q⟩ => ⟨I2.kIn, ?_⟩) hst hpl
  exact run_fnSD F hr hb hd (hx σ) I2 r q⟩
end
/-- a static method m of the class that x names keeps to function g -/
structure HasS (P : Program) (w : World) (K : PySem.W.Frag) (mg : Str → Option Value) (base : Heap) (W : Wd) (T : Nat → Option Fn) (n : Nat) (x m : Str) (g : Nat) (dvs : List V) : Prop where
  ex : ∃ C f fd ps ds, FnOk P w K mg base (L2.CX P w) (4 * n) f fd ps (spF W T n g) ∧ SMet K C m f ∧ mg x = some (.ref C) ∧ Binds K fd ps ds ∧ Vals dvs ds
section
variable {X : Cx} {W : Wd} {Wx : WX} {T : Nat → Option Fn} {n g : Nat} {x m : Str} {e : Expr} {es : List Expr} {fa : AF} {pos p apos : Pos} {dvs : List V} {dd : List D}
theorem d_stat {pl : Sem Bool} (c : Cok X W Wx n) (hf : HasS X.prog X.w X.K X.mg X.base W T n x m g dvs) (hd : ∀ RA B, RepL W RA B dd dvs) (ha : PA X (e :: es) (tA W Wx fa)) (hg : Gl X x := by rfl)
    (hdb : (x == ("__debug__" : Str)) = false := by decide) (he : starEach (e :: es) X.env = (false, eval e X.env) :: starEach es X.env := by rfl) (hpl : (backTo pos (starEach es X.env)).any (·.1) = false := by rfl)
    (ht : eval (.Call (.Attribute (.Name x p) m apos) (e :: es) [] pos) X.env = (do
      let ov ← eval (.Name x p) X.env
      standAt apos.atName
      let (f, first) ← holding [ov] (getMethod ov m pl)
      callWith pos f first (backTo pos (starEach (e :: es) X.env)) (backToKw pos (keywordEach [] X.env))) := by rfl) :
    PE X (.Call (.Attribute (.Name x p) m apos) (e :: es) [] pos) (tE W Wx (callS (run T n) g dd fa)) := by
  obtain ⟨C, f, fd, ps, ds, F, M, hm, hb, hv⟩ := hf.ex
  exact pe_weak (pe_smeth (pl := pl) M F (c.room.mono (by omega)) hg hm hb hv (fun σ => passAt c.tk σ) ha hdb he hpl ht) (tE_call hd)
end

/-! ### max(xs, default=e) -/
def rMaxDf (K : PySem.W.Frag) : List V → List V → Hp → VK → Prop := fun xs zs H Q => ∃ (a : Addr) (ns : List Int) (y : V), xs = [V.ref a] ∧ zs = [y] ∧ SqL K H a (ns.map V.int) ∧ (ns = [] → Q y H) ∧ ∀ n ms, ns = n :: ms → Q (.int (PySem.W.maxOf n ms)) H
theorem cr_maxDf {X : Cx} (hc : X.calm = true) (hu : X.A.units + 8 < cLine) : CallRK X (.builtin "max") [Str.ofString "default"] (rMaxDf X.K) := by
  intro pins s σ H xs zs us ws Q I rx rz h
  obtain ⟨a, ns, y, rfl, rfl, hs, q0, q1⟩ := h
  obtain rfl := Vals.ref1 rx
  obtain ⟨w1, rfl, e1⟩ := vals1 rz
  obtain ⟨its, rv, pl, hz⟩ := I.list hs
  have hi : IntsAre its ns := ints_of_vals rv
  refine PySem.W.max_list_datum_default (xs := ns) (I.ok.hd hc) pl.isList (PySem.W.HoldAll.of_ints hi) (by show X.A.units + 1 + 0 < cLine; omega) (fun e h' tk k => ?_) fun n ms i v h' tk e hv hh k => ?_
  · exact ⟨y, H, I.kept k, e1, q0 e⟩
  · refine ⟨.int (PySem.W.maxOf n ms), H, I.kept k, ?_, q1 n ms e⟩
    obtain ⟨as, r⟩ := hh
    cases r
    exact ⟨_, rfl⟩
def mxdD (ρ : List D) (x y : D) : Option D := match dr ρ x with
  | .lst l => (intsD l).bind fun ns => match ns with
    | [] => some y
    | n :: ms => some (.int (PySem.W.maxOf n ms))
  | _ => none
section
variable {X : Cx} {W : Wd} {Wx : WX} {n : Nat} {e1 e2 : Expr} {f1 f2 : EF} {pos p kp : Pos}
theorem x_maxd (c : Cok X W Wx n) (hm : X.mg "max" = none) (h1 : PE X e1 (tE W Wx f1)) (h2 : PE X e2 (tE W Wx f2)) (hg : Gl X "max" := by rfl)
    (hs : starEach [e1] X.env = (false, eval e1 X.env) :: starEach [] X.env := by rfl) (he : backTo pos (starEach [e1] X.env) = (false, eval e1 X.env) :: backTo pos (starEach [] X.env) := by rfl) (hpl : (backTo pos (starEach [e1] X.env)).any (·.1) = false := by rfl)
    (hall : (backToKw pos (keywordEach [⟨some "default", e2, kp⟩] X.env)).all (·.1.isSome) = true := by rfl) (hnone : (backToKw pos (keywordEach [⟨some "default", e2, kp⟩] X.env)).any (·.1.isNone) = false := by rfl)
    (hks : (backToKw pos (keywordEach [⟨some "default", e2, kp⟩] X.env)).filterMap (·.1) = [Str.ofString "default"] := by rfl) :
    PE X (.Call (.Name "max" p) [e1] [⟨some "default", e2, kp⟩] pos) (tE W Wx (bin2 mxdD f1 f2)) := by
  refine pe_weak (pe_callBK (cr_maxDf c.calm (by have := c.hu; omega)) hg hm (by decide +kernel) (pa_cons h1 pa_nil hs) (pk_cons h2 pk_nil) (he := he) (hpl := hpl) (hall := hall) (hnone := hnone) (hks := hks)) fun σ H Q ⟨RA, ρ, σd, B, b, l, q⟩ =>
    ⟨RA, ρ, σd, B, b, l, (Aw.bind q).imp fun d1 B1 H1 a1 q1 x rx => ⟨RA, ρ, σd, B1, a1.base, l.ex a1.bl, (Aw.bind q1).imp fun d2 B2 H2 a2 q2 y ry => ?_⟩⟩
  cases em : mxdD ρ d1 d2 with
  | none => rw [em] at q2; exact q2.elim
  | some d =>
    rw [em] at q2
    have q2 : ∀ B' H', Aft W RA ρ B2 H2 B' H' → ∀ v, Rep W RA B' d v → Q v H' := q2
    unfold mxdD at em
    split at em
    · rename_i l1 ed
      obtain ⟨ns, e2, em⟩ := Option.bind_eq_some_iff.mp em
      obtain ⟨a, vs, rfl, ha, la⟩ := view_lst a2.base (rx.ex a2.bl) ed
      have ev := ints_V la e2
      subst ev
      refine ⟨a, ns, y, rfl, rfl, by rw [c.K]; exact sq_of ha, fun e => ?_, fun n ms e => ?_⟩
      · subst e
        cases em
        exact q2 B2 H2 (.refl a2.base) y ry
      · subst e
        cases em
        exact q2 B2 H2 (.refl a2.base) _ rep_int
    · cases em
end
end Dd

set_option Elab.async false
set_option linter.all false
set_option maxRecDepth 100000
set_option maxHeartbeats 2000000
/-! DdMath2: the evaluator by equations, on: comprehensions with a test, dicts, numbers compared, loops that return -/
namespace Dd
open PySem PySem.Spec PyProof.Rows L2 Evl OwnO My

section
variable {ρ : List D} {σ : Env} {mu : Nat → Bool}
def lcT (r : Res Bool) (a b : Res (List D)) : Res (List D) := r.bind fun k => if k = true then a else b
theorem lc_filter {γ : Type} {g : TGF} {t : TF} {f : EF} {mk r : γ → D} {p : γ → Bool} : ∀ (xs : List γ), (∀ x ∈ xs, ∃ σ1, g ρ (mk x) σ = some σ1 ∧ t ρ σ1 = .ok (p x) ∧ (p x = true → f ρ σ1 = .ok (r x))) → lcL g t f ρ σ (xs.map mk) = .ok ((xs.filter p).map r)
  | [], _ => rfl
  | x :: xs, h => by
    obtain ⟨σ1, h1, h2, h3⟩ := h x (List.mem_cons_self ..)
    have ih := lc_filter xs fun y hy => h y (List.mem_cons_of_mem _ hy)
    rw [map_c]
    simp only [lcL, h1, h2, ih, Res.bind]
    by_cases e : p x = true
    · rw [List.filter_cons, if_pos e, e, h3 e]; rfl
    · rw [List.filter_cons, if_neg e]
      simp only [Bool.not_eq_true] at e
      rw [e]; rfl
def dcR (r : Res (List D × List Nat)) (g : TGF) (t : TF) (fk fv : EF) (ρ : List D) (σ : Env) : Res D := r.bind fun p => if p.1.length ≤ 100000 then
  (okOnly (dcL g t fk fv ρ σ p.1)).bind fun r => if (r.map (·.1)).Nodup then .ok (.dct (r.map (·.1)) (r.map (·.2))) else .bad else .bad
theorem dcS_ap {fi : IF} {g : TGF} {t : TF} {fk fv : EF} {vs : List Nat} : dcS fi g t fk fv vs ρ σ = dcR (fi ρ σ) g t fk fv ρ (wipeD σ vs) := id rfl
theorem dc_map {γ : Type} {g : TGF} {fk fv : EF} {mk y z : γ → D} {key : γ → L2.Key} : ∀ (xs : List γ), (∀ x ∈ xs, ∃ σ1, g ρ (mk x) σ = some σ1 ∧ fk ρ σ1 = .ok (y x) ∧ fv ρ σ1 = .ok (z x) ∧ keyD (dr ρ (y x)) = some (key x)) → dcL g yesT fk fv ρ σ (xs.map mk) = .ok (xs.map fun x => (key x, z x))
  | [], _ => rfl
  | x :: xs, h => by
    obtain ⟨σ1, h1, h2, h3, h4⟩ := h x (List.mem_cons_self ..)
    have ih := dc_map (γ := γ) xs fun y hy => h y (List.mem_cons_of_mem _ hy)
    rw [map_c]
    simp only [dcL, h1, yesT, h2, h3, h4, ih, Res.bind, ofO, if_true]
    rfl
theorem dcR_map {γ : Type} {g : TGF} {fk fv : EF} {mk y z : γ → D} {key : γ → L2.Key} {xs : List γ} {lk : List Nat} (hl : xs.length ≤ 100000) (h : ∀ x ∈ xs, ∃ σ1, g ρ (mk x) σ = some σ1 ∧ fk ρ σ1 = .ok (y x) ∧ fv ρ σ1 = .ok (z x) ∧ keyD (dr ρ (y x)) = some (key x)) (hn : (xs.map key).Nodup) :
    dcR (.ok (xs.map mk, lk)) g yesT fk fv ρ σ = .ok (.dct (xs.map key) (xs.map z)) := by
  have e1 : (xs.map fun x => (key x, z x)).map (·.1) = xs.map key := by rw [List.map_map]; rfl
  have e2 : (xs.map fun x => (key x, z x)).map (·.2) = xs.map z := by rw [List.map_map]; rfl
  have hl' : (xs.map mk).length ≤ 100000 := by rw [List.length_map]; exact hl
  simp only [dcR, Res.bind, hl', if_true, dc_map xs h, okOnly, e1, e2, hn]
theorem intsD_map : ∀ l : List Int, intsD (l.map .int) = some l
  | [] => rfl
  | x :: l => by simp only [List.map, intsD, intsD_map l, Option.map_some]
theorem siS_ap {f : EF} : siS f ρ σ = (f ρ σ).bind fun x => ofO (siQ (dr ρ x)) := id rfl
theorem siQ_ints {l : List Int} (h : l.length < 64) : siQ (.lst (l.map .int)) = some (.lst ((siL l).map .int)) := by
  simp only [siQ, intsD_map, Option.bind_some]
  exact if_pos h
theorem siQ_app {l m : List Int} (h : l.length + m.length < 64) : siQ (.lst (l.map D.int ++ (m.map D.int ++ []))) = some (.lst ((siL (l ++ m)).map .int)) := by
  rw [List.append_nil, ← List.map_append]
  exact siQ_ints (by simpa using h)
theorem intC_bl {b : Bool} : intC ρ [.bl b] = some (.int (if b = true then 1 else 0)) := id rfl
theorem truR_lst {l : List D} : truR ρ (.ok (.lst l)) = .ok (!l.isEmpty) := id rfl
theorem truR_tup {l : List D} : truR ρ (.ok (.tup l)) = .ok (!l.isEmpty) := id rfl
theorem isbD_bl {a b : Bool} : isbD ρ (.bl a) (.bl b) = some (.bl (decide (a = b))) := id rfl
theorem notbD_bl {a b : Bool} : notbD ρ (.bl a) (.bl b) = some (.bl (!decide (a = b))) := id rfl
def enR (ρ : List D) (r : Res D) : Res (List D × List Nat) := r.bind fun x => match seqD (dr ρ x) with
  | some l => .ok (enumL l, lockD x)
  | none => .bad
theorem enumI_ap {f : EF} : enumI f ρ σ = enR ρ (f ρ σ) := id rfl
theorem enR_lst {l : List D} : enR ρ (.ok (.lst l)) = .ok (enumL l, []) := id rfl

/-! ### lists and tuples of numbers compared -/
theorem toPyL_ints : ∀ l : List Int, toPyL (l.map .int) = some (l.map .int)
  | [] => rfl
  | x :: l => by simp only [List.map, toPyL, toPy, toPyL_ints l, Option.bind_some, Option.map_some]
theorem canLay_ints : ∀ l : List Int, PyData.canLayAll0 (l.map .int) = true
  | [] => rfl
  | x :: l => by simp only [List.map, PyData.canLayAll0, PyData.canLay0, canLay_ints l, Bool.and_self]
theorem depthAll_ints : ∀ l : List Int, PyData.depthAll (l.map .int) = 0
  | [] => rfl
  | x :: l => by simp only [List.map, PyData.depthAll, PyData.depth, depthAll_ints l]; rfl
theorem eqvAll_ints : ∀ l m : List Int, PyData.eqvAll (l.map .int) (m.map .int) = decide (l = m)
  | [], [] => rfl
  | [], _ :: _ => by simp [PyData.eqvAll]
  | _ :: _, [] => by simp [PyData.eqvAll]
  | x :: l, y :: m => by
    simp only [List.map, PyData.eqvAll, PyData.eqv, eqvAll_ints l m]
    by_cases e : x = y
    · subst e; simp
    · simp [e]
theorem shaped_lstI (l : List Int) : SeqAt.shaped (.list (l.map PyData.int)) = true := by simp only [SeqAt.shaped, PyData.canLay0, PyData.depth, canLay_ints, depthAll_ints]; rfl
theorem shaped_tupI (l : List Int) : SeqAt.shaped (.tuple (l.map PyData.int)) = true := by simp only [SeqAt.shaped, PyData.canLay0, PyData.depth, canLay_ints, depthAll_ints]; rfl
theorem eqB_lstI {l m : List Int} : eqB ρ (.lst (l.map .int)) (.lst (m.map .int)) = some (decide (l = m)) := by
  simp only [eqB, dr, toPy, toPyL_ints, Option.map_some, Option.bind_some, shaped_lstI, and_self, if_true, PyData.eqv, eqvAll_ints]
theorem eqB_tupI {l m : List Int} : eqB ρ (.tup (l.map .int)) (.tup (m.map .int)) = some (decide (l = m)) := by
  simp only [eqB, dr, toPy, toPyL_ints, Option.map_some, Option.bind_some, shaped_tupI, and_self, if_true, PyData.eqv, eqvAll_ints]

/-! ### loops -/
/-- a loop that ends its def at the first round where q fails -/
theorem forL_ret {g : TGF} {body : SF} {l : List D} {fr : Bool} {de : D} (q : Nat → Bool) (P : Nat → Env → Prop) (h0 : P 0 σ)
    (step : ∀ (i : Nat) (d : D) (σ : Env), l[i]? = some d → P i σ → ∃ σ1, g ρ d σ = some σ1 ∧ ((q i = true ∧ ∃ σ', body mu ρ σ1 = .nx ρ σ' ∧ P (i + 1) σ') ∨ (q i = false ∧ body mu ρ σ1 = .ret fr de ρ))) :
    ((∀ i < l.length, q i = true) ∧ ∃ σ', forL g body mu l ρ σ = .nx ρ σ' ∧ P l.length σ') ∨ ((∃ i < l.length, q i = false) ∧ forL g body mu l ρ σ = .ret fr de ρ) := by
  have gen : ∀ (m : List D) (k : Nat) (σ : Env), l.drop k = m → k + m.length = l.length → P k σ →
      ((∀ i, k ≤ i → i < l.length → q i = true) ∧ ∃ σ', forL g body mu m ρ σ = .nx ρ σ' ∧ P l.length σ') ∨ ((∃ i < l.length, q i = false) ∧ forL g body mu m ρ σ = .ret fr de ρ) := by
    intro m
    induction m with
    | nil =>
      intro k σ hd hk hp
      have hk : k = l.length := by simpa using hk
      subst hk
      exact .inl ⟨fun i h1 h2 => by omega, σ, rfl, hp⟩
    | cons d m ih =>
      intro k σ hd hk hp
      rw [List.length_cons] at hk
      have hg : l[k]? = some d := by
        have := congrArg (fun z => z[0]?) hd
        simpa using this
      have hd' : l.drop (k + 1) = m := by rw [← List.drop_drop, hd]; rfl
      obtain ⟨σ1, e1, h | h⟩ := step k d σ hg hp
      · obtain ⟨hq, σ', e2, hp'⟩ := h
        rcases ih (k + 1) σ' hd' (by omega) hp' with ⟨h1, σ2, h2, h3⟩ | ⟨h1, h2⟩
        · refine .inl ⟨fun i hi hl => ?_, σ2, ?_, h3⟩
          · by_cases e : i = k
            · subst e; exact hq
            · exact h1 i (by omega) hl
          · rw [forL_cons, e1, flA_ok, e2, flB_nx, h2]
        · exact .inr ⟨h1, by rw [forL_cons, e1, flA_ok, e2, flB_nx, h2]⟩
      · exact .inr ⟨⟨k, by omega, h.1⟩, by rw [forL_cons, e1, flA_ok, h.2]; rfl⟩
  rcases gen l 0 σ rfl (by omega) h0 with ⟨h1, h2⟩ | h
  · exact .inl ⟨fun i hi => h1 i (Nat.zero_le _) hi, h2⟩
  · exact .inr h
end
end Dd

set_option Elab.async false
set_option linter.all false
set_option maxRecDepth 100000
set_option maxHeartbeats 4000000
namespace Toy
open PySem PySem.Spec PyProof.Rows L2 Evl OwnO My NdefX Dd
local macro_rules
  | `(tactic| walk_at "ds") => `(tactic| first
  | assumption
  | (simp only [List.length_append, List.length_cons, List.length_nil, List.length_map, List.length_replicate, List.length_range, List.length_take, List.length_drop]; omega)
  | omega
  | decide +kernel)
local macro_rules
  | `(tactic| walk_at "dd") => `(tactic| simp (disch := walk_at "ds") only [rep_0, rep_s, get_0, get_s, set_0, set_s, app_n, app_c, map_n, map_c, wipe_n, wipe_c, rb_ok, rb_exc, ofO_some, rd_some, varS_ap, conS_ap, nilA_ap, consA_ap, consR_ok, consR_exc, consR_exc0, items_ap, items_lst, items_tup, items_scr, starA_ap, starR_ok, tupS_ap, tupR_ok, lstS_ap, lstR_ok, andS_ap, andR_t, andR_f, orS_ap, orR_t, orR_f, notS_ap, testS_ap, truR_bl, truR_int, ifS_ap, ifR_t, ifR_f, andT_ap, andW_t, andW_f, orT_ap, orW_t, orW_f, notT_ap, yesT_ap, tb1_ap, blR_bl, bin2_ap, b2R_ok, un1_ap, callB_ap, cbR_ok, chainS_ap, noP_ap, someP_ap, intR_ok, slS_ap, slR_ok, slD_ap, slQ_lst, slQ_tup, methS_ap, meR_ok, callS_ap, calR_ok, cal1_ok, cal1_exc, lcS_ap, lcR_ok, lcQ_ok, lcL_nil, lcL_yes, lcY_ok, lcZ_ok, itI_ap, itR_lst, itR_scr, itR_tup, itR_str, rng1I_ap, rn1R_ok, rng3I_ap, rn3R_up, zipI_ap, zpR_lst, zpR_tup, nameG_ap, nilG_ap, consG_ap, cgR_ok, tupG_2, tupG_3, seqS_ap, sqR_nx, sqR_ret, sqR_exc, passS_ap, retS_ap, retF_ap, reR_ok, reR_exc, asgS_ap, asR_ok, asR_exc, agR_ok, ownS_ap, owR_ok, iffS_ap, ifO_t, ifO_f, ifO_exc, expS_ap, exR_ok, exR_exc, forS_ap, foR_ok, forL_nil, forL_cons, flA_ok, flB_nx, appS_ap, apR_last, raiS_ap, rai1S_ap, raR_int, tryS_ap, trR_nx, trR_ret, trR_exc, starS_ap, stR_1, dr_int, dr_str, dr_bl, dr_non, dr_tup, dr_lst, dr_scr, dr_wd, dr_exn, dr_lstR, addD_ap, addQ_int, addQ_str, addQ_lst, addQ_tup, subD_int, negD_int, mulD_int, mulD_lst, fdivD_int, modD_int, powD_int, ltD_int, leD_int, gtD_int, geD_int, isn_lst, isn_non, eqB_str, eqB_int, eqD_ap, neD_ap, inB_wd, inB_chr, inD_ap, ninD_ap, omap_some, look_n, look_c, ixD_ap, ixQ_lst, ixQ_tup, ixQ_scr, ixQ_wd, ixQ_str, at_0, at_m1, at_m1c, at_p, rg2S_ap, r2R_ok, rg1S_ap, r1R_ok, rgD_ok', cut_m1, cut_pos, cut_posf, drop_0, drop_s, take_0, take_s, take_n, dl_1, dl_c, flat_rep, eq_self, Int.cast_ofNat_Int, lenD_ap, lenQ_lst, lenQ_scr, lenQ_tup, lenQ_str, intC_int, strC_str, strC_int, listC_lst, listC_tup, tupleC_lst, tupleC_tup, joinM_ap, splitM_ok, ofString_inj, List.length_cons, List.length_nil, List.length_append, List.length_map, Int.reduceNeg, Int.reduceAdd, Int.reduceSub, Int.reduceMul, Int.reduceMod, Int.reducePow, Int.reduceDiv, Int.reduceLE, Int.reduceLT, Int.reduceEq, Int.reduceToNat, Nat.reduceAdd, Nat.reduceSub, Nat.reduceLeDiff, Nat.reduceEqDiff, String.reduceEq, decide_true, decide_false, Bool.not_true, Bool.not_false, Bool.and_true, Bool.true_and, Bool.and_false, Bool.false_and, Bool.or_true, Bool.or_false, Bool.true_or, Bool.false_or, Option.isSome_some, Option.isSome_none, if_true, if_false, Bool.false_eq_true, Int.reduceBNe])
def topS (i : Nat) : Stmt := PySem.Challenge.pw_cutproof_k11_tight_form.main.body.getD i (.Pass ⟨0, 0, 0, 0⟩)
abbrev s_check_marks : Stmt := topS 6
abbrev N_check_marks : List Str := ["marks", "mark", "following"]
theorem sc_check_marks : FnScope N_check_marks ["marks"] (defScope s_check_marks) := ⟨rfl, rfl, rfl, by decide +kernel, rfl, by decide +kernel, by decide +kernel⟩
abbrev s_anchor : Stmt := topS 7
abbrev N_anchor : List Str := ["number", "marks", "mark"]
theorem sc_anchor : FnScope N_anchor ["number", "marks"] (defScope s_anchor) := ⟨rfl, rfl, rfl, by decide +kernel, rfl, by decide +kernel, by decide +kernel⟩
abbrev s_Order_tight : Stmt := inClass (topS 8) 0
abbrev N_Order_tight : List Str := ["numbers", "marks", "levels", "ranks", "pairs", "rank", "level", "number", "base"]
theorem sc_Order_tight : FnScope N_Order_tight ["numbers", "marks"] (defScope s_Order_tight) := ⟨rfl, rfl, rfl, by decide +kernel, rfl, by decide +kernel, by decide +kernel⟩
abbrev s__law_cell : Stmt := topS 10
abbrev N__law_cell : List Str := ["_law_script", "_law_k"]
theorem sc__law_cell : FnScope N__law_cell ["_law_script", "_law_k"] (defScope s__law_cell) := ⟨rfl, rfl, rfl, by decide +kernel, rfl, by decide +kernel, by decide +kernel⟩
abbrev s__law_draws : Stmt := topS 11
abbrev N__law_draws : List Str := ["_law_script", "_law_at", "_law_many", "_law_cell_here", "_law_left", "_law_out", "_law_k", "_law_one"]
theorem sc__law_draws : FnScope N__law_draws ["_law_script", "_law_at", "_law_many"] (defScope s__law_draws) := ⟨rfl, rfl, rfl, by decide +kernel, rfl, by decide +kernel, by decide +kernel⟩
abbrev s__law_numbers : Stmt := topS 12
abbrev N__law_numbers : List Str := ["_law_script", "_law_at", "_law_many", "_law_out", "_law_k", "_law_cell_here", "_law_d", "_law_number"]
theorem sc__law_numbers : FnScope N__law_numbers ["_law_script", "_law_at", "_law_many"] (defScope s__law_numbers) := ⟨rfl, rfl, rfl, by decide +kernel, rfl, by decide +kernel, by decide +kernel⟩
abbrev s__law_marks : Stmt := topS 13
abbrev N__law_marks : List Str := ["_law_d", "_law_many", "_law_shift", "_law_out", "_law_at", "_law_k"]
theorem sc__law_marks : FnScope N__law_marks ["_law_d", "_law_many", "_law_shift"] (defScope s__law_marks) := ⟨rfl, rfl, rfl, by decide +kernel, rfl, by decide +kernel, by decide +kernel⟩
abbrev s__law_tight : Stmt := topS 14
abbrev N__law_tight : List Str := ["_law_number", "_law_numbers_here", "_law_marks_here", "_law_last", "_law_one", "_law_mark"]
theorem sc__law_tight : FnScope N__law_tight ["_law_number", "_law_numbers_here", "_law_marks_here"] (defScope s__law_tight) := ⟨rfl, rfl, rfl, by decide +kernel, rfl, by decide +kernel, by decide +kernel⟩
abbrev s__law_whole : Stmt := topS 15
abbrev N__law_whole : List Str := ["_law_number"]
theorem sc__law_whole : FnScope N__law_whole ["_law_number"] (defScope s__law_whole) := ⟨rfl, rfl, rfl, by decide +kernel, rfl, by decide +kernel, by decide +kernel⟩
abbrev s__law_sign : Stmt := topS 16
abbrev N__law_sign : List Str := ["_law_one", "_law_two"]
theorem sc__law_sign : FnScope N__law_sign ["_law_one", "_law_two"] (defScope s__law_sign) := ⟨rfl, rfl, rfl, by decide +kernel, rfl, by decide +kernel, by decide +kernel⟩
abbrev s__law_refused : Stmt := topS 17
abbrev N__law_refused : List Str := ["_law_numbers_here", "_law_marks_here", "e"]
theorem sc__law_refused : FnScope N__law_refused ["_law_numbers_here", "_law_marks_here"] (defScope s__law_refused) := ⟨rfl, rfl, rfl, by decide +kernel, rfl, by decide +kernel, by decide +kernel⟩
abbrev s_law : Stmt := topS 18
abbrev N_law : List Str := ["_law_script", "_law_d", "_law_numbers_here", "_law_marks_here", "_law_told", "_law_k", "_law_n", "_law_mark", "_law_given", "_law_place", "_law_bad", "_law_turned", "_law_one"]
theorem sc_law : FnScope N_law ["_law_script"] (defScope s_law) := ⟨rfl, rfl, rfl, by decide +kernel, rfl, by decide +kernel, by decide +kernel⟩
abbrev CFz : Nat → List Str := fun c => match c with | 0 => [] | 1 => [] | 2 => [] | 3 => [] | _ => []
abbrev iscz : Nat → Bool := fun c => match c with | 0 => true | 1 => false | 2 => false | 3 => false | _ => false
abbrev isez : Nat → Bool := fun c => match c with | 0 => false | 1 => true | 2 => true | 3 => true | _ => false
abbrev subz : Nat → Nat → Bool := fun a b => (a == 1 && b == 1) || (a == 2 && b == 1) || (a == 2 && b == 2) || (a == 3 && b == 1) || (a == 3 && b == 3)
abbrev Wz (K : PySem.W.Frag) (w : World) (C_Order C_CutError C_BadMarks C_TooMany : Addr) : Wd := { K := K, w := w, CA := fun c => match c with | 0 => C_Order | 1 => C_CutError | 2 => C_BadMarks | 3 => C_TooMany | _ => 0, CF := CFz, isc := iscz, ise := isez, sub := subz }
def B_check_marks (cl : Orc) : SF := (iffS (testS (callB anyC (consA (lcS (zipI (varS 0) (slS (varS 0) (someP (conS (.int 1))) noP)) (tupG 2 (consG (nameG 1) (consG (nameG 2) nilG))) yesT (bin2 geD (varS 1) (varS 2)) [1, 2]) nilA))) (raiS 2) passS)
def B_anchor (cl : Orc) : SF := (retS (bin2 mxdD (lcS (itI (varS 1)) (nameG 2) (tb1 (bin2 leD (varS 2) (varS 0))) (varS 2) [2]) (bin2 ixD (varS 1) (conS (.int 0)))))
def B_Order_tight (cl : Orc) : SF := (seqS (expS (callS cl 0 [] (consA (varS 1) nilA)))
    (seqS (asgS (siS (lstS (starA (varS 0) (starA (varS 1) nilA)))) (nameG 2))
    (seqS (asgS (dcS (enumI (varS 2)) (tupG 2 (consG (nameG 5) (consG (nameG 6) nilG))) yesT (varS 6) (varS 5) [5, 6]) (nameG 3))
    (seqS (iffS (notT (testS (varS 1))) (retS (callB tupleC (consA (lcS (itI (varS 0)) (nameG 7) yesT (bin2 ixD (varS 3) (varS 7)) [7]) nilA))) passS)
    (seqS (asgS (lcS (itI (varS 0)) (nameG 7) yesT (tupS (consA (bin2 ixD (varS 3) (varS 7)) (consA (callS cl 1 [] (consA (varS 7) (consA (varS 1) nilA))) nilA))) [7]) (nameG 4))
    (retS (callB tupleC (consA (lcS (itI (varS 4)) (tupG 2 (consG (nameG 5) (consG (nameG 8) nilG))) yesT (bin2 subD (bin2 addD (varS 8) (varS 5)) (bin2 ixD (varS 3) (varS 8))) [5, 8]) nilA))))))))
def B__law_cell (cl : Orc) : SF := (retS (ifS (tb1 (bin2 ltD (varS 1) (callB lenD (consA (varS 0) nilA)))) (callB intC (consA (bin2 ixD (varS 0) (varS 1)) nilA)) (conS (.int 0))))
def B__law_draws (cl : Orc) : SF := (seqS (asgS (ifS (tb1 (bin2 ltD (varS 1) (callB lenD (consA (varS 0) nilA)))) (callB intC (consA (bin2 ixD (varS 0) (varS 1)) nilA)) (conS (.int 0))) (nameG 3))
    (seqS (asgS (ifS (tb1 (bin2 geD (varS 3) (bin2 powD (conS (.int 10)) (conS (.int 18))))) (varS 3) (conS (.int 0))) (nameG 4))
    (seqS (ownS 5 (lstS nilA))
    (seqS (forS (rng1I (varS 2)) (nameG 6) (iffS (tb1 (bin2 gtD (varS 4) (conS (.int 0)))) (seqS (appS (varS 5) (bin2 modD (callB intC (consA (varS 4) nilA)) (conS (.int 100))))
    (asgS (bin2 fdivD (varS 4) (conS (.int 100))) (nameG 4))) (seqS (asgS (bin2 modD (callB intC (consA (bin2 addD (bin2 addD (bin2 addD (bin2 mulD (conS (.int 7)) (varS 3)) (bin2 mulD (conS (.int 203)) (varS 1))) (bin2 mulD (conS (.int 13)) (varS 6))) (conS (.int 5))) nilA)) (conS (.int 101))) (nameG 7))
    (appS (varS 5) (bin2 modD (callB intC (consA (bin2 addD (bin2 addD (bin2 addD (bin2 mulD (bin2 mulD (varS 7) (varS 7)) (varS 7)) (bin2 mulD (conS (.int 29)) (varS 1))) (bin2 mulD (conS (.int 3)) (varS 6))) (varS 3)) nilA)) (conS (.int 97)))))))
    (retS (varS 5))))))
def B__law_numbers (cl : Orc) : SF := (seqS (ownS 3 (lstS nilA))
    (seqS (forS (rng1I (varS 2)) (nameG 4) (seqS (asgS (callS cl 3 [] (consA (varS 0) (consA (bin2 addD (varS 1) (varS 4)) nilA))) (nameG 5))
    (seqS (asgS (callS cl 4 [] (consA (varS 0) (consA (bin2 addD (varS 1) (varS 4)) (consA (conS (.int 2)) nilA)))) (nameG 6))
    (seqS (asgS (bin2 subD (bin2 modD (bin2 ixD (varS 6) (conS (.int 0))) (conS (.int 12))) (conS (.int 4))) (nameG 7))
    (seqS (iffS (tb1 (bin2 eqD (bin2 modD (bin2 ixD (varS 6) (conS (.int 1))) (conS (.int 9))) (conS (.int 4)))) (asgS (bin2 modD (varS 5) (bin2 powD (conS (.int 10)) (conS (.int 29)))) (nameG 7)) passS)
    (seqS (iffS (tb1 (bin2 eqD (bin2 modD (bin2 ixD (varS 6) (conS (.int 1))) (conS (.int 9))) (conS (.int 5)))) (asgS (bin2 subD (conS (.int 0)) (bin2 modD (varS 5) (bin2 powD (conS (.int 10)) (conS (.int 29))))) (nameG 7)) passS)
    (appS (varS 3) (varS 7))))))))
    (retS (varS 3))))
def B__law_marks (cl : Orc) : SF := (seqS (ownS 3 (lstS nilA))
    (seqS (asgS (bin2 addD (bin2 subD (bin2 modD (callB intC (consA (bin2 ixD (varS 0) (conS (.int 0))) nilA)) (conS (.int 7))) (conS (.int 2))) (varS 2)) (nameG 4))
    (seqS (forS (rng1I (varS 1)) (nameG 5) (seqS (appS (varS 3) (varS 4))
    (asgS (bin2 addD (bin2 addD (varS 4) (conS (.int 1))) (bin2 modD (callB intC (consA (bin2 ixD (varS 0) (bin2 addD (conS (.int 1)) (varS 5))) nilA)) (conS (.int 4)))) (nameG 4))))
    (retS (callB tupleC (consA (varS 3) nilA))))))
def B__law_tight (cl : Orc) : SF := (seqS (iffS (tb1 (bin2 eqD (varS 2) (tupS nilA))) (retS (callB lenD (consA (siS (lcS (itI (varS 1)) (nameG 4) (tb1 (bin2 ltD (varS 4) (varS 0))) (varS 4) [4])) nilA))) passS)
    (seqS (iffS (tb1 (bin2 ltD (varS 0) (bin2 ixD (varS 2) (conS (.int 0))))) (retS (bin2 subD (bin2 ixD (varS 2) (conS (.int 0))) (callB lenD (consA (siS (lcS (itI (varS 1)) (nameG 4) (andT (tb1 (bin2 leD (varS 0) (varS 4))) (tb1 (bin2 ltD (varS 4) (bin2 ixD (varS 2) (conS (.int 0)))))) (varS 4) [4])) nilA)))) passS)
    (seqS (asgS (bin2 ixD (lcS (itI (varS 2)) (nameG 5) (tb1 (bin2 leD (varS 5) (varS 0))) (varS 5) [5]) (un1 negD (conS (.int 1)))) (nameG 3))
    (retS (bin2 addD (varS 3) (callB lenD (consA (siS (lcS (itI (varS 1)) (nameG 4) (andT (tb1 (bin2 ltD (varS 3) (varS 4))) (tb1 (bin2 leD (varS 4) (varS 0)))) (varS 4) [4])) nilA)))))))
def B__law_whole (cl : Orc) : SF := (retS (andS (callB (isiC iscz) (consA (varS 0) (consA (conS (.ty .int)) nilA))) (notS (callB (isiC iscz) (consA (varS 0) (consA (conS (.ty .bool)) nilA))))))
def B__law_sign (cl : Orc) : SF := (seqS (iffS (tb1 (bin2 ltD (varS 0) (varS 1))) (retS (bin2 subD (conS (.int 0)) (conS (.int 1)))) passS)
    (retS (callB intC (consA (bin2 gtD (varS 0) (varS 1)) nilA))))
def B__law_refused (cl : Orc) : SF := (seqS (tryS isez subz (expS (callS cl 2 [] (consA (varS 0) (consA (varS 1) nilA)))) [(3, none, (retS (conS (.bl false)))), (1, some 2, (retS (andS (callB (isxC isez subz) (consA (varS 2) (consA (conS (.cl 2)) nilA))) (callB (isxC isez subz) (consA (varS 2) (consA (conS (.ty .verr)) nilA))))))])
    (retS (conS (.bl false))))
def B_law (cl : Orc) : SF := (seqS (asgS (callS cl 4 [] (consA (varS 0) (consA (conS (.int 0)) (consA (conS (.int 12)) nilA)))) (nameG 1))
    (seqS (asgS (callS cl 5 [] (consA (varS 0) (consA (conS (.int 1)) (consA (bin2 modD (bin2 ixD (varS 1) (conS (.int 6))) (conS (.int 9))) nilA)))) (nameG 2))
    (seqS (asgS (callS cl 6 [] (consA (slS (varS 1) noP (someP (conS (.int 5)))) (consA (bin2 modD (bin2 ixD (varS 1) (conS (.int 7))) (conS (.int 5))) (consA (conS (.int 0)) nilA)))) (nameG 3))
    (seqS (asgS (callS cl 2 [] (consA (callB tupleC (consA (varS 2) nilA)) (consA (varS 3) nilA))) (nameG 4))
    (seqS (iffS (orT (notT (testS (callB (isiC iscz) (consA (varS 4) (consA (conS (.ty .tuple)) nilA))))) (tb1 (bin2 neD (callB lenD (consA (varS 4) nilA)) (callB lenD (consA (varS 2) nilA))))) (retS (conS (.bl false))) passS)
    (seqS (forS (rng1I (callB lenD (consA (varS 2) nilA))) (nameG 5) (seqS (iffS (orT (notT (testS (callS cl 8 [] (consA (bin2 ixD (varS 4) (varS 5)) nilA)))) (tb1 (bin2 neD (bin2 ixD (varS 4) (varS 5)) (callS cl 7 [] (consA (bin2 ixD (varS 2) (varS 5)) (consA (varS 2) (consA (varS 3) nilA))))))) (retS (conS (.bl false))) passS)
    (seqS (forS (rng1I (callB lenD (consA (varS 2) nilA))) (nameG 6) (iffS (tb1 (bin2 neD (callS cl 9 [] (consA (bin2 ixD (varS 4) (varS 5)) (consA (bin2 ixD (varS 4) (varS 6)) nilA))) (callS cl 9 [] (consA (bin2 ixD (varS 2) (varS 5)) (consA (bin2 ixD (varS 2) (varS 6)) nilA))))) (retS (conS (.bl false))) passS))
    (forS (itI (varS 3)) (nameG 7) (iffS (tb1 (bin2 neD (callS cl 9 [] (consA (bin2 ixD (varS 4) (varS 5)) (consA (varS 7) nilA))) (callS cl 9 [] (consA (bin2 ixD (varS 2) (varS 5)) (consA (varS 7) nilA))))) (retS (conS (.bl false))) passS)))))
    (seqS (asgS (callB listC (consA (varS 2) nilA)) (nameG 8))
    (seqS (iffS (orT (tb1 (bin2 neD (callS cl 2 [] (consA (varS 8) (consA (callB listC (consA (varS 3) nilA)) nilA))) (varS 4))) (orT (tb1 (bin2 neD (varS 8) (varS 2))) (tb1 (bin2 neD (callS cl 2 [] (consA (varS 4) (consA (varS 3) nilA))) (varS 4))))) (retS (conS (.bl false))) passS)
    (seqS (iffS (tb1 (bin2 neD (callS cl 2 [(.tup [])] (consA (varS 2) nilA)) (callB tupleC (consA (lcS (itI (varS 2)) (nameG 12) yesT (callS cl 7 [] (consA (varS 12) (consA (varS 2) (consA (tupS nilA) nilA)))) [12]) nilA)))) (retS (conS (.bl false))) passS)
    (seqS (iffS (tb1 (bin2 eqD (varS 3) (tupS nilA))) (retS (conS (.bl true))) passS)
    (seqS (asgS (bin2 modD (bin2 ixD (varS 1) (conS (.int 8))) (callB lenD (consA (varS 3) nilA))) (nameG 9))
    (seqS (asgS (bin2 addD (callB listC (consA (slS (varS 3) noP (someP (bin2 addD (varS 9) (conS (.int 1))))) nilA)) (callB listC (consA (slS (varS 3) (someP (varS 9)) noP) nilA))) (nameG 10))
    (seqS (iffS (tb1 (bin2 gtD (varS 9) (conS (.int 0)))) (seqS (asgS (bin2 addD (bin2 addD (callB listC (consA (slS (varS 3) noP (someP (bin2 subD (varS 9) (conS (.int 1))))) nilA)) (lstS (consA (bin2 ixD (varS 3) (varS 9)) (consA (bin2 ixD (varS 3) (bin2 subD (varS 9) (conS (.int 1)))) nilA)))) (callB listC (consA (slS (varS 3) (someP (bin2 addD (varS 9) (conS (.int 1)))) noP) nilA))) (nameG 11))
    (iffS (orT (notT (testS (callS cl 10 [] (consA (varS 2) (consA (varS 11) nilA))))) (notT (testS (callS cl 10 [] (consA (lstS nilA) (consA (callB tupleC (consA (varS 11) nilA)) nilA)))))) (retS (conS (.bl false))) passS)) passS)
    (retS (andS (callS cl 10 [] (consA (varS 2) (consA (varS 10) nilA))) (andS (callS cl 10 [] (consA (varS 2) (consA (callB tupleC (consA (varS 10) nilA)) nilA))) (bin2 eqD (callS cl 2 [] (consA (lstS nilA) (consA (varS 3) nilA))) (tupS nilA))))))))))))))))))
def Tb : Nat → Option Fn := fun g => match g with
  | 0 => some ⟨1, 3, B_check_marks⟩
  | 1 => some ⟨2, 3, B_anchor⟩
  | 2 => some ⟨2, 9, B_Order_tight⟩
  | 3 => some ⟨2, 2, B__law_cell⟩
  | 4 => some ⟨3, 8, B__law_draws⟩
  | 5 => some ⟨3, 8, B__law_numbers⟩
  | 6 => some ⟨3, 6, B__law_marks⟩
  | 7 => some ⟨3, 6, B__law_tight⟩
  | 8 => some ⟨1, 1, B__law_whole⟩
  | 9 => some ⟨2, 2, B__law_sign⟩
  | 10 => some ⟨2, 3, B__law_refused⟩
  | 11 => some ⟨1, 13, B_law⟩
  | _ => none
/-! ### orders: ranks, anchors, tight forms -/
def rkI (lv : List Int) (x : Int) : Nat := lv.countP fun y => decide (y < x)
def ancI (ms : List Int) (x : Int) : Int := match ms.filter fun m => decide (m ≤ x) with
  | [] => ms.headD 0
  | n :: r => PySem.W.maxOf n r
def tgI (lv ms : List Int) (x : Int) : Int := if ms = [] then (rkI lv x : Int) else ancI ms x + (rkI lv x : Int) - (rkI lv (ancI ms x) : Int)
def sgI (a b : Int) : Int := if a < b then -1 else if b < a then 1 else 0
theorem max_spec : ∀ (r : List Int) (n : Int), PySem.W.maxOf n r ∈ n :: r ∧ ∀ y ∈ n :: r, y ≤ PySem.W.maxOf n r
  | [], n => ⟨by simp [PySem.W.maxOf], fun y hy => by simp at hy; subst hy; exact Int.le_refl _⟩
  | x :: r, n => by
    have e : PySem.W.maxOf n (x :: r) = PySem.W.maxOf (if n < x then x else n) r := by
      show List.foldl _ (if decide (n < x) = true then x else n) r = _
      simp only [decide_eq_true_eq]
      rfl
    obtain ⟨h1, h2⟩ := max_spec r (if n < x then x else n)
    rw [e]
    refine ⟨?_, fun y hy => ?_⟩
    · rcases List.mem_cons.mp h1 with h | h
      · rw [h]; split <;> simp
      · simp [h]
    · have h3 := h2 _ (List.mem_cons_self ..)
      rcases List.mem_cons.mp hy with h | h
      · rw [h]
        refine Int.le_trans ?_ h3
        split <;> omega
      · rcases List.mem_cons.mp h with h | h
        · rw [h]
          refine Int.le_trans ?_ h3
          split <;> omega
        · exact h2 y (List.mem_cons_of_mem _ h)
theorem anc_in {ms : List Int} (h : ms ≠ []) (x : Int) : ancI ms x ∈ ms := by
  unfold ancI
  split
  · cases ms with
    | nil => exact absurd rfl h
    | cons m r => simp
  · rename_i n r e
    have := (max_spec r n).1
    rw [← e] at this
    exact (List.mem_filter.mp this).1
theorem anc_le {ms : List Int} {x m : Int} (hm : m ∈ ms) (hx : m ≤ x) : ancI ms x ≤ x ∧ ∀ k ∈ ms, k ≤ x → k ≤ ancI ms x := by
  unfold ancI
  have h0 : m ∈ ms.filter fun m => decide (m ≤ x) := List.mem_filter.mpr ⟨hm, by simpa using hx⟩
  split
  · rename_i e; rw [e] at h0; cases h0
  · rename_i n r e
    obtain ⟨h1, h2⟩ := max_spec r n
    rw [← e] at h1 h2
    refine ⟨by simpa using (List.mem_filter.mp h1).2, fun k hk hkx => h2 k (List.mem_filter.mpr ⟨hk, by simpa using hkx⟩)⟩
theorem anc_low {ms : List Int} {x : Int} (h : ∀ m ∈ ms, x < m) : ancI ms x = ms.headD 0 := by
  unfold ancI
  split
  · rfl
  · rename_i n r e
    have : n ∈ ms.filter fun m => decide (m ≤ x) := by rw [e]; simp
    obtain ⟨h1, h2⟩ := List.mem_filter.mp this
    have := h n h1
    simp at h2; omega
theorem asc_head {ms : List Int} (h : ms.Pairwise (· < ·)) : ∀ m ∈ ms, ms.headD 0 ≤ m := by
  cases ms with
  | nil => intro m hm; cases hm
  | cons a r =>
    intro m hm
    obtain ⟨h1, _⟩ := List.pairwise_cons.mp h
    rcases List.mem_cons.mp hm with h | h
    · subst h; exact Int.le_refl _
    · have := h1 m h; show a ≤ m; omega
theorem rk_mono {lv : List Int} {x y : Int} (h : x ≤ y) : rkI lv x ≤ rkI lv y := List.countP_mono_left fun z _ hz => by simp at hz ⊢; omega
theorem rk_lt : ∀ {lv : List Int} {x y : Int}, x ∈ lv → x < y → rkI lv x < rkI lv y
  | z :: l, x, y, hx, hxy => by
    unfold rkI
    rw [List.countP_cons, List.countP_cons]
    by_cases e : z = x
    · subst e
      have := rk_mono (lv := l) (Int.le_of_lt hxy)
      unfold rkI at this
      simp only [decide_eq_true_eq, hxy, if_true, Int.lt_irrefl, if_false]
      omega
    · have h1 : x ∈ l := (List.mem_cons.mp hx).resolve_left fun z => e z.symm
      have := rk_lt h1 hxy
      unfold rkI at this
      simp only [decide_eq_true_eq]
      split <;> split <;> omega
theorem rk_step : ∀ {lv : List Int} {x : Int}, lv.Pairwise (· < ·) → rkI lv (x + 1) ≤ rkI lv x + 1
  | [], x, _ => by simp [rkI]
  | z :: l, x, h => by
    obtain ⟨h1, h2⟩ := List.pairwise_cons.mp h
    have ih := rk_step (x := x) h2
    unfold rkI at ih ⊢
    rw [List.countP_cons, List.countP_cons]
    simp only [decide_eq_true_eq]
    by_cases e : z = x
    · subst e
      have h0 : l.countP (fun y => decide (y < z + 1)) = 0 := List.countP_eq_zero.mpr fun a ha => by have := h1 a ha; simp; omega
      rw [h0]
      split <;> omega
    · split <;> split <;> omega
theorem rk_gap {lv : List Int} (h : lv.Pairwise (· < ·)) {a : Int} : ∀ n : Nat, rkI lv (a + n) ≤ rkI lv a + n
  | 0 => by simp
  | n + 1 => by
    have h1 := rk_step (x := a + n) h
    have h2 := rk_gap h (a := a) n
    have e : a + ((n + 1 : Nat) : Int) = a + n + 1 := by omega
    rw [e]; omega
theorem rk_gap' {lv : List Int} (h : lv.Pairwise (· < ·)) {a x : Int} (hx : a ≤ x) : (rkI lv x : Int) ≤ rkI lv a + (x - a) := by
  have := rk_gap h (a := a) (x - a).toNat
  have e : a + ((x - a).toNat : Int) = x := by omega
  rw [e] at this; omega
section
variable {lv ms : List Int}
theorem tg_mark (hm : ms.Pairwise (· < ·)) {m : Int} (h : m ∈ ms) : tgI lv ms m = m := by
  unfold tgI
  rw [if_neg (List.ne_nil_of_mem h)]
  obtain ⟨h1, h2⟩ := anc_le h (Int.le_refl m)
  have := h2 m h (Int.le_refl m)
  have e : ancI ms m = m := by omega
  rw [e]; omega
theorem tg_lt (hl : lv.Pairwise (· < ·)) (hm : ms.Pairwise (· < ·)) (hs : ∀ m ∈ ms, m ∈ lv) {x y : Int} (hx : x ∈ lv) (hxy : x < y) : tgI lv ms x < tgI lv ms y := by
  have hr := rk_lt hx hxy
  unfold tgI
  by_cases e : ms = []
  · rw [if_pos e, if_pos e]; omega
  · rw [if_neg e, if_neg e]
    have hd : ms.headD 0 ∈ ms := by cases ms with
      | nil => exact absurd rfl e
      | cons a r => simp
    by_cases h1 : ms.headD 0 ≤ x
    · obtain ⟨a1, a2⟩ := anc_le hd h1
      obtain ⟨b1, b2⟩ := anc_le hd (show ms.headD 0 ≤ y by omega)
      have g1 := rk_gap' hl a1
      by_cases h2 : ancI ms y ≤ x
      · have c1 := a2 _ (anc_in e y) h2
        have c2 := b2 _ (anc_in e x) (by omega)
        have e2 : ancI ms x = ancI ms y := by omega
        rw [e2]; omega
      · have g2 := rk_mono (lv := lv) b1
        omega
    · have h3 : ∀ m ∈ ms, x < m := fun m hm' => by have := asc_head hm m hm'; omega
      have ex := anc_low h3
      have g0 := rk_lt hx (show x < ms.headD 0 by omega)
      by_cases h2 : ms.headD 0 ≤ y
      · obtain ⟨b1, b2⟩ := anc_le hd h2
        have := b2 _ hd h2
        have g2 := rk_mono (lv := lv) b1
        rw [ex]; omega
      · have h4 : ∀ m ∈ ms, y < m := fun m hm' => by have := asc_head hm m hm'; omega
        rw [ex, anc_low h4]; omega
theorem tg_sg (hl : lv.Pairwise (· < ·)) (hm : ms.Pairwise (· < ·)) (hs : ∀ m ∈ ms, m ∈ lv) {x y : Int} (hx : x ∈ lv) (hy : y ∈ lv) : sgI (tgI lv ms x) (tgI lv ms y) = sgI x y := by
  unfold sgI
  by_cases h1 : x < y
  · rw [if_pos h1, if_pos (tg_lt hl hm hs hx h1)]
  · by_cases h2 : y < x
    · have := tg_lt hl hm hs hy h2
      rw [if_neg h1, if_pos h2, if_neg (by omega), if_pos this]
    · have e : x = y := by omega
      subst e
      simp
end
theorem sg_eq {a b : Int} : sgI a b = 0 ↔ a = b := by
  unfold sgI
  split
  · constructor <;> intro h <;> omega
  · split
    · constructor <;> intro h <;> omega
    · constructor <;> intro h <;> omega
theorem sg_lt {a b : Int} : sgI a b = -1 ↔ a < b := by
  unfold sgI
  split
  · simp_all
  · split
    · constructor <;> intro h <;> omega
    · constructor <;> intro h <;> omega
theorem sg_sw (a b : Int) : sgI a b = - sgI b a := by
  unfold sgI
  split <;> split <;> omega
/-- pairs of numbers in the same order have the same tight forms -/
theorem tg_same {Z : List (Int × Int)} {ms : List Int} (hz : ∀ p ∈ Z, ∀ q ∈ Z, sgI p.1 q.1 = sgI p.2 q.2) (hmz : ∀ m ∈ ms, (m, m) ∈ Z) :
    ∀ p ∈ Z, tgI (siL (Z.map (·.1))) ms p.1 = tgI (siL (Z.map (·.2))) ms p.2 := by
  obtain ⟨φ, hφ⟩ : ∃ φ : Int → Int, ∀ p ∈ Z, φ p.1 = p.2 := by
    refine ⟨fun x => ((Z.find? fun p => decide (p.1 = x)).map (·.2)).getD 0, fun p hp => ?_⟩
    cases e : Z.find? fun q => decide (q.1 = p.1) with
    | none =>
      have := List.find?_eq_none.mp e p hp
      simp at this
    | some q =>
      have h1 := List.find?_some e
      have h2 := List.mem_of_find?_eq_some e
      have h3 := hz q h2 p hp
      have h4 : q.1 = p.1 := by simpa using h1
      rw [sg_eq.mpr h4] at h3
      simp only [e, Option.map_some, Option.getD_some]
      exact sg_eq.mp h3.symm
  have lt_iff : ∀ x ∈ siL (Z.map (·.1)), ∀ y ∈ siL (Z.map (·.1)), (φ x < φ y ↔ x < y) := by
    intro x hx y hy
    obtain ⟨p, hp, rfl⟩ := List.mem_map.mp (mem_siL.mp hx)
    obtain ⟨q, hq, rfl⟩ := List.mem_map.mp (mem_siL.mp hy)
    rw [hφ p hp, hφ q hq, ← sg_lt, ← sg_lt, hz p hp q hq]
  have es : siL (Z.map (·.2)) = (siL (Z.map (·.1))).map φ := by
    refine asc_ext asc_siL ?_ fun x => ?_
    · rw [List.pairwise_map]
      exact List.Pairwise.imp_of_mem (fun {a b} ha hb h => (lt_iff a ha b hb).mpr h) asc_siL
    · rw [mem_siL, List.mem_map, List.mem_map]
      constructor
      · rintro ⟨p, hp, rfl⟩
        exact ⟨p.1, mem_siL.mpr (List.mem_map.mpr ⟨p, hp, rfl⟩), hφ p hp⟩
      · rintro ⟨y, hy, rfl⟩
        obtain ⟨p, hp, rfl⟩ := List.mem_map.mp (mem_siL.mp hy)
        exact ⟨p, hp, (hφ p hp).symm⟩
  have hrk : ∀ p ∈ Z, rkI (siL (Z.map (·.1))) p.1 = rkI (siL (Z.map (·.2))) p.2 := by
    intro p hp
    rw [es, ← hφ p hp]
    unfold rkI
    rw [List.countP_map]
    refine List.countP_congr fun y hy => ?_
    simp only [Function.comp, decide_eq_true_eq]
    exact (lt_iff y hy p.1 (mem_siL.mpr (List.mem_map.mpr ⟨p, hp, rfl⟩))).symm
  intro p hp
  unfold tgI
  by_cases e : ms = []
  · rw [if_pos e, if_pos e, hrk p hp]
  · rw [if_neg e, if_neg e]
    have ea : ancI ms p.1 = ancI ms p.2 := by
      unfold ancI
      rw [List.filter_congr (q := fun m => decide (m ≤ p.2)) fun m hm => ?_]
      have h := hz p hp (m, m) (hmz m hm)
      have h2 := sg_lt (a := p.1) (b := m)
      have h3 := sg_lt (a := p.2) (b := m)
      rw [h] at h2
      have h4 : p.1 < m ↔ p.2 < m := h2.symm.trans h3
      simp only [decide_eq_decide]
      omega
    have hk := hrk _ (hmz _ (anc_in e p.1))
    simp only at hk
    rw [← ea, hrk p hp, hk]
/-- the law's word for the same order -/
def likeB (one two ms : List Int) : Bool := decide (one.length = two.length) && (one.zip two).all fun p => ((one.zip two).all fun q => decide (sgI p.1 q.1 = sgI p.2 q.2)) && ms.all fun m => decide (sgI p.1 m = sgI p.2 m)
def tgL (l ms : List Int) : List Int := l.map (tgI (siL (l ++ ms)) ms)
theorem tgL_like {one two ms : List Int} (hm : ms.Pairwise (· < ·)) : decide (tgL one ms = tgL two ms) = likeB one two ms := by
  rw [Bool.eq_iff_iff, decide_eq_true_eq]
  unfold likeB
  rw [Bool.and_eq_true, decide_eq_true_eq, List.all_eq_true]
  constructor
  · intro h
    have hl : one.length = two.length := by have := congrArg List.length h; simpa [tgL] using this
    have hz : ∀ p ∈ one.zip two, tgI (siL (one ++ ms)) ms p.1 = tgI (siL (two ++ ms)) ms p.2 := by
      intro p hp
      obtain ⟨i, hi⟩ := List.mem_iff_getElem?.mp hp
      rw [List.getElem?_zip_eq_some] at hi
      have h3 := congrArg (fun z => z[i]?) h
      simp only [tgL, List.getElem?_map, hi.1, hi.2, Option.map_some, Option.some.injEq] at h3
      exact h3
    have m1 : ∀ p ∈ one.zip two, p.1 ∈ siL (one ++ ms) ∧ p.2 ∈ siL (two ++ ms) := fun p hp => by
      have := List.of_mem_zip (a := p.1) (b := p.2) hp
      exact ⟨mem_siL.mpr (List.mem_append_left _ this.1), mem_siL.mpr (List.mem_append_left _ this.2)⟩
    have ms1 : ∀ l : List Int, ∀ m ∈ ms, m ∈ siL (l ++ ms) := fun l m h => mem_siL.mpr (List.mem_append_right _ h)
    refine ⟨hl, fun p hp => ?_⟩
    rw [Bool.and_eq_true, List.all_eq_true, List.all_eq_true]
    refine ⟨fun q hq => ?_, fun m hmm => ?_⟩
    · rw [decide_eq_true_eq, ← tg_sg asc_siL hm (ms1 one) (m1 p hp).1 (m1 q hq).1, ← tg_sg asc_siL hm (ms1 two) (m1 p hp).2 (m1 q hq).2, hz p hp, hz q hq]
    · rw [decide_eq_true_eq, ← tg_sg asc_siL hm (ms1 one) (m1 p hp).1 (ms1 one m hmm), ← tg_sg asc_siL hm (ms1 two) (m1 p hp).2 (ms1 two m hmm), hz p hp, tg_mark hm hmm, tg_mark hm hmm]
  · rintro ⟨hl, h⟩
    have hZ : ∀ p ∈ one.zip two ++ ms.map (fun m => (m, m)), ∀ q ∈ one.zip two ++ ms.map (fun m => (m, m)), sgI p.1 q.1 = sgI p.2 q.2 := by
      intro p hp q hq
      rcases List.mem_append.mp hp with hp | hp
      · have h1 := h p hp
        rw [Bool.and_eq_true, List.all_eq_true, List.all_eq_true] at h1
        rcases List.mem_append.mp hq with hq | hq
        · simpa using h1.1 q hq
        · obtain ⟨m, hmm, rfl⟩ := List.mem_map.mp hq
          simpa using h1.2 m hmm
      · obtain ⟨m, hmm, rfl⟩ := List.mem_map.mp hp
        rcases List.mem_append.mp hq with hq | hq
        · have h1 := h q hq
          rw [Bool.and_eq_true, List.all_eq_true, List.all_eq_true] at h1
          have := h1.2 m hmm
          rw [decide_eq_true_eq] at this
          rw [sg_sw m, sg_sw m, this]
        · obtain ⟨k, hk, rfl⟩ := List.mem_map.mp hq
          rfl
    have key := tg_same hZ fun m hmm => List.mem_append_right _ (List.mem_map.mpr ⟨m, hmm, rfl⟩)
    have e1 : (one.zip two ++ ms.map (fun m => (m, m))).map (·.1) = one ++ ms := by
      rw [List.map_append, List.map_fst_zip (by omega), List.map_map]; congr 1; exact List.map_id' _
    have e2 : (one.zip two ++ ms.map (fun m => (m, m))).map (·.2) = two ++ ms := by
      rw [List.map_append, List.map_snd_zip (by omega), List.map_map]; congr 1; exact List.map_id' _
    rw [e1, e2] at key
    unfold tgL
    apply List.ext_getElem?
    intro i
    rw [List.getElem?_map, List.getElem?_map]
    by_cases hi : i < one.length
    · have h1 := List.getElem?_eq_getElem hi
      have h2 := List.getElem?_eq_getElem (l := two) (i := i) (by omega)
      rw [h1, h2]
      have hm' : (one[i], two[i]'(by omega)) ∈ one.zip two := List.mem_iff_getElem?.mpr ⟨i, by rw [List.getElem?_zip_eq_some]; exact ⟨h1, h2⟩⟩
      exact congrArg some (key _ (List.mem_append_left _ hm'))
    · rw [List.getElem?_eq_none (by omega), List.getElem?_eq_none (by omega)]
      rfl
theorem like_symm {one two ms : List Int} (hm : ms.Pairwise (· < ·)) : likeB two one ms = likeB one two ms := by
  rw [← tgL_like hm, ← tgL_like hm, decide_eq_decide]
  exact eq_comm
theorem like_refl {one ms : List Int} (hm : ms.Pairwise (· < ·)) : likeB one one ms = true := by rw [← tgL_like hm]; simp
theorem like_tg {one ms : List Int} (hm : ms.Pairwise (· < ·)) : likeB one (tgL one ms) ms = true := by
  have hs : ∀ m ∈ ms, m ∈ siL (one ++ ms) := fun m h => mem_siL.mpr (List.mem_append_right _ h)
  have hz : ∀ p ∈ one.zip (tgL one ms), p.1 ∈ siL (one ++ ms) ∧ p.2 = tgI (siL (one ++ ms)) ms p.1 := fun p hp => by
    obtain ⟨i, hi⟩ := List.mem_iff_getElem?.mp hp
    rw [List.getElem?_zip_eq_some] at hi
    obtain ⟨h1, h2⟩ := hi
    refine ⟨mem_siL.mpr (List.mem_append_left _ (List.mem_of_getElem? h1)), ?_⟩
    unfold tgL at h2
    rw [List.getElem?_map, h1] at h2
    exact (Option.some.inj h2).symm
  unfold likeB
  rw [Bool.and_eq_true, decide_eq_true_eq, List.all_eq_true]
  refine ⟨by unfold tgL; simp, fun p hp => ?_⟩
  obtain ⟨p1, p2⟩ := hz p hp
  rw [Bool.and_eq_true, List.all_eq_true, List.all_eq_true]
  refine ⟨fun q hq => ?_, fun m hmm => ?_⟩
  · obtain ⟨q1, q2⟩ := hz q hq
    rw [decide_eq_true_eq, p2, q2, tg_sg asc_siL hm hs p1 q1]
  · have := tg_sg asc_siL hm hs p1 (hs m hmm)
    rw [tg_mark hm hmm] at this
    rw [decide_eq_true_eq, p2, this]

/-! ### check_marks, anchor, Order.tight -/
/-- a list or a tuple of numbers -/
def IsS (d : D) (l : List Int) : Prop := d = .lst (l.map .int) ∨ d = .tup (l.map .int)
def badM (ms : List Int) : Bool := (ms.zip ms.tail).any fun p => decide (p.2 ≤ p.1)
theorem badM_asc : ∀ {ms : List Int}, badM ms = false → ms.Pairwise (· < ·)
  | [], _ => .nil
  | [a], _ => List.pairwise_singleton _ _
  | a :: b :: r, h => by
    unfold badM at h
    simp only [List.tail_cons, List.zip_cons_cons, List.any_cons, Bool.or_eq_false_iff, decide_eq_false_iff_not] at h
    have ih := badM_asc (ms := b :: r) (by unfold badM; exact h.2)
    refine List.pairwise_cons.mpr ⟨fun x hx => ?_, ih⟩
    rcases List.mem_cons.mp hx with e | e
    · omega
    · have := (List.pairwise_cons.mp ih).1 x e
      omega
theorem zip_pairs (ms : List Int) : zipL (ms.map D.int) ((ms.map D.int).drop 1) = (ms.zip ms.tail).map fun p => D.tup [.int p.1, .int p.2] := by
  unfold zipL
  rw [List.drop_one, ← List.map_tail, List.zipWith_map_left, List.zipWith_map_right, List.zip, List.map_zipWith]
theorem r_check {n : Nat} {ρ : List D} {d : D} {ms : List Int} (hd : IsS d ms) (hl : ms.length ≤ 1000) : run Tb (n + 1) 0 (fun _ => false) ρ [d] = if badM ms = true then .exc 2 [] ρ else .ok false .non ρ := by
  have hlen : ((ms.zip ms.tail).map fun p => D.tup [.int p.1, .int p.2]).length ≤ 100000 := by simp; omega
  have hlc : lcL (tupG 2 (consG (nameG 1) (consG (nameG 2) nilG))) yesT (bin2 geD (varS 1) (varS 2)) ρ [some d, none, none] ((ms.zip ms.tail).map fun p => D.tup [.int p.1, .int p.2]) = .ok ((ms.zip ms.tail).map fun p => .bl (decide (p.2 ≤ p.1))) :=
    lc_map _ fun p hp => ⟨[some d, some (.int p.1), some (.int p.2)], rfl, by walk_at "dd"⟩
  have hb : ∀ mu : Nat → Bool, B_check_marks (run Tb n) mu ρ [some d, none, none] = if badM ms = true then .exc 2 [] ρ [some d, none, none] else .nx ρ [some d, none, none] := by
    intro mu
    unfold badM
    rcases hd with rfl | rfl
    · cases hz : (ms.zip ms.tail).any fun p => decide (p.2 ≤ p.1)
      · simp (disch := walk_at "ds") only [B_check_marks, zip_pairs, hlc, anyC_map, hz, rep_0, rep_s, get_0, get_s, set_0, set_s, app_n, app_c, map_n, map_c, wipe_n, wipe_c, rb_ok, rb_exc, ofO_some, rd_some, varS_ap, conS_ap, nilA_ap, consA_ap, consR_ok, consR_exc, consR_exc0, items_ap, items_lst, items_tup, items_scr, starA_ap, starR_ok, tupS_ap, tupR_ok, lstS_ap, lstR_ok, andS_ap, andR_t, andR_f, orS_ap, orR_t, orR_f, notS_ap, testS_ap, truR_bl, truR_int, ifS_ap, ifR_t, ifR_f, andT_ap, andW_t, andW_f, orT_ap, orW_t, orW_f, notT_ap, yesT_ap, tb1_ap, blR_bl, bin2_ap, b2R_ok, un1_ap, callB_ap, cbR_ok, chainS_ap, noP_ap, someP_ap, intR_ok, slS_ap, slR_ok, slD_ap, slQ_lst, slQ_tup, methS_ap, meR_ok, callS_ap, calR_ok, cal1_ok, cal1_exc, lcS_ap, lcR_ok, lcQ_ok, lcL_nil, lcL_yes, lcY_ok, lcZ_ok, itI_ap, itR_lst, itR_scr, itR_tup, itR_str, rng1I_ap, rn1R_ok, rng3I_ap, rn3R_up, zipI_ap, zpR_lst, zpR_tup, nameG_ap, nilG_ap, consG_ap, cgR_ok, tupG_2, tupG_3, seqS_ap, sqR_nx, sqR_ret, sqR_exc, passS_ap, retS_ap, retF_ap, reR_ok, reR_exc, asgS_ap, asR_ok, asR_exc, agR_ok, ownS_ap, owR_ok, iffS_ap, ifO_t, ifO_f, ifO_exc, expS_ap, exR_ok, exR_exc, forS_ap, foR_ok, forL_nil, forL_cons, flA_ok, flB_nx, appS_ap, apR_last, raiS_ap, rai1S_ap, raR_int, tryS_ap, trR_nx, trR_ret, trR_exc, starS_ap, stR_1, dr_int, dr_str, dr_bl, dr_non, dr_tup, dr_lst, dr_scr, dr_wd, dr_exn, dr_lstR, addD_ap, addQ_int, addQ_str, addQ_lst, addQ_tup, subD_int, negD_int, mulD_int, mulD_lst, fdivD_int, modD_int, powD_int, ltD_int, leD_int, gtD_int, geD_int, isn_lst, isn_non, eqB_str, eqB_int, eqD_ap, neD_ap, inB_wd, inB_chr, inD_ap, ninD_ap, omap_some, look_n, look_c, ixD_ap, ixQ_lst, ixQ_tup, ixQ_scr, ixQ_wd, ixQ_str, at_0, at_m1, at_m1c, at_p, rg2S_ap, r2R_ok, rg1S_ap, r1R_ok, rgD_ok', cut_m1, cut_pos, cut_posf, drop_0, drop_s, take_0, take_s, take_n, dl_1, dl_c, flat_rep, eq_self, Int.cast_ofNat_Int, lenD_ap, lenQ_lst, lenQ_scr, lenQ_tup, lenQ_str, intC_int, strC_str, strC_int, listC_lst, listC_tup, tupleC_lst, tupleC_tup, joinM_ap, splitM_ok, ofString_inj, List.length_cons, List.length_nil, List.length_append, List.length_map, Int.reduceNeg, Int.reduceAdd, Int.reduceSub, Int.reduceMul, Int.reduceMod, Int.reducePow, Int.reduceDiv, Int.reduceLE, Int.reduceLT, Int.reduceEq, Int.reduceToNat, Nat.reduceAdd, Nat.reduceSub, Nat.reduceLeDiff, Nat.reduceEqDiff, String.reduceEq, decide_true, decide_false, Bool.not_true, Bool.not_false, Bool.and_true, Bool.true_and, Bool.and_false, Bool.false_and, Bool.or_true, Bool.or_false, Bool.true_or, Bool.false_or, Option.isSome_some, Option.isSome_none, if_true, if_false, Bool.false_eq_true, Int.reduceBNe]
      · simp (disch := walk_at "ds") only [B_check_marks, zip_pairs, hlc, anyC_map, hz, rep_0, rep_s, get_0, get_s, set_0, set_s, app_n, app_c, map_n, map_c, wipe_n, wipe_c, rb_ok, rb_exc, ofO_some, rd_some, varS_ap, conS_ap, nilA_ap, consA_ap, consR_ok, consR_exc, consR_exc0, items_ap, items_lst, items_tup, items_scr, starA_ap, starR_ok, tupS_ap, tupR_ok, lstS_ap, lstR_ok, andS_ap, andR_t, andR_f, orS_ap, orR_t, orR_f, notS_ap, testS_ap, truR_bl, truR_int, ifS_ap, ifR_t, ifR_f, andT_ap, andW_t, andW_f, orT_ap, orW_t, orW_f, notT_ap, yesT_ap, tb1_ap, blR_bl, bin2_ap, b2R_ok, un1_ap, callB_ap, cbR_ok, chainS_ap, noP_ap, someP_ap, intR_ok, slS_ap, slR_ok, slD_ap, slQ_lst, slQ_tup, methS_ap, meR_ok, callS_ap, calR_ok, cal1_ok, cal1_exc, lcS_ap, lcR_ok, lcQ_ok, lcL_nil, lcL_yes, lcY_ok, lcZ_ok, itI_ap, itR_lst, itR_scr, itR_tup, itR_str, rng1I_ap, rn1R_ok, rng3I_ap, rn3R_up, zipI_ap, zpR_lst, zpR_tup, nameG_ap, nilG_ap, consG_ap, cgR_ok, tupG_2, tupG_3, seqS_ap, sqR_nx, sqR_ret, sqR_exc, passS_ap, retS_ap, retF_ap, reR_ok, reR_exc, asgS_ap, asR_ok, asR_exc, agR_ok, ownS_ap, owR_ok, iffS_ap, ifO_t, ifO_f, ifO_exc, expS_ap, exR_ok, exR_exc, forS_ap, foR_ok, forL_nil, forL_cons, flA_ok, flB_nx, appS_ap, apR_last, raiS_ap, rai1S_ap, raR_int, tryS_ap, trR_nx, trR_ret, trR_exc, starS_ap, stR_1, dr_int, dr_str, dr_bl, dr_non, dr_tup, dr_lst, dr_scr, dr_wd, dr_exn, dr_lstR, addD_ap, addQ_int, addQ_str, addQ_lst, addQ_tup, subD_int, negD_int, mulD_int, mulD_lst, fdivD_int, modD_int, powD_int, ltD_int, leD_int, gtD_int, geD_int, isn_lst, isn_non, eqB_str, eqB_int, eqD_ap, neD_ap, inB_wd, inB_chr, inD_ap, ninD_ap, omap_some, look_n, look_c, ixD_ap, ixQ_lst, ixQ_tup, ixQ_scr, ixQ_wd, ixQ_str, at_0, at_m1, at_m1c, at_p, rg2S_ap, r2R_ok, rg1S_ap, r1R_ok, rgD_ok', cut_m1, cut_pos, cut_posf, drop_0, drop_s, take_0, take_s, take_n, dl_1, dl_c, flat_rep, eq_self, Int.cast_ofNat_Int, lenD_ap, lenQ_lst, lenQ_scr, lenQ_tup, lenQ_str, intC_int, strC_str, strC_int, listC_lst, listC_tup, tupleC_lst, tupleC_tup, joinM_ap, splitM_ok, ofString_inj, List.length_cons, List.length_nil, List.length_append, List.length_map, Int.reduceNeg, Int.reduceAdd, Int.reduceSub, Int.reduceMul, Int.reduceMod, Int.reducePow, Int.reduceDiv, Int.reduceLE, Int.reduceLT, Int.reduceEq, Int.reduceToNat, Nat.reduceAdd, Nat.reduceSub, Nat.reduceLeDiff, Nat.reduceEqDiff, String.reduceEq, decide_true, decide_false, Bool.not_true, Bool.not_false, Bool.and_true, Bool.true_and, Bool.and_false, Bool.false_and, Bool.or_true, Bool.or_false, Bool.true_or, Bool.false_or, Option.isSome_some, Option.isSome_none, if_true, if_false, Bool.false_eq_true, Int.reduceBNe]
    · cases hz : (ms.zip ms.tail).any fun p => decide (p.2 ≤ p.1)
      · simp (disch := walk_at "ds") only [B_check_marks, zip_pairs, hlc, anyC_map, hz, rep_0, rep_s, get_0, get_s, set_0, set_s, app_n, app_c, map_n, map_c, wipe_n, wipe_c, rb_ok, rb_exc, ofO_some, rd_some, varS_ap, conS_ap, nilA_ap, consA_ap, consR_ok, consR_exc, consR_exc0, items_ap, items_lst, items_tup, items_scr, starA_ap, starR_ok, tupS_ap, tupR_ok, lstS_ap, lstR_ok, andS_ap, andR_t, andR_f, orS_ap, orR_t, orR_f, notS_ap, testS_ap, truR_bl, truR_int, ifS_ap, ifR_t, ifR_f, andT_ap, andW_t, andW_f, orT_ap, orW_t, orW_f, notT_ap, yesT_ap, tb1_ap, blR_bl, bin2_ap, b2R_ok, un1_ap, callB_ap, cbR_ok, chainS_ap, noP_ap, someP_ap, intR_ok, slS_ap, slR_ok, slD_ap, slQ_lst, slQ_tup, methS_ap, meR_ok, callS_ap, calR_ok, cal1_ok, cal1_exc, lcS_ap, lcR_ok, lcQ_ok, lcL_nil, lcL_yes, lcY_ok, lcZ_ok, itI_ap, itR_lst, itR_scr, itR_tup, itR_str, rng1I_ap, rn1R_ok, rng3I_ap, rn3R_up, zipI_ap, zpR_lst, zpR_tup, nameG_ap, nilG_ap, consG_ap, cgR_ok, tupG_2, tupG_3, seqS_ap, sqR_nx, sqR_ret, sqR_exc, passS_ap, retS_ap, retF_ap, reR_ok, reR_exc, asgS_ap, asR_ok, asR_exc, agR_ok, ownS_ap, owR_ok, iffS_ap, ifO_t, ifO_f, ifO_exc, expS_ap, exR_ok, exR_exc, forS_ap, foR_ok, forL_nil, forL_cons, flA_ok, flB_nx, appS_ap, apR_last, raiS_ap, rai1S_ap, raR_int, tryS_ap, trR_nx, trR_ret, trR_exc, starS_ap, stR_1, dr_int, dr_str, dr_bl, dr_non, dr_tup, dr_lst, dr_scr, dr_wd, dr_exn, dr_lstR, addD_ap, addQ_int, addQ_str, addQ_lst, addQ_tup, subD_int, negD_int, mulD_int, mulD_lst, fdivD_int, modD_int, powD_int, ltD_int, leD_int, gtD_int, geD_int, isn_lst, isn_non, eqB_str, eqB_int, eqD_ap, neD_ap, inB_wd, inB_chr, inD_ap, ninD_ap, omap_some, look_n, look_c, ixD_ap, ixQ_lst, ixQ_tup, ixQ_scr, ixQ_wd, ixQ_str, at_0, at_m1, at_m1c, at_p, rg2S_ap, r2R_ok, rg1S_ap, r1R_ok, rgD_ok', cut_m1, cut_pos, cut_posf, drop_0, drop_s, take_0, take_s, take_n, dl_1, dl_c, flat_rep, eq_self, Int.cast_ofNat_Int, lenD_ap, lenQ_lst, lenQ_scr, lenQ_tup, lenQ_str, intC_int, strC_str, strC_int, listC_lst, listC_tup, tupleC_lst, tupleC_tup, joinM_ap, splitM_ok, ofString_inj, List.length_cons, List.length_nil, List.length_append, List.length_map, Int.reduceNeg, Int.reduceAdd, Int.reduceSub, Int.reduceMul, Int.reduceMod, Int.reducePow, Int.reduceDiv, Int.reduceLE, Int.reduceLT, Int.reduceEq, Int.reduceToNat, Nat.reduceAdd, Nat.reduceSub, Nat.reduceLeDiff, Nat.reduceEqDiff, String.reduceEq, decide_true, decide_false, Bool.not_true, Bool.not_false, Bool.and_true, Bool.true_and, Bool.and_false, Bool.false_and, Bool.or_true, Bool.or_false, Bool.true_or, Bool.false_or, Option.isSome_some, Option.isSome_none, if_true, if_false, Bool.false_eq_true, Int.reduceBNe]
      · simp (disch := walk_at "ds") only [B_check_marks, zip_pairs, hlc, anyC_map, hz, rep_0, rep_s, get_0, get_s, set_0, set_s, app_n, app_c, map_n, map_c, wipe_n, wipe_c, rb_ok, rb_exc, ofO_some, rd_some, varS_ap, conS_ap, nilA_ap, consA_ap, consR_ok, consR_exc, consR_exc0, items_ap, items_lst, items_tup, items_scr, starA_ap, starR_ok, tupS_ap, tupR_ok, lstS_ap, lstR_ok, andS_ap, andR_t, andR_f, orS_ap, orR_t, orR_f, notS_ap, testS_ap, truR_bl, truR_int, ifS_ap, ifR_t, ifR_f, andT_ap, andW_t, andW_f, orT_ap, orW_t, orW_f, notT_ap, yesT_ap, tb1_ap, blR_bl, bin2_ap, b2R_ok, un1_ap, callB_ap, cbR_ok, chainS_ap, noP_ap, someP_ap, intR_ok, slS_ap, slR_ok, slD_ap, slQ_lst, slQ_tup, methS_ap, meR_ok, callS_ap, calR_ok, cal1_ok, cal1_exc, lcS_ap, lcR_ok, lcQ_ok, lcL_nil, lcL_yes, lcY_ok, lcZ_ok, itI_ap, itR_lst, itR_scr, itR_tup, itR_str, rng1I_ap, rn1R_ok, rng3I_ap, rn3R_up, zipI_ap, zpR_lst, zpR_tup, nameG_ap, nilG_ap, consG_ap, cgR_ok, tupG_2, tupG_3, seqS_ap, sqR_nx, sqR_ret, sqR_exc, passS_ap, retS_ap, retF_ap, reR_ok, reR_exc, asgS_ap, asR_ok, asR_exc, agR_ok, ownS_ap, owR_ok, iffS_ap, ifO_t, ifO_f, ifO_exc, expS_ap, exR_ok, exR_exc, forS_ap, foR_ok, forL_nil, forL_cons, flA_ok, flB_nx, appS_ap, apR_last, raiS_ap, rai1S_ap, raR_int, tryS_ap, trR_nx, trR_ret, trR_exc, starS_ap, stR_1, dr_int, dr_str, dr_bl, dr_non, dr_tup, dr_lst, dr_scr, dr_wd, dr_exn, dr_lstR, addD_ap, addQ_int, addQ_str, addQ_lst, addQ_tup, subD_int, negD_int, mulD_int, mulD_lst, fdivD_int, modD_int, powD_int, ltD_int, leD_int, gtD_int, geD_int, isn_lst, isn_non, eqB_str, eqB_int, eqD_ap, neD_ap, inB_wd, inB_chr, inD_ap, ninD_ap, omap_some, look_n, look_c, ixD_ap, ixQ_lst, ixQ_tup, ixQ_scr, ixQ_wd, ixQ_str, at_0, at_m1, at_m1c, at_p, rg2S_ap, r2R_ok, rg1S_ap, r1R_ok, rgD_ok', cut_m1, cut_pos, cut_posf, drop_0, drop_s, take_0, take_s, take_n, dl_1, dl_c, flat_rep, eq_self, Int.cast_ofNat_Int, lenD_ap, lenQ_lst, lenQ_scr, lenQ_tup, lenQ_str, intC_int, strC_str, strC_int, listC_lst, listC_tup, tupleC_lst, tupleC_tup, joinM_ap, splitM_ok, ofString_inj, List.length_cons, List.length_nil, List.length_append, List.length_map, Int.reduceNeg, Int.reduceAdd, Int.reduceSub, Int.reduceMul, Int.reduceMod, Int.reducePow, Int.reduceDiv, Int.reduceLE, Int.reduceLT, Int.reduceEq, Int.reduceToNat, Nat.reduceAdd, Nat.reduceSub, Nat.reduceLeDiff, Nat.reduceEqDiff, String.reduceEq, decide_true, decide_false, Bool.not_true, Bool.not_false, Bool.and_true, Bool.true_and, Bool.and_false, Bool.false_and, Bool.or_true, Bool.or_false, Bool.true_or, Bool.false_or, Option.isSome_some, Option.isSome_none, if_true, if_false, Bool.false_eq_true, Int.reduceBNe]
  cases e : badM ms
  · exact run_res 1 3 B_check_marks rfl rfl rfl (hb _) (by rw [e]; exact fin_nx0)
  · exact run_res 1 3 B_check_marks rfl rfl rfl (hb _) (by rw [e]; exact fin_exc0 rfl)
theorem mxd_anc {ρ : List D} {ms : List Int} {x : Int} : mxdD ρ (.lst ((ms.filter fun m => decide (m ≤ x)).map .int)) (.int (ms.headD 0)) = some (.int (ancI ms x)) := by
  unfold ancI
  show ((intsD _).bind _) = _
  rw [intsD_map, Option.bind_some]
  cases ms.filter fun m => decide (m ≤ x) <;> rfl
theorem r_anchor {n : Nat} {ρ : List D} {d : D} {ms : List Int} {x : Int} (hd : IsS d ms) (hl : ms.length ≤ 1000) (hne : ms ≠ []) : run Tb (n + 1) 1 (fun _ => false) ρ [.int x, d] = .ok false (.int (ancI ms x)) ρ := by
  have hlen : (ms.map D.int).length ≤ 100000 := by simp; omega
  have hlc : lcL (nameG 2) (tb1 (bin2 leD (varS 2) (varS 0))) (varS 2) ρ [some (.int x), some d, none] (ms.map .int) = .ok ((ms.filter fun m => decide (m ≤ x)).map .int) :=
    lc_filter _ fun m hm => ⟨[some (.int x), some d, some (.int m)], rfl, by walk_at "dd", fun _ => by walk_at "dd"⟩
  have hat : atI (ms.map D.int) 0 = some (.int (ms.headD 0)) := by
    cases ms with
    | nil => exact absurd rfl hne
    | cons a r => exact at_0
  refine run_res 2 3 B_anchor (o := .ret false (.int (ancI ms x)) ρ) rfl rfl rfl ?_ (fin_ret0 (by intro r h; cases h) rfl)
  rcases hd with rfl | rfl
  · simp (disch := walk_at "ds") only [B_anchor, hlc, hat, mxd_anc, rep_0, rep_s, get_0, get_s, set_0, set_s, app_n, app_c, map_n, map_c, wipe_n, wipe_c, rb_ok, rb_exc, ofO_some, rd_some, varS_ap, conS_ap, nilA_ap, consA_ap, consR_ok, consR_exc, consR_exc0, items_ap, items_lst, items_tup, items_scr, starA_ap, starR_ok, tupS_ap, tupR_ok, lstS_ap, lstR_ok, andS_ap, andR_t, andR_f, orS_ap, orR_t, orR_f, notS_ap, testS_ap, truR_bl, truR_int, ifS_ap, ifR_t, ifR_f, andT_ap, andW_t, andW_f, orT_ap, orW_t, orW_f, notT_ap, yesT_ap, tb1_ap, blR_bl, bin2_ap, b2R_ok, un1_ap, callB_ap, cbR_ok, chainS_ap, noP_ap, someP_ap, intR_ok, slS_ap, slR_ok, slD_ap, slQ_lst, slQ_tup, methS_ap, meR_ok, callS_ap, calR_ok, cal1_ok, cal1_exc, lcS_ap, lcR_ok, lcQ_ok, lcL_nil, lcL_yes, lcY_ok, lcZ_ok, itI_ap, itR_lst, itR_scr, itR_tup, itR_str, rng1I_ap, rn1R_ok, rng3I_ap, rn3R_up, zipI_ap, zpR_lst, zpR_tup, nameG_ap, nilG_ap, consG_ap, cgR_ok, tupG_2, tupG_3, seqS_ap, sqR_nx, sqR_ret, sqR_exc, passS_ap, retS_ap, retF_ap, reR_ok, reR_exc, asgS_ap, asR_ok, asR_exc, agR_ok, ownS_ap, owR_ok, iffS_ap, ifO_t, ifO_f, ifO_exc, expS_ap, exR_ok, exR_exc, forS_ap, foR_ok, forL_nil, forL_cons, flA_ok, flB_nx, appS_ap, apR_last, raiS_ap, rai1S_ap, raR_int, tryS_ap, trR_nx, trR_ret, trR_exc, starS_ap, stR_1, dr_int, dr_str, dr_bl, dr_non, dr_tup, dr_lst, dr_scr, dr_wd, dr_exn, dr_lstR, addD_ap, addQ_int, addQ_str, addQ_lst, addQ_tup, subD_int, negD_int, mulD_int, mulD_lst, fdivD_int, modD_int, powD_int, ltD_int, leD_int, gtD_int, geD_int, isn_lst, isn_non, eqB_str, eqB_int, eqD_ap, neD_ap, inB_wd, inB_chr, inD_ap, ninD_ap, omap_some, look_n, look_c, ixD_ap, ixQ_lst, ixQ_tup, ixQ_scr, ixQ_wd, ixQ_str, at_0, at_m1, at_m1c, at_p, rg2S_ap, r2R_ok, rg1S_ap, r1R_ok, rgD_ok', cut_m1, cut_pos, cut_posf, drop_0, drop_s, take_0, take_s, take_n, dl_1, dl_c, flat_rep, eq_self, Int.cast_ofNat_Int, lenD_ap, lenQ_lst, lenQ_scr, lenQ_tup, lenQ_str, intC_int, strC_str, strC_int, listC_lst, listC_tup, tupleC_lst, tupleC_tup, joinM_ap, splitM_ok, ofString_inj, List.length_cons, List.length_nil, List.length_append, List.length_map, Int.reduceNeg, Int.reduceAdd, Int.reduceSub, Int.reduceMul, Int.reduceMod, Int.reducePow, Int.reduceDiv, Int.reduceLE, Int.reduceLT, Int.reduceEq, Int.reduceToNat, Nat.reduceAdd, Nat.reduceSub, Nat.reduceLeDiff, Nat.reduceEqDiff, String.reduceEq, decide_true, decide_false, Bool.not_true, Bool.not_false, Bool.and_true, Bool.true_and, Bool.and_false, Bool.false_and, Bool.or_true, Bool.or_false, Bool.true_or, Bool.false_or, Option.isSome_some, Option.isSome_none, if_true, if_false, Bool.false_eq_true, Int.reduceBNe]
  · simp (disch := walk_at "ds") only [B_anchor, hlc, hat, mxd_anc, rep_0, rep_s, get_0, get_s, set_0, set_s, app_n, app_c, map_n, map_c, wipe_n, wipe_c, rb_ok, rb_exc, ofO_some, rd_some, varS_ap, conS_ap, nilA_ap, consA_ap, consR_ok, consR_exc, consR_exc0, items_ap, items_lst, items_tup, items_scr, starA_ap, starR_ok, tupS_ap, tupR_ok, lstS_ap, lstR_ok, andS_ap, andR_t, andR_f, orS_ap, orR_t, orR_f, notS_ap, testS_ap, truR_bl, truR_int, ifS_ap, ifR_t, ifR_f, andT_ap, andW_t, andW_f, orT_ap, orW_t, orW_f, notT_ap, yesT_ap, tb1_ap, blR_bl, bin2_ap, b2R_ok, un1_ap, callB_ap, cbR_ok, chainS_ap, noP_ap, someP_ap, intR_ok, slS_ap, slR_ok, slD_ap, slQ_lst, slQ_tup, methS_ap, meR_ok, callS_ap, calR_ok, cal1_ok, cal1_exc, lcS_ap, lcR_ok, lcQ_ok, lcL_nil, lcL_yes, lcY_ok, lcZ_ok, itI_ap, itR_lst, itR_scr, itR_tup, itR_str, rng1I_ap, rn1R_ok, rng3I_ap, rn3R_up, zipI_ap, zpR_lst, zpR_tup, nameG_ap, nilG_ap, consG_ap, cgR_ok, tupG_2, tupG_3, seqS_ap, sqR_nx, sqR_ret, sqR_exc, passS_ap, retS_ap, retF_ap, reR_ok, reR_exc, asgS_ap, asR_ok, asR_exc, agR_ok, ownS_ap, owR_ok, iffS_ap, ifO_t, ifO_f, ifO_exc, expS_ap, exR_ok, exR_exc, forS_ap, foR_ok, forL_nil, forL_cons, flA_ok, flB_nx, appS_ap, apR_last, raiS_ap, rai1S_ap, raR_int, tryS_ap, trR_nx, trR_ret, trR_exc, starS_ap, stR_1, dr_int, dr_str, dr_bl, dr_non, dr_tup, dr_lst, dr_scr, dr_wd, dr_exn, dr_lstR, addD_ap, addQ_int, addQ_str, addQ_lst, addQ_tup, subD_int, negD_int, mulD_int, mulD_lst, fdivD_int, modD_int, powD_int, ltD_int, leD_int, gtD_int, geD_int, isn_lst, isn_non, eqB_str, eqB_int, eqD_ap, neD_ap, inB_wd, inB_chr, inD_ap, ninD_ap, omap_some, look_n, look_c, ixD_ap, ixQ_lst, ixQ_tup, ixQ_scr, ixQ_wd, ixQ_str, at_0, at_m1, at_m1c, at_p, rg2S_ap, r2R_ok, rg1S_ap, r1R_ok, rgD_ok', cut_m1, cut_pos, cut_posf, drop_0, drop_s, take_0, take_s, take_n, dl_1, dl_c, flat_rep, eq_self, Int.cast_ofNat_Int, lenD_ap, lenQ_lst, lenQ_scr, lenQ_tup, lenQ_str, intC_int, strC_str, strC_int, listC_lst, listC_tup, tupleC_lst, tupleC_tup, joinM_ap, splitM_ok, ofString_inj, List.length_cons, List.length_nil, List.length_append, List.length_map, Int.reduceNeg, Int.reduceAdd, Int.reduceSub, Int.reduceMul, Int.reduceMod, Int.reducePow, Int.reduceDiv, Int.reduceLE, Int.reduceLT, Int.reduceEq, Int.reduceToNat, Nat.reduceAdd, Nat.reduceSub, Nat.reduceLeDiff, Nat.reduceEqDiff, String.reduceEq, decide_true, decide_false, Bool.not_true, Bool.not_false, Bool.and_true, Bool.true_and, Bool.and_false, Bool.false_and, Bool.or_true, Bool.or_false, Bool.true_or, Bool.false_or, Option.isSome_some, Option.isSome_none, if_true, if_false, Bool.false_eq_true, Int.reduceBNe]
/-- a level's place -/
theorem look_rk : ∀ {lv : List Int} {x : Int} (k : Nat), lv.Pairwise (· < ·) → x ∈ lv → lookK (lv.map .inl) ((List.range' k lv.length).map fun i => D.int (i : Nat)) (.inl x) = some (.int ((k + rkI lv x : Nat) : Int))
  | z :: l, x, k, h, hx => by
    obtain ⟨h1, h2⟩ := List.pairwise_cons.mp h
    rw [List.length_cons, List.range'_succ, List.map_cons, List.map_cons]
    simp only [lookK, Sum.inl.injEq]
    by_cases e : z = x
    · subst e
      have h0 : rkI (z :: l) z = 0 := by
        unfold rkI
        rw [List.countP_eq_zero]
        intro a ha
        rcases List.mem_cons.mp ha with e | e
        · subst e; simp
        · have := h1 a e; simp; omega
      rw [if_pos rfl, h0]; rfl
    · rw [if_neg e]
      have hx' : x ∈ l := (List.mem_cons.mp hx).resolve_left fun z => e z.symm
      rw [look_rk (k + 1) h2 hx']
      have := h1 x hx'
      have e1 : rkI (z :: l) x = rkI l x + 1 := by
        unfold rkI
        rw [List.countP_cons, if_pos (by simpa using this)]
      rw [e1]
      congr 3
      omega
theorem enum_ints (lv : List Int) : enumL (lv.map D.int) = ((List.range lv.length).zip lv).map fun p => D.tup [.int (0 + (p.1 : Nat)), .int p.2] := by
  unfold enumL zipL rngL
  rw [List.length_map, List.zipWith_map_left, List.zipWith_map_right, List.zip, List.map_zipWith]
theorem nodup_asc {lv : List Int} (h : lv.Pairwise (· < ·)) : lv.Nodup := h.imp fun {a b} h => by omega
theorem r_tight {n : Nat} {ρ : List D} {a d : D} {l ms : List Int} (ha : IsS a l) (hd : IsS d ms) (hl : l.length + ms.length < 64) (hb : badM ms = false) : run Tb (n + 2) 2 (fun _ => false) ρ [a, d] = .ok false (.tup ((tgL l ms).map .int)) ρ := by
  have hasc : (siL (l ++ ms)).Pairwise (· < ·) := asc_siL
  generalize hlv : siL (l ++ ms) = lv at hasc
  have hmem : ∀ x, x ∈ lv ↔ x ∈ l ++ ms := fun x => by rw [← hlv]; exact mem_siL
  have hlvl : lv.length ≤ 100000 := by
    have h1 : ∀ (m : List Int) (x : Int), (insI x m).length ≤ m.length + 1 := fun m x => by
      induction m with
      | nil => simp [insI]
      | cons y m ih => unfold insI; split <;> (try split) <;> simp_all
    have h2 : ∀ m : List Int, (siL m).length ≤ m.length := fun m => by
      induction m with
      | nil => simp [siL]
      | cons y m ih => exact Nat.le_trans (h1 (siL m) y) (by simpa using ih)
    have := h2 (l ++ ms)
    rw [hlv, List.length_append] at this
    omega
  have hchk : run Tb (n + 1) 0 (fun _ => false) ρ [d] = .ok false .non ρ := by rw [r_check hd (by omega), hb]; rfl
  have hitem : siQ (.lst (l.map D.int ++ (ms.map D.int ++ []))) = some (.lst (lv.map .int)) := by rw [siQ_app hl, hlv]
  have hlen2 : (l.map D.int ++ (ms.map D.int ++ [])).length ≤ 100000 := by simp; omega
  -- the ranks
  have hrk : ∀ z : Option D, dcR (enR ρ (.ok (.lst (lv.map .int)))) (tupG 2 (consG (nameG 5) (consG (nameG 6) nilG))) yesT (varS 6) (varS 5) ρ [some a, some d, some (.lst (lv.map .int)), z, none, none, none, none, none] = .ok (.dct (lv.map .inl) ((List.range lv.length).map fun i => D.int (i : Nat))) := by
    intro z
    rw [enR_lst, enum_ints]
    rw [dcR_map (y := fun p => .int p.2) (z := fun p => .int (0 + (p.1 : Nat))) (key := fun p => .inl p.2) (by simp; omega) (fun p _ => ⟨[some a, some d, some (.lst (lv.map .int)), z, none, some (.int (0 + (p.1 : Nat))), some (.int p.2), none, none], rfl, by walk_at "dd", by walk_at "dd", rfl⟩) ?_]
    · congr 2
      · rw [show (fun p : Nat × Int => (Sum.inl p.2 : L2.Key)) = Sum.inl ∘ Prod.snd from rfl, ← List.map_map, List.map_snd_zip (by simp)]
      · rw [show (fun p : Nat × Int => D.int (0 + (p.1 : Int))) = (fun i : Nat => D.int (0 + (i : Int))) ∘ Prod.fst from rfl, ← List.map_map, List.map_fst_zip (by simp)]
        simp
    · rw [show (fun p : Nat × Int => (Sum.inl p.2 : L2.Key)) = Sum.inl ∘ Prod.snd from rfl, ← List.map_map, List.map_snd_zip (by simp)]
      exact List.Pairwise.map _ (fun a b h => fun e => h (Sum.inl.inj e)) (nodup_asc hasc)
  generalize hR : D.dct (lv.map .inl) ((List.range lv.length).map fun i => D.int (i : Nat)) = R at hrk
  have hlook : ∀ x ∈ lv, ixQ R (.int x) = some (.int (rkI lv x : Nat)) := by
    intro x hx
    rw [← hR]
    show lookK _ _ (.inl x) = _
    have := look_rk 0 hasc hx
    rw [List.range_eq_range']
    simpa using this
  have hdr : dr ρ R = R := by rw [← hR]; rfl
  have hlm : (l.map D.int).length ≤ 100000 := by simp; omega
  have hin : ∀ x ∈ l, x ∈ lv := fun x hx => (hmem x).mpr (List.mem_append_left _ hx)
  refine run_res 2 9 B_Order_tight (o := .ret false (.tup ((tgL l ms).map .int)) ρ) rfl rfl rfl ?_ (fin_ret0 (by intro r h; cases h) (by show okRtL _ _ = true; exact okL_map fun _ _ => rfl))
  by_cases e0 : ms = []
  · have hlc : lcL (nameG 7) yesT (bin2 ixD (varS 3) (varS 7)) ρ [some a, some d, some (.lst (lv.map .int)), some R, none, none, none, none, none] (l.map .int) = .ok (l.map fun x => .int (rkI lv x : Nat)) :=
      lc_map _ fun x hx => ⟨[some a, some d, some (.lst (lv.map .int)), some R, none, none, none, some (.int x), none], rfl, by simp (disch := walk_at "ds") only [hlook x (hin x hx), hdr, rep_0, rep_s, get_0, get_s, set_0, set_s, app_n, app_c, map_n, map_c, wipe_n, wipe_c, rb_ok, rb_exc, ofO_some, rd_some, varS_ap, conS_ap, nilA_ap, consA_ap, consR_ok, consR_exc, consR_exc0, items_ap, items_lst, items_tup, items_scr, starA_ap, starR_ok, tupS_ap, tupR_ok, lstS_ap, lstR_ok, andS_ap, andR_t, andR_f, orS_ap, orR_t, orR_f, notS_ap, testS_ap, truR_bl, truR_int, ifS_ap, ifR_t, ifR_f, andT_ap, andW_t, andW_f, orT_ap, orW_t, orW_f, notT_ap, yesT_ap, tb1_ap, blR_bl, bin2_ap, b2R_ok, un1_ap, callB_ap, cbR_ok, chainS_ap, noP_ap, someP_ap, intR_ok, slS_ap, slR_ok, slD_ap, slQ_lst, slQ_tup, methS_ap, meR_ok, callS_ap, calR_ok, cal1_ok, cal1_exc, lcS_ap, lcR_ok, lcQ_ok, lcL_nil, lcL_yes, lcY_ok, lcZ_ok, itI_ap, itR_lst, itR_scr, itR_tup, itR_str, rng1I_ap, rn1R_ok, rng3I_ap, rn3R_up, zipI_ap, zpR_lst, zpR_tup, nameG_ap, nilG_ap, consG_ap, cgR_ok, tupG_2, tupG_3, seqS_ap, sqR_nx, sqR_ret, sqR_exc, passS_ap, retS_ap, retF_ap, reR_ok, reR_exc, asgS_ap, asR_ok, asR_exc, agR_ok, ownS_ap, owR_ok, iffS_ap, ifO_t, ifO_f, ifO_exc, expS_ap, exR_ok, exR_exc, forS_ap, foR_ok, forL_nil, forL_cons, flA_ok, flB_nx, appS_ap, apR_last, raiS_ap, rai1S_ap, raR_int, tryS_ap, trR_nx, trR_ret, trR_exc, starS_ap, stR_1, dr_int, dr_str, dr_bl, dr_non, dr_tup, dr_lst, dr_scr, dr_wd, dr_exn, dr_lstR, addD_ap, addQ_int, addQ_str, addQ_lst, addQ_tup, subD_int, negD_int, mulD_int, mulD_lst, fdivD_int, modD_int, powD_int, ltD_int, leD_int, gtD_int, geD_int, isn_lst, isn_non, eqB_str, eqB_int, eqD_ap, neD_ap, inB_wd, inB_chr, inD_ap, ninD_ap, omap_some, look_n, look_c, ixD_ap, ixQ_lst, ixQ_tup, ixQ_scr, ixQ_wd, ixQ_str, at_0, at_m1, at_m1c, at_p, rg2S_ap, r2R_ok, rg1S_ap, r1R_ok, rgD_ok', cut_m1, cut_pos, cut_posf, drop_0, drop_s, take_0, take_s, take_n, dl_1, dl_c, flat_rep, eq_self, Int.cast_ofNat_Int, lenD_ap, lenQ_lst, lenQ_scr, lenQ_tup, lenQ_str, intC_int, strC_str, strC_int, listC_lst, listC_tup, tupleC_lst, tupleC_tup, joinM_ap, splitM_ok, ofString_inj, List.length_cons, List.length_nil, List.length_append, List.length_map, Int.reduceNeg, Int.reduceAdd, Int.reduceSub, Int.reduceMul, Int.reduceMod, Int.reducePow, Int.reduceDiv, Int.reduceLE, Int.reduceLT, Int.reduceEq, Int.reduceToNat, Nat.reduceAdd, Nat.reduceSub, Nat.reduceLeDiff, Nat.reduceEqDiff, String.reduceEq, decide_true, decide_false, Bool.not_true, Bool.not_false, Bool.and_true, Bool.true_and, Bool.and_false, Bool.false_and, Bool.or_true, Bool.or_false, Bool.true_or, Bool.false_or, Option.isSome_some, Option.isSome_none, if_true, if_false, Bool.false_eq_true, Int.reduceBNe]⟩
    have et : (tgL l ms).map D.int = l.map fun x => .int (rkI lv x : Nat) := by
      unfold tgL
      rw [List.map_map, hlv]
      refine List.map_congr_left fun x _ => ?_
      show D.int (tgI lv ms x) = _
      unfold tgI; rw [if_pos e0]
    have htru : truR ρ (.ok d) = .ok false := by rcases hd with rfl | rfl <;> (rw [e0]; rfl)
    rw [et]
    rcases ha with rfl | rfl <;> rcases hd with rfl | rfl <;> simp (disch := walk_at "ds") only [B_Order_tight, hchk, siS_ap, hitem, dcS_ap, enumI_ap, hrk, htru, hlc, rep_0, rep_s, get_0, get_s, set_0, set_s, app_n, app_c, map_n, map_c, wipe_n, wipe_c, rb_ok, rb_exc, ofO_some, rd_some, varS_ap, conS_ap, nilA_ap, consA_ap, consR_ok, consR_exc, consR_exc0, items_ap, items_lst, items_tup, items_scr, starA_ap, starR_ok, tupS_ap, tupR_ok, lstS_ap, lstR_ok, andS_ap, andR_t, andR_f, orS_ap, orR_t, orR_f, notS_ap, testS_ap, truR_bl, truR_int, ifS_ap, ifR_t, ifR_f, andT_ap, andW_t, andW_f, orT_ap, orW_t, orW_f, notT_ap, yesT_ap, tb1_ap, blR_bl, bin2_ap, b2R_ok, un1_ap, callB_ap, cbR_ok, chainS_ap, noP_ap, someP_ap, intR_ok, slS_ap, slR_ok, slD_ap, slQ_lst, slQ_tup, methS_ap, meR_ok, callS_ap, calR_ok, cal1_ok, cal1_exc, lcS_ap, lcR_ok, lcQ_ok, lcL_nil, lcL_yes, lcY_ok, lcZ_ok, itI_ap, itR_lst, itR_scr, itR_tup, itR_str, rng1I_ap, rn1R_ok, rng3I_ap, rn3R_up, zipI_ap, zpR_lst, zpR_tup, nameG_ap, nilG_ap, consG_ap, cgR_ok, tupG_2, tupG_3, seqS_ap, sqR_nx, sqR_ret, sqR_exc, passS_ap, retS_ap, retF_ap, reR_ok, reR_exc, asgS_ap, asR_ok, asR_exc, agR_ok, ownS_ap, owR_ok, iffS_ap, ifO_t, ifO_f, ifO_exc, expS_ap, exR_ok, exR_exc, forS_ap, foR_ok, forL_nil, forL_cons, flA_ok, flB_nx, appS_ap, apR_last, raiS_ap, rai1S_ap, raR_int, tryS_ap, trR_nx, trR_ret, trR_exc, starS_ap, stR_1, dr_int, dr_str, dr_bl, dr_non, dr_tup, dr_lst, dr_scr, dr_wd, dr_exn, dr_lstR, addD_ap, addQ_int, addQ_str, addQ_lst, addQ_tup, subD_int, negD_int, mulD_int, mulD_lst, fdivD_int, modD_int, powD_int, ltD_int, leD_int, gtD_int, geD_int, isn_lst, isn_non, eqB_str, eqB_int, eqD_ap, neD_ap, inB_wd, inB_chr, inD_ap, ninD_ap, omap_some, look_n, look_c, ixD_ap, ixQ_lst, ixQ_tup, ixQ_scr, ixQ_wd, ixQ_str, at_0, at_m1, at_m1c, at_p, rg2S_ap, r2R_ok, rg1S_ap, r1R_ok, rgD_ok', cut_m1, cut_pos, cut_posf, drop_0, drop_s, take_0, take_s, take_n, dl_1, dl_c, flat_rep, eq_self, Int.cast_ofNat_Int, lenD_ap, lenQ_lst, lenQ_scr, lenQ_tup, lenQ_str, intC_int, strC_str, strC_int, listC_lst, listC_tup, tupleC_lst, tupleC_tup, joinM_ap, splitM_ok, ofString_inj, List.length_cons, List.length_nil, List.length_append, List.length_map, Int.reduceNeg, Int.reduceAdd, Int.reduceSub, Int.reduceMul, Int.reduceMod, Int.reducePow, Int.reduceDiv, Int.reduceLE, Int.reduceLT, Int.reduceEq, Int.reduceToNat, Nat.reduceAdd, Nat.reduceSub, Nat.reduceLeDiff, Nat.reduceEqDiff, String.reduceEq, decide_true, decide_false, Bool.not_true, Bool.not_false, Bool.and_true, Bool.true_and, Bool.and_false, Bool.false_and, Bool.or_true, Bool.or_false, Bool.true_or, Bool.false_or, Option.isSome_some, Option.isSome_none, if_true, if_false, Bool.false_eq_true, Int.reduceBNe]
  · have hlc : lcL (nameG 7) yesT (tupS (consA (bin2 ixD (varS 3) (varS 7)) (consA (callS (run Tb (n + 1)) 1 [] (consA (varS 7) (consA (varS 1) nilA))) nilA))) ρ [some a, some d, some (.lst (lv.map .int)), some R, none, none, none, none, none] (l.map .int) = .ok (l.map fun x => .tup [.int (rkI lv x : Nat), .int (ancI ms x)]) :=
      lc_map _ fun x hx => ⟨[some a, some d, some (.lst (lv.map .int)), some R, none, none, none, some (.int x), none], rfl, by simp (disch := walk_at "ds") only [hlook x (hin x hx), hdr, r_anchor hd (show ms.length ≤ 1000 by omega) e0, rep_0, rep_s, get_0, get_s, set_0, set_s, app_n, app_c, map_n, map_c, wipe_n, wipe_c, rb_ok, rb_exc, ofO_some, rd_some, varS_ap, conS_ap, nilA_ap, consA_ap, consR_ok, consR_exc, consR_exc0, items_ap, items_lst, items_tup, items_scr, starA_ap, starR_ok, tupS_ap, tupR_ok, lstS_ap, lstR_ok, andS_ap, andR_t, andR_f, orS_ap, orR_t, orR_f, notS_ap, testS_ap, truR_bl, truR_int, ifS_ap, ifR_t, ifR_f, andT_ap, andW_t, andW_f, orT_ap, orW_t, orW_f, notT_ap, yesT_ap, tb1_ap, blR_bl, bin2_ap, b2R_ok, un1_ap, callB_ap, cbR_ok, chainS_ap, noP_ap, someP_ap, intR_ok, slS_ap, slR_ok, slD_ap, slQ_lst, slQ_tup, methS_ap, meR_ok, callS_ap, calR_ok, cal1_ok, cal1_exc, lcS_ap, lcR_ok, lcQ_ok, lcL_nil, lcL_yes, lcY_ok, lcZ_ok, itI_ap, itR_lst, itR_scr, itR_tup, itR_str, rng1I_ap, rn1R_ok, rng3I_ap, rn3R_up, zipI_ap, zpR_lst, zpR_tup, nameG_ap, nilG_ap, consG_ap, cgR_ok, tupG_2, tupG_3, seqS_ap, sqR_nx, sqR_ret, sqR_exc, passS_ap, retS_ap, retF_ap, reR_ok, reR_exc, asgS_ap, asR_ok, asR_exc, agR_ok, ownS_ap, owR_ok, iffS_ap, ifO_t, ifO_f, ifO_exc, expS_ap, exR_ok, exR_exc, forS_ap, foR_ok, forL_nil, forL_cons, flA_ok, flB_nx, appS_ap, apR_last, raiS_ap, rai1S_ap, raR_int, tryS_ap, trR_nx, trR_ret, trR_exc, starS_ap, stR_1, dr_int, dr_str, dr_bl, dr_non, dr_tup, dr_lst, dr_scr, dr_wd, dr_exn, dr_lstR, addD_ap, addQ_int, addQ_str, addQ_lst, addQ_tup, subD_int, negD_int, mulD_int, mulD_lst, fdivD_int, modD_int, powD_int, ltD_int, leD_int, gtD_int, geD_int, isn_lst, isn_non, eqB_str, eqB_int, eqD_ap, neD_ap, inB_wd, inB_chr, inD_ap, ninD_ap, omap_some, look_n, look_c, ixD_ap, ixQ_lst, ixQ_tup, ixQ_scr, ixQ_wd, ixQ_str, at_0, at_m1, at_m1c, at_p, rg2S_ap, r2R_ok, rg1S_ap, r1R_ok, rgD_ok', cut_m1, cut_pos, cut_posf, drop_0, drop_s, take_0, take_s, take_n, dl_1, dl_c, flat_rep, eq_self, Int.cast_ofNat_Int, lenD_ap, lenQ_lst, lenQ_scr, lenQ_tup, lenQ_str, intC_int, strC_str, strC_int, listC_lst, listC_tup, tupleC_lst, tupleC_tup, joinM_ap, splitM_ok, ofString_inj, List.length_cons, List.length_nil, List.length_append, List.length_map, Int.reduceNeg, Int.reduceAdd, Int.reduceSub, Int.reduceMul, Int.reduceMod, Int.reducePow, Int.reduceDiv, Int.reduceLE, Int.reduceLT, Int.reduceEq, Int.reduceToNat, Nat.reduceAdd, Nat.reduceSub, Nat.reduceLeDiff, Nat.reduceEqDiff, String.reduceEq, decide_true, decide_false, Bool.not_true, Bool.not_false, Bool.and_true, Bool.true_and, Bool.and_false, Bool.false_and, Bool.or_true, Bool.or_false, Bool.true_or, Bool.false_or, Option.isSome_some, Option.isSome_none, if_true, if_false, Bool.false_eq_true, Int.reduceBNe]⟩
    have hmid : ∀ x ∈ l, ancI ms x ∈ lv := fun x _ => (hmem _).mpr (List.mem_append_right _ (anc_in e0 x))
    have hlc2 : ∀ z : Option D, lcL (tupG 2 (consG (nameG 5) (consG (nameG 8) nilG))) yesT (bin2 subD (bin2 addD (varS 8) (varS 5)) (bin2 ixD (varS 3) (varS 8))) ρ [some a, some d, some (.lst (lv.map .int)), some R, z, none, none, none, none] (l.map fun x => D.tup [.int (rkI lv x : Nat), .int (ancI ms x)]) = .ok (l.map fun x => .int (ancI ms x + (rkI lv x : Nat) - (rkI lv (ancI ms x) : Nat))) := fun z =>
      lc_map _ fun x hx => ⟨[some a, some d, some (.lst (lv.map .int)), some R, z, some (.int (rkI lv x : Nat)), none, none, some (.int (ancI ms x))], rfl, by simp (disch := walk_at "ds") only [hlook _ (hmid x hx), hdr, rep_0, rep_s, get_0, get_s, set_0, set_s, app_n, app_c, map_n, map_c, wipe_n, wipe_c, rb_ok, rb_exc, ofO_some, rd_some, varS_ap, conS_ap, nilA_ap, consA_ap, consR_ok, consR_exc, consR_exc0, items_ap, items_lst, items_tup, items_scr, starA_ap, starR_ok, tupS_ap, tupR_ok, lstS_ap, lstR_ok, andS_ap, andR_t, andR_f, orS_ap, orR_t, orR_f, notS_ap, testS_ap, truR_bl, truR_int, ifS_ap, ifR_t, ifR_f, andT_ap, andW_t, andW_f, orT_ap, orW_t, orW_f, notT_ap, yesT_ap, tb1_ap, blR_bl, bin2_ap, b2R_ok, un1_ap, callB_ap, cbR_ok, chainS_ap, noP_ap, someP_ap, intR_ok, slS_ap, slR_ok, slD_ap, slQ_lst, slQ_tup, methS_ap, meR_ok, callS_ap, calR_ok, cal1_ok, cal1_exc, lcS_ap, lcR_ok, lcQ_ok, lcL_nil, lcL_yes, lcY_ok, lcZ_ok, itI_ap, itR_lst, itR_scr, itR_tup, itR_str, rng1I_ap, rn1R_ok, rng3I_ap, rn3R_up, zipI_ap, zpR_lst, zpR_tup, nameG_ap, nilG_ap, consG_ap, cgR_ok, tupG_2, tupG_3, seqS_ap, sqR_nx, sqR_ret, sqR_exc, passS_ap, retS_ap, retF_ap, reR_ok, reR_exc, asgS_ap, asR_ok, asR_exc, agR_ok, ownS_ap, owR_ok, iffS_ap, ifO_t, ifO_f, ifO_exc, expS_ap, exR_ok, exR_exc, forS_ap, foR_ok, forL_nil, forL_cons, flA_ok, flB_nx, appS_ap, apR_last, raiS_ap, rai1S_ap, raR_int, tryS_ap, trR_nx, trR_ret, trR_exc, starS_ap, stR_1, dr_int, dr_str, dr_bl, dr_non, dr_tup, dr_lst, dr_scr, dr_wd, dr_exn, dr_lstR, addD_ap, addQ_int, addQ_str, addQ_lst, addQ_tup, subD_int, negD_int, mulD_int, mulD_lst, fdivD_int, modD_int, powD_int, ltD_int, leD_int, gtD_int, geD_int, isn_lst, isn_non, eqB_str, eqB_int, eqD_ap, neD_ap, inB_wd, inB_chr, inD_ap, ninD_ap, omap_some, look_n, look_c, ixD_ap, ixQ_lst, ixQ_tup, ixQ_scr, ixQ_wd, ixQ_str, at_0, at_m1, at_m1c, at_p, rg2S_ap, r2R_ok, rg1S_ap, r1R_ok, rgD_ok', cut_m1, cut_pos, cut_posf, drop_0, drop_s, take_0, take_s, take_n, dl_1, dl_c, flat_rep, eq_self, Int.cast_ofNat_Int, lenD_ap, lenQ_lst, lenQ_scr, lenQ_tup, lenQ_str, intC_int, strC_str, strC_int, listC_lst, listC_tup, tupleC_lst, tupleC_tup, joinM_ap, splitM_ok, ofString_inj, List.length_cons, List.length_nil, List.length_append, List.length_map, Int.reduceNeg, Int.reduceAdd, Int.reduceSub, Int.reduceMul, Int.reduceMod, Int.reducePow, Int.reduceDiv, Int.reduceLE, Int.reduceLT, Int.reduceEq, Int.reduceToNat, Nat.reduceAdd, Nat.reduceSub, Nat.reduceLeDiff, Nat.reduceEqDiff, String.reduceEq, decide_true, decide_false, Bool.not_true, Bool.not_false, Bool.and_true, Bool.true_and, Bool.and_false, Bool.false_and, Bool.or_true, Bool.or_false, Bool.true_or, Bool.false_or, Option.isSome_some, Option.isSome_none, if_true, if_false, Bool.false_eq_true, Int.reduceBNe]⟩
    have et : (tgL l ms).map D.int = l.map fun x => .int (ancI ms x + (rkI lv x : Nat) - (rkI lv (ancI ms x) : Nat)) := by
      unfold tgL
      rw [List.map_map, hlv]
      refine List.map_congr_left fun x _ => ?_
      show D.int (tgI lv ms x) = _
      unfold tgI; rw [if_neg e0]
    have htru : truR ρ (.ok d) = .ok true := by
      rcases hd with rfl | rfl <;> (cases ms with
        | nil => exact absurd rfl e0
        | cons a r => rfl)
    have hlt : (l.map fun x => D.tup [.int (rkI lv x : Nat), .int (ancI ms x)]).length ≤ 100000 := by simp; omega
    generalize hT : (l.map fun x => D.tup [.int (rkI lv x : Nat), .int (ancI ms x)]) = TT at hlc hlc2 hlt
    rw [et]
    rcases ha with rfl | rfl <;> rcases hd with rfl | rfl <;> simp (disch := walk_at "ds") only [B_Order_tight, hchk, siS_ap, hitem, dcS_ap, enumI_ap, hrk, htru, hlc, hlc2, rep_0, rep_s, get_0, get_s, set_0, set_s, app_n, app_c, map_n, map_c, wipe_n, wipe_c, rb_ok, rb_exc, ofO_some, rd_some, varS_ap, conS_ap, nilA_ap, consA_ap, consR_ok, consR_exc, consR_exc0, items_ap, items_lst, items_tup, items_scr, starA_ap, starR_ok, tupS_ap, tupR_ok, lstS_ap, lstR_ok, andS_ap, andR_t, andR_f, orS_ap, orR_t, orR_f, notS_ap, testS_ap, truR_bl, truR_int, ifS_ap, ifR_t, ifR_f, andT_ap, andW_t, andW_f, orT_ap, orW_t, orW_f, notT_ap, yesT_ap, tb1_ap, blR_bl, bin2_ap, b2R_ok, un1_ap, callB_ap, cbR_ok, chainS_ap, noP_ap, someP_ap, intR_ok, slS_ap, slR_ok, slD_ap, slQ_lst, slQ_tup, methS_ap, meR_ok, callS_ap, calR_ok, cal1_ok, cal1_exc, lcS_ap, lcR_ok, lcQ_ok, lcL_nil, lcL_yes, lcY_ok, lcZ_ok, itI_ap, itR_lst, itR_scr, itR_tup, itR_str, rng1I_ap, rn1R_ok, rng3I_ap, rn3R_up, zipI_ap, zpR_lst, zpR_tup, nameG_ap, nilG_ap, consG_ap, cgR_ok, tupG_2, tupG_3, seqS_ap, sqR_nx, sqR_ret, sqR_exc, passS_ap, retS_ap, retF_ap, reR_ok, reR_exc, asgS_ap, asR_ok, asR_exc, agR_ok, ownS_ap, owR_ok, iffS_ap, ifO_t, ifO_f, ifO_exc, expS_ap, exR_ok, exR_exc, forS_ap, foR_ok, forL_nil, forL_cons, flA_ok, flB_nx, appS_ap, apR_last, raiS_ap, rai1S_ap, raR_int, tryS_ap, trR_nx, trR_ret, trR_exc, starS_ap, stR_1, dr_int, dr_str, dr_bl, dr_non, dr_tup, dr_lst, dr_scr, dr_wd, dr_exn, dr_lstR, addD_ap, addQ_int, addQ_str, addQ_lst, addQ_tup, subD_int, negD_int, mulD_int, mulD_lst, fdivD_int, modD_int, powD_int, ltD_int, leD_int, gtD_int, geD_int, isn_lst, isn_non, eqB_str, eqB_int, eqD_ap, neD_ap, inB_wd, inB_chr, inD_ap, ninD_ap, omap_some, look_n, look_c, ixD_ap, ixQ_lst, ixQ_tup, ixQ_scr, ixQ_wd, ixQ_str, at_0, at_m1, at_m1c, at_p, rg2S_ap, r2R_ok, rg1S_ap, r1R_ok, rgD_ok', cut_m1, cut_pos, cut_posf, drop_0, drop_s, take_0, take_s, take_n, dl_1, dl_c, flat_rep, eq_self, Int.cast_ofNat_Int, lenD_ap, lenQ_lst, lenQ_scr, lenQ_tup, lenQ_str, intC_int, strC_str, strC_int, listC_lst, listC_tup, tupleC_lst, tupleC_tup, joinM_ap, splitM_ok, ofString_inj, List.length_cons, List.length_nil, List.length_append, List.length_map, Int.reduceNeg, Int.reduceAdd, Int.reduceSub, Int.reduceMul, Int.reduceMod, Int.reducePow, Int.reduceDiv, Int.reduceLE, Int.reduceLT, Int.reduceEq, Int.reduceToNat, Nat.reduceAdd, Nat.reduceSub, Nat.reduceLeDiff, Nat.reduceEqDiff, String.reduceEq, decide_true, decide_false, Bool.not_true, Bool.not_false, Bool.and_true, Bool.true_and, Bool.and_false, Bool.false_and, Bool.or_true, Bool.or_false, Bool.true_or, Bool.false_or, Option.isSome_some, Option.isSome_none, if_true, if_false, Bool.false_eq_true, Int.reduceBNe]
theorem r_tight_bad {n : Nat} {ρ : List D} {a d : D} {ms : List Int} (hd : IsS d ms) (hl : ms.length ≤ 1000) (hb : badM ms = true) : run Tb (n + 2) 2 (fun _ => false) ρ [a, d] = .exc 2 [] ρ := by
  have hchk : run Tb (n + 1) 0 (fun _ => false) ρ [d] = .exc 2 [] ρ := by rw [r_check hd hl, hb]; rfl
  refine run_res 2 9 B_Order_tight (o := .exc 2 [] ρ [some a, some d, none, none, none, none, none, none, none]) rfl rfl rfl ?_ (fin_exc0 rfl)
  simp (disch := walk_at "ds") only [B_Order_tight, hchk, rep_0, rep_s, get_0, get_s, set_0, set_s, app_n, app_c, map_n, map_c, wipe_n, wipe_c, rb_ok, rb_exc, ofO_some, rd_some, varS_ap, conS_ap, nilA_ap, consA_ap, consR_ok, consR_exc, consR_exc0, items_ap, items_lst, items_tup, items_scr, starA_ap, starR_ok, tupS_ap, tupR_ok, lstS_ap, lstR_ok, andS_ap, andR_t, andR_f, orS_ap, orR_t, orR_f, notS_ap, testS_ap, truR_bl, truR_int, ifS_ap, ifR_t, ifR_f, andT_ap, andW_t, andW_f, orT_ap, orW_t, orW_f, notT_ap, yesT_ap, tb1_ap, blR_bl, bin2_ap, b2R_ok, un1_ap, callB_ap, cbR_ok, chainS_ap, noP_ap, someP_ap, intR_ok, slS_ap, slR_ok, slD_ap, slQ_lst, slQ_tup, methS_ap, meR_ok, callS_ap, calR_ok, cal1_ok, cal1_exc, lcS_ap, lcR_ok, lcQ_ok, lcL_nil, lcL_yes, lcY_ok, lcZ_ok, itI_ap, itR_lst, itR_scr, itR_tup, itR_str, rng1I_ap, rn1R_ok, rng3I_ap, rn3R_up, zipI_ap, zpR_lst, zpR_tup, nameG_ap, nilG_ap, consG_ap, cgR_ok, tupG_2, tupG_3, seqS_ap, sqR_nx, sqR_ret, sqR_exc, passS_ap, retS_ap, retF_ap, reR_ok, reR_exc, asgS_ap, asR_ok, asR_exc, agR_ok, ownS_ap, owR_ok, iffS_ap, ifO_t, ifO_f, ifO_exc, expS_ap, exR_ok, exR_exc, forS_ap, foR_ok, forL_nil, forL_cons, flA_ok, flB_nx, appS_ap, apR_last, raiS_ap, rai1S_ap, raR_int, tryS_ap, trR_nx, trR_ret, trR_exc, starS_ap, stR_1, dr_int, dr_str, dr_bl, dr_non, dr_tup, dr_lst, dr_scr, dr_wd, dr_exn, dr_lstR, addD_ap, addQ_int, addQ_str, addQ_lst, addQ_tup, subD_int, negD_int, mulD_int, mulD_lst, fdivD_int, modD_int, powD_int, ltD_int, leD_int, gtD_int, geD_int, isn_lst, isn_non, eqB_str, eqB_int, eqD_ap, neD_ap, inB_wd, inB_chr, inD_ap, ninD_ap, omap_some, look_n, look_c, ixD_ap, ixQ_lst, ixQ_tup, ixQ_scr, ixQ_wd, ixQ_str, at_0, at_m1, at_m1c, at_p, rg2S_ap, r2R_ok, rg1S_ap, r1R_ok, rgD_ok', cut_m1, cut_pos, cut_posf, drop_0, drop_s, take_0, take_s, take_n, dl_1, dl_c, flat_rep, eq_self, Int.cast_ofNat_Int, lenD_ap, lenQ_lst, lenQ_scr, lenQ_tup, lenQ_str, intC_int, strC_str, strC_int, listC_lst, listC_tup, tupleC_lst, tupleC_tup, joinM_ap, splitM_ok, ofString_inj, List.length_cons, List.length_nil, List.length_append, List.length_map, Int.reduceNeg, Int.reduceAdd, Int.reduceSub, Int.reduceMul, Int.reduceMod, Int.reducePow, Int.reduceDiv, Int.reduceLE, Int.reduceLT, Int.reduceEq, Int.reduceToNat, Nat.reduceAdd, Nat.reduceSub, Nat.reduceLeDiff, Nat.reduceEqDiff, String.reduceEq, decide_true, decide_false, Bool.not_true, Bool.not_false, Bool.and_true, Bool.true_and, Bool.and_false, Bool.false_and, Bool.or_true, Bool.or_false, Bool.true_or, Bool.false_or, Option.isSome_some, Option.isSome_none, if_true, if_false, Bool.false_eq_true, Int.reduceBNe]

theorem rng_get {lo : Int} {m i : Nat} {d : D} (h : (rngL lo m)[i]? = some d) : d = .int (lo + (i : Nat)) ∧ i < m := by
  unfold rngL at h
  rw [List.getElem?_map] at h
  obtain ⟨j, hj, rfl⟩ := Option.map_eq_some_iff.mp h
  have := List.getElem?_eq_some_iff.mp hj
  obtain ⟨h1, h2⟩ := this
  rw [List.length_range] at h1
  rw [List.getElem_range] at h2
  subst h2
  exact ⟨rfl, h1⟩
theorem r_draws {n : Nat} {ρ : List D} {ns : List Int} {a m : Nat} (ha : a ≤ 1000) (hm : m ≤ 100) (hn : ns.length ≤ 1000) : ∃ L : List Int, L.length = m ∧ (∀ x ∈ L, 0 ≤ x ∧ x < 100) ∧ run Tb (n + 1) 4 (fun _ => false) ρ [.scr (ns.map .int), .int a, .int m] = .ok true (.lst (L.map .int)) ρ := by
  obtain ⟨cell, hcell⟩ : ∃ cell : Int, ifS (tb1 (bin2 ltD (varS 1) (callB lenD (consA (varS 0) nilA)))) (callB intC (consA (bin2 ixD (varS 0) (varS 1)) nilA)) (conS (.int 0)) ρ [some (.scr (ns.map .int)), some (.int a), some (.int m), none, none, none, none, none] = .ok (.int cell) := by
    by_cases h : (a : Int) < ns.length
    · have hl : a < ns.length := by omega
      have hat : atI (ns.map D.int) (a : Int) = some (.int ns[a]) := at_nat (by rw [List.getElem?_map, List.getElem?_eq_getElem hl]; rfl)
      exact ⟨ns[a], by simp (disch := walk_at "ds") only [h, hat, rep_0, rep_s, get_0, get_s, set_0, set_s, app_n, app_c, map_n, map_c, wipe_n, wipe_c, rb_ok, rb_exc, ofO_some, rd_some, varS_ap, conS_ap, nilA_ap, consA_ap, consR_ok, consR_exc, consR_exc0, items_ap, items_lst, items_tup, items_scr, starA_ap, starR_ok, tupS_ap, tupR_ok, lstS_ap, lstR_ok, andS_ap, andR_t, andR_f, orS_ap, orR_t, orR_f, notS_ap, testS_ap, truR_bl, truR_int, ifS_ap, ifR_t, ifR_f, andT_ap, andW_t, andW_f, orT_ap, orW_t, orW_f, notT_ap, yesT_ap, tb1_ap, blR_bl, bin2_ap, b2R_ok, un1_ap, callB_ap, cbR_ok, chainS_ap, noP_ap, someP_ap, intR_ok, slS_ap, slR_ok, slD_ap, slQ_lst, slQ_tup, methS_ap, meR_ok, callS_ap, calR_ok, cal1_ok, cal1_exc, lcS_ap, lcR_ok, lcQ_ok, lcL_nil, lcL_yes, lcY_ok, lcZ_ok, itI_ap, itR_lst, itR_scr, itR_tup, itR_str, rng1I_ap, rn1R_ok, rng3I_ap, rn3R_up, zipI_ap, zpR_lst, zpR_tup, nameG_ap, nilG_ap, consG_ap, cgR_ok, tupG_2, tupG_3, seqS_ap, sqR_nx, sqR_ret, sqR_exc, passS_ap, retS_ap, retF_ap, reR_ok, reR_exc, asgS_ap, asR_ok, asR_exc, agR_ok, ownS_ap, owR_ok, iffS_ap, ifO_t, ifO_f, ifO_exc, expS_ap, exR_ok, exR_exc, forS_ap, foR_ok, forL_nil, forL_cons, flA_ok, flB_nx, appS_ap, apR_last, raiS_ap, rai1S_ap, raR_int, tryS_ap, trR_nx, trR_ret, trR_exc, starS_ap, stR_1, dr_int, dr_str, dr_bl, dr_non, dr_tup, dr_lst, dr_scr, dr_wd, dr_exn, dr_lstR, addD_ap, addQ_int, addQ_str, addQ_lst, addQ_tup, subD_int, negD_int, mulD_int, mulD_lst, fdivD_int, modD_int, powD_int, ltD_int, leD_int, gtD_int, geD_int, isn_lst, isn_non, eqB_str, eqB_int, eqD_ap, neD_ap, inB_wd, inB_chr, inD_ap, ninD_ap, omap_some, look_n, look_c, ixD_ap, ixQ_lst, ixQ_tup, ixQ_scr, ixQ_wd, ixQ_str, at_0, at_m1, at_m1c, at_p, rg2S_ap, r2R_ok, rg1S_ap, r1R_ok, rgD_ok', cut_m1, cut_pos, cut_posf, drop_0, drop_s, take_0, take_s, take_n, dl_1, dl_c, flat_rep, eq_self, Int.cast_ofNat_Int, lenD_ap, lenQ_lst, lenQ_scr, lenQ_tup, lenQ_str, intC_int, strC_str, strC_int, listC_lst, listC_tup, tupleC_lst, tupleC_tup, joinM_ap, splitM_ok, ofString_inj, List.length_cons, List.length_nil, List.length_append, List.length_map, Int.reduceNeg, Int.reduceAdd, Int.reduceSub, Int.reduceMul, Int.reduceMod, Int.reducePow, Int.reduceDiv, Int.reduceLE, Int.reduceLT, Int.reduceEq, Int.reduceToNat, Nat.reduceAdd, Nat.reduceSub, Nat.reduceLeDiff, Nat.reduceEqDiff, String.reduceEq, decide_true, decide_false, Bool.not_true, Bool.not_false, Bool.and_true, Bool.true_and, Bool.and_false, Bool.false_and, Bool.or_true, Bool.or_false, Bool.true_or, Bool.false_or, Option.isSome_some, Option.isSome_none, if_true, if_false, Bool.false_eq_true, Int.reduceBNe]⟩
    · exact ⟨0, by simp (disch := walk_at "ds") only [h, rep_0, rep_s, get_0, get_s, set_0, set_s, app_n, app_c, map_n, map_c, wipe_n, wipe_c, rb_ok, rb_exc, ofO_some, rd_some, varS_ap, conS_ap, nilA_ap, consA_ap, consR_ok, consR_exc, consR_exc0, items_ap, items_lst, items_tup, items_scr, starA_ap, starR_ok, tupS_ap, tupR_ok, lstS_ap, lstR_ok, andS_ap, andR_t, andR_f, orS_ap, orR_t, orR_f, notS_ap, testS_ap, truR_bl, truR_int, ifS_ap, ifR_t, ifR_f, andT_ap, andW_t, andW_f, orT_ap, orW_t, orW_f, notT_ap, yesT_ap, tb1_ap, blR_bl, bin2_ap, b2R_ok, un1_ap, callB_ap, cbR_ok, chainS_ap, noP_ap, someP_ap, intR_ok, slS_ap, slR_ok, slD_ap, slQ_lst, slQ_tup, methS_ap, meR_ok, callS_ap, calR_ok, cal1_ok, cal1_exc, lcS_ap, lcR_ok, lcQ_ok, lcL_nil, lcL_yes, lcY_ok, lcZ_ok, itI_ap, itR_lst, itR_scr, itR_tup, itR_str, rng1I_ap, rn1R_ok, rng3I_ap, rn3R_up, zipI_ap, zpR_lst, zpR_tup, nameG_ap, nilG_ap, consG_ap, cgR_ok, tupG_2, tupG_3, seqS_ap, sqR_nx, sqR_ret, sqR_exc, passS_ap, retS_ap, retF_ap, reR_ok, reR_exc, asgS_ap, asR_ok, asR_exc, agR_ok, ownS_ap, owR_ok, iffS_ap, ifO_t, ifO_f, ifO_exc, expS_ap, exR_ok, exR_exc, forS_ap, foR_ok, forL_nil, forL_cons, flA_ok, flB_nx, appS_ap, apR_last, raiS_ap, rai1S_ap, raR_int, tryS_ap, trR_nx, trR_ret, trR_exc, starS_ap, stR_1, dr_int, dr_str, dr_bl, dr_non, dr_tup, dr_lst, dr_scr, dr_wd, dr_exn, dr_lstR, addD_ap, addQ_int, addQ_str, addQ_lst, addQ_tup, subD_int, negD_int, mulD_int, mulD_lst, fdivD_int, modD_int, powD_int, ltD_int, leD_int, gtD_int, geD_int, isn_lst, isn_non, eqB_str, eqB_int, eqD_ap, neD_ap, inB_wd, inB_chr, inD_ap, ninD_ap, omap_some, look_n, look_c, ixD_ap, ixQ_lst, ixQ_tup, ixQ_scr, ixQ_wd, ixQ_str, at_0, at_m1, at_m1c, at_p, rg2S_ap, r2R_ok, rg1S_ap, r1R_ok, rgD_ok', cut_m1, cut_pos, cut_posf, drop_0, drop_s, take_0, take_s, take_n, dl_1, dl_c, flat_rep, eq_self, Int.cast_ofNat_Int, lenD_ap, lenQ_lst, lenQ_scr, lenQ_tup, lenQ_str, intC_int, strC_str, strC_int, listC_lst, listC_tup, tupleC_lst, tupleC_tup, joinM_ap, splitM_ok, ofString_inj, List.length_cons, List.length_nil, List.length_append, List.length_map, Int.reduceNeg, Int.reduceAdd, Int.reduceSub, Int.reduceMul, Int.reduceMod, Int.reducePow, Int.reduceDiv, Int.reduceLE, Int.reduceLT, Int.reduceEq, Int.reduceToNat, Nat.reduceAdd, Nat.reduceSub, Nat.reduceLeDiff, Nat.reduceEqDiff, String.reduceEq, decide_true, decide_false, Bool.not_true, Bool.not_false, Bool.and_true, Bool.true_and, Bool.and_false, Bool.false_and, Bool.or_true, Bool.or_false, Bool.true_or, Bool.false_or, Option.isSome_some, Option.isSome_none, if_true, if_false, Bool.false_eq_true, Int.reduceBNe]⟩
  obtain ⟨left, h0, hleft⟩ : ∃ left : Int, 0 ≤ left ∧ ifS (tb1 (bin2 geD (varS 3) (bin2 powD (conS (.int 10)) (conS (.int 18))))) (varS 3) (conS (.int 0)) ρ [some (.scr (ns.map .int)), some (.int a), some (.int m), some (.int cell), none, none, none, none] = .ok (.int left) := by
    by_cases h : (1000000000000000000 : Int) ≤ cell
    · exact ⟨cell, by omega, by simp (disch := walk_at "ds") only [h, rep_0, rep_s, get_0, get_s, set_0, set_s, app_n, app_c, map_n, map_c, wipe_n, wipe_c, rb_ok, rb_exc, ofO_some, rd_some, varS_ap, conS_ap, nilA_ap, consA_ap, consR_ok, consR_exc, consR_exc0, items_ap, items_lst, items_tup, items_scr, starA_ap, starR_ok, tupS_ap, tupR_ok, lstS_ap, lstR_ok, andS_ap, andR_t, andR_f, orS_ap, orR_t, orR_f, notS_ap, testS_ap, truR_bl, truR_int, ifS_ap, ifR_t, ifR_f, andT_ap, andW_t, andW_f, orT_ap, orW_t, orW_f, notT_ap, yesT_ap, tb1_ap, blR_bl, bin2_ap, b2R_ok, un1_ap, callB_ap, cbR_ok, chainS_ap, noP_ap, someP_ap, intR_ok, slS_ap, slR_ok, slD_ap, slQ_lst, slQ_tup, methS_ap, meR_ok, callS_ap, calR_ok, cal1_ok, cal1_exc, lcS_ap, lcR_ok, lcQ_ok, lcL_nil, lcL_yes, lcY_ok, lcZ_ok, itI_ap, itR_lst, itR_scr, itR_tup, itR_str, rng1I_ap, rn1R_ok, rng3I_ap, rn3R_up, zipI_ap, zpR_lst, zpR_tup, nameG_ap, nilG_ap, consG_ap, cgR_ok, tupG_2, tupG_3, seqS_ap, sqR_nx, sqR_ret, sqR_exc, passS_ap, retS_ap, retF_ap, reR_ok, reR_exc, asgS_ap, asR_ok, asR_exc, agR_ok, ownS_ap, owR_ok, iffS_ap, ifO_t, ifO_f, ifO_exc, expS_ap, exR_ok, exR_exc, forS_ap, foR_ok, forL_nil, forL_cons, flA_ok, flB_nx, appS_ap, apR_last, raiS_ap, rai1S_ap, raR_int, tryS_ap, trR_nx, trR_ret, trR_exc, starS_ap, stR_1, dr_int, dr_str, dr_bl, dr_non, dr_tup, dr_lst, dr_scr, dr_wd, dr_exn, dr_lstR, addD_ap, addQ_int, addQ_str, addQ_lst, addQ_tup, subD_int, negD_int, mulD_int, mulD_lst, fdivD_int, modD_int, powD_int, ltD_int, leD_int, gtD_int, geD_int, isn_lst, isn_non, eqB_str, eqB_int, eqD_ap, neD_ap, inB_wd, inB_chr, inD_ap, ninD_ap, omap_some, look_n, look_c, ixD_ap, ixQ_lst, ixQ_tup, ixQ_scr, ixQ_wd, ixQ_str, at_0, at_m1, at_m1c, at_p, rg2S_ap, r2R_ok, rg1S_ap, r1R_ok, rgD_ok', cut_m1, cut_pos, cut_posf, drop_0, drop_s, take_0, take_s, take_n, dl_1, dl_c, flat_rep, eq_self, Int.cast_ofNat_Int, lenD_ap, lenQ_lst, lenQ_scr, lenQ_tup, lenQ_str, intC_int, strC_str, strC_int, listC_lst, listC_tup, tupleC_lst, tupleC_tup, joinM_ap, splitM_ok, ofString_inj, List.length_cons, List.length_nil, List.length_append, List.length_map, Int.reduceNeg, Int.reduceAdd, Int.reduceSub, Int.reduceMul, Int.reduceMod, Int.reducePow, Int.reduceDiv, Int.reduceLE, Int.reduceLT, Int.reduceEq, Int.reduceToNat, Nat.reduceAdd, Nat.reduceSub, Nat.reduceLeDiff, Nat.reduceEqDiff, String.reduceEq, decide_true, decide_false, Bool.not_true, Bool.not_false, Bool.and_true, Bool.true_and, Bool.and_false, Bool.false_and, Bool.or_true, Bool.or_false, Bool.true_or, Bool.false_or, Option.isSome_some, Option.isSome_none, if_true, if_false, Bool.false_eq_true, Int.reduceBNe]⟩
    · exact ⟨0, by omega, by simp (disch := walk_at "ds") only [h, rep_0, rep_s, get_0, get_s, set_0, set_s, app_n, app_c, map_n, map_c, wipe_n, wipe_c, rb_ok, rb_exc, ofO_some, rd_some, varS_ap, conS_ap, nilA_ap, consA_ap, consR_ok, consR_exc, consR_exc0, items_ap, items_lst, items_tup, items_scr, starA_ap, starR_ok, tupS_ap, tupR_ok, lstS_ap, lstR_ok, andS_ap, andR_t, andR_f, orS_ap, orR_t, orR_f, notS_ap, testS_ap, truR_bl, truR_int, ifS_ap, ifR_t, ifR_f, andT_ap, andW_t, andW_f, orT_ap, orW_t, orW_f, notT_ap, yesT_ap, tb1_ap, blR_bl, bin2_ap, b2R_ok, un1_ap, callB_ap, cbR_ok, chainS_ap, noP_ap, someP_ap, intR_ok, slS_ap, slR_ok, slD_ap, slQ_lst, slQ_tup, methS_ap, meR_ok, callS_ap, calR_ok, cal1_ok, cal1_exc, lcS_ap, lcR_ok, lcQ_ok, lcL_nil, lcL_yes, lcY_ok, lcZ_ok, itI_ap, itR_lst, itR_scr, itR_tup, itR_str, rng1I_ap, rn1R_ok, rng3I_ap, rn3R_up, zipI_ap, zpR_lst, zpR_tup, nameG_ap, nilG_ap, consG_ap, cgR_ok, tupG_2, tupG_3, seqS_ap, sqR_nx, sqR_ret, sqR_exc, passS_ap, retS_ap, retF_ap, reR_ok, reR_exc, asgS_ap, asR_ok, asR_exc, agR_ok, ownS_ap, owR_ok, iffS_ap, ifO_t, ifO_f, ifO_exc, expS_ap, exR_ok, exR_exc, forS_ap, foR_ok, forL_nil, forL_cons, flA_ok, flB_nx, appS_ap, apR_last, raiS_ap, rai1S_ap, raR_int, tryS_ap, trR_nx, trR_ret, trR_exc, starS_ap, stR_1, dr_int, dr_str, dr_bl, dr_non, dr_tup, dr_lst, dr_scr, dr_wd, dr_exn, dr_lstR, addD_ap, addQ_int, addQ_str, addQ_lst, addQ_tup, subD_int, negD_int, mulD_int, mulD_lst, fdivD_int, modD_int, powD_int, ltD_int, leD_int, gtD_int, geD_int, isn_lst, isn_non, eqB_str, eqB_int, eqD_ap, neD_ap, inB_wd, inB_chr, inD_ap, ninD_ap, omap_some, look_n, look_c, ixD_ap, ixQ_lst, ixQ_tup, ixQ_scr, ixQ_wd, ixQ_str, at_0, at_m1, at_m1c, at_p, rg2S_ap, r2R_ok, rg1S_ap, r1R_ok, rgD_ok', cut_m1, cut_pos, cut_posf, drop_0, drop_s, take_0, take_s, take_n, dl_1, dl_c, flat_rep, eq_self, Int.cast_ofNat_Int, lenD_ap, lenQ_lst, lenQ_scr, lenQ_tup, lenQ_str, intC_int, strC_str, strC_int, listC_lst, listC_tup, tupleC_lst, tupleC_tup, joinM_ap, splitM_ok, ofString_inj, List.length_cons, List.length_nil, List.length_append, List.length_map, Int.reduceNeg, Int.reduceAdd, Int.reduceSub, Int.reduceMul, Int.reduceMod, Int.reducePow, Int.reduceDiv, Int.reduceLE, Int.reduceLT, Int.reduceEq, Int.reduceToNat, Nat.reduceAdd, Nat.reduceSub, Nat.reduceLeDiff, Nat.reduceEqDiff, String.reduceEq, decide_true, decide_false, Bool.not_true, Bool.not_false, Bool.and_true, Bool.true_and, Bool.and_false, Bool.false_and, Bool.or_true, Bool.or_false, Bool.true_or, Bool.false_or, Option.isSome_some, Option.isSome_none, if_true, if_false, Bool.false_eq_true, Int.reduceBNe]⟩
  let P : Nat → List D → Dd.Env → Prop := fun i ρ' σ' => ∃ (L : List Int) (left : Int) (k o : Option D), L.length = i ∧ (∀ x ∈ L, 0 ≤ x ∧ x < 100) ∧ 0 ≤ left ∧ ρ' = ρ ++ [.lst (L.map .int)] ∧ σ' = [some (.scr (ns.map .int)), some (.int a), some (.int m), some (.int cell), some (.int left), some (.rt ρ.length), k, o]
  generalize hbody : (iffS (tb1 (bin2 gtD (varS 4) (conS (.int 0)))) (seqS (appS (varS 5) (bin2 modD (callB intC (consA (varS 4) nilA)) (conS (.int 100)))) (asgS (bin2 fdivD (varS 4) (conS (.int 100))) (nameG 4))) (seqS (asgS (bin2 modD (callB intC (consA (bin2 addD (bin2 addD (bin2 addD (bin2 mulD (conS (.int 7)) (varS 3)) (bin2 mulD (conS (.int 203)) (varS 1))) (bin2 mulD (conS (.int 13)) (varS 6))) (conS (.int 5))) nilA)) (conS (.int 101))) (nameG 7)) (appS (varS 5) (bin2 modD (callB intC (consA (bin2 addD (bin2 addD (bin2 addD (bin2 mulD (bin2 mulD (varS 7) (varS 7)) (varS 7)) (bin2 mulD (conS (.int 29)) (varS 1))) (bin2 mulD (conS (.int 3)) (varS 6))) (varS 3)) nilA)) (conS (.int 97)))))) = body
  have loop := forL_at (g := nameG 6) (body := body) (mu := fun r => decide (ρ.length ≤ r) && !([] : List Nat).contains r) (l := rngL 0 m) (ρ := ρ ++ [.lst []]) (σ := [some (.scr (ns.map .int)), some (.int a), some (.int m), some (.int cell), some (.int left), some (.rt ρ.length), none, none]) P ⟨[], left, none, none, rfl, by simp, h0, rfl, rfl⟩ ?_
  · obtain ⟨ρ', σ', e1, L, left', k, o, hL, hx, hl', rfl, rfl⟩ := loop
    refine ⟨L, ?_, hx, run_res 3 8 B__law_draws (o := .ret false (.rt ρ.length) (ρ ++ [.lst (L.map .int)])) rfl rfl rfl ?_ (fin_root (d := .lst (L.map .int)) (okL_map (n := ρ.length) (f := D.int) fun _ _ => rfl))⟩
    · rw [hL]; unfold rngL; simp
    · have ht : (m : Int).toNat = m := Int.toNat_natCast m
      simp (disch := walk_at "ds") only [B__law_draws, hcell, hleft, rep_0, rep_s, get_0, get_s, set_0, set_s, app_n, app_c, map_n, map_c, wipe_n, wipe_c, rb_ok, rb_exc, ofO_some, rd_some, varS_ap, conS_ap, nilA_ap, consA_ap, consR_ok, consR_exc, consR_exc0, items_ap, items_lst, items_tup, items_scr, starA_ap, starR_ok, tupS_ap, tupR_ok, lstS_ap, lstR_ok, andS_ap, andR_t, andR_f, orS_ap, orR_t, orR_f, notS_ap, testS_ap, truR_bl, truR_int, ifS_ap, ifR_t, ifR_f, andT_ap, andW_t, andW_f, orT_ap, orW_t, orW_f, notT_ap, yesT_ap, tb1_ap, blR_bl, bin2_ap, b2R_ok, un1_ap, callB_ap, cbR_ok, chainS_ap, noP_ap, someP_ap, intR_ok, slS_ap, slR_ok, slD_ap, slQ_lst, slQ_tup, methS_ap, meR_ok, callS_ap, calR_ok, cal1_ok, cal1_exc, lcS_ap, lcR_ok, lcQ_ok, lcL_nil, lcL_yes, lcY_ok, lcZ_ok, itI_ap, itR_lst, itR_scr, itR_tup, itR_str, rng1I_ap, rn1R_ok, rng3I_ap, rn3R_up, zipI_ap, zpR_lst, zpR_tup, nameG_ap, nilG_ap, consG_ap, cgR_ok, tupG_2, tupG_3, seqS_ap, sqR_nx, sqR_ret, sqR_exc, passS_ap, retS_ap, retF_ap, reR_ok, reR_exc, asgS_ap, asR_ok, asR_exc, agR_ok, ownS_ap, owR_ok, iffS_ap, ifO_t, ifO_f, ifO_exc, expS_ap, exR_ok, exR_exc, forS_ap, foR_ok, forL_nil, forL_cons, flA_ok, flB_nx, appS_ap, apR_last, raiS_ap, rai1S_ap, raR_int, tryS_ap, trR_nx, trR_ret, trR_exc, starS_ap, stR_1, dr_int, dr_str, dr_bl, dr_non, dr_tup, dr_lst, dr_scr, dr_wd, dr_exn, dr_lstR, addD_ap, addQ_int, addQ_str, addQ_lst, addQ_tup, subD_int, negD_int, mulD_int, mulD_lst, fdivD_int, modD_int, powD_int, ltD_int, leD_int, gtD_int, geD_int, isn_lst, isn_non, eqB_str, eqB_int, eqD_ap, neD_ap, inB_wd, inB_chr, inD_ap, ninD_ap, omap_some, look_n, look_c, ixD_ap, ixQ_lst, ixQ_tup, ixQ_scr, ixQ_wd, ixQ_str, at_0, at_m1, at_m1c, at_p, rg2S_ap, r2R_ok, rg1S_ap, r1R_ok, rgD_ok', cut_m1, cut_pos, cut_posf, drop_0, drop_s, take_0, take_s, take_n, dl_1, dl_c, flat_rep, eq_self, Int.cast_ofNat_Int, lenD_ap, lenQ_lst, lenQ_scr, lenQ_tup, lenQ_str, intC_int, strC_str, strC_int, listC_lst, listC_tup, tupleC_lst, tupleC_tup, joinM_ap, splitM_ok, ofString_inj, List.length_cons, List.length_nil, List.length_append, List.length_map, Int.reduceNeg, Int.reduceAdd, Int.reduceSub, Int.reduceMul, Int.reduceMod, Int.reducePow, Int.reduceDiv, Int.reduceLE, Int.reduceLT, Int.reduceEq, Int.reduceToNat, Nat.reduceAdd, Nat.reduceSub, Nat.reduceLeDiff, Nat.reduceEqDiff, String.reduceEq, decide_true, decide_false, Bool.not_true, Bool.not_false, Bool.and_true, Bool.true_and, Bool.and_false, Bool.false_and, Bool.or_true, Bool.or_false, Bool.true_or, Bool.false_or, Option.isSome_some, Option.isSome_none, if_true, if_false, Bool.false_eq_true, Int.reduceBNe]
      rw [hbody]
      simp (disch := walk_at "ds") only [ht, e1, rep_0, rep_s, get_0, get_s, set_0, set_s, app_n, app_c, map_n, map_c, wipe_n, wipe_c, rb_ok, rb_exc, ofO_some, rd_some, varS_ap, conS_ap, nilA_ap, consA_ap, consR_ok, consR_exc, consR_exc0, items_ap, items_lst, items_tup, items_scr, starA_ap, starR_ok, tupS_ap, tupR_ok, lstS_ap, lstR_ok, andS_ap, andR_t, andR_f, orS_ap, orR_t, orR_f, notS_ap, testS_ap, truR_bl, truR_int, ifS_ap, ifR_t, ifR_f, andT_ap, andW_t, andW_f, orT_ap, orW_t, orW_f, notT_ap, yesT_ap, tb1_ap, blR_bl, bin2_ap, b2R_ok, un1_ap, callB_ap, cbR_ok, chainS_ap, noP_ap, someP_ap, intR_ok, slS_ap, slR_ok, slD_ap, slQ_lst, slQ_tup, methS_ap, meR_ok, callS_ap, calR_ok, cal1_ok, cal1_exc, lcS_ap, lcR_ok, lcQ_ok, lcL_nil, lcL_yes, lcY_ok, lcZ_ok, itI_ap, itR_lst, itR_scr, itR_tup, itR_str, rng1I_ap, rn1R_ok, rng3I_ap, rn3R_up, zipI_ap, zpR_lst, zpR_tup, nameG_ap, nilG_ap, consG_ap, cgR_ok, tupG_2, tupG_3, seqS_ap, sqR_nx, sqR_ret, sqR_exc, passS_ap, retS_ap, retF_ap, reR_ok, reR_exc, asgS_ap, asR_ok, asR_exc, agR_ok, ownS_ap, owR_ok, iffS_ap, ifO_t, ifO_f, ifO_exc, expS_ap, exR_ok, exR_exc, forS_ap, foR_ok, forL_nil, forL_cons, flA_ok, flB_nx, appS_ap, apR_last, raiS_ap, rai1S_ap, raR_int, tryS_ap, trR_nx, trR_ret, trR_exc, starS_ap, stR_1, dr_int, dr_str, dr_bl, dr_non, dr_tup, dr_lst, dr_scr, dr_wd, dr_exn, dr_lstR, addD_ap, addQ_int, addQ_str, addQ_lst, addQ_tup, subD_int, negD_int, mulD_int, mulD_lst, fdivD_int, modD_int, powD_int, ltD_int, leD_int, gtD_int, geD_int, isn_lst, isn_non, eqB_str, eqB_int, eqD_ap, neD_ap, inB_wd, inB_chr, inD_ap, ninD_ap, omap_some, look_n, look_c, ixD_ap, ixQ_lst, ixQ_tup, ixQ_scr, ixQ_wd, ixQ_str, at_0, at_m1, at_m1c, at_p, rg2S_ap, r2R_ok, rg1S_ap, r1R_ok, rgD_ok', cut_m1, cut_pos, cut_posf, drop_0, drop_s, take_0, take_s, take_n, dl_1, dl_c, flat_rep, eq_self, Int.cast_ofNat_Int, lenD_ap, lenQ_lst, lenQ_scr, lenQ_tup, lenQ_str, intC_int, strC_str, strC_int, listC_lst, listC_tup, tupleC_lst, tupleC_tup, joinM_ap, splitM_ok, ofString_inj, List.length_cons, List.length_nil, List.length_append, List.length_map, Int.reduceNeg, Int.reduceAdd, Int.reduceSub, Int.reduceMul, Int.reduceMod, Int.reducePow, Int.reduceDiv, Int.reduceLE, Int.reduceLT, Int.reduceEq, Int.reduceToNat, Nat.reduceAdd, Nat.reduceSub, Nat.reduceLeDiff, Nat.reduceEqDiff, String.reduceEq, decide_true, decide_false, Bool.not_true, Bool.not_false, Bool.and_true, Bool.true_and, Bool.and_false, Bool.false_and, Bool.or_true, Bool.or_false, Bool.true_or, Bool.false_or, Option.isSome_some, Option.isSome_none, if_true, if_false, Bool.false_eq_true, Int.reduceBNe]
  · rintro i d ρ' σ' hd ⟨L, left', k, o, hL, hx, hl', rfl, rfl⟩
    obtain ⟨rfl, hi⟩ := rng_get hd
    rw [← hbody]
    have hmu : (fun r => decide (ρ.length ≤ r) && !([] : List Nat).contains r) ρ.length = true := by simp
    have hL2 : (L.map D.int).length < 100000 := by rw [List.length_map]; omega
    by_cases hz : 0 < left'
    · refine ⟨_, ρ ++ [.lst ((L ++ [left' % 100]).map .int)], [some (.scr (ns.map .int)), some (.int a), some (.int m), some (.int cell), some (.int (left' / 100)), some (.rt ρ.length), some (.int (0 + (i : Nat))), o], nameG_ap, ?_, L ++ [left' % 100], left' / 100, _, o, by simp [hL], ?_, by omega, rfl, rfl⟩
      · simp (disch := walk_at "ds") only [hz, List.map_append, rep_0, rep_s, get_0, get_s, set_0, set_s, app_n, app_c, map_n, map_c, wipe_n, wipe_c, rb_ok, rb_exc, ofO_some, rd_some, varS_ap, conS_ap, nilA_ap, consA_ap, consR_ok, consR_exc, consR_exc0, items_ap, items_lst, items_tup, items_scr, starA_ap, starR_ok, tupS_ap, tupR_ok, lstS_ap, lstR_ok, andS_ap, andR_t, andR_f, orS_ap, orR_t, orR_f, notS_ap, testS_ap, truR_bl, truR_int, ifS_ap, ifR_t, ifR_f, andT_ap, andW_t, andW_f, orT_ap, orW_t, orW_f, notT_ap, yesT_ap, tb1_ap, blR_bl, bin2_ap, b2R_ok, un1_ap, callB_ap, cbR_ok, chainS_ap, noP_ap, someP_ap, intR_ok, slS_ap, slR_ok, slD_ap, slQ_lst, slQ_tup, methS_ap, meR_ok, callS_ap, calR_ok, cal1_ok, cal1_exc, lcS_ap, lcR_ok, lcQ_ok, lcL_nil, lcL_yes, lcY_ok, lcZ_ok, itI_ap, itR_lst, itR_scr, itR_tup, itR_str, rng1I_ap, rn1R_ok, rng3I_ap, rn3R_up, zipI_ap, zpR_lst, zpR_tup, nameG_ap, nilG_ap, consG_ap, cgR_ok, tupG_2, tupG_3, seqS_ap, sqR_nx, sqR_ret, sqR_exc, passS_ap, retS_ap, retF_ap, reR_ok, reR_exc, asgS_ap, asR_ok, asR_exc, agR_ok, ownS_ap, owR_ok, iffS_ap, ifO_t, ifO_f, ifO_exc, expS_ap, exR_ok, exR_exc, forS_ap, foR_ok, forL_nil, forL_cons, flA_ok, flB_nx, appS_ap, apR_last, raiS_ap, rai1S_ap, raR_int, tryS_ap, trR_nx, trR_ret, trR_exc, starS_ap, stR_1, dr_int, dr_str, dr_bl, dr_non, dr_tup, dr_lst, dr_scr, dr_wd, dr_exn, dr_lstR, addD_ap, addQ_int, addQ_str, addQ_lst, addQ_tup, subD_int, negD_int, mulD_int, mulD_lst, fdivD_int, modD_int, powD_int, ltD_int, leD_int, gtD_int, geD_int, isn_lst, isn_non, eqB_str, eqB_int, eqD_ap, neD_ap, inB_wd, inB_chr, inD_ap, ninD_ap, omap_some, look_n, look_c, ixD_ap, ixQ_lst, ixQ_tup, ixQ_scr, ixQ_wd, ixQ_str, at_0, at_m1, at_m1c, at_p, rg2S_ap, r2R_ok, rg1S_ap, r1R_ok, rgD_ok', cut_m1, cut_pos, cut_posf, drop_0, drop_s, take_0, take_s, take_n, dl_1, dl_c, flat_rep, eq_self, Int.cast_ofNat_Int, lenD_ap, lenQ_lst, lenQ_scr, lenQ_tup, lenQ_str, intC_int, strC_str, strC_int, listC_lst, listC_tup, tupleC_lst, tupleC_tup, joinM_ap, splitM_ok, ofString_inj, List.length_cons, List.length_nil, List.length_append, List.length_map, Int.reduceNeg, Int.reduceAdd, Int.reduceSub, Int.reduceMul, Int.reduceMod, Int.reducePow, Int.reduceDiv, Int.reduceLE, Int.reduceLT, Int.reduceEq, Int.reduceToNat, Nat.reduceAdd, Nat.reduceSub, Nat.reduceLeDiff, Nat.reduceEqDiff, String.reduceEq, decide_true, decide_false, Bool.not_true, Bool.not_false, Bool.and_true, Bool.true_and, Bool.and_false, Bool.false_and, Bool.or_true, Bool.or_false, Bool.true_or, Bool.false_or, Option.isSome_some, Option.isSome_none, if_true, if_false, Bool.false_eq_true, Int.reduceBNe]
      · intro x hxx
        rcases List.mem_append.mp hxx with h | h
        · exact hx x h
        · rw [List.mem_singleton.mp h]; omega
    · generalize h1 : (7 * cell + 203 * (a : Int) + 13 * (0 + (i : Int)) + 5) % 101 = one
      generalize h2 : (one * one * one + 29 * (a : Int) + 3 * (0 + (i : Int)) + cell) % 97 = val
      refine ⟨_, ρ ++ [.lst ((L ++ [val]).map .int)], [some (.scr (ns.map .int)), some (.int a), some (.int m), some (.int cell), some (.int left'), some (.rt ρ.length), some (.int (0 + (i : Nat))), some (.int one)], nameG_ap, ?_, L ++ [val], left', _, _, by simp [hL], ?_, hl', rfl, rfl⟩
      · simp (disch := walk_at "ds") only [hz, List.map_append, h1, h2, rep_0, rep_s, get_0, get_s, set_0, set_s, app_n, app_c, map_n, map_c, wipe_n, wipe_c, rb_ok, rb_exc, ofO_some, rd_some, varS_ap, conS_ap, nilA_ap, consA_ap, consR_ok, consR_exc, consR_exc0, items_ap, items_lst, items_tup, items_scr, starA_ap, starR_ok, tupS_ap, tupR_ok, lstS_ap, lstR_ok, andS_ap, andR_t, andR_f, orS_ap, orR_t, orR_f, notS_ap, testS_ap, truR_bl, truR_int, ifS_ap, ifR_t, ifR_f, andT_ap, andW_t, andW_f, orT_ap, orW_t, orW_f, notT_ap, yesT_ap, tb1_ap, blR_bl, bin2_ap, b2R_ok, un1_ap, callB_ap, cbR_ok, chainS_ap, noP_ap, someP_ap, intR_ok, slS_ap, slR_ok, slD_ap, slQ_lst, slQ_tup, methS_ap, meR_ok, callS_ap, calR_ok, cal1_ok, cal1_exc, lcS_ap, lcR_ok, lcQ_ok, lcL_nil, lcL_yes, lcY_ok, lcZ_ok, itI_ap, itR_lst, itR_scr, itR_tup, itR_str, rng1I_ap, rn1R_ok, rng3I_ap, rn3R_up, zipI_ap, zpR_lst, zpR_tup, nameG_ap, nilG_ap, consG_ap, cgR_ok, tupG_2, tupG_3, seqS_ap, sqR_nx, sqR_ret, sqR_exc, passS_ap, retS_ap, retF_ap, reR_ok, reR_exc, asgS_ap, asR_ok, asR_exc, agR_ok, ownS_ap, owR_ok, iffS_ap, ifO_t, ifO_f, ifO_exc, expS_ap, exR_ok, exR_exc, forS_ap, foR_ok, forL_nil, forL_cons, flA_ok, flB_nx, appS_ap, apR_last, raiS_ap, rai1S_ap, raR_int, tryS_ap, trR_nx, trR_ret, trR_exc, starS_ap, stR_1, dr_int, dr_str, dr_bl, dr_non, dr_tup, dr_lst, dr_scr, dr_wd, dr_exn, dr_lstR, addD_ap, addQ_int, addQ_str, addQ_lst, addQ_tup, subD_int, negD_int, mulD_int, mulD_lst, fdivD_int, modD_int, powD_int, ltD_int, leD_int, gtD_int, geD_int, isn_lst, isn_non, eqB_str, eqB_int, eqD_ap, neD_ap, inB_wd, inB_chr, inD_ap, ninD_ap, omap_some, look_n, look_c, ixD_ap, ixQ_lst, ixQ_tup, ixQ_scr, ixQ_wd, ixQ_str, at_0, at_m1, at_m1c, at_p, rg2S_ap, r2R_ok, rg1S_ap, r1R_ok, rgD_ok', cut_m1, cut_pos, cut_posf, drop_0, drop_s, take_0, take_s, take_n, dl_1, dl_c, flat_rep, eq_self, Int.cast_ofNat_Int, lenD_ap, lenQ_lst, lenQ_scr, lenQ_tup, lenQ_str, intC_int, strC_str, strC_int, listC_lst, listC_tup, tupleC_lst, tupleC_tup, joinM_ap, splitM_ok, ofString_inj, List.length_cons, List.length_nil, List.length_append, List.length_map, Int.reduceNeg, Int.reduceAdd, Int.reduceSub, Int.reduceMul, Int.reduceMod, Int.reducePow, Int.reduceDiv, Int.reduceLE, Int.reduceLT, Int.reduceEq, Int.reduceToNat, Nat.reduceAdd, Nat.reduceSub, Nat.reduceLeDiff, Nat.reduceEqDiff, String.reduceEq, decide_true, decide_false, Bool.not_true, Bool.not_false, Bool.and_true, Bool.true_and, Bool.and_false, Bool.false_and, Bool.or_true, Bool.or_false, Bool.true_or, Bool.false_or, Option.isSome_some, Option.isSome_none, if_true, if_false, Bool.false_eq_true, Int.reduceBNe]
      · intro x hxx
        rcases List.mem_append.mp hxx with h | h
        · exact hx x h
        · rw [List.mem_singleton.mp h]; omega

theorem r_cell {n : Nat} {ρ : List D} {ns : List Int} {a : Nat} (hn : ns.length ≤ 1000) : ∃ x : Int, run Tb (n + 1) 3 (fun _ => false) ρ [.scr (ns.map .int), .int a] = .ok false (.int x) ρ := by
  by_cases h : (a : Int) < ns.length
  · have hl : a < ns.length := by omega
    have hat : atI (ns.map D.int) (a : Int) = some (.int ns[a]) := at_nat (by rw [List.getElem?_map, List.getElem?_eq_getElem hl]; rfl)
    refine ⟨ns[a], run_res 2 2 B__law_cell (o := .ret false (.int ns[a]) ρ) rfl rfl rfl ?_ (fin_ret0 (by intro r h; cases h) rfl)⟩
    simp (disch := walk_at "ds") only [B__law_cell, h, hat, rep_0, rep_s, get_0, get_s, set_0, set_s, app_n, app_c, map_n, map_c, wipe_n, wipe_c, rb_ok, rb_exc, ofO_some, rd_some, varS_ap, conS_ap, nilA_ap, consA_ap, consR_ok, consR_exc, consR_exc0, items_ap, items_lst, items_tup, items_scr, starA_ap, starR_ok, tupS_ap, tupR_ok, lstS_ap, lstR_ok, andS_ap, andR_t, andR_f, orS_ap, orR_t, orR_f, notS_ap, testS_ap, truR_bl, truR_int, ifS_ap, ifR_t, ifR_f, andT_ap, andW_t, andW_f, orT_ap, orW_t, orW_f, notT_ap, yesT_ap, tb1_ap, blR_bl, bin2_ap, b2R_ok, un1_ap, callB_ap, cbR_ok, chainS_ap, noP_ap, someP_ap, intR_ok, slS_ap, slR_ok, slD_ap, slQ_lst, slQ_tup, methS_ap, meR_ok, callS_ap, calR_ok, cal1_ok, cal1_exc, lcS_ap, lcR_ok, lcQ_ok, lcL_nil, lcL_yes, lcY_ok, lcZ_ok, itI_ap, itR_lst, itR_scr, itR_tup, itR_str, rng1I_ap, rn1R_ok, rng3I_ap, rn3R_up, zipI_ap, zpR_lst, zpR_tup, nameG_ap, nilG_ap, consG_ap, cgR_ok, tupG_2, tupG_3, seqS_ap, sqR_nx, sqR_ret, sqR_exc, passS_ap, retS_ap, retF_ap, reR_ok, reR_exc, asgS_ap, asR_ok, asR_exc, agR_ok, ownS_ap, owR_ok, iffS_ap, ifO_t, ifO_f, ifO_exc, expS_ap, exR_ok, exR_exc, forS_ap, foR_ok, forL_nil, forL_cons, flA_ok, flB_nx, appS_ap, apR_last, raiS_ap, rai1S_ap, raR_int, tryS_ap, trR_nx, trR_ret, trR_exc, starS_ap, stR_1, dr_int, dr_str, dr_bl, dr_non, dr_tup, dr_lst, dr_scr, dr_wd, dr_exn, dr_lstR, addD_ap, addQ_int, addQ_str, addQ_lst, addQ_tup, subD_int, negD_int, mulD_int, mulD_lst, fdivD_int, modD_int, powD_int, ltD_int, leD_int, gtD_int, geD_int, isn_lst, isn_non, eqB_str, eqB_int, eqD_ap, neD_ap, inB_wd, inB_chr, inD_ap, ninD_ap, omap_some, look_n, look_c, ixD_ap, ixQ_lst, ixQ_tup, ixQ_scr, ixQ_wd, ixQ_str, at_0, at_m1, at_m1c, at_p, rg2S_ap, r2R_ok, rg1S_ap, r1R_ok, rgD_ok', cut_m1, cut_pos, cut_posf, drop_0, drop_s, take_0, take_s, take_n, dl_1, dl_c, flat_rep, eq_self, Int.cast_ofNat_Int, lenD_ap, lenQ_lst, lenQ_scr, lenQ_tup, lenQ_str, intC_int, strC_str, strC_int, listC_lst, listC_tup, tupleC_lst, tupleC_tup, joinM_ap, splitM_ok, ofString_inj, List.length_cons, List.length_nil, List.length_append, List.length_map, Int.reduceNeg, Int.reduceAdd, Int.reduceSub, Int.reduceMul, Int.reduceMod, Int.reducePow, Int.reduceDiv, Int.reduceLE, Int.reduceLT, Int.reduceEq, Int.reduceToNat, Nat.reduceAdd, Nat.reduceSub, Nat.reduceLeDiff, Nat.reduceEqDiff, String.reduceEq, decide_true, decide_false, Bool.not_true, Bool.not_false, Bool.and_true, Bool.true_and, Bool.and_false, Bool.false_and, Bool.or_true, Bool.or_false, Bool.true_or, Bool.false_or, Option.isSome_some, Option.isSome_none, if_true, if_false, Bool.false_eq_true, Int.reduceBNe]
  · refine ⟨0, run_res 2 2 B__law_cell (o := .ret false (.int 0) ρ) rfl rfl rfl ?_ (fin_ret0 (by intro r h; cases h) rfl)⟩
    simp (disch := walk_at "ds") only [B__law_cell, h, rep_0, rep_s, get_0, get_s, set_0, set_s, app_n, app_c, map_n, map_c, wipe_n, wipe_c, rb_ok, rb_exc, ofO_some, rd_some, varS_ap, conS_ap, nilA_ap, consA_ap, consR_ok, consR_exc, consR_exc0, items_ap, items_lst, items_tup, items_scr, starA_ap, starR_ok, tupS_ap, tupR_ok, lstS_ap, lstR_ok, andS_ap, andR_t, andR_f, orS_ap, orR_t, orR_f, notS_ap, testS_ap, truR_bl, truR_int, ifS_ap, ifR_t, ifR_f, andT_ap, andW_t, andW_f, orT_ap, orW_t, orW_f, notT_ap, yesT_ap, tb1_ap, blR_bl, bin2_ap, b2R_ok, un1_ap, callB_ap, cbR_ok, chainS_ap, noP_ap, someP_ap, intR_ok, slS_ap, slR_ok, slD_ap, slQ_lst, slQ_tup, methS_ap, meR_ok, callS_ap, calR_ok, cal1_ok, cal1_exc, lcS_ap, lcR_ok, lcQ_ok, lcL_nil, lcL_yes, lcY_ok, lcZ_ok, itI_ap, itR_lst, itR_scr, itR_tup, itR_str, rng1I_ap, rn1R_ok, rng3I_ap, rn3R_up, zipI_ap, zpR_lst, zpR_tup, nameG_ap, nilG_ap, consG_ap, cgR_ok, tupG_2, tupG_3, seqS_ap, sqR_nx, sqR_ret, sqR_exc, passS_ap, retS_ap, retF_ap, reR_ok, reR_exc, asgS_ap, asR_ok, asR_exc, agR_ok, ownS_ap, owR_ok, iffS_ap, ifO_t, ifO_f, ifO_exc, expS_ap, exR_ok, exR_exc, forS_ap, foR_ok, forL_nil, forL_cons, flA_ok, flB_nx, appS_ap, apR_last, raiS_ap, rai1S_ap, raR_int, tryS_ap, trR_nx, trR_ret, trR_exc, starS_ap, stR_1, dr_int, dr_str, dr_bl, dr_non, dr_tup, dr_lst, dr_scr, dr_wd, dr_exn, dr_lstR, addD_ap, addQ_int, addQ_str, addQ_lst, addQ_tup, subD_int, negD_int, mulD_int, mulD_lst, fdivD_int, modD_int, powD_int, ltD_int, leD_int, gtD_int, geD_int, isn_lst, isn_non, eqB_str, eqB_int, eqD_ap, neD_ap, inB_wd, inB_chr, inD_ap, ninD_ap, omap_some, look_n, look_c, ixD_ap, ixQ_lst, ixQ_tup, ixQ_scr, ixQ_wd, ixQ_str, at_0, at_m1, at_m1c, at_p, rg2S_ap, r2R_ok, rg1S_ap, r1R_ok, rgD_ok', cut_m1, cut_pos, cut_posf, drop_0, drop_s, take_0, take_s, take_n, dl_1, dl_c, flat_rep, eq_self, Int.cast_ofNat_Int, lenD_ap, lenQ_lst, lenQ_scr, lenQ_tup, lenQ_str, intC_int, strC_str, strC_int, listC_lst, listC_tup, tupleC_lst, tupleC_tup, joinM_ap, splitM_ok, ofString_inj, List.length_cons, List.length_nil, List.length_append, List.length_map, Int.reduceNeg, Int.reduceAdd, Int.reduceSub, Int.reduceMul, Int.reduceMod, Int.reducePow, Int.reduceDiv, Int.reduceLE, Int.reduceLT, Int.reduceEq, Int.reduceToNat, Nat.reduceAdd, Nat.reduceSub, Nat.reduceLeDiff, Nat.reduceEqDiff, String.reduceEq, decide_true, decide_false, Bool.not_true, Bool.not_false, Bool.and_true, Bool.true_and, Bool.and_false, Bool.false_and, Bool.or_true, Bool.or_false, Bool.true_or, Bool.false_or, Option.isSome_some, Option.isSome_none, if_true, if_false, Bool.false_eq_true, Int.reduceBNe]

/-! ### the law's numbers and marks -/
theorem seq_nx {s t : SF} {mu : Nat → Bool} {ρ ρ' : List D} {σ σ' : Dd.Env} {o : Out} (h1 : s mu ρ σ = .nx ρ' σ') (h2 : t mu ρ' σ' = o) : seqS s t mu ρ σ = o := by
  rw [seqS_ap, h1, sqR_nx, h2]
theorem seq_n1 {s t : SF} {mu : Nat → Bool} {ρ : List D} {σ σ' : Dd.Env} {o : Out} (h1 : s mu ρ σ = .nx ρ σ') (h2 : t mu ρ σ' = o) : seqS s t mu ρ σ = o := seq_nx h1 h2
theorem tupleC_rt {ρ : List D} {l : List D} : tupleC (ρ ++ [.lst l]) [.rt ρ.length] = some (.tup l) := by
  simp only [tupleC, dr]
  simp
theorem r_numbers {n : Nat} {ρ : List D} {ns : List Int} {a m : Nat} (ha : a ≤ 500) (hm : m ≤ 100) (hn : ns.length ≤ 1000) : ∃ L : List Int, L.length = m ∧ run Tb (n + 2) 5 (fun _ => false) ρ [.scr (ns.map .int), .int a, .int m] = .ok true (.lst (L.map .int)) ρ := by
  let P : Nat → List D → Dd.Env → Prop := fun i ρ' σ' => ∃ (L : List Int) (o1 o2 o3 o4 : Option D), L.length = i ∧ ρ' = ρ ++ [.lst (L.map .int)] ∧ σ' = [some (.scr (ns.map .int)), some (.int a), some (.int m), some (.rt ρ.length), o1, o2, o3, o4]
  generalize hbody : (seqS (asgS (callS (run Tb (n + 1)) 3 [] (consA (varS 0) (consA (bin2 addD (varS 1) (varS 4)) nilA))) (nameG 5)) _) = body
  have loop := forL_at (g := nameG 4) (body := body) (mu := fun r => decide (ρ.length ≤ r) && !([] : List Nat).contains r) (l := rngL 0 m) (ρ := ρ ++ [.lst []]) (σ := [some (.scr (ns.map .int)), some (.int a), some (.int m), some (.rt ρ.length), none, none, none, none]) P ⟨[], none, none, none, none, rfl, rfl, rfl⟩ ?_
  · obtain ⟨ρ', σ', e1, L, o1, o2, o3, o4, hL, rfl, rfl⟩ := loop
    refine ⟨L, by rw [hL]; unfold rngL; simp, run_res 3 8 B__law_numbers (o := .ret false (.rt ρ.length) (ρ ++ [.lst (L.map .int)])) rfl rfl rfl ?_ (fin_root (d := .lst (L.map .int)) (okL_map (n := ρ.length) (f := D.int) fun _ _ => rfl))⟩
    have ht : (m : Int).toNat = m := Int.toNat_natCast m
    simp (disch := walk_at "ds") only [B__law_numbers, rep_0, rep_s, get_0, get_s, set_0, set_s, app_n, app_c, map_n, map_c, wipe_n, wipe_c, rb_ok, rb_exc, ofO_some, rd_some, varS_ap, conS_ap, nilA_ap, consA_ap, consR_ok, consR_exc, consR_exc0, items_ap, items_lst, items_tup, items_scr, starA_ap, starR_ok, tupS_ap, tupR_ok, lstS_ap, lstR_ok, andS_ap, andR_t, andR_f, orS_ap, orR_t, orR_f, notS_ap, testS_ap, truR_bl, truR_int, ifS_ap, ifR_t, ifR_f, andT_ap, andW_t, andW_f, orT_ap, orW_t, orW_f, notT_ap, yesT_ap, tb1_ap, blR_bl, bin2_ap, b2R_ok, un1_ap, callB_ap, cbR_ok, chainS_ap, noP_ap, someP_ap, intR_ok, slS_ap, slR_ok, slD_ap, slQ_lst, slQ_tup, methS_ap, meR_ok, callS_ap, calR_ok, cal1_ok, cal1_exc, lcS_ap, lcR_ok, lcQ_ok, lcL_nil, lcL_yes, lcY_ok, lcZ_ok, itI_ap, itR_lst, itR_scr, itR_tup, itR_str, rng1I_ap, rn1R_ok, rng3I_ap, rn3R_up, zipI_ap, zpR_lst, zpR_tup, nameG_ap, nilG_ap, consG_ap, cgR_ok, tupG_2, tupG_3, seqS_ap, sqR_nx, sqR_ret, sqR_exc, passS_ap, retS_ap, retF_ap, reR_ok, reR_exc, asgS_ap, asR_ok, asR_exc, agR_ok, ownS_ap, owR_ok, iffS_ap, ifO_t, ifO_f, ifO_exc, expS_ap, exR_ok, exR_exc, forS_ap, foR_ok, forL_nil, forL_cons, flA_ok, flB_nx, appS_ap, apR_last, raiS_ap, rai1S_ap, raR_int, tryS_ap, trR_nx, trR_ret, trR_exc, starS_ap, stR_1, dr_int, dr_str, dr_bl, dr_non, dr_tup, dr_lst, dr_scr, dr_wd, dr_exn, dr_lstR, addD_ap, addQ_int, addQ_str, addQ_lst, addQ_tup, subD_int, negD_int, mulD_int, mulD_lst, fdivD_int, modD_int, powD_int, ltD_int, leD_int, gtD_int, geD_int, isn_lst, isn_non, eqB_str, eqB_int, eqD_ap, neD_ap, inB_wd, inB_chr, inD_ap, ninD_ap, omap_some, look_n, look_c, ixD_ap, ixQ_lst, ixQ_tup, ixQ_scr, ixQ_wd, ixQ_str, at_0, at_m1, at_m1c, at_p, rg2S_ap, r2R_ok, rg1S_ap, r1R_ok, rgD_ok', cut_m1, cut_pos, cut_posf, drop_0, drop_s, take_0, take_s, take_n, dl_1, dl_c, flat_rep, eq_self, Int.cast_ofNat_Int, lenD_ap, lenQ_lst, lenQ_scr, lenQ_tup, lenQ_str, intC_int, strC_str, strC_int, listC_lst, listC_tup, tupleC_lst, tupleC_tup, joinM_ap, splitM_ok, ofString_inj, List.length_cons, List.length_nil, List.length_append, List.length_map, Int.reduceNeg, Int.reduceAdd, Int.reduceSub, Int.reduceMul, Int.reduceMod, Int.reducePow, Int.reduceDiv, Int.reduceLE, Int.reduceLT, Int.reduceEq, Int.reduceToNat, Nat.reduceAdd, Nat.reduceSub, Nat.reduceLeDiff, Nat.reduceEqDiff, String.reduceEq, decide_true, decide_false, Bool.not_true, Bool.not_false, Bool.and_true, Bool.true_and, Bool.and_false, Bool.false_and, Bool.or_true, Bool.or_false, Bool.true_or, Bool.false_or, Option.isSome_some, Option.isSome_none, if_true, if_false, Bool.false_eq_true, Int.reduceBNe]
    rw [hbody]
    simp (disch := walk_at "ds") only [ht, e1, rep_0, rep_s, get_0, get_s, set_0, set_s, app_n, app_c, map_n, map_c, wipe_n, wipe_c, rb_ok, rb_exc, ofO_some, rd_some, varS_ap, conS_ap, nilA_ap, consA_ap, consR_ok, consR_exc, consR_exc0, items_ap, items_lst, items_tup, items_scr, starA_ap, starR_ok, tupS_ap, tupR_ok, lstS_ap, lstR_ok, andS_ap, andR_t, andR_f, orS_ap, orR_t, orR_f, notS_ap, testS_ap, truR_bl, truR_int, ifS_ap, ifR_t, ifR_f, andT_ap, andW_t, andW_f, orT_ap, orW_t, orW_f, notT_ap, yesT_ap, tb1_ap, blR_bl, bin2_ap, b2R_ok, un1_ap, callB_ap, cbR_ok, chainS_ap, noP_ap, someP_ap, intR_ok, slS_ap, slR_ok, slD_ap, slQ_lst, slQ_tup, methS_ap, meR_ok, callS_ap, calR_ok, cal1_ok, cal1_exc, lcS_ap, lcR_ok, lcQ_ok, lcL_nil, lcL_yes, lcY_ok, lcZ_ok, itI_ap, itR_lst, itR_scr, itR_tup, itR_str, rng1I_ap, rn1R_ok, rng3I_ap, rn3R_up, zipI_ap, zpR_lst, zpR_tup, nameG_ap, nilG_ap, consG_ap, cgR_ok, tupG_2, tupG_3, seqS_ap, sqR_nx, sqR_ret, sqR_exc, passS_ap, retS_ap, retF_ap, reR_ok, reR_exc, asgS_ap, asR_ok, asR_exc, agR_ok, ownS_ap, owR_ok, iffS_ap, ifO_t, ifO_f, ifO_exc, expS_ap, exR_ok, exR_exc, forS_ap, foR_ok, forL_nil, forL_cons, flA_ok, flB_nx, appS_ap, apR_last, raiS_ap, rai1S_ap, raR_int, tryS_ap, trR_nx, trR_ret, trR_exc, starS_ap, stR_1, dr_int, dr_str, dr_bl, dr_non, dr_tup, dr_lst, dr_scr, dr_wd, dr_exn, dr_lstR, addD_ap, addQ_int, addQ_str, addQ_lst, addQ_tup, subD_int, negD_int, mulD_int, mulD_lst, fdivD_int, modD_int, powD_int, ltD_int, leD_int, gtD_int, geD_int, isn_lst, isn_non, eqB_str, eqB_int, eqD_ap, neD_ap, inB_wd, inB_chr, inD_ap, ninD_ap, omap_some, look_n, look_c, ixD_ap, ixQ_lst, ixQ_tup, ixQ_scr, ixQ_wd, ixQ_str, at_0, at_m1, at_m1c, at_p, rg2S_ap, r2R_ok, rg1S_ap, r1R_ok, rgD_ok', cut_m1, cut_pos, cut_posf, drop_0, drop_s, take_0, take_s, take_n, dl_1, dl_c, flat_rep, eq_self, Int.cast_ofNat_Int, lenD_ap, lenQ_lst, lenQ_scr, lenQ_tup, lenQ_str, intC_int, strC_str, strC_int, listC_lst, listC_tup, tupleC_lst, tupleC_tup, joinM_ap, splitM_ok, ofString_inj, List.length_cons, List.length_nil, List.length_append, List.length_map, Int.reduceNeg, Int.reduceAdd, Int.reduceSub, Int.reduceMul, Int.reduceMod, Int.reducePow, Int.reduceDiv, Int.reduceLE, Int.reduceLT, Int.reduceEq, Int.reduceToNat, Nat.reduceAdd, Nat.reduceSub, Nat.reduceLeDiff, Nat.reduceEqDiff, String.reduceEq, decide_true, decide_false, Bool.not_true, Bool.not_false, Bool.and_true, Bool.true_and, Bool.and_false, Bool.false_and, Bool.or_true, Bool.or_false, Bool.true_or, Bool.false_or, Option.isSome_some, Option.isSome_none, if_true, if_false, Bool.false_eq_true, Int.reduceBNe]
  · rintro i d ρ' σ' hd ⟨L, o1, o2, o3, o4, hL, rfl, rfl⟩
    obtain ⟨rfl, hi⟩ := rng_get hd
    rw [← hbody]
    have hmu : (fun r => decide (ρ.length ≤ r) && !([] : List Nat).contains r) ρ.length = true := by simp
    have hL2 : (L.map D.int).length < 100000 := by rw [List.length_map]; omega
    have ea : (a : Int) + (0 + (i : Int)) = ((a + i : Nat) : Int) := by omega
    obtain ⟨x, hcell⟩ := r_cell (n := n) (ρ := ρ ++ [.lst (L.map .int)]) (a := a + i) hn
    obtain ⟨D2, hD2, _, hdraw⟩ := r_draws (n := n) (ρ := ρ ++ [.lst (L.map .int)]) (ns := ns) (a := a + i) (m := 2) (by omega) (by omega) hn
    obtain ⟨d0, d1, rfl⟩ : ∃ d0 d1, D2 = [d0, d1] := match D2, hD2 with | [d0, d1], _ => ⟨d0, d1, rfl⟩
    rw [← ea] at hcell hdraw
    have hdraw : run Tb (n + 1) 4 (fun _ => false) (ρ ++ [.lst (L.map .int)]) [.scr (ns.map .int), .int ((a : Int) + (0 + (i : Int))), .int 2] = .ok true (.lst [.int d0, .int d1]) (ρ ++ [.lst (L.map .int)]) := hdraw
    have at1 : atI [D.int d0, .int d1] 1 = some (.int d1) := at_nat (n := 1) rfl
    generalize hE : (a : Int) + (0 + (i : Int)) = E at hcell hdraw
    by_cases h4 : d1 % 9 = 4
    · refine ⟨_, ρ ++ [.lst ((L ++ [x % 100000000000000000000000000000]).map .int)], [some (.scr (ns.map .int)), some (.int a), some (.int m), some (.rt ρ.length), some (.int (0 + (i : Nat))), some (.int x), some (.lst [.int d0, .int d1]), some (.int (x % 100000000000000000000000000000))], nameG_ap, ?_, L ++ [x % 100000000000000000000000000000], _, _, _, _, by simp [hL], rfl, rfl⟩
      simp (disch := walk_at "ds") only [hE, hcell, hdraw, at1, h4, List.map_append, rep_0, rep_s, get_0, get_s, set_0, set_s, app_n, app_c, map_n, map_c, wipe_n, wipe_c, rb_ok, rb_exc, ofO_some, rd_some, varS_ap, conS_ap, nilA_ap, consA_ap, consR_ok, consR_exc, consR_exc0, items_ap, items_lst, items_tup, items_scr, starA_ap, starR_ok, tupS_ap, tupR_ok, lstS_ap, lstR_ok, andS_ap, andR_t, andR_f, orS_ap, orR_t, orR_f, notS_ap, testS_ap, truR_bl, truR_int, ifS_ap, ifR_t, ifR_f, andT_ap, andW_t, andW_f, orT_ap, orW_t, orW_f, notT_ap, yesT_ap, tb1_ap, blR_bl, bin2_ap, b2R_ok, un1_ap, callB_ap, cbR_ok, chainS_ap, noP_ap, someP_ap, intR_ok, slS_ap, slR_ok, slD_ap, slQ_lst, slQ_tup, methS_ap, meR_ok, callS_ap, calR_ok, cal1_ok, cal1_exc, lcS_ap, lcR_ok, lcQ_ok, lcL_nil, lcL_yes, lcY_ok, lcZ_ok, itI_ap, itR_lst, itR_scr, itR_tup, itR_str, rng1I_ap, rn1R_ok, rng3I_ap, rn3R_up, zipI_ap, zpR_lst, zpR_tup, nameG_ap, nilG_ap, consG_ap, cgR_ok, tupG_2, tupG_3, seqS_ap, sqR_nx, sqR_ret, sqR_exc, passS_ap, retS_ap, retF_ap, reR_ok, reR_exc, asgS_ap, asR_ok, asR_exc, agR_ok, ownS_ap, owR_ok, iffS_ap, ifO_t, ifO_f, ifO_exc, expS_ap, exR_ok, exR_exc, forS_ap, foR_ok, forL_nil, forL_cons, flA_ok, flB_nx, appS_ap, apR_last, raiS_ap, rai1S_ap, raR_int, tryS_ap, trR_nx, trR_ret, trR_exc, starS_ap, stR_1, dr_int, dr_str, dr_bl, dr_non, dr_tup, dr_lst, dr_scr, dr_wd, dr_exn, dr_lstR, addD_ap, addQ_int, addQ_str, addQ_lst, addQ_tup, subD_int, negD_int, mulD_int, mulD_lst, fdivD_int, modD_int, powD_int, ltD_int, leD_int, gtD_int, geD_int, isn_lst, isn_non, eqB_str, eqB_int, eqD_ap, neD_ap, inB_wd, inB_chr, inD_ap, ninD_ap, omap_some, look_n, look_c, ixD_ap, ixQ_lst, ixQ_tup, ixQ_scr, ixQ_wd, ixQ_str, at_0, at_m1, at_m1c, at_p, rg2S_ap, r2R_ok, rg1S_ap, r1R_ok, rgD_ok', cut_m1, cut_pos, cut_posf, drop_0, drop_s, take_0, take_s, take_n, dl_1, dl_c, flat_rep, eq_self, Int.cast_ofNat_Int, lenD_ap, lenQ_lst, lenQ_scr, lenQ_tup, lenQ_str, intC_int, strC_str, strC_int, listC_lst, listC_tup, tupleC_lst, tupleC_tup, joinM_ap, splitM_ok, ofString_inj, List.length_cons, List.length_nil, List.length_append, List.length_map, Int.reduceNeg, Int.reduceAdd, Int.reduceSub, Int.reduceMul, Int.reduceMod, Int.reducePow, Int.reduceDiv, Int.reduceLE, Int.reduceLT, Int.reduceEq, Int.reduceToNat, Nat.reduceAdd, Nat.reduceSub, Nat.reduceLeDiff, Nat.reduceEqDiff, String.reduceEq, decide_true, decide_false, Bool.not_true, Bool.not_false, Bool.and_true, Bool.true_and, Bool.and_false, Bool.false_and, Bool.or_true, Bool.or_false, Bool.true_or, Bool.false_or, Option.isSome_some, Option.isSome_none, if_true, if_false, Bool.false_eq_true, Int.reduceBNe]
    · by_cases h5 : d1 % 9 = 5
      · refine ⟨_, ρ ++ [.lst ((L ++ [0 - x % 100000000000000000000000000000]).map .int)], [some (.scr (ns.map .int)), some (.int a), some (.int m), some (.rt ρ.length), some (.int (0 + (i : Nat))), some (.int x), some (.lst [.int d0, .int d1]), some (.int (0 - x % 100000000000000000000000000000))], nameG_ap, ?_, L ++ [0 - x % 100000000000000000000000000000], _, _, _, _, by simp [hL], rfl, rfl⟩
        simp (disch := walk_at "ds") only [hE, hcell, hdraw, at1, h4, h5, List.map_append, rep_0, rep_s, get_0, get_s, set_0, set_s, app_n, app_c, map_n, map_c, wipe_n, wipe_c, rb_ok, rb_exc, ofO_some, rd_some, varS_ap, conS_ap, nilA_ap, consA_ap, consR_ok, consR_exc, consR_exc0, items_ap, items_lst, items_tup, items_scr, starA_ap, starR_ok, tupS_ap, tupR_ok, lstS_ap, lstR_ok, andS_ap, andR_t, andR_f, orS_ap, orR_t, orR_f, notS_ap, testS_ap, truR_bl, truR_int, ifS_ap, ifR_t, ifR_f, andT_ap, andW_t, andW_f, orT_ap, orW_t, orW_f, notT_ap, yesT_ap, tb1_ap, blR_bl, bin2_ap, b2R_ok, un1_ap, callB_ap, cbR_ok, chainS_ap, noP_ap, someP_ap, intR_ok, slS_ap, slR_ok, slD_ap, slQ_lst, slQ_tup, methS_ap, meR_ok, callS_ap, calR_ok, cal1_ok, cal1_exc, lcS_ap, lcR_ok, lcQ_ok, lcL_nil, lcL_yes, lcY_ok, lcZ_ok, itI_ap, itR_lst, itR_scr, itR_tup, itR_str, rng1I_ap, rn1R_ok, rng3I_ap, rn3R_up, zipI_ap, zpR_lst, zpR_tup, nameG_ap, nilG_ap, consG_ap, cgR_ok, tupG_2, tupG_3, seqS_ap, sqR_nx, sqR_ret, sqR_exc, passS_ap, retS_ap, retF_ap, reR_ok, reR_exc, asgS_ap, asR_ok, asR_exc, agR_ok, ownS_ap, owR_ok, iffS_ap, ifO_t, ifO_f, ifO_exc, expS_ap, exR_ok, exR_exc, forS_ap, foR_ok, forL_nil, forL_cons, flA_ok, flB_nx, appS_ap, apR_last, raiS_ap, rai1S_ap, raR_int, tryS_ap, trR_nx, trR_ret, trR_exc, starS_ap, stR_1, dr_int, dr_str, dr_bl, dr_non, dr_tup, dr_lst, dr_scr, dr_wd, dr_exn, dr_lstR, addD_ap, addQ_int, addQ_str, addQ_lst, addQ_tup, subD_int, negD_int, mulD_int, mulD_lst, fdivD_int, modD_int, powD_int, ltD_int, leD_int, gtD_int, geD_int, isn_lst, isn_non, eqB_str, eqB_int, eqD_ap, neD_ap, inB_wd, inB_chr, inD_ap, ninD_ap, omap_some, look_n, look_c, ixD_ap, ixQ_lst, ixQ_tup, ixQ_scr, ixQ_wd, ixQ_str, at_0, at_m1, at_m1c, at_p, rg2S_ap, r2R_ok, rg1S_ap, r1R_ok, rgD_ok', cut_m1, cut_pos, cut_posf, drop_0, drop_s, take_0, take_s, take_n, dl_1, dl_c, flat_rep, eq_self, Int.cast_ofNat_Int, lenD_ap, lenQ_lst, lenQ_scr, lenQ_tup, lenQ_str, intC_int, strC_str, strC_int, listC_lst, listC_tup, tupleC_lst, tupleC_tup, joinM_ap, splitM_ok, ofString_inj, List.length_cons, List.length_nil, List.length_append, List.length_map, Int.reduceNeg, Int.reduceAdd, Int.reduceSub, Int.reduceMul, Int.reduceMod, Int.reducePow, Int.reduceDiv, Int.reduceLE, Int.reduceLT, Int.reduceEq, Int.reduceToNat, Nat.reduceAdd, Nat.reduceSub, Nat.reduceLeDiff, Nat.reduceEqDiff, String.reduceEq, decide_true, decide_false, Bool.not_true, Bool.not_false, Bool.and_true, Bool.true_and, Bool.and_false, Bool.false_and, Bool.or_true, Bool.or_false, Bool.true_or, Bool.false_or, Option.isSome_some, Option.isSome_none, if_true, if_false, Bool.false_eq_true, Int.reduceBNe]
      · refine ⟨_, ρ ++ [.lst ((L ++ [d0 % 12 - 4]).map .int)], [some (.scr (ns.map .int)), some (.int a), some (.int m), some (.rt ρ.length), some (.int (0 + (i : Nat))), some (.int x), some (.lst [.int d0, .int d1]), some (.int (d0 % 12 - 4))], nameG_ap, ?_, L ++ [d0 % 12 - 4], _, _, _, _, by simp [hL], rfl, rfl⟩
        simp (disch := walk_at "ds") only [hE, hcell, hdraw, at1, h4, h5, List.map_append, rep_0, rep_s, get_0, get_s, set_0, set_s, app_n, app_c, map_n, map_c, wipe_n, wipe_c, rb_ok, rb_exc, ofO_some, rd_some, varS_ap, conS_ap, nilA_ap, consA_ap, consR_ok, consR_exc, consR_exc0, items_ap, items_lst, items_tup, items_scr, starA_ap, starR_ok, tupS_ap, tupR_ok, lstS_ap, lstR_ok, andS_ap, andR_t, andR_f, orS_ap, orR_t, orR_f, notS_ap, testS_ap, truR_bl, truR_int, ifS_ap, ifR_t, ifR_f, andT_ap, andW_t, andW_f, orT_ap, orW_t, orW_f, notT_ap, yesT_ap, tb1_ap, blR_bl, bin2_ap, b2R_ok, un1_ap, callB_ap, cbR_ok, chainS_ap, noP_ap, someP_ap, intR_ok, slS_ap, slR_ok, slD_ap, slQ_lst, slQ_tup, methS_ap, meR_ok, callS_ap, calR_ok, cal1_ok, cal1_exc, lcS_ap, lcR_ok, lcQ_ok, lcL_nil, lcL_yes, lcY_ok, lcZ_ok, itI_ap, itR_lst, itR_scr, itR_tup, itR_str, rng1I_ap, rn1R_ok, rng3I_ap, rn3R_up, zipI_ap, zpR_lst, zpR_tup, nameG_ap, nilG_ap, consG_ap, cgR_ok, tupG_2, tupG_3, seqS_ap, sqR_nx, sqR_ret, sqR_exc, passS_ap, retS_ap, retF_ap, reR_ok, reR_exc, asgS_ap, asR_ok, asR_exc, agR_ok, ownS_ap, owR_ok, iffS_ap, ifO_t, ifO_f, ifO_exc, expS_ap, exR_ok, exR_exc, forS_ap, foR_ok, forL_nil, forL_cons, flA_ok, flB_nx, appS_ap, apR_last, raiS_ap, rai1S_ap, raR_int, tryS_ap, trR_nx, trR_ret, trR_exc, starS_ap, stR_1, dr_int, dr_str, dr_bl, dr_non, dr_tup, dr_lst, dr_scr, dr_wd, dr_exn, dr_lstR, addD_ap, addQ_int, addQ_str, addQ_lst, addQ_tup, subD_int, negD_int, mulD_int, mulD_lst, fdivD_int, modD_int, powD_int, ltD_int, leD_int, gtD_int, geD_int, isn_lst, isn_non, eqB_str, eqB_int, eqD_ap, neD_ap, inB_wd, inB_chr, inD_ap, ninD_ap, omap_some, look_n, look_c, ixD_ap, ixQ_lst, ixQ_tup, ixQ_scr, ixQ_wd, ixQ_str, at_0, at_m1, at_m1c, at_p, rg2S_ap, r2R_ok, rg1S_ap, r1R_ok, rgD_ok', cut_m1, cut_pos, cut_posf, drop_0, drop_s, take_0, take_s, take_n, dl_1, dl_c, flat_rep, eq_self, Int.cast_ofNat_Int, lenD_ap, lenQ_lst, lenQ_scr, lenQ_tup, lenQ_str, intC_int, strC_str, strC_int, listC_lst, listC_tup, tupleC_lst, tupleC_tup, joinM_ap, splitM_ok, ofString_inj, List.length_cons, List.length_nil, List.length_append, List.length_map, Int.reduceNeg, Int.reduceAdd, Int.reduceSub, Int.reduceMul, Int.reduceMod, Int.reducePow, Int.reduceDiv, Int.reduceLE, Int.reduceLT, Int.reduceEq, Int.reduceToNat, Nat.reduceAdd, Nat.reduceSub, Nat.reduceLeDiff, Nat.reduceEqDiff, String.reduceEq, decide_true, decide_false, Bool.not_true, Bool.not_false, Bool.and_true, Bool.true_and, Bool.and_false, Bool.false_and, Bool.or_true, Bool.or_false, Bool.true_or, Bool.false_or, Option.isSome_some, Option.isSome_none, if_true, if_false, Bool.false_eq_true, Int.reduceBNe]
theorem r_marks {n : Nat} {ρ : List D} {d : List Int} {m : Nat} (hd : ∀ x ∈ d, 0 ≤ x) (hl : d.length = 5) (hm : m ≤ 4) : ∃ M : List Int, M.length = m ∧ badM M = false ∧ run Tb (n + 1) 6 (fun _ => false) ρ [.lst (d.map .int), .int m, .int 0] = .ok false (.tup (M.map .int)) ρ := by
  let P : Nat → List D → Dd.Env → Prop := fun i ρ' σ' => ∃ (M : List Int) (at' : Int) (o : Option D), M.length = i ∧ badM (M ++ [at']) = false ∧ ρ' = ρ ++ [.lst (M.map .int)] ∧ σ' = [some (.lst (d.map .int)), some (.int m), some (.int 0), some (.rt ρ.length), some (.int at'), o]
  have hbm : ∀ (M : List Int) (x y : Int), badM (M ++ [x]) = false → x < y → badM (M ++ [x] ++ [y]) = false := by
    intro M x y h hxy
    induction M with
    | nil => show badM [x, y] = false; unfold badM; simp; omega
    | cons a M ih =>
      cases M with
      | nil =>
        show badM [a, x, y] = false
        unfold badM at h ⊢
        simp at h ⊢
        omega
      | cons b M =>
        unfold badM at h ih ⊢
        simp only [List.cons_append, List.tail_cons, List.zip_cons_cons, List.any_cons, Bool.or_eq_false_iff] at h ih ⊢
        exact ⟨h.1, ih h.2⟩
  have hb0 : ∀ (M : List Int) (x : Int), badM (M ++ [x]) = false → badM M = false := by
    intro M x h
    induction M with
    | nil => rfl
    | cons a M ih =>
      cases M with
      | nil => rfl
      | cons b M =>
        unfold badM at h ih ⊢
        simp only [List.cons_append, List.tail_cons, List.zip_cons_cons, List.any_cons, Bool.or_eq_false_iff] at h ih ⊢
        exact ⟨h.1, ih h.2⟩
  have hat : ∀ i : Nat, i < 4 → atI (d.map D.int) (1 + (0 + (i : Int))) = some (.int (d.getD (1 + i) 0)) := fun i hi => by
    have e : 1 + (0 + (i : Int)) = ((1 + i : Nat) : Int) := by omega
    rw [e]
    refine at_nat ?_
    rw [List.getElem?_map, List.getElem?_eq_getElem (by omega), List.getD_eq_getElem?_getD, List.getElem?_eq_getElem (by omega)]; rfl
  have hat0 : atI (d.map D.int) 0 = some (.int (d.getD 0 0)) := by
    refine at_nat (n := 0) ?_
    rw [List.getElem?_map, List.getElem?_eq_getElem (by omega), List.getD_eq_getElem?_getD, List.getElem?_eq_getElem (by omega)]; rfl
  generalize d.getD 0 0 = x0 at hat0
  generalize hbody : (seqS (appS (varS 3) (varS 4)) _) = body
  have loop := forL_at (g := nameG 5) (body := body) (mu := fun r => decide (ρ.length ≤ r) && !([] : List Nat).contains r) (l := rngL 0 m) (ρ := ρ ++ [.lst []]) (σ := [some (.lst (d.map .int)), some (.int m), some (.int 0), some (.rt ρ.length), some (.int (x0 % 7 - 2 + 0)), none]) P ⟨[], _, none, rfl, rfl, rfl, rfl⟩ ?_
  · obtain ⟨ρ', σ', e1, M, at', o, hM, hbM, rfl, rfl⟩ := loop
    refine ⟨M, by rw [hM]; unfold rngL; simp, hb0 _ _ hbM, run_res 3 6 B__law_marks (o := .ret false (.tup (M.map .int)) (ρ ++ [.lst (M.map .int)])) rfl rfl rfl ?_ (fin_ret (by intro r h; cases h) (by show okRtL _ _ = true; exact okL_map fun _ _ => rfl))⟩
    have ht : (m : Int).toNat = m := Int.toNat_natCast m
    simp (disch := walk_at "ds") only [B__law_marks, hat0, rep_0, rep_s, get_0, get_s, set_0, set_s, app_n, app_c, map_n, map_c, wipe_n, wipe_c, rb_ok, rb_exc, ofO_some, rd_some, varS_ap, conS_ap, nilA_ap, consA_ap, consR_ok, consR_exc, consR_exc0, items_ap, items_lst, items_tup, items_scr, starA_ap, starR_ok, tupS_ap, tupR_ok, lstS_ap, lstR_ok, andS_ap, andR_t, andR_f, orS_ap, orR_t, orR_f, notS_ap, testS_ap, truR_bl, truR_int, ifS_ap, ifR_t, ifR_f, andT_ap, andW_t, andW_f, orT_ap, orW_t, orW_f, notT_ap, yesT_ap, tb1_ap, blR_bl, bin2_ap, b2R_ok, un1_ap, callB_ap, cbR_ok, chainS_ap, noP_ap, someP_ap, intR_ok, slS_ap, slR_ok, slD_ap, slQ_lst, slQ_tup, methS_ap, meR_ok, callS_ap, calR_ok, cal1_ok, cal1_exc, lcS_ap, lcR_ok, lcQ_ok, lcL_nil, lcL_yes, lcY_ok, lcZ_ok, itI_ap, itR_lst, itR_scr, itR_tup, itR_str, rng1I_ap, rn1R_ok, rng3I_ap, rn3R_up, zipI_ap, zpR_lst, zpR_tup, nameG_ap, nilG_ap, consG_ap, cgR_ok, tupG_2, tupG_3, seqS_ap, sqR_nx, sqR_ret, sqR_exc, passS_ap, retS_ap, retF_ap, reR_ok, reR_exc, asgS_ap, asR_ok, asR_exc, agR_ok, ownS_ap, owR_ok, iffS_ap, ifO_t, ifO_f, ifO_exc, expS_ap, exR_ok, exR_exc, forS_ap, foR_ok, forL_nil, forL_cons, flA_ok, flB_nx, appS_ap, apR_last, raiS_ap, rai1S_ap, raR_int, tryS_ap, trR_nx, trR_ret, trR_exc, starS_ap, stR_1, dr_int, dr_str, dr_bl, dr_non, dr_tup, dr_lst, dr_scr, dr_wd, dr_exn, dr_lstR, addD_ap, addQ_int, addQ_str, addQ_lst, addQ_tup, subD_int, negD_int, mulD_int, mulD_lst, fdivD_int, modD_int, powD_int, ltD_int, leD_int, gtD_int, geD_int, isn_lst, isn_non, eqB_str, eqB_int, eqD_ap, neD_ap, inB_wd, inB_chr, inD_ap, ninD_ap, omap_some, look_n, look_c, ixD_ap, ixQ_lst, ixQ_tup, ixQ_scr, ixQ_wd, ixQ_str, at_0, at_m1, at_m1c, at_p, rg2S_ap, r2R_ok, rg1S_ap, r1R_ok, rgD_ok', cut_m1, cut_pos, cut_posf, drop_0, drop_s, take_0, take_s, take_n, dl_1, dl_c, flat_rep, eq_self, Int.cast_ofNat_Int, lenD_ap, lenQ_lst, lenQ_scr, lenQ_tup, lenQ_str, intC_int, strC_str, strC_int, listC_lst, listC_tup, tupleC_lst, tupleC_tup, joinM_ap, splitM_ok, ofString_inj, List.length_cons, List.length_nil, List.length_append, List.length_map, Int.reduceNeg, Int.reduceAdd, Int.reduceSub, Int.reduceMul, Int.reduceMod, Int.reducePow, Int.reduceDiv, Int.reduceLE, Int.reduceLT, Int.reduceEq, Int.reduceToNat, Nat.reduceAdd, Nat.reduceSub, Nat.reduceLeDiff, Nat.reduceEqDiff, String.reduceEq, decide_true, decide_false, Bool.not_true, Bool.not_false, Bool.and_true, Bool.true_and, Bool.and_false, Bool.false_and, Bool.or_true, Bool.or_false, Bool.true_or, Bool.false_or, Option.isSome_some, Option.isSome_none, if_true, if_false, Bool.false_eq_true, Int.reduceBNe]
    rw [hbody]
    simp (disch := walk_at "ds") only [ht, e1, tupleC_rt, rep_0, rep_s, get_0, get_s, set_0, set_s, app_n, app_c, map_n, map_c, wipe_n, wipe_c, rb_ok, rb_exc, ofO_some, rd_some, varS_ap, conS_ap, nilA_ap, consA_ap, consR_ok, consR_exc, consR_exc0, items_ap, items_lst, items_tup, items_scr, starA_ap, starR_ok, tupS_ap, tupR_ok, lstS_ap, lstR_ok, andS_ap, andR_t, andR_f, orS_ap, orR_t, orR_f, notS_ap, testS_ap, truR_bl, truR_int, ifS_ap, ifR_t, ifR_f, andT_ap, andW_t, andW_f, orT_ap, orW_t, orW_f, notT_ap, yesT_ap, tb1_ap, blR_bl, bin2_ap, b2R_ok, un1_ap, callB_ap, cbR_ok, chainS_ap, noP_ap, someP_ap, intR_ok, slS_ap, slR_ok, slD_ap, slQ_lst, slQ_tup, methS_ap, meR_ok, callS_ap, calR_ok, cal1_ok, cal1_exc, lcS_ap, lcR_ok, lcQ_ok, lcL_nil, lcL_yes, lcY_ok, lcZ_ok, itI_ap, itR_lst, itR_scr, itR_tup, itR_str, rng1I_ap, rn1R_ok, rng3I_ap, rn3R_up, zipI_ap, zpR_lst, zpR_tup, nameG_ap, nilG_ap, consG_ap, cgR_ok, tupG_2, tupG_3, seqS_ap, sqR_nx, sqR_ret, sqR_exc, passS_ap, retS_ap, retF_ap, reR_ok, reR_exc, asgS_ap, asR_ok, asR_exc, agR_ok, ownS_ap, owR_ok, iffS_ap, ifO_t, ifO_f, ifO_exc, expS_ap, exR_ok, exR_exc, forS_ap, foR_ok, forL_nil, forL_cons, flA_ok, flB_nx, appS_ap, apR_last, raiS_ap, rai1S_ap, raR_int, tryS_ap, trR_nx, trR_ret, trR_exc, starS_ap, stR_1, dr_int, dr_str, dr_bl, dr_non, dr_tup, dr_lst, dr_scr, dr_wd, dr_exn, dr_lstR, addD_ap, addQ_int, addQ_str, addQ_lst, addQ_tup, subD_int, negD_int, mulD_int, mulD_lst, fdivD_int, modD_int, powD_int, ltD_int, leD_int, gtD_int, geD_int, isn_lst, isn_non, eqB_str, eqB_int, eqD_ap, neD_ap, inB_wd, inB_chr, inD_ap, ninD_ap, omap_some, look_n, look_c, ixD_ap, ixQ_lst, ixQ_tup, ixQ_scr, ixQ_wd, ixQ_str, at_0, at_m1, at_m1c, at_p, rg2S_ap, r2R_ok, rg1S_ap, r1R_ok, rgD_ok', cut_m1, cut_pos, cut_posf, drop_0, drop_s, take_0, take_s, take_n, dl_1, dl_c, flat_rep, eq_self, Int.cast_ofNat_Int, lenD_ap, lenQ_lst, lenQ_scr, lenQ_tup, lenQ_str, intC_int, strC_str, strC_int, listC_lst, listC_tup, tupleC_lst, tupleC_tup, joinM_ap, splitM_ok, ofString_inj, List.length_cons, List.length_nil, List.length_append, List.length_map, Int.reduceNeg, Int.reduceAdd, Int.reduceSub, Int.reduceMul, Int.reduceMod, Int.reducePow, Int.reduceDiv, Int.reduceLE, Int.reduceLT, Int.reduceEq, Int.reduceToNat, Nat.reduceAdd, Nat.reduceSub, Nat.reduceLeDiff, Nat.reduceEqDiff, String.reduceEq, decide_true, decide_false, Bool.not_true, Bool.not_false, Bool.and_true, Bool.true_and, Bool.and_false, Bool.false_and, Bool.or_true, Bool.or_false, Bool.true_or, Bool.false_or, Option.isSome_some, Option.isSome_none, if_true, if_false, Bool.false_eq_true, Int.reduceBNe]
  · rintro i d' ρ' σ' hd' ⟨M, at', o, hM, hbM, rfl, rfl⟩
    obtain ⟨rfl, hi⟩ := rng_get hd'
    rw [← hbody]
    have hmu : (fun r => decide (ρ.length ≤ r) && !([] : List Nat).contains r) ρ.length = true := by simp
    have hL2 : (M.map D.int).length < 100000 := by rw [List.length_map]; omega
    refine ⟨_, ρ ++ [.lst ((M ++ [at']).map .int)], [some (.lst (d.map .int)), some (.int m), some (.int 0), some (.rt ρ.length), some (.int (at' + 1 + d.getD (1 + i) 0 % 4)), some (.int (0 + (i : Nat)))], nameG_ap, ?_, M ++ [at'], _, _, by simp [hM], hbm _ _ _ hbM (by omega), rfl, rfl⟩
    simp (disch := walk_at "ds") only [hat i (by omega), List.map_append, rep_0, rep_s, get_0, get_s, set_0, set_s, app_n, app_c, map_n, map_c, wipe_n, wipe_c, rb_ok, rb_exc, ofO_some, rd_some, varS_ap, conS_ap, nilA_ap, consA_ap, consR_ok, consR_exc, consR_exc0, items_ap, items_lst, items_tup, items_scr, starA_ap, starR_ok, tupS_ap, tupR_ok, lstS_ap, lstR_ok, andS_ap, andR_t, andR_f, orS_ap, orR_t, orR_f, notS_ap, testS_ap, truR_bl, truR_int, ifS_ap, ifR_t, ifR_f, andT_ap, andW_t, andW_f, orT_ap, orW_t, orW_f, notT_ap, yesT_ap, tb1_ap, blR_bl, bin2_ap, b2R_ok, un1_ap, callB_ap, cbR_ok, chainS_ap, noP_ap, someP_ap, intR_ok, slS_ap, slR_ok, slD_ap, slQ_lst, slQ_tup, methS_ap, meR_ok, callS_ap, calR_ok, cal1_ok, cal1_exc, lcS_ap, lcR_ok, lcQ_ok, lcL_nil, lcL_yes, lcY_ok, lcZ_ok, itI_ap, itR_lst, itR_scr, itR_tup, itR_str, rng1I_ap, rn1R_ok, rng3I_ap, rn3R_up, zipI_ap, zpR_lst, zpR_tup, nameG_ap, nilG_ap, consG_ap, cgR_ok, tupG_2, tupG_3, seqS_ap, sqR_nx, sqR_ret, sqR_exc, passS_ap, retS_ap, retF_ap, reR_ok, reR_exc, asgS_ap, asR_ok, asR_exc, agR_ok, ownS_ap, owR_ok, iffS_ap, ifO_t, ifO_f, ifO_exc, expS_ap, exR_ok, exR_exc, forS_ap, foR_ok, forL_nil, forL_cons, flA_ok, flB_nx, appS_ap, apR_last, raiS_ap, rai1S_ap, raR_int, tryS_ap, trR_nx, trR_ret, trR_exc, starS_ap, stR_1, dr_int, dr_str, dr_bl, dr_non, dr_tup, dr_lst, dr_scr, dr_wd, dr_exn, dr_lstR, addD_ap, addQ_int, addQ_str, addQ_lst, addQ_tup, subD_int, negD_int, mulD_int, mulD_lst, fdivD_int, modD_int, powD_int, ltD_int, leD_int, gtD_int, geD_int, isn_lst, isn_non, eqB_str, eqB_int, eqD_ap, neD_ap, inB_wd, inB_chr, inD_ap, ninD_ap, omap_some, look_n, look_c, ixD_ap, ixQ_lst, ixQ_tup, ixQ_scr, ixQ_wd, ixQ_str, at_0, at_m1, at_m1c, at_p, rg2S_ap, r2R_ok, rg1S_ap, r1R_ok, rgD_ok', cut_m1, cut_pos, cut_posf, drop_0, drop_s, take_0, take_s, take_n, dl_1, dl_c, flat_rep, eq_self, Int.cast_ofNat_Int, lenD_ap, lenQ_lst, lenQ_scr, lenQ_tup, lenQ_str, intC_int, strC_str, strC_int, listC_lst, listC_tup, tupleC_lst, tupleC_tup, joinM_ap, splitM_ok, ofString_inj, List.length_cons, List.length_nil, List.length_append, List.length_map, Int.reduceNeg, Int.reduceAdd, Int.reduceSub, Int.reduceMul, Int.reduceMod, Int.reducePow, Int.reduceDiv, Int.reduceLE, Int.reduceLT, Int.reduceEq, Int.reduceToNat, Nat.reduceAdd, Nat.reduceSub, Nat.reduceLeDiff, Nat.reduceEqDiff, String.reduceEq, decide_true, decide_false, Bool.not_true, Bool.not_false, Bool.and_true, Bool.true_and, Bool.and_false, Bool.false_and, Bool.or_true, Bool.or_false, Bool.true_or, Bool.false_or, Option.isSome_some, Option.isSome_none, if_true, if_false, Bool.false_eq_true, Int.reduceBNe]
theorem r_sign {n : Nat} {ρ : List D} {a b : Int} : run Tb (n + 1) 9 (fun _ => false) ρ [.int a, .int b] = .ok false (.int (sgI a b)) ρ := by
  refine run_res 2 2 B__law_sign (o := .ret false (.int (sgI a b)) ρ) rfl rfl rfl ?_ (fin_ret0 (by intro r h; cases h) rfl)
  unfold sgI
  by_cases h1 : a < b
  · simp (disch := walk_at "ds") only [B__law_sign, h1, rep_0, rep_s, get_0, get_s, set_0, set_s, app_n, app_c, map_n, map_c, wipe_n, wipe_c, rb_ok, rb_exc, ofO_some, rd_some, varS_ap, conS_ap, nilA_ap, consA_ap, consR_ok, consR_exc, consR_exc0, items_ap, items_lst, items_tup, items_scr, starA_ap, starR_ok, tupS_ap, tupR_ok, lstS_ap, lstR_ok, andS_ap, andR_t, andR_f, orS_ap, orR_t, orR_f, notS_ap, testS_ap, truR_bl, truR_int, ifS_ap, ifR_t, ifR_f, andT_ap, andW_t, andW_f, orT_ap, orW_t, orW_f, notT_ap, yesT_ap, tb1_ap, blR_bl, bin2_ap, b2R_ok, un1_ap, callB_ap, cbR_ok, chainS_ap, noP_ap, someP_ap, intR_ok, slS_ap, slR_ok, slD_ap, slQ_lst, slQ_tup, methS_ap, meR_ok, callS_ap, calR_ok, cal1_ok, cal1_exc, lcS_ap, lcR_ok, lcQ_ok, lcL_nil, lcL_yes, lcY_ok, lcZ_ok, itI_ap, itR_lst, itR_scr, itR_tup, itR_str, rng1I_ap, rn1R_ok, rng3I_ap, rn3R_up, zipI_ap, zpR_lst, zpR_tup, nameG_ap, nilG_ap, consG_ap, cgR_ok, tupG_2, tupG_3, seqS_ap, sqR_nx, sqR_ret, sqR_exc, passS_ap, retS_ap, retF_ap, reR_ok, reR_exc, asgS_ap, asR_ok, asR_exc, agR_ok, ownS_ap, owR_ok, iffS_ap, ifO_t, ifO_f, ifO_exc, expS_ap, exR_ok, exR_exc, forS_ap, foR_ok, forL_nil, forL_cons, flA_ok, flB_nx, appS_ap, apR_last, raiS_ap, rai1S_ap, raR_int, tryS_ap, trR_nx, trR_ret, trR_exc, starS_ap, stR_1, dr_int, dr_str, dr_bl, dr_non, dr_tup, dr_lst, dr_scr, dr_wd, dr_exn, dr_lstR, addD_ap, addQ_int, addQ_str, addQ_lst, addQ_tup, subD_int, negD_int, mulD_int, mulD_lst, fdivD_int, modD_int, powD_int, ltD_int, leD_int, gtD_int, geD_int, isn_lst, isn_non, eqB_str, eqB_int, eqD_ap, neD_ap, inB_wd, inB_chr, inD_ap, ninD_ap, omap_some, look_n, look_c, ixD_ap, ixQ_lst, ixQ_tup, ixQ_scr, ixQ_wd, ixQ_str, at_0, at_m1, at_m1c, at_p, rg2S_ap, r2R_ok, rg1S_ap, r1R_ok, rgD_ok', cut_m1, cut_pos, cut_posf, drop_0, drop_s, take_0, take_s, take_n, dl_1, dl_c, flat_rep, eq_self, Int.cast_ofNat_Int, lenD_ap, lenQ_lst, lenQ_scr, lenQ_tup, lenQ_str, intC_int, strC_str, strC_int, listC_lst, listC_tup, tupleC_lst, tupleC_tup, joinM_ap, splitM_ok, ofString_inj, List.length_cons, List.length_nil, List.length_append, List.length_map, Int.reduceNeg, Int.reduceAdd, Int.reduceSub, Int.reduceMul, Int.reduceMod, Int.reducePow, Int.reduceDiv, Int.reduceLE, Int.reduceLT, Int.reduceEq, Int.reduceToNat, Nat.reduceAdd, Nat.reduceSub, Nat.reduceLeDiff, Nat.reduceEqDiff, String.reduceEq, decide_true, decide_false, Bool.not_true, Bool.not_false, Bool.and_true, Bool.true_and, Bool.and_false, Bool.false_and, Bool.or_true, Bool.or_false, Bool.true_or, Bool.false_or, Option.isSome_some, Option.isSome_none, if_true, if_false, Bool.false_eq_true, Int.reduceBNe]
  · by_cases h2 : b < a
    · simp (disch := walk_at "ds") only [B__law_sign, h1, h2, intC_bl, rep_0, rep_s, get_0, get_s, set_0, set_s, app_n, app_c, map_n, map_c, wipe_n, wipe_c, rb_ok, rb_exc, ofO_some, rd_some, varS_ap, conS_ap, nilA_ap, consA_ap, consR_ok, consR_exc, consR_exc0, items_ap, items_lst, items_tup, items_scr, starA_ap, starR_ok, tupS_ap, tupR_ok, lstS_ap, lstR_ok, andS_ap, andR_t, andR_f, orS_ap, orR_t, orR_f, notS_ap, testS_ap, truR_bl, truR_int, ifS_ap, ifR_t, ifR_f, andT_ap, andW_t, andW_f, orT_ap, orW_t, orW_f, notT_ap, yesT_ap, tb1_ap, blR_bl, bin2_ap, b2R_ok, un1_ap, callB_ap, cbR_ok, chainS_ap, noP_ap, someP_ap, intR_ok, slS_ap, slR_ok, slD_ap, slQ_lst, slQ_tup, methS_ap, meR_ok, callS_ap, calR_ok, cal1_ok, cal1_exc, lcS_ap, lcR_ok, lcQ_ok, lcL_nil, lcL_yes, lcY_ok, lcZ_ok, itI_ap, itR_lst, itR_scr, itR_tup, itR_str, rng1I_ap, rn1R_ok, rng3I_ap, rn3R_up, zipI_ap, zpR_lst, zpR_tup, nameG_ap, nilG_ap, consG_ap, cgR_ok, tupG_2, tupG_3, seqS_ap, sqR_nx, sqR_ret, sqR_exc, passS_ap, retS_ap, retF_ap, reR_ok, reR_exc, asgS_ap, asR_ok, asR_exc, agR_ok, ownS_ap, owR_ok, iffS_ap, ifO_t, ifO_f, ifO_exc, expS_ap, exR_ok, exR_exc, forS_ap, foR_ok, forL_nil, forL_cons, flA_ok, flB_nx, appS_ap, apR_last, raiS_ap, rai1S_ap, raR_int, tryS_ap, trR_nx, trR_ret, trR_exc, starS_ap, stR_1, dr_int, dr_str, dr_bl, dr_non, dr_tup, dr_lst, dr_scr, dr_wd, dr_exn, dr_lstR, addD_ap, addQ_int, addQ_str, addQ_lst, addQ_tup, subD_int, negD_int, mulD_int, mulD_lst, fdivD_int, modD_int, powD_int, ltD_int, leD_int, gtD_int, geD_int, isn_lst, isn_non, eqB_str, eqB_int, eqD_ap, neD_ap, inB_wd, inB_chr, inD_ap, ninD_ap, omap_some, look_n, look_c, ixD_ap, ixQ_lst, ixQ_tup, ixQ_scr, ixQ_wd, ixQ_str, at_0, at_m1, at_m1c, at_p, rg2S_ap, r2R_ok, rg1S_ap, r1R_ok, rgD_ok', cut_m1, cut_pos, cut_posf, drop_0, drop_s, take_0, take_s, take_n, dl_1, dl_c, flat_rep, eq_self, Int.cast_ofNat_Int, lenD_ap, lenQ_lst, lenQ_scr, lenQ_tup, lenQ_str, intC_int, strC_str, strC_int, listC_lst, listC_tup, tupleC_lst, tupleC_tup, joinM_ap, splitM_ok, ofString_inj, List.length_cons, List.length_nil, List.length_append, List.length_map, Int.reduceNeg, Int.reduceAdd, Int.reduceSub, Int.reduceMul, Int.reduceMod, Int.reducePow, Int.reduceDiv, Int.reduceLE, Int.reduceLT, Int.reduceEq, Int.reduceToNat, Nat.reduceAdd, Nat.reduceSub, Nat.reduceLeDiff, Nat.reduceEqDiff, String.reduceEq, decide_true, decide_false, Bool.not_true, Bool.not_false, Bool.and_true, Bool.true_and, Bool.and_false, Bool.false_and, Bool.or_true, Bool.or_false, Bool.true_or, Bool.false_or, Option.isSome_some, Option.isSome_none, if_true, if_false, Bool.false_eq_true, Int.reduceBNe]
    · simp (disch := walk_at "ds") only [B__law_sign, h1, h2, intC_bl, rep_0, rep_s, get_0, get_s, set_0, set_s, app_n, app_c, map_n, map_c, wipe_n, wipe_c, rb_ok, rb_exc, ofO_some, rd_some, varS_ap, conS_ap, nilA_ap, consA_ap, consR_ok, consR_exc, consR_exc0, items_ap, items_lst, items_tup, items_scr, starA_ap, starR_ok, tupS_ap, tupR_ok, lstS_ap, lstR_ok, andS_ap, andR_t, andR_f, orS_ap, orR_t, orR_f, notS_ap, testS_ap, truR_bl, truR_int, ifS_ap, ifR_t, ifR_f, andT_ap, andW_t, andW_f, orT_ap, orW_t, orW_f, notT_ap, yesT_ap, tb1_ap, blR_bl, bin2_ap, b2R_ok, un1_ap, callB_ap, cbR_ok, chainS_ap, noP_ap, someP_ap, intR_ok, slS_ap, slR_ok, slD_ap, slQ_lst, slQ_tup, methS_ap, meR_ok, callS_ap, calR_ok, cal1_ok, cal1_exc, lcS_ap, lcR_ok, lcQ_ok, lcL_nil, lcL_yes, lcY_ok, lcZ_ok, itI_ap, itR_lst, itR_scr, itR_tup, itR_str, rng1I_ap, rn1R_ok, rng3I_ap, rn3R_up, zipI_ap, zpR_lst, zpR_tup, nameG_ap, nilG_ap, consG_ap, cgR_ok, tupG_2, tupG_3, seqS_ap, sqR_nx, sqR_ret, sqR_exc, passS_ap, retS_ap, retF_ap, reR_ok, reR_exc, asgS_ap, asR_ok, asR_exc, agR_ok, ownS_ap, owR_ok, iffS_ap, ifO_t, ifO_f, ifO_exc, expS_ap, exR_ok, exR_exc, forS_ap, foR_ok, forL_nil, forL_cons, flA_ok, flB_nx, appS_ap, apR_last, raiS_ap, rai1S_ap, raR_int, tryS_ap, trR_nx, trR_ret, trR_exc, starS_ap, stR_1, dr_int, dr_str, dr_bl, dr_non, dr_tup, dr_lst, dr_scr, dr_wd, dr_exn, dr_lstR, addD_ap, addQ_int, addQ_str, addQ_lst, addQ_tup, subD_int, negD_int, mulD_int, mulD_lst, fdivD_int, modD_int, powD_int, ltD_int, leD_int, gtD_int, geD_int, isn_lst, isn_non, eqB_str, eqB_int, eqD_ap, neD_ap, inB_wd, inB_chr, inD_ap, ninD_ap, omap_some, look_n, look_c, ixD_ap, ixQ_lst, ixQ_tup, ixQ_scr, ixQ_wd, ixQ_str, at_0, at_m1, at_m1c, at_p, rg2S_ap, r2R_ok, rg1S_ap, r1R_ok, rgD_ok', cut_m1, cut_pos, cut_posf, drop_0, drop_s, take_0, take_s, take_n, dl_1, dl_c, flat_rep, eq_self, Int.cast_ofNat_Int, lenD_ap, lenQ_lst, lenQ_scr, lenQ_tup, lenQ_str, intC_int, strC_str, strC_int, listC_lst, listC_tup, tupleC_lst, tupleC_tup, joinM_ap, splitM_ok, ofString_inj, List.length_cons, List.length_nil, List.length_append, List.length_map, Int.reduceNeg, Int.reduceAdd, Int.reduceSub, Int.reduceMul, Int.reduceMod, Int.reducePow, Int.reduceDiv, Int.reduceLE, Int.reduceLT, Int.reduceEq, Int.reduceToNat, Nat.reduceAdd, Nat.reduceSub, Nat.reduceLeDiff, Nat.reduceEqDiff, String.reduceEq, decide_true, decide_false, Bool.not_true, Bool.not_false, Bool.and_true, Bool.true_and, Bool.and_false, Bool.false_and, Bool.or_true, Bool.or_false, Bool.true_or, Bool.false_or, Option.isSome_some, Option.isSome_none, if_true, if_false, Bool.false_eq_true, Int.reduceBNe]
theorem at_getD {l : List Int} {i : Nat} (h : i < l.length) : atI (l.map D.int) (0 + (i : Int)) = some (.int (l.getD i 0)) := by
  have e : 0 + (i : Int) = ((i : Nat) : Int) := by omega
  rw [e]
  refine at_nat ?_
  rw [List.getElem?_map, List.getElem?_eq_getElem h, List.getD_eq_getElem?_getD, List.getElem?_eq_getElem h]; rfl
theorem iff_ex {P : Prop} [Decidable P] {t : TF} {s : SF} {mu : Nat → Bool} {ρ : List D} {σ : Dd.Env} (ht : t ρ σ = .ok (decide P)) {Q : Dd.Env → Prop} (h1 : P → ∃ σ', s mu ρ σ = .nx ρ σ' ∧ Q σ') (h2 : ¬ P → Q σ) : ∃ σ', iffS t s passS mu ρ σ = .nx ρ σ' ∧ Q σ' := by
  by_cases e : P
  · obtain ⟨σ', e1, q⟩ := h1 e
    refine ⟨σ', ?_, q⟩
    rw [iffS_ap, ht, decide_eq_true e, ifO_t, e1]
  · refine ⟨σ, ?_, h2 e⟩
    rw [iffS_ap, ht, decide_eq_false e, ifO_f]; rfl

/-! ### law 11 -/
theorem siL_filter {l : List Int} {p : Int → Bool} : siL (l.filter p) = (siL l).filter p := asc_ext asc_siL (asc_siL.filter p) fun x => by rw [mem_siL, List.mem_filter, List.mem_filter, mem_siL]
theorem cnt_add {lv : List Int} {x y : Int} (h : x ≤ y) : rkI lv y = rkI lv x + lv.countP fun z => decide (x ≤ z) && decide (z < y) := by
  unfold rkI
  induction lv with
  | nil => rfl
  | cons a l ih =>
    rw [List.countP_cons, List.countP_cons, List.countP_cons, ih]
    by_cases h1 : a < x
    · have h2 : a < y := by omega
      have h3 : ¬ x ≤ a := by omega
      simp [h1, h2, h3]; omega
    · have h3 : x ≤ a := by omega
      by_cases h2 : a < y
      · simp [h1, h2, h3]; omega
      · simp [h1, h2, h3]
theorem rk_succ {lv : List Int} (h : lv.Pairwise (· < ·)) {x : Int} (hx : x ∈ lv) : rkI lv (x + 1) = rkI lv x + 1 := by
  have := rk_step (x := x) h
  have := rk_lt hx (show x < x + 1 by omega)
  omega
/-- numbers between two levels between which no mark lies -/
theorem cnt_part {l ms : List Int} {p : Int → Bool} (hp : ∀ m ∈ ms, p m = false) : ((siL (l.filter p)).length : Int) = (siL (l ++ ms)).countP p := by
  have e : siL (l.filter p) = (siL (l ++ ms)).filter p := by
    have e0 : ms.filter p = [] := List.filter_eq_nil_iff.mpr fun m hm => by simp [hp m hm]
    rw [← siL_filter, List.filter_append, e0, List.append_nil]
  rw [e, List.countP_eq_length_filter]
theorem tg_low {l ms : List Int} {x : Int} (hm : ms.Pairwise (· < ·)) (hne : ms ≠ []) (h : x < ms.headD 0) : tgI (siL (l ++ ms)) ms x = ms.headD 0 - (siL (l.filter fun y => decide (x ≤ y) && decide (y < ms.headD 0))).length := by
  have h3 : ∀ m ∈ ms, x < m := fun m hm' => by have := asc_head hm m hm'; omega
  unfold tgI
  have hz : ∀ m ∈ ms, (fun y => decide (x ≤ y) && decide (y < ms.headD 0)) m = false := fun m hm' => by
    have h4 := asc_head hm m hm'
    have h5 : ¬ m < ms.headD 0 := by omega
    show (decide (x ≤ m) && decide (m < ms.headD 0)) = false
    rw [decide_eq_false h5, Bool.and_false]
  rw [if_neg hne, anc_low h3, cnt_part hz]
  have := cnt_add (lv := siL (l ++ ms)) (show x ≤ ms.headD 0 by omega)
  omega
theorem tg_high {l ms : List Int} {x : Int} (hm : ms.Pairwise (· < ·)) (hne : ms ≠ []) (hx : x ∈ l) (h : ms.headD 0 ≤ x) : tgI (siL (l ++ ms)) ms x = ancI ms x + (siL (l.filter fun y => decide (ancI ms x < y) && decide (y ≤ x))).length := by
  have hd : ms.headD 0 ∈ ms := by cases ms with
    | nil => exact absurd rfl hne
    | cons a r => simp
  obtain ⟨a1, a2⟩ := anc_le hd h
  have hx' : x ∈ siL (l ++ ms) := mem_siL.mpr (List.mem_append_left _ hx)
  have ha' : ancI ms x ∈ siL (l ++ ms) := mem_siL.mpr (List.mem_append_right _ (anc_in hne x))
  unfold tgI
  rw [if_neg hne, cnt_part (ms := ms) fun m hm' => by
    have := a2 m hm'
    by_cases e : ancI ms x < m
    · have : ¬ m ≤ x := fun z => by have := this z; omega
      simp [this]
    · simp [e]]
  have e := cnt_add (lv := siL (l ++ ms)) (x := ancI ms x + 1) (y := x + 1) (by omega)
  rw [rk_succ asc_siL hx', rk_succ asc_siL ha'] at e
  have e2 : (siL (l ++ ms)).countP (fun z => decide (ancI ms x + 1 ≤ z) && decide (z < x + 1)) = (siL (l ++ ms)).countP fun y => decide (ancI ms x < y) && decide (y ≤ x) :=
    List.countP_congr fun z _ => by simp; omega
  rw [e2] at e
  omega
theorem tg_none {l : List Int} {x : Int} : tgI (siL (l ++ [])) [] x = (siL (l.filter fun y => decide (y < x))).length := by
  unfold tgI
  rw [if_pos rfl, List.append_nil, siL_filter, ← List.countP_eq_length_filter]
  rfl
theorem last_anc {ms : List Int} {x : Int} (hm : ms.Pairwise (· < ·)) (hne : ms ≠ []) (h : ms.headD 0 ≤ x) : atI ((ms.filter fun m => decide (m ≤ x)).map D.int) (-1) = some (.int (ancI ms x)) := by
  have hd : ms.headD 0 ∈ ms := by cases ms with
    | nil => exact absurd rfl hne
    | cons a r => simp
  obtain ⟨a1, a2⟩ := anc_le hd h
  have a3 := anc_in hne x
  have hq : (ms.filter fun m => decide (m ≤ x)).Pairwise (· < ·) := hm.filter _
  have hmem : ∀ m, m ∈ (ms.filter fun m => decide (m ≤ x)) ↔ m ∈ ms ∧ m ≤ x := fun m => by rw [List.mem_filter]; simp
  rcases List.eq_nil_or_concat (ms.filter fun m => decide (m ≤ x)) with e | ⟨q, z, e⟩
  · have := (hmem _).mpr ⟨a3, a1⟩
    rw [e] at this; cases this
  · rw [List.concat_eq_append] at e
    rw [e] at hq hmem ⊢
    have hz := (hmem z).mp (by simp)
    have h1 := a2 z hz.1 hz.2
    have h2 := (hmem _).mpr ⟨a3, a1⟩
    have h3 : ancI ms x = z := by
      rcases List.mem_append.mp h2 with h2 | h2
      · have := (List.pairwise_append.mp hq).2.2 _ h2 z (by simp)
        omega
      · exact List.mem_singleton.mp h2
    rw [List.map_append, h3]
    exact at_last
theorem insI_len : ∀ (m : List Int) (x : Int), (insI x m).length ≤ m.length + 1
  | [], x => by simp [insI]
  | y :: m, x => by
    have := insI_len m x
    unfold insI
    split
    · simp
    · split
      · simp
      · simp; omega
theorem siL_len : ∀ m : List Int, (siL m).length ≤ m.length
  | [] => by simp [siL]
  | y :: m => Nat.le_trans (insI_len (siL m) y) (by have := siL_len m; simpa using this)
theorem r_ltight {n : Nat} {ρ : List D} {l ms : List Int} {x : Int} (hx : x ∈ l) (hm : ms.Pairwise (· < ·)) (h1 : l.length < 64) (h2 : ms.length ≤ 1000) : run Tb (n + 1) 7 (fun _ => false) ρ [.int x, .lst (l.map .int), .tup (ms.map .int)] = .ok false (.int (tgI (siL (l ++ ms)) ms x)) ρ := by
  refine run_res 3 6 B__law_tight (o := .ret false (.int (tgI (siL (l ++ ms)) ms x)) ρ) rfl rfl rfl ?_ (fin_ret0 (by intro r h; cases h) rfl)
  have hl : (l.map D.int).length ≤ 100000 := by simp; omega
  have hl2 : (ms.map D.int).length ≤ 100000 := by simp; omega
  have hfl : ∀ p : Int → Bool, (l.filter p).length < 64 := fun p => Nat.lt_of_le_of_lt (List.length_filter_le ..) h1
  have hsl : ∀ p : Int → Bool, siQ (.lst ((l.filter p).map .int)) = some (.lst ((siL (l.filter p)).map .int)) := fun p => siQ_ints (hfl p)
  have ec : eqB ρ (.tup (ms.map .int)) (.tup []) = some (decide (ms = [])) := eqB_tupI (l := ms) (m := [])
  by_cases e0 : ms = []
  · subst e0
    have ec : eqB ρ (.tup []) (.tup []) = some true := by simpa using ec
    have hlc : lcL (nameG 4) (tb1 (bin2 ltD (varS 4) (varS 0))) (varS 4) ρ [some (.int x), some (.lst (l.map .int)), some (.tup []), none, none, none] (l.map .int) = .ok ((l.filter fun y => decide (y < x)).map .int) :=
      lc_filter _ fun y _ => ⟨[some (.int x), some (.lst (l.map .int)), some (.tup []), none, some (.int y), none], rfl, by walk_at "dd", fun _ => by walk_at "dd"⟩
    rw [tg_none]
    simp (disch := walk_at "ds") only [B__law_tight, ec, hlc, siS_ap, hsl, rep_0, rep_s, get_0, get_s, set_0, set_s, app_n, app_c, map_n, map_c, wipe_n, wipe_c, rb_ok, rb_exc, ofO_some, rd_some, varS_ap, conS_ap, nilA_ap, consA_ap, consR_ok, consR_exc, consR_exc0, items_ap, items_lst, items_tup, items_scr, starA_ap, starR_ok, tupS_ap, tupR_ok, lstS_ap, lstR_ok, andS_ap, andR_t, andR_f, orS_ap, orR_t, orR_f, notS_ap, testS_ap, truR_bl, truR_int, ifS_ap, ifR_t, ifR_f, andT_ap, andW_t, andW_f, orT_ap, orW_t, orW_f, notT_ap, yesT_ap, tb1_ap, blR_bl, bin2_ap, b2R_ok, un1_ap, callB_ap, cbR_ok, chainS_ap, noP_ap, someP_ap, intR_ok, slS_ap, slR_ok, slD_ap, slQ_lst, slQ_tup, methS_ap, meR_ok, callS_ap, calR_ok, cal1_ok, cal1_exc, lcS_ap, lcR_ok, lcQ_ok, lcL_nil, lcL_yes, lcY_ok, lcZ_ok, itI_ap, itR_lst, itR_scr, itR_tup, itR_str, rng1I_ap, rn1R_ok, rng3I_ap, rn3R_up, zipI_ap, zpR_lst, zpR_tup, nameG_ap, nilG_ap, consG_ap, cgR_ok, tupG_2, tupG_3, seqS_ap, sqR_nx, sqR_ret, sqR_exc, passS_ap, retS_ap, retF_ap, reR_ok, reR_exc, asgS_ap, asR_ok, asR_exc, agR_ok, ownS_ap, owR_ok, iffS_ap, ifO_t, ifO_f, ifO_exc, expS_ap, exR_ok, exR_exc, forS_ap, foR_ok, forL_nil, forL_cons, flA_ok, flB_nx, appS_ap, apR_last, raiS_ap, rai1S_ap, raR_int, tryS_ap, trR_nx, trR_ret, trR_exc, starS_ap, stR_1, dr_int, dr_str, dr_bl, dr_non, dr_tup, dr_lst, dr_scr, dr_wd, dr_exn, dr_lstR, addD_ap, addQ_int, addQ_str, addQ_lst, addQ_tup, subD_int, negD_int, mulD_int, mulD_lst, fdivD_int, modD_int, powD_int, ltD_int, leD_int, gtD_int, geD_int, isn_lst, isn_non, eqB_str, eqB_int, eqD_ap, neD_ap, inB_wd, inB_chr, inD_ap, ninD_ap, omap_some, look_n, look_c, ixD_ap, ixQ_lst, ixQ_tup, ixQ_scr, ixQ_wd, ixQ_str, at_0, at_m1, at_m1c, at_p, rg2S_ap, r2R_ok, rg1S_ap, r1R_ok, rgD_ok', cut_m1, cut_pos, cut_posf, drop_0, drop_s, take_0, take_s, take_n, dl_1, dl_c, flat_rep, eq_self, Int.cast_ofNat_Int, lenD_ap, lenQ_lst, lenQ_scr, lenQ_tup, lenQ_str, intC_int, strC_str, strC_int, listC_lst, listC_tup, tupleC_lst, tupleC_tup, joinM_ap, splitM_ok, ofString_inj, List.length_cons, List.length_nil, List.length_append, List.length_map, Int.reduceNeg, Int.reduceAdd, Int.reduceSub, Int.reduceMul, Int.reduceMod, Int.reducePow, Int.reduceDiv, Int.reduceLE, Int.reduceLT, Int.reduceEq, Int.reduceToNat, Nat.reduceAdd, Nat.reduceSub, Nat.reduceLeDiff, Nat.reduceEqDiff, String.reduceEq, decide_true, decide_false, Bool.not_true, Bool.not_false, Bool.and_true, Bool.true_and, Bool.and_false, Bool.false_and, Bool.or_true, Bool.or_false, Bool.true_or, Bool.false_or, Option.isSome_some, Option.isSome_none, if_true, if_false, Bool.false_eq_true, Int.reduceBNe]
  · have ec : eqB ρ (.tup (ms.map .int)) (.tup []) = some false := by rw [ec]; simp [e0]
    have hat : atI (ms.map D.int) 0 = some (.int (ms.headD 0)) := by
      cases ms with
      | nil => exact absurd rfl e0
      | cons a r => exact at_0
    by_cases h : x < ms.headD 0
    · have hlc : lcL (nameG 4) (andT (tb1 (bin2 leD (varS 0) (varS 4))) (tb1 (bin2 ltD (varS 4) (bin2 ixD (varS 2) (conS (.int 0)))))) (varS 4) ρ [some (.int x), some (.lst (l.map .int)), some (.tup (ms.map .int)), none, none, none] (l.map .int) = .ok ((l.filter fun y => decide (x ≤ y) && decide (y < ms.headD 0)).map .int) :=
        lc_filter _ fun y _ => ⟨[some (.int x), some (.lst (l.map .int)), some (.tup (ms.map .int)), none, some (.int y), none], rfl, by
          by_cases hh : x ≤ y
          · simp (disch := walk_at "ds") only [hh, hat, rep_0, rep_s, get_0, get_s, set_0, set_s, app_n, app_c, map_n, map_c, wipe_n, wipe_c, rb_ok, rb_exc, ofO_some, rd_some, varS_ap, conS_ap, nilA_ap, consA_ap, consR_ok, consR_exc, consR_exc0, items_ap, items_lst, items_tup, items_scr, starA_ap, starR_ok, tupS_ap, tupR_ok, lstS_ap, lstR_ok, andS_ap, andR_t, andR_f, orS_ap, orR_t, orR_f, notS_ap, testS_ap, truR_bl, truR_int, ifS_ap, ifR_t, ifR_f, andT_ap, andW_t, andW_f, orT_ap, orW_t, orW_f, notT_ap, yesT_ap, tb1_ap, blR_bl, bin2_ap, b2R_ok, un1_ap, callB_ap, cbR_ok, chainS_ap, noP_ap, someP_ap, intR_ok, slS_ap, slR_ok, slD_ap, slQ_lst, slQ_tup, methS_ap, meR_ok, callS_ap, calR_ok, cal1_ok, cal1_exc, lcS_ap, lcR_ok, lcQ_ok, lcL_nil, lcL_yes, lcY_ok, lcZ_ok, itI_ap, itR_lst, itR_scr, itR_tup, itR_str, rng1I_ap, rn1R_ok, rng3I_ap, rn3R_up, zipI_ap, zpR_lst, zpR_tup, nameG_ap, nilG_ap, consG_ap, cgR_ok, tupG_2, tupG_3, seqS_ap, sqR_nx, sqR_ret, sqR_exc, passS_ap, retS_ap, retF_ap, reR_ok, reR_exc, asgS_ap, asR_ok, asR_exc, agR_ok, ownS_ap, owR_ok, iffS_ap, ifO_t, ifO_f, ifO_exc, expS_ap, exR_ok, exR_exc, forS_ap, foR_ok, forL_nil, forL_cons, flA_ok, flB_nx, appS_ap, apR_last, raiS_ap, rai1S_ap, raR_int, tryS_ap, trR_nx, trR_ret, trR_exc, starS_ap, stR_1, dr_int, dr_str, dr_bl, dr_non, dr_tup, dr_lst, dr_scr, dr_wd, dr_exn, dr_lstR, addD_ap, addQ_int, addQ_str, addQ_lst, addQ_tup, subD_int, negD_int, mulD_int, mulD_lst, fdivD_int, modD_int, powD_int, ltD_int, leD_int, gtD_int, geD_int, isn_lst, isn_non, eqB_str, eqB_int, eqD_ap, neD_ap, inB_wd, inB_chr, inD_ap, ninD_ap, omap_some, look_n, look_c, ixD_ap, ixQ_lst, ixQ_tup, ixQ_scr, ixQ_wd, ixQ_str, at_0, at_m1, at_m1c, at_p, rg2S_ap, r2R_ok, rg1S_ap, r1R_ok, rgD_ok', cut_m1, cut_pos, cut_posf, drop_0, drop_s, take_0, take_s, take_n, dl_1, dl_c, flat_rep, eq_self, Int.cast_ofNat_Int, lenD_ap, lenQ_lst, lenQ_scr, lenQ_tup, lenQ_str, intC_int, strC_str, strC_int, listC_lst, listC_tup, tupleC_lst, tupleC_tup, joinM_ap, splitM_ok, ofString_inj, List.length_cons, List.length_nil, List.length_append, List.length_map, Int.reduceNeg, Int.reduceAdd, Int.reduceSub, Int.reduceMul, Int.reduceMod, Int.reducePow, Int.reduceDiv, Int.reduceLE, Int.reduceLT, Int.reduceEq, Int.reduceToNat, Nat.reduceAdd, Nat.reduceSub, Nat.reduceLeDiff, Nat.reduceEqDiff, String.reduceEq, decide_true, decide_false, Bool.not_true, Bool.not_false, Bool.and_true, Bool.true_and, Bool.and_false, Bool.false_and, Bool.or_true, Bool.or_false, Bool.true_or, Bool.false_or, Option.isSome_some, Option.isSome_none, if_true, if_false, Bool.false_eq_true, Int.reduceBNe]
          · simp (disch := walk_at "ds") only [hh, hat, rep_0, rep_s, get_0, get_s, set_0, set_s, app_n, app_c, map_n, map_c, wipe_n, wipe_c, rb_ok, rb_exc, ofO_some, rd_some, varS_ap, conS_ap, nilA_ap, consA_ap, consR_ok, consR_exc, consR_exc0, items_ap, items_lst, items_tup, items_scr, starA_ap, starR_ok, tupS_ap, tupR_ok, lstS_ap, lstR_ok, andS_ap, andR_t, andR_f, orS_ap, orR_t, orR_f, notS_ap, testS_ap, truR_bl, truR_int, ifS_ap, ifR_t, ifR_f, andT_ap, andW_t, andW_f, orT_ap, orW_t, orW_f, notT_ap, yesT_ap, tb1_ap, blR_bl, bin2_ap, b2R_ok, un1_ap, callB_ap, cbR_ok, chainS_ap, noP_ap, someP_ap, intR_ok, slS_ap, slR_ok, slD_ap, slQ_lst, slQ_tup, methS_ap, meR_ok, callS_ap, calR_ok, cal1_ok, cal1_exc, lcS_ap, lcR_ok, lcQ_ok, lcL_nil, lcL_yes, lcY_ok, lcZ_ok, itI_ap, itR_lst, itR_scr, itR_tup, itR_str, rng1I_ap, rn1R_ok, rng3I_ap, rn3R_up, zipI_ap, zpR_lst, zpR_tup, nameG_ap, nilG_ap, consG_ap, cgR_ok, tupG_2, tupG_3, seqS_ap, sqR_nx, sqR_ret, sqR_exc, passS_ap, retS_ap, retF_ap, reR_ok, reR_exc, asgS_ap, asR_ok, asR_exc, agR_ok, ownS_ap, owR_ok, iffS_ap, ifO_t, ifO_f, ifO_exc, expS_ap, exR_ok, exR_exc, forS_ap, foR_ok, forL_nil, forL_cons, flA_ok, flB_nx, appS_ap, apR_last, raiS_ap, rai1S_ap, raR_int, tryS_ap, trR_nx, trR_ret, trR_exc, starS_ap, stR_1, dr_int, dr_str, dr_bl, dr_non, dr_tup, dr_lst, dr_scr, dr_wd, dr_exn, dr_lstR, addD_ap, addQ_int, addQ_str, addQ_lst, addQ_tup, subD_int, negD_int, mulD_int, mulD_lst, fdivD_int, modD_int, powD_int, ltD_int, leD_int, gtD_int, geD_int, isn_lst, isn_non, eqB_str, eqB_int, eqD_ap, neD_ap, inB_wd, inB_chr, inD_ap, ninD_ap, omap_some, look_n, look_c, ixD_ap, ixQ_lst, ixQ_tup, ixQ_scr, ixQ_wd, ixQ_str, at_0, at_m1, at_m1c, at_p, rg2S_ap, r2R_ok, rg1S_ap, r1R_ok, rgD_ok', cut_m1, cut_pos, cut_posf, drop_0, drop_s, take_0, take_s, take_n, dl_1, dl_c, flat_rep, eq_self, Int.cast_ofNat_Int, lenD_ap, lenQ_lst, lenQ_scr, lenQ_tup, lenQ_str, intC_int, strC_str, strC_int, listC_lst, listC_tup, tupleC_lst, tupleC_tup, joinM_ap, splitM_ok, ofString_inj, List.length_cons, List.length_nil, List.length_append, List.length_map, Int.reduceNeg, Int.reduceAdd, Int.reduceSub, Int.reduceMul, Int.reduceMod, Int.reducePow, Int.reduceDiv, Int.reduceLE, Int.reduceLT, Int.reduceEq, Int.reduceToNat, Nat.reduceAdd, Nat.reduceSub, Nat.reduceLeDiff, Nat.reduceEqDiff, String.reduceEq, decide_true, decide_false, Bool.not_true, Bool.not_false, Bool.and_true, Bool.true_and, Bool.and_false, Bool.false_and, Bool.or_true, Bool.or_false, Bool.true_or, Bool.false_or, Option.isSome_some, Option.isSome_none, if_true, if_false, Bool.false_eq_true, Int.reduceBNe], fun _ => by walk_at "dd"⟩
      rw [tg_low hm e0 h]
      simp (disch := walk_at "ds") only [B__law_tight, ec, hat, h, hlc, siS_ap, hsl, rep_0, rep_s, get_0, get_s, set_0, set_s, app_n, app_c, map_n, map_c, wipe_n, wipe_c, rb_ok, rb_exc, ofO_some, rd_some, varS_ap, conS_ap, nilA_ap, consA_ap, consR_ok, consR_exc, consR_exc0, items_ap, items_lst, items_tup, items_scr, starA_ap, starR_ok, tupS_ap, tupR_ok, lstS_ap, lstR_ok, andS_ap, andR_t, andR_f, orS_ap, orR_t, orR_f, notS_ap, testS_ap, truR_bl, truR_int, ifS_ap, ifR_t, ifR_f, andT_ap, andW_t, andW_f, orT_ap, orW_t, orW_f, notT_ap, yesT_ap, tb1_ap, blR_bl, bin2_ap, b2R_ok, un1_ap, callB_ap, cbR_ok, chainS_ap, noP_ap, someP_ap, intR_ok, slS_ap, slR_ok, slD_ap, slQ_lst, slQ_tup, methS_ap, meR_ok, callS_ap, calR_ok, cal1_ok, cal1_exc, lcS_ap, lcR_ok, lcQ_ok, lcL_nil, lcL_yes, lcY_ok, lcZ_ok, itI_ap, itR_lst, itR_scr, itR_tup, itR_str, rng1I_ap, rn1R_ok, rng3I_ap, rn3R_up, zipI_ap, zpR_lst, zpR_tup, nameG_ap, nilG_ap, consG_ap, cgR_ok, tupG_2, tupG_3, seqS_ap, sqR_nx, sqR_ret, sqR_exc, passS_ap, retS_ap, retF_ap, reR_ok, reR_exc, asgS_ap, asR_ok, asR_exc, agR_ok, ownS_ap, owR_ok, iffS_ap, ifO_t, ifO_f, ifO_exc, expS_ap, exR_ok, exR_exc, forS_ap, foR_ok, forL_nil, forL_cons, flA_ok, flB_nx, appS_ap, apR_last, raiS_ap, rai1S_ap, raR_int, tryS_ap, trR_nx, trR_ret, trR_exc, starS_ap, stR_1, dr_int, dr_str, dr_bl, dr_non, dr_tup, dr_lst, dr_scr, dr_wd, dr_exn, dr_lstR, addD_ap, addQ_int, addQ_str, addQ_lst, addQ_tup, subD_int, negD_int, mulD_int, mulD_lst, fdivD_int, modD_int, powD_int, ltD_int, leD_int, gtD_int, geD_int, isn_lst, isn_non, eqB_str, eqB_int, eqD_ap, neD_ap, inB_wd, inB_chr, inD_ap, ninD_ap, omap_some, look_n, look_c, ixD_ap, ixQ_lst, ixQ_tup, ixQ_scr, ixQ_wd, ixQ_str, at_0, at_m1, at_m1c, at_p, rg2S_ap, r2R_ok, rg1S_ap, r1R_ok, rgD_ok', cut_m1, cut_pos, cut_posf, drop_0, drop_s, take_0, take_s, take_n, dl_1, dl_c, flat_rep, eq_self, Int.cast_ofNat_Int, lenD_ap, lenQ_lst, lenQ_scr, lenQ_tup, lenQ_str, intC_int, strC_str, strC_int, listC_lst, listC_tup, tupleC_lst, tupleC_tup, joinM_ap, splitM_ok, ofString_inj, List.length_cons, List.length_nil, List.length_append, List.length_map, Int.reduceNeg, Int.reduceAdd, Int.reduceSub, Int.reduceMul, Int.reduceMod, Int.reducePow, Int.reduceDiv, Int.reduceLE, Int.reduceLT, Int.reduceEq, Int.reduceToNat, Nat.reduceAdd, Nat.reduceSub, Nat.reduceLeDiff, Nat.reduceEqDiff, String.reduceEq, decide_true, decide_false, Bool.not_true, Bool.not_false, Bool.and_true, Bool.true_and, Bool.and_false, Bool.false_and, Bool.or_true, Bool.or_false, Bool.true_or, Bool.false_or, Option.isSome_some, Option.isSome_none, if_true, if_false, Bool.false_eq_true, Int.reduceBNe]
    · have hlc1 : lcL (nameG 5) (tb1 (bin2 leD (varS 5) (varS 0))) (varS 5) ρ [some (.int x), some (.lst (l.map .int)), some (.tup (ms.map .int)), none, none, none] (ms.map .int) = .ok ((ms.filter fun m => decide (m ≤ x)).map .int) :=
        lc_filter _ fun y _ => ⟨[some (.int x), some (.lst (l.map .int)), some (.tup (ms.map .int)), none, none, some (.int y)], rfl, by walk_at "dd", fun _ => by walk_at "dd"⟩
      have hlast := last_anc hm e0 (x := x) (by omega)
      have hlc : lcL (nameG 4) (andT (tb1 (bin2 ltD (varS 3) (varS 4))) (tb1 (bin2 leD (varS 4) (varS 0)))) (varS 4) ρ [some (.int x), some (.lst (l.map .int)), some (.tup (ms.map .int)), some (.int (ancI ms x)), none, none] (l.map .int) = .ok ((l.filter fun y => decide (ancI ms x < y) && decide (y ≤ x)).map .int) :=
        lc_filter _ fun y _ => ⟨[some (.int x), some (.lst (l.map .int)), some (.tup (ms.map .int)), some (.int (ancI ms x)), some (.int y), none], rfl, by
          by_cases hh : ancI ms x < y
          · simp (disch := walk_at "ds") only [hh, rep_0, rep_s, get_0, get_s, set_0, set_s, app_n, app_c, map_n, map_c, wipe_n, wipe_c, rb_ok, rb_exc, ofO_some, rd_some, varS_ap, conS_ap, nilA_ap, consA_ap, consR_ok, consR_exc, consR_exc0, items_ap, items_lst, items_tup, items_scr, starA_ap, starR_ok, tupS_ap, tupR_ok, lstS_ap, lstR_ok, andS_ap, andR_t, andR_f, orS_ap, orR_t, orR_f, notS_ap, testS_ap, truR_bl, truR_int, ifS_ap, ifR_t, ifR_f, andT_ap, andW_t, andW_f, orT_ap, orW_t, orW_f, notT_ap, yesT_ap, tb1_ap, blR_bl, bin2_ap, b2R_ok, un1_ap, callB_ap, cbR_ok, chainS_ap, noP_ap, someP_ap, intR_ok, slS_ap, slR_ok, slD_ap, slQ_lst, slQ_tup, methS_ap, meR_ok, callS_ap, calR_ok, cal1_ok, cal1_exc, lcS_ap, lcR_ok, lcQ_ok, lcL_nil, lcL_yes, lcY_ok, lcZ_ok, itI_ap, itR_lst, itR_scr, itR_tup, itR_str, rng1I_ap, rn1R_ok, rng3I_ap, rn3R_up, zipI_ap, zpR_lst, zpR_tup, nameG_ap, nilG_ap, consG_ap, cgR_ok, tupG_2, tupG_3, seqS_ap, sqR_nx, sqR_ret, sqR_exc, passS_ap, retS_ap, retF_ap, reR_ok, reR_exc, asgS_ap, asR_ok, asR_exc, agR_ok, ownS_ap, owR_ok, iffS_ap, ifO_t, ifO_f, ifO_exc, expS_ap, exR_ok, exR_exc, forS_ap, foR_ok, forL_nil, forL_cons, flA_ok, flB_nx, appS_ap, apR_last, raiS_ap, rai1S_ap, raR_int, tryS_ap, trR_nx, trR_ret, trR_exc, starS_ap, stR_1, dr_int, dr_str, dr_bl, dr_non, dr_tup, dr_lst, dr_scr, dr_wd, dr_exn, dr_lstR, addD_ap, addQ_int, addQ_str, addQ_lst, addQ_tup, subD_int, negD_int, mulD_int, mulD_lst, fdivD_int, modD_int, powD_int, ltD_int, leD_int, gtD_int, geD_int, isn_lst, isn_non, eqB_str, eqB_int, eqD_ap, neD_ap, inB_wd, inB_chr, inD_ap, ninD_ap, omap_some, look_n, look_c, ixD_ap, ixQ_lst, ixQ_tup, ixQ_scr, ixQ_wd, ixQ_str, at_0, at_m1, at_m1c, at_p, rg2S_ap, r2R_ok, rg1S_ap, r1R_ok, rgD_ok', cut_m1, cut_pos, cut_posf, drop_0, drop_s, take_0, take_s, take_n, dl_1, dl_c, flat_rep, eq_self, Int.cast_ofNat_Int, lenD_ap, lenQ_lst, lenQ_scr, lenQ_tup, lenQ_str, intC_int, strC_str, strC_int, listC_lst, listC_tup, tupleC_lst, tupleC_tup, joinM_ap, splitM_ok, ofString_inj, List.length_cons, List.length_nil, List.length_append, List.length_map, Int.reduceNeg, Int.reduceAdd, Int.reduceSub, Int.reduceMul, Int.reduceMod, Int.reducePow, Int.reduceDiv, Int.reduceLE, Int.reduceLT, Int.reduceEq, Int.reduceToNat, Nat.reduceAdd, Nat.reduceSub, Nat.reduceLeDiff, Nat.reduceEqDiff, String.reduceEq, decide_true, decide_false, Bool.not_true, Bool.not_false, Bool.and_true, Bool.true_and, Bool.and_false, Bool.false_and, Bool.or_true, Bool.or_false, Bool.true_or, Bool.false_or, Option.isSome_some, Option.isSome_none, if_true, if_false, Bool.false_eq_true, Int.reduceBNe]
          · simp (disch := walk_at "ds") only [hh, rep_0, rep_s, get_0, get_s, set_0, set_s, app_n, app_c, map_n, map_c, wipe_n, wipe_c, rb_ok, rb_exc, ofO_some, rd_some, varS_ap, conS_ap, nilA_ap, consA_ap, consR_ok, consR_exc, consR_exc0, items_ap, items_lst, items_tup, items_scr, starA_ap, starR_ok, tupS_ap, tupR_ok, lstS_ap, lstR_ok, andS_ap, andR_t, andR_f, orS_ap, orR_t, orR_f, notS_ap, testS_ap, truR_bl, truR_int, ifS_ap, ifR_t, ifR_f, andT_ap, andW_t, andW_f, orT_ap, orW_t, orW_f, notT_ap, yesT_ap, tb1_ap, blR_bl, bin2_ap, b2R_ok, un1_ap, callB_ap, cbR_ok, chainS_ap, noP_ap, someP_ap, intR_ok, slS_ap, slR_ok, slD_ap, slQ_lst, slQ_tup, methS_ap, meR_ok, callS_ap, calR_ok, cal1_ok, cal1_exc, lcS_ap, lcR_ok, lcQ_ok, lcL_nil, lcL_yes, lcY_ok, lcZ_ok, itI_ap, itR_lst, itR_scr, itR_tup, itR_str, rng1I_ap, rn1R_ok, rng3I_ap, rn3R_up, zipI_ap, zpR_lst, zpR_tup, nameG_ap, nilG_ap, consG_ap, cgR_ok, tupG_2, tupG_3, seqS_ap, sqR_nx, sqR_ret, sqR_exc, passS_ap, retS_ap, retF_ap, reR_ok, reR_exc, asgS_ap, asR_ok, asR_exc, agR_ok, ownS_ap, owR_ok, iffS_ap, ifO_t, ifO_f, ifO_exc, expS_ap, exR_ok, exR_exc, forS_ap, foR_ok, forL_nil, forL_cons, flA_ok, flB_nx, appS_ap, apR_last, raiS_ap, rai1S_ap, raR_int, tryS_ap, trR_nx, trR_ret, trR_exc, starS_ap, stR_1, dr_int, dr_str, dr_bl, dr_non, dr_tup, dr_lst, dr_scr, dr_wd, dr_exn, dr_lstR, addD_ap, addQ_int, addQ_str, addQ_lst, addQ_tup, subD_int, negD_int, mulD_int, mulD_lst, fdivD_int, modD_int, powD_int, ltD_int, leD_int, gtD_int, geD_int, isn_lst, isn_non, eqB_str, eqB_int, eqD_ap, neD_ap, inB_wd, inB_chr, inD_ap, ninD_ap, omap_some, look_n, look_c, ixD_ap, ixQ_lst, ixQ_tup, ixQ_scr, ixQ_wd, ixQ_str, at_0, at_m1, at_m1c, at_p, rg2S_ap, r2R_ok, rg1S_ap, r1R_ok, rgD_ok', cut_m1, cut_pos, cut_posf, drop_0, drop_s, take_0, take_s, take_n, dl_1, dl_c, flat_rep, eq_self, Int.cast_ofNat_Int, lenD_ap, lenQ_lst, lenQ_scr, lenQ_tup, lenQ_str, intC_int, strC_str, strC_int, listC_lst, listC_tup, tupleC_lst, tupleC_tup, joinM_ap, splitM_ok, ofString_inj, List.length_cons, List.length_nil, List.length_append, List.length_map, Int.reduceNeg, Int.reduceAdd, Int.reduceSub, Int.reduceMul, Int.reduceMod, Int.reducePow, Int.reduceDiv, Int.reduceLE, Int.reduceLT, Int.reduceEq, Int.reduceToNat, Nat.reduceAdd, Nat.reduceSub, Nat.reduceLeDiff, Nat.reduceEqDiff, String.reduceEq, decide_true, decide_false, Bool.not_true, Bool.not_false, Bool.and_true, Bool.true_and, Bool.and_false, Bool.false_and, Bool.or_true, Bool.or_false, Bool.true_or, Bool.false_or, Option.isSome_some, Option.isSome_none, if_true, if_false, Bool.false_eq_true, Int.reduceBNe], fun _ => by walk_at "dd"⟩
      rw [tg_high hm e0 hx (by omega)]
      simp (disch := walk_at "ds") only [B__law_tight, ec, hat, h, hlc1, hlast, hlc, siS_ap, hsl, rep_0, rep_s, get_0, get_s, set_0, set_s, app_n, app_c, map_n, map_c, wipe_n, wipe_c, rb_ok, rb_exc, ofO_some, rd_some, varS_ap, conS_ap, nilA_ap, consA_ap, consR_ok, consR_exc, consR_exc0, items_ap, items_lst, items_tup, items_scr, starA_ap, starR_ok, tupS_ap, tupR_ok, lstS_ap, lstR_ok, andS_ap, andR_t, andR_f, orS_ap, orR_t, orR_f, notS_ap, testS_ap, truR_bl, truR_int, ifS_ap, ifR_t, ifR_f, andT_ap, andW_t, andW_f, orT_ap, orW_t, orW_f, notT_ap, yesT_ap, tb1_ap, blR_bl, bin2_ap, b2R_ok, un1_ap, callB_ap, cbR_ok, chainS_ap, noP_ap, someP_ap, intR_ok, slS_ap, slR_ok, slD_ap, slQ_lst, slQ_tup, methS_ap, meR_ok, callS_ap, calR_ok, cal1_ok, cal1_exc, lcS_ap, lcR_ok, lcQ_ok, lcL_nil, lcL_yes, lcY_ok, lcZ_ok, itI_ap, itR_lst, itR_scr, itR_tup, itR_str, rng1I_ap, rn1R_ok, rng3I_ap, rn3R_up, zipI_ap, zpR_lst, zpR_tup, nameG_ap, nilG_ap, consG_ap, cgR_ok, tupG_2, tupG_3, seqS_ap, sqR_nx, sqR_ret, sqR_exc, passS_ap, retS_ap, retF_ap, reR_ok, reR_exc, asgS_ap, asR_ok, asR_exc, agR_ok, ownS_ap, owR_ok, iffS_ap, ifO_t, ifO_f, ifO_exc, expS_ap, exR_ok, exR_exc, forS_ap, foR_ok, forL_nil, forL_cons, flA_ok, flB_nx, appS_ap, apR_last, raiS_ap, rai1S_ap, raR_int, tryS_ap, trR_nx, trR_ret, trR_exc, starS_ap, stR_1, dr_int, dr_str, dr_bl, dr_non, dr_tup, dr_lst, dr_scr, dr_wd, dr_exn, dr_lstR, addD_ap, addQ_int, addQ_str, addQ_lst, addQ_tup, subD_int, negD_int, mulD_int, mulD_lst, fdivD_int, modD_int, powD_int, ltD_int, leD_int, gtD_int, geD_int, isn_lst, isn_non, eqB_str, eqB_int, eqD_ap, neD_ap, inB_wd, inB_chr, inD_ap, ninD_ap, omap_some, look_n, look_c, ixD_ap, ixQ_lst, ixQ_tup, ixQ_scr, ixQ_wd, ixQ_str, at_0, at_m1, at_m1c, at_p, rg2S_ap, r2R_ok, rg1S_ap, r1R_ok, rgD_ok', cut_m1, cut_pos, cut_posf, drop_0, drop_s, take_0, take_s, take_n, dl_1, dl_c, flat_rep, eq_self, Int.cast_ofNat_Int, lenD_ap, lenQ_lst, lenQ_scr, lenQ_tup, lenQ_str, intC_int, strC_str, strC_int, listC_lst, listC_tup, tupleC_lst, tupleC_tup, joinM_ap, splitM_ok, ofString_inj, List.length_cons, List.length_nil, List.length_append, List.length_map, Int.reduceNeg, Int.reduceAdd, Int.reduceSub, Int.reduceMul, Int.reduceMod, Int.reducePow, Int.reduceDiv, Int.reduceLE, Int.reduceLT, Int.reduceEq, Int.reduceToNat, Nat.reduceAdd, Nat.reduceSub, Nat.reduceLeDiff, Nat.reduceEqDiff, String.reduceEq, decide_true, decide_false, Bool.not_true, Bool.not_false, Bool.and_true, Bool.true_and, Bool.and_false, Bool.false_and, Bool.or_true, Bool.or_false, Bool.true_or, Bool.false_or, Option.isSome_some, Option.isSome_none, if_true, if_false, Bool.false_eq_true, Int.reduceBNe]
theorem r_whole {n : Nat} {ρ : List D} {x : Int} : run Tb (n + 1) 8 (fun _ => false) ρ [.int x] = .ok false (.bl true) ρ := by
  refine run_res 1 1 B__law_whole (o := .ret false (.bl true) ρ) rfl rfl rfl ?_ (fin_ret0 (by intro r h; cases h) rfl)
  have e1 : isiC iscz ρ [.int x, .ty .int] = some (.bl true) := rfl
  have e2 : isiC iscz ρ [.int x, .ty .bool] = some (.bl false) := rfl
  simp (disch := walk_at "ds") only [B__law_whole, e1, e2, rep_0, rep_s, get_0, get_s, set_0, set_s, app_n, app_c, map_n, map_c, wipe_n, wipe_c, rb_ok, rb_exc, ofO_some, rd_some, varS_ap, conS_ap, nilA_ap, consA_ap, consR_ok, consR_exc, consR_exc0, items_ap, items_lst, items_tup, items_scr, starA_ap, starR_ok, tupS_ap, tupR_ok, lstS_ap, lstR_ok, andS_ap, andR_t, andR_f, orS_ap, orR_t, orR_f, notS_ap, testS_ap, truR_bl, truR_int, ifS_ap, ifR_t, ifR_f, andT_ap, andW_t, andW_f, orT_ap, orW_t, orW_f, notT_ap, yesT_ap, tb1_ap, blR_bl, bin2_ap, b2R_ok, un1_ap, callB_ap, cbR_ok, chainS_ap, noP_ap, someP_ap, intR_ok, slS_ap, slR_ok, slD_ap, slQ_lst, slQ_tup, methS_ap, meR_ok, callS_ap, calR_ok, cal1_ok, cal1_exc, lcS_ap, lcR_ok, lcQ_ok, lcL_nil, lcL_yes, lcY_ok, lcZ_ok, itI_ap, itR_lst, itR_scr, itR_tup, itR_str, rng1I_ap, rn1R_ok, rng3I_ap, rn3R_up, zipI_ap, zpR_lst, zpR_tup, nameG_ap, nilG_ap, consG_ap, cgR_ok, tupG_2, tupG_3, seqS_ap, sqR_nx, sqR_ret, sqR_exc, passS_ap, retS_ap, retF_ap, reR_ok, reR_exc, asgS_ap, asR_ok, asR_exc, agR_ok, ownS_ap, owR_ok, iffS_ap, ifO_t, ifO_f, ifO_exc, expS_ap, exR_ok, exR_exc, forS_ap, foR_ok, forL_nil, forL_cons, flA_ok, flB_nx, appS_ap, apR_last, raiS_ap, rai1S_ap, raR_int, tryS_ap, trR_nx, trR_ret, trR_exc, starS_ap, stR_1, dr_int, dr_str, dr_bl, dr_non, dr_tup, dr_lst, dr_scr, dr_wd, dr_exn, dr_lstR, addD_ap, addQ_int, addQ_str, addQ_lst, addQ_tup, subD_int, negD_int, mulD_int, mulD_lst, fdivD_int, modD_int, powD_int, ltD_int, leD_int, gtD_int, geD_int, isn_lst, isn_non, eqB_str, eqB_int, eqD_ap, neD_ap, inB_wd, inB_chr, inD_ap, ninD_ap, omap_some, look_n, look_c, ixD_ap, ixQ_lst, ixQ_tup, ixQ_scr, ixQ_wd, ixQ_str, at_0, at_m1, at_m1c, at_p, rg2S_ap, r2R_ok, rg1S_ap, r1R_ok, rgD_ok', cut_m1, cut_pos, cut_posf, drop_0, drop_s, take_0, take_s, take_n, dl_1, dl_c, flat_rep, eq_self, Int.cast_ofNat_Int, lenD_ap, lenQ_lst, lenQ_scr, lenQ_tup, lenQ_str, intC_int, strC_str, strC_int, listC_lst, listC_tup, tupleC_lst, tupleC_tup, joinM_ap, splitM_ok, ofString_inj, List.length_cons, List.length_nil, List.length_append, List.length_map, Int.reduceNeg, Int.reduceAdd, Int.reduceSub, Int.reduceMul, Int.reduceMod, Int.reducePow, Int.reduceDiv, Int.reduceLE, Int.reduceLT, Int.reduceEq, Int.reduceToNat, Nat.reduceAdd, Nat.reduceSub, Nat.reduceLeDiff, Nat.reduceEqDiff, String.reduceEq, decide_true, decide_false, Bool.not_true, Bool.not_false, Bool.and_true, Bool.true_and, Bool.and_false, Bool.false_and, Bool.or_true, Bool.or_false, Bool.true_or, Bool.false_or, Option.isSome_some, Option.isSome_none, if_true, if_false, Bool.false_eq_true, Int.reduceBNe]
theorem r_refused {n : Nat} {ρ : List D} {a d : D} {ms : List Int} (hd : IsS d ms) (hl : ms.length ≤ 1000) (hm : badM ms = true) : run Tb (n + 3) 10 (fun _ => false) ρ [a, d] = .ok false (.bl true) ρ := by
  have e1 := r_tight_bad (n := n) (ρ := ρ) (a := a) hd hl hm
  have e2 : isxC isez subz ρ [.exn 2 [], .cl 2] = some (.bl true) := rfl
  have e4 : isxC isez subz ρ [.exn 2 [], .ty .verr] = some (.bl true) := rfl
  have e3 : handleS isez subz [(3, none, retS (conS (.bl false))), (1, some 2, retS (andS (callB (isxC isez subz) (consA (varS 2) (consA (conS (.cl 2)) nilA))) (callB (isxC isez subz) (consA (varS 2) (consA (conS (.ty .verr)) nilA)))))] 2 [] ρ [some a, some d, none] = .ret false (.bl true) ρ := by
    simp only [handleS]
    rw [if_pos ⟨rfl, rfl⟩, if_neg (by decide), if_pos ⟨rfl, rfl⟩, if_pos (by decide)]
    have : retS (andS (callB (isxC isez subz) (consA (varS 2) (consA (conS (.cl 2)) nilA))) (callB (isxC isez subz) (consA (varS 2) (consA (conS (.ty .verr)) nilA)))) (fun _ => false) ρ ([some a, some d, none].set 2 (some (.exn 2 []))) = .ret false (.bl true) ρ := by
      simp (disch := walk_at "ds") only [e2, e4, rep_0, rep_s, get_0, get_s, set_0, set_s, app_n, app_c, map_n, map_c, wipe_n, wipe_c, rb_ok, rb_exc, ofO_some, rd_some, varS_ap, conS_ap, nilA_ap, consA_ap, consR_ok, consR_exc, consR_exc0, items_ap, items_lst, items_tup, items_scr, starA_ap, starR_ok, tupS_ap, tupR_ok, lstS_ap, lstR_ok, andS_ap, andR_t, andR_f, orS_ap, orR_t, orR_f, notS_ap, testS_ap, truR_bl, truR_int, ifS_ap, ifR_t, ifR_f, andT_ap, andW_t, andW_f, orT_ap, orW_t, orW_f, notT_ap, yesT_ap, tb1_ap, blR_bl, bin2_ap, b2R_ok, un1_ap, callB_ap, cbR_ok, chainS_ap, noP_ap, someP_ap, intR_ok, slS_ap, slR_ok, slD_ap, slQ_lst, slQ_tup, methS_ap, meR_ok, callS_ap, calR_ok, cal1_ok, cal1_exc, lcS_ap, lcR_ok, lcQ_ok, lcL_nil, lcL_yes, lcY_ok, lcZ_ok, itI_ap, itR_lst, itR_scr, itR_tup, itR_str, rng1I_ap, rn1R_ok, rng3I_ap, rn3R_up, zipI_ap, zpR_lst, zpR_tup, nameG_ap, nilG_ap, consG_ap, cgR_ok, tupG_2, tupG_3, seqS_ap, sqR_nx, sqR_ret, sqR_exc, passS_ap, retS_ap, retF_ap, reR_ok, reR_exc, asgS_ap, asR_ok, asR_exc, agR_ok, ownS_ap, owR_ok, iffS_ap, ifO_t, ifO_f, ifO_exc, expS_ap, exR_ok, exR_exc, forS_ap, foR_ok, forL_nil, forL_cons, flA_ok, flB_nx, appS_ap, apR_last, raiS_ap, rai1S_ap, raR_int, tryS_ap, trR_nx, trR_ret, trR_exc, starS_ap, stR_1, dr_int, dr_str, dr_bl, dr_non, dr_tup, dr_lst, dr_scr, dr_wd, dr_exn, dr_lstR, addD_ap, addQ_int, addQ_str, addQ_lst, addQ_tup, subD_int, negD_int, mulD_int, mulD_lst, fdivD_int, modD_int, powD_int, ltD_int, leD_int, gtD_int, geD_int, isn_lst, isn_non, eqB_str, eqB_int, eqD_ap, neD_ap, inB_wd, inB_chr, inD_ap, ninD_ap, omap_some, look_n, look_c, ixD_ap, ixQ_lst, ixQ_tup, ixQ_scr, ixQ_wd, ixQ_str, at_0, at_m1, at_m1c, at_p, rg2S_ap, r2R_ok, rg1S_ap, r1R_ok, rgD_ok', cut_m1, cut_pos, cut_posf, drop_0, drop_s, take_0, take_s, take_n, dl_1, dl_c, flat_rep, eq_self, Int.cast_ofNat_Int, lenD_ap, lenQ_lst, lenQ_scr, lenQ_tup, lenQ_str, intC_int, strC_str, strC_int, listC_lst, listC_tup, tupleC_lst, tupleC_tup, joinM_ap, splitM_ok, ofString_inj, List.length_cons, List.length_nil, List.length_append, List.length_map, Int.reduceNeg, Int.reduceAdd, Int.reduceSub, Int.reduceMul, Int.reduceMod, Int.reducePow, Int.reduceDiv, Int.reduceLE, Int.reduceLT, Int.reduceEq, Int.reduceToNat, Nat.reduceAdd, Nat.reduceSub, Nat.reduceLeDiff, Nat.reduceEqDiff, String.reduceEq, decide_true, decide_false, Bool.not_true, Bool.not_false, Bool.and_true, Bool.true_and, Bool.and_false, Bool.false_and, Bool.or_true, Bool.or_false, Bool.true_or, Bool.false_or, Option.isSome_some, Option.isSome_none, if_true, if_false, Bool.false_eq_true, Int.reduceBNe]
    rw [this]
    simp [suiteOut, noX]
  refine run_res 2 3 B__law_refused (o := .ret false (.bl true) ρ) rfl rfl rfl ?_ (fin_ret0 (by intro r h; cases h) rfl)
  simp (disch := walk_at "ds") only [B__law_refused, e1, e3, rep_0, rep_s, get_0, get_s, set_0, set_s, app_n, app_c, map_n, map_c, wipe_n, wipe_c, rb_ok, rb_exc, ofO_some, rd_some, varS_ap, conS_ap, nilA_ap, consA_ap, consR_ok, consR_exc, consR_exc0, items_ap, items_lst, items_tup, items_scr, starA_ap, starR_ok, tupS_ap, tupR_ok, lstS_ap, lstR_ok, andS_ap, andR_t, andR_f, orS_ap, orR_t, orR_f, notS_ap, testS_ap, truR_bl, truR_int, ifS_ap, ifR_t, ifR_f, andT_ap, andW_t, andW_f, orT_ap, orW_t, orW_f, notT_ap, yesT_ap, tb1_ap, blR_bl, bin2_ap, b2R_ok, un1_ap, callB_ap, cbR_ok, chainS_ap, noP_ap, someP_ap, intR_ok, slS_ap, slR_ok, slD_ap, slQ_lst, slQ_tup, methS_ap, meR_ok, callS_ap, calR_ok, cal1_ok, cal1_exc, lcS_ap, lcR_ok, lcQ_ok, lcL_nil, lcL_yes, lcY_ok, lcZ_ok, itI_ap, itR_lst, itR_scr, itR_tup, itR_str, rng1I_ap, rn1R_ok, rng3I_ap, rn3R_up, zipI_ap, zpR_lst, zpR_tup, nameG_ap, nilG_ap, consG_ap, cgR_ok, tupG_2, tupG_3, seqS_ap, sqR_nx, sqR_ret, sqR_exc, passS_ap, retS_ap, retF_ap, reR_ok, reR_exc, asgS_ap, asR_ok, asR_exc, agR_ok, ownS_ap, owR_ok, iffS_ap, ifO_t, ifO_f, ifO_exc, expS_ap, exR_ok, exR_exc, forS_ap, foR_ok, forL_nil, forL_cons, flA_ok, flB_nx, appS_ap, apR_last, raiS_ap, rai1S_ap, raR_int, tryS_ap, trR_nx, trR_ret, trR_exc, starS_ap, stR_1, dr_int, dr_str, dr_bl, dr_non, dr_tup, dr_lst, dr_scr, dr_wd, dr_exn, dr_lstR, addD_ap, addQ_int, addQ_str, addQ_lst, addQ_tup, subD_int, negD_int, mulD_int, mulD_lst, fdivD_int, modD_int, powD_int, ltD_int, leD_int, gtD_int, geD_int, isn_lst, isn_non, eqB_str, eqB_int, eqD_ap, neD_ap, inB_wd, inB_chr, inD_ap, ninD_ap, omap_some, look_n, look_c, ixD_ap, ixQ_lst, ixQ_tup, ixQ_scr, ixQ_wd, ixQ_str, at_0, at_m1, at_m1c, at_p, rg2S_ap, r2R_ok, rg1S_ap, r1R_ok, rgD_ok', cut_m1, cut_pos, cut_posf, drop_0, drop_s, take_0, take_s, take_n, dl_1, dl_c, flat_rep, eq_self, Int.cast_ofNat_Int, lenD_ap, lenQ_lst, lenQ_scr, lenQ_tup, lenQ_str, intC_int, strC_str, strC_int, listC_lst, listC_tup, tupleC_lst, tupleC_tup, joinM_ap, splitM_ok, ofString_inj, List.length_cons, List.length_nil, List.length_append, List.length_map, Int.reduceNeg, Int.reduceAdd, Int.reduceSub, Int.reduceMul, Int.reduceMod, Int.reducePow, Int.reduceDiv, Int.reduceLE, Int.reduceLT, Int.reduceEq, Int.reduceToNat, Nat.reduceAdd, Nat.reduceSub, Nat.reduceLeDiff, Nat.reduceEqDiff, String.reduceEq, decide_true, decide_false, Bool.not_true, Bool.not_false, Bool.and_true, Bool.true_and, Bool.and_false, Bool.false_and, Bool.or_true, Bool.or_false, Bool.true_or, Bool.false_or, Option.isSome_some, Option.isSome_none, if_true, if_false, Bool.false_eq_true, Int.reduceBNe]
theorem badM_at : ∀ (a : List Int) {x y : Int} {b : List Int}, y ≤ x → badM (a ++ x :: y :: b) = true
  | [], x, y, b, h => by unfold badM; simp [h]
  | [z], x, y, b, h => by unfold badM; simp [h]
  | z :: w :: a, x, y, b, h => by
    have := badM_at (w :: a) (b := b) h
    unfold badM at this ⊢
    simp only [List.cons_append, List.tail_cons, List.zip_cons_cons, List.any_cons] at this ⊢
    rw [this, Bool.or_true]

theorem tg_again {l ms : List Int} (hm : ms.Pairwise (· < ·)) : tgL (tgL l ms) ms = tgL l ms := by
  have h := tgL_like (one := l) (two := tgL l ms) hm
  rw [like_tg hm, decide_eq_true_eq] at h
  exact h.symm
def tiI (cl : Orc) : SF := iffS (tb1 (bin2 neD (callS cl 9 [] (consA (bin2 ixD (varS 4) (varS 5)) (consA (bin2 ixD (varS 4) (varS 6)) nilA))) (callS cl 9 [] (consA (bin2 ixD (varS 2) (varS 5)) (consA (bin2 ixD (varS 2) (varS 6)) nilA))))) (retS (conS (.bl false))) passS
def tiJ (cl : Orc) : SF := iffS (tb1 (bin2 neD (callS cl 9 [] (consA (bin2 ixD (varS 4) (varS 5)) (consA (varS 7) nilA))) (callS cl 9 [] (consA (bin2 ixD (varS 2) (varS 5)) (consA (varS 7) nilA))))) (retS (conS (.bl false))) passS
def tiO (cl : Orc) : SF := seqS (iffS (orT (notT (testS (callS cl 8 [] (consA (bin2 ixD (varS 4) (varS 5)) nilA)))) (tb1 (bin2 neD (bin2 ixD (varS 4) (varS 5)) (callS cl 7 [] (consA (bin2 ixD (varS 2) (varS 5)) (consA (varS 2) (consA (varS 3) nilA))))))) (retS (conS (.bl false))) passS)
    (seqS (forS (rng1I (callB lenD (consA (varS 2) nilA))) (nameG 6) (tiI cl))
    (forS (itI (varS 3)) (nameG 7) (tiJ cl)))
def tiL (cl : Orc) : SF := forS (rng1I (callB lenD (consA (varS 2) nilA))) (nameG 5) (tiO cl)
theorem tg_getD {l ms : List Int} {i : Nat} (h : i < l.length) : (tgL l ms).getD i 0 = tgI (siL (l ++ ms)) ms (l.getD i 0) := by
  unfold tgL
  rw [List.getD_eq_getElem?_getD, List.getD_eq_getElem?_getD, List.getElem?_map, List.getElem?_eq_getElem h]
  rfl
theorem loop_ok {n : Nat} {ns : List Int} {ds : List D} {l ms : List Int} {mu : Nat → Bool} (hl : l.length ≤ 60) (hl2 : ms.length ≤ 60) (hm : ms.Pairwise (· < ·)) :
    ∃ o5 o6 o7, tiL (run Tb (n + 1)) mu [] [some (.scr (ns.map .int)), some (.lst ds), some (.lst (l.map .int)), some (.tup (ms.map .int)), some (.tup ((tgL l ms).map .int)), none, none, none, none, none, none, none, none] = .nx [] [some (.scr (ns.map .int)), some (.lst ds), some (.lst (l.map .int)), some (.tup (ms.map .int)), some (.tup ((tgL l ms).map .int)), o5, o6, o7, none, none, none, none, none] := by
  have g1 : (l.map D.int).length = l.length := List.length_map _
  have lt : (tgL l ms).length = l.length := by unfold tgL; simp
  have hrn : rn1R [] (.ok (.int (l.length : Int))) = .ok (rngL 0 l.length, []) := by rw [rn1R_ok (by omega) (by omega), Int.toNat_natCast]
  have hmem : ∀ i, i < l.length → l.getD i 0 ∈ l := fun i hi => by
    rw [List.getD_eq_getElem?_getD, List.getElem?_eq_getElem hi]; exact List.getElem_mem hi
  have hs : ∀ m ∈ ms, m ∈ siL (l ++ ms) := fun m h => mem_siL.mpr (List.mem_append_right _ h)
  have hs2 : ∀ i, i < l.length → l.getD i 0 ∈ siL (l ++ ms) := fun i h => mem_siL.mpr (List.mem_append_left _ (hmem i h))
  have hat : ∀ i, i < l.length → atI ((tgL l ms).map D.int) (0 + (i : Int)) = some (.int (tgI (siL (l ++ ms)) ms (l.getD i 0))) := fun i hi => by rw [at_getD (by rw [lt]; exact hi), tg_getD hi]
  generalize hin : tiI (run Tb (n + 1)) = in1
  generalize hin2 : tiJ (run Tb (n + 1)) = in2
  have inner1 : ∀ (mu : Nat → Bool) (i : Nat) (o6 o7 : Option D), i < l.length → ∃ o, forL (nameG 6) in1 mu (rngL 0 l.length) [] [some (.scr (ns.map .int)), some (.lst ds), some (.lst (l.map .int)), some (.tup (ms.map .int)), some (.tup ((tgL l ms).map .int)), some (.int (0 + (i : Int))), o6, o7, none, none, none, none, none] = .nx [] [some (.scr (ns.map .int)), some (.lst ds), some (.lst (l.map .int)), some (.tup (ms.map .int)), some (.tup ((tgL l ms).map .int)), some (.int (0 + (i : Int))), o, o7, none, none, none, none, none] := by
    intro mu i o6 o7 hi
    obtain ⟨ρ', σ', e, o, rfl, rfl⟩ := forL_at (g := nameG 6) (body := in1) (mu := mu) (ρ := []) (l := rngL 0 l.length) (σ := [some (.scr (ns.map .int)), some (.lst ds), some (.lst (l.map .int)), some (.tup (ms.map .int)), some (.tup ((tgL l ms).map .int)), some (.int (0 + (i : Int))), o6, o7, none, none, none, none, none])
      (fun _ ρ σ => ∃ o, ρ = [] ∧ σ = [some (.scr (ns.map .int)), some (.lst ds), some (.lst (l.map .int)), some (.tup (ms.map .int)), some (.tup ((tgL l ms).map .int)), some (.int (0 + (i : Int))), o, o7, none, none, none, none, none]) ⟨_, rfl, rfl⟩ (by
        rintro j d ρ σ hd ⟨o, rfl, rfl⟩
        obtain ⟨rfl, hj⟩ := rng_get hd
        refine ⟨_, [], [some (.scr (ns.map .int)), some (.lst ds), some (.lst (l.map .int)), some (.tup (ms.map .int)), some (.tup ((tgL l ms).map .int)), some (.int (0 + (i : Int))), some (.int (0 + (j : Int))), o7, none, none, none, none, none], nameG_ap, ?_, _, rfl, rfl⟩
        rw [← hin]
        have hq := tg_sg asc_siL hm hs (hs2 i hi) (hs2 j hj)
        simp (disch := walk_at "ds") only [tiI, hat i hi, hat j hj, at_getD hi, at_getD hj, r_sign, hq, rep_0, rep_s, get_0, get_s, set_0, set_s, app_n, app_c, map_n, map_c, wipe_n, wipe_c, rb_ok, rb_exc, ofO_some, rd_some, varS_ap, conS_ap, nilA_ap, consA_ap, consR_ok, consR_exc, consR_exc0, items_ap, items_lst, items_tup, items_scr, starA_ap, starR_ok, tupS_ap, tupR_ok, lstS_ap, lstR_ok, andS_ap, andR_t, andR_f, orS_ap, orR_t, orR_f, notS_ap, testS_ap, truR_bl, truR_int, ifS_ap, ifR_t, ifR_f, andT_ap, andW_t, andW_f, orT_ap, orW_t, orW_f, notT_ap, yesT_ap, tb1_ap, blR_bl, bin2_ap, b2R_ok, un1_ap, callB_ap, cbR_ok, chainS_ap, noP_ap, someP_ap, intR_ok, slS_ap, slR_ok, slD_ap, slQ_lst, slQ_tup, methS_ap, meR_ok, callS_ap, calR_ok, cal1_ok, cal1_exc, lcS_ap, lcR_ok, lcQ_ok, lcL_nil, lcL_yes, lcY_ok, lcZ_ok, itI_ap, itR_lst, itR_scr, itR_tup, itR_str, rng1I_ap, rn1R_ok, rng3I_ap, rn3R_up, zipI_ap, zpR_lst, zpR_tup, nameG_ap, nilG_ap, consG_ap, cgR_ok, tupG_2, tupG_3, seqS_ap, sqR_nx, sqR_ret, sqR_exc, passS_ap, retS_ap, retF_ap, reR_ok, reR_exc, asgS_ap, asR_ok, asR_exc, agR_ok, ownS_ap, owR_ok, iffS_ap, ifO_t, ifO_f, ifO_exc, expS_ap, exR_ok, exR_exc, forS_ap, foR_ok, forL_nil, forL_cons, flA_ok, flB_nx, appS_ap, apR_last, raiS_ap, rai1S_ap, raR_int, tryS_ap, trR_nx, trR_ret, trR_exc, starS_ap, stR_1, dr_int, dr_str, dr_bl, dr_non, dr_tup, dr_lst, dr_scr, dr_wd, dr_exn, dr_lstR, addD_ap, addQ_int, addQ_str, addQ_lst, addQ_tup, subD_int, negD_int, mulD_int, mulD_lst, fdivD_int, modD_int, powD_int, ltD_int, leD_int, gtD_int, geD_int, isn_lst, isn_non, eqB_str, eqB_int, eqD_ap, neD_ap, inB_wd, inB_chr, inD_ap, ninD_ap, omap_some, look_n, look_c, ixD_ap, ixQ_lst, ixQ_tup, ixQ_scr, ixQ_wd, ixQ_str, at_0, at_m1, at_m1c, at_p, rg2S_ap, r2R_ok, rg1S_ap, r1R_ok, rgD_ok', cut_m1, cut_pos, cut_posf, drop_0, drop_s, take_0, take_s, take_n, dl_1, dl_c, flat_rep, eq_self, Int.cast_ofNat_Int, lenD_ap, lenQ_lst, lenQ_scr, lenQ_tup, lenQ_str, intC_int, strC_str, strC_int, listC_lst, listC_tup, tupleC_lst, tupleC_tup, joinM_ap, splitM_ok, ofString_inj, List.length_cons, List.length_nil, List.length_append, List.length_map, Int.reduceNeg, Int.reduceAdd, Int.reduceSub, Int.reduceMul, Int.reduceMod, Int.reducePow, Int.reduceDiv, Int.reduceLE, Int.reduceLT, Int.reduceEq, Int.reduceToNat, Nat.reduceAdd, Nat.reduceSub, Nat.reduceLeDiff, Nat.reduceEqDiff, String.reduceEq, decide_true, decide_false, Bool.not_true, Bool.not_false, Bool.and_true, Bool.true_and, Bool.and_false, Bool.false_and, Bool.or_true, Bool.or_false, Bool.true_or, Bool.false_or, Option.isSome_some, Option.isSome_none, if_true, if_false, Bool.false_eq_true, Int.reduceBNe])
    exact ⟨o, e⟩
  have inner2 : ∀ (mu : Nat → Bool) (i : Nat) (o6 o7 : Option D), i < l.length → ∃ o, forL (nameG 7) in2 mu (ms.map .int) [] [some (.scr (ns.map .int)), some (.lst ds), some (.lst (l.map .int)), some (.tup (ms.map .int)), some (.tup ((tgL l ms).map .int)), some (.int (0 + (i : Int))), o6, o7, none, none, none, none, none] = .nx [] [some (.scr (ns.map .int)), some (.lst ds), some (.lst (l.map .int)), some (.tup (ms.map .int)), some (.tup ((tgL l ms).map .int)), some (.int (0 + (i : Int))), o6, o, none, none, none, none, none] := by
    intro mu i o6 o7 hi
    obtain ⟨ρ', σ', e, o, rfl, rfl⟩ := forL_at (g := nameG 7) (body := in2) (mu := mu) (ρ := []) (l := ms.map .int) (σ := [some (.scr (ns.map .int)), some (.lst ds), some (.lst (l.map .int)), some (.tup (ms.map .int)), some (.tup ((tgL l ms).map .int)), some (.int (0 + (i : Int))), o6, o7, none, none, none, none, none])
      (fun _ ρ σ => ∃ o, ρ = [] ∧ σ = [some (.scr (ns.map .int)), some (.lst ds), some (.lst (l.map .int)), some (.tup (ms.map .int)), some (.tup ((tgL l ms).map .int)), some (.int (0 + (i : Int))), o6, o, none, none, none, none, none]) ⟨_, rfl, rfl⟩ (by
        rintro j d ρ σ hd ⟨o, rfl, rfl⟩
        rw [List.getElem?_map] at hd
        obtain ⟨m, hmm, rfl⟩ := Option.map_eq_some_iff.mp hd
        refine ⟨_, [], [some (.scr (ns.map .int)), some (.lst ds), some (.lst (l.map .int)), some (.tup (ms.map .int)), some (.tup ((tgL l ms).map .int)), some (.int (0 + (i : Int))), o6, some (.int m), none, none, none, none, none], nameG_ap, ?_, _, rfl, rfl⟩
        rw [← hin2]
        have hq := tg_sg asc_siL hm hs (hs2 i hi) (hs m (List.mem_of_getElem? hmm))
        rw [tg_mark hm (List.mem_of_getElem? hmm)] at hq
        simp (disch := walk_at "ds") only [tiJ, hat i hi, at_getD hi, r_sign, hq, rep_0, rep_s, get_0, get_s, set_0, set_s, app_n, app_c, map_n, map_c, wipe_n, wipe_c, rb_ok, rb_exc, ofO_some, rd_some, varS_ap, conS_ap, nilA_ap, consA_ap, consR_ok, consR_exc, consR_exc0, items_ap, items_lst, items_tup, items_scr, starA_ap, starR_ok, tupS_ap, tupR_ok, lstS_ap, lstR_ok, andS_ap, andR_t, andR_f, orS_ap, orR_t, orR_f, notS_ap, testS_ap, truR_bl, truR_int, ifS_ap, ifR_t, ifR_f, andT_ap, andW_t, andW_f, orT_ap, orW_t, orW_f, notT_ap, yesT_ap, tb1_ap, blR_bl, bin2_ap, b2R_ok, un1_ap, callB_ap, cbR_ok, chainS_ap, noP_ap, someP_ap, intR_ok, slS_ap, slR_ok, slD_ap, slQ_lst, slQ_tup, methS_ap, meR_ok, callS_ap, calR_ok, cal1_ok, cal1_exc, lcS_ap, lcR_ok, lcQ_ok, lcL_nil, lcL_yes, lcY_ok, lcZ_ok, itI_ap, itR_lst, itR_scr, itR_tup, itR_str, rng1I_ap, rn1R_ok, rng3I_ap, rn3R_up, zipI_ap, zpR_lst, zpR_tup, nameG_ap, nilG_ap, consG_ap, cgR_ok, tupG_2, tupG_3, seqS_ap, sqR_nx, sqR_ret, sqR_exc, passS_ap, retS_ap, retF_ap, reR_ok, reR_exc, asgS_ap, asR_ok, asR_exc, agR_ok, ownS_ap, owR_ok, iffS_ap, ifO_t, ifO_f, ifO_exc, expS_ap, exR_ok, exR_exc, forS_ap, foR_ok, forL_nil, forL_cons, flA_ok, flB_nx, appS_ap, apR_last, raiS_ap, rai1S_ap, raR_int, tryS_ap, trR_nx, trR_ret, trR_exc, starS_ap, stR_1, dr_int, dr_str, dr_bl, dr_non, dr_tup, dr_lst, dr_scr, dr_wd, dr_exn, dr_lstR, addD_ap, addQ_int, addQ_str, addQ_lst, addQ_tup, subD_int, negD_int, mulD_int, mulD_lst, fdivD_int, modD_int, powD_int, ltD_int, leD_int, gtD_int, geD_int, isn_lst, isn_non, eqB_str, eqB_int, eqD_ap, neD_ap, inB_wd, inB_chr, inD_ap, ninD_ap, omap_some, look_n, look_c, ixD_ap, ixQ_lst, ixQ_tup, ixQ_scr, ixQ_wd, ixQ_str, at_0, at_m1, at_m1c, at_p, rg2S_ap, r2R_ok, rg1S_ap, r1R_ok, rgD_ok', cut_m1, cut_pos, cut_posf, drop_0, drop_s, take_0, take_s, take_n, dl_1, dl_c, flat_rep, eq_self, Int.cast_ofNat_Int, lenD_ap, lenQ_lst, lenQ_scr, lenQ_tup, lenQ_str, intC_int, strC_str, strC_int, listC_lst, listC_tup, tupleC_lst, tupleC_tup, joinM_ap, splitM_ok, ofString_inj, List.length_cons, List.length_nil, List.length_append, List.length_map, Int.reduceNeg, Int.reduceAdd, Int.reduceSub, Int.reduceMul, Int.reduceMod, Int.reducePow, Int.reduceDiv, Int.reduceLE, Int.reduceLT, Int.reduceEq, Int.reduceToNat, Nat.reduceAdd, Nat.reduceSub, Nat.reduceLeDiff, Nat.reduceEqDiff, String.reduceEq, decide_true, decide_false, Bool.not_true, Bool.not_false, Bool.and_true, Bool.true_and, Bool.and_false, Bool.false_and, Bool.or_true, Bool.or_false, Bool.true_or, Bool.false_or, Option.isSome_some, Option.isSome_none, if_true, if_false, Bool.false_eq_true, Int.reduceBNe])
    exact ⟨o, e⟩
  obtain ⟨ρ', σ', e, o5, o6, o7, rfl, rfl⟩ := forL_at (g := nameG 5) (body := tiO (run Tb (n + 1))) (mu := fun r => mu r && !([] : List Nat).contains r) (ρ := []) (l := rngL 0 l.length) (σ := [some (.scr (ns.map .int)), some (.lst ds), some (.lst (l.map .int)), some (.tup (ms.map .int)), some (.tup ((tgL l ms).map .int)), none, none, none, none, none, none, none, none])
    (fun _ ρ σ => ∃ o5 o6 o7, ρ = [] ∧ σ = [some (.scr (ns.map .int)), some (.lst ds), some (.lst (l.map .int)), some (.tup (ms.map .int)), some (.tup ((tgL l ms).map .int)), o5, o6, o7, none, none, none, none, none]) ⟨_, _, _, rfl, rfl⟩ (by
      rintro i d ρ σ hd ⟨o5, o6, o7, rfl, rfl⟩
      obtain ⟨rfl, hi⟩ := rng_get hd
      obtain ⟨o6', e6⟩ := inner1 (fun r => mu r && !([] : List Nat).contains r && !([] : List Nat).contains r) i o6 o7 hi
      obtain ⟨o7', e7⟩ := inner2 (fun r => mu r && !([] : List Nat).contains r && !([] : List Nat).contains r) i o6' o7 hi
      refine ⟨_, [], [some (.scr (ns.map .int)), some (.lst ds), some (.lst (l.map .int)), some (.tup (ms.map .int)), some (.tup ((tgL l ms).map .int)), some (.int (0 + (i : Int))), o6', o7', none, none, none, none, none], nameG_ap, ?_, _, _, _, rfl, rfl⟩
      have ht := r_ltight (n := n) (ρ := []) (hmem i hi) hm (by omega) (show ms.length ≤ 1000 by omega)
      simp (disch := walk_at "ds") only [tiO, hin, hin2, hat i hi, at_getD hi, r_whole, ht, hrn, e6, e7, rep_0, rep_s, get_0, get_s, set_0, set_s, app_n, app_c, map_n, map_c, wipe_n, wipe_c, rb_ok, rb_exc, ofO_some, rd_some, varS_ap, conS_ap, nilA_ap, consA_ap, consR_ok, consR_exc, consR_exc0, items_ap, items_lst, items_tup, items_scr, starA_ap, starR_ok, tupS_ap, tupR_ok, lstS_ap, lstR_ok, andS_ap, andR_t, andR_f, orS_ap, orR_t, orR_f, notS_ap, testS_ap, truR_bl, truR_int, ifS_ap, ifR_t, ifR_f, andT_ap, andW_t, andW_f, orT_ap, orW_t, orW_f, notT_ap, yesT_ap, tb1_ap, blR_bl, bin2_ap, b2R_ok, un1_ap, callB_ap, cbR_ok, chainS_ap, noP_ap, someP_ap, intR_ok, slS_ap, slR_ok, slD_ap, slQ_lst, slQ_tup, methS_ap, meR_ok, callS_ap, calR_ok, cal1_ok, cal1_exc, lcS_ap, lcR_ok, lcQ_ok, lcL_nil, lcL_yes, lcY_ok, lcZ_ok, itI_ap, itR_lst, itR_scr, itR_tup, itR_str, rng1I_ap, rn1R_ok, rng3I_ap, rn3R_up, zipI_ap, zpR_lst, zpR_tup, nameG_ap, nilG_ap, consG_ap, cgR_ok, tupG_2, tupG_3, seqS_ap, sqR_nx, sqR_ret, sqR_exc, passS_ap, retS_ap, retF_ap, reR_ok, reR_exc, asgS_ap, asR_ok, asR_exc, agR_ok, ownS_ap, owR_ok, iffS_ap, ifO_t, ifO_f, ifO_exc, expS_ap, exR_ok, exR_exc, forS_ap, foR_ok, forL_nil, forL_cons, flA_ok, flB_nx, appS_ap, apR_last, raiS_ap, rai1S_ap, raR_int, tryS_ap, trR_nx, trR_ret, trR_exc, starS_ap, stR_1, dr_int, dr_str, dr_bl, dr_non, dr_tup, dr_lst, dr_scr, dr_wd, dr_exn, dr_lstR, addD_ap, addQ_int, addQ_str, addQ_lst, addQ_tup, subD_int, negD_int, mulD_int, mulD_lst, fdivD_int, modD_int, powD_int, ltD_int, leD_int, gtD_int, geD_int, isn_lst, isn_non, eqB_str, eqB_int, eqD_ap, neD_ap, inB_wd, inB_chr, inD_ap, ninD_ap, omap_some, look_n, look_c, ixD_ap, ixQ_lst, ixQ_tup, ixQ_scr, ixQ_wd, ixQ_str, at_0, at_m1, at_m1c, at_p, rg2S_ap, r2R_ok, rg1S_ap, r1R_ok, rgD_ok', cut_m1, cut_pos, cut_posf, drop_0, drop_s, take_0, take_s, take_n, dl_1, dl_c, flat_rep, eq_self, Int.cast_ofNat_Int, lenD_ap, lenQ_lst, lenQ_scr, lenQ_tup, lenQ_str, intC_int, strC_str, strC_int, listC_lst, listC_tup, tupleC_lst, tupleC_tup, joinM_ap, splitM_ok, ofString_inj, List.length_cons, List.length_nil, List.length_append, List.length_map, Int.reduceNeg, Int.reduceAdd, Int.reduceSub, Int.reduceMul, Int.reduceMod, Int.reducePow, Int.reduceDiv, Int.reduceLE, Int.reduceLT, Int.reduceEq, Int.reduceToNat, Nat.reduceAdd, Nat.reduceSub, Nat.reduceLeDiff, Nat.reduceEqDiff, String.reduceEq, decide_true, decide_false, Bool.not_true, Bool.not_false, Bool.and_true, Bool.true_and, Bool.and_false, Bool.false_and, Bool.or_true, Bool.or_false, Bool.true_or, Bool.false_or, Option.isSome_some, Option.isSome_none, if_true, if_false, Bool.false_eq_true, Int.reduceBNe])
  refine ⟨o5, o6, o7, ?_⟩
  simp (disch := walk_at "ds") only [tiL, hrn, e, rep_0, rep_s, get_0, get_s, set_0, set_s, app_n, app_c, map_n, map_c, wipe_n, wipe_c, rb_ok, rb_exc, ofO_some, rd_some, varS_ap, conS_ap, nilA_ap, consA_ap, consR_ok, consR_exc, consR_exc0, items_ap, items_lst, items_tup, items_scr, starA_ap, starR_ok, tupS_ap, tupR_ok, lstS_ap, lstR_ok, andS_ap, andR_t, andR_f, orS_ap, orR_t, orR_f, notS_ap, testS_ap, truR_bl, truR_int, ifS_ap, ifR_t, ifR_f, andT_ap, andW_t, andW_f, orT_ap, orW_t, orW_f, notT_ap, yesT_ap, tb1_ap, blR_bl, bin2_ap, b2R_ok, un1_ap, callB_ap, cbR_ok, chainS_ap, noP_ap, someP_ap, intR_ok, slS_ap, slR_ok, slD_ap, slQ_lst, slQ_tup, methS_ap, meR_ok, callS_ap, calR_ok, cal1_ok, cal1_exc, lcS_ap, lcR_ok, lcQ_ok, lcL_nil, lcL_yes, lcY_ok, lcZ_ok, itI_ap, itR_lst, itR_scr, itR_tup, itR_str, rng1I_ap, rn1R_ok, rng3I_ap, rn3R_up, zipI_ap, zpR_lst, zpR_tup, nameG_ap, nilG_ap, consG_ap, cgR_ok, tupG_2, tupG_3, seqS_ap, sqR_nx, sqR_ret, sqR_exc, passS_ap, retS_ap, retF_ap, reR_ok, reR_exc, asgS_ap, asR_ok, asR_exc, agR_ok, ownS_ap, owR_ok, iffS_ap, ifO_t, ifO_f, ifO_exc, expS_ap, exR_ok, exR_exc, forS_ap, foR_ok, forL_nil, forL_cons, flA_ok, flB_nx, appS_ap, apR_last, raiS_ap, rai1S_ap, raR_int, tryS_ap, trR_nx, trR_ret, trR_exc, starS_ap, stR_1, dr_int, dr_str, dr_bl, dr_non, dr_tup, dr_lst, dr_scr, dr_wd, dr_exn, dr_lstR, addD_ap, addQ_int, addQ_str, addQ_lst, addQ_tup, subD_int, negD_int, mulD_int, mulD_lst, fdivD_int, modD_int, powD_int, ltD_int, leD_int, gtD_int, geD_int, isn_lst, isn_non, eqB_str, eqB_int, eqD_ap, neD_ap, inB_wd, inB_chr, inD_ap, ninD_ap, omap_some, look_n, look_c, ixD_ap, ixQ_lst, ixQ_tup, ixQ_scr, ixQ_wd, ixQ_str, at_0, at_m1, at_m1c, at_p, rg2S_ap, r2R_ok, rg1S_ap, r1R_ok, rgD_ok', cut_m1, cut_pos, cut_posf, drop_0, drop_s, take_0, take_s, take_n, dl_1, dl_c, flat_rep, eq_self, Int.cast_ofNat_Int, lenD_ap, lenQ_lst, lenQ_scr, lenQ_tup, lenQ_str, intC_int, strC_str, strC_int, listC_lst, listC_tup, tupleC_lst, tupleC_tup, joinM_ap, splitM_ok, ofString_inj, List.length_cons, List.length_nil, List.length_append, List.length_map, Int.reduceNeg, Int.reduceAdd, Int.reduceSub, Int.reduceMul, Int.reduceMod, Int.reducePow, Int.reduceDiv, Int.reduceLE, Int.reduceLT, Int.reduceEq, Int.reduceToNat, Nat.reduceAdd, Nat.reduceSub, Nat.reduceLeDiff, Nat.reduceEqDiff, String.reduceEq, decide_true, decide_false, Bool.not_true, Bool.not_false, Bool.and_true, Bool.true_and, Bool.and_false, Bool.false_and, Bool.or_true, Bool.or_false, Bool.true_or, Bool.false_or, Option.isSome_some, Option.isSome_none, if_true, if_false, Bool.false_eq_true, Int.reduceBNe]

theorem law_eq (cl : Orc) : B_law cl = (seqS (asgS (callS cl 4 [] (consA (varS 0) (consA (conS (.int 0)) (consA (conS (.int 12)) nilA)))) (nameG 1))
    (seqS (asgS (callS cl 5 [] (consA (varS 0) (consA (conS (.int 1)) (consA (bin2 modD (bin2 ixD (varS 1) (conS (.int 6))) (conS (.int 9))) nilA)))) (nameG 2))
    (seqS (asgS (callS cl 6 [] (consA (slS (varS 1) noP (someP (conS (.int 5)))) (consA (bin2 modD (bin2 ixD (varS 1) (conS (.int 7))) (conS (.int 5))) (consA (conS (.int 0)) nilA)))) (nameG 3))
    (seqS (asgS (callS cl 2 [] (consA (callB tupleC (consA (varS 2) nilA)) (consA (varS 3) nilA))) (nameG 4))
    (seqS (iffS (orT (notT (testS (callB (isiC iscz) (consA (varS 4) (consA (conS (.ty .tuple)) nilA))))) (tb1 (bin2 neD (callB lenD (consA (varS 4) nilA)) (callB lenD (consA (varS 2) nilA))))) (retS (conS (.bl false))) passS)
    (seqS (tiL cl)
    (seqS (asgS (callB listC (consA (varS 2) nilA)) (nameG 8))
    (seqS (iffS (orT (tb1 (bin2 neD (callS cl 2 [] (consA (varS 8) (consA (callB listC (consA (varS 3) nilA)) nilA))) (varS 4))) (orT (tb1 (bin2 neD (varS 8) (varS 2))) (tb1 (bin2 neD (callS cl 2 [] (consA (varS 4) (consA (varS 3) nilA))) (varS 4))))) (retS (conS (.bl false))) passS)
    (seqS (iffS (tb1 (bin2 neD (callS cl 2 [(.tup [])] (consA (varS 2) nilA)) (callB tupleC (consA (lcS (itI (varS 2)) (nameG 12) yesT (callS cl 7 [] (consA (varS 12) (consA (varS 2) (consA (tupS nilA) nilA)))) [12]) nilA)))) (retS (conS (.bl false))) passS)
    (seqS (iffS (tb1 (bin2 eqD (varS 3) (tupS nilA))) (retS (conS (.bl true))) passS)
    (seqS (asgS (bin2 modD (bin2 ixD (varS 1) (conS (.int 8))) (callB lenD (consA (varS 3) nilA))) (nameG 9))
    (seqS (asgS (bin2 addD (callB listC (consA (slS (varS 3) noP (someP (bin2 addD (varS 9) (conS (.int 1))))) nilA)) (callB listC (consA (slS (varS 3) (someP (varS 9)) noP) nilA))) (nameG 10))
    (seqS (iffS (tb1 (bin2 gtD (varS 9) (conS (.int 0)))) (seqS (asgS (bin2 addD (bin2 addD (callB listC (consA (slS (varS 3) noP (someP (bin2 subD (varS 9) (conS (.int 1))))) nilA)) (lstS (consA (bin2 ixD (varS 3) (varS 9)) (consA (bin2 ixD (varS 3) (bin2 subD (varS 9) (conS (.int 1)))) nilA)))) (callB listC (consA (slS (varS 3) (someP (bin2 addD (varS 9) (conS (.int 1)))) noP) nilA))) (nameG 11))
    (iffS (orT (notT (testS (callS cl 10 [] (consA (varS 2) (consA (varS 11) nilA))))) (notT (testS (callS cl 10 [] (consA (lstS nilA) (consA (callB tupleC (consA (varS 11) nilA)) nilA)))))) (retS (conS (.bl false))) passS)) passS)
    (retS (andS (callS cl 10 [] (consA (varS 2) (consA (varS 10) nilA))) (andS (callS cl 10 [] (consA (varS 2) (consA (callB tupleC (consA (varS 10) nilA)) nilA))) (bin2 eqD (callS cl 2 [] (consA (lstS nilA) (consA (varS 3) nilA))) (tupS nilA)))))))))))))))))) := rfl
theorem law_run (ns : List Int) (h : ns.length ≤ 63) : run Tb 11 11 (fun _ => false) [] [.scr (ns.map .int)] = .ok false (.bl true) [] := by
  have hn : ns.length ≤ 1000 := by omega
  obtain ⟨L, hL, hx, hd⟩ := r_draws (n := 9) (ρ := []) (ns := ns) (a := 0) (m := 12) (by omega) (by omega) hn
  obtain ⟨x0, x1, x2, x3, x4, x5, x6, x7, x8, x9, x10, x11, rfl⟩ : ∃ x0 x1 x2 x3 x4 x5 x6 x7 x8 x9 x10 x11, L = [x0, x1, x2, x3, x4, x5, x6, x7, x8, x9, x10, x11] := match L, hL with | [x0, x1, x2, x3, x4, x5, x6, x7, x8, x9, x10, x11], _ => ⟨_, _, _, _, _, _, _, _, _, _, _, _, rfl⟩
  have hx6 := hx x6 (by simp)
  have hx7 := hx x7 (by simp)
  have hx8 := hx x8 (by simp)
  have hd : run Tb 10 4 (fun _ => false) [] [.scr (ns.map .int), .int 0, .int 12] = .ok true (.lst [.int x0, .int x1, .int x2, .int x3, .int x4, .int x5, .int x6, .int x7, .int x8, .int x9, .int x10, .int x11]) [] := hd
  obtain ⟨l, ho, e1⟩ := r_numbers (n := 8) (ρ := []) (ns := ns) (a := 1) (m := (x6 % 9).toNat) (by omega) (by omega) hn
  obtain ⟨ms, hms, hbm, e3⟩ := r_marks (n := 9) (ρ := []) (d := [x0, x1, x2, x3, x4]) (m := (x7 % 5).toNat) (fun x hxx => (hx x (by simp only [List.mem_cons, List.not_mem_nil, or_false] at hxx ⊢; rcases hxx with h | h | h | h | h <;> simp [h])).1) rfl (by omega)
  have c6 : ((x6 % 9).toNat : Int) = x6 % 9 := by omega
  have c7 : ((x7 % 5).toNat : Int) = x7 % 5 := by omega
  rw [c6] at e1
  rw [c7] at e3
  have e1 : run Tb 10 5 (fun _ => false) [] [.scr (ns.map .int), .int 1, .int (x6 % 9)] = .ok true (.lst (l.map .int)) [] := e1
  have e3 : run Tb 10 6 (fun _ => false) [] [.lst [.int x0, .int x1, .int x2, .int x3, .int x4], .int (x7 % 5), .int 0] = .ok false (.tup (ms.map .int)) [] := e3
  have l1 : l.length ≤ 8 := by omega
  have l3 : ms.length ≤ 4 := by omega
  have at6 : atI [D.int x0, .int x1, .int x2, .int x3, .int x4, .int x5, .int x6, .int x7, .int x8, .int x9, .int x10, .int x11] 6 = some (.int x6) := at_nat (n := 6) rfl
  have at7 : atI [D.int x0, .int x1, .int x2, .int x3, .int x4, .int x5, .int x6, .int x7, .int x8, .int x9, .int x10, .int x11] 7 = some (.int x7) := at_nat (n := 7) rfl
  have at8 : atI [D.int x0, .int x1, .int x2, .int x3, .int x4, .int x5, .int x6, .int x7, .int x8, .int x9, .int x10, .int x11] 8 = some (.int x8) := at_nat (n := 8) rfl
  have cut5 : cutL [D.int x0, .int x1, .int x2, .int x3, .int x4, .int x5, .int x6, .int x7, .int x8, .int x9, .int x10, .int x11] none (some 5) = [.int x0, .int x1, .int x2, .int x3, .int x4] := by rw [cut_pos (by omega)]; rfl
  generalize hds : [D.int x0, .int x1, .int x2, .int x3, .int x4, .int x5, .int x6, .int x7, .int x8, .int x9, .int x10, .int x11] = ds at hd at6 at7 at8 cut5
  clear hds
  have hasc := badM_asc hbm
  have z1 : IsS (.lst (l.map .int)) l := .inl rfl
  have z3 : IsS (.tup (ms.map .int)) ms := .inr rfl
  have lt : (tgL l ms).length = l.length := by unfold tgL; simp
  have w1 := r_tight (n := 8) (ρ := []) (a := .tup (l.map .int)) (.inr rfl) z3 (by omega) hbm
  have w2 := r_tight (n := 8) (ρ := []) (d := .lst (ms.map .int)) z1 (.inl rfl) (by omega) hbm
  have w3 := r_tight (n := 8) (ρ := []) (a := .tup ((tgL l ms).map .int)) (.inr rfl) z3 (by omega) hbm
  rw [tg_again hasc] at w3
  have w4 := r_tight (n := 8) (ρ := []) (d := .tup []) (ms := []) z1 (.inr rfl) (by simp; omega) rfl
  have w5 := r_tight (n := 8) (ρ := []) (a := .lst []) (l := []) (.inl rfl) z3 (by simp; omega) hbm
  have i1 : isiC iscz [] [.tup ((tgL l ms).map .int), .ty .tuple] = some (.bl true) := rfl
  have g1 : ((tgL l ms).map D.int).length = (l.map D.int).length := by rw [List.length_map, List.length_map, lt]
  have lm1 : (l.map D.int).length ≤ 100000 := by simp; omega
  obtain ⟨o5, o6, o7, hloop⟩ := loop_ok (n := 9) (ns := ns) (ds := ds) (l := l) (ms := ms) (mu := fun r => decide (([] : List D).length ≤ r)) (by omega) (by omega) hasc
  have hlc : ∀ o8 : Option D, lcL (nameG 12) yesT (callS (run Tb 10) 7 [] (consA (varS 12) (consA (varS 2) (consA (tupS nilA) nilA)))) [] [some (.scr (ns.map .int)), some (.lst ds), some (.lst (l.map .int)), some (.tup (ms.map .int)), some (.tup ((tgL l ms).map .int)), o5, o6, o7, o8, none, none, none, none] (l.map .int) = .ok ((tgL l []).map .int) := by
    intro o8
    have := lc_map (ρ := []) (σ := [some (.scr (ns.map .int)), some (.lst ds), some (.lst (l.map .int)), some (.tup (ms.map .int)), some (.tup ((tgL l ms).map .int)), o5, o6, o7, o8, none, none, none, none]) (g := nameG 12) (f := callS (run Tb 10) 7 [] (consA (varS 12) (consA (varS 2) (consA (tupS nilA) nilA)))) (mk := D.int) (r := fun x => D.int (tgI (siL (l ++ [])) [] x)) l fun x hx => ⟨_, nameG_ap, by
      have ht : run Tb 10 7 (fun _ => false) [] [.int x, .lst (l.map .int), .tup []] = .ok false (.int (tgI (siL (l ++ [])) [] x)) [] := r_ltight (n := 9) (ρ := []) (ms := []) hx .nil (by omega) (by simp)
      simp (disch := walk_at "ds") only [ht, rep_0, rep_s, get_0, get_s, set_0, set_s, app_n, app_c, map_n, map_c, wipe_n, wipe_c, rb_ok, rb_exc, ofO_some, rd_some, varS_ap, conS_ap, nilA_ap, consA_ap, consR_ok, consR_exc, consR_exc0, items_ap, items_lst, items_tup, items_scr, starA_ap, starR_ok, tupS_ap, tupR_ok, lstS_ap, lstR_ok, andS_ap, andR_t, andR_f, orS_ap, orR_t, orR_f, notS_ap, testS_ap, truR_bl, truR_int, ifS_ap, ifR_t, ifR_f, andT_ap, andW_t, andW_f, orT_ap, orW_t, orW_f, notT_ap, yesT_ap, tb1_ap, blR_bl, bin2_ap, b2R_ok, un1_ap, callB_ap, cbR_ok, chainS_ap, noP_ap, someP_ap, intR_ok, slS_ap, slR_ok, slD_ap, slQ_lst, slQ_tup, methS_ap, meR_ok, callS_ap, calR_ok, cal1_ok, cal1_exc, lcS_ap, lcR_ok, lcQ_ok, lcL_nil, lcL_yes, lcY_ok, lcZ_ok, itI_ap, itR_lst, itR_scr, itR_tup, itR_str, rng1I_ap, rn1R_ok, rng3I_ap, rn3R_up, zipI_ap, zpR_lst, zpR_tup, nameG_ap, nilG_ap, consG_ap, cgR_ok, tupG_2, tupG_3, seqS_ap, sqR_nx, sqR_ret, sqR_exc, passS_ap, retS_ap, retF_ap, reR_ok, reR_exc, asgS_ap, asR_ok, asR_exc, agR_ok, ownS_ap, owR_ok, iffS_ap, ifO_t, ifO_f, ifO_exc, expS_ap, exR_ok, exR_exc, forS_ap, foR_ok, forL_nil, forL_cons, flA_ok, flB_nx, appS_ap, apR_last, raiS_ap, rai1S_ap, raR_int, tryS_ap, trR_nx, trR_ret, trR_exc, starS_ap, stR_1, dr_int, dr_str, dr_bl, dr_non, dr_tup, dr_lst, dr_scr, dr_wd, dr_exn, dr_lstR, addD_ap, addQ_int, addQ_str, addQ_lst, addQ_tup, subD_int, negD_int, mulD_int, mulD_lst, fdivD_int, modD_int, powD_int, ltD_int, leD_int, gtD_int, geD_int, isn_lst, isn_non, eqB_str, eqB_int, eqD_ap, neD_ap, inB_wd, inB_chr, inD_ap, ninD_ap, omap_some, look_n, look_c, ixD_ap, ixQ_lst, ixQ_tup, ixQ_scr, ixQ_wd, ixQ_str, at_0, at_m1, at_m1c, at_p, rg2S_ap, r2R_ok, rg1S_ap, r1R_ok, rgD_ok', cut_m1, cut_pos, cut_posf, drop_0, drop_s, take_0, take_s, take_n, dl_1, dl_c, flat_rep, eq_self, Int.cast_ofNat_Int, lenD_ap, lenQ_lst, lenQ_scr, lenQ_tup, lenQ_str, intC_int, strC_str, strC_int, listC_lst, listC_tup, tupleC_lst, tupleC_tup, joinM_ap, splitM_ok, ofString_inj, List.length_cons, List.length_nil, List.length_append, List.length_map, Int.reduceNeg, Int.reduceAdd, Int.reduceSub, Int.reduceMul, Int.reduceMod, Int.reducePow, Int.reduceDiv, Int.reduceLE, Int.reduceLT, Int.reduceEq, Int.reduceToNat, Nat.reduceAdd, Nat.reduceSub, Nat.reduceLeDiff, Nat.reduceEqDiff, String.reduceEq, decide_true, decide_false, Bool.not_true, Bool.not_false, Bool.and_true, Bool.true_and, Bool.and_false, Bool.false_and, Bool.or_true, Bool.or_false, Bool.true_or, Bool.false_or, Option.isSome_some, Option.isSome_none, if_true, if_false, Bool.false_eq_true, Int.reduceBNe]⟩
    have em : (tgL l []).map D.int = l.map fun x => D.int (tgI (siL (l ++ [])) [] x) := by
      unfold tgL
      rw [List.map_map]
      exact List.map_congr_left fun x _ => id rfl
    rw [this, em]
  have w4 : run Tb 10 2 (fun _ => false) [] [.lst (l.map .int), .tup []] = .ok false (.tup ((tgL l []).map .int)) [] := w4
  generalize hT : tgL l ms = T at w1 w2 w3 i1 g1 hloop hlc
  generalize hT0 : tgL l [] = T0 at w4 hlc
  refine run_res 1 13 B_law (o := .ret false (.bl true) []) rfl rfl rfl ?_ (fin_ret0 (by intro r h; cases h) rfl)
  rw [law_eq]
  refine seq_n1 (σ' := [some (.scr (ns.map .int)), some (.lst ds), none, none, none, none, none, none, none, none, none, none, none]) (by simp (disch := walk_at "ds") only [hd, rep_0, rep_s, get_0, get_s, set_0, set_s, app_n, app_c, map_n, map_c, wipe_n, wipe_c, rb_ok, rb_exc, ofO_some, rd_some, varS_ap, conS_ap, nilA_ap, consA_ap, consR_ok, consR_exc, consR_exc0, items_ap, items_lst, items_tup, items_scr, starA_ap, starR_ok, tupS_ap, tupR_ok, lstS_ap, lstR_ok, andS_ap, andR_t, andR_f, orS_ap, orR_t, orR_f, notS_ap, testS_ap, truR_bl, truR_int, ifS_ap, ifR_t, ifR_f, andT_ap, andW_t, andW_f, orT_ap, orW_t, orW_f, notT_ap, yesT_ap, tb1_ap, blR_bl, bin2_ap, b2R_ok, un1_ap, callB_ap, cbR_ok, chainS_ap, noP_ap, someP_ap, intR_ok, slS_ap, slR_ok, slD_ap, slQ_lst, slQ_tup, methS_ap, meR_ok, callS_ap, calR_ok, cal1_ok, cal1_exc, lcS_ap, lcR_ok, lcQ_ok, lcL_nil, lcL_yes, lcY_ok, lcZ_ok, itI_ap, itR_lst, itR_scr, itR_tup, itR_str, rng1I_ap, rn1R_ok, rng3I_ap, rn3R_up, zipI_ap, zpR_lst, zpR_tup, nameG_ap, nilG_ap, consG_ap, cgR_ok, tupG_2, tupG_3, seqS_ap, sqR_nx, sqR_ret, sqR_exc, passS_ap, retS_ap, retF_ap, reR_ok, reR_exc, asgS_ap, asR_ok, asR_exc, agR_ok, ownS_ap, owR_ok, iffS_ap, ifO_t, ifO_f, ifO_exc, expS_ap, exR_ok, exR_exc, forS_ap, foR_ok, forL_nil, forL_cons, flA_ok, flB_nx, appS_ap, apR_last, raiS_ap, rai1S_ap, raR_int, tryS_ap, trR_nx, trR_ret, trR_exc, starS_ap, stR_1, dr_int, dr_str, dr_bl, dr_non, dr_tup, dr_lst, dr_scr, dr_wd, dr_exn, dr_lstR, addD_ap, addQ_int, addQ_str, addQ_lst, addQ_tup, subD_int, negD_int, mulD_int, mulD_lst, fdivD_int, modD_int, powD_int, ltD_int, leD_int, gtD_int, geD_int, isn_lst, isn_non, eqB_str, eqB_int, eqD_ap, neD_ap, inB_wd, inB_chr, inD_ap, ninD_ap, omap_some, look_n, look_c, ixD_ap, ixQ_lst, ixQ_tup, ixQ_scr, ixQ_wd, ixQ_str, at_0, at_m1, at_m1c, at_p, rg2S_ap, r2R_ok, rg1S_ap, r1R_ok, rgD_ok', cut_m1, cut_pos, cut_posf, drop_0, drop_s, take_0, take_s, take_n, dl_1, dl_c, flat_rep, eq_self, Int.cast_ofNat_Int, lenD_ap, lenQ_lst, lenQ_scr, lenQ_tup, lenQ_str, intC_int, strC_str, strC_int, listC_lst, listC_tup, tupleC_lst, tupleC_tup, joinM_ap, splitM_ok, ofString_inj, List.length_cons, List.length_nil, List.length_append, List.length_map, Int.reduceNeg, Int.reduceAdd, Int.reduceSub, Int.reduceMul, Int.reduceMod, Int.reducePow, Int.reduceDiv, Int.reduceLE, Int.reduceLT, Int.reduceEq, Int.reduceToNat, Nat.reduceAdd, Nat.reduceSub, Nat.reduceLeDiff, Nat.reduceEqDiff, String.reduceEq, decide_true, decide_false, Bool.not_true, Bool.not_false, Bool.and_true, Bool.true_and, Bool.and_false, Bool.false_and, Bool.or_true, Bool.or_false, Bool.true_or, Bool.false_or, Option.isSome_some, Option.isSome_none, if_true, if_false, Bool.false_eq_true, Int.reduceBNe]) ?_
  refine seq_n1 (σ' := [some (.scr (ns.map .int)), some (.lst ds), some (.lst (l.map .int)), none, none, none, none, none, none, none, none, none, none]) (by simp (disch := walk_at "ds") only [at6, e1, rep_0, rep_s, get_0, get_s, set_0, set_s, app_n, app_c, map_n, map_c, wipe_n, wipe_c, rb_ok, rb_exc, ofO_some, rd_some, varS_ap, conS_ap, nilA_ap, consA_ap, consR_ok, consR_exc, consR_exc0, items_ap, items_lst, items_tup, items_scr, starA_ap, starR_ok, tupS_ap, tupR_ok, lstS_ap, lstR_ok, andS_ap, andR_t, andR_f, orS_ap, orR_t, orR_f, notS_ap, testS_ap, truR_bl, truR_int, ifS_ap, ifR_t, ifR_f, andT_ap, andW_t, andW_f, orT_ap, orW_t, orW_f, notT_ap, yesT_ap, tb1_ap, blR_bl, bin2_ap, b2R_ok, un1_ap, callB_ap, cbR_ok, chainS_ap, noP_ap, someP_ap, intR_ok, slS_ap, slR_ok, slD_ap, slQ_lst, slQ_tup, methS_ap, meR_ok, callS_ap, calR_ok, cal1_ok, cal1_exc, lcS_ap, lcR_ok, lcQ_ok, lcL_nil, lcL_yes, lcY_ok, lcZ_ok, itI_ap, itR_lst, itR_scr, itR_tup, itR_str, rng1I_ap, rn1R_ok, rng3I_ap, rn3R_up, zipI_ap, zpR_lst, zpR_tup, nameG_ap, nilG_ap, consG_ap, cgR_ok, tupG_2, tupG_3, seqS_ap, sqR_nx, sqR_ret, sqR_exc, passS_ap, retS_ap, retF_ap, reR_ok, reR_exc, asgS_ap, asR_ok, asR_exc, agR_ok, ownS_ap, owR_ok, iffS_ap, ifO_t, ifO_f, ifO_exc, expS_ap, exR_ok, exR_exc, forS_ap, foR_ok, forL_nil, forL_cons, flA_ok, flB_nx, appS_ap, apR_last, raiS_ap, rai1S_ap, raR_int, tryS_ap, trR_nx, trR_ret, trR_exc, starS_ap, stR_1, dr_int, dr_str, dr_bl, dr_non, dr_tup, dr_lst, dr_scr, dr_wd, dr_exn, dr_lstR, addD_ap, addQ_int, addQ_str, addQ_lst, addQ_tup, subD_int, negD_int, mulD_int, mulD_lst, fdivD_int, modD_int, powD_int, ltD_int, leD_int, gtD_int, geD_int, isn_lst, isn_non, eqB_str, eqB_int, eqD_ap, neD_ap, inB_wd, inB_chr, inD_ap, ninD_ap, omap_some, look_n, look_c, ixD_ap, ixQ_lst, ixQ_tup, ixQ_scr, ixQ_wd, ixQ_str, at_0, at_m1, at_m1c, at_p, rg2S_ap, r2R_ok, rg1S_ap, r1R_ok, rgD_ok', cut_m1, cut_pos, cut_posf, drop_0, drop_s, take_0, take_s, take_n, dl_1, dl_c, flat_rep, eq_self, Int.cast_ofNat_Int, lenD_ap, lenQ_lst, lenQ_scr, lenQ_tup, lenQ_str, intC_int, strC_str, strC_int, listC_lst, listC_tup, tupleC_lst, tupleC_tup, joinM_ap, splitM_ok, ofString_inj, List.length_cons, List.length_nil, List.length_append, List.length_map, Int.reduceNeg, Int.reduceAdd, Int.reduceSub, Int.reduceMul, Int.reduceMod, Int.reducePow, Int.reduceDiv, Int.reduceLE, Int.reduceLT, Int.reduceEq, Int.reduceToNat, Nat.reduceAdd, Nat.reduceSub, Nat.reduceLeDiff, Nat.reduceEqDiff, String.reduceEq, decide_true, decide_false, Bool.not_true, Bool.not_false, Bool.and_true, Bool.true_and, Bool.and_false, Bool.false_and, Bool.or_true, Bool.or_false, Bool.true_or, Bool.false_or, Option.isSome_some, Option.isSome_none, if_true, if_false, Bool.false_eq_true, Int.reduceBNe]) ?_
  refine seq_n1 (σ' := [some (.scr (ns.map .int)), some (.lst ds), some (.lst (l.map .int)), some (.tup (ms.map .int)), none, none, none, none, none, none, none, none, none]) (by simp (disch := walk_at "ds") only [at7, cut5, e3, rep_0, rep_s, get_0, get_s, set_0, set_s, app_n, app_c, map_n, map_c, wipe_n, wipe_c, rb_ok, rb_exc, ofO_some, rd_some, varS_ap, conS_ap, nilA_ap, consA_ap, consR_ok, consR_exc, consR_exc0, items_ap, items_lst, items_tup, items_scr, starA_ap, starR_ok, tupS_ap, tupR_ok, lstS_ap, lstR_ok, andS_ap, andR_t, andR_f, orS_ap, orR_t, orR_f, notS_ap, testS_ap, truR_bl, truR_int, ifS_ap, ifR_t, ifR_f, andT_ap, andW_t, andW_f, orT_ap, orW_t, orW_f, notT_ap, yesT_ap, tb1_ap, blR_bl, bin2_ap, b2R_ok, un1_ap, callB_ap, cbR_ok, chainS_ap, noP_ap, someP_ap, intR_ok, slS_ap, slR_ok, slD_ap, slQ_lst, slQ_tup, methS_ap, meR_ok, callS_ap, calR_ok, cal1_ok, cal1_exc, lcS_ap, lcR_ok, lcQ_ok, lcL_nil, lcL_yes, lcY_ok, lcZ_ok, itI_ap, itR_lst, itR_scr, itR_tup, itR_str, rng1I_ap, rn1R_ok, rng3I_ap, rn3R_up, zipI_ap, zpR_lst, zpR_tup, nameG_ap, nilG_ap, consG_ap, cgR_ok, tupG_2, tupG_3, seqS_ap, sqR_nx, sqR_ret, sqR_exc, passS_ap, retS_ap, retF_ap, reR_ok, reR_exc, asgS_ap, asR_ok, asR_exc, agR_ok, ownS_ap, owR_ok, iffS_ap, ifO_t, ifO_f, ifO_exc, expS_ap, exR_ok, exR_exc, forS_ap, foR_ok, forL_nil, forL_cons, flA_ok, flB_nx, appS_ap, apR_last, raiS_ap, rai1S_ap, raR_int, tryS_ap, trR_nx, trR_ret, trR_exc, starS_ap, stR_1, dr_int, dr_str, dr_bl, dr_non, dr_tup, dr_lst, dr_scr, dr_wd, dr_exn, dr_lstR, addD_ap, addQ_int, addQ_str, addQ_lst, addQ_tup, subD_int, negD_int, mulD_int, mulD_lst, fdivD_int, modD_int, powD_int, ltD_int, leD_int, gtD_int, geD_int, isn_lst, isn_non, eqB_str, eqB_int, eqD_ap, neD_ap, inB_wd, inB_chr, inD_ap, ninD_ap, omap_some, look_n, look_c, ixD_ap, ixQ_lst, ixQ_tup, ixQ_scr, ixQ_wd, ixQ_str, at_0, at_m1, at_m1c, at_p, rg2S_ap, r2R_ok, rg1S_ap, r1R_ok, rgD_ok', cut_m1, cut_pos, cut_posf, drop_0, drop_s, take_0, take_s, take_n, dl_1, dl_c, flat_rep, eq_self, Int.cast_ofNat_Int, lenD_ap, lenQ_lst, lenQ_scr, lenQ_tup, lenQ_str, intC_int, strC_str, strC_int, listC_lst, listC_tup, tupleC_lst, tupleC_tup, joinM_ap, splitM_ok, ofString_inj, List.length_cons, List.length_nil, List.length_append, List.length_map, Int.reduceNeg, Int.reduceAdd, Int.reduceSub, Int.reduceMul, Int.reduceMod, Int.reducePow, Int.reduceDiv, Int.reduceLE, Int.reduceLT, Int.reduceEq, Int.reduceToNat, Nat.reduceAdd, Nat.reduceSub, Nat.reduceLeDiff, Nat.reduceEqDiff, String.reduceEq, decide_true, decide_false, Bool.not_true, Bool.not_false, Bool.and_true, Bool.true_and, Bool.and_false, Bool.false_and, Bool.or_true, Bool.or_false, Bool.true_or, Bool.false_or, Option.isSome_some, Option.isSome_none, if_true, if_false, Bool.false_eq_true, Int.reduceBNe]) ?_
  refine seq_n1 (σ' := [some (.scr (ns.map .int)), some (.lst ds), some (.lst (l.map .int)), some (.tup (ms.map .int)), some (.tup (T.map .int)), none, none, none, none, none, none, none, none]) (by simp (disch := walk_at "ds") only [w1, rep_0, rep_s, get_0, get_s, set_0, set_s, app_n, app_c, map_n, map_c, wipe_n, wipe_c, rb_ok, rb_exc, ofO_some, rd_some, varS_ap, conS_ap, nilA_ap, consA_ap, consR_ok, consR_exc, consR_exc0, items_ap, items_lst, items_tup, items_scr, starA_ap, starR_ok, tupS_ap, tupR_ok, lstS_ap, lstR_ok, andS_ap, andR_t, andR_f, orS_ap, orR_t, orR_f, notS_ap, testS_ap, truR_bl, truR_int, ifS_ap, ifR_t, ifR_f, andT_ap, andW_t, andW_f, orT_ap, orW_t, orW_f, notT_ap, yesT_ap, tb1_ap, blR_bl, bin2_ap, b2R_ok, un1_ap, callB_ap, cbR_ok, chainS_ap, noP_ap, someP_ap, intR_ok, slS_ap, slR_ok, slD_ap, slQ_lst, slQ_tup, methS_ap, meR_ok, callS_ap, calR_ok, cal1_ok, cal1_exc, lcS_ap, lcR_ok, lcQ_ok, lcL_nil, lcL_yes, lcY_ok, lcZ_ok, itI_ap, itR_lst, itR_scr, itR_tup, itR_str, rng1I_ap, rn1R_ok, rng3I_ap, rn3R_up, zipI_ap, zpR_lst, zpR_tup, nameG_ap, nilG_ap, consG_ap, cgR_ok, tupG_2, tupG_3, seqS_ap, sqR_nx, sqR_ret, sqR_exc, passS_ap, retS_ap, retF_ap, reR_ok, reR_exc, asgS_ap, asR_ok, asR_exc, agR_ok, ownS_ap, owR_ok, iffS_ap, ifO_t, ifO_f, ifO_exc, expS_ap, exR_ok, exR_exc, forS_ap, foR_ok, forL_nil, forL_cons, flA_ok, flB_nx, appS_ap, apR_last, raiS_ap, rai1S_ap, raR_int, tryS_ap, trR_nx, trR_ret, trR_exc, starS_ap, stR_1, dr_int, dr_str, dr_bl, dr_non, dr_tup, dr_lst, dr_scr, dr_wd, dr_exn, dr_lstR, addD_ap, addQ_int, addQ_str, addQ_lst, addQ_tup, subD_int, negD_int, mulD_int, mulD_lst, fdivD_int, modD_int, powD_int, ltD_int, leD_int, gtD_int, geD_int, isn_lst, isn_non, eqB_str, eqB_int, eqD_ap, neD_ap, inB_wd, inB_chr, inD_ap, ninD_ap, omap_some, look_n, look_c, ixD_ap, ixQ_lst, ixQ_tup, ixQ_scr, ixQ_wd, ixQ_str, at_0, at_m1, at_m1c, at_p, rg2S_ap, r2R_ok, rg1S_ap, r1R_ok, rgD_ok', cut_m1, cut_pos, cut_posf, drop_0, drop_s, take_0, take_s, take_n, dl_1, dl_c, flat_rep, eq_self, Int.cast_ofNat_Int, lenD_ap, lenQ_lst, lenQ_scr, lenQ_tup, lenQ_str, intC_int, strC_str, strC_int, listC_lst, listC_tup, tupleC_lst, tupleC_tup, joinM_ap, splitM_ok, ofString_inj, List.length_cons, List.length_nil, List.length_append, List.length_map, Int.reduceNeg, Int.reduceAdd, Int.reduceSub, Int.reduceMul, Int.reduceMod, Int.reducePow, Int.reduceDiv, Int.reduceLE, Int.reduceLT, Int.reduceEq, Int.reduceToNat, Nat.reduceAdd, Nat.reduceSub, Nat.reduceLeDiff, Nat.reduceEqDiff, String.reduceEq, decide_true, decide_false, Bool.not_true, Bool.not_false, Bool.and_true, Bool.true_and, Bool.and_false, Bool.false_and, Bool.or_true, Bool.or_false, Bool.true_or, Bool.false_or, Option.isSome_some, Option.isSome_none, if_true, if_false, Bool.false_eq_true, Int.reduceBNe]) ?_
  refine seq_n1 (σ' := [some (.scr (ns.map .int)), some (.lst ds), some (.lst (l.map .int)), some (.tup (ms.map .int)), some (.tup (T.map .int)), none, none, none, none, none, none, none, none]) (by simp (disch := walk_at "ds") only [i1, hT ▸ lt, rep_0, rep_s, get_0, get_s, set_0, set_s, app_n, app_c, map_n, map_c, wipe_n, wipe_c, rb_ok, rb_exc, ofO_some, rd_some, varS_ap, conS_ap, nilA_ap, consA_ap, consR_ok, consR_exc, consR_exc0, items_ap, items_lst, items_tup, items_scr, starA_ap, starR_ok, tupS_ap, tupR_ok, lstS_ap, lstR_ok, andS_ap, andR_t, andR_f, orS_ap, orR_t, orR_f, notS_ap, testS_ap, truR_bl, truR_int, ifS_ap, ifR_t, ifR_f, andT_ap, andW_t, andW_f, orT_ap, orW_t, orW_f, notT_ap, yesT_ap, tb1_ap, blR_bl, bin2_ap, b2R_ok, un1_ap, callB_ap, cbR_ok, chainS_ap, noP_ap, someP_ap, intR_ok, slS_ap, slR_ok, slD_ap, slQ_lst, slQ_tup, methS_ap, meR_ok, callS_ap, calR_ok, cal1_ok, cal1_exc, lcS_ap, lcR_ok, lcQ_ok, lcL_nil, lcL_yes, lcY_ok, lcZ_ok, itI_ap, itR_lst, itR_scr, itR_tup, itR_str, rng1I_ap, rn1R_ok, rng3I_ap, rn3R_up, zipI_ap, zpR_lst, zpR_tup, nameG_ap, nilG_ap, consG_ap, cgR_ok, tupG_2, tupG_3, seqS_ap, sqR_nx, sqR_ret, sqR_exc, passS_ap, retS_ap, retF_ap, reR_ok, reR_exc, asgS_ap, asR_ok, asR_exc, agR_ok, ownS_ap, owR_ok, iffS_ap, ifO_t, ifO_f, ifO_exc, expS_ap, exR_ok, exR_exc, forS_ap, foR_ok, forL_nil, forL_cons, flA_ok, flB_nx, appS_ap, apR_last, raiS_ap, rai1S_ap, raR_int, tryS_ap, trR_nx, trR_ret, trR_exc, starS_ap, stR_1, dr_int, dr_str, dr_bl, dr_non, dr_tup, dr_lst, dr_scr, dr_wd, dr_exn, dr_lstR, addD_ap, addQ_int, addQ_str, addQ_lst, addQ_tup, subD_int, negD_int, mulD_int, mulD_lst, fdivD_int, modD_int, powD_int, ltD_int, leD_int, gtD_int, geD_int, isn_lst, isn_non, eqB_str, eqB_int, eqD_ap, neD_ap, inB_wd, inB_chr, inD_ap, ninD_ap, omap_some, look_n, look_c, ixD_ap, ixQ_lst, ixQ_tup, ixQ_scr, ixQ_wd, ixQ_str, at_0, at_m1, at_m1c, at_p, rg2S_ap, r2R_ok, rg1S_ap, r1R_ok, rgD_ok', cut_m1, cut_pos, cut_posf, drop_0, drop_s, take_0, take_s, take_n, dl_1, dl_c, flat_rep, eq_self, Int.cast_ofNat_Int, lenD_ap, lenQ_lst, lenQ_scr, lenQ_tup, lenQ_str, intC_int, strC_str, strC_int, listC_lst, listC_tup, tupleC_lst, tupleC_tup, joinM_ap, splitM_ok, ofString_inj, List.length_cons, List.length_nil, List.length_append, List.length_map, Int.reduceNeg, Int.reduceAdd, Int.reduceSub, Int.reduceMul, Int.reduceMod, Int.reducePow, Int.reduceDiv, Int.reduceLE, Int.reduceLT, Int.reduceEq, Int.reduceToNat, Nat.reduceAdd, Nat.reduceSub, Nat.reduceLeDiff, Nat.reduceEqDiff, String.reduceEq, decide_true, decide_false, Bool.not_true, Bool.not_false, Bool.and_true, Bool.true_and, Bool.and_false, Bool.false_and, Bool.or_true, Bool.or_false, Bool.true_or, Bool.false_or, Option.isSome_some, Option.isSome_none, if_true, if_false, Bool.false_eq_true, Int.reduceBNe]) ?_
  refine seq_n1 hloop ?_
  refine seq_n1 (σ' := [some (.scr (ns.map .int)), some (.lst ds), some (.lst (l.map .int)), some (.tup (ms.map .int)), some (.tup (T.map .int)), o5, o6, o7, some (.lst (l.map .int)), none, none, none, none]) (by walk_at "dd") ?_
  refine seq_n1 (σ' := [some (.scr (ns.map .int)), some (.lst ds), some (.lst (l.map .int)), some (.tup (ms.map .int)), some (.tup (T.map .int)), o5, o6, o7, some (.lst (l.map .int)), none, none, none, none]) (by simp (disch := walk_at "ds") only [w2, w3, eqB_tupI, eqB_lstI, rep_0, rep_s, get_0, get_s, set_0, set_s, app_n, app_c, map_n, map_c, wipe_n, wipe_c, rb_ok, rb_exc, ofO_some, rd_some, varS_ap, conS_ap, nilA_ap, consA_ap, consR_ok, consR_exc, consR_exc0, items_ap, items_lst, items_tup, items_scr, starA_ap, starR_ok, tupS_ap, tupR_ok, lstS_ap, lstR_ok, andS_ap, andR_t, andR_f, orS_ap, orR_t, orR_f, notS_ap, testS_ap, truR_bl, truR_int, ifS_ap, ifR_t, ifR_f, andT_ap, andW_t, andW_f, orT_ap, orW_t, orW_f, notT_ap, yesT_ap, tb1_ap, blR_bl, bin2_ap, b2R_ok, un1_ap, callB_ap, cbR_ok, chainS_ap, noP_ap, someP_ap, intR_ok, slS_ap, slR_ok, slD_ap, slQ_lst, slQ_tup, methS_ap, meR_ok, callS_ap, calR_ok, cal1_ok, cal1_exc, lcS_ap, lcR_ok, lcQ_ok, lcL_nil, lcL_yes, lcY_ok, lcZ_ok, itI_ap, itR_lst, itR_scr, itR_tup, itR_str, rng1I_ap, rn1R_ok, rng3I_ap, rn3R_up, zipI_ap, zpR_lst, zpR_tup, nameG_ap, nilG_ap, consG_ap, cgR_ok, tupG_2, tupG_3, seqS_ap, sqR_nx, sqR_ret, sqR_exc, passS_ap, retS_ap, retF_ap, reR_ok, reR_exc, asgS_ap, asR_ok, asR_exc, agR_ok, ownS_ap, owR_ok, iffS_ap, ifO_t, ifO_f, ifO_exc, expS_ap, exR_ok, exR_exc, forS_ap, foR_ok, forL_nil, forL_cons, flA_ok, flB_nx, appS_ap, apR_last, raiS_ap, rai1S_ap, raR_int, tryS_ap, trR_nx, trR_ret, trR_exc, starS_ap, stR_1, dr_int, dr_str, dr_bl, dr_non, dr_tup, dr_lst, dr_scr, dr_wd, dr_exn, dr_lstR, addD_ap, addQ_int, addQ_str, addQ_lst, addQ_tup, subD_int, negD_int, mulD_int, mulD_lst, fdivD_int, modD_int, powD_int, ltD_int, leD_int, gtD_int, geD_int, isn_lst, isn_non, eqB_str, eqB_int, eqD_ap, neD_ap, inB_wd, inB_chr, inD_ap, ninD_ap, omap_some, look_n, look_c, ixD_ap, ixQ_lst, ixQ_tup, ixQ_scr, ixQ_wd, ixQ_str, at_0, at_m1, at_m1c, at_p, rg2S_ap, r2R_ok, rg1S_ap, r1R_ok, rgD_ok', cut_m1, cut_pos, cut_posf, drop_0, drop_s, take_0, take_s, take_n, dl_1, dl_c, flat_rep, eq_self, Int.cast_ofNat_Int, lenD_ap, lenQ_lst, lenQ_scr, lenQ_tup, lenQ_str, intC_int, strC_str, strC_int, listC_lst, listC_tup, tupleC_lst, tupleC_tup, joinM_ap, splitM_ok, ofString_inj, List.length_cons, List.length_nil, List.length_append, List.length_map, Int.reduceNeg, Int.reduceAdd, Int.reduceSub, Int.reduceMul, Int.reduceMod, Int.reducePow, Int.reduceDiv, Int.reduceLE, Int.reduceLT, Int.reduceEq, Int.reduceToNat, Nat.reduceAdd, Nat.reduceSub, Nat.reduceLeDiff, Nat.reduceEqDiff, String.reduceEq, decide_true, decide_false, Bool.not_true, Bool.not_false, Bool.and_true, Bool.true_and, Bool.and_false, Bool.false_and, Bool.or_true, Bool.or_false, Bool.true_or, Bool.false_or, Option.isSome_some, Option.isSome_none, if_true, if_false, Bool.false_eq_true, Int.reduceBNe]) ?_
  refine seq_n1 (σ' := [some (.scr (ns.map .int)), some (.lst ds), some (.lst (l.map .int)), some (.tup (ms.map .int)), some (.tup (T.map .int)), o5, o6, o7, some (.lst (l.map .int)), none, none, none, none]) (by simp (disch := walk_at "ds") only [w4, hlc, eqB_tupI, rep_0, rep_s, get_0, get_s, set_0, set_s, app_n, app_c, map_n, map_c, wipe_n, wipe_c, rb_ok, rb_exc, ofO_some, rd_some, varS_ap, conS_ap, nilA_ap, consA_ap, consR_ok, consR_exc, consR_exc0, items_ap, items_lst, items_tup, items_scr, starA_ap, starR_ok, tupS_ap, tupR_ok, lstS_ap, lstR_ok, andS_ap, andR_t, andR_f, orS_ap, orR_t, orR_f, notS_ap, testS_ap, truR_bl, truR_int, ifS_ap, ifR_t, ifR_f, andT_ap, andW_t, andW_f, orT_ap, orW_t, orW_f, notT_ap, yesT_ap, tb1_ap, blR_bl, bin2_ap, b2R_ok, un1_ap, callB_ap, cbR_ok, chainS_ap, noP_ap, someP_ap, intR_ok, slS_ap, slR_ok, slD_ap, slQ_lst, slQ_tup, methS_ap, meR_ok, callS_ap, calR_ok, cal1_ok, cal1_exc, lcS_ap, lcR_ok, lcQ_ok, lcL_nil, lcL_yes, lcY_ok, lcZ_ok, itI_ap, itR_lst, itR_scr, itR_tup, itR_str, rng1I_ap, rn1R_ok, rng3I_ap, rn3R_up, zipI_ap, zpR_lst, zpR_tup, nameG_ap, nilG_ap, consG_ap, cgR_ok, tupG_2, tupG_3, seqS_ap, sqR_nx, sqR_ret, sqR_exc, passS_ap, retS_ap, retF_ap, reR_ok, reR_exc, asgS_ap, asR_ok, asR_exc, agR_ok, ownS_ap, owR_ok, iffS_ap, ifO_t, ifO_f, ifO_exc, expS_ap, exR_ok, exR_exc, forS_ap, foR_ok, forL_nil, forL_cons, flA_ok, flB_nx, appS_ap, apR_last, raiS_ap, rai1S_ap, raR_int, tryS_ap, trR_nx, trR_ret, trR_exc, starS_ap, stR_1, dr_int, dr_str, dr_bl, dr_non, dr_tup, dr_lst, dr_scr, dr_wd, dr_exn, dr_lstR, addD_ap, addQ_int, addQ_str, addQ_lst, addQ_tup, subD_int, negD_int, mulD_int, mulD_lst, fdivD_int, modD_int, powD_int, ltD_int, leD_int, gtD_int, geD_int, isn_lst, isn_non, eqB_str, eqB_int, eqD_ap, neD_ap, inB_wd, inB_chr, inD_ap, ninD_ap, omap_some, look_n, look_c, ixD_ap, ixQ_lst, ixQ_tup, ixQ_scr, ixQ_wd, ixQ_str, at_0, at_m1, at_m1c, at_p, rg2S_ap, r2R_ok, rg1S_ap, r1R_ok, rgD_ok', cut_m1, cut_pos, cut_posf, drop_0, drop_s, take_0, take_s, take_n, dl_1, dl_c, flat_rep, eq_self, Int.cast_ofNat_Int, lenD_ap, lenQ_lst, lenQ_scr, lenQ_tup, lenQ_str, intC_int, strC_str, strC_int, listC_lst, listC_tup, tupleC_lst, tupleC_tup, joinM_ap, splitM_ok, ofString_inj, List.length_cons, List.length_nil, List.length_append, List.length_map, Int.reduceNeg, Int.reduceAdd, Int.reduceSub, Int.reduceMul, Int.reduceMod, Int.reducePow, Int.reduceDiv, Int.reduceLE, Int.reduceLT, Int.reduceEq, Int.reduceToNat, Nat.reduceAdd, Nat.reduceSub, Nat.reduceLeDiff, Nat.reduceEqDiff, String.reduceEq, decide_true, decide_false, Bool.not_true, Bool.not_false, Bool.and_true, Bool.true_and, Bool.and_false, Bool.false_and, Bool.or_true, Bool.or_false, Bool.true_or, Bool.false_or, Option.isSome_some, Option.isSome_none, if_true, if_false, Bool.false_eq_true, Int.reduceBNe]) ?_
  have ec : eqB [] (.tup (ms.map .int)) (.tup []) = some (decide (ms = [])) := eqB_tupI (l := ms) (m := [])
  by_cases e0 : ms = []
  · rw [e0] at ec ⊢
    have ec : eqB [] (.tup []) (.tup []) = some true := by simpa using ec
    simp (disch := walk_at "ds") only [ec, rep_0, rep_s, get_0, get_s, set_0, set_s, app_n, app_c, map_n, map_c, wipe_n, wipe_c, rb_ok, rb_exc, ofO_some, rd_some, varS_ap, conS_ap, nilA_ap, consA_ap, consR_ok, consR_exc, consR_exc0, items_ap, items_lst, items_tup, items_scr, starA_ap, starR_ok, tupS_ap, tupR_ok, lstS_ap, lstR_ok, andS_ap, andR_t, andR_f, orS_ap, orR_t, orR_f, notS_ap, testS_ap, truR_bl, truR_int, ifS_ap, ifR_t, ifR_f, andT_ap, andW_t, andW_f, orT_ap, orW_t, orW_f, notT_ap, yesT_ap, tb1_ap, blR_bl, bin2_ap, b2R_ok, un1_ap, callB_ap, cbR_ok, chainS_ap, noP_ap, someP_ap, intR_ok, slS_ap, slR_ok, slD_ap, slQ_lst, slQ_tup, methS_ap, meR_ok, callS_ap, calR_ok, cal1_ok, cal1_exc, lcS_ap, lcR_ok, lcQ_ok, lcL_nil, lcL_yes, lcY_ok, lcZ_ok, itI_ap, itR_lst, itR_scr, itR_tup, itR_str, rng1I_ap, rn1R_ok, rng3I_ap, rn3R_up, zipI_ap, zpR_lst, zpR_tup, nameG_ap, nilG_ap, consG_ap, cgR_ok, tupG_2, tupG_3, seqS_ap, sqR_nx, sqR_ret, sqR_exc, passS_ap, retS_ap, retF_ap, reR_ok, reR_exc, asgS_ap, asR_ok, asR_exc, agR_ok, ownS_ap, owR_ok, iffS_ap, ifO_t, ifO_f, ifO_exc, expS_ap, exR_ok, exR_exc, forS_ap, foR_ok, forL_nil, forL_cons, flA_ok, flB_nx, appS_ap, apR_last, raiS_ap, rai1S_ap, raR_int, tryS_ap, trR_nx, trR_ret, trR_exc, starS_ap, stR_1, dr_int, dr_str, dr_bl, dr_non, dr_tup, dr_lst, dr_scr, dr_wd, dr_exn, dr_lstR, addD_ap, addQ_int, addQ_str, addQ_lst, addQ_tup, subD_int, negD_int, mulD_int, mulD_lst, fdivD_int, modD_int, powD_int, ltD_int, leD_int, gtD_int, geD_int, isn_lst, isn_non, eqB_str, eqB_int, eqD_ap, neD_ap, inB_wd, inB_chr, inD_ap, ninD_ap, omap_some, look_n, look_c, ixD_ap, ixQ_lst, ixQ_tup, ixQ_scr, ixQ_wd, ixQ_str, at_0, at_m1, at_m1c, at_p, rg2S_ap, r2R_ok, rg1S_ap, r1R_ok, rgD_ok', cut_m1, cut_pos, cut_posf, drop_0, drop_s, take_0, take_s, take_n, dl_1, dl_c, flat_rep, eq_self, Int.cast_ofNat_Int, lenD_ap, lenQ_lst, lenQ_scr, lenQ_tup, lenQ_str, intC_int, strC_str, strC_int, listC_lst, listC_tup, tupleC_lst, tupleC_tup, joinM_ap, splitM_ok, ofString_inj, List.length_cons, List.length_nil, List.length_append, List.length_map, Int.reduceNeg, Int.reduceAdd, Int.reduceSub, Int.reduceMul, Int.reduceMod, Int.reducePow, Int.reduceDiv, Int.reduceLE, Int.reduceLT, Int.reduceEq, Int.reduceToNat, Nat.reduceAdd, Nat.reduceSub, Nat.reduceLeDiff, Nat.reduceEqDiff, String.reduceEq, decide_true, decide_false, Bool.not_true, Bool.not_false, Bool.and_true, Bool.true_and, Bool.and_false, Bool.false_and, Bool.or_true, Bool.or_false, Bool.true_or, Bool.false_or, Option.isSome_some, Option.isSome_none, if_true, if_false, Bool.false_eq_true, Int.reduceBNe]
  · have ec : eqB [] (.tup (ms.map .int)) (.tup []) = some false := by rw [ec]; simp [e0]
    refine seq_n1 (σ' := [some (.scr (ns.map .int)), some (.lst ds), some (.lst (l.map .int)), some (.tup (ms.map .int)), some (.tup (T.map .int)), o5, o6, o7, some (.lst (l.map .int)), none, none, none, none]) (by simp (disch := walk_at "ds") only [ec, rep_0, rep_s, get_0, get_s, set_0, set_s, app_n, app_c, map_n, map_c, wipe_n, wipe_c, rb_ok, rb_exc, ofO_some, rd_some, varS_ap, conS_ap, nilA_ap, consA_ap, consR_ok, consR_exc, consR_exc0, items_ap, items_lst, items_tup, items_scr, starA_ap, starR_ok, tupS_ap, tupR_ok, lstS_ap, lstR_ok, andS_ap, andR_t, andR_f, orS_ap, orR_t, orR_f, notS_ap, testS_ap, truR_bl, truR_int, ifS_ap, ifR_t, ifR_f, andT_ap, andW_t, andW_f, orT_ap, orW_t, orW_f, notT_ap, yesT_ap, tb1_ap, blR_bl, bin2_ap, b2R_ok, un1_ap, callB_ap, cbR_ok, chainS_ap, noP_ap, someP_ap, intR_ok, slS_ap, slR_ok, slD_ap, slQ_lst, slQ_tup, methS_ap, meR_ok, callS_ap, calR_ok, cal1_ok, cal1_exc, lcS_ap, lcR_ok, lcQ_ok, lcL_nil, lcL_yes, lcY_ok, lcZ_ok, itI_ap, itR_lst, itR_scr, itR_tup, itR_str, rng1I_ap, rn1R_ok, rng3I_ap, rn3R_up, zipI_ap, zpR_lst, zpR_tup, nameG_ap, nilG_ap, consG_ap, cgR_ok, tupG_2, tupG_3, seqS_ap, sqR_nx, sqR_ret, sqR_exc, passS_ap, retS_ap, retF_ap, reR_ok, reR_exc, asgS_ap, asR_ok, asR_exc, agR_ok, ownS_ap, owR_ok, iffS_ap, ifO_t, ifO_f, ifO_exc, expS_ap, exR_ok, exR_exc, forS_ap, foR_ok, forL_nil, forL_cons, flA_ok, flB_nx, appS_ap, apR_last, raiS_ap, rai1S_ap, raR_int, tryS_ap, trR_nx, trR_ret, trR_exc, starS_ap, stR_1, dr_int, dr_str, dr_bl, dr_non, dr_tup, dr_lst, dr_scr, dr_wd, dr_exn, dr_lstR, addD_ap, addQ_int, addQ_str, addQ_lst, addQ_tup, subD_int, negD_int, mulD_int, mulD_lst, fdivD_int, modD_int, powD_int, ltD_int, leD_int, gtD_int, geD_int, isn_lst, isn_non, eqB_str, eqB_int, eqD_ap, neD_ap, inB_wd, inB_chr, inD_ap, ninD_ap, omap_some, look_n, look_c, ixD_ap, ixQ_lst, ixQ_tup, ixQ_scr, ixQ_wd, ixQ_str, at_0, at_m1, at_m1c, at_p, rg2S_ap, r2R_ok, rg1S_ap, r1R_ok, rgD_ok', cut_m1, cut_pos, cut_posf, drop_0, drop_s, take_0, take_s, take_n, dl_1, dl_c, flat_rep, eq_self, Int.cast_ofNat_Int, lenD_ap, lenQ_lst, lenQ_scr, lenQ_tup, lenQ_str, intC_int, strC_str, strC_int, listC_lst, listC_tup, tupleC_lst, tupleC_tup, joinM_ap, splitM_ok, ofString_inj, List.length_cons, List.length_nil, List.length_append, List.length_map, Int.reduceNeg, Int.reduceAdd, Int.reduceSub, Int.reduceMul, Int.reduceMod, Int.reducePow, Int.reduceDiv, Int.reduceLE, Int.reduceLT, Int.reduceEq, Int.reduceToNat, Nat.reduceAdd, Nat.reduceSub, Nat.reduceLeDiff, Nat.reduceEqDiff, String.reduceEq, decide_true, decide_false, Bool.not_true, Bool.not_false, Bool.and_true, Bool.true_and, Bool.and_false, Bool.false_and, Bool.or_true, Bool.or_false, Bool.true_or, Bool.false_or, Option.isSome_some, Option.isSome_none, if_true, if_false, Bool.false_eq_true, Int.reduceBNe]) ?_
    have hpos : 0 < ms.length := List.length_pos_iff.mpr e0
    have hk0 : 0 ≤ x8 % (ms.length : Int) := Int.emod_nonneg _ (by omega)
    have hk2 : x8 % (ms.length : Int) < ms.length := Int.emod_lt_of_pos _ (by omega)
    obtain ⟨k, hk3⟩ : ∃ k : Nat, x8 % (ms.length : Int) = k := ⟨(x8 % (ms.length : Int)).toNat, by omega⟩
    have hkl : k < ms.length := by omega
    have hmd : modD [] (.int x8) (.int (ms.length : Int)) = some (.int k) := by
      rw [← hk3]
      show (if 0 < (ms.length : Int) then some (D.int (x8 % (ms.length : Int))) else none) = _
      rw [if_pos (by omega)]
    refine seq_n1 (σ' := [some (.scr (ns.map .int)), some (.lst ds), some (.lst (l.map .int)), some (.tup (ms.map .int)), some (.tup (T.map .int)), o5, o6, o7, some (.lst (l.map .int)), some (.int k), none, none, none]) (by simp (disch := walk_at "ds") only [at8, hmd, rep_0, rep_s, get_0, get_s, set_0, set_s, app_n, app_c, map_n, map_c, wipe_n, wipe_c, rb_ok, rb_exc, ofO_some, rd_some, varS_ap, conS_ap, nilA_ap, consA_ap, consR_ok, consR_exc, consR_exc0, items_ap, items_lst, items_tup, items_scr, starA_ap, starR_ok, tupS_ap, tupR_ok, lstS_ap, lstR_ok, andS_ap, andR_t, andR_f, orS_ap, orR_t, orR_f, notS_ap, testS_ap, truR_bl, truR_int, ifS_ap, ifR_t, ifR_f, andT_ap, andW_t, andW_f, orT_ap, orW_t, orW_f, notT_ap, yesT_ap, tb1_ap, blR_bl, bin2_ap, b2R_ok, un1_ap, callB_ap, cbR_ok, chainS_ap, noP_ap, someP_ap, intR_ok, slS_ap, slR_ok, slD_ap, slQ_lst, slQ_tup, methS_ap, meR_ok, callS_ap, calR_ok, cal1_ok, cal1_exc, lcS_ap, lcR_ok, lcQ_ok, lcL_nil, lcL_yes, lcY_ok, lcZ_ok, itI_ap, itR_lst, itR_scr, itR_tup, itR_str, rng1I_ap, rn1R_ok, rng3I_ap, rn3R_up, zipI_ap, zpR_lst, zpR_tup, nameG_ap, nilG_ap, consG_ap, cgR_ok, tupG_2, tupG_3, seqS_ap, sqR_nx, sqR_ret, sqR_exc, passS_ap, retS_ap, retF_ap, reR_ok, reR_exc, asgS_ap, asR_ok, asR_exc, agR_ok, ownS_ap, owR_ok, iffS_ap, ifO_t, ifO_f, ifO_exc, expS_ap, exR_ok, exR_exc, forS_ap, foR_ok, forL_nil, forL_cons, flA_ok, flB_nx, appS_ap, apR_last, raiS_ap, rai1S_ap, raR_int, tryS_ap, trR_nx, trR_ret, trR_exc, starS_ap, stR_1, dr_int, dr_str, dr_bl, dr_non, dr_tup, dr_lst, dr_scr, dr_wd, dr_exn, dr_lstR, addD_ap, addQ_int, addQ_str, addQ_lst, addQ_tup, subD_int, negD_int, mulD_int, mulD_lst, fdivD_int, modD_int, powD_int, ltD_int, leD_int, gtD_int, geD_int, isn_lst, isn_non, eqB_str, eqB_int, eqD_ap, neD_ap, inB_wd, inB_chr, inD_ap, ninD_ap, omap_some, look_n, look_c, ixD_ap, ixQ_lst, ixQ_tup, ixQ_scr, ixQ_wd, ixQ_str, at_0, at_m1, at_m1c, at_p, rg2S_ap, r2R_ok, rg1S_ap, r1R_ok, rgD_ok', cut_m1, cut_pos, cut_posf, drop_0, drop_s, take_0, take_s, take_n, dl_1, dl_c, flat_rep, eq_self, Int.cast_ofNat_Int, lenD_ap, lenQ_lst, lenQ_scr, lenQ_tup, lenQ_str, intC_int, strC_str, strC_int, listC_lst, listC_tup, tupleC_lst, tupleC_tup, joinM_ap, splitM_ok, ofString_inj, List.length_cons, List.length_nil, List.length_append, List.length_map, Int.reduceNeg, Int.reduceAdd, Int.reduceSub, Int.reduceMul, Int.reduceMod, Int.reducePow, Int.reduceDiv, Int.reduceLE, Int.reduceLT, Int.reduceEq, Int.reduceToNat, Nat.reduceAdd, Nat.reduceSub, Nat.reduceLeDiff, Nat.reduceEqDiff, String.reduceEq, decide_true, decide_false, Bool.not_true, Bool.not_false, Bool.and_true, Bool.true_and, Bool.and_false, Bool.false_and, Bool.or_true, Bool.or_false, Bool.true_or, Bool.false_or, Option.isSome_some, Option.isSome_none, if_true, if_false, Bool.false_eq_true, Int.reduceBNe]) ?_
    have hc1 : cutL (ms.map D.int) none (some ((k : Int) + 1)) = (ms.take (k + 1)).map .int := by rw [show (k : Int) + 1 = ((k + 1 : Nat) : Int) by omega, cut_to, List.map_take]
    have hc2 : cutL (ms.map D.int) (some (k : Int)) none = (ms.drop k).map .int := by rw [cut_from, List.map_drop]
    have hbad : ∃ bad : List Int, bad = ms.take (k + 1) ++ ms.drop k ∧ badM bad = true ∧ bad.length ≤ 1000 := by
      refine ⟨_, rfl, ?_, by simp; omega⟩
      rw [List.take_add_one, List.getElem?_eq_getElem hkl, List.drop_eq_getElem_cons hkl]
      simp only [Option.toList_some, List.append_assoc, List.cons_append, List.nil_append]
      exact badM_at _ (Int.le_refl _)
    obtain ⟨bad, hbe, hbt, hbl⟩ := hbad
    have hbm2 : (ms.take (k + 1)).map D.int ++ (ms.drop k).map D.int = bad.map .int := by rw [hbe, List.map_append]
    refine seq_n1 (σ' := [some (.scr (ns.map .int)), some (.lst ds), some (.lst (l.map .int)), some (.tup (ms.map .int)), some (.tup (T.map .int)), o5, o6, o7, some (.lst (l.map .int)), some (.int k), some (.lst (bad.map .int)), none, none]) (by simp (disch := walk_at "ds") only [hc1, hc2, hbm2, rep_0, rep_s, get_0, get_s, set_0, set_s, app_n, app_c, map_n, map_c, wipe_n, wipe_c, rb_ok, rb_exc, ofO_some, rd_some, varS_ap, conS_ap, nilA_ap, consA_ap, consR_ok, consR_exc, consR_exc0, items_ap, items_lst, items_tup, items_scr, starA_ap, starR_ok, tupS_ap, tupR_ok, lstS_ap, lstR_ok, andS_ap, andR_t, andR_f, orS_ap, orR_t, orR_f, notS_ap, testS_ap, truR_bl, truR_int, ifS_ap, ifR_t, ifR_f, andT_ap, andW_t, andW_f, orT_ap, orW_t, orW_f, notT_ap, yesT_ap, tb1_ap, blR_bl, bin2_ap, b2R_ok, un1_ap, callB_ap, cbR_ok, chainS_ap, noP_ap, someP_ap, intR_ok, slS_ap, slR_ok, slD_ap, slQ_lst, slQ_tup, methS_ap, meR_ok, callS_ap, calR_ok, cal1_ok, cal1_exc, lcS_ap, lcR_ok, lcQ_ok, lcL_nil, lcL_yes, lcY_ok, lcZ_ok, itI_ap, itR_lst, itR_scr, itR_tup, itR_str, rng1I_ap, rn1R_ok, rng3I_ap, rn3R_up, zipI_ap, zpR_lst, zpR_tup, nameG_ap, nilG_ap, consG_ap, cgR_ok, tupG_2, tupG_3, seqS_ap, sqR_nx, sqR_ret, sqR_exc, passS_ap, retS_ap, retF_ap, reR_ok, reR_exc, asgS_ap, asR_ok, asR_exc, agR_ok, ownS_ap, owR_ok, iffS_ap, ifO_t, ifO_f, ifO_exc, expS_ap, exR_ok, exR_exc, forS_ap, foR_ok, forL_nil, forL_cons, flA_ok, flB_nx, appS_ap, apR_last, raiS_ap, rai1S_ap, raR_int, tryS_ap, trR_nx, trR_ret, trR_exc, starS_ap, stR_1, dr_int, dr_str, dr_bl, dr_non, dr_tup, dr_lst, dr_scr, dr_wd, dr_exn, dr_lstR, addD_ap, addQ_int, addQ_str, addQ_lst, addQ_tup, subD_int, negD_int, mulD_int, mulD_lst, fdivD_int, modD_int, powD_int, ltD_int, leD_int, gtD_int, geD_int, isn_lst, isn_non, eqB_str, eqB_int, eqD_ap, neD_ap, inB_wd, inB_chr, inD_ap, ninD_ap, omap_some, look_n, look_c, ixD_ap, ixQ_lst, ixQ_tup, ixQ_scr, ixQ_wd, ixQ_str, at_0, at_m1, at_m1c, at_p, rg2S_ap, r2R_ok, rg1S_ap, r1R_ok, rgD_ok', cut_m1, cut_pos, cut_posf, drop_0, drop_s, take_0, take_s, take_n, dl_1, dl_c, flat_rep, eq_self, Int.cast_ofNat_Int, lenD_ap, lenQ_lst, lenQ_scr, lenQ_tup, lenQ_str, intC_int, strC_str, strC_int, listC_lst, listC_tup, tupleC_lst, tupleC_tup, joinM_ap, splitM_ok, ofString_inj, List.length_cons, List.length_nil, List.length_append, List.length_map, Int.reduceNeg, Int.reduceAdd, Int.reduceSub, Int.reduceMul, Int.reduceMod, Int.reducePow, Int.reduceDiv, Int.reduceLE, Int.reduceLT, Int.reduceEq, Int.reduceToNat, Nat.reduceAdd, Nat.reduceSub, Nat.reduceLeDiff, Nat.reduceEqDiff, String.reduceEq, decide_true, decide_false, Bool.not_true, Bool.not_false, Bool.and_true, Bool.true_and, Bool.and_false, Bool.false_and, Bool.or_true, Bool.or_false, Bool.true_or, Bool.false_or, Option.isSome_some, Option.isSome_none, if_true, if_false, Bool.false_eq_true, Int.reduceBNe]) ?_
    have f1 := r_refused (n := 7) (ρ := []) (a := .lst (l.map .int)) (d := .lst (bad.map .int)) (.inl rfl) hbl hbt
    have f2 := r_refused (n := 7) (ρ := []) (a := .lst (l.map .int)) (d := .tup (bad.map .int)) (.inr rfl) hbl hbt
    have et : eqB [] (.tup []) (.tup []) = some true := by
      have := eqB_tupI (ρ := []) (l := []) (m := [])
      simpa using this
    have w5 : run Tb 10 2 (fun _ => false) [] [.lst [], .tup (ms.map .int)] = .ok false (.tup []) [] := w5
    have last : ∀ o11 : Option D, retS (andS (callS (run Tb 10) 10 [] (consA (varS 2) (consA (varS 10) nilA))) (andS (callS (run Tb 10) 10 [] (consA (varS 2) (consA (callB tupleC (consA (varS 10) nilA)) nilA))) (bin2 eqD (callS (run Tb 10) 2 [] (consA (lstS nilA) (consA (varS 3) nilA))) (tupS nilA)))) (fun r => decide (([] : List D).length ≤ r)) [] [some (.scr (ns.map .int)), some (.lst ds), some (.lst (l.map .int)), some (.tup (ms.map .int)), some (.tup (T.map .int)), o5, o6, o7, some (.lst (l.map .int)), some (.int k), some (.lst (bad.map .int)), o11, none] = .ret false (.bl true) [] := by
      intro o11
      simp (disch := walk_at "ds") only [f1, f2, w5, et, rep_0, rep_s, get_0, get_s, set_0, set_s, app_n, app_c, map_n, map_c, wipe_n, wipe_c, rb_ok, rb_exc, ofO_some, rd_some, varS_ap, conS_ap, nilA_ap, consA_ap, consR_ok, consR_exc, consR_exc0, items_ap, items_lst, items_tup, items_scr, starA_ap, starR_ok, tupS_ap, tupR_ok, lstS_ap, lstR_ok, andS_ap, andR_t, andR_f, orS_ap, orR_t, orR_f, notS_ap, testS_ap, truR_bl, truR_int, ifS_ap, ifR_t, ifR_f, andT_ap, andW_t, andW_f, orT_ap, orW_t, orW_f, notT_ap, yesT_ap, tb1_ap, blR_bl, bin2_ap, b2R_ok, un1_ap, callB_ap, cbR_ok, chainS_ap, noP_ap, someP_ap, intR_ok, slS_ap, slR_ok, slD_ap, slQ_lst, slQ_tup, methS_ap, meR_ok, callS_ap, calR_ok, cal1_ok, cal1_exc, lcS_ap, lcR_ok, lcQ_ok, lcL_nil, lcL_yes, lcY_ok, lcZ_ok, itI_ap, itR_lst, itR_scr, itR_tup, itR_str, rng1I_ap, rn1R_ok, rng3I_ap, rn3R_up, zipI_ap, zpR_lst, zpR_tup, nameG_ap, nilG_ap, consG_ap, cgR_ok, tupG_2, tupG_3, seqS_ap, sqR_nx, sqR_ret, sqR_exc, passS_ap, retS_ap, retF_ap, reR_ok, reR_exc, asgS_ap, asR_ok, asR_exc, agR_ok, ownS_ap, owR_ok, iffS_ap, ifO_t, ifO_f, ifO_exc, expS_ap, exR_ok, exR_exc, forS_ap, foR_ok, forL_nil, forL_cons, flA_ok, flB_nx, appS_ap, apR_last, raiS_ap, rai1S_ap, raR_int, tryS_ap, trR_nx, trR_ret, trR_exc, starS_ap, stR_1, dr_int, dr_str, dr_bl, dr_non, dr_tup, dr_lst, dr_scr, dr_wd, dr_exn, dr_lstR, addD_ap, addQ_int, addQ_str, addQ_lst, addQ_tup, subD_int, negD_int, mulD_int, mulD_lst, fdivD_int, modD_int, powD_int, ltD_int, leD_int, gtD_int, geD_int, isn_lst, isn_non, eqB_str, eqB_int, eqD_ap, neD_ap, inB_wd, inB_chr, inD_ap, ninD_ap, omap_some, look_n, look_c, ixD_ap, ixQ_lst, ixQ_tup, ixQ_scr, ixQ_wd, ixQ_str, at_0, at_m1, at_m1c, at_p, rg2S_ap, r2R_ok, rg1S_ap, r1R_ok, rgD_ok', cut_m1, cut_pos, cut_posf, drop_0, drop_s, take_0, take_s, take_n, dl_1, dl_c, flat_rep, eq_self, Int.cast_ofNat_Int, lenD_ap, lenQ_lst, lenQ_scr, lenQ_tup, lenQ_str, intC_int, strC_str, strC_int, listC_lst, listC_tup, tupleC_lst, tupleC_tup, joinM_ap, splitM_ok, ofString_inj, List.length_cons, List.length_nil, List.length_append, List.length_map, Int.reduceNeg, Int.reduceAdd, Int.reduceSub, Int.reduceMul, Int.reduceMod, Int.reducePow, Int.reduceDiv, Int.reduceLE, Int.reduceLT, Int.reduceEq, Int.reduceToNat, Nat.reduceAdd, Nat.reduceSub, Nat.reduceLeDiff, Nat.reduceEqDiff, String.reduceEq, decide_true, decide_false, Bool.not_true, Bool.not_false, Bool.and_true, Bool.true_and, Bool.and_false, Bool.false_and, Bool.or_true, Bool.or_false, Bool.true_or, Bool.false_or, Option.isSome_some, Option.isSome_none, if_true, if_false, Bool.false_eq_true, Int.reduceBNe]
    by_cases hk : k = 0
    · subst hk
      exact seq_n1 (σ' := [some (.scr (ns.map .int)), some (.lst ds), some (.lst (l.map .int)), some (.tup (ms.map .int)), some (.tup (T.map .int)), o5, o6, o7, some (.lst (l.map .int)), some (.int ((0 : Nat) : Int)), some (.lst (bad.map .int)), none, none]) (by simp (disch := walk_at "ds") only [Int.natCast_zero, rep_0, rep_s, get_0, get_s, set_0, set_s, app_n, app_c, map_n, map_c, wipe_n, wipe_c, rb_ok, rb_exc, ofO_some, rd_some, varS_ap, conS_ap, nilA_ap, consA_ap, consR_ok, consR_exc, consR_exc0, items_ap, items_lst, items_tup, items_scr, starA_ap, starR_ok, tupS_ap, tupR_ok, lstS_ap, lstR_ok, andS_ap, andR_t, andR_f, orS_ap, orR_t, orR_f, notS_ap, testS_ap, truR_bl, truR_int, ifS_ap, ifR_t, ifR_f, andT_ap, andW_t, andW_f, orT_ap, orW_t, orW_f, notT_ap, yesT_ap, tb1_ap, blR_bl, bin2_ap, b2R_ok, un1_ap, callB_ap, cbR_ok, chainS_ap, noP_ap, someP_ap, intR_ok, slS_ap, slR_ok, slD_ap, slQ_lst, slQ_tup, methS_ap, meR_ok, callS_ap, calR_ok, cal1_ok, cal1_exc, lcS_ap, lcR_ok, lcQ_ok, lcL_nil, lcL_yes, lcY_ok, lcZ_ok, itI_ap, itR_lst, itR_scr, itR_tup, itR_str, rng1I_ap, rn1R_ok, rng3I_ap, rn3R_up, zipI_ap, zpR_lst, zpR_tup, nameG_ap, nilG_ap, consG_ap, cgR_ok, tupG_2, tupG_3, seqS_ap, sqR_nx, sqR_ret, sqR_exc, passS_ap, retS_ap, retF_ap, reR_ok, reR_exc, asgS_ap, asR_ok, asR_exc, agR_ok, ownS_ap, owR_ok, iffS_ap, ifO_t, ifO_f, ifO_exc, expS_ap, exR_ok, exR_exc, forS_ap, foR_ok, forL_nil, forL_cons, flA_ok, flB_nx, appS_ap, apR_last, raiS_ap, rai1S_ap, raR_int, tryS_ap, trR_nx, trR_ret, trR_exc, starS_ap, stR_1, dr_int, dr_str, dr_bl, dr_non, dr_tup, dr_lst, dr_scr, dr_wd, dr_exn, dr_lstR, addD_ap, addQ_int, addQ_str, addQ_lst, addQ_tup, subD_int, negD_int, mulD_int, mulD_lst, fdivD_int, modD_int, powD_int, ltD_int, leD_int, gtD_int, geD_int, isn_lst, isn_non, eqB_str, eqB_int, eqD_ap, neD_ap, inB_wd, inB_chr, inD_ap, ninD_ap, omap_some, look_n, look_c, ixD_ap, ixQ_lst, ixQ_tup, ixQ_scr, ixQ_wd, ixQ_str, at_0, at_m1, at_m1c, at_p, rg2S_ap, r2R_ok, rg1S_ap, r1R_ok, rgD_ok', cut_m1, cut_pos, cut_posf, drop_0, drop_s, take_0, take_s, take_n, dl_1, dl_c, flat_rep, eq_self, Int.cast_ofNat_Int, lenD_ap, lenQ_lst, lenQ_scr, lenQ_tup, lenQ_str, intC_int, strC_str, strC_int, listC_lst, listC_tup, tupleC_lst, tupleC_tup, joinM_ap, splitM_ok, ofString_inj, List.length_cons, List.length_nil, List.length_append, List.length_map, Int.reduceNeg, Int.reduceAdd, Int.reduceSub, Int.reduceMul, Int.reduceMod, Int.reducePow, Int.reduceDiv, Int.reduceLE, Int.reduceLT, Int.reduceEq, Int.reduceToNat, Nat.reduceAdd, Nat.reduceSub, Nat.reduceLeDiff, Nat.reduceEqDiff, String.reduceEq, decide_true, decide_false, Bool.not_true, Bool.not_false, Bool.and_true, Bool.true_and, Bool.and_false, Bool.false_and, Bool.or_true, Bool.or_false, Bool.true_or, Bool.false_or, Option.isSome_some, Option.isSome_none, if_true, if_false, Bool.false_eq_true, Int.reduceBNe]) (last none)
    · have hkp : (0 : Int) < (k : Int) := by omega
      have hc3 : cutL (ms.map D.int) none (some ((k : Int) - 1)) = (ms.take (k - 1)).map .int := by rw [show (k : Int) - 1 = ((k - 1 : Nat) : Int) by omega, cut_to, List.map_take]
      have hc4 : cutL (ms.map D.int) (some ((k : Int) + 1)) none = (ms.drop (k + 1)).map .int := by rw [show (k : Int) + 1 = ((k + 1 : Nat) : Int) by omega, cut_from, List.map_drop]
      have a1 : atI (ms.map D.int) (k : Int) = some (.int ms[k]) := at_nat (by rw [List.getElem?_map, List.getElem?_eq_getElem hkl]; rfl)
      have a2 : atI (ms.map D.int) ((k : Int) - 1) = some (.int (ms[k - 1]'(by omega))) := by
        rw [show (k : Int) - 1 = ((k - 1 : Nat) : Int) by omega]
        exact at_nat (by rw [List.getElem?_map, List.getElem?_eq_getElem (by omega)]; rfl)
      have hturn : ∃ tu : List Int, tu = ms.take (k - 1) ++ [ms[k], ms[k - 1]'(by omega)] ++ ms.drop (k + 1) ∧ badM tu = true ∧ tu.length ≤ 1000 := by
        refine ⟨_, rfl, ?_, by simp; omega⟩
        rw [List.append_assoc]
        exact badM_at _ (Int.le_of_lt (List.pairwise_iff_getElem.mp hasc (k - 1) k (by omega) hkl (by omega)))
      obtain ⟨tu, hte, htt, htl⟩ := hturn
      have htm : (ms.take (k - 1)).map D.int ++ [.int ms[k], .int (ms[k - 1]'(by omega))] ++ (ms.drop (k + 1)).map D.int = tu.map .int := by rw [hte]; simp
      have f3 := r_refused (n := 7) (ρ := []) (a := .lst (l.map .int)) (d := .lst (tu.map .int)) (.inl rfl) htl htt
      have f4 := r_refused (n := 7) (ρ := []) (a := .lst []) (d := .tup (tu.map .int)) (.inr rfl) htl htt
      refine seq_n1 (σ' := [some (.scr (ns.map .int)), some (.lst ds), some (.lst (l.map .int)), some (.tup (ms.map .int)), some (.tup (T.map .int)), o5, o6, o7, some (.lst (l.map .int)), some (.int k), some (.lst (bad.map .int)), some (.lst (tu.map .int)), none]) ?_ (last _)
      simp (disch := walk_at "ds") only [hkp, hc3, hc4, a1, a2, htm, f3, f4, rep_0, rep_s, get_0, get_s, set_0, set_s, app_n, app_c, map_n, map_c, wipe_n, wipe_c, rb_ok, rb_exc, ofO_some, rd_some, varS_ap, conS_ap, nilA_ap, consA_ap, consR_ok, consR_exc, consR_exc0, items_ap, items_lst, items_tup, items_scr, starA_ap, starR_ok, tupS_ap, tupR_ok, lstS_ap, lstR_ok, andS_ap, andR_t, andR_f, orS_ap, orR_t, orR_f, notS_ap, testS_ap, truR_bl, truR_int, ifS_ap, ifR_t, ifR_f, andT_ap, andW_t, andW_f, orT_ap, orW_t, orW_f, notT_ap, yesT_ap, tb1_ap, blR_bl, bin2_ap, b2R_ok, un1_ap, callB_ap, cbR_ok, chainS_ap, noP_ap, someP_ap, intR_ok, slS_ap, slR_ok, slD_ap, slQ_lst, slQ_tup, methS_ap, meR_ok, callS_ap, calR_ok, cal1_ok, cal1_exc, lcS_ap, lcR_ok, lcQ_ok, lcL_nil, lcL_yes, lcY_ok, lcZ_ok, itI_ap, itR_lst, itR_scr, itR_tup, itR_str, rng1I_ap, rn1R_ok, rng3I_ap, rn3R_up, zipI_ap, zpR_lst, zpR_tup, nameG_ap, nilG_ap, consG_ap, cgR_ok, tupG_2, tupG_3, seqS_ap, sqR_nx, sqR_ret, sqR_exc, passS_ap, retS_ap, retF_ap, reR_ok, reR_exc, asgS_ap, asR_ok, asR_exc, agR_ok, ownS_ap, owR_ok, iffS_ap, ifO_t, ifO_f, ifO_exc, expS_ap, exR_ok, exR_exc, forS_ap, foR_ok, forL_nil, forL_cons, flA_ok, flB_nx, appS_ap, apR_last, raiS_ap, rai1S_ap, raR_int, tryS_ap, trR_nx, trR_ret, trR_exc, starS_ap, stR_1, dr_int, dr_str, dr_bl, dr_non, dr_tup, dr_lst, dr_scr, dr_wd, dr_exn, dr_lstR, addD_ap, addQ_int, addQ_str, addQ_lst, addQ_tup, subD_int, negD_int, mulD_int, mulD_lst, fdivD_int, modD_int, powD_int, ltD_int, leD_int, gtD_int, geD_int, isn_lst, isn_non, eqB_str, eqB_int, eqD_ap, neD_ap, inB_wd, inB_chr, inD_ap, ninD_ap, omap_some, look_n, look_c, ixD_ap, ixQ_lst, ixQ_tup, ixQ_scr, ixQ_wd, ixQ_str, at_0, at_m1, at_m1c, at_p, rg2S_ap, r2R_ok, rg1S_ap, r1R_ok, rgD_ok', cut_m1, cut_pos, cut_posf, drop_0, drop_s, take_0, take_s, take_n, dl_1, dl_c, flat_rep, eq_self, Int.cast_ofNat_Int, lenD_ap, lenQ_lst, lenQ_scr, lenQ_tup, lenQ_str, intC_int, strC_str, strC_int, listC_lst, listC_tup, tupleC_lst, tupleC_tup, joinM_ap, splitM_ok, ofString_inj, List.length_cons, List.length_nil, List.length_append, List.length_map, Int.reduceNeg, Int.reduceAdd, Int.reduceSub, Int.reduceMul, Int.reduceMod, Int.reducePow, Int.reduceDiv, Int.reduceLE, Int.reduceLT, Int.reduceEq, Int.reduceToNat, Nat.reduceAdd, Nat.reduceSub, Nat.reduceLeDiff, Nat.reduceEqDiff, String.reduceEq, decide_true, decide_false, Bool.not_true, Bool.not_false, Bool.and_true, Bool.true_and, Bool.and_false, Bool.false_and, Bool.or_true, Bool.or_false, Bool.true_or, Bool.false_or, Option.isSome_some, Option.isSome_none, if_true, if_false, Bool.false_eq_true, Int.reduceBNe]

structure Txt (P : Program) (w : World) (K : PySem.W.Frag) (mg : Str → Option Value) (C_Order C_CutError C_BadMarks C_TooMany : Addr) (E_Order_tight : Addr) : Prop where
  ok : WOk (Wz K w C_Order C_CutError C_BadMarks C_TooMany)
  g_Order : mg "Order" = some (.ref C_Order)
  g_CutError : mg "CutError" = some (.ref C_CutError)
  g_BadMarks : mg "BadMarks" = some (.ref C_BadMarks)
  g_TooMany : mg "TooMany" = some (.ref C_TooMany)
  b_zip : mg "zip" = none
  b_any : mg "any" = none
  b_max : mg "max" = none
  b_sorted : mg "sorted" = none
  b_set : mg "set" = none
  b_enumerate : mg "enumerate" = none
  b_tuple : mg "tuple" = none
  b_len : mg "len" = none
  b_int : mg "int" = none
  b_range : mg "range" = none
  b_isinstance : mg "isinstance" = none
  b_bool : mg "bool" = none
  b_ValueError : mg "ValueError" = none
  b_list : mg "list" = none
  er_BadMarks : ErrC K mg "BadMarks" C_BadMarks
  d_check_marks : ∃ f fd ds, FunD K "check_marks" "check_marks" (defArgs s_check_marks) (defBody s_check_marks) (defScope s_check_marks) [] [] f fd ∧ mg "check_marks" = some (.ref f) ∧ Binds K fd ["marks"] ds ∧ Vals [] ds
  d_anchor : ∃ f fd ds, FunD K "anchor" "anchor" (defArgs s_anchor) (defBody s_anchor) (defScope s_anchor) [] [] f fd ∧ mg "anchor" = some (.ref f) ∧ Binds K fd ["number", "marks"] ds ∧ Vals [] ds
  d__law_cell : ∃ f fd ds, FunD K "_law_cell" "_law_cell" (defArgs s__law_cell) (defBody s__law_cell) (defScope s__law_cell) [] [] f fd ∧ mg "_law_cell" = some (.ref f) ∧ Binds K fd ["_law_script", "_law_k"] ds ∧ Vals [] ds
  d__law_draws : ∃ f fd ds, FunD K "_law_draws" "_law_draws" (defArgs s__law_draws) (defBody s__law_draws) (defScope s__law_draws) [] [] f fd ∧ mg "_law_draws" = some (.ref f) ∧ Binds K fd ["_law_script", "_law_at", "_law_many"] ds ∧ Vals [] ds
  d_Order_tight : ∃ f fd ds, FunD K "tight" "Order.tight" (defArgs s_Order_tight) (defBody s_Order_tight) (defScope s_Order_tight) [.ref E_Order_tight] [] f fd ∧ SMet K C_Order "tight" f ∧ mg "Order" = some (.ref C_Order) ∧ Binds K fd ["numbers", "marks"] ds ∧ Vals [] ds
  d__law_numbers : ∃ f fd ds, FunD K "_law_numbers" "_law_numbers" (defArgs s__law_numbers) (defBody s__law_numbers) (defScope s__law_numbers) [] [] f fd ∧ mg "_law_numbers" = some (.ref f) ∧ Binds K fd ["_law_script", "_law_at", "_law_many"] ds ∧ Vals [] ds
  d__law_marks : ∃ f fd ds, FunD K "_law_marks" "_law_marks" (defArgs s__law_marks) (defBody s__law_marks) (defScope s__law_marks) [] [] f fd ∧ mg "_law_marks" = some (.ref f) ∧ Binds K fd ["_law_d", "_law_many", "_law_shift"] ds ∧ Vals [] ds
  d__law_whole : ∃ f fd ds, FunD K "_law_whole" "_law_whole" (defArgs s__law_whole) (defBody s__law_whole) (defScope s__law_whole) [] [] f fd ∧ mg "_law_whole" = some (.ref f) ∧ Binds K fd ["_law_number"] ds ∧ Vals [] ds
  d__law_tight : ∃ f fd ds, FunD K "_law_tight" "_law_tight" (defArgs s__law_tight) (defBody s__law_tight) (defScope s__law_tight) [] [] f fd ∧ mg "_law_tight" = some (.ref f) ∧ Binds K fd ["_law_number", "_law_numbers_here", "_law_marks_here"] ds ∧ Vals [] ds
  d__law_sign : ∃ f fd ds, FunD K "_law_sign" "_law_sign" (defArgs s__law_sign) (defBody s__law_sign) (defScope s__law_sign) [] [] f fd ∧ mg "_law_sign" = some (.ref f) ∧ Binds K fd ["_law_one", "_law_two"] ds ∧ Vals [] ds
  d_Order_tight_1 : ∃ f fd ds, FunD K "tight" "Order.tight" (defArgs s_Order_tight) (defBody s_Order_tight) (defScope s_Order_tight) [.ref E_Order_tight] [] f fd ∧ SMet K C_Order "tight" f ∧ mg "Order" = some (.ref C_Order) ∧ Binds K fd ["numbers", "marks"] ds ∧ Vals [.ref E_Order_tight] ds
  dd_Order_tight_1 : ∀ RA B, RepL (Wz K w C_Order C_CutError C_BadMarks C_TooMany) RA B [(.tup [])] [.ref E_Order_tight]
  d__law_refused : ∃ f fd ds, FunD K "_law_refused" "_law_refused" (defArgs s__law_refused) (defBody s__law_refused) (defScope s__law_refused) [] [] f fd ∧ mg "_law_refused" = some (.ref f) ∧ Binds K fd ["_law_numbers_here", "_law_marks_here"] ds ∧ Vals [] ds
structure Hs (P : Program) (w : World) (K : PySem.W.Frag) (mg : Str → Option Value) (base : Heap) (C_Order C_CutError C_BadMarks C_TooMany : Addr) (E_Order_tight : Addr) (n : Nat) : Prop where
  f_check_marks : HasF P w K mg base (Wz K w C_Order C_CutError C_BadMarks C_TooMany) Tb n "check_marks" 0 []
  f_anchor : HasF P w K mg base (Wz K w C_Order C_CutError C_BadMarks C_TooMany) Tb n "anchor" 1 []
  f__law_cell : HasF P w K mg base (Wz K w C_Order C_CutError C_BadMarks C_TooMany) Tb n "_law_cell" 3 []
  f__law_draws : HasF P w K mg base (Wz K w C_Order C_CutError C_BadMarks C_TooMany) Tb n "_law_draws" 4 []
  f_Order_tight : HasS P w K mg base (Wz K w C_Order C_CutError C_BadMarks C_TooMany) Tb n "Order" "tight" 2 []
  f__law_numbers : HasF P w K mg base (Wz K w C_Order C_CutError C_BadMarks C_TooMany) Tb n "_law_numbers" 5 []
  f__law_marks : HasF P w K mg base (Wz K w C_Order C_CutError C_BadMarks C_TooMany) Tb n "_law_marks" 6 []
  f__law_whole : HasF P w K mg base (Wz K w C_Order C_CutError C_BadMarks C_TooMany) Tb n "_law_whole" 8 []
  f__law_tight : HasF P w K mg base (Wz K w C_Order C_CutError C_BadMarks C_TooMany) Tb n "_law_tight" 7 []
  f__law_sign : HasF P w K mg base (Wz K w C_Order C_CutError C_BadMarks C_TooMany) Tb n "_law_sign" 9 []
  f_Order_tight_1 : HasS P w K mg base (Wz K w C_Order C_CutError C_BadMarks C_TooMany) Tb n "Order" "tight" 2 [.ref E_Order_tight]
  f__law_refused : HasF P w K mg base (Wz K w C_Order C_CutError C_BadMarks C_TooMany) Tb n "_law_refused" 10 []
theorem dr_check_marks {P : Program} {w : World} {K : PySem.W.Frag} {mg : Str → Option Value} {base : Heap} {C_Order C_CutError C_BadMarks C_TooMany E_Order_tight : Addr} {n : Nat} (T : Txt P w K mg C_Order C_CutError C_BadMarks C_TooMany E_Order_tight) (H : Hs P w K mg base C_Order C_CutError C_BadMarks C_TooMany E_Order_tight n) {f : Addr} {cdv : Value} {A : Around} {outer : List PySem.Env} {s : Shared} {H0 : Hp} {E : XK} (hr : Room (4 * n + 3) (A.deeper (envOfC "check_marks" (defScope s_check_marks) s.heap.objs.size f cdv))) :
    PSsd (cxOf (L2.CX P w) P w K mg base N_check_marks "check_marks" (defScope s_check_marks) f cdv A outer s H0 E) (Wz K w C_Order C_CutError C_BadMarks C_TooMany) (fun cls dx _ H' => E cls dx H') (defBody s_check_marks) (B_check_marks (run Tb n)) := by
  have c : Cok (cxOf (L2.CX P w) P w K mg base N_check_marks "check_marks" (defScope s_check_marks) f cdv A outer s H0 E) (Wz K w C_Order C_CutError C_BadMarks C_TooMany) (fun cls dx _ H' => E cls dx H') n := Cok.of rfl T.ok hr
  unfold B_check_marks
  exact (dss_one (ds_if (xt c.csu (x_any c T.b_any (da_cons (pe_frz (f_lc (own := [("mark", 1), ("following", 2)]) c.calm sc_check_marks.nd (d_zipI c.csu.K T.b_zip (dpv 0) (x_slice c.csu (dpv 0) (dp_some d_int) dp_none)) (blkOk_by (own := [("mark", 1), ("following", 2)]) (N := N_check_marks) (sc := defScope s_check_marks) (by decide +kernel)) (by decide) (fun _ _ _ _ _ => (dg_tup c.blk.csu.K c.blk.calm (dgs_cons (dg_name (i := 1) sc_check_marks.nd rfl (by first | exact Or.inl rfl | exact Or.inr rfl)) (dgs_cons (dg_name (i := 2) sc_check_marks.nd rfl (by first | exact Or.inl rfl | exact Or.inr rfl)) dgs_nil)))) (fun _ _ _ _ _ => dts_nil) (fun _ _ _ _ _ => (x_ge c.blk.csu (dpv 1) (dpv 2))))) da_nil))) (dss_one (ds_raise c T.er_BadMarks)) dss_nil))
theorem dr_anchor {P : Program} {w : World} {K : PySem.W.Frag} {mg : Str → Option Value} {base : Heap} {C_Order C_CutError C_BadMarks C_TooMany E_Order_tight : Addr} {n : Nat} (T : Txt P w K mg C_Order C_CutError C_BadMarks C_TooMany E_Order_tight) (H : Hs P w K mg base C_Order C_CutError C_BadMarks C_TooMany E_Order_tight n) {f : Addr} {cdv : Value} {A : Around} {outer : List PySem.Env} {s : Shared} {H0 : Hp} {E : XK} (hr : Room (4 * n + 3) (A.deeper (envOfC "anchor" (defScope s_anchor) s.heap.objs.size f cdv))) :
    PSsd (cxOf (L2.CX P w) P w K mg base N_anchor "anchor" (defScope s_anchor) f cdv A outer s H0 E) (Wz K w C_Order C_CutError C_BadMarks C_TooMany) (fun cls dx _ H' => E cls dx H') (defBody s_anchor) (B_anchor (run Tb n)) := by
  have c : Cok (cxOf (L2.CX P w) P w K mg base N_anchor "anchor" (defScope s_anchor) f cdv A outer s H0 E) (Wz K w C_Order C_CutError C_BadMarks C_TooMany) (fun cls dx _ H' => E cls dx H') n := Cok.of rfl T.ok hr
  unfold B_anchor
  exact (dss_one (ds_ret (x_maxd c T.b_max (pe_frz (f_lc (own := [("mark", 2)]) c.calm sc_anchor.nd (d_itI c.csu.K (dpv 1)) (blkOk_by (own := [("mark", 2)]) (N := N_anchor) (sc := defScope s_anchor) (by decide +kernel)) (by decide) (fun _ _ _ _ _ => (dg_name (i := 2) sc_anchor.nd rfl (by first | exact Or.inl rfl | exact Or.inr rfl))) (fun _ _ _ _ _ => (dts_one (t_le c.blk.csu (dpv 2) (dpv 0)))) (fun _ _ _ _ _ => (dpv 2)))) (x_ix c.csu (dpv 1) d_int))))
theorem dr_Order_tight {P : Program} {w : World} {K : PySem.W.Frag} {mg : Str → Option Value} {base : Heap} {C_Order C_CutError C_BadMarks C_TooMany E_Order_tight : Addr} {n : Nat} (T : Txt P w K mg C_Order C_CutError C_BadMarks C_TooMany E_Order_tight) (H : Hs P w K mg base C_Order C_CutError C_BadMarks C_TooMany E_Order_tight n) {f : Addr} {cdv : Value} {A : Around} {outer : List PySem.Env} {s : Shared} {H0 : Hp} {E : XK} (hr : Room (4 * n + 3) (A.deeper (envOfC "Order.tight" (defScope s_Order_tight) s.heap.objs.size f cdv))) :
    PSsd (cxOf (L2.CX P w) P w K mg base N_Order_tight "Order.tight" (defScope s_Order_tight) f cdv A outer s H0 E) (Wz K w C_Order C_CutError C_BadMarks C_TooMany) (fun cls dx _ H' => E cls dx H') (defBody s_Order_tight) (B_Order_tight (run Tb n)) := by
  have c : Cok (cxOf (L2.CX P w) P w K mg base N_Order_tight "Order.tight" (defScope s_Order_tight) f cdv A outer s H0 E) (Wz K w C_Order C_CutError C_BadMarks C_TooMany) (fun cls dx _ H' => E cls dx H') n := Cok.of rfl T.ok hr
  unfold B_Order_tight
  exact (dss_cons (ds_exp (d_call c H.f_check_marks (fun _ _ => .nil) (da_cons (dpv 1) da_nil)))
    (dss_cons (ds_set (i := 2) sc_Order_tight.nd rfl (by first | exact Or.inl rfl | exact Or.inr rfl) (pe_frz (f_sseti c.csu c.calm T.b_sorted T.b_set (pe_frz (f_lst (da_star c.csu.K (dpv 0) (da_star c.csu.K (dpv 1) da_nil)))))))
    (dss_cons (ds_set (i := 3) sc_Order_tight.nd rfl (by first | exact Or.inl rfl | exact Or.inr rfl) (pe_frz (f_dc (own := [("rank", 5), ("level", 6)]) c.calm sc_Order_tight.nd (d_enumI c.csu.K T.b_enumerate (dpv 2)) (blkOk_by (own := [("rank", 5), ("level", 6)]) (N := N_Order_tight) (sc := defScope s_Order_tight) (by decide +kernel)) (by decide) (fun _ _ _ _ _ => (dg_tup c.blk.csu.K c.blk.calm (dgs_cons (dg_name (i := 5) sc_Order_tight.nd rfl (by first | exact Or.inl rfl | exact Or.inr rfl)) (dgs_cons (dg_name (i := 6) sc_Order_tight.nd rfl (by first | exact Or.inl rfl | exact Or.inr rfl)) dgs_nil)))) (fun _ _ _ _ _ => dts_nil) (fun _ _ _ _ _ => (dpv 6)) (fun _ _ _ _ _ => (dpv 5)))))
    (dss_cons (ds_if (dt_not (xt c.csu (dpv 1))) (dss_one (ds_ret (x_tuple c.csu T.b_tuple (da_cons (pe_frz (f_lc (own := [("number", 7)]) c.calm sc_Order_tight.nd (d_itI c.csu.K (dpv 0)) (blkOk_by (own := [("number", 7)]) (N := N_Order_tight) (sc := defScope s_Order_tight) (by decide +kernel)) (by decide) (fun _ _ _ _ _ => (dg_name (i := 7) sc_Order_tight.nd rfl (by first | exact Or.inl rfl | exact Or.inr rfl))) (fun _ _ _ _ _ => dts_nil) (fun _ _ _ _ _ => (x_ix c.blk.csu (dpv 3) (dpv 7))))) da_nil)))) dss_nil)
    (dss_cons (ds_setLc (i := 4) (own := [("number", 7)]) c.calm sc_Order_tight.nd rfl rfl (sw_true rfl rfl rfl (by decide +kernel)) (d_itI c.csu.K (dpv 0)) (blkOk_by (own := [("number", 7)]) (N := N_Order_tight) (sc := defScope s_Order_tight) (by decide +kernel)) (by decide) (fun _ _ _ _ _ => (dg_name (i := 7) sc_Order_tight.nd rfl (by first | exact Or.inl rfl | exact Or.inr rfl))) (fun _ _ _ _ _ => dts_nil) (fun _ _ _ _ _ => (d_tup (da_cons (x_ix c.blk.csu (dpv 3) (dpv 7)) (da_cons (d_call c.blk H.f_anchor (fun _ _ => .nil) (da_cons (dpv 7) (da_cons (dpv 1) da_nil))) da_nil)))))
    (dss_one (ds_ret (x_tuple c.csu T.b_tuple (da_cons (pe_frz (f_lc (own := [("rank", 5), ("base", 8)]) c.calm sc_Order_tight.nd (d_itI c.csu.K (dpv 4)) (blkOk_by (own := [("rank", 5), ("base", 8)]) (N := N_Order_tight) (sc := defScope s_Order_tight) (by decide +kernel)) (by decide) (fun _ _ _ _ _ => (dg_tup c.blk.csu.K c.blk.calm (dgs_cons (dg_name (i := 5) sc_Order_tight.nd rfl (by first | exact Or.inl rfl | exact Or.inr rfl)) (dgs_cons (dg_name (i := 8) sc_Order_tight.nd rfl (by first | exact Or.inl rfl | exact Or.inr rfl)) dgs_nil)))) (fun _ _ _ _ _ => dts_nil) (fun _ _ _ _ _ => (x_sub c.blk.csu (x_add c.blk.csu (dpv 8) (dpv 5)) (x_ix c.blk.csu (dpv 3) (dpv 8)))))) da_nil)))))))))
theorem dr__law_cell {P : Program} {w : World} {K : PySem.W.Frag} {mg : Str → Option Value} {base : Heap} {C_Order C_CutError C_BadMarks C_TooMany E_Order_tight : Addr} {n : Nat} (T : Txt P w K mg C_Order C_CutError C_BadMarks C_TooMany E_Order_tight) (H : Hs P w K mg base C_Order C_CutError C_BadMarks C_TooMany E_Order_tight n) {f : Addr} {cdv : Value} {A : Around} {outer : List PySem.Env} {s : Shared} {H0 : Hp} {E : XK} (hr : Room (4 * n + 3) (A.deeper (envOfC "_law_cell" (defScope s__law_cell) s.heap.objs.size f cdv))) :
    PSsd (cxOf (L2.CX P w) P w K mg base N__law_cell "_law_cell" (defScope s__law_cell) f cdv A outer s H0 E) (Wz K w C_Order C_CutError C_BadMarks C_TooMany) (fun cls dx _ H' => E cls dx H') (defBody s__law_cell) (B__law_cell (run Tb n)) := by
  have c : Cok (cxOf (L2.CX P w) P w K mg base N__law_cell "_law_cell" (defScope s__law_cell) f cdv A outer s H0 E) (Wz K w C_Order C_CutError C_BadMarks C_TooMany) (fun cls dx _ H' => E cls dx H') n := Cok.of rfl T.ok hr
  unfold B__law_cell
  exact (dss_one (ds_ret (d_if (t_lt c.csu (dpv 1) (x_len c.csu T.b_len (da_cons (dpv 0) da_nil))) (x_int c.csu T.b_int (da_cons (x_ix c.csu (dpv 0) (dpv 1)) da_nil)) d_int)))
theorem dr__law_draws {P : Program} {w : World} {K : PySem.W.Frag} {mg : Str → Option Value} {base : Heap} {C_Order C_CutError C_BadMarks C_TooMany E_Order_tight : Addr} {n : Nat} (T : Txt P w K mg C_Order C_CutError C_BadMarks C_TooMany E_Order_tight) (H : Hs P w K mg base C_Order C_CutError C_BadMarks C_TooMany E_Order_tight n) {f : Addr} {cdv : Value} {A : Around} {outer : List PySem.Env} {s : Shared} {H0 : Hp} {E : XK} (hr : Room (4 * n + 3) (A.deeper (envOfC "_law_draws" (defScope s__law_draws) s.heap.objs.size f cdv))) :
    PSsd (cxOf (L2.CX P w) P w K mg base N__law_draws "_law_draws" (defScope s__law_draws) f cdv A outer s H0 E) (Wz K w C_Order C_CutError C_BadMarks C_TooMany) (fun cls dx _ H' => E cls dx H') (defBody s__law_draws) (B__law_draws (run Tb n)) := by
  have c : Cok (cxOf (L2.CX P w) P w K mg base N__law_draws "_law_draws" (defScope s__law_draws) f cdv A outer s H0 E) (Wz K w C_Order C_CutError C_BadMarks C_TooMany) (fun cls dx _ H' => E cls dx H') n := Cok.of rfl T.ok hr
  unfold B__law_draws
  exact (dss_cons (ds_set (i := 3) sc__law_draws.nd rfl (by first | exact Or.inl rfl | exact Or.inr rfl) (d_if (t_lt c.csu (dpv 1) (x_len c.csu T.b_len (da_cons (dpv 0) da_nil))) (x_int c.csu T.b_int (da_cons (x_ix c.csu (dpv 0) (dpv 1)) da_nil)) d_int))
    (dss_cons (ds_set (i := 4) sc__law_draws.nd rfl (by first | exact Or.inl rfl | exact Or.inr rfl) (d_if (t_ge c.csu (dpv 3) (x_pow c.csu d_int d_int)) (dpv 3) d_int))
    (dss_cons (ds_own (i := 5) sc__law_draws.nd rfl (by first | exact Or.inl rfl | exact Or.inr rfl) (f_lst da_nil))
    (dss_cons (ds_for c.po c.calm (d_rng1 T.b_range (dpv 2)) (dg_name (i := 6) sc__law_draws.nd rfl (by first | exact Or.inl rfl | exact Or.inr rfl)) (dss_one (ds_if (t_gt c.csu (dpv 4) d_int) (dss_cons (ds_app (dpv 5) (x_mod c.csu (x_int c.csu T.b_int (da_cons (dpv 4) da_nil)) d_int))
    (dss_one (ds_set (i := 4) sc__law_draws.nd rfl (by first | exact Or.inl rfl | exact Or.inr rfl) (x_fdiv c.csu (dpv 4) d_int)))) (dss_cons (ds_set (i := 7) sc__law_draws.nd rfl (by first | exact Or.inl rfl | exact Or.inr rfl) (x_mod c.csu (x_int c.csu T.b_int (da_cons (x_add c.csu (x_add c.csu (x_add c.csu (x_mul c.csu d_int (dpv 3)) (x_mul c.csu d_int (dpv 1))) (x_mul c.csu d_int (dpv 6))) d_int) da_nil)) d_int))
    (dss_one (ds_app (dpv 5) (x_mod c.csu (x_int c.csu T.b_int (da_cons (x_add c.csu (x_add c.csu (x_add c.csu (x_mul c.csu (x_mul c.csu (dpv 7) (dpv 7)) (dpv 7)) (x_mul c.csu d_int (dpv 1))) (x_mul c.csu d_int (dpv 6))) (dpv 3)) da_nil)) d_int)))))))
    (dss_one (ds_ret (dpv 5)))))))
theorem dr__law_numbers {P : Program} {w : World} {K : PySem.W.Frag} {mg : Str → Option Value} {base : Heap} {C_Order C_CutError C_BadMarks C_TooMany E_Order_tight : Addr} {n : Nat} (T : Txt P w K mg C_Order C_CutError C_BadMarks C_TooMany E_Order_tight) (H : Hs P w K mg base C_Order C_CutError C_BadMarks C_TooMany E_Order_tight n) {f : Addr} {cdv : Value} {A : Around} {outer : List PySem.Env} {s : Shared} {H0 : Hp} {E : XK} (hr : Room (4 * n + 3) (A.deeper (envOfC "_law_numbers" (defScope s__law_numbers) s.heap.objs.size f cdv))) :
    PSsd (cxOf (L2.CX P w) P w K mg base N__law_numbers "_law_numbers" (defScope s__law_numbers) f cdv A outer s H0 E) (Wz K w C_Order C_CutError C_BadMarks C_TooMany) (fun cls dx _ H' => E cls dx H') (defBody s__law_numbers) (B__law_numbers (run Tb n)) := by
  have c : Cok (cxOf (L2.CX P w) P w K mg base N__law_numbers "_law_numbers" (defScope s__law_numbers) f cdv A outer s H0 E) (Wz K w C_Order C_CutError C_BadMarks C_TooMany) (fun cls dx _ H' => E cls dx H') n := Cok.of rfl T.ok hr
  unfold B__law_numbers
  exact (dss_cons (ds_own (i := 3) sc__law_numbers.nd rfl (by first | exact Or.inl rfl | exact Or.inr rfl) (f_lst da_nil))
    (dss_cons (ds_for c.po c.calm (d_rng1 T.b_range (dpv 2)) (dg_name (i := 4) sc__law_numbers.nd rfl (by first | exact Or.inl rfl | exact Or.inr rfl)) (dss_cons (ds_set (i := 5) sc__law_numbers.nd rfl (by first | exact Or.inl rfl | exact Or.inr rfl) (d_call c H.f__law_cell (fun _ _ => .nil) (da_cons (dpv 0) (da_cons (x_add c.csu (dpv 1) (dpv 4)) da_nil))))
    (dss_cons (ds_set (i := 6) sc__law_numbers.nd rfl (by first | exact Or.inl rfl | exact Or.inr rfl) (d_call c H.f__law_draws (fun _ _ => .nil) (da_cons (dpv 0) (da_cons (x_add c.csu (dpv 1) (dpv 4)) (da_cons d_int da_nil)))))
    (dss_cons (ds_set (i := 7) sc__law_numbers.nd rfl (by first | exact Or.inl rfl | exact Or.inr rfl) (x_sub c.csu (x_mod c.csu (x_ix c.csu (dpv 6) d_int) d_int) d_int))
    (dss_cons (ds_if (t_eq c.csu (x_mod c.csu (x_ix c.csu (dpv 6) d_int) d_int) d_int) (dss_one (ds_set (i := 7) sc__law_numbers.nd rfl (by first | exact Or.inl rfl | exact Or.inr rfl) (x_mod c.csu (dpv 5) (x_pow c.csu d_int d_int)))) dss_nil)
    (dss_cons (ds_if (t_eq c.csu (x_mod c.csu (x_ix c.csu (dpv 6) d_int) d_int) d_int) (dss_one (ds_set (i := 7) sc__law_numbers.nd rfl (by first | exact Or.inl rfl | exact Or.inr rfl) (x_sub c.csu d_int (x_mod c.csu (dpv 5) (x_pow c.csu d_int d_int))))) dss_nil)
    (dss_one (ds_app (dpv 3) (dpv 7)))))))))
    (dss_one (ds_ret (dpv 3)))))
theorem dr__law_marks {P : Program} {w : World} {K : PySem.W.Frag} {mg : Str → Option Value} {base : Heap} {C_Order C_CutError C_BadMarks C_TooMany E_Order_tight : Addr} {n : Nat} (T : Txt P w K mg C_Order C_CutError C_BadMarks C_TooMany E_Order_tight) (H : Hs P w K mg base C_Order C_CutError C_BadMarks C_TooMany E_Order_tight n) {f : Addr} {cdv : Value} {A : Around} {outer : List PySem.Env} {s : Shared} {H0 : Hp} {E : XK} (hr : Room (4 * n + 3) (A.deeper (envOfC "_law_marks" (defScope s__law_marks) s.heap.objs.size f cdv))) :
    PSsd (cxOf (L2.CX P w) P w K mg base N__law_marks "_law_marks" (defScope s__law_marks) f cdv A outer s H0 E) (Wz K w C_Order C_CutError C_BadMarks C_TooMany) (fun cls dx _ H' => E cls dx H') (defBody s__law_marks) (B__law_marks (run Tb n)) := by
  have c : Cok (cxOf (L2.CX P w) P w K mg base N__law_marks "_law_marks" (defScope s__law_marks) f cdv A outer s H0 E) (Wz K w C_Order C_CutError C_BadMarks C_TooMany) (fun cls dx _ H' => E cls dx H') n := Cok.of rfl T.ok hr
  unfold B__law_marks
  exact (dss_cons (ds_own (i := 3) sc__law_marks.nd rfl (by first | exact Or.inl rfl | exact Or.inr rfl) (f_lst da_nil))
    (dss_cons (ds_set (i := 4) sc__law_marks.nd rfl (by first | exact Or.inl rfl | exact Or.inr rfl) (x_add c.csu (x_sub c.csu (x_mod c.csu (x_int c.csu T.b_int (da_cons (x_ix c.csu (dpv 0) d_int) da_nil)) d_int) d_int) (dpv 2)))
    (dss_cons (ds_for c.po c.calm (d_rng1 T.b_range (dpv 1)) (dg_name (i := 5) sc__law_marks.nd rfl (by first | exact Or.inl rfl | exact Or.inr rfl)) (dss_cons (ds_app (dpv 3) (dpv 4))
    (dss_one (ds_set (i := 4) sc__law_marks.nd rfl (by first | exact Or.inl rfl | exact Or.inr rfl) (x_add c.csu (x_add c.csu (dpv 4) d_int) (x_mod c.csu (x_int c.csu T.b_int (da_cons (x_ix c.csu (dpv 0) (x_add c.csu d_int (dpv 5))) da_nil)) d_int))))))
    (dss_one (ds_ret (x_tuple c.csu T.b_tuple (da_cons (dpv 3) da_nil)))))))
theorem dr__law_tight {P : Program} {w : World} {K : PySem.W.Frag} {mg : Str → Option Value} {base : Heap} {C_Order C_CutError C_BadMarks C_TooMany E_Order_tight : Addr} {n : Nat} (T : Txt P w K mg C_Order C_CutError C_BadMarks C_TooMany E_Order_tight) (H : Hs P w K mg base C_Order C_CutError C_BadMarks C_TooMany E_Order_tight n) {f : Addr} {cdv : Value} {A : Around} {outer : List PySem.Env} {s : Shared} {H0 : Hp} {E : XK} (hr : Room (4 * n + 3) (A.deeper (envOfC "_law_tight" (defScope s__law_tight) s.heap.objs.size f cdv))) :
    PSsd (cxOf (L2.CX P w) P w K mg base N__law_tight "_law_tight" (defScope s__law_tight) f cdv A outer s H0 E) (Wz K w C_Order C_CutError C_BadMarks C_TooMany) (fun cls dx _ H' => E cls dx H') (defBody s__law_tight) (B__law_tight (run Tb n)) := by
  have c : Cok (cxOf (L2.CX P w) P w K mg base N__law_tight "_law_tight" (defScope s__law_tight) f cdv A outer s H0 E) (Wz K w C_Order C_CutError C_BadMarks C_TooMany) (fun cls dx _ H' => E cls dx H') n := Cok.of rfl T.ok hr
  unfold B__law_tight
  exact (dss_cons (ds_if (t_eq c.csu (dpv 2) (d_tup da_nil)) (dss_one (ds_ret (x_len c.csu T.b_len (da_cons (pe_frz (f_sseti c.csu c.calm T.b_sorted T.b_set (pe_frz (f_lc (own := [("_law_one", 4)]) c.calm sc__law_tight.nd (d_itI c.csu.K (dpv 1)) (blkOk_by (own := [("_law_one", 4)]) (N := N__law_tight) (sc := defScope s__law_tight) (by decide +kernel)) (by decide) (fun _ _ _ _ _ => (dg_name (i := 4) sc__law_tight.nd rfl (by first | exact Or.inl rfl | exact Or.inr rfl))) (fun _ _ _ _ _ => (dts_one (t_lt c.blk.csu (dpv 4) (dpv 0)))) (fun _ _ _ _ _ => (dpv 4)))))) da_nil)))) dss_nil)
    (dss_cons (ds_if (t_lt c.csu (dpv 0) (x_ix c.csu (dpv 2) d_int)) (dss_one (ds_ret (x_sub c.csu (x_ix c.csu (dpv 2) d_int) (x_len c.csu T.b_len (da_cons (pe_frz (f_sseti c.csu c.calm T.b_sorted T.b_set (pe_frz (f_lc (own := [("_law_one", 4)]) c.calm sc__law_tight.nd (d_itI c.csu.K (dpv 1)) (blkOk_by (own := [("_law_one", 4)]) (N := N__law_tight) (sc := defScope s__law_tight) (by decide +kernel)) (by decide) (fun _ _ _ _ _ => (dg_name (i := 4) sc__law_tight.nd rfl (by first | exact Or.inl rfl | exact Or.inr rfl))) (fun _ _ _ _ _ => (dts_one (dt_w (dw_and (t_le c.blk.csu (dpv 0) (dpv 4)) (dw_and1 (t_lt c.blk.csu (dpv 4) (x_ix c.blk.csu (dpv 2) d_int))))))) (fun _ _ _ _ _ => (dpv 4)))))) da_nil))))) dss_nil)
    (dss_cons (ds_set (i := 3) sc__law_tight.nd rfl (by first | exact Or.inl rfl | exact Or.inr rfl) (x_ix c.csu (pe_frz (f_lc (own := [("_law_mark", 5)]) c.calm sc__law_tight.nd (d_itI c.csu.K (dpv 2)) (blkOk_by (own := [("_law_mark", 5)]) (N := N__law_tight) (sc := defScope s__law_tight) (by decide +kernel)) (by decide) (fun _ _ _ _ _ => (dg_name (i := 5) sc__law_tight.nd rfl (by first | exact Or.inl rfl | exact Or.inr rfl))) (fun _ _ _ _ _ => (dts_one (t_le c.blk.csu (dpv 5) (dpv 0)))) (fun _ _ _ _ _ => (dpv 5)))) (x_neg c.csu d_int)))
    (dss_one (ds_ret (x_add c.csu (dpv 3) (x_len c.csu T.b_len (da_cons (pe_frz (f_sseti c.csu c.calm T.b_sorted T.b_set (pe_frz (f_lc (own := [("_law_one", 4)]) c.calm sc__law_tight.nd (d_itI c.csu.K (dpv 1)) (blkOk_by (own := [("_law_one", 4)]) (N := N__law_tight) (sc := defScope s__law_tight) (by decide +kernel)) (by decide) (fun _ _ _ _ _ => (dg_name (i := 4) sc__law_tight.nd rfl (by first | exact Or.inl rfl | exact Or.inr rfl))) (fun _ _ _ _ _ => (dts_one (dt_w (dw_and (t_lt c.blk.csu (dpv 3) (dpv 4)) (dw_and1 (t_le c.blk.csu (dpv 4) (dpv 0))))))) (fun _ _ _ _ _ => (dpv 4)))))) da_nil))))))))
theorem dr__law_whole {P : Program} {w : World} {K : PySem.W.Frag} {mg : Str → Option Value} {base : Heap} {C_Order C_CutError C_BadMarks C_TooMany E_Order_tight : Addr} {n : Nat} (T : Txt P w K mg C_Order C_CutError C_BadMarks C_TooMany E_Order_tight) (H : Hs P w K mg base C_Order C_CutError C_BadMarks C_TooMany E_Order_tight n) {f : Addr} {cdv : Value} {A : Around} {outer : List PySem.Env} {s : Shared} {H0 : Hp} {E : XK} (hr : Room (4 * n + 3) (A.deeper (envOfC "_law_whole" (defScope s__law_whole) s.heap.objs.size f cdv))) :
    PSsd (cxOf (L2.CX P w) P w K mg base N__law_whole "_law_whole" (defScope s__law_whole) f cdv A outer s H0 E) (Wz K w C_Order C_CutError C_BadMarks C_TooMany) (fun cls dx _ H' => E cls dx H') (defBody s__law_whole) (B__law_whole (run Tb n)) := by
  have c : Cok (cxOf (L2.CX P w) P w K mg base N__law_whole "_law_whole" (defScope s__law_whole) f cdv A outer s H0 E) (Wz K w C_Order C_CutError C_BadMarks C_TooMany) (fun cls dx _ H' => E cls dx H') n := Cok.of rfl T.ok hr
  unfold B__law_whole
  exact (dss_one (ds_ret (d_and (x_isi c.csu T.b_isinstance (da_cons (dpv 0) (da_cons (d_ty .int T.b_int (by decide +kernel)) da_nil))) (d_one (x_not c.csu (x_isi c.csu T.b_isinstance (da_cons (dpv 0) (da_cons (d_ty .bool T.b_bool (by decide +kernel)) da_nil))))))))
theorem dr__law_sign {P : Program} {w : World} {K : PySem.W.Frag} {mg : Str → Option Value} {base : Heap} {C_Order C_CutError C_BadMarks C_TooMany E_Order_tight : Addr} {n : Nat} (T : Txt P w K mg C_Order C_CutError C_BadMarks C_TooMany E_Order_tight) (H : Hs P w K mg base C_Order C_CutError C_BadMarks C_TooMany E_Order_tight n) {f : Addr} {cdv : Value} {A : Around} {outer : List PySem.Env} {s : Shared} {H0 : Hp} {E : XK} (hr : Room (4 * n + 3) (A.deeper (envOfC "_law_sign" (defScope s__law_sign) s.heap.objs.size f cdv))) :
    PSsd (cxOf (L2.CX P w) P w K mg base N__law_sign "_law_sign" (defScope s__law_sign) f cdv A outer s H0 E) (Wz K w C_Order C_CutError C_BadMarks C_TooMany) (fun cls dx _ H' => E cls dx H') (defBody s__law_sign) (B__law_sign (run Tb n)) := by
  have c : Cok (cxOf (L2.CX P w) P w K mg base N__law_sign "_law_sign" (defScope s__law_sign) f cdv A outer s H0 E) (Wz K w C_Order C_CutError C_BadMarks C_TooMany) (fun cls dx _ H' => E cls dx H') n := Cok.of rfl T.ok hr
  unfold B__law_sign
  exact (dss_cons (ds_if (t_lt c.csu (dpv 0) (dpv 1)) (dss_one (ds_ret (x_sub c.csu d_int d_int))) dss_nil)
    (dss_one (ds_ret (x_int c.csu T.b_int (da_cons (x_gt c.csu (dpv 0) (dpv 1)) da_nil)))))
theorem dr__law_refused {P : Program} {w : World} {K : PySem.W.Frag} {mg : Str → Option Value} {base : Heap} {C_Order C_CutError C_BadMarks C_TooMany E_Order_tight : Addr} {n : Nat} (T : Txt P w K mg C_Order C_CutError C_BadMarks C_TooMany E_Order_tight) (H : Hs P w K mg base C_Order C_CutError C_BadMarks C_TooMany E_Order_tight n) {f : Addr} {cdv : Value} {A : Around} {outer : List PySem.Env} {s : Shared} {H0 : Hp} {E : XK} (hr : Room (4 * n + 3) (A.deeper (envOfC "_law_refused" (defScope s__law_refused) s.heap.objs.size f cdv))) :
    PSsd (cxOf (L2.CX P w) P w K mg base N__law_refused "_law_refused" (defScope s__law_refused) f cdv A outer s H0 E) (Wz K w C_Order C_CutError C_BadMarks C_TooMany) (fun cls dx _ H' => E cls dx H') (defBody s__law_refused) (B__law_refused (run Tb n)) := by
  have c : Cok (cxOf (L2.CX P w) P w K mg base N__law_refused "_law_refused" (defScope s__law_refused) f cdv A outer s H0 E) (Wz K w C_Order C_CutError C_BadMarks C_TooMany) (fun cls dx _ H' => E cls dx H') n := Cok.of rfl T.ok hr
  unfold B__law_refused
  exact (dss_cons (have u := c.csu; ds_try c (fun _ => rfl) rfl rfl (fun Wy pn xe c => (dss_one (ds_exp (d_stat c H.f_Order_tight (fun _ _ => .nil) (da_cons (dpv 0) (da_cons (dpv 1) da_nil)))))) (HdsD.cons ⟨rfl, by decide, .inl T.g_TooMany⟩ (fun a oe cls d pn hz hf => (dss_one (ds_ret d_bl))) (HdsD.consAs (i := 2) ⟨rfl, by decide, .inl T.g_CutError⟩ sc__law_refused.nd rfl rfl (fun a oe cls d pn hz hf => (dss_one (ds_ret (d_and (x_isx u hz hf T.b_isinstance (da_cons (dpv 2) (da_cons (d_cl 2 T.g_BadMarks) da_nil))) (d_one (x_isx u hz hf T.b_isinstance (da_cons (dpv 2) (da_cons (d_ty .verr T.b_ValueError (by decide +kernel)) da_nil)))))))) HdsD.nil)))
    (dss_one (ds_ret d_bl)))
theorem dr_law {P : Program} {w : World} {K : PySem.W.Frag} {mg : Str → Option Value} {base : Heap} {C_Order C_CutError C_BadMarks C_TooMany E_Order_tight : Addr} {n : Nat} (T : Txt P w K mg C_Order C_CutError C_BadMarks C_TooMany E_Order_tight) (H : Hs P w K mg base C_Order C_CutError C_BadMarks C_TooMany E_Order_tight n) {f : Addr} {cdv : Value} {A : Around} {outer : List PySem.Env} {s : Shared} {H0 : Hp} {E : XK} (hr : Room (4 * n + 3) (A.deeper (envOfC "law" (defScope s_law) s.heap.objs.size f cdv))) :
    PSsd (cxOf (L2.CX P w) P w K mg base N_law "law" (defScope s_law) f cdv A outer s H0 E) (Wz K w C_Order C_CutError C_BadMarks C_TooMany) (fun cls dx _ H' => E cls dx H') (defBody s_law) (B_law (run Tb n)) := by
  have c : Cok (cxOf (L2.CX P w) P w K mg base N_law "law" (defScope s_law) f cdv A outer s H0 E) (Wz K w C_Order C_CutError C_BadMarks C_TooMany) (fun cls dx _ H' => E cls dx H') n := Cok.of rfl T.ok hr
  unfold B_law
  exact (dss_cons (ds_set (i := 1) sc_law.nd rfl (by first | exact Or.inl rfl | exact Or.inr rfl) (d_call c H.f__law_draws (fun _ _ => .nil) (da_cons (dpv 0) (da_cons d_int (da_cons d_int da_nil)))))
    (dss_cons (ds_set (i := 2) sc_law.nd rfl (by first | exact Or.inl rfl | exact Or.inr rfl) (d_call c H.f__law_numbers (fun _ _ => .nil) (da_cons (dpv 0) (da_cons d_int (da_cons (x_mod c.csu (x_ix c.csu (dpv 1) d_int) d_int) da_nil)))))
    (dss_cons (ds_set (i := 3) sc_law.nd rfl (by first | exact Or.inl rfl | exact Or.inr rfl) (d_call c H.f__law_marks (fun _ _ => .nil) (da_cons (x_slice c.csu (dpv 1) dp_none (dp_some d_int)) (da_cons (x_mod c.csu (x_ix c.csu (dpv 1) d_int) d_int) (da_cons d_int da_nil)))))
    (dss_cons (ds_set (i := 4) sc_law.nd rfl (by first | exact Or.inl rfl | exact Or.inr rfl) (d_stat c H.f_Order_tight (fun _ _ => .nil) (da_cons (x_tuple c.csu T.b_tuple (da_cons (dpv 2) da_nil)) (da_cons (dpv 3) da_nil))))
    (dss_cons (ds_if (dt_w (dw_or (dt_not (xt c.csu (x_isi c.csu T.b_isinstance (da_cons (dpv 4) (da_cons (d_ty .tuple T.b_tuple (by decide +kernel)) da_nil))))) (dw_or1 (t_ne c.csu (x_len c.csu T.b_len (da_cons (dpv 4) da_nil)) (x_len c.csu T.b_len (da_cons (dpv 2) da_nil)))))) (dss_one (ds_ret d_bl)) dss_nil)
    (dss_cons (ds_for c.po c.calm (d_rng1 T.b_range (x_len c.csu T.b_len (da_cons (dpv 2) da_nil))) (dg_name (i := 5) sc_law.nd rfl (by first | exact Or.inl rfl | exact Or.inr rfl)) (dss_cons (ds_if (dt_w (dw_or (dt_not (xt c.csu (d_call c H.f__law_whole (fun _ _ => .nil) (da_cons (x_ix c.csu (dpv 4) (dpv 5)) da_nil)))) (dw_or1 (t_ne c.csu (x_ix c.csu (dpv 4) (dpv 5)) (d_call c H.f__law_tight (fun _ _ => .nil) (da_cons (x_ix c.csu (dpv 2) (dpv 5)) (da_cons (dpv 2) (da_cons (dpv 3) da_nil)))))))) (dss_one (ds_ret d_bl)) dss_nil)
    (dss_cons (ds_for c.po c.calm (d_rng1 T.b_range (x_len c.csu T.b_len (da_cons (dpv 2) da_nil))) (dg_name (i := 6) sc_law.nd rfl (by first | exact Or.inl rfl | exact Or.inr rfl)) (dss_one (ds_if (t_ne c.csu (d_call c H.f__law_sign (fun _ _ => .nil) (da_cons (x_ix c.csu (dpv 4) (dpv 5)) (da_cons (x_ix c.csu (dpv 4) (dpv 6)) da_nil))) (d_call c H.f__law_sign (fun _ _ => .nil) (da_cons (x_ix c.csu (dpv 2) (dpv 5)) (da_cons (x_ix c.csu (dpv 2) (dpv 6)) da_nil)))) (dss_one (ds_ret d_bl)) dss_nil)))
    (dss_one (ds_for c.po c.calm (d_itI c.csu.K (dpv 3)) (dg_name (i := 7) sc_law.nd rfl (by first | exact Or.inl rfl | exact Or.inr rfl)) (dss_one (ds_if (t_ne c.csu (d_call c H.f__law_sign (fun _ _ => .nil) (da_cons (x_ix c.csu (dpv 4) (dpv 5)) (da_cons (dpv 7) da_nil))) (d_call c H.f__law_sign (fun _ _ => .nil) (da_cons (x_ix c.csu (dpv 2) (dpv 5)) (da_cons (dpv 7) da_nil)))) (dss_one (ds_ret d_bl)) dss_nil)))))))
    (dss_cons (ds_set (i := 8) sc_law.nd rfl (by first | exact Or.inl rfl | exact Or.inr rfl) (pe_frz (xf_list c.csu T.b_list (da_cons (dpv 2) da_nil))))
    (dss_cons (ds_if (dt_w (dw_or (t_ne c.csu (d_stat c H.f_Order_tight (fun _ _ => .nil) (da_cons (dpv 8) (da_cons (pe_frz (xf_list c.csu T.b_list (da_cons (dpv 3) da_nil))) da_nil))) (dpv 4)) (dw_or (t_ne c.csu (dpv 8) (dpv 2)) (dw_or1 (t_ne c.csu (d_stat c H.f_Order_tight (fun _ _ => .nil) (da_cons (dpv 4) (da_cons (dpv 3) da_nil))) (dpv 4)))))) (dss_one (ds_ret d_bl)) dss_nil)
    (dss_cons (ds_if (t_ne c.csu (d_stat c H.f_Order_tight_1 T.dd_Order_tight_1 (da_cons (dpv 2) da_nil)) (x_tuple c.csu T.b_tuple (da_cons (pe_frz (f_lc (own := [("_law_one", 12)]) c.calm sc_law.nd (d_itI c.csu.K (dpv 2)) (blkOk_by (own := [("_law_one", 12)]) (N := N_law) (sc := defScope s_law) (by decide +kernel)) (by decide) (fun _ _ _ _ _ => (dg_name (i := 12) sc_law.nd rfl (by first | exact Or.inl rfl | exact Or.inr rfl))) (fun _ _ _ _ _ => dts_nil) (fun _ _ _ _ _ => (d_call c.blk H.f__law_tight (fun _ _ => .nil) (da_cons (dpv 12) (da_cons (dpv 2) (da_cons (d_tup da_nil) da_nil))))))) da_nil))) (dss_one (ds_ret d_bl)) dss_nil)
    (dss_cons (ds_if (t_eq c.csu (dpv 3) (d_tup da_nil)) (dss_one (ds_ret d_bl)) dss_nil)
    (dss_cons (ds_set (i := 9) sc_law.nd rfl (by first | exact Or.inl rfl | exact Or.inr rfl) (x_mod c.csu (x_ix c.csu (dpv 1) d_int) (x_len c.csu T.b_len (da_cons (dpv 3) da_nil))))
    (dss_cons (ds_set (i := 10) sc_law.nd rfl (by first | exact Or.inl rfl | exact Or.inr rfl) (x_add c.csu (pe_frz (xf_list c.csu T.b_list (da_cons (x_slice c.csu (dpv 3) dp_none (dp_some (x_add c.csu (dpv 9) d_int))) da_nil))) (pe_frz (xf_list c.csu T.b_list (da_cons (x_slice c.csu (dpv 3) (dp_some (dpv 9)) dp_none) da_nil)))))
    (dss_cons (ds_if (t_gt c.csu (dpv 9) d_int) (dss_cons (ds_set (i := 11) sc_law.nd rfl (by first | exact Or.inl rfl | exact Or.inr rfl) (x_add c.csu (x_add c.csu (pe_frz (xf_list c.csu T.b_list (da_cons (x_slice c.csu (dpv 3) dp_none (dp_some (x_sub c.csu (dpv 9) d_int))) da_nil))) (pe_frz (f_lst (da_cons (x_ix c.csu (dpv 3) (dpv 9)) (da_cons (x_ix c.csu (dpv 3) (x_sub c.csu (dpv 9) d_int)) da_nil))))) (pe_frz (xf_list c.csu T.b_list (da_cons (x_slice c.csu (dpv 3) (dp_some (x_add c.csu (dpv 9) d_int)) dp_none) da_nil)))))
    (dss_one (ds_if (dt_w (dw_or (dt_not (xt c.csu (d_call c H.f__law_refused (fun _ _ => .nil) (da_cons (dpv 2) (da_cons (dpv 11) da_nil))))) (dw_or1 (dt_not (xt c.csu (d_call c H.f__law_refused (fun _ _ => .nil) (da_cons (pe_frz (f_lst da_nil)) (da_cons (x_tuple c.csu T.b_tuple (da_cons (dpv 11) da_nil)) da_nil)))))))) (dss_one (ds_ret d_bl)) dss_nil))) dss_nil)
    (dss_one (ds_ret (d_and (d_call c H.f__law_refused (fun _ _ => .nil) (da_cons (dpv 2) (da_cons (dpv 10) da_nil))) (d_and (d_call c H.f__law_refused (fun _ _ => .nil) (da_cons (dpv 2) (da_cons (x_tuple c.csu T.b_tuple (da_cons (dpv 10) da_nil)) da_nil))) (d_one (x_eq c.csu (d_stat c H.f_Order_tight (fun _ _ => .nil) (da_cons (pe_frz (f_lst da_nil)) (da_cons (dpv 3) da_nil))) (d_tup da_nil))))))))))))))))))))
theorem all_ok {P : Program} {w : World} {K : PySem.W.Frag} {mg : Str → Option Value} {base : Heap} {C_Order C_CutError C_BadMarks C_TooMany E_Order_tight : Addr} (T : Txt P w K mg C_Order C_CutError C_BadMarks C_TooMany E_Order_tight) : ∀ n, Hs P w K mg base C_Order C_CutError C_BadMarks C_TooMany E_Order_tight n
  | 0 => by
    obtain ⟨f_check_marks, fd_check_marks, ds_check_marks, D_check_marks, m_check_marks, b_check_marks, v_check_marks⟩ := T.d_check_marks
    obtain ⟨f_anchor, fd_anchor, ds_anchor, D_anchor, m_anchor, b_anchor, v_anchor⟩ := T.d_anchor
    obtain ⟨f__law_cell, fd__law_cell, ds__law_cell, D__law_cell, m__law_cell, b__law_cell, v__law_cell⟩ := T.d__law_cell
    obtain ⟨f__law_draws, fd__law_draws, ds__law_draws, D__law_draws, m__law_draws, b__law_draws, v__law_draws⟩ := T.d__law_draws
    obtain ⟨f_Order_tight, fd_Order_tight, ds_Order_tight, D_Order_tight, k_Order_tight, m_Order_tight, b_Order_tight, v_Order_tight⟩ := T.d_Order_tight
    obtain ⟨f__law_numbers, fd__law_numbers, ds__law_numbers, D__law_numbers, m__law_numbers, b__law_numbers, v__law_numbers⟩ := T.d__law_numbers
    obtain ⟨f__law_marks, fd__law_marks, ds__law_marks, D__law_marks, m__law_marks, b__law_marks, v__law_marks⟩ := T.d__law_marks
    obtain ⟨f__law_whole, fd__law_whole, ds__law_whole, D__law_whole, m__law_whole, b__law_whole, v__law_whole⟩ := T.d__law_whole
    obtain ⟨f__law_tight, fd__law_tight, ds__law_tight, D__law_tight, m__law_tight, b__law_tight, v__law_tight⟩ := T.d__law_tight
    obtain ⟨f__law_sign, fd__law_sign, ds__law_sign, D__law_sign, m__law_sign, b__law_sign, v__law_sign⟩ := T.d__law_sign
    obtain ⟨f_Order_tight_1, fd_Order_tight_1, ds_Order_tight_1, D_Order_tight_1, k_Order_tight_1, m_Order_tight_1, b_Order_tight_1, v_Order_tight_1⟩ := T.d_Order_tight_1
    obtain ⟨f__law_refused, fd__law_refused, ds__law_refused, D__law_refused, m__law_refused, b__law_refused, v__law_refused⟩ := T.d__law_refused
    exact ⟨⟨⟨f_check_marks, fd_check_marks, _, ds_check_marks, fnOk_zero, m_check_marks, D_check_marks.kp, b_check_marks, v_check_marks⟩⟩, ⟨⟨f_anchor, fd_anchor, _, ds_anchor, fnOk_zero, m_anchor, D_anchor.kp, b_anchor, v_anchor⟩⟩, ⟨⟨f__law_cell, fd__law_cell, _, ds__law_cell, fnOk_zero, m__law_cell, D__law_cell.kp, b__law_cell, v__law_cell⟩⟩, ⟨⟨f__law_draws, fd__law_draws, _, ds__law_draws, fnOk_zero, m__law_draws, D__law_draws.kp, b__law_draws, v__law_draws⟩⟩, ⟨⟨_, f_Order_tight, fd_Order_tight, _, ds_Order_tight, fnOk_zero, k_Order_tight, m_Order_tight, b_Order_tight, v_Order_tight⟩⟩, ⟨⟨f__law_numbers, fd__law_numbers, _, ds__law_numbers, fnOk_zero, m__law_numbers, D__law_numbers.kp, b__law_numbers, v__law_numbers⟩⟩, ⟨⟨f__law_marks, fd__law_marks, _, ds__law_marks, fnOk_zero, m__law_marks, D__law_marks.kp, b__law_marks, v__law_marks⟩⟩, ⟨⟨f__law_whole, fd__law_whole, _, ds__law_whole, fnOk_zero, m__law_whole, D__law_whole.kp, b__law_whole, v__law_whole⟩⟩, ⟨⟨f__law_tight, fd__law_tight, _, ds__law_tight, fnOk_zero, m__law_tight, D__law_tight.kp, b__law_tight, v__law_tight⟩⟩, ⟨⟨f__law_sign, fd__law_sign, _, ds__law_sign, fnOk_zero, m__law_sign, D__law_sign.kp, b__law_sign, v__law_sign⟩⟩, ⟨⟨_, f_Order_tight_1, fd_Order_tight_1, _, ds_Order_tight_1, fnOk_zero, k_Order_tight_1, m_Order_tight_1, b_Order_tight_1, v_Order_tight_1⟩⟩, ⟨⟨f__law_refused, fd__law_refused, _, ds__law_refused, fnOk_zero, m__law_refused, D__law_refused.kp, b__law_refused, v__law_refused⟩⟩⟩
  | n + 1 => by
    have H := all_ok (base := base) T n
    obtain ⟨f_check_marks, fd_check_marks, ds_check_marks, D_check_marks, m_check_marks, b_check_marks, v_check_marks⟩ := T.d_check_marks
    obtain ⟨f_anchor, fd_anchor, ds_anchor, D_anchor, m_anchor, b_anchor, v_anchor⟩ := T.d_anchor
    obtain ⟨f__law_cell, fd__law_cell, ds__law_cell, D__law_cell, m__law_cell, b__law_cell, v__law_cell⟩ := T.d__law_cell
    obtain ⟨f__law_draws, fd__law_draws, ds__law_draws, D__law_draws, m__law_draws, b__law_draws, v__law_draws⟩ := T.d__law_draws
    obtain ⟨f_Order_tight, fd_Order_tight, ds_Order_tight, D_Order_tight, k_Order_tight, m_Order_tight, b_Order_tight, v_Order_tight⟩ := T.d_Order_tight
    obtain ⟨f__law_numbers, fd__law_numbers, ds__law_numbers, D__law_numbers, m__law_numbers, b__law_numbers, v__law_numbers⟩ := T.d__law_numbers
    obtain ⟨f__law_marks, fd__law_marks, ds__law_marks, D__law_marks, m__law_marks, b__law_marks, v__law_marks⟩ := T.d__law_marks
    obtain ⟨f__law_whole, fd__law_whole, ds__law_whole, D__law_whole, m__law_whole, b__law_whole, v__law_whole⟩ := T.d__law_whole
    obtain ⟨f__law_tight, fd__law_tight, ds__law_tight, D__law_tight, m__law_tight, b__law_tight, v__law_tight⟩ := T.d__law_tight
    obtain ⟨f__law_sign, fd__law_sign, ds__law_sign, D__law_sign, m__law_sign, b__law_sign, v__law_sign⟩ := T.d__law_sign
    obtain ⟨f_Order_tight_1, fd_Order_tight_1, ds_Order_tight_1, D_Order_tight_1, k_Order_tight_1, m_Order_tight_1, b_Order_tight_1, v_Order_tight_1⟩ := T.d_Order_tight_1
    obtain ⟨f__law_refused, fd__law_refused, ds__law_refused, D__law_refused, m__law_refused, b__law_refused, v__law_refused⟩ := T.d__law_refused
    exact ⟨⟨⟨f_check_marks, fd_check_marks, _, ds_check_marks, fnD_ok D_check_marks sc_check_marks (F := ⟨1, 3, B_check_marks⟩) rfl rfl rfl (fun cdv A outer s H0 E hr => dr_check_marks T H hr), m_check_marks, D_check_marks.kp, b_check_marks, v_check_marks⟩⟩, ⟨⟨f_anchor, fd_anchor, _, ds_anchor, fnD_ok D_anchor sc_anchor (F := ⟨2, 3, B_anchor⟩) rfl rfl rfl (fun cdv A outer s H0 E hr => dr_anchor T H hr), m_anchor, D_anchor.kp, b_anchor, v_anchor⟩⟩, ⟨⟨f__law_cell, fd__law_cell, _, ds__law_cell, fnD_ok D__law_cell sc__law_cell (F := ⟨2, 2, B__law_cell⟩) rfl rfl rfl (fun cdv A outer s H0 E hr => dr__law_cell T H hr), m__law_cell, D__law_cell.kp, b__law_cell, v__law_cell⟩⟩, ⟨⟨f__law_draws, fd__law_draws, _, ds__law_draws, fnD_ok D__law_draws sc__law_draws (F := ⟨3, 8, B__law_draws⟩) rfl rfl rfl (fun cdv A outer s H0 E hr => dr__law_draws T H hr), m__law_draws, D__law_draws.kp, b__law_draws, v__law_draws⟩⟩, ⟨⟨_, f_Order_tight, fd_Order_tight, _, ds_Order_tight, fnD_ok D_Order_tight sc_Order_tight (F := ⟨2, 9, B_Order_tight⟩) rfl rfl rfl (fun cdv A outer s H0 E hr => dr_Order_tight T H hr), k_Order_tight, m_Order_tight, b_Order_tight, v_Order_tight⟩⟩, ⟨⟨f__law_numbers, fd__law_numbers, _, ds__law_numbers, fnD_ok D__law_numbers sc__law_numbers (F := ⟨3, 8, B__law_numbers⟩) rfl rfl rfl (fun cdv A outer s H0 E hr => dr__law_numbers T H hr), m__law_numbers, D__law_numbers.kp, b__law_numbers, v__law_numbers⟩⟩, ⟨⟨f__law_marks, fd__law_marks, _, ds__law_marks, fnD_ok D__law_marks sc__law_marks (F := ⟨3, 6, B__law_marks⟩) rfl rfl rfl (fun cdv A outer s H0 E hr => dr__law_marks T H hr), m__law_marks, D__law_marks.kp, b__law_marks, v__law_marks⟩⟩, ⟨⟨f__law_whole, fd__law_whole, _, ds__law_whole, fnD_ok D__law_whole sc__law_whole (F := ⟨1, 1, B__law_whole⟩) rfl rfl rfl (fun cdv A outer s H0 E hr => dr__law_whole T H hr), m__law_whole, D__law_whole.kp, b__law_whole, v__law_whole⟩⟩, ⟨⟨f__law_tight, fd__law_tight, _, ds__law_tight, fnD_ok D__law_tight sc__law_tight (F := ⟨3, 6, B__law_tight⟩) rfl rfl rfl (fun cdv A outer s H0 E hr => dr__law_tight T H hr), m__law_tight, D__law_tight.kp, b__law_tight, v__law_tight⟩⟩, ⟨⟨f__law_sign, fd__law_sign, _, ds__law_sign, fnD_ok D__law_sign sc__law_sign (F := ⟨2, 2, B__law_sign⟩) rfl rfl rfl (fun cdv A outer s H0 E hr => dr__law_sign T H hr), m__law_sign, D__law_sign.kp, b__law_sign, v__law_sign⟩⟩, ⟨⟨_, f_Order_tight_1, fd_Order_tight_1, _, ds_Order_tight_1, fnD_ok D_Order_tight_1 sc_Order_tight (F := ⟨2, 9, B_Order_tight⟩) rfl rfl rfl (fun cdv A outer s H0 E hr => dr_Order_tight T H hr), k_Order_tight_1, m_Order_tight_1, b_Order_tight_1, v_Order_tight_1⟩⟩, ⟨⟨f__law_refused, fd__law_refused, _, ds__law_refused, fnD_ok D__law_refused sc__law_refused (F := ⟨2, 3, B__law_refused⟩) rfl rfl rfl (fun cdv A outer s H0 E hr => dr__law_refused T H hr), m__law_refused, D__law_refused.kp, b__law_refused, v__law_refused⟩⟩⟩
theorem law_ok {P : Program} {w : World} {K : PySem.W.Frag} {mg : Str → Option Value} {base : Heap} {C_Order C_CutError C_BadMarks C_TooMany E_Order_tight : Addr} (T : Txt P w K mg C_Order C_CutError C_BadMarks C_TooMany E_Order_tight) {f : Addr} {fd : FuncData} (D : FunD K "law" "law" (defArgs s_law) (defBody s_law) (defScope s_law) [] [] f fd) : FnOk P w K mg base (L2.CX P w) (4 * 11) f fd ["_law_script"] (spLaw K) := by
  refine FnOk.imp (fnD_ok (n := 10) (T := Tb) (g := 11) (W := (Wz K w C_Order C_CutError C_BadMarks C_TooMany)) D sc_law (F := ⟨1, 13, B_law⟩) rfl rfl rfl fun cdv A outer s H0 E hr => dr_law T (all_ok T _) hr) fun vs H Q E h => ?_
  obtain ⟨a, ns, rfl, hz, hs, q⟩ := h
  refine ⟨[], [], H, [.scr (ns.map .int)], fun _ => false, ⟨Ex.refl H, rfl, .nil, fun a h => (List.not_mem_nil h).elim, fun r a d h => by simp at h⟩, .cons (by simp only [Rep]; exact ⟨a, _, rfl, hs, repL_ints' _ _ _ ns⟩) .nil, ?_⟩
  rw [law_run ns hz]
  intro v B' H' g r
  simp only [ResAt, Bool.false_eq_true, if_false, Rep] at r
  rw [r]
  exact q H'
theorem all_mk {l : PySem.W.OpenLaw} {w : World} {K : PySem.W.Frag} {h : Heap} {mg : Str → Option Value} {fa : Addr} {C_Order C_CutError C_BadMarks C_TooMany E_Order_tight : Addr}
    {eo_Order_tight : Option Addr} {ei_Order_tight : Array Value} {en_Order_tight : Nat} {es_Order_tight : Array (Option Value)}
    {f_check_marks : Addr} {od_check_marks an_check_marks : Option Addr} {sl_check_marks : Array (Option Value)} {oc_check_marks kV_check_marks dc_check_marks pm_check_marks cd_check_marks ct_check_marks : Value}
    {f_anchor : Addr} {od_anchor an_anchor : Option Addr} {sl_anchor : Array (Option Value)} {oc_anchor kV_anchor dc_anchor pm_anchor cd_anchor ct_anchor : Value}
    {f_Order_tight : Addr} {od_Order_tight an_Order_tight : Option Addr} {sl_Order_tight : Array (Option Value)} {oc_Order_tight kV_Order_tight dc_Order_tight pm_Order_tight cd_Order_tight ct_Order_tight : Value}
    {dt_Order_tight : Addr} {do_Order_tight : Option Addr} {di_Order_tight : List Value} {dn_Order_tight : Nat} {ds_Order_tight : Array (Option Value)}
    {p_Order_tight : Addr} {rs_Order_tight : List Value}
    {f__law_cell : Addr} {od__law_cell an__law_cell : Option Addr} {sl__law_cell : Array (Option Value)} {oc__law_cell kV__law_cell dc__law_cell pm__law_cell cd__law_cell ct__law_cell : Value}
    {f__law_draws : Addr} {od__law_draws an__law_draws : Option Addr} {sl__law_draws : Array (Option Value)} {oc__law_draws kV__law_draws dc__law_draws pm__law_draws cd__law_draws ct__law_draws : Value}
    {f__law_numbers : Addr} {od__law_numbers an__law_numbers : Option Addr} {sl__law_numbers : Array (Option Value)} {oc__law_numbers kV__law_numbers dc__law_numbers pm__law_numbers cd__law_numbers ct__law_numbers : Value}
    {f__law_marks : Addr} {od__law_marks an__law_marks : Option Addr} {sl__law_marks : Array (Option Value)} {oc__law_marks kV__law_marks dc__law_marks pm__law_marks cd__law_marks ct__law_marks : Value}
    {f__law_tight : Addr} {od__law_tight an__law_tight : Option Addr} {sl__law_tight : Array (Option Value)} {oc__law_tight kV__law_tight dc__law_tight pm__law_tight cd__law_tight ct__law_tight : Value}
    {f__law_whole : Addr} {od__law_whole an__law_whole : Option Addr} {sl__law_whole : Array (Option Value)} {oc__law_whole kV__law_whole dc__law_whole pm__law_whole cd__law_whole ct__law_whole : Value}
    {f__law_sign : Addr} {od__law_sign an__law_sign : Option Addr} {sl__law_sign : Array (Option Value)} {oc__law_sign kV__law_sign dc__law_sign pm__law_sign cd__law_sign ct__law_sign : Value}
    {f__law_refused : Addr} {od__law_refused an__law_refused : Option Addr} {sl__law_refused : Array (Option Value)} {oc__law_refused kV__law_refused dc__law_refused pm__law_refused cd__law_refused ct__law_refused : Value}
    {f_law : Addr} {od_law an_law : Option Addr} {sl_law : Array (Option Value)} {oc_law kV_law dc_law pm_law cd_law ct_law : Value}
    (X : K.In h) (G : h.Ns mainGlobals mg) (hfa : mg "law" = some (.ref fa))
    (g_Order : PySem.W.nsIn K mainGlobals "Order" = some (some (.ref C_Order)))
    (g_CutError : PySem.W.nsIn K mainGlobals "CutError" = some (some (.ref C_CutError)))
    (g_BadMarks : PySem.W.nsIn K mainGlobals "BadMarks" = some (some (.ref C_BadMarks)))
    (g_TooMany : PySem.W.nsIn K mainGlobals "TooMany" = some (some (.ref C_TooMany)))
    (sb_CutError : PySem.W.subIn K (.ref C_CutError) (.type "BaseException") = some true)
    (ty_CutError : PySem.W.typeIn K (.ref C_CutError) = some (.type "type"))
    (q4_CutError : PySem.W.hasDictIn K C_CutError = true)
    (q1_CutError : PySem.W.findIn K (.ref C_CutError) "__getattribute__" = some (some (.builtin "BaseException.__getattribute__")))
    (q2_CutError : PySem.W.findIn K (.ref C_CutError) "__getattr__" = some none)
    (q5_CutError : PySem.W.findIn K (.ref C_CutError) "__class__" = some (some (.builtin "object.__class__")))
    (q8_CutError : PySem.W.mroIn K C_CutError (.type "object") = some true)
    (ve_CutError : PySem.W.subIn K (.ref C_CutError) (.type "ValueError") = some true)
    (s_CutError_CutError : PySem.W.subIn K (.ref C_CutError) (.ref C_CutError) = some true)
    (s_CutError_BadMarks : PySem.W.subIn K (.ref C_CutError) (.ref C_BadMarks) = some false)
    (s_CutError_TooMany : PySem.W.subIn K (.ref C_CutError) (.ref C_TooMany) = some false)
    (sb_BadMarks : PySem.W.subIn K (.ref C_BadMarks) (.type "BaseException") = some true)
    (ty_BadMarks : PySem.W.typeIn K (.ref C_BadMarks) = some (.type "type"))
    (q4_BadMarks : PySem.W.hasDictIn K C_BadMarks = true)
    (q1_BadMarks : PySem.W.findIn K (.ref C_BadMarks) "__getattribute__" = some (some (.builtin "BaseException.__getattribute__")))
    (q2_BadMarks : PySem.W.findIn K (.ref C_BadMarks) "__getattr__" = some none)
    (q5_BadMarks : PySem.W.findIn K (.ref C_BadMarks) "__class__" = some (some (.builtin "object.__class__")))
    (q8_BadMarks : PySem.W.mroIn K C_BadMarks (.type "object") = some true)
    (ve_BadMarks : PySem.W.subIn K (.ref C_BadMarks) (.type "ValueError") = some true)
    (s_BadMarks_CutError : PySem.W.subIn K (.ref C_BadMarks) (.ref C_CutError) = some true)
    (s_BadMarks_BadMarks : PySem.W.subIn K (.ref C_BadMarks) (.ref C_BadMarks) = some true)
    (s_BadMarks_TooMany : PySem.W.subIn K (.ref C_BadMarks) (.ref C_TooMany) = some false)
    (kp_BadMarks : PySem.W.keepIn K (.ref C_BadMarks) = true)
    (xi_BadMarks : PySem.W.excIn K C_BadMarks [.type "ValueError", .type "Exception", .type "BaseException", .type "object"] "ValueError.__new__" = true)
    (sb_TooMany : PySem.W.subIn K (.ref C_TooMany) (.type "BaseException") = some true)
    (ty_TooMany : PySem.W.typeIn K (.ref C_TooMany) = some (.type "type"))
    (q4_TooMany : PySem.W.hasDictIn K C_TooMany = true)
    (q1_TooMany : PySem.W.findIn K (.ref C_TooMany) "__getattribute__" = some (some (.builtin "BaseException.__getattribute__")))
    (q2_TooMany : PySem.W.findIn K (.ref C_TooMany) "__getattr__" = some none)
    (q5_TooMany : PySem.W.findIn K (.ref C_TooMany) "__class__" = some (some (.builtin "object.__class__")))
    (q8_TooMany : PySem.W.mroIn K C_TooMany (.type "object") = some true)
    (ve_TooMany : PySem.W.subIn K (.ref C_TooMany) (.type "ValueError") = some true)
    (s_TooMany_CutError : PySem.W.subIn K (.ref C_TooMany) (.ref C_CutError) = some true)
    (s_TooMany_BadMarks : PySem.W.subIn K (.ref C_TooMany) (.ref C_BadMarks) = some false)
    (s_TooMany_TooMany : PySem.W.subIn K (.ref C_TooMany) (.ref C_TooMany) = some true)
    (q6 : PySem.W.specialIn K (.builtin "object.__class__") "__get__" = some (some (.builtin "getset_descriptor.__get__")))
    (q7 : PySem.W.takesIn K (.builtin "object.__class__") = some true)
    (pg_Order : PySem.W.plainGet K C_Order Str.empty = true)
    (hd_Order : PySem.W.hasDictIn K C_Order = true)
    (po_Order : PySem.W.plainOver K C_Order = true)
    (sa_Order : PySem.W.findIn K (.ref C_Order) "__setattr__" = some (some (.builtin "object.__setattr__")))
    (ca_Order : PySem.W.findIn K (.ref C_Order) "__class__" = some (some (.builtin "object.__class__")))
    (cn_Order : PySem.W.specialIn K (.builtin "object.__class__") "__get__" = some (some (.builtin "getset_descriptor.__get__")))
    (ct_Order : PySem.W.takesIn K (.builtin "object.__class__") = some true)
    (cm_Order : PySem.W.mroIn K C_Order (.type "object") = some true)
    (z_zip : PySem.W.nsIn K mainGlobals "zip" = some none)
    (z_any : PySem.W.nsIn K mainGlobals "any" = some none)
    (z_max : PySem.W.nsIn K mainGlobals "max" = some none)
    (z_sorted : PySem.W.nsIn K mainGlobals "sorted" = some none)
    (z_set : PySem.W.nsIn K mainGlobals "set" = some none)
    (z_enumerate : PySem.W.nsIn K mainGlobals "enumerate" = some none)
    (z_tuple : PySem.W.nsIn K mainGlobals "tuple" = some none)
    (z_len : PySem.W.nsIn K mainGlobals "len" = some none)
    (z_int : PySem.W.nsIn K mainGlobals "int" = some none)
    (z_range : PySem.W.nsIn K mainGlobals "range" = some none)
    (z_isinstance : PySem.W.nsIn K mainGlobals "isinstance" = some none)
    (z_bool : PySem.W.nsIn K mainGlobals "bool" = some none)
    (z_ValueError : PySem.W.nsIn K mainGlobals "ValueError" = some none)
    (z_list : PySem.W.nsIn K mainGlobals "list" = some none)
    (a_check_marks : PySem.W.nsIn K mainGlobals "check_marks" = some (some (.ref f_check_marks)))
    (l_check_marks : K.lookup f_check_marks = some ⟨oc_check_marks, od_check_marks, .func (PySem.W.fnOf "check_marks" "check_marks" (defArgs s_check_marks) (defBody s_check_marks) (defScope s_check_marks) .none kV_check_marks dc_check_marks pm_check_marks an_check_marks cd_check_marks ct_check_marks), sl_check_marks⟩)
    (c_check_marks : PySem.W.codeIn K cd_check_marks "check_marks" = true)
    (k_check_marks : PySem.W.keepIn K (.ref f_check_marks) = true)
    (a_anchor : PySem.W.nsIn K mainGlobals "anchor" = some (some (.ref f_anchor)))
    (l_anchor : K.lookup f_anchor = some ⟨oc_anchor, od_anchor, .func (PySem.W.fnOf "anchor" "anchor" (defArgs s_anchor) (defBody s_anchor) (defScope s_anchor) .none kV_anchor dc_anchor pm_anchor an_anchor cd_anchor ct_anchor), sl_anchor⟩)
    (c_anchor : PySem.W.codeIn K cd_anchor "anchor" = true)
    (k_anchor : PySem.W.keepIn K (.ref f_anchor) = true)
    (a_Order_tight : PySem.W.findCls K (.ref C_Order) (.type "type") "tight" = some (.get (.builtin "staticmethod.__get__") (.ref p_Order_tight) .none (.ref C_Order)))
    (r_Order_tight : PySem.W.recIn K p_Order_tight "staticmethod" = some (.ref f_Order_tight :: rs_Order_tight))
    (rd_Order : PySem.W.readsIn K C_Order (.type "type") = true)
    (ga_Order : PySem.W.specialIn K (.ref C_Order) "__getattribute__" = some (some (.builtin "type.__getattribute__")))
    (l_Order_tight : K.lookup f_Order_tight = some ⟨oc_Order_tight, od_Order_tight, .func (PySem.W.fnOf "tight" "Order.tight" (defArgs s_Order_tight) (defBody s_Order_tight) (defScope s_Order_tight) (.ref dt_Order_tight) kV_Order_tight dc_Order_tight pm_Order_tight an_Order_tight cd_Order_tight ct_Order_tight), sl_Order_tight⟩)
    (c_Order_tight : PySem.W.codeIn K cd_Order_tight "Order.tight" = true)
    (k_Order_tight : PySem.W.keepIn K (.ref f_Order_tight) = true)
    (dl_Order_tight : K.lookup dt_Order_tight = some ⟨.type "tuple", do_Order_tight, .seq di_Order_tight.toArray dn_Order_tight, ds_Order_tight⟩)
    (dv_Order_tight : Vals [.ref E_Order_tight] di_Order_tight)
    (le_Order_tight : K.lookup E_Order_tight = some ⟨.type "tuple", eo_Order_tight, .seq ei_Order_tight en_Order_tight, es_Order_tight⟩)
    (vt_Order_tight : Vals [] ei_Order_tight.toList)
    (a__law_cell : PySem.W.nsIn K mainGlobals "_law_cell" = some (some (.ref f__law_cell)))
    (l__law_cell : K.lookup f__law_cell = some ⟨oc__law_cell, od__law_cell, .func (PySem.W.fnOf "_law_cell" "_law_cell" (defArgs s__law_cell) (defBody s__law_cell) (defScope s__law_cell) .none kV__law_cell dc__law_cell pm__law_cell an__law_cell cd__law_cell ct__law_cell), sl__law_cell⟩)
    (c__law_cell : PySem.W.codeIn K cd__law_cell "_law_cell" = true)
    (k__law_cell : PySem.W.keepIn K (.ref f__law_cell) = true)
    (a__law_draws : PySem.W.nsIn K mainGlobals "_law_draws" = some (some (.ref f__law_draws)))
    (l__law_draws : K.lookup f__law_draws = some ⟨oc__law_draws, od__law_draws, .func (PySem.W.fnOf "_law_draws" "_law_draws" (defArgs s__law_draws) (defBody s__law_draws) (defScope s__law_draws) .none kV__law_draws dc__law_draws pm__law_draws an__law_draws cd__law_draws ct__law_draws), sl__law_draws⟩)
    (c__law_draws : PySem.W.codeIn K cd__law_draws "_law_draws" = true)
    (k__law_draws : PySem.W.keepIn K (.ref f__law_draws) = true)
    (a__law_numbers : PySem.W.nsIn K mainGlobals "_law_numbers" = some (some (.ref f__law_numbers)))
    (l__law_numbers : K.lookup f__law_numbers = some ⟨oc__law_numbers, od__law_numbers, .func (PySem.W.fnOf "_law_numbers" "_law_numbers" (defArgs s__law_numbers) (defBody s__law_numbers) (defScope s__law_numbers) .none kV__law_numbers dc__law_numbers pm__law_numbers an__law_numbers cd__law_numbers ct__law_numbers), sl__law_numbers⟩)
    (c__law_numbers : PySem.W.codeIn K cd__law_numbers "_law_numbers" = true)
    (k__law_numbers : PySem.W.keepIn K (.ref f__law_numbers) = true)
    (a__law_marks : PySem.W.nsIn K mainGlobals "_law_marks" = some (some (.ref f__law_marks)))
    (l__law_marks : K.lookup f__law_marks = some ⟨oc__law_marks, od__law_marks, .func (PySem.W.fnOf "_law_marks" "_law_marks" (defArgs s__law_marks) (defBody s__law_marks) (defScope s__law_marks) .none kV__law_marks dc__law_marks pm__law_marks an__law_marks cd__law_marks ct__law_marks), sl__law_marks⟩)
    (c__law_marks : PySem.W.codeIn K cd__law_marks "_law_marks" = true)
    (k__law_marks : PySem.W.keepIn K (.ref f__law_marks) = true)
    (a__law_tight : PySem.W.nsIn K mainGlobals "_law_tight" = some (some (.ref f__law_tight)))
    (l__law_tight : K.lookup f__law_tight = some ⟨oc__law_tight, od__law_tight, .func (PySem.W.fnOf "_law_tight" "_law_tight" (defArgs s__law_tight) (defBody s__law_tight) (defScope s__law_tight) .none kV__law_tight dc__law_tight pm__law_tight an__law_tight cd__law_tight ct__law_tight), sl__law_tight⟩)
    (c__law_tight : PySem.W.codeIn K cd__law_tight "_law_tight" = true)
    (k__law_tight : PySem.W.keepIn K (.ref f__law_tight) = true)
    (a__law_whole : PySem.W.nsIn K mainGlobals "_law_whole" = some (some (.ref f__law_whole)))
    (l__law_whole : K.lookup f__law_whole = some ⟨oc__law_whole, od__law_whole, .func (PySem.W.fnOf "_law_whole" "_law_whole" (defArgs s__law_whole) (defBody s__law_whole) (defScope s__law_whole) .none kV__law_whole dc__law_whole pm__law_whole an__law_whole cd__law_whole ct__law_whole), sl__law_whole⟩)
    (c__law_whole : PySem.W.codeIn K cd__law_whole "_law_whole" = true)
    (k__law_whole : PySem.W.keepIn K (.ref f__law_whole) = true)
    (a__law_sign : PySem.W.nsIn K mainGlobals "_law_sign" = some (some (.ref f__law_sign)))
    (l__law_sign : K.lookup f__law_sign = some ⟨oc__law_sign, od__law_sign, .func (PySem.W.fnOf "_law_sign" "_law_sign" (defArgs s__law_sign) (defBody s__law_sign) (defScope s__law_sign) .none kV__law_sign dc__law_sign pm__law_sign an__law_sign cd__law_sign ct__law_sign), sl__law_sign⟩)
    (c__law_sign : PySem.W.codeIn K cd__law_sign "_law_sign" = true)
    (k__law_sign : PySem.W.keepIn K (.ref f__law_sign) = true)
    (a__law_refused : PySem.W.nsIn K mainGlobals "_law_refused" = some (some (.ref f__law_refused)))
    (l__law_refused : K.lookup f__law_refused = some ⟨oc__law_refused, od__law_refused, .func (PySem.W.fnOf "_law_refused" "_law_refused" (defArgs s__law_refused) (defBody s__law_refused) (defScope s__law_refused) .none kV__law_refused dc__law_refused pm__law_refused an__law_refused cd__law_refused ct__law_refused), sl__law_refused⟩)
    (c__law_refused : PySem.W.codeIn K cd__law_refused "_law_refused" = true)
    (k__law_refused : PySem.W.keepIn K (.ref f__law_refused) = true)
    (a_law : PySem.W.nsIn K mainGlobals "law" = some (some (.ref f_law)))
    (l_law : K.lookup f_law = some ⟨oc_law, od_law, .func (PySem.W.fnOf "law" "law" (defArgs s_law) (defBody s_law) (defScope s_law) .none kV_law dc_law pm_law an_law cd_law ct_law), sl_law⟩)
    (c_law : PySem.W.codeIn K cd_law "law" = true)
    (k_law : PySem.W.keepIn K (.ref f_law) = true)
    : ∃ fd : FuncData, (∀ (s : Shared) (v : Value), BindsTo s fd ⟨[v], []⟩ [("_law_script", v)]) ∧ ∀ base : Heap, K.In base → base.Ns mainGlobals mg → FnOk l.prog w K mg base (L2.CX l.prog w) (4 * 11) fa fd ["_law_script"] (spLaw K) := by
  have e := hfa.symm.trans (PySem.W.mg_of X G a_law)
  cases e
  have ok : WOk (Wz K w C_Order C_CutError C_BadMarks C_TooMany) := by
    refine ⟨?_, ?_, ?_, ?_, ?_⟩
    · exact fun c hc => match c, hc with | 0, hc => ⟨⟨⟨pg_Order, hd_Order, po_Order, sa_Order⟩, ca_Order, cn_Order, ct_Order, cm_Order⟩, fun f hf => (fun z => (List.not_mem_nil z).elim) hf⟩ | 1, hc => Bool.noConfusion hc | 2, hc => Bool.noConfusion hc | 3, hc => Bool.noConfusion hc | _ + 4, hc => Bool.noConfusion hc
    · intro c d hc hd
      match c, d, hc, hd with
      | 0, _, hc, _ => exact Bool.noConfusion hc
      | 1, 1, _, _ => exact PySem.W.exm_ref sb_CutError q4_CutError ty_CutError s_CutError_CutError
      | 1, 2, _, _ => exact PySem.W.exm_ref sb_BadMarks q4_BadMarks ty_BadMarks s_CutError_BadMarks
      | 1, 3, _, _ => exact PySem.W.exm_ref sb_TooMany q4_TooMany ty_TooMany s_CutError_TooMany
      | 1, 0, _, hd => exact Bool.noConfusion hd
      | 1, _ + 4, _, hd => exact Bool.noConfusion hd
      | 2, 1, _, _ => exact PySem.W.exm_ref sb_CutError q4_CutError ty_CutError s_BadMarks_CutError
      | 2, 2, _, _ => exact PySem.W.exm_ref sb_BadMarks q4_BadMarks ty_BadMarks s_BadMarks_BadMarks
      | 2, 3, _, _ => exact PySem.W.exm_ref sb_TooMany q4_TooMany ty_TooMany s_BadMarks_TooMany
      | 2, 0, _, hd => exact Bool.noConfusion hd
      | 2, _ + 4, _, hd => exact Bool.noConfusion hd
      | 3, 1, _, _ => exact PySem.W.exm_ref sb_CutError q4_CutError ty_CutError s_TooMany_CutError
      | 3, 2, _, _ => exact PySem.W.exm_ref sb_BadMarks q4_BadMarks ty_BadMarks s_TooMany_BadMarks
      | 3, 3, _, _ => exact PySem.W.exm_ref sb_TooMany q4_TooMany ty_TooMany s_TooMany_TooMany
      | 3, 0, _, hd => exact Bool.noConfusion hd
      | 3, _ + 4, _, hd => exact Bool.noConfusion hd
      | _ + 4, _, hc, _ => exact Bool.noConfusion hc
    · intro c d hc hd
      match c, d, hc, hd with
      | 0, _, hc, _ => exact Bool.noConfusion hc
      | 1, 1, _, _ => exact kit_ref2 s_CutError_CutError s_CutError_CutError q4_CutError ty_CutError
      | 1, 2, _, _ => exact kit_ref2 s_CutError_BadMarks s_BadMarks_BadMarks q4_BadMarks ty_BadMarks
      | 1, 3, _, _ => exact kit_ref2 s_CutError_TooMany s_TooMany_TooMany q4_TooMany ty_TooMany
      | 1, 0, _, hd => exact Bool.noConfusion hd
      | 1, _ + 4, _, hd => exact Bool.noConfusion hd
      | 2, 1, _, _ => exact kit_ref2 s_BadMarks_CutError s_CutError_CutError q4_CutError ty_CutError
      | 2, 2, _, _ => exact kit_ref2 s_BadMarks_BadMarks s_BadMarks_BadMarks q4_BadMarks ty_BadMarks
      | 2, 3, _, _ => exact kit_ref2 s_BadMarks_TooMany s_TooMany_TooMany q4_TooMany ty_TooMany
      | 2, 0, _, hd => exact Bool.noConfusion hd
      | 2, _ + 4, _, hd => exact Bool.noConfusion hd
      | 3, 1, _, _ => exact kit_ref2 s_TooMany_CutError s_CutError_CutError q4_CutError ty_CutError
      | 3, 2, _, _ => exact kit_ref2 s_TooMany_BadMarks s_BadMarks_BadMarks q4_BadMarks ty_BadMarks
      | 3, 3, _, _ => exact kit_ref2 s_TooMany_TooMany s_TooMany_TooMany q4_TooMany ty_TooMany
      | 3, 0, _, hd => exact Bool.noConfusion hd
      | 3, _ + 4, _, hd => exact Bool.noConfusion hd
      | _ + 4, _, hc, _ => exact Bool.noConfusion hc
    · exact fun c hc => match c, hc with | 0, hc => Bool.noConfusion hc | 1, hc => kit_own ve_CutError | 2, hc => kit_own ve_BadMarks | 3, hc => kit_own ve_TooMany | _ + 4, hc => Bool.noConfusion hc
    · exact fun c hc => match c, hc with | 0, hc => Bool.noConfusion hc | 1, hc => ⟨⟨q1_CutError, q2_CutError, sb_CutError, q4_CutError, q5_CutError, q6, q7, q8_CutError⟩, fun f hf => (fun z => (List.not_mem_nil z).elim) hf⟩ | 2, hc => ⟨⟨q1_BadMarks, q2_BadMarks, sb_BadMarks, q4_BadMarks, q5_BadMarks, q6, q7, q8_BadMarks⟩, fun f hf => (fun z => (List.not_mem_nil z).elim) hf⟩ | 3, hc => ⟨⟨q1_TooMany, q2_TooMany, sb_TooMany, q4_TooMany, q5_TooMany, q6, q7, q8_TooMany⟩, fun f hf => (fun z => (List.not_mem_nil z).elim) hf⟩ | _ + 4, hc => Bool.noConfusion hc
  have D_check_marks : FunD K "check_marks" "check_marks" (defArgs s_check_marks) (defBody s_check_marks) (defScope s_check_marks) [] [] f_check_marks (PySem.W.fnOf "check_marks" "check_marks" (defArgs s_check_marks) (defBody s_check_marks) (defScope s_check_marks) .none kV_check_marks dc_check_marks pm_check_marks an_check_marks cd_check_marks ct_check_marks) := ⟨⟨oc_check_marks, od_check_marks, _, kV_check_marks, dc_check_marks, pm_check_marks, an_check_marks, cd_check_marks, ct_check_marks, sl_check_marks, rfl, l_check_marks, c_check_marks, .inl ⟨rfl, rfl⟩, .inl rfl⟩, k_check_marks⟩
  have D_anchor : FunD K "anchor" "anchor" (defArgs s_anchor) (defBody s_anchor) (defScope s_anchor) [] [] f_anchor (PySem.W.fnOf "anchor" "anchor" (defArgs s_anchor) (defBody s_anchor) (defScope s_anchor) .none kV_anchor dc_anchor pm_anchor an_anchor cd_anchor ct_anchor) := ⟨⟨oc_anchor, od_anchor, _, kV_anchor, dc_anchor, pm_anchor, an_anchor, cd_anchor, ct_anchor, sl_anchor, rfl, l_anchor, c_anchor, .inl ⟨rfl, rfl⟩, .inl rfl⟩, k_anchor⟩
  have D_Order_tight : FunD K "tight" "Order.tight" (defArgs s_Order_tight) (defBody s_Order_tight) (defScope s_Order_tight) [.ref E_Order_tight] [] f_Order_tight (PySem.W.fnOf "tight" "Order.tight" (defArgs s_Order_tight) (defBody s_Order_tight) (defScope s_Order_tight) (.ref dt_Order_tight) kV_Order_tight dc_Order_tight pm_Order_tight an_Order_tight cd_Order_tight ct_Order_tight) := ⟨⟨oc_Order_tight, od_Order_tight, _, kV_Order_tight, dc_Order_tight, pm_Order_tight, an_Order_tight, cd_Order_tight, ct_Order_tight, sl_Order_tight, rfl, l_Order_tight, c_Order_tight, .inr ⟨by simp, dt_Order_tight, _, di_Order_tight, dn_Order_tight, rfl, dl_Order_tight, rfl, dv_Order_tight⟩, .inl rfl⟩, k_Order_tight⟩
  have D__law_cell : FunD K "_law_cell" "_law_cell" (defArgs s__law_cell) (defBody s__law_cell) (defScope s__law_cell) [] [] f__law_cell (PySem.W.fnOf "_law_cell" "_law_cell" (defArgs s__law_cell) (defBody s__law_cell) (defScope s__law_cell) .none kV__law_cell dc__law_cell pm__law_cell an__law_cell cd__law_cell ct__law_cell) := ⟨⟨oc__law_cell, od__law_cell, _, kV__law_cell, dc__law_cell, pm__law_cell, an__law_cell, cd__law_cell, ct__law_cell, sl__law_cell, rfl, l__law_cell, c__law_cell, .inl ⟨rfl, rfl⟩, .inl rfl⟩, k__law_cell⟩
  have D__law_draws : FunD K "_law_draws" "_law_draws" (defArgs s__law_draws) (defBody s__law_draws) (defScope s__law_draws) [] [] f__law_draws (PySem.W.fnOf "_law_draws" "_law_draws" (defArgs s__law_draws) (defBody s__law_draws) (defScope s__law_draws) .none kV__law_draws dc__law_draws pm__law_draws an__law_draws cd__law_draws ct__law_draws) := ⟨⟨oc__law_draws, od__law_draws, _, kV__law_draws, dc__law_draws, pm__law_draws, an__law_draws, cd__law_draws, ct__law_draws, sl__law_draws, rfl, l__law_draws, c__law_draws, .inl ⟨rfl, rfl⟩, .inl rfl⟩, k__law_draws⟩
  have D__law_numbers : FunD K "_law_numbers" "_law_numbers" (defArgs s__law_numbers) (defBody s__law_numbers) (defScope s__law_numbers) [] [] f__law_numbers (PySem.W.fnOf "_law_numbers" "_law_numbers" (defArgs s__law_numbers) (defBody s__law_numbers) (defScope s__law_numbers) .none kV__law_numbers dc__law_numbers pm__law_numbers an__law_numbers cd__law_numbers ct__law_numbers) := ⟨⟨oc__law_numbers, od__law_numbers, _, kV__law_numbers, dc__law_numbers, pm__law_numbers, an__law_numbers, cd__law_numbers, ct__law_numbers, sl__law_numbers, rfl, l__law_numbers, c__law_numbers, .inl ⟨rfl, rfl⟩, .inl rfl⟩, k__law_numbers⟩
  have D__law_marks : FunD K "_law_marks" "_law_marks" (defArgs s__law_marks) (defBody s__law_marks) (defScope s__law_marks) [] [] f__law_marks (PySem.W.fnOf "_law_marks" "_law_marks" (defArgs s__law_marks) (defBody s__law_marks) (defScope s__law_marks) .none kV__law_marks dc__law_marks pm__law_marks an__law_marks cd__law_marks ct__law_marks) := ⟨⟨oc__law_marks, od__law_marks, _, kV__law_marks, dc__law_marks, pm__law_marks, an__law_marks, cd__law_marks, ct__law_marks, sl__law_marks, rfl, l__law_marks, c__law_marks, .inl ⟨rfl, rfl⟩, .inl rfl⟩, k__law_marks⟩
  have D__law_tight : FunD K "_law_tight" "_law_tight" (defArgs s__law_tight) (defBody s__law_tight) (defScope s__law_tight) [] [] f__law_tight (PySem.W.fnOf "_law_tight" "_law_tight" (defArgs s__law_tight) (defBody s__law_tight) (defScope s__law_tight) .none kV__law_tight dc__law_tight pm__law_tight an__law_tight cd__law_tight ct__law_tight) := ⟨⟨oc__law_tight, od__law_tight, _, kV__law_tight, dc__law_tight, pm__law_tight, an__law_tight, cd__law_tight, ct__law_tight, sl__law_tight, rfl, l__law_tight, c__law_tight, .inl ⟨rfl, rfl⟩, .inl rfl⟩, k__law_tight⟩
  have D__law_whole : FunD K "_law_whole" "_law_whole" (defArgs s__law_whole) (defBody s__law_whole) (defScope s__law_whole) [] [] f__law_whole (PySem.W.fnOf "_law_whole" "_law_whole" (defArgs s__law_whole) (defBody s__law_whole) (defScope s__law_whole) .none kV__law_whole dc__law_whole pm__law_whole an__law_whole cd__law_whole ct__law_whole) := ⟨⟨oc__law_whole, od__law_whole, _, kV__law_whole, dc__law_whole, pm__law_whole, an__law_whole, cd__law_whole, ct__law_whole, sl__law_whole, rfl, l__law_whole, c__law_whole, .inl ⟨rfl, rfl⟩, .inl rfl⟩, k__law_whole⟩
  have D__law_sign : FunD K "_law_sign" "_law_sign" (defArgs s__law_sign) (defBody s__law_sign) (defScope s__law_sign) [] [] f__law_sign (PySem.W.fnOf "_law_sign" "_law_sign" (defArgs s__law_sign) (defBody s__law_sign) (defScope s__law_sign) .none kV__law_sign dc__law_sign pm__law_sign an__law_sign cd__law_sign ct__law_sign) := ⟨⟨oc__law_sign, od__law_sign, _, kV__law_sign, dc__law_sign, pm__law_sign, an__law_sign, cd__law_sign, ct__law_sign, sl__law_sign, rfl, l__law_sign, c__law_sign, .inl ⟨rfl, rfl⟩, .inl rfl⟩, k__law_sign⟩
  have D__law_refused : FunD K "_law_refused" "_law_refused" (defArgs s__law_refused) (defBody s__law_refused) (defScope s__law_refused) [] [] f__law_refused (PySem.W.fnOf "_law_refused" "_law_refused" (defArgs s__law_refused) (defBody s__law_refused) (defScope s__law_refused) .none kV__law_refused dc__law_refused pm__law_refused an__law_refused cd__law_refused ct__law_refused) := ⟨⟨oc__law_refused, od__law_refused, _, kV__law_refused, dc__law_refused, pm__law_refused, an__law_refused, cd__law_refused, ct__law_refused, sl__law_refused, rfl, l__law_refused, c__law_refused, .inl ⟨rfl, rfl⟩, .inl rfl⟩, k__law_refused⟩
  have D_law : FunD K "law" "law" (defArgs s_law) (defBody s_law) (defScope s_law) [] [] fa (PySem.W.fnOf "law" "law" (defArgs s_law) (defBody s_law) (defScope s_law) .none kV_law dc_law pm_law an_law cd_law ct_law) := ⟨⟨oc_law, od_law, _, kV_law, dc_law, pm_law, an_law, cd_law, ct_law, sl_law, rfl, l_law, c_law, .inl ⟨rfl, rfl⟩, .inl rfl⟩, k_law⟩
  obtain ⟨ds_Order_tight_0, vd_Order_tight_0, bd_Order_tight_0⟩ := D_Order_tight.binds1 (ps := ["numbers", "marks"]) 2 1 (by simp) rfl fun T kV doc pm an cdv ct us its h1 h2 => match us, its, h1, h2 with | [_, _], [_], _, _ => ⟨_, rfl, rfl⟩
  obtain ⟨ds_Order_tight_1, vd_Order_tight_1, bd_Order_tight_1⟩ := D_Order_tight.binds1 (ps := ["numbers", "marks"]) 1 0 (by simp) rfl fun T kV doc pm an cdv ct us its h1 h2 => match us, its, h1, h2 with | [_], [_], _, _ => ⟨_, rfl, rfl⟩
  have T : Txt l.prog w K mg C_Order C_CutError C_BadMarks C_TooMany E_Order_tight := ⟨ok,
    PySem.W.mg_of X G g_Order,
    PySem.W.mg_of X G g_CutError,
    PySem.W.mg_of X G g_BadMarks,
    PySem.W.mg_of X G g_TooMany,
    PySem.W.mg_none_of X G z_zip,
    PySem.W.mg_none_of X G z_any,
    PySem.W.mg_none_of X G z_max,
    PySem.W.mg_none_of X G z_sorted,
    PySem.W.mg_none_of X G z_set,
    PySem.W.mg_none_of X G z_enumerate,
    PySem.W.mg_none_of X G z_tuple,
    PySem.W.mg_none_of X G z_len,
    PySem.W.mg_none_of X G z_int,
    PySem.W.mg_none_of X G z_range,
    PySem.W.mg_none_of X G z_isinstance,
    PySem.W.mg_none_of X G z_bool,
    PySem.W.mg_none_of X G z_ValueError,
    PySem.W.mg_none_of X G z_list,
    ⟨PySem.W.mg_of X G g_BadMarks, xi_BadMarks, kp_BadMarks, sb_BadMarks, ty_BadMarks⟩,
    ⟨f_check_marks, _, [], D_check_marks, PySem.W.mg_of X G a_check_marks, D_check_marks.bindsN fun _ _ _ _ _ _ us hl => match us, hl with | [_], _ => rfl, .nil⟩,
    ⟨f_anchor, _, [], D_anchor, PySem.W.mg_of X G a_anchor, D_anchor.bindsN fun _ _ _ _ _ _ us hl => match us, hl with | [_, _], _ => rfl, .nil⟩,
    ⟨f__law_cell, _, [], D__law_cell, PySem.W.mg_of X G a__law_cell, D__law_cell.bindsN fun _ _ _ _ _ _ us hl => match us, hl with | [_, _], _ => rfl, .nil⟩,
    ⟨f__law_draws, _, [], D__law_draws, PySem.W.mg_of X G a__law_draws, D__law_draws.bindsN fun _ _ _ _ _ _ us hl => match us, hl with | [_, _, _], _ => rfl, .nil⟩,
    ⟨f_Order_tight, _, ds_Order_tight_0, D_Order_tight, ⟨⟨p_Order_tight, rs_Order_tight, a_Order_tight, r_Order_tight⟩, rd_Order, ga_Order, k_Order_tight⟩, PySem.W.mg_of X G g_Order, bd_Order_tight_0, vd_Order_tight_0⟩,
    ⟨f__law_numbers, _, [], D__law_numbers, PySem.W.mg_of X G a__law_numbers, D__law_numbers.bindsN fun _ _ _ _ _ _ us hl => match us, hl with | [_, _, _], _ => rfl, .nil⟩,
    ⟨f__law_marks, _, [], D__law_marks, PySem.W.mg_of X G a__law_marks, D__law_marks.bindsN fun _ _ _ _ _ _ us hl => match us, hl with | [_, _, _], _ => rfl, .nil⟩,
    ⟨f__law_whole, _, [], D__law_whole, PySem.W.mg_of X G a__law_whole, D__law_whole.bindsN fun _ _ _ _ _ _ us hl => match us, hl with | [_], _ => rfl, .nil⟩,
    ⟨f__law_tight, _, [], D__law_tight, PySem.W.mg_of X G a__law_tight, D__law_tight.bindsN fun _ _ _ _ _ _ us hl => match us, hl with | [_, _, _], _ => rfl, .nil⟩,
    ⟨f__law_sign, _, [], D__law_sign, PySem.W.mg_of X G a__law_sign, D__law_sign.bindsN fun _ _ _ _ _ _ us hl => match us, hl with | [_, _], _ => rfl, .nil⟩,
    ⟨f_Order_tight, _, ds_Order_tight_1, D_Order_tight, ⟨⟨p_Order_tight, rs_Order_tight, a_Order_tight, r_Order_tight⟩, rd_Order, ga_Order, k_Order_tight⟩, PySem.W.mg_of X G g_Order, bd_Order_tight_1, vd_Order_tight_1⟩,
    fun RA B => .cons (rep_ktup (W := (Wz K w C_Order C_CutError C_BadMarks C_TooMany)) le_Order_tight vt_Order_tight (by decide) (fun _ _ => .nil) RA B) .nil,
    ⟨f__law_refused, _, [], D__law_refused, PySem.W.mg_of X G a__law_refused, D__law_refused.bindsN fun _ _ _ _ _ _ us hl => match us, hl with | [_, _], _ => rfl, .nil⟩⟩
  exact ⟨PySem.W.fnOf "law" "law" (defArgs s_law) (defBody s_law) (defScope s_law) .none kV_law dc_law pm_law an_law cd_law ct_law, fun s v => .of_eq rfl, fun base hbK hbN => law_ok T D_law⟩
theorem walk {l : PySem.W.OpenLaw} {q : Program} {loose : List Str} {XP : (Str → Option Value) → Heap → Prop} {YP : World → Heap → Prop} {d : DefRec} {K : Params → PySem.W.Frag} (hn : l.most = some 63) (hdf : d.params.defaults = [])
    (hY : ∀ (w : World) (h : Heap), YP w h → (K w.params).In h)
    (F : ∀ (w : World) (mg : Str → Option Value) (fa : Addr) (h : Heap), (K w.params).In h → h.Ns mainGlobals mg → mg d.name = some (.ref fa) →
      ∃ fd : FuncData, (∀ (s : Shared) (u : Value), BindsTo s fd ⟨[u], []⟩ [("_law_script", u)]) ∧ ∀ base : Heap, (K w.params).In base → base.Ns mainGlobals mg → FnOk l.prog w (K w.params) mg base (L2.CX l.prog w) (4 * 11) fa fd ["_law_script"] (spLaw (K w.params))) :
    PySem.W.WalkO q loose XP YP l.row.toRowW d [] (fun f vs => PySem.call f vs) :=
  L2.walk_of (n := 63) (k := 4 * 11) (x := "_law_script") (CX := fun w => L2.CX l.prog w) (sp := fun w => spLaw (K w.params)) hn (by decide) hdf ⟨rfl, by decide, by decide⟩ hY F (fun w _ a ns hl _ hS => ⟨a, ns, rfl, hl, hS, fun _ => rfl⟩) fun w H s e s' z => cx_false H s e s' z
end Toy
open PySem PySem.W PyProof.Rows in
set_option maxRecDepth 100000 in
set_option maxHeartbeats 0 in
theorem PySem.Challenge.cw_cutproof_k11_tight_form_holds : PySem.Challenge.rw_cutproof_k11_tight_form.Holds := by
  w_on; o_law; k_head; (case hw => w_witness2)
  k_fill
  refine Toy.walk (l := PySem.Challenge.rw_cutproof_k11_tight_form) rfl rfl (fun w h Y => PySem.W.kIn_of Y) ?F
  case F =>
    intro w mg fa h KX G hmg
    refine' Toy.all_mk KX G hmg ?g_Order ?g_CutError ?g_BadMarks ?g_TooMany ?sb_CutError ?ty_CutError ?q4_CutError ?q1_CutError ?q2_CutError ?q5_CutError ?q8_CutError ?ve_CutError ?s_CutError_CutError ?s_CutError_BadMarks ?s_CutError_TooMany ?sb_BadMarks ?ty_BadMarks ?q4_BadMarks ?q1_BadMarks ?q2_BadMarks ?q5_BadMarks ?q8_BadMarks ?ve_BadMarks ?s_BadMarks_CutError ?s_BadMarks_BadMarks ?s_BadMarks_TooMany ?kp_BadMarks ?xi_BadMarks ?sb_TooMany ?ty_TooMany ?q4_TooMany ?q1_TooMany ?q2_TooMany ?q5_TooMany ?q8_TooMany ?ve_TooMany ?s_TooMany_CutError ?s_TooMany_BadMarks ?s_TooMany_TooMany ?q6 ?q7 ?pg_Order ?hd_Order ?po_Order ?sa_Order ?ca_Order ?cn_Order ?ct_Order ?cm_Order ?z_zip ?z_any ?z_max ?z_sorted ?z_set ?z_enumerate ?z_tuple ?z_len ?z_int ?z_range ?z_isinstance ?z_bool ?z_ValueError ?z_list ?a_check_marks ?l_check_marks ?c_check_marks ?k_check_marks ?a_anchor ?l_anchor ?c_anchor ?k_anchor ?a_Order_tight ?r_Order_tight ?rd_Order ?ga_Order ?l_Order_tight ?c_Order_tight ?k_Order_tight ?dl_Order_tight ?dv_Order_tight ?le_Order_tight ?vt_Order_tight ?a__law_cell ?l__law_cell ?c__law_cell ?k__law_cell ?a__law_draws ?l__law_draws ?c__law_draws ?k__law_draws ?a__law_numbers ?l__law_numbers ?c__law_numbers ?k__law_numbers ?a__law_marks ?l__law_marks ?c__law_marks ?k__law_marks ?a__law_tight ?l__law_tight ?c__law_tight ?k__law_tight ?a__law_whole ?l__law_whole ?c__law_whole ?k__law_whole ?a__law_sign ?l__law_sign ?c__law_sign ?k__law_sign ?a__law_refused ?l__law_refused ?c__law_refused ?k__law_refused ?a_law ?l_law ?c_law ?k_law
    (case g_Order => k_is)
    (case g_CutError => k_is)
    (case g_BadMarks => k_is)
    (case g_TooMany => k_is)
    (case sb_CutError => k_is)
    (case ty_CutError => k_is)
    (case q4_CutError => k_is)
    (case q1_CutError => k_is)
    (case q2_CutError => k_is)
    (case q5_CutError => k_is)
    (case q8_CutError => k_is)
    (case ve_CutError => k_is)
    (case s_CutError_CutError => k_is)
    (case s_CutError_BadMarks => k_is)
    (case s_CutError_TooMany => k_is)
    (case sb_BadMarks => k_is)
    (case ty_BadMarks => k_is)
    (case q4_BadMarks => k_is)
    (case q1_BadMarks => k_is)
    (case q2_BadMarks => k_is)
    (case q5_BadMarks => k_is)
    (case q8_BadMarks => k_is)
    (case ve_BadMarks => k_is)
    (case s_BadMarks_CutError => k_is)
    (case s_BadMarks_BadMarks => k_is)
    (case s_BadMarks_TooMany => k_is)
    (case kp_BadMarks => k_is)
    (case xi_BadMarks => k_exc)
    (case sb_TooMany => k_is)
    (case ty_TooMany => k_is)
    (case q4_TooMany => k_is)
    (case q1_TooMany => k_is)
    (case q2_TooMany => k_is)
    (case q5_TooMany => k_is)
    (case q8_TooMany => k_is)
    (case ve_TooMany => k_is)
    (case s_TooMany_CutError => k_is)
    (case s_TooMany_BadMarks => k_is)
    (case s_TooMany_TooMany => k_is)
    (case q6 => k_is)
    (case q7 => k_is)
    (case pg_Order => k_is)
    (case hd_Order => k_is)
    (case po_Order => k_is)
    (case sa_Order => k_is)
    (case ca_Order => k_is)
    (case cn_Order => k_is)
    (case ct_Order => k_is)
    (case cm_Order => k_is)
    (case z_zip => k_is)
    (case z_any => k_is)
    (case z_max => k_is)
    (case z_sorted => k_is)
    (case z_set => k_is)
    (case z_enumerate => k_is)
    (case z_tuple => k_is)
    (case z_len => k_is)
    (case z_int => k_is)
    (case z_range => k_is)
    (case z_isinstance => k_is)
    (case z_bool => k_is)
    (case z_ValueError => k_is)
    (case z_list => k_is)
    (case a_check_marks => k_is)
    (case l_check_marks => k_is)
    (case c_check_marks => k_is)
    (case k_check_marks => k_is)
    (case a_anchor => k_is)
    (case l_anchor => k_is)
    (case c_anchor => k_is)
    (case k_anchor => k_is)
    (case a_Order_tight => k_is)
    (case r_Order_tight => k_is)
    (case rd_Order => k_is)
    (case ga_Order => k_is)
    (case l_Order_tight => k_is)
    (case c_Order_tight => k_is)
    (case k_Order_tight => k_is)
    (case dl_Order_tight => k_is)
    (case dv_Order_tight => exact .cons rfl (.nil))
    (case le_Order_tight => k_is)
    (case vt_Order_tight => exact .nil)
    (case a__law_cell => k_is)
    (case l__law_cell => k_is)
    (case c__law_cell => k_is)
    (case k__law_cell => k_is)
    (case a__law_draws => k_is)
    (case l__law_draws => k_is)
    (case c__law_draws => k_is)
    (case k__law_draws => k_is)
    (case a__law_numbers => k_is)
    (case l__law_numbers => k_is)
    (case c__law_numbers => k_is)
    (case k__law_numbers => k_is)
    (case a__law_marks => k_is)
    (case l__law_marks => k_is)
    (case c__law_marks => k_is)
    (case k__law_marks => k_is)
    (case a__law_tight => k_is)
    (case l__law_tight => k_is)
    (case c__law_tight => k_is)
    (case k__law_tight => k_is)
    (case a__law_whole => k_is)
    (case l__law_whole => k_is)
    (case c__law_whole => k_is)
    (case k__law_whole => k_is)
    (case a__law_sign => k_is)
    (case l__law_sign => k_is)
    (case c__law_sign => k_is)
    (case k__law_sign => k_is)
    (case a__law_refused => k_is)
    (case l__law_refused => k_is)
    (case c__law_refused => k_is)
    (case k__law_refused => k_is)
    (case a_law => k_is)
    (case l_law => k_is)
    (case c_law => k_is)
    (case k_law => k_is)
#print axioms PySem.Challenge.cw_cutproof_k11_tight_form_holds
