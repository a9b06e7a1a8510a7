import PyProof.Rows.All
import Wide.All
import OpenK.AllK
import Wide.FinOn
import PySem.Challenge.RW_paidbyheirs_k04_whole_what_slots_hold_by
import HandS.ForMost
import HandS.ForExc
import HandS.TryMany
import HandS.TryOnly
import HandS.ExcField
import HandS.ExcIs
import HandS.ExcOwn
import KE.KExcIs
import HandS.ExcInit
import HandS.FStr
import HandS.Small
import KE.KExcInit
import HandS.Zip
import KE.GoesMore
import HandS.TupLen
import HandS.IsInst
import HandS.Conv
import HandS.TupSets
import HandS.Flow
import HandS.Style
import HandS.NoneIn
import HandS.RevRange
import KE.KTupSum
import HandS.TupMul
import HandS.TupAny
import HandS.HeadHook1
import HandS.Defaults
import HandS.HeadHook2
import HandS.Codes
import HandS.HeadEnd
import HandS.HeadHook4
import HandS.HeadWalk
import PyProof.WalksMore
import KE.KStateDown
import HandS.Head0
import HandS.Head1
import HandS.Head2
section
set_option Elab.async false
set_option linter.all false
set_option maxRecDepth 100000
set_option maxHeartbeats 2000000
/-! RX1: several except clauses, each with a name or none; isinstance of a caught exception with its dict. -/
namespace RX
open PySem PySem.Spec PyProof.Rows L2
/-- what a clause's suite is to be: reading by the exception's address, class, dict -/
abbrev SuT := Addr → Value → Option Addr → TS
/-- the ends of a suite whose name is slot i -/
def outOf : Option Nat → Ends → Ends
  | none, D => D
  | some i, D => { nx := fun σ H => D.nx (σ.set i none) H, rt := D.rt, bk := fun σ H => D.bk (σ.set i none) H, ct := fun σ H => D.ct (σ.set i none) H }
def inOf : Option Nat → Addr → L2.St → L2.St
  | none, _, σ => σ
  | some i, a, σ => σ.set i (some (.ref a))
/-- the clauses' wish, one behind another -/
def wMix (K : PySem.W.Frag) (Wo : WX) (D : Ends) : List (Value × Option Nat × SuT) → WX
  | [] => Wo
  | (c, i, ts) :: r => fun cls d σ H => ∃ k, PySem.W.exmOne K cls c = some k ∧ (k = true → ∀ a, H a = none → ts a cls d (outOf i D) (inOf i a σ) H) ∧ (k = false → wMix K Wo D r cls d σ H)
/-- the name of a clause, its slot -/
def NmOk (X : Cx) : Option Str → Option Nat → Prop
  | none, none => True
  | some n, some i => X.N[i]? = some n ∧ X.env.kindOf n = some .local
  | _, _ => False
inductive Hds (X : Cx) : List ExceptHandler → List (Value × Option Nat × SuT) → Prop
  | nil : Hds X [] []
  | cons {x : Str} {c : Value} {n : Option Str} {i : Option Nat} {ts : SuT} {st0 : Stmt} {sts : List Stmt} {np hp : Pos} {hds : List ExceptHandler} {l : List (Value × Option Nat × SuT)} (hc : Names X x c) (hn : NmOk X n i)
      (su : ∀ (a : Addr) (oe : Obj) (cls : Value) (d : Option Addr) (pn : List (Addr × Obj)), Zc cls d oe → (∃ vs, oe.data = .fields vs) → PSs (X.suite a ((a, oe) :: pn)) (st0 :: sts) (ts a cls d)) (r : Hds X hds l) :
      Hds X (.ExceptHandler (some (.Name x np)) n (st0 :: sts) hp :: hds) ((c, i, ts) :: l)
section
variable {X : Cx} {body : List Stmt} {h0 : ExceptHandler} {hds : List ExceptHandler} {l : List (Value × Option Nat × SuT)} {pos : Pos} {tb : WX → TS} {Wo : WX}
theorem ps_try_mix (hs : X.stack = X.env :: X.outer) (hf : X.env.frame = some X.env.locals) (hN : X.N.Nodup) (tk : Takes X Wo)
    (hb : ∀ (W : WX) (pn : List (Addr × Obj)) (xe : Value → Shared → Prop), Takes (X.tr pn xe) W → PassesOwn (model X.prog X.w) X.A X.env xe → PSs (X.tr pn xe) body (tb W))
    (hh : Hds X (h0 :: hds) l) : PS X (.Try body (h0 :: hds) [] [] pos) (fun D σ H => tb (wMix X.K Wo D l) D σ H) := by
  refine ⟨fun pins s σ H D I h => ?_⟩
  have okX := I.ok
  have frX : X.A.frames = some (X.env :: X.outer) := okX.frames.trans (by rw [hs])
  refine wpAny_Try_except ?_
  refine wpAny_mono ((hb (wMix X.K Wo D l) (X.pn ++ pins) (fun e t1 => wpAny (model X.prog X.w) X.A (noteFrame e X.env) (fun _ t2 => wpAny (model X.prog X.w) X.A (setFlight e none) (fun _ t3 =>
    wpAny (model X.prog X.w) X.A (handleBy e X.env (h0 :: hds)) (SP X pins D) X.xe t3) X.xe t2) X.xe t1) (fun u s' air => ?_) PassesOwn.looking).run [] s σ H D (I.toTry _) h) (fun f s1 hsp => ?_) (fun e s1 he => he)
  · obtain ⟨a, B, sI, pins', σ', H', cls, d, rfl, J0, nb, up, sky, na, os, ag, wsh⟩ := air
    have J : Inv X pins σ' H' sI := J0.ofTry okX
    have skyX : Sky B (X.env :: X.outer) a (Zc cls d) X.env.locals s'.heap := hs ▸ sky
    show wpAny (model X.prog X.w) X.A (noteFrame (.ref a) X.env) _ _ _
    refine Sky.land Zc.steady frX hf skyX fun hp3 fly3 up3 => ?_
    have J3 : Inv X pins σ' H' { s' with heap := hp3 } := J.landed nb fly3.1 (up.trans up3) os ag
    obtain ⟨oe3, vs3, get3, zc3, dat3⟩ := fly3.there
    have outF : a ∉ frs (X.env :: X.outer) := fun hm => by
      obtain ⟨L, o2, get2, nof⟩ := fly3.2.2.1.mem hm
      rw [get3] at get2; cases get2
      exact nof _ dat3
    have nL : a ≠ X.env.locals := fun z => outF (List.mem_filterMap.mpr ⟨X.env, List.mem_cons_self, hf.trans (by rw [z])⟩)
    have nF : a ∉ X.fs := fun hm => by
      obtain ⟨e2, he2, q2⟩ := List.mem_filterMap.mp hm
      exact outF (List.mem_filterMap.mpr ⟨e2, List.mem_cons_of_mem _ he2, q2⟩)
    have S3 := J3.suite get3 dat3 na nL nF
    have go : ∀ {hs2 : List ExceptHandler} {l2 : List (Value × Option Nat × SuT)}, Hds X hs2 l2 → wMix X.K Wo D l2 cls d σ' H' →
        wpAny (model X.prog X.w) X.A (handleBy (.ref a) X.env hs2) (SP X pins D) X.xe { s' with heap := hp3 } := by
      intro hs2 l2 hk
      induction hk with
      | nil =>
        intro w0
        refine wpAny_handleBy_nil ?_
        obtain ⟨q1, q2, q3, oe, vs, T, oT, tvs, get0, z0, dat0, one0, rest0⟩ := id fly3
        unfold PySem.passOn
        refine wpAny_bind (wpAny_field get0 dat0 one0 ?_)
        rw [if_neg (show ¬ ((Value.ref T == Value.none) = true) by simp)]
        have fin : wpAny (model X.prog X.w) X.A (setFlight (.ref a) X.env.frame) (fun _ t4 => wpAny (model X.prog X.w) X.A (throw (.ref a) : Sem Flow) (SP X pins D) X.xe t4) X.xe { s' with heap := hp3 } := by
          rw [hf]
          refine HandSPX.setFlight_upZ fly3 fun hp4 held4 up4 => wpAny_throw (tk _ _ ?_)
          exact ⟨a, B, sI, pins, σ', H', cls, d, rfl, J, nb, (up.trans up3).trans up4, .inr (.inr (hs ▸ held4)), na, os, ag, w0⟩
        first
          | exact wpAny_bind (wpAny_pure (wpAny_bind fin))
          | exact wpAny_bind fin
      | @cons x c n i ts st0 sts np hp hds2 l3 hc hn su r ih =>
        intro w0
        obtain ⟨k, ek, yes, no⟩ := w0
        refine wpAny_handleBy_cons (codeAny_handlers_test ?_) (by intro q; cases q)
        have look1 : PySem.W.Looks (model X.prog X.w) hp3 (typeOf (.ref a)) cls := fun A Q E s kp q => wpAny_typeOf_ref (kp _ _ get3) (by rw [zc3.1]; exact q)
        have look2 := PySem.W.exm_one (M := model X.prog X.w) (J3.kIn) look1 ek
        have asked : ∀ {Q : Value → Shared → Prop} {E : Value → Shared → Prop}, Q c { s' with heap := hp3 } → wpAny (model X.prog X.w) (X.A.mark (some (.ref a))) (eval (.Name x np) X.env) Q E { s' with heap := hp3 } := fun {Q E} q => by
          obtain ⟨g1, g2, m1 | ⟨m1, m2, m3⟩⟩ := hc
          · exact ld_glob (X := X.suite a ((a, oe3) :: (X.pn ++ pins))) S3 g1 m1 q g2
          · exact ld_blt (X := X.suite a ((a, oe3) :: (X.pn ++ pins))) S3 g1 m1 m2 q m3 g2
        refine asked (look2.here ?_)
        cases k with
        | true =>
          cases n with
          | none =>
            cases i with
            | some _ => exact hn.elim
            | none =>
              refine codeAny_handlers_suite ?_
              refine HandSPX.lands_againZ fly3 fun hp4 fly4 up4 => ?_
              have J4 : Inv X pins σ' H' { s' with heap := hp4 } := J.landed nb fly4.1 ((up.trans up3).trans up4) os ag
              obtain ⟨oe4, vs4, get4, zc4, dat4⟩ := fly4.there
              have S4 := J4.suite get4 dat4 na nL nF
              refine wpAny_mono ((su a oe4 cls d (X.pn ++ pins) zc4 ⟨_, dat4⟩).run [] _ _ H' _ S4 (yes rfl a na)) (fun f s6 hsp => ?_) (fun _ _ z => z.elim)
              cases f with
              | ret u =>
                obtain ⟨v6, σ6, H6, S6, r6, q6⟩ := hsp
                exact ⟨v6, σ6, H6, S6.unsuite okX, r6, q6⟩
              | _ =>
                obtain ⟨σ6, H6, S6, q6⟩ := hsp
                exact ⟨σ6, H6, S6.unsuite okX, q6⟩
          | some n =>
            cases i with
            | none => exact hn.elim
            | some i =>
              obtain ⟨hi, hl⟩ := hn
              refine codeAny_handlers_suite_as ?_
              refine HandSPX.lands_againZ fly3 fun hp4 fly4 up4 => ?_
              have J4 : Inv X pins σ' H' { s' with heap := hp4 } := J.landed nb fly4.1 ((up.trans up3).trans up4) os ag
              obtain ⟨oe4, vs4, get4, zc4, dat4⟩ := fly4.there
              have S4 := J4.suite get4 dat4 na nL nF
              refine store_ok (X := X.suite a ((a, oe4) :: (X.pn ++ pins))) (v := .ref a) S4 hN hi (.inl hl) rfl (fun s5 S5 => ?_) (.inr hl)
              refine wpAny_mono ((su a oe4 cls d (X.pn ++ pins) zc4 ⟨_, dat4⟩).run [] s5 _ H' _ S5 (yes rfl a na)) (fun f s6 hsp => ?_) (fun _ _ z => z.elim)
              have done_ : ∀ {σ6 : L2.St} {H6 : Hp} {Q : Shared → Prop}, Inv (X.suite a ((a, oe4) :: (X.pn ++ pins))) [] σ6 H6 s6 → (∀ s7, Inv X pins (σ6.set i none) H6 s7 → Q s7) →
                  wpAny (model X.prog X.w) X.A (do bindName X.env n .none; unbindBehindTheSuite X.env n hp) (fun _ s7 => Q s7) X.xe s6 := fun {σ6 H6 Q} S6 hq => gone_ok (S6.unsuite okX) hN hi hl hq
              cases f with
              | ret u =>
                obtain ⟨v6, σ6, H6, S6, r6, q6⟩ := hsp
                exact done_ S6 fun s7 J7 => ⟨_, _, _, J7, r6, q6⟩
              | next =>
                obtain ⟨σ6, H6, S6, q6⟩ := hsp
                exact done_ S6 fun s7 J7 => ⟨_, _, J7, q6⟩
              | brk =>
                obtain ⟨σ6, H6, S6, q6⟩ := hsp
                exact done_ S6 fun s7 J7 => ⟨_, _, J7, q6⟩
              | cont =>
                obtain ⟨σ6, H6, S6, q6⟩ := hsp
                exact done_ S6 fun s7 J7 => ⟨_, _, J7, q6⟩
        | false =>
          show wpAny _ X.A (handleBy (.ref a) X.env hds2) _ _ _
          exact ih (no rfl)
    exact go hh wsh
  · cases f with
    | next =>
      obtain ⟨σ', H', J', q⟩ := hsp
      exact wpAny_execs_nil ⟨σ', H', J'.ofTry okX, q⟩
    | ret u =>
      obtain ⟨v, σ', H', J', r, q⟩ := hsp
      exact ⟨v, σ', H', J'.ofTry okX, r, q⟩
    | brk =>
      obtain ⟨σ', H', J', q⟩ := hsp
      exact ⟨σ', H', J'.ofTry okX, q⟩
    | cont =>
      obtain ⟨σ', H', J', q⟩ := hsp
      exact ⟨σ', H', J'.ofTry okX, q⟩
end

/-! ### isinstance(e, c) in a suite: the exception has its dict or none -/
structure ClsX (K : PySem.W.Frag) (D : Addr) : Prop where
  cl : (PySem.W.clsIn K D).isSome = true
  g1 : PySem.W.findIn K (.ref D) "__getattribute__" = some (some (.builtin "BaseException.__getattribute__"))
  g2 : PySem.W.findIn K (.ref D) "__getattr__" = some none
  be : PySem.W.subIn K (.ref D) (.type "BaseException") = some true
  c1 : PySem.W.findIn K (.ref D) "__class__" = some (some (.builtin "object.__class__"))
  c2 : PySem.W.specialIn K (.builtin "object.__class__") "__get__" = some (some (.builtin "getset_descriptor.__get__"))
  c3 : PySem.W.takesIn K (.builtin "object.__class__") = some true
  ob : PySem.W.mroIn K D (.type "object") = some true
def clsXB (K : PySem.W.Frag) (D : Addr) : Bool := (PySem.W.clsIn K D).isSome && (decide (PySem.W.findIn K (.ref D) "__getattribute__" = some (some (.builtin "BaseException.__getattribute__"))) && (decide (PySem.W.findIn K (.ref D) "__getattr__" = some none) &&
  (decide (PySem.W.subIn K (.ref D) (.type "BaseException") = some true) && (decide (PySem.W.findIn K (.ref D) "__class__" = some (some (.builtin "object.__class__"))) && (decide (PySem.W.specialIn K (.builtin "object.__class__") "__get__" = some (some (.builtin "getset_descriptor.__get__"))) &&
  (decide (PySem.W.takesIn K (.builtin "object.__class__") = some true) && decide (PySem.W.mroIn K D (.type "object") = some true)))))))
theorem clsXB_ok {K : PySem.W.Frag} {D : Addr} (h : clsXB K D = true) : ClsX K D := by
  unfold clsXB at h
  simp only [Bool.and_eq_true, decide_eq_true_eq] at h
  obtain ⟨a1, a2, a3, a4, a5, a6, a7, a8⟩ := h
  exact ⟨a1, a2, a3, a4, a5, a6, a7, a8⟩
/-- what the exception's dict is, if it has one -/
def DictX (H : Hp) : Option Addr → Prop
  | none => True
  | some d => ∃ fs, H d = some (.xd fs)
def rIsX (K : PySem.W.Frag) (D a : Addr) (d : Option Addr) : List V → Hp → VK → Prop := fun xs H Q => ∃ (n : String) (k : Bool), xs = [.ref a, .ty n] ∧ PySem.W.kitOne K (.ref D) (.type n) = some k ∧ DictX H d ∧ Q (.bl k) H
theorem call_isX {X : Cx} {a D : Addr} {d : Option Addr} {oe : Obj} {pn : List (Addr × Obj)} (C : ClsX X.K D) (hz : Zc (.ref D) d oe) (hf : ∃ vs, oe.data = .fields vs) : CallR (X.suite a ((a, oe) :: pn)) (.builtin "isinstance") (rIsX X.K D a d) := by
  intro pins s σ H xs us Q I r h
  obtain ⟨n, k, rfl, e, dx, q⟩ := h
  cases r with
  | cons rx rr =>
    cases rr with
    | cons rt rr =>
      cases rr
      cases rx
      cases rt
      obtain ⟨hget, _⟩ := I.pin (a, oe) (List.mem_append.mpr (.inl List.mem_cons_self))
      obtain ⟨vs, hv⟩ := hf
      have J : ∃ od, PySem.W.InstAt s.heap a oe D od := by
        obtain ⟨z1, z2⟩ := hz
        cases d with
        | none => exact ⟨none, hget, z1, by unfold PySem.W.notCls; rw [hv] <;> rfl, by rw [z2]; exact trivial⟩
        | some dd =>
          obtain ⟨fs, ed⟩ := dx
          have hx : ObjOk X.prog X.w H s.heap dd (.xd fs) := I.hok dd _ ed
          obtain ⟨mA, ⟨o, es, ep, ho, hr⟩, rel⟩ := hx
          exact ⟨some o, hget, z1, by unfold PySem.W.notCls; rw [hv] <;> rfl, by rw [z2]; exact ho⟩
      obtain ⟨od, J⟩ := J
      exact PySem.W.kia_one (PySem.W.kitx_exc C.cl C.g1 C.g2 C.be C.c1 C.c2 C.c3 C.ob) I.kIn J e (fun z => nomatch z) fun tk => ⟨.bl k, H, I.kept (t' := tk) fun _ _ z => z, rfl, q⟩
end RX
end
section
set_option Elab.async false
set_option linter.all false
set_option maxRecDepth 100000
set_option maxHeartbeats 4000000
/-! RX2: an own exception class under LookupError whose __init__ keeps its one argument. -/
namespace RX
open PySem PySem.Spec PyProof.Rows L2
abbrev leTail : List Value := [.type "LookupError", .type "Exception", .type "BaseException", .type "object"]
/-- what the written part says of such a class -/
structure InC (K : PySem.W.Frag) (C : Addr) : Prop where
  ex : PySem.W.excInitIn K C leTail "LookupError.__new__" = true
  ov : PySem.W.excOver K C leTail = true
  hd : PySem.W.hasDictIn K C = true
  sa : PySem.W.findIn K (.ref C) "__setattr__" = some (some (.builtin "object.__setattr__"))
  be : PySem.W.subIn K (.ref C) (.type "BaseException") = some true
  ty : PySem.W.typeIn K (.ref C) = some (.type "type")
  kp : PySem.W.keepIn K (.ref C) = true
def inCB (K : PySem.W.Frag) (C : Addr) : Bool := PySem.W.excInitIn K C leTail "LookupError.__new__" && (PySem.W.excOver K C leTail && (PySem.W.hasDictIn K C && (decide (PySem.W.findIn K (.ref C) "__setattr__" = some (some (.builtin "object.__setattr__"))) &&
  (decide (PySem.W.subIn K (.ref C) (.type "BaseException") = some true) && (decide (PySem.W.typeIn K (.ref C) = some (.type "type")) && PySem.W.keepIn K (.ref C))))))
theorem inCB_ok {K : PySem.W.Frag} {C : Addr} (h : inCB K C = true) : InC K C := by
  unfold inCB at h
  simp only [Bool.and_eq_true, decide_eq_true_eq] at h
  obtain ⟨a1, a2, a3, a4, a5, a6, a7⟩ := h
  exact ⟨a1, a2, a3, a4, a5, a6, a7⟩
section
open Builtin Builtin.ObjectAttr
variable {prog : Program} {w : World} {A : Around} {E : Value → Shared → Prop} {R : Result → Shared → Prop} {hp : Heap} {g : Array GenState} {d : Drawn} {t : Nat} {os : OsState}
/-- the first field of such an exception -/
theorem osa_first {K : PySem.W.Frag} {f : Str} {tk : Tok} {v : Value} {x C : Addr} {fv : Array Value} (T : InC K C) (X : K.In hp) (hx : hp.get? x = some { cls := .ref C, data := .fields fv }) (hn : PySem.W.takerIn K C f = some none)
    (q : ∀ h2 t2 dx, (∀ b o, b ≠ x → hp.get? b = some o → h2.get? b = some o) → hp.objs.size ≤ dx → dx ≠ x → h2.get? x = some { cls := .ref C, dict := some dx, data := .fields fv } →
      h2.Ns1 dx (fun y => if y = f then some v else none) → R (.ok (.ret .none)) ⟨h2, g, d, t2, os⟩) :
    codeAny (model prog w) A (.call (.builtin "object.__setattr__") ⟨[.ref x, .str f tk, v], []⟩) R ⟨hp, g, d, t, os⟩ := by
  have neq : x ≠ hp.objs.size := Nat.ne_of_lt (Heap.lt_size hx)
  refine PySem.W.osa_openX (s := ⟨hp, g, d, t, os⟩) (od := none) PySem.F.store_LookupError X ⟨hx, rfl, rfl, trivial⟩ T.ov hn fun b => ?_
  obtain ⟨cd, ecd, edict⟩ := PySem.W.any_some T.hd
  have lcd : PySem.W.Looks (model prog w) hp (classData C) cd := PySem.W.looks_clsIn X ecd
  obtain ⟨nm, bs, mro, ns, qn, hd, sn, sb, ab, col, del⟩ := cd
  dsimp only at edict
  subst edict
  show wpAny _ _ (storeInOwnDict (.ref x) (.ref C) (.str f tk) f v b) _ _ _
  unfold storeInOwnDict ownDictForStores
  repeat (first | with_reducible refine HandSPX.store_in_new ?_ ?_ | with_reducible refine wpAny_loadPart_at hx ?_ | with_reducible refine lcd.at ?_ | wp_step)
  · exact ⟨_, #[], _, (Heap.get?_update_ne _ _ _ _ neq.symm).trans (Heap.get?_push_at rfl rfl), rfl, fun z hz => absurd hz (by simp), fun _ => rfl⟩
  · intro h2 t2 n2 same
    have old : (hp.push { cls := .type "dict", data := .dict #[] }).get? x = some { cls := .ref C, data := .fields fv } := Heap.get?_push_of_some _ hx
    refine q h2 t2 hp.objs.size (fun b o hb ho => ?_) (Nat.le_refl _) neq.symm ?_ n2
    · exact ((same.2 b (Nat.ne_of_lt (Heap.lt_size ho))).trans (Heap.get?_update_ne _ _ _ _ hb)).trans (Heap.get?_push_of_some _ ho)
    · exact ((same.2 x neq).trans (Heap.get?_update_self _ old rfl))
end
section
variable {X : Cx} {pins : List (Addr × Obj)} {σ : L2.St} {H : Hp} {s : Shared} {a C : Addr} {f : Str} {y : V} {u : Value} {E : Value → Shared → Prop} {A : Around}
/-- self.f = y -/
theorem set_first {Q : Unit → Shared → Prop} (T : InC X.K C) (I : Inv X pins σ H s) (e : H a = some (exo a C none)) (hn : PySem.W.takerIn X.K C f = some none) (ry : RelV y u)
    (h : ∀ dx s', H dx = none → dx ≠ a → Inv X pins σ (L2.upd (L2.upd H dx (exd dx [(f, y)])) a (exo a C (some dx))) s' → Q () s') : wpAny (model X.prog X.w) A (setAttr (.ref a) f u) Q E s := by
  obtain ⟨t1, at_a⟩ := exo_at I.hok e
  obtain ⟨hp, g, d, t, os⟩ := s
  refine PySem.W.set_plain I.kIn (ox := { cls := .ref C, dict := none, data := .fields #[.ref t1, .none, .none, .none, .bool false, .none] }) (od := none) ⟨at_a, rfl, rfl, trivial⟩ T.sa ?_
  refine osa_first T I.kIn at_a hn fun h2 t2 dx keep fresh dne hx ns => ?_
  have hnd : H dx = none := I.hok.fresh fresh
  have olds : ∀ {b : Addr} {o : Obj}, hp.get? b = some o → b ≠ dx := fun {b o} z => Nat.ne_of_lt (Nat.lt_of_lt_of_le (Heap.lt_size z) fresh)
  have nota : ∀ {b : Addr}, H b = none → b ≠ a := fun {b} z1 z2 => by
    rw [z2, e] at z1
    cases z1
  have U : Un X.fs [] H (L2.upd (L2.upd H dx (exd dx [(f, y)])) a (exo a C (some dx))) hp h2 := {
    keep := fun b o z n _ _ => keep b o (nota n) z
    slot := fun b o z n _ _ => ⟨o.slots, keep b o (nota n) z⟩
    free := fun b o z n _ => by rw [upd_ne (nota n), upd_ne (olds z), n]
    there := fun b o z _ => by
      by_cases hb : b = a
      · subst hb; exact ⟨_, hx⟩
      · exact ⟨o, keep b o hb z⟩
    tups := fun b xs z => by rw [upd_ne (at_ne e z exo_tup), upd_ne (ne_of_none z hnd), z]
    frzs := fun b o v z => by rw [upd_ne (at_ne e z exo_frz), upd_ne (ne_of_none z hnd), z]
    tbls := fun b ps z => ⟨#[], by rw [upd_ne (at_ne e z exo_tbl), upd_ne (ne_of_none z hnd), z, Array.append_empty]⟩ }
  refine h dx _ hnd dne (I.un (t' := t2) U fun b o z => ?_)
  by_cases hb : b = a
  · subst hb
    rw [upd_same] at z
    cases z
    exact exo_ok hx
  · rw [upd_ne hb] at z
    by_cases hd : b = dx
    · subst hd
      rw [upd_same] at z
      cases z
      exact exd_ok ns (relO_put (fs := []) ry fun _ => True.intro)
    · rw [upd_ne hd] at z
      refine (I.hok b o z).stay (fun c v hc z2 => keep c v ?_ z2) (fun c hc => ?_) (fun c xs hc => ?_)
      · rcases hc with hc | hc
        · rw [hc]; exact hb
        · exact at_ne e hc exo_own
      · rw [upd_ne (at_ne e hc exo_own), upd_ne (ne_of_none hc hnd)]; exact hc
      · rw [upd_ne (at_ne e hc exo_tup), upd_ne (ne_of_none hc hnd)]; exact hc
/-- LookupError.__init__(self, ..) -/
theorem le_init {us : List Value} {Q : Value → Shared → Prop} (T : InC X.K C) (I : Inv X pins σ H s) (e : H a = some (exo a C none)) (hl : us.length ≤ sizeLine) (h : ∀ s', Inv X pins σ H s' → Q .none s') :
    wpAny (model X.prog X.w) A (call (.builtin "LookupError.__init__") (.ref a :: us)) Q E s := by
  obtain ⟨nm, N, qn, bs, bm, hdct, sn, sub, ab, col, dd, k0, k1, k2, k3, k5, hC, tl⟩ := PySem.W.excInit_of I.kIn T.ex
  obtain ⟨t1, at_a⟩ := exo_at I.hok e
  obtain ⟨hp, g, d, t, os⟩ := s
  refine wpAny_call (PySem.HandSPX.init_base PySem.F.excBase_LookupError tl hC at_a hl fun h2 t2 keep hx => ?_)
  have J := I.write (t' := t) (x := a) (e := a) (o := exo a C none) (by rw [e]; exact True.intro) (.inl rfl) keep ⟨_, hx⟩ (exo_ok hx)
  have same : L2.upd H a (exo a C none) = H := funext fun b => by
    by_cases hb : b = a
    · rw [hb, upd_same]; exact e.symm
    · exact upd_ne hb
  rw [same] at J
  exact h _ J
end
theorem typ_LE : typeOf (.type "LookupError") = pure (.type "type") := by kernel_rfl
def tLe (K : PySem.W.Frag) (ta : TA) : TE := fun σ H Q => ta σ H fun vs H1 => ∃ (a C : Addr) (ws : List V), vs = .ref a :: ws ∧ ws.length ≤ 1000 ∧ InC K C ∧ H1 a = some (exo a C none) ∧ Q .non H1
def tSf (K : PySem.W.Frag) (f : Str) (to te : TE) : TS := fun D σ H => te σ H fun y H1 => to σ H1 fun x H2 => ∃ a C : Addr, x = .ref a ∧ InC K C ∧ PySem.W.takerIn K C f = some none ∧ H2 a = some (exo a C none) ∧
  ∀ dx, H2 dx = none → dx ≠ a → D.nx σ (L2.upd (L2.upd H2 dx (exd dx [(f, y)])) a (exo a C (some dx)))
section
variable {X : Cx} {o e : Expr} {es : List Expr} {to te : TE} {ta : TA} {f : Str} {p p' p1 p2 pos : Pos}
theorem pe_leinit {pl : Sem Bool} (hg : Gl X "LookupError") (hm : X.mg "LookupError" = none) (fc : PySem.W.findCls X.K (.type "LookupError") (.type "type") "__init__" = some (.val (.builtin "LookupError.__init__"))) (ha : PA X (e :: es) ta)
    (hc : eval (.Call (.Attribute (.Name "LookupError" p1) "__init__" p2) (e :: es) [] pos) X.env = (do
      let ov ← eval (.Name "LookupError" p1) X.env
      standAt p2.atName
      let (fn, bound) ← holding [ov] (getMethod ov "__init__" pl)
      callWith pos fn bound (backTo pos (starEach (e :: es) X.env)) (backToKw pos (keywordEach [] X.env))) := by rfl)
    (he : starEach (e :: es) X.env = (false, eval e X.env) :: starEach es X.env := by rfl) (hpl : (backTo pos (starEach es X.env)).any (·.1) = false := by rfl) :
    PE X (.Call (.Attribute (.Name "LookupError" p1) "__init__" p2) (e :: es) [] pos) (tLe X.K ta) := by
  refine ⟨fun pins s σ H Q I h => ?_⟩
  refine PySem.W.methodCall_KW (ld_blt I hg hm PyProof.Rows.Boot.«LookupError» ?_ (by decide) (by decide)) hc
  obtain ⟨m, fr⟩ := I.fr
  refine PySem.W.method_type fr I.ok.mod.kin typ_LE (by decide +kernel) fc (by decide +kernel) ?_
  show wpAny _ _ (callWith pos (Value.builtin "LookupError.__init__") [] (backTo pos (starEach (e :: es) X.env)) []) _ _ _
  refine PyProof.Rows.callWith_method1 (thn (ha.run pos pins _ σ H _ (I.tok _) h) fun us s1 ⟨vs, H1, I1, r1, a, C, ws, ev, hl, T, ea, q⟩ => ?_) he hpl
  subst ev
  cases r1 with
  | @cons _ u0 _ ur ra rw' =>
    cases (show u0 = Value.ref a from ra)
    have short : ur.length ≤ sizeLine := by
      have := Paired.length rw'
      rw [sizeLine_eq]
      omega
    exact le_init T I1 ea short fun s' J => ⟨.non, H1, J, rfl, q⟩
theorem ps_setf (ho : PE X o to) (he : PE X e te) (hs : swapsWith e (some (.Attribute o f p')) pos.line X.env = pure false := by rfl) : PS X (.Assign [.Attribute o f p'] e pos) (tSf X.K f to te) := by
  refine ⟨fun pins s σ H D I h => ?_⟩
  refine plainObj_wpAny_Assign_Attribute (thn (he.run pins s σ H _ I h) fun v s1 ⟨y, H1, I1, r1, q1⟩ => thn (ho.run pins s1 σ H1 _ I1 q1) fun u s2 ⟨x, H2, I2, r2, a, C, ex, T, hn, ea, q⟩ => ?_) hs
  subst ex
  cases (show u = Value.ref a from r2)
  exact set_first T I2 ea hn r1 fun dx s' n ne J => ⟨σ, _, J, q dx n ne⟩
/-- C(e), C's own __init__ keeping sp -/
def tMk (C : Addr) (sp : Sp) (ta : TA) : L2.St → Hp → XK → Prop := fun σ H Q => ta σ H fun vs H1 => vs.length ≤ 1000 ∧ ∀ a, H1 a = none → sp (.ref a :: vs) (L2.upd H1 a (exo a C none))
  (fun v H2 => v = .non ∧ ∃ (d : Addr) (fs : List (Str × V)), H2 a = some (exo a C (some d)) ∧ H2 d = some (exd d fs) ∧ H1 d = none ∧ Q (.ref C) (some d) (L2.upd (del H2 a) d (.xd fs))) (fun _ _ _ => False)
theorem pmk_le {CX : CXT} {x : Str} {C fI : Addr} {k : Nat} {fd : FuncData} {ps : List Str} {sp : Sp} (T : InC X.K C) (iC : PySem.W.findIn X.K (.ref C) "__init__" = some (some (.ref fI))) (tI : PySem.W.typeIn X.K (.ref fI) = some (.type "function"))
    (F1 : FnOk X.prog X.w X.K X.mg X.base CX k fI fd ps sp) (hr : Room (k + 1) X.A) (hb : Binds X.K fd ps []) (hx : Passes CX X (fun _ _ _ => False)) (hg : Gl X x) (hm : X.mg x = some (.ref C)) (ha : PA X (e :: es) ta)
    (hdb : (x == ("__debug__" : Str)) = false := by decide) (he : starEach (e :: es) X.env = (false, eval e X.env) :: starEach es X.env := by rfl) (hpl : (backTo pos (starEach es X.env)).any (·.1) = false := by rfl) :
    PMk X (.Call (.Name x p) (e :: es) [] pos) (tMk C sp ta) := by
  intro pins s σ H Q I h
  refine wpAny_Call_Name_kw (ld_glob I hg hm ?_ hdb)
  refine PySem.W.callWith_K (h₀ := X.base) I.ok.mod.kin T.kp (thn (ha.run pos pins s σ H _ I h) fun us s1 ⟨vs, H1, I1, r1, hz, q1⟩ => ⟨I1.kIn, ?_⟩) he hpl
  show wpAny _ _ (call (.ref C) us) _ _ _
  obtain ⟨nm, N, qn, bs, bm, hdct, sn, sub, ab, col, dd, k0, k1, k2, k3, k5, hC, tl⟩ := PySem.W.excInit_of I1.kIn T.ex
  obtain ⟨hp, g, dr, tk, os⟩ := s1
  have above : hp.objs.size ≤ hp.objs.size + 1 := Nat.le_succ _
  have hn : H1 (hp.objs.size + 1) = none := I1.hok.fresh above
  have q2 := q1 (hp.objs.size + 1) hn
  have keep : ∀ b o, hp.get? b = some o → ((hp.push (PySem.W.kdv_tup us)).push (PySem.HandSPX.excO C hp.objs.size)).get? b = some o := fun b o z => Heap.get?_push_of_some _ (Heap.get?_push_of_some _ z)
  have there : ((hp.push (PySem.W.kdv_tup us)).push (PySem.HandSPX.excO C hp.objs.size)).get? (hp.objs.size + 1) = some (PySem.HandSPX.excO C hp.objs.size) := by heap_get
  have I2 : Inv X pins σ (L2.upd H1 (hp.objs.size + 1) (exo (hp.objs.size + 1) C none)) ⟨(hp.push (PySem.W.kdv_tup us)).push (PySem.HandSPX.excO C hp.objs.size), g, dr, tk, os⟩ :=
    I1.laid (t' := tk) (a := hp.objs.size + 1) (o := exo (hp.objs.size + 1) C none) (h' := (hp.push (PySem.W.kdv_tup us)).push (PySem.HandSPX.excO C hp.objs.size)) keep above (exo_ok there)
  have r2 : Vals (V.ref (hp.objs.size + 1) :: vs) (Value.ref (hp.objs.size + 1) :: us) := .cons rfl r1
  have hl : (Value.ref (hp.objs.size + 1) :: us).length = ps.length := r2.length.symm.trans (F1.len _ _ _ _ q2)
  have short : us.length ≤ sizeLine := by
    have := Paired.length r1
    rw [sizeLine_eq]
    omega
  have hb2 := hb ⟨(hp.push (PySem.W.kdv_tup us)).push (PySem.HandSPX.excO C hp.objs.size), g, dr, tk, os⟩ (Value.ref (hp.objs.size + 1) :: us) I2.kIn (by rw [List.append_nil]; exact hl)
  rw [List.append_nil] at hb2
  refine wpAny_call (PySem.HandSPX.call_own PySem.F.excBase_LookupError tl hC (PySem.W.looks_findIn I1.kIn iC) (fun self => PySem.W.bind_fn I1.kIn self tI) short
    (codeAny_mono (F1.run _ X.stack _ _ ⟨Value.ref (hp.objs.size + 1) :: us, []⟩ (Value.ref (hp.objs.size + 1) :: us) _ _ (fun _ _ _ => False) (hr.make C us []) (I2.env0.make C us []) hb2 r2 q2) fun r s' hq => ?_))
  cases r with
  | error er => exact hx pins σ _ _ er s' I2 hq
  | ok fl =>
    cases fl with
    | ret u =>
      obtain ⟨v, H2, os2, bare2, un2, hok2, rv, ev, d, fs, ea, ed, hd1, q3⟩ := hq
      subst ev
      obtain ⟨h2, g2, d2, t2, os'⟩ := s'
      exact ⟨rv, mk_end (raises_own T.be T.ty) I1 above keep un2 hok2 os2 bare2 ea ed hd1 q3⟩
    | _ => exact False.elim hq
/-- C(), C a plain own class -/
theorem pmk_plain {C : Addr} {bmB : List Value} {B newId initId : String} {x : Str} (F : ExcBaseFacts B newId initId bmB) (q : PySem.W.excIn X.K C bmB newId = true) (gC : X.mg x = some (.ref C)) (kC : PySem.W.keepIn X.K (.ref C) = true) (r : Raises X (.ref C)) (hg : Gl X x)
    (hdb : (x == ("__debug__" : Str)) = false := by decide) : PMk X (.Call (.Name x p) [] [] pos) (fun _ H Q => Q (.ref C) none H) := by
  intro pins s σ H Q I h
  refine wpAny_Call_Name_kw (ld_glob I hg gC ?_ hdb)
  refine PySem.W.callWith_K0 I.kIn kC ?_
  show wpAny _ _ (call (.ref C) []) _ _ _
  obtain ⟨bm, N, nm, qn, bs, hdct, sn, sub, ab, col, dd, k0, k1, k2, k3, k5, mN, hC, hN, hni, T⟩ := exc_obj I.kIn q
  refine wpAny_call_exc_subT F T hC hN hni (fun h' e hm => ?_) (Nat.zero_le _)
  exact mk_of I hm r h (I.hok.gone hm.new)
end
end RX
end
section
set_option Elab.async false
set_option linter.all false
set_option maxRecDepth 100000
set_option maxHeartbeats 2000000
/-! RX3: zip of three tuples and a list. -/
namespace RX
open PySem PySem.Spec PyProof.Rows L2
abbrev T4 (h : Heap) (T : Addr) (t : Array Value) : Prop := h.get? T = some { cls := .type "tuple", data := .seq t }
theorem call4 (a b c d : Value) : checkTypeCall "zip" ⟨[a, b, c, d], []⟩ = pure () := by kernel_rfl
theorem new4 (a b c d : Value) : checkBuiltinCall "zip.__new__" ⟨[.type "zip", a, b, c, d], []⟩ = pure () := by kernel_rfl
theorem init5 (obj a b c d : Value) : argsOk "object.__init__" ⟨[obj, a, b, c, d], []⟩ := by unfold argsOk; kernel_rfl
abbrev pT (h : Heap) (o1 o2 o3 o4 : Obj) : Heap := ((((h.push o1).push o2).push o3).push o4).push { cls := .type "tuple", data := .seq #[.ref h.objs.size, .ref (h.push o1).objs.size, .ref ((h.push o1).push o2).objs.size, .ref (((h.push o1).push o2).push o3).objs.size] }
abbrev pO (h : Heap) (o1 o2 o3 o4 : Obj) : Heap := (pT h o1 o2 o3 o4).push { cls := .type "tuple", data := .seq #[.none, .none, .none, .none] }
abbrev pZ (h : Heap) (o1 o2 o3 o4 : Obj) : Heap := (pO h o1 o2 o3 o4).push { cls := .type "zip", data := .fields #[.none, .bool false, .bool false, .ref ((((h.push o1).push o2).push o3).push o4).objs.size, .ref (pT h o1 o2 o3 o4).objs.size] }
theorem new_zip4 {v1 v2 v3 v4 : Value} {o1 o2 o3 o4 : Obj} {H1 H2 H3 H4 : Heap → Prop} (B1 : Begins v1 o1 H1) (B2 : Begins v2 o2 H2) (B3 : Begins v3 o3 H3) (B4 : Begins v4 o4 H4) :
    Meets (Builtin.«zip.__new__» ⟨[.type "zip", v1, v2, v3, v4], []⟩) (fun _ R s => (H1 s.heap ∧ H2 s.heap ∧ H3 s.heap ∧ H4 s.heap) ∧
      R (.ok (.ret (.ref (pO s.heap o1 o2 o3 o4).objs.size))) { s with heap := pZ s.heap o1 o2 o3 o4 }) :=
  .of_wp fun prog w A R s h => by
    obtain ⟨hp, g, d, tk, os⟩ := s; obtain ⟨⟨h1, h2, h3, h4⟩, h⟩ := h
    have hsub := sub_zip
    have q1 : ∀ {A' : Around} {E : Value → Shared → Prop} {Q : Value → Shared → Prop}, Q (.ref hp.objs.size) ⟨(hp.push o1), g, d, tk, os⟩ → wpAny (model prog w) A' (pyIter v1) Q E ⟨hp, g, d, tk, os⟩ :=
      fun q => B1.iter prog w _ _ ⟨hp, g, d, tk, os⟩ _ (B1.keeps _ _ h1 fun b o e => e) q
    have q2 : ∀ {A' : Around} {E : Value → Shared → Prop} {Q : Value → Shared → Prop}, Q (.ref (hp.push o1).objs.size) ⟨((hp.push o1).push o2), g, d, tk, os⟩ → wpAny (model prog w) A' (pyIter v2) Q E ⟨(hp.push o1), g, d, tk, os⟩ :=
      fun q => B2.iter prog w _ _ ⟨(hp.push o1), g, d, tk, os⟩ _ (B2.keeps _ _ h2 fun b o e => (Heap.get?_push_of_some _ e)) q
    have q3 : ∀ {A' : Around} {E : Value → Shared → Prop} {Q : Value → Shared → Prop}, Q (.ref ((hp.push o1).push o2).objs.size) ⟨(((hp.push o1).push o2).push o3), g, d, tk, os⟩ → wpAny (model prog w) A' (pyIter v3) Q E ⟨((hp.push o1).push o2), g, d, tk, os⟩ :=
      fun q => B3.iter prog w _ _ ⟨((hp.push o1).push o2), g, d, tk, os⟩ _ (B3.keeps _ _ h3 fun b o e => (Heap.get?_push_of_some _ (Heap.get?_push_of_some _ e))) q
    have q4 : ∀ {A' : Around} {E : Value → Shared → Prop} {Q : Value → Shared → Prop}, Q (.ref (((hp.push o1).push o2).push o3).objs.size) ⟨((((hp.push o1).push o2).push o3).push o4), g, d, tk, os⟩ → wpAny (model prog w) A' (pyIter v4) Q E ⟨(((hp.push o1).push o2).push o3), g, d, tk, os⟩ :=
      fun q => B4.iter prog w _ _ ⟨(((hp.push o1).push o2).push o3), g, d, tk, os⟩ _ (B4.keeps _ _ h4 fun b o e => (Heap.get?_push_of_some _ (Heap.get?_push_of_some _ (Heap.get?_push_of_some _ e)))) q
    wp_walk using q1, q2, q3, q4
    exact ⟨_, rfl, h⟩
/-- what stands while a zip of three tuples and a list is walked: its cells lie behind one another from N on -/
structure ZA (h : Heap) (N l1 l2 l3 l4 : Nat) (xs ys zs us : Array Value) (f0 : Value) (t : Array Value) (k1 k2 k3 k4 : Nat) : Prop where
  z : IsZip h (N + 6) (N + 4) (N + 5) f0
  ti : T4 h (N + 4) #[.ref N, .ref (N + 1), .ref (N + 2), .ref (N + 3)]
  to : T4 h (N + 5) t
  i1 : h.IsTupleIter N l1 k1
  i2 : h.IsTupleIter (N + 1) l2 k2
  i3 : h.IsTupleIter (N + 2) l3 k3
  i4 : h.IsListIter (N + 3) l4 k4
  s1 : h.IsTuple l1 xs
  s2 : h.IsTuple l2 ys
  s3 : h.IsTuple l3 zs
  s4 : h.IsList l4 us
  b1 : l1 < N
  b2 : l2 < N
  b3 : l3 < N
  b4 : l4 < N
/-- the others stand -/
def ZK (N : Nat) (h h' : Heap) : Prop := ∀ c o, c ≠ N + 6 → c ≠ N + 5 → c ≠ N → c ≠ N + 1 → c ≠ N + 2 → c ≠ N + 3 → h.get? c = some o → h'.get? c = some o
theorem ZK.trans {N : Nat} {h h1 h2 : Heap} (a : ZK N h h1) (b : ZK N h1 h2) : ZK N h h2 := fun c o c1 c2 c3 c4 c5 c6 e => b c o c1 c2 c3 c4 c5 c6 (a c o c1 c2 c3 c4 c5 c6 e)
theorem ZK.of {N d : Nat} {h h1 : Heap} (hd : d = N + 6 ∨ d = N + 5 ∨ d = N ∨ d = N + 1 ∨ d = N + 2 ∨ d = N + 3) (a : Heap.ExtBut d h h1) : ZK N h h1 := fun c o c1 c2 c3 c4 c5 c6 e => a c o (by
  rcases hd with r | r | r | r | r | r <;> (rw [r]; assumption)) e
section
variable {h h' : Heap} {N l1 l2 l3 l4 : Nat} {xs ys zs us : Array Value} {f0 : Value} {t : Array Value} {k1 k2 k3 k4 : Nat}
theorem nx {a b : Nat} (h : a ≠ b) : (a : Addr) ≠ b := h
theorem ZA.setZ (S : ZA h N l1 l2 l3 l4 xs ys zs us f0 t k1 k2 k3 k4) {f1 : Value} (hz : IsZip h' (N + 6) (N + 4) (N + 5) f1) (e : Heap.ExtBut (N + 6 : Nat) h h') : ZA h' N l1 l2 l3 l4 xs ys zs us f1 t k1 k2 k3 k4 := by
  obtain ⟨z, ti, to, i1, i2, i3, i4, s1, s2, s3, s4, b1, b2, b3, b4⟩ := S
  exact ⟨hz, e _ _ (nx (by omega)) ti, e _ _ (nx (by omega)) to, i1.extBut e (nx (by omega)), i2.extBut e (nx (by omega)), i3.extBut e (nx (by omega)), i4.extBut e (nx (by omega)), s1.extBut e (nx (by omega)), s2.extBut e (nx (by omega)), s3.extBut e (nx (by omega)), s4.extBut e (nx (by omega)), b1, b2, b3, b4⟩
theorem ZA.setT (S : ZA h N l1 l2 l3 l4 xs ys zs us f0 t k1 k2 k3 k4) {t1 : Array Value} (ht : T4 h' (N + 5 : Nat) t1) (e : Heap.ExtBut (N + 5 : Nat) h h') : ZA h' N l1 l2 l3 l4 xs ys zs us f0 t1 k1 k2 k3 k4 := by
  obtain ⟨z, ti, to, i1, i2, i3, i4, s1, s2, s3, s4, b1, b2, b3, b4⟩ := S
  exact ⟨e _ _ (nx (by omega)) z, e _ _ (nx (by omega)) ti, ht, i1.extBut e (nx (by omega)), i2.extBut e (nx (by omega)), i3.extBut e (nx (by omega)), i4.extBut e (nx (by omega)), s1.extBut e (nx (by omega)), s2.extBut e (nx (by omega)), s3.extBut e (nx (by omega)), s4.extBut e (nx (by omega)), b1, b2, b3, b4⟩
theorem ZA.set1 (S : ZA h N l1 l2 l3 l4 xs ys zs us f0 t k1 k2 k3 k4) {k : Nat} (hi : h'.IsTupleIter N l1 k) (e : Heap.ExtBut (N : Nat) h h') : ZA h' N l1 l2 l3 l4 xs ys zs us f0 t k k2 k3 k4 := by
  obtain ⟨z, ti, to, i1, i2, i3, i4, s1, s2, s3, s4, b1, b2, b3, b4⟩ := S
  exact ⟨e _ _ (nx (by omega)) z, e _ _ (nx (by omega)) ti, e _ _ (nx (by omega)) to, hi, i2.extBut e (nx (by omega)), i3.extBut e (nx (by omega)), i4.extBut e (nx (by omega)), s1.extBut e (nx (by omega)), s2.extBut e (nx (by omega)), s3.extBut e (nx (by omega)), s4.extBut e (nx (by omega)), b1, b2, b3, b4⟩
theorem ZA.set2 (S : ZA h N l1 l2 l3 l4 xs ys zs us f0 t k1 k2 k3 k4) {k : Nat} (hi : h'.IsTupleIter (N + 1 : Nat) l2 k) (e : Heap.ExtBut (N + 1 : Nat) h h') : ZA h' N l1 l2 l3 l4 xs ys zs us f0 t k1 k k3 k4 := by
  obtain ⟨z, ti, to, i1, i2, i3, i4, s1, s2, s3, s4, b1, b2, b3, b4⟩ := S
  exact ⟨e _ _ (nx (by omega)) z, e _ _ (nx (by omega)) ti, e _ _ (nx (by omega)) to, i1.extBut e (nx (by omega)), hi, i3.extBut e (nx (by omega)), i4.extBut e (nx (by omega)), s1.extBut e (nx (by omega)), s2.extBut e (nx (by omega)), s3.extBut e (nx (by omega)), s4.extBut e (nx (by omega)), b1, b2, b3, b4⟩
theorem ZA.set3 (S : ZA h N l1 l2 l3 l4 xs ys zs us f0 t k1 k2 k3 k4) {k : Nat} (hi : h'.IsTupleIter (N + 2 : Nat) l3 k) (e : Heap.ExtBut (N + 2 : Nat) h h') : ZA h' N l1 l2 l3 l4 xs ys zs us f0 t k1 k2 k k4 := by
  obtain ⟨z, ti, to, i1, i2, i3, i4, s1, s2, s3, s4, b1, b2, b3, b4⟩ := S
  exact ⟨e _ _ (nx (by omega)) z, e _ _ (nx (by omega)) ti, e _ _ (nx (by omega)) to, i1.extBut e (nx (by omega)), i2.extBut e (nx (by omega)), hi, i4.extBut e (nx (by omega)), s1.extBut e (nx (by omega)), s2.extBut e (nx (by omega)), s3.extBut e (nx (by omega)), s4.extBut e (nx (by omega)), b1, b2, b3, b4⟩
theorem ZA.set4 (S : ZA h N l1 l2 l3 l4 xs ys zs us f0 t k1 k2 k3 k4) {k : Nat} (hi : h'.IsListIter (N + 3 : Nat) l4 k) (e : Heap.ExtBut (N + 3 : Nat) h h') : ZA h' N l1 l2 l3 l4 xs ys zs us f0 t k1 k2 k3 k := by
  obtain ⟨z, ti, to, i1, i2, i3, i4, s1, s2, s3, s4, b1, b2, b3, b4⟩ := S
  exact ⟨e _ _ (nx (by omega)) z, e _ _ (nx (by omega)) ti, e _ _ (nx (by omega)) to, i1.extBut e (nx (by omega)), i2.extBut e (nx (by omega)), i3.extBut e (nx (by omega)), hi, s1.extBut e (nx (by omega)), s2.extBut e (nx (by omega)), s3.extBut e (nx (by omega)), s4.extBut e (nx (by omega)), b1, b2, b3, b4⟩
theorem ZA.keep (S : ZA h N l1 l2 l3 l4 xs ys zs us f0 t k1 k2 k3 k4) (e : ∀ c o, h.get? c = some o → h'.get? c = some o) : ZA h' N l1 l2 l3 l4 xs ys zs us f0 t k1 k2 k3 k4 := by
  obtain ⟨z, ti, to, i1, i2, i3, i4, s1, s2, s3, s4, b1, b2, b3, b4⟩ := S
  exact ⟨e _ _ z, e _ _ ti, e _ _ to, i1.at fun o q => e _ o q, i2.at fun o q => e _ o q, i3.at fun o q => e _ o q, i4.at fun o q => e _ o q, s1.at fun o q => e _ o q, s2.at fun o q => e _ o q, s3.at fun o q => e _ o q, s4.at fun o q => e _ o q, b1, b2, b3, b4⟩
end
section
variable {prog : Program} {w : World} {A : Around} {E : Value → Shared → Prop} {s : Shared} {N l1 l2 l3 l4 : Nat} {xs ys zs us : Array Value} {t : Array Value} {k : Nat}
theorem upd_to {T : Nat} {j : Nat} {x : Value} {Q : Unit → Shared → Prop} (hT : T4 s.heap T t) (hz : t.size ≤ 4) (q : ∀ h', T4 h' T (t.setIfInBounds j x) → Heap.SameBut T s.heap h' → Q () { s with heap := h' }) : wpAny (model prog w) A (updateSeq T (·.setIfInBounds j x)) Q E s := by
  refine wpAny_updateSeq hT rfl (q _ ?_ (Heap.SameBut.update ..)) (by rw [sizeLine_eq]; omega) (by rw [Array.size_setIfInBounds, sizeLine_eq]; omega)
  show _ = _
  rw [Heap.get?_update_self _ hT rfl]
  simp [Obj.mapSeq]
theorem zip4_item {x y z u : Value} {Q : Value → Shared → Prop} (S : ZA s.heap N l1 l2 l3 l4 xs ys zs us .none t k k k k) (ht : t.size = 4) (hx : xs[k]? = some x) (hy : ys[k]? = some y) (hz : zs[k]? = some z) (hu : us[k]? = some u)
    (hQ : ∀ h', ZA h' N l1 l2 l3 l4 xs ys zs us (rawInt s.heap.objs.size) #[x, y, z, u] (k + 1) (k + 1) (k + 1) (k + 1) → T4 h' s.heap.objs.size #[x, y, z, u] → h'.objs.size = s.heap.objs.size + 1 → ZK N s.heap h' → Q (.ref s.heap.objs.size) { s with heap := h' }) :
    wpAny (model prog w) A (Builtin.«zip.__next__» ⟨[.ref (N + 6 : Nat)], []⟩) (fun fin s' => ∃ v, fin = .done (.ret v) ∧ Q v s') E s := by
  obtain ⟨t0, t1, t2, t3, rfl⟩ : ∃ a b c d, t = #[a, b, c, d] := by
    obtain ⟨l⟩ := t
    rcases l with _ | ⟨a, _ | ⟨b, _ | ⟨c, _ | ⟨d, _ | ⟨_, _⟩⟩⟩⟩⟩ <;> simp at ht
    exact ⟨a, b, c, d, rfl⟩
  show wpAny _ _ (field (.ref (N + 6 : Nat)) 2 >>= _) _ _ _
  refine wpAny_bind (wpAny_field S.z rfl (x := .bool false) rfl ?_)
  show wpAny _ _ (field (.ref (N + 6 : Nat)) 3 >>= _) _ _ _
  refine wpAny_bind (wpAny_field S.z rfl (x := .ref (N + 4 : Nat)) rfl ?_)
  refine wpAny_bind (wpAny_seqItems S.ti rfl ?_)
  show wpAny _ _ (Builtin.SmallTypes.ownedTupleIsFree (.ref (N + 6 : Nat)) >>= _) _ _ _
  refine wpAny_bind ?_
  unfold Builtin.SmallTypes.ownedTupleIsFree
  refine wpAny_bind (wpAny_field S.z rfl (x := .none) rfl (wpAny_pure ?_))
  simp only [if_true]
  refine wpAny_bind (wpAny_rule ?_)
  refine wpAny_bind (wpAny_field S.z rfl (x := .ref (N + 5 : Nat)) rfl ?_)
  refine wpAny_bind (wpAny_setField_rec S.z (by simp) fun g1 z1 e1 => ?_)
  have S1 := S.setZ (f1 := .ellipsis) z1 e1.extBut
  have K1 : ZK N s.heap g1 := ZK.of (by simp) e1.extBut
  refine wpAny_bind ?_
  simp only [List.zipIdx_cons, List.zipIdx_nil, List.forIn_cons, List.forIn_nil]
  refine wpAny_bind (wpAny_bind (wpAny_onRaise ?_))
  show wpAny _ _ (Builtin.SmallTypes.nextOf (.ref N) >>= _) _ _ _
  refine wpAny_bind (RZ.nextOf_tuple_item S1.i1 S1.s1 hx fun g2 j2 e2 => wpAny_pure ?_)
  have S2 := S1.set1 j2 e2.extBut
  refine wpAny_bind (wpAny_seqItems S2.to rfl ?_)
  refine wpAny_bind (upd_to S2.to (Nat.le_refl _) fun g3 j3 e3 => ?_)
  have S3 := S2.setT (t1 := #[x, t1, t2, t3]) j3 e3.extBut
  refine wpAny_bind (wpAny_letGo (wpAny_pure ?_))
  refine wpAny_bind (wpAny_bind (wpAny_onRaise ?_))
  show wpAny _ _ (Builtin.SmallTypes.nextOf (.ref (N + 1 : Nat)) >>= _) _ _ _
  refine wpAny_bind (RZ.nextOf_tuple_item S3.i2 S3.s2 hy fun g4 j4 e4 => wpAny_pure ?_)
  have S4 := S3.set2 j4 e4.extBut
  refine wpAny_bind (wpAny_seqItems S4.to rfl ?_)
  refine wpAny_bind (upd_to S4.to (Nat.le_refl _) fun g5 j5 e5 => ?_)
  have S5 := S4.setT (t1 := #[x, y, t2, t3]) j5 e5.extBut
  refine wpAny_bind (wpAny_letGo (wpAny_pure ?_))
  refine wpAny_bind (wpAny_bind (wpAny_onRaise ?_))
  show wpAny _ _ (Builtin.SmallTypes.nextOf (.ref (N + 2 : Nat)) >>= _) _ _ _
  refine wpAny_bind (RZ.nextOf_tuple_item S5.i3 S5.s3 hz fun g6 j6 e6 => wpAny_pure ?_)
  have S6 := S5.set3 j6 e6.extBut
  refine wpAny_bind (wpAny_seqItems S6.to rfl ?_)
  refine wpAny_bind (upd_to S6.to (Nat.le_refl _) fun g7 j7 e7 => ?_)
  have S7 := S6.setT (t1 := #[x, y, z, t3]) j7 e7.extBut
  refine wpAny_bind (wpAny_letGo (wpAny_pure ?_))
  refine wpAny_bind (wpAny_bind (wpAny_onRaise ?_))
  show wpAny _ _ (Builtin.SmallTypes.nextOf (.ref (N + 3 : Nat)) >>= _) _ _ _
  refine wpAny_bind (wpAny_nextOf_list_item S7.i4 S7.s4 hu fun g8 j8 e8 => wpAny_pure ?_)
  have S8 := S7.set4 j8 e8.extBut
  refine wpAny_bind (wpAny_seqItems S8.to rfl ?_)
  refine wpAny_bind (upd_to S8.to (Nat.le_refl _) fun g9 j9 e9 => ?_)
  have S9 := S8.setT (t1 := #[x, y, z, u]) j9 e9.extBut
  refine wpAny_bind (wpAny_letGo (wpAny_pure (wpAny_pure ?_)))
  refine wpAny_bind (wpAny_seqItems S9.to rfl ?_)
  refine wpAny_bind (wpAny_newTuple ?_)
  have sz : g9.objs.size = s.heap.objs.size := by rw [e9.1, e8.1, e7.1, e6.1, e5.1, e4.1, e3.1, e2.1, e1.1]
  have K9 : ZK N s.heap g9 := K1.trans ((ZK.of (by simp) e2.extBut).trans ((ZK.of (by simp) e3.extBut).trans ((ZK.of (by simp) e4.extBut).trans ((ZK.of (by simp) e5.extBut).trans ((ZK.of (by simp) e6.extBut).trans ((ZK.of (by simp) e7.extBut).trans ((ZK.of (by simp) e8.extBut).trans (ZK.of (by simp) e9.extBut))))))))
  show wpAny _ _ (Builtin.SmallTypes.ownedTupleHandOut (.ref (N + 6 : Nat)) (.ref g9.objs.size) >>= _) _ _ _
  refine wpAny_bind ?_
  unfold Builtin.SmallTypes.ownedTupleHandOut
  have S10 := S9.keep (h' := g9.push { cls := .type "tuple", data := .seq #[x, y, z, u] }) fun c o q => Heap.get?_push_of_some _ q
  refine wpAny_bind (wpAny_setField_rec S10.z (by simp) fun g11 z11 e11 => ?_)
  have S11 := S10.setZ (f1 := rawInt g9.objs.size) z11 e11.extBut
  refine wpAny_setField_rec S11.z (by simp) fun g12 z12 e12 => ?_
  have S12 := S11.setZ (f1 := rawInt g9.objs.size) z12 e12.extBut
  have nz : g9.objs.size ≠ N + 6 := Nat.ne_of_gt (Heap.lt_size S9.z)
  have tup : T4 g12 g9.objs.size #[x, y, z, u] := e12.extBut _ _ nz (e11.extBut _ _ nz (Heap.get?_push_size _ rfl))
  have sz2 : g12.objs.size = g9.objs.size + 1 := by rw [e12.1, e11.1, Heap.size_push]
  have K12 : ZK N s.heap g12 := (K9.trans fun c o _ _ _ _ _ _ q => Heap.get?_push_of_some _ q).trans ((ZK.of (by simp) e11.extBut).trans (ZK.of (by simp) e12.extBut))
  rw [sz] at S12 tup sz2
  refine wpAny_pure ⟨_, rfl, ?_⟩
  show Q (.ref g9.objs.size) _
  rw [sz]
  exact hQ g12 S12 tup sz2 K12
theorem zip4_end {Q : Fin → Shared → Prop} (hh : A.handled = none) (S : ZA s.heap N l1 l2 l3 l4 xs ys zs us .none t k k k k) (ht : t.size = 4) (hend : xs[k]? = none ∨ ys[k]? = none ∨ zs[k]? = none ∨ us[k]? = none)
    (hE : ∀ h' e, ZK N s.heap h' → (∃ o, h'.get? e = some o ∧ o.cls = .type "StopIteration") → E (.ref e) { s with heap := h' }) :
    wpAny (model prog w) A (Builtin.«zip.__next__» ⟨[.ref (N + 6 : Nat)], []⟩) Q E s := by
  obtain ⟨t0, t1, t2, t3, rfl⟩ : ∃ a b c d, t = #[a, b, c, d] := by
    obtain ⟨l⟩ := t
    rcases l with _ | ⟨a, _ | ⟨b, _ | ⟨c, _ | ⟨d, _ | ⟨_, _⟩⟩⟩⟩⟩ <;> simp at ht
    exact ⟨a, b, c, d, rfl⟩
  show wpAny _ _ (field (.ref (N + 6 : Nat)) 2 >>= _) _ _ _
  refine wpAny_bind (wpAny_field S.z rfl (x := .bool false) rfl ?_)
  show wpAny _ _ (field (.ref (N + 6 : Nat)) 3 >>= _) _ _ _
  refine wpAny_bind (wpAny_field S.z rfl (x := .ref (N + 4 : Nat)) rfl ?_)
  refine wpAny_bind (wpAny_seqItems S.ti rfl ?_)
  show wpAny _ _ (Builtin.SmallTypes.ownedTupleIsFree (.ref (N + 6 : Nat)) >>= _) _ _ _
  refine wpAny_bind ?_
  unfold Builtin.SmallTypes.ownedTupleIsFree
  refine wpAny_bind (wpAny_field S.z rfl (x := .none) rfl (wpAny_pure ?_))
  simp only [if_true]
  refine wpAny_bind (wpAny_rule ?_)
  refine wpAny_bind (wpAny_field S.z rfl (x := .ref (N + 5 : Nat)) rfl ?_)
  refine wpAny_bind (wpAny_setField_rec S.z (by simp) fun g1 z1 e1 => ?_)
  have S1 := S.setZ (f1 := .ellipsis) z1 e1.extBut
  have K1 : ZK N s.heap g1 := ZK.of (by simp) e1.extBut
  have fin : ∀ {g : Heap} {e d : Nat} {g' : Heap}, IsZip g (N + 6) (N + 4) (N + 5) .ellipsis → ZK N s.heap g → Heap.ExtBut d g g' → d ≠ N + 6 → (d = N ∨ d = N + 1 ∨ d = N + 2 ∨ d = N + 3) → (∃ o, g'.get? e = some o ∧ o.cls = .type "StopIteration") →
      wpAny (model prog w) A (setField (.ref (N + 6 : Nat)) 0 .none) (fun _ s' => E (.ref e) s') E { s with heap := g' } := by
    intro g e d g' hz K ex hd hd2 he
    obtain ⟨oe, hoe, hce⟩ := he
    have z2 : IsZip g' (N + 6) (N + 4) (N + 5) .ellipsis := ex _ _ (Ne.symm hd) hz
    have ne : e ≠ N + 6 := fun q => by subst q; rw [z2] at hoe; cases hoe; simp at hce
    refine wpAny_setField_rec z2 (by simp) fun g2 _ e2 => hE g2 e (K.trans ((ZK.of ?_ ex).trans (ZK.of (by simp) e2.extBut))) ⟨oe, e2.extBut _ _ ne hoe, hce⟩
    rcases hd2 with r | r | r | r <;> simp [r]
  refine wpAny_bind ?_
  simp only [List.zipIdx_cons, List.zipIdx_nil, List.forIn_cons, List.forIn_nil]
  refine wpAny_bind (wpAny_bind (wpAny_onRaise ?_))
  show wpAny _ _ (Builtin.SmallTypes.nextOf (.ref N) >>= _) _ _ _
  cases hx : xs[k]? with
  | none => exact wpAny_bind (RZ.nextOf_tuple_end hh S1.i1 S1.s1 hx fun g2 e e2 he => fin S1.z K1 e2 (by omega) (by simp) he)
  | some x =>
    refine wpAny_bind (RZ.nextOf_tuple_item S1.i1 S1.s1 hx fun g2 j2 e2 => wpAny_pure ?_)
    have S2 := S1.set1 j2 e2.extBut
    have K2 := K1.trans (ZK.of (by simp) e2.extBut)
    refine wpAny_bind (wpAny_seqItems S2.to rfl ?_)
    refine wpAny_bind (upd_to S2.to (Nat.le_refl _) fun g3 j3 e3 => ?_)
    have S3 := S2.setT (t1 := #[x, t1, t2, t3]) j3 e3.extBut
    have K3 := K2.trans (ZK.of (by simp) e3.extBut)
    refine wpAny_bind (wpAny_letGo (wpAny_pure ?_))
    refine wpAny_bind (wpAny_bind (wpAny_onRaise ?_))
    show wpAny _ _ (Builtin.SmallTypes.nextOf (.ref (N + 1 : Nat)) >>= _) _ _ _
    cases hy : ys[k]? with
    | none => exact wpAny_bind (RZ.nextOf_tuple_end hh S3.i2 S3.s2 hy fun g4 e e4 he => fin S3.z K3 e4 (by omega) (by simp) he)
    | some y =>
      refine wpAny_bind (RZ.nextOf_tuple_item S3.i2 S3.s2 hy fun g4 j4 e4 => wpAny_pure ?_)
      have S4 := S3.set2 j4 e4.extBut
      have K4 := K3.trans (ZK.of (by simp) e4.extBut)
      refine wpAny_bind (wpAny_seqItems S4.to rfl ?_)
      refine wpAny_bind (upd_to S4.to (Nat.le_refl _) fun g5 j5 e5 => ?_)
      have S5 := S4.setT (t1 := #[x, y, t2, t3]) j5 e5.extBut
      have K5 := K4.trans (ZK.of (by simp) e5.extBut)
      refine wpAny_bind (wpAny_letGo (wpAny_pure ?_))
      refine wpAny_bind (wpAny_bind (wpAny_onRaise ?_))
      show wpAny _ _ (Builtin.SmallTypes.nextOf (.ref (N + 2 : Nat)) >>= _) _ _ _
      cases hz : zs[k]? with
      | none => exact wpAny_bind (RZ.nextOf_tuple_end hh S5.i3 S5.s3 hz fun g6 e e6 he => fin S5.z K5 e6 (by omega) (by simp) he)
      | some z =>
        refine wpAny_bind (RZ.nextOf_tuple_item S5.i3 S5.s3 hz fun g6 j6 e6 => wpAny_pure ?_)
        have S6 := S5.set3 j6 e6.extBut
        have K6 := K5.trans (ZK.of (by simp) e6.extBut)
        refine wpAny_bind (wpAny_seqItems S6.to rfl ?_)
        refine wpAny_bind (upd_to S6.to (Nat.le_refl _) fun g7 j7 e7 => ?_)
        have S7 := S6.setT (t1 := #[x, y, z, t3]) j7 e7.extBut
        have K7 := K6.trans (ZK.of (by simp) e7.extBut)
        refine wpAny_bind (wpAny_letGo (wpAny_pure ?_))
        refine wpAny_bind (wpAny_bind (wpAny_onRaise ?_))
        show wpAny _ _ (Builtin.SmallTypes.nextOf (.ref (N + 3 : Nat)) >>= _) _ _ _
        have hu : us[k]? = none := by
          rcases hend with r | r | r | r
          · rw [hx] at r; cases r
          · rw [hy] at r; cases r
          · rw [hz] at r; cases r
          · exact r
        exact wpAny_bind (wpAny_nextOf_list_end hh S7.i4 S7.s4 hu fun g8 e e8 he => fin S7.z K7 e8 (by omega) (by simp) he)
theorem next4_item {x y z u : Value} {Q : Option Value → Shared → Prop} (S : ZA s.heap N l1 l2 l3 l4 xs ys zs us .none t k k k k) (ht : t.size = 4) (hx : xs[k]? = some x) (hy : ys[k]? = some y) (hz : zs[k]? = some z) (hu : us[k]? = some u)
    (hQ : ∀ h', ZA h' N l1 l2 l3 l4 xs ys zs us (rawInt s.heap.objs.size) #[x, y, z, u] (k + 1) (k + 1) (k + 1) (k + 1) → T4 h' s.heap.objs.size #[x, y, z, u] → h'.objs.size = s.heap.objs.size + 1 → ZK N s.heap h' → Q (some (.ref s.heap.objs.size)) { s with heap := h' }) :
    wpAny (model prog w) A (pyNext (.ref (N + 6 : Nat))) Q E s := by
  have hT : s.TypeIs (.ref (N + 6 : Nat)) "zip" := ⟨_, S.z, rfl⟩
  unfold pyNext
  exact wpAny_bind (wpAny_attempt (wpAny_callSpecial?_slot (name := Str.ofString "__next__") hT F.slot_zip_next
    (wpAny_call_entry F.slot_zip_next hT F.entry_zip_next (zip4_item S ht hx hy hz hu fun h' a b c d => wpAny_pure (hQ h' a b c d)) (F.args_zip_next_1 _))))
theorem next4_end {Q : Option Value → Shared → Prop} (hh : A.handled = none) (S : ZA s.heap N l1 l2 l3 l4 xs ys zs us .none t k k k k) (ht : t.size = 4) (hend : xs[k]? = none ∨ ys[k]? = none ∨ zs[k]? = none ∨ us[k]? = none)
    (hQ : ∀ h', ZK N s.heap h' → Q none { s with heap := h' }) : wpAny (model prog w) A (pyNext (.ref (N + 6 : Nat))) Q E s := by
  have hT : s.TypeIs (.ref (N + 6 : Nat)) "zip" := ⟨_, S.z, rfl⟩
  unfold pyNext
  refine wpAny_bind (wpAny_attempt (wpAny_callSpecial?_slot (name := Str.ofString "__next__") hT F.slot_zip_next
    (wpAny_call_entry F.slot_zip_next hT F.entry_zip_next (zip4_end (by first | exact hh | exact (show A.in1.handled = none from hh)) S ht hend fun h' e hk he => ?_) (F.args_zip_next_1 _))))
  obtain ⟨o, ho, hc⟩ := he
  refine wpAny_bind (wpAny_isInstance (T := "StopIteration") (b := true) ⟨o, ho, hc⟩ isSubtype_stop ?_)
  exact wpAny_pure (hQ _ hk)
end
end RX
end
section
set_option Elab.async false
set_option linter.all false
set_option maxRecDepth 100000
set_option maxHeartbeats 2000000
/-! RX4: .. in a loop's head. -/
namespace RX
open PySem PySem.Spec PyProof.Rows L2
/-- the tuples at a, b, c and the list at d as they stand at each turn, the items in new tuples -/
def It4 (K : PySem.W.Frag) (a b c d : Addr) : It :=
  ⟨fun i H => ∃ (xs ys zs us : List V) (x y z u : V), SqT K H a xs ∧ SqT K H b ys ∧ SqT K H c zs ∧ SqL K H d us ∧ xs[i]? = some x ∧ ys[i]? = some y ∧ zs[i]? = some z ∧ us[i]? = some u,
    fun i H v H' => ∃ T x y z u, v = .ref T ∧ H T = none ∧ H' = L2.upd H T (.tup [x, y, z, u]) ∧ (∀ xs, SqT K H a xs → xs[i]? = some x) ∧ (∀ ys, SqT K H b ys → ys[i]? = some y) ∧ (∀ zs, SqT K H c zs → zs[i]? = some z) ∧ ∀ us, SqL K H d us → us[i]? = some u,
    fun i H => ∃ xs ys zs us : List V, SqT K H a xs ∧ SqT K H b ys ∧ SqT K H c zs ∧ SqL K H d us ∧ (xs.length ≤ i ∨ ys.length ≤ i ∨ zs.length ≤ i ∨ us.length ≤ i)⟩
/-- the cells of the iterator alone -/
structure ZC (h : Heap) (N a b c d k : Nat) : Prop where
  z : IsZip h (N + 6) (N + 4) (N + 5) .none
  ti : T4 h (N + 4) #[.ref N, .ref (N + 1), .ref (N + 2), .ref (N + 3)]
  to : ∃ t : Array Value, t.size = 4 ∧ T4 h (N + 5) t
  i1 : h.IsTupleIter N a k
  i2 : h.IsTupleIter (N + 1) b k
  i3 : h.IsTupleIter (N + 2) c k
  i4 : h.IsListIter (N + 3) d k
  b1 : a < N
  b2 : b < N
  b3 : c < N
  b4 : d < N
def zFp (N : Nat) : List Addr := [N + 6, N + 4, N + 5, N, N + 1, N + 2, N + 3]
theorem zFp_mem {N c : Nat} (h : c ∈ zFp N) : c = N + 6 ∨ c = N + 4 ∨ c = N + 5 ∨ c = N ∨ c = N + 1 ∨ c = N + 2 ∨ c = N + 3 := by simpa [zFp] using h
theorem ZC.za {h : Heap} {N a b c d k : Nat} {xs ys zs us : Array Value} (S : ZC h N a b c d k) (s1 : h.IsTuple a xs) (s2 : h.IsTuple b ys) (s3 : h.IsTuple c zs) (s4 : h.IsList d us) : ∃ t : Array Value, t.size = 4 ∧ ZA h N a b c d xs ys zs us .none t k k k k := by
  obtain ⟨z, ti, ⟨t, h4, to⟩, i1, i2, i3, i4, b1, b2, b3, b4⟩ := S
  exact ⟨t, h4, z, ti, to, i1, i2, i3, i4, s1, s2, s3, s4, b1, b2, b3, b4⟩
theorem ZA.zc {h : Heap} {N a b c d k : Nat} {xs ys zs us t : Array Value} (S : ZA h N a b c d xs ys zs us .none t k k k k) (ht : t.size = 4) : ZC h N a b c d k := by
  obtain ⟨z, ti, to, i1, i2, i3, i4, s1, s2, s3, s4, b1, b2, b3, b4⟩ := S
  exact ⟨z, ti, ⟨t, ht, to⟩, i1, i2, i3, i4, b1, b2, b3, b4⟩
theorem turn4 {P : Program} {w : World} {K : PySem.W.Frag} {elts : List Expr} {kk : Nat} {tpos : Pos} {N a b c d : Nat} :
    Turn P w K (.Tuple elts kk tpos) (It4 K a b c d) (zFp N) (N + 6 : Nat) (fun i h => ZC h N a b c d i) where
  mem := by simp [zFp]
  obj := fun i h st e he => by
    obtain ⟨z, ti, ⟨t, h4, to⟩, ⟨o1, e1, _, d1⟩, ⟨o2, e2, _, d2⟩, ⟨o3, e3, _, d3⟩, ⟨o4, e4, _, d4⟩, _⟩ := st
    rcases zFp_mem he with q | q | q | q | q | q | q
    · rw [q]; exact ⟨_, z, fun v r => nomatch r⟩
    · rw [q]; exact ⟨_, ti, fun v r => nomatch r⟩
    · rw [q]; exact ⟨_, to, fun v r => nomatch r⟩
    · rw [q]; exact ⟨o1, e1, fun v r => by rw [d1] at r; cases r⟩
    · rw [q]; exact ⟨o2, e2, fun v r => by rw [d2] at r; cases r⟩
    · rw [q]; exact ⟨o3, e3, fun v r => by rw [d3] at r; cases r⟩
    · rw [q]; exact ⟨o4, e4, fun v r => by rw [d4] at r; cases r⟩
  keep := fun i h h' st k => by
    obtain ⟨z, ti, ⟨t, h4, to⟩, i1, i2, i3, i4, b1, b2, b3, b4⟩ := st
    exact ⟨k _ (by simp [zFp]) _ z, k _ (by simp [zFp]) _ ti, ⟨t, h4, k _ (by simp [zFp]) _ to⟩, i1.at fun o q => k _ (by simp [zFp]) o q, i2.at fun o q => k _ (by simp [zFp]) o q, i3.at fun o q => k _ (by simp [zFp]) o q, i4.at fun o q => k _ (by simp [zFp]) o q, b1, b2, b3, b4⟩
  item := by
    intro X hP hw hK hc i pins s σ H E I hf st hg
    subst hP hw hK
    obtain ⟨xs, ys, zs, us, x, y, z, u, qx, qy, qz, qu, hx, hy, hz, hu⟩ := hg
    obtain ⟨i1, v1, p1, _⟩ := I.tuple qx
    obtain ⟨i2, v2, p2, _⟩ := I.tuple qy
    obtain ⟨i3, v3, p3, _⟩ := I.tuple qz
    obtain ⟨i4, v4, p4, _⟩ := I.list qu
    obtain ⟨x', hx', rx⟩ := v1.get hx
    obtain ⟨y', hy', ry⟩ := v2.get hy
    obtain ⟨z', hz', rz⟩ := v3.get hz
    obtain ⟨u', hu', ru⟩ := v4.get hu
    obtain ⟨t, ht, S⟩ := st.za (show s.heap.IsTuple a i1.toArray from p1) (show s.heap.IsTuple b i2.toArray from p2) (show s.heap.IsTuple c i3.toArray from p3) p4.isList
    have lz : N + 6 < s.heap.objs.size := Heap.lt_size S.z
    refine next4_item S ht (x := x') (y := y') (z := z') (u := u') (by simpa using hx') (by simpa using hy') (by simpa using hz') (by simpa using hu') fun h1 S1 tup sz kp => ?_
    refine ⟨_, rfl, wpAny_letOwnedTupleGo_zip (s := { s with heap := h1 }) S1.z fun h2 z2 sb => ?_⟩
    have S2 := S1.setZ (f1 := .none) z2 sb.extBut
    have tup2 : T4 h2 s.heap.objs.size #[x', y', z', u'] := sb.extBut _ _ (Nat.ne_of_gt lz) tup
    have kp2 : ZK N s.heap h2 := kp.trans (ZK.of (by simp) sb.extBut)
    have new : ObjOk X.prog X.w (L2.upd H s.heap.objs.size (.tup [x, y, z, u])) h2 s.heap.objs.size (.tup [x, y, z, u]) :=
      ⟨by show 4 ≤ sizeLine; decide, [x', y', z', u'], .cons rx (.cons ry (.cons rz (.cons ru .nil))), ⟨_, tup2, rfl, _, rfl⟩⟩
    have I1 : Inv X pins σ (L2.upd H s.heap.objs.size (.tup [x, y, z, u])) { s with heap := h2 } :=
      I.turnedNew (t' := s.toks) (ch := zFp N) (fun e o hb q => kp2 e o (fun r => hb (by simp [zFp, r])) (fun r => hb (by simp [zFp, r])) (fun r => hb (by simp [zFp, r])) (fun r => hb (by simp [zFp, r])) (fun r => hb (by simp [zFp, r])) (fun r => hb (by simp [zFp, r])) q) hf (Nat.le_refl _) new
    refine ⟨.ref s.heap.objs.size, _, I1, rfl, ⟨_, x, y, z, u, rfl, I.hok.fresh (Nat.le_refl _), rfl, fun l hl => by rw [I.tuple_inj hl qx]; exact hx, fun l hl => by rw [I.tuple_inj hl qy]; exact hy, fun l hl => by rw [I.tuple_inj hl qz]; exact hz, fun l hl => by rw [I.list_inj hl qu]; exact hu⟩, S2.zc rfl, fun e he => ?_⟩
    have lt : e < s.heap.objs.size := by
      rcases zFp_mem he with q | q | q | q | q | q | q <;> (rw [q]; exact Nat.lt_of_le_of_lt (by omega) lz)
    rw [upd_ne (Nat.ne_of_lt lt)]
    exact (hf e he).1
  done := by
    intro X hP hw hK hc i pins s σ H E I hf st hg
    subst hP hw hK
    obtain ⟨xs, ys, zs, us, qx, qy, qz, qu, hend⟩ := hg
    obtain ⟨i1, v1, p1, _⟩ := I.tuple qx
    obtain ⟨i2, v2, p2, _⟩ := I.tuple qy
    obtain ⟨i3, v3, p3, _⟩ := I.tuple qz
    obtain ⟨i4, v4, p4, _⟩ := I.list qu
    obtain ⟨t, ht, S⟩ := st.za (show s.heap.IsTuple a i1.toArray from p1) (show s.heap.IsTuple b i2.toArray from p2) (show s.heap.IsTuple c i3.toArray from p3) p4.isList
    have l1 := v1.length
    have l2 := v2.length
    have l3 := v3.length
    have l4 := v4.length
    have hend' : i1.toArray[i]? = none ∨ i2.toArray[i]? = none ∨ i3.toArray[i]? = none ∨ i4.toArray[i]? = none := by
      rcases hend with q | q | q | q
      · exact .inl (by simp; omega)
      · exact .inr (.inl (by simp; omega))
      · exact .inr (.inr (.inl (by simp; omega)))
      · exact .inr (.inr (.inr (by simp; omega)))
    exact next4_end (I.ok.hd hc) S ht hend' fun h' kp => ⟨rfl, I.turnedL (t' := s.toks) (ch := zFp N) (fun e o hb q =>
      kp e o (fun r => hb (by simp [zFp, r])) (fun r => hb (by simp [zFp, r])) (fun r => hb (by simp [zFp, r])) (fun r => hb (by simp [zFp, r])) (fun r => hb (by simp [zFp, r])) (fun r => hb (by simp [zFp, r])) q) hf⟩
  self := fun A i s Q E st h => wpAny_pyIter_zip st.z h
section
variable {prog : Program} {w : World} {A : Around} {E : Value → Shared → Prop} {s : Shared}
theorem zip4_begins {a b c d : Addr} {xs ys zs us : Array Value} {Q : Value → Shared → Prop} (h1 : s.heap.IsTuple a xs) (h2 : s.heap.IsTuple b ys) (h3 : s.heap.IsTuple c zs) (h4 : s.heap.IsList d us)
    (h : ∀ h', ZC h' s.heap.objs.size a b c d 0 → (∀ e o, s.heap.get? e = some o → h'.get? e = some o) → Q (.ref (s.heap.objs.size + 6 : Nat)) { s with heap := h' }) :
    wpAny (model prog w) A (call (.type "zip") [.ref a, .ref b, .ref c, .ref d]) Q E s := by
  have lt : ∀ {e : Addr} {o : Obj}, s.heap.get? e = some o → e < s.heap.objs.size := fun e => Heap.lt_size e
  obtain ⟨oa, ea, _⟩ := id h1
  obtain ⟨ob, eb, _⟩ := id h2
  obtain ⟨oc, ec, _⟩ := id h3
  obtain ⟨od, ed, _⟩ := id h4
  refine callType_new F.called_zip (by decide) (call4 _ _ _ _) (new4 _ _ _ _) (fun obj => init5 obj _ _ _ _) F.entry_zip_new
    (new_zip4 (begins_tuple a xs) (begins_tuple b ys) (begins_tuple c zs) (begins_list d us)) ⟨⟨h1, h2, h3, h4⟩, ?_⟩
  generalize ho1 : ({ cls := .type "tuple_iterator", data := .fields #[.ref a, .int 0 0] } : Obj) = o1
  generalize ho2 : ({ cls := .type "tuple_iterator", data := .fields #[.ref b, .int 0 0] } : Obj) = o2
  generalize ho3 : ({ cls := .type "tuple_iterator", data := .fields #[.ref c, .int 0 0] } : Obj) = o3
  generalize ho4 : ({ cls := .type "list_iterator", data := .fields #[.ref d, .int 0 0] } : Obj) = o4
  have z1 : (s.heap.push o1).objs.size = s.heap.objs.size + 1 := Heap.size_push ..
  have z2 : ((s.heap.push o1).push o2).objs.size = s.heap.objs.size + 2 := by rw [Heap.size_push, z1]
  have z3 : (((s.heap.push o1).push o2).push o3).objs.size = s.heap.objs.size + 3 := by rw [Heap.size_push, z2]
  have z4 : ((((s.heap.push o1).push o2).push o3).push o4).objs.size = s.heap.objs.size + 4 := by rw [Heap.size_push, z3]
  have zT : (pT s.heap o1 o2 o3 o4).objs.size = s.heap.objs.size + 5 := by rw [Heap.size_push, z4]
  have zO : (pO s.heap o1 o2 o3 o4).objs.size = s.heap.objs.size + 6 := by rw [Heap.size_push, zT]
  have f1 : o1.isFreed = false := by rw [← ho1] <;> rfl
  have f2 : o2.isFreed = false := by rw [← ho2] <;> rfl
  have f3 : o3.isFreed = false := by rw [← ho3] <;> rfl
  have f4 : o4.isFreed = false := by rw [← ho4] <;> rfl
  have up : ∀ e o, (pT s.heap o1 o2 o3 o4).get? e = some o → (pZ s.heap o1 o2 o3 o4).get? e = some o := fun e o q => Heap.get?_push_of_some _ (Heap.get?_push_of_some _ q)
  have gZ : (pZ s.heap o1 o2 o3 o4).get? (pO s.heap o1 o2 o3 o4).objs.size = some { cls := .type "zip", data := .fields #[.none, .bool false, .bool false, .ref ((((s.heap.push o1).push o2).push o3).push o4).objs.size, .ref (pT s.heap o1 o2 o3 o4).objs.size] } := Heap.get?_push_size _ rfl
  have gO : (pZ s.heap o1 o2 o3 o4).get? (pT s.heap o1 o2 o3 o4).objs.size = some { cls := .type "tuple", data := .seq #[.none, .none, .none, .none] } := Heap.get?_push_of_some _ (Heap.get?_push_size _ rfl)
  have gT : (pZ s.heap o1 o2 o3 o4).get? ((((s.heap.push o1).push o2).push o3).push o4).objs.size = some { cls := .type "tuple", data := .seq #[.ref s.heap.objs.size, .ref (s.heap.push o1).objs.size, .ref ((s.heap.push o1).push o2).objs.size, .ref (((s.heap.push o1).push o2).push o3).objs.size] } := up _ _ (Heap.get?_push_size _ rfl)
  have g4 : (pZ s.heap o1 o2 o3 o4).get? (((s.heap.push o1).push o2).push o3).objs.size = some o4 := up _ _ (Heap.get?_push_of_some _ (Heap.get?_push_size _ f4))
  have g3 : (pZ s.heap o1 o2 o3 o4).get? ((s.heap.push o1).push o2).objs.size = some o3 := up _ _ (Heap.get?_push_of_some _ (Heap.get?_push_of_some _ (Heap.get?_push_size _ f3)))
  have g2 : (pZ s.heap o1 o2 o3 o4).get? (s.heap.push o1).objs.size = some o2 := up _ _ (Heap.get?_push_of_some _ (Heap.get?_push_of_some _ (Heap.get?_push_of_some _ (Heap.get?_push_size _ f2))))
  have g1 : (pZ s.heap o1 o2 o3 o4).get? s.heap.objs.size = some o1 := up _ _ (Heap.get?_push_of_some _ (Heap.get?_push_of_some _ (Heap.get?_push_of_some _ (Heap.get?_push_of_some _ (Heap.get?_push_size _ f1)))))
  rw [zO, zT, z4] at gZ
  rw [zT] at gO
  rw [z4, z3, z2, z1] at gT
  rw [z3] at g4
  rw [z2] at g3
  rw [z1] at g2
  show _ ∧ _
  rw [zO]
  refine ⟨⟨_, gZ, rfl⟩, h _ ⟨gZ, gT, ⟨_, rfl, gO⟩, ⟨o1, g1, by rw [← ho1], by rw [← ho1] <;> rfl⟩, ⟨o2, g2, by rw [← ho2], by rw [← ho2] <;> rfl⟩, ⟨o3, g3, by rw [← ho3], by rw [← ho3] <;> rfl⟩, ⟨o4, g4, by rw [← ho4], by rw [← ho4] <;> rfl⟩, lt ea, lt eb, lt ec, lt ed⟩
    fun e o q => up _ _ (Heap.get?_push_of_some _ (Heap.get?_push_of_some _ (Heap.get?_push_of_some _ (Heap.get?_push_of_some _ (Heap.get?_push_of_some _ q)))))⟩
end
def iZip4 (K : PySem.W.Frag) (ta : TA) : TI := fun σ H R => ta σ H fun vs H1 => ∃ a b c d xs ys zs us, vs = [.ref a, .ref b, .ref c, .ref d] ∧ SqT K H1 a xs ∧ SqT K H1 b ys ∧ SqT K H1 c zs ∧ SqL K H1 d us ∧ R (It4 K a b c d) H1
theorem pi_zip4 {X : Cx} {e e2 e3 e4 : Expr} {ta : TA} {p pos tpos : Pos} {elts : List Expr} {kk : Nat} (hg : Gl X "zip") (hm : X.mg "zip" = none) (ha : PA X [e, e2, e3, e4] ta)
    (hs : starEach [e, e2, e3, e4] X.env = (false, eval e X.env) :: starEach [e2, e3, e4] X.env) (hpl : (backTo pos (starEach [e2, e3, e4] X.env)).any (·.1) = false) :
    PI X (.Tuple elts kk tpos) (.Call (.Name "zip" p) [e, e2, e3, e4] [] pos) (iZip4 X.K ta) := by
  refine ⟨fun pins s σ H R I h => ?_⟩
  refine Call_ (ld_blt I hg hm PyProof.Rows.boot_zip (PyProof.Rows.callWith_type1 (thn (ha.run pos pins s σ H _ I h) fun us s1 ⟨vs, H1, I1, r1, q1⟩ => ?_) hs hpl))
  obtain ⟨a, b, c, d, xs, ys, zs, ws, ex, qx, qy, qz, qu, q⟩ := q1
  subst ex
  cases r1 with
  | cons r rr =>
    cases rr with
    | cons r' rr =>
      cases rr with
      | cons r'' rr =>
        cases rr with
        | cons r3 rr =>
          cases rr
          cases r
          cases r'
          cases r''
          cases r3
          obtain ⟨i1, v1, p1, _⟩ := I1.tuple qx
          obtain ⟨i2, v2, p2, _⟩ := I1.tuple qy
          obtain ⟨i3, v3, p3, _⟩ := I1.tuple qz
          obtain ⟨i4, v4, p4, _⟩ := I1.list qu
          refine zip4_begins (show s1.heap.IsTuple a i1.toArray from p1) (show s1.heap.IsTuple b i2.toArray from p2) (show s1.heap.IsTuple c i3.toArray from p3) p4.isList fun h' S kp => wpAny_pyIter_zip S.z ?_
          have I2 : Inv X pins σ H1 { s1 with heap := h' } := I1.kept (t' := s1.toks) kp
          refine ⟨(s1.heap.objs.size + 6 : Nat), zFp s1.heap.objs.size, _, _, H1, rfl, I2, turn4, S, fun e he => ?_, q⟩
          have le : s1.heap.objs.size ≤ e := by
            rcases zFp_mem he with z | z | z | z | z | z | z <;> (rw [z]; first | exact Nat.le_refl _ | exact Nat.le_add_right _ _)
          exact I1.fpOk le (I1.hok.fresh le)
end RX
end
section
set_option Elab.async false
set_option linter.all false
set_option maxRecDepth 100000
/-! RF0: a small evaluator of own: pure values, a list of objects, slots; own core syntax. -/
noncomputable section
namespace RF
open PySem

inductive W where
  | non | bl (b : Bool) | int (i : Int) | str (x : Str) | ty (n : String) | fn (x : Str) | tup (xs : List W) | scr (xs : List W) | ref (r : Nat)
  deriving Inhabited

abbrev Key := L2.Key
/-- objects: a list; dicts with flat keys, with tuples of such; the same while they are walked -/
inductive CO where
  | lst (xs : List W) | dK (kvs : List (Key × W)) | dT (kvs : List (List Key × W)) | lK (kvs : List (Key × W)) | lT (kvs : List (List Key × W))

structure CH where
  n : Nat
  os : List CO
/-- the i-th, by the recursors alone: few steps for the kernel -/
def lk {α : Type} (l : List α) : Nat → Option α := List.rec (motive := fun _ => Nat → Option α) (fun _ => none) (fun x _ ih i => Nat.rec (motive := fun _ => Option α) (some x) (fun k _ => ih k) i) l
theorem lk_eq {α : Type} : ∀ (l : List α) (i : Nat), lk l i = l[i]?
  | [], _ => rfl
  | _ :: _, 0 => rfl
  | _ :: r, n + 1 => by
    show lk r n = (_ :: r)[n + 1]?
    rw [List.getElem?_cons_succ]
    exact lk_eq r n
def CH.get (h : CH) (r : Nat) : Option CO := Bool.rec (motive := fun _ => Option CO) none (lk h.os (h.n - 1 - r)) (Nat.blt r h.n)
def CH.new (h : CH) (o : CO) : CH := ⟨h.n + 1, o :: h.os⟩
def CH.set (h : CH) (r : Nat) (o : CO) : CH := ⟨h.n, h.os.set (h.n - 1 - r) o⟩

inductive R (α : Type) where
  | ok (a : α) (h : CH) | exc (c : Nat) (ws : List W) (h : CH) | bad
def R.bind {α β : Type} (r : R α) (k : α → CH → R β) : R β := R.rec (motive := fun _ => R β) (fun a h => k a h) (fun c ws h => .exc c ws h) .bad r

abbrev St := List (Option W)
inductive RS where
  | nx (s : St) (h : CH) | rt (w : W) (h : CH) | bk (s : St) (h : CH) | ct (s : St) (h : CH) | exc (c : Nat) (ws : List W) (h : CH) | bad

/-- what is walked -/
inductive IK where
  | seq | rng1 | rng2 | enm | zip | rrng1 | rrng2 | zip4
/-- built-in functions and types called by name -/
inductive BI where
  | len | all | any | sum | tuple | list | int | abs | min | max | sorted | isi
/-- built-in methods -/
inductive ME where
  | append | extend | pop | popAt | get1 | get2
/-- targets of names -/
inductive CP where
  | nm (i : Nat) | tp (ps : CP) | nil | cons (p ps : CP)

/-- what an except clause tells: a literal, a field of the exception, whether it is of a built-in class -/
inductive HI where
  | lit (w : W) | fld (f : Str) | isx (n : String) (k : Bool)
/-- an except clause: the class, its name's slot, return | the slot that is set, a list | one item -/
structure HD where
  c : Nat
  n : Nat
  nm : Option Nat
  to : Option Nat
  lst : Bool
  its : List HI

inductive CE where
  | nil | cons (e es : CE)
  | gfn (x : Str) | callv (fns : List (Str × Nat)) (g es : CE) | callk (f : Nat) (pm : List Nat) (es : CE) | rev (e : CE)
  | var (i : Nat) | lit (w : W) | gint (x : Str) (i : Int) | gty (n : String)
  | bin (op : Operator) (a b : CE) | neg (a : CE) | not (a : CE) | and (a b : CE) | or (a b : CE)
  | cmp (op : CmpOp) (a b : CE) | cmp2 (op op' : CmpOp) (a b c : CE) | ite (c a b : CE)
  | tup (es : CE) | lst (es : CE)
  | call (f : Nat) (es : CE) | bi (b : BI) (es : CE) | lenset (e : CE) | meth (m : ME) (o es : CE)
  | ix (a b : CE) | slc (a lo hi : CE) | nopart
  | comp (own : List (Str × Nat)) (k : IK) (args : CE) (p : CP) (c elt : CE)
  | compK (own : List (Str × Nat)) (i : Nat) (p : CP) (c elt : CE)
  | comp2 (own : List (Str × Nat)) (vs1 : List Nat) (k : IK) (args : CE) (p : CP) (c : CE) (k1 : IK) (args1 : CE) (p1 : CP) (c1 elt : CE)
  | dnew (t : Bool) | disp (es : CE)

inductive CS where
  | nil | cons (a b : CS)
  | set (i : Nat) (e : CE) | pat (p : CP) (e : CE) | par (is : List Nat) (es : CE) | ixset (o i e : CE) | ix2 (o1 i1 o2 i2 e : CE)
  | expr (e : CE) | ret (e : CE) | retN | ifs (c : CE) (a b : CS) | loop (k : IK) (args : CE) (p : CP) (body : CS) | wh (c : CE) (body : CS)
  | pass | brk | cont | raise (c : Nat) (es : CE)
  | loopK (i : Nat) (p : CP) (body : CS) | trys (b : CS) (hs : List HD)

/-! ### data, truth, keys -/
def mapO {α β : Type} (f : α → Option β) : List α → Option (List β)
  | [] => some []
  | x :: r => match f x with
    | some y => (match mapO f r with
      | some ys => some (y :: ys)
      | none => none)
    | none => none
/-- as data, at most so deep -/
def toD (h : CH) : Nat → W → Option PyData
  | 0, _ => none
  | _ + 1, .non => some .none
  | _ + 1, .bl b => some (.bool b)
  | _ + 1, .int i => some (.int i)
  | _ + 1, .str x => some (.str x)
  | _ + 1, .ty _ => none
  | _ + 1, .fn _ => none
  | n + 1, .tup xs => (match mapO (toD h n) xs with
    | some ds => some (.tuple ds)
    | none => none)
  | n + 1, .scr xs => (match mapO (toD h n) xs with
    | some ds => some (.list ds)
    | none => none)
  | n + 1, .ref r => (match h.get r with
    | some (.lst xs) => (match mapO (toD h n) xs with
      | some ds => some (.list ds)
      | none => none)
    | _ => none)
def eqW (h : CH) (x y : W) : Option Bool := match toD h 60 x, toD h 60 y with
  | some d, some e => if SeqAt.shaped d && SeqAt.shaped e then some (PyData.eqv d e) else none
  | _, _ => none
def truth (h : CH) : W → Option Bool
  | .non => some false
  | .bl b => some b
  | .int i => some (i != 0)
  | .tup xs => some (!xs.isEmpty)
  | .scr xs => some (!xs.isEmpty)
  | .ref r => (match h.get r with
    | some (.lst xs) => some (!xs.isEmpty)
    | some (.dK kvs) => some (!kvs.isEmpty)
    | _ => none)
  | _ => none
def toKey : W → Option Key
  | .int i => some (.inl i)
  | .str x => some (.inr x)
  | _ => none
def kW : Key → W
  | .inl i => .int i
  | .inr x => .str x
def valW {κ : Type} [DecidableEq κ] (kvs : List (κ × W)) (k : κ) : Option W := (kvs.find? fun kv => decide (kv.1 = k)).map (·.2)
def putW {κ : Type} [DecidableEq κ] (kvs : List (κ × W)) (k : κ) (v : W) : List (κ × W) :=
  if (kvs.any fun kv => decide (kv.1 = k)) = true then kvs.map (fun kv => if kv.1 = k then (kv.1, v) else kv) else kvs ++ [(k, v)]
/-- d[y], if d is a dict and y a key of its kind -/
def dget (h : CH) (r : Nat) (y : W) : Option (Option W) := match h.get r with
  | some (.dK kvs) => (match toKey y with
    | some k => some (valW kvs k)
    | none => none)
  | some (.lK kvs) => (match toKey y with
    | some k => some (valW kvs k)
    | none => none)
  | some (.dT kvs) => (match y with
    | .tup xs => (match mapO toKey xs with
      | some k => some (valW kvs k)
      | none => none)
    | _ => none)
  | some (.lT kvs) => (match y with
    | .tup xs => (match mapO toKey xs with
      | some k => some (valW kvs k)
      | none => none)
    | _ => none)
  | _ => none
def short {α : Type} (xs : List α) : Bool := Nat.ble xs.length 1000000
def dput (h : CH) (r : Nat) (y v : W) : Option CH := match h.get r with
  | some (.dK kvs) => (match toKey y with
    | some k => if short kvs then some (h.set r (.dK (putW kvs k v))) else none
    | none => none)
  | some (.dT kvs) => (match y with
    | .tup xs => (match mapO toKey xs with
      | some k => if short kvs then some (h.set r (.dT (putW kvs k v))) else none
      | none => none)
    | _ => none)
  | _ => none
/-- the items of a list or tuple -/
def items (h : CH) : W → Option (List W)
  | .tup xs => some xs
  | .scr xs => some xs
  | .ref r => (match h.get r with
    | some (.lst xs) => some xs
    | _ => none)
  | _ => none
def flatW : W → Bool
  | .non => true
  | .bl _ => true
  | .int _ => true
  | .str _ => true
  | _ => false
def eqF : W → W → Bool
  | .non, .non => true
  | .bl a, .bl b => a == b
  | .bl a, .int b => (if a then 1 else 0) == b
  | .int a, .bl b => a == (if b then 1 else 0)
  | .int a, .int b => a == b
  | .str a, .str b => a == b
  | _, _ => false
def isIn (h : CH) (x y : W) : Option Bool := match y with
  | .tup xs => if flatW x && xs.all flatW then some (xs.any fun z => eqF z x) else none
  | .ref r => (match h.get r with
    | some (.lst xs) => if flatW x && xs.all flatW then some (xs.any fun z => eqF z x) else none
    | _ => (match dget h r x with
      | some o => some o.isSome
      | none => none))
  | _ => none
def toInt : W → Option Int
  | .int i => some i
  | _ => none
def toBl : W → Option Bool
  | .bl i => some i
  | _ => none

/-! ### operators -/
def big : Int := 18446744073709551616
def binW (op : Operator) (x y : W) (h : CH) : R W := match op, x, y with
  | .Add, .int i, .int j => .ok (.int (i + j)) h
  | .Sub, .int i, .int j => .ok (.int (i - j)) h
  | .Mult, .int i, .int j => if (decide (-big < i) && decide (i < big)) || (decide (-big < j) && decide (j < big)) then .ok (.int (i * j)) h else .bad
  | .FloorDiv, .int i, .int j => if decide (0 < j) && decide (j < 1073741824) then .ok (.int (i / j)) h else .bad
  | .Mod, .int i, .int j => if decide (0 < j) then .ok (.int (i % j)) h else .bad
  | .Pow, .int i, .int j => if decide (0 ≤ j) && decide (j ≤ 1000) && decide (-big < i) && decide (i < big) then .ok (.int (i ^ j.toNat)) h else .bad
  | .Add, .tup xs, .tup ys => if short (xs ++ ys) then .ok (.tup (xs ++ ys)) h else .bad
  | .Mult, .tup xs, .int k => if !xs.isEmpty && (decide (2 ≤ k) && (decide (k ≤ 1000) && Nat.ble xs.length 1000)) then .ok (.tup (List.replicate k.toNat xs).flatten) h else .bad
  | .Add, .ref a, .ref b => (match h.get a, h.get b with
    | some (.lst xs), some (.lst ys) => if short (xs ++ ys) then .ok (.ref h.n) (h.new (.lst (xs ++ ys))) else .bad
    | _, _ => .bad)
  | .Mult, .ref a, .int k => (match h.get a with
    | some (.lst xs) => if decide (0 ≤ k) && decide (k ≤ 1000) && short xs && Nat.ble (xs.length * k.toNat) 1000000 then .ok (.ref h.n) (h.new (.lst (List.replicate k.toNat xs).flatten)) else .bad
    | _ => .bad)
  | _, _, _ => .bad
def lexI : List Int → List Int → Bool
  | [], [] => false
  | [], _ :: _ => true
  | _ :: _, [] => false
  | x :: xs, y :: ys => if x = y then lexI xs ys else decide (x < y)
def isNonW : W → Bool
  | .non => true
  | _ => false
def cmpW (op : CmpOp) (x y : W) (h : CH) : R W := match op with
  | .Eq => (match eqW h x y with
    | some b => .ok (.bl b) h
    | none => .bad)
  | .NotEq => (match eqW h x y with
    | some b => .ok (.bl (!b)) h
    | none => .bad)
  | .Lt => (match x, y with
    | .int i, .int j => .ok (.bl (decide (i < j))) h
    | .tup xs, .tup ys => (match mapO toInt xs, mapO toInt ys with
      | some ns, some ms => .ok (.bl (lexI ns ms)) h
      | _, _ => .bad)
    | _, _ => .bad)
  | .LtE => (match x, y with
    | .int i, .int j => .ok (.bl (decide (i ≤ j))) h
    | _, _ => .bad)
  | .Gt => (match x, y with
    | .int i, .int j => .ok (.bl (decide (j < i))) h
    | _, _ => .bad)
  | .GtE => (match x, y with
    | .int i, .int j => .ok (.bl (decide (j ≤ i))) h
    | _, _ => .bad)
  | .Is => (match y with
    | .non => .ok (.bl (isNonW x)) h
    | _ => .bad)
  | .IsNot => (match y with
    | .non => .ok (.bl (!isNonW x)) h
    | _ => .bad)
  | .In => (match isIn h x y with
    | some b => .ok (.bl b) h
    | none => .bad)
  | .NotIn => (match isIn h x y with
    | some b => .ok (.bl (!b)) h
    | none => .bad)
def ixW (x y : W) (h : CH) : R W := match x, y with
  | .tup xs, .int i => (match L2.atI xs i with
    | some w => .ok w h
    | none => .bad)
  | .scr xs, .int i => (match L2.atI xs i with
    | some w => .ok w h
    | none => .bad)
  | .ref r, y => (match h.get r with
    | some (.lst xs) => (match y with
      | .int i => (match L2.atI xs i with
        | some w => .ok w h
        | none => .bad)
      | _ => .bad)
    | _ => (match dget h r y with
      | some (some w) => .ok w h
      | _ => .bad))
  | _, _ => .bad
def cutW (xs : List W) (lo hi : Option Int) : List W := (xs.drop (HT.sIx xs.length 0 lo)).take (HT.sIx xs.length xs.length hi - HT.sIx xs.length 0 lo)
def partW : W → Option (Option Int)
  | .non => some none
  | .int i => some (some i)
  | _ => none
def slcW (x lo hi : W) (h : CH) : R W := match partW lo, partW hi with
  | some l, some u => (match x with
    | .tup xs => if HT.sIx xs.length 0 l == 0 && HT.sIx xs.length xs.length u == xs.length then .bad else .ok (.tup (cutW xs l u)) h
    | .scr xs => .ok (.ref h.n) (h.new (.lst (cutW xs l u)))
    | .ref r => (match h.get r with
      | some (.lst xs) => .ok (.ref h.n) (h.new (.lst (cutW xs l u)))
      | _ => .bad)
    | _ => .bad)
  | _, _ => .bad
/-- the kind of a value -/
def tyW (h : CH) : W → Option String
  | .non => some "NoneType"
  | .bl _ => some "bool"
  | .int _ => some "int"
  | .str _ => some "str"
  | .ty _ => none
  | .fn _ => none
  | .tup _ => some "tuple"
  | .scr _ => some "list"
  | .ref r => (match h.get r with
    | some (.lst _) => some "list"
    | some (.dK _) => some "dict"
    | some (.dT _) => some "dict"
    | _ => none)
def isiOne (t c : String) : Option Bool := match c with
  | "int" => some (t == "int" || t == "bool")
  | "bool" => some (t == "bool")
  | "str" => some (t == "str")
  | "tuple" => some (t == "tuple")
  | "list" => some (t == "list")
  | _ => none
def isiAny (t : String) : List W → Option Bool
  | [] => some false
  | .ty c :: r => (match isiOne t c, isiAny t r with
    | some a, some b => some (a || b)
    | _, _ => none)
  | _ :: _ => none
/-- sorted: ints by themselves; tuples of so many ints from 0 by one number for each -/
def insBy {α : Type} (f : α → Int) (x : α) : List α → List α
  | [] => [x]
  | y :: r => if decide (f x ≤ f y) then x :: y :: r else y :: insBy f x r
def sortBy {α : Type} (f : α → Int) : List α → List α
  | [] => []
  | x :: r => insBy f x (sortBy f r)
def keyI : W → Int
  | .int i => i
  | _ => 0
def intsT : W → Option (List Int)
  | .tup xs => mapO toInt xs
  | _ => none
def keyT (B : Int) (w : W) : Int := match intsT w with
  | some ns => TS.code B ns
  | none => 0
def maxI : List Int → Int
  | [] => 0
  | x :: r => let m := maxI r
    if decide (x ≤ m) then m else x
def sortW (xs : List W) : Option (List W) := if Nat.blt xs.length 64 then (match mapO toInt xs with
    | some _ => some (sortBy keyI xs)
    | none => (match mapO intsT xs with
      | some (a :: l) => if Nat.blt 0 a.length && (a :: l).all (fun b => b.length == a.length && b.all fun i => decide (0 ≤ i)) then some (sortBy (keyT (maxI (a :: l).flatten + 1)) xs) else none
      | _ => none)) else none
def biW (b : BI) (ws : List W) (h : CH) : R W := match b, ws with
  | .len, [x] => (match items h x with
    | some xs => .ok (.int xs.length) h
    | none => (match x with
      | .ref r => (match h.get r with
        | some (.dK kvs) => .ok (.int kvs.length) h
        | some (.dT kvs) => .ok (.int kvs.length) h
        | _ => .bad)
      | _ => .bad))
  | .all, [.ref r] => (match h.get r with
    | some (.lst xs) => (match mapO toBl xs with
      | some bs => .ok (.bl (bs.all id)) h
      | none => .bad)
    | _ => .bad)
  | .any, [.ref r] => (match h.get r with
    | some (.lst xs) => (match mapO toBl xs with
      | some bs => .ok (.bl (bs.any id)) h
      | none => .bad)
    | _ => .bad)
  | .sum, [x] => (match items h x with
    | some xs => (match mapO toInt xs with
      | some ns => .ok (.int ns.sum) h
      | none => .bad)
    | none => .bad)
  | .tuple, [x] => (match items h x with
    | some xs => .ok (.tup xs) h
    | none => .bad)
  | .list, [x] => (match items h x with
    | some xs => .ok (.ref h.n) (h.new (.lst xs))
    | none => (match x with
      | .ref r => (match h.get r with
        | some (.dT kvs) => .ok (.ref h.n) (h.new (.lst (kvs.map fun kv => .tup (kv.1.map kW))))
        | _ => .bad)
      | _ => .bad))
  | .int, [.int i] => .ok (.int i) h
  | .int, [.bl k] => .ok (.int (if k then 1 else 0)) h
  | .abs, [.int i] => .ok (.int (if i < 0 then -i else i)) h
  | .min, [.int i, .int j] => .ok (.int (if j < i then j else i)) h
  | .max, [.int i, .int j] => .ok (.int (if j > i then j else i)) h
  | .sorted, [.ref r] => (match h.get r with
    | some (.lst xs) => (match sortW xs with
      | some ys => .ok (.ref h.n) (h.new (.lst ys))
      | none => .bad)
    | _ => .bad)
  | .isi, [x, .ty c] => (match tyW h x with
    | some t => (match isiOne t c with
      | some k => .ok (.bl k) h
      | none => .bad)
    | none => .bad)
  | .isi, [x, .tup cs] => (match tyW h x with
    | some t => (match isiAny t cs with
      | some k => .ok (.bl k) h
      | none => .bad)
    | none => .bad)
  | _, _ => .bad
/-- how many unlike ones: of flat ints, of tuples of ints -/
def nub (l : List (List Int)) : List (List Int) := l.foldr (fun x acc => if acc.contains x then acc else x :: acc) []
def lensetW (x : W) (h : CH) : R W := match items h x with
  | some xs => if Nat.blt xs.length 64 then (match mapO intsT xs with
    | some l => .ok (.int (nub l).length) h
    | none => .bad) else .bad
  | none => .bad
def open_ (h : CH) (r : Nat) : Bool := match h.get r with
  | some (.dK _) => true
  | some (.dT _) => true
  | _ => false
def methW (m : ME) (o : W) (ws : List W) (h : CH) : R W := match m, o, ws with
  | .append, .ref r, [x] => (match h.get r with
    | some (.lst xs) => if short xs then .ok .non (h.set r (.lst (xs ++ [x]))) else .bad
    | _ => .bad)
  | .extend, .ref r, [.ref q] => (match h.get r, h.get q with
    | some (.lst xs), some (.lst ys) => if short (xs ++ ys) then .ok .non (h.set r (.lst (xs ++ ys))) else .bad
    | _, _ => .bad)
  | .pop, .ref r, [] => (match h.get r with
    | some (.lst xs) => (match xs[xs.length - 1]? with
      | some y => .ok y (h.set r (.lst xs.dropLast))
      | none => .bad)
    | _ => .bad)
  | .popAt, .ref r, [.int i] => (match h.get r with
    | some (.lst xs) => if decide (-1000000 ≤ i) && decide (i ≤ 1000000) then (match seqIndex? i xs.length with
      | some k => (match xs[k]? with
        | some y => .ok y (h.set r (.lst (xs.eraseIdx k)))
        | none => .bad)
      | none => .bad) else .bad
    | _ => .bad)
  | .get1, .ref r, [y] => if open_ h r then (match dget h r y with
    | some o => .ok (o.getD .non) h
    | none => .bad) else .bad
  | .get2, .ref r, [y, z] => if open_ h r then (match dget h r y with
    | some o => .ok (o.getD z) h
    | none => .bad) else .bad
  | _, _, _ => .bad
/-- key, value, key, value .. -/
def pairsW : List W → Option (List (Key × W))
  | [] => some []
  | k :: v :: r => (match toKey k, pairsW r with
    | some k', some l => some ((k', v) :: l)
    | _, _ => none)
  | _ => none
def dispW (ws : List W) (h : CH) : R W := match pairsW ws with
  | some l => if Nat.ble l.length 15 && !l.isEmpty then .ok (.ref h.n) (h.new (.dK (l.foldl (fun acc kv => putW acc kv.1 kv.2) []))) else .bad
  | none => .bad

/-! ### walks -/
inductive Src where
  | st (xs : List W) | lref (r i : Nat) | enl (r i : Nat) | zll (r q i : Nat) | z4 (xs ys zs : List W) (q i : Nat) | upto (lo : Int) (n : Nat) | down (hi : Int) (n : Nat)
def enumW : Int → List W → List W
  | _, [] => []
  | i, x :: r => .tup [.int i, x] :: enumW (i + 1) r
def lstAt (h : CH) (r : Nat) : Option (List W) := match h.get r with
  | some (.lst xs) => some xs
  | _ => none
/-- the receiver is of the method's type, ahead of the arguments -/
def meRcv (h : CH) (m : ME) (w : W) : Bool := match w with
  | .ref r => (match m with
    | .get1 => open_ h r
    | .get2 => open_ h r
    | _ => (lstAt h r).isSome)
  | _ => false
def small (i : Int) : Bool := decide (-1000000000 ≤ i) && decide (i ≤ 1000000000)
def src0 (k : IK) (ws : List W) (h : CH) : Option Src := match k, ws with
  | .seq, [.tup xs] => some (.st xs)
  | .seq, [.scr xs] => some (.st xs)
  | .seq, [.ref r] => (match lstAt h r with
    | some _ => some (.lref r 0)
    | none => none)
  | .rng1, [.int n] => if small n then some (.upto 0 n.toNat) else none
  | .rng2, [.int a, .int b] => if small a && small b then some (.upto a (b - a).toNat) else none
  | .rrng1, [.int n] => if small n then some (.down (n - 1) n.toNat) else none
  | .rrng2, [.int a, .int b] => if small a && small b then some (.down (b - 1) (b - a).toNat) else none
  | .enm, [.tup xs] => some (.st (enumW 0 xs))
  | .enm, [.scr xs] => some (.st (enumW 0 xs))
  | .enm, [.ref r] => (match lstAt h r with
    | some _ => some (.enl r 0)
    | none => none)
  | .zip, [.tup xs, .tup ys] => some (.st (List.zipWith (fun x y => W.tup [x, y]) xs ys))
  | .zip4, [.tup xs, .tup ys, .tup zs, .ref q] => (match lstAt h q with
    | some _ => some (.z4 xs ys zs q 0)
    | none => none)
  | .zip, [.ref r, .ref q] => (match lstAt h r, lstAt h q with
    | some _, some _ => some (.zll r q 0)
    | _, _ => none)
  | _, _ => none
/-- the next item: none where it can not be told -/
def nxt (q : Src) (h : CH) : Option (Option (W × Src)) := match q with
  | .st [] => some none
  | .st (x :: r) => some (some (x, .st r))
  | .upto lo 0 => some none
  | .upto lo (n + 1) => some (some (.int lo, .upto (lo + 1) n))
  | .down hi 0 => some none
  | .down hi (n + 1) => some (some (.int hi, .down (hi - 1) n))
  | .lref r i => (match lstAt h r with
    | some xs => (match xs[i]? with
      | some x => some (some (x, .lref r (i + 1)))
      | none => some none)
    | none => none)
  | .enl r i => (match lstAt h r with
    | some xs => (match xs[i]? with
      | some x => some (some (.tup [.int i, x], .enl r (i + 1)))
      | none => some none)
    | none => none)
  | .z4 xs ys zs q i => (match lstAt h q with
    | some us => (match xs[i]?, ys[i]?, zs[i]?, us[i]? with
      | some x, some y, some z, some u => some (some (.tup [x, y, z, u], .z4 xs ys zs q (i + 1)))
      | _, _, _, _ => some none)
    | none => none)
  | .zll r q i => (match lstAt h r, lstAt h q with
    | some xs, some ys => (match xs[i]?, ys[i]? with
      | some x, some y => some (some (.tup [x, y], .zll r q (i + 1)))
      | _, _ => some none)
    | _, _ => none)
/-- names set -/
def bindP (h : CH) : CP → W → St → Option St
  | .nm i, w, s => if Nat.blt i s.length then some (s.set i (some w)) else none
  | .tp ps, w, s => (match items h w with
    | some xs => bindP h ps (.tup xs) s
    | none => none)
  | .nil, .tup [], s => some s
  | .cons p ps, .tup (x :: r), s => (match bindP h p x s with
    | some s' => bindP h ps (.tup r) s'
    | none => none)
  | _, _, _ => none
def wipeW (s : St) : List Nat → St
  | [] => s
  | v :: vs => (wipeW s vs).set v none
def fuel : Nat := 1000000

/-! ### expressions -/
def compL (fc fe : St → CH → R W) (p : CP) (s : St) : Nat → Src → CH → List W → R W
  | 0, _, _, _ => .bad
  | n + 1, q, h, acc => match nxt q h with
    | none => .bad
    | some none => .ok (.ref h.n) (h.new (.lst acc.reverse))
    | some (some (x, q')) => match bindP h p x s with
      | none => .bad
      | some s' => match fc s' h with
        | .ok b h1 => (match truth h1 b with
          | some true => (match fe s' h1 with
            | .ok y h2 => compL fc fe p s n q' h2 (y :: acc)
            | _ => .bad)
          | some false => compL fc fe p s n q' h1 acc
          | none => .bad)
        | _ => .bad
/-- two clauses: the second's turns, then the first's -/
def fuel2 : Nat := 1000
def compI (fc fe : St → CH → R W) (p : CP) (s : St) : Nat → Src → CH → List W → R (List W)
  | 0, _, _, _ => .bad
  | n + 1, q, h, acc => match nxt q h with
    | none => .bad
    | some none => .ok acc h
    | some (some (x, q')) => match bindP h p x s with
      | none => .bad
      | some s' => match fc s' h with
        | .ok b h1 => (match truth h1 b with
          | some true => (match fe s' h1 with
            | .ok y h2 => compI fc fe p s n q' h2 (y :: acc)
            | _ => .bad)
          | some false => compI fc fe p s n q' h1 acc
          | none => .bad)
        | _ => .bad
def compO (fc fa : St → CH → R W) (k1 : IK) (vs1 : List Nat) (fc1 fe : St → CH → R W) (p1 p : CP) (s : St) : Nat → Src → CH → List W → R W
  | 0, _, _, _ => .bad
  | n + 1, q, h, acc => match nxt q h with
    | none => .bad
    | some none => .ok (.ref h.n) (h.new (.lst acc.reverse))
    | some (some (x, q')) => match bindP h p x s with
      | none => .bad
      | some s' => match fc s' h with
        | .ok b h1 => (match truth h1 b with
          | some true => (match fa s' h1 with
            | .ok (.tup l) h2 => (match src0 k1 l h2 with
              | some q1 => (match compI fc1 fe p1 (wipeW s' vs1) fuel2 q1 h2 acc with
                | .ok acc' h3 => compO fc fa k1 vs1 fc1 fe p1 p s n q' h3 acc'
                | _ => .bad)
              | none => .bad)
            | _ => .bad)
          | some false => compO fc fa k1 vs1 fc1 fe p1 p s n q' h1 acc
          | none => .bad)
        | _ => .bad
/-- the dict locked while its keys are walked: its keys, the heap -/
def lockW (h : CH) (w : W) : Option (Nat × List W × CO × CO) := match w with
  | .ref r => (match h.get r with
    | some (.dT kvs) => some (r, kvs.map (fun kv => .tup (kv.1.map kW)), .dT kvs, .lT kvs)
    | some (.dK kvs) => some (r, kvs.map (fun kv => kW kv.1), .dK kvs, .lK kvs)
    | _ => none)
  | _ => none
/-- the items by these numbers -/
def permW (ws : List W) (pm : List Nat) : Option (List W) := match ws.length == pm.length with
  | true => mapO (fun i => ws[i]?) pm
  | false => none
def revW (x : W) (h : CH) : R W := match x with
  | .scr xs => .ok (.ref h.n) (h.new (.lst xs.reverse))
  | .ref r => (match lstAt h r with
    | some xs => .ok (.ref h.n) (h.new (.lst xs.reverse))
    | none => .bad)
  | _ => .bad
def ev (run : Nat → List W → CH → R W) : CE → St → CH → R W
  | .nil, _, h => .ok (.tup []) h
  | .cons a b, s, h => (ev run a s h).bind fun w h1 => (ev run b s h1).bind fun ws h2 => match ws with
    | .tup l => .ok (.tup (w :: l)) h2
    | _ => .bad
  | .var i, s, h => (match s[i]? with
    | some (some w) => .ok w h
    | _ => .bad)
  | .lit w, _, h => .ok w h
  | .gint _ i, _, h => .ok (.int i) h
  | .gty n, _, h => .ok (.ty n) h
  | .nopart, _, h => .ok .non h
  | .bin op a b, s, h => (ev run a s h).bind fun x h1 => (ev run b s h1).bind fun y h2 => binW op x y h2
  | .neg a, s, h => (ev run a s h).bind fun x h1 => match x with
    | .int i => .ok (.int (-i)) h1
    | _ => .bad
  | .not a, s, h => (ev run a s h).bind fun x h1 => match truth h1 x with
    | some k => .ok (.bl (!k)) h1
    | none => .bad
  | .and a b, s, h => (ev run a s h).bind fun x h1 => match truth h1 x with
    | some true => ev run b s h1
    | some false => .ok x h1
    | none => .bad
  | .or a b, s, h => (ev run a s h).bind fun x h1 => match truth h1 x with
    | some false => ev run b s h1
    | some true => .ok x h1
    | none => .bad
  | .cmp op a b, s, h => (ev run a s h).bind fun x h1 => (ev run b s h1).bind fun y h2 => cmpW op x y h2
  | .cmp2 op op' a b c, s, h => (ev run a s h).bind fun x h1 => (ev run b s h1).bind fun y h2 => (cmpW op x y h2).bind fun k h3 => match k with
    | .bl true => (ev run c s h3).bind fun z h4 => cmpW op' y z h4
    | .bl false => .ok (.bl false) h3
    | _ => .bad
  | .ite c a b, s, h => (ev run c s h).bind fun k h1 => match truth h1 k with
    | some true => ev run a s h1
    | some false => ev run b s h1
    | none => .bad
  | .tup es, s, h => (ev run es s h).bind fun ws h1 => match ws with
    | .tup l => if short l then .ok (.tup l) h1 else .bad
    | _ => .bad
  | .lst es, s, h => (ev run es s h).bind fun ws h1 => match ws with
    | .tup l => if short l then .ok (.ref h1.n) (h1.new (.lst l)) else .bad
    | _ => .bad
  | .call f es, s, h => (ev run es s h).bind fun ws h1 => match ws with
    | .tup l => run f l h1
    | _ => .bad
  | .gfn x, _, h => .ok (.fn x) h
  | .callv fns g es, s, h => (ev run g s h).bind fun x h1 => match x with
    | .fn n => (match fns.lookup n with
      | some f => (ev run es s h1).bind fun ws h2 => match ws with
        | .tup l => run f l h2
        | _ => .bad
      | none => .bad)
    | _ => .bad
  | .callk f pm es, s, h => (ev run es s h).bind fun ws h1 => match ws with
    | .tup l => (match permW l pm with
      | some us => run f us h1
      | none => .bad)
    | _ => .bad
  | .rev e, s, h => (ev run e s h).bind fun x h1 => revW x h1
  | .bi b es, s, h => (ev run es s h).bind fun ws h1 => match ws with
    | .tup l => biW b l h1
    | _ => .bad
  | .lenset e, s, h => (ev run e s h).bind fun x h1 => lensetW x h1
  | .meth m o es, s, h => (ev run o s h).bind fun x h1 => match meRcv h1 m x with
    | true => (ev run es s h1).bind fun ws h2 => match ws with
      | .tup l => methW m x l h2
      | _ => .bad
    | false => .bad
  | .ix a b, s, h => (ev run a s h).bind fun x h1 => (ev run b s h1).bind fun y h2 => ixW x y h2
  | .slc a lo hi, s, h => (ev run a s h).bind fun x h1 => (ev run lo s h1).bind fun y h2 => match partW y with
    | some _ => (ev run hi s h2).bind fun z h3 => match partW z with
      | some _ => slcW x y z h3
      | none => .bad
    | none => .bad
  | .comp own k args p c elt, s, h => (ev run args s h).bind fun ws h1 => match ws with
    | .tup l => (match src0 k l h1 with
      | some q => compL (ev run c) (ev run elt) p (wipeW s (own.map (·.2))) fuel q h1 []
      | none => .bad)
    | _ => .bad
  | .comp2 own vs1 k args p c k1 args1 p1 c1 elt, s, h => (ev run args s h).bind fun ws h1 => match ws with
    | .tup l => (match src0 k l h1 with
      | some q => compO (ev run c) (ev run args1) k1 vs1 (ev run c1) (ev run elt) p1 p (wipeW s (own.map (·.2))) fuel2 q h1 []
      | none => .bad)
    | _ => .bad
  | .compK own i p c elt, s, h => (match s[i]? with
    | some (some w) => (match lockW h w with
      | some (r, ks, u, l) => (match compL (ev run c) (ev run elt) p (wipeW s (own.map (·.2))) fuel (.st ks) (h.set r l) [] with
        | .ok w h1 => .ok w (h1.set r u)
        | _ => .bad)
      | none => .bad)
    | _ => .bad)
  | .dnew t, _, h => .ok (.ref h.n) (h.new (match t with
    | true => .dT []
    | false => .dK []))
  | .disp es, s, h => (ev run es s h).bind fun ws h1 => match ws with
    | .tup l => dispW l h1
    | _ => .bad

/-! ### statements -/
def forL (fb : St → CH → RS) (p : CP) : Nat → Src → St → CH → RS
  | 0, _, _, _ => .bad
  | n + 1, q, s, h => match nxt q h with
    | none => .bad
    | some none => .nx s h
    | some (some (x, q')) => match bindP h p x s with
      | none => .bad
      | some s' => match fb s' h with
        | .nx s2 h2 => forL fb p n q' s2 h2
        | .ct s2 h2 => forL fb p n q' s2 h2
        | .bk s2 h2 => .nx s2 h2
        | .rt w h2 => .rt w h2
        | .exc c ws h2 => .exc c ws h2
        | .bad => .bad
def whL (fc : St → CH → R W) (fb : St → CH → RS) : Nat → St → CH → RS
  | 0, _, _ => .bad
  | n + 1, s, h => match fc s h with
    | .ok k h1 => (match truth h1 k with
      | some true => (match fb s h1 with
        | .nx s2 h2 => whL fc fb n s2 h2
        | .ct s2 h2 => whL fc fb n s2 h2
        | .bk s2 h2 => .nx s2 h2
        | .rt w h2 => .rt w h2
        | .exc c ws h2 => .exc c ws h2
        | .bad => .bad)
      | some false => .nx s h1
      | none => .bad)
    | .exc c ws h1 => .exc c ws h1
    | .bad => .bad
def R.st {α : Type} (r : R α) (k : α → CH → RS) : RS := R.rec (motive := fun _ => RS) (fun a h => k a h) (fun c ws h => .exc c ws h) .bad r
def setAll (s : St) : List Nat → List W → Option St
  | [], [] => some s
  | i :: is, w :: ws => if Nat.blt i s.length then setAll (s.set i (some w)) is ws else none
  | _, _ => none
/-- o[i] = v -/
def putAt (o i v : W) (h : CH) : Option CH := match o with
  | .ref r => (match h.get r with
    | some (.lst xs) => (match i with
      | .int k => (match L2.ixN xs.length k with
        | some j => some (h.set r (.lst (xs.set j v)))
        | none => none)
      | _ => none)
    | _ => dput h r i v)
  | _ => none
/-- what an exception may keep -/
def tinyW : W → Bool
  | .int i => decide (-18446744073709551616 < i) && decide (i < 18446744073709551616)
  | _ => false
/-- what a clause tells -/
def hiW (ws : List W) : HI → Option W
  | .lit w => some w
  | .fld _ => (match ws with
    | [w] => some w
    | _ => none)
  | .isx _ k => some (.bl k)
def hvW (lst : Bool) (us : List W) (h : CH) : Option (W × CH) := match lst with
  | true => if short us then some (W.ref h.n, h.new (.lst us)) else none
  | false => (match us with
    | [u] => some (u, h)
    | _ => none)
def okNm : Option Nat → St → Bool
  | none, _ => true
  | some j, s => Nat.blt j s.length
def hdW (hs : List HD) (c : Nat) (ws : List W) (s : St) (h : CH) : RS := match hs with
  | [] => .exc c ws h
  | d :: r => (match d.c == c with
    | true => (match (if ws.length == d.n && okNm d.nm s then mapO (hiW ws) d.its else none) with
      | some us => (match hvW d.lst us h with
        | some (w, h1) => (match d.to with
          | none => .rt w h1
          | some i => if Nat.blt i s.length then (match d.nm with
            | none => .nx (s.set i (some w)) h1
            | some j => if i == j then .bad else .nx ((s.set i (some w)).set j none) h1) else .bad)
        | none => .bad)
      | none => .bad)
    | false => hdW r c ws s h)
/-- no slot is set ahead of a raise -/
def plainS : CS → Bool
  | .nil => true
  | .cons (.set _ _) .nil => true
  | .cons (.ret _) .nil => true
  | .cons (.expr _) .nil => true
  | .cons (.ifs _ (.cons (.ret _) .nil) .nil) (.cons (.ret _) .nil) => true
  | _ => false
def exs (run : Nat → List W → CH → R W) : CS → St → CH → RS
  | .nil, s, h => .nx s h
  | .cons a b, s, h => (match exs run a s h with
    | .nx s1 h1 => exs run b s1 h1
    | r => r)
  | .set i e, s, h => (ev run e s h).st fun w h1 => if Nat.blt i s.length then .nx (s.set i (some w)) h1 else .bad
  | .pat p e, s, h => (ev run e s h).st fun w h1 => match bindP h1 p w s with
    | some s1 => .nx s1 h1
    | none => .bad
  | .par is es, s, h => (ev run es s h).st fun ws h1 => match ws with
    | .tup l => (match setAll s is l with
      | some s1 => .nx s1 h1
      | none => .bad)
    | _ => .bad
  | .ixset o i e, s, h => (ev run e s h).st fun w h1 => (ev run o s h1).st fun x h2 => (ev run i s h2).st fun y h3 => match putAt x y w h3 with
    | some h4 => .nx s h4
    | none => .bad
  | .ix2 o1 i1 o2 i2 e, s, h => (ev run e s h).st fun w h1 => match items h1 w with
    | some [w1, w2] => (ev run o1 s h1).st fun x h2 => (ev run i1 s h2).st fun y h3 => match putAt x y w1 h3 with
      | some h4 => (ev run o2 s h4).st fun x2 h5 => (ev run i2 s h5).st fun y2 h6 => match putAt x2 y2 w2 h6 with
        | some h7 => .nx s h7
        | none => .bad
      | none => .bad
    | _ => .bad
  | .expr e, s, h => (ev run e s h).st fun _ h1 => .nx s h1
  | .ret e, s, h => (ev run e s h).st fun w h1 => .rt w h1
  | .retN, _, h => .rt .non h
  | .ifs c a b, s, h => (ev run c s h).st fun k h1 => match truth h1 k with
    | some true => exs run a s h1
    | some false => exs run b s h1
    | none => .bad
  | .loop k args p body, s, h => (ev run args s h).st fun ws h1 => match ws with
    | .tup l => (match src0 k l h1 with
      | some q => forL (exs run body) p fuel q s h1
      | none => .bad)
    | _ => .bad
  | .wh c body, s, h => whL (ev run c) (exs run body) fuel s h
  | .loopK i p body, s, h => (match s[i]? with
    | some (some w) => (match lockW h w with
      | some (r, ks, u, l) => (match forL (exs run body) p fuel (.st ks) s (h.set r l) with
        | .nx s1 h1 => .nx s1 (h1.set r u)
        | .rt w h1 => .rt w (h1.set r u)
        | _ => .bad)
      | none => .bad)
    | _ => .bad)
  | .trys b hs, s, h => (match plainS b with
    | true => (match exs run b s h with
      | .exc c ws h1 => hdW hs c ws s h1
      | r => r)
    | false => .bad)
  | .pass, s, h => .nx s h
  | .brk, s, h => .bk s h
  | .cont, s, h => .ct s h
  | .raise c es, s, h => (ev run es s h).st fun ws h1 => match ws with
    | .tup l => if l.all tinyW then .exc c l h1 else .bad
    | _ => .bad

/-! ### defs -/
structure FD where
  np : Nat
  ns : Nat
  body : CS
def body1 (ih : Nat → List W → CH → R W) (d : FD) (ws : List W) (h : CH) : R W :=
  if ws.length == d.np then (match exs ih d.body (ws.map some ++ List.replicate (d.ns - ws.length) none) h with
    | .nx _ h1 => .ok .non h1
    | .rt w h1 => .ok w h1
    | .exc c l h1 => .exc c l h1
    | _ => .bad) else .bad
def run (fs : List FD) : Nat → Nat → List W → CH → R W
  | 0, _, _, _ => .bad
  | k + 1, f, ws, h => match fs[f]? with
    | some d => body1 (run fs k) d ws h
    | none => .bad
end RF
end
end
section
set_option Elab.async false
set_option linter.all false
set_option maxRecDepth 100000
/-! FE: the same evaluator, each case a constant of its own: what the kernel walks fast. -/
noncomputable section
namespace RF
open PySem
abbrev Ru := Nat → List W → CH → R W
abbrev EvT := St → CH → R W
def aNil : EvT := fun _ h => .ok (.tup []) h
def aCons (ra rb : EvT) : EvT := fun s h => (ra s h).bind fun w h1 => (rb s h1).bind fun ws h2 => match ws with
  | .tup l => .ok (.tup (w :: l)) h2
  | _ => .bad
def aGfn (x : Str) : EvT := fun _ h => .ok (.fn x) h
def aCallv (run : Ru) (fns : List (Str × Nat)) (rg re : EvT) : EvT := fun s h => (rg s h).bind fun x h1 => match x with
  | .fn n => (match fns.lookup n with
    | some f => (re s h1).bind fun ws h2 => match ws with
      | .tup l => run f l h2
      | _ => .bad
    | none => .bad)
  | _ => .bad
def aCallk (run : Ru) (f : Nat) (pm : List Nat) (re : EvT) : EvT := fun s h => (re s h).bind fun ws h1 => match ws with
  | .tup l => (match permW l pm with
    | some us => run f us h1
    | none => .bad)
  | _ => .bad
def aRev (ra : EvT) : EvT := fun s h => (ra s h).bind fun x h1 => revW x h1
def aVar (i : Nat) : EvT := fun s h => match lk s i with
  | some (some w) => .ok w h
  | _ => .bad
def aLit (w : W) : EvT := fun _ h => .ok w h
def aGint (i : Int) : EvT := fun _ h => .ok (.int i) h
def aGty (n : String) : EvT := fun _ h => .ok (.ty n) h
def aNop : EvT := fun _ h => .ok .non h
def aBin (op : Operator) (ra rb : EvT) : EvT := fun s h => (ra s h).bind fun x h1 => (rb s h1).bind fun y h2 => binW op x y h2
def aNeg (ra : EvT) : EvT := fun s h => (ra s h).bind fun x h1 => match x with
  | .int i => .ok (.int (-i)) h1
  | _ => .bad
def aNot (ra : EvT) : EvT := fun s h => (ra s h).bind fun x h1 => match truth h1 x with
  | some k => .ok (.bl (!k)) h1
  | none => .bad
def aAnd (ra rb : EvT) : EvT := fun s h => (ra s h).bind fun x h1 => match truth h1 x with
  | some true => rb s h1
  | some false => .ok x h1
  | none => .bad
def aOr (ra rb : EvT) : EvT := fun s h => (ra s h).bind fun x h1 => match truth h1 x with
  | some false => rb s h1
  | some true => .ok x h1
  | none => .bad
def aCmp (op : CmpOp) (ra rb : EvT) : EvT := fun s h => (ra s h).bind fun x h1 => (rb s h1).bind fun y h2 => cmpW op x y h2
def aCmp2 (op op' : CmpOp) (ra rb rc : EvT) : EvT := fun s h => (ra s h).bind fun x h1 => (rb s h1).bind fun y h2 => (cmpW op x y h2).bind fun k h3 => match k with
  | .bl true => (rc s h3).bind fun z h4 => cmpW op' y z h4
  | .bl false => .ok (.bl false) h3
  | _ => .bad
def aIte (rc ra rb : EvT) : EvT := fun s h => (rc s h).bind fun k h1 => match truth h1 k with
  | some true => ra s h1
  | some false => rb s h1
  | none => .bad
def aTup (re : EvT) : EvT := fun s h => (re s h).bind fun ws h1 => match ws with
  | .tup l => if short l then .ok (.tup l) h1 else .bad
  | _ => .bad
def aLst (re : EvT) : EvT := fun s h => (re s h).bind fun ws h1 => match ws with
  | .tup l => if short l then .ok (.ref h1.n) (h1.new (.lst l)) else .bad
  | _ => .bad
def aCall (run : Ru) (f : Nat) (re : EvT) : EvT := fun s h => (re s h).bind fun ws h1 => match ws with
  | .tup l => run f l h1
  | _ => .bad
def aBi (b : BI) (re : EvT) : EvT := fun s h => (re s h).bind fun ws h1 => match ws with
  | .tup l => biW b l h1
  | _ => .bad
def aLenset (ra : EvT) : EvT := fun s h => (ra s h).bind fun x h1 => lensetW x h1
def aMeth (m : ME) (ro re : EvT) : EvT := fun s h => (ro s h).bind fun x h1 => match meRcv h1 m x with
  | true => (re s h1).bind fun ws h2 => match ws with
    | .tup l => methW m x l h2
    | _ => .bad
  | false => .bad
def aIx (ra rb : EvT) : EvT := fun s h => (ra s h).bind fun x h1 => (rb s h1).bind fun y h2 => ixW x y h2
def aSlc (ra rl rh : EvT) : EvT := fun s h => (ra s h).bind fun x h1 => (rl s h1).bind fun y h2 => match partW y with
  | some _ => (rh s h2).bind fun z h3 => match partW z with
    | some _ => slcW x y z h3
    | none => .bad
  | none => .bad
def aComp (own : List (Str × Nat)) (k : IK) (ra : EvT) (p : CP) (rc re : EvT) : EvT := fun s h => (ra s h).bind fun ws h1 => match ws with
  | .tup l => (match src0 k l h1 with
    | some q => compL rc re p (wipeW s (own.map (·.2))) fuel q h1 []
    | none => .bad)
  | _ => .bad
def aCompK (own : List (Str × Nat)) (i : Nat) (p : CP) (rc re : EvT) : EvT := fun s h => match lk s i with
  | some (some w) => (match lockW h w with
    | some (r, ks, u, l) => (match compL rc re p (wipeW s (own.map (·.2))) fuel (.st ks) (h.set r l) [] with
      | .ok w h1 => .ok w (h1.set r u)
      | _ => .bad)
    | none => .bad)
  | _ => .bad
def aComp2 (own : List (Str × Nat)) (vs1 : List Nat) (k : IK) (ra : EvT) (p : CP) (rc : EvT) (k1 : IK) (ra1 : EvT) (p1 : CP) (rc1 re : EvT) : EvT := fun s h => (ra s h).bind fun ws h1 => match ws with
  | .tup l => (match src0 k l h1 with
    | some q => compO rc ra1 k1 vs1 rc1 re p1 p (wipeW s (own.map (·.2))) fuel2 q h1 []
    | none => .bad)
  | _ => .bad
def aDnew (t : Bool) : EvT := fun _ h => .ok (.ref h.n) (h.new (match t with
  | true => .dT []
  | false => .dK []))
def aDisp (re : EvT) : EvT := fun s h => (re s h).bind fun ws h1 => match ws with
  | .tup l => dispW l h1
  | _ => .bad
noncomputable def evF (run : Ru) (e : CE) : EvT := CE.rec (motive := fun _ => EvT) aNil (fun _ _ ra rb => aCons ra rb) (fun x => aGfn x) (fun fns _ _ rg re => aCallv run fns rg re) (fun f pm _ re => aCallk run f pm re) (fun _ ra => aRev ra)
  (fun i => aVar i) (fun w => aLit w) (fun _ i => aGint i) (fun n => aGty n) (fun op _ _ ra rb => aBin op ra rb) (fun _ ra => aNeg ra) (fun _ ra => aNot ra) (fun _ _ ra rb => aAnd ra rb) (fun _ _ ra rb => aOr ra rb)
  (fun op _ _ ra rb => aCmp op ra rb) (fun op op' _ _ _ ra rb rc => aCmp2 op op' ra rb rc) (fun _ _ _ rc ra rb => aIte rc ra rb) (fun _ re => aTup re) (fun _ re => aLst re) (fun f _ re => aCall run f re) (fun b _ re => aBi b re) (fun _ ra => aLenset ra)
  (fun m _ _ ro re => aMeth m ro re) (fun _ _ ra rb => aIx ra rb) (fun _ _ _ ra rl rh => aSlc ra rl rh) aNop (fun own k _ p _ _ ra rc re => aComp own k ra p rc re) (fun own i p _ _ rc re => aCompK own i p rc re) (fun own vs1 k _ p _ k1 _ p1 _ _ ra rc ra1 rc1 re => aComp2 own vs1 k ra p rc k1 ra1 p1 rc1 re) (fun t => aDnew t) (fun _ re => aDisp re) e
theorem evF_eq (run : Ru) : ∀ e, evF run e = ev run e := by
  intro e
  induction e with
  | nil => rfl
  | cons a b ha hb => show aCons (evF run a) (evF run b) = _; rw [ha, hb]; rfl
  | gfn x => rfl
  | callv fns g es hg he => show aCallv run fns (evF run g) (evF run es) = _; rw [hg, he]; rfl
  | callk f pm es he => show aCallk run f pm (evF run es) = _; rw [he]; rfl
  | rev a ha => show aRev (evF run a) = _; rw [ha]; rfl
  | var i => show aVar i = _; funext s h; unfold aVar; rw [lk_eq]; rfl
  | lit w => rfl
  | gint x i => rfl
  | gty n => rfl
  | bin op a b ha hb => show aBin op (evF run a) (evF run b) = _; rw [ha, hb]; rfl
  | neg a ha => show aNeg (evF run a) = _; rw [ha]; rfl
  | not a ha => show aNot (evF run a) = _; rw [ha]; rfl
  | and a b ha hb => show aAnd (evF run a) (evF run b) = _; rw [ha, hb]; rfl
  | or a b ha hb => show aOr (evF run a) (evF run b) = _; rw [ha, hb]; rfl
  | cmp op a b ha hb => show aCmp op (evF run a) (evF run b) = _; rw [ha, hb]; rfl
  | cmp2 op op' a b c ha hb hc => show aCmp2 op op' (evF run a) (evF run b) (evF run c) = _; rw [ha, hb, hc]; rfl
  | ite c a b hc ha hb => show aIte (evF run c) (evF run a) (evF run b) = _; rw [ha, hb, hc]; rfl
  | tup es he => show aTup (evF run es) = _; rw [he]; rfl
  | lst es he => show aLst (evF run es) = _; rw [he]; rfl
  | call f es he => show aCall run f (evF run es) = _; rw [he]; rfl
  | bi b es he => show aBi b (evF run es) = _; rw [he]; rfl
  | lenset a ha => show aLenset (evF run a) = _; rw [ha]; rfl
  | meth m o es ho he => show aMeth m (evF run o) (evF run es) = _; rw [ho, he]; rfl
  | ix a b ha hb => show aIx (evF run a) (evF run b) = _; rw [ha, hb]; rfl
  | slc a lo hi ha hl hh => show aSlc (evF run a) (evF run lo) (evF run hi) = _; rw [ha, hl, hh]; rfl
  | nopart => rfl
  | comp own k args p c elt ha hc he => show aComp own k (evF run args) p (evF run c) (evF run elt) = _; rw [ha, hc, he]; rfl
  | compK own i p c elt hc he => show aCompK own i p (evF run c) (evF run elt) = _; rw [hc, he]; funext s h; unfold aCompK; rw [lk_eq]; rfl
  | comp2 own vs1 k args p c k1 args1 p1 c1 elt ha hc ha1 hc1 he => show aComp2 own vs1 k (evF run args) p (evF run c) k1 (evF run args1) p1 (evF run c1) (evF run elt) = _; rw [ha, hc, ha1, hc1, he]; rfl
  | dnew t => rfl
  | disp es he => show aDisp (evF run es) = _; rw [he]; rfl
abbrev ExT := St → CH → RS
def bNil : ExT := fun s h => .nx s h
def bCons (ra rb : ExT) : ExT := fun s h => match ra s h with
  | .nx s1 h1 => rb s1 h1
  | r => r
def bSet (i : Nat) (re : EvT) : ExT := fun s h => (re s h).st fun w h1 => if Nat.blt i s.length then .nx (s.set i (some w)) h1 else .bad
def bPat (p : CP) (re : EvT) : ExT := fun s h => (re s h).st fun w h1 => match bindP h1 p w s with
  | some s1 => .nx s1 h1
  | none => .bad
def bPar (is : List Nat) (re : EvT) : ExT := fun s h => (re s h).st fun ws h1 => match ws with
  | .tup l => (match setAll s is l with
    | some s1 => .nx s1 h1
    | none => .bad)
  | _ => .bad
def bIxset (ro ri re : EvT) : ExT := fun s h => (re s h).st fun w h1 => (ro s h1).st fun x h2 => (ri s h2).st fun y h3 => match putAt x y w h3 with
  | some h4 => .nx s h4
  | none => .bad
def bIx2 (ro1 ri1 ro2 ri2 re : EvT) : ExT := fun s h => (re s h).st fun w h1 => match items h1 w with
  | some [w1, w2] => (ro1 s h1).st fun x h2 => (ri1 s h2).st fun y h3 => match putAt x y w1 h3 with
    | some h4 => (ro2 s h4).st fun x2 h5 => (ri2 s h5).st fun y2 h6 => match putAt x2 y2 w2 h6 with
      | some h7 => .nx s h7
      | none => .bad
    | none => .bad
  | _ => .bad
def bExpr (re : EvT) : ExT := fun s h => (re s h).st fun _ h1 => .nx s h1
def bRet (re : EvT) : ExT := fun s h => (re s h).st fun w h1 => .rt w h1
def bRetN : ExT := fun _ h => .rt .non h
def bIfs (rc : EvT) (ra rb : ExT) : ExT := fun s h => (rc s h).st fun k h1 => match truth h1 k with
  | some true => ra s h1
  | some false => rb s h1
  | none => .bad
def bLoop (k : IK) (ra : EvT) (p : CP) (rb : ExT) : ExT := fun s h => (ra s h).st fun ws h1 => match ws with
  | .tup l => (match src0 k l h1 with
    | some q => forL rb p fuel q s h1
    | none => .bad)
  | _ => .bad
def bWh (rc : EvT) (rb : ExT) : ExT := fun s h => whL rc rb fuel s h
def bLoopK (i : Nat) (p : CP) (rb : ExT) : ExT := fun s h => match lk s i with
  | some (some w) => (match lockW h w with
    | some (r, ks, u, l) => (match forL rb p fuel (.st ks) s (h.set r l) with
      | .nx s1 h1 => .nx s1 (h1.set r u)
      | .rt w h1 => .rt w (h1.set r u)
      | _ => .bad)
    | none => .bad)
  | _ => .bad
def bTrys (b : CS) (hs : List HD) (rb : ExT) : ExT := fun s h => match plainS b with
  | true => (match rb s h with
    | .exc c ws h1 => hdW hs c ws s h1
    | r => r)
  | false => .bad
def bPass : ExT := fun s h => .nx s h
def bBrk : ExT := fun s h => .bk s h
def bCont : ExT := fun s h => .ct s h
def bRaise (c : Nat) (re : EvT) : ExT := fun s h => (re s h).st fun ws h1 => match ws with
  | .tup l => if l.all tinyW then .exc c l h1 else .bad
  | _ => .bad
noncomputable def exF (run : Ru) (b : CS) : ExT := CS.rec (motive := fun _ => ExT) bNil (fun _ _ ra rb => bCons ra rb) (fun i e => bSet i (evF run e)) (fun p e => bPat p (evF run e)) (fun is es => bPar is (evF run es)) (fun o i e => bIxset (evF run o) (evF run i) (evF run e))
  (fun o1 i1 o2 i2 e => bIx2 (evF run o1) (evF run i1) (evF run o2) (evF run i2) (evF run e)) (fun e => bExpr (evF run e)) (fun e => bRet (evF run e)) bRetN (fun c _ _ ra rb => bIfs (evF run c) ra rb) (fun k args p _ rb => bLoop k (evF run args) p rb) (fun c _ rb => bWh (evF run c) rb)
  bPass bBrk bCont (fun c es => bRaise c (evF run es)) (fun i p _ rb => bLoopK i p rb) (fun b hs rb => bTrys b hs rb) b
theorem exF_eq (run : Ru) : ∀ b, exF run b = exs run b := by
  intro b
  induction b with
  | nil => rfl
  | cons a b ha hb => show bCons (exF run a) (exF run b) = _; rw [ha, hb]; rfl
  | set i e => show bSet i (evF run e) = _; rw [evF_eq]; rfl
  | pat p e => show bPat p (evF run e) = _; rw [evF_eq]; rfl
  | par is es => show bPar is (evF run es) = _; rw [evF_eq]; rfl
  | ixset o i e => show bIxset (evF run o) (evF run i) (evF run e) = _; rw [evF_eq, evF_eq, evF_eq]; rfl
  | ix2 o1 i1 o2 i2 e => show bIx2 (evF run o1) (evF run i1) (evF run o2) (evF run i2) (evF run e) = _; rw [evF_eq, evF_eq, evF_eq, evF_eq, evF_eq]; rfl
  | expr e => show bExpr (evF run e) = _; rw [evF_eq]; rfl
  | ret e => show bRet (evF run e) = _; rw [evF_eq]; rfl
  | retN => rfl
  | ifs c a b ha hb => show bIfs (evF run c) (exF run a) (exF run b) = _; rw [evF_eq, ha, hb]; rfl
  | loop k args p body hb => show bLoop k (evF run args) p (exF run body) = _; rw [evF_eq, hb]; rfl
  | wh c body hb => show bWh (evF run c) (exF run body) = _; rw [evF_eq, hb]; rfl
  | pass => rfl
  | brk => rfl
  | cont => rfl
  | raise c es => show bRaise c (evF run es) = _; rw [evF_eq]; rfl
  | loopK i p body hb => show bLoopK i p (exF run body) = _; rw [hb]; funext s h; unfold bLoopK; rw [lk_eq]; rfl
  | trys b hs hb => show bTrys b hs (exF run b) = _; rw [hb]; rfl
noncomputable def bodyF (ih : Ru) (d : FD) (ws : List W) (h : CH) : R W :=
  if ws.length == d.np then (match exF ih d.body (ws.map some ++ List.replicate (d.ns - ws.length) none) h with
    | .nx _ h1 => .ok .non h1
    | .rt w h1 => .ok w h1
    | .exc c l h1 => .exc c l h1
    | _ => .bad) else .bad
def badRu : Ru := fun _ _ _ => .bad
noncomputable def stepF (fs : List FD) (ih : Ru) : Ru := fun f ws h => match lk fs f with
  | some d => bodyF ih d ws h
  | none => .bad
noncomputable def runF (fs : List FD) (k : Nat) : Ru := Nat.rec (motive := fun _ => Ru) badRu (fun _ ih => stepF fs ih) k
theorem runF_eq (fs : List FD) : ∀ k, runF fs k = run fs k
  | 0 => by funext f ws h; rfl
  | k + 1 => by
    show stepF fs (runF fs k) = _
    rw [runF_eq fs k]
    funext f ws h
    unfold stepF run
    rw [lk_eq]
    cases fs[f]? with
    | none => rfl
    | some d =>
      show bodyF (run fs k) d ws h = body1 (run fs k) d ws h
      unfold bodyF body1
      rw [exF_eq] <;> rfl
end RF
end
end
section
set_option Elab.async false
set_option linter.all false
set_option maxRecDepth 100000
/-! RF1: what the own values and objects stand for in the layer's abstract heap; what an operation keeps. -/
namespace RF
open PySem PySem.Spec PyProof.Rows L2
abbrev Fg := PySem.W.Frag
/-- a list that is an object of the module -/
def KLst (K : Fg) (a : Addr) (xs : List V) : Prop := ∃ (o : Obj) (its : Array Value) (n : Nat), K.lookup a = some o ∧ o.cls = .type "list" ∧ o.dict = none ∧ o.data = .seq its n ∧ its.size ≤ sizeLine ∧ Vals xs its.toList

mutual
inductive RW (K : Fg) (H : Hp) (L : List Addr) : W → V → Prop
  | non : RW K H L .non .non
  | bl (b : Bool) : RW K H L (.bl b) (.bl b)
  | int (i : Int) : RW K H L (.int i) (.int i)
  | str (x : Str) : RW K H L (.str x) (.str x)
  | ty (n : String) : RW K H L (.ty n) (.ty n)
  | fn (x : Str) : RW K H L (.fn x) (.ref (He.ga K x))
  | tup {xs : List W} {a : Addr} {vs : List V} (h : H a = some (.tup vs)) (r : RWs K H L xs vs) : RW K H L (.tup xs) (.ref a)
  | scr {xs : List W} {a : Addr} {vs : List V} (h : (∃ o, H a = some (.frz o (.lst vs))) ∨ KLst K a vs) (r : RWs K H L xs vs) : RW K H L (.scr xs) (.ref a)
  | ref {r : Nat} {a : Addr} (h : L[r]? = some a) : RW K H L (.ref r) (.ref a)
inductive RWs (K : Fg) (H : Hp) (L : List Addr) : List W → List V → Prop
  | nil : RWs K H L [] []
  | cons {x : W} {v : V} {xs : List W} {vs : List V} (h : RW K H L x v) (r : RWs K H L xs vs) : RWs K H L (x :: xs) (v :: vs)
end

structure Ext (H : Hp) (L : List Addr) (H' : Hp) (L' : List Addr) : Prop where
  le : ∀ (r : Nat) (a : Addr), L[r]? = some a → L'[r]? = some a
  new : ∀ a ∈ L', a ∈ L ∨ H a = none
  tup : ∀ a xs, H a = some (.tup xs) → H' a = some (.tup xs)
  frz : ∀ a o u, H a = some (.frz o u) → H' a = some (.frz o u)
  out : ∀ a o, a ∉ L → H a = some o → H' a = some o
theorem Ext.refl {H : Hp} {L : List Addr} : Ext H L H L := ⟨fun _ _ h => h, fun _ h => .inl h, fun _ _ h => h, fun _ _ _ h => h, fun _ _ _ h => h⟩
theorem Ext.trans {H H1 H2 : Hp} {L L1 L2 : List Addr} (a : Ext H L H1 L1) (b : Ext H1 L1 H2 L2) : Ext H L H2 L2 := by
  refine ⟨fun r x h => b.le r x (a.le r x h), fun x hx => ?_, fun x xs h => b.tup x xs (a.tup x xs h), fun x o u h => b.frz x o u (a.frz x o u h), fun x o hx h => ?_⟩
  · rcases b.new x hx with h | h
    · exact a.new x h
    · by_cases hL : x ∈ L
      · exact .inl hL
      · refine .inr ?_
        cases e : H x with
        | none => rfl
        | some o =>
          have := a.out x o hL e
          rw [h] at this
          cases this
  · refine b.out x o (fun hx1 => ?_) (a.out x o hx h)
    rcases a.new x hx1 with q | q
    · exact hx q
    · rw [h] at q; cases q
mutual
theorem RW.ext {K : Fg} {H H' : Hp} {L L' : List Addr} (e : Ext H L H' L') : ∀ {w : W} {v : V}, RW K H L w v → RW K H' L' w v
  | _, _, .non => .non
  | _, _, .bl b => .bl b
  | _, _, .int i => .int i
  | _, _, .str x => .str x
  | _, _, .ty n => .ty n
  | _, _, .fn x => .fn x
  | _, _, .tup h r => .tup (e.tup _ _ h) (RWs.ext e r)
  | _, _, .scr h r => .scr (h.imp (fun ⟨o, q⟩ => ⟨o, e.frz _ _ _ q⟩) id) (RWs.ext e r)
  | _, _, .ref h => .ref (e.le _ _ h)
theorem RWs.ext {K : Fg} {H H' : Hp} {L L' : List Addr} (e : Ext H L H' L') : ∀ {w : List W} {v : List V}, RWs K H L w v → RWs K H' L' w v
  | _, _, .nil => .nil
  | _, _, .cons h r => .cons (RW.ext e h) (RWs.ext e r)
end
section
variable {K : Fg} {H : Hp} {L : List Addr}
theorem RWs.length : ∀ {ws : List W} {vs : List V}, RWs K H L ws vs → vs.length = ws.length
  | _, _, .nil => rfl
  | _, _, .cons _ r => by simp [RWs.length r]
theorem RWs.get : ∀ {ws : List W} {vs : List V}, RWs K H L ws vs → ∀ {i : Nat} {w : W}, ws[i]? = some w → ∃ v, vs[i]? = some v ∧ RW K H L w v
  | _, _, .nil, i, w, h => by simp at h
  | _, _, .cons q r, 0, w, h => by simp at h; subst h; exact ⟨_, rfl, q⟩
  | _, _, .cons q r, i + 1, w, h => by
    obtain ⟨v, h1, h2⟩ := RWs.get r (i := i) (w := w) (by simpa using h)
    exact ⟨v, by simpa using h1, h2⟩
theorem RWs.append : ∀ {ws us : List W} {vs xs : List V}, RWs K H L ws vs → RWs K H L us xs → RWs K H L (ws ++ us) (vs ++ xs)
  | _, _, _, _, .nil, s => s
  | _, _, _, _, .cons q r, s => .cons q (RWs.append r s)
theorem RWs.set : ∀ {ws : List W} {vs : List V} (i : Nat) {w : W} {v : V}, RWs K H L ws vs → RW K H L w v → RWs K H L (ws.set i w) (vs.set i v)
  | _, _, _, _, _, .nil, _ => .nil
  | _, _, 0, _, _, .cons q r, s => .cons s r
  | _, _, i + 1, _, _, .cons q r, s => .cons q (RWs.set i r s)
theorem RWs.take : ∀ (n : Nat) {ws : List W} {vs : List V}, RWs K H L ws vs → RWs K H L (ws.take n) (vs.take n)
  | 0, _, _, _ => .nil
  | _ + 1, _, _, .nil => .nil
  | n + 1, _, _, .cons q r => .cons q (RWs.take n r)
theorem RWs.drop : ∀ (n : Nat) {ws : List W} {vs : List V}, RWs K H L ws vs → RWs K H L (ws.drop n) (vs.drop n)
  | 0, _, _, r => r
  | _ + 1, _, _, .nil => .nil
  | n + 1, _, _, .cons _ r => RWs.drop n r
theorem RWs.eraseIdx : ∀ (n : Nat) {ws : List W} {vs : List V}, RWs K H L ws vs → RWs K H L (ws.eraseIdx n) (vs.eraseIdx n)
  | _, _, _, .nil => .nil
  | 0, _, _, .cons _ r => r
  | n + 1, _, _, .cons q r => .cons q (RWs.eraseIdx n r)
theorem RWs.dropLast {ws : List W} {vs : List V} (r : RWs K H L ws vs) : RWs K H L ws.dropLast vs.dropLast := by
  rw [List.dropLast_eq_take, List.dropLast_eq_take, r.length]
  exact r.take _
theorem RWs.reverse : ∀ {ws : List W} {vs : List V}, RWs K H L ws vs → RWs K H L ws.reverse vs.reverse
  | _, _, .nil => .nil
  | _, _, .cons q r => by
    rw [List.reverse_cons, List.reverse_cons]
    exact RWs.append (RWs.reverse r) (.cons q .nil)
theorem RWs.flatten : ∀ {ws : List W} {vs : List V} (k : Nat), RWs K H L ws vs → RWs K H L (List.replicate k ws).flatten (List.replicate k vs).flatten
  | _, _, 0, _ => .nil
  | _, _, k + 1, r => by
    rw [List.replicate_succ, List.replicate_succ, List.flatten_cons, List.flatten_cons]
    exact RWs.append r (RWs.flatten k r)
/-- flat values are themselves -/
def fV : W → V
  | .non => .non
  | .bl b => .bl b
  | .int i => .int i
  | .str x => .str x
  | .ty n => .ty n
  | _ => .non
theorem RWs.map {α : Type} {f : α → W} {g : α → V} (hfg : ∀ a v, RW K H L (f a) v → v = g a) : ∀ {l : List α} {vs : List V}, RWs K H L (l.map f) vs → vs = l.map g
  | [], _, .nil => rfl
  | a :: l, _, .cons q r => by rw [List.map_cons, hfg a _ q, RWs.map hfg r]
theorem RW.int_inv {i : Int} {v : V} (r : RW K H L (.int i) v) : v = .int i := by cases r; rfl
theorem RW.bl_inv {i : Bool} {v : V} (r : RW K H L (.bl i) v) : v = .bl i := by cases r; rfl
theorem RW.str_inv {i : Str} {v : V} (r : RW K H L (.str i) v) : v = .str i := by cases r; rfl
theorem RW.non_inv {v : V} (r : RW K H L .non v) : v = .non := by cases r; rfl
theorem RW.ty_inv {n : String} {v : V} (r : RW K H L (.ty n) v) : v = .ty n := by cases r; rfl
theorem RW.fn_inv {x : Str} {v : V} (r : RW K H L (.fn x) v) : v = .ref (He.ga K x) := by cases r; rfl
theorem RW.ref_inv {n : Nat} {v : V} (r : RW K H L (.ref n) v) : ∃ a, v = .ref a ∧ L[n]? = some a := by cases r with | ref h => exact ⟨_, rfl, h⟩
theorem RW.scr_inv {xs : List W} {v : V} (r : RW K H L (.scr xs) v) : ∃ a vs, v = .ref a ∧ SqL K H a vs ∧ RWs K H L xs vs := by
  cases r with
  | scr h r =>
    refine ⟨_, _, rfl, ?_, r⟩
    rcases h with ⟨o, h⟩ | h
    · exact .inl (.inr ⟨o, h⟩)
    · exact .inr h
theorem RW.tup_inv {xs : List W} {v : V} (r : RW K H L (.tup xs) v) : ∃ a vs, v = .ref a ∧ H a = some (.tup vs) ∧ RWs K H L xs vs := by cases r with | tup h r => exact ⟨_, _, rfl, h, r⟩
end

/-! ### objects -/
/-- dicts: the same keys, related values -/
def RKv {κ : Type} (K : Fg) (H : Hp) (L : List Addr) (kvs : List (κ × W)) (us : List (κ × V)) : Prop := us.map (·.1) = kvs.map (·.1) ∧ RWs K H L (kvs.map (·.2)) (us.map (·.2))
def RO (K : Fg) (H : Hp) (L : List Addr) (a : Addr) : CO → Prop
  | .lst xs => ∃ vs, H a = some (.lst vs) ∧ RWs K H L xs vs
  | .dK kvs => ∃ us, H a = some (.dK us) ∧ RKv K H L kvs us
  | .dT kvs => ∃ us, H a = some (.dT us) ∧ RKv K H L kvs us
  | .lK kvs => ∃ us o, H a = some (.frz o (.dK us)) ∧ RKv K H L kvs us
  | .lT kvs => ∃ us o, H a = some (.frz o (.dT us)) ∧ RKv K H L kvs us
/-- may be written -/
def isW : CO → Bool
  | .lst _ => true
  | .dK _ => true
  | .dT _ => true
  | _ => false
structure Rep (K : Fg) (L : List Addr) (C : CH) (H : Hp) : Prop where
  len : L.length = C.n
  lenO : C.os.length = C.n
  inj : ∀ (r q : Nat) (a : Addr), L[r]? = some a → L[q]? = some a → r = q
  obj : ∀ (r : Nat) (a : Addr) (o : CO), L[r]? = some a → C.get r = some o → RO K H L a o

theorem CH.get_lt {C : CH} {r : Nat} {o : CO} (h : C.get r = some o) : r < C.n := by
  unfold CH.get at h
  cases e : Nat.blt r C.n with
  | true => exact Nat.le_of_ble_eq_true e
  | false =>
    rw [e] at h
    have h : (none : Option CO) = some o := h
    cases h
theorem CH.get_eq {C : CH} {r : Nat} (h : r < C.n) : C.get r = C.os[C.n - 1 - r]? := by
  unfold CH.get
  have e : Nat.blt r C.n = true := Nat.ble_eq_true_of_le h
  rw [e]
  exact lk_eq _ _
theorem Rep.addr {K : Fg} {L : List Addr} {C : CH} {H : Hp} (R : Rep K L C H) {r : Nat} {o : CO} (h : C.get r = some o) : ∃ a, L[r]? = some a ∧ RO K H L a o := by
  have hr : r < L.length := by rw [R.len]; exact CH.get_lt h
  exact ⟨L[r], List.getElem?_eq_getElem hr, R.obj r _ o (List.getElem?_eq_getElem hr) h⟩
theorem Rep.full {K : Fg} {L : List Addr} {C : CH} {H : Hp} (R : Rep K L C H) {r : Nat} {a : Addr} (hr : L[r]? = some a) : ∃ o, C.get r = some o := by
  have h1 : r < C.n := by
    rcases Nat.lt_or_ge r L.length with q | q
    · rw [R.len] at q; exact q
    · rw [List.getElem?_eq_none q] at hr; cases hr
  have h2 : C.n - 1 - r < C.os.length := by rw [R.lenO]; omega
  refine ⟨C.os[C.n - 1 - r], ?_⟩
  rw [CH.get_eq h1]
  exact List.getElem?_eq_getElem h2
theorem Rep.at {K : Fg} {L : List Addr} {C : CH} {H : Hp} (R : Rep K L C H) {r : Nat} {a : Addr} (hr : L[r]? = some a) {o : CO} (h : C.get r = some o) : RO K H L a o := R.obj r a o hr h

theorem get_new {C : CH} {o : CO} (hl : C.os.length = C.n) (r : Nat) : (C.new o).get r = if r = C.n then some o else C.get r := by
  by_cases h : r = C.n
  · subst h
    rw [if_pos rfl, CH.get_eq (show C.n < C.n + 1 from Nat.lt_succ_self _)]
    show (o :: C.os)[C.n + 1 - 1 - C.n]? = some o
    rw [Nat.add_sub_cancel, Nat.sub_self]
    rfl
  · rw [if_neg h]
    by_cases hr : r < C.n
    · rw [CH.get_eq hr, CH.get_eq (show r < C.n + 1 by omega)]
      show (o :: C.os)[C.n + 1 - 1 - r]? = C.os[C.n - 1 - r]?
      have e : C.n + 1 - 1 - r = (C.n - 1 - r) + 1 := by omega
      rw [e]
      rfl
    · have h1 : C.get r = none := by
        cases e : C.get r with
        | none => rfl
        | some u => exact absurd (CH.get_lt e) hr
      have h2 : (C.new o).get r = none := by
        cases e : (C.new o).get r with
        | none => rfl
        | some u =>
          have := CH.get_lt e
          have e2 : (C.new o).n = C.n + 1 := rfl
          omega
      rw [h1, h2]
theorem get_set {C : CH} {o : CO} {q : Nat} (hl : C.os.length = C.n) (hq : q < C.n) (r : Nat) : (C.set q o).get r = if r = q then some o else C.get r := by
  by_cases hr : r < C.n
  · rw [CH.get_eq (show r < (C.set q o).n from hr), CH.get_eq hr]
    show (C.os.set (C.n - 1 - q) o)[C.n - 1 - r]? = _
    by_cases h : r = q
    · subst h
      rw [if_pos rfl, List.getElem?_set_self (by omega)]
    · rw [if_neg h, List.getElem?_set_ne (by omega)]
  · have h1 : C.get r = none := by
      cases e : C.get r with
      | none => rfl
      | some u => exact absurd (CH.get_lt e) hr
    have h2 : (C.set q o).get r = none := by
      cases e : (C.set q o).get r with
      | none => rfl
      | some u =>
        have := CH.get_lt e
        exact absurd (show r < C.n from this) hr
    rw [h1, h2, if_neg (by omega)]

theorem RKv.ext {κ : Type} {K : Fg} {H H' : Hp} {L L' : List Addr} (e : Ext H L H' L') {kvs : List (κ × W)} {us : List (κ × V)} (r : RKv K H L kvs us) : RKv K H' L' kvs us := ⟨r.1, r.2.ext e⟩
/-- an object that stands as it stood -/
theorem RO.keep {K : Fg} {H H' : Hp} {L L' : List Addr} (e : Ext H L H' L') {a : Addr} {o : CO} (r : RO K H L a o) (h : ∀ u, H a = some u → H' a = some u) : RO K H' L' a o := by
  cases o with
  | lst xs => obtain ⟨vs, h1, h2⟩ := r; exact ⟨vs, h _ h1, h2.ext e⟩
  | dK kvs => obtain ⟨us, h1, h2⟩ := r; exact ⟨us, h _ h1, h2.ext e⟩
  | dT kvs => obtain ⟨us, h1, h2⟩ := r; exact ⟨us, h _ h1, h2.ext e⟩
  | lK kvs => obtain ⟨us, o, h1, h2⟩ := r; exact ⟨us, o, h _ h1, h2.ext e⟩
  | lT kvs => obtain ⟨us, o, h1, h2⟩ := r; exact ⟨us, o, h _ h1, h2.ext e⟩
theorem RO.there {K : Fg} {H : Hp} {L : List Addr} {a : Addr} {o : CO} (r : RO K H L a o) : ∃ u, H a = some u := by
  cases o with
  | lst xs => obtain ⟨vs, h1, _⟩ := r; exact ⟨_, h1⟩
  | dK kvs => obtain ⟨us, h1, _⟩ := r; exact ⟨_, h1⟩
  | dT kvs => obtain ⟨us, h1, _⟩ := r; exact ⟨_, h1⟩
  | lK kvs => obtain ⟨us, o, h1, _⟩ := r; exact ⟨_, h1⟩
  | lT kvs => obtain ⟨us, o, h1, _⟩ := r; exact ⟨_, h1⟩
section
variable {K : Fg} {L : List Addr} {C : CH} {H : Hp}
/-- something new that is no object of ours (a tuple) -/
theorem Ext.fresh {p : Addr} {o : HO} (hp : H p = none) : Ext H L (upd H p o) L :=
  ⟨fun _ _ h => h, fun _ h => .inl h, fun a xs h => by rw [upd_ne (ne_of_none h hp)]; exact h, fun a q u h => by rw [upd_ne (ne_of_none h hp)]; exact h, fun a q _ h => by rw [upd_ne (ne_of_none h hp)]; exact h⟩
theorem Rep.fresh (R : Rep K L C H) {p : Addr} {o : HO} (hp : H p = none) : Rep K L C (upd H p o) :=
  ⟨R.len, R.lenO, R.inj, fun r a u hr hu => (R.obj r a u hr hu).keep (Ext.fresh hp) fun z hz => by rw [upd_ne (ne_of_none hz hp)]; exact hz⟩
theorem Ext.push {p : Addr} {o : HO} (hp : H p = none) : Ext H L (upd H p o) (L ++ [p]) := by
  refine ⟨fun r a h => ?_, fun a ha => ?_, fun a xs h => by rw [upd_ne (ne_of_none h hp)]; exact h, fun a q u h => by rw [upd_ne (ne_of_none h hp)]; exact h, fun a q _ h => by rw [upd_ne (ne_of_none h hp)]; exact h⟩
  · have hr : r < L.length := by
      rcases Nat.lt_or_ge r L.length with q | q
      · exact q
      · rw [List.getElem?_eq_none q] at h; cases h
    rw [List.getElem?_append_left hr]
    exact h
  · rcases List.mem_append.mp ha with q | q
    · exact .inl q
    · rw [List.mem_singleton.mp q]; exact .inr hp
/-- a new object of ours -/
theorem Rep.push (R : Rep K L C H) {p : Addr} {o : HO} {u : CO} (hp : H p = none) (hu : RO K (upd H p o) (L ++ [p]) p u) : Rep K (L ++ [p]) (C.new u) (upd H p o) := by
  have lt_of : ∀ {r : Nat} {a : Addr}, (L ++ [p])[r]? = some a → r ≠ C.n → L[r]? = some a := fun {r a} h hr => by
    rcases Nat.lt_or_ge r L.length with q | q
    · rw [List.getElem?_append_left q] at h; exact h
    · rw [List.getElem?_append_right q] at h
      have h0 : 0 < r - L.length := by
        have := R.len
        omega
      rw [List.getElem?_eq_none (show [p].length ≤ r - L.length from h0)] at h
      cases h
  have at_n : ∀ {a : Addr}, (L ++ [p])[C.n]? = some a → a = p := fun {a} h => by
    rw [List.getElem?_append_right (by rw [R.len]; exact Nat.le_refl _), R.len, Nat.sub_self] at h
    exact (Option.some.inj h).symm
  refine ⟨by rw [List.length_append, R.len] <;> rfl, by show (u :: C.os).length = C.n + 1; rw [List.length_cons, R.lenO], ?_, ?_⟩
  · intro r q a hr hq
    have old : ∀ {r : Nat}, L[r]? = some p → False := fun {r} h => by
      obtain ⟨o, ho⟩ := R.full h
      obtain ⟨z, hz⟩ := (R.obj r p o h ho).there
      rw [hp] at hz; cases hz
    by_cases e1 : r = C.n
    · by_cases e2 : q = C.n
      · rw [e1, e2]
      · rw [e1] at hr
        have ea := at_n hr
        subst ea
        exact (old (lt_of hq e2)).elim
    · by_cases e2 : q = C.n
      · rw [e2] at hq
        have ea := at_n hq
        subst ea
        exact (old (lt_of hr e1)).elim
      · exact R.inj r q a (lt_of hr e1) (lt_of hq e2)
  · intro r a o1 hr h1
    rw [get_new R.lenO] at h1
    by_cases e1 : r = C.n
    · rw [if_pos e1] at h1
      cases h1
      rw [e1] at hr
      rw [at_n hr]
      exact hu
    · rw [if_neg e1] at h1
      exact (R.obj r a o1 (lt_of hr e1) h1).keep (Ext.push hp) fun z hz => by rw [upd_ne (ne_of_none hz hp)]; exact hz
theorem push_at (R : Rep K L C H) (p : Addr) : (L ++ [p])[C.n]? = some p := by
  rw [List.getElem?_append_right (by rw [R.len]; exact Nat.le_refl _), R.len, Nat.sub_self]
  rfl
theorem RO.w {a : Addr} {o : CO} (r : RO K H L a o) (m : isW o = true) : (∃ xs, H a = some (.lst xs)) ∨ (∃ xs, H a = some (.dK xs)) ∨ ∃ xs, H a = some (.dT xs) := by
  cases o with
  | lst xs => obtain ⟨vs, h1, _⟩ := r; exact .inl ⟨_, h1⟩
  | dK kvs => obtain ⟨us, h1, _⟩ := r; exact .inr (.inl ⟨_, h1⟩)
  | dT kvs => obtain ⟨us, h1, _⟩ := r; exact .inr (.inr ⟨_, h1⟩)
  | _ => cases m
theorem Ext.store (R : Rep K L C H) {r : Nat} {a : Addr} {o : CO} {u : HO} (hr : L[r]? = some a) (h : C.get r = some o) (m : isW o = true) : Ext H L (upd H a u) L := by
  have w := (R.obj r a o hr h).w m
  refine ⟨fun _ _ h => h, fun _ h => .inl h, fun b xs e => ?_, fun b q z e => ?_, fun b q hb e => ?_⟩
  · have : b ≠ a := fun z => by
      subst z
      rcases w with ⟨_, w⟩ | ⟨_, w⟩ | ⟨_, w⟩ <;> (rw [e] at w; cases w)
    rw [upd_ne this]; exact e
  · have : b ≠ a := fun z => by
      subst z
      rcases w with ⟨_, w⟩ | ⟨_, w⟩ | ⟨_, w⟩ <;> (rw [e] at w; cases w)
    rw [upd_ne this]; exact e
  · have : b ≠ a := fun z => hb (by rw [z]; exact List.mem_of_getElem? hr)
    rw [upd_ne this]; exact e
/-- an object of ours is written -/
theorem Rep.store (R : Rep K L C H) {r : Nat} {a : Addr} {o o' : CO} {u : HO} (hr : L[r]? = some a) (h : C.get r = some o) (m : isW o = true) (hu : RO K (upd H a u) L a o') : Rep K L (C.set r o') (upd H a u) := by
  have hq := CH.get_lt h
  refine ⟨R.len, by show (C.os.set _ _).length = C.n; rw [List.length_set, R.lenO], R.inj, ?_⟩
  intro x b o1 hx h1
  rw [get_set R.lenO hq] at h1
  by_cases e1 : x = r
  · rw [if_pos e1] at h1
    cases h1
    subst e1
    have : b = a := Option.some.inj (hx.symm.trans hr)
    rw [this]
    exact hu
  · rw [if_neg e1] at h1
    have e : b ≠ a := fun e => e1 (R.inj x r a (by rw [← e]; exact hx) hr)
    exact (R.obj x b o1 hx h1).keep (Ext.store R hr h m) fun z hz => by rw [upd_ne e]; exact hz
end

/-! ### slots -/
structure RSt (K : Fg) (H : Hp) (L : List Addr) (s : St) (σ : L2.St) : Prop where
  len : σ.length = s.length
  at_ : ∀ (i : Nat) (w : W), s[i]? = some (some w) → ∃ v, σ[i]? = some (some v) ∧ RW K H L w v
theorem RSt.ext {K : Fg} {H H' : Hp} {L L' : List Addr} {s : St} {σ : L2.St} (e : Ext H L H' L') (r : RSt K H L s σ) : RSt K H' L' s σ :=
  ⟨r.len, fun i w h => let ⟨v, h1, h2⟩ := r.at_ i w h; ⟨v, h1, h2.ext e⟩⟩
theorem RSt.set {K : Fg} {H : Hp} {L : List Addr} {s : St} {σ : L2.St} (r : RSt K H L s σ) (i : Nat) {w : W} {v : V} (h : RW K H L w v) : RSt K H L (s.set i (some w)) (σ.set i (some v)) := by
  refine ⟨by rw [List.length_set, List.length_set, r.len], fun j u hj => ?_⟩
  by_cases e : i = j
  · subst e
    by_cases hi : i < s.length
    · rw [List.getElem?_set_self hi] at hj
      cases hj
      exact ⟨v, List.getElem?_set_self (by rw [r.len]; exact hi), h⟩
    · rw [List.getElem?_eq_none (by rw [List.length_set]; omega)] at hj
      cases hj
  · rw [List.getElem?_set_ne e] at hj
    rw [List.getElem?_set_ne e]
    exact r.at_ j u hj
theorem RSt.wipe {K : Fg} {H : Hp} {L : List Addr} {s : St} {σ : L2.St} (r : RSt K H L s σ) : ∀ vs : List Nat, RSt K H L (wipeW s vs) (L2.wipe σ vs)
  | [] => r
  | v :: vs => by
    have ih := RSt.wipe r vs
    refine ⟨by show ((L2.wipe σ vs).set v none).length = ((wipeW s vs).set v none).length; rw [List.length_set, List.length_set, ih.len], fun j u hj => ?_⟩
    have hj' : ((wipeW s vs).set v none)[j]? = some (some u) := hj
    show ∃ x, ((L2.wipe σ vs).set v none)[j]? = some (some x) ∧ _
    by_cases e : v = j
    · subst e
      by_cases hi : v < (wipeW s vs).length
      · rw [List.getElem?_set_self hi] at hj'
        cases hj'
      · rw [List.getElem?_eq_none (by rw [List.length_set]; omega)] at hj'
        cases hj'
    · rw [List.getElem?_set_ne e] at hj'
      rw [List.getElem?_set_ne e]
      exact ih.at_ j u hj'

/-! ### what an evaluation promises -/
abbrev EX := Nat → List V → Hp → Prop
abbrev EF : EX := fun _ _ _ => False
def Post (K : Fg) (H : Hp) (L : List Addr) (r : R W) (Q : VK) (E : EX) : Prop := match r with
  | .ok w C' => ∀ H' L' v, Ext H L H' L' → Rep K L' C' H' → RW K H' L' w v → Q v H'
  | .exc c ws C' => ∀ H' L' vs, Ext H L H' L' → Rep K L' C' H' → RWs K H' L' ws vs → E c vs H'
  | .bad => False
def tE (K : Fg) (E : L2.St → EX) (f : St → CH → R W) : TE := fun σ H Q => ∃ L C s, Rep K L C H ∧ RSt K H L s σ ∧ Post K H L (f s C) Q (E σ)
abbrev E0 : L2.St → EX := fun _ => EF
theorem Post.ext {K : Fg} {H H' : Hp} {L L' : List Addr} {r : R W} {Q : VK} {E : EX} (e : Ext H L H' L') (p : Post K H L r Q E) : Post K H' L' r Q E := by
  cases r with
  | ok w C' => exact fun H2 L2 v e2 => p H2 L2 v (e.trans e2)
  | exc c ws C' => exact fun H2 L2 v e2 => p H2 L2 v (e.trans e2)
  | bad => exact p
theorem Post.bind_ok {K : Fg} {H : Hp} {L : List Addr} {w : W} {C : CH} {Q : VK} {E : EX} {H' : Hp} {L' : List Addr} {v : V} (p : Post K H L (.ok w C) Q E) (e : Ext H L H' L') (R : Rep K L' C H') (r : RW K H' L' w v) : Q v H' := p H' L' v e R r
/-- first r, then k -/
theorem Post.bind {K : Fg} {H : Hp} {L : List Addr} {r : R W} {k : W → CH → R W} {Q : VK} {E : EX} (p : Post K H L (r.bind k) Q E) :
    Post K H L r (fun v H1 => ∃ w C1 L1, Ext H L H1 L1 ∧ Rep K L1 C1 H1 ∧ RW K H1 L1 w v ∧ Post K H1 L1 (k w C1) Q E) E := by
  cases r with
  | ok w C' => exact fun H1 L1 v e R q => ⟨w, C', L1, e, R, q, Post.ext e p⟩
  | exc c ws C' => exact p
  | bad => exact p
end RF
end
section
set_option Elab.async false
set_option linter.all false
set_option maxRecDepth 100000
set_option maxHeartbeats 2000000
/-! RF2: each operation of the evaluator, beside the layer's rule for it. -/
namespace RF
open PySem PySem.Spec PyProof.Rows L2
theorem toInt_some {x : W} {i : Int} (h : toInt x = some i) : x = .int i := by
  cases x <;> first | (cases h; rfl) | exact nomatch h
theorem toBl_some {x : W} {i : Bool} (h : toBl x = some i) : x = .bl i := by
  cases x <;> first | (cases h; rfl) | exact nomatch h
section
variable {K : Fg} {L : List Addr} {C : CH} {H : Hp} {Q : VK} {E : EX}
theorem short_le {α : Type} {xs : List α} (h : short xs = true) : xs.length < sizeLine := by
  have h1 : xs.length ≤ 1000000 := Nat.le_of_ble_eq_true h
  rw [sizeLine_eq]
  omega
theorem ints_of : ∀ {ws : List W} {ns : List Int} {vs : List V}, mapO toInt ws = some ns → RWs K H L ws vs → vs = ns.map V.int
  | [], ns, _, h, .nil => by cases h; rfl
  | x :: r, ns, _, h, .cons q t => by
    unfold mapO at h
    cases e : toInt x with
    | none => rw [e] at h; cases h
    | some y =>
      rw [e] at h
      cases e2 : mapO toInt r with
      | none => rw [e2] at h; cases h
      | some zs =>
        rw [e2] at h
        cases h
        have ex := toInt_some e
        subst ex
        rw [List.map_cons, q.int_inv, ints_of e2 t]
theorem bls_of : ∀ {ws : List W} {ns : List Bool} {vs : List V}, mapO toBl ws = some ns → RWs K H L ws vs → vs = ns.map V.bl
  | [], ns, _, h, .nil => by cases h; rfl
  | x :: r, ns, _, h, .cons q t => by
    unfold mapO at h
    cases e : toBl x with
    | none => rw [e] at h; cases h
    | some y =>
      rw [e] at h
      cases e2 : mapO toBl r with
      | none => rw [e2] at h; cases h
      | some zs =>
        rw [e2] at h
        cases h
        have ex := toBl_some e
        subst ex
        rw [List.map_cons, q.bl_inv, bls_of e2 t]
theorem kV_of {x : W} {k : Key} {v : V} (h : toKey x = some k) (r : RW K H L x v) : v = kV k := by
  cases x with
  | int i => cases h; exact r.int_inv
  | str i => cases h; exact r.str_inv
  | _ => cases h
theorem kVs_of : ∀ {ws : List W} {ns : List Key} {vs : List V}, mapO toKey ws = some ns → RWs K H L ws vs → vs = ns.map kV
  | [], ns, _, h, .nil => by cases h; rfl
  | x :: r, ns, _, h, .cons q t => by
    unfold mapO at h
    cases e : toKey x with
    | none => rw [e] at h; cases h
    | some y =>
      rw [e] at h
      cases e2 : mapO toKey r with
      | none => rw [e2] at h; cases h
      | some zs =>
        rw [e2] at h
        cases h
        rw [List.map_cons, kV_of e q, kVs_of e2 t]
/-- the items of a list or tuple -/
theorem seq_of {x : W} {xs : List W} {v : V} (R : Rep K L C H) (h : items C x = some xs) (r : RW K H L x v) : ∃ a vs, v = .ref a ∧ (SqL K H a vs ∨ SqT K H a vs) ∧ RWs K H L xs vs := by
  cases x with
  | tup ys =>
    cases h
    obtain ⟨a, vs, e, h1, h2⟩ := r.tup_inv
    exact ⟨a, vs, e, .inr (SqT.of h1), h2⟩
  | ref n =>
    obtain ⟨a, e, ha⟩ := r.ref_inv
    cases g : C.get n with
    | none => simp only [items, g] at h; cases h
    | some o =>
      cases o with
      | lst ys =>
        simp only [items, g] at h
        cases h
        obtain ⟨vs, h1, h2⟩ := R.at ha g
        exact ⟨a, vs, e, .inl (SqL.of h1), h2⟩
      | _ => simp only [items, g] at h; cases h
  | scr ys =>
    cases h
    obtain ⟨a, vs, e, h1, h2⟩ := r.scr_inv
    exact ⟨a, vs, e, .inl h1, h2⟩
  | _ => cases h
/-- the items of a list -/
theorem lst_of {n : Nat} {xs : List W} {v : V} (R : Rep K L C H) (h : lstAt C n = some xs) (r : RW K H L (.ref n) v) : ∃ a vs, v = .ref a ∧ L[n]? = some a ∧ SqL K H a vs ∧ RWs K H L xs vs := by
  obtain ⟨a, e, ha⟩ := r.ref_inv
  cases g : C.get n with
  | none => simp only [lstAt, g] at h; cases h
  | some o =>
    cases o with
    | lst ys =>
      simp only [lstAt, g] at h
      cases h
      obtain ⟨vs, h1, h2⟩ := R.at ha g
      exact ⟨a, vs, e, ha, SqL.of h1, h2⟩
    | _ => simp only [lstAt, g] at h; cases h

/-! ### new objects -/
theorem Post.same {w : W} {v : V} (p : Post K H L (.ok w C) Q E) (R : Rep K L C H) (r : RW K H L w v) : Q v H := p H L v Ext.refl R r
theorem Post.newTup {xs : List W} {vs : List V} (p : Post K H L (.ok (.tup xs) C) Q E) (R : Rep K L C H) (r : RWs K H L xs vs) {q : Addr} (hq : H q = none) : Q (.ref q) (upd H q (.tup vs)) :=
  p _ L _ (Ext.fresh hq) (R.fresh hq) (.tup upd_same (r.ext (Ext.fresh hq)))
theorem Post.newLst {xs : List W} {vs : List V} (p : Post K H L (.ok (.ref C.n) (C.new (.lst xs))) Q E) (R : Rep K L C H) (r : RWs K H L xs vs) {q : Addr} (hq : H q = none) : Q (.ref q) (upd H q (.lst vs)) :=
  p _ _ _ (Ext.push hq) (R.push hq ⟨vs, upd_same, r.ext (Ext.push hq)⟩) (.ref (push_at R q))
theorem Post.setLst {w : W} {v : V} {n : Nat} {a : Addr} {xs ys : List W} {us : List V} (p : Post K H L (.ok w (C.set n (.lst ys))) Q E) (R : Rep K L C H) (ha : L[n]? = some a) (g : C.get n = some (.lst xs)) (r : RWs K H L ys us) (rw' : RW K H L w v) :
    Q v (upd H a (.lst us)) :=
  p _ _ _ (Ext.store R ha g rfl) (R.store ha g rfl ⟨us, upd_same, r.ext (Ext.store R ha g rfl)⟩) (rw'.ext (Ext.store R ha g rfl))

/-! ### + - * // % ** -/
def r0 : R2 := fun _ _ _ _ => False
def rB (K : Fg) : Operator → R2
  | .Add => fun x y H Q => (rI0 (fun i j => .int (i + j))) x y H Q ∨ rCatA K x y H Q ∨ rCat x y H Q
  | .Sub => rI0 (fun i j => .int (i - j))
  | .Mult => fun x y H Q => (rI CMul (fun i j => .int (i * j))) x y H Q ∨ rRep x y H Q ∨ rRepT K x y H Q
  | .FloorDiv => rI CDiv (fun i j => .int (i / j))
  | .Mod => rI (fun _ j => 0 < j) (fun i j => .int (i % j))
  | .Pow => rI CPow (fun i j => .int (i ^ j.toNat))
  | _ => r0
theorem op0 {X : Cx} {f : Value → Value → Sem Value} : OpR X f r0 := fun _ _ _ _ _ _ _ _ _ _ _ _ h => h.elim
theorem opB {X : Cx} (op : Operator) : OpR X (binaryOp op) (rB X.K op) := by
  cases op <;> first
    | exact op_add.or (op_catA.or op_cat)
    | exact op_sub
    | exact op_mul.or (op_rep.or op_repT)
    | exact op_fdiv
    | exact op_mod
    | exact op_pow
    | exact op0
theorem bang {b : Bool} {α : Type} {x y : α} (h : (if b = true then x else y) = x ∨ b = false) : True := trivial
theorem post_if {b : Bool} {r : R W} (p : Post K H L (if b = true then r else .bad) Q E) : b = true ∧ Post K H L r Q E := by
  cases b with
  | true => exact ⟨rfl, p⟩
  | false => exact p.elim
theorem binW_ok {op : Operator} {x y : W} {v u : V} (R : Rep K L C H) (rx : RW K H L x v) (ry : RW K H L y u) (p : Post K H L (binW op x y C) Q E) : rB K op v u H Q := by
  unfold binW at p
  split at p
  · rw [rx.int_inv, ry.int_inv]
    exact .inl ⟨_, _, rfl, rfl, p.same R (.int _)⟩
  · rw [rx.int_inv, ry.int_inv]
    exact ⟨_, _, rfl, rfl, p.same R (.int _)⟩
  · obtain ⟨c, p⟩ := post_if p
    rw [rx.int_inv, ry.int_inv]
    refine .inl ⟨_, _, rfl, rfl, ?_, p.same R (.int _)⟩
    have e : (2 : Int) ^ 64 = big := by decide
    unfold CMul
    rw [e]
    rcases Bool.or_eq_true_iff.mp c with c | c
    · exact .inl ⟨of_decide_eq_true (Bool.and_eq_true_iff.mp c).1, of_decide_eq_true (Bool.and_eq_true_iff.mp c).2⟩
    · exact .inr ⟨of_decide_eq_true (Bool.and_eq_true_iff.mp c).1, of_decide_eq_true (Bool.and_eq_true_iff.mp c).2⟩
  · obtain ⟨c, p⟩ := post_if p
    rw [rx.int_inv, ry.int_inv]
    simp only [Bool.and_eq_true, decide_eq_true_eq] at c
    exact ⟨_, _, rfl, rfl, c, p.same R (.int _)⟩
  · obtain ⟨c, p⟩ := post_if p
    rw [rx.int_inv, ry.int_inv]
    exact ⟨_, _, rfl, rfl, of_decide_eq_true c, p.same R (.int _)⟩
  · obtain ⟨c, p⟩ := post_if p
    rw [rx.int_inv, ry.int_inv]
    obtain ⟨c, c4⟩ := Bool.and_eq_true_iff.mp c
    obtain ⟨c, c3⟩ := Bool.and_eq_true_iff.mp c
    obtain ⟨c1, c2⟩ := Bool.and_eq_true_iff.mp c
    have d1 := of_decide_eq_true c1
    have d2 := of_decide_eq_true c2
    have d3 : -(18446744073709551616 : Int) < _ := of_decide_eq_true c3
    have d4 : _ < (18446744073709551616 : Int) := of_decide_eq_true c4
    refine ⟨_, _, rfl, rfl, ⟨d1, by omega, ?_⟩, p.same R (.int _)⟩
    have e : (2 : Nat) ^ 64 = 18446744073709551616 := by decide
    rw [e]
    omega
  · rename_i xs ys
    obtain ⟨c, p⟩ := post_if p
    obtain ⟨a, vs, e1, h1, s1⟩ := rx.tup_inv
    obtain ⟨b, us, e2, h2, s2⟩ := ry.tup_inv
    have hz := short_le c
    rw [List.length_append] at hz
    refine .inr (.inl ⟨a, b, vs, us, e1, e2, SqT.of h1, SqT.of h2, ?_, ?_, ?_, ?_⟩)
    · rw [s1.length, s2.length]; omega
    · rintro rfl
      cases s1
      exact p.same R (.tup h2 s2)
    · rintro _ rfl
      cases s2
      rw [List.append_nil] at p
      exact p.same R (.tup h1 s1)
    · exact fun _ _ q hq => p.newTup R (s1.append s2) hq
  · rename_i xs k
    obtain ⟨c, p⟩ := post_if p
    simp only [Bool.and_eq_true, Bool.not_eq_true', decide_eq_true_eq] at c
    obtain ⟨c1, c2, c3, c4⟩ := c
    obtain ⟨a, vs, e1, h1, s1⟩ := rx.tup_inv
    refine .inr (.inr ⟨a, k, vs, e1, ry.int_inv, SqT.of h1, ?_, c2, c3, ?_, fun q hq => p.newTup R (s1.flatten _) hq⟩)
    · rintro rfl
      cases s1
      cases c1
    · rw [s1.length]; exact Nat.le_of_ble_eq_true c4
  · rename_i n m
    obtain ⟨a, e1, h1⟩ := rx.ref_inv
    obtain ⟨b, e2, h2⟩ := ry.ref_inv
    split at p
    · rename_i xs ys g1 g2
      obtain ⟨c, p⟩ := post_if p
      have hz := short_le c
      rw [List.length_append] at hz
      obtain ⟨vs, k1, s1⟩ := R.at h1 g1
      obtain ⟨us, k2, s2⟩ := R.at h2 g2
      refine .inr (.inr ⟨a, b, vs, us, e1, e2, k1, k2, ?_, fun q hq => p.newLst R (s1.append s2) hq⟩)
      rw [s1.length, s2.length]; omega
    · exact p.elim
  · rename_i n k
    obtain ⟨a, e1, h1⟩ := rx.ref_inv
    split at p
    · rename_i xs g1
      obtain ⟨c, p⟩ := post_if p
      simp only [Bool.and_eq_true, decide_eq_true_eq] at c
      obtain ⟨vs, k1, s1⟩ := R.at h1 g1
      have hz : xs.length * k.toNat ≤ 1000000 := Nat.le_of_ble_eq_true c.2
      refine .inr (.inl ⟨a, k, vs, e1, ry.int_inv, k1, by omega, by omega, ?_, fun q hq => p.newLst R (s1.flatten _) hq⟩)
      rw [s1.length, sizeLine_eq]; omega
    · exact p.elim
  · exact p.elim

/-! ### comparisons -/
mutual
theorem toD_ok (R : Rep K L C H) : ∀ (n : Nat) {x : W} {d : PyData} {v : V}, toD C n x = some d → RW K H L x v → Dp K H v d
  | 0, _, _, _, h, _ => by cases h
  | n + 1, .non, _, _, h, r => by cases h; rw [r.non_inv]; exact .non
  | n + 1, .bl b, _, _, h, r => by cases h; rw [r.bl_inv]; exact .bl b
  | n + 1, .int b, _, _, h, r => by cases h; rw [r.int_inv]; exact .int b
  | n + 1, .str b, _, _, h, r => by cases h; rw [r.str_inv]; exact .str b
  | n + 1, .ty b, _, _, h, r => by cases h
  | n + 1, .tup xs, d, v, h, r => by
    obtain ⟨a, vs, e, h1, s⟩ := r.tup_inv
    have h' : (match mapO (toD C n) xs with
      | some ds => some (PyData.tuple ds)
      | none => none) = some d := h
    cases g : mapO (toD C n) xs with
    | none => rw [g] at h'; cases h'
    | some ds =>
      rw [g] at h'
      cases h'
      rw [e]
      exact .tup (SqT.of h1) (toDs_ok R n g s)
  | n + 1, .scr xs, d, v, h, r => by
    obtain ⟨a, vs, e, h1, s⟩ := r.scr_inv
    have h' : (match mapO (toD C n) xs with
      | some ds => some (PyData.list ds)
      | none => none) = some d := h
    cases g : mapO (toD C n) xs with
    | none => rw [g] at h'; cases h'
    | some ds =>
      rw [g] at h'
      cases h'
      rw [e]
      exact .lst h1 (toDs_ok R n g s)
  | n + 1, .ref m, d, v, h, r => by
    cases g : C.get m with
    | none => simp only [toD, g] at h; cases h
    | some o =>
      cases o with
      | lst xs =>
        simp only [toD, g] at h
        obtain ⟨a, vs, e, ha, sq, s⟩ := lst_of R (show lstAt C m = some xs by simp only [lstAt, g]) r
        cases g2 : mapO (toD C n) xs with
        | none => rw [g2] at h; cases h
        | some ds =>
          rw [g2] at h
          cases h
          rw [e]
          exact .lst sq (toDs_ok R n g2 s)
      | _ => simp only [toD, g] at h; cases h
  termination_by n => (n, 0)
theorem toDs_ok (R : Rep K L C H) : ∀ (n : Nat) {xs : List W} {ds : List PyData} {vs : List V}, mapO (toD C n) xs = some ds → RWs K H L xs vs → DpAll K H vs ds
  | n, [], _, _, h, r => by cases h; cases r; exact .nil
  | n, x :: xs, ds, vs, h, r => by
    cases r with
    | cons q t =>
      unfold mapO at h
      cases g : toD C n x with
      | none => rw [g] at h; cases h
      | some d =>
        rw [g] at h
        cases g2 : mapO (toD C n) xs with
        | none => rw [g2] at h; cases h
        | some es =>
          rw [g2] at h
          cases h
          exact .cons (toD_ok R n g q) (toDs_ok R n g2 t)
  termination_by n xs => (n, xs.length + 1)
end
theorem eqW_ok {x y : W} {v u : V} {b : Bool} (R : Rep K L C H) (rx : RW K H L x v) (ry : RW K H L y u) (h : eqW C x y = some b) : ∃ d e, Dp K H v d ∧ Dp K H u e ∧ SeqAt.shaped d = true ∧ SeqAt.shaped e = true ∧ b = PyData.eqv d e := by
  unfold eqW at h
  split at h
  · rename_i d e g1 g2
    split at h
    · rename_i c
      rw [Bool.and_eq_true] at c
      cases h
      exact ⟨d, e, toD_ok R _ g1 rx, toD_ok R _ g2 ry, c.1, c.2, rfl⟩
    · cases h
  · cases h
def fW (w : W) : V := fV w
theorem flat_ok {x : W} {v : V} (h : flatW x = true) (r : RW K H L x v) : flatV v = true ∧ v = fV x := by
  cases x with
  | non => rw [r.non_inv]; exact ⟨rfl, rfl⟩
  | bl b => rw [r.bl_inv]; exact ⟨rfl, rfl⟩
  | int b => rw [r.int_inv]; exact ⟨rfl, rfl⟩
  | str b => rw [r.str_inv]; exact ⟨rfl, rfl⟩
  | _ => cases h
theorem eqF_ok {x y : W} (h1 : flatW x = true) (h2 : flatW y = true) : eqV (fV x) (fV y) = eqF x y := by
  cases x <;> cases y <;> first | rfl | exact absurd h1 Bool.false_ne_true | exact absurd h2 Bool.false_ne_true
theorem any_ok {x : W} {v : V} (hx : flatW x = true) (rx : RW K H L x v) : ∀ {xs : List W} {vs : List V}, xs.all flatW = true → RWs K H L xs vs → vs.all flatV = true ∧ inV v vs = xs.any (fun z => eqF z x)
  | [], _, _, .nil => ⟨rfl, rfl⟩
  | y :: ys, _, h, .cons q t => by
    rw [List.all_cons, Bool.and_eq_true] at h
    obtain ⟨i1, i2⟩ := any_ok hx rx h.2 t
    obtain ⟨f1, e1⟩ := flat_ok h.1 q
    obtain ⟨f2, e2⟩ := flat_ok hx rx
    refine ⟨by rw [List.all_cons, f1, i1]; rfl, ?_⟩
    show (_ || _) = _
    rw [List.any_cons, ← eqF_ok h.1 hx, ← e1, ← e2]
    exact congrArg (fun z => eqV _ _ || z) i2
def ROp (K : Fg) (H : Hp) (L : List Addr) : Option W → Option V → Prop
  | some w, some v => RW K H L w v
  | none, none => True
  | _, _ => False
/-- what a dict holds at a key -/
theorem val_of {κ : Type} [DecidableEq κ] {k : κ} : ∀ {kvs : List (κ × W)} {us : List (κ × V)}, us.map (·.1) = kvs.map (·.1) → RWs K H L (kvs.map (·.2)) (us.map (·.2)) → ROp K H L (valW kvs k) (valV us k)
  | [], [], _, _ => True.intro
  | [], _ :: _, h, _ => by cases h
  | _ :: _, [], h, _ => by cases h
  | p :: kvs, q :: us, h, r => by
    rw [List.map_cons, List.map_cons] at h
    injection h with h1 h2
    rw [List.map_cons, List.map_cons] at r
    cases r with
    | cons r1 r2 =>
      have ih := val_of (k := k) h2 r2
      by_cases e : p.1 = k
      · have e2 : q.1 = k := h1.trans e
        have a1 : valW (p :: kvs) k = some p.2 := by simp [valW, List.find?_cons, e]
        rw [a1, valV_pos e2]
        exact r1
      · have e2 : ¬ q.1 = k := fun z => e (h1.symm.trans z)
        have a1 : valW (p :: kvs) k = valW kvs k := by simp [valW, List.find?_cons, e]
        rw [a1, valV_neg e2]
        exact ih
theorem put_of {κ : Type} [DecidableEq κ] {k : κ} {w : W} {v : V} (rw' : RW K H L w v) {kvs : List (κ × W)} {us : List (κ × V)} (r : RKv K H L kvs us) : RKv K H L (putW kvs k w) (putK us k v) := by
  obtain ⟨h1, h2⟩ := r
  have hany : (us.any fun kv => decide (kv.1 = k)) = (kvs.any fun kv => decide (kv.1 = k)) := by
    have e1 : (us.any fun kv => decide (kv.1 = k)) = (us.map (·.1)).any fun z => decide (z = k) := by rw [List.any_map]; rfl
    have e2 : (kvs.any fun kv => decide (kv.1 = k)) = (kvs.map (·.1)).any fun z => decide (z = k) := by rw [List.any_map]; rfl
    rw [e1, e2, h1]
  unfold putW putK
  rw [hany]
  split
  · rename_i c
    clear c
    clear hany
    induction kvs generalizing us with
    | nil =>
      cases us with
      | nil => exact ⟨rfl, .nil⟩
      | cons _ _ => cases h1
    | cons p kvs ih =>
      cases us with
      | nil => cases h1
      | cons q us =>
        rw [List.map_cons, List.map_cons] at h1
        injection h1 with a1 a2
        rw [List.map_cons, List.map_cons] at h2
        cases h2 with
        | cons b1 b2 =>
          obtain ⟨i1, i2⟩ := ih a2 b2
          rw [List.map_cons, List.map_cons]
          by_cases e : p.1 = k
          · have e2 : q.1 = k := a1.trans e
            rw [if_pos e, if_pos e2]
            exact ⟨by rw [List.map_cons, List.map_cons, i1, a1], by rw [List.map_cons, List.map_cons]; exact .cons rw' i2⟩
          · have e2 : ¬ q.1 = k := fun z => e (a1.symm.trans z)
            rw [if_neg e, if_neg e2]
            exact ⟨by rw [List.map_cons, List.map_cons, i1, a1], by rw [List.map_cons, List.map_cons]; exact .cons b1 i2⟩
  · refine ⟨?_, ?_⟩
    · rw [List.map_append, List.map_append, h1] <;> rfl
    · rw [List.map_append, List.map_append]
      exact h2.append (.cons rw' .nil)
theorem RKv.length {κ : Type} {kvs : List (κ × W)} {us : List (κ × V)} (r : RKv K H L kvs us) : us.length = kvs.length := by
  have := congrArg List.length r.1
  rwa [List.length_map, List.length_map] at this
theorem dget_ok {n : Nat} {y : W} {o : Option W} {v u : V} (R : Rep K L C H) (h : dget C n y = some o) (rx : RW K H L (.ref n) v) (ry : RW K H L y u) :
    ∃ a o', v = .ref a ∧ DGet H a u o' ∧ IsD H a ∧ ROp K H L o o' := by
  obtain ⟨a, e, ha⟩ := rx.ref_inv
  unfold dget at h
  split at h
  · rename_i kvs g
    obtain ⟨us, k1, k2⟩ := R.at ha g
    split at h
    · rename_i k hk
      cases h
      exact ⟨a, _, e, .inl ⟨us, k, .inl k1, kV_of hk ry, rfl⟩, .inl ⟨us, .inl k1⟩, val_of k2.1 k2.2⟩
    · cases h
  · rename_i kvs g
    obtain ⟨us, ob, k1, k2⟩ := R.at ha g
    split at h
    · rename_i k hk
      cases h
      exact ⟨a, _, e, .inl ⟨us, k, .inr ⟨ob, k1⟩, kV_of hk ry, rfl⟩, .inl ⟨us, .inr ⟨ob, k1⟩⟩, val_of k2.1 k2.2⟩
    · cases h
  · rename_i kvs g
    obtain ⟨us, k1, k2⟩ := R.at ha g
    split at h
    · split at h
      · rename_i k hk
        cases h
        obtain ⟨b, vs, e2, h1, s⟩ := ry.tup_inv
        rw [kVs_of hk s] at h1
        exact ⟨a, _, e, .inr ⟨us, k, b, .inl k1, e2, h1, rfl⟩, .inr ⟨us, .inl k1⟩, val_of k2.1 k2.2⟩
      · cases h
    · cases h
  · rename_i kvs g
    obtain ⟨us, ob, k1, k2⟩ := R.at ha g
    split at h
    · split at h
      · rename_i k hk
        cases h
        obtain ⟨b, vs, e2, h1, s⟩ := ry.tup_inv
        rw [kVs_of hk s] at h1
        exact ⟨a, _, e, .inr ⟨us, k, b, .inr ⟨ob, k1⟩, e2, h1, rfl⟩, .inr ⟨us, .inr ⟨ob, k1⟩⟩, val_of k2.1 k2.2⟩
      · cases h
    · cases h
  · cases h
theorem dput_ok {n : Nat} {y w : W} {C' : CH} {v u z : V} (R : Rep K L C H) (h : dput C n y w = some C') (rx : RW K H L (.ref n) v) (ry : RW K H L y u) (rz : RW K H L w z) :
    ∃ a H', v = .ref a ∧ DPut H a u z H' ∧ Ext H L H' L ∧ Rep K L C' H' := by
  obtain ⟨a, e, ha⟩ := rx.ref_inv
  unfold dput at h
  split at h
  · rename_i kvs g
    obtain ⟨us, k1, k2⟩ := R.at ha g
    split at h
    · rename_i k hk
      split at h
      · rename_i c
        cases h
        have ex : Ext H L (upd H a (.dK (putK us k z))) L := Ext.store R ha g rfl
        exact ⟨a, _, e, .inl ⟨us, k, k1, kV_of hk ry, by rw [k2.length]; exact short_le c, rfl⟩, ex, R.store ha g rfl ⟨_, upd_same, (put_of rz k2).ext ex⟩⟩
      · cases h
    · cases h
  · rename_i kvs g
    obtain ⟨us, k1, k2⟩ := R.at ha g
    split at h
    · split at h
      · rename_i k hk
        split at h
        · rename_i c
          cases h
          obtain ⟨b, vs, e2, h1, s⟩ := ry.tup_inv
          rw [kVs_of hk s] at h1
          have ex : Ext H L (upd H a (.dT (putK us k z))) L := Ext.store R ha g rfl
          exact ⟨a, _, e, .inr ⟨us, k, b, k1, e2, h1, by rw [k2.length]; exact short_le c, rfl⟩, ex, R.store ha g rfl ⟨_, upd_same, (put_of rz k2).ext ex⟩⟩
        · cases h
      · cases h
    · cases h
  · cases h
end
end RF
end
section
set_option Elab.async false
set_option linter.all false
set_option maxRecDepth 100000
set_option maxHeartbeats 2000000
/-! RF3: comparisons, subscripts, built-in calls. -/
namespace RF
open PySem PySem.Spec PyProof.Rows L2
section
variable {K : Fg} {L : List Addr} {C : CH} {H : Hp} {Q : VK} {E : EX}
/-! ### comparisons -/
def rDIn (neg : Bool) : R2 := fun y x H Q => ∃ a o, x = .ref a ∧ DGet H a y o ∧ Q (.bl (if neg then !o.isSome else o.isSome)) H
theorem op_din {X : Cx} (hu : X.A.units + 1 < cLine) : OpR X (compareOp .In) (rDIn false) := by
  intro pins s σ H y x u v Q I ry rx h
  obtain ⟨a, o, rfl, g, q⟩ := h
  obtain rfl : v = Value.ref a := rx
  exact d_in hu I g ry fun s3 I3 => ⟨.bl o.isSome, H, I3, rfl, q⟩
theorem op_dnin {X : Cx} (hu : X.A.units + 1 < cLine) : OpR X (compareOp .NotIn) (rDIn true) := by
  intro pins s σ H y x u v Q I ry rx h
  obtain ⟨a, o, rfl, g, q⟩ := h
  obtain rfl : v = Value.ref a := rx
  exact d_notIn hu I g ry fun s3 I3 => ⟨.bl (!o.isSome), H, I3, rfl, q⟩
def rC (K : Fg) : CmpOp → R2
  | .Eq => rEqD K
  | .NotEq => rNeD K
  | .Lt => fun x y H Q => (rI0 fun i j => .bl (decide (i < j))) x y H Q ∨ rLtT K x y H Q
  | .LtE => rI0 fun i j => .bl (decide (i ≤ j))
  | .Gt => rI0 fun i j => .bl (decide (j < i))
  | .GtE => rI0 fun i j => .bl (decide (j ≤ i))
  | .Is => fun x y H Q => y = .non ∧ Q (.bl (decide (x = .non))) H
  | .IsNot => fun x y H Q => y = .non ∧ Q (.bl (!decide (x = .non))) H
  | .In => fun x y H Q => rIn K false x y H Q ∨ rDIn false x y H Q
  | .NotIn => fun x y H Q => rIn K true x y H Q ∨ rDIn true x y H Q
theorem opC {X : Cx} (hu : X.A.units + 64 < cLine) (op : CmpOp) : OpR X (compareOp op) (rC X.K op) := by
  cases op <;> first
    | exact op_eqD hu
    | exact op_neD hu
    | exact op_lt.or (op_ltT (by omega))
    | exact op_le
    | exact op_gt
    | exact op_ge
    | exact op_isN
    | exact op_notN
    | exact op_in_seq.or (op_din (by omega))
    | exact op_notIn_seq.or (op_dnin (by omega))
theorem lexI_eq : ∀ ns ms : List Int, lexI ns ms = HT.lexLt ns ms
  | [], [] => rfl
  | [], _ :: _ => rfl
  | _ :: _, [] => rfl
  | x :: xs, y :: ys => by
    rw [HT.lexLt_cons]
    show (if x = y then lexI xs ys else decide (x < y)) = _
    rw [lexI_eq xs ys]
theorem isNon {x : W} {v : V} (r : RW K H L x v) : isNonW x = decide (v = .non) := by
  cases r <;> rfl
theorem items_lst {r : Nat} {xs : List W} (g : C.get r = some (.lst xs)) : items C (.ref r) = some xs := by simp only [items, g]
theorem isIn_ok {x y : W} {v u : V} {b : Bool} (R : Rep K L C H) (rx : RW K H L x v) (ry : RW K H L y u) (h : isIn C x y = some b) (neg : Bool) (q : Q (.bl (if neg then !b else b)) H) :
    rIn K neg v u H Q ∨ rDIn neg v u H Q := by
  have seq : ∀ xs, items C y = some xs → (flatW x && xs.all flatW) = true → b = xs.any (fun z => eqF z x) → rIn K neg v u H Q := fun xs hi hf hb => by
    obtain ⟨f1, f2⟩ := Bool.and_eq_true_iff.mp hf
    obtain ⟨a, vs, e, s1, s2⟩ := seq_of R hi ry
    obtain ⟨g1, g2⟩ := any_ok f1 rx f2 s2
    refine ⟨a, vs, e, s1, (flat_ok f1 rx).1, g1, ?_⟩
    rw [g2, ← hb]
    cases neg <;> exact q
  unfold isIn at h
  split at h
  · rename_i xs
    split at h
    · rename_i c
      cases h
      exact .inl (seq xs rfl c rfl)
    · cases h
  · rename_i r
    split at h
    · rename_i xs g
      split at h
      · rename_i c
        cases h
        exact .inl (seq xs (items_lst g) c rfl)
      · cases h
    · split at h
      · rename_i o g
        cases h
        obtain ⟨a, o', e, d, _, ro⟩ := dget_ok R g ry rx
        have eo : o.isSome = o'.isSome := by cases o <;> cases o' <;> first | rfl | exact ro.elim
        refine .inr ⟨a, o', e, d, ?_⟩
        rw [← eo]
        cases neg <;> exact q
      · cases h
  · cases h
theorem cmpW_ok {op : CmpOp} {x y : W} {v u : V} (R : Rep K L C H) (rx : RW K H L x v) (ry : RW K H L y u) (p : Post K H L (cmpW op x y C) Q E) : rC K op v u H Q := by
  unfold cmpW at p
  cases op with
  | Eq =>
    simp only at p
    split at p
    · rename_i b g
      obtain ⟨d, e, h1, h2, h3, h4, h5⟩ := eqW_ok R rx ry g
      exact ⟨d, e, h1, h2, h3, h4, by rw [← h5]; exact p.same R (.bl b)⟩
    · exact p.elim
  | NotEq =>
    simp only at p
    split at p
    · rename_i b g
      obtain ⟨d, e, h1, h2, h3, h4, h5⟩ := eqW_ok R rx ry g
      exact ⟨d, e, h1, h2, h3, h4, by rw [← h5]; exact p.same R (.bl _)⟩
    · exact p.elim
  | Lt =>
    simp only at p
    split at p
    · rw [rx.int_inv, ry.int_inv]
      exact .inl ⟨_, _, rfl, rfl, p.same R (.bl _)⟩
    · split at p
      · rename_i ns ms g1 g2
        obtain ⟨a, vs, e1, h1, s1⟩ := rx.tup_inv
        obtain ⟨b, us, e2, h2, s2⟩ := ry.tup_inv
        rw [ints_of g1 s1] at h1
        rw [ints_of g2 s2] at h2
        exact .inr ⟨a, b, ns, ms, e1, e2, SqT.of h1, SqT.of h2, by rw [← lexI_eq]; exact p.same R (.bl _)⟩
      · exact p.elim
    · exact p.elim
  | LtE =>
    simp only at p
    split at p
    · rw [rx.int_inv, ry.int_inv]
      exact ⟨_, _, rfl, rfl, p.same R (.bl _)⟩
    · exact p.elim
  | Gt =>
    simp only at p
    split at p
    · rw [rx.int_inv, ry.int_inv]
      exact ⟨_, _, rfl, rfl, p.same R (.bl _)⟩
    · exact p.elim
  | GtE =>
    simp only at p
    split at p
    · rw [rx.int_inv, ry.int_inv]
      exact ⟨_, _, rfl, rfl, p.same R (.bl _)⟩
    · exact p.elim
  | Is =>
    simp only at p
    split at p
    · rw [isNon rx] at p
      exact ⟨ry.non_inv, p.same R (.bl _)⟩
    · exact p.elim
  | IsNot =>
    simp only at p
    split at p
    · rw [isNon rx] at p
      exact ⟨ry.non_inv, p.same R (.bl _)⟩
    · exact p.elim
  | In =>
    simp only at p
    split at p
    · rename_i b g
      exact isIn_ok R rx ry g false (p.same R (.bl _))
    · exact p.elim
  | NotIn =>
    simp only at p
    split at p
    · rename_i b g
      exact isIn_ok R rx ry g true (p.same R (.bl _))
    · exact p.elim

/-! ### subscripts -/
theorem atI_ok {xs : List W} {vs : List V} {i : Int} {w : W} (s : RWs K H L xs vs) (h : L2.atI xs i = some w) : ∃ v, L2.atI vs i = some v ∧ RW K H L w v := by
  unfold L2.atI at h
  unfold L2.atI
  rw [s.length]
  cases e : L2.ixN xs.length i with
  | none => rw [e] at h; cases h
  | some j =>
    rw [e] at h
    obtain ⟨v, h1, h2⟩ := s.get (i := j) (w := w) h
    exact ⟨v, h1, h2⟩
def rDGet : R2 := fun x y H Q => ∃ a v, x = .ref a ∧ DGet H a y (some v) ∧ Q v H
theorem ixW_ok {x y : W} {v u : V} (R : Rep K L C H) (rx : RW K H L x v) (ry : RW K H L y u) (p : Post K H L (ixW x y C) Q E) : L2.rIx K v u H Q ∨ rDGet v u H Q := by
  unfold ixW at p
  split at p
  · rename_i xs i
    split at p
    · rename_i w g
      obtain ⟨a, vs, e1, h1, s1⟩ := rx.tup_inv
      obtain ⟨z, h2, h3⟩ := atI_ok s1 g
      rw [ry.int_inv]
      exact .inl (.inr (.inl ⟨a, vs, i, z, e1, rfl, SqT.of h1, h2, p.same R h3⟩))
    · exact p.elim
  · rename_i xs i
    split at p
    · rename_i w g
      obtain ⟨a, vs, e1, h1, s1⟩ := rx.scr_inv
      obtain ⟨z, h2, h3⟩ := atI_ok s1 g
      rw [ry.int_inv]
      exact .inl (.inl ⟨a, vs, i, z, e1, rfl, h1, h2, p.same R h3⟩)
    · exact p.elim
  · rename_i y2 r
    split at p
    · rename_i xs g
      split at p
      · rename_i i
        split at p
        · rename_i w g2
          obtain ⟨a, vs, e, ha, sq, s⟩ := lst_of R (show lstAt C r = some xs by simp only [lstAt, g]) rx
          obtain ⟨z, h2, h3⟩ := atI_ok s g2
          rw [ry.int_inv]
          exact .inl (.inl ⟨a, vs, i, z, e, rfl, sq, h2, p.same R h3⟩)
        · exact p.elim
      · exact p.elim
    · split at p
      · rename_i w g
        obtain ⟨a, o', e, d, _, ro⟩ := dget_ok R g rx ry
        cases o' with
        | none => exact ro.elim
        | some z => exact .inr ⟨a, z, e, d, p.same R ro⟩
      · exact p.elim
  · exact p.elim
def rPart : V → Option (Option Int)
  | .non => some none
  | .int i => some (some i)
  | _ => none
theorem part_ok {x : W} {v : V} {o : Option Int} (r : RW K H L x v) (h : partW x = some o) : rPart v = some o := by
  cases x with
  | non => rw [r.non_inv]; exact h
  | int i => rw [r.int_inv]; exact h
  | _ => cases h
theorem cut_ok {xs : List W} {vs : List V} (s : RWs K H L xs vs) (lo hi : Option Int) : RWs K H L (cutW xs lo hi) (cutV vs lo hi) := by
  unfold cutW cutV
  rw [s.length]
  exact (s.drop _).take _
theorem slcW_ok {x y z : W} {v u t : V} (R : Rep K L C H) (rx : RW K H L x v) (ry : RW K H L y u) (rz : RW K H L z t) (p : Post K H L (slcW x y z C) Q E) :
    ∃ lo hi, rPart u = some lo ∧ rPart t = some hi ∧ (rSlT K v lo hi H Q ∨ rSlL K v lo hi H Q) := by
  unfold slcW at p
  split at p
  · rename_i lo hi g1 g2
    refine ⟨lo, hi, part_ok ry g1, part_ok rz g2, ?_⟩
    split at p
    · rename_i xs
      split at p
      · exact p.elim
      · rename_i c
        obtain ⟨a, vs, e1, h1, s1⟩ := rx.tup_inv
        refine .inl ⟨a, vs, e1, SqT.of h1, ?_, fun q hq => p.newTup R (cut_ok s1 lo hi) hq⟩
        rw [s1.length]
        rintro ⟨c1, c2⟩
        exact c (by rw [c1, c2]; simp)
    · rename_i xs
      obtain ⟨a, vs, e, sq, s⟩ := rx.scr_inv
      exact .inr ⟨a, vs, e, sq, fun q hq => p.newLst R (cut_ok s lo hi) hq⟩
    · rename_i r
      split at p
      · rename_i xs g
        obtain ⟨a, vs, e, ha, sq, s⟩ := lst_of R (show lstAt C r = some xs by simp only [lstAt, g]) rx
        exact .inr ⟨a, vs, e, sq, fun q hq => p.newLst R (cut_ok s lo hi) hq⟩
      · exact p.elim
    · exact p.elim
  · exact p.elim

/-! ### truth -/
theorem truth_ok {x : W} {v : V} {k : Bool} (R : Rep K L C H) (r : RW K H L x v) (h : truth C x = some k) : TruV K v H k := by
  have em : ∀ {xs : List W} {vs : List V}, RWs K H L xs vs → (!xs.isEmpty) = !vs.isEmpty := fun s => by cases s <;> rfl
  unfold truth at h
  split at h
  · cases h; rw [r.non_inv]; rfl
  · cases h; rw [r.bl_inv]; rfl
  · cases h; rw [r.int_inv]; rfl
  · cases h
    obtain ⟨a, vs, e1, h1, s1⟩ := r.tup_inv
    rw [e1]
    exact .inr (.inl ⟨vs, SqT.of h1, em s1⟩)
  · cases h
    obtain ⟨a, vs, e1, h1, s1⟩ := r.scr_inv
    rw [e1]
    exact .inl ⟨vs, h1, em s1⟩
  · rename_i n
    split at h
    · rename_i xs g
      cases h
      obtain ⟨a, vs, e, ha, sq, s⟩ := lst_of R (show lstAt C n = some xs by simp only [lstAt, g]) r
      rw [e]
      exact .inl ⟨vs, sq, em s⟩
    · rename_i kvs g
      cases h
      obtain ⟨a, e, ha⟩ := r.ref_inv
      obtain ⟨us, k1, k2⟩ := R.at ha g
      rw [e]
      refine .inr (.inr ⟨us, k1, ?_⟩)
      have := k2.length
      cases us <;> cases kvs <;> first | rfl | cases this
    · cases h
  · cases h

/-! ### built-in functions and types -/
abbrev RV := List V → Hp → VK → Prop
def rvOr (r r' : RV) : RV := fun xs H Q => r xs H Q ∨ r' xs H Q
def rSumT (K : Fg) : RV := fun vs H Q => ∃ (a : Addr) (ns : List Int), vs = [V.ref a] ∧ SqT K H a (ns.map V.int) ∧ Q (.int ns.sum) H
theorem cr_sumT {X : Cx} (hc : X.calm = true) : CallR X (.builtin "sum") (rSumT X.K) := by
  intro pins s σ H vs us Q I r h
  obtain ⟨a, ns, rfl, hs, q⟩ := h
  obtain ⟨its, rv, pl, hz⟩ := I.tuple hs
  rw [Vals.ref1 r]
  have hi : IntsAre its ns := rv.ints
  obtain ⟨xs, e⟩ := hi.allInts.items
  have hn : numsOf (intItems xs).toList = ns := by rw [← e]; exact hi.numsOf
  rw [nums_intItems] at hn
  have pl2 : s.heap.IsTuple a (intItems xs) := by
    have z : s.heap.IsTuple a its.toArray := pl
    rw [e] at z
    exact z
  refine PySem.W.ktm_sumG (I.ok.hd hc) pl2 fun h' tk t' hk => ?_
  refine ⟨.int ns.sum, H, I.kept (t' := tk) hk, ⟨t', ?_⟩, q⟩
  rw [preSum_eq, List.take_of_length_le (by simp), hn]
def rLenAny (K : Fg) : RV := fun xs H Q => (∃ p ys, xs = [V.ref p] ∧ (SqL K H p ys ∨ SqT K H p ys) ∧ Q (.int ys.length) H) ∨ (∃ p kvs, xs = [V.ref p] ∧ H p = some (.dK kvs) ∧ Q (.int kvs.length) H) ∨ rLenT xs H Q
theorem cr_lenK {X : Cx} : CallR X (.builtin "len") (fun xs H Q => ∃ p kvs, xs = [V.ref p] ∧ H p = some (.dK kvs) ∧ Q (.int kvs.length) H) := by
  intro pins s σ H xs us Q I r h
  obtain ⟨p, kvs, rfl, hp, q⟩ := h
  obtain ⟨u, rfl, rx⟩ := vals1 r
  obtain rfl : u = .ref p := rx
  exact d_len I (.inl hp) fun t s' I' => ⟨.int kvs.length, H, I', ⟨_, rfl⟩, q⟩
theorem cr_lenAny {X : Cx} : CallR X (.builtin "len") (rLenAny X.K) := call_len_seq.or (cr_lenK.or call_len_dT)
def rListDT : RV := fun xs H Q => ∃ d kvs, xs = [V.ref d] ∧ Rd H d (.dT kvs) ∧ ∀ p bs, H p = none → IsKeys H kvs bs → Q (.ref p) (upd H p (.lst (bs.map V.ref)))
def rList (K : Fg) : RV := fun xs H Q => (∃ p ys, xs = [.ref p] ∧ (SqL K H p ys ∨ SqT K H p ys) ∧ ∀ l, H l = none → Q (.ref l) (upd H l (.lst ys))) ∨ rListDT xs H Q
theorem cr_list {X : Cx} (hc : X.calm = true) : CallR X (.type "list") (rList X.K) := call_list_of.or (call_list_dT hc)
def rTuple (K : Fg) : RV := fun xs H Q => ∃ p ys, xs = [.ref p] ∧ ((SqL K H p ys ∧ ∀ l, H l = none → Q (.ref l) (upd H l (.tup ys))) ∨ (SqT K H p ys ∧ Q (.ref p) H))
def rInt : RV := fun xs H Q => (∃ i, xs = [.int i] ∧ Q (.int i) H) ∨ ∃ k, xs = [.bl k] ∧ Q (.int (if k then 1 else 0)) H
def rAbs : RV := fun xs H Q => ∃ i, xs = [.int i] ∧ Q (.int (if i < 0 then -i else i)) H
def rMin2 : RV := fun xs H Q => ∃ i j, xs = [.int i, .int j] ∧ Q (.int (if j < i then j else i)) H
def rMax2 : RV := fun xs H Q => ∃ i j, xs = [.int i, .int j] ∧ Q (.int (if j > i then j else i)) H
def rSortAny (K : Fg) : RV := fun vs H Q => rSorted K vs H Q ∨ ∃ d B, 1 ≤ d ∧ rSortU K d B vs H Q
theorem cr_sortAny {X : Cx} : CallR X (.builtin "sorted") (rSortAny X.K) := by
  intro pins s σ H vs us Q I r h
  rcases h with h | ⟨d, B, hd, h⟩
  · exact cr_sorted pins s σ H vs us Q I r h
  · exact cr_sortT hd pins s σ H vs us Q I r h
/-- the relation of a built-in's call -/
def rBI (K : Fg) : BI → RV
  | .len => rLenAny K
  | .all => L2.rAll K
  | .any => L2.rAny K
  | .sum => rvOr (L2.rSum K) (rSumT K)
  | .tuple => rTuple K
  | .list => rList K
  | .int => rInt
  | .abs => rAbs
  | .min => rMin2
  | .max => rMax2
  | .sorted => rSortAny K
  | .isi => rvOr (rIsi K) (rIsiT K)
/-- its name, the value that it stands for -/
def biName : BI → Str
  | .len => "len" | .all => "all" | .any => "any" | .sum => "sum" | .tuple => "tuple" | .list => "list" | .int => "int" | .abs => "abs" | .min => "min" | .max => "max" | .sorted => "sorted" | .isi => "isinstance"
def biId : BI → String
  | .len => "len" | .all => "all" | .any => "any" | .sum => "sum" | .tuple => "tuple" | .list => "list" | .int => "int" | .abs => "abs" | .min => "min" | .max => "max" | .sorted => "sorted" | .isi => "isinstance"
def biTy : BI → Bool
  | .tuple => true | .list => true | .int => true | _ => false
def biVal (b : BI) : Value := if biTy b then .type (biId b) else .builtin (biId b)
theorem biBoot (b : BI) : bootBuiltins (biName b) = some (biVal b) := by cases b <;> decide +kernel
theorem biRule {X : Cx} (hc : X.calm = true) : ∀ b : BI, CallR X (biVal b) (rBI X.K b)
  | .len => cr_lenAny
  | .all => cr_all hc
  | .any => cr_any hc
  | .sum => (cr_sum hc).or (cr_sumT hc)
  | .tuple => call_tuple_of
  | .list => cr_list hc
  | .int => call_int1
  | .abs => call_abs
  | .min => call_min2 hc
  | .max => call_max2 hc
  | .sorted => cr_sortAny
  | .isi => call_isi.or call_isiT
end
end RF
end
section
set_option Elab.async false
set_option linter.all false
set_option maxRecDepth 100000
set_option maxHeartbeats 2000000
/-! RF4: sorting, the built-in calls and methods of the evaluator. -/
namespace RF
open PySem PySem.Spec PyProof.Rows L2
/-! ### sorting -/
section
variable {α : Type} {f : α → Int}
theorem insBy_perm (x : α) : ∀ l : List α, (insBy f x l).Perm (x :: l)
  | [] => List.Perm.refl _
  | y :: r => by
    unfold insBy
    split
    · exact List.Perm.refl _
    · exact ((insBy_perm x r).cons y).trans (List.Perm.swap x y r)
theorem sortBy_perm : ∀ l : List α, (sortBy f l).Perm l
  | [] => List.Perm.refl _
  | x :: r => (insBy_perm x _).trans ((sortBy_perm r).cons x)
theorem insBy_sorted (x : α) : ∀ l : List α, l.Pairwise (fun a b => f a ≤ f b) → (insBy f x l).Pairwise (fun a b => f a ≤ f b)
  | [], _ => List.pairwise_singleton _ _
  | y :: r, h => by
    unfold insBy
    split
    · rename_i c
      have c' := of_decide_eq_true c
      refine List.pairwise_cons.mpr ⟨fun z hz => ?_, h⟩
      rcases List.mem_cons.mp hz with e | e
      · rw [e]; exact c'
      · exact Int.le_trans c' ((List.pairwise_cons.mp h).1 z e)
    · rename_i c
      have c' : f y ≤ f x := by
        have : ¬ f x ≤ f y := fun z => c (decide_eq_true z)
        omega
      refine List.pairwise_cons.mpr ⟨fun z hz => ?_, insBy_sorted x r (List.pairwise_cons.mp h).2⟩
      rcases List.mem_cons.mp ((insBy_perm x r).mem_iff.mp hz) with e | e
      · rw [e]; exact c'
      · exact (List.pairwise_cons.mp h).1 z e
theorem sortBy_sorted : ∀ l : List α, (sortBy f l).Pairwise (fun a b => f a ≤ f b)
  | [] => List.Pairwise.nil
  | x :: r => insBy_sorted x _ (sortBy_sorted r)
theorem sorted_one : ∀ (l m : List α), l.Perm m → l.Pairwise (fun a b => f a ≤ f b) → m.Pairwise (fun a b => f a ≤ f b) → (∀ a ∈ l, ∀ b ∈ l, f a = f b → a = b) → l = m
  | [], m, p, _, _, _ => (List.nil_perm.mp p).symm
  | a :: l, [], p, _, _, _ => (List.perm_nil.mp p)
  | a :: l, b :: m, p, h1, h2, inj => by
    have hb : b ∈ a :: l := p.mem_iff.mpr (List.mem_cons_self ..)
    have ha : a ∈ b :: m := p.mem_iff.mp (List.mem_cons_self ..)
    have e : a = b := by
      rcases List.mem_cons.mp hb with e | e
      · exact e.symm
      · rcases List.mem_cons.mp ha with e2 | e2
        · exact e2
        · have l1 := (List.pairwise_cons.mp h1).1 b e
          have l2 := (List.pairwise_cons.mp h2).1 a e2
          exact inj a (List.mem_cons_self ..) b hb (Int.le_antisymm l1 l2)
    subst e
    rw [sorted_one l m (List.Perm.cons_inv p) (List.pairwise_cons.mp h1).2 (List.pairwise_cons.mp h2).2 fun x hx y hy => inj x (List.mem_cons_of_mem _ hx) y (List.mem_cons_of_mem _ hy)]
end
section
variable {K : Fg} {L : List Addr} {C : CH} {H : Hp} {Q : VK} {E : EX}
theorem perm_back {vs ys : List V} (p : ys.Perm vs) : ∀ {xs : List W}, RWs K H L xs vs → ∃ zs, zs.Perm xs ∧ RWs K H L zs ys := by
  induction p with
  | nil => intro xs r; cases r; exact ⟨[], .refl _, .nil⟩
  | cons x p ih =>
    intro xs r
    cases r with
    | cons q t =>
      obtain ⟨zs, h1, h2⟩ := ih t
      exact ⟨_ :: zs, h1.cons _, .cons q h2⟩
  | swap x y l =>
    intro xs r
    cases r with
    | cons q t =>
      cases t with
      | cons q2 t2 => exact ⟨_, List.Perm.swap _ _ _, .cons q2 (.cons q t2)⟩
  | trans p1 p2 ih1 ih2 =>
    intro xs r
    obtain ⟨zs, h1, h2⟩ := ih2 r
    obtain ⟨us, h3, h4⟩ := ih1 h2
    exact ⟨us, h3.trans h1, h4⟩
theorem mapO_mem {α β : Type} {f : α → Option β} : ∀ {l : List α} {ys : List β}, mapO f l = some ys → ∀ x ∈ l, ∃ y ∈ ys, f x = some y
  | [], _, _, x, h => by cases h
  | a :: l, ys, h, x, hx => by
    unfold mapO at h
    cases e : f a with
    | none => rw [e] at h; cases h
    | some y =>
      rw [e] at h
      cases e2 : mapO f l with
      | none => rw [e2] at h; cases h
      | some zs =>
        rw [e2] at h
        cases h
        rcases List.mem_cons.mp hx with q | q
        · rw [q]; exact ⟨y, List.mem_cons_self .., e⟩
        · obtain ⟨y', h1, h2⟩ := mapO_mem e2 x q
          exact ⟨y', List.mem_cons_of_mem _ h1, h2⟩
theorem maxI_le : ∀ (l : List Int) (x : Int), x ∈ l → x ≤ maxI l
  | a :: l, x, h => by
    show x ≤ if decide (a ≤ maxI l) then maxI l else a
    rcases List.mem_cons.mp h with e | e
    · rw [e]; split
      · rename_i c; exact of_decide_eq_true c
      · exact Int.le_refl _
    · have := maxI_le l x e
      split
      · exact this
      · rename_i c
        have : ¬ a ≤ maxI l := fun z => c (decide_eq_true z)
        omega
theorem code_inj {B : Int} : ∀ (ns ms : List Int), ns.length = ms.length → TS.Bd B ns → TS.Bd B ms → TS.code B ns = TS.code B ms → ns = ms
  | [], [], _, _, _, _ => rfl
  | [], _ :: _, h, _, _, _ => by cases h
  | _ :: _, [], h, _, _, _ => by cases h
  | d :: r, e :: q, h, h1, h2, hc => by
    have hl : r.length = q.length := Nat.succ.inj h
    rcases Int.lt_trichotomy d e with c | c | c
    · have := TS.code_lt hl h1.tail h2.tail c
      omega
    · subst c
      have e1 : TS.code B (d :: r) = d * B ^ r.length + TS.code B r := rfl
      have e2 : TS.code B (d :: q) = d * B ^ q.length + TS.code B q := rfl
      rw [e1, e2, hl] at hc
      rw [code_inj r q hl h1.tail h2.tail (by omega)]
    · have := TS.code_lt hl.symm h2.tail h1.tail c
      omega
theorem intsT_tup {w : W} {ns : List Int} (h : intsT w = some ns) : ∃ xs, w = .tup xs ∧ mapO toInt xs = some ns := by
  cases w with
  | tup xs => exact ⟨xs, rfl, h⟩
  | _ => cases h
theorem toInts_eq : ∀ {xs : List W} {ns : List Int}, mapO toInt xs = some ns → xs = ns.map W.int
  | [], ns, h => by cases h; rfl
  | x :: r, ns, h => by
    unfold mapO at h
    cases e : toInt x with
    | none => rw [e] at h; cases h
    | some y =>
      rw [e] at h
      cases e2 : mapO toInt r with
      | none => rw [e2] at h; cases h
      | some zs =>
        rw [e2] at h
        cases h
        rw [List.map_cons, ← toInts_eq e2, toInt_some e]
theorem tupI_of {w : W} {v : V} {ns : List Int} (h : intsT w = some ns) (r : RW K H L w v) : TupI K H v ns := by
  obtain ⟨xs, rfl, h2⟩ := intsT_tup h
  obtain ⟨a, vs, e, h3, s⟩ := r.tup_inv
  rw [ints_of h2 s] at h3
  exact ⟨a, e, SqT.of h3⟩
theorem RWs.mem {xs : List W} {vs : List V} (r : RWs K H L xs vs) {v : V} (hv : v ∈ vs) : ∃ x ∈ xs, RW K H L x v := by
  induction vs generalizing xs with
  | nil => cases hv
  | cons u us ih =>
    cases r with
    | cons q t =>
      rcases List.mem_cons.mp hv with e | e
      · rw [e]; exact ⟨_, List.mem_cons_self .., q⟩
      · obtain ⟨x, h1, h2⟩ := ih t e
        exact ⟨x, List.mem_cons_of_mem _ h1, h2⟩
theorem pair_back {r : V → V → Prop} {s : W → W → Prop} (hrs : ∀ x y v u, RW K H L x v → RW K H L y u → r v u → s x y) : ∀ {zs : List W} {ys : List V}, RWs K H L zs ys → ys.Pairwise r → zs.Pairwise s
  | [], _, .nil, _ => List.Pairwise.nil
  | x :: zs, _, .cons q t, h => by
    obtain ⟨h1, h2⟩ := List.pairwise_cons.mp h
    refine List.pairwise_cons.mpr ⟨fun y hy => ?_, pair_back hrs t h2⟩
    obtain ⟨i, hi⟩ := List.getElem?_of_mem hy
    obtain ⟨u, hu, ru⟩ := t.get hi
    exact hrs _ _ _ _ q ru (h1 u (List.mem_of_getElem? hu))
theorem sort_ok {n : Nat} {xs ys : List W} {v : V} (R : Rep K L C H) (g : C.get n = some (.lst xs)) (r : RW K H L (.ref n) v) (h : sortW xs = some ys) (p : Post K H L (.ok (.ref C.n) (C.new (.lst ys))) Q E) : rSortAny K [v] H Q := by
  obtain ⟨a, vs, e, ha, sq, s⟩ := lst_of R (show lstAt C n = some xs by simp only [lstAt, g]) r
  subst e
  unfold sortW at h
  split at h
  · rename_i c0
    have hlen : xs.length < 64 := Nat.le_of_ble_eq_true c0
    split at h
    · rename_i ns g1
      cases h
      have ev := ints_of g1 s
      have ex := toInts_eq g1
      subst ev
      refine .inl ⟨a, ns, rfl, sq, by rw [ex, List.length_map] at hlen; exact hlen, fun ns' q pm pw hq => ?_⟩
      have e2 : sortBy keyI xs = ns'.map W.int := by
        refine sorted_one _ _ ((sortBy_perm xs).trans (by rw [ex]; exact (pm.map W.int).symm)) (sortBy_sorted xs) ?_ fun x hx y hy he => ?_
        · exact List.pairwise_map.mpr (pw.imp fun {a b} h => h)
        · have mx : ∀ z ∈ sortBy keyI xs, ∃ i, z = .int i := fun z hz => by
            have := (sortBy_perm xs).mem_iff.mp hz
            rw [ex] at this
            obtain ⟨i, _, e⟩ := List.mem_map.mp this
            exact ⟨i, e.symm⟩
          obtain ⟨i, rfl⟩ := mx x hx
          obtain ⟨j, rfl⟩ := mx y hy
          exact congrArg W.int he
      have rs : RWs K H L (sortBy keyI xs) (ns'.map V.int) := by
        rw [e2]
        clear e2 pm pw
        induction ns' with
        | nil => exact .nil
        | cons i r ih => exact .cons (.int i) ih
      exact p.newLst R rs hq
    · split at h
      · rename_i b l g2
        split at h
        · rename_i c
          cases h
          obtain ⟨c1, c2⟩ := Bool.and_eq_true_iff.mp c
          have hd : 1 ≤ b.length := Nat.le_of_ble_eq_true c1
          have hall := List.all_eq_true.mp c2
          have facts : ∀ ns ∈ b :: l, ns.length = b.length ∧ TS.Bd (maxI (b :: l).flatten + 1) ns := fun ns hns => by
            obtain ⟨d1, d2⟩ := Bool.and_eq_true_iff.mp (hall ns hns)
            refine ⟨eq_of_beq d1, fun m hm => ⟨of_decide_eq_true (List.all_eq_true.mp d2 m hm), ?_⟩⟩
            have := maxI_le (b :: l).flatten m (List.mem_flatten.mpr ⟨ns, hns, hm⟩)
            omega
          have each : ∀ x ∈ xs, ∃ ns ∈ b :: l, intsT x = some ns := mapO_mem g2
          refine .inr ⟨b.length, maxI (b :: l).flatten + 1, hd, a, vs, rfl, sq, by rw [s.length]; exact hlen, fun v hv => ?_, fun us q pm pw hq => ?_⟩
          · obtain ⟨x, hx, rx⟩ := s.mem hv
            obtain ⟨ns, hns, hn⟩ := each x hx
            exact ⟨ns, tupI_of hn rx, (facts ns hns).1, (facts ns hns).2⟩
          · obtain ⟨zs, z1, z2⟩ := perm_back pm s
            have mz : ∀ z ∈ zs, ∃ ns ∈ b :: l, intsT z = some ns := fun z hz => each z (z1.mem_iff.mp hz)
            have pz : zs.Pairwise (fun x y => (x ∈ zs ∧ y ∈ zs) → keyT (maxI (b :: l).flatten + 1) x ≤ keyT (maxI (b :: l).flatten + 1) y) := by
              refine pair_back (fun x y v u rx ry hr hm => ?_) z2 pw
              obtain ⟨n1, _, h1⟩ := mz x hm.1
              obtain ⟨n2, _, h2⟩ := mz y hm.2
              unfold keyT
              rw [h1, h2]
              exact hr n1 n2 (tupI_of h1 rx) (tupI_of h2 ry)
            have pz2 : zs.Pairwise (fun x y => keyT (maxI (b :: l).flatten + 1) x ≤ keyT (maxI (b :: l).flatten + 1) y) :=
              List.Pairwise.imp_of_mem (fun {x y} hx hy h => h ⟨hx, hy⟩) pz
            have e2 : sortBy (keyT (maxI (b :: l).flatten + 1)) xs = zs := by
              refine sorted_one _ _ ((sortBy_perm xs).trans z1.symm) (sortBy_sorted xs) pz2 fun x hx y hy he => ?_
              obtain ⟨n1, m1, h1⟩ := each x ((sortBy_perm xs).mem_iff.mp hx)
              obtain ⟨n2, m2, h2⟩ := each y ((sortBy_perm xs).mem_iff.mp hy)
              unfold keyT at he
              rw [h1, h2] at he
              have en := code_inj n1 n2 ((facts n1 m1).1.trans (facts n2 m2).1.symm) (facts n1 m1).2 (facts n2 m2).2 he
              subst en
              obtain ⟨x1, rfl, k1⟩ := intsT_tup h1
              obtain ⟨x2, rfl, k2⟩ := intsT_tup h2
              rw [toInts_eq k1, toInts_eq k2]
            rw [e2] at p
            exact p.newLst R z2 hq
        · cases h
      · cases h
  · cases h

/-! ### the built-in calls -/
theorem vs1 {x : W} {vs : List V} (r : RWs K H L [x] vs) : ∃ v, vs = [v] ∧ RW K H L x v := by
  cases r with
  | cons q t => cases t; exact ⟨_, rfl, q⟩
theorem vs2 {x y : W} {vs : List V} (r : RWs K H L [x, y] vs) : ∃ v u, vs = [v, u] ∧ RW K H L x v ∧ RW K H L y u := by
  cases r with
  | cons q t =>
    cases t with
    | cons q2 t2 => cases t2; exact ⟨_, _, rfl, q, q2⟩
theorem tyW_ok {x : W} {v : V} {t : String} (R : Rep K L C H) (r : RW K H L x v) (h : tyW C x = some t) : TyX K H v (.type t) := by
  unfold tyW at h
  split at h
  · cases h; rw [r.non_inv]; exact .base .non
  · cases h; rw [r.bl_inv]; exact .base (.bl _)
  · cases h; rw [r.int_inv]; exact .base (.int _)
  · cases h; rw [r.str_inv]; exact .base (.str _)
  · cases h
  · cases h
  · cases h
    obtain ⟨a, vs, e, h1, _⟩ := r.tup_inv
    rw [e]; exact .base (.tup h1)
  · cases h
    cases r with
    | scr h1 r2 =>
      rcases h1 with ⟨o, h1⟩ | ⟨o, its, n, h1, h2, _⟩
      · exact .base (.frz h1)
      · exact .kList h1 h2
  · obtain ⟨a, e, ha⟩ := r.ref_inv
    subst e
    split at h
    · rename_i xs g
      cases h
      obtain ⟨vs, h1, _⟩ := R.at ha g
      exact .base (.lst h1)
    · rename_i xs g
      cases h
      obtain ⟨vs, h1, _⟩ := R.at ha g
      exact .base (.dK h1)
    · rename_i xs g
      cases h
      obtain ⟨vs, h1, _⟩ := R.at ha g
      exact .base (.dT h1)
    · cases h
theorem kit_list : ∀ t ∈ (["NoneType", "bool", "int", "str", "tuple", "list", "dict"] : List String), ∀ c ∈ (["int", "bool", "str", "tuple", "list"] : List String), kitB t c = isiOne t c := by decide +kernel
theorem tyW_mem {x : W} {t : String} (h : tyW C x = some t) : t ∈ (["NoneType", "bool", "int", "str", "tuple", "list", "dict"] : List String) := by
  unfold tyW at h
  split at h
  all_goals first
    | (cases h <;> decide)
    | (split at h <;> (cases h <;> decide))
theorem isi_one {t c : String} {k : Bool} (ht : t ∈ (["NoneType", "bool", "int", "str", "tuple", "list", "dict"] : List String)) (h : isiOne t c = some k) : PySem.W.kitOne K (.type t) (.type c) = some k := by
  refine kit_ty ?_
  have hc : c ∈ (["int", "bool", "str", "tuple", "list"] : List String) := by
    unfold isiOne at h
    split at h <;> first | decide | cases h
  rw [kit_list t ht c hc]
  exact h
theorem isi_any {t : String} (ht : t ∈ (["NoneType", "bool", "int", "str", "tuple", "list", "dict"] : List String)) : ∀ {cs : List W} {vs : List V} {k : Bool}, isiAny t cs = some k → RWs K H L cs vs →
    ∃ us, Paired ClsV vs us ∧ PySem.W.kitAny K (.type t) us = some k
  | [], _, _, h, .nil => by cases h; exact ⟨[], .nil, rfl⟩
  | x :: cs, _, k, h, .cons q r => by
    cases x with
    | ty c =>
      rw [q.ty_inv]
      have h' : (match isiOne t c, isiAny t cs with
        | some a, some b => some (a || b)
        | _, _ => none) = some k := h
      cases e : isiOne t c with
      | none => rw [e] at h'; cases h'
      | some b =>
        rw [e] at h'
        cases e2 : isiAny t cs with
        | none => rw [e2] at h'; cases h'
        | some b2 =>
          rw [e2] at h'
          cases h'
          obtain ⟨us, h1, h2⟩ := isi_any ht e2 r
          refine ⟨.type c :: us, .cons (.ty c) h1, kitAny_cons (isi_one ht e) (fun z => ?_) (fun z => ?_)⟩
          · subst z; exact h2
          · subst z; rfl
    | _ => cases h
theorem len_seq {x : W} {xs : List W} {v : V} (R : Rep K L C H) (r : RW K H L x v) (h : items C x = some xs) (q : Q (.int xs.length) H) : rLenAny K [v] H Q := by
  obtain ⟨a, vs, e, s1, s2⟩ := seq_of R h r
  subst e
  exact .inl ⟨a, vs, rfl, s1, by rw [s2.length]; exact q⟩
theorem keys_ok : ∀ {kvs : List (List Key × W)} {us : List (List Key × V)} {bs : List Addr}, us.map (·.1) = kvs.map (·.1) → IsKeys H us bs → RWs K H L (kvs.map fun kv => W.tup (kv.1.map kW)) (bs.map V.ref)
  | [], [], _, _, .nil => .nil
  | [], _ :: _, _, h, _ => by cases h
  | _ :: _, [], _, h, _ => by cases h
  | p :: kvs, u :: us, _, h, .cons hb t => by
    rw [List.map_cons, List.map_cons] at h
    injection h with h1 h2
    rw [h1] at hb
    refine .cons (.tup hb ?_) (keys_ok h2 t)
    clear hb h1
    generalize p.1 = ks
    induction ks with
    | nil => exact .nil
    | cons k ks ih => exact .cons (by cases k with | inl i => exact .int i | inr x => exact .str x) ih
theorem biW_ok {b : BI} {ws : List W} {vs : List V} (R : Rep K L C H) (rs : RWs K H L ws vs) (p : Post K H L (biW b ws C) Q E) : rBI K b vs H Q := by
  unfold biW at p
  split at p
  · -- len
    obtain ⟨v, rfl, r⟩ := vs1 rs
    split at p
    · rename_i xs g
      exact len_seq R r g (p.same R (.int _))
    · split at p
      · obtain ⟨a, e, ha⟩ := r.ref_inv
        subst e
        split at p
        · rename_i kvs g
          obtain ⟨us, k1, k2⟩ := R.at ha g
          exact .inr (.inl ⟨a, us, rfl, k1, by rw [k2.length]; exact p.same R (.int _)⟩)
        · rename_i kvs g
          obtain ⟨us, k1, k2⟩ := R.at ha g
          exact .inr (.inr ⟨a, us, rfl, k1, by rw [k2.length]; exact p.same R (.int _)⟩)
        · exact p.elim
      · exact p.elim
  · -- all
    obtain ⟨v, rfl, r⟩ := vs1 rs
    split at p
    · rename_i xs g
      split at p
      · rename_i bs g2
        obtain ⟨a, vs, e, ha, sq, s⟩ := lst_of R (show lstAt C _ = some xs by simp only [lstAt, g]) r
        subst e
        rw [bls_of g2 s] at sq
        exact ⟨a, bs, rfl, sq, p.same R (.bl _)⟩
      · exact p.elim
    · exact p.elim
  · -- any
    obtain ⟨v, rfl, r⟩ := vs1 rs
    split at p
    · rename_i xs g
      split at p
      · rename_i bs g2
        obtain ⟨a, vs, e, ha, sq, s⟩ := lst_of R (show lstAt C _ = some xs by simp only [lstAt, g]) r
        subst e
        rw [bls_of g2 s] at sq
        exact ⟨a, bs, rfl, sq, p.same R (.bl _)⟩
      · exact p.elim
    · exact p.elim
  · -- sum
    obtain ⟨v, rfl, r⟩ := vs1 rs
    split at p
    · rename_i xs g
      split at p
      · rename_i ns g2
        obtain ⟨a, vs, e, s1, s2⟩ := seq_of R g r
        subst e
        rw [ints_of g2 s2] at s1
        rcases s1 with s1 | s1
        · exact .inl ⟨a, ns, rfl, s1, p.same R (.int _)⟩
        · exact .inr ⟨a, ns, rfl, s1, p.same R (.int _)⟩
      · exact p.elim
    · exact p.elim
  · -- tuple
    obtain ⟨v, rfl, r⟩ := vs1 rs
    rename_i x
    split at p
    · rename_i xs g
      cases x with
      | tup ys =>
        cases g
        obtain ⟨a, vs, e, h1, s⟩ := r.tup_inv
        subst e
        exact ⟨a, vs, rfl, .inr ⟨SqT.of h1, p.same R (.tup h1 s)⟩⟩
      | scr ys =>
        cases g
        obtain ⟨a, vs, e, sq, s⟩ := r.scr_inv
        subst e
        exact ⟨a, vs, rfl, .inl ⟨sq, fun q hq => p.newTup R s hq⟩⟩
      | ref n =>
        obtain ⟨a, vs, e, ha, sq, s⟩ := lst_of R (show lstAt C n = some xs from g) r
        subst e
        exact ⟨a, vs, rfl, .inl ⟨sq, fun q hq => p.newTup R s hq⟩⟩
      | _ => cases g
    · exact p.elim
  · -- list
    obtain ⟨v, rfl, r⟩ := vs1 rs
    split at p
    · rename_i xs g
      obtain ⟨a, vs, e, s1, s2⟩ := seq_of R g r
      subst e
      exact .inl ⟨a, vs, rfl, s1, fun q hq => p.newLst R s2 hq⟩
    · split at p
      · obtain ⟨a, e, ha⟩ := r.ref_inv
        subst e
        split at p
        · rename_i kvs g
          obtain ⟨us, k1, k2⟩ := R.at ha g
          exact .inr ⟨a, us, rfl, .inl k1, fun q bs hq hb => p.newLst R (keys_ok k2.1 hb) hq⟩
        · exact p.elim
      · exact p.elim
  · obtain ⟨v, rfl, r⟩ := vs1 rs
    rw [r.int_inv]
    exact .inl ⟨_, rfl, p.same R (.int _)⟩
  · obtain ⟨v, rfl, r⟩ := vs1 rs
    rw [r.bl_inv]
    exact .inr ⟨_, rfl, p.same R (.int _)⟩
  · obtain ⟨v, rfl, r⟩ := vs1 rs
    rw [r.int_inv]
    exact ⟨_, rfl, p.same R (.int _)⟩
  · obtain ⟨v, u, rfl, r1, r2⟩ := vs2 rs
    rw [r1.int_inv, r2.int_inv]
    exact ⟨_, _, rfl, p.same R (.int _)⟩
  · obtain ⟨v, u, rfl, r1, r2⟩ := vs2 rs
    rw [r1.int_inv, r2.int_inv]
    exact ⟨_, _, rfl, p.same R (.int _)⟩
  · -- sorted
    obtain ⟨v, rfl, r⟩ := vs1 rs
    split at p
    · rename_i xs g
      split at p
      · rename_i ys g2
        exact sort_ok R g r g2 p
      · exact p.elim
    · exact p.elim
  · -- isinstance, one
    obtain ⟨v, u, rfl, r1, r2⟩ := vs2 rs
    split at p
    · rename_i t g
      split at p
      · rename_i k g2
        rw [r2.ty_inv]
        exact .inl ⟨v, _, _, _, k, rfl, .ty _, tyW_ok R r1 g, isi_one (tyW_mem g) g2, p.same R (.bl k)⟩
      · exact p.elim
    · exact p.elim
  · -- isinstance, several
    obtain ⟨v, u, rfl, r1, r2⟩ := vs2 rs
    split at p
    · rename_i t g
      split at p
      · rename_i k g2
        obtain ⟨a, us, e, h1, s⟩ := r2.tup_inv
        subst e
        obtain ⟨ts, h2, h3⟩ := isi_any (tyW_mem g) g2 s
        exact .inr ⟨v, a, us, _, ts, k, rfl, h1, h2, tyW_ok R r1 g, h3, p.same R (.bl k)⟩
      · exact p.elim
    · exact p.elim
  · exact p.elim

/-! ### methods -/
abbrev RM := V → List V → Hp → VK → Prop
def rGet1 : RM := fun x xs H Q => ∃ a y o, x = .ref a ∧ xs = [y] ∧ DGet H a y o ∧ Q (o.getD .non) H
def rGet2 : RM := fun x xs H Q => ∃ a y z o, x = .ref a ∧ xs = [y, z] ∧ DGet H a y o ∧ Q (o.getD z) H
theorem mt_get1 {X : Cx} (hu : X.A.units + 1 < cLine) : MtR X "dict.get" rGet1 := by
  intro pins s σ H x xs v us Q I rx rs h
  obtain ⟨a, y, o, rfl, rfl, g, q⟩ := h
  obtain rfl : v = Value.ref a := rx
  obtain ⟨u, rfl, ry⟩ := rs.one
  exact d_get1 hu I g ry fun w' s3 I3 rw' => ⟨_, H, I3, rw', q⟩
theorem mt_get2 {X : Cx} (hu : X.A.units + 1 < cLine) : MtR X "dict.get" rGet2 := by
  intro pins s σ H x xs v us Q I rx rs h
  obtain ⟨a, y, z, o, rfl, rfl, g, q⟩ := h
  obtain rfl : v = Value.ref a := rx
  obtain ⟨u, t, rfl, ry, rt⟩ := rs.two
  exact d_get2 hu I g ry rt fun w' s3 I3 rw' => ⟨_, H, I3, rw', q⟩
def meName : ME → Str
  | .append => "append" | .extend => "extend" | .pop => "pop" | .popAt => "pop" | .get1 => "get" | .get2 => "get"
def meId : ME → String
  | .append => "list.append" | .extend => "list.extend" | .pop => "list.pop" | .popAt => "list.pop" | .get1 => "dict.get" | .get2 => "dict.get"
def meTy : ME → String
  | .get1 => "dict" | .get2 => "dict" | _ => "list"
def rME : ME → RM
  | .append => L2.rAppend | .extend => L2.rExtend | .pop => L2.rPop | .popAt => L2.rPopAt | .get1 => rGet1 | .get2 => rGet2
theorem meRule {X : Cx} (hu : X.A.units + 1 < cLine) : ∀ m : ME, MtR X (meId m) (rME m)
  | .append => mt_append
  | .extend => mt_extend
  | .pop => mt_pop
  | .popAt => mt_popAt
  | .get1 => mt_get1 hu
  | .get2 => mt_get2 hu
theorem mePlain : ∀ m : ME, PlainAttrs (meTy m)
  | .append => PySem.F.plainAttrs_list
  | .extend => PySem.F.plainAttrs_list
  | .pop => PySem.F.plainAttrs_list
  | .popAt => PySem.F.plainAttrs_list
  | .get1 => PySem.F.plainAttrs_dict
  | .get2 => PySem.F.plainAttrs_dict
theorem meSlot : ∀ m : ME, Slot (meTy m) (meName m) (meId m)
  | .append => PySem.F.slot_list_append
  | .extend => PySem.F.slot_list_extend
  | .pop => PySem.F.slot_list_pop
  | .popAt => PySem.F.slot_list_pop
  | .get1 => PySem.F.slot_dict_get
  | .get2 => PySem.F.slot_dict_get
theorem meType : ∀ m : ME, typeOf (.builtin (meId m)) = pure (.type "method_descriptor")
  | .append => PySem.F.type_list_append
  | .extend => PySem.F.type_list_extend
  | .pop => PySem.F.type_list_pop
  | .popAt => PySem.F.type_list_pop
  | .get1 => PySem.F.type_dict_get
  | .get2 => PySem.F.type_dict_get
theorem rcv_ok {m : ME} {x : W} {v : V} (R : Rep K L C H) (r : RW K H L x v) (h : meRcv C m x = true) : tyV K (meTy m) v H := by
  cases x with
  | ref n =>
    have lst : (lstAt C n).isSome = true → tyV K "list" v H := fun h => by
      obtain ⟨xs, hx⟩ := Option.isSome_iff_exists.mp h
      obtain ⟨a, vs, e, ha, sq, s⟩ := lst_of R hx r
      subst e
      exact .inl ⟨rfl, vs, sq⟩
    have dic : open_ C n = true → tyV K "dict" v H := fun h => by
      obtain ⟨a, e, ha⟩ := r.ref_inv
      subst e
      unfold open_ at h
      split at h
      · rename_i kvs g
        obtain ⟨us, k1, k2⟩ := R.at ha g
        exact .inr (.inr (.inl ⟨rfl, .inl ⟨us, k1⟩⟩))
      · rename_i kvs g
        obtain ⟨us, k1, k2⟩ := R.at ha g
        exact .inr (.inr (.inl ⟨rfl, .inr ⟨us, k1⟩⟩))
      · cases h
    cases m with
    | get1 => exact dic h
    | get2 => exact dic h
    | _ => exact lst h
  | _ => cases h
theorem rop_getD {o : Option W} {o' : Option V} {d : W} {d' : V} (h : ROp K H L o o') (hd : RW K H L d d') : RW K H L (o.getD d) (o'.getD d') := by
  cases o <;> cases o' <;> first | exact h.elim | exact hd | exact h
theorem methW_ok {m : ME} {x : W} {v : V} {ws : List W} {vs : List V} (R : Rep K L C H) (r : RW K H L x v) (rs : RWs K H L ws vs) (p : Post K H L (methW m x ws C) Q E) : rME m v vs H Q := by
  unfold methW at p
  split at p
  · obtain ⟨a, e, ha⟩ := r.ref_inv
    obtain ⟨u, rfl, ru⟩ := vs1 rs
    split at p
    · rename_i xs g
      obtain ⟨c, p⟩ := post_if p
      obtain ⟨us, h1, s⟩ := R.at ha g
      exact ⟨a, us, u, e, rfl, h1, by rw [s.length]; exact short_le c, p.setLst R ha g (s.append (.cons ru .nil)) .non⟩
    · exact p.elim
  · obtain ⟨a, e, ha⟩ := r.ref_inv
    obtain ⟨u, rfl, ru⟩ := vs1 rs
    obtain ⟨b, e2, hb⟩ := ru.ref_inv
    subst e2
    split at p
    · rename_i xs ys g1 g2
      obtain ⟨c, p⟩ := post_if p
      have hz := short_le c
      rw [List.length_append] at hz
      obtain ⟨us, h1, s⟩ := R.at ha g1
      obtain ⟨zs, h2, s2⟩ := R.at hb g2
      exact ⟨a, b, us, zs, e, rfl, h1, h2, by rw [s.length, s2.length]; omega, p.setLst R ha g1 (s.append s2) .non⟩
    · exact p.elim
  · obtain ⟨a, e, ha⟩ := r.ref_inv
    cases rs
    split at p
    · rename_i xs g
      obtain ⟨us, h1, s⟩ := R.at ha g
      split at p
      · rename_i y g2
        obtain ⟨z, hz, rz⟩ := s.get g2
        refine ⟨a, us, z, e, rfl, h1, by rw [s.length]; exact hz, p.setLst R ha g s.dropLast rz⟩
      · exact p.elim
    · exact p.elim
  · obtain ⟨a, e, ha⟩ := r.ref_inv
    obtain ⟨u, rfl, ru⟩ := vs1 rs
    rw [ru.int_inv]
    split at p
    · rename_i xs g
      obtain ⟨us, h1, s⟩ := R.at ha g
      obtain ⟨c, p⟩ := post_if p
      obtain ⟨c1, c2⟩ := Bool.and_eq_true_iff.mp c
      have d1 := of_decide_eq_true c1
      have d2 := of_decide_eq_true c2
      split at p
      · rename_i k g2
        split at p
        · rename_i y g3
          obtain ⟨z, hz, rz⟩ := s.get g3
          exact ⟨a, us, _, k, z, e, rfl, h1, by omega, by omega, by rw [s.length]; exact g2, hz, p.setLst R ha g (s.eraseIdx k) rz⟩
        · exact p.elim
      · exact p.elim
    · exact p.elim
  · obtain ⟨u, rfl, ru⟩ := vs1 rs
    obtain ⟨c, p⟩ := post_if p
    split at p
    · rename_i o g
      obtain ⟨a, o', e, d, _, ro⟩ := dget_ok R g r ru
      exact ⟨a, u, o', e, rfl, d, p.same R (rop_getD ro .non)⟩
    · exact p.elim
  · obtain ⟨u, t, rfl, ru, rt⟩ := vs2 rs
    obtain ⟨c, p⟩ := post_if p
    split at p
    · rename_i o g
      obtain ⟨a, o', e, d, _, ro⟩ := dget_ok R g r ru
      exact ⟨a, u, t, o', e, rfl, d, p.same R (rop_getD ro rt)⟩
    · exact p.elim
  · exact p.elim
end
end RF
end
section
set_option Elab.async false
set_option linter.all false
set_option maxRecDepth 100000
set_option maxHeartbeats 2000000
/-! RF5: targets, walks, loops. -/
namespace RF
open PySem PySem.Spec PyProof.Rows L2
/-! ### enumerate of a tuple -/
theorem enumT_new (l : Addr) (items : Array Value) (n : Nat) (dct : Option Addr) (sl : Array (Option Value)) :
    Meets (Builtin.«enumerate.__new__» ⟨[.type "enumerate", .ref l], []⟩) (fun _ R s => s.heap.get? l = some { cls := .type "tuple", dict := dct, data := .seq items n, slots := sl } ∧
      R (.ok (.ret (.ref (s.heap.push { cls := .type "tuple_iterator", data := .fields #[.ref l, .int 0 0] }).objs.size)))
        { s with heap := (s.heap.push { cls := .type "tuple_iterator", data := .fields #[.ref l, .int 0 0] }).push { cls := .type "enumerate", data := .fields #[.none, .bool false, .ref s.heap.objs.size, rawInt 0, .none, .none] } }) :=
  .of_wp fun prog w A R s h => by
    obtain ⟨hp, g, d, tk, os⟩ := s; obtain ⟨hl, h⟩ := h
    have hs1 := sub_enumerate
    have hL2 : Heap.IsTuple (Shared.heap ⟨hp, g, d, tk, os⟩) l items := ⟨_, hl, rfl, n, rfl⟩
    wp_walk using AutoSeq1.wpAny_loadPart' hl
    refine wpAny_stack_any fun st => wpAny_pure ?_
    split
    · rename_i c _ _ _ _ _
      cases (c == Value.type "enumerate") <;> (wp_walk using AutoSeq1.wpAny_loadPart' hl, wpAny_pyIter_tuple hL2) <;> exact ⟨_, rfl, h⟩
    · wp_walk using AutoSeq1.wpAny_loadPart' hl, wpAny_pyIter_tuple hL2
      exact ⟨_, rfl, h⟩
theorem call_enumT {prog : Program} {w : World} {A : Around} {E : Value → Shared → Prop} {s : Shared} {l : Addr} {items : Array Value} {Q : Value → Shared → Prop} (hL : s.heap.IsTuple l items)
    (h : ∀ h2, IsEnum h2 (s.heap.objs.size + 1) s.heap.objs.size 0 .none → h2.IsTupleIter s.heap.objs.size l 0 → h2.objs.size = s.heap.objs.size + 2 →
      (∀ b o, s.heap.get? b = some o → h2.get? b = some o) → Q (.ref (s.heap.objs.size + 1)) { s with heap := h2 }) :
    wpAny (model prog w) A (call (.type "enumerate") [.ref l]) Q E s := by
  obtain ⟨⟨c, dct, dt, sl⟩, hl, hc, n, hd⟩ := hL
  have hc2 : c = .type "tuple" := hc
  have hd2 : dt = .seq items n := hd
  subst hc2 hd2
  refine callType_new F.called_enumerate (by decide) (F.typeCall_enumerate_1 _) (F.newCall_enumerate_1 _) (fun obj => F.args_object_init_2 obj _) F.entry_enumerate_new (enumT_new l items n dct sl) ⟨hl, ?_⟩
  have z : (s.heap.push { cls := .type "tuple_iterator", data := .fields #[.ref l, .int 0 0] }).objs.size = s.heap.objs.size + 1 := Heap.size_push ..
  show _ ∧ _
  rw [z]
  have he : IsEnum ((s.heap.push { cls := .type "tuple_iterator", data := .fields #[.ref l, .int 0 0] }).push { cls := .type "enumerate", data := .fields #[.none, .bool false, .ref s.heap.objs.size, rawInt 0, .none, .none] }) (s.heap.objs.size + 1) s.heap.objs.size 0 .none := by
    have q := Heap.get?_push_size (s.heap.push { cls := .type "tuple_iterator", data := .fields #[.ref l, .int 0 0] }) (o := { cls := .type "enumerate", data := .fields #[.none, .bool false, .ref s.heap.objs.size, rawInt 0, .none, .none] }) rfl
    rw [z] at q; exact q
  refine ⟨⟨_, he, rfl⟩, h _ he ⟨_, Heap.get?_push_of_some _ (Heap.get?_push_size _ rfl), rfl, rfl⟩ (by rw [Heap.size_push, z]) fun b o x => Heap.get?_push_of_some _ (Heap.get?_push_of_some _ x)⟩
/-- the tuple at a, each item in a new pair with its place -/
def IteT (K : Fg) (a : Addr) : It :=
  ⟨fun i H => ∃ (xs : List V) (x : V), SqT K H a xs ∧ xs[i]? = some x, fun i H v H2 => ∃ T x, v = .ref T ∧ H T = none ∧ H2 = upd H T (.tup [.int (i : Nat), x]) ∧ ∀ xs, SqT K H a xs → xs[i]? = some x, fun i H => ∃ xs : List V, SqT K H a xs ∧ xs.length ≤ i⟩
theorem turn_enumT {P : Program} {w : World} {K : Fg} {elts : List Expr} {kk : Nat} {tpos : Pos} (a e it : Addr) :
    Turn P w K (.Tuple elts kk tpos) (IteT K a) [e, it] e (fun i h => (∃ old, IsEnum h e it ((i : Nat) : Int) old) ∧ h.IsTupleIter it a i ∧ e ≠ it ∧ a ≠ it ∧ a ≠ e) where
  mem := List.mem_cons_self ..
  obj := fun i h st b hb => by
    obtain ⟨⟨old, he⟩, ⟨o, ho, hc, hd⟩, _⟩ := st
    have q : b = e ∨ b = it := by simpa using hb
    rcases q with z | z
    · rw [z]; exact ⟨_, he, fun v q => nomatch q⟩
    · rw [z]; exact ⟨o, ho, fun v q => by rw [hd] at q; cases q⟩
  keep := fun i h h2 st k => by
    obtain ⟨⟨old, he⟩, hi, hne⟩ := st
    exact ⟨⟨old, k e (by simp) _ he⟩, hi.at fun o q => k it (by simp) o q, hne⟩
  item := by
    intro X hP hw hK hc i pins s σ H E I hf st hg
    subst hP hw hK
    obtain ⟨⟨old, he⟩, hit, hne, hai, hae⟩ := st
    obtain ⟨xs, x, hq, hx⟩ := hg
    obtain ⟨its, rv, p, hz⟩ := I.tuple hq
    have pT : s.heap.IsTuple a its.toArray := p
    have hel : e < s.heap.objs.size := Heap.lt_size he
    have hil : it < s.heap.objs.size := by obtain ⟨_, q, _⟩ := hit; exact Heap.lt_size q
    have hlt : i < its.toArray.size := by
      have l1 := rv.length
      have l2 : i < xs.length := by
        rcases Nat.lt_or_ge i xs.length with q | q
        · exact q
        · rw [List.getElem?_eq_none q] at hx; cases hx
      rw [List.size_toArray]; omega
    have hh : X.A.in1.handled = none := I.ok.hd hc
    refine wpAny_pyNext_enum_itemD (Draws.tuple hh it a hai its.toArray) he ⟨hit, pT⟩ hlt hne (by simp [hne, hae.symm]) fun x' h1 tk hP ho hst hT hsz hk => ?_
    obtain ⟨u, hu, ru⟩ := rv.get hx
    have hxu : x' = u := by
      have q : its.toArray[i]? = some u := by simpa using hu
      rw [hP] at q
      exact Option.some.inj q
    subst hxu
    refine ⟨_, rfl, wpAny_letOwnedTupleGo_enum (s := { s with heap := h1, toks := tk + 1 }) ho fun h2 he2 sb => ?_⟩
    have hT2 : h2.get? s.heap.objs.size = some { cls := .type "tuple", data := .seq #[.int i tk, x'] } := (sb.2 _ (Nat.ne_of_gt hel)).trans hT
    have fresh : H s.heap.objs.size = none := I.hok.fresh (Nat.le_refl _)
    have new : ObjOk X.prog X.w (upd H s.heap.objs.size (.tup [.int (i : Nat), x])) h2 s.heap.objs.size (.tup [.int (i : Nat), x]) :=
      ⟨by show 2 ≤ sizeLine; decide, [.int i tk, x'], .cons ⟨_, rfl⟩ (.cons ru .nil), ⟨_, hT2, rfl, _, rfl⟩⟩
    have I1 : Inv X pins σ (upd H s.heap.objs.size (.tup [.int (i : Nat), x])) { s with heap := h2, toks := tk + 1 } :=
      I.turnedNew (ch := [e, it]) (fun b ob hb q => by
        have n1 : b ≠ e := fun z => hb (by simp [z])
        have n2 : b ≠ it := fun z => hb (by simp [z])
        exact (sb.2 b n1).trans (hk b ob n1 n2 q)) hf (Nat.le_refl _) new
    refine ⟨.ref s.heap.objs.size, _, I1, rfl, ⟨_, x, rfl, fresh, rfl, fun ys hy => by rw [I.tuple_inj hy hq]; exact hx⟩, ⟨⟨x', ?_⟩, hst.1.at fun o q => (sb.2 it (Ne.symm hne)).trans q, hne, hai, hae⟩, fun b hb => ?_⟩
    · have e1 : ((i + 1 : Nat) : Int) = (i : Int) + 1 := by omega
      rw [e1]; exact he2
    · have hlt2 : b < s.heap.objs.size := by
        have q : b = e ∨ b = it := by simpa using hb
        rcases q with z | z <;> (rw [z]; assumption)
      rw [upd_ne (Nat.ne_of_lt hlt2)]
      exact (hf b hb).1
  done := by
    intro X hP hw hK hc i pins s σ H E I hf st hg
    subst hP hw hK
    obtain ⟨⟨old, he⟩, hit, hne, hai, hae⟩ := st
    obtain ⟨xs, hq, hx⟩ := hg
    obtain ⟨its, rv, p, hz⟩ := I.tuple hq
    have pT : s.heap.IsTuple a its.toArray := p
    obtain ⟨f0, f1, f2, f3, f4, f5⟩ := hf it (by simp)
    have hh : X.A.in1.handled = none := I.ok.hd hc
    have l1 := rv.length
    -- behind the end the same place is asked
    have D : Draws X.prog X.w X.A.in1 it [it, a] 0 (fun _ _ => False) (fun j h => h.IsTupleIter it a i ∧ h.IsTuple a its.toArray) := {
      live := fun _ _ st => by obtain ⟨o, ho, _⟩ := st.1; exact ⟨o, ho⟩
      frame := fun _ _ _ st hk => ⟨st.1.at fun o q => hk it (by simp) o q, st.2.at fun o q => hk a (by simp) o q⟩
      item := fun j s Q E hj st hQ => absurd hj (Nat.not_lt_zero j)
      done := fun s Q E st hE => wpAny_nextOf_tuple_end hh st.1 st.2 (by simp; omega) hE }
    exact wpAny_pyNext_enum_endD D he ⟨hit, pT⟩ fun h2 eb => ⟨rfl, I.turned (t' := s.toks) (fun b o hb q => eb b o hb q) f0 f1 f3 f4 f5⟩
  self := fun A i s Q E st h => by
    obtain ⟨⟨_, he⟩, _⟩ := st
    exact wpAny_pyIter_enum he h
/-- enumerate(x): a list, a tuple -/
def iEnumA (K : Fg) (ta : TA) : TI := fun σ H R => ta σ H fun vs H1 => ∃ a xs, vs = [.ref a] ∧ ((SqL K H1 a xs ∧ R (Ite K a) H1) ∨ (SqT K H1 a xs ∧ R (IteT K a) H1))
theorem pi_enumA {X : Cx} {e : Expr} {ta : TA} {p pos tpos : Pos} {elts : List Expr} {kk : Nat} (hg : Gl X "enumerate") (hm : X.mg "enumerate" = none) (ha : PA X [e] ta) (hs : starEach [e] X.env = [(false, eval e X.env)]) :
    PI X (.Tuple elts kk tpos) (.Call (.Name "enumerate" p) [e] [] pos) (iEnumA X.K ta) := by
  refine ⟨fun pins s σ H R I h => ?_⟩
  refine Call_ (ld_blt I hg hm boot_enumerate (PyProof.Rows.callWith_type1 (thn (ha.run pos pins s σ H _ I h) fun us s1 ⟨vs, H1, I1, r1, q1⟩ => ?_) hs rfl))
  obtain ⟨a, xs, ex, hq⟩ := q1
  subst ex
  cases r1 with
  | cons r rr =>
    cases rr
    cases r
    have two : ∀ b, b ∈ [s1.heap.objs.size + 1, s1.heap.objs.size] → FpOk X pins H1 b := fun b hb => by
      have hle : s1.heap.objs.size ≤ b := by
        have q : b = s1.heap.objs.size + 1 ∨ b = s1.heap.objs.size := by simpa using hb
        omega
      exact I1.fpOk hle (I1.hok.fresh hle)
    rcases hq with ⟨hq, q⟩ | ⟨hq, q⟩
    · obtain ⟨its, rv, p2, hz⟩ := I1.list hq
      refine call_enumerate_list p2.isList fun h2 he hit hsz hk => wpAny_pyIter_enum he ?_
      have I2 : Inv X pins σ H1 { s1 with heap := h2 } := I1.kept (t' := s1.toks) hk
      exact ⟨s1.heap.objs.size + 1, [s1.heap.objs.size + 1, s1.heap.objs.size], _, _, H1, rfl, I2, turn_enum a (s1.heap.objs.size + 1) s1.heap.objs.size, ⟨⟨.none, he⟩, hit, Nat.succ_ne_self _⟩, two, q⟩
    · obtain ⟨its, rv, p2, hz⟩ := I1.tuple hq
      have pT : s1.heap.IsTuple a its.toArray := p2
      have hal : a < s1.heap.objs.size := by obtain ⟨o, ho, _⟩ := pT; exact Heap.lt_size ho
      refine call_enumT pT fun h2 he hit hsz hk => wpAny_pyIter_enum he ?_
      have I2 : Inv X pins σ H1 { s1 with heap := h2 } := I1.kept (t' := s1.toks) hk
      exact ⟨s1.heap.objs.size + 1, [s1.heap.objs.size + 1, s1.heap.objs.size], _, _, H1, rfl, I2, turn_enumT a (s1.heap.objs.size + 1) s1.heap.objs.size, ⟨⟨.none, he⟩, hit, Nat.succ_ne_self _, Nat.ne_of_lt hal, Nat.ne_of_lt (Nat.lt_succ_of_lt hal)⟩, two, q⟩
end RF
end
section
set_option Elab.async false
set_option linter.all false
set_option maxRecDepth 100000
set_option maxHeartbeats 2000000
/-! RF6: what is asked of the text (the checks), targets, walks. -/
namespace RF
open PySem PySem.Spec PyProof.Rows L2
/-! ### where a text stands -/
/-- the names by slot, the scope, for a comprehension's block the scope as it is written -/
structure SD where
  N : List Str
  sc : Scope
  raw : Option Scope
inductive GK where
  | int (i : Int) | fn (f : Nat) (kw : List (List Str × List Nat)) | cls (c : Nat) (fld : Option Str) (base : String)
  deriving DecidableEq
def visB (sc : Scope) (x : Str) : Bool := match sc.names.lookup x with
  | some .local => true
  | some .cell => true
  | some .free => true
  | _ => false
def glB (sc : Scope) (x : Str) : Bool := match sc.names.lookup x with
  | some .globalImplicit => true
  | _ => false
def locB (sd : SD) (x : Str) : Bool := match (match sd.raw with
    | some r => r.names.lookup x
    | none => sd.sc.names.lookup x) with
  | some .local => true
  | some .cell => true
  | _ => false
def okName (x : Str) : Bool := !(x == ("__debug__" : Str)) && !(x == ("__classdict__" : Str))
/-- built-in names that no module hides -/
def freeNames : List Str := ["len", "all", "any", "sum", "tuple", "list", "int", "abs", "min", "max", "sorted", "isinstance", "range", "enumerate", "zip", "reversed", "set", "bool", "str", "dict"]
def freeB (x : Str) : Bool := freeNames.contains x
def tyNames : List String := ["int", "bool", "str", "tuple", "list", "dict"]
theorem vis_of {sc : Scope} {x : Str} (h : visB sc x = true) : Vis sc x := by
  unfold visB at h
  split at h
  · rename_i e; exact .inl e
  · rename_i e; exact .inr (.inl e)
  · rename_i e; exact .inr (.inr e)
  · cases h
theorem ok_name {x : Str} (h : okName x = true) : (x == ("__debug__" : Str)) = false ∧ (x == ("__classdict__" : Str)) = false := by
  unfold okName at h
  obtain ⟨h1, h2⟩ := Bool.and_eq_true_iff.mp h
  exact ⟨(Bool.not_eq_true' _).mp h1, (Bool.not_eq_true' _).mp h2⟩
def starB : Expr → Bool
  | .Starred _ _ => true
  | _ => false
theorem star_of {e : Expr} {es : List Expr} {env : Env} (h : starB e = false) : starEach (e :: es) env = (false, eval e env) :: starEach es env := by
  cases e <;> first | rfl | cases h
theorem stars_of {env : Env} {pos : Pos} : ∀ {es : List Expr}, es.all (fun e => !starB e) = true → (backTo pos (starEach es env)).any (·.1) = false
  | [], _ => rfl
  | e :: es, h => by
    rw [List.all_cons, Bool.and_eq_true] at h
    rw [star_of ((Bool.not_eq_true' _).mp h.1)]
    show (false || (backTo pos (starEach es env)).any (·.1)) = false
    rw [stars_of h.2] <;> rfl
theorem assigns_of {env : Env} {e : Expr} {es : List Expr} (h : starB e = false) : assignEach (e :: es) env = (false, assign e env) :: assignEach es env := by
  cases e <;> first | rfl | cases h

/-! ### the check of targets -/
mutual
def chkP (sd : SD) : CP → Expr → Bool
  | .nm i, .Name x _ => decide (sd.N[i]? = some x) && locB sd x
  | .tp ps, .Tuple ts _ _ => chkPs sd ps ts
  | _, _ => false
def chkPs (sd : SD) : CP → List Expr → Bool
  | .nil, [] => true
  | .cons p ps, t :: ts => !starB t && (chkP sd p t && chkPs sd ps ts)
  | _, _ => false
end
/-- the slots that a target sets -/
def tgtIx : CP → List Nat
  | .nm i => [i]
  | .tp ps => tgtIx ps
  | .nil => []
  | .cons p ps => tgtIx p ++ tgtIx ps

/-! ### a context in which a text runs -/
def SpF (K : Fg) (run : Nat → List W → CH → R W) (f : Nat) (vs : List V) (H : Hp) (Q : VK) (E : EX) : Prop := ∃ L C ws, Rep K L C H ∧ RWs K H L ws vs ∧ Post K H L (run f ws C) Q E
/-- a call by keywords alone binds what the call by places does -/
structure KwP (K : Fg) (fd : FuncData) (ps : List Str) (ks : List Str) (pm : List Nat) : Prop where
  to : ∀ (s : Shared) (ws us : List Value), K.In s.heap → ws.length = ks.length → mapO (fun i => ws[i]?) pm = some us → BindsTo s fd ⟨[], ks.zip ws⟩ (ps.zip us)
/-- what is wished of an exception, by its class's number and its arguments -/
def toEx (xs : List (Str × Option Str)) (K : Fg) (XE : XK) : EX := fun c vs H => match xs[c]? with
  | none => False
  | some (x, none) => vs = [] ∧ XE (.ref (He.ga K x)) none H
  | some (x, some f) => ∃ v, vs = [v] ∧ ∀ d, H d = none → XE (.ref (He.ga K x)) (some d) (upd H d (.xd [(f, v)]))
structure Env1 where
  run : Nat → List W → CH → R W
  GT : Str → Option GK
  np : Nat → Nat
  xs : List (Str × Option Str)
  cx : List Env → Hp → Shared → XK → Value → Shared → Prop
  cx0 : ∀ o H s e s', cx o H s (fun _ _ _ => False) e s' → False
abbrev Env1.toE (V1 : Env1) : Fg → XK → EX := toEx V1.xs
def Env1.sp (V1 : Env1) (K : Fg) (f : Nat) : Sp := fun vs H Q XE => vs.length = V1.np f ∧ SpF K V1.run f vs H Q (V1.toE K XE)
structure Ctx (V1 : Env1) (E : L2.St → EX) (sd : SD) (X : Cx) : Prop where
  N : X.N = sd.N
  nd : sd.N.Nodup
  sc : X.env.scope = sd.sc
  calm : X.calm = true
  hu : X.A.units + 64 < cLine
  sto : ∀ x, locB sd x = true → Loc X.env.scope x ∧ (X.fn x = true ∨ X.env.scope.names.lookup x = some .local)
  int : ∀ x i, V1.GT x = some (.int i) → ∃ t, X.mg x = some (.int i t)
  blt : ∀ x, freeB x = true → X.mg x = none
  fns : ∀ x f kw, V1.GT x = some (.fn f kw) → ∃ fd ps k, ∃ XE : L2.St → XK, X.mg x = some (.ref (He.ga X.K x)) ∧ PySem.W.keepIn X.K (.ref (He.ga X.K x)) = true ∧ Room k X.A ∧ FnOk X.prog X.w X.K X.mg X.base V1.cx k (He.ga X.K x) fd ps (V1.sp X.K f) ∧ Binds X.K fd ps [] ∧ (∀ σ, PassesAt V1.cx X σ (XE σ)) ∧
    (∀ σ c vs H, E σ c vs H → V1.toE X.K (XE σ) c vs H) ∧ (∀ ks pm, (ks, pm) ∈ kw → KwP X.K fd ps ks pm) ∧ ∀ es : List W, ∀ C, V1.run f es C = .bad ∨ es.length = V1.np f
theorem gl_of {X : Cx} {sd : SD} {x : Str} (hs : X.env.scope = sd.sc) (h : glB sd.sc x = true) : Gl X x := by
  unfold glB at h
  show X.env.scope.names.lookup x = _
  rw [hs]
  split at h
  · rename_i e; exact e
  · cases h

/-! ### targets -/
/-- what a target's reading asks -/
def tP (K : Fg) (p : CP) : TG := fun v σ H Q => ∃ L C s w, Rep K L C H ∧ RSt K H L s σ ∧ RW K H L w v ∧ ∃ s', bindP C p w s = some s' ∧ ∀ σ', RSt K H L s' σ' → (∀ vs : List Nat, (∀ i ∈ tgtIx p, i ∈ vs) → L2.wipe σ' vs = L2.wipe σ vs) → Q σ' H
def tPs (K : Fg) (p : CP) : TGs := fun vs σ H Q => ∃ L C s ws, Rep K L C H ∧ RSt K H L s σ ∧ RWs K H L ws vs ∧ ∃ s', bindP C p (.tup ws) s = some s' ∧ ∀ σ', RSt K H L s' σ' → (∀ vs : List Nat, (∀ i ∈ tgtIx p, i ∈ vs) → L2.wipe σ' vs = L2.wipe σ vs) → Q σ' H
theorem PG.imp {X : Cx} {tg : Expr} {t t' : TG} (h : PG X tg t) (i : ∀ v σ H Q, t' v σ H Q → t v σ H Q) : PG X tg t' := ⟨fun pins s σ H v u Q I r q => h.run pins s σ H v u Q I r (i v σ H Q q)⟩
theorem PGs.imp {X : Cx} {tg : List Expr} {t t' : TGs} (h : PGs X tg t) (i : ∀ v σ H Q, t' v σ H Q → t v σ H Q) : PGs X tg t' := ⟨fun pins s σ H v u Q I r q => h.run pins s σ H v u Q I r (i v σ H Q q)⟩
theorem PG.or {X : Cx} {tg : Expr} {t t' : TG} (h : PG X tg t) (h' : PG X tg t') : PG X tg (fun v σ H Q => t v σ H Q ∨ t' v σ H Q) := ⟨fun pins s σ H v u Q I r q => by
  rcases q with q | q
  · exact h.run pins s σ H v u Q I r q
  · exact h'.run pins s σ H v u Q I r q⟩
theorem wipe_set {σ : L2.St} {i : Nat} {x : Option V} : ∀ {vs : List Nat}, i ∈ vs → L2.wipe (σ.set i x) vs = L2.wipe σ vs
  | v :: vs, h => by
    show (L2.wipe (σ.set i x) vs).set v none = (L2.wipe σ vs).set v none
    by_cases hi : i ∈ vs
    · rw [wipe_set hi]
    · have e : i = v := by
        rcases List.mem_cons.mp h with e | e
        · exact e
        · exact absurd e hi
      subst e
      have key : ∀ us : List Nat, i ∉ us → L2.wipe (σ.set i x) us = (L2.wipe σ us).set i x := by
        intro us
        induction us with
        | nil => intro _; rfl
        | cons u us ih =>
          intro hu
          have h1 : i ≠ u := fun z => hu (by rw [z]; exact List.mem_cons_self ..)
          have h2 : i ∉ us := fun z => hu (List.mem_cons_of_mem _ z)
          show (L2.wipe (σ.set i x) us).set u none = ((L2.wipe σ us).set u none).set i x
          rw [ih h2, List.set_comm _ _ h1]
      rw [key vs hi, List.set_set]
def lenP : CP → Nat
  | .cons _ ps => lenP ps + 1
  | _ => 0
theorem bind_len {C : CH} : ∀ {p : CP} {ws : List W} {s s' : St} {sd : SD} {ts : List Expr}, chkPs sd p ts = true → bindP C p (.tup ws) s = some s' → ws.length = ts.length
  | .nil, [], _, _, _, [], _, _ => rfl
  | .nil, _ :: _, _, _, _, _, _, h => by simp [bindP] at h
  | .nil, [], _, _, _, _ :: _, h, _ => by simp [chkPs] at h
  | .cons p ps, [], _, _, _, _, _, h => by simp [bindP] at h
  | .cons p ps, x :: r, s, s', sd, [], h, _ => by simp [chkPs] at h
  | .cons p ps, x :: r, s, s', sd, t :: ts, h, h2 => by
    simp only [chkPs, Bool.and_eq_true] at h
    simp only [bindP] at h2
    split at h2
    · rw [List.length_cons, List.length_cons, bind_len h.2.2 h2]
    · cases h2
  | .nm _, _, _, _, _, ts, h, _ => by cases ts <;> simp [chkPs] at h
  | .tp _, _, _, _, _, ts, h, _ => by cases ts <;> simp [chkPs] at h
theorem chkPs_stars {sd : SD} : ∀ {p : CP} {ts : List Expr}, chkPs sd p ts = true → ∀ env, (assignEach ts env).length = ts.length ∧ (assignEach ts env).findIdx? (·.1) = none
  | .nil, [], _, _ => ⟨rfl, rfl⟩
  | .nil, _ :: _, h, _ => by simp [chkPs] at h
  | .cons p ps, [], h, _ => by simp [chkPs] at h
  | .cons p ps, t :: ts, h, env => by
    simp only [chkPs, Bool.and_eq_true] at h
    obtain ⟨i1, i2⟩ := chkPs_stars h.2.2 env
    rw [assigns_of ((Bool.not_eq_true' _).mp h.1)]
    refine ⟨by rw [List.length_cons, List.length_cons, i1], ?_⟩
    rw [List.findIdx?_cons]
    show (if false = true then some 0 else _) = _
    rw [if_neg (by decide), i2] <;> rfl
  | .nm _, ts, h, _ => by cases ts <;> simp [chkPs] at h
  | .tp _, ts, h, _ => by cases ts <;> simp [chkPs] at h
section
variable {V1 : Env1} {E : L2.St → EX} {sd : SD} {X : Cx}
theorem pat_ok (cx : Ctx V1 E sd X) : ∀ p : CP, (∀ tg, chkP sd p tg = true → PG X tg (tP X.K p)) ∧ (∀ ts, chkPs sd p ts = true → PGs X ts (tPs X.K p)) := by
  intro p
  induction p with
  | nm i =>
    refine ⟨fun tg h => ?_, fun ts h => by cases ts <;> simp [chkPs] at h⟩
    cases tg with
    | Name x pos =>
      simp only [chkP, Bool.and_eq_true, decide_eq_true_eq] at h
      obtain ⟨l1, l2⟩ := cx.sto x h.2
      refine PG.imp (pg_name (i := i) (by rw [cx.N]; exact cx.nd) (by rw [cx.N]; exact h.1) l1 l2) ?_
      rintro v σ H Q ⟨L, C, s, w, R, S, r, s', hb, q⟩
      simp only [bindP] at hb
      split at hb
      · cases hb
        exact q _ (S.set i r) fun vs hv => wipe_set (hv i (List.mem_singleton.mpr rfl))
      · cases hb
    | _ => simp [chkP] at h
  | tp ps ih =>
    refine ⟨fun tg h => ?_, fun ts h => by cases ts <;> simp [chkPs] at h⟩
    cases tg with
    | Tuple ts k pos =>
      simp only [chkP] at h
      obtain ⟨n1, n2⟩ := chkPs_stars h X.env
      have hs := ih.2 ts h
      refine PG.imp (PG.or (pg_tup (k := k) (pos := pos) (n := ts.length) cx.calm hs n1 n2) (pg_unl (k := k) (pos := pos) (n := ts.length) cx.calm hs n1 n2)) ?_
      rintro v σ H Q ⟨L, C, s, w, R, S, r, s', hb, q⟩
      simp only [bindP] at hb
      split at hb
      · rename_i xs g
        have hl := bind_len h hb
        cases w with
        | tup ys =>
          cases g
          obtain ⟨a, vs, e, h1, s1⟩ := r.tup_inv
          exact .inl ⟨a, vs, e, SqT.of h1, by rw [s1.length, hl], L, C, s, xs, R, S, s1, s', hb, q⟩
        | scr ys =>
          cases g
          obtain ⟨a, vs, e, sq, s1⟩ := r.scr_inv
          exact .inr ⟨a, vs, e, sq, by rw [s1.length, hl], L, C, s, xs, R, S, s1, s', hb, q⟩
        | ref n =>
          obtain ⟨a, vs, e, ha, sq, s1⟩ := lst_of R (show lstAt C n = some xs from g) r
          exact .inr ⟨a, vs, e, sq, by rw [s1.length, hl], L, C, s, xs, R, S, s1, s', hb, q⟩
        | _ => cases g
      · cases hb
    | _ => simp [chkP] at h
  | nil =>
    refine ⟨fun tg h => by cases tg <;> simp [chkP] at h, fun ts h => ?_⟩
    cases ts with
    | nil =>
      refine PGs.imp pgs_nil ?_
      rintro vs σ H Q ⟨L, C, s, ws, R, S, r, s', hb, q⟩
      cases ws with
      | nil =>
        cases r
        simp only [bindP] at hb
        cases hb
        exact ⟨rfl, q σ S fun _ _ => rfl⟩
      | cons _ _ => simp [bindP] at hb
    | cons _ _ => simp [chkPs] at h
  | cons p ps ih1 ih2 =>
    refine ⟨fun tg h => by cases tg <;> simp [chkP] at h, fun ts h => ?_⟩
    cases ts with
    | nil => simp [chkPs] at h
    | cons t ts =>
      simp only [chkPs, Bool.and_eq_true] at h
      have hst := (Bool.not_eq_true' _).mp h.1
      refine PGs.imp (pgs_cons (ih1.1 t h.2.1) (ih2.2 ts h.2.2) (by rw [assigns_of hst] <;> rfl)) ?_
      rintro vs σ H Q ⟨L, C, s, ws, R, S, r, s', hb, q⟩
      cases ws with
      | nil => simp [bindP] at hb
      | cons x ws =>
        cases r with
        | cons r1 r2 =>
          simp only [bindP] at hb
          split at hb
          · rename_i s1 hb1
            refine ⟨_, _, rfl, L, C, s, x, R, S, r1, s1, hb1, fun σ1 S1 w1 => ?_⟩
            refine ⟨L, C, s1, ws, R, S1, r2, s', hb, fun σ2 S2 w2 => q σ2 S2 fun vs hv => ?_⟩
            rw [w2 vs fun i hi => hv i (List.mem_append_right _ hi), w1 vs fun i hi => hv i (List.mem_append_left _ hi)]
          · cases hb
end

/-- of an extension, what a value asks -/
structure Ext0 (H : Hp) (L : List Addr) (H' : Hp) (L' : List Addr) : Prop where
  le : ∀ (r : Nat) (a : Addr), L[r]? = some a → L'[r]? = some a
  tup : ∀ a xs, H a = some (.tup xs) → H' a = some (.tup xs)
  frz : ∀ a o xs, H a = some (.frz o (.lst xs)) → H' a = some (.frz o (.lst xs))
theorem Ext.to0 {H H' : Hp} {L L' : List Addr} (e : Ext H L H' L') : Ext0 H L H' L' := ⟨e.le, e.tup, fun a o xs h => e.frz a o _ h⟩
mutual
theorem RW.ext0 {K : Fg} {H H' : Hp} {L L' : List Addr} (e : Ext0 H L H' L') : ∀ {w : W} {v : V}, RW K H L w v → RW K H' L' w v
  | _, _, .non => .non
  | _, _, .bl b => .bl b
  | _, _, .int i => .int i
  | _, _, .str x => .str x
  | _, _, .ty n => .ty n
  | _, _, .fn x => .fn x
  | _, _, .tup h r => .tup (e.tup _ _ h) (RWs.ext0 e r)
  | _, _, .scr h r => .scr (h.imp (fun ⟨o, q⟩ => ⟨o, e.frz _ _ _ q⟩) id) (RWs.ext0 e r)
  | _, _, .ref h => .ref (e.le _ _ h)
theorem RWs.ext0 {K : Fg} {H H' : Hp} {L L' : List Addr} (e : Ext0 H L H' L') : ∀ {w : List W} {v : List V}, RWs K H L w v → RWs K H' L' w v
  | _, _, .nil => .nil
  | _, _, .cons h r => .cons (RW.ext0 e h) (RWs.ext0 e r)
end
/-! ### walks -/
/-- the iterator J, at turn i, is what q tells -/
def Walk (K : Fg) (J : It) (P : Nat → Src → Hp → List Addr → Prop) : Prop :=
  (∀ i q H L H' L', P i q H L → Ext0 H L H' L' → (∀ a o u, H a = some (.frz o u) → H' a = some (.frz o u)) → P i q H' L') ∧
  ∀ i q H L C, P i q H L → Rep K L C H → match nxt q C with
    | none => True
    | some none => J.stop i H
    | some (some (x, q')) => J.go i H ∧ ∀ v H', J.yld i H v H' → Ext H L H' L ∧ Rep K L C H' ∧ RW K H' L x v ∧ P (i + 1) q' H' L
def Walks (K : Fg) (J : It) (q : Src) (H : Hp) (L : List Addr) : Prop := ∃ P, Walk K J P ∧ P 0 q H L
section
variable {K : Fg} {L : List Addr} {C : CH} {H : Hp}
theorem drop_at {α : Type} {xs : List α} {i : Nat} {x : α} {r : List α} (h : xs.drop i = x :: r) : xs[i]? = some x ∧ xs.drop (i + 1) = r := by
  have h1 : xs[i]? = some x := by
    have := congrArg (fun l => l[0]?) h
    simpa using this
  refine ⟨h1, ?_⟩
  have := congrArg List.tail h
  simpa using this
theorem drop_end {α : Type} {xs : List α} {i : Nat} (h : xs.drop i = []) : xs.length ≤ i := List.drop_eq_nil_iff.mp h
theorem walk_tup {a : Addr} {vs : List V} {xs : List W} (h : H a = some (.tup vs)) (r : RWs K H L xs vs) : Walks K (Itt K a) (.st xs) H L := by
  refine ⟨fun i q H L => ∃ vs xs, H a = some (.tup vs) ∧ RWs K H L xs vs ∧ q = .st (xs.drop i), ⟨?_, ?_⟩, vs, xs, h, r, rfl⟩
  · rintro i q H L H' L' ⟨vs, xs, h, r, e⟩ ex _
    exact ⟨vs, xs, ex.tup _ _ h, r.ext0 ex, e⟩
  · rintro i q H L C ⟨vs, xs, h, r, e⟩ R
    subst e
    cases hd : xs.drop i with
    | nil => exact ⟨vs, SqT.of h, by rw [r.length]; exact drop_end hd⟩
    | cons x rest =>
      obtain ⟨h1, h2⟩ := drop_at hd
      obtain ⟨v, h3, h4⟩ := r.get h1
      refine ⟨⟨vs, v, SqT.of h, h3⟩, fun u H' hy => ?_⟩
      obtain ⟨rfl, hy⟩ := hy
      have hu := hy vs (SqT.of h)
      rw [h3] at hu
      cases hu
      exact ⟨Ext.refl, R, h4, vs, xs, h, r, by rw [h2]⟩
/-- the script, item by item -/
theorem walk_scr {a : Addr} {vs : List V} {xs : List W} (h : (∃ o, H a = some (.frz o (.lst vs))) ∨ KLst K a vs) (r : RWs K H L xs vs) : Walks K (Itl K a) (.st xs) H L := by
  have sq : ∀ {H : Hp} {vs : List V}, ((∃ o, H a = some (.frz o (.lst vs))) ∨ KLst K a vs) → SqL K H a vs := fun h => by
    rcases h with ⟨o, h⟩ | h
    · exact .inl (.inr ⟨o, h⟩)
    · exact .inr h
  refine ⟨fun i q H L => ∃ vs xs, ((∃ o, H a = some (.frz o (.lst vs))) ∨ KLst K a vs) ∧ RWs K H L xs vs ∧ q = .st (xs.drop i), ⟨?_, ?_⟩, vs, xs, h, r, rfl⟩
  · rintro i q H L H' L' ⟨vs, xs, h, r, e⟩ ex _
    exact ⟨vs, xs, h.imp (fun ⟨o, q⟩ => ⟨o, ex.frz _ _ _ q⟩) id, r.ext0 ex, e⟩
  · rintro i q H L C ⟨vs, xs, h, r, e⟩ R
    subst e
    cases hd : xs.drop i with
    | nil => exact ⟨vs, sq h, by rw [r.length]; exact drop_end hd⟩
    | cons x rest =>
      obtain ⟨h1, h2⟩ := drop_at hd
      obtain ⟨v, h3, h4⟩ := r.get h1
      refine ⟨⟨vs, v, sq h, h3⟩, fun u H' hy => ?_⟩
      obtain ⟨rfl, hy⟩ := hy
      have hu := hy vs (sq h)
      rw [h3] at hu
      cases hu
      exact ⟨Ext.refl, R, h4, vs, xs, h, r, by rw [h2]⟩
theorem walk_lst {n : Nat} {a : Addr} (ha : L[n]? = some a) : Walks K (Itl K a) (.lref n 0) H L := by
  refine ⟨fun i q H L => q = .lref n i ∧ L[n]? = some a, ⟨?_, ?_⟩, rfl, ha⟩
  · rintro i q H L H' L' ⟨e, ha⟩ ex _
    exact ⟨e, ex.le _ _ ha⟩
  · rintro i q H L C ⟨e, ha⟩ R
    subst e
    cases g : lstAt C n with
    | none =>
      have e : nxt (Src.lref n i) C = none := by simp only [nxt, g]
      rw [e]
      exact trivial
    | some xs =>
      obtain ⟨b, vs, e, hb, sq, s⟩ := lst_of (v := .ref a) R g (.ref ha)
      cases e
      cases g2 : xs[i]? with
      | none =>
        have e : nxt (Src.lref n i) C = some none := by simp only [nxt, g, g2]
        rw [e]
        exact ⟨vs, sq, by rw [s.length]; exact List.getElem?_eq_none_iff.mp g2⟩
      | some x =>
        have e : nxt (Src.lref n i) C = some (some (x, .lref n (i + 1))) := by simp only [nxt, g, g2]
        rw [e]
        obtain ⟨v, h3, h4⟩ := s.get g2
        refine ⟨⟨vs, v, sq, h3⟩, fun u H' hy => ?_⟩
        obtain ⟨rfl, hy⟩ := hy
        have hu := hy vs sq
        rw [h3] at hu
        cases hu
        exact ⟨Ext.refl, R, h4, rfl, ha⟩
theorem walk_upto {lo : Int} {n : Nat} : Walks K (Itr lo n) (.upto lo n) H L := by
  refine ⟨fun i q H L => ∃ m, q = .upto (lo + i) m ∧ i + m = n, ⟨fun i q H L H' L' h _ _ => h, ?_⟩, n, by simp, by simp⟩
  rintro i q H L C ⟨m, e, hm⟩ R
  subst e
  cases m with
  | zero => exact (show n ≤ i by omega)
  | succ m =>
    refine ⟨(show i < n by omega), fun u H' hy => ?_⟩
    obtain ⟨rfl, rfl⟩ := hy
    refine ⟨Ext.refl, R, .int _, m, ?_, by omega⟩
    have : lo + (i : Int) + 1 = lo + ((i + 1 : Nat) : Int) := by omega
    rw [this]
theorem walk_down {hi : Int} {n : Nat} : Walks K (Itc hi (-1) n) (.down hi n) H L := by
  refine ⟨fun i q H L => ∃ m, q = .down (hi - i) m ∧ i + m = n, ⟨fun i q H L H' L' h _ _ => h, ?_⟩, n, by simp, by simp⟩
  rintro i q H L C ⟨m, e, hm⟩ R
  subst e
  cases m with
  | zero => exact (show n ≤ i by omega)
  | succ m =>
    refine ⟨(show i < n by omega), fun u H' hy => ?_⟩
    obtain ⟨rfl, rfl⟩ := hy
    have e : hi + ((i : Nat) : Int) * -1 = hi - (i : Int) := by omega
    rw [e]
    refine ⟨Ext.refl, R, .int _, m, ?_, by omega⟩
    have : hi - (i : Int) - 1 = hi - ((i + 1 : Nat) : Int) := by omega
    rw [this]
theorem walk_enl {n : Nat} {a : Addr} (ha : L[n]? = some a) : Walks K (Ite K a) (.enl n 0) H L := by
  refine ⟨fun i q H L => q = .enl n i ∧ L[n]? = some a, ⟨?_, ?_⟩, rfl, ha⟩
  · rintro i q H L H' L' ⟨e, ha⟩ ex _
    exact ⟨e, ex.le _ _ ha⟩
  · rintro i q H L C ⟨e, ha⟩ R
    subst e
    cases g : lstAt C n with
    | none =>
      have e : nxt (Src.enl n i) C = none := by simp only [nxt, g]
      rw [e]
      exact trivial
    | some xs =>
      obtain ⟨b, vs, e, hb, sq, s⟩ := lst_of (v := .ref a) R g (.ref ha)
      cases e
      cases g2 : xs[i]? with
      | none =>
        have e : nxt (Src.enl n i) C = some none := by simp only [nxt, g, g2]
        rw [e]
        exact ⟨vs, sq, by rw [s.length]; exact List.getElem?_eq_none_iff.mp g2⟩
      | some x =>
        have e : nxt (Src.enl n i) C = some (some (.tup [.int (i : Nat), x], .enl n (i + 1))) := by simp only [nxt, g, g2]
        rw [e]
        obtain ⟨v, h3, h4⟩ := s.get g2
        refine ⟨⟨vs, v, sq, h3⟩, fun u H' hy => ?_⟩
        obtain ⟨T, z, rfl, hT, rfl, hy⟩ := hy
        have hu := hy vs sq
        rw [h3] at hu
        cases hu
        have ex : Ext H L (upd H T (.tup [.int (i : Nat), v])) L := Ext.fresh hT
        exact ⟨ex, R.fresh hT, .tup upd_same (.cons (.int _) (.cons (h4.ext ex) .nil)), rfl, ha⟩
theorem enum_drop : ∀ (xs : List W) (k : Int) (i : Nat), (enumW k xs).drop i = enumW (k + i) (xs.drop i)
  | [], k, i => by simp [enumW]
  | x :: r, k, 0 => by simp
  | x :: r, k, i + 1 => by
    show (enumW (k + 1) r).drop i = enumW (k + ((i + 1 : Nat) : Int)) (r.drop i)
    rw [enum_drop r (k + 1) i]
    have : k + 1 + (i : Int) = k + ((i + 1 : Nat) : Int) := by omega
    rw [this]
theorem walk_enT {a : Addr} {vs : List V} {xs : List W} (h : H a = some (.tup vs)) (r : RWs K H L xs vs) : Walks K (IteT K a) (.st (enumW 0 xs)) H L := by
  refine ⟨fun i q H L => ∃ vs xs, H a = some (.tup vs) ∧ RWs K H L xs vs ∧ q = .st (enumW i (xs.drop i)), ⟨?_, ?_⟩, vs, xs, h, r, rfl⟩
  · rintro i q H L H' L' ⟨vs, xs, h, r, e⟩ ex _
    exact ⟨vs, xs, ex.tup _ _ h, r.ext0 ex, e⟩
  · rintro i q H L C ⟨vs, xs, h, r, e⟩ R
    subst e
    cases hd : xs.drop i with
    | nil => exact ⟨vs, SqT.of h, by rw [r.length]; exact drop_end hd⟩
    | cons x rest =>
      obtain ⟨h1, h2⟩ := drop_at hd
      obtain ⟨v, h3, h4⟩ := r.get h1
      refine ⟨⟨vs, v, SqT.of h, h3⟩, fun u H' hy => ?_⟩
      obtain ⟨T, z, rfl, hT, rfl, hy⟩ := hy
      have hu := hy vs (SqT.of h)
      rw [h3] at hu
      cases hu
      have ex : Ext H L (upd H T (.tup [.int (i : Nat), v])) L := Ext.fresh hT
      refine ⟨ex, R.fresh hT, .tup upd_same (.cons (.int _) (.cons (h4.ext ex) .nil)), vs, xs, ex.tup _ _ h, r.ext ex, ?_⟩
      rw [h2]
      have : (i : Int) + 1 = ((i + 1 : Nat) : Int) := by omega
      rw [this]
theorem walk_enS {a : Addr} {vs : List V} {xs : List W} (h : (∃ o, H a = some (.frz o (.lst vs))) ∨ KLst K a vs) (r : RWs K H L xs vs) : Walks K (Ite K a) (.st (enumW 0 xs)) H L := by
  have sq : ∀ {H : Hp} {vs : List V}, ((∃ o, H a = some (.frz o (.lst vs))) ∨ KLst K a vs) → SqL K H a vs := fun h => by
    rcases h with ⟨o, h⟩ | h
    · exact .inl (.inr ⟨o, h⟩)
    · exact .inr h
  refine ⟨fun i q H L => ∃ vs xs, ((∃ o, H a = some (.frz o (.lst vs))) ∨ KLst K a vs) ∧ RWs K H L xs vs ∧ q = .st (enumW i (xs.drop i)), ⟨?_, ?_⟩, vs, xs, h, r, rfl⟩
  · rintro i q H L H' L' ⟨vs, xs, h, r, e⟩ ex _
    exact ⟨vs, xs, h.imp (fun ⟨o, q⟩ => ⟨o, ex.frz _ _ _ q⟩) id, r.ext0 ex, e⟩
  · rintro i q H L C ⟨vs, xs, h, r, e⟩ R
    subst e
    cases hd : xs.drop i with
    | nil => exact ⟨vs, sq h, by rw [r.length]; exact drop_end hd⟩
    | cons x rest =>
      obtain ⟨h1, h2⟩ := drop_at hd
      obtain ⟨v, h3, h4⟩ := r.get h1
      refine ⟨⟨vs, v, sq h, h3⟩, fun u H' hy => ?_⟩
      obtain ⟨T, z, rfl, hT, rfl, hy⟩ := hy
      have hu := hy vs (sq h)
      rw [h3] at hu
      cases hu
      have ex : Ext H L (upd H T (.tup [.int (i : Nat), v])) L := Ext.fresh hT
      refine ⟨ex, R.fresh hT, .tup upd_same (.cons (.int _) (.cons (h4.ext ex) .nil)), vs, xs, h.imp (fun ⟨o, q⟩ => ⟨o, ex.frz _ _ _ q⟩) id, r.ext ex, ?_⟩
      rw [h2]
      have : (i : Int) + 1 = ((i + 1 : Nat) : Int) := by omega
      rw [this]
theorem zip_drop : ∀ (i : Nat) (xs ys : List W), (List.zipWith (fun x y => W.tup [x, y]) xs ys).drop i = List.zipWith (fun x y => W.tup [x, y]) (xs.drop i) (ys.drop i)
  | 0, _, _ => rfl
  | _ + 1, [], _ => by simp
  | _ + 1, _ :: _, [] => by simp
  | i + 1, x :: xs, y :: ys => zip_drop i xs ys
theorem walk_ziT {a b : Addr} {vs us : List V} {xs ys : List W} (h : H a = some (.tup vs)) (r : RWs K H L xs vs) (h' : H b = some (.tup us)) (r' : RWs K H L ys us) :
    Walks K (RZ.ItzT K a b) (.st (List.zipWith (fun x y => W.tup [x, y]) xs ys)) H L := by
  refine ⟨fun i q H L => ∃ vs us xs ys, H a = some (.tup vs) ∧ RWs K H L xs vs ∧ H b = some (.tup us) ∧ RWs K H L ys us ∧ q = .st (List.zipWith (fun x y => W.tup [x, y]) (xs.drop i) (ys.drop i)), ⟨?_, ?_⟩, vs, us, xs, ys, h, r, h', r', rfl⟩
  · rintro i q H L H' L' ⟨vs, us, xs, ys, h, r, h', r', e⟩ ex _
    exact ⟨vs, us, xs, ys, ex.tup _ _ h, r.ext0 ex, ex.tup _ _ h', r'.ext0 ex, e⟩
  · rintro i q H L C ⟨vs, us, xs, ys, h, r, h', r', e⟩ R
    subst e
    cases hd : xs.drop i with
    | nil => exact ⟨vs, us, SqT.of h, SqT.of h', .inl (by rw [r.length]; exact drop_end hd)⟩
    | cons x rest =>
      cases hd2 : ys.drop i with
      | nil => exact ⟨vs, us, SqT.of h, SqT.of h', .inr (by rw [r'.length]; exact drop_end hd2)⟩
      | cons y rest2 =>
        obtain ⟨h1, h2⟩ := drop_at hd
        obtain ⟨g1, g2⟩ := drop_at hd2
        obtain ⟨v, h3, h4⟩ := r.get h1
        obtain ⟨w, g3, g4⟩ := r'.get g1
        refine ⟨⟨vs, us, v, w, SqT.of h, SqT.of h', h3, g3⟩, fun u H' hy => ?_⟩
        obtain ⟨T, z, z2, rfl, hT, rfl, hy, hy2⟩ := hy
        have hu := hy vs (SqT.of h)
        rw [h3] at hu
        cases hu
        have hu2 := hy2 us (SqT.of h')
        rw [g3] at hu2
        cases hu2
        have ex : Ext H L (upd H T (.tup [v, w])) L := Ext.fresh hT
        exact ⟨ex, R.fresh hT, .tup upd_same (.cons (h4.ext ex) (.cons (g4.ext ex) .nil)), vs, us, xs, ys, ex.tup _ _ h, r.ext ex, ex.tup _ _ h', r'.ext ex, by rw [h2, g2]⟩
theorem walk_ziL {n m : Nat} {a b : Addr} (ha : L[n]? = some a) (hb : L[m]? = some b) : Walks K (Itz K a b) (.zll n m 0) H L := by
  refine ⟨fun i q H L => q = .zll n m i ∧ L[n]? = some a ∧ L[m]? = some b, ⟨?_, ?_⟩, rfl, ha, hb⟩
  · rintro i q H L H' L' ⟨e, ha, hb⟩ ex _
    exact ⟨e, ex.le _ _ ha, ex.le _ _ hb⟩
  · rintro i q H L C ⟨e, ha, hb⟩ R
    subst e
    cases g : lstAt C n with
    | none =>
      have e : nxt (Src.zll n m i) C = none := by simp only [nxt, g]
      rw [e]
      exact trivial
    | some xs =>
      cases g' : lstAt C m with
      | none =>
        have e : nxt (Src.zll n m i) C = none := by simp only [nxt, g, g']
        rw [e]
        exact trivial
      | some ys =>
        obtain ⟨_, vs, e, _, sq, s⟩ := lst_of (v := .ref a) R g (.ref ha)
        cases e
        obtain ⟨_, us, e, _, sq', s'⟩ := lst_of (v := .ref b) R g' (.ref hb)
        cases e
        cases g2 : xs[i]? with
        | none =>
          have e : nxt (Src.zll n m i) C = some none := by simp only [nxt, g, g', g2]
          rw [e]
          exact ⟨vs, us, sq, sq', .inl (by rw [s.length]; exact List.getElem?_eq_none_iff.mp g2)⟩
        | some x =>
          cases g3 : ys[i]? with
          | none =>
            have e : nxt (Src.zll n m i) C = some none := by simp only [nxt, g, g', g2, g3]
            rw [e]
            exact ⟨vs, us, sq, sq', .inr (by rw [s'.length]; exact List.getElem?_eq_none_iff.mp g3)⟩
          | some y =>
            have e : nxt (Src.zll n m i) C = some (some (.tup [x, y], .zll n m (i + 1))) := by simp only [nxt, g, g', g2, g3]
            rw [e]
            obtain ⟨v, h3, h4⟩ := s.get g2
            obtain ⟨w, k3, k4⟩ := s'.get g3
            refine ⟨⟨vs, us, v, w, sq, sq', h3, k3⟩, fun u H' hy => ?_⟩
            obtain ⟨T, z, z2, rfl, hT, rfl, hy, hy2⟩ := hy
            have hu := hy vs sq
            rw [h3] at hu
            cases hu
            have hu2 := hy2 us sq'
            rw [k3] at hu2
            cases hu2
            have ex : Ext H L (upd H T (.tup [v, w])) L := Ext.fresh hT
            exact ⟨ex, R.fresh hT, .tup upd_same (.cons (h4.ext ex) (.cons (k4.ext ex) .nil)), rfl, ha, hb⟩
end
end RF
end
section
set_option Elab.async false
set_option linter.all false
set_option maxRecDepth 100000
set_option maxHeartbeats 4000000
/-! RF7: the check of expressions; an expression that passes it does what the evaluator tells. -/
namespace RF
open PySem PySem.Spec PyProof.Rows L2
/-! ### the check -/
def isIfE : Expr → Bool
  | .IfExp _ _ _ _ => true
  | _ => false
def isSetE : Expr → Bool
  | .Set _ _ _ => true
  | _ => false
def isCallE : Expr → Bool
  | .Call _ _ _ _ => true
  | _ => false
def isSliceE : Expr → Bool
  | .Slice _ _ _ _ => true
  | .Tuple _ _ _ => false
  | _ => false
def litB : W → Const → Bool
  | .non, .none => true
  | .bl a, .bool b => a == b
  | .int i, .int j => decide (i = j)
  | .str x, .str y => decide (x = y)
  | _, _ => false
def isTupE : Expr → Bool
  | .Tuple _ _ _ => true
  | _ => false
def lit1 : CE → Bool
  | .lit (.bl true) => true
  | _ => false
/-- key, value, key, value .. -/
def inter : List (Option Expr) → List Expr → List Expr
  | some k :: ks, v :: vs => k :: v :: inter ks vs
  | _, _ => []
/-- x is the def f -/
def fnB (GT : Str → Option GK) (x : Str) (f : Nat) : Bool := match GT x with
  | some (.fn g _) => g == f
  | _ => false
def fnK (GT : Str → Option GK) (x : Str) (f : Nat) (ks : List Str) (pm : List Nat) : Bool := match GT x with
  | some (.fn g kw) => g == f && kw.contains (ks, pm)
  | _ => false
def kwN (ks : List Keyword) : List Str := ks.filterMap fun
  | ⟨n, _, _⟩ => n
def kwV (ks : List Keyword) : List Expr := ks.map fun
  | ⟨_, v, _⟩ => v
def ifsB (ifs : List Expr) (l : Bool) (f : Expr → Bool) : Bool := match ifs with
  | [] => l
  | [t] => !isIfE t && f t
  | _ => false
/-- what a walk's head is asked for, but zip of four -/
def iterB (f : List Expr → Bool) (sc : Scope) (tg iter : Expr) : IK → Bool
  | .seq => f [iter]
  | .rng1 => (match iter with
    | .Call (.Name x _) [a] [] _ => decide (x = "range") && (glB sc x && f [a])
    | _ => false)
  | .rng2 => (match iter with
    | .Call (.Name x _) [a, b] [] _ => decide (x = "range") && (glB sc x && f [a, b])
    | _ => false)
  | .enm => (match iter with
    | .Call (.Name x _) [a] [] _ => isTupE tg && (decide (x = "enumerate") && (glB sc x && f [a]))
    | _ => false)
  | .zip => (match iter with
    | .Call (.Name x _) [a, b] [] _ => isTupE tg && (decide (x = "zip") && (glB sc x && f [a, b]))
    | _ => false)
  | _ => false
mutual
def chkE (GT : Str → Option GK) : CE → SD → Expr → Bool
  | .var i, sd, e => (match e with
    | .Name x _ => decide (sd.N[i]? = some x) && (visB sd.sc x && okName x)
    | _ => false)
  | .lit w, _, e => (match e with
    | .Constant c _ _ => litB w c
    | _ => false)
  | .gint x i, sd, e => (match e with
    | .Name y _ => decide (x = y) && (glB sd.sc y && (decide (GT y = some (.int i)) && okName y))
    | _ => false)
  | .gty n, sd, e => (match e with
    | .Name y _ => decide (y = Str.ofString n) && (tyNames.contains n && (glB sd.sc y && (freeB y && okName y)))
    | _ => false)
  | .bin op a b, sd, e => (match e with
    | .BinOp l o r _ => decide (o = op) && (chkE GT a sd l && chkE GT b sd r)
    | _ => false)
  | .neg a, sd, e => (match e with
    | .UnaryOp .USub x _ => chkE GT a sd x
    | _ => false)
  | .not a, sd, e => (match e with
    | .UnaryOp .Not x _ => !isIfE x && chkE GT a sd x
    | _ => false)
  | .and a b, sd, e => (match e with
    | .BoolOp .And (v1 :: v2 :: rest) pos => !isIfE v1 && (chkE GT a sd v1 && (match rest with
      | [] => !isIfE v2 && chkE GT b sd v2
      | _ => chkE GT b sd (.BoolOp .And (v2 :: rest) pos)))
    | _ => false)
  | .or a b, sd, e => (match e with
    | .BoolOp .Or (v1 :: v2 :: rest) pos => !isIfE v1 && (chkE GT a sd v1 && (match rest with
      | [] => !isIfE v2 && chkE GT b sd v2
      | _ => chkE GT b sd (.BoolOp .Or (v2 :: rest) pos)))
    | _ => false)
  | .cmp op a b, sd, e => (match e with
    | .Compare l [o] [r] _ => decide (o = op) && (chkE GT a sd l && (chkE GT b sd r && !isSetE r))
    | _ => false)
  | .cmp2 op op' a b c, sd, e => (match e with
    | .Compare l [o, o'] [r, r'] _ => decide (o = op) && (decide (o' = op') && (chkE GT a sd l && (chkE GT b sd r && (chkE GT c sd r' && (!isSetE r && !isSetE r')))))
    | _ => false)
  | .ite c a b, sd, e => (match e with
    | .IfExp t x y _ => !isIfE t && (chkE GT c sd t && (chkE GT a sd x && chkE GT b sd y))
    | _ => false)
  | .tup es, sd, e => (match e with
    | .Tuple l _ _ => chkA GT es sd l
    | _ => false)
  | .lst es, sd, e => (match e with
    | .List l _ => chkA GT es sd l
    | _ => false)
  | .call f es, sd, e => (match e with
    | .Call (.Name x _) l [] _ => fnB GT x f && (glB sd.sc x && (okName x && chkA GT es sd l))
    | _ => false)
  | .gfn x, sd, e => (match e with
    | .Name y _ => decide (x = y) && (glB sd.sc y && (okName y && (match GT y with
      | some (.fn _ _) => true
      | _ => false)))
    | _ => false)
  | .callv fns g es, sd, e => (match e with
    | .Call (.Subscript o i p) l [] _ => fns.all (fun q => fnB GT q.1 q.2) && (chkE GT g sd (.Subscript o i p) && chkA GT es sd l)
    | _ => false)
  | .callk f pm es, sd, e => (match e with
    | .Call (.Name x _) [] ks _ => fnK GT x f (kwN ks) pm && (((kwN ks).length == pm.length) && (glB sd.sc x && (okName x && (ks.all (fun k => match k with
      | ⟨n, _, _⟩ => n.isSome) && chkA GT es sd (kwV ks)))))
    | _ => false)
  | .rev a, sd, e => (match e with
    | .Subscript x (.Slice none none (some (.UnaryOp .USub (.Constant (.int 1) _ _) _)) _) _ => chkE GT a sd x
    | _ => false)
  | .bi b es, sd, e => (match e with
    | .Call (.Name x _) l [] _ => decide (x = biName b) && (glB sd.sc x && (freeB x && (!l.isEmpty && (okName x && chkA GT es sd l))))
    | _ => false)
  | .lenset a, sd, e => (match e with
    | .Call (.Name x _) [.Call (.Name y _) [z] [] _] [] _ => decide (x = "len") && (decide (y = "set") && (glB sd.sc x && (glB sd.sc y && (!starB z && chkE GT a sd z))))
    | _ => false)
  | .meth m o es, sd, e => (match e with
    | .Call (.Attribute x n apos) l [] cpos => decide (n = meName m) && (!isCallE x && (Nat.ble l.length 20 && ((apos.endLine == cpos.line) && (chkE GT o sd x && chkA GT es sd l))))
    | _ => false)
  | .ix a b, sd, e => (match e with
    | .Subscript x y _ => !isSliceE y && (!isTupE x && (chkE GT a sd x && chkE GT b sd y))
    | _ => false)
  | .slc a lo hi, sd, e => (match e with
    | .Subscript x (.Slice l u none _) _ => chkE GT a sd x && ((match l with
        | none => (match lo with
          | .nopart => true
          | _ => false)
        | some l' => chkE GT lo sd l') && (match u with
        | none => (match hi with
          | .nopart => true
          | _ => false)
        | some u' => chkE GT hi sd u'))
    | _ => false)
  | .comp own k args p c elt, sd, e => (match e with
    | .ListComp el [⟨tg, iter, ifs, 0⟩] scope _ => blkC sd.N sd.sc scope own && ((tgtIx p).all (fun i => (own.map (·.2)).contains i) && (!isSetE iter && (chkP ⟨sd.N, relS scope sd.sc, some scope⟩ p tg &&
        ((match ifs with
          | [] => lit1 c
          | [t] => !isIfE t && chkE GT c ⟨sd.N, relS scope sd.sc, some scope⟩ t
          | _ => false) && (chkE GT elt ⟨sd.N, relS scope sd.sc, some scope⟩ el && (match k with
          | .seq => chkA GT args sd [iter]
          | .rng1 => (match iter with
            | .Call (.Name x _) [a] [] _ => decide (x = "range") && (glB sd.sc x && chkA GT args sd [a])
            | _ => false)
          | .rng2 => (match iter with
            | .Call (.Name x _) [a, b] [] _ => decide (x = "range") && (glB sd.sc x && chkA GT args sd [a, b])
            | _ => false)
          | .enm => (match iter with
            | .Call (.Name x _) [a] [] _ => isTupE tg && (decide (x = "enumerate") && (glB sd.sc x && chkA GT args sd [a]))
            | _ => false)
          | .zip => (match iter with
            | .Call (.Name x _) [a, b] [] _ => isTupE tg && (decide (x = "zip") && (glB sd.sc x && chkA GT args sd [a, b]))
            | _ => false)
          | _ => false))))))
    | _ => false)
  | .comp2 own vs1 k args p c k1 args1 p1 c1 elt, sd, e => (match e with
    | .ListComp el [⟨tg, iter, ifs, 0⟩, ⟨tg1, iter1, ifs1, 0⟩] scope _ => blkC sd.N sd.sc scope own && ((tgtIx p).all (fun i => (own.map (·.2)).contains i) && (vs1.all (fun i => (own.map (·.2)).contains i) && ((tgtIx p1).all (fun i => vs1.contains i) && (!isSetE iter && (!isSetE iter1 && (chkP ⟨sd.N, relS scope sd.sc, some scope⟩ p tg && (chkP ⟨sd.N, relS scope sd.sc, some scope⟩ p1 tg1 &&
        (ifsB ifs (lit1 c) (fun t => chkE GT c ⟨sd.N, relS scope sd.sc, some scope⟩ t) && (ifsB ifs1 (lit1 c1) (fun t => chkE GT c1 ⟨sd.N, relS scope sd.sc, some scope⟩ t) && (chkE GT elt ⟨sd.N, relS scope sd.sc, some scope⟩ el &&
        (iterB (fun es => chkA GT args sd es) sd.sc tg iter k && iterB (fun es => chkA GT args1 ⟨sd.N, relS scope sd.sc, some scope⟩ es) (relS scope sd.sc) tg1 iter1 k1)))))))))))
    | _ => false)
  | .compK own i p c elt, sd, e => (match e with
    | .ListComp el [⟨tg, .Name x _, ifs, 0⟩] scope _ => blkC sd.N sd.sc scope own && ((tgtIx p).all (fun i => (own.map (·.2)).contains i) && (chkP ⟨sd.N, relS scope sd.sc, some scope⟩ p tg && (decide (sd.N[i]? = some x) && (visB sd.sc x && (okName x &&
        ((match ifs with
          | [] => lit1 c
          | [t] => !isIfE t && chkE GT c ⟨sd.N, relS scope sd.sc, some scope⟩ t
          | _ => false) && chkE GT elt ⟨sd.N, relS scope sd.sc, some scope⟩ el))))))
    | _ => false)
  | .dnew _, _, e => (match e with
    | .Dict [] [] _ => true
    | _ => false)
  | .disp es, sd, e => (match e with
    | .Dict ks vs _ => ks.all (·.isSome) && (ks.length == vs.length && (!ks.isEmpty && (Nat.ble ks.length 15 && chkA GT es sd (inter ks vs))))
    | _ => false)
  | _, _, _ => false
def chkA (GT : Str → Option GK) : CE → SD → List Expr → Bool
  | .nil, _, es => es.isEmpty
  | .cons a b, sd, es => (match es with
    | e :: r => !starB e && (chkE GT a sd e && chkA GT b sd r)
    | [] => false)
  | _, _, _ => false
end
/-- what a walk's head is asked for -/
def chkI (GT : Str → Option GK) (args : CE) (sd : SD) (tg iter : Expr) : IK → Bool
  | .seq => chkA GT args sd [iter]
  | .rng1 => (match iter with
    | .Call (.Name x _) [a] [] _ => decide (x = "range") && (glB sd.sc x && chkA GT args sd [a])
    | _ => false)
  | .rng2 => (match iter with
    | .Call (.Name x _) [a, b] [] _ => decide (x = "range") && (glB sd.sc x && chkA GT args sd [a, b])
    | _ => false)
  | .enm => (match iter with
    | .Call (.Name x _) [a] [] _ => isTupE tg && (decide (x = "enumerate") && (glB sd.sc x && chkA GT args sd [a]))
    | _ => false)
  | .zip => (match iter with
    | .Call (.Name x _) [a, b] [] _ => isTupE tg && (decide (x = "zip") && (glB sd.sc x && chkA GT args sd [a, b]))
    | _ => false)
  | .zip4 => (match iter with
    | .Call (.Name x _) [a, b, c, d] [] _ => isTupE tg && (decide (x = "zip") && (glB sd.sc x && chkA GT args sd [a, b, c, d]))
    | _ => false)
  | _ => false
end RF
end
section
set_option Elab.async false
set_option linter.all false
set_option maxRecDepth 100000
set_option maxHeartbeats 4000000
/-! RF8: readings of tests and argument lists; the context of a block. -/
namespace RF
open PySem PySem.Spec PyProof.Rows L2
section
variable {K : Fg} {H : Hp} {L : List Addr} {E : EX}
theorem Post.mono {r : R W} {Q Q' : VK} {E' : EX} (p : Post K H L r Q E) (h : ∀ v H, Q v H → Q' v H) (h' : ∀ c vs H, E c vs H → E' c vs H) : Post K H L r Q' E' := by
  cases r with
  | ok w C' => exact fun H' L' v e R r => h v H' (p H' L' v e R r)
  | exc c ws C' => exact fun H' L' vs e R r => h' c vs H' (p H' L' vs e R r)
  | bad => exact p
/-- .. of a list of values -/
def PostA (K : Fg) (H : Hp) (L : List Addr) (r : R W) (Q : List V → Hp → Prop) (E : EX) : Prop := match r with
  | .ok (.tup ws) C' => ∀ H' L' vs, Ext H L H' L' → Rep K L' C' H' → RWs K H' L' ws vs → Q vs H'
  | .ok _ _ => False
  | .exc c ws C' => ∀ H' L' vs, Ext H L H' L' → Rep K L' C' H' → RWs K H' L' ws vs → E c vs H'
  | .bad => False
theorem PostA.ext {H' : Hp} {L' : List Addr} {r : R W} {Q : List V → Hp → Prop} (e : Ext H L H' L') (p : PostA K H L r Q E) : PostA K H' L' r Q E := by
  cases r with
  | ok w C' => cases w <;> first | exact fun H2 L2 v e2 => p H2 L2 v (e.trans e2) | exact p
  | exc c ws C' => exact fun H2 L2 v e2 => p H2 L2 v (e.trans e2)
  | bad => exact p
theorem PostA.mono {r : R W} {Q Q' : List V → Hp → Prop} {E' : EX} (p : PostA K H L r Q E) (h : ∀ v H, Q v H → Q' v H) (h' : ∀ c vs H, E c vs H → E' c vs H) : PostA K H L r Q' E' := by
  cases r with
  | ok w C' => cases w <;> first | exact fun H' L' v e R r => h v H' (p H' L' v e R r) | exact p
  | exc c ws C' => exact fun H' L' vs e R r => h' c vs H' (p H' L' vs e R r)
  | bad => exact p
/-- a list of values, then k -/
noncomputable def R.on (r : R W) (k : List W → CH → R W) : R W := r.bind fun ws h => match ws with
  | .tup l => k l h
  | _ => .bad
theorem on_ok {r : R W} {k : List W → CH → R W} {Q : VK} (p : Post K H L (r.on k) Q E) :
    PostA K H L r (fun vs H1 => ∃ ws C1 L1, Ext H L H1 L1 ∧ Rep K L1 C1 H1 ∧ RWs K H1 L1 ws vs ∧ Post K H1 L1 (k ws C1) Q E) E := by
  cases r with
  | ok w C' =>
    cases w with
    | tup l => exact fun H1 L1 vs e R q => ⟨l, C', L1, e, R, q, Post.ext e p⟩
    | _ => exact p
  | exc c ws C' => exact p
  | bad => exact p
theorem PostA.bind {r : R W} {k : W → CH → R W} {Q : List V → Hp → Prop} (p : PostA K H L (r.bind k) Q E) :
    Post K H L r (fun v H1 => ∃ w C1 L1, Ext H L H1 L1 ∧ Rep K L1 C1 H1 ∧ RW K H1 L1 w v ∧ PostA K H1 L1 (k w C1) Q E) E := by
  cases r with
  | ok w C' => exact fun H1 L1 v e R q => ⟨w, C', L1, e, R, q, PostA.ext e p⟩
  | exc c ws C' => exact p
  | bad => exact p
theorem PostA.on {r : R W} {k : List W → CH → R W} {Q : List V → Hp → Prop} (p : PostA K H L (r.on k) Q E) :
    PostA K H L r (fun vs H1 => ∃ ws C1 L1, Ext H L H1 L1 ∧ Rep K L1 C1 H1 ∧ RWs K H1 L1 ws vs ∧ PostA K H1 L1 (k ws C1) Q E) E := by
  cases r with
  | ok w C' =>
    cases w with
    | tup l => exact fun H1 L1 vs e R q => ⟨l, C', L1, e, R, q, PostA.ext e p⟩
    | _ => exact p
  | exc c ws C' => exact p
  | bad => exact p
end
/-- a value's truth -/
noncomputable def trW (w : W) (C : CH) : R W := match truth C w with
  | some k => .ok (.bl k) C
  | none => .bad
def tT (K : Fg) (E : L2.St → EX) (f : St → CH → R W) : TT := fun σ H Q => tE K E (fun s C => (f s C).bind trW) σ H fun v H1 => ∃ k, v = .bl k ∧ Q k H1
def tA (K : Fg) (E : L2.St → EX) (f : St → CH → R W) : TA := fun σ H Q => ∃ L C s, Rep K L C H ∧ RSt K H L s σ ∧ PostA K H L (f s C) Q (E σ)
theorem tru_of {K : Fg} {H : Hp} {L : List Addr} {C : CH} {E : EX} {w : W} {v : V} {Q : VK} (R : Rep K L C H) (r : RW K H L w v) (p : Post K H L (trW w C) Q E) : ∃ k, truth C w = some k ∧ TruV K v H k ∧ Q (.bl k) H := by
  unfold trW at p
  cases g : truth C w with
  | none => rw [g] at p; exact p.elim
  | some k => rw [g] at p; exact ⟨k, rfl, truth_ok R r g, p H L _ .refl R (.bl k)⟩
/-- by the truth of r -/
theorem Post.test {K : Fg} {H : Hp} {L : List Addr} {E : EX} {r : R W} {k : Bool → W → CH → R W} {Q : VK} (p : Post K H L (r.bind fun x C => match truth C x with
    | some b => k b x C
    | none => .bad) Q E) :
    Post K H L (r.bind trW) (fun v H1 => ∃ b, v = .bl b ∧ ∃ x C1 L1, Ext H L H1 L1 ∧ Rep K L1 C1 H1 ∧ Post K H1 L1 (k b x C1) Q E) E := by
  cases r with
  | ok w C' =>
    have p' : Post K H L (match truth C' w with
      | some b => k b w C'
      | none => .bad) Q E := p
    show Post K H L (trW w C') _ E
    unfold trW
    cases g : truth C' w with
    | none => rw [g] at p'; exact p'
    | some b =>
      rw [g] at p'
      refine fun H1 L1 v e R q => ?_
      cases q
      exact ⟨b, rfl, w, C', L1, e, R, p'.ext e⟩
  | exc c ws C' => exact p
  | bad => exact p
/-- .. and the value -/
theorem Post.testV {K : Fg} {H : Hp} {L : List Addr} {E : EX} {r : R W} {k : Bool → W → CH → R W} {Q : VK} (p : Post K H L (r.bind fun x C => match truth C x with
    | some b => k b x C
    | none => .bad) Q E) :
    Post K H L r (fun v H1 => ∃ b, TruV K v H1 b ∧ ∃ x C1 L1, Ext H L H1 L1 ∧ Rep K L1 C1 H1 ∧ RW K H1 L1 x v ∧ Post K H1 L1 (k b x C1) Q E) E := by
  cases r with
  | ok w C' =>
    have p' : Post K H L (match truth C' w with
      | some b => k b w C'
      | none => .bad) Q E := p
    refine fun H1 L1 v e R q => ?_
    cases g : truth C' w with
    | none => rw [g] at p'; exact p'.elim
    | some b =>
      rw [g] at p'
      exact ⟨b, truth_ok R q g, w, C', L1, e, R, q, p'.ext e⟩
  | exc c ws C' => exact p
  | bad => exact p
theorem bind_assoc {α β γ : Type} {r : R α} {k : α → CH → R β} {l : β → CH → R γ} : (r.bind k).bind l = r.bind fun x h => (k x h).bind l := by
  cases r <;> rfl

section
variable {X : Cx}
theorem PE.imp {e : Expr} {t t' : TE} (h : PE X e t) (i : ∀ σ H Q, t' σ H Q → t σ H Q) : PE X e t' := ⟨fun pins s σ H Q I q => h.run pins s σ H Q I (i σ H Q q)⟩
theorem PT.imp {e : Expr} {t t' : TT} (h : PT X e t) (i : ∀ σ H Q, t' σ H Q → t σ H Q) : PT X e t' := ⟨fun pins s σ H Q I q => h.run pins s σ H Q I (i σ H Q q)⟩
theorem PW.imp {e : Expr} {t t' : TT} (h : PW X e t) (i : ∀ σ H Q, t' σ H Q → t σ H Q) : PW X e t' := ⟨fun wh pins s σ H Q I q => h.run wh pins s σ H Q I (i σ H Q q)⟩
theorem PA.imp {e : List Expr} {t t' : TA} (h : PA X e t) (i : ∀ σ H Q, t' σ H Q → t σ H Q) : PA X e t' := ⟨fun pos pins s σ H Q I q => h.run pos pins s σ H Q I (i σ H Q q)⟩
theorem PI.imp {tg e : Expr} {t t' : TI} (h : PI X tg e t) (i : ∀ σ H Q, t' σ H Q → t σ H Q) : PI X tg e t' := ⟨fun pins s σ H Q I q => h.run pins s σ H Q I (i σ H Q q)⟩
theorem PE.or {e : Expr} {t t' : TE} (h : PE X e t) (h' : PE X e t') : PE X e (fun σ H Q => t σ H Q ∨ t' σ H Q) := ⟨fun pins s σ H Q I q => by
  rcases q with q | q
  · exact h.run pins s σ H Q I q
  · exact h'.run pins s σ H Q I q⟩
theorem PI.or {tg e : Expr} {t t' : TI} (h : PI X tg e t) (h' : PI X tg e t') : PI X tg e (fun σ H Q => t σ H Q ∨ t' σ H Q) := ⟨fun pins s σ H Q I q => by
  rcases q with q | q
  · exact h.run pins s σ H Q I q
  · exact h'.run pins s σ H Q I q⟩
end

/-! ### the context of a comprehension's block -/
def blkSD (sd : SD) (scope : Scope) : SD := ⟨sd.N, relS scope sd.sc, some scope⟩
theorem Ctx.blk {V1 : Env1} {E : L2.St → EX} {sd : SD} {X : Cx} (c : Ctx V1 E sd X) (s : Shared) (H : Hp) (scope : Scope) (C : Addr) (cl : List (Str × Addr)) (fp : List Addr) :
    Ctx V1 E0 (blkSD sd scope) (X.blk s H scope (compEnvC scope cl C X.env) fp) := by
  have hsc : (compEnvC scope cl C X.env).scope = relS scope X.env.scope := rfl
  refine ⟨c.N, c.nd, ?_, c.calm, c.hu, fun x h => ?_, c.int, c.blt, fun x f kw h => ?_⟩
  · show (compEnvC scope cl C X.env).scope = relS scope sd.sc
    rw [hsc, c.sc]
  · have h : (match scope.names.lookup x with
      | some .local => true
      | some .cell => true
      | _ => false) = true := h
    show Loc (relS scope X.env.scope) x ∧ ((scope.names.lookup x == some .cell) = true ∨ (relS scope X.env.scope).names.lookup x = some .local)
    split at h
    · rename_i e
      have k := lookup_relS_keep (sc := X.env.scope) (by decide) e
      exact ⟨.inl k, .inr k⟩
    · rename_i e
      have k := lookup_relS_keep (sc := X.env.scope) (by decide) e
      refine ⟨.inr k, .inl ?_⟩
      rw [e] <;> rfl
    · cases h
  · obtain ⟨fd, ps, k, XE, h1, h2, h3, h4, h5, h6, h7, h8, h9⟩ := c.fns x f kw h
    refine ⟨fd, ps, k, fun _ _ _ _ => False, h1, h2, h3, h4, h5, fun σ pins H s e s' I q => ?_, fun _ _ _ _ q => q.elim, h8, h9⟩
    exact (V1.cx0 _ _ _ _ _ q).elim
end RF
end
section
set_option Elab.async false
set_option linter.all false
set_option maxRecDepth 100000
set_option maxHeartbeats 4000000
/-! RF9: expressions: one lemma for each form. -/
namespace RF
open PySem PySem.Spec PyProof.Rows L2
/-- the test of such a one is its value's truth -/
def plainE : Expr → Bool
  | .UnaryOp .Not _ _ => false
  | .BoolOp _ _ _ => false
  | .IfExp _ _ _ _ => false
  | .Compare _ _ _ _ => false
  | _ => true
theorem plain_true {e : Expr} (h : plainE e = true) (env : Env) : ∀ whole, isTrue e env whole = (do let v ← whole; standAt e.pos; holding [v] (truthy v)) := by
  intro whole
  cases e with
  | UnaryOp op x pos => cases op <;> first | rfl | cases h
  | BoolOp _ _ _ => cases h
  | IfExp _ _ _ _ => cases h
  | Compare _ _ _ _ => cases h
  | _ => rfl
def Each (V1 : Env1) (E : L2.St → EX) (sd : SD) (X : Cx) : CE → List Expr → Prop
  | .nil, [] => True
  | .cons a b, e :: es => starB e = false ∧ (chkE V1.GT a sd e = true ∧ PE X e (tE X.K E (ev V1.run a))) ∧ Each V1 E sd X b es
  | _, _ => False
structure Good (V1 : Env1) (E : L2.St → EX) (sd : SD) (X : Cx) (c : CE) : Prop where
  pe : ∀ e, chkE V1.GT c sd e = true → PE X e (tE X.K E (ev V1.run c))
  pt : ∀ e, chkE V1.GT c sd e = true → isIfE e = false → PT X e (tT X.K E (ev V1.run c))
  pw : ∀ op vs pos, chkE V1.GT c sd (.BoolOp op vs pos) = true → PW X (.BoolOp op vs pos) (tT X.K E (ev V1.run c))
  each : ∀ es, chkA V1.GT c sd es = true → Each V1 E sd X c es
section
variable {V1 : Env1} {E : L2.St → EX} {sd : SD} {X : Cx}
theorem pt_plain {K : Fg} {e : Expr} {f : St → CH → R W} (hK : X.K = K) (h : PE X e (tE K E f)) (p : plainE e = true) : PT X e (tT K E f) := by
  subst hK
  refine PT.imp (pt_truth h (plain_true p X.env)) ?_
  rintro σ H Q ⟨L, C, s, R, S, q⟩
  refine ⟨L, C, s, R, S, (Post.bind q).mono (fun v H1 h => ?_) fun _ _ _ h => h⟩
  obtain ⟨w, C1, L1, e1, R1, r1, p1⟩ := h
  obtain ⟨k, g, tv, k', e2, q'⟩ := tru_of R1 r1 p1
  cases e2
  exact ⟨k, tv, q'⟩
theorem Good.of {c : CE} (h : ∀ e, chkE V1.GT c sd e = true → plainE e = true ∧ PE X e (tE X.K E (ev V1.run c))) (h2 : ∀ es, chkA V1.GT c sd es = false) : Good V1 E sd X c :=
  ⟨fun e he => (h e he).2, fun e he _ => pt_plain rfl (h e he).2 (h e he).1, fun op vs pos he => absurd (h _ he).1 (by intro h; cases h), fun es he => by rw [h2] at he; cases he⟩
theorem Each.pa : ∀ {c : CE} {es : List Expr}, Each V1 E sd X c es → PA X es (tA X.K E (ev V1.run c))
  | .nil, [], _ => by
    refine PA.imp pa_nil ?_
    rintro σ H Q ⟨L, C, s, R, S, q⟩
    exact q H L [] .refl R .nil
  | .cons a b, e :: es, h => by
    obtain ⟨h0, ⟨_, h1⟩, h2⟩ := h
    refine PA.imp (pa_cons h1 (Each.pa h2) (star_of h0)) ?_
    rintro σ H Q ⟨L, C, s, R, S, q⟩
    have q : PostA X.K H L ((ev V1.run a s C).bind fun w h1 => (ev V1.run b s h1).bind fun ws h2 => match ws with
      | .tup l => .ok (.tup (w :: l)) h2
      | _ => .bad) Q (E σ) := q
    refine ⟨L, C, s, R, S, (PostA.bind q).mono (fun v H1 h => ?_) fun _ _ _ h => h⟩
    obtain ⟨w, C1, L1, e1, R1, r1, p1⟩ := h
    refine ⟨L1, C1, s, R1, S.ext e1, ?_⟩
    have p2 := PostA.on (k := fun l h => .ok (.tup (w :: l)) h) p1
    generalize hr : ev V1.run b s C1 = rb at p2
    cases rb with
    | ok u C2 =>
      cases u with
      | tup l =>
        refine fun H2 L2 vs e2 R2 rs => ?_
        obtain ⟨ws, C3, L3, e3, R3, rs3, p3⟩ := p2 H2 L2 vs e2 R2 rs
        exact p3 H2 L3 (v :: vs) .refl R3 (.cons (r1.ext e3) rs3)
      | _ => exact p2
    | exc c ws C2 => exact p2
    | bad => exact p2
  | .nil, _ :: _, h => h.elim
  | .cons _ _, [], h => h.elim
  | .var _, _, h | .lit _, _, h | .gint _ _, _, h | .gty _, _, h | .bin _ _ _, _, h | .neg _, _, h | .not _, _, h | .and _ _, _, h | .or _ _, _, h | .cmp _ _ _, _, h | .cmp2 _ _ _ _ _, _, h | .ite _ _ _, _, h
  | .tup _, _, h | .lst _, _, h | .call _ _, _, h | .bi _ _, _, h | .lenset _, _, h | .meth _ _ _, _, h | .ix _ _, _, h | .slc _ _ _, _, h | .nopart, _, h | .comp _ _ _ _ _ _, _, h | .compK _ _ _ _ _, _, h | .comp2 _ _ _ _ _ _ _ _ _ _ _, _, h | .dnew _, _, h | .disp _, _, h | .gfn _, _, h | .callv _ _ _, _, h | .callk _ _ _, _, h | .rev _, _, h => by cases ‹List Expr› <;> exact h.elim
theorem Good.pa {c : CE} (g : Good V1 E sd X c) {es : List Expr} (h : chkA V1.GT c sd es = true) : PA X es (tA X.K E (ev V1.run c)) := (g.each es h).pa
/-- .. with each e its own -/
theorem Good.nil (cx : Ctx V1 E sd X) : Good V1 E sd X .nil :=
  ⟨fun e he => (Bool.false_ne_true he).elim, fun e he => (Bool.false_ne_true he).elim, fun op vs pos he => (Bool.false_ne_true he).elim, fun es he => by cases es with
    | nil => exact trivial
    | cons _ _ => exact (Bool.false_ne_true he).elim⟩
theorem Good.cons {a b : CE} (ga : Good V1 E sd X a) (gb : Good V1 E sd X b) : Good V1 E sd X (.cons a b) :=
  ⟨fun e he => (Bool.false_ne_true he).elim, fun e he => (Bool.false_ne_true he).elim, fun op vs pos he => (Bool.false_ne_true he).elim, fun es he => by cases es with
    | nil => exact (Bool.false_ne_true he).elim
    | cons e es =>
      simp only [chkA, Bool.and_eq_true] at he
      exact ⟨(Bool.not_eq_true' _).mp he.1, ⟨he.2.1, ga.pe e he.2.1⟩, gb.each es he.2.2⟩⟩

/-! ### names, constants -/
theorem Good.var (cx : Ctx V1 E sd X) (i : Nat) : Good V1 E sd X (.var i) := by
  refine .of (fun e h => ?_) fun es => rfl
  cases e with
  | Name x pos =>
    simp only [chkE, Bool.and_eq_true, decide_eq_true_eq] at h
    refine ⟨rfl, PE.imp (pe_var (i := i) (by rw [cx.N]; exact h.1) (by rw [cx.sc]; exact vis_of h.2.1) (ok_name h.2.2).1 (ok_name h.2.2).2) ?_⟩
    rintro σ H Q ⟨L, C, s, R, S, q⟩
    have q : Post X.K H L (match s[i]? with
      | some (some w) => .ok w C
      | _ => .bad) Q (E σ) := q
    split at q
    · rename_i w e
      obtain ⟨v, h1, h2⟩ := S.at_ i w e
      exact ⟨v, h1, q.same R h2⟩
    · exact q.elim
  | _ => exact (Bool.false_ne_true h).elim
theorem Good.lit (cx : Ctx V1 E sd X) (w : W) : Good V1 E sd X (.lit w) := by
  refine .of (fun e h => ?_) fun es => rfl
  cases e with
  | Constant c k pos =>
    refine ⟨rfl, ?_⟩
    have h : litB w c = true := h
    unfold litB at h
    split at h
    · exact PE.imp pe_non (by rintro σ H Q ⟨L, C, s, R, S, q⟩; exact q.same R .non)
    · rename_i a b _
      obtain rfl : a = b := by simpa using h
      exact PE.imp pe_bl (by rintro σ H Q ⟨L, C, s, R, S, q⟩; exact q.same R (.bl a))
    · rename_i i j _
      obtain rfl : i = j := by simpa using h
      exact PE.imp pe_int (by rintro σ H Q ⟨L, C, s, R, S, q⟩; exact q.same R (.int i))
    · rename_i i j _
      obtain rfl : i = j := by simpa using h
      exact PE.imp pe_str (by rintro σ H Q ⟨L, C, s, R, S, q⟩; exact q.same R (.str i))
    · cases h
  | _ => exact (Bool.false_ne_true h).elim
theorem Good.gint (cx : Ctx V1 E sd X) (x : Str) (i : Int) : Good V1 E sd X (.gint x i) := by
  refine .of (fun e h => ?_) fun es => rfl
  cases e with
  | Name y pos =>
    simp only [chkE, Bool.and_eq_true, decide_eq_true_eq] at h
    obtain ⟨t, hm⟩ := cx.int y i h.2.2.1
    refine ⟨rfl, PE.imp (pe_glob (v := .int i) (gl_of cx.sc h.2.1) hm ⟨t, rfl⟩ (ok_name h.2.2.2).1) ?_⟩
    rintro σ H Q ⟨L, C, s, R, S, q⟩
    exact q.same R (.int i)
  | _ => exact (Bool.false_ne_true h).elim
theorem boot_ty : ∀ n ∈ tyNames, bootBuiltins (Str.ofString n) = some (.type n) ∧ Str.ofString n ≠ "__name__" := by
  decide +kernel
theorem Good.gty (cx : Ctx V1 E sd X) (n : String) : Good V1 E sd X (.gty n) := by
  refine .of (fun e h => ?_) fun es => rfl
  cases e with
  | Name y pos =>
    simp only [chkE, Bool.and_eq_true, decide_eq_true_eq] at h
    obtain ⟨rfl, h1, h2, h3, h4⟩ := h
    obtain ⟨b1, b2⟩ := boot_ty n (by simpa using h1)
    refine ⟨rfl, PE.imp (pe_bltn (v := .ty n) (gl_of cx.sc h2) (cx.blt _ h3) b1 rfl b2 (ok_name h4).1) ?_⟩
    rintro σ H Q ⟨L, C, s, R, S, q⟩
    exact q.same R (.ty n)
  | _ => exact (Bool.false_ne_true h).elim
theorem Good.nopart : Good V1 E sd X .nopart := .of (fun e h => (Bool.false_ne_true h).elim) fun es => rfl

/-! ### operators -/
theorem Good.bin (op : Operator) {a b : CE} (ga : Good V1 E sd X a) (gb : Good V1 E sd X b) : Good V1 E sd X (.bin op a b) := by
  refine .of (fun e h => ?_) fun es => rfl
  cases e with
  | BinOp l o r pos =>
    simp only [chkE, Bool.and_eq_true, decide_eq_true_eq] at h
    obtain ⟨rfl, h1, h2⟩ := h
    refine ⟨rfl, PE.imp (pe_op (opB o) (ga.pe l h1) (gb.pe r h2)) ?_⟩
    rintro σ H Q ⟨L, C, s, R, S, q⟩
    have q : Post X.K H L ((ev V1.run a s C).bind fun x h1 => (ev V1.run b s h1).bind fun y h2 => binW o x y h2) Q (E σ) := q
    refine ⟨L, C, s, R, S, q.bind.mono (fun v H1 h => ?_) fun _ _ _ h => h⟩
    obtain ⟨w, C1, L1, e1, R1, r1, p1⟩ := h
    refine ⟨L1, C1, s, R1, S.ext e1, p1.bind.mono (fun u H2 h => ?_) fun _ _ _ h => h⟩
    obtain ⟨w2, C2, L2, e2, R2, r2, p2⟩ := h
    exact binW_ok R2 (r1.ext e2) r2 p2
  | _ => exact (Bool.false_ne_true h).elim
theorem Good.neg {a : CE} (ga : Good V1 E sd X a) : Good V1 E sd X (.neg a) := by
  refine .of (fun e h => ?_) fun es => rfl
  cases e with
  | UnaryOp op x pos =>
    cases op with
    | USub =>
      have h : chkE V1.GT a sd x = true := h
      refine ⟨rfl, PE.imp (pe_un un_neg (ga.pe x h)) ?_⟩
      rintro σ H Q ⟨L, C, s, R, S, q⟩
      have q : Post X.K H L ((ev V1.run a s C).bind fun x h1 => match x with
        | .int i => .ok (.int (-i)) h1
        | _ => .bad) Q (E σ) := q
      refine ⟨L, C, s, R, S, q.bind.mono (fun v H1 h => ?_) fun _ _ _ h => h⟩
      obtain ⟨w, C1, L1, e1, R1, r1, p1⟩ := h
      split at p1
      · rename_i i
        exact ⟨i, r1.int_inv, p1.same R1 (.int _)⟩
      · exact p1.elim
    | _ => exact (Bool.false_ne_true h).elim
  | _ => exact (Bool.false_ne_true h).elim
end
end RF
end
section
set_option Elab.async false
set_option linter.all false
set_option maxRecDepth 100000
set_option maxHeartbeats 4000000
/-! RF10: expressions, on: truth, comparisons, displays, calls, parts. -/
noncomputable section
namespace RF
open PySem PySem.Spec PyProof.Rows L2
section
variable {V1 : Env1} {E : L2.St → EX} {sd : SD} {X : Cx}
theorem isIf_of {e : Expr} (h : (!isIfE e) = true) : isIfE e = false := (Bool.not_eq_true' _).mp h
/-! ### not, and, or -/
/-- by the truth of r -/
def tst (r : R W) (k : Bool → W → CH → R W) : R W := r.bind fun x h => match truth h x with
  | some b => k b x h
  | none => .bad
theorem tst_bind {r : R W} {k : Bool → W → CH → R W} {l : W → CH → R W} : (tst r k).bind l = tst r fun b x h => (k b x h).bind l := by
  unfold tst
  rw [bind_assoc]
  refine congrArg (R.bind r) (funext fun x => funext fun h => ?_)
  cases truth h x <;> rfl
theorem ev_not {run : Nat → List W → CH → R W} {a : CE} {s : St} {h : CH} : ev run (.not a) s h = tst (ev run a s h) fun b x h => .ok (.bl (!b)) h := rfl
theorem ev_and {run : Nat → List W → CH → R W} {a b : CE} {s : St} {h : CH} : ev run (.and a b) s h = tst (ev run a s h) fun k x h => if k then ev run b s h else .ok x h :=
  congrArg (R.bind (ev run a s h)) (funext fun x => funext fun h => by cases truth h x with
    | none => rfl
    | some k => cases k <;> rfl)
theorem ev_or {run : Nat → List W → CH → R W} {a b : CE} {s : St} {h : CH} : ev run (.or a b) s h = tst (ev run a s h) fun k x h => if k then .ok x h else ev run b s h :=
  congrArg (R.bind (ev run a s h)) (funext fun x => funext fun h => by cases truth h x with
    | none => rfl
    | some k => cases k <;> rfl)
theorem ev_ite {run : Nat → List W → CH → R W} {a b c : CE} {s : St} {h : CH} : ev run (.ite c a b) s h = tst (ev run c s h) fun k x h => if k then ev run a s h else ev run b s h :=
  congrArg (R.bind (ev run c s h)) (funext fun x => funext fun h => by cases truth h x with
    | none => rfl
    | some k => cases k <;> rfl)
/-- the test's value at the end of a test -/
theorem tst_same {E : EX} {K : Fg} {H H1 : Hp} {L L1 : List Addr} {C : CH} {w : W} {k : Bool} {Q : Bool → Hp → Prop} (q : Post K H L ((RF.R.ok w C).bind trW) (fun v H1 => ∃ k, v = .bl k ∧ Q k H1) E) (g : truth C w = some k) (e : Ext H L H1 L1) (R : Rep K L1 C H1) : Q k H1 := by
  have q : Post K H L (trW w C) (fun v H1 => ∃ k, v = .bl k ∧ Q k H1) E := q
  unfold trW at q
  rw [g] at q
  obtain ⟨k', e3, q4⟩ := q H1 L1 _ e R (.bl _)
  cases e3
  exact q4
theorem tst_T {E : EX} {K : Fg} {H : Hp} {L : List Addr} {r : R W} {k : Bool → W → CH → R W} {Q : VK} (p : Post K H L (tst r k) Q E) :
    Post K H L (r.bind trW) (fun v H1 => ∃ b, v = .bl b ∧ ∃ x C1 L1, Ext H L H1 L1 ∧ Rep K L1 C1 H1 ∧ truth C1 x = some b ∧ Post K H1 L1 (k b x C1) Q E) E := by
  cases r with
  | ok w C' =>
    have p' : Post K H L (match truth C' w with
      | some b => k b w C'
      | none => .bad) Q E := p
    show Post K H L (trW w C') _ E
    unfold trW
    cases g : truth C' w with
    | none => rw [g] at p'; exact p'
    | some b =>
      rw [g] at p'
      refine fun H1 L1 v e R q => ?_
      cases q
      exact ⟨b, rfl, w, C', L1, e, R, g, p'.ext e⟩
  | exc c ws C' => exact p
  | bad => exact p
theorem tst_V {E : EX} {K : Fg} {H : Hp} {L : List Addr} {r : R W} {k : Bool → W → CH → R W} {Q : VK} (p : Post K H L (tst r k) Q E) :
    Post K H L r (fun v H1 => ∃ b, TruV K v H1 b ∧ ∃ x C1 L1, Ext H L H1 L1 ∧ Rep K L1 C1 H1 ∧ RW K H1 L1 x v ∧ Post K H1 L1 (k b x C1) Q E) E := Post.testV p
theorem Good.not {a : CE} (ga : Good V1 E sd X a) : Good V1 E sd X (.not a) := by
  refine ⟨fun e h => ?_, fun e h hi => ?_, fun op vs pos h => (Bool.false_ne_true h).elim, fun es h => (Bool.false_ne_true h).elim⟩
  · cases e with
    | UnaryOp op x pos =>
      cases op with
      | Not =>
        simp only [chkE, Bool.and_eq_true] at h
        refine PE.imp (pe_notT (ga.pe x h.2)) ?_
        rintro σ H Q ⟨L, C, s, R, S, q⟩
        rw [ev_not] at q
        refine ⟨L, C, s, R, S, (tst_V q).mono (fun v H1 h => ?_) fun _ _ _ h => h⟩
        obtain ⟨k, tv, w, C1, L1, e1, R1, r1, p1⟩ := h
        exact ⟨k, tv, p1.same R1 (.bl _)⟩
      | _ => exact (Bool.false_ne_true h).elim
    | _ => exact (Bool.false_ne_true h).elim
  · cases e with
    | UnaryOp op x pos =>
      cases op with
      | Not =>
        simp only [chkE, Bool.and_eq_true] at h
        refine PT.imp (pt_not (ga.pt x h.2 (isIf_of h.1))) ?_
        rintro σ H Q ⟨L, C, s, R, S, q⟩
        simp only [ev_not, tst_bind] at q
        refine ⟨L, C, s, R, S, (tst_T q).mono (fun v H1 h => ?_) fun _ _ _ h => h⟩
        obtain ⟨k, e1, w, C1, L1, e2, R1, g, p1⟩ := h
        exact ⟨k, e1, tst_same p1 rfl .refl R1⟩
      | _ => exact (Bool.false_ne_true h).elim
    | _ => exact (Bool.false_ne_true h).elim
theorem tT_and {K : Fg} {a b : CE} : ∀ σ H Q, tT K E (ev V1.run (.and a b)) σ H Q → tAnd (tT K E (ev V1.run a)) (tT K E (ev V1.run b)) σ H Q := by
  rintro σ H Q ⟨L, C, s, R, S, q⟩
  simp only [ev_and, tst_bind] at q
  refine ⟨L, C, s, R, S, (tst_T q).mono (fun v H1 h => ?_) fun _ _ _ h => h⟩
  obtain ⟨k, e1, w, C1, L1, e2, R1, g, p1⟩ := h
  refine ⟨k, e1, ?_⟩
  cases k with
  | true => exact ⟨L1, C1, s, R1, S.ext e2, p1⟩
  | false => exact tst_same p1 g .refl R1
theorem tT_or {K : Fg} {a b : CE} : ∀ σ H Q, tT K E (ev V1.run (.or a b)) σ H Q → tOr (tT K E (ev V1.run a)) (tT K E (ev V1.run b)) σ H Q := by
  rintro σ H Q ⟨L, C, s, R, S, q⟩
  simp only [ev_or, tst_bind] at q
  refine ⟨L, C, s, R, S, (tst_T q).mono (fun v H1 h => ?_) fun _ _ _ h => h⟩
  obtain ⟨k, e1, w, C1, L1, e2, R1, g, p1⟩ := h
  refine ⟨k, e1, ?_⟩
  cases k with
  | false => exact ⟨L1, C1, s, R1, S.ext e2, p1⟩
  | true => exact tst_same p1 g .refl R1
theorem tE_and {K : Fg} {a b : CE} : ∀ σ H Q, tE K E (ev V1.run (.and a b)) σ H Q → tAndT K (tE K E (ev V1.run a)) (tE K E (ev V1.run b)) σ H Q := by
  rintro σ H Q ⟨L, C, s, R, S, q⟩
  rw [ev_and] at q
  refine ⟨L, C, s, R, S, (tst_V q).mono (fun v H1 h => ?_) fun _ _ _ h => h⟩
  obtain ⟨k, tv, w, C1, L1, e1, R1, r1, p1⟩ := h
  refine ⟨k, tv, ?_⟩
  cases k with
  | true => exact ⟨L1, C1, s, R1, S.ext e1, p1⟩
  | false => exact Post.same (w := w) p1 R1 r1
theorem tE_or {K : Fg} {a b : CE} : ∀ σ H Q, tE K E (ev V1.run (.or a b)) σ H Q → tOrT K (tE K E (ev V1.run a)) (tE K E (ev V1.run b)) σ H Q := by
  rintro σ H Q ⟨L, C, s, R, S, q⟩
  rw [ev_or] at q
  refine ⟨L, C, s, R, S, (tst_V q).mono (fun v H1 h => ?_) fun _ _ _ h => h⟩
  obtain ⟨k, tv, w, C1, L1, e1, R1, r1, p1⟩ := h
  refine ⟨k, tv, ?_⟩
  cases k with
  | false => exact ⟨L1, C1, s, R1, S.ext e1, p1⟩
  | true => exact Post.same (w := w) p1 R1 r1
theorem chk_and {GT : Str → Option GK} {a b : CE} {e : Expr} (h : chkE GT (.and a b) sd e = true) : ∃ v1 v2 rest pos, e = .BoolOp .And (v1 :: v2 :: rest) pos ∧ isIfE v1 = false ∧ chkE GT a sd v1 = true ∧
    ((rest = [] ∧ isIfE v2 = false ∧ chkE GT b sd v2 = true) ∨ chkE GT b sd (.BoolOp .And (v2 :: rest) pos) = true) := by
  cases e with
  | BoolOp op vs pos =>
    cases op with
    | And =>
      cases vs with
      | nil => exact (Bool.false_ne_true h).elim
      | cons v1 vs =>
        cases vs with
        | nil => exact (Bool.false_ne_true h).elim
        | cons v2 rest =>
          simp only [chkE, Bool.and_eq_true] at h
          refine ⟨v1, v2, rest, pos, rfl, isIf_of h.1, h.2.1, ?_⟩
          cases rest with
          | nil => 
            have h2 := h.2.2
            simp only [Bool.and_eq_true] at h2
            exact .inl ⟨rfl, isIf_of h2.1, h2.2⟩
          | cons _ _ => exact .inr h.2.2
    | Or => exact (Bool.false_ne_true h).elim
  | _ => exact (Bool.false_ne_true h).elim
theorem chk_or {GT : Str → Option GK} {a b : CE} {e : Expr} (h : chkE GT (.or a b) sd e = true) : ∃ v1 v2 rest pos, e = .BoolOp .Or (v1 :: v2 :: rest) pos ∧ isIfE v1 = false ∧ chkE GT a sd v1 = true ∧
    ((rest = [] ∧ isIfE v2 = false ∧ chkE GT b sd v2 = true) ∨ chkE GT b sd (.BoolOp .Or (v2 :: rest) pos) = true) := by
  cases e with
  | BoolOp op vs pos =>
    cases op with
    | Or =>
      cases vs with
      | nil => exact (Bool.false_ne_true h).elim
      | cons v1 vs =>
        cases vs with
        | nil => exact (Bool.false_ne_true h).elim
        | cons v2 rest =>
          simp only [chkE, Bool.and_eq_true] at h
          refine ⟨v1, v2, rest, pos, rfl, isIf_of h.1, h.2.1, ?_⟩
          cases rest with
          | nil => 
            have h2 := h.2.2
            simp only [Bool.and_eq_true] at h2
            exact .inl ⟨rfl, isIf_of h2.1, h2.2⟩
          | cons _ _ => exact .inr h.2.2
    | And => exact (Bool.false_ne_true h).elim
  | _ => exact (Bool.false_ne_true h).elim
theorem Good.and {a b : CE} (ga : Good V1 E sd X a) (gb : Good V1 E sd X b) : Good V1 E sd X (.and a b) := by
  have pw : ∀ e, chkE V1.GT (.and a b) sd e = true → PW X e (tT X.K E (ev V1.run (.and a b))) := fun e h => by
    obtain ⟨v1, v2, rest, pos, rfl, i1, h1, h2⟩ := chk_and h
    refine PW.imp (t := tAnd (tT X.K E (ev V1.run a)) (tT X.K E (ev V1.run b))) ?_ tT_and
    rcases h2 with ⟨rfl, i2, h2⟩ | h2
    · exact pw_and (ga.pt v1 h1 i1) (pw_and1 (gb.pt v2 h2 i2))
    · exact pw_and (ga.pt v1 h1 i1) (gb.pw _ _ _ h2)
  refine ⟨fun e h => ?_, fun e h hi => (pw e h).pt, fun op vs pos h => pw _ h, fun es h => (Bool.false_ne_true h).elim⟩
  obtain ⟨v1, v2, rest, pos, rfl, i1, h1, h2⟩ := chk_and h
  refine PE.imp (t := tAndT X.K (tE X.K E (ev V1.run a)) (tE X.K E (ev V1.run b))) ?_ tE_and
  rcases h2 with ⟨rfl, i2, h2⟩ | h2
  · exact pe_andT (ga.pe v1 h1) (pe_one (gb.pe v2 h2))
  · exact pe_andT (ga.pe v1 h1) (gb.pe _ h2)
theorem Good.or {a b : CE} (ga : Good V1 E sd X a) (gb : Good V1 E sd X b) : Good V1 E sd X (.or a b) := by
  have pw : ∀ e, chkE V1.GT (.or a b) sd e = true → PW X e (tT X.K E (ev V1.run (.or a b))) := fun e h => by
    obtain ⟨v1, v2, rest, pos, rfl, i1, h1, h2⟩ := chk_or h
    refine PW.imp (t := tOr (tT X.K E (ev V1.run a)) (tT X.K E (ev V1.run b))) ?_ tT_or
    rcases h2 with ⟨rfl, i2, h2⟩ | h2
    · exact pw_or (ga.pt v1 h1 i1) (pw_or1 (gb.pt v2 h2 i2))
    · exact pw_or (ga.pt v1 h1 i1) (gb.pw _ _ _ h2)
  refine ⟨fun e h => ?_, fun e h hi => (pw e h).pt, fun op vs pos h => pw _ h, fun es h => (Bool.false_ne_true h).elim⟩
  obtain ⟨v1, v2, rest, pos, rfl, i1, h1, h2⟩ := chk_or h
  refine PE.imp (t := tOrT X.K (tE X.K E (ev V1.run a)) (tE X.K E (ev V1.run b))) ?_ tE_or
  rcases h2 with ⟨rfl, i2, h2⟩ | h2
  · exact pe_orT (ga.pe v1 h1) (pe_one (gb.pe v2 h2))
  · exact pe_orT (ga.pe v1 h1) (gb.pe _ h2)
end
end RF
end
end
section
set_option Elab.async false
set_option linter.all false
set_option maxRecDepth 100000
set_option maxHeartbeats 4000000
/-! RF11: comparisons, displays, calls, parts. -/
noncomputable section
namespace RF
open PySem PySem.Spec PyProof.Rows L2
/-- the value is a bool, if there is one -/
def IsBl (r : R W) : Prop := ∀ w C, r = .ok w C → ∃ k, w = .bl k
theorem IsBl.bind {α : Type} {r : R α} {k : α → CH → R W} (h : ∀ x C, IsBl (k x C)) : IsBl (r.bind k) := by
  cases r with
  | ok a C => exact h a C
  | exc c ws C => intro w C e; cases e
  | bad => intro w C e; cases e
theorem IsBl.bl {k : Bool} {C : CH} : IsBl (.ok (.bl k) C) := by intro w C' e; cases e; exact ⟨k, rfl⟩
theorem IsBl.bad : IsBl .bad := by intro w C' e; cases e
theorem cmp_bl (op : CmpOp) (x y : W) (C : CH) : IsBl (cmpW op x y C) := by
  unfold cmpW
  cases op <;> simp only <;> repeat' (first | exact .bl | exact .bad | split)
theorem ev_cmp_bl {run : Nat → List W → CH → R W} {op : CmpOp} {a b : CE} {s : St} {h : CH} : IsBl (ev run (.cmp op a b) s h) :=
  IsBl.bind fun x C => IsBl.bind fun y C => cmp_bl op x y C
theorem ev_cmp2_bl {run : Nat → List W → CH → R W} {op op' : CmpOp} {a b c : CE} {s : St} {h : CH} : IsBl (ev run (.cmp2 op op' a b c) s h) :=
  IsBl.bind fun x C => IsBl.bind fun y C => IsBl.bind fun k C => by
    split
    · exact IsBl.bind fun z C => cmp_bl op' y z C
    · exact .bl
    · exact .bad
section
variable {V1 : Env1} {E : L2.St → EX} {sd : SD} {X : Cx}
theorem bl_T {E : EX} {K : Fg} {H : Hp} {L : List Addr} {r : R W} {Q : Bool → Hp → Prop} (hb : IsBl r) (p : Post K H L (r.bind trW) (fun v H1 => ∃ k, v = .bl k ∧ Q k H1) E) : Post K H L r (fun v H1 => ∃ k, v = .bl k ∧ Q k H1) E := by
  cases r with
  | ok w C =>
    obtain ⟨k, rfl⟩ := hb w C rfl
    exact p
  | exc c ws C => exact p
  | bad => exact p
theorem set_of {e : Expr} {op : CmpOp} (h : (!isSetE e) = true) : behindInMarks op e = false := by
  cases e <;> first | rfl | cases h
theorem tE_cmp {K : Fg} {op : CmpOp} {a b : CE} : ∀ σ H Q, tE K E (ev V1.run (.cmp op a b)) σ H Q → tOp (rC K op) (tE K E (ev V1.run a)) (tE K E (ev V1.run b)) σ H Q := by
  rintro σ H Q ⟨L, C, s, R, S, q⟩
  have q : Post K H L ((ev V1.run a s C).bind fun x h1 => (ev V1.run b s h1).bind fun y h2 => cmpW op x y h2) Q (E σ) := q
  refine ⟨L, C, s, R, S, q.bind.mono (fun v H1 h => ?_) fun _ _ _ h => h⟩
  obtain ⟨w, C1, L1, e1, R1, r1, p1⟩ := h
  refine ⟨L1, C1, s, R1, S.ext e1, p1.bind.mono (fun u H2 h => ?_) fun _ _ _ h => h⟩
  obtain ⟨w2, C2, L2, e2, R2, r2, p2⟩ := h
  exact cmpW_ok R2 (r1.ext e2) r2 p2
theorem Good.cmp (cx : Ctx V1 E sd X) (op : CmpOp) {a b : CE} (ga : Good V1 E sd X a) (gb : Good V1 E sd X b) : Good V1 E sd X (.cmp op a b) := by
  refine ⟨fun e h => ?_, fun e h hi => ?_, fun op vs pos h => (Bool.false_ne_true h).elim, fun es h => (Bool.false_ne_true h).elim⟩
  · cases e with
    | Compare l os rs pos =>
      cases os with
      | nil => exact (Bool.false_ne_true h).elim
      | cons o os =>
        cases os with
        | cons _ _ => exact (Bool.false_ne_true h).elim
        | nil =>
          cases rs with
          | nil => exact (Bool.false_ne_true h).elim
          | cons r rs =>
            cases rs with
            | cons _ _ => exact (Bool.false_ne_true h).elim
            | nil =>
              simp only [chkE, Bool.and_eq_true, decide_eq_true_eq] at h
              obtain ⟨rfl, h1, h2, h3⟩ := h
              exact PE.imp (pe_cmpR (opC cx.hu o) (ga.pe l h1) (gb.pe r h2) (set_of h3)) tE_cmp
    | _ => exact (Bool.false_ne_true h).elim
  · cases e with
    | Compare l os rs pos =>
      cases os with
      | nil => exact (Bool.false_ne_true h).elim
      | cons o os =>
        cases os with
        | cons _ _ => exact (Bool.false_ne_true h).elim
        | nil =>
          cases rs with
          | nil => exact (Bool.false_ne_true h).elim
          | cons r rs =>
            cases rs with
            | cons _ _ => exact (Bool.false_ne_true h).elim
            | nil =>
              simp only [chkE, Bool.and_eq_true, decide_eq_true_eq] at h
              obtain ⟨rfl, h1, h2, h3⟩ := h
              refine PT.imp (pt_cmpR (opC cx.hu o) (ga.pe l h1) (gb.pe r h2) (set_of h3)) ?_
              rintro σ H Q ⟨L, C, s, R, S, q⟩
              exact tE_cmp σ H _ ⟨L, C, s, R, S, bl_T ev_cmp_bl q⟩
    | _ => exact (Bool.false_ne_true h).elim
theorem tE_cmp2 {K : Fg} {op op' : CmpOp} {a b c : CE} : ∀ σ H Q, tE K E (ev V1.run (.cmp2 op op' a b c)) σ H Q → tChain (rC K op) (rC K op') (tE K E (ev V1.run a)) (tE K E (ev V1.run b)) (tE K E (ev V1.run c)) σ H Q := by
  rintro σ H Q ⟨L, C, s, R, S, q⟩
  have q : Post K H L ((ev V1.run a s C).bind fun x h1 => (ev V1.run b s h1).bind fun y h2 => (cmpW op x y h2).bind fun k h3 => match k with
    | .bl true => (ev V1.run c s h3).bind fun z h4 => cmpW op' y z h4
    | .bl false => .ok (.bl false) h3
    | _ => .bad) Q (E σ) := q
  refine ⟨L, C, s, R, S, q.bind.mono (fun v H1 h => ?_) fun _ _ _ h => h⟩
  obtain ⟨w, C1, L1, e1, R1, r1, p1⟩ := h
  refine ⟨L1, C1, s, R1, S.ext e1, p1.bind.mono (fun u H2 h => ?_) fun _ _ _ h => h⟩
  obtain ⟨w2, C2, L2, e2, R2, r2, p2⟩ := h
  refine cmpW_ok R2 (r1.ext e2) r2 (p2.bind.mono (fun z H3 h => ?_) fun _ _ _ h => h)
  obtain ⟨w3, C3, L3, e3, R3, r3, p3⟩ := h
  split at p3
  · refine ⟨true, r3.bl_inv, ?_⟩
    show tE K E (ev V1.run c) σ H3 _
    refine ⟨L3, C3, s, R3, (S.ext e1).ext (e2.trans e3), p3.bind.mono (fun t H4 h => ?_) fun _ _ _ h => h⟩
    obtain ⟨w4, C4, L4, e4, R4, r4, p4⟩ := h
    exact cmpW_ok R4 (r2.ext (e3.trans e4)) r4 p4
  · exact ⟨false, r3.bl_inv, p3.same R3 (.bl _)⟩
  · exact p3.elim
theorem chk_cmp2 {GT : Str → Option GK} {op op' : CmpOp} {a b c : CE} {e : Expr} (h : chkE GT (.cmp2 op op' a b c) sd e = true) : ∃ l r r' pos, e = .Compare l [op, op'] [r, r'] pos ∧
    chkE GT a sd l = true ∧ chkE GT b sd r = true ∧ chkE GT c sd r' = true ∧ (!isSetE r') = true := by
  cases e with
  | Compare l os rs pos =>
    rcases os with _ | ⟨o, _ | ⟨o', _ | ⟨_, _⟩⟩⟩ <;> rcases rs with _ | ⟨r, _ | ⟨r', _ | ⟨_, _⟩⟩⟩ <;> first | exact (Bool.false_ne_true h).elim | skip
    simp only [chkE, Bool.and_eq_true, decide_eq_true_eq] at h
    obtain ⟨rfl, rfl, h1, h2, h3, h4, h5⟩ := h
    exact ⟨l, r, r', pos, rfl, h1, h2, h3, h5⟩
  | _ => exact (Bool.false_ne_true h).elim
theorem Good.cmp2 (cx : Ctx V1 E sd X) (op op' : CmpOp) {a b c : CE} (ga : Good V1 E sd X a) (gb : Good V1 E sd X b) (gc : Good V1 E sd X c) : Good V1 E sd X (.cmp2 op op' a b c) := by
  refine ⟨fun e h => ?_, fun e h hi => ?_, fun op vs pos h => (Bool.false_ne_true h).elim, fun es h => (Bool.false_ne_true h).elim⟩
  · obtain ⟨l, r, r', pos, rfl, h1, h2, h3, h5⟩ := chk_cmp2 h
    exact PE.imp (pe_chain (opC cx.hu op) (opC cx.hu op') (ga.pe l h1) (gb.pe r h2) (gc.pe r' h3) (show behindInMarks op' r' = false from set_of h5)) tE_cmp2
  · obtain ⟨l, r, r', pos, rfl, h1, h2, h3, h5⟩ := chk_cmp2 h
    refine PT.imp (pt_chain (opC cx.hu op) (opC cx.hu op') (ga.pe l h1) (gb.pe r h2) (gc.pe r' h3) (show behindInMarks op' r' = false from set_of h5)) ?_
    rintro σ H Q ⟨L, C, s, R, S, q⟩
    exact tE_cmp2 σ H _ ⟨L, C, s, R, S, bl_T ev_cmp2_bl q⟩
theorem Good.ite {a b c : CE} (gc : Good V1 E sd X c) (ga : Good V1 E sd X a) (gb : Good V1 E sd X b) : Good V1 E sd X (.ite c a b) := by
  have pe : ∀ e, chkE V1.GT (.ite c a b) sd e = true → isIfE e = true ∧ PE X e (tE X.K E (ev V1.run (.ite c a b))) := fun e h => by
    cases e with
    | IfExp t x y pos =>
      simp only [chkE, Bool.and_eq_true] at h
      obtain ⟨h1, h2, h3, h4⟩ := h
      refine ⟨rfl, PE.imp (pe_ifExp (gc.pt t h2 (isIf_of h1)) (ga.pe x h3) (gb.pe y h4)) ?_⟩
      rintro σ H Q ⟨L, C, s, R, S, q⟩
      rw [ev_ite] at q
      refine ⟨L, C, s, R, S, (tst_T q).mono (fun v H1 h => ?_) fun _ _ _ h => h⟩
      obtain ⟨k, e1, w, C1, L1, e2, R1, g, p1⟩ := h
      refine ⟨k, e1, ?_⟩
      cases k with
      | true => exact ⟨L1, C1, s, R1, S.ext e2, p1⟩
      | false => exact ⟨L1, C1, s, R1, S.ext e2, p1⟩
    | _ => exact (Bool.false_ne_true h).elim
  exact ⟨fun e h => (pe e h).2, fun e h hi => absurd ((pe e h).1.symm.trans hi) (by decide), fun op vs pos h => (Bool.false_ne_true h).elim, fun es h => (Bool.false_ne_true h).elim⟩

/-! ### displays -/
theorem Good.tup {es : CE} (g : Good V1 E sd X es) : Good V1 E sd X (.tup es) := by
  refine .of (fun e h => ?_) fun es => rfl
  cases e with
  | Tuple l k pos =>
    have h : chkA V1.GT es sd l = true := h
    refine ⟨rfl, PE.imp (pe_tup (g.pa h)) ?_⟩
    rintro σ H Q ⟨L, C, s, R, S, q⟩
    have q : Post X.K H L ((ev V1.run es s C).on fun l h1 => if short l then .ok (.tup l) h1 else .bad) Q (E σ) := q
    refine ⟨L, C, s, R, S, (on_ok q).mono (fun vs H1 h => ?_) fun _ _ _ h => h⟩
    obtain ⟨ws, C1, L1, e1, R1, r1, p1⟩ := h
    obtain ⟨hs, p1⟩ := post_if p1
    exact ⟨by rw [r1.length]; exact Nat.le_of_lt (short_le hs), fun p hp => p1.newTup R1 r1 hp⟩
  | _ => exact (Bool.false_ne_true h).elim
theorem Good.lst {es : CE} (g : Good V1 E sd X es) : Good V1 E sd X (.lst es) := by
  refine .of (fun e h => ?_) fun es => rfl
  cases e with
  | List l pos =>
    have h : chkA V1.GT es sd l = true := h
    refine ⟨rfl, PE.imp (pe_lst (g.pa h)) ?_⟩
    rintro σ H Q ⟨L, C, s, R, S, q⟩
    have q : Post X.K H L ((ev V1.run es s C).on fun l h1 => if short l then .ok (.ref h1.n) (h1.new (.lst l)) else .bad) Q (E σ) := q
    refine ⟨L, C, s, R, S, (on_ok q).mono (fun vs H1 h => ?_) fun _ _ _ h => h⟩
    obtain ⟨ws, C1, L1, e1, R1, r1, p1⟩ := h
    obtain ⟨hs, p1⟩ := post_if p1
    exact ⟨by rw [r1.length]; exact Nat.le_of_lt (short_le hs), fun p hp => p1.newLst R1 r1 hp⟩
  | _ => exact (Bool.false_ne_true h).elim
theorem Good.dnew (t : Bool) : Good V1 E sd X (.dnew t) := by
  refine .of (fun e h => ?_) fun es => rfl
  cases e with
  | Dict ks vs pos =>
    cases ks with
    | cons _ _ => exact (Bool.false_ne_true h).elim
    | nil =>
      cases vs with
      | cons _ _ => exact (Bool.false_ne_true h).elim
      | nil =>
        cases t with
        | true =>
          refine ⟨rfl, PE.imp pe_dnewT ?_⟩
          rintro σ H Q ⟨L, C, s, R, S, q⟩ p hp
          exact q _ _ _ (Ext.push hp) (R.push hp ⟨[], upd_same, rfl, .nil⟩) (.ref (push_at R p))
        | false =>
          refine ⟨rfl, PE.imp pe_dnewK ?_⟩
          rintro σ H Q ⟨L, C, s, R, S, q⟩ p hp
          exact q _ _ _ (Ext.push hp) (R.push hp ⟨[], upd_same, rfl, .nil⟩) (.ref (push_at R p))
  | _ => exact (Bool.false_ne_true h).elim

/-! ### calls -/
theorem Each.stars : ∀ {c : CE} {es : List Expr}, Each V1 E sd X c es → es.all (fun e => !starB e) = true
  | _, [], _ => rfl
  | .cons a b, e :: es, h => by
    rw [List.all_cons, Each.stars h.2.2, h.1] <;> rfl
  | .nil, _ :: _, h => h.elim
  | .var _, _ :: _, h | .lit _, _ :: _, h | .gint _ _, _ :: _, h | .gty _, _ :: _, h | .bin _ _ _, _ :: _, h | .neg _, _ :: _, h | .not _, _ :: _, h | .and _ _, _ :: _, h | .or _ _, _ :: _, h | .cmp _ _ _, _ :: _, h | .cmp2 _ _ _ _ _, _ :: _, h | .ite _ _ _, _ :: _, h
  | .tup _, _ :: _, h | .lst _, _ :: _, h | .call _ _, _ :: _, h | .bi _ _, _ :: _, h | .lenset _, _ :: _, h | .meth _ _ _, _ :: _, h | .ix _ _, _ :: _, h | .slc _ _ _, _ :: _, h | .nopart, _ :: _, h | .comp _ _ _ _ _ _, _ :: _, h | .compK _ _ _ _ _, _ :: _, h | .comp2 _ _ _ _ _ _ _ _ _ _ _, _ :: _, h | .dnew _, _ :: _, h | .disp _, _ :: _, h | .gfn _, _ :: _, h | .callv _ _ _, _ :: _, h | .callk _ _ _, _ :: _, h | .rev _, _ :: _, h => h.elim
theorem all_cons {e : Expr} {es : List Expr} (h : (e :: es).all (fun e => !starB e) = true) : starB e = false ∧ es.all (fun e => !starB e) = true := by
  rw [List.all_cons, Bool.and_eq_true] at h
  exact ⟨(Bool.not_eq_true' _).mp h.1, h.2⟩
theorem fnB_of {GT : Str → Option GK} {x : Str} {f : Nat} (h : fnB GT x f = true) : ∃ kw, GT x = some (.fn f kw) := by
  unfold fnB at h
  split at h
  · rename_i g kw e
    rw [beq_iff_eq] at h
    subst h
    exact ⟨kw, e⟩
  · cases h
theorem fnK_of {GT : Str → Option GK} {x : Str} {f : Nat} {ks : List Str} {pm : List Nat} (h : fnK GT x f ks pm = true) : ∃ kw, GT x = some (.fn f kw) ∧ (ks, pm) ∈ kw := by
  unfold fnK at h
  split at h
  · rename_i g kw e
    rw [Bool.and_eq_true, beq_iff_eq] at h
    obtain ⟨h1, h2⟩ := h
    subst h1
    exact ⟨kw, e, by simpa using h2⟩
  · cases h
section
variable {CX : CXT} {k : Nat} {f : Addr} {fd : FuncData} {ps : List Str} {sp : Sp} {Ex : L2.St → XK} {x : Str} {p pos : Pos}
/-- f() -/
theorem pe_callS0 (F : FnOk X.prog X.w X.K X.mg X.base CX k f fd ps sp) (hr : Room k X.A) (hg : Gl X x) (hm : X.mg x = some (.ref f)) (hk : PySem.W.keepIn X.K (.ref f) = true) (hb : Binds X.K fd ps []) (hx : ∀ σ, PassesAt CX X σ (Ex σ))
    (hdb : (x == ("__debug__" : Str)) = false) : PE X (.Call (.Name x p) [] [] pos) (tCallS sp Ex tNil) := by
  refine ⟨fun pins s σ H Q I h => ?_⟩
  refine wpAny_Call_Name_kw (ld_glob I hg hm ?_ hdb)
  exact PySem.W.callWith_K0 I.kIn hk (run_fnS F hr hb (hx σ) I .nil h)
end
theorem Good.call (cx : Ctx V1 E sd X) (f : Nat) {es : CE} (g : Good V1 E sd X es) : Good V1 E sd X (.call f es) := by
  refine .of (fun e h => ?_) fun es => rfl
  cases e with
  | Call fe l ks pos =>
    cases fe with
    | Name x p =>
      cases ks with
      | cons _ _ => exact (Bool.false_ne_true h).elim
      | nil =>
        simp only [chkE, Bool.and_eq_true, decide_eq_true_eq] at h
        obtain ⟨h1, h2, h4, h3⟩ := h
        obtain ⟨kw, h1⟩ := fnB_of h1
        obtain ⟨fd, ps, k, XE, m1, m2, m3, m4, m5, m6, m7, _, m8⟩ := cx.fns x f kw h1
        have hnd := (ok_name h4).1
        have ea := g.each l h3
        have pa := ea.pa
        have st := ea.stars
        refine ⟨rfl, PE.imp (t := tCallS (V1.sp X.K f) XE (tA X.K E (ev V1.run es))) ?_ ?_⟩
        · cases l with
          | nil =>
            refine PE.imp (pe_callS0 m4 m3 (gl_of cx.sc h2) m1 m2 m5 m6 hnd) fun σ H Q q => ?_
            obtain ⟨L, C, s, R, S, q⟩ := q
            cases es with
            | nil => exact q H L [] .refl R .nil
            | _ => exact ea.elim
          | cons e l => exact pe_callS m4 m3 (gl_of cx.sc h2) m1 m2 m5 m6 pa hnd (star_of (all_cons st).1) (stars_of (all_cons st).2)
        · rintro σ H Q ⟨L, C, s, R, S, q⟩
          have q : Post X.K H L ((ev V1.run es s C).on fun l h => V1.run f l h) Q (E σ) := q
          refine ⟨L, C, s, R, S, (on_ok q).mono (fun vs H1 h => ?_) fun _ _ _ h => h⟩
          obtain ⟨ws, C1, L1, e1, R1, r1, p1⟩ := h
          refine ⟨?_, L1, C1, ws, R1, r1, p1.mono (fun _ _ h => h) (m7 σ)⟩
          rw [r1.length]
          rcases m8 ws C1 with e | e
          · rw [e] at p1; exact p1.elim
          · exact e
    | _ => exact (Bool.false_ne_true h).elim
  | _ => exact (Bool.false_ne_true h).elim
theorem Good.bi (cx : Ctx V1 E sd X) (b : BI) {es : CE} (g : Good V1 E sd X es) : Good V1 E sd X (.bi b es) := by
  refine .of (fun e h => ?_) fun es => rfl
  cases e with
  | Call fe l ks pos =>
    cases fe with
    | Name x p =>
      cases ks with
      | cons _ _ => exact (Bool.false_ne_true h).elim
      | nil =>
        simp only [chkE, Bool.and_eq_true, decide_eq_true_eq] at h
        obtain ⟨rfl, h2, h3, h4, h5, h6⟩ := h
        have ea := g.each l h6
        have pa := ea.pa
        have st := ea.stars
        have hn : biName b ≠ "__name__" := by cases b <;> decide
        have hm := cx.blt _ h3
        have hb := biBoot b
        have hr := biRule (X := X) cx.calm b
        refine ⟨rfl, PE.imp (t := tCB (rBI X.K b) (tA X.K E (ev V1.run es))) ?_ ?_⟩
        · cases l with
          | nil => exact absurd h4 (by decide)
          | cons e l =>
            unfold biVal at hb hr
            by_cases ht : biTy b = true
            · rw [if_pos ht] at hb hr
              exact pe_callTy hr (gl_of cx.sc h2) hm hb pa hn (ok_name h5).1 (star_of (all_cons st).1) (stars_of (all_cons st).2)
            · rw [if_neg ht] at hb hr
              exact pe_callB hr (gl_of cx.sc h2) hm hb pa hn (ok_name h5).1 (star_of (all_cons st).1) (stars_of (all_cons st).2)
        · rintro σ H Q ⟨L, C, s, R, S, q⟩
          have q : Post X.K H L ((ev V1.run es s C).on fun l h => biW b l h) Q (E σ) := q
          refine ⟨L, C, s, R, S, (on_ok q).mono (fun vs H1 h => ?_) fun _ _ _ h => h⟩
          obtain ⟨ws, C1, L1, e1, R1, r1, p1⟩ := h
          exact biW_ok R1 r1 p1
    | _ => exact (Bool.false_ne_true h).elim
  | _ => exact (Bool.false_ne_true h).elim
theorem stars_all {env : Env} {pos : Pos} : ∀ {es : List Expr}, es.all (fun e => !starB e) = true → (backTo pos (starEach es env)).all (fun x => !x.1) = true
  | [], _ => rfl
  | e :: es, h => by
    rw [star_of (all_cons h).1]
    show (!false && (backTo pos (starEach es env)).all (fun x => !x.1)) = true
    rw [stars_all (all_cons h).2] <;> rfl
theorem Good.meth (cx : Ctx V1 E sd X) (m : ME) {o es : CE} (go : Good V1 E sd X o) (g : Good V1 E sd X es) : Good V1 E sd X (.meth m o es) := by
  refine .of (fun e h => ?_) fun es => rfl
  cases e with
  | Call fe l ks pos =>
    cases fe with
    | Attribute x n apos =>
      cases ks with
      | cons _ _ => exact (Bool.false_ne_true h).elim
      | nil =>
        simp only [chkE, Bool.and_eq_true, decide_eq_true_eq] at h
        obtain ⟨rfl, h2, h3, h4, h5, h6⟩ := h
        have ea := g.each l h6
        have pa := ea.pa
        have st := ea.stars
        have hbase : attributeBase x (meName m) X.env (eval x X.env) = eval x X.env := by
          cases x <;> first | rfl | cases h2
        have hu1 : X.A.units + 1 < cLine := by have := cx.hu; omega
        have q2 : ∀ σ H Q, tE X.K E (ev V1.run (.meth m o es)) σ H Q → tBM X.K (meTy m) (rME m) (tE X.K E (ev V1.run o)) (tA X.K E (ev V1.run es)) σ H Q := by
          rintro σ H Q ⟨L, C, s, R, S, q⟩
          have q : Post X.K H L ((ev V1.run o s C).bind fun x h1 => match meRcv h1 m x with
            | true => (ev V1.run es s h1).on fun l h2 => methW m x l h2
            | false => .bad) Q (E σ) := q
          refine ⟨L, C, s, R, S, q.bind.mono (fun v H1 h => ?_) fun _ _ _ h => h⟩
          obtain ⟨w, C1, L1, e1, R1, r1, p1⟩ := h
          split at p1
          · rename_i hrc
            refine ⟨rcv_ok R1 r1 hrc, L1, C1, s, R1, S.ext e1, (on_ok p1).mono (fun vs H2 h => ?_) fun _ _ _ h => h⟩
            obtain ⟨ws, C2, L2, e2, R2, r2, p2⟩ := h
            exact methW_ok R2 (r1.ext e2) r2 p2
          · exact p1.elim
        refine ⟨rfl, PE.imp ?_ q2⟩
        cases l with
        | nil =>
          refine PE.imp (pe_bm0 (mePlain m) (meSlot m) (meType m) (meRule hu1 m) (go.pe x h5) hbase h4) fun σ H Q q => ?_
          refine (?_ : tE X.K E (ev V1.run o) σ H _)
          obtain ⟨L, C, s, R, S, q⟩ := q
          refine ⟨L, C, s, R, S, q.mono (fun v H1 h => ?_) fun _ _ _ h => h⟩
          obtain ⟨ty, L1, C1, s1, R1, S1, q1⟩ := h
          cases es with
          | nil => exact ⟨ty, q1 H1 L1 [] .refl R1 .nil⟩
          | _ => exact ea.elim
        | cons e l =>
          have hlen : (e :: l).length ≤ 20 := Nat.le_of_ble_eq_true h3
          refine pe_bm (mePlain m) (meSlot m) (meType m) (meRule hu1 m) (go.pe x h5) pa hbase ?_ h4 (star_of (all_cons st).1) (stars_of (all_cons st).2)
          rw [stars_all st]
          show (true && true && decide ((e :: l).length + 0 + 0 < 30)) = true
          simp only [Bool.true_and, decide_eq_true_eq]
          omega
    | _ => exact (Bool.false_ne_true h).elim
  | _ => exact (Bool.false_ne_true h).elim

/-! ### parts -/
theorem ix_dget (hu : X.A.units + 64 < cLine) : IxR X rDGet := by
  intro value slice pins s σ H x y v u Q I rx ry h hs
  obtain ⟨a, z, rfl, g, q⟩ := h
  obtain rfl : v = Value.ref a := rx
  exact tail_any (dict_typeIs I g) PySem.F.slot_dict_getitem.lookup (d_getItem (by omega) I g ry fun w' s3 I3 rw' => ⟨z, H, I3, rw', q⟩) hs
theorem plain_ix {e : Expr} (h : (!isSliceE e) = true) : PlainIx e := by
  cases e <;> first | (intro o i; rfl) | cases h
theorem Good.ix (cx : Ctx V1 E sd X) {a b : CE} (ga : Good V1 E sd X a) (gb : Good V1 E sd X b) : Good V1 E sd X (.ix a b) := by
  refine .of (fun e h => ?_) fun es => rfl
  cases e with
  | Subscript x y pos =>
    simp only [chkE, Bool.and_eq_true] at h
    obtain ⟨h1, h2, h3, h4⟩ := h
    refine ⟨rfl, PE.imp (pe_ix (ix_seq.or (ix_dget cx.hu)) (ga.pe x h3) (gb.pe y h4) (plain_ix h1)) ?_⟩
    rintro σ H Q ⟨L, C, s, R, S, q⟩
    have q : Post X.K H L ((ev V1.run a s C).bind fun x h1 => (ev V1.run b s h1).bind fun y h2 => ixW x y h2) Q (E σ) := q
    refine ⟨L, C, s, R, S, q.bind.mono (fun v H1 h => ?_) fun _ _ _ h => h⟩
    obtain ⟨w, C1, L1, e1, R1, r1, p1⟩ := h
    refine ⟨L1, C1, s, R1, S.ext e1, p1.bind.mono (fun u H2 h => ?_) fun _ _ _ h => h⟩
    obtain ⟨w2, C2, L2, e2, R2, r2, p2⟩ := h
    exact ixW_ok R2 (r1.ext e2) r2 p2
  | _ => exact (Bool.false_ne_true h).elim
/-- a slice's part by its value -/
def tPartW (t : TE) : TO := fun σ H Q => t σ H fun x H1 => ∃ o, rPart x = some o ∧ Q o H1
theorem po_val {e : Expr} {te : TE} (h : PE X e te) : PO X (some e) (tPartW te) := by
  refine ⟨fun pins s σ H Q I hw => ?_⟩
  rw [evalPart_some]
  refine thn (h.run pins s σ H _ I hw) fun u s1 ⟨x, H1, I1, r1, o, ho, q⟩ => ?_
  cases x with
  | non => cases ho; cases r1; exact ⟨none, H1, I1, .none, q⟩
  | int i => cases ho; obtain ⟨t, rfl⟩ := r1; exact ⟨some i, H1, I1, .int i t, q⟩
  | _ => cases ho
theorem po_chk {c : CE} {o : Option Expr} (h : (match o with
    | none => (match c with
      | .nopart => true
      | _ => false)
    | some e => chkE V1.GT c sd e) = true) (g : Good V1 E sd X c) : PO X o (tPartW (tE X.K E (ev V1.run c))) := by
  cases o with
  | some e => exact po_val (g.pe e h)
  | none =>
    cases c with
    | nopart =>
      refine ⟨fun pins s σ H Q I hw => po_none.run pins s σ H Q I ?_⟩
      obtain ⟨L, C, s, R, S, q⟩ := hw
      obtain ⟨o, ho, q⟩ := q H L .non .refl R .non
      cases ho
      exact q
    | _ => exact (Bool.false_ne_true h).elim
theorem Good.slc {a lo hi : CE} (ga : Good V1 E sd X a) (gl : Good V1 E sd X lo) (gh : Good V1 E sd X hi) : Good V1 E sd X (.slc a lo hi) := by
  refine .of (fun e h => ?_) fun es => rfl
  cases e with
  | Subscript x y pos =>
    cases y with
    | Slice l u st p2 =>
      cases st with
      | some _ => exact (Bool.false_ne_true h).elim
      | none =>
        simp only [chkE, Bool.and_eq_true] at h
        obtain ⟨h1, h2, h3⟩ := h
        refine ⟨rfl, PE.imp (pe_slice (sl_tup.or sl_list) (ga.pe x h1) (po_chk h2 gl) (po_chk h3 gh)) ?_⟩
        rintro σ H Q ⟨L, C, s, R, S, q⟩
        have q : Post X.K H L ((ev V1.run a s C).bind fun x h1 => (ev V1.run lo s h1).bind fun y h2 => match partW y with
          | some _ => (ev V1.run hi s h2).bind fun z h3 => match partW z with
            | some _ => slcW x y z h3
            | none => .bad
          | none => .bad) Q (E σ) := q
        refine ⟨L, C, s, R, S, q.bind.mono (fun v H1 h => ?_) fun _ _ _ h => h⟩
        obtain ⟨w, C1, L1, e1, R1, r1, p1⟩ := h
        refine ⟨L1, C1, s, R1, S.ext e1, p1.bind.mono (fun u H2 h => ?_) fun _ _ _ h => h⟩
        obtain ⟨w2, C2, L2, e2, R2, r2, p2⟩ := h
        split at p2
        · rename_i lo' g2
          refine ⟨lo', part_ok r2 g2, L2, C2, s, R2, (S.ext e1).ext e2, p2.bind.mono (fun t H3 h => ?_) fun _ _ _ h => h⟩
          obtain ⟨w3, C3, L3, e3, R3, r3, p3⟩ := h
          split at p3
          · rename_i hi' g3
            refine ⟨hi', part_ok r3 g3, ?_⟩
            obtain ⟨l4, h4, k1, k2, k3⟩ := slcW_ok R3 (r1.ext (e2.trans e3)) (r2.ext e3) r3 p3
            rw [part_ok (r2.ext e3) g2] at k1
            rw [part_ok r3 g3] at k2
            cases k1
            cases k2
            exact k3
          · exact p3.elim
        · exact p2.elim
    | _ => exact (Bool.false_ne_true h).elim
  | _ => exact (Bool.false_ne_true h).elim

/-! ### a dict of written pairs -/
def flatP : List (V × V) → List V
  | [] => []
  | p :: r => p.1 :: p.2 :: flatP r
theorem pps_of {pos : Pos} : ∀ {c : CE} {ks : List (Option Expr)} {vs : List Expr}, ks.all (·.isSome) = true → ks.length = vs.length → Each V1 E sd X c (inter ks vs) →
    ∃ trs, PPs X pos ks vs trs ∧ ∀ σ H Q, tA X.K E (ev V1.run c) σ H (fun xs H1 => ∃ ps, xs = flatP ps ∧ Q ps H1) → tPairs trs σ H Q
  | c, [], [], _, _, h => by
    refine ⟨[], pps_nil, ?_⟩
    rintro σ H Q ⟨L, C, s, R, S, q⟩
    cases c with
    | nil =>
      obtain ⟨ps, e, q⟩ := q H L [] .refl R .nil
      cases ps with
      | nil => exact q
      | cons _ _ => cases e
    | _ => exact h.elim
  | c, some k :: ks, v :: vs, h1, h2, h => by
    have h : Each V1 E sd X c (k :: v :: inter ks vs) := h
    cases c with
    | cons a b' =>
      obtain ⟨_, ⟨_, pk⟩, h⟩ := h
      cases b' with
      | cons b d =>
        obtain ⟨_, ⟨_, pv⟩, h⟩ := h
        obtain ⟨trs, pp, rd⟩ := pps_of (pos := pos) (c := d) (ks := ks) (vs := vs) (by simpa using h1) (by simpa using h2) h
        refine ⟨_, pps_cons pk pv pp, ?_⟩
        rintro σ H Q ⟨L, C, s, R, S, q⟩
        have q : PostA X.K H L ((ev V1.run a s C).bind fun w h1 => (ev V1.run (.cons b d) s h1).on fun l h2 => .ok (.tup (w :: l)) h2) (fun xs H1 => ∃ ps, xs = flatP ps ∧ Q ps H1) (E σ) := q
        refine ⟨L, C, s, R, S, (PostA.bind q).mono (fun x H1 h => ?_) fun _ _ _ h => h⟩
        obtain ⟨w, C1, L1, e1, R1, r1, p1⟩ := h
        have p1 := PostA.on p1
        have p1 : PostA X.K H1 L1 ((ev V1.run b s C1).bind fun w h1 => (ev V1.run d s h1).on fun l h2 => .ok (.tup (w :: l)) h2) _ (E σ) := p1
        refine ⟨L1, C1, s, R1, S.ext e1, (PostA.bind p1).mono (fun y H2 h => ?_) fun _ _ _ h => h⟩
        obtain ⟨w2, C2, L2, e2, R2, r2, p2⟩ := h
        refine rd σ H2 _ ⟨L2, C2, s, R2, (S.ext e1).ext e2, (PostA.on p2).mono (fun xs H3 h => ?_) fun _ _ _ h => h⟩
        obtain ⟨ws, C3, L3, e3, R3, r3, p3⟩ := h
        obtain ⟨ws2, C4, L4, e4, R4, r4, p4⟩ := p3 H3 L3 (y :: xs) .refl R3 (.cons (r2.ext e3) r3)
        obtain ⟨ps, e5, q5⟩ := p4 H3 L4 (x :: y :: xs) .refl R4 (.cons (r1.ext e4) r4)
        cases ps with
        | nil => cases e5
        | cons z ps =>
          obtain ⟨z1, z2⟩ := z
          injection e5 with h5 h6
          injection h6 with h6 h7
          subst h5 h6
          exact ⟨ps, h7, q5⟩
      | _ => exact h.elim
    | _ => exact h.elim
  | c, [], _ :: _, _, h2, _ => by cases h2
  | c, _ :: _, [], _, h2, _ => by cases h2
  | c, none :: _, _ :: _, h1, _, _ => by cases h1
end
end RF
end
end
section
set_option Elab.async false
set_option linter.all false
set_option maxRecDepth 100000
set_option maxHeartbeats 4000000
/-! RG1: functions as values, calls by keywords alone, l[::-1]. -/
noncomputable section
namespace RF
open PySem PySem.Spec PyProof.Rows L2
section
variable {V1 : Env1} {E : L2.St → EX} {sd : SD} {X : Cx}
theorem Good.gfn (cx : Ctx V1 E sd X) (x : Str) : Good V1 E sd X (.gfn x) := by
  refine .of (fun e h => ?_) fun es => rfl
  cases e with
  | Name y pos =>
    simp only [chkE, Bool.and_eq_true, decide_eq_true_eq] at h
    obtain ⟨rfl, h2, h3, h4⟩ := h
    split at h4
    · rename_i f kw e
      obtain ⟨fd, ps, k, XE, m1, m2, _⟩ := cx.fns x f kw e
      refine ⟨rfl, PE.imp (pe_glob (gl_of cx.sc h2) m1 (v := .ref (He.ga X.K x)) rfl (ok_name h3).1) ?_⟩
      rintro σ H Q ⟨L, C, s, R, S, q⟩
      exact q H L _ .refl R (.fn x)
    · cases h4
  | _ => exact (Bool.false_ne_true h).elim
/-- f(e, ..), f an expression that gives a def -/
def tCallE (X : Cx) (CX : CXT) (tf : TE) (t : TA) : TE := fun σ H Q => tf σ H fun y H1 => ∃ f fd ps k sp, ∃ XE : L2.St → XK, y = .ref f ∧ FnOk X.prog X.w X.K X.mg X.base CX k f fd ps sp ∧ Room k X.A ∧ PySem.W.keepIn X.K (.ref f) = true ∧ Binds X.K fd ps [] ∧ (∀ σ, PassesAt CX X σ (XE σ)) ∧
  t σ H1 fun vs H2 => sp vs H2 Q (XE σ)
theorem pe_callE {CX : CXT} {fe e : Expr} {es : List Expr} {tf : TE} {t : TA} {pos : Pos} (hf : PE X fe tf) (ha : PA X (e :: es) t)
    (ht : eval (.Call fe (e :: es) [] pos) X.env = (do callWith pos (← eval fe X.env) [] (backTo pos (starEach (e :: es) X.env)) (backToKw pos (keywordEach [] X.env))))
    (he : starEach (e :: es) X.env = (false, eval e X.env) :: starEach es X.env) (hpl : (backTo pos (starEach es X.env)).any (·.1) = false) : PE X (.Call fe (e :: es) [] pos) (tCallE X CX tf t) := by
  refine ⟨fun pins s σ H Q I h => ?_⟩
  refine Call_ (thn (hf.run pins s σ H _ I h) fun u s1 ⟨y, H1, I1, ry, f, fd, ps, k, sp, XE, ey, F, hr, hk, hb, hx, q⟩ => ?_) ht
  subst ey
  cases (show u = Value.ref f from ry)
  refine PySem.W.callWith_K (h₀ := X.base) I.ok.mod.kin hk (thn (ha.run pos pins s1 σ H1 _ I1 q) fun us s2 ⟨vs, H2, I2, r, q2⟩ => ⟨I2.kIn, ?_⟩) he hpl
  exact run_fnS F hr hb (hx σ) I2 r q2
theorem pe_callE0 {CX : CXT} {fe : Expr} {tf : TE} {pos : Pos} (hf : PE X fe tf)
    (ht : eval (.Call fe [] [] pos) X.env = (do callWith pos (← eval fe X.env) [] (backTo pos (starEach [] X.env)) (backToKw pos (keywordEach [] X.env)))) : PE X (.Call fe [] [] pos) (tCallE X CX tf tNil) := by
  refine ⟨fun pins s σ H Q I h => ?_⟩
  refine Call_ (thn (hf.run pins s σ H _ I h) fun u s1 ⟨y, H1, I1, ry, f, fd, ps, k, sp, XE, ey, F, hr, hk, hb, hx, q⟩ => ?_) ht
  subst ey
  cases (show u = Value.ref f from ry)
  exact PySem.W.callWith_K0 I1.kIn hk (run_fnS F hr hb (hx σ) I1 .nil q)
theorem lookup_mem' {β : Type} : ∀ {l : List (Str × β)} {x : Str} {v : β}, l.lookup x = some v → (x, v) ∈ l
  | [], _, _, h => by cases h
  | (y, w) :: l, x, v, h => by
    rw [List.lookup_cons] at h
    cases e : x == y with
    | true =>
      rw [e] at h
      rw [beq_iff_eq] at e
      cases h
      rw [e]
      exact List.mem_cons_self ..
    | false =>
      rw [e] at h
      exact List.mem_cons_of_mem _ (lookup_mem' h)
theorem Good.callv (cx : Ctx V1 E sd X) (fns : List (Str × Nat)) {g es : CE} (gg : Good V1 E sd X g) (ge : Good V1 E sd X es) : Good V1 E sd X (.callv fns g es) := by
  refine .of (fun e h => ?_) fun es => rfl
  cases e with
  | Call fe l ks pos =>
    cases fe with
    | Subscript o i p =>
      cases ks with
      | cons _ _ => exact (Bool.false_ne_true h).elim
      | nil =>
        simp only [chkE, Bool.and_eq_true, List.all_eq_true] at h
        obtain ⟨h1, h2, h3⟩ := h
        have ea := ge.each l h3
        have st := ea.stars
        refine ⟨rfl, PE.imp (t := tCallE X V1.cx (tE X.K E (ev V1.run g)) (tA X.K E (ev V1.run es))) ?_ ?_⟩
        · cases l with
          | nil =>
            refine PE.imp (pe_callE0 (CX := V1.cx) (gg.pe _ h2) rfl) fun σ H Q q => ?_
            obtain ⟨L, C, s, R, S, q⟩ := q
            refine ⟨L, C, s, R, S, q.mono (fun v H1 h => ?_) fun _ _ _ h => h⟩
            obtain ⟨f, fd, ps, k, sp, XE, e1, e2, e3, e4, e5, e6, L1, C1, s1, R1, S1, q⟩ := h
            refine ⟨f, fd, ps, k, sp, XE, e1, e2, e3, e4, e5, e6, ?_⟩
            cases es with
            | nil => exact q H1 L1 [] .refl R1 .nil
            | _ => exact ea.elim
          | cons e l => exact pe_callE (gg.pe _ h2) ea.pa rfl (star_of (all_cons st).1) (stars_of (all_cons st).2)
        · rintro σ H Q ⟨L, C, s, R, S, q⟩
          have q : Post X.K H L ((ev V1.run g s C).bind fun x h1 => match x with
            | .fn n => (match fns.lookup n with
              | some f => (ev V1.run es s h1).on fun l h2 => V1.run f l h2
              | none => .bad)
            | _ => .bad) Q (E σ) := q
          refine ⟨L, C, s, R, S, q.bind.mono (fun v H1 h => ?_) fun _ _ _ h => h⟩
          obtain ⟨w, C1, L1, x1, R1, r1, p1⟩ := h
          cases w with
          | fn n =>
            simp only at p1
            split at p1
            · rename_i f el
              obtain ⟨kw, hf⟩ := fnB_of (h1 _ (lookup_mem' el))
              obtain ⟨fd, ps, k, XE, m1, m2, m3, m4, m5, m6, m7, _, m8⟩ := cx.fns n f kw hf
              refine ⟨_, fd, ps, k, _, XE, r1.fn_inv, m4, m3, m2, m5, m6, L1, C1, s, R1, S.ext x1, (on_ok p1).mono (fun vs H2 h => ?_) fun _ _ _ h => h⟩
              obtain ⟨ws, C2, L2, x2, R2, r2, p2⟩ := h
              refine ⟨?_, L2, C2, ws, R2, r2, p2.mono (fun _ _ h => h) (m7 σ)⟩
              rw [r2.length]
              rcases m8 ws C2 with e | e
              · rw [e] at p2; exact p2.elim
              · exact e
            · exact p1.elim
          | _ => exact p1.elim
    | _ => exact (Bool.false_ne_true h).elim
  | _ => exact (Bool.false_ne_true h).elim
/-! ### keywords alone -/
theorem perm_ok {K : Fg} {H : Hp} {L : List Addr} {ws : List W} {vs : List V} (r : RWs K H L ws vs) : ∀ {pm : List Nat} {us : List W}, mapO (fun i => ws[i]?) pm = some us → ∃ zs, mapO (fun i => vs[i]?) pm = some zs ∧ RWs K H L us zs
  | [], us, h => by
    simp only [mapO, Option.some.injEq] at h
    subst h
    exact ⟨[], rfl, .nil⟩
  | i :: pm, us, h => by
    simp only [mapO] at h
    split at h
    · rename_i y hy
      split at h
      · rename_i ys hys
        simp only [Option.some.injEq] at h
        subst h
        obtain ⟨v, hv, rv⟩ := r.get hy
        obtain ⟨zs, hz, rz⟩ := perm_ok r hys
        exact ⟨v :: zs, by simp only [mapO, hv, hz], .cons rv rz⟩
      · cases h
    · cases h
theorem perm_vals {vs : List V} {us : List Value} (r : Vals vs us) : ∀ {pm : List Nat} {zs : List V}, mapO (fun i => vs[i]?) pm = some zs → ∃ xs, mapO (fun i => us[i]?) pm = some xs ∧ Vals zs xs
  | [], zs, h => by
    simp only [mapO, Option.some.injEq] at h
    subst h
    exact ⟨[], rfl, .nil⟩
  | i :: pm, zs, h => by
    simp only [mapO] at h
    split at h
    · rename_i y hy
      split at h
      · rename_i ys hys
        simp only [Option.some.injEq] at h
        subst h
        obtain ⟨v, hv, rv⟩ := r.get hy
        obtain ⟨xs, hx, rx⟩ := perm_vals r hys
        exact ⟨v :: xs, by simp only [mapO, hv, hx], .cons rv rx⟩
      · cases h
    · cases h
theorem kw_pk : ∀ {ks : List Keyword} {c : CE}, Each V1 E sd X c (kwV ks) → PK X ks (tA X.K E (ev V1.run c))
  | [], .nil, _ => ⟨fun pos pins s σ H Q I h => by
      obtain ⟨L, C, s', R, S, q⟩ := h
      exact pk_nil.run pos pins s σ H Q I (q H L [] .refl R .nil)⟩
  | ⟨n, v, p⟩ :: ks, c, h => by
    have h : Each V1 E sd X c (v :: kwV ks) := h
    cases c with
    | cons a b =>
      obtain ⟨h0, ⟨hc, h1⟩, h2⟩ := h
      refine ⟨fun pos pins s σ H Q I q => (pk_cons h1 (kw_pk h2)).run pos pins s σ H Q I ?_⟩
      obtain ⟨L, C, s', R, S, q⟩ := q
      have q : PostA X.K H L ((ev V1.run a s' C).bind fun w h1 => (ev V1.run b s' h1).on fun l h2 => .ok (.tup (w :: l)) h2) Q (E σ) := q
      refine ⟨L, C, s', R, S, (PostA.bind q).mono (fun y H1 h => ?_) fun _ _ _ h => h⟩
      obtain ⟨w, C1, L1, e1, R1, r1, p1⟩ := h
      refine ⟨L1, C1, s', R1, S.ext e1, (PostA.on p1).mono (fun xs H2 h => ?_) fun _ _ _ h => h⟩
      obtain ⟨ws, C2, L2, e2, R2, r2, p2⟩ := h
      exact p2 H2 L2 (y :: xs) .refl R2 (.cons (r1.ext e2) r2)
    | _ => exact h.elim
  | [], .cons _ _, h => h.elim
  | [], .var _, h | [], .lit _, h | [], .gint _ _, h | [], .gty _, h | [], .bin _ _ _, h | [], .neg _, h | [], .not _, h | [], .and _ _, h | [], .or _ _, h | [], .cmp _ _ _, h | [], .cmp2 _ _ _ _ _, h | [], .ite _ _ _, h
  | [], .tup _, h | [], .lst _, h | [], .call _ _, h | [], .bi _ _, h | [], .lenset _, h | [], .meth _ _ _, h | [], .ix _ _, h | [], .slc _ _ _, h | [], .nopart, h | [], .comp _ _ _ _ _ _, h | [], .compK _ _ _ _ _, h | [], .comp2 _ _ _ _ _ _ _ _ _ _ _, h | [], .dnew _, h | [], .disp _, h
  | [], .gfn _, h | [], .callv _ _ _, h | [], .callk _ _ _, h | [], .rev _, h => h.elim
theorem kw_names {env : Env} {pos : Pos} : ∀ {ks : List Keyword}, ks.all (fun k => match k with
    | ⟨n, _, _⟩ => n.isSome) = true → (backToKw pos (keywordEach ks env)).all (·.1.isSome) = true ∧ (backToKw pos (keywordEach ks env)).filterMap (·.1) = kwN ks ∧ (backToKw pos (keywordEach ks env)).any (·.1.isNone) = false
  | [], _ => ⟨rfl, rfl, rfl⟩
  | ⟨n, v, p⟩ :: ks, h => by
    rw [List.all_cons, Bool.and_eq_true] at h
    obtain ⟨a1, a2, a3⟩ := kw_names (env := env) (pos := pos) h.2
    have hn : n.isSome = true := h.1
    cases n with
    | none => cases hn
    | some n =>
      have e0 : ∃ t, backToKw pos (keywordEach (⟨some n, v, p⟩ :: ks) env) = (some n, t) :: backToKw pos (keywordEach ks env) := ⟨_, by unfold backToKw; rw [keywordEach, List.map_cons]⟩
      obtain ⟨t, e0⟩ := e0
      rw [e0]
      refine ⟨by rw [List.all_cons, a1] <;> rfl, ?_, by rw [List.any_cons, a3] <;> rfl⟩
      rw [List.filterMap_cons_some (f := fun q : Option Str × Sem Value => q.1) (b := n) rfl, a2]
      rfl

/-- f(k = v, ..) -/
theorem pe_callKW {CX : CXT} {k : Nat} {f : Addr} {fd : FuncData} {ps ks : List Str} {pm : List Nat} {sp : Sp} {XE : L2.St → XK} {x : Str} {p pos : Pos} {kws : List Keyword} {t : TA} (F : FnOk X.prog X.w X.K X.mg X.base CX k f fd ps sp) (hr : Room k X.A) (hg : Gl X x) (hm : X.mg x = some (.ref f))
    (hk : PySem.W.keepIn X.K (.ref f) = true) (hb : KwP X.K fd ps ks pm) (hx : ∀ σ, PassesAt CX X σ (XE σ)) (hkw : PK X kws t) (hall : (backToKw pos (keywordEach kws X.env)).all (·.1.isSome) = true) (hks : (backToKw pos (keywordEach kws X.env)).filterMap (·.1) = ks)
    (hn : (backToKw pos (keywordEach kws X.env)).any (·.1.isNone) = false) (hdb : (x == ("__debug__" : Str)) = false) :
    PE X (.Call (.Name x p) [] kws pos) (fun σ H Q => t σ H fun vs H1 => vs.length = ks.length ∧ ∃ zs, mapO (fun i => vs[i]?) pm = some zs ∧ sp zs H1 Q (XE σ)) := by
  refine ⟨fun pins s σ H Q I h => ?_⟩
  refine wpAny_Call_Name_kw (ld_glob I hg hm ?_ hdb)
  refine PySem.W.callWith_KW0 (h₀ := X.base) I.ok.mod.kin hk hall (thn (hkw.run pos pins s σ H _ I h) fun us s1 ⟨vs, H1, I1, r, hl, zs, ez, q⟩ => ⟨I1.kIn, ?_⟩) (by rw [hn]; rfl)
  rw [hks]
  obtain ⟨xs, ex, rx⟩ := perm_vals r ez
  have bt := hb.to s1 us xs I1.kIn (r.length.symm.trans hl) ex
  refine wpAny_call (codeAny_mono (F.run X.A X.stack s1 H1 ⟨[], ks.zip us⟩ xs zs Q (XE σ) hr I1.env0 bt rx q) fun r s' hq => ?_)
  cases r with
  | error e => exact hx σ pins H1 s1 e s' I1 hq
  | ok fl =>
    cases fl with
    | ret u => exact I1.after hq
    | _ => exact False.elim hq
theorem Good.callk (cx : Ctx V1 E sd X) (f : Nat) (pm : List Nat) {es : CE} (g : Good V1 E sd X es) : Good V1 E sd X (.callk f pm es) := by
  refine .of (fun e h => ?_) fun es => rfl
  cases e with
  | Call fe l ks pos =>
    cases fe with
    | Name x p =>
      cases l with
      | cons _ _ => exact (Bool.false_ne_true h).elim
      | nil =>
        simp only [chkE, Bool.and_eq_true] at h
        obtain ⟨h1, h6, h2, h3, h4, h5⟩ := h
        obtain ⟨kw, hf, hkw⟩ := fnK_of h1
        obtain ⟨fd, ps, k, XE, m1, m2, m3, m4, m5, m6, m7, m8, m9⟩ := cx.fns x f kw hf
        obtain ⟨a1, a2, a3⟩ := kw_names (env := X.env) (pos := pos) h4
        have KP := m8 _ _ hkw
        refine ⟨rfl, PE.imp (pe_callKW m4 m3 (gl_of cx.sc h2) m1 m2 KP m6 (kw_pk (g.each _ h5)) a1 a2 a3 (ok_name h3).1) ?_⟩
        rintro σ H Q ⟨L, C, s, R, S, q⟩
        have q : Post X.K H L ((ev V1.run es s C).on fun l h1 => match permW l pm with
          | some us => V1.run f us h1
          | none => .bad) Q (E σ) := q
        refine ⟨L, C, s, R, S, (on_ok q).mono (fun vs H1 h => ?_) fun _ _ _ h => h⟩
        obtain ⟨ws, C1, L1, e1, R1, r1, p1⟩ := h
        split at p1
        · rename_i us hus
          unfold permW at hus
          split at hus
          · rename_i hlen
            obtain ⟨zs, hz, rz⟩ := perm_ok r1 hus
            refine ⟨?_, zs, hz, ?_, L1, C1, us, R1, rz, p1.mono (fun _ _ h => h) (m7 σ)⟩
            · rw [r1.length, beq_iff_eq.mp hlen, beq_iff_eq.mp h6]
            · rw [rz.length]
              rcases m9 us C1 with e | e
              · rw [e] at p1; exact p1.elim
              · exact e
          · cases hus
        · exact p1.elim
    | _ => exact (Bool.false_ne_true h).elim
  | _ => exact (Bool.false_ne_true h).elim
/-! ### l[::-1] -/
theorem Good.rev {a : CE} (g : Good V1 E sd X a) : Good V1 E sd X (.rev a) := by
  refine .of (fun e h => ?_) fun es => rfl
  unfold chkE at h
  split at h
  · refine ⟨rfl, PE.imp (pe_revL (g.pe _ h)) ?_⟩
    rintro σ H Q ⟨L, C, s, R, S, q⟩
    have q : Post X.K H L ((ev V1.run a s C).bind fun x h1 => revW x h1) Q (E σ) := q
    refine ⟨L, C, s, R, S, q.bind.mono (fun v H1 h => ?_) fun _ _ _ h => h⟩
    obtain ⟨w, C1, L1, e1, R1, r1, p1⟩ := h
    unfold revW at p1
    split at p1
    · obtain ⟨a, vs, rfl, sq, rs⟩ := r1.scr_inv
      exact ⟨a, vs, rfl, sq, fun p hp => p1.newLst R1 rs.reverse hp⟩
    · split at p1
      · rename_i xs gx
        obtain ⟨a, vs, rfl, ha, sq, rs⟩ := lst_of R1 gx r1
        exact ⟨a, vs, rfl, sq, fun p hp => p1.newLst R1 rs.reverse hp⟩
      · exact p1.elim
    · exact p1.elim
  · cases h
end
end RF
end
end
section
set_option Elab.async false
set_option linter.all false
set_option maxRecDepth 100000
set_option maxHeartbeats 4000000
/-! RF12: dicts of written pairs, comprehensions. -/
noncomputable section
namespace RF
open PySem PySem.Spec PyProof.Rows L2
section
variable {K : Fg} {L : List Addr} {C : CH} {H : Hp}
theorem RO.keep0 {H H' : Hp} {L L' : List Addr} (e : Ext0 H L H' L') {a : Addr} {o : CO} (r : RO K H L a o) (h : ∀ u, H a = some u → H' a = some u) : RO K H' L' a o := by
  cases o with
  | lst xs => obtain ⟨vs, h1, h2⟩ := r; exact ⟨vs, h _ h1, h2.ext0 e⟩
  | dK kvs => obtain ⟨us, h1, h2⟩ := r; exact ⟨us, h _ h1, h2.1, h2.2.ext0 e⟩
  | dT kvs => obtain ⟨us, h1, h2⟩ := r; exact ⟨us, h _ h1, h2.1, h2.2.ext0 e⟩
  | lK kvs => obtain ⟨us, o, h1, h2⟩ := r; exact ⟨us, o, h _ h1, h2.1, h2.2.ext0 e⟩
  | lT kvs => obtain ⟨us, o, h1, h2⟩ := r; exact ⟨us, o, h _ h1, h2.1, h2.2.ext0 e⟩
/-- neither a tuple nor locked -/
def soft : HO → Prop
  | .tup _ => False
  | .frz _ _ => False
  | _ => True
theorem frz_upd {p : Addr} {o1 o : HO} (h : H p = some o1) (m : soft o1) : ∀ a q u, H a = some (.frz q u) → upd H p o a = some (.frz q u) := fun a q u e => by
  rw [upd_ne (fun z => by rw [z, h] at e; cases e; exact m)]; exact e
/-- something of no list of ours is written -/
theorem Ext0.upd {p : Addr} {o1 o : HO} (h : H p = some o1) (m : soft o1) (ys : List Addr) : Ext0 H L (upd H p o) (L ++ ys) := by
  refine ⟨fun r a hr => ?_, fun a xs e => ?_, fun a q u e => ?_⟩
  · have hr' : r < L.length := by
      rcases Nat.lt_or_ge r L.length with q | q
      · exact q
      · rw [List.getElem?_eq_none q] at hr; cases hr
    rw [List.getElem?_append_left hr']
    exact hr
  · rw [upd_ne (fun z => by rw [z, h] at e; cases e; exact m)]; exact e
  · rw [upd_ne (fun z => by rw [z, h] at e; cases e; exact m)]; exact e
theorem Rep.beside {p : Addr} {o1 o : HO} (R : Rep K L C H) (hp : p ∉ L) (h : H p = some o1) (m : soft o1) : Rep K L C (upd H p o) :=
  ⟨R.len, R.lenO, R.inj, fun r a u hr hu => (R.obj r a u hr hu).keep0 (by simpa using Ext0.upd (L := L) (o := o) h m []) fun z hz => by
    rw [upd_ne (fun e => hp (by rw [← e]; exact List.mem_of_getElem? hr))]; exact hz⟩
/-- it becomes ours -/
theorem Rep.adopt (R : Rep K L C H) {p : Addr} {o1 o : HO} {u : CO} (hp : p ∉ L) (h : H p = some o1) (m : soft o1) (hu : RO K (upd H p o) (L ++ [p]) p u) : Rep K (L ++ [p]) (C.new u) (upd H p o) := by
  have lt_of : ∀ {r : Nat} {a : Addr}, (L ++ [p])[r]? = some a → r ≠ C.n → L[r]? = some a := fun {r a} h hr => by
    rcases Nat.lt_or_ge r L.length with q | q
    · rw [List.getElem?_append_left q] at h; exact h
    · rw [List.getElem?_append_right q] at h
      have h0 : 0 < r - L.length := by
        have := R.len
        omega
      rw [List.getElem?_eq_none (show [p].length ≤ r - L.length from h0)] at h
      cases h
  have at_n : ∀ {a : Addr}, (L ++ [p])[C.n]? = some a → a = p := fun {a} h => by
    rw [List.getElem?_append_right (by rw [R.len]; exact Nat.le_refl _), R.len, Nat.sub_self] at h
    exact (Option.some.inj h).symm
  have old : ∀ {r : Nat}, L[r]? = some p → False := fun {r} h => hp (List.mem_of_getElem? h)
  refine ⟨by rw [List.length_append, R.len] <;> rfl, by show (u :: C.os).length = C.n + 1; rw [List.length_cons, R.lenO], ?_, ?_⟩
  · intro r q a hr hq
    by_cases e1 : r = C.n
    · by_cases e2 : q = C.n
      · rw [e1, e2]
      · rw [e1] at hr
        have ea := at_n hr
        subst ea
        exact (old (lt_of hq e2)).elim
    · by_cases e2 : q = C.n
      · rw [e2] at hq
        have ea := at_n hq
        subst ea
        exact (old (lt_of hr e1)).elim
      · exact R.inj r q a (lt_of hr e1) (lt_of hq e2)
  · intro r a o2 hr h1
    rw [get_new R.lenO] at h1
    by_cases e1 : r = C.n
    · rw [if_pos e1] at h1
      cases h1
      rw [e1] at hr
      rw [at_n hr]
      exact hu
    · rw [if_neg e1] at h1
      exact (R.obj r a o2 (lt_of hr e1) h1).keep0 (Ext0.upd h m [p]) fun z hz => by
        rw [upd_ne (fun e => hp (by rw [← e]; exact List.mem_of_getElem? (lt_of hr e1)))]; exact hz
theorem Rep.notin (R : Rep K L C H) {p : Addr} (h : H p = none) : p ∉ L := fun hp => by
  obtain ⟨r, hr, e⟩ := List.getElem_of_mem hp
  have e' : L[r]? = some p := by rw [List.getElem?_eq_getElem hr, e]
  obtain ⟨o, ho⟩ := R.full e'
  obtain ⟨z, hz⟩ := (R.obj r p o e' ho).there
  rw [h] at hz; cases hz
theorem upd_self {p : Addr} {o : HO} (h : H p = some o) : upd H p o = H := by
  funext a
  by_cases e : a = p
  · rw [e, upd_same, h]
  · rw [upd_ne e]
end
/-- what was new becomes ours -/
theorem Ext.adopt {H0 H : Hp} {L0 L : List Addr} {p : Addr} {o : HO} (hp : H0 p = none) (e : Ext H0 L0 H L) : Ext H0 L0 (upd H p o) (L ++ [p]) := by
  refine ⟨fun r a h => ?_, fun a ha => ?_, fun a xs h => ?_, fun a q u h => ?_, fun a q ha h => ?_⟩
  · have h := e.le r a h
    have hr : r < L.length := by
      rcases Nat.lt_or_ge r L.length with q | q
      · exact q
      · rw [List.getElem?_eq_none q] at h; cases h
    rw [List.getElem?_append_left hr]
    exact h
  · rcases List.mem_append.mp ha with q | q
    · exact e.new a q
    · rw [List.mem_singleton.mp q]; exact .inr hp
  · rw [upd_ne (ne_of_none h hp)]; exact e.tup a xs h
  · rw [upd_ne (ne_of_none h hp)]; exact e.frz a q u h
  · rw [upd_ne (ne_of_none h hp)]; exact e.out a q ha h
theorem Ext.beside {H0 H : Hp} {L0 L : List Addr} {p : Addr} {o : HO} (hp : H0 p = none) (e : Ext H0 L0 H L) : Ext H0 L0 (upd H p o) L := by
  refine ⟨e.le, e.new, fun a xs h => ?_, fun a q u h => ?_, fun a q ha h => ?_⟩
  · rw [upd_ne (ne_of_none h hp)]; exact e.tup a xs h
  · rw [upd_ne (ne_of_none h hp)]; exact e.frz a q u h
  · rw [upd_ne (ne_of_none h hp)]; exact e.out a q ha h
theorem Ext.stays {H H' : Hp} {L L' : List Addr} {p : Addr} {o : HO} (e : Ext H L H' L') (hp : p ∉ L) (h : H p = some o) : p ∉ L' ∧ H' p = some o := by
  refine ⟨fun q => ?_, e.out p o hp h⟩
  rcases e.new p q with z | z
  · exact hp z
  · rw [h] at z; cases z
end RF
end
end
section
set_option Elab.async false
set_option linter.all false
set_option maxRecDepth 100000
set_option maxHeartbeats 4000000
/-! RF13: the heads of walks. -/
noncomputable section
namespace RF
open PySem PySem.Spec PyProof.Rows L2
/-- a walk's head: its arguments, then an iterator that tells what the evaluator's tells -/
def tI (K : Fg) (E : L2.St → EX) (k : IK) (f : St → CH → R W) : TI := fun σ H Rr => ∃ L C s, Rep K L C H ∧ RSt K H L s σ ∧ (match f s C with
  | .ok (.tup l) C1 => ∃ q, src0 k l C1 = some q ∧ ∀ H1 L1 J, Ext H L H1 L1 → Rep K L1 C1 H1 → Walks K J q H1 L1 → Rr J H1
  | .ok _ _ => False
  | .exc c ws C1 => ∀ H' L' vs, Ext H L H' L' → Rep K L' C1 H' → RWs K H' L' ws vs → E σ c vs H'
  | .bad => False)
section
variable {V1 : Env1} {E : L2.St → EX} {sd : SD} {X : Cx}
theorem tI_A {K : Fg} {k : IK} {f : St → CH → R W} {σ : L2.St} {H : Hp} {Rr : It → Hp → Prop} (h : tI K E k f σ H Rr) :
    tA K E f σ H fun vs H1 => ∃ ws C1 L1 q, Rep K L1 C1 H1 ∧ RWs K H1 L1 ws vs ∧ src0 k ws C1 = some q ∧ ∀ J, Walks K J q H1 L1 → Rr J H1 := by
  obtain ⟨L, C, s, R, S, h⟩ := h
  refine ⟨L, C, s, R, S, ?_⟩
  generalize f s C = r at h
  cases r with
  | ok w C1 =>
    cases w with
    | tup l =>
      obtain ⟨q, g, h⟩ := h
      exact fun H1 L1 vs e R1 r1 => ⟨l, C1, L1, q, R1, r1, g, fun J w => h H1 L1 J e R1 w⟩
    | _ => exact h
  | exc c ws C1 => exact h
  | bad => exact h
/-- a list or a tuple -/
def iSeq (K : Fg) (tl : TE) : TI := fun σ H Rr => tl σ H fun x H1 => ∃ a, x = .ref a ∧ (((∃ xs, SqL K H1 a xs) ∧ Rr (Itl K a) H1) ∨ ((∃ xs, SqT K H1 a xs) ∧ Rr (Itt K a) H1))
theorem pi_seq {tg l : Expr} {tl : TE} (hl : PE X l tl) : PI X tg l (iSeq X.K tl) := by
  refine ⟨fun pins s σ H Rr I h => ?_⟩
  refine thn (hl.run pins s σ H _ I h) fun v s1 ⟨x, H1, I1, r1, a, ex, q1⟩ => ?_
  subst ex
  obtain rfl : v = Value.ref a := r1
  rcases q1 with ⟨⟨xs, hq⟩, q⟩ | ⟨⟨xs, hq⟩, q⟩
  · obtain ⟨its, _, isl, _⟩ := I1.list hq
    exact wpAny_pyIter_list isl.isList (pi_one (tk := s1.toks) I1 _ (turn_list a _) ⟨_, Heap.get?_push_size _ rfl, rfl, rfl⟩ q)
  · obtain ⟨its, _, ist, _⟩ := I1.tuple hq
    exact wpAny_pyIter_tuple (show s1.heap.IsTuple a its.toArray from ist) (pi_one (tk := s1.toks) I1 _ (turn_tuple a _) ⟨_, Heap.get?_push_size _ rfl, rfl, rfl⟩ q)
theorem scr_sq {K : Fg} {H : Hp} {a : Addr} {vs : List V} (h : (∃ o, H a = some (.frz o (.lst vs))) ∨ KLst K a vs) : SqL K H a vs := by
  rcases h with ⟨o, h⟩ | h
  · exact .inl (.inr ⟨o, h⟩)
  · exact .inr h
theorem small_of {i : Int} (h : small i = true) : -1000000000 ≤ i ∧ i ≤ 1000000000 := by
  unfold small at h
  simpa using h
theorem two_of {a b : CE} {es : List Expr} (h : Each V1 E sd X (.cons a b) es) : ∃ e r, es = e :: r := by
  cases es with
  | nil => exact h.elim
  | cons e r => exact ⟨e, r, rfl⟩
theorem star1 {e : Expr} {env : Env} (h : starB e = false) : starEach [e] env = [(false, eval e env)] := star_of h
theorem rw_one {K : Fg} {H : Hp} {L : List Addr} {w : W} {vs : List V} (r : RWs K H L [w] vs) : ∃ v, vs = [v] ∧ RW K H L w v := by
  cases r with
  | cons r rr => cases rr; exact ⟨_, rfl, r⟩
theorem rw_two {K : Fg} {H : Hp} {L : List Addr} {w w2 : W} {vs : List V} (r : RWs K H L [w, w2] vs) : ∃ v v2, vs = [v, v2] ∧ RW K H L w v ∧ RW K H L w2 v2 := by
  cases r with
  | cons r rr =>
    cases rr with
    | cons r2 rr => cases rr; exact ⟨_, _, rfl, r, r2⟩
theorem src_seq {l : List W} {C : CH} {q : Src} (h : src0 .seq l C = some q) : (∃ xs, l = [.tup xs] ∧ q = .st xs) ∨ (∃ xs, l = [.scr xs] ∧ q = .st xs) ∨ ∃ n xs, l = [.ref n] ∧ lstAt C n = some xs ∧ q = .lref n 0 := by
  rcases l with _ | ⟨w, _ | ⟨w2, l⟩⟩
  · simp [src0] at h
  · cases w with
    | tup xs => simp only [src0, Option.some.injEq] at h; exact .inl ⟨_, rfl, h.symm⟩
    | scr xs => simp only [src0, Option.some.injEq] at h; exact .inr (.inl ⟨_, rfl, h.symm⟩)
    | ref n =>
      simp only [src0] at h
      split at h
      · rename_i g; simp only [Option.some.injEq] at h; exact .inr (.inr ⟨_, _, rfl, g, h.symm⟩)
      · cases h
    | _ => simp [src0] at h
  · cases w <;> simp [src0] at h
theorem src_enm {l : List W} {C : CH} {q : Src} (h : src0 .enm l C = some q) : (∃ xs, l = [.tup xs] ∧ q = .st (enumW 0 xs)) ∨ (∃ xs, l = [.scr xs] ∧ q = .st (enumW 0 xs)) ∨ ∃ n xs, l = [.ref n] ∧ lstAt C n = some xs ∧ q = .enl n 0 := by
  rcases l with _ | ⟨w, _ | ⟨w2, l⟩⟩
  · simp [src0] at h
  · cases w with
    | tup xs => simp only [src0, Option.some.injEq] at h; exact .inl ⟨_, rfl, h.symm⟩
    | scr xs => simp only [src0, Option.some.injEq] at h; exact .inr (.inl ⟨_, rfl, h.symm⟩)
    | ref n =>
      simp only [src0] at h
      split at h
      · rename_i g; simp only [Option.some.injEq] at h; exact .inr (.inr ⟨_, _, rfl, g, h.symm⟩)
      · cases h
    | _ => simp [src0] at h
  · cases w <;> simp [src0] at h
theorem src_zip {l : List W} {C : CH} {q : Src} (h : src0 .zip l C = some q) : (∃ xs ys, l = [.tup xs, .tup ys] ∧ q = .st (List.zipWith (fun x y => W.tup [x, y]) xs ys)) ∨ ∃ n m xs ys, l = [.ref n, .ref m] ∧ lstAt C n = some xs ∧ lstAt C m = some ys ∧ q = .zll n m 0 := by
  rcases l with _ | ⟨w, _ | ⟨w2, _ | ⟨w3, l⟩⟩⟩
  · simp [src0] at h
  · cases w <;> simp [src0] at h
  · cases w with
    | tup xs =>
      cases w2 with
      | tup ys => simp only [src0, Option.some.injEq] at h; exact .inl ⟨_, _, rfl, h.symm⟩
      | _ => simp [src0] at h
    | ref n =>
      cases w2 with
      | ref m =>
        simp only [src0] at h
        split at h
        · rename_i g1 g2; simp only [Option.some.injEq] at h; exact .inr ⟨_, _, _, _, rfl, g1, g2, h.symm⟩
        · cases h
      | _ => simp [src0] at h
    | _ => cases w2 <;> simp [src0] at h
  · cases w <;> cases w2 <;> simp [src0] at h
theorem src_rng1 {l : List W} {C : CH} {q : Src} (h : src0 .rng1 l C = some q) : ∃ n, l = [.int n] ∧ small n = true ∧ q = .upto 0 n.toNat := by
  rcases l with _ | ⟨w, _ | ⟨w2, l⟩⟩
  · simp [src0] at h
  · cases w with
    | int n =>
      simp only [src0] at h
      by_cases g : small n = true
      · rw [if_pos g] at h; simp only [Option.some.injEq] at h; exact ⟨_, rfl, g, h.symm⟩
      · rw [if_neg g] at h; cases h
    | _ => simp [src0] at h
  · cases w <;> simp [src0] at h
theorem src_rng2 {l : List W} {C : CH} {q : Src} (h : src0 .rng2 l C = some q) : ∃ a b, l = [.int a, .int b] ∧ (small a = true ∧ small b = true) ∧ q = .upto a (b - a).toNat := by
  rcases l with _ | ⟨w, _ | ⟨w2, _ | ⟨w3, l⟩⟩⟩
  · simp [src0] at h
  · cases w <;> simp [src0] at h
  · cases w with
    | int a =>
      cases w2 with
      | int b =>
        simp only [src0] at h
        by_cases g : (small a && small b) = true
        · rw [if_pos g] at h; simp only [Option.some.injEq] at h; exact ⟨_, _, rfl, Bool.and_eq_true_iff.mp g, h.symm⟩
        · rw [if_neg g] at h; cases h
      | _ => simp [src0] at h
    | _ => cases w2 <;> simp [src0] at h
  · cases w <;> cases w2 <;> simp [src0] at h
theorem src_zip4 {l : List W} {C : CH} {q : Src} (h : src0 .zip4 l C = some q) : ∃ xs ys zs n us, l = [.tup xs, .tup ys, .tup zs, .ref n] ∧ lstAt C n = some us ∧ q = .z4 xs ys zs n 0 := by
  unfold src0 at h
  split at h <;> first | (rename_i e; cases e; done) | skip
  all_goals try (cases h; done)
  rename_i xs ys zs q0 _ _
  split at h
  · rename_i us g
    simp only [Option.some.injEq] at h
    exact ⟨_, _, _, _, us, rfl, g, h.symm⟩
  · cases h
theorem rw_four {K : Fg} {H : Hp} {L : List Addr} {a b c d : W} {vs : List V} (r : RWs K H L [a, b, c, d] vs) : ∃ v1 v2 v3 v4, vs = [v1, v2, v3, v4] ∧ RW K H L a v1 ∧ RW K H L b v2 ∧ RW K H L c v3 ∧ RW K H L d v4 := by
  cases r with
  | cons r1 r =>
    cases r with
    | cons r2 r =>
      cases r with
      | cons r3 r =>
        obtain ⟨v, e, r4⟩ := rw_one r
        subst e
        exact ⟨_, _, _, _, rfl, r1, r2, r3, r4⟩
theorem walk_z4 {K : Fg} {H : Hp} {L : List Addr} {n : Nat} {a b c d : Addr} {xs ys zs : List W} {vs us ts : List V} (ha : H a = some (.tup vs)) (ra : RWs K H L xs vs) (hb : H b = some (.tup us)) (rb : RWs K H L ys us) (hc : H c = some (.tup ts)) (rc : RWs K H L zs ts) (hd : L[n]? = some d) :
    Walks K (RX.It4 K a b c d) (.z4 xs ys zs n 0) H L := by
  refine ⟨fun i q H L => ∃ vs us ts, q = .z4 xs ys zs n i ∧ H a = some (.tup vs) ∧ RWs K H L xs vs ∧ H b = some (.tup us) ∧ RWs K H L ys us ∧ H c = some (.tup ts) ∧ RWs K H L zs ts ∧ L[n]? = some d, ⟨?_, ?_⟩, vs, us, ts, rfl, ha, ra, hb, rb, hc, rc, hd⟩
  · rintro i q H L H' L' ⟨vs, us, ts, e, ha, ra, hb, rb, hc, rc, hd⟩ ex _
    exact ⟨vs, us, ts, e, ex.tup _ _ ha, ra.ext0 ex, ex.tup _ _ hb, rb.ext0 ex, ex.tup _ _ hc, rc.ext0 ex, ex.le _ _ hd⟩
  · rintro i q H L C ⟨vs, us, ts, e, ha, ra, hb, rb, hc, rc, hd⟩ R
    subst e
    cases g : lstAt C n with
    | none =>
      have e : nxt (Src.z4 xs ys zs n i) C = none := by simp only [nxt, g]
      rw [e]
      exact trivial
    | some ws =>
      obtain ⟨_, os, e, _, sq, s⟩ := lst_of (v := .ref d) R g (.ref hd)
      cases e
      have stop : (vs.length ≤ i ∨ us.length ≤ i ∨ ts.length ≤ i ∨ os.length ≤ i) → (RX.It4 K a b c d).stop i H := fun h => ⟨vs, us, ts, os, SqT.of ha, SqT.of hb, SqT.of hc, sq, h⟩
      have len : ∀ {l : List W} {m : List V}, RWs K H L l m → l[i]? = none → m.length ≤ i := fun r h => by rw [r.length]; exact List.getElem?_eq_none_iff.mp h
      cases g1 : xs[i]? with
      | none =>
        have e : nxt (Src.z4 xs ys zs n i) C = some none := by simp only [nxt, g, g1]
        rw [e]
        exact stop (.inl (len ra g1))
      | some x =>
        cases g2 : ys[i]? with
        | none =>
          have e : nxt (Src.z4 xs ys zs n i) C = some none := by simp only [nxt, g, g1, g2]
          rw [e]
          exact stop (.inr (.inl (len rb g2)))
        | some y =>
          cases g3 : zs[i]? with
          | none =>
            have e : nxt (Src.z4 xs ys zs n i) C = some none := by simp only [nxt, g, g1, g2, g3]
            rw [e]
            exact stop (.inr (.inr (.inl (len rc g3))))
          | some z =>
            cases g4 : ws[i]? with
            | none =>
              have e : nxt (Src.z4 xs ys zs n i) C = some none := by simp only [nxt, g, g1, g2, g3, g4]
              rw [e]
              exact stop (.inr (.inr (.inr (len s g4))))
            | some u =>
              have e : nxt (Src.z4 xs ys zs n i) C = some (some (.tup [x, y, z, u], .z4 xs ys zs n (i + 1))) := by simp only [nxt, g, g1, g2, g3, g4]
              rw [e]
              obtain ⟨v1, k1, r1⟩ := ra.get g1
              obtain ⟨v2, k2, r2⟩ := rb.get g2
              obtain ⟨v3, k3, r3⟩ := rc.get g3
              obtain ⟨v4, k4, r4⟩ := s.get g4
              refine ⟨⟨vs, us, ts, os, _, _, _, _, SqT.of ha, SqT.of hb, SqT.of hc, sq, k1, k2, k3, k4⟩, fun v H' hy => ?_⟩
              obtain ⟨T, t1, t2, t3, t4, rfl, hT, rfl, f1, f2, f3, f4⟩ := hy
              have h1 := f1 vs (SqT.of ha)
              have h2 := f2 us (SqT.of hb)
              have h3 := f3 ts (SqT.of hc)
              have h4 := f4 os sq
              rw [k1] at h1; cases h1
              rw [k2] at h2; cases h2
              rw [k3] at h3; cases h3
              rw [k4] at h4; cases h4
              have ex : Ext H L (upd H T (.tup [v1, v2, v3, v4])) L := Ext.fresh hT
              exact ⟨ex, R.fresh hT, .tup upd_same (.cons (r1.ext ex) (.cons (r2.ext ex) (.cons (r3.ext ex) (.cons (r4.ext ex) .nil)))), vs, us, ts, rfl, ex.tup _ _ ha, ra.ext ex, ex.tup _ _ hb, rb.ext ex, ex.tup _ _ hc, rc.ext ex, hd⟩
theorem pi_ok (cx : Ctx V1 E sd X) {k : IK} {args : CE} (g : Good V1 E sd X args) {tg iter : Expr} (h : chkI V1.GT args sd tg iter k = true) : PI X tg iter (tI X.K E k (ev V1.run args)) := by
  cases k with
  | seq =>
    have h : chkA V1.GT args sd [iter] = true := h
    have ea := g.each _ h
    cases args with
    | cons a b =>
      obtain ⟨h0, ⟨_, pe⟩, eb⟩ := ea
      refine PI.imp (pi_seq pe) fun σ H Rr q => ?_
      obtain ⟨L, C, s, R, S, q⟩ := tI_A q
      have q : PostA X.K H L ((ev V1.run a s C).bind fun w h1 => (ev V1.run b s h1).on fun l h2 => .ok (.tup (w :: l)) h2) _ (E σ) := q
      refine ⟨L, C, s, R, S, (PostA.bind q).mono (fun v H1 h => ?_) fun _ _ _ h => h⟩
      obtain ⟨w, C1, L1, e1, R1, r1, p1⟩ := h
      cases b with
      | nil =>
        obtain ⟨ws, C2, L2, sq, R2, r2, gs, hw⟩ := p1 H1 L1 [v] .refl R1 (.cons r1 .nil)
        obtain ⟨v', ev', r3⟩ : ∃ w2, ws = [w2] ∧ RW X.K H1 L2 w2 v := by
          cases r2 with
          | cons r rr => cases rr; exact ⟨_, rfl, r⟩
        subst ev'
        rcases src_seq gs with ⟨xs, e, rfl⟩ | ⟨xs, e, rfl⟩ | ⟨n, xs, e, gl, rfl⟩
        · cases e
          cases r3 with
          | tup ht r => exact ⟨_, rfl, .inr ⟨⟨_, SqT.of ht⟩, hw _ (walk_tup ht r)⟩⟩
        · cases e
          cases r3 with
          | scr hs r => exact ⟨_, rfl, .inl ⟨⟨_, scr_sq hs⟩, hw _ (walk_scr hs r)⟩⟩
        · cases e
          obtain ⟨a, us, ea, ha, sq, _⟩ := lst_of R2 gl r3
          exact ⟨a, ea, .inl ⟨⟨us, sq⟩, hw _ (walk_lst ha)⟩⟩
      | _ => exact eb.elim
    | _ => exact ea.elim
  | rng1 =>
    cases iter with
    | Call fe l ks pos =>
      cases fe with
      | Name x p =>
        rcases l with _ | ⟨e, _ | ⟨_, _⟩⟩ <;> rcases ks with _ | ⟨_, _⟩ <;> first | exact (Bool.false_ne_true h).elim | skip
        simp only [chkI, Bool.and_eq_true, decide_eq_true_eq] at h
        obtain ⟨rfl, h1, h2⟩ := h
        have ea := g.each _ h2
        refine PI.imp (pi_range1 (gl_of cx.sc h1) (cx.blt _ (by decide)) ea.pa (star1 (all_cons ea.stars).1)) fun σ H Rr q => ?_
        obtain ⟨L, C, s, R, S, q⟩ := tI_A q
        refine ⟨L, C, s, R, S, q.mono (fun vs H1 h => ?_) fun _ _ _ h => h⟩
        obtain ⟨ws, C2, L2, sq, R2, r2, gs, hw⟩ := h
        obtain ⟨n, rfl, g1, rfl⟩ := src_rng1 gs
        obtain ⟨v, rfl, r3⟩ := rw_one r2
        obtain rfl := r3.int_inv
        have := small_of g1
        exact ⟨n, rfl, by omega, by omega, hw _ walk_upto⟩
      | _ => exact (Bool.false_ne_true h).elim
    | _ => exact (Bool.false_ne_true h).elim
  | rng2 =>
    cases iter with
    | Call fe l ks pos =>
      cases fe with
      | Name x p =>
        rcases l with _ | ⟨e, _ | ⟨e2, _ | ⟨_, _⟩⟩⟩ <;> rcases ks with _ | ⟨_, _⟩ <;> first | exact (Bool.false_ne_true h).elim | skip
        simp only [chkI, Bool.and_eq_true, decide_eq_true_eq] at h
        obtain ⟨rfl, h1, h2⟩ := h
        have ea := g.each _ h2
        have s2 := star1 (env := X.env) (all_cons (all_cons ea.stars).2).1
        refine PI.imp (pi_range2 (gl_of cx.sc h1) (cx.blt _ (by decide)) ea.pa (by rw [star_of (all_cons ea.stars).1, s2]) s2) fun σ H Rr q => ?_
        obtain ⟨L, C, s, R, S, q⟩ := tI_A q
        refine ⟨L, C, s, R, S, q.mono (fun vs H1 h => ?_) fun _ _ _ h => h⟩
        obtain ⟨ws, C2, L2, sq, R2, r2, gs, hw⟩ := h
        obtain ⟨n, m, rfl, g1, rfl⟩ := src_rng2 gs
        obtain ⟨v, v2, rfl, r3, r4⟩ := rw_two r2
        obtain rfl := r3.int_inv
        obtain rfl := r4.int_inv
        have := small_of g1.1
        have := small_of g1.2
        exact ⟨n, m, rfl, ⟨by omega, by omega, by omega, by omega⟩, hw _ walk_upto⟩
      | _ => exact (Bool.false_ne_true h).elim
    | _ => exact (Bool.false_ne_true h).elim
  | enm =>
    cases iter with
    | Call fe l ks pos =>
      cases fe with
      | Name x p =>
        rcases l with _ | ⟨e, _ | ⟨_, _⟩⟩ <;> rcases ks with _ | ⟨_, _⟩ <;> first | exact (Bool.false_ne_true h).elim | skip
        simp only [chkI, Bool.and_eq_true, decide_eq_true_eq] at h
        obtain ⟨ht, rfl, h1, h2⟩ := h
        have ea := g.each _ h2
        cases tg with
        | Tuple elts kk tpos =>
          refine PI.imp (pi_enumA (gl_of cx.sc h1) (cx.blt _ (by decide)) ea.pa (star1 (all_cons ea.stars).1)) fun σ H Rr q => ?_
          obtain ⟨L, C, s, R, S, q⟩ := tI_A q
          refine ⟨L, C, s, R, S, q.mono (fun vs H1 h => ?_) fun _ _ _ h => h⟩
          obtain ⟨ws, C2, L2, sq, R2, r2, gs, hw⟩ := h
          rcases src_enm gs with ⟨xs, rfl, rfl⟩ | ⟨xs, rfl, rfl⟩ | ⟨n, xs, rfl, gl, rfl⟩
          · obtain ⟨v, rfl, r3⟩ := rw_one r2
            cases r3 with
            | tup ht r => exact ⟨_, _, rfl, .inr ⟨SqT.of ht, hw _ (walk_enT ht r)⟩⟩
          · obtain ⟨v, rfl, r3⟩ := rw_one r2
            cases r3 with
            | scr hs r => exact ⟨_, _, rfl, .inl ⟨scr_sq hs, hw _ (walk_enS hs r)⟩⟩
          · obtain ⟨v, rfl, r3⟩ := rw_one r2
            obtain ⟨a, us, rfl, ha, sq, _⟩ := lst_of R2 gl r3
            exact ⟨a, us, rfl, .inl ⟨sq, hw _ (walk_enl ha)⟩⟩
        | _ => exact (Bool.false_ne_true ht).elim
      | _ => exact (Bool.false_ne_true h).elim
    | _ => exact (Bool.false_ne_true h).elim
  | zip =>
    cases iter with
    | Call fe l ks pos =>
      cases fe with
      | Name x p =>
        rcases l with _ | ⟨e, _ | ⟨e2, _ | ⟨_, _⟩⟩⟩ <;> rcases ks with _ | ⟨_, _⟩ <;> first | exact (Bool.false_ne_true h).elim | skip
        simp only [chkI, Bool.and_eq_true, decide_eq_true_eq] at h
        obtain ⟨ht, rfl, h1, h2⟩ := h
        have ea := g.each _ h2
        cases tg with
        | Tuple elts kk tpos =>
          refine PI.imp (RZ.pi_zipA (gl_of cx.sc h1) (cx.blt _ (by decide)) ea.pa (star_of (all_cons ea.stars).1) (stars_of (all_cons ea.stars).2)) fun σ H Rr q => ?_
          obtain ⟨L, C, s, R, S, q⟩ := tI_A q
          refine ⟨L, C, s, R, S, q.mono (fun vs H1 h => ?_) fun _ _ _ h => h⟩
          obtain ⟨ws, C2, L2, sq, R2, r2, gs, hw⟩ := h
          rcases src_zip gs with ⟨xs, ys, rfl, rfl⟩ | ⟨n, m, xs, ys, rfl, g1, g2, rfl⟩
          · obtain ⟨v, v2, rfl, r3, r4⟩ := rw_two r2
            cases r3 with
            | tup ht r =>
              cases r4 with
              | tup ht' r' => exact ⟨_, _, _, _, rfl, .inr ⟨SqT.of ht, SqT.of ht', hw _ (walk_ziT ht r ht' r')⟩⟩
          · obtain ⟨v, v2, rfl, r3, r4⟩ := rw_two r2
            obtain ⟨a, us, rfl, ha, sq, _⟩ := lst_of R2 g1 r3
            obtain ⟨b, us2, rfl, hb, sq2, _⟩ := lst_of R2 g2 r4
            exact ⟨a, b, us, us2, rfl, .inl ⟨sq, sq2, hw _ (walk_ziL ha hb)⟩⟩
        | _ => exact (Bool.false_ne_true ht).elim
      | _ => exact (Bool.false_ne_true h).elim
    | _ => exact (Bool.false_ne_true h).elim
  | zip4 =>
    cases iter with
    | Call fe l ks pos =>
      cases fe with
      | Name x p =>
        rcases l with _ | ⟨e, _ | ⟨e2, _ | ⟨e3, _ | ⟨e4, _ | ⟨_, _⟩⟩⟩⟩⟩ <;> rcases ks with _ | ⟨_, _⟩ <;> first | exact (Bool.false_ne_true h).elim | skip
        simp only [chkI, Bool.and_eq_true, decide_eq_true_eq] at h
        obtain ⟨ht, rfl, h1, h2⟩ := h
        have ea := g.each _ h2
        cases tg with
        | Tuple elts kk tpos =>
          refine PI.imp (RX.pi_zip4 (gl_of cx.sc h1) (cx.blt _ (by decide)) ea.pa (star_of (all_cons ea.stars).1) (stars_of (all_cons ea.stars).2)) fun σ H Rr q => ?_
          obtain ⟨L, C, s, R, S, q⟩ := tI_A q
          refine ⟨L, C, s, R, S, q.mono (fun vs H1 h => ?_) fun _ _ _ h => h⟩
          obtain ⟨ws, C2, L2, sq, R2, r2, gs, hw⟩ := h
          obtain ⟨xs, ys, zs, n, us, rfl, gl, rfl⟩ := src_zip4 gs
          obtain ⟨v1, v2, v3, v4, rfl, t1, t2, t3, t4⟩ := rw_four r2
          obtain ⟨a, as, rfl, ha, ra⟩ := t1.tup_inv
          obtain ⟨b, bs, rfl, hb, rb⟩ := t2.tup_inv
          obtain ⟨c, cs, rfl, hc, rc⟩ := t3.tup_inv
          obtain ⟨d, ds, rfl, hd, sq4, _⟩ := lst_of R2 gl t4
          exact ⟨a, b, c, d, _, _, _, _, rfl, SqT.of ha, SqT.of hb, SqT.of hc, sq4, hw _ (walk_z4 ha ra hb rb hc rc hd)⟩
        | _ => exact (Bool.false_ne_true ht).elim
      | _ => exact (Bool.false_ne_true h).elim
    | _ => exact (Bool.false_ne_true h).elim
  | rrng1 => exact (Bool.false_ne_true h).elim
  | rrng2 => exact (Bool.false_ne_true h).elim
end
end RF
end
end
section
set_option Elab.async false
set_option linter.all false
set_option maxRecDepth 100000
set_option maxHeartbeats 4000000
/-! RF14: dicts of written pairs; comprehensions; all expressions. -/
noncomputable section
namespace RF
open PySem PySem.Spec PyProof.Rows L2
section
variable {K : Fg} {L : List Addr} {C : CH} {H : Hp}
/-- first a list of values, from a later heap on; what follows is told from the first -/
theorem on_base {H' : Hp} {L' : List Addr} {E : EX} {r : R W} {k : List W → CH → R W} {Q : VK} (e0 : Ext H L H' L') (p : Post K H L (r.on k) Q E) :
    PostA K H' L' r (fun vs H1 => ∃ ws C1 L1, Ext H' L' H1 L1 ∧ Rep K L1 C1 H1 ∧ RWs K H1 L1 ws vs ∧ Post K H L (k ws C1) Q E) E := by
  cases r with
  | ok w C' =>
    cases w with
    | tup l => exact fun H1 L1 vs e R q => ⟨l, C', L1, e, R, q, p⟩
    | _ => exact p
  | exc c ws C' => exact fun H1 L1 vs e => p H1 L1 vs (e0.trans e)
  | bad => exact p
theorem pairs_ok : ∀ {ws : List W} {l : List (Key × W)} {vs : List V}, pairsW ws = some l → RWs K H L ws vs → ∃ us : List (Key × V), vs = flatP (us.map fun kv => (kV kv.1, kv.2)) ∧ RKv K H L l us
  | [], l, vs, h, r => by
    cases r
    simp only [pairsW, Option.some.injEq] at h
    subst h
    exact ⟨[], rfl, rfl, .nil⟩
  | [_], l, vs, h, r => by simp [pairsW] at h
  | k :: v :: ws, l, vs, h, r => by
    cases r with
    | cons r1 r =>
      cases r with
      | cons r2 r =>
        simp only [pairsW] at h
        split at h
        · rename_i k' l' g1 g2
          simp only [Option.some.injEq] at h
          subst h
          obtain ⟨us, e, h1, h2⟩ := pairs_ok g2 r
          have ek := kV_of g1 r1
          subst ek
          exact ⟨(k', _) :: us, by rw [e] <;> rfl, by simp [h1], .cons r2 h2⟩
        · cases h
theorem merge_ok : ∀ {l : List (Key × W)} {us : List (Key × V)} {acc : List (Key × W)} {uacc : List (Key × V)}, RKv K H L l us → RKv K H L acc uacc → RKv K H L (l.foldl (fun a kv => putW a kv.1 kv.2) acc) (mergeK uacc us)
  | [], [], _, _, _, r => r
  | [], _ :: _, _, _, h, _ => by have h1 := h.1; simp at h1
  | _ :: _, [], _, _, h, _ => by have h1 := h.1; simp at h1
  | p :: l, q :: us, acc, uacc, h, r => by
    obtain ⟨h1, h2⟩ := h
    rw [List.map_cons, List.map_cons] at h1 h2
    injection h1 with e1 h1
    cases h2 with
    | cons r1 r2 =>
      have z := put_of (k := p.1) r1 r
      have := merge_ok (l := l) (us := us) ⟨h1, r2⟩ z
      rw [List.foldl_cons]
      show RKv K H L _ (mergeK (putK uacc q.1 q.2) us)
      rw [e1]
      exact this
end
section
variable {V1 : Env1} {E : L2.St → EX} {sd : SD} {X : Cx}
theorem Good.disp {es : CE} (g : Good V1 E sd X es) : Good V1 E sd X (.disp es) := by
  refine .of (fun e h => ?_) fun es => rfl
  cases e with
  | Dict ks vs pos =>
    simp only [chkE, Bool.and_eq_true, beq_iff_eq] at h
    obtain ⟨h1, h2, h3, h4, h5⟩ := h
    obtain ⟨trs, pp, rd⟩ := pps_of (pos := pos) h1 h2 (g.each _ h5)
    have h0 : ks ≠ [] := by intro e; rw [e] at h3; cases h3
    refine ⟨rfl, PE.imp (pe_disp pp h1 h2 h0 (Nat.le_of_ble_eq_true h4)) ?_⟩
    rintro σ H Q ⟨L, C, s, R, S, q⟩ p hp
    have q : Post X.K H L ((ev V1.run es s C).on dispW) Q (E σ) := q
    have e0 : Ext H L (upd H p (.dK [])) L := Ext.fresh hp
    have nL := R.notin hp
    refine rd σ _ _ ⟨L, C, s, R.fresh hp, S.ext e0, (on_base e0 q).mono (fun xs H2 h => ?_) fun _ _ _ h => h⟩
    obtain ⟨ws, C1, L1, e1, R1, r1, p1⟩ := h
    unfold dispW at p1
    split at p1
    · rename_i l gl
      obtain ⟨hb, p1⟩ := post_if p1
      obtain ⟨hb1, hb2⟩ := Bool.and_eq_true_iff.mp hb
      obtain ⟨us, eu, ru⟩ := pairs_ok gl r1
      obtain ⟨n1, at1⟩ := e1.stays nL upd_same
      refine ⟨_, eu, at1, us, rfl, by rw [ru.length]; exact Nat.le_of_ble_eq_true hb1, ?_⟩
      have hm := merge_ok ru (acc := []) (uacc := []) ⟨rfl, .nil⟩
      have e2 : Ext H L H2 L1 := e0.trans e1
      refine p1 _ (L1 ++ [p]) _ (e2.adopt hp) (R1.adopt n1 at1 True.intro ⟨_, upd_same, hm.1, hm.2.ext0 (Ext0.upd at1 True.intro [p])⟩) (.ref (push_at R1 p))
    · exact p1.elim
  | _ => exact (Bool.false_ne_true h).elim

/-! ### comprehensions -/
theorem wipe_in {σ : L2.St} {vs : List Nat} : ∀ {us : List Nat}, (∀ i ∈ us, i ∈ vs) → L2.wipe (L2.wipe σ us) vs = L2.wipe σ vs
  | [], _ => rfl
  | u :: us, h => by
    show L2.wipe ((L2.wipe σ us).set u none) vs = _
    rw [wipe_set (h u (List.mem_cons_self ..)), wipe_in fun i hi => h i (List.mem_cons_of_mem _ hi)]
theorem PTs.imp {ifs : List Expr} {t t' : TT} (h : PTs X ifs t) (i : ∀ σ H Q, t' σ H Q → t σ H Q) : PTs X ifs t' := ⟨fun pins s σ H Q I q => h.run pins s σ H Q I (i σ H Q q)⟩
/-- what the block's turns do -/
theorem lc_ok {E : EX} {K : Fg} {J : It} {p : CP} {fc fe : St → CH → R W} {s' : St} {σ : L2.St} {vs : List Nat} {H1 : Hp} {L1 : List Addr} {C1 : CH} {q0 : Src} {Q : VK} {m0 : Nat} (hm0 : m0 ≤ 1000000) (ht : ∀ i ∈ tgtIx p, i ∈ vs)
    (wk : Walks K J q0 H1 L1) (R1 : Rep K L1 C1 H1) (S1 : RSt K H1 L1 s' (L2.wipe σ vs)) (q : Post K H1 L1 (compL fc fe p s' m0 q0 C1 []) Q E) (D : Addr) (hD : H1 D = none) :
    ∃ W : Nat → Nat → Hp → Prop, (∃ m, W 0 m (upd H1 D (.lst []))) ∧ ∀ i m H, W i m H →
      (J.stop i H ∧ Q (.ref D) H) ∨ (J.go i H ∧ ∃ Nx : Hp → Prop, (∀ H', Nx H' → ∃ m', m' < m ∧ W (i + 1) m' H') ∧ ∀ x H', J.yld i H x H' → tP K p x (L2.wipe σ vs) H' fun σ2 H2 => L2.wipe σ2 vs = L2.wipe σ vs ∧ tT K E0 fc σ2 H2 fun b H3 =>
        if b = true then tE K E0 fe σ2 H3 fun y H4 => ∃ acc, H4 D = some (.lst acc) ∧ acc.length < sizeLine ∧ Nx (upd H4 D (.lst (acc ++ [y]))) else Nx H3) := by
  obtain ⟨P, ⟨w1, w2⟩, p0⟩ := wk
  refine ⟨fun i m H => ∃ L C q acc accv, Ext H1 L1 H L ∧ D ∉ L ∧ H D = some (.lst accv) ∧ Rep K L C H ∧ RWs K H L acc.reverse accv ∧ P i q H L ∧ accv.length + m ≤ 1000000 ∧ Post K H1 L1 (compL fc fe p s' m q C acc) Q E, ⟨m0, ?_⟩, ?_⟩
  · exact ⟨L1, C1, q0, [], [], Ext.fresh hD, R1.notin hD, upd_same, R1.fresh hD, .nil, w1 _ _ _ _ _ _ p0 (Ext.fresh hD).to0 (Ext.fresh (L := L1) hD).frz, by simpa using hm0, q⟩
  · rintro i m H ⟨L, C, q, acc, accv, ex, nD, aD, R, ra, pp, hl, po⟩
    cases m with
    | zero => exact po.elim
    | succ n =>
      have step := w2 i q H L C pp R
      unfold compL at po
      cases hn : nxt q C with
      | none => rw [hn] at po; exact po.elim
      | some o =>
        rw [hn] at po step
        cases o with
        | none =>
          refine .inl ⟨step, ?_⟩
          have po : Post K H1 L1 (.ok (.ref C.n) (C.new (.lst acc.reverse))) Q E := po
          refine po H (L ++ [D]) _ ?_ ?_ (.ref (push_at R D))
          · rw [← upd_self aD]; exact Ext.adopt hD ex
          · have := R.adopt (o := .lst accv) (u := .lst acc.reverse) nD aD True.intro ⟨accv, upd_same, ra.ext0 (Ext0.upd aD True.intro [D])⟩
            rwa [upd_self aD] at this
        | some xq =>
          obtain ⟨x, q'⟩ := xq
          obtain ⟨go, step⟩ := step
          refine .inr ⟨go, _, fun H' h => ⟨n, Nat.lt_succ_self n, h⟩, fun v H' yl => ?_⟩
          obtain ⟨e1, R2, r2, p2⟩ := step v H' yl
          simp only at po
          cases hb : bindP C p x s' with
          | none => rw [hb] at po; exact po.elim
          | some s2 =>
            rw [hb] at po
            simp only at po
            have ex1 := ex.trans e1
            obtain ⟨nD1, aD1⟩ := e1.stays nD aD
            refine ⟨L, C, s', x, R2, S1.ext ex1, r2, s2, hb, fun σ2 S2 hw => ⟨?_, ?_⟩⟩
            · rw [hw vs ht, wipe_in fun _ h => h]
            · cases hc : fc s2 C with
              | exc c ws C2 => rw [hc] at po; exact po.elim
              | bad => rw [hc] at po; exact po.elim
              | ok b C2 =>
                rw [hc] at po
                simp only at po
                cases htr : truth C2 b with
                | none => rw [htr] at po; exact po.elim
                | some k =>
                  rw [htr] at po
                  refine ⟨L, C, s2, R2, S2, ?_⟩
                  show Post K H' L ((fc s2 C).bind trW) _ EF
                  rw [hc]
                  show Post K H' L (trW b C2) _ EF
                  unfold trW
                  rw [htr]
                  intro H3 L3 v3 e3 R3 r3
                  refine ⟨k, r3.bl_inv, ?_⟩
                  obtain ⟨nD3, aD3⟩ := e3.stays nD1 aD1
                  have ex3 := ex1.trans e3
                  cases k with
                  | false =>
                    show ∃ L C q acc accv, _
                    exact ⟨L3, C2, q', acc, accv, ex3, nD3, aD3, R3, (ra.ext e1).ext e3, w1 _ _ _ _ _ _ p2 e3.to0 e3.frz, by omega, po⟩
                  | true =>
                    simp only at po
                    show tE K E0 fe σ2 H3 _
                    refine ⟨L3, C2, s2, R3, S2.ext e3, ?_⟩
                    cases he : fe s2 C2 with
                    | exc c ws C3 => rw [he] at po; exact po.elim
                    | bad => rw [he] at po; exact po.elim
                    | ok y C3 =>
                      rw [he] at po
                      intro H4 L4 v4 e4 R4 r4
                      obtain ⟨nD4, aD4⟩ := e4.stays nD3 aD3
                      have ex4 := ex3.trans e4
                      have e0 : Ext0 H4 L4 (upd H4 D (.lst (accv ++ [v4]))) L4 := by simpa using Ext0.upd (L := L4) (o := HO.lst (accv ++ [v4])) aD4 True.intro []
                      refine ⟨accv, aD4, by rw [sizeLine_eq]; omega, L4, C3, q', y :: acc, accv ++ [v4], ex4.beside hD, nD4, upd_same, R4.beside nD4 aD4 True.intro, ?_, w1 _ _ _ _ _ _ (w1 _ _ _ _ _ _ p2 (e3.trans e4).to0 (e3.trans e4).frz) e0 (frz_upd aD4 True.intro), ?_, po⟩
                      · rw [List.reverse_cons]
                        exact RWs.append ((((ra.ext e1).ext e3).ext e4).ext0 e0) (.cons (r4.ext0 e0) .nil)
                      · rw [List.length_append]
                        show accv.length + 1 + n ≤ _
                        omega
theorem RSt.ext0 {K : Fg} {H H' : Hp} {L L' : List Addr} {s : St} {σ : L2.St} (e : Ext0 H L H' L') (r : RSt K H L s σ) : RSt K H' L' s σ :=
  ⟨r.len, fun i w h => let ⟨v, h1, h2⟩ := r.at_ i w h; ⟨v, h1, h2.ext0 e⟩⟩
def OnI (r : R (List W)) (fin : List W → CH → Prop) : Prop := match r with
  | .ok acc h => fin acc h
  | _ => False
/-- the second clause's turns -/
theorem lci_ok {K : Fg} {J1 : It} {p1 : CP} {fc1 fe : St → CH → R W} {sw : St} {σ2 : L2.St} {vs1 : List Nat} {H1 H4 : Hp} {L1 L4 : List Addr} {C4 : CH} {q1 : Src} {acc0 : List W} {accv0 : List V} {m0 N0 : Nat} {D : Addr} (PP : Hp → List Addr → Prop) (fin : List W → CH → Prop)
    (stab : ∀ H L H' L', PP H L → Ext0 H L H' L' → (∀ a o u, H a = some (.frz o u) → H' a = some (.frz o u)) → PP H' L') (hN : N0 ≤ 1000000) (ht : ∀ i ∈ tgtIx p1, i ∈ vs1) (hD : H1 D = none)
    (wk : Walks K J1 q1 H4 L4) (ex4 : Ext H1 L1 H4 L4) (nD4 : D ∉ L4) (aD4 : H4 D = some (.lst accv0)) (R4 : Rep K L4 C4 H4) (ra4 : RWs K H4 L4 acc0.reverse accv0) (pp4 : PP H4 L4) (S4 : RSt K H4 L4 sw (L2.wipe σ2 vs1)) (hl : accv0.length + m0 ≤ N0) (q : OnI (compI fc1 fe p1 sw m0 q1 C4 acc0) fin) :
    ∃ W1 : Nat → Nat → Hp → Prop, (∃ m, W1 0 m H4) ∧ ∀ j k H, W1 j k H →
      (J1.stop j H ∧ ∃ L C acc accv, Ext H1 L1 H L ∧ D ∉ L ∧ H D = some (.lst accv) ∧ Rep K L C H ∧ RWs K H L acc.reverse accv ∧ PP H L ∧ accv.length ≤ N0 ∧ fin acc C) ∨
      (J1.go j H ∧ ∃ Nx1 : Hp → Prop, (∀ H', Nx1 H' → ∃ k', k' < k ∧ W1 (j + 1) k' H') ∧ ∀ x H', J1.yld j H x H' → tP K p1 x (L2.wipe σ2 vs1) H' fun σ3 H5 => L2.wipe σ3 vs1 = L2.wipe σ2 vs1 ∧ tT K E0 fc1 σ3 H5 fun b H6 =>
        if b = true then tE K E0 fe σ3 H6 fun y H7 => ∃ acc, H7 D = some (.lst acc) ∧ acc.length < sizeLine ∧ Nx1 (upd H7 D (.lst (acc ++ [y]))) else Nx1 H6) := by
  obtain ⟨P, ⟨w1, w2⟩, p0⟩ := wk
  refine ⟨fun i m H => ∃ L C q acc accv, Ext H1 L1 H L ∧ D ∉ L ∧ H D = some (.lst accv) ∧ Rep K L C H ∧ RWs K H L acc.reverse accv ∧ P i q H L ∧ PP H L ∧ RSt K H L sw (L2.wipe σ2 vs1) ∧ accv.length + m ≤ N0 ∧ OnI (compI fc1 fe p1 sw m q C acc) fin, ⟨m0, L4, C4, q1, acc0, accv0, ex4, nD4, aD4, R4, ra4, p0, pp4, S4, hl, q⟩, ?_⟩
  rintro i m H ⟨L, C, q, acc, accv, ex, nD, aD, R, ra, pp, PPh, S, hl, po⟩
  cases m with
  | zero => exact po.elim
  | succ n =>
    have step := w2 i q H L C pp R
    unfold compI at po
    cases hn : nxt q C with
    | none => rw [hn] at po; exact po.elim
    | some o =>
      rw [hn] at po step
      cases o with
      | none => exact .inl ⟨step, L, C, acc, accv, ex, nD, aD, R, ra, PPh, by omega, po⟩
      | some xq =>
        obtain ⟨x, q'⟩ := xq
        obtain ⟨go, step⟩ := step
        refine .inr ⟨go, _, fun H' h => ⟨n, Nat.lt_succ_self n, h⟩, fun v H' yl => ?_⟩
        obtain ⟨e1, R2, r2, p2⟩ := step v H' yl
        simp only at po
        cases hb : bindP C p1 x sw with
        | none => rw [hb] at po; exact po.elim
        | some s2 =>
          rw [hb] at po
          simp only at po
          have ex1 := ex.trans e1
          obtain ⟨nD1, aD1⟩ := e1.stays nD aD
          have S1 := S.ext e1
          have PP1 := stab _ _ _ _ PPh e1.to0 e1.frz
          refine ⟨L, C, sw, x, R2, S1, r2, s2, hb, fun σ3 S2 hw => ⟨?_, ?_⟩⟩
          · rw [hw vs1 ht, wipe_in fun _ h => h]
          · cases hc : fc1 s2 C with
            | exc c ws C2 => rw [hc] at po; exact po.elim
            | bad => rw [hc] at po; exact po.elim
            | ok b C2 =>
              rw [hc] at po
              simp only at po
              cases htr : truth C2 b with
              | none => rw [htr] at po; exact po.elim
              | some k =>
                rw [htr] at po
                refine ⟨L, C, s2, R2, S2, ?_⟩
                show Post K H' L ((fc1 s2 C).bind trW) _ EF
                rw [hc]
                show Post K H' L (trW b C2) _ EF
                unfold trW
                rw [htr]
                intro H3 L3 v3 e3 R3 r3
                refine ⟨k, r3.bl_inv, ?_⟩
                obtain ⟨nD3, aD3⟩ := e3.stays nD1 aD1
                have ex3 := ex1.trans e3
                have PP3 := stab _ _ _ _ PP1 e3.to0 e3.frz
                cases k with
                | false =>
                  show ∃ L C q acc accv, _
                  exact ⟨L3, C2, q', acc, accv, ex3, nD3, aD3, R3, (ra.ext e1).ext e3, w1 _ _ _ _ _ _ p2 e3.to0 e3.frz, PP3, S1.ext e3, by omega, po⟩
                | true =>
                  simp only at po
                  show tE K E0 fe σ3 H3 _
                  refine ⟨L3, C2, s2, R3, S2.ext e3, ?_⟩
                  cases he : fe s2 C2 with
                  | exc c ws C3 => rw [he] at po; exact po.elim
                  | bad => rw [he] at po; exact po.elim
                  | ok y C3 =>
                    rw [he] at po
                    intro H4 L4 v4 e4 R4 r4
                    obtain ⟨nD4, aD4⟩ := e4.stays nD3 aD3
                    have ex4 := ex3.trans e4
                    have e0 : Ext0 H4 L4 (upd H4 D (.lst (accv ++ [v4]))) L4 := by simpa using Ext0.upd (L := L4) (o := HO.lst (accv ++ [v4])) aD4 True.intro []
                    refine ⟨accv, aD4, by rw [sizeLine_eq]; omega, L4, C3, q', y :: acc, accv ++ [v4], ex4.beside hD, nD4, upd_same, R4.beside nD4 aD4 True.intro, ?_, w1 _ _ _ _ _ _ (w1 _ _ _ _ _ _ p2 (e3.trans e4).to0 (e3.trans e4).frz) e0 (frz_upd aD4 True.intro), stab _ _ _ _ (stab _ _ _ _ PP3 e4.to0 e4.frz) e0 (frz_upd aD4 True.intro), ((S1.ext e3).ext e4).ext0 e0, ?_, po⟩
                    · rw [List.reverse_cons]
                      exact RWs.append ((((ra.ext e1).ext e3).ext e4).ext0 e0) (.cons (r4.ext0 e0) .nil)
                    · rw [List.length_append]
                      show accv.length + 1 + n ≤ _
                      omega
/-- what the block's turns do, two clauses -/
theorem lc2_ok {E : EX} {K : Fg} {J : It} {p p1 : CP} {fc fa fc1 fe : St → CH → R W} {k1 : IK} {s' : St} {σ : L2.St} {vs vs1 : List Nat} {H1 : Hp} {L1 : List Addr} {C1 : CH} {q0 : Src} {Q : VK} {m0 : Nat} (hm0 : 1000 * m0 ≤ 1000000) (ht : ∀ i ∈ tgtIx p, i ∈ vs) (ht1 : ∀ i ∈ tgtIx p1, i ∈ vs1)
    (wk : Walks K J q0 H1 L1) (R1 : Rep K L1 C1 H1) (S1 : RSt K H1 L1 s' (L2.wipe σ vs)) (q : Post K H1 L1 (compO fc fa k1 vs1 fc1 fe p1 p s' m0 q0 C1 []) Q E) (D : Addr) (hD : H1 D = none) :
    ∃ W : Nat → Nat → Hp → Prop, (∃ m, W 0 m (upd H1 D (.lst []))) ∧ ∀ i m H, W i m H →
      (J.stop i H ∧ Q (.ref D) H) ∨ (J.go i H ∧ ∃ Nx : Hp → Prop, (∀ H', Nx H' → ∃ m', m' < m ∧ W (i + 1) m' H') ∧ ∀ x H', J.yld i H x H' → tP K p x (L2.wipe σ vs) H' fun σ2 H2 => L2.wipe σ2 vs = L2.wipe σ vs ∧ tT K E0 fc σ2 H2 fun b H3 =>
        if b = true then tI K E0 k1 fa σ2 H3 fun J1 H4 => ∃ W1 : Nat → Nat → Hp → Prop, (∃ m, W1 0 m H4) ∧ ∀ j k H, W1 j k H →
          (J1.stop j H ∧ Nx H) ∨ (J1.go j H ∧ ∃ Nx1 : Hp → Prop, (∀ H', Nx1 H' → ∃ k', k' < k ∧ W1 (j + 1) k' H') ∧ ∀ x H', J1.yld j H x H' → tP K p1 x (L2.wipe σ2 vs1) H' fun σ3 H5 => L2.wipe σ3 vs1 = L2.wipe σ2 vs1 ∧ tT K E0 fc1 σ3 H5 fun b H6 =>
            if b = true then tE K E0 fe σ3 H6 fun y H7 => ∃ acc, H7 D = some (.lst acc) ∧ acc.length < sizeLine ∧ Nx1 (upd H7 D (.lst (acc ++ [y]))) else Nx1 H6)
        else Nx H3) := by
  obtain ⟨P, ⟨w1, w2⟩, p0⟩ := wk
  refine ⟨fun i m H => ∃ L C q acc accv, Ext H1 L1 H L ∧ D ∉ L ∧ H D = some (.lst accv) ∧ Rep K L C H ∧ RWs K H L acc.reverse accv ∧ P i q H L ∧ accv.length + 1000 * m ≤ 1000000 ∧ Post K H1 L1 (compO fc fa k1 vs1 fc1 fe p1 p s' m q C acc) Q E, ⟨m0, ?_⟩, ?_⟩
  · exact ⟨L1, C1, q0, [], [], Ext.fresh hD, R1.notin hD, upd_same, R1.fresh hD, .nil, w1 _ _ _ _ _ _ p0 (Ext.fresh hD).to0 (Ext.fresh (L := L1) hD).frz, by simpa using hm0, q⟩
  · rintro i m H ⟨L, C, q, acc, accv, ex, nD, aD, R, ra, pp, hl, po⟩
    cases m with
    | zero => exact po.elim
    | succ n =>
      have step := w2 i q H L C pp R
      unfold compO at po
      cases hn : nxt q C with
      | none => rw [hn] at po; exact po.elim
      | some o =>
        rw [hn] at po step
        cases o with
        | none =>
          refine .inl ⟨step, ?_⟩
          have po : Post K H1 L1 (.ok (.ref C.n) (C.new (.lst acc.reverse))) Q E := po
          refine po H (L ++ [D]) _ ?_ ?_ (.ref (push_at R D))
          · rw [← upd_self aD]; exact Ext.adopt hD ex
          · have := R.adopt (o := .lst accv) (u := .lst acc.reverse) nD aD True.intro ⟨accv, upd_same, ra.ext0 (Ext0.upd aD True.intro [D])⟩
            rwa [upd_self aD] at this
        | some xq =>
          obtain ⟨x, q'⟩ := xq
          obtain ⟨go, step⟩ := step
          refine .inr ⟨go, _, fun H' h => ⟨n, Nat.lt_succ_self n, h⟩, fun v H' yl => ?_⟩
          obtain ⟨e1, R2, r2, p2⟩ := step v H' yl
          simp only at po
          cases hb : bindP C p x s' with
          | none => rw [hb] at po; exact po.elim
          | some s2 =>
            rw [hb] at po
            simp only at po
            have ex1 := ex.trans e1
            obtain ⟨nD1, aD1⟩ := e1.stays nD aD
            refine ⟨L, C, s', x, R2, S1.ext ex1, r2, s2, hb, fun σ2 S2 hw => ⟨?_, ?_⟩⟩
            · rw [hw vs ht, wipe_in fun _ h => h]
            · cases hc : fc s2 C with
              | exc c ws C2 => rw [hc] at po; exact po.elim
              | bad => rw [hc] at po; exact po.elim
              | ok b C2 =>
                rw [hc] at po
                simp only at po
                cases htr : truth C2 b with
                | none => rw [htr] at po; exact po.elim
                | some k =>
                  rw [htr] at po
                  refine ⟨L, C, s2, R2, S2, ?_⟩
                  show Post K H' L ((fc s2 C).bind trW) _ EF
                  rw [hc]
                  show Post K H' L (trW b C2) _ EF
                  unfold trW
                  rw [htr]
                  intro H3 L3 v3 e3 R3 r3
                  refine ⟨k, r3.bl_inv, ?_⟩
                  obtain ⟨nD3, aD3⟩ := e3.stays nD1 aD1
                  have ex3 := ex1.trans e3
                  have p3 := w1 _ _ _ _ _ _ p2 e3.to0 e3.frz
                  cases k with
                  | false =>
                    show ∃ L C q acc accv, _
                    exact ⟨L3, C2, q', acc, accv, ex3, nD3, aD3, R3, (ra.ext e1).ext e3, p3, by omega, po⟩
                  | true =>
                    simp only at po
                    show tI K E0 k1 fa σ2 H3 _
                    refine ⟨L3, C2, s2, R3, S2.ext e3, ?_⟩
                    cases he : fa s2 C2 with
                    | exc c ws C3 => rw [he] at po; exact po.elim
                    | bad => rw [he] at po; exact po.elim
                    | ok y C3 =>
                      rw [he] at po
                      cases y with
                      | tup l =>
                        simp only at po
                        cases hs : src0 k1 l C3 with
                        | none => rw [hs] at po; exact po.elim
                        | some q1 =>
                          rw [hs] at po
                          simp only at po
                          refine ⟨q1, hs, fun H4 L4 J1 e4 R4 wk1 => ?_⟩
                          obtain ⟨nD4, aD4⟩ := e4.stays nD3 aD3
                          obtain ⟨W1, w0, wn⟩ := lci_ok (N0 := accv.length + 1000) (m0 := fuel2) (D := D) (fun H L => P (i + 1) q' H L) (fun acc' h3 => Post K H1 L1 (compO fc fa k1 vs1 fc1 fe p1 p s' n q' h3 acc') Q E) (fun H L H' L' h e f => w1 _ _ _ _ _ _ h e f) (by omega) ht1 hD wk1 (ex3.trans e4) nD4 aD4 R4
                            ((((ra.ext e1).ext e3).ext e4)) (w1 _ _ _ _ _ _ p3 e4.to0 e4.frz) (((S2.ext e3).ext e4).wipe vs1) (Nat.le_refl _) (by
                              unfold OnI
                              split
                              · rename_i z; rw [z] at po; exact po
                              · rename_i z
                                split at po
                                · rename_i z2; exact (z _ _ z2).elim
                                · exact po.elim)
                          refine ⟨W1, w0, fun j k H h => ?_⟩
                          rcases wn j k H h with ⟨st, L5, C5, acc5, accv5, a1, a2, a3, a4, a5, a6, a7, a8⟩ | h
                          · exact .inl ⟨st, show ∃ L C q acc accv, _ from ⟨L5, C5, q', acc5, accv5, a1, a2, a3, a4, a5, a6, by omega, a8⟩⟩
                          · exact .inr h
                      | _ => exact po.elim
theorem fold_set {e : Expr} {env : Env} (h : isSetE e = false) : ∀ x, foldedSetIterable e env x = pure x := by
  intro x
  cases e <;> first | rfl | cases h
theorem chk_ifs {GT : Str → Option GK} {c : CE} {sd' : SD} {ifs : List Expr} (h : (match ifs with
    | [] => lit1 c
    | [t] => !isIfE t && chkE GT c sd' t
    | _ => false) = true) : (ifs = [] ∧ c = .lit (.bl true)) ∨ ∃ t, ifs = [t] ∧ isIfE t = false ∧ chkE GT c sd' t = true := by
  rcases ifs with _ | ⟨t, _ | ⟨_, _⟩⟩
  · refine .inl ⟨rfl, ?_⟩
    have h : lit1 c = true := h
    unfold lit1 at h
    split at h
    · rfl
    · cases h
  · have h : (!isIfE t && chkE GT c sd' t) = true := h
    obtain ⟨h1, h2⟩ := Bool.and_eq_true_iff.mp h
    exact .inr ⟨t, rfl, isIf_of h1, h2⟩
  · exact (Bool.false_ne_true h).elim
theorem pts_ok {c : CE} (g : Good V1 E sd X c) {ifs : List Expr} (h : (ifs = [] ∧ c = .lit (.bl true)) ∨ ∃ t, ifs = [t] ∧ isIfE t = false ∧ chkE V1.GT c sd t = true) : PTs X ifs (tT X.K E (ev V1.run c)) := by
  rcases h with ⟨rfl, rfl⟩ | ⟨t, rfl, h1, h2⟩
  · refine PTs.imp pts_nil ?_
    rintro σ H Q ⟨L, C, s, R, S, q⟩
    obtain ⟨k, e, q⟩ := q H L (.bl true) .refl R (.bl true)
    cases e
    exact q
  · exact pts_one (g.pt t h2 h1)
theorem chk_comp {GT : Str → Option GK} {own : List (Str × Nat)} {k : IK} {args c elt : CE} {p : CP} {e : Expr} (h : chkE GT (.comp own k args p c elt) sd e = true) : ∃ el tg iter ifs scope pos, e = .ListComp el [⟨tg, iter, ifs, 0⟩] scope pos ∧
    blkC sd.N sd.sc scope own = true ∧ (∀ i ∈ tgtIx p, i ∈ own.map (·.2)) ∧ isSetE iter = false ∧ chkP (blkSD sd scope) p tg = true ∧ ((ifs = [] ∧ c = .lit (.bl true)) ∨ ∃ t, ifs = [t] ∧ isIfE t = false ∧ chkE GT c (blkSD sd scope) t = true) ∧
    chkE GT elt (blkSD sd scope) el = true ∧ chkI GT args sd tg iter k = true := by
  cases e with
  | ListComp el gs scope pos =>
    rcases gs with _ | ⟨⟨tg, iter, ifs, asy⟩, _ | ⟨g2, gs⟩⟩
    · exact (Bool.false_ne_true h).elim
    · by_cases ha : asy = 0
      · subst ha
        simp only [chkE, Bool.and_eq_true] at h
        obtain ⟨h1, h2, h3, h4, h5, h6, h7⟩ := h
        refine ⟨el, tg, iter, ifs, scope, pos, rfl, h1, fun i hi => ?_, (Bool.not_eq_true' _).mp h3, h4, chk_ifs h5, h6, ?_⟩
        · have := List.all_eq_true.mp h2 i hi
          simpa using this
        · cases k <;> first | exact h7 | exact (Bool.false_ne_true h7).elim
      · simp [chkE, ha] at h
    · simp [chkE] at h
  | _ => exact (Bool.false_ne_true h).elim
theorem chk_comp2 {GT : Str → Option GK} {own : List (Str × Nat)} {vs1 : List Nat} {k k1 : IK} {args c args1 c1 elt : CE} {p p1 : CP} {e : Expr} (h : chkE GT (.comp2 own vs1 k args p c k1 args1 p1 c1 elt) sd e = true) : ∃ el tg iter ifs tg1 iter1 ifs1 scope pos, e = .ListComp el [⟨tg, iter, ifs, 0⟩, ⟨tg1, iter1, ifs1, 0⟩] scope pos ∧
    blkC sd.N sd.sc scope own = true ∧ (∀ i ∈ tgtIx p, i ∈ own.map (·.2)) ∧ (∀ i ∈ vs1, i ∈ own.map (·.2)) ∧ (∀ i ∈ tgtIx p1, i ∈ vs1) ∧ isSetE iter = false ∧ isSetE iter1 = false ∧ chkP (blkSD sd scope) p tg = true ∧ chkP (blkSD sd scope) p1 tg1 = true ∧
    ((ifs = [] ∧ c = .lit (.bl true)) ∨ ∃ t, ifs = [t] ∧ isIfE t = false ∧ chkE GT c (blkSD sd scope) t = true) ∧ ((ifs1 = [] ∧ c1 = .lit (.bl true)) ∨ ∃ t, ifs1 = [t] ∧ isIfE t = false ∧ chkE GT c1 (blkSD sd scope) t = true) ∧
    chkE GT elt (blkSD sd scope) el = true ∧ chkI GT args sd tg iter k = true ∧ chkI GT args1 (blkSD sd scope) tg1 iter1 k1 = true := by
  cases e with
  | ListComp el gs scope pos =>
    rcases gs with _ | ⟨⟨tg, iter, ifs, asy⟩, _ | ⟨⟨tg1, iter1, ifs1, asy1⟩, _ | ⟨g3, gs⟩⟩⟩
    · exact (Bool.false_ne_true h).elim
    · simp [chkE] at h
    · by_cases ha : asy = 0
      · by_cases ha1 : asy1 = 0
        · subst ha ha1
          simp only [chkE, Bool.and_eq_true] at h
          obtain ⟨h1, h2, h21, h22, h3, h31, h4, h41, h5, h51, h6, h7, h71⟩ := h
          refine ⟨el, tg, iter, ifs, tg1, iter1, ifs1, scope, pos, rfl, h1, fun i hi => ?_, fun i hi => ?_, fun i hi => ?_, (Bool.not_eq_true' _).mp h3, (Bool.not_eq_true' _).mp h31, h4, h41, chk_ifs h5, chk_ifs h51, h6, ?_, ?_⟩
          · have := List.all_eq_true.mp h2 i hi
            simpa using this
          · have := List.all_eq_true.mp h21 i hi
            simpa using this
          · have := List.all_eq_true.mp h22 i hi
            simpa using this
          · cases k <;> first | exact h7 | exact (Bool.false_ne_true h7).elim
          · cases k1 <;> first | exact h71 | exact (Bool.false_ne_true h71).elim
        · simp [chkE, ha1] at h
      · simp [chkE, ha] at h
    · simp [chkE] at h
  | _ => exact (Bool.false_ne_true h).elim
/-- a comprehension, its reading -/
inductive IsLc (X : Cx) : Expr → TE → Prop
  | mk {elt tg iter : Expr} {ifs : List Expr} {scope : Scope} {own : List (Str × Nat)} {pos : Pos} {wi : TI} {g : TG} {tt : TT} {te : TE} (hi : PI X tg iter wi) (ok : BlkOk X.N X.env.scope scope own)
    (hg : ∀ (s : Shared) (H : Hp) (C : Addr) (cl : List (Str × Addr)) (fp : List Addr), PG (X.blk s H scope (compEnvC scope cl C X.env) fp) tg g) (ht : ∀ (s : Shared) (H : Hp) (C : Addr) (cl : List (Str × Addr)) (fp : List Addr), PTs (X.blk s H scope (compEnvC scope cl C X.env) fp) ifs tt)
    (he : ∀ (s : Shared) (H : Hp) (C : Addr) (cl : List (Str × Addr)) (fp : List Addr), PE (X.blk s H scope (compEnvC scope cl C X.env) fp) elt te) (hs : ∀ x, foldedSetIterable iter X.env x = pure x) :
    IsLc X (.ListComp elt [⟨tg, iter, ifs, 0⟩] scope pos) (tLc wi g tt te (own.map (·.2)))
  | mk2 {elt tg iter tg1 iter1 : Expr} {ifs ifs1 : List Expr} {scope : Scope} {own : List (Str × Nat)} {vs1 : List Nat} {pos : Pos} {wi wi1 : TI} {g g1 : TG} {tt tt1 : TT} {te : TE} (hi : PI X tg iter wi) (ok : BlkOk X.N X.env.scope scope own) (hv : ∀ i ∈ vs1, i ∈ own.map (·.2))
    (hg : ∀ (s : Shared) (H : Hp) (C : Addr) (cl : List (Str × Addr)) (fp : List Addr), PG (X.blk s H scope (compEnvC scope cl C X.env) fp) tg g) (ht : ∀ (s : Shared) (H : Hp) (C : Addr) (cl : List (Str × Addr)) (fp : List Addr), PTs (X.blk s H scope (compEnvC scope cl C X.env) fp) ifs tt)
    (hi1 : ∀ (s : Shared) (H : Hp) (C : Addr) (cl : List (Str × Addr)) (fp : List Addr), PI (X.blk s H scope (compEnvC scope cl C X.env) fp) tg1 iter1 wi1)
    (hg1 : ∀ (s : Shared) (H : Hp) (C : Addr) (cl : List (Str × Addr)) (fp : List Addr), PG (X.blk s H scope (compEnvC scope cl C X.env) fp) tg1 g1) (ht1 : ∀ (s : Shared) (H : Hp) (C : Addr) (cl : List (Str × Addr)) (fp : List Addr), PTs (X.blk s H scope (compEnvC scope cl C X.env) fp) ifs1 tt1)
    (he : ∀ (s : Shared) (H : Hp) (C : Addr) (cl : List (Str × Addr)) (fp : List Addr), PE (X.blk s H scope (compEnvC scope cl C X.env) fp) elt te) (hs : ∀ x, foldedSetIterable iter X.env x = pure x) (hs1 : ∀ env x, foldedSetIterable iter1 env x = pure x) :
    IsLc X (.ListComp elt [⟨tg, iter, ifs, 0⟩, ⟨tg1, iter1, ifs1, 0⟩] scope pos) (tLc2 wi g tt wi1 g1 tt1 te (own.map (·.2)) vs1)
theorem IsLc.pe {e : Expr} {t : TE} (h : IsLc X e t) (hc : X.calm = true) (hN : X.N.Nodup) : PE X e t := by
  cases h with
  | mk hi ok hg ht he hs => exact pe_lc hc hN hi ok hg ht he hs
  | mk2 hi ok hv hg ht hi1 hg1 ht1 he hs hs1 => exact pe_lc2 hc hN hi ok hv hg ht hi1 hg1 ht1 he hs hs1
theorem IsLc.ps {e : Expr} {t : TE} (h : IsLc X e t) (hc : X.calm = true) (hN : X.N.Nodup) {i : Nat} {y : Str} {py spos : Pos} (hy : X.N[i]? = some y) (hyl : X.env.scope.names.lookup y = some .local) (hsw : swapsWith e (some (.Name y py)) spos.line X.env = pure true) :
    PS X (.Assign [.Name y py] e spos) (tAsg t (gName i)) := by
  cases h with
  | mk hi ok hg ht he hs => exact ps_setLc hc hN hy hyl hsw hi ok hg ht he hs
  | mk2 hi ok hv hg ht hi1 hg1 ht1 he hs hs1 => exact ps_setLc2 hc hN hy hyl hsw hi ok hv hg ht hi1 hg1 ht1 he hs hs1
theorem comp_lc (cx : Ctx V1 E sd X) {own : List (Str × Nat)} {k : IK} {args c elt : CE} {p : CP} (ga : Good V1 E sd X args) (gc : ∀ {E sd X}, Ctx V1 E sd X → Good V1 E sd X c) (ge : ∀ {E sd X}, Ctx V1 E sd X → Good V1 E sd X elt)
    {e : Expr} (h : chkE V1.GT (.comp own k args p c elt) sd e = true) : ∃ t, IsLc X e t ∧ ∀ σ H Q, tE X.K E (ev V1.run (.comp own k args p c elt)) σ H Q → t σ H Q := by
  obtain ⟨el, tg, iter, ifs, scope, pos, rfl, h1, htg, h3, h4, h5, h6, h7⟩ := chk_comp h
  refine ⟨_, .mk (te := tE X.K  E0 (ev V1.run elt)) (tt := tT X.K  E0 (ev V1.run c)) (g := tP X.K p) (pi_ok cx ga h7) (by rw [cx.N, cx.sc]; exact blkOk_by h1)
    (fun s H C cl fp => (pat_ok (cx.blk s H scope C cl fp) p).1 tg h4) (fun s H C cl fp => pts_ok (gc (cx.blk s H scope C cl fp)) h5) (fun s H C cl fp => (ge (cx.blk s H scope C cl fp)).pe el h6) (fold_set h3), ?_⟩
  rintro σ H Q ⟨L, C, s, R, S, q⟩
  have q : Post X.K H L ((ev V1.run args s C).on fun l h1 => match src0 k l h1 with
    | some q => compL (ev V1.run c) (ev V1.run elt) p (wipeW s (own.map (·.2))) fuel q h1 []
    | none => .bad) Q (E σ) := q
  refine ⟨L, C, s, R, S, ?_⟩
  generalize ev V1.run args s C = r at q
  cases r with
  | ok w C1 =>
    cases w with
    | tup l =>
      have q : Post X.K H L (match src0 k l C1 with
        | some q => compL (ev V1.run c) (ev V1.run elt) p (wipeW s (own.map (·.2))) fuel q C1 []
        | none => .bad) Q (E σ) := q
      cases hs : src0 k l C1 with
      | none => rw [hs] at q; exact q.elim
      | some q0 =>
        rw [hs] at q
        refine ⟨q0, hs, fun H1 L1 J e1 R1 wk D hD => ?_⟩
        exact lc_ok (m0 := fuel) (Nat.le_refl _) htg wk R1 ((S.ext e1).wipe _) (Post.ext e1 q) D hD
    | _ => exact q
  | exc c ws C1 => exact q
  | bad => exact q
theorem comp2_lc (cx : Ctx V1 E sd X) {own : List (Str × Nat)} {vs1 : List Nat} {k k1 : IK} {args c args1 c1 elt : CE} {p p1 : CP} (ga : Good V1 E sd X args) (gc : ∀ {E sd X}, Ctx V1 E sd X → Good V1 E sd X c) (ga1 : ∀ {E sd X}, Ctx V1 E sd X → Good V1 E sd X args1) (gc1 : ∀ {E sd X}, Ctx V1 E sd X → Good V1 E sd X c1) (ge : ∀ {E sd X}, Ctx V1 E sd X → Good V1 E sd X elt)
    {e : Expr} (h : chkE V1.GT (.comp2 own vs1 k args p c k1 args1 p1 c1 elt) sd e = true) : ∃ t, IsLc X e t ∧ ∀ σ H Q, tE X.K E (ev V1.run (.comp2 own vs1 k args p c k1 args1 p1 c1 elt)) σ H Q → t σ H Q := by
  obtain ⟨el, tg, iter, ifs, tg1, iter1, ifs1, scope, pos, rfl, h1, htg, hv, htg1, h3, h31, h4, h41, h5, h51, h6, h7, h71⟩ := chk_comp2 h
  refine ⟨_, .mk2 (vs1 := vs1) (te := tE X.K E0 (ev V1.run elt)) (tt := tT X.K E0 (ev V1.run c)) (g := tP X.K p) (tt1 := tT X.K E0 (ev V1.run c1)) (g1 := tP X.K p1) (wi1 := tI X.K E0 k1 (ev V1.run args1)) (pi_ok cx ga h7) (by rw [cx.N, cx.sc]; exact blkOk_by h1) hv
    (fun s H C cl fp => (pat_ok (cx.blk s H scope C cl fp) p).1 tg h4) (fun s H C cl fp => pts_ok (gc (cx.blk s H scope C cl fp)) h5)
    (fun s H C cl fp => pi_ok (cx.blk s H scope C cl fp) (ga1 (cx.blk s H scope C cl fp)) h71)
    (fun s H C cl fp => (pat_ok (cx.blk s H scope C cl fp) p1).1 tg1 h41) (fun s H C cl fp => pts_ok (gc1 (cx.blk s H scope C cl fp)) h51)
    (fun s H C cl fp => (ge (cx.blk s H scope C cl fp)).pe el h6) (fold_set h3) (fun env => fold_set h31), ?_⟩
  rintro σ H Q ⟨L, C, s, R, S, q⟩
  have q : Post X.K H L ((ev V1.run args s C).on fun l h1 => match src0 k l h1 with
    | some q => compO (ev V1.run c) (ev V1.run args1) k1 vs1 (ev V1.run c1) (ev V1.run elt) p1 p (wipeW s (own.map (·.2))) fuel2 q h1 []
    | none => .bad) Q (E σ) := q
  refine ⟨L, C, s, R, S, ?_⟩
  generalize ev V1.run args s C = r at q
  cases r with
  | ok w C1 =>
    cases w with
    | tup l =>
      have q : Post X.K H L (match src0 k l C1 with
        | some q => compO (ev V1.run c) (ev V1.run args1) k1 vs1 (ev V1.run c1) (ev V1.run elt) p1 p (wipeW s (own.map (·.2))) fuel2 q C1 []
        | none => .bad) Q (E σ) := q
      cases hs : src0 k l C1 with
      | none => rw [hs] at q; exact q.elim
      | some q0 =>
        rw [hs] at q
        refine ⟨q0, hs, fun H1 L1 J e1 R1 wk D hD => ?_⟩
        exact lc2_ok (m0 := fuel2) (Nat.le_refl _) htg htg1 wk R1 ((S.ext e1).wipe _) (Post.ext e1 q) D hD
    | _ => exact q
  | exc c ws C1 => exact q
  | bad => exact q
theorem Good.comp2 (cx : Ctx V1 E sd X) (own : List (Str × Nat)) (vs1 : List Nat) (k k1 : IK) {args c args1 c1 elt : CE} (p p1 : CP) (ga : Good V1 E sd X args) (gc : ∀ {E sd X}, Ctx V1 E sd X → Good V1 E sd X c) (ga1 : ∀ {E sd X}, Ctx V1 E sd X → Good V1 E sd X args1) (gc1 : ∀ {E sd X}, Ctx V1 E sd X → Good V1 E sd X c1) (ge : ∀ {E sd X}, Ctx V1 E sd X → Good V1 E sd X elt) :
    Good V1 E sd X (.comp2 own vs1 k args p c k1 args1 p1 c1 elt) := by
  refine .of (fun e h => ?_) fun es => rfl
  obtain ⟨t, il, ht⟩ := comp2_lc cx ga gc ga1 gc1 ge h
  refine ⟨?_, PE.imp (il.pe cx.calm (by rw [cx.N]; exact cx.nd)) ht⟩
  cases il <;> rfl
theorem Good.comp (cx : Ctx V1 E sd X) (own : List (Str × Nat)) (k : IK) {args c elt : CE} (p : CP) (ga : Good V1 E sd X args) (gc : ∀ {E sd X}, Ctx V1 E sd X → Good V1 E sd X c) (ge : ∀ {E sd X}, Ctx V1 E sd X → Good V1 E sd X elt) :
    Good V1 E sd X (.comp own k args p c elt) := by
  refine .of (fun e h => ?_) fun es => rfl
  obtain ⟨t, il, ht⟩ := comp_lc cx ga gc ge h
  refine ⟨?_, PE.imp (il.pe cx.calm (by rw [cx.N]; exact cx.nd)) ht⟩
  cases il <;> rfl
end
end RF
end
end
section
set_option Elab.async false
set_option linter.all false
set_option maxRecDepth 100000
set_option maxHeartbeats 4000000
/-! RF15: the keys of a dict, walked; all expressions. -/
noncomputable section
namespace RF
open PySem PySem.Spec PyProof.Rows L2
section
variable {K : Fg} {L : List Addr} {C : CH} {H : Hp}
theorem key_rw : ∀ (k : Key), RW K H L (kW k) (kV k)
  | .inl i => .int i
  | .inr x => .str x
theorem keys_rw : ∀ (k : List Key), RWs K H L (k.map kW) (k.map kV)
  | [] => .nil
  | x :: r => .cons (key_rw x) (keys_rw r)
theorem map_at {α β γ : Type} {f : α → γ} {g : β → γ} {us : List α} {kvs : List β} (h : us.map f = kvs.map g) {i : Nat} {u : α} (hu : us[i]? = some u) : ∃ kv, kvs[i]? = some kv ∧ f u = g kv := by
  have := congrArg (fun l => l[i]?) h
  simp only [List.getElem?_map, hu, Option.map_some] at this
  cases e : kvs[i]? with
  | none => rw [e] at this; cases this
  | some kv => rw [e] at this; simp only [Option.map_some, Option.some.injEq] at this; exact ⟨kv, rfl, this⟩
theorem map_at' {α β γ : Type} {f : α → γ} {g : β → γ} {us : List α} {kvs : List β} (h : us.map f = kvs.map g) {i : Nat} {kv : β} (hu : kvs[i]? = some kv) : ∃ u, us[i]? = some u ∧ f u = g kv := by
  obtain ⟨u, h1, h2⟩ := map_at h.symm hu
  exact ⟨u, h1, h2.symm⟩
theorem walk_kT {d : Addr} {o : Obj} {us : List (List Key × V)} {kvs : List (List Key × W)} (h : H d = some (.frz o (.dT us))) (e : us.map (·.1) = kvs.map (·.1)) : Walks K (Itkt d o us) (.st (kvs.map fun kv => W.tup (kv.1.map kW))) H L := by
  refine ⟨fun i q H L => H d = some (.frz o (.dT us)) ∧ q = .st ((kvs.map fun kv => W.tup (kv.1.map kW)).drop i), ⟨?_, ?_⟩, h, rfl⟩
  · rintro i q H L H' L' ⟨h, e⟩ ex ff
    exact ⟨ff _ _ _ h, e⟩
  · rintro i q H L C ⟨h, eq⟩ R
    subst eq
    have hl : us.length = kvs.length := by have := congrArg List.length e; simpa using this
    cases hd : (kvs.map fun kv => W.tup (kv.1.map kW)).drop i with
    | nil => exact ⟨h, by rw [hl]; simpa using drop_end hd⟩
    | cons x rest =>
      obtain ⟨h1, h2⟩ := drop_at hd
      rw [List.getElem?_map] at h1
      cases hk : kvs[i]? with
      | none => rw [hk] at h1; cases h1
      | some kv =>
        rw [hk] at h1
        simp only [Option.map_some, Option.some.injEq] at h1
        obtain ⟨u, hu, eu⟩ := map_at' e hk
        have hlt : i < us.length := by
          rcases Nat.lt_or_ge i us.length with z | z
          · exact z
          · rw [List.getElem?_eq_none z] at hu; cases hu
        refine ⟨⟨h, hlt⟩, fun v H' hy => ?_⟩
        obtain ⟨rfl, k, v', q, hk2, rfl, hq⟩ := hy
        rw [hu] at hk2
        cases hk2
        refine ⟨.refl, R, ?_, h, by rw [h2]⟩
        rw [← h1]
        have : k = kv.1 := eu
        rw [← this]
        exact .tup hq (keys_rw k)
theorem walk_kK {d : Addr} {o : Obj} {us : List (Key × V)} {kvs : List (Key × W)} (h : H d = some (.frz o (.dK us))) (e : us.map (·.1) = kvs.map (·.1)) : Walks K (Itk d o us) (.st (kvs.map fun kv => kW kv.1)) H L := by
  refine ⟨fun i q H L => H d = some (.frz o (.dK us)) ∧ q = .st ((kvs.map fun kv => kW kv.1).drop i), ⟨?_, ?_⟩, h, rfl⟩
  · rintro i q H L H' L' ⟨h, e⟩ ex ff
    exact ⟨ff _ _ _ h, e⟩
  · rintro i q H L C ⟨h, eq⟩ R
    subst eq
    have hl : us.length = kvs.length := by have := congrArg List.length e; simpa using this
    cases hd : (kvs.map fun kv => kW kv.1).drop i with
    | nil => exact ⟨h, by rw [hl]; simpa using drop_end hd⟩
    | cons x rest =>
      obtain ⟨h1, h2⟩ := drop_at hd
      rw [List.getElem?_map] at h1
      cases hk : kvs[i]? with
      | none => rw [hk] at h1; cases h1
      | some kv =>
        rw [hk] at h1
        simp only [Option.map_some, Option.some.injEq] at h1
        obtain ⟨u, hu, eu⟩ := map_at' e hk
        have hlt : i < us.length := by
          rcases Nat.lt_or_ge i us.length with z | z
          · exact z
          · rw [List.getElem?_eq_none z] at hu; cases hu
        refine ⟨⟨h, hlt⟩, fun v H' hy => ?_⟩
        obtain ⟨rfl, k, v', hk2, rfl⟩ := hy
        rw [hu] at hk2
        cases hk2
        refine ⟨.refl, R, ?_, h, by rw [h2]⟩
        rw [← h1]
        have : k = kv.1 := eu
        rw [← this]
        exact key_rw k
/-- no list, locked -/
def nolst : HO → Prop
  | .lst _ => False
  | _ => True
theorem Ext0.unlock {d : Addr} {od : Obj} {u : HO} (h : H d = some (.frz od u)) (m : nolst u) : Ext0 H L (L2.upd H d u) L := by
  refine ⟨fun _ _ h => h, fun a xs e => ?_, fun a q xs e => ?_⟩
  · rw [upd_ne (fun z => by rw [z, h] at e; cases e)]; exact e
  · rw [upd_ne (fun z => by rw [z, h] at e; cases e; exact m)]; exact e
theorem Rep.unlock (R : Rep K L C H) {r : Nat} {d : Addr} {od : Obj} {u : HO} {o' : CO} (hr : L[r]? = some d) (h : H d = some (.frz od u)) (m : nolst u) (hu : RO K (upd H d u) L d o') : Rep K L (C.set r o') (upd H d u) := by
  obtain ⟨o0, h0⟩ := R.full hr
  have hq := CH.get_lt h0
  refine ⟨R.len, by show (C.os.set _ _).length = C.n; rw [List.length_set, R.lenO], R.inj, ?_⟩
  intro x b o1 hx h1
  rw [get_set R.lenO hq] at h1
  by_cases e1 : x = r
  · rw [if_pos e1] at h1
    cases h1
    subst e1
    have : b = d := Option.some.inj (hx.symm.trans hr)
    rw [this]
    exact hu
  · rw [if_neg e1] at h1
    have e : b ≠ d := fun e => e1 (R.inj x r d (by rw [← e]; exact hx) hr)
    exact (R.obj x b o1 hx h1).keep0 (Ext0.unlock h m) fun z hz => by rw [upd_ne e]; exact hz
theorem Ext.unlock {H' : Hp} {L' : List Addr} {d : Addr} {od : Obj} {u : HO} (hL : d ∈ L) (h : H d = some u) (m : soft u) (e : Ext (upd H d (.frz od u)) L H' L') : Ext H L (upd H' d u) L' := by
  refine ⟨e.le, fun a ha => ?_, fun a xs q => ?_, fun a o z q => ?_, fun a o ha q => ?_⟩
  · rcases e.new a ha with q | q
    · exact .inl q
    · refine .inr ?_
      by_cases ea : a = d
      · rw [ea, upd_same] at q; cases q
      · rwa [upd_ne ea] at q
  · have ea : a ≠ d := fun z => by rw [z, h] at q; cases q; exact m
    rw [upd_ne ea]; exact e.tup a xs (by rw [upd_ne ea]; exact q)
  · have ea : a ≠ d := fun y => by rw [y, h] at q; cases q; exact m
    rw [upd_ne ea]; exact e.frz a o z (by rw [upd_ne ea]; exact q)
  · have ea : a ≠ d := fun y => ha (by rw [y]; exact hL)
    rw [upd_ne ea]; exact e.out a o ha (by rw [upd_ne ea]; exact q)
end
section
variable {V1 : Env1} {E : L2.St → EX} {sd : SD} {X : Cx}
theorem chk_compK {GT : Str → Option GK} {own : List (Str × Nat)} {i : Nat} {c elt : CE} {p : CP} {e : Expr} (h : chkE GT (.compK own i p c elt) sd e = true) : ∃ el tg x xp ifs scope pos, e = .ListComp el [⟨tg, .Name x xp, ifs, 0⟩] scope pos ∧
    blkC sd.N sd.sc scope own = true ∧ (∀ i ∈ tgtIx p, i ∈ own.map (·.2)) ∧ chkP (blkSD sd scope) p tg = true ∧ (sd.N[i]? = some x ∧ visB sd.sc x = true ∧ okName x = true) ∧ ((ifs = [] ∧ c = .lit (.bl true)) ∨ ∃ t, ifs = [t] ∧ isIfE t = false ∧ chkE GT c (blkSD sd scope) t = true) ∧
    chkE GT elt (blkSD sd scope) el = true := by
  cases e with
  | ListComp el gs scope pos =>
    rcases gs with _ | ⟨⟨tg, iter, ifs, asy⟩, _ | ⟨g2, gs⟩⟩
    · exact (Bool.false_ne_true h).elim
    · cases iter with
      | Name x xp =>
        by_cases ha : asy = 0
        · subst ha
          simp only [chkE, Bool.and_eq_true, decide_eq_true_eq] at h
          obtain ⟨h1, h2, h3, h4, h5, h6, h7, h8⟩ := h
          refine ⟨el, tg, x, xp, ifs, scope, pos, rfl, h1, fun i hi => ?_, h3, ⟨h4, h5, h6⟩, chk_ifs h7, h8⟩
          have := List.all_eq_true.mp h2 i hi
          simpa using this
        · simp [chkE, ha] at h
      | _ => simp [chkE] at h
    · simp [chkE] at h
  | _ => exact (Bool.false_ne_true h).elim
theorem relock {E : EX} {K : Fg} {H : Hp} {L : List Addr} {C : CH} {r : Nat} {d : Addr} {od : Obj} {u : HO} {uo : CO} {r0 : R W} {Q : VK} (hr : L[r]? = some d) (hd : H d = some u) (ms : soft u) (mn : nolst u)
    (hro2 : ∀ H' L', Ext H L H' L' → H' d = some u → RO K H' L' d uo) (q : Post K H L (match r0 with
    | .ok w h1 => .ok w (h1.set r uo)
    | _ => .bad) Q E) : Post K (upd H d (.frz od u)) L r0 (fun v H' => H' d = some (.frz od u) ∧ Q v (upd H' d u)) E := by
  cases r0 with
  | ok w C' =>
    intro H' L' v e R rv
    have h1 := e.frz d od u upd_same
    have hL : d ∈ L := List.mem_of_getElem? hr
    have e2 : Ext H L (upd H' d u) L' := Ext.unlock hL hd ms e
    exact ⟨h1, q _ L' v e2 (R.unlock (e.le _ _ hr) h1 mn (hro2 _ _ e2 upd_same)) (rv.ext0 (Ext0.unlock h1 mn))⟩
  | exc c ws C' => exact q.elim
  | bad => exact q.elim
theorem compK_lc (cx : Ctx V1 E sd X) {own : List (Str × Nat)} {i : Nat} {c elt : CE} {p : CP} (gc : ∀ {E sd X}, Ctx V1 E sd X → Good V1 E sd X c) (ge : ∀ {E sd X}, Ctx V1 E sd X → Good V1 E sd X elt)
    {e : Expr} (h : chkE V1.GT (.compK own i p c elt) sd e = true) : ∃ t, IsLc X e t ∧ ∀ σ H Q, tE X.K E (ev V1.run (.compK own i p c elt)) σ H Q → tLockE t σ H Q := by
  obtain ⟨el, tg, x, xp, ifs, scope, pos, rfl, h1, htg, h4, ⟨v1, v2, v3⟩, h5, h6⟩ := chk_compK h
  refine ⟨_, .mk (te := tE X.K E0 (ev V1.run elt)) (tt := tT X.K E0 (ev V1.run c)) (g := tP X.K p)
    (pi_keys (pe_var (i := i) (by rw [cx.N]; exact v1) (by rw [cx.sc]; exact vis_of v2) (ok_name v3).1 (ok_name v3).2)) (by rw [cx.N, cx.sc]; exact blkOk_by h1)
    (fun s H C cl fp => (pat_ok (cx.blk s H scope C cl fp) p).1 tg h4) (fun s H C cl fp => pts_ok (gc (cx.blk s H scope C cl fp)) h5) (fun s H C cl fp => (ge (cx.blk s H scope C cl fp)).pe el h6) (fun _ => rfl), ?_⟩
  rintro σ H Q ⟨L, C, s, R, S, q⟩
  have q : Post X.K H L (match s[i]? with
    | some (some w) => (match lockW C w with
      | some (r, ks, u, l) => (match compL (ev V1.run c) (ev V1.run elt) p (wipeW s (own.map (·.2))) fuel (.st ks) (C.set r l) [] with
        | .ok w h1 => .ok w (h1.set r u)
        | _ => .bad)
      | none => .bad)
    | _ => .bad) Q (E σ) := q
  split at q
  · rename_i w es
    obtain ⟨v, sv, rv⟩ := S.at_ i w es
    split at q
    · rename_i r ks u l hl
      cases w with
      | ref r' =>
        obtain ⟨d, rfl, hr⟩ := rv.ref_inv
        simp only [lockW] at hl
        split at hl
        · rename_i kvs g
          simp only [Option.some.injEq, Prod.mk.injEq] at hl
          obtain ⟨rfl, rfl, rfl, rfl⟩ := hl
          obtain ⟨us, hd, rk⟩ := R.obj _ _ _ hr g
          refine ⟨d, .dT us, hd, True.intro, fun od => ⟨_, sv, d, od, rfl, .inr ⟨us, upd_same, fun D hD => ?_⟩⟩⟩
          have eS : Ext H L (upd H d (.frz od (.dT us))) L := Ext.store R hr g rfl
          have RS : Rep X.K L (C.set r' (.lT kvs)) (upd H d (.frz od (.dT us))) := R.store hr g rfl ⟨us, od, upd_same, rk.ext eS⟩
          have q2 := relock (od := od) (C := C) (uo := .dT kvs) (u := .dT us) hr hd True.intro True.intro (fun H' L' e h => ⟨us, h, rk.ext e⟩) q
          exact lc_ok (m0 := fuel) (Nat.le_refl _) htg (walk_kT upd_same rk.1) RS ((S.ext eS).wipe _) q2 D hD
        · rename_i kvs g
          simp only [Option.some.injEq, Prod.mk.injEq] at hl
          obtain ⟨rfl, rfl, rfl, rfl⟩ := hl
          obtain ⟨us, hd, rk⟩ := R.obj _ _ _ hr g
          refine ⟨d, .dK us, hd, True.intro, fun od => ⟨_, sv, d, od, rfl, .inl ⟨us, upd_same, fun D hD => ?_⟩⟩⟩
          have eS : Ext H L (upd H d (.frz od (.dK us))) L := Ext.store R hr g rfl
          have RS : Rep X.K L (C.set r' (.lK kvs)) (upd H d (.frz od (.dK us))) := R.store hr g rfl ⟨us, od, upd_same, rk.ext eS⟩
          have q2 := relock (od := od) (C := C) (uo := .dK kvs) (u := .dK us) hr hd True.intro True.intro (fun H' L' e h => ⟨us, h, rk.ext e⟩) q
          exact lc_ok (m0 := fuel) (Nat.le_refl _) htg (walk_kK upd_same rk.1) RS ((S.ext eS).wipe _) q2 D hD
        · cases hl
      | _ => simp [lockW] at hl
    · exact q.elim
  · exact q.elim
theorem Good.compK (cx : Ctx V1 E sd X) (own : List (Str × Nat)) (i : Nat) {c elt : CE} (p : CP) (gc : ∀ {E sd X}, Ctx V1 E sd X → Good V1 E sd X c) (ge : ∀ {E sd X}, Ctx V1 E sd X → Good V1 E sd X elt) :
    Good V1 E sd X (.compK own i p c elt) := by
  refine .of (fun e h => ?_) fun es => rfl
  obtain ⟨t, il, ht⟩ := compK_lc cx gc ge h
  refine ⟨?_, PE.imp (pe_lock (il.pe cx.calm (by rw [cx.N]; exact cx.nd))) ht⟩
  cases il <;> rfl
/-- what is left to a rule of its own -/
def LenSet (V1 : Env1) : Prop := ∀ {E sd X}, Ctx V1 E sd X → ∀ {a}, Good V1 E sd X a → Good V1 E sd X (.lenset a)
theorem good (hS : LenSet V1) : ∀ (c : CE) {E : L2.St → EX} {sd : SD} {X : Cx}, Ctx V1 E sd X → Good V1 E sd X c
  | .nil, _, _, _, cx => .nil cx
  | .cons a b, _, _, _, cx => .cons (good hS a cx) (good hS b cx)
  | .var i, _, _, _, cx => .var cx i
  | .lit w, _, _, _, cx => .lit cx w
  | .gint x i, _, _, _, cx => .gint cx x i
  | .gty n, _, _, _, cx => .gty cx n
  | .bin op a b, _, _, _, cx => .bin op (good hS a cx) (good hS b cx)
  | .neg a, _, _, _, cx => .neg (good hS a cx)
  | .not a, _, _, _, cx => .not (good hS a cx)
  | .and a b, _, _, _, cx => .and (good hS a cx) (good hS b cx)
  | .or a b, _, _, _, cx => .or (good hS a cx) (good hS b cx)
  | .cmp op a b, _, _, _, cx => .cmp cx op (good hS a cx) (good hS b cx)
  | .cmp2 op op' a b c, _, _, _, cx => .cmp2 cx op op' (good hS a cx) (good hS b cx) (good hS c cx)
  | .ite c a b, _, _, _, cx => .ite (good hS c cx) (good hS a cx) (good hS b cx)
  | .tup es, _, _, _, cx => .tup (good hS es cx)
  | .lst es, _, _, _, cx => .lst (good hS es cx)
  | .call f es, _, _, _, cx => .call cx f (good hS es cx)
  | .bi b es, _, _, _, cx => .bi cx b (good hS es cx)
  | .lenset a, _, _, _, cx => hS cx (good hS a cx)
  | .meth m o es, _, _, _, cx => .meth cx m (good hS o cx) (good hS es cx)
  | .ix a b, _, _, _, cx => .ix cx (good hS a cx) (good hS b cx)
  | .slc a lo hi, _, _, _, cx => .slc (good hS a cx) (good hS lo cx) (good hS hi cx)
  | .nopart, _, _, _, cx => .nopart
  | .comp own k args p c elt, _, _, _, cx => .comp cx own k p (good hS args cx) (fun cx => good hS c cx) (fun cx => good hS elt cx)
  | .comp2 own vs1 k args p c k1 args1 p1 c1 elt, _, _, _, cx => .comp2 cx own vs1 k k1 p p1 (good hS args cx) (fun cx => good hS c cx) (fun cx => good hS args1 cx) (fun cx => good hS c1 cx) (fun cx => good hS elt cx)
  | .compK own i p c elt, _, _, _, cx => .compK cx own i p (fun cx => good hS c cx) (fun cx => good hS elt cx)
  | .dnew t, _, _, _, cx => .dnew t
  | .gfn x, _, _, _, cx => .gfn cx x
  | .callv fns g es, _, _, _, cx => .callv cx fns (good hS g cx) (good hS es cx)
  | .callk f pm es, _, _, _, cx => .callk cx f pm (good hS es cx)
  | .rev a, _, _, _, cx => .rev (good hS a cx)
  | .disp es, _, _, _, cx => .disp (good hS es cx)
end
end RF
end
end
section
set_option Elab.async false
set_option linter.all false
set_option maxRecDepth 100000
set_option maxHeartbeats 4000000
/-! RF16: the check of statements, their readings; assignments. -/
noncomputable section
namespace RF
open PySem PySem.Spec PyProof.Rows L2
/-! ### the check -/
def isTry : Unit := ()
/-- a comprehension at a name: stored at once, or as any value -/
def setC (sd : SD) (x : Str) (p : Pos) : Expr → Bool
  | .ListComp _ _ scope cpos => (match sd.sc.names.lookup x with
    | some .local => (p.line == cpos.line) && !(scope.names.any fun (n, k) => n == x && (k == .local || k == .cell))
    | some .cell => true
    | _ => false)
  | .SetComp _ _ _ _ => false
  | .DictComp _ _ _ _ _ => false
  | _ => true
def noComp : Expr → Bool
  | .ListComp _ _ _ _ => false
  | .SetComp _ _ _ _ => false
  | .DictComp _ _ _ _ _ => false
  | _ => true
def locS (sd : SD) (x : Str) : Bool := match sd.sc.names.lookup x with
  | some .local => true
  | _ => false
/-- names on the left that are no plain locals, or constants on the right: no stores from the right -/
def cellE (sd : SD) : Expr → Bool
  | .Name x _ => (match sd.sc.names.lookup x with
    | some .cell => true
    | _ => false)
  | _ => false
def swN (sd : SD) (ts : List Expr) : Expr → Bool
  | .Tuple vs _ _ => vs.all (foldedForSure 8) || ts.any (cellE sd)
  | _ => true
/-- two, three names at once -/
def parC (vs : List Expr) : Bool := vs.all (fun e => !starB e) && (!vs.all (foldedForSure 8) && !vs.all (constantsAlone 8))
/-- x is the exception class c, made with so many arguments -/
def clsB (GT : Str → Option GK) (x : Str) (c n : Nat) : Bool := match GT x with
  | some (.cls d f _) => d == c && n == (match f with
    | some _ => 1
    | none => 0)
  | _ => false
/-- of which built-in classes an exception is -/
def isaB (base n : String) : Bool := n == base
def isaNames : List String := ["ValueError", "LookupError"]
/-- an item of what a clause tells: n the clause's name, f the class's field, base its base -/
def chkHI (GT : Str → Option GK) (sd : SD) (n : Option (Nat × Str)) (f : Option Str) (base : String) : HI → Expr → Bool
  | .lit w, e => (match e with
    | .Constant c _ _ => litB w c
    | _ => false)
  | .fld g, e => (match n with
    | some (_, n) => (match e with
      | .Attribute (.Name y _) g' _ => decide (y = n) && (decide (g' = g) && (decide (f = some g) && (visB sd.sc n && okName n)))
      | _ => false)
    | none => false)
  | .isx c k, e => (match n with
    | some (_, n) => (match e with
      | .Call (.Name z _) [.Name y _, .Name b _] [] _ => decide (z = "isinstance") && (glB sd.sc z && (decide (y = n) && (visB sd.sc n && (okName n && (decide (b = Str.ofString c) && (glB sd.sc b && (isaNames.contains c && (k == isaB base c))))))))
      | _ => false)
    | none => false)
def chkHIs (GT : Str → Option GK) (sd : SD) (n : Option (Nat × Str)) (f : Option Str) (base : String) : List HI → List Expr → Bool
  | [], [] => true
  | h :: hs, e :: es => chkHI GT sd n f base h e && (!starB e && chkHIs GT sd n f base hs es)
  | _, _ => false
/-- what a suite tells -/
def chkHV (GT : Str → Option GK) (sd : SD) (n : Option (Nat × Str)) (f : Option Str) (base : String) (lst : Bool) (its : List HI) (e : Expr) : Bool := match lst with
  | true => (match e with
    | .List es _ => chkHIs GT sd n f base its es
    | _ => false)
  | false => (match its with
    | [h] => chkHI GT sd n f base h e
    | _ => false)
def chkHS (GT : Str → Option GK) (sd : SD) (n : Option (Nat × Str)) (f : Option Str) (base : String) (d : HD) (st : Stmt) : Bool := match d.to with
  | none => (match st with
    | .Return (some e) _ => chkHV GT sd n f base d.lst d.its e
    | _ => false)
  | some i => (match st with
    | .Assign [.Name x _] e _ => decide (sd.N[i]? = some x) && (locB sd x && (noComp e && chkHV GT sd n f base d.lst d.its e))
    | _ => false)
/-- a clause's name, its slot -/
def chkN (sd : SD) : Option Str → Option Nat → Option (Option (Nat × Str))
  | none, none => some none
  | some n, some j => if decide (sd.N[j]? = some n) && (match sd.sc.names.lookup n with
      | some .local => true
      | _ => false) then some (some (j, n)) else none
  | _, _ => none
def chkH1 (GT : Str → Option GK) (sd : SD) (d : HD) : ExceptHandler → Bool
  | .ExceptHandler (some (.Name x _)) n [st] _ => glB sd.sc x && (okName x && (match GT x with
    | some (.cls c f base) => c == d.c && (d.n == (match f with
      | some _ => 1
      | none => 0)) && (match chkN sd n d.nm with
      | some nn => chkHS GT sd nn f base d st
      | none => false)
    | _ => false))
  | _ => false
def chkH (GT : Str → Option GK) (sd : SD) : List HD → List ExceptHandler → Bool
  | [], [] => true
  | d :: ds, h :: hs => chkH1 GT sd d h && chkH GT sd ds hs
  | _, _ => false
/-- a try's body: no comprehension at a name -/
def chkT (GT : Str → Option GK) (sd : SD) (b : CS) (bd : List Stmt) : Bool := plainS b && (match bd with
  | [.Assign [.Name _ _] e _] => noComp e
  | _ => true)
mutual
def chkS (GT : Str → Option GK) : CS → SD → Stmt → Bool
  | .set i ce, sd, st => (match st with
    | .Assign [.Name x p] e _ => decide (sd.N[i]? = some x) && (locB sd x && (setC sd x p e && chkE GT ce sd e))
    | _ => false)
  | .pat p ce, sd, st => (match st with
    | .Assign [.Tuple ts k tp] e _ => chkP sd p (.Tuple ts k tp) && (swN sd ts e && chkE GT ce sd e)
    | _ => false)
  | .par is es, sd, st => (match st with
    | .Assign [.Tuple [.Name x px, .Name y py] _ _] (.Tuple [a, b] _ _) _ => (match is with
      | [i, j] => decide (sd.N[i]? = some x) && (decide (sd.N[j]? = some y) && (!(i == j) && (locS sd x && (locS sd y && ((px.line == py.line) && (!(x == y) && (parC [a, b] && chkA GT es sd [a, b])))))))
      | _ => false)
    | .Assign [.Tuple [.Name x px, .Name y py, .Name z pz] _ _] (.Tuple [a, b, c] _ _) _ => (match is with
      | [i, j, l] => decide (sd.N[i]? = some x) && (decide (sd.N[j]? = some y) && (decide (sd.N[l]? = some z) && (!(i == j) && (!(i == l) && (!(j == l) && (locS sd x && (locS sd y && (locS sd z && ((px.line == py.line) && ((px.line == pz.line) && (!(x == y) && (!(x == z) && (!(y == z) && (parC [a, b, c] && chkA GT es sd [a, b, c]))))))))))))))
      | _ => false)
    | _ => false)
  | .ixset o i v, sd, st => (match st with
    | .Assign [.Subscript eo ei _] e _ => !isSliceE ei && (noComp e && (chkE GT v sd e && (chkE GT o sd eo && chkE GT i sd ei)))
    | _ => false)
  | .ix2 o1 i1 o2 i2 v, sd, st => (match st with
    | .Assign [.Tuple [.Subscript e1 j1 _, .Subscript e2 j2 _] _ _] e _ => !isSliceE j1 && (!isSliceE j2 && (chkE GT v sd e && (chkE GT o1 sd e1 && (chkE GT i1 sd j1 && (chkE GT o2 sd e2 && chkE GT i2 sd j2)))))
    | _ => false)
  | .raise c es, sd, st => (match st with
    | .Raise (some (.Call (.Name x _) l [] _)) none _ => clsB GT x c l.length && (glB sd.sc x && (okName x && chkA GT es sd l))
    | _ => false)
  | .loopK i p body, sd, st => (match st with
    | .For tg (.Name x _) b [] _ => decide (sd.N[i]? = some x) && (visB sd.sc x && (okName x && (chkP sd p tg && chkB GT body sd b)))
    | _ => false)
  | .trys b hs, sd, st => (match st with
    | .Try bd hds [] [] _ => chkT GT sd b bd && (chkB GT b sd bd && (!hs.isEmpty && chkH GT sd hs hds))
    | _ => false)
  | .expr ce, sd, st => (match st with
    | .Expr e _ => noComp e && chkE GT ce sd e
    | _ => false)
  | .ret ce, sd, st => (match st with
    | .Return (some e) _ => chkE GT ce sd e
    | _ => false)
  | .retN, _, st => (match st with
    | .Return none _ => true
    | _ => false)
  | .ifs c a b, sd, st => (match st with
    | .If t x y _ => !isIfE t && (chkE GT c sd t && (chkB GT a sd x && chkB GT b sd y))
    | _ => false)
  | .loop k args p body, sd, st => (match st with
    | .For tg iter b [] _ => !isSetE iter && (chkI GT args sd tg iter k && (chkP sd p tg && chkB GT body sd b))
    | _ => false)
  | .wh c body, sd, st => (match st with
    | .While t b [] _ => !isIfE t && (chkE GT c sd t && chkB GT body sd b)
    | _ => false)
  | .pass, _, st => (match st with
    | .Pass _ => true
    | _ => false)
  | .brk, _, st => (match st with
    | .Break _ => true
    | _ => false)
  | .cont, _, st => (match st with
    | .Continue _ => true
    | _ => false)
  | _, _, _ => false
def chkB (GT : Str → Option GK) : CS → SD → List Stmt → Bool
  | .nil, _, ss => ss.isEmpty
  | .cons a b, sd, ss => (match ss with
    | s :: r => chkS GT a sd s && chkB GT b sd r
    | [] => false)
  | _, _, _ => false
end
/-! ### readings -/
def PostS (K : Fg) (H : Hp) (L : List Addr) (r : RS) (D : Ends) (E : EX) : Prop := match r with
  | .nx s C => ∀ H' L' σ', Ext H L H' L' → Rep K L' C H' → RSt K H' L' s σ' → D.nx σ' H'
  | .rt w C => ∀ H' L' v, Ext H L H' L' → Rep K L' C H' → RW K H' L' w v → D.rt v H'
  | .bk s C => ∀ H' L' σ', Ext H L H' L' → Rep K L' C H' → RSt K H' L' s σ' → D.bk σ' H'
  | .ct s C => ∀ H' L' σ', Ext H L H' L' → Rep K L' C H' → RSt K H' L' s σ' → D.ct σ' H'
  | .exc c ws C => ∀ H' L' vs, Ext H L H' L' → Rep K L' C H' → RWs K H' L' ws vs → E c vs H'
  | .bad => False
def tS (K : Fg) (E : EX) (f : St → CH → RS) : TS := fun D σ H => ∃ L C s, Rep K L C H ∧ RSt K H L s σ ∧ PostS K H L (f s C) D E
section
variable {K : Fg} {H : Hp} {L : List Addr} {E : EX} {D : Ends}
theorem PostS.ext {H' : Hp} {L' : List Addr} {r : RS} (e : Ext H L H' L') (p : PostS K H L r D E) : PostS K H' L' r D E := by
  cases r with
  | bad => exact p
  | _ => exact fun H2 L2 v e2 => p H2 L2 v (e.trans e2)
theorem PostS.st {r : R W} {k : W → CH → RS} (p : PostS K H L (r.st k) D E) :
    Post K H L r (fun v H1 => ∃ w C1 L1, Ext H L H1 L1 ∧ Rep K L1 C1 H1 ∧ RW K H1 L1 w v ∧ PostS K H1 L1 (k w C1) D E) E := by
  cases r with
  | ok w C' => exact fun H1 L1 v e R q => ⟨w, C', L1, e, R, q, PostS.ext e p⟩
  | exc c ws C' => exact p
  | bad => exact p
theorem PostS.stA {r : R W} {k : List W → CH → RS} (p : PostS K H L (r.st fun ws h => match ws with
    | .tup l => k l h
    | _ => .bad) D E) :
    PostA K H L r (fun vs H1 => ∃ ws C1 L1, Ext H L H1 L1 ∧ Rep K L1 C1 H1 ∧ RWs K H1 L1 ws vs ∧ PostS K H1 L1 (k ws C1) D E) E := by
  cases r with
  | ok w C' =>
    cases w with
    | tup l => exact fun H1 L1 vs e R q => ⟨l, C', L1, e, R, q, PostS.ext e p⟩
    | _ => exact p
  | exc c ws C' => exact p
  | bad => exact p
/-- by the truth of r -/
theorem PostS.tst {r : R W} {k : Bool → W → CH → RS} (p : PostS K H L (r.st fun x C => match truth C x with
    | some b => k b x C
    | none => .bad) D E) :
    Post K H L (r.bind trW) (fun v H1 => ∃ b, v = .bl b ∧ ∃ x C1 L1, Ext H L H1 L1 ∧ Rep K L1 C1 H1 ∧ PostS K H1 L1 (k b x C1) D E) E := by
  cases r with
  | ok w C' =>
    have p' : PostS K H L (match truth C' w with
      | some b => k b w C'
      | none => .bad) D E := p
    show Post K H L (trW w C') _ E
    unfold trW
    cases g : truth C' w with
    | none => rw [g] at p'; exact p'
    | some b =>
      rw [g] at p'
      refine fun H1 L1 v e R q => ?_
      cases q
      exact ⟨b, rfl, w, C', L1, e, R, PostS.ext e p'⟩
  | exc c ws C' => exact p
  | bad => exact p
end
section
variable {X : Cx}
theorem PS.imp {e : Stmt} {t t' : TS} (h : PS X e t) (i : ∀ D σ H, t' D σ H → t D σ H) : PS X e t' := ⟨fun pins s σ H D I q => h.run pins s σ H D I (i D σ H q)⟩
theorem PSs.imp {e : List Stmt} {t t' : TS} (h : PSs X e t) (i : ∀ D σ H, t' D σ H → t D σ H) : PSs X e t' := ⟨fun pins s σ H D I q => h.run pins s σ H D I (i D σ H q)⟩
end
/-- the promise of such an __init__ -/
def spInit (K : Fg) (C : Addr) (f : Str) : Sp := fun vs H Q _ => ∃ (a : Addr) (i : Int), vs = [.ref a, .int i] ∧ i.natAbs.log2 < 1920 ∧ H a = some (exo a C none) ∧ ∀ dx, H dx = none → dx ≠ a → Q .non (upd (upd H dx (exd dx [(f, .int i)])) a (exo a C (some dx)))
/-- the exception classes of the text -/
structure ClsA (V1 : Env1) (X : Cx) : Prop where
  at_ : ∀ x c f base, V1.GT x = some (.cls c f base) → V1.xs[c]? = some (x, f) ∧ X.mg x = some (.ref (He.ga X.K x)) ∧ PySem.W.keepIn X.K (.ref (He.ga X.K x)) = true ∧ RX.ClsX X.K (He.ga X.K x) ∧ PySem.W.typeIn X.K (.ref (He.ga X.K x)) = some (.type "type") ∧
    ∀ n ∈ isaNames, X.mg (Str.ofString n) = none ∧ PySem.W.kitOne X.K (.ref (He.ga X.K x)) (.type n) = some (isaB base n)
  ex : ∀ x c f base y d g bas2, V1.GT x = some (.cls c f base) → V1.GT y = some (.cls d g bas2) → PySem.W.exmOne X.K (.ref (He.ga X.K x)) (.ref (He.ga X.K y)) = some (c == d)
  pl : ∀ x c base, V1.GT x = some (.cls c none base) → ∃ B newId initId bmB, ExcBaseFacts B newId initId bmB ∧ PySem.W.excIn X.K (He.ga X.K x) bmB newId = true
  ini : ∀ x c f base, V1.GT x = some (.cls c (some f) base) → RX.InC X.K (He.ga X.K x) ∧ XfC X.K (He.ga X.K x) ∧ PySem.W.findIn X.K (.ref (He.ga X.K x)) f = some none ∧ ∃ fI fd ps k, PySem.W.findIn X.K (.ref (He.ga X.K x)) "__init__" = some (some (.ref fI)) ∧
    PySem.W.typeIn X.K (.ref fI) = some (.type "function") ∧ FnOk X.prog X.w X.K X.mg X.base V1.cx k fI fd ps (spInit X.K (He.ga X.K x) f) ∧ Room (k + 1) X.A ∧ Binds X.K fd ps []
  xs : ∀ c x f, V1.xs[c]? = some (x, f) → ∃ base, V1.GT x = some (.cls c f base)
/-- where statements stand -/
structure StC (V1 : Env1) (E : EX) (sd : SD) (X : Cx) : Prop where
  stk : X.stack = X.env :: X.outer
  frm : X.env.frame = some X.env.locals
  cxe : V1.cx = L2.CX X.prog X.w
  air : ∃ XE : XK, Takes X (fun cls d _ H => XE cls d H) ∧ ∀ c vs H, E c vs H → V1.toE X.K XE c vs H
  cls : ClsA V1 X
  cx : Ctx V1 (fun _ => E) sd X
  kind : X.env.scope.kind = .function
  own : PassesOwn (model X.prog X.w) X.A X.env X.xe
  raw : sd.raw = none
section
variable {V1 : Env1} {E : EX} {sd : SD} {X : Cx}
theorem StC.nd (c : StC V1 E sd X) : X.N.Nodup := by rw [c.cx.N]; exact c.cx.nd
theorem StC.at (c : StC V1 E sd X) {i : Nat} {x : Str} (h : sd.N[i]? = some x) : X.N[i]? = some x := by rw [c.cx.N]; exact h
theorem loc_of (c : StC V1 E sd X) {x : Str} (h : locS sd x = true) : X.env.scope.names.lookup x = some .local := by
  rw [c.cx.sc]
  unfold locS at h
  split at h
  · assumption
  · cases h
theorem no_swap {e : Expr} {t : Option Expr} {l : Nat} {env : Env} (h : noComp e = true) : swapsWith e t l env = pure false := by
  cases e <;> first | rfl | cases h
theorem no_swap1 {e : Expr} {t : Expr} {l : Nat} {env : Env} (h : noComp e = true) : swapsWithSole [t] e l env = pure false := no_swap h
theorem tup_swap {e : Expr} {ts : List Expr} {k : Nat} {tp : Pos} {l : Nat} {env : Env} : swapsWithSole [.Tuple ts k tp] e l env = pure false := by
  show swapsWith e (some (.Tuple ts k tp)) l env = pure false
  cases e <;> rfl
theorem cell_swap {elt : Expr} {gs : List Comprehension} {scope : Scope} {pos py : Pos} {y : Str} {l : Nat} {env : Env} (hk : env.scope.kind = .function) (hy : env.scope.names.lookup y = some .cell) : swapsWith (.ListComp elt gs scope pos) (some (.Name y py)) l env = pure false := by
  have ky : env.kindOf y = some .cell := hy
  have hb : env.blockKind = .function := by unfold Env.blockKind; rw [hk]; rfl
  unfold swapsWith
  simp only [hb, ky]
  rfl
theorem S.set (hS : LenSet V1) (c : StC V1 E sd X) {i : Nat} {ce : CE} {st : Stmt} (h : chkS V1.GT (.set i ce) sd st = true) : PS X st (tS X.K E (exs V1.run (.set i ce))) := by
  have rd : ∀ D σ H, tS X.K E (exs V1.run (.set i ce)) D σ H → tAsg (tE X.K (fun _ => E) (ev V1.run ce)) (gName i) D σ H := by
    rintro D σ H ⟨L, C, s, R, S, q⟩
    have q : PostS X.K H L ((ev V1.run ce s C).st fun w h1 => if Nat.blt i s.length then .nx (s.set i (some w)) h1 else .bad) D E := q
    refine ⟨L, C, s, R, S, q.st.mono (fun v H1 h => ?_) fun _ _ _ h => h⟩
    obtain ⟨w, C1, L1, e1, R1, r1, p1⟩ := h
    by_cases hb : Nat.blt i s.length = true
    · rw [if_pos hb] at p1
      exact p1 H1 L1 _ .refl R1 ((S.ext e1).set i r1)
    · rw [if_neg hb] at p1
      exact p1.elim
  cases st with
  | Assign ts e pos =>
    rcases ts with _ | ⟨t, _ | ⟨_, _⟩⟩
    · exact (Bool.false_ne_true h).elim
    · cases t with
      | Name x p =>
        simp only [chkS, Bool.and_eq_true, decide_eq_true_eq] at h
        obtain ⟨h1, h2, h3, h4⟩ := h
        obtain ⟨l1, l2⟩ := c.cx.sto x h2
        have plain : swapsWith e (some (.Name x p)) pos.line X.env = pure false → PS X (.Assign [.Name x p] e pos) (tS X.K E (exs V1.run (.set i ce))) := fun hs =>
          PS.imp (ps_set c.nd (c.at h1) l1 ((good hS ce c.cx).pe e h4) hs l2) rd
        by_cases hn : noComp e = true
        · exact plain (no_swap hn)
        · cases e with
          | ListComp el gs scope cpos =>
            have h3 : (match sd.sc.names.lookup x with
              | some .local => (p.line == cpos.line) && !(scope.names.any fun (n, k) => n == x && (k == .local || k == .cell))
              | some .cell => true
              | _ => false) = true := h3
            split at h3
            · rename_i hl
              have hl : X.env.scope.names.lookup x = some .local := by rw [c.cx.sc]; exact hl
              obtain ⟨h5, h6⟩ := Bool.and_eq_true_iff.mp h3
              have hsw : swapsWith (.ListComp el gs scope cpos) (some (.Name x p)) pos.line X.env = pure true := sw_true c.kind hl h5 ((Bool.not_eq_true' _).mp h6)
              cases ce with
              | comp own k args p' cc elt =>
                obtain ⟨t, il, ht⟩ := comp_lc c.cx (good hS args c.cx) (fun cx => good hS cc cx) (fun cx => good hS elt cx) h4
                exact PS.imp (il.ps c.cx.calm c.nd (c.at h1) hl hsw) fun D σ H q => ht σ H _ (rd D σ H q)
              | comp2 own vs1 k args p' cc k1 args1 p1 c1 elt =>
                obtain ⟨t, il, ht⟩ := comp2_lc c.cx (good hS args c.cx) (fun cx => good hS cc cx) (fun cx => good hS args1 cx) (fun cx => good hS c1 cx) (fun cx => good hS elt cx) h4
                exact PS.imp (il.ps c.cx.calm c.nd (c.at h1) hl hsw) fun D σ H q => ht σ H _ (rd D σ H q)
              | compK own k p' cc elt =>
                obtain ⟨t, il, ht⟩ := compK_lc c.cx (fun cx => good hS cc cx) (fun cx => good hS elt cx) h4
                exact PS.imp (ps_lock (il.ps c.cx.calm c.nd (c.at h1) hl hsw)) fun D σ H q => ht σ H _ (rd D σ H q)
              | _ => exact (Bool.false_ne_true h4).elim
            · rename_i hl
              exact plain (cell_swap c.kind (by rw [c.cx.sc]; exact hl))
            · cases h3
          | SetComp _ _ _ _ => cases h3
          | DictComp _ _ _ _ _ => cases h3
          | _ => exact absurd rfl hn
      | _ => exact (Bool.false_ne_true h).elim
    · cases t <;> exact (Bool.false_ne_true h).elim
  | _ => exact (Bool.false_ne_true h).elim
theorem fm_lt {α β : Type} {f : α → Option β} : ∀ {l : List α} {x : α}, x ∈ l → f x = none → (l.filterMap f).length < l.length
  | y :: l, x, h, e => by
    rw [List.filterMap_cons]
    rcases List.mem_cons.mp h with z | z
    · subst z
      rw [e]
      exact Nat.lt_succ_of_le (List.length_filterMap_le f l)
    · have := fm_lt z e
      cases f y with
      | none => exact Nat.lt_succ_of_lt this
      | some w => exact Nat.succ_lt_succ this
theorem sw_none (c : StC V1 E sd X) {ts : List Expr} {k : Nat} {tp : Pos} {e : Expr} (h : swN sd ts e = true) : swappedStores [.Tuple ts k tp] e X.env = pure none := by
  cases e with
  | Tuple vs k2 pt2 =>
    have h : (vs.all (foldedForSure 8) || ts.any (cellE sd)) = true := h
    unfold swappedStores
    simp only
    split
    · rfl
    · split
      · rfl
      · rcases Bool.or_eq_true_iff.mp h with h | h
        · split <;> first | rfl | exact if_pos h | exact absurd h (by assumption) | (split <;> first | rfl | exact if_pos h | exact absurd h (by assumption))
        · obtain ⟨t, ht, hc⟩ := List.any_eq_true.mp h
          refine if_pos ?_
          rw [Bool.or_eq_true]
          refine .inl ?_
          rw [bne_iff_ne]
          refine Nat.ne_of_lt (fm_lt ht ?_)
          cases t with
          | Name x xp =>
            have hc : (match sd.sc.names.lookup x with
              | some .cell => true
              | _ => false) = true := hc
            split at hc
            · rename_i hl
              have kx : X.env.kindOf x = some .cell := by
                show X.env.scope.names.lookup x = _
                rw [c.cx.sc]; exact hl
              simp [kx]
            · cases hc
          | _ => cases hc
  | _ => rfl
theorem S.pat (hS : LenSet V1) (c : StC V1 E sd X) {p : CP} {ce : CE} {st : Stmt} (h : chkS V1.GT (.pat p ce) sd st = true) : PS X st (tS X.K E (exs V1.run (.pat p ce))) := by
  cases st with
  | Assign ts e pos =>
    rcases ts with _ | ⟨t, _ | ⟨_, _⟩⟩
    · exact (Bool.false_ne_true h).elim
    · cases t with
      | Tuple ts k tp =>
        simp only [chkS, Bool.and_eq_true] at h
        obtain ⟨h1, h2, h3⟩ := h
        have hw : swappedStores [.Tuple ts k tp] e X.env = pure none := sw_none c h2
        refine PS.imp (ps_asg ((good hS ce c.cx).pe e h3) ((pat_ok c.cx p).1 _ h1) tup_swap hw rfl) ?_
        rintro D σ H ⟨L, C, s, R, S, q⟩
        have q : PostS X.K H L ((ev V1.run ce s C).st fun w h1 => match bindP h1 p w s with
          | some s1 => .nx s1 h1
          | none => .bad) D E := q
        refine ⟨L, C, s, R, S, q.st.mono (fun v H1 h => ?_) fun _ _ _ h => h⟩
        obtain ⟨w, C1, L1, e1, R1, r1, p1⟩ := h
        split at p1
        · rename_i s1 hb
          exact ⟨L1, C1, s, w, R1, S.ext e1, r1, s1, hb, fun σ' S' _ => p1 H1 L1 σ' .refl R1 S'⟩
        · exact p1.elim
      | _ => exact (Bool.false_ne_true h).elim
    · cases t <;> exact (Bool.false_ne_true h).elim
  | _ => exact (Bool.false_ne_true h).elim
end
end RF
end
end
section
set_option Elab.async false
set_option linter.all false
set_option maxRecDepth 100000
set_option maxHeartbeats 4000000
/-! RF17: statements, on. -/
noncomputable section
namespace RF
open PySem PySem.Spec PyProof.Rows L2
section
variable {V1 : Env1} {E : EX} {sd : SD} {X : Cx}
theorem parC_of {vs : List Expr} (h : parC vs = true) : vs.all (fun e => !starB e) = true ∧ vs.all (foldedForSure 8) = false ∧ vs.all (constantsAlone 8) = false := by
  unfold parC at h
  obtain ⟨h1, h2⟩ := Bool.and_eq_true_iff.mp h
  obtain ⟨h2, h3⟩ := Bool.and_eq_true_iff.mp h2
  exact ⟨h1, (Bool.not_eq_true' _).mp h2, (Bool.not_eq_true' _).mp h3⟩
theorem beq_sw {u v : Str} (h : (u == v) = false) : (v == u) = false := by
  cases e : v == u with
  | false => rfl
  | true => rw [beq_iff_eq] at e; subst e; simp at h
theorem S.par2 {x y : Str} {a b : Expr} {px py tp : Pos} {kt k2 pt2} (c : StC V1 E sd X) (hx : X.env.scope.names.lookup x = some .local) (hy : X.env.scope.names.lookup y = some .local) (hl : (px.line == py.line) = true) (hxy : (x == y) = false) (hp : parC [a, b] = true) :
    swappedStores [.Tuple [.Name x px, .Name y py] kt tp] (.Tuple [a, b] k2 pt2) X.env = pure (some [x, y]) := by
  have kx : X.env.kindOf x = some .local := hx
  have ky : X.env.kindOf y = some .local := hy
  have hb : X.env.blockKind = .function := by unfold Env.blockKind; rw [c.kind]; rfl
  obtain ⟨h1, h2, h3⟩ := parC_of hp
  have hl' : py.line = px.line := (beq_iff_eq.mp hl).symm
  have hne := beq_sw hxy
  have s1 := (all_cons h1).1
  have s2 := (all_cons (all_cons h1).2).1
  unfold swappedStores
  simp only [hb, List.length_cons, List.length_nil, h2, h3]
  refine (if_neg (by decide)).trans ?_
  refine (if_neg ?_).trans ?_
  · clear h1 h2 h3 hp
    intro hh
    obtain ⟨e, he, hs⟩ := List.any_eq_true.mp hh
    have hse : starB e = false := by
      rcases List.mem_cons.mp he with z | z
      · rw [z]; exact s1
      · rw [List.mem_singleton.mp z]; exact s2
    cases e <;> first | exact (Bool.false_ne_true hs).elim | exact (Bool.false_ne_true hse.symm).elim
  · have hn : ∀ f : Expr → Option Str, f (.Name x px) = some x → f (.Name y py) = some y → [Expr.Name x px, Expr.Name y py].filterMap f = [x, y] := fun f h1 h2 => by
      simp [List.filterMap_cons, h1, h2]
    rw [hn _ (by simp [kx, Expr.pos]) (by simp [ky, hl', Expr.pos])]
    refine (if_neg ?_).trans ?_
    · simp [List.eraseDups, List.eraseDupsBy, List.eraseDupsBy.loop, hxy, hne]
    · rfl
theorem S.par3 {x y z : Str} {a b d : Expr} {px py pz tp : Pos} {kt k2 pt2} (c : StC V1 E sd X) (hx : X.env.scope.names.lookup x = some .local) (hy : X.env.scope.names.lookup y = some .local) (hz : X.env.scope.names.lookup z = some .local) (hl : (px.line == py.line) = true) (hl2 : (px.line == pz.line) = true)
    (hxy : (x == y) = false) (hxz : (x == z) = false) (hyz : (y == z) = false) (hp : parC [a, b, d] = true) :
    swappedStores [.Tuple [.Name x px, .Name y py, .Name z pz] kt tp] (.Tuple [a, b, d] k2 pt2) X.env = pure (some [x, y, z]) := by
  have kx : X.env.kindOf x = some .local := hx
  have ky : X.env.kindOf y = some .local := hy
  have kz : X.env.kindOf z = some .local := hz
  have hb : X.env.blockKind = .function := by unfold Env.blockKind; rw [c.kind]; rfl
  obtain ⟨h1, h2, h3⟩ := parC_of hp
  have hl' : py.line = px.line := (beq_iff_eq.mp hl).symm
  have hl2' : pz.line = px.line := (beq_iff_eq.mp hl2).symm
  have s1 := (all_cons h1).1
  have s2 := (all_cons (all_cons h1).2).1
  have s3 := (all_cons (all_cons (all_cons h1).2).2).1
  unfold swappedStores
  simp only [hb, List.length_cons, List.length_nil, h2, h3]
  refine (if_neg (by decide)).trans ?_
  refine (if_neg ?_).trans ?_
  · clear h1 h2 h3 hp
    intro hh
    obtain ⟨e, he, hs⟩ := List.any_eq_true.mp hh
    have hse : starB e = false := by
      rcases List.mem_cons.mp he with z | z
      · rw [z]; exact s1
      · rcases List.mem_cons.mp z with z | z
        · rw [z]; exact s2
        · rw [List.mem_singleton.mp z]; exact s3
    cases e <;> first | exact (Bool.false_ne_true hs).elim | exact (Bool.false_ne_true hse.symm).elim
  · have hn : ∀ f : Expr → Option Str, f (.Name x px) = some x → f (.Name y py) = some y → f (.Name z pz) = some z → [Expr.Name x px, Expr.Name y py, Expr.Name z pz].filterMap f = [x, y, z] := fun f h1 h2 h3 => by
      simp [List.filterMap_cons, h1, h2, h3]
    rw [hn _ (by simp [kx, Expr.pos]) (by simp [ky, hl', Expr.pos]) (by simp [kz, hl2', Expr.pos])]
    refine (if_neg ?_).trans ?_
    · simp [List.eraseDups, List.eraseDupsBy, List.eraseDupsBy.loop, hxy, hxz, hyz, beq_sw hxy, beq_sw hxz, beq_sw hyz]
    · rfl
theorem ne_of_beq {i j : Nat} (h : (!(i == j)) = true) : i ≠ j := fun e => by rw [e] at h; simp at h
theorem S.par (hS : LenSet V1) (c : StC V1 E sd X) {is : List Nat} {es : CE} {st : Stmt} (h : chkS V1.GT (.par is es) sd st = true) : PS X st (tS X.K E (exs V1.run (.par is es))) := by
  have rd : ∀ D σ H, tS X.K E (exs V1.run (.par is es)) D σ H → tA X.K (fun _ => E) (ev V1.run es) σ H fun vs H1 => ∃ C1 L1 s ws s1, Rep X.K L1 C1 H1 ∧ RSt X.K H1 L1 s σ ∧ RWs X.K H1 L1 ws vs ∧ setAll s is ws = some s1 ∧ ∀ σ', RSt X.K H1 L1 s1 σ' → D.nx σ' H1 := by
    rintro D σ H ⟨L, C, s, R, S, q⟩
    have q : PostS X.K H L ((ev V1.run es s C).st fun ws h => match ws with
      | .tup l => (match setAll s is l with
        | some s1 => .nx s1 h
        | none => .bad)
      | _ => .bad) D E := q
    refine ⟨L, C, s, R, S, (PostS.stA (k := fun l h => match setAll s is l with
        | some s1 => .nx s1 h
        | none => .bad) q).mono (fun vs H1 h => ?_) fun _ _ _ h => h⟩
    obtain ⟨ws, C1, L1, e1, R1, r1, p1⟩ := h
    split at p1
    · rename_i s1 g
      exact ⟨C1, L1, s, ws, s1, R1, S.ext e1, r1, g, fun σ' S' => p1 H1 L1 σ' .refl R1 S'⟩
    · exact p1.elim
  cases st with
  | Assign ts e pos =>
    rcases ts with _ | ⟨t, _ | ⟨_, _⟩⟩
    · exact (Bool.false_ne_true h).elim
    · cases t with
      | Tuple ts k tp =>
        rcases ts with _ | ⟨t1, _ | ⟨t2, _ | ⟨t3, _ | ⟨_, _⟩⟩⟩⟩
        · exact (Bool.false_ne_true h).elim
        · cases t1 <;> exact (Bool.false_ne_true h).elim
        · cases t1 with
          | Name x px =>
            cases t2 with
            | Name y py =>
              cases e with
              | Tuple vs k2 pt2 =>
                rcases vs with _ | ⟨a, _ | ⟨b, _ | ⟨_, _⟩⟩⟩ <;> first | exact (Bool.false_ne_true h).elim | skip
                rcases is with _ | ⟨i, _ | ⟨j, _ | ⟨_, _⟩⟩⟩ <;> first | exact (Bool.false_ne_true h).elim | skip
                simp only [chkS, Bool.and_eq_true, decide_eq_true_eq] at h
                obtain ⟨h1, h2, h3, h4, h5, h6, h7, h8, h9⟩ := h
                refine PS.imp (ps_par c.cx.calm c.nd (c.at h1) (c.at h2) (ne_of_beq h3) (loc_of c h4) (loc_of c h5) ((good hS es c.cx).pa h9) (S.par2 c (loc_of c h4) (loc_of c h5) h6 ((Bool.not_eq_true' _).mp h7) h8) rfl) fun D σ H q => ?_
                obtain ⟨L, C, s, R, S, q⟩ := rd D σ H q
                refine ⟨L, C, s, R, S, q.mono (fun vs H1 h => ?_) fun _ _ _ h => h⟩
                obtain ⟨C1, L1, s0, ws, s1, R1, S1, r1, g, q1⟩ := h
                rcases ws with _ | ⟨w, _ | ⟨w2, _ | ⟨_, _⟩⟩⟩
                · simp [setAll] at g
                · simp only [setAll] at g; split at g <;> simp at g
                · obtain ⟨v, v2, rfl, r3, r4⟩ := rw_two r1
                  simp only [setAll] at g
                  split at g
                  · split at g
                    · cases g
                      exact ⟨v, v2, rfl, q1 _ ((S1.set i r3).set j r4)⟩
                    · cases g
                  · cases g
                · simp only [setAll] at g; split at g <;> first | (split at g <;> simp at g) | simp at g
              | _ => exact (Bool.false_ne_true h).elim
            | _ => exact (Bool.false_ne_true h).elim
          | _ => exact (Bool.false_ne_true h).elim
        · cases t1 with
          | Name x px =>
            cases t2 with
            | Name y py =>
              cases t3 with
              | Name z pz =>
                cases e with
                | Tuple vs k2 pt2 =>
                  rcases vs with _ | ⟨a, _ | ⟨b, _ | ⟨d, _ | ⟨_, _⟩⟩⟩⟩ <;> first | exact (Bool.false_ne_true h).elim | skip
                  rcases is with _ | ⟨i, _ | ⟨j, _ | ⟨l, _ | ⟨_, _⟩⟩⟩⟩ <;> first | exact (Bool.false_ne_true h).elim | skip
                  simp only [chkS, Bool.and_eq_true, decide_eq_true_eq] at h
                  obtain ⟨h1, h2, h3, h4, h5, h6, h7, h8, h9, ha, hb, hc, hd, he, hf, hg⟩ := h
                  refine PS.imp (ps_par3 c.cx.calm c.nd (c.at h1) (c.at h2) (c.at h3) (ne_of_beq h4) (ne_of_beq h5) (ne_of_beq h6) (loc_of c h7) (loc_of c h8) (loc_of c h9) ((good hS es c.cx).pa hg)
                    (S.par3 c (loc_of c h7) (loc_of c h8) (loc_of c h9) ha hb ((Bool.not_eq_true' _).mp hc) ((Bool.not_eq_true' _).mp hd) ((Bool.not_eq_true' _).mp he) hf) rfl) fun D σ H q => ?_
                  obtain ⟨L, C, s, R, S, q⟩ := rd D σ H q
                  refine ⟨L, C, s, R, S, q.mono (fun vs H1 h => ?_) fun _ _ _ h => h⟩
                  obtain ⟨C1, L1, s0, ws, s1, R1, S1, r1, g, q1⟩ := h
                  rcases ws with _ | ⟨w, _ | ⟨w2, _ | ⟨w3, _ | ⟨_, _⟩⟩⟩⟩
                  · simp [setAll] at g
                  · simp only [setAll] at g; split at g <;> simp at g
                  · simp only [setAll] at g; split at g <;> first | (split at g <;> simp at g) | simp at g
                  · cases r1 with
                    | cons r2 r1 =>
                      obtain ⟨v, v2, rfl, r3, r4⟩ := rw_two r1
                      simp only [setAll] at g
                      split at g
                      · split at g
                        · split at g
                          · cases g
                            exact ⟨_, v, v2, rfl, q1 _ (((S1.set i r2).set j r3).set l r4)⟩
                          · cases g
                        · cases g
                      · cases g
                  · simp only [setAll] at g
                    split at g
                    · split at g
                      · split at g <;> simp at g
                      · cases g
                    · cases g
                | _ => exact (Bool.false_ne_true h).elim
              | _ => exact (Bool.false_ne_true h).elim
            | _ => exact (Bool.false_ne_true h).elim
          | _ => exact (Bool.false_ne_true h).elim
        · simp [chkS] at h
      | _ => exact (Bool.false_ne_true h).elim
    · simp [chkS] at h
  | _ => exact (Bool.false_ne_true h).elim
end
end RF
end
end
section
set_option Elab.async false
set_option linter.all false
set_option maxRecDepth 100000
set_option maxHeartbeats 4000000
/-! RG2: raise; try. -/
noncomputable section
namespace RF
open PySem PySem.Spec PyProof.Rows L2
section
variable {V1 : Env1} {E : EX} {sd : SD} {X : Cx}
theorem clsB_of {GT : Str → Option GK} {x : Str} {c n : Nat} (h : clsB GT x c n = true) : ∃ f base, GT x = some (.cls c f base) ∧ n = (match f with
    | some _ => 1
    | none => 0) := by
  unfold clsB at h
  split at h
  · rename_i d f base e
    rw [Bool.and_eq_true, beq_iff_eq, beq_iff_eq] at h
    obtain ⟨h1, h2⟩ := h
    subst h1
    exact ⟨f, base, e, h2⟩
  · cases h
theorem tiny_of {w : W} (h : tinyW w = true) : ∃ i : Int, w = .int i ∧ i.natAbs.log2 < 1920 := by
  cases w with
  | int i =>
    simp only [tinyW, Bool.and_eq_true, decide_eq_true_eq] at h
    refine ⟨i, rfl, ?_⟩
    have h1 : i.natAbs < 2 ^ 65 := by omega
    by_cases h0 : i.natAbs = 0
    · rw [h0]; decide
    · have := (Nat.log2_lt h0).mpr h1
      omega
  | _ => cases h
theorem S.raise (hS : LenSet V1) (c : StC V1 E sd X) {cn : Nat} {es : CE} {st : Stmt} (h : chkS V1.GT (.raise cn es) sd st = true) : PS X st (tS X.K E (exs V1.run (.raise cn es))) := by
  obtain ⟨XE, tk, ex⟩ := c.air
  cases st with
  | Raise e fr pos =>
    cases e with
    | none => exact (Bool.false_ne_true h).elim
    | some e =>
      cases fr with
      | some _ => cases e <;> simp [chkS] at h
      | none =>
        cases e with
        | Call fe l ks cp =>
          cases fe with
          | Name x xp =>
            cases ks with
            | cons _ _ => simp [chkS] at h
            | nil =>
              simp only [chkS, Bool.and_eq_true] at h
              obtain ⟨h1, h2, h3, h4⟩ := h
              obtain ⟨f, base, hg, hn⟩ := clsB_of h1
              obtain ⟨a1, a2, a3, a4, a5, a6⟩ := c.cls.at_ x cn f base hg
              have rd : ∀ D σ H, tS X.K E (exs V1.run (.raise cn es)) D σ H → tA X.K (fun _ => E) (ev V1.run es) σ H fun vs H1 => ∃ ws C1 L1, Rep X.K L1 C1 H1 ∧ RWs X.K H1 L1 ws vs ∧ ws.all tinyW = true ∧ E cn vs H1 := by
                rintro D σ H ⟨L, C, s, R, S, q⟩
                have q : PostS X.K H L ((ev V1.run es s C).st fun ws h1 => match ws with
                  | .tup l => if l.all tinyW then .exc cn l h1 else .bad
                  | _ => .bad) D E := q
                refine ⟨L, C, s, R, S, (PostS.stA (k := fun l h1 => if l.all tinyW then .exc cn l h1 else .bad) q).mono (fun vs H1 h => ?_) fun _ _ _ h => h⟩
                obtain ⟨ws, C1, L1, e1, R1, r1, p1⟩ := h
                by_cases ht : ws.all tinyW = true
                · rw [if_pos ht] at p1
                  exact ⟨ws, C1, L1, R1, r1, ht, p1 H1 L1 vs .refl R1 r1⟩
                · rw [if_neg ht] at p1
                  exact p1.elim
              have g := good hS es c.cx
              cases f with
              | none =>
                cases l with
                | cons _ _ => cases hn
                | nil =>
                  obtain ⟨B, newId, initId, bmB, F, q⟩ := c.cls.pl x cn base hg
                  refine PS.imp (ps_raise c.cx.calm tk (RX.pmk_plain F q a2 a3 (raises_own a4.be a5) (gl_of c.cx.sc h2) (ok_name h3).1)) ?_
                  intro D σ H q
                  obtain ⟨L, C, s, R, S, q⟩ := rd D σ H q
                  have ea := g.each _ h4
                  cases es with
                  | nil =>
                    obtain ⟨ws, C1, L1, R1, r1, _, q1⟩ := q H L [] .refl R .nil
                    have := ex cn [] H q1
                    unfold Env1.toE toEx at this
                    rw [a1] at this
                    exact this.2
                  | _ => exact ea.elim
              | some f =>
                rcases l with _ | ⟨e, _ | ⟨_, _⟩⟩
                · cases hn
                · obtain ⟨T, xf, hf, fI, fd, ps, k, iC, tI, F1, hr, hb⟩ := c.cls.ini x cn f base hg
                  have ea := g.each _ h4
                  have st := ea.stars
                  have F1' : FnOk X.prog X.w X.K X.mg X.base (L2.CX X.prog X.w) k fI fd ps (spInit X.K (He.ga X.K x) f) := by rw [← c.cxe]; exact F1
                  have hx : Passes (L2.CX X.prog X.w) X (fun _ _ _ => False) := fun pins σ H s e s' I q => by
                    rw [← c.cxe] at q
                    exact (V1.cx0 _ _ _ _ _ q).elim
                  refine PS.imp (ps_raise c.cx.calm tk (RX.pmk_le T iC tI F1' hr hb hx (gl_of c.cx.sc h2) a2 ea.pa (ok_name h3).1 (star_of (all_cons st).1) (stars_of (all_cons st).2))) ?_
                  intro D σ H q
                  obtain ⟨L, C, s, R, S, q⟩ := rd D σ H q
                  refine ⟨L, C, s, R, S, q.mono (fun vs H1 h => ?_) fun _ _ _ h => h⟩
                  obtain ⟨ws, C1, L1, R1, r1, ht, q1⟩ := h
                  have := ex cn vs H1 q1
                  unfold Env1.toE toEx at this
                  rw [a1] at this
                  obtain ⟨v, rfl, w1⟩ := this
                  refine ⟨by simp, fun a na => ?_⟩
                  rcases ws with _ | ⟨w, _ | ⟨_, _⟩⟩
                  · cases r1
                  · obtain ⟨v', e', rw'⟩ := rw_one r1
                    cases e'
                    obtain ⟨i, rfl, hi⟩ := tiny_of (by simpa using ht)
                    cases rw'.int_inv
                    refine ⟨a, i, rfl, hi, upd_same, fun dx hd ne => ⟨rfl, dx, [(f, .int i)], upd_same, by rw [upd_ne ne, upd_same], ?_, ?_⟩⟩
                    · rw [← hd, upd_ne ne]
                    · have hd1 : H1 dx = none := by rw [← hd, upd_ne ne]
                      have e : upd (del (upd (upd (upd H1 a (exo a (He.ga X.K x) none)) dx (exd dx [(f, .int i)])) a (exo a (He.ga X.K x) (some dx))) a) dx (.xd [(f, .int i)]) = upd H1 dx (.xd [(f, .int i)]) := funext fun b => by
                        by_cases hb : b = dx
                        · rw [hb, upd_same, upd_same]
                        · rw [upd_ne hb, upd_ne hb]
                          by_cases ha : b = a
                          · rw [ha, del_same]; exact na.symm
                          · rw [del_ne ha, upd_ne ha, upd_ne hb, upd_ne ha]
                      rw [e]
                      exact w1 dx hd1
                  · cases r1 with
                    | cons _ r => cases r
                · cases hn
          | _ => simp [chkS] at h
        | _ => simp [chkS] at h
  | _ => exact (Bool.false_ne_true h).elim
end
end RF
end
end
section
set_option Elab.async false
set_option linter.all false
set_option maxRecDepth 100000
set_option maxHeartbeats 4000000
/-! RF18: all statements. -/
noncomputable section
namespace RF
open PySem PySem.Spec PyProof.Rows L2
section
variable {V1 : Env1} {E : EX} {sd : SD} {X : Cx}
/-- o[i] = v: a list, a dict -/
def rSet : TSet := fun o i v H Q => rSetL o i v H Q ∨ rSetD o i v H Q
theorem set_any (hu : X.A.units + 64 < cLine) : PSet X rSet := by
  intro pins s σ H o i v ov iv u Q I ro ri rv h
  rcases h with h | h
  · exact set_list pins s σ H o i v ov iv u Q I ro ri rv h
  · exact set_dict (by omega) pins s σ H o i v ov iv u Q I ro ri rv h
theorem put_ok {K : Fg} {H : Hp} {L : List Addr} {C C' : CH} {x y w : W} {v u z : V} {Q : Hp → Prop} (R : Rep K L C H) (h : putAt x y w C = some C') (rx : RW K H L x v) (ry : RW K H L y u) (rz : RW K H L w z)
    (q : ∀ H', Ext H L H' L → Rep K L C' H' → Q H') : rSet v u z H Q := by
  unfold putAt at h
  cases x with
  | ref r =>
    simp only at h
    split at h
    · rename_i xs g
      obtain ⟨a, rfl, ha⟩ := rx.ref_inv
      cases y with
      | int k =>
        simp only at h
        split at h
        · rename_i j hj
          simp only [Option.some.injEq] at h
          subst h
          obtain ⟨us, hus, rus⟩ := R.at ha g
          obtain rfl := ry.int_inv
          refine .inl ⟨a, us, k, j, rfl, rfl, hus, by rw [rus.length]; exact hj, ?_⟩
          have e : Ext H L (upd H a (.lst (us.set j z))) L := Ext.store R ha g rfl
          exact q _ e (R.store ha g rfl ⟨_, upd_same, (rus.set j rz).ext e⟩)
        · cases h
      | _ => simp at h
    · obtain ⟨a, H', e, dp, ex, R'⟩ := dput_ok R h rx ry rz
      exact .inr ⟨a, H', e, dp, q H' ex R'⟩
  | _ => simp at h
theorem S.ixset (hS : LenSet V1) (c : StC V1 E sd X) {o i v : CE} {st : Stmt} (h : chkS V1.GT (.ixset o i v) sd st = true) : PS X st (tS X.K E (exs V1.run (.ixset o i v))) := by
  cases st with
  | Assign ts e pos =>
    rcases ts with _ | ⟨t, _ | ⟨_, _⟩⟩
    · exact (Bool.false_ne_true h).elim
    · cases t with
      | Subscript eo ei tp =>
        simp only [chkS, Bool.and_eq_true] at h
        obtain ⟨h1, h2, h3, h4, h5⟩ := h
        have hw : swappedStores [.Subscript eo ei tp] e X.env = pure none := by cases e <;> rfl
        have ha : ∀ v, assign (.Subscript eo ei tp) X.env v = (do
            let ov ← holding [v] (eval eo X.env)
            let iv ← holding [v, ov] (eval ei X.env)
            standAt tp
            holding [v, ov, iv] (setItem ov iv v)
            release [v, ov, iv] []) := by
          intro v
          cases ei <;> first | rfl | cases h1
        refine PS.imp (ps_asg ((good hS v c.cx).pe e h3) (pg_sub ((good hS o c.cx).pe eo h4) ((good hS i c.cx).pe ei h5) (set_any c.cx.hu) ha) (no_swap1 h2) hw rfl) ?_
        rintro D σ H ⟨L, C, s, R, S, q⟩
        have q : PostS X.K H L ((ev V1.run v s C).st fun w h1 => (ev V1.run o s h1).st fun x h2 => (ev V1.run i s h2).st fun y h3 => match putAt x y w h3 with
          | some h4 => .nx s h4
          | none => .bad) D E := q
        refine ⟨L, C, s, R, S, q.st.mono (fun z H1 h => ?_) fun _ _ _ h => h⟩
        obtain ⟨w, C1, L1, e1, R1, r1, p1⟩ := h
        refine ⟨L1, C1, s, R1, S.ext e1, p1.st.mono (fun x H2 h => ?_) fun _ _ _ h => h⟩
        obtain ⟨wx, C2, L2, e2, R2, r2, p2⟩ := h
        refine ⟨L2, C2, s, R2, (S.ext e1).ext e2, p2.st.mono (fun y H3 h => ?_) fun _ _ _ h => h⟩
        obtain ⟨wy, C3, L3, e3, R3, r3, p3⟩ := h
        split at p3
        · rename_i C4 hp
          exact put_ok R3 hp (r2.ext e3) r3 (r1.ext (e2.trans e3)) fun H4 e4 R4 => p3 H4 L3 σ e4 R4 ((((S.ext e1).ext e2).ext e3).ext e4)
        · exact p3.elim
      | _ => exact (Bool.false_ne_true h).elim
    · simp [chkS] at h
  | _ => exact (Bool.false_ne_true h).elim
theorem sub_names {e1 j1 e2 j2 : Expr} {p1 p2 tp : Pos} {k : Nat} {e : Expr} {env : Env} : swappedStores [.Tuple [.Subscript e1 j1 p1, .Subscript e2 j2 p2] k tp] e env = pure none := by
  cases e with
  | Tuple vs k2 pt2 =>
    unfold swappedStores
    simp only
    split
    · rfl
    · split
      · rfl
      · exact if_pos (by simp)
  | _ => rfl
theorem sub_asg {eo ei : Expr} {tp : Pos} {env : Env} (h1 : (!isSliceE ei) = true) : ∀ v, assign (.Subscript eo ei tp) env v = (do
    let ov ← holding [v] (eval eo env)
    let iv ← holding [v, ov] (eval ei env)
    standAt tp
    holding [v, ov, iv] (setItem ov iv v)
    release [v, ov, iv] []) := by
  intro v
  cases ei <;> first | rfl | cases h1
theorem S.ix2 (hS : LenSet V1) (c : StC V1 E sd X) {o1 i1 o2 i2 v : CE} {st : Stmt} (h : chkS V1.GT (.ix2 o1 i1 o2 i2 v) sd st = true) : PS X st (tS X.K E (exs V1.run (.ix2 o1 i1 o2 i2 v))) := by
  cases st with
  | Assign ts e pos =>
    rcases ts with _ | ⟨t, _ | ⟨_, _⟩⟩
    · exact (Bool.false_ne_true h).elim
    · cases t with
      | Tuple ts k tp =>
        rcases ts with _ | ⟨t1, _ | ⟨t2, _ | ⟨_, _⟩⟩⟩
        · exact (Bool.false_ne_true h).elim
        · simp [chkS] at h
        · cases t1 with
          | Subscript e1 j1 p1 =>
            cases t2 with
            | Subscript e2 j2 p2 =>
              simp only [chkS, Bool.and_eq_true] at h
              obtain ⟨h1, h2, h3, h4, h5, h6, h7⟩ := h
              have gs : PGs X [.Subscript e1 j1 p1, .Subscript e2 j2 p2] _ := pgs_cons (pg_sub ((good hS o1 c.cx).pe e1 h4) ((good hS i1 c.cx).pe j1 h5) (set_any c.cx.hu) (sub_asg h1))
                (pgs_cons (pg_sub ((good hS o2 c.cx).pe e2 h6) ((good hS i2 c.cx).pe j2 h7) (set_any c.cx.hu) (sub_asg h2)) pgs_nil rfl) rfl
              refine PS.imp (ps_asg ((good hS v c.cx).pe e h3) (PG.or (pg_tup (k := k) (pos := tp) (n := 2) c.cx.calm gs rfl rfl) (pg_unl (k := k) (pos := tp) (n := 2) c.cx.calm gs rfl rfl)) tup_swap sub_names rfl) ?_
              rintro D σ H ⟨L, C, s, R, S, q⟩
              have q : PostS X.K H L ((ev V1.run v s C).st fun w h1 => match items h1 w with
                | some [w1, w2] => (ev V1.run o1 s h1).st fun x h2 => (ev V1.run i1 s h2).st fun y h3 => match putAt x y w1 h3 with
                  | some h4 => (ev V1.run o2 s h4).st fun x2 h5 => (ev V1.run i2 s h5).st fun y2 h6 => match putAt x2 y2 w2 h6 with
                    | some h7 => .nx s h7
                    | none => .bad
                  | none => .bad
                | _ => .bad) D E := q
              refine ⟨L, C, s, R, S, q.st.mono (fun z H1 h => ?_) fun _ _ _ h => h⟩
              obtain ⟨w, C1, L1, x1, R1, r1, q1⟩ := h
              split at q1
              · rename_i w1 w2 hw
                obtain ⟨a, vs, rfl, sq, rs⟩ := seq_of R1 hw r1
                obtain ⟨v1, v2, rfl, t1, t2⟩ := rw_two rs
                have S1 := S.ext x1
                have go : (gCons (gSub (tE X.K (fun _ => E) (ev V1.run o1)) (tE X.K (fun _ => E) (ev V1.run i1)) rSet) (gCons (gSub (tE X.K (fun _ => E) (ev V1.run o2)) (tE X.K (fun _ => E) (ev V1.run i2)) rSet) gNil)) [v1, v2] σ H1 D.nx := by
                  refine ⟨v1, [v2], rfl, L1, C1, s, R1, S1, q1.st.mono (fun x H2 h => ?_) fun _ _ _ h => h⟩
                  obtain ⟨wx, C2, L2, x2, R2, r2, q2⟩ := h
                  refine ⟨L2, C2, s, R2, S1.ext x2, q2.st.mono (fun y H3 h => ?_) fun _ _ _ h => h⟩
                  obtain ⟨wy, C3, L3, x3, R3, r3, q3⟩ := h
                  split at q3
                  · rename_i C4 hp
                    refine put_ok R3 hp (r2.ext x3) r3 (t1.ext (x2.trans x3)) fun H4 x4 R4 => ?_
                    have S4 := ((S1.ext x2).ext x3).ext x4
                    refine ⟨v2, [], rfl, L3, C4, s, R4, S4, ((PostS.ext x4 q3).st).mono (fun x H5 h => ?_) fun _ _ _ h => h⟩
                    obtain ⟨wx2, C5, L5, x5, R5, r5, q5⟩ := h
                    refine ⟨L5, C5, s, R5, S4.ext x5, q5.st.mono (fun y H6 h => ?_) fun _ _ _ h => h⟩
                    obtain ⟨wy2, C6, L6, x6, R6, r6, q6⟩ := h
                    split at q6
                    · rename_i C7 hp2
                      exact put_ok R6 hp2 (r5.ext x6) r6 (t2.ext ((((x2.trans x3).trans x4).trans x5).trans x6)) fun H7 x7 R7 => ⟨rfl, q6 H7 L6 σ x7 R7 (((S4.ext x5).ext x6).ext x7)⟩
                    · exact q6.elim
                  · exact q3.elim
                rcases sq with sq | sq
                · exact .inr ⟨a, _, rfl, sq, rfl, go⟩
                · exact .inl ⟨a, _, rfl, sq, rfl, go⟩
              · exact q1.elim
            | _ => exact (Bool.false_ne_true h).elim
          | _ => exact (Bool.false_ne_true h).elim
        · simp [chkS] at h
      | _ => exact (Bool.false_ne_true h).elim
    · simp [chkS] at h
  | _ => exact (Bool.false_ne_true h).elim
theorem S.expr (hS : LenSet V1) (c : StC V1 E sd X) {ce : CE} {st : Stmt} (h : chkS V1.GT (.expr ce) sd st = true) : PS X st (tS X.K E (exs V1.run (.expr ce))) := by
  cases st with
  | Expr e pos =>
    simp only [chkS, Bool.and_eq_true] at h
    refine PS.imp (ps_expr ((good hS ce c.cx).pe e h.2) (no_swap h.1)) ?_
    rintro D σ H ⟨L, C, s, R, S, q⟩
    have q : PostS X.K H L ((ev V1.run ce s C).st fun _ h1 => .nx s h1) D E := q
    refine ⟨L, C, s, R, S, q.st.mono (fun z H1 h => ?_) fun _ _ _ h => h⟩
    obtain ⟨w, C1, L1, e1, R1, r1, p1⟩ := h
    exact p1 H1 L1 σ .refl R1 (S.ext e1)
  | _ => exact (Bool.false_ne_true h).elim
theorem S.ret (hS : LenSet V1) (c : StC V1 E sd X) {ce : CE} {st : Stmt} (h : chkS V1.GT (.ret ce) sd st = true) : PS X st (tS X.K E (exs V1.run (.ret ce))) := by
  cases st with
  | Return e pos =>
    cases e with
    | none => exact (Bool.false_ne_true h).elim
    | some e =>
      have h : chkE V1.GT ce sd e = true := h
      refine PS.imp (ps_ret ((good hS ce c.cx).pe e h)) ?_
      rintro D σ H ⟨L, C, s, R, S, q⟩
      have q : PostS X.K H L ((ev V1.run ce s C).st fun w h1 => .rt w h1) D E := q
      refine ⟨L, C, s, R, S, q.st.mono (fun z H1 h => ?_) fun _ _ _ h => h⟩
      obtain ⟨w, C1, L1, e1, R1, r1, p1⟩ := h
      exact p1 H1 L1 z .refl R1 r1
  | _ => exact (Bool.false_ne_true h).elim
theorem S.ifs (hS : LenSet V1) (c : StC V1 E sd X) {ce : CE} {a b : CS} (ga : ∀ ss, chkB V1.GT a sd ss = true → PSs X ss (tS X.K E (exs V1.run a))) (gb : ∀ ss, chkB V1.GT b sd ss = true → PSs X ss (tS X.K E (exs V1.run b)))
    {st : Stmt} (h : chkS V1.GT (.ifs ce a b) sd st = true) : PS X st (tS X.K E (exs V1.run (.ifs ce a b))) := by
  cases st with
  | If t x y pos =>
    simp only [chkS, Bool.and_eq_true] at h
    obtain ⟨h1, h2, h3, h4⟩ := h
    refine PS.imp (ps_if ((good hS ce c.cx).pt t h2 (isIf_of h1)) (ga x h3) (gb y h4)) ?_
    rintro D σ H ⟨L, C, s, R, S, q⟩
    have q : PostS X.K H L ((ev V1.run ce s C).st fun k h1 => match truth h1 k with
      | some true => exs V1.run a s h1
      | some false => exs V1.run b s h1
      | none => .bad) D E := q
    have q2 : PostS X.K H L ((ev V1.run ce s C).st fun k h1 => match truth h1 k with
      | some t => (if t = true then exs V1.run a s h1 else exs V1.run b s h1)
      | none => .bad) D E := by
      refine Eq.mp (congrArg (fun z => PostS X.K H L z D E) (congrArg (RF.R.st (ev V1.run ce s C)) (funext fun k => funext fun h1 => ?_))) q
      cases truth h1 k with
      | none => rfl
      | some t => cases t <;> rfl
    refine ⟨L, C, s, R, S, (PostS.tst (k := fun t _ h1 => if t = true then exs V1.run a s h1 else exs V1.run b s h1) q2).mono (fun v H1 h => ?_) fun _ _ _ h => h⟩
    obtain ⟨k, e1, w, C1, L1, e2, R1, p1⟩ := h
    refine ⟨k, e1, ?_⟩
    cases k with
    | true => exact ⟨L1, C1, s, R1, S.ext e2, p1⟩
    | false => exact ⟨L1, C1, s, R1, S.ext e2, p1⟩
  | _ => exact (Bool.false_ne_true h).elim
/-- the turns of a for -/
theorem for_ok {K : Fg} {J : It} {p : CP} {fb : St → CH → RS} {s : St} {σ : L2.St} {H1 : Hp} {L1 : List Addr} {C1 : CH} {q0 : Src} {D : Ends} {m0 : Nat} (wk : Walks K J q0 H1 L1) (R1 : Rep K L1 C1 H1) (S1 : RSt K H1 L1 s σ) (q : PostS K H1 L1 (forL fb p m0 q0 s C1) D E) :
    ∃ W : Nat → Nat → L2.St → Hp → Prop, (∃ m, W 0 m σ H1) ∧ ∀ i m σ H, W i m σ H →
      (J.stop i H ∧ D.nx σ H) ∨ (J.go i H ∧ ∃ N : L2.St → Hp → Prop, (∀ σ' H', N σ' H' → ∃ m', m' < m ∧ W (i + 1) m' σ' H') ∧ ∀ x H', J.yld i H x H' → tP K p x σ H' fun σ2 H2 => tS K E fb { D with nx := N, ct := N, bk := D.nx } σ2 H2) := by
  obtain ⟨P, ⟨w1, w2⟩, p0⟩ := wk
  refine ⟨fun i m σ H => ∃ L C s q, Rep K L C H ∧ RSt K H L s σ ∧ P i q H L ∧ PostS K H L (forL fb p m q s C) D E, ⟨m0, L1, C1, s, q0, R1, S1, p0, q⟩, ?_⟩
  rintro i m σ H ⟨L, C, s, q, R, S, pp, po⟩
  cases m with
  | zero => exact po.elim
  | succ n =>
    have step := w2 i q H L C pp R
    unfold forL at po
    cases hn : nxt q C with
    | none => rw [hn] at po; exact po.elim
    | some o =>
      rw [hn] at po step
      cases o with
      | none => exact .inl ⟨step, po H L σ .refl R S⟩
      | some xq =>
        obtain ⟨x, q'⟩ := xq
        obtain ⟨go, step⟩ := step
        refine .inr ⟨go, _, fun σ' H' h => ⟨n, Nat.lt_succ_self n, h⟩, fun v H' yl => ?_⟩
        obtain ⟨e1, R2, r2, p2⟩ := step v H' yl
        simp only at po
        cases hb : bindP C p x s with
        | none => rw [hb] at po; exact po.elim
        | some s2 =>
          rw [hb] at po
          simp only at po
          refine ⟨L, C, s, x, R2, S.ext e1, r2, s2, hb, fun σ2 S2 _ => ⟨L, C, s2, R2, S2, ?_⟩⟩
          cases hf : fb s2 C with
          | nx s3 C3 =>
            rw [hf] at po
            exact fun H3 L3 σ3 e3 R3 S3 => ⟨L3, C3, s3, q', R3, S3, w1 _ _ _ _ _ _ p2 e3.to0 e3.frz, PostS.ext (e1.trans e3) po⟩
          | ct s3 C3 =>
            rw [hf] at po
            exact fun H3 L3 σ3 e3 R3 S3 => ⟨L3, C3, s3, q', R3, S3, w1 _ _ _ _ _ _ p2 e3.to0 e3.frz, PostS.ext (e1.trans e3) po⟩
          | bk s3 C3 => rw [hf] at po; exact fun H3 L3 σ3 e3 => po H3 L3 σ3 (e1.trans e3)
          | rt w C3 => rw [hf] at po; exact fun H3 L3 σ3 e3 => po H3 L3 σ3 (e1.trans e3)
          | exc c ws C3 => rw [hf] at po; exact fun H3 L3 σ3 e3 => po H3 L3 σ3 (e1.trans e3)
          | bad => rw [hf] at po; exact po
theorem S.loop (hS : LenSet V1) (c : StC V1 E sd X) (k : IK) {args : CE} {p : CP} {body : CS} (gb : ∀ ss, chkB V1.GT body sd ss = true → PSs X ss (tS X.K E (exs V1.run body)))
    {st : Stmt} (h : chkS V1.GT (.loop k args p body) sd st = true) : PS X st (tS X.K E (exs V1.run (.loop k args p body))) := by
  cases st with
  | For tg iter b oe pos =>
    cases oe with
    | cons _ _ => exact (Bool.false_ne_true h).elim
    | nil =>
      simp only [chkS, Bool.and_eq_true] at h
      obtain ⟨h1, h2, h3, h4⟩ := h
      refine PS.imp (ps_for c.own c.cx.calm (pi_ok c.cx (good hS args c.cx) h2) ((pat_ok c.cx p).1 tg h3) (gb b h4) (fold_set ((Bool.not_eq_true' _).mp h1))) ?_
      rintro D σ H ⟨L, C, s, R, S, q⟩
      have q : PostS X.K H L ((ev V1.run args s C).st fun ws h1 => match ws with
        | .tup l => (match src0 k l h1 with
          | some q => forL (exs V1.run body) p fuel q s h1
          | none => .bad)
        | _ => .bad) D E := q
      refine ⟨L, C, s, R, S, ?_⟩
      generalize ev V1.run args s C = r at q
      cases r with
      | ok w C1 =>
        cases w with
        | tup l =>
          have q : PostS X.K H L (match src0 k l C1 with
            | some q => forL (exs V1.run body) p fuel q s C1
            | none => .bad) D E := q
          cases hs : src0 k l C1 with
          | none => rw [hs] at q; exact q.elim
          | some q0 =>
            rw [hs] at q
            exact ⟨q0, hs, fun H1 L1 J e1 R1 wk => for_ok (m0 := fuel) wk R1 (S.ext e1) (PostS.ext e1 q)⟩
        | _ => exact q
      | exc c ws C1 => exact q
      | bad => exact q
  | _ => exact (Bool.false_ne_true h).elim
theorem S.wh (hS : LenSet V1) (c : StC V1 E sd X) {ce : CE} {body : CS} (gb : ∀ ss, chkB V1.GT body sd ss = true → PSs X ss (tS X.K E (exs V1.run body)))
    {st : Stmt} (h : chkS V1.GT (.wh ce body) sd st = true) : PS X st (tS X.K E (exs V1.run (.wh ce body))) := by
  cases st with
  | While t b oe pos =>
    cases oe with
    | cons _ _ => exact (Bool.false_ne_true h).elim
    | nil =>
      simp only [chkS, Bool.and_eq_true] at h
      obtain ⟨h1, h2, h3⟩ := h
      refine PS.imp (ps_while c.own ((good hS ce c.cx).pt t h2 (isIf_of h1)) (gb b h3)) ?_
      rintro D σ H ⟨L, C, s, R, S, q⟩
      have q : PostS X.K H L (whL (ev V1.run ce) (exs V1.run body) fuel s C) D E := q
      generalize fuel = m0 at q
      refine ⟨fun m σ H => ∃ L C s, Rep X.K L C H ∧ RSt X.K H L s σ ∧ PostS X.K H L (whL (ev V1.run ce) (exs V1.run body) m s C) D E, ⟨m0, L, C, s, R, S, q⟩, ?_⟩
      rintro m σ H ⟨L, C, s, R, S, po⟩
      cases m with
      | zero => exact po.elim
      | succ n =>
        unfold whL at po
        refine ⟨L, C, s, R, S, ?_⟩
        show Post X.K H L ((ev V1.run ce s C).bind trW) _ E
        cases hc : ev V1.run ce s C with
        | exc c ws C1 => rw [hc] at po; exact po
        | bad => rw [hc] at po; exact po
        | ok k C1 =>
          rw [hc] at po
          simp only at po
          show Post X.K H L (trW k C1) _ E
          unfold trW
          cases ht : truth C1 k with
          | none => rw [ht] at po; exact po
          | some t =>
            rw [ht] at po
            intro H1 L1 v1 e1 R1 r1
            refine ⟨t, r1.bl_inv, ?_⟩
            cases t with
            | false => exact po H1 L1 σ e1 R1 (S.ext e1)
            | true =>
              simp only at po
              refine ⟨_, fun σ' H' h => ⟨n, Nat.lt_succ_self n, h⟩, L1, C1, s, R1, S.ext e1, ?_⟩
              cases hf : exs V1.run body s C1 with
              | nx s3 C3 =>
                rw [hf] at po
                exact fun H3 L3 σ3 e3 R3 S3 => ⟨L3, C3, s3, R3, S3, PostS.ext (e1.trans e3) po⟩
              | ct s3 C3 =>
                rw [hf] at po
                exact fun H3 L3 σ3 e3 R3 S3 => ⟨L3, C3, s3, R3, S3, PostS.ext (e1.trans e3) po⟩
              | bk s3 C3 => rw [hf] at po; exact fun H3 L3 σ3 e3 => po H3 L3 σ3 (e1.trans e3)
              | rt w C3 => rw [hf] at po; exact fun H3 L3 σ3 e3 => po H3 L3 σ3 (e1.trans e3)
              | exc c ws C3 => rw [hf] at po; exact fun H3 L3 σ3 e3 => po H3 L3 σ3 (e1.trans e3)
              | bad => rw [hf] at po; exact po
  | _ => exact (Bool.false_ne_true h).elim
end
end RF
end
end
section
set_option Elab.async false
set_option linter.all false
set_option maxRecDepth 100000
set_option maxHeartbeats 4000000
/-! RG3: for k in d. -/
noncomputable section
namespace RF
open PySem PySem.Spec PyProof.Rows L2
section
variable {V1 : Env1} {E : EX} {sd : SD} {X : Cx}
/-- the ends of a loop while the dict at d is locked -/
def lockD (d : Addr) (od : Obj) (u : HO) (D : Ends) : Ends := ⟨fun σ' H' => H' d = some (.frz od u) ∧ D.nx σ' (upd H' d u), fun v H' => H' d = some (.frz od u) ∧ D.rt v (upd H' d u), fun σ' H' => H' d = some (.frz od u) ∧ D.bk σ' (upd H' d u), fun σ' H' => H' d = some (.frz od u) ∧ D.ct σ' (upd H' d u)⟩
theorem relockS {K : Fg} {H : Hp} {L : List Addr} {r : Nat} {d : Addr} {od : Obj} {u : HO} {uo : CO} {r0 : RS} {D : Ends} (hr : L[r]? = some d) (hd : H d = some u) (ms : soft u) (mn : nolst u)
    (hro2 : ∀ H' L', Ext H L H' L' → H' d = some u → RO K H' L' d uo) (q : PostS K H L (match r0 with
    | .nx s1 h1 => .nx s1 (h1.set r uo)
    | .rt w h1 => .rt w (h1.set r uo)
    | _ => .bad) D E) : PostS K (upd H d (.frz od u)) L r0 (lockD d od u D) E := by
  have hL : d ∈ L := List.mem_of_getElem? hr
  cases r0 with
  | nx s1 C' =>
    intro H' L' σ' e R rs
    have h1 := e.frz d od u upd_same
    have e2 : Ext H L (upd H' d u) L' := Ext.unlock hL hd ms e
    exact ⟨h1, q _ L' σ' e2 (R.unlock (e.le _ _ hr) h1 mn (hro2 _ _ e2 upd_same)) (rs.ext0 (Ext0.unlock h1 mn))⟩
  | rt w C' =>
    intro H' L' v e R rv
    have h1 := e.frz d od u upd_same
    have e2 : Ext H L (upd H' d u) L' := Ext.unlock hL hd ms e
    exact ⟨h1, q _ L' v e2 (R.unlock (e.le _ _ hr) h1 mn (hro2 _ _ e2 upd_same)) (rv.ext0 (Ext0.unlock h1 mn))⟩
  | _ => exact q.elim
theorem S.loopK (hS : LenSet V1) (c : StC V1 E sd X) {i : Nat} {p : CP} {body : CS} (gb : ∀ ss, chkB V1.GT body sd ss = true → PSs X ss (tS X.K E (exs V1.run body)))
    {st : Stmt} (h : chkS V1.GT (.loopK i p body) sd st = true) : PS X st (tS X.K E (exs V1.run (.loopK i p body))) := by
  cases st with
  | For tg iter b oe pos =>
    cases iter with
    | Name x xp =>
      cases oe with
      | cons _ _ => exact (Bool.false_ne_true h).elim
      | nil =>
        simp only [chkS, Bool.and_eq_true, decide_eq_true_eq] at h
        obtain ⟨h1, h2, h3, h4, h5⟩ := h
        have pv : PE X (.Name x xp) (tVar i) := pe_var (c.at h1) (by rw [c.cx.sc]; exact vis_of h2) (ok_name h3).1 (ok_name h3).2
        refine PS.imp (ps_lock (ps_for c.own c.cx.calm (pi_keys pv) ((pat_ok c.cx p).1 tg h4) (gb b h5) fun _ => rfl)) ?_
        rintro D σ H ⟨L, C, s, R, S, q⟩
        have q : PostS X.K H L (match s[i]? with
          | some (some w) => (match lockW C w with
            | some (r, ks, u, l) => (match forL (exs V1.run body) p fuel (.st ks) s (C.set r l) with
              | .nx s1 h1 => .nx s1 (h1.set r u)
              | .rt w h1 => .rt w (h1.set r u)
              | _ => .bad)
            | none => .bad)
          | _ => .bad) D E := q
        split at q
        · rename_i w es
          obtain ⟨v, sv, rv⟩ := S.at_ i w es
          split at q
          · rename_i r ks u l hl
            cases w with
            | ref r' =>
              obtain ⟨d, rfl, hr⟩ := rv.ref_inv
              simp only [lockW] at hl
              split at hl
              · rename_i kvs g
                simp only [Option.some.injEq, Prod.mk.injEq] at hl
                obtain ⟨rfl, rfl, rfl, rfl⟩ := hl
                obtain ⟨us, hd, rk⟩ := R.obj _ _ _ hr g
                refine ⟨d, .dT us, hd, True.intro, fun od => ⟨_, sv, d, od, rfl, .inr ⟨us, upd_same, ?_⟩⟩⟩
                have eS : Ext H L (upd H d (.frz od (.dT us))) L := Ext.store R hr g rfl
                have RS : Rep X.K L (C.set r' (.lT kvs)) (upd H d (.frz od (.dT us))) := R.store hr g rfl ⟨us, od, upd_same, rk.ext eS⟩
                exact for_ok (m0 := fuel) (walk_kT upd_same rk.1) RS (S.ext eS) (relockS (od := od) (uo := .dT kvs) (u := .dT us) hr hd True.intro True.intro (fun H' L' e h => ⟨us, h, rk.ext e⟩) q)
              · rename_i kvs g
                simp only [Option.some.injEq, Prod.mk.injEq] at hl
                obtain ⟨rfl, rfl, rfl, rfl⟩ := hl
                obtain ⟨us, hd, rk⟩ := R.obj _ _ _ hr g
                refine ⟨d, .dK us, hd, True.intro, fun od => ⟨_, sv, d, od, rfl, .inl ⟨us, upd_same, ?_⟩⟩⟩
                have eS : Ext H L (upd H d (.frz od (.dK us))) L := Ext.store R hr g rfl
                have RS : Rep X.K L (C.set r' (.lK kvs)) (upd H d (.frz od (.dK us))) := R.store hr g rfl ⟨us, od, upd_same, rk.ext eS⟩
                exact for_ok (m0 := fuel) (walk_kK upd_same rk.1) RS (S.ext eS) (relockS (od := od) (uo := .dK kvs) (u := .dK us) hr hd True.intro True.intro (fun H' L' e h => ⟨us, h, rk.ext e⟩) q)
              · cases hl
            | _ => simp [lockW] at hl
          · exact q.elim
        · exact q.elim
    | _ => simp [chkS] at h
  | _ => exact (Bool.false_ne_true h).elim
end
end RF
end
end
section
set_option Elab.async false
set_option linter.all false
set_option maxRecDepth 100000
set_option maxHeartbeats 4000000
/-! RG4: try .. except. -/
noncomputable section
namespace RF
open PySem PySem.Spec PyProof.Rows L2
/-- the same with a wish that looks at the slots -/
def tSs (K : Fg) (E : L2.St → EX) (f : St → CH → RS) : TS := fun D σ H => ∃ L C s, Rep K L C H ∧ RSt K H L s σ ∧ PostS K H L (f s C) D (E σ)
/-- a body's wish, by that of the clauses -/
def eOf (V1 : Env1) (K : Fg) (W : WX) : L2.St → EX := fun σ c vs H => V1.toE K (fun cls d H' => W cls d σ H') c vs H
section
variable {V1 : Env1} {E : EX} {sd : SD} {X : Cx}
theorem StC.tr (c : StC V1 E sd X) {W : WX} {pn : List (Addr × Obj)} {xe : Value → Shared → Prop} (tk : Takes (X.tr pn xe) W) : Ctx V1 (eOf V1 X.K W) sd (X.tr pn xe) := by
  refine ⟨c.cx.N, c.cx.nd, c.cx.sc, c.cx.calm, c.cx.hu, c.cx.sto, c.cx.int, c.cx.blt, fun x f kw h => ?_⟩
  obtain ⟨fd, ps, k, XE, m1, m2, m3, m4, m5, m6, m7, m8, m9⟩ := c.cx.fns x f kw h
  refine ⟨fd, ps, k, fun σ cls d H => W cls d σ H, m1, m2, m3, m4, m5, fun σ => ?_, fun σ c vs H q => q, m8, m9⟩
  have := passAt tk σ
  rw [c.cxe]
  exact this
theorem plainS_cases {b : CS} (h : plainS b = true) : b = .nil ∨ (∃ i e, b = .cons (.set i e) .nil) ∨ (∃ e, b = .cons (.ret e) .nil) ∨ (∃ e, b = .cons (.expr e) .nil) ∨ ∃ c e1 e2, b = .cons (.ifs c (.cons (.ret e1) .nil) .nil) (.cons (.ret e2) .nil) := by
  unfold plainS at h
  split at h
  · exact .inl rfl
  · exact .inr (.inl ⟨_, _, rfl⟩)
  · exact .inr (.inr (.inl ⟨_, rfl⟩))
  · exact .inr (.inr (.inr (.inl ⟨_, rfl⟩)))
  · exact .inr (.inr (.inr (.inr ⟨_, _, _, rfl⟩)))
  · cases h
theorem one_of {run : Nat → List W → CH → R W} {a : CS} {s : St} {C : CH} : exs run (.cons a .nil) s C = exs run a s C := by
  show (match exs run a s C with
    | .nx s1 h1 => exs run .nil s1 h1
    | r => r) = _
  cases exs run a s C <;> rfl
theorem ret_tr (hS : LenSet V1) {E : L2.St → EX} {X : Cx} (cx : Ctx V1 E sd X) {e : CE} {st : Stmt} (h : chkS V1.GT (.ret e) sd st = true) : PS X st (tSs X.K E (exs V1.run (.ret e))) := by
  cases st with
  | Return ex pos =>
    cases ex with
    | none => exact (Bool.false_ne_true h).elim
    | some ex =>
      have h : chkE V1.GT e sd ex = true := h
      refine PS.imp (ps_ret ((good hS e cx).pe ex h)) ?_
      rintro D σ H ⟨L, C, s, R, S, q⟩
      have q : PostS X.K H L ((ev V1.run e s C).st fun w h1 => .rt w h1) D (E σ) := q
      refine ⟨L, C, s, R, S, q.st.mono (fun z H1 h => ?_) fun _ _ _ h => h⟩
      obtain ⟨w, C1, L1, e1, R1, r1, p1⟩ := h
      exact p1 H1 L1 z .refl R1 r1
  | _ => exact (Bool.false_ne_true h).elim
theorem iff_two {run : Nat → List W → CH → R W} {c e1 e2 : CE} {s : St} {C : CH} : exs run (.cons (.ifs c (.cons (.ret e1) .nil) .nil) (.cons (.ret e2) .nil)) s C = (ev run c s C).st fun k h1 => match truth h1 k with
    | some t => (if t = true then exs run (.ret e1) s h1 else exs run (.ret e2) s h1)
    | none => .bad := by
  show (match (ev run c s C).st (fun k h1 => match truth h1 k with
      | some true => exs run (.cons (.ret e1) .nil) s h1
      | some false => exs run .nil s h1
      | none => .bad) with
    | .nx s1 h1 => exs run (.cons (.ret e2) .nil) s1 h1
    | r => r) = _
  cases ev run c s C with
  | exc c ws C1 => rfl
  | bad => rfl
  | ok k C1 =>
    show (match (match truth C1 k with
      | some true => exs run (.cons (.ret e1) .nil) s C1
      | some false => exs run .nil s C1
      | none => .bad) with
    | .nx s1 h1 => exs run (.cons (.ret e2) .nil) s1 h1
    | r => r) = (match truth C1 k with
    | some t => (if t = true then exs run (.ret e1) s C1 else exs run (.ret e2) s C1)
    | none => .bad)
    cases truth C1 k with
    | none => rfl
    | some t =>
      cases t with
      | true =>
        show (match exs run (.cons (.ret e1) .nil) s C1 with
          | .nx s1 h1 => exs run (.cons (.ret e2) .nil) s1 h1
          | r => r) = exs run (.ret e1) s C1
        rw [one_of]
        show (match (ev run e1 s C1).st (fun w h1 => .rt w h1) with
          | .nx s1 h1 => exs run (.cons (.ret e2) .nil) s1 h1
          | r => r) = (ev run e1 s C1).st (fun w h1 => .rt w h1)
        cases ev run e1 s C1 <;> rfl
      | false => exact one_of
/-- a try's body -/
theorem body_ok (hS : LenSet V1) {E : L2.St → EX} {X : Cx} (cx : Ctx V1 E sd X) {b : CS} {bd : List Stmt} (hp : plainS b = true) (ht : chkT V1.GT sd b bd = true) (h : chkB V1.GT b sd bd = true) : PSs X bd (tSs X.K E (exs V1.run b)) := by
  rcases plainS_cases hp with rfl | ⟨i, e, rfl⟩ | ⟨e, rfl⟩ | ⟨e, rfl⟩ | ⟨ce, e1, e2, rfl⟩
  · cases bd with
    | cons _ _ => exact (Bool.false_ne_true h).elim
    | nil =>
      refine PSs.imp pss_nil ?_
      rintro D σ H ⟨L, C, s, R, S, q⟩
      exact q H L σ .refl R S
  · rcases bd with _ | ⟨st, _ | ⟨_, _⟩⟩
    · exact (Bool.false_ne_true h).elim
    · simp only [chkB, Bool.and_eq_true] at h
      have h := h.1
      cases st with
      | Assign ts ex pos =>
        rcases ts with _ | ⟨t, _ | ⟨_, _⟩⟩
        · exact (Bool.false_ne_true h).elim
        · cases t with
          | Name x p =>
            simp only [chkS, Bool.and_eq_true, decide_eq_true_eq] at h
            obtain ⟨h1, h2, h3, h4⟩ := h
            obtain ⟨l1, l2⟩ := cx.sto x h2
            have hn : noComp ex = true := (Bool.and_eq_true_iff.mp ht).2
            refine PSs.imp (pss_one (ps_set (by rw [cx.N]; exact cx.nd) (by rw [cx.N]; exact h1) l1 ((good hS e cx).pe ex h4) (no_swap hn) l2)) ?_
            rintro D σ H ⟨L, C, s, R, S, q⟩
            rw [one_of] at q
            have q : PostS X.K H L ((ev V1.run e s C).st fun w h1 => if Nat.blt i s.length then .nx (s.set i (some w)) h1 else .bad) D (E σ) := q
            refine ⟨L, C, s, R, S, q.st.mono (fun v H1 h => ?_) fun _ _ _ h => h⟩
            obtain ⟨w, C1, L1, e1, R1, r1, p1⟩ := h
            by_cases hb : Nat.blt i s.length = true
            · rw [if_pos hb] at p1
              exact p1 H1 L1 _ .refl R1 ((S.ext e1).set i r1)
            · rw [if_neg hb] at p1
              exact p1.elim
          | _ => exact (Bool.false_ne_true h).elim
        · cases t <;> exact (Bool.false_ne_true h).elim
      | _ => exact (Bool.false_ne_true h).elim
    · simp [chkB] at h
  · rcases bd with _ | ⟨st, _ | ⟨_, _⟩⟩
    · exact (Bool.false_ne_true h).elim
    · simp only [chkB, Bool.and_eq_true] at h
      have h := h.1
      cases st with
      | Return ex pos =>
        cases ex with
        | none => exact (Bool.false_ne_true h).elim
        | some ex =>
          have h : chkE V1.GT e sd ex = true := h
          refine PSs.imp (pss_one (ps_ret ((good hS e cx).pe ex h))) ?_
          rintro D σ H ⟨L, C, s, R, S, q⟩
          rw [one_of] at q
          have q : PostS X.K H L ((ev V1.run e s C).st fun w h1 => .rt w h1) D (E σ) := q
          refine ⟨L, C, s, R, S, q.st.mono (fun z H1 h => ?_) fun _ _ _ h => h⟩
          obtain ⟨w, C1, L1, e1, R1, r1, p1⟩ := h
          exact p1 H1 L1 z .refl R1 r1
      | _ => exact (Bool.false_ne_true h).elim
    · simp [chkB] at h
  · rcases bd with _ | ⟨st, _ | ⟨_, _⟩⟩
    · exact (Bool.false_ne_true h).elim
    · simp only [chkB, Bool.and_eq_true] at h
      have h := h.1
      cases st with
      | Expr ex pos =>
        simp only [chkS, Bool.and_eq_true] at h
        refine PSs.imp (pss_one (ps_expr ((good hS e cx).pe ex h.2) (no_swap h.1))) ?_
        rintro D σ H ⟨L, C, s, R, S, q⟩
        rw [one_of] at q
        have q : PostS X.K H L ((ev V1.run e s C).st fun _ h1 => .nx s h1) D (E σ) := q
        refine ⟨L, C, s, R, S, q.st.mono (fun z H1 h => ?_) fun _ _ _ h => h⟩
        obtain ⟨w, C1, L1, e1, R1, r1, p1⟩ := h
        exact p1 H1 L1 σ .refl R1 (S.ext e1)
      | _ => exact (Bool.false_ne_true h).elim
    · simp [chkB] at h
  · rcases bd with _ | ⟨st, _ | ⟨st2, _ | ⟨_, _⟩⟩⟩
    · exact (Bool.false_ne_true h).elim
    · simp [chkB] at h
    · simp only [chkB, Bool.and_eq_true] at h
      obtain ⟨hi, h2, _⟩ := h
      cases st with
      | If t x y pos =>
        simp only [chkS, Bool.and_eq_true] at hi
        obtain ⟨i1, i2, i3, i4⟩ := hi
        rcases x with _ | ⟨sx, _ | ⟨_, _⟩⟩
        · exact (Bool.false_ne_true i3).elim
        · cases y with
          | cons _ _ => exact (Bool.false_ne_true i4).elim
          | nil =>
            have i3 : chkS V1.GT (.ret e1) sd sx = true := by
              simp only [chkB, Bool.and_eq_true] at i3
              exact i3.1
            refine PSs.imp (pss_cons (ps_if ((good hS ce cx).pt t i2 (isIf_of i1)) (pss_one (ret_tr hS cx i3)) pss_nil) (pss_one (ret_tr hS cx h2))) ?_
            rintro D σ H ⟨L, C, s, R, S, q⟩
            rw [iff_two] at q
            refine ⟨L, C, s, R, S, (PostS.tst (k := fun t _ h1 => if t = true then exs V1.run (.ret e1) s h1 else exs V1.run (.ret e2) s h1) q).mono (fun v H1 h => ?_) fun _ _ _ h => h⟩
            obtain ⟨k, ek, w, C1, L1, e3, R1, p1⟩ := h
            refine ⟨k, ek, ?_⟩
            cases k with
            | true =>
              refine ⟨L1, C1, s, R1, S.ext e3, ?_⟩
              have p1 : PostS X.K H1 L1 ((ev V1.run e1 s C1).st fun w h1 => .rt w h1) D (E σ) := p1
              show PostS X.K H1 L1 ((ev V1.run e1 s C1).st fun w h1 => .rt w h1) _ (E σ)
              generalize ev V1.run e1 s C1 = r at p1
              cases r <;> exact p1
            | false => exact ⟨L1, C1, s, R1, S.ext e3, p1⟩
        · simp [chkB] at i3
      | _ => exact (Bool.false_ne_true hi).elim
    · simp [chkB] at h
/-! ### what a clause tells -/
/-- an item, told of the exception at a, of the class C, its dict d, its name's slot j -/
def tHI (K : Fg) (C a : Addr) (cls : Value) (d : Option Addr) (j : Option Nat) : HI → TE
  | .lit w => fun _ H Q => Q (fV w) H
  | .fld g => fun σ H Q => cls = .ref C ∧ (∃ j', j = some j' ∧ σ[j']? = some (some (.ref a))) ∧ ∃ (dd : Addr) (fs : List (Str × V)) (v : V), d = some dd ∧ H dd = some (.xd fs) ∧ fs.lookup g = some v ∧ Q v H
  | .isx _ k => fun σ H Q => cls = .ref C ∧ (∃ j', j = some j' ∧ σ[j']? = some (some (.ref a))) ∧ RX.DictX H d ∧ Q (.bl k) H
theorem hi_ok (c : StC V1 E sd X) {x : Str} {cn : Nat} {f : Option Str} {base : String} (hg : V1.GT x = some (.cls cn f base)) {n : Option (Nat × Str)} (hn : ∀ j m, n = some (j, m) → sd.N[j]? = some m) {h : HI} {e : Expr} (hc : chkHI V1.GT sd n f base h e = true)
    (a : Addr) (oe : Obj) (cls : Value) (d : Option Addr) (pn : List (Addr × Obj)) (hz : Zc cls d oe) (hf : ∃ vs, oe.data = .fields vs) : PE (X.suite a ((a, oe) :: pn)) e (tHI X.K (He.ga X.K x) a cls d (n.map (·.1)) h) := by
  obtain ⟨a1, a2, a3, a4, a5, a6⟩ := c.cls.at_ x cn f base hg
  have var : ∀ {j : Nat} {m : Str} {p : Pos}, n = some (j, m) → visB sd.sc m = true → okName m = true → PE (X.suite a ((a, oe) :: pn)) (.Name m p) (tVar j) := fun {j m p} e1 e2 e3 =>
    pe_var (X := X.suite a ((a, oe) :: pn)) (show X.N[j]? = some m from c.at (hn j m e1)) (show Vis X.env.scope m by rw [c.cx.sc]; exact vis_of e2) (ok_name e3).1 (ok_name e3).2
  cases h with
  | lit w =>
    cases e with
    | Constant cc k pos =>
      have hc : litB w cc = true := hc
      unfold litB at hc
      split at hc
      · exact PE.imp pe_non fun σ H Q q => q
      · rename_i b b' _
        obtain rfl : b = b' := by simpa using hc
        exact PE.imp pe_bl fun σ H Q q => q
      · rename_i b b' _
        obtain rfl : b = b' := by simpa using hc
        exact PE.imp pe_int fun σ H Q q => q
      · rename_i b b' _
        obtain rfl : b = b' := by simpa using hc
        exact PE.imp pe_str fun σ H Q q => q
      · cases hc
    | _ => exact (Bool.false_ne_true hc).elim
  | fld g =>
    cases n with
    | none => exact (Bool.false_ne_true hc).elim
    | some jm =>
      obtain ⟨j, m⟩ := jm
      cases e with
      | Attribute o g' pos =>
        cases o with
        | Name y p =>
          simp only [chkHI, Bool.and_eq_true, decide_eq_true_eq] at hc
          obtain ⟨rfl, rfl, rfl, h4, h5⟩ := hc
          obtain ⟨T, xf, no, _⟩ := c.cls.ini x cn _ base hg
          refine PE.imp (pe_xf xf no hz hf (var rfl h4 h5)) ?_
          rintro σ H Q ⟨ec, ⟨j', ej, es⟩, dd, fs, v, e1, e2, e3, q⟩
          cases ej
          exact ⟨_, es, rfl, ec, dd, fs, v, e1, e2, e3, q⟩
        | _ => simp [chkHI] at hc
      | _ => simp [chkHI] at hc
  | isx b k =>
    cases n with
    | none => exact (Bool.false_ne_true hc).elim
    | some jm =>
      obtain ⟨j, m⟩ := jm
      cases e with
      | Call fe l ks pos =>
        cases fe with
        | Name z zp =>
          rcases l with _ | ⟨e1, _ | ⟨e2, _ | ⟨_, _⟩⟩⟩
          · simp [chkHI] at hc
          · cases e1 <;> simp [chkHI] at hc
          · cases e1 with
            | Name y yp =>
              cases e2 with
              | Name t tp =>
                cases ks with
                | cons _ _ => simp [chkHI] at hc
                | nil =>
                  simp only [chkHI, Bool.and_eq_true, decide_eq_true_eq, beq_iff_eq] at hc
                  obtain ⟨rfl, h2, rfl, h4, h5, rfl, h7, h8, rfl⟩ := hc
                  have hb : b ∈ isaNames := by simpa using h8
                  obtain ⟨b1, b2⟩ := a6 b hb
                  have bt : bootBuiltins (Str.ofString b) = some (.type b) ∧ (Str.ofString b == ("__debug__" : Str)) = false ∧ Str.ofString b ≠ "__name__" := by
                    unfold isaNames at hb
                    simp only [List.mem_cons, List.not_mem_nil, or_false] at hb
                    rcases hb with rfl | rfl
                    · exact ⟨PyProof.Rows.Boot.«ValueError», by decide, by decide⟩
                    · exact ⟨PyProof.Rows.Boot.«LookupError», by decide, by decide⟩
                  have gl : ∀ {w : Str}, glB sd.sc w = true → Gl (X.suite a ((a, oe) :: pn)) w := fun {w} hw => gl_of (X := X) c.cx.sc hw
                  refine ⟨fun pins s σ H Q I q => ?_⟩
                  obtain ⟨rfl, ⟨j', ej, es⟩, dx, q⟩ := q
                  cases ej
                  refine (pe_callB (X := X.suite a ((a, oe) :: pn)) (RX.call_isX a4 hz hf) (gl h2) (c.cx.blt _ (by decide)) PyProof.Rows.boot_isinstance
                    (pa_cons (var rfl h4 h5) (pa_cons (pe_bltn (v := .ty b) (gl h7) b1 bt.1 rfl bt.2.2 bt.2.1) pa_nil))).run pins s σ H Q I ?_
                  exact ⟨.ref a, es, b, _, rfl, b2, dx, q⟩
              | _ => simp [chkHI] at hc
            | _ => simp [chkHI] at hc
          · simp [chkHI] at hc
        | _ => simp [chkHI] at hc
      | _ => simp [chkHI] at hc
def tHIs (K : Fg) (C a : Addr) (cls : Value) (d : Option Addr) (j : Option Nat) : List HI → TA
  | [] => tNil
  | h :: hs => tCons (tHI K C a cls d j h) (tHIs K C a cls d j hs)
theorem his_ok (c : StC V1 E sd X) {x : Str} {cn : Nat} {f : Option Str} {base : String} (hg : V1.GT x = some (.cls cn f base)) {n : Option (Nat × Str)} (hn : ∀ j m, n = some (j, m) → sd.N[j]? = some m) (a : Addr) (oe : Obj) (cls : Value) (d : Option Addr) (pn : List (Addr × Obj)) (hz : Zc cls d oe) (hf : ∃ vs, oe.data = .fields vs) :
    ∀ {hs : List HI} {es : List Expr}, chkHIs V1.GT sd n f base hs es = true → PA (X.suite a ((a, oe) :: pn)) es (tHIs X.K (He.ga X.K x) a cls d (n.map (·.1)) hs)
  | [], [], _ => pa_nil
  | [], _ :: _, h => by simp [chkHIs] at h
  | _ :: _, [], h => by simp [chkHIs] at h
  | h :: hs, e :: es, hc => by
    simp only [chkHIs, Bool.and_eq_true] at hc
    exact pa_cons (hi_ok c hg hn hc.1 a oe cls d pn hz hf) (his_ok c hg hn a oe cls d pn hz hf hc.2.2) (star_of ((Bool.not_eq_true' _).mp hc.2.1))
/-- a suite's value -/
def tHV (K : Fg) (C a : Addr) (cls : Value) (d : Option Addr) (j : Option Nat) (dh : HD) : TE := match dh.lst, dh.its with
  | true, its => tLst (tHIs K C a cls d j its)
  | false, [h] => tHI K C a cls d j h
  | false, _ => fun _ _ _ => False
/-- a suite -/
def tHD (K : Fg) (C : Addr) (j : Option Nat) (dh : HD) : RX.SuT := fun a cls d => match dh.to with
  | none => tRet (tHV K C a cls d j dh)
  | some i => tAsg (tHV K C a cls d j dh) (gName i)
theorem hv_ok (c : StC V1 E sd X) {x : Str} {cn : Nat} {f : Option Str} {base : String} (hg : V1.GT x = some (.cls cn f base)) {n : Option (Nat × Str)} (hn : ∀ j m, n = some (j, m) → sd.N[j]? = some m) (a : Addr) (oe : Obj) (cls : Value) (d : Option Addr) (pn : List (Addr × Obj)) (hz : Zc cls d oe) (hf : ∃ vs, oe.data = .fields vs)
    {dh : HD} {e : Expr} (hc : chkHV V1.GT sd n f base dh.lst dh.its e = true) : PE (X.suite a ((a, oe) :: pn)) e (tHV X.K (He.ga X.K x) a cls d (n.map (·.1)) dh) := by
  obtain ⟨c0, n0, nm0, to0, l0, its⟩ := dh
  cases l0 with
  | true =>
    cases e with
    | List es pos => exact pe_lst (his_ok c hg hn a oe cls d pn hz hf hc)
    | _ => exact (Bool.false_ne_true hc).elim
  | false =>
    rcases its with _ | ⟨h, _ | ⟨_, _⟩⟩
    · exact (Bool.false_ne_true hc).elim
    · exact hi_ok c hg hn hc a oe cls d pn hz hf
    · exact (Bool.false_ne_true hc).elim
theorem chkN_of {sd : SD} {n : Option Str} {i : Option Nat} {nn : Option (Nat × Str)} (h : chkN sd n i = some nn) : nn.map (·.1) = i ∧ nn.map (·.2) = n ∧ ∀ j m, nn = some (j, m) → sd.N[j]? = some m ∧ sd.sc.names.lookup m = some .local := by
  cases n with
  | none =>
    cases i with
    | none => cases h; exact ⟨rfl, rfl, fun j m e => by cases e⟩
    | some _ => cases h
  | some n =>
    cases i with
    | none => cases h
    | some j =>
      have h : (if decide (sd.N[j]? = some n) && (match sd.sc.names.lookup n with
        | some .local => true
        | _ => false) then some (some (j, n)) else none) = some nn := h
      by_cases hc : (decide (sd.N[j]? = some n) && (match sd.sc.names.lookup n with
        | some .local => true
        | _ => false)) = true
      · rw [if_pos hc] at h
        cases h
        simp only [Bool.and_eq_true, decide_eq_true_eq] at hc
        obtain ⟨h1, h2⟩ := hc
        refine ⟨rfl, rfl, fun j m e => ?_⟩
        cases e
        refine ⟨h1, ?_⟩
        split at h2
        · assumption
        · cases h2
      · rw [if_neg hc] at h
        cases h
def okI (j : Option Nat) (f : Option Str) : HI → Prop
  | .lit w => flatW w = true
  | .fld g => f = some g ∧ j.isSome = true
  | .isx _ _ => j.isSome = true
theorem okI_of {GT : Str → Option GK} {sd : SD} {n : Option (Nat × Str)} {f : Option Str} {base : String} {h : HI} {e : Expr} (hc : chkHI GT sd n f base h e = true) : okI (n.map (·.1)) f h := by
  cases h with
  | lit w =>
    cases e with
    | Constant cc k pos =>
      have hc : litB w cc = true := hc
      unfold litB at hc
      split at hc <;> first | rfl | cases hc
    | _ => exact (Bool.false_ne_true hc).elim
  | fld g =>
    cases n with
    | none => exact (Bool.false_ne_true hc).elim
    | some jm =>
      cases e with
      | Attribute o g' pos =>
        cases o with
        | Name y p =>
          simp only [chkHI, Bool.and_eq_true, decide_eq_true_eq] at hc
          exact ⟨hc.2.2.1, rfl⟩
        | _ => simp [chkHI] at hc
      | _ => simp [chkHI] at hc
  | isx b k =>
    cases n with
    | none => exact (Bool.false_ne_true hc).elim
    | some jm => rfl
theorem okIs_of {GT : Str → Option GK} {sd : SD} {n : Option (Nat × Str)} {f : Option Str} {base : String} : ∀ {hs : List HI} {es : List Expr}, chkHIs GT sd n f base hs es = true → ∀ h ∈ hs, okI (n.map (·.1)) f h
  | [], _, _ => fun h hm => by cases hm
  | _ :: _, [], hc => by simp [chkHIs] at hc
  | h :: hs, e :: es, hc => by
    simp only [chkHIs, Bool.and_eq_true] at hc
    intro h' hm
    rcases List.mem_cons.mp hm with z | z
    · rw [z]; exact okI_of hc.1
    · exact okIs_of hc.2.2 h' z
theorem okV_of {GT : Str → Option GK} {sd : SD} {n : Option (Nat × Str)} {f : Option Str} {base : String} {lst : Bool} {its : List HI} {e : Expr} (hc : chkHV GT sd n f base lst its e = true) : ∀ h ∈ its, okI (n.map (·.1)) f h := by
  cases lst with
  | true =>
    cases e with
    | List es pos => exact okIs_of hc
    | _ => exact (Bool.false_ne_true hc).elim
  | false =>
    rcases its with _ | ⟨h, _ | ⟨_, _⟩⟩
    · exact (Bool.false_ne_true hc).elim
    · intro h' hm
      rw [List.mem_singleton.mp hm]
      exact okI_of (GT := GT) hc
    · exact (Bool.false_ne_true hc).elim
theorem okS_of {GT : Str → Option GK} {sd : SD} {n : Option (Nat × Str)} {f : Option Str} {base : String} {d : HD} {st : Stmt} (hc : chkHS GT sd n f base d st = true) : ∀ h ∈ d.its, okI (n.map (·.1)) f h := by
  unfold chkHS at hc
  split at hc
  · split at hc
    · exact okV_of hc
    · cases hc
  · split at hc
    · simp only [Bool.and_eq_true] at hc
      exact okV_of hc.2.2.2
    · cases hc
/-- the clauses, as the rule wants them -/
theorem hds_ok (c : StC V1 E sd X) : ∀ {hs : List HD} {hds : List ExceptHandler}, chkH V1.GT sd hs hds = true → ∃ xs : List Str, RX.Hds X hds ((hs.zip xs).map fun q => (.ref (He.ga X.K q.2), q.1.nm, tHD X.K (He.ga X.K q.2) q.1.nm q.1)) ∧
    xs.length = hs.length ∧ ∀ q ∈ hs.zip xs, ∃ f base, V1.GT q.2 = some (.cls q.1.c f base) ∧ q.1.n = (match f with
      | some _ => 1
      | none => 0) ∧ ∀ h ∈ q.1.its, okI q.1.nm f h
  | [], [], _ => ⟨[], .nil, rfl, fun q hq => by cases hq⟩
  | [], _ :: _, h => by simp [chkH] at h
  | _ :: _, [], h => by simp [chkH] at h
  | dh :: hs, hd :: hds, h => by
    simp only [chkH, Bool.and_eq_true] at h
    obtain ⟨h1, h2⟩ := h
    obtain ⟨xs, hk, hl, hm⟩ := hds_ok c h2
    obtain ⟨t, n, body, pos⟩ := hd
    cases t with
    | none => simp [chkH1] at h1
    | some t =>
      cases t with
      | Name x xp =>
        rcases body with _ | ⟨st, _ | ⟨_, _⟩⟩
        · simp [chkH1] at h1
        · simp only [chkH1, Bool.and_eq_true] at h1
          obtain ⟨g1, g2, g3⟩ := h1
          split at g3
          · rename_i cn f base hg
            simp only [Bool.and_eq_true, beq_iff_eq] at g3
            obtain ⟨⟨hc1, hc2⟩, g3⟩ := g3
            subst hc1
            split at g3
            · rename_i nn hnn
              obtain ⟨e1, e2, e3⟩ := chkN_of hnn
              obtain ⟨a1, a2, a3, a4, a5, a6⟩ := c.cls.at_ x _ f base hg
              refine ⟨x :: xs, ?_, by simp [hl], ?_⟩
              · rw [List.zip_cons_cons, List.map_cons]
                refine .cons ⟨gl_of c.cx.sc g1, (ok_name g2).1, .inl a2⟩ ?_ (fun a oe cls d pn hz hf => ?_) hk
                · cases nn with
                  | none =>
                    have z1 : dh.nm = none := e1.symm
                    have z2 : n = none := e2.symm
                    rw [z1, z2]
                    exact True.intro
                  | some jm =>
                    have z1 : dh.nm = some jm.1 := e1.symm
                    have z2 : n = some jm.2 := e2.symm
                    rw [z1, z2]
                    obtain ⟨y1, y2⟩ := e3 jm.1 jm.2 rfl
                    exact ⟨c.at y1, by show X.env.scope.names.lookup _ = _; rw [c.cx.sc]; exact y2⟩
                · have hv := fun {e : Expr} (hc : chkHV V1.GT sd nn f base dh.lst dh.its e = true) => hv_ok c hg (fun j m e => (e3 j m e).1) a oe cls d pn hz hf hc
                  rw [e1] at hv
                  unfold chkHS at g3
                  show PSs _ [st] (tHD X.K (He.ga X.K x) dh.nm dh a cls d)
                  unfold tHD
                  cases hto : dh.to with
                  | none =>
                    rw [hto] at g3
                    cases st with
                    | Return e pos =>
                      cases e with
                      | none => exact (Bool.false_ne_true g3).elim
                      | some e => exact pss_one (ps_ret (hv g3))
                    | _ => exact (Bool.false_ne_true g3).elim
                  | some i =>
                    rw [hto] at g3
                    cases st with
                    | Assign ts e pos =>
                      rcases ts with _ | ⟨t, _ | ⟨_, _⟩⟩
                      · exact (Bool.false_ne_true g3).elim
                      · cases t with
                        | Name y yp =>
                          simp only [Bool.and_eq_true, decide_eq_true_eq] at g3
                          obtain ⟨y1, y2, y3, y4⟩ := g3
                          obtain ⟨l1, l2⟩ := c.cx.sto y y2
                          exact pss_one (ps_set (X := X.suite a ((a, oe) :: pn)) c.nd (c.at y1) l1 (hv y4) (no_swap y3) l2)
                        | _ => exact (Bool.false_ne_true g3).elim
                      · cases t <;> exact (Bool.false_ne_true g3).elim
                    | _ => exact (Bool.false_ne_true g3).elim
              · intro q hq
                rw [List.zip_cons_cons] at hq
                rcases List.mem_cons.mp hq with z | z
                · rw [z]
                  have := okS_of g3
                  rw [e1] at this
                  exact ⟨f, base, hg, hc2, this⟩
                · exact hm q z
            · cases g3
          · cases g3
        · simp [chkH1] at h1
      | _ => simp [chkH1] at h1
end
end RF
end
end
section
set_option Elab.async false
set_option linter.all false
set_option maxRecDepth 100000
set_option maxHeartbeats 4000000
/-! RG5: try .. except: the evaluator's clauses and the rule's. -/
noncomputable section
namespace RF
open PySem PySem.Spec PyProof.Rows L2
/-- the exception caught, as a clause meets it -/
structure At (K : Fg) (H : Hp) (L : List Addr) (C a : Addr) (cls : Value) (d : Option Addr) (f : Option Str) (ws : List W) (j : Option Nat) (σ : L2.St) : Prop where
  cls : cls = .ref C
  dx : RX.DictX H d
  fl : ∀ g, f = some g → ∃ dd v w, d = some dd ∧ H dd = some (.xd [(g, v)]) ∧ ws = [w] ∧ RW K H L w v
  nm : ∀ j', j = some j' → σ[j']? = some (some (.ref a))
section
variable {K : Fg} {H : Hp} {L : List Addr} {C a : Addr} {cls : Value} {d : Option Addr} {f : Option Str} {ws : List W} {j : Option Nat} {σ : L2.St}
theorem rw_flat {w : W} (h : flatW w = true) : RW K H L w (fV w) := by
  cases w with
  | non => exact .non
  | bl b => exact .bl b
  | int i => exact .int i
  | str x => exact .str x
  | _ => cases h
theorem hi_sem (A : At K H L C a cls d f ws j σ) {h : HI} {u : W} (ok : okI j f h) (e : hiW ws h = some u) : ∃ v, RW K H L u v ∧ ∀ Q : VK, Q v H → tHI K C a cls d j h σ H Q := by
  cases h with
  | lit w =>
    simp only [hiW, Option.some.injEq] at e
    subst e
    exact ⟨_, rw_flat ok, fun Q q => q⟩
  | fld g =>
    obtain ⟨ok1, ok2⟩ := ok
    obtain ⟨dd, v, w, e1, e2, e3, r⟩ := A.fl g ok1
    subst e3
    simp only [hiW, Option.some.injEq] at e
    subst e
    obtain ⟨j', ej⟩ := Option.isSome_iff_exists.mp ok2
    exact ⟨v, r, fun Q q => ⟨A.cls, ⟨j', ej, A.nm j' ej⟩, dd, _, v, e1, e2, by simp [List.lookup], q⟩⟩
  | isx b k =>
    simp only [hiW, Option.some.injEq] at e
    subst e
    obtain ⟨j', ej⟩ := Option.isSome_iff_exists.mp ok
    exact ⟨.bl k, .bl k, fun Q q => ⟨A.cls, ⟨j', ej, A.nm j' ej⟩, A.dx, q⟩⟩
theorem his_sem (A : At K H L C a cls d f ws j σ) : ∀ {hs : List HI} {us : List W}, (∀ h ∈ hs, okI j f h) → mapO (hiW ws) hs = some us → ∃ vs, RWs K H L us vs ∧ ∀ Q : List V → Hp → Prop, Q vs H → tHIs K C a cls d j hs σ H Q
  | [], us, _, e => by
    simp only [mapO, Option.some.injEq] at e
    subst e
    exact ⟨[], .nil, fun Q q => q⟩
  | h :: hs, us, ok, e => by
    simp only [mapO] at e
    split at e
    · rename_i y hy
      split at e
      · rename_i ys hys
        simp only [Option.some.injEq] at e
        subst e
        obtain ⟨v, r, hv⟩ := hi_sem A (ok h (List.mem_cons_self ..)) hy
        obtain ⟨vs, rs, hvs⟩ := his_sem A (fun h' hm => ok h' (List.mem_cons_of_mem _ hm)) hys
        exact ⟨v :: vs, .cons r rs, fun Q q => hv _ (hvs _ q)⟩
      · cases e
    · cases e
theorem hv_sem (A : At K H L C a cls d f ws j σ) {C0 : CH} (R : Rep K L C0 H) {dh : HD} {us : List W} {w : W} {C1 : CH} (ok : ∀ h ∈ dh.its, okI j f h) (e : mapO (hiW ws) dh.its = some us)
    (ev : hvW dh.lst us C0 = some (w, C1)) {Q : VK} (q : ∀ H' L' v, Ext H L H' L' → Rep K L' C1 H' → RW K H' L' w v → Q v H') : tHV K C a cls d j dh σ H Q := by
  obtain ⟨c0, n0, nm0, to0, l0, its⟩ := dh
  cases l0 with
  | true =>
    obtain ⟨vs, rs, hvs⟩ := his_sem A ok e
    have ev : (if short us then some (W.ref C0.n, C0.new (.lst us)) else none) = some (w, C1) := ev
    by_cases hs : short us = true
    · rw [if_pos hs] at ev
      cases ev
      have hl := short_le hs
      refine hvs _ ⟨by rw [rs.length]; have := sizeLine_eq; omega, fun p hp => ?_⟩
      have po : Post K H L (.ok (.ref C0.n) (C0.new (.lst us))) Q EF := q
      exact po.newLst R rs hp
    · rw [if_neg hs] at ev
      cases ev
  | false =>
    rcases its with _ | ⟨h, _ | ⟨_, _⟩⟩
    · simp only [mapO, Option.some.injEq] at e
      subst e
      cases ev
    · simp only [mapO] at e
      split at e
      · rename_i y hy
        simp only [Option.some.injEq] at e
        subst e
        cases ev
        obtain ⟨v, r, hv⟩ := hi_sem A (ok h (List.mem_cons_self ..)) hy
        exact hv Q (q H L v .refl R r)
      · cases e
    · simp only [mapO] at e
      split at e
      · split at e
        · rename_i ys hys
          split at hys
          · split at hys
            · simp only [Option.some.injEq] at hys e
              subst hys
              subst e
              cases ev
            · cases hys
          · cases hys
        · cases e
      · cases e
end
section
variable {V1 : Env1} {E : EX} {sd : SD} {X : Cx}
theorem RSt.none_ {K : Fg} {H : Hp} {L : List Addr} {s : St} {σ : L2.St} (r : RSt K H L s σ) (j : Nat) (o : Option V) : RSt K H L (s.set j none) (σ.set j o) := by
  refine ⟨by rw [List.length_set, List.length_set, r.len], fun i u hi => ?_⟩
  by_cases e : j = i
  · subst e
    by_cases hj : j < s.length
    · rw [List.getElem?_set_self hj] at hi; cases hi
    · rw [List.getElem?_eq_none (by rw [List.length_set]; omega)] at hi; cases hi
  · rw [List.getElem?_set_ne e] at hi
    rw [List.getElem?_set_ne e]
    exact r.at_ i u hi
/-- an exception of the class x (number cn) meets the clauses -/
theorem mix_ok (c : StC V1 E sd X) {XE : XK} {cn : Nat} {x : Str} {f : Option Str} {base : String} (hg : V1.GT x = some (.cls cn f base)) {d : Option Addr} {ws : List W} {C1 : CH} {s : St} {D : Ends} {H H0 : Hp} {L L0 : List Addr} {σ : L2.St} {vs : List V} (R0 : Rep X.K L0 C1 H0) (e0 : Ext H0 L0 H L)
    (R : Rep X.K L C1 H) (S : RSt X.K H L s σ) (dx : RX.DictX H d) (fl : ∀ g, f = some g → ∃ dd v w, d = some dd ∧ H dd = some (.xd [(g, v)]) ∧ ws = [w] ∧ RW X.K H L w v)
    (wout : E cn vs H0 → XE (.ref (He.ga X.K x)) d H) (rs : RWs X.K H0 L0 ws vs) : ∀ {hs : List HD} {xs : List Str}, xs.length = hs.length →
    (∀ q ∈ hs.zip xs, ∃ f base, V1.GT q.2 = some (.cls q.1.c f base) ∧ q.1.n = (match f with
      | some _ => 1
      | none => 0) ∧ ∀ h ∈ q.1.its, okI q.1.nm f h) → PostS X.K H0 L0 (hdW hs cn ws s C1) D E →
    RX.wMix X.K (fun cls d _ H => XE cls d H) D ((hs.zip xs).map fun q => (.ref (He.ga X.K q.2), q.1.nm, tHD X.K (He.ga X.K q.2) q.1.nm q.1)) (.ref (He.ga X.K x)) d σ H
  | [], _, _, _, q => wout (q H0 L0 vs .refl R0 rs)
  | dh :: hs, [], hl, _, _ => by simp at hl
  | dh :: hs, y :: xs, hl, hm, q => by
    rw [List.zip_cons_cons, List.map_cons]
    obtain ⟨g, base2, hy, hn, hok⟩ := hm (dh, y) (by rw [List.zip_cons_cons]; exact List.mem_cons_self ..)
    refine ⟨cn == dh.c, c.cls.ex x cn f base y dh.c g base2 hg hy, fun hk a na => ?_, fun hk => ?_⟩
    · have e : dh.c = cn := (beq_iff_eq.mp hk).symm
      have q := PostS.ext e0 q
      have q : PostS X.K H L (match dh.c == cn with
        | true => (match (if ws.length == dh.n && okNm dh.nm s then mapO (hiW ws) dh.its else none) with
          | some us => (match hvW dh.lst us C1 with
            | some (w, h1) => (match dh.to with
              | none => .rt w h1
              | some i => if Nat.blt i s.length then (match dh.nm with
                | none => .nx (s.set i (some w)) h1
                | some j => if i == j then .bad else .nx ((s.set i (some w)).set j none) h1) else .bad)
            | none => .bad)
          | none => .bad)
        | false => hdW hs cn ws s C1) D E := q
      rw [e, beq_self_eq_true] at q
      simp only at q
      -- one class, one name
      have same : g = f ∧ y = x := by
        obtain ⟨b1, _⟩ := c.cls.at_ x cn f base hg
        obtain ⟨b2, _⟩ := c.cls.at_ y dh.c g base2 hy
        rw [e, b1] at b2
        cases b2
        exact ⟨rfl, rfl⟩
      obtain ⟨rfl, rfl⟩ := same
      split at q
      · rename_i us hus
        have hus : mapO (hiW ws) dh.its = some us ∧ okNm dh.nm s = true := by
          by_cases hz : (ws.length == dh.n && okNm dh.nm s) = true
          · rw [if_pos hz] at hus; exact ⟨hus, (Bool.and_eq_true_iff.mp hz).2⟩
          · rw [if_neg hz] at hus; cases hus
        obtain ⟨hus, hnm⟩ := hus
        split at q
        · rename_i w C2 hev
          have A : At X.K H L (He.ga X.K y) a (.ref (He.ga X.K y)) d g ws dh.nm (RX.inOf dh.nm a σ) := by
            refine ⟨rfl, dx, fl, fun j' ej => ?_⟩
            rw [ej] at hnm ⊢
            show (σ.set j' (some (.ref a)))[j']? = _
            exact List.getElem?_set_self (by rw [S.len]; exact Nat.le_of_ble_eq_true hnm)
          have hok : ∀ h ∈ dh.its, okI dh.nm g h := hok
          show tHD X.K (He.ga X.K y) dh.nm dh a (.ref (He.ga X.K y)) d (RX.outOf dh.nm D) (RX.inOf dh.nm a σ) H
          unfold tHD
          cases hto : dh.to with
          | none =>
            rw [hto] at q
            have er : (RX.outOf dh.nm D).rt = D.rt := by cases dh.nm <;> rfl
            show tHV X.K (He.ga X.K y) a (.ref (He.ga X.K y)) d dh.nm dh (RX.inOf dh.nm a σ) H (RX.outOf dh.nm D).rt
            rw [er]
            exact hv_sem A R hok hus hev q
          | some i =>
            rw [hto] at q
            simp only at q
            refine hv_sem A R hok hus hev fun H' L' v e1 R1 r1 => ?_
            show (RX.outOf dh.nm D).nx ((RX.inOf dh.nm a σ).set i (some v)) H'
            by_cases hi : Nat.blt i s.length = true
            · rw [if_pos hi] at q
              cases hj : dh.nm with
              | none =>
                rw [hj] at q
                exact q H' L' _ e1 R1 ((S.ext e1).set i r1)
              | some j =>
                rw [hj] at q
                simp only at q
                by_cases ij : (i == j) = true
                · rw [if_pos ij] at q; exact q.elim
                · rw [if_neg ij] at q
                  have ne : j ≠ i := fun z => ij (by rw [z]; exact beq_self_eq_true i)
                  have e2 : (s.set i (some w)).set j none = ((s.set j none).set i (some w)).set j none := by
                    rw [List.set_comm _ _ ne, List.set_set]
                  rw [e2] at q
                  exact q H' L' _ e1 R1 ((((S.ext e1).none_ j _).set i r1).none_ j none)
            · rw [if_neg hi] at q; exact q.elim
        · exact q.elim
      · exact q.elim
    · have q : PostS X.K H0 L0 (match dh.c == cn with
        | true => _
        | false => hdW hs cn ws s C1) D E := q
      have e : (dh.c == cn) = false := by
        cases hb : dh.c == cn with
        | false => rfl
        | true =>
          rw [beq_iff_eq] at hb
          rw [hb, beq_self_eq_true] at hk
          cases hk
      rw [e] at q
      exact mix_ok c hg R0 e0 R S dx fl wout rs (by simpa using hl) (fun q hq => hm q (by rw [List.zip_cons_cons]; exact List.mem_cons_of_mem _ hq)) q
/-- how many arguments it has -/
theorem hd_len (c : StC V1 E sd X) {XE : XK} (ex : ∀ c vs H, E c vs H → V1.toE X.K XE c vs H) {cn : Nat} {ws : List W} {C1 : CH} {s : St} {D : Ends} {H : Hp} {L : List Addr} {vs : List V} (R : Rep X.K L C1 H) (rs : RWs X.K H L ws vs) : ∀ {hs : List HD} {xs : List Str}, xs.length = hs.length →
    (∀ q ∈ hs.zip xs, ∃ f base, V1.GT q.2 = some (.cls q.1.c f base) ∧ q.1.n = (match f with
      | some _ => 1
      | none => 0) ∧ ∀ h ∈ q.1.its, okI q.1.nm f h) → PostS X.K H L (hdW hs cn ws s C1) D E → ∃ x f base, V1.xs[cn]? = some (x, f) ∧ V1.GT x = some (.cls cn f base) ∧ ws.length = (match f with
      | some _ => 1
      | none => 0)
  | [], _, _, _, q => by
    have h := ex cn vs H (q H L vs .refl R rs)
    unfold Env1.toE toEx at h
    cases hx : V1.xs[cn]? with
    | none => rw [hx] at h; exact h.elim
    | some xf =>
      obtain ⟨x, f⟩ := xf
      rw [hx] at h
      obtain ⟨base, hg⟩ := c.cls.xs cn x f hx
      refine ⟨x, f, base, rfl, hg, ?_⟩
      rw [← rs.length]
      cases f with
      | none => rw [h.1]; rfl
      | some f => obtain ⟨v, e, _⟩ := h; rw [e]; rfl
  | dh :: hs, [], hl, _, _ => by simp at hl
  | dh :: hs, y :: xs, hl, hm, q => by
    obtain ⟨g, base2, hy, hn, hok⟩ := hm (dh, y) (by rw [List.zip_cons_cons]; exact List.mem_cons_self ..)
    cases e : dh.c == cn with
    | true =>
      have q : PostS X.K H L (match dh.c == cn with
        | true => (match (if ws.length == dh.n && okNm dh.nm s then mapO (hiW ws) dh.its else none) with
          | some us => _
          | none => .bad)
        | false => hdW hs cn ws s C1) D E := q
      rw [e] at q
      simp only at q
      rw [beq_iff_eq] at e
      obtain ⟨b2, _⟩ := c.cls.at_ y dh.c g base2 hy
      rw [e] at b2 hy
      refine ⟨y, g, base2, b2, hy, ?_⟩
      by_cases hz : (ws.length == dh.n && okNm dh.nm s) = true
      · rw [← hn]
        exact beq_iff_eq.mp (Bool.and_eq_true_iff.mp hz).1
      · rw [if_neg hz] at q
        exact q.elim
    | false =>
      have q : PostS X.K H L (match dh.c == cn with
        | true => _
        | false => hdW hs cn ws s C1) D E := q
      rw [e] at q
      exact hd_len c ex R rs (by simpa using hl) (fun q hq => hm q (by rw [List.zip_cons_cons]; exact List.mem_cons_of_mem _ hq)) q
theorem S.trys (hS : LenSet V1) (c : StC V1 E sd X) {b : CS} {hs : List HD} {st : Stmt} (h : chkS V1.GT (.trys b hs) sd st = true) : PS X st (tS X.K E (exs V1.run (.trys b hs))) := by
  obtain ⟨XE, tk, ex⟩ := c.air
  cases st with
  | Try bd hds oe fe pos =>
    cases oe with
    | cons _ _ => simp [chkS] at h
    | nil =>
      cases fe with
      | cons _ _ => simp [chkS] at h
      | nil =>
        simp only [chkS, Bool.and_eq_true] at h
        obtain ⟨h1, h2, h3, h4⟩ := h
        have hp : plainS b = true := (Bool.and_eq_true_iff.mp h1).1
        cases hds with
        | nil =>
          cases hs with
          | nil => cases h3
          | cons _ _ => simp [chkH] at h4
        | cons h0 hds =>
          obtain ⟨xs, hk, hl, hm⟩ := hds_ok c h4
          refine PS.imp (RX.ps_try_mix (tb := fun W => tSs X.K (eOf V1 X.K W) (exs V1.run b)) c.stk c.frm c.nd tk (fun W pn xe tk' pass => ?_) hk) ?_
          · exact body_ok hS (c.tr tk') hp h1 h2
          · rintro D σ H ⟨L, C, s, R, S, q⟩
            have q : PostS X.K H L (match plainS b with
              | true => (match exs V1.run b s C with
                | .exc c ws h1 => hdW hs c ws s h1
                | r => r)
              | false => .bad) D E := q
            rw [hp] at q
            refine ⟨L, C, s, R, S, ?_⟩
            simp only at q
            cases hb : exs V1.run b s C with
            | exc cn ws C1 =>
              rw [hb] at q
              intro H' L' vs e1 R1 rs
              have q1 := PostS.ext e1 q
              obtain ⟨x, f, base, hx, hg, hn⟩ := hd_len c ex R1 rs hl hm q1
              unfold eOf Env1.toE toEx
              rw [hx]
              cases f with
              | none =>
                have hv : vs = [] := List.length_eq_zero_iff.mp (by rw [rs.length, hn])
                subst hv
                refine ⟨rfl, mix_ok (d := none) c hg R1 .refl R1 (S.ext e1) True.intro (fun g e => by cases e) (fun w => ?_) rs hl hm q1⟩
                have := ex cn [] H' w
                unfold Env1.toE toEx at this
                rw [hx] at this
                exact this.2
              | some f =>
                rcases ws with _ | ⟨w, _ | ⟨_, _⟩⟩
                · cases hn
                · obtain ⟨v, rfl, rv⟩ := rw_one rs
                  refine ⟨v, rfl, fun dd hd => ?_⟩
                  have e2 : Ext H' L' (upd H' dd (.xd [(f, v)])) L' := Ext.fresh hd
                  refine mix_ok (d := some dd) c hg R1 e2 (R1.fresh hd) ((S.ext e1).ext e2) ⟨_, upd_same⟩ (fun g e => ?_) (fun w => ?_) rs hl hm q1
                  · cases e
                    exact ⟨dd, v, w, rfl, upd_same, rfl, rv.ext e2⟩
                  · have := ex cn [v] H' w
                    unfold Env1.toE toEx at this
                    rw [hx] at this
                    obtain ⟨v', e', w'⟩ := this
                    cases e'
                    exact w' dd hd
                · cases hn
            | nx s1 C1 => rw [hb] at q; exact q
            | rt w C1 => rw [hb] at q; exact q
            | bk s1 C1 => rw [hb] at q; exact q
            | ct s1 C1 => rw [hb] at q; exact q
            | bad => rw [hb] at q; exact q
  | _ => simp [chkS] at h
end
end RF
end
end
section
set_option Elab.async false
set_option linter.all false
set_option maxRecDepth 100000
set_option maxHeartbeats 4000000
/-! RG6: all statements. -/
noncomputable section
namespace RF
open PySem PySem.Spec PyProof.Rows L2
section
variable {V1 : Env1} {E : EX} {sd : SD} {X : Cx}
/-- a statement; a block -/
structure GoodS (V1 : Env1) (E : EX) (sd : SD) (X : Cx) (c : CS) : Prop where
  ps : ∀ st, chkS V1.GT c sd st = true → PS X st (tS X.K E (exs V1.run c))
  pss : ∀ ss, chkB V1.GT c sd ss = true → PSs X ss (tS X.K E (exs V1.run c))
theorem goodS (hS : LenSet V1) (cx : StC V1 E sd X) : ∀ c : CS, GoodS V1 E sd X c := by
  intro c
  induction c with
  | nil =>
    refine ⟨fun st h => (Bool.false_ne_true h).elim, fun ss h => ?_⟩
    cases ss with
    | cons _ _ => exact (Bool.false_ne_true h).elim
    | nil =>
      refine PSs.imp pss_nil ?_
      rintro D σ H ⟨L, C, s, R, S, q⟩
      exact q H L σ .refl R S
  | cons a b ga gb =>
    refine ⟨fun st h => (Bool.false_ne_true h).elim, fun ss h => ?_⟩
    cases ss with
    | nil => exact (Bool.false_ne_true h).elim
    | cons st ss =>
      simp only [chkB, Bool.and_eq_true] at h
      refine PSs.imp (pss_cons (ga.ps st h.1) (gb.pss ss h.2)) ?_
      rintro D σ H ⟨L, C, s, R, S, q⟩
      have q : PostS X.K H L (match exs V1.run a s C with
        | .nx s1 h1 => exs V1.run b s1 h1
        | r => r) D E := q
      refine ⟨L, C, s, R, S, ?_⟩
      cases hf : exs V1.run a s C with
      | nx s1 C1 => rw [hf] at q; exact fun H1 L1 σ1 e1 R1 S1 => ⟨L1, C1, s1, R1, S1, PostS.ext e1 q⟩
      | rt w C3 => rw [hf] at q; exact q
      | bk s3 C3 => rw [hf] at q; exact q
      | ct s3 C3 => rw [hf] at q; exact q
      | exc c ws C3 => rw [hf] at q; exact q
      | bad => rw [hf] at q; exact q
  | set i e => exact ⟨fun st h => S.set hS cx h, fun ss h => (Bool.false_ne_true h).elim⟩
  | pat p e => exact ⟨fun st h => S.pat hS cx h, fun ss h => (Bool.false_ne_true h).elim⟩
  | par is es => exact ⟨fun st h => S.par hS cx h, fun ss h => (Bool.false_ne_true h).elim⟩
  | ixset o i e => exact ⟨fun st h => S.ixset hS cx h, fun ss h => (Bool.false_ne_true h).elim⟩
  | ix2 o1 i1 o2 i2 e => exact ⟨fun st h => S.ix2 hS cx h, fun ss h => (Bool.false_ne_true h).elim⟩
  | expr e => exact ⟨fun st h => S.expr hS cx h, fun ss h => (Bool.false_ne_true h).elim⟩
  | ret e => exact ⟨fun st h => S.ret hS cx h, fun ss h => (Bool.false_ne_true h).elim⟩
  | retN =>
    refine ⟨fun st h => ?_, fun ss h => (Bool.false_ne_true h).elim⟩
    cases st with
    | Return e pos =>
      cases e with
      | some _ => exact (Bool.false_ne_true h).elim
      | none =>
        refine PS.imp ps_retN ?_
        rintro D σ H ⟨L, C, s, R, S, q⟩
        exact q H L .non .refl R .non
    | _ => exact (Bool.false_ne_true h).elim
  | ifs ce a b ga gb => exact ⟨fun st h => S.ifs hS cx ga.pss gb.pss h, fun ss h => (Bool.false_ne_true h).elim⟩
  | loop k args p body gb => exact ⟨fun st h => S.loop hS cx k gb.pss h, fun ss h => (Bool.false_ne_true h).elim⟩
  | wh ce body gb => exact ⟨fun st h => S.wh hS cx gb.pss h, fun ss h => (Bool.false_ne_true h).elim⟩
  | pass =>
    refine ⟨fun st h => ?_, fun ss h => (Bool.false_ne_true h).elim⟩
    cases st with
    | Pass pos =>
      refine PS.imp ps_pass ?_
      rintro D σ H ⟨L, C, s, R, S, q⟩
      exact q H L σ .refl R S
    | _ => exact (Bool.false_ne_true h).elim
  | brk =>
    refine ⟨fun st h => ?_, fun ss h => (Bool.false_ne_true h).elim⟩
    cases st with
    | Break pos =>
      refine PS.imp ps_break ?_
      rintro D σ H ⟨L, C, s, R, S, q⟩
      exact q H L σ .refl R S
    | _ => exact (Bool.false_ne_true h).elim
  | cont =>
    refine ⟨fun st h => ?_, fun ss h => (Bool.false_ne_true h).elim⟩
    cases st with
    | Continue pos =>
      refine PS.imp ps_continue ?_
      rintro D σ H ⟨L, C, s, R, S, q⟩
      exact q H L σ .refl R S
    | _ => exact (Bool.false_ne_true h).elim
  | raise c es => exact ⟨fun st h => S.raise hS cx h, fun ss h => (Bool.false_ne_true h).elim⟩
  | loopK i p body gb => exact ⟨fun st h => S.loopK hS cx gb.pss h, fun ss h => (Bool.false_ne_true h).elim⟩
  | trys b hs _ => exact ⟨fun st h => S.trys hS cx h, fun ss h => (Bool.false_ne_true h).elim⟩
end
end RF
end
end
section
set_option Elab.async false
set_option linter.all false
set_option maxRecDepth 100000
set_option maxHeartbeats 4000000
noncomputable section
namespace RF
open PySem PySem.Spec PyProof.Rows L2
theorem look_zip : ∀ {ns : List Str} {us : List Value}, ns.Nodup → us.length = ns.length → ns.filterMap (fun n => ((ns.zip us).lookup n).map fun v => (n, v)) = ns.zip us := by
  have key : ∀ {ns : List Str} {us : List Value} {pre : List Str} {pv : List Value}, (pre ++ ns).Nodup → pv.length = pre.length → us.length = ns.length → ns.filterMap (fun n => (((pre ++ ns).zip (pv ++ us)).lookup n).map fun v => (n, v)) = ns.zip us := by
    intro ns
    induction ns with
    | nil => intro us pre pv _ _ _; cases us <;> rfl
    | cons n ns ih =>
      intro us pre pv hd hp hl
      cases us with
      | nil => cases hl
      | cons u us =>
        have hno : n ∉ pre := fun h => by
          have := List.nodup_append.mp hd
          exact this.2.2 n h n (List.mem_cons_self ..) rfl
        have hlk : ((pre ++ n :: ns).zip (pv ++ u :: us)).lookup n = some u := by
          clear ih hl hd
          induction pre generalizing pv with
          | nil => cases pv with
            | nil => simp [List.lookup]
            | cons _ _ => cases hp
          | cons m pre ih2 =>
            cases pv with
            | nil => cases hp
            | cons w pv =>
              have hne : (n == m) = false := by
                cases e : n == m with
                | false => rfl
                | true => rw [beq_iff_eq] at e; subst e; exact absurd (List.mem_cons_self ..) hno
              rw [List.cons_append, List.cons_append, List.zip_cons_cons, List.lookup_cons, hne]
              exact ih2 (by simpa using hp) fun h => hno (List.mem_cons_of_mem _ h)
        rw [List.filterMap_cons, hlk]
        have := ih (us := us) (pre := pre ++ [n]) (pv := pv ++ [u]) (by simpa using hd) (by simp [hp]) (by simpa using hl)
        simp only [List.append_assoc, List.singleton_append, List.cons_append, List.nil_append] at this
        rw [this]
        rfl
  intro ns us hd hl
  simpa using key (ns := ns) (us := us) (pre := []) (pv := []) (by simpa using hd) rfl hl
theorem look_some {ns : List Str} {us : List Value} (hl : us.length = ns.length) {n : Str} (h : n ∈ ns) : (((ns.zip us).lookup n).isNone) = false := by
  induction ns generalizing us with
  | nil => cases h
  | cons m ns ih =>
    cases us with
    | nil => cases hl
    | cons u us =>
      rw [List.zip_cons_cons, List.lookup_cons]
      cases e : n == m with
      | true => rfl
      | false =>
        refine ih (by simpa using hl) ?_
        rcases List.mem_cons.mp h with z | z
        · subst z; simp at e
        · exact z
/-- plain parameters -/
structure PlainP (p : Arguments) : Prop where
  po : p.posonlyargs = []
  va : p.vararg = none
  kw : p.kwonlyargs = []
  ka : p.kwarg = none
  nd : (p.args.map (·.arg)).Nodup
theorem bind_plain {x q : Str} {p : Arguments} {body : List Stmt} {scope : Scope} {kV doc pm cdv ct : Value} {an : Option Addr} (h : PlainP p) {us : List Value} (hl : us.length = (p.args.map (·.arg)).length) :
    bindArgs (PySem.W.fnOf x q p body scope .none kV doc pm an cdv ct) ⟨us, []⟩ = pure ((p.args.map (·.arg)).zip us) := by
  obtain ⟨h1, h2, h3, h4, h5⟩ := h
  obtain ⟨po, as, va, kws, kd, ka, ds⟩ := p
  simp only at h1 h2 h3 h4 h5 hl
  subst h1 h2 h3 h4
  have hm : ((List.map (fun x => x.arg) as).filter fun n => (((as.map (·.arg)).zip us).lookup n).isNone) = [] := by
    rw [List.filter_eq_nil_iff]
    intro n hn
    rw [look_some hl hn]
    decide
  unfold bindArgs
  simp [PySem.W.fnOf, seqItems?, notAStandIn, hl, hm, look_zip h5 hl]
  refine (if_neg ?_).trans ?_
  · have e : List.take ((List.map (fun x => x.arg) ([] : List Arg) ++ List.map (fun x => x.arg) as).length - (List.drop ((#[] : Array Value).size - (List.map (fun x => x.arg) ([] : List Arg) ++ List.map (fun x => x.arg) as).length) ([] : List Value)).length) (List.map (fun x => x.arg) ([] : List Arg) ++ List.map (fun x => x.arg) as) = List.map (fun x => x.arg) as := by
      simp
      exact List.take_of_length_le (by simp)
    intro hh
    rw [e, hm] at hh
    exact Bool.false_ne_true hh
  · rw [← List.filterMap_map, look_zip h5 hl]
/-! ### a text: its defs, its constants, its exceptions -/
structure TX where
  fs : List FD
  fn : List He.DefD
  Ns : List (List Str)
  cs : List (Str × Int)
  xs : List (Str × String × Option Str)
  ini : List (Str × He.DefD)
  kw : List (Nat × List (List Str × List Nat))
def psOf (D : He.DefD) : List Str := D.params.args.map (·.arg)
def ixFrom {α : Type} : Nat → List α → List (Nat × α)
  | _, [] => []
  | i, x :: r => (i, x) :: ixFrom (i + 1) r
theorem ix_mem {α : Type} : ∀ {l : List α} {i j : Nat} {x : α}, (j, x) ∈ ixFrom i l → i ≤ j ∧ l[j - i]? = some x
  | [], i, j, x, h => by cases h
  | y :: l, i, j, x, h => by
    rcases List.mem_cons.mp h with e | h
    · cases e; exact ⟨Nat.le_refl _, by simp⟩
    · obtain ⟨h1, h2⟩ := ix_mem h
      refine ⟨by omega, ?_⟩
      have e : j - i = (j - (i + 1)) + 1 := by omega
      rw [e]
      exact h2
def TX.kwOf (T : TX) (f : Nat) : List (List Str × List Nat) := (T.kw.lookup f).getD []
def TX.gl (T : TX) : List (Str × GK) := T.cs.map (fun p => (p.1, GK.int p.2)) ++ ((ixFrom 0 T.fn).map (fun p => (p.2.name, GK.fn p.1 (T.kwOf p.1))) ++ (ixFrom 0 T.xs).map (fun p => (p.2.1, GK.cls p.1 p.2.2.2 p.2.2.1)))
def TX.GT (T : TX) : Str → Option GK := fun x => T.gl.lookup x
theorem lookup_mem {β : Type} : ∀ {l : List (Str × β)} {x : Str} {v : β}, l.lookup x = some v → (x, v) ∈ l := fun h => lookup_mem' h
theorem lookup_of {β : Type} : ∀ {l : List (Str × β)} {x : Str} {v : β}, (l.map (·.1)).Nodup → (x, v) ∈ l → l.lookup x = some v
  | (y, w) :: l, x, v, hn, h => by
    rw [List.map_cons, List.nodup_cons] at hn
    rw [List.lookup_cons]
    rcases List.mem_cons.mp h with e | h2
    · cases e
      rw [beq_self_eq_true]
    · have ne : (x == y) = false := by
        cases e : x == y with
        | false => rfl
        | true =>
          rw [beq_iff_eq] at e
          subst e
          exact absurd (List.mem_map_of_mem (f := fun q : Str × β => q.1) h2) hn.1
      rw [ne]
      exact lookup_of hn.2 h2
theorem TX.int {T : TX} {x : Str} {i : Int} (h : T.GT x = some (.int i)) : (x, i) ∈ T.cs := by
  have := lookup_mem h
  unfold TX.gl at this
  rcases List.mem_append.mp this with q | q
  · obtain ⟨p, hp, e⟩ := List.mem_map.mp q
    cases e
    exact hp
  · rcases List.mem_append.mp q with q | q
    · obtain ⟨p, hp, e⟩ := List.mem_map.mp q
      cases e
    · obtain ⟨p, hp, e⟩ := List.mem_map.mp q
      cases e
theorem TX.fn_ {T : TX} {x : Str} {f : Nat} {kw : List (List Str × List Nat)} (h : T.GT x = some (.fn f kw)) : ∃ D, T.fn[f]? = some D ∧ D.name = x ∧ kw = T.kwOf f := by
  have := lookup_mem h
  unfold TX.gl at this
  rcases List.mem_append.mp this with q | q
  · obtain ⟨p, hp, e⟩ := List.mem_map.mp q
    cases e
  · rcases List.mem_append.mp q with q | q
    · obtain ⟨p, hp, e⟩ := List.mem_map.mp q
      cases e
      exact ⟨p.2, (ix_mem hp).2, rfl, rfl⟩
    · obtain ⟨p, hp, e⟩ := List.mem_map.mp q
      cases e
theorem TX.cls {T : TX} {x : Str} {c : Nat} {f : Option Str} {b : String} (h : T.GT x = some (.cls c f b)) : T.xs[c]? = some (x, b, f) := by
  have := lookup_mem h
  unfold TX.gl at this
  rcases List.mem_append.mp this with q | q
  · obtain ⟨p, hp, e⟩ := List.mem_map.mp q
    cases e
  · rcases List.mem_append.mp q with q | q
    · obtain ⟨p, hp, e⟩ := List.mem_map.mp q
      cases e
    · obtain ⟨p, hp, e⟩ := List.mem_map.mp q
      cases e
      exact (ix_mem hp).2
theorem ix_of {α : Type} : ∀ {l : List α} {i j : Nat} {x : α}, l[j]? = some x → (i + j, x) ∈ ixFrom i l
  | [], i, j, x, h => by simp at h
  | y :: l, i, 0, x, h => by
    simp only [List.getElem?_cons_zero, Option.some.injEq] at h
    subst h
    exact List.mem_cons_self ..
  | y :: l, i, j + 1, x, h => by
    have := ix_of (i := i + 1) (l := l) (j := j) (x := x) (by simpa using h)
    have e : i + (j + 1) = i + 1 + j := by omega
    rw [e]
    exact List.mem_cons_of_mem _ this
theorem TX.cls_of {T : TX} (hn : (T.gl.map (·.1)).Nodup) {c : Nat} {x : Str} {b : String} {f : Option Str} (h : T.xs[c]? = some (x, b, f)) : T.GT x = some (.cls c f b) := by
  refine lookup_of hn ?_
  unfold TX.gl
  refine List.mem_append_right _ (List.mem_append_right _ (List.mem_map.mpr ⟨(0 + c, (x, b, f)), ix_of h, ?_⟩))
  rw [Nat.zero_add]
/-- what the head is to tell -/
def TX.fa (T : TX) : List He.Fa := T.cs.map (fun p => He.Fa.int p.1 p.2) ++ (T.fn.map (fun D => He.Fa.glo D.name) ++ (freeNames.map He.Fa.free ++ (T.xs.map (fun p => He.Fa.glo p.1) ++ isaNames.map fun n => He.Fa.free (Str.ofString n))))
def TX.fns (T : TX) : List He.DefD := T.fn ++ T.ini.map (·.2)
def veTail : List Value := [.type "ValueError", .type "Exception", .type "BaseException", .type "object"]
def plainX (K : Fg) (C : Addr) (base : String) : Bool := if base == "ValueError" then PySem.W.excIn K C veTail "ValueError.__new__" else (if base == "LookupError" then PySem.W.excIn K C RX.leTail "LookupError.__new__" else false)
def initX (K : Fg) (x f : Str) : Bool := RX.inCB K (He.ga K x) && (xfB K (He.ga K x) && (decide (PySem.W.findIn K (.ref (He.ga K x)) f = some none) && (decide (PySem.W.findIn K (.ref (He.ga K x)) "__init__" = some (some (.ref (He.fAd K (x, some "__init__"))))) &&
  decide (PySem.W.typeIn K (.ref (He.fAd K (x, some "__init__"))) = some (.type "function")))))
def classX (K : Fg) (p : Str × String × Option Str) : Bool := PySem.W.keepIn K (.ref (He.ga K p.1)) && (RX.clsXB K (He.ga K p.1) && (decide (PySem.W.typeIn K (.ref (He.ga K p.1)) = some (.type "type")) &&
  (isaNames.all (fun n => decide (PySem.W.kitOne K (.ref (He.ga K p.1)) (.type n) = some (isaB p.2.1 n))) && (match p.2.2 with
    | none => plainX K (He.ga K p.1) p.2.1
    | some f => initX K p.1 f))))
def pairX (K : Fg) (xs : List (Nat × (Str × String × Option Str))) : Bool := xs.all fun p => xs.all fun q => decide (PySem.W.exmOne K (.ref (He.ga K p.2.1)) (.ref (He.ga K q.2.1)) = some (p.1 == q.1))
def leX (K : Fg) : Bool := match PySem.W.findCls K (.type "LookupError") (.type "type") "__init__" with
  | some (.val (.builtin n)) => n == "LookupError.__init__"
  | _ => false
/-- the further Bool of the head -/
def TX.exB (T : TX) (K : Fg) : Bool := T.xs.all (classX K) && (pairX K (ixFrom 0 T.xs) && leX K)
theorem leX_of {K : Fg} (h : leX K = true) : PySem.W.findCls K (.type "LookupError") (.type "type") "__init__" = some (.val (.builtin "LookupError.__init__")) := by
  unfold leX at h
  split at h
  · rename_i n e
    rw [beq_iff_eq] at h
    rw [e, h]
  · cases h
def noDoc : List Stmt → List Stmt
  | .Expr (.Constant (.str _) _ _) _ :: r => r
  | l => l
def plainB (p : Arguments) : Bool := p.posonlyargs.isEmpty && (p.vararg.isNone && (p.kwonlyargs.isEmpty && (p.kwarg.isNone && decide (p.args.map (·.arg)).Nodup)))
theorem plain_of {p : Arguments} (h : plainB p = true) : PlainP p := by
  unfold plainB at h
  simp only [Bool.and_eq_true, List.isEmpty_iff, Option.isNone_iff_eq_none, decide_eq_true_eq] at h
  exact ⟨h.1, h.2.1, h.2.2.1, h.2.2.2.1, h.2.2.2.2⟩
def scB (N ps : List Str) (sc : Scope) : Bool := decide (sc.kind = .function) && (!sc.isCoroutine && (!sc.isGenerator && (decide N.Nodup && (decide (N.take ps.length = ps) && (ps.all (fun x => match sc.names.lookup x with
  | some .local => true
  | some .cell => true
  | _ => false) && sc.names.all (fun y => match y.2 with
  | .free => false
  | _ => true))))))
theorem sc_of {N ps : List Str} {sc : Scope} (h : scB N ps sc = true) : FnScope N ps sc := by
  unfold scB at h
  simp only [Bool.and_eq_true, decide_eq_true_eq, Bool.not_eq_true', List.all_eq_true] at h
  obtain ⟨h1, h2, h3, h4, h5, h6, h7⟩ := h
  refine ⟨h1, h2, h3, h4, h5, fun x hx => ?_, fun y hy e => ?_⟩
  · have := h6 x hx
    split at this
    · rename_i e; exact .inl e
    · rename_i e; exact .inr e
    · cases this
  · have := h7 y hy
    rw [e] at this
    cases this
def okD (GT : Str → Option GK) (d : FD) (D : He.DefD) (N : List Str) : Bool :=
  (D.dfl.isEmpty && (D.kwd.isEmpty && (D.at_.2.isNone && decide (D.at_.1 = D.name)))) && (plainB D.params && (decide ((psOf D).length = d.np) && (decide (N.length = d.ns) && (scB N (psOf D) D.scope && chkB GT d.body ⟨N, D.scope, none⟩ (noDoc D.body)))))
def okAll (GT : Str → Option GK) : List FD → List He.DefD → List (List Str) → Bool
  | [], [], [] => true
  | d :: ds, D :: Ds, N :: Ns => okD GT d D N && okAll GT ds Ds Ns
  | _, _, _ => false
theorem ok_at {GT : Str → Option GK} : ∀ {ds : List FD} {Ds : List He.DefD} {Ns : List (List Str)}, okAll GT ds Ds Ns = true → ∀ {i : Nat} {D : He.DefD}, Ds[i]? = some D → ∃ d N, ds[i]? = some d ∧ Ns[i]? = some N ∧ okD GT d D N = true
  | d :: ds, D :: Ds, N :: Ns, h, 0, D', e => by
    simp only [okAll, Bool.and_eq_true] at h
    cases e
    exact ⟨d, N, rfl, rfl, h.1⟩
  | d :: ds, D :: Ds, N :: Ns, h, i + 1, D', e => by
    simp only [okAll, Bool.and_eq_true] at h
    exact ok_at h.2 (i := i) e
  | [], [], [], _, i, _, e => by simp at e
  | [], [], _ :: _, h, _, _, _ => by simp [okAll] at h
  | [], _ :: _, _, h, _, _, _ => by simp [okAll] at h
  | _ :: _, [], _, h, _, _, _ => by simp [okAll] at h
  | _ :: _, _ :: _, [], h, _, _, _ => by simp [okAll] at h
/-- an __init__ that keeps its one argument as f -/
def okIni (x f : Str) (D : He.DefD) : Bool := decide (D.at_ = (x, some ("__init__" : Str))) && (D.dfl.isEmpty && (D.kwd.isEmpty && (plainB D.params && (match D.params.args, D.body with
  | [s, p], [.Expr (.Call (.Attribute (.Name l _) g ap) [.Name s1 _, .JoinedStr [.Constant (.str m) _ _, .FormattedValue (.Name p1 _) cv none _] _] [] cp) _, .Assign [.Attribute (.Name s2 _) f2 _] (.Name p2 _) _] =>
    (ap.endLine == cp.line) && decide (l = "LookupError") && (decide (g = "__init__") && (decide (cv = -1) && (decide (s1 = s.arg) && (decide (s2 = s.arg) && (decide (p1 = p.arg) && (decide (p2 = p.arg) && (decide (f2 = f) && (Nat.ble m.length 1000 &&
      (glB D.scope "LookupError" && (visB D.scope s.arg && (visB D.scope p.arg && (okName s.arg && (okName p.arg && scB [s.arg, p.arg] [s.arg, p.arg] D.scope)))))))))))))
  | _, _ => false))))
/-- the classes with an __init__, their defs -/
def okIs : List (Str × String × Option Str) → List (Str × He.DefD) → Bool
  | [], [] => true
  | (_, _, none) :: xs, is => okIs xs is
  | (x, b, some f) :: xs, (y, D) :: is => decide (x = y) && (okIni x f D && okIs xs is)
  | _, _ => false
def TX.np (T : TX) (f : Nat) : Nat := match T.fs[f]? with
  | some d => d.np
  | none => 0
noncomputable def TX.V (T : TX) (P : Program) (w : World) (k : Nat) : Env1 := ⟨run T.fs k, T.GT, T.np, T.xs.map fun p => (p.1, p.2.2), L2.CX P w, fun _ _ _ _ _ h => by
  obtain ⟨a, B, H', cls, d, _, _, _, _, _, _, _, h⟩ := h
  exact h⟩
theorem run_np (T : TX) (k f : Nat) (es : List W) (C : CH) : run T.fs k f es C = .bad ∨ es.length = T.np f := by
  cases k with
  | zero => exact .inl rfl
  | succ k =>
    unfold run TX.np
    cases e : T.fs[f]? with
    | none => exact .inl rfl
    | some d =>
      simp only
      unfold body1
      by_cases h : (es.length == d.np) = true
      · exact .inr (beq_iff_eq.mp h)
      · rw [if_neg h]; exact .inl rfl
theorem rst_start {K : Fg} {H : Hp} {L : List Addr} {ws : List W} {vs : List V} {N : List Str} {n : Nat} (hn : N.length = n) (r : RWs K H L ws vs) : RSt K H L (ws.map some ++ List.replicate (n - ws.length) none) (L2.start N vs) := by
  unfold L2.start
  rw [hn, r.length]
  refine ⟨by simp [r.length], fun i w h => ?_⟩
  by_cases hi : i < ws.length
  · rw [List.getElem?_append_left (by simpa using hi), List.getElem?_map] at h
    cases e : ws[i]? with
    | none => rw [e] at h; cases h
    | some w' =>
      rw [e] at h
      simp only [Option.map_some, Option.some.injEq] at h
      subst h
      obtain ⟨v, h1, h2⟩ := r.get e
      refine ⟨v, ?_, h2⟩
      rw [List.getElem?_append_left (by rw [List.length_map, r.length]; exact hi), List.getElem?_map, h1]
      rfl
  · rw [List.getElem?_append_right (by simpa using Nat.le_of_not_lt hi)] at h
    have := List.mem_of_getElem? h
    rw [List.mem_replicate] at this
    cases this.2
theorem doc_ok {X : Cx} {body : List Stmt} {t : TS} (h : PSs X (noDoc body) t) : PSs X body t := by
  unfold noDoc at h
  split at h
  · exact PSs.imp (pss_cons ps_doc h) fun D σ H q => q
  · exact h
section
variable {P : Program} {w : World} {K : PySem.W.Frag} {mg : Str → Option Value} {base : Heap} {T : TX}
theorem fact_mem {fa : List He.Fa} {fn : List He.DefD} (c : He.SaysD fa fn K) {f : He.Fa} (h : f ∈ fa) : f.ok K = true := He.SaysD.facts c h
theorem fa_glo {D : He.DefD} (h : D ∈ T.fn) : He.Fa.glo D.name ∈ T.fa := List.mem_append_right _ (List.mem_append_left _ (List.mem_map.mpr ⟨D, h, rfl⟩))
theorem fa_free {x : Str} (h : x ∈ freeNames) : He.Fa.free x ∈ T.fa := List.mem_append_right _ (List.mem_append_right _ (List.mem_append_left _ (List.mem_map.mpr ⟨x, h, rfl⟩)))
theorem fa_cls {p : Str × String × Option Str} (h : p ∈ T.xs) : He.Fa.glo p.1 ∈ T.fa := List.mem_append_right _ (List.mem_append_right _ (List.mem_append_right _ (List.mem_append_left _ (List.mem_map.mpr ⟨p, h, rfl⟩))))
theorem fa_isa {n : String} (h : n ∈ isaNames) : He.Fa.free (Str.ofString n) ∈ T.fa := List.mem_append_right _ (List.mem_append_right _ (List.mem_append_right _ (List.mem_append_right _ (List.mem_map.mpr ⟨n, h, rfl⟩))))
theorem defs_glo (KX : K.In base) (G : base.Ns mainGlobals mg) (c : He.SaysD T.fa T.fns K) {f : Nat} {D : He.DefD} (hD : T.fn[f]? = some D) : mg D.name = some (.ref (He.ga K D.name)) :=
  He.glo_ok KX G (fact_mem c (fa_glo (List.mem_of_getElem? hD)))
abbrev FnD (K : Fg) (D : He.DefD) (fd : FuncData) : Prop := FunD K D.name D.qual D.params D.body D.scope [] [] (He.ga K D.name) fd
theorem defs_fd (hT : okAll T.GT T.fs T.fn T.Ns = true) (c : He.SaysD T.fa T.fns K) {f : Nat} {D : He.DefD} (hD : T.fn[f]? = some D) : PlainP D.params ∧ ∃ fd, FnD K D fd := by
  obtain ⟨d, N, hd, hN, ok⟩ := ok_at hT hD
  unfold okD at ok
  simp only [Bool.and_eq_true, List.isEmpty_iff, Option.isNone_iff_eq_none, decide_eq_true_eq] at ok
  obtain ⟨⟨o1, o2, o3, o4⟩, o5, o6, o7, o8, o9⟩ := ok
  obtain ⟨fd, F⟩ := He.SaysD.defs c (d := D) (List.mem_append_left _ (List.mem_of_getElem? hD))
  have ea : He.fAd K D.at_ = He.ga K D.name := by
    unfold He.fAd
    rw [o3, o4]
  have ed : D.dvs K = [] := by unfold He.DefD.dvs; rw [o1]; rfl
  have ek : D.kws K = [] := by unfold He.DefD.kws; rw [o2]; rfl
  rw [ea, ed, ek] at F
  exact ⟨plain_of o5, fd, F⟩
theorem FnD.bs {D : He.DefD} {fd : FuncData} (F : FnD K D fd) (h : PlainP D.params) : Binds K fd (psOf D) [] := F.bindsN fun kV doc pm an cdv ct us hl => bind_plain h hl
theorem FnD.bt {D : He.DefD} {fd : FuncData} (F : FnD K D fd) (h : PlainP D.params) (s : Shared) (us : List Value) (hl : us.length = (psOf D).length) : BindsTo s fd ⟨us, []⟩ ((psOf D).zip us) := F.bindsA (fun kV doc pm an cdv ct us hl => bind_plain h hl) s us hl
/-- the calls by keywords alone -/
def TX.KwO (T : TX) : Prop := ∀ f D, T.fn[f]? = some D → ∀ ks pm, (ks, pm) ∈ T.kwOf f → ∀ (kV doc pp : Value) (an : Option Addr) (cdv ct : Value) (ws us : List Value), ws.length = ks.length → mapO (fun i => ws[i]?) pm = some us →
  bindArgs (PySem.W.fnOf D.name D.qual D.params D.body D.scope .none kV doc pp an cdv ct) ⟨[], ks.zip ws⟩ = pure ((psOf D).zip us)
theorem FnD.kw {D : He.DefD} {fd : FuncData} (F : FnD K D fd) (hk : T.KwO) {f : Nat} (hD : T.fn[f]? = some D) {ks : List Str} {pm : List Nat} (h : (ks, pm) ∈ T.kwOf f) : KwP K fd (psOf D) ks pm := by
  obtain ⟨oc, od, dV, kV, doc, pp, an, cdv, ct, osl, rfl, lk, hcd, hD1, hK⟩ := F.ex
  rcases hD1 with ⟨_, rfl⟩ | ⟨e, _⟩
  · exact ⟨fun s ws us X hl hu => .of_eq (hk f D hD ks pm h kV doc pp an cdv ct ws us hl hu)⟩
  · exact absurd rfl e
theorem okIs_at : ∀ {xs : List (Str × String × Option Str)} {is : List (Str × He.DefD)}, okIs xs is = true → ∀ {p : Str × String × Option Str}, p ∈ xs → ∀ {f : Str}, p.2.2 = some f → ∃ D, (p.1, D) ∈ is ∧ okIni p.1 f D = true
  | [], _, _, p, hp, _, _ => by cases hp
  | (x, b, none) :: xs, is, h, p, hp, f, hf => by
    rcases List.mem_cons.mp hp with e | hp
    · rw [e] at hf; cases hf
    · exact okIs_at (xs := xs) (by simpa [okIs] using h) hp hf
  | (x, b, some g) :: xs, [], h, p, hp, f, hf => by simp [okIs] at h
  | (x, b, some g) :: xs, (y, D) :: is, h, p, hp, f, hf => by
    simp only [okIs, Bool.and_eq_true, decide_eq_true_eq] at h
    obtain ⟨rfl, h2, h3⟩ := h
    rcases List.mem_cons.mp hp with e | hp
    · rw [e] at hf ⊢
      cases hf
      exact ⟨D, List.mem_cons_self .., h2⟩
    · obtain ⟨D', h4, h5⟩ := okIs_at (xs := xs) h3 hp hf
      exact ⟨D', List.mem_cons_of_mem _ h4, h5⟩
theorem leinit_form {p1 ap cp : Pos} {es : List Expr} {env : Env} (hl : (ap.endLine == cp.line) = true) (hn : methodCallForm es.length (backTo cp (starEach es env)) (backToKw cp (keywordEach [] env)) = true := by rfl) : eval (.Call (.Attribute (.Name "LookupError" p1) "__init__" ap) es [] cp) env = (do
      let ov ← eval (.Name "LookupError" p1) env
      standAt ap.atName
      let (fn, bound) ← holding [ov] (getMethod ov "__init__" (plainOf (.Name "LookupError" p1) env))
      callWith cp fn bound (backTo cp (starEach es env)) (backToKw cp (keywordEach [] env))) := by
  show (do
      let ov ← eval (.Name "LookupError" p1) env
      standAt ap.atName
      methodCall (.Name "LookupError" p1) "__init__" ap cp env ov es.length (backTo cp (starEach es env)) (backToKw cp (keywordEach [] env))) = _
  simp only [mcall_line hn hl]
/-- an __init__ keeps its promise -/
theorem ini_ok (KX : K.In base) (G : base.Ns mainGlobals mg) (c : He.SaysD T.fa T.fns K) (hle : leX K = true) {x f : Str} {D : He.DefD} (hD : (x, D) ∈ T.ini) (ok : okIni x f D = true) (IC : RX.InC K (He.ga K x)) (hf : PySem.W.findIn K (.ref (He.ga K x)) f = some none) :
    ∃ fd, FnOk P w K mg base (L2.CX P w) 1 (He.fAd K (x, some "__init__")) fd (psOf D) (spInit K (He.ga K x) f) ∧ Binds K fd (psOf D) [] := by
  unfold okIni at ok
  simp only [Bool.and_eq_true, List.isEmpty_iff, decide_eq_true_eq] at ok
  obtain ⟨o1, o2, o3, o4, o5⟩ := ok
  have pl := plain_of o4
  obtain ⟨fd, F⟩ := He.SaysD.defs c (d := D) (List.mem_append_right _ (List.mem_map.mpr ⟨(x, D), hD, rfl⟩))
  have ed : D.dvs K = [] := by unfold He.DefD.dvs; rw [o2]; rfl
  have ek : D.kws K = [] := by unfold He.DefD.kws; rw [o3]; rfl
  rw [o1, ed, ek] at F
  refine ⟨fd, ?_, F.bindsN fun kV doc pm an cdv ct us hl => bind_plain pl hl⟩
  split at o5
  · rename_i s p l _ g ap s1 _ m _ _ p1 _ cv _ _ cp _ s2 _ f2 _ p2 _ _ eas eb
    simp only [Bool.and_eq_true, decide_eq_true_eq] at o5
    obtain ⟨⟨hl, rfl⟩, rfl, rfl, rfl, rfl, rfl, rfl, rfl, hm, hg, v1, v2, n1, n2, sc⟩ := o5
    have S := sc_of sc
    have ep : psOf D = [s.arg, p.arg] := by unfold psOf; rw [eas]; rfl
    rw [ep]
    refine F.ok S (fun vs H Q E h => ?_) (fun cdv A outer sh H vs Q E hr h => ?_)
    · obtain ⟨a, i, rfl, _⟩ := h; rfl
    · obtain ⟨a, i, rfl, hi, ha, q⟩ := h
      rw [eb]
      have glo : Gl (cxOf (L2.CX P w) P w K mg base [s.arg, p.arg] D.qual D.scope (He.fAd K (x, some "__init__")) cdv A outer sh H E) "LookupError" := by
        show D.scope.names.lookup _ = _
        unfold glB at hg
        split at hg
        · rename_i e; exact e
        · cases hg
      have htk : PySem.W.takerIn K (He.ga K x) f2 = some none := by unfold PySem.W.takerIn; rw [hf] <;> rfl
      have free : mg "LookupError" = none := He.free_ok KX G (fact_mem c (fa_isa (T := T) (n := "LookupError") (by decide)))
      have pv1 : ∀ {pos : Pos}, PE (cxOf (L2.CX P w) P w K mg base [s.arg, p.arg] D.qual D.scope (He.fAd K (x, some "__init__")) cdv A outer sh H E) (.Name s.arg pos) (tVar 0) := fun {pos} => pe_var (i := 0) rfl (vis_of v1) (ok_name n1).1 (ok_name n1).2
      have pv2 : ∀ {pos : Pos}, PE (cxOf (L2.CX P w) P w K mg base [s.arg, p.arg] D.qual D.scope (He.fAd K (x, some "__init__")) cdv A outer sh H E) (.Name p.arg pos) (tVar 1) := fun {pos} => pe_var (i := 1) rfl (vis_of v2) (ok_name n2).1 (ok_name n2).2
      refine ⟨_, pss_cons (ps_expr (RX.pe_leinit glo free (leX_of hle) (pa_cons pv1 (pa_cons (pe_joined (.cons pe_str (.cons (pe_fmt pv2) .nil))) pa_nil)) (pl := plainOf (.Name "LookupError" _) _) (leinit_form hl)) (by rfl)) (pss_one (RX.ps_setf pv1 pv2 (by rfl))), ?_⟩
      refine ⟨_, rfl, ?_⟩
      have len1 : (Str.empty ++ m).length ≤ sizeLine := by
        rw [Str.length_append]
        have := Nat.le_of_ble_eq_true hm
        have := sizeLine_eq
        have e0 : Str.empty.length = 0 := rfl
        omega
      refine ⟨m, rfl, len1, _, rfl, .inr ⟨i, rfl, hi, _, rfl, ?_, a, He.ga K x, [.str _], rfl, by simp, IC, ha, ?_⟩⟩
      · rw [Str.length_append, Str.length_append]
        have := Nat.le_of_ble_eq_true hm
        have h2 : (Str.ofString (toString i)).length ≤ 1921 := PyProof.Rows.int_text_len_1921 hi
        have := sizeLine_eq
        have e0 : Str.empty.length = 0 := rfl
        show _ + _ + (Str.ofString (toString i)).length ≤ _
        omega
      · refine ⟨_, rfl, _, rfl, a, He.ga K x, rfl, IC, htk, ha, fun dx hd ne => ?_⟩
        exact q dx hd ne
  · cases o5
/-- what is asked of the text as a whole -/
def TX.ok (T : TX) : Bool := okAll T.GT T.fs T.fn T.Ns && (okIs T.xs T.ini && decide (T.gl.map (·.1)).Nodup)
theorem exB_of (h : T.exB K = true) : (∀ p ∈ T.xs, classX K p = true) ∧ pairX K (ixFrom 0 T.xs) = true ∧ leX K = true := by
  unfold TX.exB at h
  simp only [Bool.and_eq_true] at h
  exact ⟨fun p hp => List.all_eq_true.mp h.1 p hp, h.2.1, h.2.2⟩
theorem plainX_of {C : Addr} {b : String} (h : plainX K C b = true) : ∃ B newId initId bmB, ExcBaseFacts B newId initId bmB ∧ PySem.W.excIn K C bmB newId = true := by
  unfold plainX at h
  split at h
  · exact ⟨_, _, _, _, PySem.F.excBase_ValueError, h⟩
  · split at h
    · exact ⟨_, _, _, _, PySem.F.excBase_LookupError, h⟩
    · cases h
theorem cls_ok (hT : T.ok = true) (KX : K.In base) (G : base.Ns mainGlobals mg) (c : He.SaysD T.fa T.fns K) (hX : T.exB K = true) {k : Nat} {X : Cx} (e1 : X.prog = P) (e2 : X.w = w) (e3 : X.K = K) (e4 : X.mg = mg) (e5 : X.base = base) (hr : Room 2 X.A) : ClsA (T.V P w k) X := by
  subst e1 e2 e3 e4 e5
  obtain ⟨x1, x2, x3⟩ := exB_of hX
  unfold TX.ok at hT
  simp only [Bool.and_eq_true, decide_eq_true_eq] at hT
  obtain ⟨t1, t2, t3⟩ := hT
  have cl : ∀ {x : Str} {c : Nat} {f : Option Str} {b : String}, T.GT x = some (.cls c f b) → T.xs[c]? = some (x, b, f) ∧ classX X.K (x, b, f) = true := fun h => ⟨TX.cls h, x1 _ (List.mem_of_getElem? (TX.cls h))⟩
  refine ⟨fun x cn f b h => ?_, fun x cn f b y dn g b2 h h' => ?_, fun x cn b h => ?_, fun x cn f b h => ?_, fun cn x f h => ?_⟩
  · obtain ⟨m, cx⟩ := cl h
    unfold classX at cx
    simp only [Bool.and_eq_true, decide_eq_true_eq, List.all_eq_true] at cx
    obtain ⟨c1, c2, c3, c4, c5⟩ := cx
    refine ⟨?_, He.glo_ok KX G (fact_mem c (fa_cls (List.mem_of_getElem? m))), c1, RX.clsXB_ok c2, c3, fun n hn => ⟨He.free_ok KX G (fact_mem c (fa_isa hn)), c4 n hn⟩⟩
    show (T.xs.map fun p => (p.1, p.2.2))[cn]? = _
    rw [List.getElem?_map, m]
    rfl
  · have m := ix_of (i := 0) (TX.cls h)
    have m' := ix_of (i := 0) (TX.cls h')
    rw [Nat.zero_add] at m m'
    unfold pairX at x2
    have := List.all_eq_true.mp (List.all_eq_true.mp x2 _ m) _ m'
    exact of_decide_eq_true this
  · obtain ⟨m, cx⟩ := cl h
    unfold classX at cx
    simp only [Bool.and_eq_true] at cx
    exact plainX_of cx.2.2.2.2
  · obtain ⟨m, cx⟩ := cl h
    unfold classX at cx
    simp only [Bool.and_eq_true] at cx
    have hi : initX X.K x f = true := cx.2.2.2.2
    unfold initX at hi
    simp only [Bool.and_eq_true, decide_eq_true_eq] at hi
    obtain ⟨h1, h2, h3, h4, h5⟩ := hi
    obtain ⟨D, hD, hok⟩ := okIs_at t2 (List.mem_of_getElem? m) rfl
    obtain ⟨fd, F, hb⟩ := ini_ok (P := X.prog) (w := X.w) KX G c x3 hD hok (RX.inCB_ok h1) h3
    exact ⟨RX.inCB_ok h1, xfB_ok h2, h3, _, fd, psOf D, 1, h4, h5, F, hr, hb⟩
  · have h : (T.xs.map fun p => (p.1, p.2.2))[cn]? = some (x, f) := h
    rw [List.getElem?_map] at h
    cases hx : T.xs[cn]? with
    | none => rw [hx] at h; cases h
    | some p =>
      rw [hx] at h
      obtain ⟨px, pb, pf⟩ := p
      cases h
      exact ⟨pb, TX.cls_of t3 hx⟩
theorem defs_ok (hT : T.ok = true) (hK : T.KwO) (hS : ∀ k, LenSet (T.V P w k)) (KX : K.In base) (G : base.Ns mainGlobals mg) (c : He.SaysD T.fa T.fns K) (hX : T.exB K = true) : ∀ (k f : Nat) (D : He.DefD) (fd : FuncData), T.fn[f]? = some D → FnD K D fd →
    FnOk P w K mg base (L2.CX P w) (k + 2) (He.ga K D.name) fd (psOf D) ((T.V P w k).sp K f) := by
  have hT1 : okAll T.GT T.fs T.fn T.Ns = true := (Bool.and_eq_true_iff.mp hT).1
  intro k
  induction k with
  | zero =>
    intro f D fd hD F
    refine ⟨fun vs H Q E h => ?_, fun A outer s H args us vs Q E _ _ _ _ h => ?_⟩
    · obtain ⟨_, L, C, ws, _, _, p⟩ := h
      exact p.elim
    · obtain ⟨_, L, C, ws, _, _, p⟩ := h
      exact p.elim
  | succ k ih =>
    intro f D fd hD F
    obtain ⟨d, N, hd, hN, ok⟩ := ok_at hT1 hD
    unfold okD at ok
    simp only [Bool.and_eq_true, List.isEmpty_iff, Option.isNone_iff_eq_none, decide_eq_true_eq] at ok
    obtain ⟨⟨o1, o2, o3, o4⟩, o5, o6, o7, o8, o9⟩ := ok
    have S := sc_of o8
    have enp : T.np f = d.np := by unfold TX.np; rw [hd]
    refine F.ok S (fun vs H Q E h => ?_) (fun cdv A outer s H vs Q E hr h => ?_)
    · have h1 : vs.length = T.np f := h.1
      rw [h1, enp, o6]
    · refine ⟨tS K ((T.V P w k).toE K E) (exs (run T.fs k) d.body), ?_, ?_⟩
      · generalize hX' : cxOf (L2.CX P w) P w K mg base N D.qual D.scope (He.ga K D.name) cdv A outer s H E = X
        have eK : X.K = K := by subst hX'; rfl
        have tk : Takes X (fun cls d _ H => E cls d H) := by
          subst hX'
          exact takes_of rfl rfl rfl (E₁ := fun e' s'' => L2.CX P w outer H s E e' s'') rfl
        have st : StC (T.V P w k) ((T.V P w k).toE K E) ⟨N, D.scope, none⟩ X := by
          refine ⟨?_, ?_, ?_, ⟨E, tk, fun c vs H q => by rw [eK]; exact q⟩, ?_, ?_, ?_, ?_, rfl⟩
          · subst hX'; rfl
          · subst hX'; rfl
          · subst hX'; rfl
          · subst hX'
            exact cls_ok hT KX G c hX rfl rfl rfl rfl rfl (hr.mono (by omega))
          · have et : X.prog = P ∧ X.w = w := by subst hX'; exact ⟨rfl, rfl⟩
            have ps : ∀ σ, PassesAt (L2.CX P w) X σ (fun cls d H => E cls d H) := fun σ => by
              have := passAt tk σ
              rw [et.1, et.2] at this
              exact this
            subst hX'
            refine ⟨rfl, S.nd, rfl, rfl, hr.units, fun x h => ?_, fun x i h => ?_, fun x h => ?_, fun x g kw h => ?_⟩
            · have h : (match D.scope.names.lookup x with
                | some .local => true
                | some .cell => true
                | _ => false) = true := h
              split at h
              · rename_i e; exact ⟨.inl e, .inl rfl⟩
              · rename_i e; exact ⟨.inr e, .inl rfl⟩
              · cases h
            · exact He.int_ok KX G (fact_mem c (f := .int x i) (List.mem_append_left _ (List.mem_map.mpr ⟨(x, i), TX.int h, rfl⟩)))
            · refine He.free_ok KX G (fact_mem c (fa_free ?_))
              unfold freeB at h
              simpa using h
            · obtain ⟨D2, hD2, rfl, rfl⟩ := TX.fn_ h
              obtain ⟨pl, fd2, F2⟩ := defs_fd hT1 c hD2
              exact ⟨fd2, psOf D2, k + 2, fun _ cls d H => E cls d H, defs_glo KX G c hD2, F2.kp, hr, ih g D2 fd2 hD2 F2, FnD.bs F2 pl, ps, fun σ c vs H q => q, fun ks pm hk => FnD.kw F2 hK hD2 hk, fun es C => run_np T k g es C⟩
          · subst hX'; exact S.kind
          · subst hX'; exact passes_of rfl
        have := (goodS (hS k) st d.body).pss (noDoc D.body) o9
        rw [eK] at this
        exact doc_ok this
      · obtain ⟨hl, L, C, ws, R, rs, p⟩ := h
        have p : Post K H L (run T.fs (k + 1) f ws C) Q ((T.V P w (k + 1)).toE K E) := p
        unfold run at p
        rw [hd] at p
        have p : Post K H L (body1 (run T.fs k) d ws C) Q ((T.V P w (k + 1)).toE K E) := p
        unfold body1 at p
        obtain ⟨hw, p⟩ := post_if p
        refine ⟨L, C, _, R, rst_start o7 rs, ?_⟩
        cases he : exs (run T.fs k) d.body (ws.map some ++ List.replicate (d.ns - ws.length) none) C with
        | nx s1 C1 => rw [he] at p; exact fun H' L' σ' e R' _ => p H' L' .non e R' .non
        | rt w1 C1 => rw [he] at p; exact p
        | exc c1 l1 C1 => rw [he] at p; exact p
        | bk s1 C1 => rw [he] at p; exact p.elim
        | ct s1 C1 => rw [he] at p; exact p.elim
        | bad => rw [he] at p; exact p.elim
/-- a promise that lets nothing out, for any context -/
theorem FnOk.to0 {k : Nat} {f : Addr} {fd : FuncData} {ps : List Str} {sp : Sp} (F : FnOk P w K mg base (L2.CX P w) k f fd ps sp) : FnOk P w K mg base CX0 k f fd ps (fun vs H Q _ => sp vs H Q fun _ _ _ => False) := by
  refine ⟨fun vs H Q E h => F.len vs H Q _ h, fun A outer s H args us vs Q E hr e0 bt rv h => ?_⟩
  refine codeAny_mono (F.run A outer s H args us vs Q (fun _ _ _ => False) hr e0 bt rv h) fun r s' hq => ?_
  cases r with
  | error e =>
    obtain ⟨a, B, H', cls, d, _, _, _, _, _, _, _, h⟩ := hq
    exact h.elim
  | ok fl => cases fl <;> exact hq
end
end RF
end
end
section
set_option Elab.async false
set_option linter.all false
set_option maxRecDepth 100000
set_option maxHeartbeats 4000000
/-! RF20: set(x), x a tuple of tuples of ints; its length. -/
noncomputable section
namespace RF
open PySem PySem.Spec PyProof.Rows L2
/-- a set just made -/
abbrev fset (w : World) : Obj := { cls := .type "set", dict := none, data := .set #[] 0 (.fresh 0 0 (!w.params.followText "set-order")) }
section
variable {P : Program} {w : World} {A : Around} {E : Value → Shared → Prop} {s : Shared}
theorem call_setT {l : Addr} {items : Array Value} (ks : List (Addr × List Int)) {Q : Value → Shared → Prop} (calm : A.handled = none) (tup : s.heap.IsTuple l items)
    (its : items.toList = ks.map fun p => Value.ref p.1) (kinds : ∀ p ∈ ks, IsT P w s.heap p.2 p.1) (few : ks.length < 64) (deep : A.units + 3 < cLine)
    (fin : ∀ (h' : Heap) (tk : Nat) L es ep t, SetTR P w h' s.heap.objs.size L es ep t → Got ks ks.length L → (∀ b o, s.heap.get? b = some o → h'.get? b = some o) →
      Q (.ref s.heap.objs.size) { s with heap := h', toks := tk }) :
    wpAny (model P w) A (call (.type "set") [.ref l]) Q E s := by
  have size_eq : items.size = ks.length := by
    have z := congrArg List.length its
    simpa using z
  obtain ⟨c, tl, hmro⟩ := F.called_set.mro
  have hmade := F.called_set.made
  have hsub := F.called_set.sub
  refine wpAny_call (codeAny_of_tree ?_)
  show wpAny _ _ (callAny (.type "set") _) _ _ _
  refine wpAny_pure ⟨Code.quiet_builtin _ (by decide +kernel), codeAny_builtin F.entry_type_call ?_⟩
  rw [Around.under_plain (weight_type_call_type "set" [.ref l] []) rfl]
  have h1 := F.called_set.notType
  have h2 := F.called_set.canCreate
  have hct := F.typeCall_set_1 (.ref l)
  repeat (any_goals (first | assumption | wp_step))
  refine codeAny_mono (code_set_led1 (.ref l) (E := E)
    (Q₁ := fun made st => made = .ref s.heap.objs.size ∧ st = { s with heap := s.heap.push (fset w) }) ⟨rfl, rfl⟩) fun r1 st1 res1 => ?_
  cases r1 with
  | error e => exact res1
  | ok flow =>
    cases flow with
    | ret made =>
      obtain ⟨rfl, rfl⟩ := res1
      have there : (s.heap.push (fset w)).get? s.heap.objs.size = some (fset w) := Heap.get?_push_size _ rfl
      have kind : Shared.TypeIs { s with heap := s.heap.push (fset w) } (.ref s.heap.objs.size) "set" := ⟨_, there, rfl⟩
      have hli := F.called_set.init.lookup
      have hbi := F.called_set.init.bind (.ref s.heap.objs.size)
      repeat (any_goals (first | assumption | wp_step))
      refine codeAny_mono (codeAny_call_builtin
        (R := wants (fun r st2 => r = .none ∧ ∃ h' tk L es ep t, st2 = { s with heap := h', toks := tk } ∧ SetTR P w h' s.heap.objs.size L es ep t ∧
          Got ks ks.length L ∧ (∀ b o, s.heap.get? b = some o → h'.get? b = some o)) E)
        F.called_set.init.plain F.entry_set_init (check_set_init_1 kind ?_)) fun r2 st2 res2 => ?_
      · obtain ⟨ot, at1, cl, nt, dt⟩ := tup
        obtain ⟨ocls, odict, odata, oslots⟩ := ot
        simp only at cl dt
        subst cl; subst dt
        have at2 : (s.heap.push (fset w)).get? l = some { cls := .type "tuple", dict := odict, data := .seq items nt, slots := oslots } := Heap.get?_push_of_some _ at1
        have no1 := F.sub_tuple_set
        have no2 := F.sub_tuple_frozenset
        have no3 : (Value.type "tuple" == Value.type "dict") = false := by decide
        have tup2 : (s.heap.push (fset w)).IsTuple l items := ⟨_, at2, rfl, nt, rfl⟩
        unfold Builtin.«set.__init__» noKeywords Builtin.Frozenset.updateFrom
        generalize same : pyIter = PI
        wp_walk
        subst same
        refine wpAny_pyIter_tuple tup2 ?_
        refine wpAny_bind (wpAny_runValue ?_)
        have lo : l < s.heap.objs.size := Heap.lt_size at1
        have calm3 : A.in1.in1.in1.handled = none := by simp [calm]
        have apart : l ≠ (s.heap.push (fset w)).objs.size := by
          rw [Heap.size_push]; exact Nat.ne_of_lt (Nat.lt_succ_of_lt lo)
        have apart2 : s.heap.objs.size ∉ [(s.heap.push (fset w)).objs.size, l] := by
          rw [Heap.size_push]
          intro z
          rcases List.mem_cons.mp z with z | z
          · exact Nat.ne_of_lt (Nat.lt_succ_self _) z
          · exact Nat.ne_of_gt lo (List.mem_singleton.mp z)
        have each : ∀ (i : Nat) (v : Value), items[i]? = some v → ∃ p, ks[i]? = some p ∧ v = .ref p.1 := fun i v hv => by
          have z : items.toList[i]? = some v := by rw [Array.getElem?_toList]; exact hv
          rw [its, List.getElem?_map] at z
          cases e : ks[i]? with
          | none => rw [e] at z; cases z
          | some p => rw [e] at z; exact ⟨p, rfl, (Option.some.inj z).symm⟩
        have free : ∀ b, s.heap.objs.size ≤ b → s.heap.get? b = none := fun b hb => by
          cases e : s.heap.get? b with
          | none => rfl
          | some o => exact (Nat.not_lt.mpr hb (Heap.lt_size e)).elim
        refine set_update_tups ((Walks.tuple calm3 _ l apart items).toS) s.heap.objs.size apart2 ks size_eq few each s.heap kinds (free _ (Nat.le_refl _))
          (fun b hb => free b (by rw [List.mem_singleton.mp hb, Heap.size_push]; omega)) deep (items.size - 0) 0 _ (by omega) (Nat.zero_le _)
          ⟨⟨_, Heap.get?_push_size _ rfl, rfl, rfl⟩, ?_⟩ (fun b o e => Heap.get?_push_of_some _ (Heap.get?_push_of_some _ e)) ?start ?done
        · obtain ⟨o, e, rest⟩ := tup2
          exact ⟨o, Heap.get?_push_of_some _ e, rest⟩
        case start =>
          exact ⟨[], #[], 0, _, setTR_fresh (Heap.get?_push_of_some _ there), Got.zero ks⟩
        case done =>
          intro st3 L es ep t moved full got keeps
          obtain ⟨h3, g3, d3, tk3, os3⟩ := st3
          have eg : g3 = s.gens := moved.gens
          have ed : d3 = s.drawn := moved.drawn
          have eo : os3 = s.os := moved.os
          subst eg; subst ed; subst eo
          show wpAny _ _ _ _ _ _
          refine wpAny_pure ?_
          show wpAny _ _ (ret Value.none) _ _ _
          rw [size_eq] at got
          exact wpAny_pure ⟨rfl, h3, tk3, L, es, ep, t, rfl, full, got, keeps⟩
      · cases r2 with
        | error e => exact res2
        | ok flow2 =>
          cases flow2 with
          | ret r =>
            obtain ⟨rfl, h3, tk3, L, es, ep, t, rfl, full, got, keeps⟩ := res2
            repeat (any_goals (first | assumption | wp_step))
            exact fin _ _ _ _ _ _ full got keeps
          | _ => exact res2.elim
    | _ => exact res1.elim
end
end RF
end
end
section
set_option Elab.async false
set_option linter.all false
set_option maxRecDepth 100000
set_option maxHeartbeats 4000000
/-! RF21: len(set(x)). -/
noncomputable section
namespace RF
open PySem PySem.Spec PyProof.Rows L2
theorem nd_len : ∀ {l m : List (List Int)}, l.Nodup → (∀ x ∈ l, x ∈ m) → l.length ≤ m.length
  | [], _, _, _ => Nat.zero_le _
  | x :: l, m, h, s => by
    have hx := s x (List.mem_cons_self ..)
    obtain ⟨h1, h2⟩ := List.nodup_cons.mp h
    have hl := nd_len (l := l) (m := m.erase x) h2 fun y hy => (List.mem_erase_of_ne (fun e => h1 (by rw [← e]; exact hy))).mpr (s y (List.mem_cons_of_mem _ hy))
    rw [List.length_erase_of_mem hx] at hl
    have : 0 < m.length := List.length_pos_of_mem hx
    rw [List.length_cons]
    omega
theorem nub_mem {x : List Int} : ∀ {l : List (List Int)}, x ∈ nub l ↔ x ∈ l
  | [] => Iff.rfl
  | y :: l => by
    have ih := @nub_mem x l
    show x ∈ (if (nub l).contains y then nub l else y :: nub l) ↔ _
    by_cases h : (nub l).contains y = true
    · rw [if_pos h, ih, List.mem_cons]
      refine ⟨.inr, fun h2 => ?_⟩
      rcases h2 with e | e
      · rw [e]; exact (@nub_mem y l).mp (by simpa using h)
      · exact e
    · rw [if_neg h, List.mem_cons, List.mem_cons, ih]
theorem nub_nodup : ∀ {l : List (List Int)}, (nub l).Nodup
  | [] => List.nodup_nil
  | y :: l => by
    show (if (nub l).contains y then nub l else y :: nub l).Nodup
    by_cases h : (nub l).contains y = true
    · rw [if_pos h]; exact nub_nodup
    · rw [if_neg h]
      exact List.nodup_cons.mpr ⟨by simpa using h, nub_nodup⟩
theorem got_len {ks L : List (Addr × List Int)} (g : Got ks ks.length L) (nd : (L.map (·.2)).Nodup) : L.length = (nub (ks.map (·.2))).length := by
  have h1 : (L.map (·.2)).length ≤ (nub (ks.map (·.2))).length := nd_len nd fun x hx => by
    obtain ⟨p, hp, rfl⟩ := List.mem_map.mp hx
    exact nub_mem.mpr (List.mem_map.mpr ⟨p, List.mem_of_mem_take (g.sub p hp), rfl⟩)
  have h2 : (nub (ks.map (·.2))).length ≤ (L.map (·.2)).length := nd_len nub_nodup fun x hx => by
    obtain ⟨p, hp, rfl⟩ := List.mem_map.mp (nub_mem.mp hx)
    exact g.all p (by rw [List.take_length]; exact hp)
  rw [List.length_map] at h1 h2
  omega
section
variable {X : Cx}
def tLS (K : Fg) (te : TE) : TE := fun σ H Q => te σ H fun x H1 => ∃ (l : Addr) (ks : List (Addr × List Int)), x = V.ref l ∧ (SqL K H1 l (ks.map fun p => V.ref p.1) ∨ SqT K H1 l (ks.map fun p => V.ref p.1)) ∧ (∀ p ∈ ks, SqT K H1 p.1 (p.2.map V.int)) ∧ ks.length < 64 ∧
  Q (.int (nub (ks.map (·.2))).length) H1
theorem pe_ls {a : Expr} {ta : TE} {p p2 q pos : Pos} (hc : X.calm = true) (hu : X.A.units + 64 < cLine) (hg : Gl X "len") (hm : X.mg "len" = none) (hg2 : Gl X "set") (hm2 : X.mg "set" = none) (ha : PE X a ta) (na : starEach [a] X.env = [(false, eval a X.env)]) :
    PE X (.Call (.Name "len" p) [.Call (.Name "set" p2) [a] [] q] [] pos) (tLS X.K ta) := by
  refine ⟨fun pins s σ H Q I h => ?_⟩
  refine Call_ (ld_blt I hg hm PySem.boot_len ?_)
  refine PyProof.Rows.callWith_builtin1 (PyProof.Rows.args_cons ?_ rfl) rfl rfl
  refine Call_ (ld_blt I hg2 hm2 PyProof.Rows.boot_set ?_)
  refine PyProof.Rows.callWith_type1 (PyProof.Rows.args_cons (thn (ha.run pins s σ H _ I h) fun v s1 ⟨x, H1, I1, r1, l, ks, ex, hs, hk, few, q1⟩ => PyProof.Rows.args_nil ?_) na) na rfl
  subst ex
  obtain rfl : v = Value.ref l := r1
  have endd : ∀ {h' : Heap} {tk : Nat} {L : List (Addr × List Int)} {es : Array (Int × Value)} {ep : Nat} {t : SetTable}, SetTR X.prog X.w h' s1.heap.objs.size L es ep t → Got ks ks.length L → (∀ b o, s1.heap.get? b = some o → h'.get? b = some o) →
      wpAny (model X.prog X.w) X.A (call (.builtin "len") [.ref s1.heap.objs.size]) (EP X pins σ Q) X.xe { s1 with heap := h', toks := tk } := by
    intro h' tk L es ep t R g k
    obtain ⟨o, ho, hex, hd⟩ := R.ob
    have I2 : Inv X pins σ H1 { s1 with heap := h', toks := tk } := I1.kept k
    have sz : es.size = L.length := R.size (s := { s1 with heap := h' })
    have n1 := got_len g R.nd
    have n2 := R.few
    refine call_len_set ho hex hd (R.fits (s := { s1 with heap := h' })) (by omega) ⟨.int (nub (ks.map (·.2))).length, H1, I2.tok _, ⟨_, by rw [sz, n1]⟩, q1⟩
  rcases hs with hs | hs
  · obtain ⟨its, rv, pl, hz⟩ := I1.list hs
    exact call_set_tups (P := X.prog) (w := X.w) ks (I1.ok.hd hc) pl.isList (by simpa using refs_of_vals rv) (fun p hp => I1.isT (hk p hp)) few (by omega) fun h' tk L es ep t R g k => PyProof.Rows.args_nil (endd R g k)
  · obtain ⟨its, rv, pl, hz⟩ := I1.tuple hs
    exact call_setT (P := X.prog) (w := X.w) ks (I1.ok.hd hc) (show s1.heap.IsTuple l its.toArray from pl) (by simpa using refs_of_vals rv) (fun p hp => I1.isT (hk p hp)) few (by omega) fun h' tk L es ep t R g k => PyProof.Rows.args_nil (endd R g k)
end
section
variable {K : Fg} {L : List Addr} {C : CH} {H : Hp}
theorem tups_ok : ∀ {ws : List W} {l : List (List Int)} {vs : List V}, mapO intsT ws = some l → RWs K H L ws vs → ∃ ks : List (Addr × List Int), vs = ks.map (fun p => V.ref p.1) ∧ ks.map (·.2) = l ∧ ∀ p ∈ ks, SqT K H p.1 (p.2.map V.int)
  | [], l, vs, h, r => by
    cases r
    simp only [mapO, Option.some.injEq] at h
    subst h
    exact ⟨[], rfl, rfl, fun p h => by cases h⟩
  | w :: ws, l, vs, h, r => by
    cases r with
    | cons r1 r2 =>
      simp only [mapO] at h
      split at h
      · rename_i ns hn
        split at h
        · rename_i ls hl
          simp only [Option.some.injEq] at h
          subst h
          obtain ⟨ks, e1, e2, e3⟩ := tups_ok hl r2
          cases w with
          | tup ys =>
            obtain ⟨a, us, rfl, ha, ru⟩ := r1.tup_inv
            have hu := ints_of (show mapO toInt ys = some ns from hn) ru
            subst hu
            refine ⟨(a, ns) :: ks, by rw [e1] <;> rfl, by rw [List.map_cons, e2], fun p hp => ?_⟩
            rcases List.mem_cons.mp hp with z | z
            · rw [z]; exact SqT.of ha
            · exact e3 p z
          | _ => cases hn
        · cases h
      · cases h
end
theorem lenSet (V1 : Env1) : LenSet V1 := by
  intro E sd X cx a ga
  refine .of (fun e h => ?_) fun es => rfl
  cases e with
  | Call fe l ks pos =>
    cases fe with
    | Name x p =>
      rcases l with _ | ⟨e1, _ | ⟨_, _⟩⟩ <;> rcases ks with _ | ⟨_, _⟩ <;> first | (simp [chkE] at h; done) | skip
      cases e1 with
      | Call fe2 l2 ks2 q =>
        cases fe2 with
        | Name y p2 =>
          rcases l2 with _ | ⟨z, _ | ⟨_, _⟩⟩ <;> rcases ks2 with _ | ⟨_, _⟩ <;> first | (simp [chkE] at h; done) | skip
          simp only [chkE, Bool.and_eq_true, decide_eq_true_eq] at h
          obtain ⟨rfl, rfl, h1, h2, h3, h4⟩ := h
          refine ⟨rfl, PE.imp (pe_ls cx.calm cx.hu (gl_of cx.sc h1) (cx.blt _ (by decide)) (gl_of cx.sc h2) (cx.blt _ (by decide)) (ga.pe z h4) (star1 ((Bool.not_eq_true' _).mp h3))) ?_⟩
          rintro σ H Q ⟨L, C, s, R, S, q⟩
          have q : Post X.K H L ((ev V1.run a s C).bind fun x h1 => lensetW x h1) Q (E σ) := q
          refine ⟨L, C, s, R, S, q.bind.mono (fun v H1 h => ?_) fun _ _ _ h => h⟩
          obtain ⟨w, C1, L1, e1, R1, r1, p1⟩ := h
          unfold lensetW at p1
          split at p1
          · rename_i xs hi
            obtain ⟨hlt, p1⟩ := post_if p1
            split at p1
            · rename_i l hl
              obtain ⟨b, vs, rfl, sq, rs⟩ := seq_of R1 hi r1
              obtain ⟨ks, e2, e3, e4⟩ := tups_ok hl rs
              have hlen : xs.length < 64 := Nat.le_of_ble_eq_true hlt
              have n1 := rs.length
              rw [e2, List.length_map] at n1
              refine ⟨b, ks, rfl, by rw [← e2]; exact sq, e4, by omega, ?_⟩
              rw [e3]
              exact p1.same R1 (.int _)
            · exact p1.elim
          · exact p1.elim
        | _ => simp [chkE] at h
      | _ => simp [chkE] at h
    | _ => simp [chkE] at h
  | _ => simp [chkE] at h
end RF
end
end
section
set_option Elab.async false
set_option linter.all false
set_option maxRecDepth 100000
/-! P0: reading the pure evaluator: heaps that grow, walks with an invariant. -/
namespace RF
open PySem
/-- what was there is there as it was, but where M says -/
structure Sub (M : Nat → Prop) (C C' : CH) : Prop where
  wf : C'.os.length = C'.n
  le : C.n ≤ C'.n
  keep : ∀ (r : Nat) (o : CO), ¬ M r → C.get r = some o → C'.get r = some o
abbrev Sub0 := Sub fun _ => False
theorem Sub.refl {M : Nat → Prop} {C : CH} (h : C.os.length = C.n) : Sub M C C := ⟨h, Nat.le_refl _, fun _ _ _ e => e⟩
theorem Sub.trans {M : Nat → Prop} {C C1 C2 : CH} (a : Sub M C C1) (b : Sub M C1 C2) : Sub M C C2 := ⟨b.wf, Nat.le_trans a.le b.le, fun r o m e => b.keep r o m (a.keep r o m e)⟩
theorem Sub.mono {M N : Nat → Prop} {C C' : CH} (a : Sub M C C') (h : ∀ r, M r → r < C.n → N r) : Sub N C C' := ⟨a.wf, a.le, fun r o m e => a.keep r o (fun q => m (h r q (CH.get_lt e))) e⟩
theorem Sub.any {M : Nat → Prop} {C C' : CH} (a : Sub0 C C') : Sub M C C' := a.mono fun _ h _ => h.elim
theorem Sub.new {M : Nat → Prop} {C C' : CH} (a : Sub M C C') (o : CO) : Sub M C (C'.new o) := by
  refine ⟨by show (o :: C'.os).length = C'.n + 1; rw [List.length_cons, a.wf], Nat.le_succ_of_le a.le, fun r u m e => ?_⟩
  have h1 := a.keep r u m e
  rw [get_new a.wf, if_neg (Nat.ne_of_lt (CH.get_lt h1))]
  exact h1
theorem Sub.set {M : Nat → Prop} {C C' : CH} (a : Sub M C C') {q : Nat} (hq : q < C'.n) (h : C.n ≤ q ∨ M q) (o : CO) : Sub M C (C'.set q o) := by
  refine ⟨by show (C'.os.set _ _).length = C'.n; rw [List.length_set, a.wf], a.le, fun r u m e => ?_⟩
  have h1 := a.keep r u m e
  have hr := CH.get_lt e
  rw [get_set a.wf hq, if_neg (fun z => ?_)]
  · exact h1
  · subst z
    rcases h with h | h
    · omega
    · exact m h
theorem new_at {C : CH} (h : C.os.length = C.n) (o : CO) : (C.new o).get C.n = some o := by rw [get_new h, if_pos rfl]
theorem set_at {C : CH} (h : C.os.length = C.n) {q : Nat} (hq : q < C.n) (o : CO) : (C.set q o).get q = some o := by rw [get_set h hq, if_pos rfl]

/-! ### walks -/
/-- a comprehension over known items: g told of those that k keeps -/
theorem compL_st {fc fe : St → CH → R W} {p : CP} {s : St} (I : CH → Prop) (k : W → Bool) (g : W → W) : ∀ (xs : List W) (n : Nat) (acc : List W) (C : CH), (∀ x ∈ xs, ∀ C, I C → ∃ s', bindP C p x s = some s' ∧ ∃ b C1, fc s' C = .ok b C1 ∧ truth C1 b = some (k x) ∧ I C1 ∧ (k x = true → ∃ C2, fe s' C1 = .ok (g x) C2 ∧ I C2)) →
    I C → xs.length < n → ∃ C', I C' ∧ compL fc fe p s n (.st xs) C acc = .ok (.ref C'.n) (C'.new (.lst (acc.reverse ++ (xs.filter k).map g)))
  | [], n + 1, acc, C, h, hI, hn => ⟨C, hI, by
      rw [compL]
      simp [nxt]⟩
  | x :: xs, n + 1, acc, C, h, hI, hn => by
    obtain ⟨s', hb, b, C1, hc, ht, hI1, he⟩ := h x (List.mem_cons_self ..) C hI
    have hh : ∀ y ∈ xs, _ := fun y hy => h y (List.mem_cons_of_mem _ hy)
    cases hk : k x with
    | true =>
      obtain ⟨C2, he, hI2⟩ := he hk
      obtain ⟨C', hI', e⟩ := compL_st I k g xs n (g x :: acc) C2 hh hI2 (by simpa using hn)
      refine ⟨C', hI', ?_⟩
      rw [compL]
      simp only [nxt, hb, hc, ht, hk, he, e]
      simp [List.filter_cons, hk]
    | false =>
      obtain ⟨C', hI', e⟩ := compL_st I k g xs n acc C1 hh hI1 (by simpa using hn)
      refine ⟨C', hI', ?_⟩
      rw [compL]
      simp only [nxt, hb, hc, ht, hk, e]
      simp [List.filter_cons, hk]
/-- a for over known items, with an invariant; it may return -/
theorem forL_st {fb : St → CH → RS} {p : CP} (Inv : Nat → St → CH → Prop) (Ret : W → CH → Prop) : ∀ (xs : List W) (i n : Nat) (s : St) (C : CH),
    (∀ j x s C, xs[j]? = some x → Inv (i + j) s C → ∃ s', bindP C p x s = some s' ∧ ((∃ s2 C2, (fb s' C = .nx s2 C2 ∨ fb s' C = .ct s2 C2) ∧ Inv (i + j + 1) s2 C2) ∨ ∃ w C2, fb s' C = .rt w C2 ∧ Ret w C2)) →
    Inv i s C → xs.length < n → (∃ s' C', forL fb p n (.st xs) s C = .nx s' C' ∧ Inv (i + xs.length) s' C') ∨ ∃ w C', forL fb p n (.st xs) s C = .rt w C' ∧ Ret w C'
  | [], i, n + 1, s, C, h, hI, hn => .inl ⟨s, C, by rw [forL]; simp [nxt], by simpa using hI⟩
  | x :: xs, i, n + 1, s, C, h, hI, hn => by
    obtain ⟨s', hb, h0⟩ := h 0 x s C rfl (by simpa using hI)
    rcases h0 with ⟨s2, C2, hf, hI2⟩ | ⟨w, C2, hf, hr⟩
    · have ih := forL_st Inv Ret xs (i + 1) n s2 C2 (fun j y s C hj hI => by
        have := h (j + 1) y s C (by simpa using hj) (by rw [show i + (j + 1) = i + 1 + j by omega]; exact hI)
        rw [show i + (j + 1) + 1 = i + 1 + j + 1 by omega] at this
        exact this) (by simpa using hI2) (by simpa using hn)
      have e : forL fb p (n + 1) (.st (x :: xs)) s C = forL fb p n (.st xs) s2 C2 := by
        rw [forL]
        rcases hf with hf | hf <;> simp only [nxt, hb, hf]
      rw [e]
      rcases ih with ⟨s3, C3, e3, h3⟩ | ih
      · exact .inl ⟨s3, C3, e3, by rw [List.length_cons, show i + (xs.length + 1) = i + 1 + xs.length by omega]; exact h3⟩
      · exact .inr ih
    · refine .inr ⟨w, C2, ?_, hr⟩
      rw [forL]
      simp only [nxt, hb, hf]
end RF
end
section
set_option Elab.async false
set_option linter.all false
set_option maxRecDepth 100000
/-! P1: walks over any source whose items are known. -/
namespace RF
open PySem
/-- from the i-th on, the source q tells xs, while I holds -/
def Tells (I : CH → Prop) (q : Nat → Src) (xs : List W) : Prop := ∀ i C, I C → nxt (q i) C = some (match xs[i]? with
  | some x => some (x, q (i + 1))
  | none => none)
theorem tells_st {I : CH → Prop} (xs : List W) : Tells I (fun i => .st (xs.drop i)) xs := by
  intro i C _
  show nxt (.st (xs.drop i)) C = _
  by_cases h : i < xs.length
  · rw [List.drop_eq_getElem_cons h, List.getElem?_eq_getElem h] <;> rfl
  · rw [List.drop_eq_nil_of_le (by omega), List.getElem?_eq_none (by omega)] <;> rfl
theorem tells_lref {I : CH → Prop} {r : Nat} {xs : List W} (h : ∀ C, I C → C.get r = some (.lst xs)) : Tells I (fun i => .lref r i) xs := by
  intro i C hI
  show nxt (.lref r i) C = _
  simp only [nxt, lstAt, h C hI]
  cases xs[i]? <;> rfl
theorem enum_at (xs : List W) : ∀ (i j : Nat), (enumW (i : Int) xs)[j]? = (xs[j]?).map fun x => W.tup [.int ((i + j : Nat) : Int), x] := by
  induction xs with
  | nil => intro i j; rfl
  | cons x r ih =>
    intro i j
    cases j with
    | zero => rfl
    | succ j =>
      show (enumW ((i : Int) + 1) r)[j]? = _
      have := ih (i + 1) j
      rw [show ((i + 1 : Nat) : Int) = (i : Int) + 1 by omega] at this
      rw [this, List.getElem?_cons_succ, show i + 1 + j = i + (j + 1) by omega]
theorem tells_enl {I : CH → Prop} {r : Nat} {xs : List W} (h : ∀ C, I C → C.get r = some (.lst xs)) : Tells I (fun i => .enl r i) (enumW 0 xs) := by
  intro i C hI
  show nxt (.enl r i) C = _
  simp only [nxt, lstAt, h C hI]
  have e := enum_at xs 0 i
  rw [show ((0 : Nat) : Int) = 0 from rfl] at e
  rw [e, Nat.zero_add]
  cases xs[i]? <;> rfl
def upW (lo : Int) (n : Nat) : List W := (List.range n).map fun (i : Nat) => W.int (lo + (i : Int))
theorem tells_upto {I : CH → Prop} (lo : Int) (n : Nat) : Tells I (fun i => .upto (lo + (i : Int)) (n - i)) (upW lo n) := by
  intro i C _
  show nxt (.upto (lo + (i : Int)) (n - i)) C = _
  by_cases h : i < n
  · obtain ⟨m, e⟩ : ∃ m, n - i = m + 1 := ⟨n - i - 1, by omega⟩
    have e1 : (upW lo n)[i]? = some (.int (lo + (i : Int))) := by
      unfold upW
      rw [List.getElem?_map, List.getElem?_range h] <;> rfl
    rw [e, e1]
    show some (some (W.int (lo + (i : Int)), Src.upto (lo + (i : Int) + 1) m)) = some (some (W.int (lo + (i : Int)), Src.upto (lo + ((i + 1 : Nat) : Int)) (n - (i + 1))))
    rw [show lo + (i : Int) + 1 = lo + ((i + 1 : Nat) : Int) by omega, show m = n - (i + 1) by omega]
  · have e1 : (upW lo n)[i]? = none := by
      unfold upW
      rw [List.getElem?_map, List.getElem?_eq_none (by rw [List.length_range]; omega)] <;> rfl
    rw [e1, show n - i = 0 by omega] <;> rfl
theorem drop_cons {α : Type} {xs : List α} {i : Nat} {x : α} (h : xs[i]? = some x) : xs.drop i = x :: xs.drop (i + 1) := by
  by_cases hi : i < xs.length
  · rw [List.getElem?_eq_getElem hi] at h
    cases h
    exact List.drop_eq_getElem_cons hi
  · rw [List.getElem?_eq_none (by omega)] at h; cases h
/-- a comprehension: g told of those that k keeps -/
theorem compL_q {fc fe : St → CH → R W} {p : CP} {s : St} {I : CH → Prop} {q : Nat → Src} {xs : List W} (hq : Tells I q xs) (k : W → Bool) (g : W → W) (h : ∀ x ∈ xs, ∀ C, I C → ∃ s', bindP C p x s = some s' ∧ ∃ b C1, fc s' C = .ok b C1 ∧ truth C1 b = some (k x) ∧ I C1 ∧ (k x = true → ∃ C2, fe s' C1 = .ok (g x) C2 ∧ I C2)) :
    ∀ (m i n : Nat) (acc : List W) (C : CH), m = xs.length - i → I C → m < n → ∃ C', I C' ∧ compL fc fe p s n (q i) C acc = .ok (.ref C'.n) (C'.new (.lst (acc.reverse ++ ((xs.drop i).filter k).map g)))
  | m, i, n + 1, acc, C, hm, hI, hn => by
    cases e : xs[i]? with
    | none =>
      refine ⟨C, hI, ?_⟩
      have hl : xs.length ≤ i := by
        rcases Nat.lt_or_ge i xs.length with z | z
        · rw [List.getElem?_eq_getElem z] at e; cases e
        · exact z
      rw [compL, hq i C hI, e, List.drop_eq_nil_of_le hl]
      simp
    | some x =>
      have hl : i < xs.length := by
        rcases Nat.lt_or_ge i xs.length with z | z
        · exact z
        · rw [List.getElem?_eq_none z] at e; cases e
      obtain ⟨s', hb, b, C1, hc, ht, hI1, he⟩ := h x (List.mem_of_getElem? e) C hI
      rw [drop_cons e]
      cases hk : k x with
      | true =>
        obtain ⟨C2, he, hI2⟩ := he hk
        obtain ⟨C', hI', ee⟩ := compL_q hq k g h (m - 1) (i + 1) n (g x :: acc) C2 (by omega) hI2 (by omega)
        refine ⟨C', hI', ?_⟩
        rw [compL, hq i C hI, e]
        simp only [hb, hc, ht, hk, he, ee]
        simp [List.filter_cons, hk]
      | false =>
        obtain ⟨C', hI', ee⟩ := compL_q hq k g h (m - 1) (i + 1) n acc C1 (by omega) hI1 (by omega)
        refine ⟨C', hI', ?_⟩
        rw [compL, hq i C hI, e]
        simp only [hb, hc, ht, hk, ee]
        simp [List.filter_cons, hk]
/-- a for, with an invariant; it may return -/
theorem forL_q {fb : St → CH → RS} {p : CP} {I : CH → Prop} {q : Nat → Src} {xs : List W} (hq : Tells I q xs) (Inv : Nat → St → CH → Prop) (Rt : W → CH → Prop) (hi : ∀ i s C, Inv i s C → I C)
    (h : ∀ i x s C, xs[i]? = some x → Inv i s C → ∃ s', bindP C p x s = some s' ∧ ((∃ s2 C2, (fb s' C = .nx s2 C2 ∨ fb s' C = .ct s2 C2) ∧ Inv (i + 1) s2 C2) ∨ ∃ w C2, fb s' C = .rt w C2 ∧ Rt w C2)) :
    ∀ (m i n : Nat) (s : St) (C : CH), m = xs.length - i → i ≤ xs.length → Inv i s C → m < n → (∃ s' C', forL fb p n (q i) s C = .nx s' C' ∧ Inv xs.length s' C') ∨ ∃ w C', forL fb p n (q i) s C = .rt w C' ∧ Rt w C'
  | m, i, n + 1, s, C, hm, hil, hI, hn => by
    cases e : xs[i]? with
    | none =>
      have hl : i = xs.length := by
        rcases Nat.lt_or_ge i xs.length with z | z
        · rw [List.getElem?_eq_getElem z] at e; cases e
        · omega
      refine .inl ⟨s, C, ?_, hl ▸ hI⟩
      rw [forL, hq i C (hi i s C hI), e]
    | some x =>
      have hl : i < xs.length := by
        rcases Nat.lt_or_ge i xs.length with z | z
        · exact z
        · rw [List.getElem?_eq_none z] at e; cases e
      obtain ⟨s', hb, h0⟩ := h i x s C e hI
      rcases h0 with ⟨s2, C2, hf, hI2⟩ | ⟨w, C2, hf, hr⟩
      · have ih := forL_q hq Inv Rt hi h (m - 1) (i + 1) n s2 C2 (by omega) (by omega) hI2 (by omega)
        have ee : forL fb p (n + 1) (q i) s C = forL fb p n (q (i + 1)) s2 C2 := by
          rw [forL, hq i C (hi i s C hI), e]
          rcases hf with hf | hf <;> simp only [hb, hf]
        rw [ee]
        exact ih
      · refine .inr ⟨w, C2, ?_, hr⟩
        rw [forL, hq i C (hi i s C hI), e]
        simp only [hb, hf]
end RF
end
section
set_option Elab.async false
set_option linter.all false
set_option maxRecDepth 100000
set_option maxHeartbeats 0
namespace K04
open RF
/-- is_number: thing -/
def c0 : FD := ⟨1, 1, (.cons (.ret (.and (.bi .isi (.cons (.var 0) (.cons (.gty "int") .nil))) (.not (.bi .isi (.cons (.var 0) (.cons (.gty "bool") .nil)))))) .nil)⟩
/-- is_from_zero: thing -/
def c1 : FD := ⟨1, 1, (.cons (.ret (.and (.call 0 (.cons (.var 0) .nil)) (.cmp .GtE (.var 0) (.lit (.int 0))))) .nil)⟩
/-- is_below: thing many -/
def c2 : FD := ⟨2, 2, (.cons (.ret (.and (.call 0 (.cons (.var 0) .nil)) (.cmp2 .LtE .Lt (.lit (.int 0)) (.var 0) (.var 1)))) .nil)⟩
/-- is_tuple_of: thing many -/
def c3 : FD := ⟨2, 2, (.cons (.ret (.and (.bi .isi (.cons (.var 0) (.cons (.gty "tuple") .nil))) (.cmp .Eq (.bi .len (.cons (.var 0) .nil)) (.var 1)))) .nil)⟩
/-- is_ascending: things at -/
def c4 : FD := ⟨1, 2, (.cons (.ret (.bi .all (.cons (.comp [("at", 1)] .rng2 (.cons (.lit (.int 1)) (.cons (.bi .len (.cons (.var 0) .nil)) .nil)) (.nm 1) (.lit (.bl true)) (.cmp .Lt (.ix (.var 0) (.bin .Sub (.var 1) (.lit (.int 1)))) (.ix (.var 0) (.var 1)))) .nil))) .nil)⟩
/-- as_tuples: value deep part -/
def c5 : FD := ⟨2, 3, (.cons (.ifs (.or (.cmp .Eq (.var 1) (.lit (.int 0))) (.not (.bi .isi (.cons (.var 0) (.cons (.tup (.cons (.gty "list") (.cons (.gty "tuple") .nil))) .nil))))) (.cons (.ret (.var 0)) .nil) .nil) (.cons (.ret (.bi .tuple (.cons (.comp [("part", 2)] .seq (.cons (.var 0) .nil) (.nm 2) (.lit (.bl true)) (.call 5 (.cons (.var 2) (.cons (.bin .Sub (.var 1) (.lit (.int 1))) .nil)))) .nil))) .nil))⟩
/-- is_craft: thing sizes rows row -/
def c6 : FD := ⟨1, 4, (.cons (.ifs (.not (.call 3 (.cons (.var 0) (.cons (.lit (.int 2)) .nil)))) (.cons (.ret (.lit (.bl false))) .nil) .nil) (.cons (.pat (.tp (.cons (.nm 1) (.cons (.nm 2) .nil))) (.var 0)) (.cons (.ret (.and (.call 8 (.cons (.var 1) .nil)) (.and (.bi .isi (.cons (.var 2) (.cons (.gty "tuple") .nil))) (.and (.cmp .Gt (.bi .len (.cons (.var 2) .nil)) (.lit (.int 0))) (.bi .all (.cons (.comp [("row", 3)] .seq (.cons (.var 2) .nil) (.nm 3) (.lit (.bl true)) (.call 7 (.cons (.var 1) (.cons (.var 3) .nil)))) .nil)))))) .nil)))⟩
/-- is_row: sizes thing elders looks cost shape slots slot -/
def c7 : FD := ⟨2, 8, (.cons (.ifs (.not (.call 3 (.cons (.var 1) (.cons (.lit (.int 5)) .nil)))) (.cons (.ret (.lit (.bl false))) .nil) .nil) (.cons (.pat (.tp (.cons (.nm 2) (.cons (.nm 3) (.cons (.nm 4) (.cons (.nm 5) (.cons (.nm 6) .nil)))))) (.var 1)) (.cons (.ifs (.or (.not (.call 9 (.cons (.var 0) (.cons (.var 2) .nil)))) (.not (.call 12 (.cons (.var 0) (.cons (.var 2) (.cons (.var 3) .nil)))))) (.cons (.ret (.lit (.bl false))) .nil) .nil) (.cons (.ifs (.or (.not (.call 1 (.cons (.var 4) .nil))) (.not (.call 2 (.cons (.var 5) (.cons (.bi .len (.cons (.var 0) .nil)) .nil))))) (.cons (.ret (.lit (.bl false))) .nil) .nil) (.cons (.ret (.and (.call 3 (.cons (.var 6) (.cons (.ix (.var 0) (.var 5)) .nil))) (.bi .all (.cons (.comp [("slot", 7)] .seq (.cons (.var 6) .nil) (.nm 7) (.lit (.bl true)) (.call 13 (.cons (.var 0) (.cons (.var 2) (.cons (.var 7) .nil))))) .nil)))) .nil)))))⟩
/-- is_sizes: thing size -/
def c8 : FD := ⟨1, 2, (.cons (.ret (.and (.bi .isi (.cons (.var 0) (.cons (.gty "tuple") .nil))) (.and (.cmp .Gt (.bi .len (.cons (.var 0) .nil)) (.lit (.int 0))) (.bi .all (.cons (.comp [("size", 1)] .seq (.cons (.var 0) .nil) (.nm 1) (.lit (.bl true)) (.call 1 (.cons (.var 1) .nil))) .nil))))) .nil)⟩
/-- is_elders: sizes thing shape -/
def c9 : FD := ⟨2, 3, (.cons (.ret (.and (.bi .isi (.cons (.var 1) (.cons (.gty "tuple") .nil))) (.and (.cmp .LtE (.bi .len (.cons (.var 1) .nil)) (.lit (.int 2))) (.bi .all (.cons (.comp [("shape", 2)] .seq (.cons (.var 1) .nil) (.nm 2) (.lit (.bl true)) (.call 2 (.cons (.var 2) (.cons (.bi .len (.cons (.var 0) .nil)) .nil)))) .nil))))) .nil)⟩
/-- is_asked: sizes elders thing place slot -/
def c10 : FD := ⟨3, 5, (.cons (.ifs (.not (.call 3 (.cons (.var 2) (.cons (.lit (.int 2)) .nil)))) (.cons (.ret (.lit (.bl false))) .nil) .nil) (.cons (.pat (.tp (.cons (.nm 3) (.cons (.nm 4) .nil))) (.var 2)) (.cons (.ret (.and (.call 2 (.cons (.var 3) (.cons (.bi .len (.cons (.var 1) .nil)) .nil))) (.call 2 (.cons (.var 4) (.cons (.ix (.var 0) (.ix (.var 1) (.var 3))) .nil))))) .nil)))⟩
/-- is_all_asked: sizes elders thing pair -/
def c11 : FD := ⟨3, 4, (.cons (.ret (.and (.bi .isi (.cons (.var 2) (.cons (.gty "tuple") .nil))) (.bi .all (.cons (.comp [("pair", 3)] .seq (.cons (.var 2) .nil) (.nm 3) (.lit (.bl true)) (.call 10 (.cons (.var 0) (.cons (.var 1) (.cons (.var 3) .nil))))) .nil)))) .nil)⟩
/-- is_looks: sizes elders thing -/
def c12 : FD := ⟨3, 3, (.cons (.ret (.and (.call 11 (.cons (.var 0) (.cons (.var 1) (.cons (.var 2) .nil)))) (.cmp .Eq (.lenset (.var 2)) (.bi .len (.cons (.var 2) .nil))))) .nil)⟩
/-- is_slot: sizes elders thing _ cost wants -/
def c13 : FD := ⟨3, 6, (.cons (.ifs (.call 3 (.cons (.var 2) (.cons (.lit (.int 1)) .nil))) (.cons (.ret (.cmp .Eq (.ix (.var 2) (.lit (.int 0))) (.lit (.str "none")))) .nil) .nil) (.cons (.ifs (.not (.call 3 (.cons (.var 2) (.cons (.lit (.int 3)) .nil)))) (.cons (.ret (.lit (.bl false))) .nil) .nil) (.cons (.ifs (.cmp .Eq (.ix (.var 2) (.lit (.int 0))) (.lit (.str "kept"))) (.cons (.ret (.call 10 (.cons (.var 0) (.cons (.var 1) (.cons (.slc (.var 2) (.lit (.int 1)) .nopart) .nil))))) .nil) .nil) (.cons (.ifs (.cmp .NotEq (.ix (.var 2) (.lit (.int 0))) (.lit (.str "new"))) (.cons (.ret (.lit (.bl false))) .nil) .nil) (.cons (.pat (.tp (.cons (.nm 3) (.cons (.nm 4) (.cons (.nm 5) .nil)))) (.var 2)) (.cons (.ret (.and (.call 1 (.cons (.var 4) .nil)) (.and (.call 11 (.cons (.var 0) (.cons (.var 1) (.cons (.var 5) .nil)))) (.call 4 (.cons (.var 5) .nil))))) .nil))))))⟩
/-- fit_craft: craft -/
def c14 : FD := ⟨1, 1, (.cons (.set 0 (.call 5 (.cons (.var 0) (.cons (.gint "CRAFT_LEVELS" 7) .nil)))) (.cons (.ifs (.not (.call 6 (.cons (.var 0) .nil))) (.cons (.raise 2 .nil) .nil) .nil) (.cons (.ret (.var 0)) .nil)))⟩
/-- is_history: craft thing shapes version -/
def c15 : FD := ⟨2, 4, (.cons (.ifs (.not (.bi .isi (.cons (.var 1) (.cons (.gty "tuple") .nil)))) (.cons (.ret (.lit (.bl false))) .nil) .nil) (.cons (.set 2 (.lst .nil)) (.cons (.loop .seq (.cons (.var 1) .nil) (.nm 3) (.cons (.ifs (.not (.call 16 (.cons (.var 0) (.cons (.var 2) (.cons (.var 3) .nil))))) (.cons (.ret (.lit (.bl false))) .nil) .nil) (.cons (.expr (.meth .append (.var 2) (.cons (.ix (.ix (.ix (.var 0) (.lit (.int 1))) (.ix (.var 3) (.lit (.int 0)))) (.lit (.int 3))) .nil))) .nil))) (.cons (.ret (.lit (.bl true))) .nil))))⟩
/-- is_next: craft shapes thing row elders asked elder shape -/
def c16 : FD := ⟨3, 8, (.cons (.ifs (.not (.call 3 (.cons (.var 2) (.cons (.lit (.int 2)) .nil)))) (.cons (.ret (.lit (.bl false))) .nil) .nil) (.cons (.pat (.tp (.cons (.nm 3) (.cons (.nm 4) .nil))) (.var 2)) (.cons (.ifs (.not (.call 2 (.cons (.var 3) (.cons (.bi .len (.cons (.ix (.var 0) (.lit (.int 1))) .nil)) .nil)))) (.cons (.ret (.lit (.bl false))) .nil) .nil) (.cons (.set 5 (.ix (.ix (.ix (.var 0) (.lit (.int 1))) (.var 3)) (.lit (.int 0)))) (.cons (.ifs (.not (.call 3 (.cons (.var 4) (.cons (.bi .len (.cons (.var 5) .nil)) .nil)))) (.cons (.ret (.lit (.bl false))) .nil) .nil) (.cons (.ret (.bi .all (.cons (.comp [("elder", 6), ("shape", 7)] .zip (.cons (.var 4) (.cons (.var 5) .nil)) (.tp (.cons (.nm 6) (.cons (.nm 7) .nil))) (.lit (.bl true)) (.and (.call 2 (.cons (.var 6) (.cons (.bi .len (.cons (.var 1) .nil)) .nil))) (.cmp .Eq (.ix (.var 1) (.var 6)) (.var 7)))) .nil))) .nil))))))⟩
/-- fit_web: craft web -/
def c17 : FD := ⟨2, 2, (.cons (.set 1 (.call 5 (.cons (.var 1) (.cons (.gint "WEB_LEVELS" 3) .nil)))) (.cons (.ifs (.not (.call 15 (.cons (.var 0) (.cons (.var 1) .nil)))) (.cons (.raise 2 .nil) .nil) .nil) (.cons (.ret (.var 1)) .nil)))⟩
/-- fit_both: craft web -/
def c18 : FD := ⟨2, 2, (.cons (.set 0 (.call 14 (.cons (.var 0) .nil))) (.cons (.ret (.tup (.cons (.var 0) (.cons (.call 17 (.cons (.var 0) (.cons (.var 1) .nil))) .nil)))) .nil))⟩
/-- check_version: web version -/
def c19 : FD := ⟨2, 2, (.cons (.ifs (.not (.call 2 (.cons (.var 1) (.cons (.bi .len (.cons (.var 0) .nil)) .nil)))) (.cons (.raise 0 (.cons (.var 1) .nil)) .nil) .nil) .nil)⟩
/-- check_slot: craft web version slot -/
def c20 : FD := ⟨4, 4, (.cons (.expr (.call 19 (.cons (.var 1) (.cons (.var 2) .nil)))) (.cons (.ifs (.not (.call 2 (.cons (.var 3) (.cons (.bi .len (.cons (.call 22 (.cons (.var 0) (.cons (.var 1) (.cons (.var 2) .nil)))) .nil)) .nil)))) (.cons (.raise 1 (.cons (.var 3) .nil)) .nil) .nil) .nil))⟩
/-- fit_wait: craft web wait version slot -/
def c21 : FD := ⟨3, 5, (.cons (.pat (.tp (.cons (.nm 3) (.cons (.nm 4) .nil))) (.var 2)) (.cons (.expr (.call 20 (.cons (.var 0) (.cons (.var 1) (.cons (.var 3) (.cons (.var 4) .nil)))))) (.cons (.ifs (.cmp .NotEq (.ix (.ix (.call 22 (.cons (.var 0) (.cons (.var 1) (.cons (.var 3) .nil)))) (.var 4)) (.lit (.int 0))) (.lit (.str "new"))) (.cons (.raise 2 .nil) .nil) .nil) (.cons (.ret (.tup (.cons (.var 3) (.cons (.var 4) .nil)))) .nil))))⟩
/-- slots_of: craft web version -/
def c22 : FD := ⟨3, 3, (.cons (.ret (.ix (.ix (.ix (.var 0) (.lit (.int 1))) (.ix (.ix (.var 1) (.var 2)) (.lit (.int 0)))) (.lit (.int 4)))) .nil)⟩
/-- slots_held: craft web holds version _ elders slots at slot -/
def c23 : FD := ⟨2, 9, (.cons (.set 2 (.lst .nil)) (.cons (.loop .enm (.cons (.var 1) .nil) (.tp (.cons (.nm 3) (.cons (.tp (.cons (.nm 4) (.cons (.nm 5) .nil))) .nil))) (.cons (.set 6 (.call 22 (.cons (.var 0) (.cons (.var 1) (.cons (.var 3) .nil))))) (.cons (.expr (.meth .append (.var 2) (.cons (.bi .tuple (.cons (.comp [("at", 7), ("slot", 8)] .enm (.cons (.var 6) .nil) (.tp (.cons (.nm 7) (.cons (.nm 8) .nil))) (.lit (.bl true)) (.call 24 (.cons (.var 2) (.cons (.var 5) (.cons (.tup (.cons (.var 3) (.cons (.var 7) .nil))) (.cons (.var 8) .nil)))))) .nil)) .nil))) .nil))) (.cons (.ret (.var 2)) .nil)))⟩
/-- held_at: holds elders place slot -/
def c24 : FD := ⟨4, 4, (.cons (.ifs (.cmp .Eq (.ix (.var 3) (.lit (.int 0))) (.lit (.str "new"))) (.cons (.ret (.var 2)) .nil) .nil) (.cons (.ifs (.cmp .Eq (.ix (.var 3) (.lit (.int 0))) (.lit (.str "kept"))) (.cons (.ret (.ix (.ix (.var 0) (.ix (.var 1) (.ix (.var 3) (.lit (.int 1))))) (.ix (.var 3) (.lit (.int 2))))) .nil) .nil) (.cons (.ret (.lit .non)) .nil)))⟩
/-- held: craft web -/
def c25 : FD := ⟨2, 2, (.cons (.pat (.tp (.cons (.nm 0) (.cons (.nm 1) .nil))) (.call 18 (.cons (.var 0) (.cons (.var 1) .nil)))) (.cons (.ret (.bi .tuple (.cons (.call 23 (.cons (.var 0) (.cons (.var 1) .nil))) .nil))) .nil))⟩
/-- wants_of: craft web holds wait version slot elders asked place own other -/
def c26 : FD := ⟨4, 11, (.cons (.pat (.tp (.cons (.nm 4) (.cons (.nm 5) .nil))) (.var 3)) (.cons (.set 6 (.ix (.ix (.var 1) (.var 4)) (.lit (.int 1)))) (.cons (.set 7 (.comp [("place", 8), ("own", 9)] .seq (.cons (.ix (.ix (.call 22 (.cons (.var 0) (.cons (.var 1) (.cons (.var 4) .nil)))) (.var 5)) (.lit (.int 2))) .nil) (.tp (.cons (.nm 8) (.cons (.nm 9) .nil))) (.lit (.bl true)) (.ix (.ix (.var 2) (.ix (.var 6) (.var 8))) (.var 9)))) (.cons (.ret (.bi .tuple (.cons (.comp [("other", 10)] .seq (.cons (.var 7) .nil) (.nm 10) (.cmp .IsNot (.var 10) (.lit .non)) (.var 10)) .nil))) .nil))))⟩
/-- wanted: craft web wait -/
def c27 : FD := ⟨3, 3, (.cons (.pat (.tp (.cons (.nm 0) (.cons (.nm 1) .nil))) (.call 18 (.cons (.var 0) (.cons (.var 1) .nil)))) (.cons (.set 2 (.call 21 (.cons (.var 0) (.cons (.var 1) (.cons (.var 2) .nil))))) (.cons (.ret (.call 26 (.cons (.var 0) (.cons (.var 1) (.cons (.call 23 (.cons (.var 0) (.cons (.var 1) .nil))) (.cons (.var 2) .nil)))))) .nil)))⟩
/-- holders: craft web wait holds version slots at one -/
def c28 : FD := ⟨3, 8, (.cons (.pat (.tp (.cons (.nm 0) (.cons (.nm 1) .nil))) (.call 18 (.cons (.var 0) (.cons (.var 1) .nil)))) (.cons (.set 2 (.call 21 (.cons (.var 0) (.cons (.var 1) (.cons (.var 2) .nil))))) (.cons (.set 3 (.call 23 (.cons (.var 0) (.cons (.var 1) .nil)))) (.cons (.ret (.bi .tuple (.cons (.comp2 [("version", 4), ("slots", 5), ("at", 6), ("one", 7)] [6, 7] .enm (.cons (.var 3) .nil) (.tp (.cons (.nm 4) (.cons (.nm 5) .nil))) (.lit (.bl true)) .enm (.cons (.var 5) .nil) (.tp (.cons (.nm 6) (.cons (.nm 7) .nil))) (.cmp .Eq (.var 7) (.var 2)) (.tup (.cons (.var 4) (.cons (.var 6) .nil)))) .nil))) .nil))))⟩
/-- beside: webs told web ahead row elders elder -/
def c29 : FD := ⟨1, 7, (.cons (.set 1 (.lst .nil)) (.cons (.loop .seq (.cons (.var 0) .nil) (.nm 2) (.cons (.set 3 (.bi .len (.cons (.var 1) .nil))) (.cons (.expr (.meth .extend (.var 1) (.cons (.comp [("row", 4), ("elders", 5)] .seq (.cons (.var 2) .nil) (.tp (.cons (.nm 4) (.cons (.nm 5) .nil))) (.lit (.bl true)) (.tup (.cons (.var 4) (.cons (.bi .tuple (.cons (.comp [("elder", 6)] .seq (.cons (.var 5) .nil) (.nm 6) (.lit (.bl true)) (.bin .Add (.var 3) (.var 6))) .nil)) .nil)))) .nil))) .nil))) (.cons (.ret (.bi .tuple (.cons (.var 1) .nil))) .nil)))⟩
/-- _law_box: script k bit_so -/
def c30 : FD := ⟨2, 3, (.cons (.set 2 (.ite (.cmp .Lt (.var 1) (.bi .len (.cons (.var 0) .nil))) (.ix (.var 0) (.var 1)) (.lit (.int 0)))) (.cons (.ret (.lst (.cons (.bin .Mult (.bi .abs (.cons (.var 2) .nil)) (.bi .int (.cons (.cmp .GtE (.bi .abs (.cons (.var 2) .nil)) (.bin .Pow (.lit (.int 10)) (.lit (.int 18)))) .nil))) (.cons (.bin .Add (.bin .Add (.bin .Mod (.bi .int (.cons (.var 2) .nil)) (.lit (.int 2305843009213693951))) (.bin .Mult (.lit (.int 39373)) (.var 1))) (.lit (.int 3171004))) (.cons (.lit (.int 0)) .nil))))) .nil))⟩
/-- _law_take: tin below_so drawn once_so wide_so twice_so -/
def c31 : FD := ⟨2, 6, (.cons (.ifs (.cmp .Gt (.ix (.var 0) (.lit (.int 0))) (.lit (.int 0))) (.cons (.set 2 (.bin .Mod (.bi .int (.cons (.ix (.var 0) (.lit (.int 0))) .nil)) (.var 1))) (.cons (.ixset (.var 0) (.lit (.int 0)) (.bin .FloorDiv (.ix (.var 0) (.lit (.int 0))) (.var 1))) (.cons (.ret (.var 2)) .nil))) .nil) (.cons (.ixset (.var 0) (.lit (.int 2)) (.bin .Add (.ix (.var 0) (.lit (.int 2))) (.lit (.int 1)))) (.cons (.set 3 (.bin .Mod (.bi .int (.cons (.bin .Mult (.bin .Add (.ix (.var 0) (.lit (.int 1))) (.bin .Mult (.lit (.int 48271)) (.ix (.var 0) (.lit (.int 2))))) (.bin .Add (.lit (.int 39373)) (.ix (.var 0) (.lit (.int 2))))) .nil)) (.lit (.int 2147483647)))) (.cons (.set 4 (.bin .Add (.bin .Mod (.bi .int (.cons (.var 3) .nil)) (.lit (.int 40009))) (.lit (.int 7)))) (.cons (.set 5 (.bin .Mod (.bi .int (.cons (.bin .Mult (.bin .Add (.bin .Add (.var 3) (.ix (.var 0) (.lit (.int 2)))) (.bin .FloorDiv (.ix (.var 0) (.lit (.int 1))) (.lit (.int 1000003)))) (.var 4)) .nil)) (.lit (.int 2147483629)))) (.cons (.ret (.bin .Mod (.bi .int (.cons (.bin .FloorDiv (.bin .Mod (.bi .int (.cons (.bin .Add (.bin .Mult (.var 5) (.lit (.int 48271))) (.var 3)) .nil)) (.lit (.int 2147483587))) (.lit (.int 64))) .nil)) (.var 1))) .nil))))))⟩
/-- _law_cells: script most_so cells_so k bit_so at_so -/
def c32 : FD := ⟨2, 6, (.cons (.set 2 (.or (.bi .list (.cons (.slc (.var 0) .nopart (.var 1)) .nil)) (.lst (.cons (.lit (.int 0)) .nil)))) (.cons (.loop .enm (.cons (.slc (.var 0) (.var 1) (.lit (.int 63))) .nil) (.tp (.cons (.nm 3) (.cons (.nm 4) .nil))) (.cons (.set 5 (.bin .Mod (.bi .int (.cons (.var 3) .nil)) (.var 1))) (.cons (.ixset (.var 2) (.var 5) (.bin .Add (.ix (.var 2) (.var 5)) (.bin .Mult (.var 4) (.bin .Add (.var 3) (.lit (.int 2)))))) .nil))) (.cons (.ret (.var 2)) .nil)))⟩
/-- _law_of: tin goods_so -/
def c33 : FD := ⟨2, 2, (.cons (.ret (.ix (.var 1) (.call 31 (.cons (.var 0) (.cons (.bi .len (.cons (.var 1) .nil)) .nil))))) .nil)⟩
/-- _law_pick: tin goods_so count_so pool_so found lap -/
def c34 : FD := ⟨3, 6, (.cons (.par [3, 4] (.cons (.bi .list (.cons (.var 1) .nil)) (.cons (.lst .nil) .nil))) (.cons (.loop .rng1 (.cons (.bi .min (.cons (.bi .int (.cons (.var 2) .nil)) (.cons (.bi .len (.cons (.var 3) .nil)) .nil))) .nil) (.nm 5) (.cons (.expr (.meth .append (.var 4) (.cons (.meth .popAt (.var 3) (.cons (.call 31 (.cons (.var 0) (.cons (.bi .len (.cons (.var 3) .nil)) .nil))) .nil)) .nil))) .nil)) (.cons (.ret (.var 4)) .nil)))⟩
/-- _law_lists: matter bit -/
def c35 : FD := ⟨1, 2, (.cons (.ret (.ite (.bi .isi (.cons (.var 0) (.cons (.tup (.cons (.gty "list") (.cons (.gty "tuple") .nil))) .nil))) (.comp [("bit", 1)] .seq (.cons (.var 0) .nil) (.nm 1) (.lit (.bl true)) (.call 35 (.cons (.var 1) .nil))) (.var 0))) .nil)⟩
/-- _law_same: got due mine its -/
def c36 : FD := ⟨2, 4, (.cons (.ifs (.bi .isi (.cons (.var 1) (.cons (.tup (.cons (.gty "list") (.cons (.gty "tuple") .nil))) .nil))) (.cons (.ifs (.or (.cmp .NotEq (.bi .isi (.cons (.var 0) (.cons (.gty "list") .nil))) (.bi .isi (.cons (.var 1) (.cons (.gty "list") .nil)))) (.cmp .NotEq (.bi .isi (.cons (.var 0) (.cons (.gty "tuple") .nil))) (.bi .isi (.cons (.var 1) (.cons (.gty "tuple") .nil))))) (.cons (.ret (.lit (.bl false))) .nil) .nil) (.cons (.ret (.and (.cmp .Eq (.bi .len (.cons (.var 0) .nil)) (.bi .len (.cons (.var 1) .nil))) (.bi .all (.cons (.comp [("mine", 2), ("its", 3)] .zip (.cons (.var 0) (.cons (.var 1) .nil)) (.tp (.cons (.nm 2) (.cons (.nm 3) .nil))) (.lit (.bl true)) (.call 36 (.cons (.var 2) (.cons (.var 3) .nil)))) .nil)))) .nil)) .nil) (.cons (.ifs (.or (.cmp .Is (.var 1) (.lit .non)) (.bi .isi (.cons (.var 1) (.cons (.tup (.cons (.gty "bool") (.cons (.gty "str") .nil))) .nil)))) (.cons (.ret (.and (.cmp .Eq (.var 0) (.var 1)) (.and (.cmp .Eq (.bi .isi (.cons (.var 0) (.cons (.gty "bool") .nil))) (.bi .isi (.cons (.var 1) (.cons (.gty "bool") .nil)))) (.cmp .Eq (.cmp .Is (.var 0) (.lit .non)) (.cmp .Is (.var 1) (.lit .non)))))) .nil) .nil) (.cons (.ret (.and (.bi .isi (.cons (.var 0) (.cons (.gty "int") .nil))) (.and (.not (.bi .isi (.cons (.var 0) (.cons (.gty "bool") .nil)))) (.cmp .Eq (.var 0) (.var 1))))) .nil)))⟩
/-- _law_chain:  -/
def c37 : FD := ⟨0, 0, (.cons (.ret (.tup (.cons (.tup (.cons (.lit (.int 1)) .nil)) (.cons (.tup (.cons (.tup (.cons (.tup .nil) (.cons (.tup .nil) (.cons (.lit (.int 0)) (.cons (.lit (.int 0)) (.cons (.tup (.cons (.tup (.cons (.lit (.str "none")) .nil)) .nil)) .nil)))))) (.cons (.tup (.cons (.tup (.cons (.lit (.int 0)) .nil)) (.cons (.tup .nil) (.cons (.lit (.int 0)) (.cons (.lit (.int 0)) (.cons (.tup (.cons (.tup (.cons (.lit (.str "new")) (.cons (.lit (.int 1)) (.cons (.tup (.cons (.tup (.cons (.lit (.int 0)) (.cons (.lit (.int 0)) .nil))) .nil)) .nil)))) .nil)) .nil)))))) (.cons (.tup (.cons (.tup (.cons (.lit (.int 0)) .nil)) (.cons (.tup (.cons (.tup (.cons (.lit (.int 0)) (.cons (.lit (.int 0)) .nil))) .nil)) (.cons (.lit (.int 0)) (.cons (.lit (.int 0)) (.cons (.tup (.cons (.tup (.cons (.lit (.str "none")) .nil)) .nil)) .nil)))))) .nil)))) .nil)))) .nil)⟩
/-- _law_kept:  -/
def c38 : FD := ⟨0, 0, (.cons (.ret (.tup (.cons (.tup (.cons (.lit (.int 2)) .nil)) (.cons (.tup (.cons (.tup (.cons (.tup .nil) (.cons (.tup .nil) (.cons (.lit (.int 0)) (.cons (.lit (.int 0)) (.cons (.tup (.cons (.tup (.cons (.lit (.str "none")) .nil)) (.cons (.tup (.cons (.lit (.str "new")) (.cons (.lit (.int 1)) (.cons (.tup .nil) .nil)))) .nil))) .nil)))))) (.cons (.tup (.cons (.tup (.cons (.lit (.int 0)) .nil)) (.cons (.tup .nil) (.cons (.lit (.int 0)) (.cons (.lit (.int 0)) (.cons (.tup (.cons (.tup (.cons (.lit (.str "new")) (.cons (.lit (.int 0)) (.cons (.tup (.cons (.tup (.cons (.lit (.int 0)) (.cons (.lit (.int 0)) .nil))) (.cons (.tup (.cons (.lit (.int 0)) (.cons (.lit (.int 1)) .nil))) .nil))) .nil)))) (.cons (.tup (.cons (.lit (.str "kept")) (.cons (.lit (.int 0)) (.cons (.lit (.int 1)) .nil)))) .nil))) .nil)))))) (.cons (.tup (.cons (.tup (.cons (.lit (.int 0)) .nil)) (.cons (.tup (.cons (.tup (.cons (.lit (.int 0)) (.cons (.lit (.int 0)) .nil))) .nil)) (.cons (.lit (.int 0)) (.cons (.lit (.int 0)) (.cons (.tup (.cons (.tup (.cons (.lit (.str "none")) .nil)) (.cons (.tup (.cons (.lit (.str "kept")) (.cons (.lit (.int 0)) (.cons (.lit (.int 1)) .nil)))) .nil))) .nil)))))) .nil)))) .nil)))) .nil)⟩
/-- _law_filling: tin goods_so way_so wants_so -/
def c39 : FD := ⟨2, 4, (.cons (.set 2 (.ite (.cmp .NotEq (.var 1) (.lst .nil)) (.call 31 (.cons (.var 0) (.cons (.lit (.int 4)) .nil))) (.lit (.int 3)))) (.cons (.ifs (.cmp .Eq (.var 2) (.lit (.int 0))) (.cons (.ret (.tup (.cons (.lit (.str "none")) .nil))) .nil) .nil) (.cons (.ifs (.cmp .Eq (.var 2) (.lit (.int 1))) (.cons (.ret (.bin .Add (.tup (.cons (.lit (.str "kept")) .nil)) (.call 33 (.cons (.var 0) (.cons (.var 1) .nil))))) .nil) .nil) (.cons (.set 3 (.bi .tuple (.cons (.bi .sorted (.cons (.call 34 (.cons (.var 0) (.cons (.var 1) (.cons (.call 31 (.cons (.var 0) (.cons (.lit (.int 3)) .nil))) .nil)))) .nil)) .nil))) (.cons (.ret (.tup (.cons (.lit (.str "new")) (.cons (.call 31 (.cons (.var 0) (.cons (.lit (.int 5)) .nil))) (.cons (.var 3) .nil))))) .nil)))))⟩
/-- _law_house_one: tin wide_so sizes_so first_so lines_so goods_so lap looks_so made_so slots_so k -/
def c40 : FD := ⟨1, 11, (.cons (.set 1 (.cmp .Eq (.call 31 (.cons (.var 0) (.cons (.lit (.int 3)) .nil))) (.lit (.int 0)))) (.cons (.set 2 (.ite (.var 1) (.tup (.cons (.lit (.int 2)) (.cons (.lit (.int 1)) .nil))) (.tup (.cons (.lit (.int 2)) .nil)))) (.cons (.set 3 (.lst (.cons (.tup (.cons (.lit (.str "new")) (.cons (.bin .Add (.lit (.int 1)) (.call 31 (.cons (.var 0) (.cons (.lit (.int 5)) .nil)))) (.cons (.tup .nil) .nil)))) (.cons (.call 39 (.cons (.var 0) (.cons (.lst .nil) .nil))) .nil)))) (.cons (.ifs (.cmp .Eq (.call 31 (.cons (.var 0) (.cons (.lit (.int 3)) .nil))) (.lit (.int 0))) (.cons (.ixset (.var 3) (.lit (.int 1)) (.tup (.cons (.lit (.str "none")) .nil))) .nil) .nil) (.cons (.set 4 (.lst (.cons (.tup (.cons (.tup .nil) (.cons (.tup .nil) (.cons (.call 31 (.cons (.var 0) (.cons (.lit (.int 2)) .nil))) (.cons (.lit (.int 0)) (.cons (.bi .tuple (.cons (.ite (.cmp .Eq (.call 31 (.cons (.var 0) (.cons (.lit (.int 2)) .nil))) (.lit (.int 0))) (.rev (.var 3)) (.var 3)) .nil)) .nil)))))) .nil))) (.cons (.set 5 (.lst (.cons (.tup (.cons (.lit (.int 0)) (.cons (.lit (.int 0)) .nil))) (.cons (.tup (.cons (.lit (.int 0)) (.cons (.lit (.int 1)) .nil))) .nil)))) (.cons (.loop .rng1 (.cons (.lit (.int 2)) .nil) (.nm 6) (.cons (.set 7 (.bi .tuple (.cons (.call 34 (.cons (.var 0) (.cons (.var 5) (.cons (.ite (.cmp .Eq (.var 6) (.lit (.int 0))) (.var 6) (.bin .Add (.lit (.int 1)) (.bi .int (.cons (.cmp .Eq (.call 31 (.cons (.var 0) (.cons (.lit (.int 4)) .nil))) (.lit (.int 0))) .nil)))) .nil)))) .nil))) (.cons (.set 8 (.ite (.and (.var 1) (.cmp .Eq (.var 6) (.lit (.int 1)))) (.lit (.int 1)) (.lit (.int 0)))) (.cons (.set 9 (.bi .tuple (.cons (.comp [("k", 10)] .rng1 (.cons (.ix (.var 2) (.var 8)) .nil) (.nm 10) (.lit (.bl true)) (.call 39 (.cons (.var 0) (.cons (.var 5) .nil)))) .nil))) (.cons (.expr (.meth .append (.var 4) (.cons (.tup (.cons (.tup (.cons (.lit (.int 0)) .nil)) (.cons (.var 7) (.cons (.call 31 (.cons (.var 0) (.cons (.lit (.int 2)) .nil))) (.cons (.var 8) (.cons (.var 9) .nil)))))) .nil))) .nil))))) (.cons (.ret (.tup (.cons (.var 2) (.cons (.bi .tuple (.cons (.var 4) .nil)) .nil)))) .nil))))))))⟩
/-- _law_house_two: tin lines_so goods_so looks_so -/
def c41 : FD := ⟨1, 4, (.cons (.set 1 (.lst (.cons (.tup (.cons (.tup .nil) (.cons (.tup .nil) (.cons (.call 31 (.cons (.var 0) (.cons (.lit (.int 2)) .nil))) (.cons (.lit (.int 0)) (.cons (.tup (.cons (.tup (.cons (.lit (.str "new")) (.cons (.bin .Add (.lit (.int 1)) (.call 31 (.cons (.var 0) (.cons (.lit (.int 6)) .nil)))) (.cons (.tup .nil) .nil)))) .nil)) .nil)))))) .nil))) (.cons (.set 2 (.lst (.cons (.tup (.cons (.lit (.int 0)) (.cons (.lit (.int 0)) .nil))) (.cons (.tup (.cons (.lit (.int 1)) (.cons (.lit (.int 0)) .nil))) .nil)))) (.cons (.set 3 (.bi .tuple (.cons (.call 34 (.cons (.var 0) (.cons (.var 2) (.cons (.bin .Add (.lit (.int 1)) (.call 31 (.cons (.var 0) (.cons (.lit (.int 2)) .nil)))) .nil)))) .nil))) (.cons (.expr (.meth .append (.var 1) (.cons (.tup (.cons (.tup (.cons (.lit (.int 0)) (.cons (.lit (.int 0)) .nil))) (.cons (.var 3) (.cons (.call 31 (.cons (.var 0) (.cons (.lit (.int 2)) .nil))) (.cons (.lit (.int 0)) (.cons (.tup (.cons (.call 39 (.cons (.var 0) (.cons (.var 2) .nil))) .nil)) .nil)))))) .nil))) (.cons (.ifs (.cmp .Eq (.call 31 (.cons (.var 0) (.cons (.lit (.int 2)) .nil))) (.lit (.int 0))) (.cons (.set 3 (.ite (.cmp .Eq (.call 31 (.cons (.var 0) (.cons (.lit (.int 3)) .nil))) (.lit (.int 0))) (.tup (.cons (.tup (.cons (.lit (.int 0)) (.cons (.lit (.int 0)) .nil))) .nil)) (.tup .nil))) (.cons (.expr (.meth .append (.var 1) (.cons (.tup (.cons (.tup (.cons (.lit (.int 0)) .nil)) (.cons (.var 3) (.cons (.lit (.int 0)) (.cons (.lit (.int 0)) (.cons (.tup (.cons (.call 39 (.cons (.var 0) (.cons (.slc (.var 2) .nopart (.lit (.int 1))) .nil))) .nil)) .nil)))))) .nil))) .nil)) .nil) (.cons (.ret (.tup (.cons (.tup (.cons (.lit (.int 1)) .nil)) (.cons (.bi .tuple (.cons (.var 1) .nil)) .nil)))) .nil))))))⟩
/-- _law_comes: house_so tale_so found kinds_so r line_so elders_so own longer_so its k -/
def c42 : FD := ⟨2, 11, (.cons (.set 2 (.lst .nil)) (.cons (.set 3 (.comp [("own", 7)] .seq (.cons (.var 1) .nil) (.nm 7) (.lit (.bl true)) (.ix (.ix (.ix (.var 0) (.lit (.int 1))) (.ix (.var 7) (.lit (.int 0)))) (.lit (.int 3))))) (.cons (.loop .enm (.cons (.ix (.var 0) (.lit (.int 1))) .nil) (.tp (.cons (.nm 4) (.cons (.nm 5) .nil))) (.cons (.set 6 (.lst (.cons (.tup .nil) .nil))) (.cons (.loop .seq (.cons (.ix (.var 5) (.lit (.int 0))) .nil) (.nm 7) (.cons (.set 8 (.lst .nil)) (.cons (.loop .seq (.cons (.var 6) .nil) (.nm 9) (.cons (.set 8 (.bin .Add (.var 8) (.comp [("k", 10)] .rng1 (.cons (.bi .len (.cons (.var 1) .nil)) .nil) (.nm 10) (.cmp .Eq (.ix (.var 3) (.var 10)) (.var 7)) (.bin .Add (.var 9) (.tup (.cons (.var 10) .nil)))))) .nil)) (.cons (.set 6 (.var 8)) .nil)))) (.cons (.set 2 (.bin .Add (.var 2) (.comp [("its", 9)] .seq (.cons (.var 6) .nil) (.nm 9) (.lit (.bl true)) (.tup (.cons (.var 4) (.cons (.var 9) .nil)))))) .nil)))) (.cons (.ret (.var 2)) .nil))))⟩
/-- _law_tale: tin house_so count_so found lap goods_so late_so own -/
def c43 : FD := ⟨3, 8, (.cons (.set 3 (.tup .nil)) (.cons (.loop .rng1 (.cons (.var 2) .nil) (.nm 4) (.cons (.set 5 (.call 42 (.cons (.var 1) (.cons (.var 3) .nil)))) (.cons (.ifs (.cmp .Eq (.var 5) (.lst .nil)) (.cons (.ret (.var 3)) .nil) .nil) (.cons (.set 6 (.comp [("own", 7)] .seq (.cons (.var 5) .nil) (.nm 7) (.and (.cmp .NotEq (.ix (.var 7) (.lit (.int 1))) (.tup .nil)) (.cmp .GtE (.ix (.ix (.var 7) (.lit (.int 1))) (.neg (.lit (.int 1)))) (.bin .Sub (.var 4) (.lit (.int 2))))) (.var 7))) (.cons (.ifs (.and (.cmp .NotEq (.var 6) (.lst .nil)) (.cmp .Gt (.call 31 (.cons (.var 0) (.cons (.lit (.int 3)) .nil))) (.lit (.int 0)))) (.cons (.set 5 (.var 6)) .nil) .nil) (.cons (.set 3 (.bin .Add (.var 3) (.tup (.cons (.call 33 (.cons (.var 0) (.cons (.var 5) .nil))) .nil)))) .nil)))))) (.cons (.ret (.var 3)) .nil)))⟩
/-- _law_heard: door_so house_so tale_so wait_so error -/
def c44 : FD := ⟨4, 5, (.cons (.trys (.cons (.ifs (.cmp .Eq (.var 0) (.lit (.int 2))) (.cons (.ret (.call 25 (.cons (.var 1) (.cons (.var 2) .nil)))) .nil) .nil) (.cons (.ret (.ite (.cmp .Eq (.var 0) (.lit (.int 0))) (.call 27 (.cons (.var 1) (.cons (.var 2) (.cons (.var 3) .nil)))) (.call 28 (.cons (.var 1) (.cons (.var 2) (.cons (.var 3) .nil)))))) .nil)) [⟨0, 1, (some 4), none, true, [(.lit (.str "no")), (.fld "number"), (.isx "LookupError" true)]⟩, ⟨1, 1, (some 4), none, true, [(.lit (.str "slot")), (.fld "slot"), (.isx "LookupError" true)]⟩, ⟨2, 0, (some 4), none, true, [(.lit (.str "unfit")), (.isx "ValueError" true)]⟩]) .nil)⟩
/-- _law_both: first_so keeps_so -/
def c45 : FD := ⟨0, 2, (.cons (.pat (.tp (.cons (.nm 0) (.cons (.nm 1) .nil))) (.tup (.cons (.tup (.cons (.lit (.str "new")) (.cons (.lit (.int 2)) (.cons (.tup .nil) .nil)))) (.cons (.tup (.cons (.lit (.str "kept")) (.cons (.lit (.int 0)) (.cons (.lit (.int 0)) .nil)))) .nil)))) (.cons (.ret (.tup (.cons (.tup (.cons (.lit (.int 2)) (.cons (.lit (.int 1)) .nil))) (.cons (.tup (.cons (.tup (.cons (.tup .nil) (.cons (.tup .nil) (.cons (.lit (.int 0)) (.cons (.lit (.int 0)) (.cons (.tup (.cons (.var 0) (.cons (.tup (.cons (.lit (.str "none")) .nil)) .nil))) .nil)))))) (.cons (.tup (.cons (.tup (.cons (.lit (.int 0)) .nil)) (.cons (.tup .nil) (.cons (.lit (.int 0)) (.cons (.lit (.int 0)) (.cons (.tup (.cons (.var 1) (.cons (.var 1) .nil))) .nil)))))) (.cons (.tup (.cons (.tup (.cons (.lit (.int 0)) .nil)) (.cons (.tup .nil) (.cons (.lit (.int 0)) (.cons (.lit (.int 1)) (.cons (.tup (.cons (.tup (.cons (.lit (.str "new")) (.cons (.lit (.int 1)) (.cons (.tup (.cons (.tup (.cons (.lit (.int 0)) (.cons (.lit (.int 0)) .nil))) (.cons (.tup (.cons (.lit (.int 0)) (.cons (.lit (.int 1)) .nil))) .nil))) .nil)))) .nil)) .nil)))))) (.cons (.tup (.cons (.tup (.cons (.lit (.int 1)) .nil)) (.cons (.tup (.cons (.tup (.cons (.lit (.int 0)) (.cons (.lit (.int 0)) .nil))) .nil)) (.cons (.lit (.int 0)) (.cons (.lit (.int 1)) (.cons (.tup (.cons (.tup (.cons (.lit (.str "none")) .nil)) .nil)) .nil)))))) .nil))))) .nil)))) .nil))⟩
/-- _law_found: house_so tale_so k at_so step_so own -/
def c46 : FD := ⟨4, 6, (.cons (.wh (.lit (.bl true)) (.cons (.set 4 (.ix (.var 1) (.var 2))) (.cons (.set 5 (.ix (.ix (.ix (.ix (.var 0) (.lit (.int 1))) (.ix (.var 4) (.lit (.int 0)))) (.lit (.int 4))) (.var 3))) (.cons (.ifs (.cmp .NotEq (.ix (.var 5) (.lit (.int 0))) (.lit (.str "kept"))) (.cons (.ret (.ite (.cmp .Eq (.ix (.var 5) (.lit (.int 0))) (.lit (.str "new"))) (.tup (.cons (.var 2) (.cons (.var 3) .nil))) (.lit .non))) .nil) .nil) (.cons (.par [2, 3] (.cons (.ix (.ix (.var 4) (.lit (.int 1))) (.ix (.var 5) (.lit (.int 1)))) (.cons (.ix (.var 5) (.lit (.int 2))) .nil))) .nil))))) .nil)⟩
/-- _law_slots: house_so tale_so found k own at_so -/
def c47 : FD := ⟨2, 6, (.cons (.set 2 (.lst .nil)) (.cons (.loop .enm (.cons (.var 1) .nil) (.tp (.cons (.nm 3) (.cons (.nm 4) .nil))) (.cons (.set 2 (.bin .Add (.var 2) (.comp [("at_so", 5)] .rng1 (.cons (.ix (.ix (.var 0) (.lit (.int 0))) (.ix (.ix (.ix (.var 0) (.lit (.int 1))) (.ix (.var 4) (.lit (.int 0)))) (.lit (.int 3)))) .nil) (.nm 5) (.lit (.bl true)) (.tup (.cons (.var 3) (.cons (.var 5) .nil)))))) .nil)) (.cons (.ret (.var 2)) .nil)))⟩
/-- _law_due: house_so tale_so wait_so step_so own wants_so found at_so slot_so its -/
def c48 : FD := ⟨3, 10, (.cons (.set 3 (.ix (.var 1) (.ix (.var 2) (.lit (.int 0))))) (.cons (.set 4 (.ix (.ix (.ix (.ix (.var 0) (.lit (.int 1))) (.ix (.var 3) (.lit (.int 0)))) (.lit (.int 4))) (.ix (.var 2) (.lit (.int 1))))) (.cons (.ifs (.cmp .NotEq (.ix (.var 4) (.lit (.int 0))) (.lit (.str "new"))) (.cons (.ret (.lst (.cons (.lst (.cons (.lit (.str "unfit")) (.cons (.lit (.bl true)) .nil))) (.cons (.lst (.cons (.lit (.str "unfit")) (.cons (.lit (.bl true)) .nil))) .nil)))) .nil) .nil) (.cons (.set 5 (.comp [("at_so", 7), ("slot_so", 8)] .seq (.cons (.ix (.var 4) (.lit (.int 2))) .nil) (.tp (.cons (.nm 7) (.cons (.nm 8) .nil))) (.lit (.bl true)) (.call 46 (.cons (.var 0) (.cons (.var 1) (.cons (.ix (.ix (.var 3) (.lit (.int 1))) (.var 7)) (.cons (.var 8) .nil))))))) (.cons (.set 6 (.comp [("its", 9)] .seq (.cons (.call 47 (.cons (.var 0) (.cons (.var 1) .nil))) .nil) (.nm 9) (.cmp .Eq (.call 46 (.cons (.var 0) (.cons (.var 1) (.cons (.ix (.var 9) (.lit (.int 0))) (.cons (.ix (.var 9) (.lit (.int 1))) .nil))))) (.var 2)) (.var 9))) (.cons (.ret (.lst (.cons (.bi .tuple (.cons (.comp [("its", 9)] .seq (.cons (.var 5) .nil) (.nm 9) (.cmp .IsNot (.var 9) (.lit .non)) (.var 9)) .nil)) (.cons (.bi .tuple (.cons (.var 6) .nil)) .nil)))) .nil))))))⟩
/-- _law_by_hand_right: chain keeps both fan far_so got due tale tower k -/
def c49 : FD := ⟨0, 10, (.cons (.par [0, 1, 2] (.cons (.call 37 .nil) (.cons (.call 38 .nil) (.cons (.call 45 .nil) .nil)))) (.cons (.pat (.tp (.cons (.nm 3) (.cons (.nm 4) .nil))) (.tup (.cons (.tup (.cons (.tup (.cons (.lit (.int 0)) (.cons (.tup .nil) .nil))) (.cons (.tup (.cons (.lit (.int 1)) (.cons (.tup (.cons (.lit (.int 0)) .nil)) .nil))) (.cons (.tup (.cons (.lit (.int 1)) (.cons (.tup (.cons (.lit (.int 1)) .nil)) .nil))) (.cons (.tup (.cons (.lit (.int 2)) (.cons (.tup (.cons (.lit (.int 2)) .nil)) .nil))) (.cons (.tup (.cons (.lit (.int 2)) (.cons (.tup (.cons (.lit (.int 1)) .nil)) .nil))) .nil)))))) (.cons (.tup (.cons (.tup (.cons (.lit (.int 0)) (.cons (.tup .nil) .nil))) (.cons (.tup (.cons (.lit (.int 1)) (.cons (.tup (.cons (.lit (.int 0)) .nil)) .nil))) (.cons (.tup (.cons (.lit (.int 1)) (.cons (.tup (.cons (.lit (.int 1)) .nil)) .nil))) (.cons (.tup (.cons (.lit (.int 2)) (.cons (.tup (.cons (.lit (.int 2)) .nil)) .nil))) .nil))))) .nil)))) (.cons (.set 5 (.lst (.cons (.call 25 (.cons (.var 0) (.cons (.var 3) .nil))) (.cons (.call 25 (.cons (.var 1) (.cons (.var 4) .nil))) (.cons (.call 25 (.cons (.var 2) (.cons (.tup (.cons (.tup (.cons (.lit (.int 0)) (.cons (.tup .nil) .nil))) (.cons (.tup (.cons (.lit (.int 1)) (.cons (.tup (.cons (.lit (.int 0)) .nil)) .nil))) (.cons (.tup (.cons (.lit (.int 1)) (.cons (.tup (.cons (.lit (.int 1)) .nil)) .nil))) (.cons (.tup (.cons (.lit (.int 2)) (.cons (.tup (.cons (.lit (.int 2)) .nil)) .nil))) .nil))))) .nil))) (.cons (.call 25 (.cons (.var 0) (.cons (.tup .nil) .nil))) .nil)))))) (.cons (.set 6 (.lst (.cons (.tup (.cons (.tup (.cons (.lit .non) .nil)) (.cons (.tup (.cons (.tup (.cons (.lit (.int 1)) (.cons (.lit (.int 0)) .nil))) .nil)) (.cons (.tup (.cons (.tup (.cons (.lit (.int 2)) (.cons (.lit (.int 0)) .nil))) .nil)) (.cons (.tup (.cons (.lit .non) .nil)) (.cons (.tup (.cons (.lit .non) .nil)) .nil)))))) .nil))) (.cons (.set 6 (.bin .Add (.var 6) (.lst (.cons (.tup (.cons (.tup (.cons (.lit .non) (.cons (.tup (.cons (.lit (.int 0)) (.cons (.lit (.int 1)) .nil))) .nil))) (.cons (.tup (.cons (.tup (.cons (.lit (.int 1)) (.cons (.lit (.int 0)) .nil))) (.cons (.tup (.cons (.lit (.int 0)) (.cons (.lit (.int 1)) .nil))) .nil))) (.cons (.tup (.cons (.tup (.cons (.lit (.int 2)) (.cons (.lit (.int 0)) .nil))) (.cons (.tup (.cons (.lit (.int 0)) (.cons (.lit (.int 1)) .nil))) .nil))) (.cons (.tup (.cons (.lit .non) (.cons (.tup (.cons (.lit (.int 0)) (.cons (.lit (.int 1)) .nil))) .nil))) .nil))))) .nil)))) (.cons (.set 6 (.bin .Add (.var 6) (.lst (.cons (.tup (.cons (.tup (.cons (.tup (.cons (.lit (.int 0)) (.cons (.lit (.int 0)) .nil))) (.cons (.lit .non) .nil))) (.cons (.tup (.cons (.tup (.cons (.lit (.int 0)) (.cons (.lit (.int 0)) .nil))) (.cons (.tup (.cons (.lit (.int 0)) (.cons (.lit (.int 0)) .nil))) .nil))) (.cons (.tup (.cons (.tup (.cons (.lit (.int 0)) (.cons (.lit (.int 0)) .nil))) (.cons (.tup (.cons (.lit (.int 0)) (.cons (.lit (.int 0)) .nil))) .nil))) (.cons (.tup (.cons (.tup (.cons (.lit (.int 3)) (.cons (.lit (.int 0)) .nil))) .nil)) .nil))))) (.cons (.tup .nil) .nil))))) (.cons (.set 5 (.bin .Add (.var 5) (.lst (.cons (.call 27 (.cons (.var 0) (.cons (.var 3) (.cons (.tup (.cons (.lit (.int 2)) (.cons (.lit (.int 0)) .nil))) .nil)))) (.cons (.call 27 (.cons (.var 0) (.cons (.var 3) (.cons (.tup (.cons (.lit (.int 1)) (.cons (.lit (.int 0)) .nil))) .nil)))) (.cons (.call 27 (.cons (.var 1) (.cons (.var 4) (.cons (.tup (.cons (.lit (.int 2)) (.cons (.lit (.int 0)) .nil))) .nil)))) (.cons (.call 27 (.cons (.var 1) (.cons (.var 4) (.cons (.tup (.cons (.lit (.int 1)) (.cons (.lit (.int 0)) .nil))) .nil)))) .nil))))))) (.cons (.set 6 (.bin .Add (.var 6) (.lst (.cons (.tup (.cons (.tup (.cons (.lit (.int 1)) (.cons (.lit (.int 0)) .nil))) .nil)) (.cons (.tup .nil) (.cons (.tup (.cons (.tup (.cons (.lit (.int 1)) (.cons (.lit (.int 0)) .nil))) (.cons (.tup (.cons (.lit (.int 0)) (.cons (.lit (.int 1)) .nil))) .nil))) (.cons (.tup (.cons (.tup (.cons (.lit (.int 0)) (.cons (.lit (.int 1)) .nil))) .nil)) .nil))))))) (.cons (.set 7 (.tup (.cons (.tup (.cons (.lit (.int 0)) (.cons (.tup .nil) .nil))) (.cons (.tup (.cons (.lit (.int 1)) (.cons (.tup (.cons (.lit (.int 0)) .nil)) .nil))) (.cons (.tup (.cons (.lit (.int 2)) (.cons (.tup (.cons (.lit (.int 1)) .nil)) .nil))) (.cons (.tup (.cons (.lit (.int 2)) (.cons (.tup (.cons (.lit (.int 0)) .nil)) .nil))) (.cons (.tup (.cons (.lit (.int 3)) (.cons (.tup (.cons (.lit (.int 2)) .nil)) .nil))) .nil))))))) (.cons (.set 5 (.bin .Add (.var 5) (.lst (.cons (.call 27 (.cons (.var 2) (.cons (.var 7) (.cons (.tup (.cons (.lit (.int 2)) (.cons (.lit (.int 0)) .nil))) .nil)))) (.cons (.call 27 (.cons (.var 2) (.cons (.var 7) (.cons (.tup (.cons (.lit (.int 3)) (.cons (.lit (.int 0)) .nil))) .nil)))) (.cons (.call 28 (.cons (.var 2) (.cons (.var 7) (.cons (.tup (.cons (.lit (.int 0)) (.cons (.lit (.int 0)) .nil))) .nil)))) (.cons (.call 28 (.cons (.var 2) (.cons (.var 7) (.cons (.tup (.cons (.lit (.int 3)) (.cons (.lit (.int 0)) .nil))) .nil)))) .nil))))))) (.cons (.set 6 (.bin .Add (.var 6) (.lst (.cons (.tup (.cons (.tup (.cons (.lit (.int 0)) (.cons (.lit (.int 0)) .nil))) (.cons (.tup (.cons (.lit (.int 0)) (.cons (.lit (.int 0)) .nil))) .nil))) (.cons (.tup (.cons (.tup (.cons (.lit (.int 0)) (.cons (.lit (.int 0)) .nil))) .nil)) (.cons (.tup (.cons (.tup (.cons (.lit (.int 0)) (.cons (.lit (.int 0)) .nil))) (.cons (.tup (.cons (.lit (.int 1)) (.cons (.lit (.int 0)) .nil))) (.cons (.tup (.cons (.lit (.int 1)) (.cons (.lit (.int 1)) .nil))) .nil)))) (.cons (.tup (.cons (.tup (.cons (.lit (.int 3)) (.cons (.lit (.int 0)) .nil))) .nil)) .nil))))))) (.cons (.set 5 (.bin .Add (.var 5) (.lst (.cons (.call 28 (.cons (.var 1) (.cons (.var 4) (.cons (.tup (.cons (.lit (.int 0)) (.cons (.lit (.int 1)) .nil))) .nil)))) (.cons (.call 28 (.cons (.var 0) (.cons (.var 3) (.cons (.tup (.cons (.lit (.int 1)) (.cons (.lit (.int 0)) .nil))) .nil)))) .nil))))) (.cons (.set 6 (.bin .Add (.var 6) (.lst (.cons (.tup (.cons (.tup (.cons (.lit (.int 0)) (.cons (.lit (.int 1)) .nil))) (.cons (.tup (.cons (.lit (.int 1)) (.cons (.lit (.int 1)) .nil))) (.cons (.tup (.cons (.lit (.int 2)) (.cons (.lit (.int 1)) .nil))) (.cons (.tup (.cons (.lit (.int 3)) (.cons (.lit (.int 1)) .nil))) .nil))))) (.cons (.tup (.cons (.tup (.cons (.lit (.int 1)) (.cons (.lit (.int 0)) .nil))) .nil)) .nil))))) (.cons (.set 8 (.bin .Add (.tup (.cons (.tup (.cons (.lit (.int 0)) (.cons (.tup .nil) .nil))) .nil)) (.bi .tuple (.cons (.comp [("k", 9)] .rng1 (.cons (.lit (.int 59)) .nil) (.nm 9) (.lit (.bl true)) (.tup (.cons (.lit (.int 1)) (.cons (.tup (.cons (.var 9) .nil)) .nil)))) .nil)))) (.cons (.set 5 (.bin .Add (.var 5) (.lst (.cons (.slc (.call 25 (.cons (.var 1) (.cons (.var 8) .nil))) (.lit (.int 58)) .nopart) (.cons (.call 27 (.cons (.var 1) (.cons (.var 8) (.cons (.tup (.cons (.lit (.int 59)) (.cons (.lit (.int 0)) .nil))) .nil)))) (.cons (.bi .len (.cons (.call 28 (.cons (.var 1) (.cons (.var 8) (.cons (.tup (.cons (.lit (.int 0)) (.cons (.lit (.int 1)) .nil))) .nil)))) .nil)) .nil)))))) (.cons (.ret (.call 36 (.cons (.var 5) (.cons (.bin .Add (.var 6) (.lst (.cons (.tup (.cons (.tup (.cons (.tup (.cons (.lit (.int 58)) (.cons (.lit (.int 0)) .nil))) (.cons (.tup (.cons (.lit (.int 0)) (.cons (.lit (.int 1)) .nil))) .nil))) (.cons (.tup (.cons (.tup (.cons (.lit (.int 59)) (.cons (.lit (.int 0)) .nil))) (.cons (.tup (.cons (.lit (.int 0)) (.cons (.lit (.int 1)) .nil))) .nil))) .nil))) (.cons (.tup (.cons (.tup (.cons (.lit (.int 58)) (.cons (.lit (.int 0)) .nil))) (.cons (.tup (.cons (.lit (.int 0)) (.cons (.lit (.int 1)) .nil))) .nil))) (.cons (.lit (.int 60)) .nil))))) .nil)))) .nil))))))))))))))))⟩
/-- _law_refused_right: chain keeps both fan tale asks_so got due soft more_so own -/
def c50 : FD := ⟨0, 11, (.cons (.par [0, 1, 2] (.cons (.call 37 .nil) (.cons (.call 38 .nil) (.cons (.call 45 .nil) .nil)))) (.cons (.pat (.tp (.cons (.nm 3) (.cons (.nm 4) .nil))) (.tup (.cons (.tup (.cons (.tup (.cons (.lit (.int 0)) (.cons (.tup .nil) .nil))) (.cons (.tup (.cons (.lit (.int 1)) (.cons (.tup (.cons (.lit (.int 0)) .nil)) .nil))) (.cons (.tup (.cons (.lit (.int 1)) (.cons (.tup (.cons (.lit (.int 1)) .nil)) .nil))) .nil)))) (.cons (.tup (.cons (.tup (.cons (.lit (.int 0)) (.cons (.tup .nil) .nil))) (.cons (.tup (.cons (.lit (.int 1)) (.cons (.tup (.cons (.lit (.int 0)) .nil)) .nil))) (.cons (.tup (.cons (.lit (.int 2)) (.cons (.tup (.cons (.lit (.int 1)) .nil)) .nil))) .nil)))) .nil)))) (.cons (.set 5 (.lst (.cons (.tup (.cons (.lit (.int 0)) (.cons (.var 0) (.cons (.var 3) (.cons (.tup (.cons (.lit (.int 3)) (.cons (.lit (.int 0)) .nil))) .nil))))) (.cons (.tup (.cons (.lit (.int 1)) (.cons (.var 0) (.cons (.var 3) (.cons (.tup (.cons (.neg (.lit (.int 1))) (.cons (.lit (.int 7)) .nil))) .nil))))) (.cons (.tup (.cons (.lit (.int 0)) (.cons (.var 0) (.cons (.var 3) (.cons (.tup (.cons (.lit (.int 1)) (.cons (.lit (.int 1)) .nil))) .nil))))) (.cons (.tup (.cons (.lit (.int 1)) (.cons (.var 2) (.cons (.var 4) (.cons (.tup (.cons (.lit (.int 2)) (.cons (.lit (.int 1)) .nil))) .nil))))) .nil)))))) (.cons (.set 5 (.bin .Add (.var 5) (.lst (.cons (.tup (.cons (.lit (.int 0)) (.cons (.var 0) (.cons (.var 3) (.cons (.tup (.cons (.lit (.int 0)) (.cons (.lit (.int 0)) .nil))) .nil))))) (.cons (.tup (.cons (.lit (.int 1)) (.cons (.var 1) (.cons (.var 3) (.cons (.tup (.cons (.lit (.int 1)) (.cons (.lit (.int 1)) .nil))) .nil))))) (.cons (.tup (.cons (.lit (.int 0)) (.cons (.var 2) (.cons (.var 4) (.cons (.tup (.cons (.lit (.int 1)) (.cons (.lit (.int 0)) .nil))) .nil))))) (.cons (.tup (.cons (.lit (.int 1)) (.cons (.var 2) (.cons (.var 4) (.cons (.tup (.cons (.lit (.int 0)) (.cons (.lit (.int 1)) .nil))) .nil))))) .nil))))))) (.cons (.set 5 (.bin .Add (.var 5) (.lst (.cons (.tup (.cons (.lit (.int 0)) (.cons (.var 0) (.cons (.slc (.var 3) (.lit (.int 1)) .nopart) (.cons (.tup (.cons (.lit (.int 9)) (.cons (.lit (.int 9)) .nil))) .nil))))) (.cons (.tup (.cons (.lit (.int 1)) (.cons (.var 0) (.cons (.bin .Add (.var 3) (.tup (.cons (.tup (.cons (.lit (.int 1)) (.cons (.tup (.cons (.lit (.int 7)) .nil)) .nil))) .nil))) (.cons (.tup (.cons (.lit (.int 0)) (.cons (.lit (.int 0)) .nil))) .nil))))) (.cons (.tup (.cons (.lit (.int 2)) (.cons (.var 2) (.cons (.bin .Add (.var 3) (.tup (.cons (.tup (.cons (.lit (.int 3)) (.cons (.tup (.cons (.lit (.int 0)) .nil)) .nil))) .nil))) (.cons (.lit .non) .nil))))) .nil)))))) (.cons (.set 5 (.bin .Add (.var 5) (.lst (.cons (.tup (.cons (.lit (.int 2)) (.cons (.tup (.cons (.tup (.cons (.lit (.int 1)) .nil)) (.cons (.tup .nil) .nil))) (.cons (.tup .nil) (.cons (.lit .non) .nil))))) (.cons (.tup (.cons (.lit (.int 2)) (.cons (.var 0) (.cons (.tup (.cons (.tup (.cons (.lit (.int 9)) (.cons (.tup .nil) .nil))) (.cons (.tup (.cons (.lit (.int 1)) (.cons (.tup (.cons (.lit (.int 0)) .nil)) .nil))) .nil))) (.cons (.lit .non) .nil))))) (.cons (.tup (.cons (.lit (.int 0)) (.cons (.var 0) (.cons (.tup (.cons (.lit .non) (.cons (.tup (.cons (.lit (.int 1)) (.cons (.tup (.cons (.lit (.int 0)) .nil)) .nil))) .nil))) (.cons (.tup (.cons (.lit (.int 1)) (.cons (.lit (.int 0)) .nil))) .nil))))) .nil)))))) (.cons (.set 6 (.comp [("own", 10)] .seq (.cons (.var 5) .nil) (.nm 10) (.lit (.bl true)) (.call 44 (.cons (.ix (.var 10) (.lit (.int 0))) (.cons (.ix (.var 10) (.lit (.int 1))) (.cons (.ix (.var 10) (.lit (.int 2))) (.cons (.ix (.var 10) (.lit (.int 3))) .nil))))))) (.cons (.set 7 (.bin .Add (.lst (.cons (.lst (.cons (.lit (.str "no")) (.cons (.lit (.int 3)) (.cons (.lit (.bl true)) .nil)))) (.cons (.lst (.cons (.lit (.str "no")) (.cons (.neg (.lit (.int 1))) (.cons (.lit (.bl true)) .nil)))) (.cons (.lst (.cons (.lit (.str "slot")) (.cons (.lit (.int 1)) (.cons (.lit (.bl true)) .nil)))) (.cons (.lst (.cons (.lit (.str "slot")) (.cons (.lit (.int 1)) (.cons (.lit (.bl true)) .nil)))) .nil))))) (.bin .Mult (.lst (.cons (.lst (.cons (.lit (.str "unfit")) (.cons (.lit (.bl true)) .nil))) .nil)) (.lit (.int 10))))) (.cons (.par [8, 9] (.cons (.call 35 (.cons (.var 1) .nil)) (.cons (.call 35 (.cons (.var 3) .nil)) .nil))) (.cons (.set 6 (.bin .Add (.var 6) (.lst (.cons (.ix (.callk 25 [1, 0] (.cons (.var 9) (.cons (.var 8) .nil))) (.lit (.int 1))) (.cons (.callk 27 [2, 1, 0] (.cons (.lst (.cons (.lit (.int 2)) (.cons (.lit (.int 0)) .nil))) (.cons (.var 9) (.cons (.var 8) .nil)))) (.cons (.callk 28 [2, 1, 0] (.cons (.lst (.cons (.lit (.int 0)) (.cons (.lit (.int 1)) .nil))) (.cons (.var 9) (.cons (.var 8) .nil)))) .nil)))))) (.cons (.ret (.call 36 (.cons (.var 6) (.cons (.bin .Add (.var 7) (.lst (.cons (.tup (.cons (.tup (.cons (.lit (.int 1)) (.cons (.lit (.int 0)) .nil))) (.cons (.tup (.cons (.lit (.int 0)) (.cons (.lit (.int 1)) .nil))) .nil))) (.cons (.tup (.cons (.tup (.cons (.lit (.int 1)) (.cons (.lit (.int 0)) .nil))) (.cons (.tup (.cons (.lit (.int 0)) (.cons (.lit (.int 1)) .nil))) .nil))) (.cons (.tup (.cons (.tup (.cons (.lit (.int 0)) (.cons (.lit (.int 1)) .nil))) (.cons (.tup (.cons (.lit (.int 1)) (.cons (.lit (.int 1)) .nil))) (.cons (.tup (.cons (.lit (.int 2)) (.cons (.lit (.int 1)) .nil))) .nil)))) .nil))))) .nil)))) .nil)))))))))))⟩
/-- _law_drawn_right: tin house tale spots_so size_so due k own got longer_so twice_so side_so its -/
def c51 : FD := ⟨1, 13, (.cons (.set 1 (.ite (.cmp .Eq (.call 31 (.cons (.var 0) (.cons (.lit (.int 3)) .nil))) (.lit (.int 0))) (.call 41 (.cons (.var 0) .nil)) (.call 40 (.cons (.var 0) .nil)))) (.cons (.set 2 (.call 43 (.cons (.var 0) (.cons (.var 1) (.cons (.bin .Add (.lit (.int 3)) (.call 31 (.cons (.var 0) (.cons (.lit (.int 4)) .nil)))) .nil))))) (.cons (.pat (.tp (.cons (.nm 3) (.cons (.nm 4) .nil))) (.tup (.cons (.call 47 (.cons (.var 1) (.cons (.var 2) .nil))) (.cons (.bi .len (.cons (.var 2) .nil)) .nil)))) (.cons (.set 5 (.lst .nil)) (.cons (.loop .rng1 (.cons (.var 4) .nil) (.nm 6) (.cons (.expr (.meth .append (.var 5) (.cons (.bi .tuple (.cons (.comp [("own", 7)] .seq (.cons (.var 3) .nil) (.nm 7) (.cmp .Eq (.ix (.var 7) (.lit (.int 0))) (.var 6)) (.call 46 (.cons (.var 1) (.cons (.var 2) (.cons (.ix (.var 7) (.lit (.int 0))) (.cons (.ix (.var 7) (.lit (.int 1))) .nil)))))) .nil)) .nil))) .nil)) (.cons (.ifs (.not (.call 36 (.cons (.lst (.cons (.call 25 (.cons (.var 1) (.cons (.var 2) .nil))) (.cons (.call 25 (.cons (.call 35 (.cons (.var 1) .nil)) (.cons (.call 35 (.cons (.var 2) .nil)) .nil))) .nil))) (.cons (.bin .Mult (.lst (.cons (.bi .tuple (.cons (.var 5) .nil)) .nil)) (.lit (.int 2))) .nil)))) (.cons (.ret (.lit (.bl false))) .nil) .nil) (.cons (.loop .seq (.cons (.var 3) .nil) (.nm 7) (.cons (.set 8 (.lst (.cons (.call 44 (.cons (.lit (.int 0)) (.cons (.var 1) (.cons (.var 2) (.cons (.var 7) .nil))))) (.cons (.call 44 (.cons (.lit (.int 1)) (.cons (.var 1) (.cons (.call 35 (.cons (.var 2) .nil)) (.cons (.bi .list (.cons (.var 7) .nil)) .nil))))) .nil)))) (.cons (.ifs (.not (.call 36 (.cons (.var 8) (.cons (.call 48 (.cons (.var 1) (.cons (.var 2) (.cons (.var 7) .nil)))) .nil)))) (.cons (.ret (.lit (.bl false))) .nil) .nil) .nil))) (.cons (.set 9 (.bin .Add (.var 2) (.tup (.cons (.call 33 (.cons (.var 0) (.cons (.call 42 (.cons (.var 1) (.cons (.var 2) .nil))) .nil))) .nil)))) (.cons (.set 10 (.comp [("own", 7)] .seq (.cons (.var 5) .nil) (.nm 7) (.lit (.bl true)) (.bi .tuple (.cons (.comp [("its", 12)] .seq (.cons (.var 7) .nil) (.nm 12) (.lit (.bl true)) (.ite (.cmp .Is (.var 12) (.lit .non)) (.lit .non) (.tup (.cons (.bin .Add (.ix (.var 12) (.lit (.int 0))) (.var 4)) (.cons (.ix (.var 12) (.lit (.int 1))) .nil))))) .nil)))) (.cons (.set 11 (.bi .tuple (.cons (.comp [("own", 7)] .seq (.cons (.var 2) .nil) (.nm 7) (.lit (.bl true)) (.tup (.cons (.ix (.var 7) (.lit (.int 0))) (.cons (.bi .tuple (.cons (.comp [("its", 12)] .seq (.cons (.ix (.var 7) (.lit (.int 1))) .nil) (.nm 12) (.lit (.bl true)) (.bin .Add (.var 12) (.var 4))) .nil)) .nil)))) .nil))) (.cons (.set 8 (.lst (.cons (.slc (.call 25 (.cons (.var 1) (.cons (.var 9) .nil))) .nopart (.var 4)) (.cons (.call 29 (.cons (.tup (.cons (.var 2) (.cons (.var 2) .nil))) .nil)) (.cons (.call 25 (.cons (.var 1) (.cons (.call 29 (.cons (.lst (.cons (.call 35 (.cons (.var 2) .nil)) (.cons (.var 2) .nil))) .nil)) .nil))) (.cons (.call 29 (.cons (.tup .nil) .nil)) .nil)))))) (.cons (.ret (.call 36 (.cons (.var 8) (.cons (.lst (.cons (.bi .tuple (.cons (.var 5) .nil)) (.cons (.bin .Add (.var 2) (.var 11)) (.cons (.bi .tuple (.cons (.bin .Add (.var 5) (.var 10)) .nil)) (.cons (.tup .nil) .nil))))) .nil)))) .nil))))))))))))⟩
/-- law: script tin -/
def c52 : FD := ⟨1, 2, (.cons (.ifs (.not (.call 49 .nil)) (.cons (.ret (.lit (.bl false))) .nil) .nil) (.cons (.set 1 (.call 30 (.cons (.call 32 (.cons (.var 0) (.cons (.lit (.int 1)) .nil))) (.cons (.lit (.int 0)) .nil)))) (.cons (.ifs (.cmp .Eq (.call 31 (.cons (.var 1) (.cons (.lit (.int 4)) .nil))) (.lit (.int 0))) (.cons (.ret (.call 50 .nil)) .nil) .nil) (.cons (.ret (.and (.call 51 (.cons (.var 1) .nil)) (.call 51 (.cons (.var 1) .nil)))) .nil))))⟩
def fs : List FD := [c0, c1, c2, c3, c4, c5, c6, c7, c8, c9, c10, c11, c12, c13, c14, c15, c16, c17, c18, c19, c20, c21, c22, c23, c24, c25, c26, c27, c28, c29, c30, c31, c32, c33, c34, c35, c36, c37, c38, c39, c40, c41, c42, c43, c44, c45, c46, c47, c48, c49, c50, c51, c52]
def N0 : List PySem.Str := ["thing"]
def N1 : List PySem.Str := ["thing"]
def N2 : List PySem.Str := ["thing", "many"]
def N3 : List PySem.Str := ["thing", "many"]
def N4 : List PySem.Str := ["things", "at"]
def N5 : List PySem.Str := ["value", "deep", "part"]
def N6 : List PySem.Str := ["thing", "sizes", "rows", "row"]
def N7 : List PySem.Str := ["sizes", "thing", "elders", "looks", "cost", "shape", "slots", "slot"]
def N8 : List PySem.Str := ["thing", "size"]
def N9 : List PySem.Str := ["sizes", "thing", "shape"]
def N10 : List PySem.Str := ["sizes", "elders", "thing", "place", "slot"]
def N11 : List PySem.Str := ["sizes", "elders", "thing", "pair"]
def N12 : List PySem.Str := ["sizes", "elders", "thing"]
def N13 : List PySem.Str := ["sizes", "elders", "thing", "_", "cost", "wants"]
def N14 : List PySem.Str := ["craft"]
def N15 : List PySem.Str := ["craft", "thing", "shapes", "version"]
def N16 : List PySem.Str := ["craft", "shapes", "thing", "row", "elders", "asked", "elder", "shape"]
def N17 : List PySem.Str := ["craft", "web"]
def N18 : List PySem.Str := ["craft", "web"]
def N19 : List PySem.Str := ["web", "version"]
def N20 : List PySem.Str := ["craft", "web", "version", "slot"]
def N21 : List PySem.Str := ["craft", "web", "wait", "version", "slot"]
def N22 : List PySem.Str := ["craft", "web", "version"]
def N23 : List PySem.Str := ["craft", "web", "holds", "version", "_", "elders", "slots", "at", "slot"]
def N24 : List PySem.Str := ["holds", "elders", "place", "slot"]
def N25 : List PySem.Str := ["craft", "web"]
def N26 : List PySem.Str := ["craft", "web", "holds", "wait", "version", "slot", "elders", "asked", "place", "own", "other"]
def N27 : List PySem.Str := ["craft", "web", "wait"]
def N28 : List PySem.Str := ["craft", "web", "wait", "holds", "version", "slots", "at", "one"]
def N29 : List PySem.Str := ["webs", "told", "web", "ahead", "row", "elders", "elder"]
def N30 : List PySem.Str := ["script", "k", "bit_so"]
def N31 : List PySem.Str := ["tin", "below_so", "drawn", "once_so", "wide_so", "twice_so"]
def N32 : List PySem.Str := ["script", "most_so", "cells_so", "k", "bit_so", "at_so"]
def N33 : List PySem.Str := ["tin", "goods_so"]
def N34 : List PySem.Str := ["tin", "goods_so", "count_so", "pool_so", "found", "lap"]
def N35 : List PySem.Str := ["matter", "bit"]
def N36 : List PySem.Str := ["got", "due", "mine", "its"]
def N37 : List PySem.Str := []
def N38 : List PySem.Str := []
def N39 : List PySem.Str := ["tin", "goods_so", "way_so", "wants_so"]
def N40 : List PySem.Str := ["tin", "wide_so", "sizes_so", "first_so", "lines_so", "goods_so", "lap", "looks_so", "made_so", "slots_so", "k"]
def N41 : List PySem.Str := ["tin", "lines_so", "goods_so", "looks_so"]
def N42 : List PySem.Str := ["house_so", "tale_so", "found", "kinds_so", "r", "line_so", "elders_so", "own", "longer_so", "its", "k"]
def N43 : List PySem.Str := ["tin", "house_so", "count_so", "found", "lap", "goods_so", "late_so", "own"]
def N44 : List PySem.Str := ["door_so", "house_so", "tale_so", "wait_so", "error"]
def N45 : List PySem.Str := ["first_so", "keeps_so"]
def N46 : List PySem.Str := ["house_so", "tale_so", "k", "at_so", "step_so", "own"]
def N47 : List PySem.Str := ["house_so", "tale_so", "found", "k", "own", "at_so"]
def N48 : List PySem.Str := ["house_so", "tale_so", "wait_so", "step_so", "own", "wants_so", "found", "at_so", "slot_so", "its"]
def N49 : List PySem.Str := ["chain", "keeps", "both", "fan", "far_so", "got", "due", "tale", "tower", "k"]
def N50 : List PySem.Str := ["chain", "keeps", "both", "fan", "tale", "asks_so", "got", "due", "soft", "more_so", "own"]
def N51 : List PySem.Str := ["tin", "house", "tale", "spots_so", "size_so", "due", "k", "own", "got", "longer_so", "twice_so", "side_so", "its"]
def N52 : List PySem.Str := ["script", "tin"]
def places : List Nat := [5, 6, 7, 8, 9, 10, 13, 14, 15, 16, 17, 18, 19, 20, 21, 24, 25, 26, 27, 28, 29, 30, 31, 32, 33, 34, 35, 36, 37, 38, 40, 41, 42, 43, 44, 45, 46, 47, 48, 49, 50, 51, 52, 53, 54, 55, 56, 57, 58, 59, 60, 61, 62]
def xs0 : List (PySem.Str × String × Option PySem.Str) := [("NoVersion", "LookupError", some "number"), ("NoSlot", "LookupError", some "slot"), ("Unfit", "ValueError", none)]
def kw0 : List (Nat × List (List PySem.Str × List Nat)) := [(25, [(["web", "craft"], [1, 0])]), (27, [(["wait", "web", "craft"], [2, 1, 0])]), (28, [(["wait", "web", "craft"], [2, 1, 0])])]
def cs0 : List (PySem.Str × Int) := [("CRAFT_LEVELS", 7), ("WEB_LEVELS", 3)]
def Nss : List (List PySem.Str) := [N0, N1, N2, N3, N4, N5, N6, N7, N8, N9, N10, N11, N12, N13, N14, N15, N16, N17, N18, N19, N20, N21, N22, N23, N24, N25, N26, N27, N28, N29, N30, N31, N32, N33, N34, N35, N36, N37, N38, N39, N40, N41, N42, N43, N44, N45, N46, N47, N48, N49, N50, N51, N52]
end K04
namespace K04
open PySem PySem.Spec PyProof.Rows L2 RF
abbrev Pw := PySem.Challenge.pw_paidbyheirs_k04_whole_what_slots_hold_by
def dOf : Stmt → Option He.DefD
  | .FunctionDef n a b _ _ _ sc _ _ _ => some ⟨(n, none), n, n, a, b, sc, [], []⟩
  | _ => none
def fn : List He.DefD := Pw.main.body.filterMap dOf
/-- the __init__ defs of the classes -/
def iOf : Stmt → List (Str × He.DefD)
  | .ClassDef x _ _ body .. => body.filterMap fun
    | .FunctionDef n a b _ _ _ sc _ _ _ => some (x, ⟨(x, some n), n, x ++ "." ++ n, a, b, sc, [], []⟩)
    | _ => none
  | _ => []
def ini : List (Str × He.DefD) := Pw.main.body.flatMap iOf
def T : TX := ⟨fs, fn, Nss, cs0, xs0, ini, kw0⟩
end K04
end
section
set_option Elab.async false
set_option linter.all false
set_option maxRecDepth 100000
set_option maxHeartbeats 1000000
namespace K04
open PySem RF
theorem run_at {fs : List FD} {k f : Nat} {d : FD} {ws : List W} {h : CH} (e : fs[f]? = some d) : RF.run fs (k + 1) f ws h = body1 (RF.run fs k) d ws h := by
  rw [RF.run, e]
theorem call_rt {fs : List FD} {k f : Nat} {d : FD} {ws : List W} {h C' : CH} {w : W} (e : fs[f]? = some d) (el : (ws.length == d.np) = true) (he : exs (RF.run fs k) d.body (ws.map some ++ List.replicate (d.ns - ws.length) none) h = .rt w C') : RF.run fs (k + 1) f ws h = .ok w C' := by
  rw [run_at e, body1, if_pos el, he]
theorem exs_cons {run : Nat → List W → CH → R W} {a b : CS} {s s1 : St} {h h1 : CH} (e : exs run a s h = .nx s1 h1) : exs run (.cons a b) s h = exs run b s1 h1 := by
  rw [exs, e]
theorem exs_rt {run : Nat → List W → CH → R W} {a b : CS} {s : St} {h h1 : CH} {w : W} (e : exs run a s h = .rt w h1) : exs run (.cons a b) s h = .rt w h1 := by
  rw [exs, e]
theorem exs_set {run : Nat → List W → CH → R W} {i : Nat} {e : CE} {s : St} {h h1 : CH} {w : W} (q : ev run e s h = .ok w h1) (hi : Nat.blt i s.length = true) : exs run (.set i e) s h = .nx (s.set i (some w)) h1 := by
  simp [exs, q, RF.R.st, hi]
theorem exs_ret {run : Nat → List W → CH → R W} {e : CE} {s : St} {h h1 : CH} {w : W} (q : ev run e s h = .ok w h1) : exs run (.ret e) s h = .rt w h1 := by
  simp [exs, q, RF.R.st]
theorem exs_no {run : Nat → List W → CH → R W} {c : CE} {a : CS} {s : St} {h h1 : CH} {w : W} (q : ev run c s h = .ok w h1) (t : truth h1 w = some false) : exs run (.ifs c a .nil) s h = .nx s h1 := by
  simp [exs, q, RF.R.st, t]
theorem exs_yes {run : Nat → List W → CH → R W} {c : CE} {a b : CS} {s : St} {h h1 : CH} {w : W} (q : ev run c s h = .ok w h1) (t : truth h1 w = some true) : exs run (.ifs c a b) s h = exs run a s h1 := by
  simp [exs, q, RF.R.st, t]
theorem exs_pat {run : Nat → List W → CH → R W} {p : CP} {e : CE} {s s1 : St} {h h1 : CH} {w : W} (q : ev run e s h = .ok w h1) (b : bindP h1 p w s = some s1) : exs run (.pat p e) s h = .nx s1 h1 := by
  simp [exs, q, RF.R.st, b]
theorem is_number (k : Nat) (i : Int) (C : CH) : RF.run T.fs (k + 1) 0 [.int i] C = .ok (.bl true) C := by
  refine call_rt (d := c0) rfl rfl ?_
  simp [c0, exs, ev, RF.R.st, RF.R.bind, biW, tyW, isiOne, truth]
theorem is_from_zero (k : Nat) (i : Int) (hi : 0 ≤ i) (C : CH) : RF.run T.fs (k + 2) 1 [.int i] C = .ok (.bl true) C := by
  refine call_rt (d := c1) rfl rfl ?_
  simp [c1, exs, ev, RF.R.st, RF.R.bind, is_number k, cmpW, truth, hi]
theorem is_below (k : Nat) (i n : Int) (C : CH) : RF.run T.fs (k + 2) 2 [.int i, .int n] C = .ok (.bl (decide (0 ≤ i) && decide (i < n))) C := by
  refine call_rt (d := c2) rfl rfl ?_
  by_cases h0 : 0 ≤ i <;> simp [c2, exs, ev, RF.R.st, RF.R.bind, is_number k, cmpW, truth, h0]
theorem eqW_int (C : CH) (a b : Int) : eqW C (.int a) (.int b) = some (decide (a = b)) := by
  have h : eqW C (.int a) (.int b) = if SeqAt.shaped (PyData.int a) && SeqAt.shaped (PyData.int b) then some (PyData.eqv (.int a) (.int b)) else none := rfl
  have h1 : ∀ i : Int, SeqAt.shaped (PyData.int i) = true := fun i => by
    simp [SeqAt.shaped]
    exact ⟨rfl, Nat.le_of_ble_eq_true rfl⟩
  rw [h, h1, h1]
  show some (a == b) = _
  rfl
theorem is_tuple_of (k : Nat) (xs : List W) (n : Int) (C : CH) : RF.run T.fs (k + 1) 3 [.tup xs, .int n] C = .ok (.bl (decide ((xs.length : Int) = n))) C := by
  refine call_rt (d := c3) rfl rfl ?_
  simp [c3, exs, ev, RF.R.st, RF.R.bind, biW, tyW, isiOne, truth, items, cmpW, eqW_int]
/-- places, slots, rows, crafts, as values -/
inductive Sl where
  | no | kept (p s : Nat) | new (c : Nat) (w : List (Nat × Nat))
structure Row where
  el : List Nat
  lk : List (Nat × Nat)
  cost : Nat
  sh : Nat
  sl : List Sl
structure Cr where
  sz : List Nat
  rows : List Row
def nW (n : Nat) : W := .int (n : Int)
def prW (p : Nat × Nat) : W := .tup [nW p.1, nW p.2]
def slW : Sl → W
  | .no => .tup [.str "none"]
  | .kept p s => .tup [.str "kept", nW p, nW s]
  | .new c w => .tup [.str "new", nW c, .tup (w.map prW)]
def rowW (r : Row) : W := .tup [.tup (r.el.map nW), .tup (r.lk.map prW), nW r.cost, nW r.sh, .tup (r.sl.map slW)]
def crW (c : Cr) : W := .tup [.tup (c.sz.map nW), .tup (c.rows.map rowW)]
abbrev Ver := Nat × List Nat
def verW (v : Ver) : W := .tup [nW v.1, .tup (v.2.map nW)]
def webW (w : List Ver) : W := .tup (w.map verW)
/-! ### comprehensions that ask all -/
theorem all_true {l : List W} (h : ∀ x ∈ l, x = W.bl true) : mapO toBl l = some (l.map fun _ => true) := by
  induction l with
  | nil => rfl
  | cons x l ih =>
    rw [h x (List.mem_cons_self ..)]
    simp only [mapO, toBl, ih fun y hy => h y (List.mem_cons_of_mem _ hy), List.map_cons]
theorem all_id {α : Type} (l : List α) : (l.map fun _ => true).all id = true := by
  induction l with
  | nil => rfl
  | cons x l ih => rw [List.map_cons, List.all_cons, ih] <;> rfl
theorem ev_comp {run : Nat → List W → CH → R W} {own : List (PySem.Str × Nat)} {k : IK} {args c elt : CE} {p : CP} {s : St} {C C1 : CH} {l : List W} {q : Src} (ha : ev run args s C = .ok (.tup l) C1) (hs : src0 k l C1 = some q) :
    ev run (.comp own k args p c elt) s C = compL (ev run c) (ev run elt) p (wipeW s (own.map fun (x : PySem.Str × Nat) => x.2)) fuel q C1 [] := by
  rw [ev, ha]
  show (match src0 k l C1 with
    | some q => compL (ev run c) (ev run elt) p (wipeW s (own.map fun (x : PySem.Str × Nat) => x.2)) fuel q C1 []
    | none => .bad) = _
  rw [hs]
theorem ev_one {run : Nat → List W → CH → R W} {a : CE} {s : St} {C C1 : CH} {w : W} (ha : ev run a s C = .ok w C1) : ev run (.cons a .nil) s C = .ok (.tup [w]) C1 := by
  simp only [ev, ha, RF.R.bind]
theorem ev_two {run : Nat → List W → CH → R W} {a b : CE} {s : St} {C C1 C2 : CH} {w u : W} (ha : ev run a s C = .ok w C1) (hb : ev run b s C1 = .ok u C2) : ev run (.cons a (.cons b .nil)) s C = .ok (.tup [w, u]) C2 := by
  simp only [ev, ha, hb, RF.R.bind]
theorem ev_bi {run : Nat → List W → CH → R W} {b : BI} {es : CE} {s : St} {C C1 C2 : CH} {l : List W} {w : W} (ha : ev run es s C = .ok (.tup l) C1) (hb : biW b l C1 = .ok w C2) : ev run (.bi b es) s C = .ok w C2 := by
  simp only [ev, ha, RF.R.bind, hb]
theorem ev_and {run : Nat → List W → CH → R W} {a b : CE} {s : St} {C C1 : CH} {w : W} (ha : ev run a s C = .ok w C1) (t : truth C1 w = some true) : ev run (.and a b) s C = ev run b s C1 := by
  simp only [ev, ha, RF.R.bind, t]
theorem ev_orF {run : Nat → List W → CH → R W} {a b : CE} {s : St} {C C1 : CH} {w : W} (ha : ev run a s C = .ok w C1) (t : truth C1 w = some false) : ev run (.or a b) s C = ev run b s C1 := by
  simp only [ev, ha, RF.R.bind, t]
theorem ev_not {run : Nat → List W → CH → R W} {a : CE} {s : St} {C C1 : CH} {b : Bool} (ha : ev run a s C = .ok (.bl b) C1) : ev run (.not a) s C = .ok (.bl (!b)) C1 := by
  simp only [ev, ha, RF.R.bind, truth]
theorem ev_call {run : Nat → List W → CH → R W} {f : Nat} {es : CE} {s : St} {C C1 : CH} {l : List W} (ha : ev run es s C = .ok (.tup l) C1) : ev run (.call f es) s C = run f l C1 := by
  simp only [ev, ha, RF.R.bind]
/-- all([e for p in a tuple]), each True -/
theorem all_st {run : Nat → List W → CH → R W} {own : List (PySem.Str × Nat)} {a elt : CE} {p : CP} {s : St} {C : CH} {xs : List W} (ha : ev run a s C = .ok (.tup xs) C) (hC : C.os.length = C.n) (hl : xs.length < fuel)
    (h : ∀ x ∈ xs, ∀ C1, Sub0 C C1 → ∃ s', bindP C1 p x (wipeW s (own.map (·.2))) = some s' ∧ ∃ C2, ev run elt s' C1 = .ok (.bl true) C2 ∧ Sub0 C1 C2) :
    ∃ C', Sub0 C C' ∧ ev run (.bi .all (.cons (.comp own .seq (.cons a .nil) p (.lit (.bl true)) elt) .nil)) s C = .ok (.bl true) C' := by
  obtain ⟨C', hs, e⟩ := compL_st (fc := ev run (.lit (.bl true))) (fe := ev run elt) (p := p) (s := wipeW s (own.map (·.2))) (fun C1 => Sub0 C C1) (fun _ => true) (fun _ => .bl true) xs fuel [] C (fun x hx C1 hs => by
    obtain ⟨s', hb, C2, he, hs2⟩ := h x hx C1 hs
    exact ⟨s', hb, .bl true, C1, rfl, rfl, hs, fun _ => ⟨C2, he, hs.trans hs2⟩⟩) (.refl hC) hl
  refine ⟨C'.new (.lst ((xs.filter fun _ => true).map fun _ => W.bl true)), hs.new _, ?_⟩
  refine ev_bi (ev_one ((ev_comp (l := [.tup xs]) (q := .st xs) (ev_one ha) rfl).trans e)) ?_
  simp only [biW, List.reverse_nil, List.nil_append, new_at hs.wf, all_true (l := (xs.filter fun _ => true).map fun _ => W.bl true) (by intro x hx; obtain ⟨_, _, rfl⟩ := List.mem_map.mp hx; rfl), all_id]
/-- what the checks ask -/
structure SzOk (z : List Nat) : Prop where
  ne : z ≠ []
  ln : z.length < 1000
def AskOk (z el : List Nat) (p : Nat × Nat) : Prop := ∃ e n, el[p.1]? = some e ∧ z[e]? = some n ∧ p.2 < n
theorem is_sizes (k : Nat) (z : List Nat) (hz : SzOk z) (C : CH) (hC : C.os.length = C.n) : ∃ C', Sub0 C C' ∧ RF.run T.fs (k + 3) 8 [.tup (z.map nW)] C = .ok (.bl true) C' := by
  obtain ⟨C', hs, e⟩ := all_st (run := RF.run T.fs (k + 2)) (own := [("size", 1)]) (a := .var 0) (elt := .call 1 (.cons (.var 1) .nil)) (p := .nm 1) (s := [some (.tup (z.map nW)), none]) (C := C) (xs := z.map nW) rfl hC (by rw [List.length_map]; exact Nat.lt_trans hz.ln (by decide)) (fun x hx C1 h1 => by
    obtain ⟨n, _, rfl⟩ := List.mem_map.mp hx
    refine ⟨[some (.tup (z.map nW)), some (nW n)], rfl, C1, ?_, .refl h1.wf⟩
    simp only [ev, RF.R.bind, List.getElem?_cons_succ, List.getElem?_cons_zero]
    exact is_from_zero k n (by omega) C1)
  refine ⟨C', hs, call_rt (d := c8) rfl rfl ?_⟩
  refine exs_rt (exs_ret ?_)
  have h1 : ev (RF.run T.fs (k + 2)) (.bi .isi (.cons (.var 0) (.cons (.gty "tuple") .nil))) [some (.tup (z.map nW)), none] C = .ok (.bl true) C := rfl
  have h2 : ev (RF.run T.fs (k + 2)) (.cmp .Gt (.bi .len (.cons (.var 0) .nil)) (.lit (.int 0))) [some (.tup (z.map nW)), none] C = .ok (.bl true) C := by
    have : 0 < z.length := List.length_pos_iff.mpr hz.ne
    simp [ev, RF.R.bind, biW, items, cmpW, this]
  exact (ev_and h1 rfl).trans ((ev_and h2 rfl).trans e)
theorem below (k : Nat) (i n : Nat) (h : i < n) (C : CH) : RF.run T.fs (k + 2) 2 [nW i, .int (n : Int)] C = .ok (.bl true) C := by
  rw [show nW i = .int (i : Int) from rfl, is_below k]
  have h1 : (decide ((0 : Int) ≤ i) && decide ((i : Int) < n)) = true := by
    rw [Bool.and_eq_true, decide_eq_true_eq, decide_eq_true_eq]
    omega
  rw [h1]
theorem tuple_yes (k : Nat) (xs : List W) (n : Nat) (h : xs.length = n) (C : CH) : RF.run T.fs (k + 1) 3 [.tup xs, .int (n : Int)] C = .ok (.bl true) C := by
  rw [is_tuple_of k, h]
  simp
theorem tuple_no (k : Nat) (xs : List W) (n : Nat) (h : xs.length ≠ n) (C : CH) : RF.run T.fs (k + 1) 3 [.tup xs, .int (n : Int)] C = .ok (.bl false) C := by
  rw [is_tuple_of k]
  have : decide ((xs.length : Int) = (n : Int)) = false := by
    rw [decide_eq_false_iff_not]
    omega
  rw [this]
theorem atI_nat {α : Type} (xs : List α) (i : Nat) : L2.atI xs (i : Int) = xs[i]? := by
  unfold L2.atI L2.ixN
  rw [if_pos (by omega)]
  by_cases h : i < xs.length
  · rw [if_pos (by omega)]
    simp
  · rw [if_neg (by omega)]
    simp
    omega
theorem ix_tup {xs : List W} {i : Nat} {w : W} (h : xs[i]? = some w) (C : CH) : ixW (.tup xs) (nW i) C = .ok w C := by
  show (match L2.atI xs (i : Int) with
    | some w => R.ok w C
    | none => .bad) = _
  rw [atI_nat, h]
theorem nW_at {z : List Nat} {i n : Nat} (h : z[i]? = some n) : (z.map nW)[i]? = some (nW n) := by
  rw [List.getElem?_map, h] <;> rfl
theorem is_elders (k : Nat) (z el : List Nat) (h2 : el.length ≤ 2) (he : ∀ e ∈ el, e < z.length) (C : CH) (hC : C.os.length = C.n) : ∃ C', Sub0 C C' ∧ RF.run T.fs (k + 3) 9 [.tup (z.map nW), .tup (el.map nW)] C = .ok (.bl true) C' := by
  obtain ⟨C', hs, e⟩ := all_st (run := RF.run T.fs (k + 2)) (own := [("shape", 2)]) (a := .var 1) (elt := .call 2 (.cons (.var 2) (.cons (.bi .len (.cons (.var 0) .nil)) .nil))) (p := .nm 2) (s := [some (.tup (z.map nW)), some (.tup (el.map nW)), none]) (C := C) (xs := el.map nW) rfl hC (by rw [List.length_map]; exact Nat.lt_of_le_of_lt h2 (by decide)) (fun x hx C1 h1 => by
    obtain ⟨n, hn, rfl⟩ := List.mem_map.mp hx
    refine ⟨[some (.tup (z.map nW)), some (.tup (el.map nW)), some (nW n)], rfl, C1, ?_, .refl h1.wf⟩
    refine (ev_call (ev_two (w := nW n) (u := .int (z.length : Int)) rfl (ev_bi (ev_one (w := .tup (z.map nW)) rfl) ?_))).trans (below k n z.length (he n hn) C1)
    simp [biW, items])
  refine ⟨C', hs, call_rt (d := c9) rfl rfl ?_⟩
  refine exs_rt (exs_ret ?_)
  have h1 : ev (RF.run T.fs (k + 2)) (.bi .isi (.cons (.var 1) (.cons (.gty "tuple") .nil))) [some (.tup (z.map nW)), some (.tup (el.map nW)), none] C = .ok (.bl true) C := rfl
  have h2 : ev (RF.run T.fs (k + 2)) (.cmp .LtE (.bi .len (.cons (.var 1) .nil)) (.lit (.int 2))) [some (.tup (z.map nW)), some (.tup (el.map nW)), none] C = .ok (.bl true) C := by
    have : (el.length : Int) ≤ 2 := by omega
    simp [ev, RF.R.bind, biW, items, cmpW, this]
  exact (ev_and h1 rfl).trans ((ev_and h2 rfl).trans e)
theorem is_asked (k : Nat) (z el : List Nat) (p : Nat × Nat) (h : AskOk z el p) (C : CH) : RF.run T.fs (k + 3) 10 [.tup (z.map nW), .tup (el.map nW), prW p] C = .ok (.bl true) C := by
  obtain ⟨e, n, h1, h2, h3⟩ := h
  have hl : p.1 < el.length := by
    rcases Nat.lt_or_ge p.1 el.length with q | q
    · exact q
    · rw [List.getElem?_eq_none q] at h1; cases h1
  refine call_rt (d := c10) rfl rfl ?_
  have t1 : ev (RF.run T.fs (k + 2)) (.not (.call 3 (.cons (.var 2) (.cons (.lit (.int 2)) .nil)))) [some (.tup (z.map nW)), some (.tup (el.map nW)), some (prW p), none, none] C = .ok (.bl false) C :=
    ev_not ((ev_call (ev_two (w := prW p) rfl rfl)).trans (tuple_yes (k + 1) [nW p.1, nW p.2] 2 rfl C))
  refine (exs_cons (exs_no t1 rfl)).trans ((exs_cons (exs_pat (s1 := [some (.tup (z.map nW)), some (.tup (el.map nW)), some (prW p), some (nW p.1), some (nW p.2)]) (w := prW p) rfl rfl)).trans (exs_rt (exs_ret ?_)))
  refine (ev_and ((ev_call (ev_two (w := nW p.1) (u := .int (el.length : Int)) rfl (ev_bi (ev_one (w := .tup (el.map nW)) rfl) ?_))).trans (below k p.1 el.length hl C)) rfl).trans ?_
  · simp [biW, items]
  · refine (ev_call (ev_two (w := nW p.2) (u := nW n) rfl ?_)).trans (below k p.2 n h3 C)
    simp only [ev, RF.R.bind, List.getElem?_cons_succ, List.getElem?_cons_zero, ix_tup (nW_at h1) C, ix_tup (nW_at h2) C]
end K04
end
section
set_option Elab.async false
set_option linter.all false
set_option maxRecDepth 100000
set_option maxHeartbeats 1000000
namespace K04
open PySem RF
/-- all([e for p in ..]) over any source, each True -/
theorem all_q {run : Nat → List W → CH → R W} {own : List (PySem.Str × Nat)} {k : IK} {args elt : CE} {p : CP} {s : St} {C C0 : CH} {l : List W} {q : Nat → Src} {xs : List W} (ha : ev run args s C = .ok (.tup l) C0) (hs0 : Sub0 C C0) (hs : src0 k l C0 = some (q 0)) (hq : Tells (fun C1 => Sub0 C0 C1) q xs) (hl : xs.length < fuel)
    (h : ∀ x ∈ xs, ∀ C1, Sub0 C0 C1 → ∃ s', bindP C1 p x (wipeW s (own.map fun (x : PySem.Str × Nat) => x.2)) = some s' ∧ ∃ C2, ev run elt s' C1 = .ok (.bl true) C2 ∧ Sub0 C1 C2) :
    ∃ C', Sub0 C C' ∧ ev run (.bi .all (.cons (.comp own k args p (.lit (.bl true)) elt) .nil)) s C = .ok (.bl true) C' := by
  obtain ⟨C', hs1, e⟩ := compL_q (fc := ev run (.lit (.bl true))) (fe := ev run elt) (p := p) (s := wipeW s (own.map fun (x : PySem.Str × Nat) => x.2)) hq (fun _ => true) (fun _ => .bl true) (fun x hx C1 hs => by
    obtain ⟨s', hb, C2, he, hs2⟩ := h x hx C1 hs
    exact ⟨s', hb, .bl true, C1, rfl, rfl, hs, fun _ => ⟨C2, he, hs.trans hs2⟩⟩) (xs.length - 0) 0 fuel [] C0 rfl (.refl hs0.wf) hl
  refine ⟨C'.new (.lst (((xs.drop 0).filter fun _ => true).map fun _ => W.bl true)), hs0.trans (hs1.new _), ?_⟩
  refine ev_bi (ev_one ((ev_comp ha hs).trans e)) ?_
  simp only [biW, List.reverse_nil, List.nil_append, new_at hs1.wf, all_true (l := ((xs.drop 0).filter fun _ => true).map fun _ => W.bl true) (by intro x hx; obtain ⟨_, _, rfl⟩ := List.mem_map.mp hx; rfl), all_id]
theorem is_all_asked (k : Nat) (z el : List Nat) (ps : List (Nat × Nat)) (h : ∀ p ∈ ps, AskOk z el p) (hl : ps.length < 1000) (C : CH) (hC : C.os.length = C.n) : ∃ C', Sub0 C C' ∧ RF.run T.fs (k + 4) 11 [.tup (z.map nW), .tup (el.map nW), .tup (ps.map prW)] C = .ok (.bl true) C' := by
  obtain ⟨C', hs, e⟩ := all_st (run := RF.run T.fs (k + 3)) (own := [("pair", 3)]) (a := .var 2) (elt := .call 10 (.cons (.var 0) (.cons (.var 1) (.cons (.var 3) .nil)))) (p := .nm 3) (s := [some (.tup (z.map nW)), some (.tup (el.map nW)), some (.tup (ps.map prW)), none]) (C := C) (xs := ps.map prW) rfl hC (by rw [List.length_map]; exact Nat.lt_trans hl (by decide)) (fun x hx C1 h1 => by
    obtain ⟨p, hp, rfl⟩ := List.mem_map.mp hx
    exact ⟨[some (.tup (z.map nW)), some (.tup (el.map nW)), some (.tup (ps.map prW)), some (prW p)], rfl, C1, (ev_call (l := [.tup (z.map nW), .tup (el.map nW), prW p]) rfl).trans (is_asked k z el p (h p hp) C1), .refl h1.wf⟩)
  refine ⟨C', hs, call_rt (d := c11) rfl rfl (exs_rt (exs_ret ((ev_and (w := .bl true) (C1 := C) rfl rfl).trans e)))⟩
theorem nub_self : ∀ {l : List (List Int)}, l.Nodup → nub l = l
  | [], _ => rfl
  | x :: l, h => by
    obtain ⟨h1, h2⟩ := List.nodup_cons.mp h
    have ih := nub_self h2
    show (if (nub l).contains x then nub l else x :: nub l) = x :: l
    rw [ih, if_neg (by simpa using h1)]
def prI (p : Nat × Nat) : List Int := [(p.1 : Int), (p.2 : Int)]
theorem prI_inj : ∀ {a b : Nat × Nat}, prI a = prI b → a = b := by
  rintro ⟨a, b⟩ ⟨c, d⟩ h
  simp only [prI, List.cons.injEq, and_true] at h
  obtain ⟨h1, h2⟩ := h
  rw [show a = c by omega, show b = d by omega]
theorem prs_ints : ∀ ps : List (Nat × Nat), mapO intsT (ps.map prW) = some (ps.map prI)
  | [] => rfl
  | p :: ps => by
    have e : intsT (prW p) = some (prI p) := rfl
    rw [List.map_cons, List.map_cons]
    simp only [mapO, e, prs_ints ps]
theorem is_looks (k : Nat) (z el : List Nat) (ps : List (Nat × Nat)) (h : ∀ p ∈ ps, AskOk z el p) (hn : ps.Nodup) (hl : ps.length < 64) (C : CH) (hC : C.os.length = C.n) : ∃ C', Sub0 C C' ∧ RF.run T.fs (k + 5) 12 [.tup (z.map nW), .tup (el.map nW), .tup (ps.map prW)] C = .ok (.bl true) C' := by
  obtain ⟨C', hs, e⟩ := is_all_asked k z el ps h (by omega) C hC
  refine ⟨C', hs, call_rt (d := c12) rfl rfl (exs_rt (exs_ret ((ev_and (w := .bl true) (C1 := C') ((ev_call (l := [.tup (z.map nW), .tup (el.map nW), .tup (ps.map prW)]) rfl).trans e) rfl).trans ?_)))⟩
  have h1 : lensetW (.tup (ps.map prW)) C' = .ok (.int (ps.length : Int)) C' := by
    have hb : Nat.blt (ps.map prW).length 64 = true := Nat.ble_eq_true_of_le (by rw [List.length_map]; exact hl)
    simp only [lensetW, items, hb, if_true, prs_ints]
    rw [nub_self ((List.pairwise_map.mpr (hn.imp fun h e => h (prI_inj e)))), List.length_map]
  have h2 : biW .len [.tup (ps.map prW)] C' = .ok (.int (ps.length : Int)) C' := by simp [biW, items]
  have h3 : cmpW .Eq (.int (ps.length : Int)) (.int (ps.length : Int)) C' = .ok (.bl true) C' := by simp [cmpW, eqW_int]
  show ((ev (RF.run T.fs (k + 4)) (.lenset (.var 2)) _ C').bind fun x h1 => (ev (RF.run T.fs (k + 4)) (.bi .len (.cons (.var 2) .nil)) _ h1).bind fun y h2 => cmpW .Eq x y h2) = _
  have e1 : ev (RF.run T.fs (k + 4)) (.lenset (.var 2)) [some (.tup (z.map nW)), some (.tup (el.map nW)), some (.tup (ps.map prW))] C' = .ok (.int (ps.length : Int)) C' := h1
  have e2 : ev (RF.run T.fs (k + 4)) (.bi .len (.cons (.var 2) .nil)) [some (.tup (z.map nW)), some (.tup (el.map nW)), some (.tup (ps.map prW))] C' = .ok (.int (ps.length : Int)) C' := ev_bi (ev_one (w := .tup (ps.map prW)) rfl) h2
  show (RF.R.bind (ev (RF.run T.fs (k + 4)) (.lenset (.var 2)) [some (.tup (z.map nW)), some (.tup (el.map nW)), some (.tup (ps.map prW))] C') fun x h1 => (ev (RF.run T.fs (k + 4)) (.bi .len (.cons (.var 2) .nil)) [some (.tup (z.map nW)), some (.tup (el.map nW)), some (.tup (ps.map prW))] h1).bind fun y h2 => cmpW .Eq x y h2) = _
  rw [e1]
  show (RF.R.bind (ev (RF.run T.fs (k + 4)) (.bi .len (.cons (.var 2) .nil)) [some (.tup (z.map nW)), some (.tup (el.map nW)), some (.tup (ps.map prW))] C') fun y h2 => cmpW .Eq (.int (ps.length : Int)) y h2) = _
  rw [e2]
  exact h3
/-- one after the other -/
def Asc (w : List (Nat × Nat)) : Prop := ∀ i a b, w[i]? = some a → w[i + 1]? = some b → lexI (prI a) (prI b) = true
theorem is_ascending (k : Nat) (w : List (Nat × Nat)) (h : Asc w) (hl : w.length < 1000) (C : CH) (hC : C.os.length = C.n) : ∃ C', Sub0 C C' ∧ RF.run T.fs (k + 1) 4 [.tup (w.map prW)] C = .ok (.bl true) C' := by
  have hb : ev (RF.run T.fs k) (.bi .len (.cons (.var 0) .nil)) [some (.tup (w.map prW)), none] C = .ok (.int (w.length : Int)) C := ev_bi (ev_one (w := .tup (w.map prW)) rfl) (by simp [biW, items])
  have hsm : ∀ i : Int, -1000 ≤ i → i ≤ 1000 → small i = true := fun i h1 h2 => by
    unfold small
    rw [Bool.and_eq_true, decide_eq_true_eq, decide_eq_true_eq]
    omega
  obtain ⟨C', hs, e⟩ := all_q (run := RF.run T.fs k) (own := [("at", 1)]) (k := .rng2) (args := .cons (.lit (.int 1)) (.cons (.bi .len (.cons (.var 0) .nil)) .nil)) (elt := .cmp .Lt (.ix (.var 0) (.bin .Sub (.var 1) (.lit (.int 1)))) (.ix (.var 0) (.var 1))) (p := .nm 1) (s := [some (.tup (w.map prW)), none]) (C := C) (C0 := C) (l := [.int 1, .int (w.length : Int)])
    (q := fun i => .upto (1 + (i : Int)) (w.length - 1 - i)) (xs := upW 1 (w.length - 1)) (ev_two rfl hb) (.refl hC) (by
      have e1 : ((w.length : Int) - 1).toNat = w.length - 1 := by omega
      simp [src0, hsm 1 (by decide) (by decide), hsm (w.length : Int) (by omega) (by omega), e1]) (tells_upto 1 (w.length - 1)) (by
      unfold upW
      rw [List.length_map, List.length_range]
      exact Nat.lt_of_lt_of_le (show w.length - 1 < 1000 by omega) (by decide)) (fun x hx C1 h1 => by
      unfold upW at hx
      obtain ⟨i, hi, rfl⟩ := List.mem_map.mp hx
      have hi := List.mem_range.mp hi
      have ha : w[i]? = some w[i] := List.getElem?_eq_getElem (by omega)
      have hb : w[i + 1]? = some w[i + 1] := List.getElem?_eq_getElem (by omega)
      refine ⟨[some (.tup (w.map prW)), some (nW (i + 1))], by
        show some [some (W.tup (w.map prW)), some (W.int (1 + (i : Int)))] = some [some (W.tup (w.map prW)), some (W.int ((i + 1 : Nat) : Int))]
        rw [show 1 + (i : Int) = ((i + 1 : Nat) : Int) by omega], C1, ?_, .refl h1.wf⟩
      have a1 : ixW (.tup (w.map prW)) (.int (((i + 1 : Nat) : Int) - 1)) C1 = .ok (prW w[i]) C1 := by
        rw [show ((i + 1 : Nat) : Int) - 1 = (i : Int) by omega]
        exact ix_tup (i := i) (by rw [List.getElem?_map, ha] <;> rfl) C1
      have a2 : ixW (.tup (w.map prW)) (nW (i + 1)) C1 = .ok (prW w[i + 1]) C1 := ix_tup (by rw [List.getElem?_map, hb] <;> rfl) C1
      have a3 : cmpW .Lt (prW w[i]) (prW w[i + 1]) C1 = .ok (.bl true) C1 := by
        have := h i _ _ ha hb
        show R.ok (W.bl (lexI (prI w[i]) (prI w[i + 1]))) C1 = _
        rw [this]
      simp only [ev, RF.R.bind, List.getElem?_cons_succ, List.getElem?_cons_zero, nW, binW] at a1 a2 a3 ⊢
      rw [a1]
      simp only []
      rw [a2]
      exact a3)
  exact ⟨C', hs, call_rt (d := c4) rfl rfl (exs_rt (exs_ret e))⟩
end K04
end
section
set_option Elab.async false
set_option linter.all false
set_option maxRecDepth 100000
set_option maxHeartbeats 1000000
namespace K04
open PySem RF
def SlOk (z el : List Nat) : Sl → Prop
  | .no => True
  | .kept p s => AskOk z el (p, s)
  | .new _ w => (∀ p ∈ w, AskOk z el p) ∧ Asc w ∧ w.length < 64
theorem ev_ixs {run : Nat → List W → CH → R W} {a b : CE} {s : St} {C C1 C2 C3 : CH} {x y w : W} (ha : ev run a s C = .ok x C1) (hb : ev run b s C1 = .ok y C2) (h : ixW x y C2 = .ok w C3) : ev run (.ix a b) s C = .ok w C3 := by
  simp only [ev, ha, RF.R.bind, hb, h]
theorem ev_cmps {run : Nat → List W → CH → R W} {op : CmpOp} {a b : CE} {s : St} {C C1 C2 C3 : CH} {x y w : W} (ha : ev run a s C = .ok x C1) (hb : ev run b s C1 = .ok y C2) (h : cmpW op x y C2 = .ok w C3) : ev run (.cmp op a b) s C = .ok w C3 := by
  simp only [ev, ha, RF.R.bind, hb, h]
theorem ev_bins {run : Nat → List W → CH → R W} {op : Operator} {a b : CE} {s : St} {C C1 C2 C3 : CH} {x y w : W} (ha : ev run a s C = .ok x C1) (hb : ev run b s C1 = .ok y C2) (h : binW op x y C2 = .ok w C3) : ev run (.bin op a b) s C = .ok w C3 := by
  simp only [ev, ha, RF.R.bind, hb, h]
theorem eq_str (a b : PySem.Str) (t : Bool) (h : ∀ C, eqW C (.str a) (.str b) = some t) (C : CH) : cmpW .Eq (.str a) (.str b) C = .ok (.bl t) C := by
  simp only [cmpW, h C]
theorem ne_str (a b : PySem.Str) (t : Bool) (h : ∀ C, eqW C (.str a) (.str b) = some t) (C : CH) : cmpW .NotEq (.str a) (.str b) C = .ok (.bl (!t)) C := by
  simp only [cmpW, h C]
theorem s_nn (C : CH) : eqW C (.str "none") (.str "none") = some true := by kernel_rfl
theorem s_kk (C : CH) : eqW C (.str "kept") (.str "kept") = some true := by kernel_rfl
theorem s_ww (C : CH) : eqW C (.str "new") (.str "new") = some true := by kernel_rfl
theorem s_wk (C : CH) : eqW C (.str "new") (.str "kept") = some false := by kernel_rfl
theorem s_kw (C : CH) : eqW C (.str "kept") (.str "new") = some false := by kernel_rfl
theorem s_nw (C : CH) : eqW C (.str "none") (.str "new") = some false := by kernel_rfl
theorem s_nk (C : CH) : eqW C (.str "none") (.str "kept") = some false := by kernel_rfl
theorem is_slot (k : Nat) (z el : List Nat) (o : Sl) (h : SlOk z el o) (C : CH) (hC : C.os.length = C.n) : ∃ C', Sub0 C C' ∧ RF.run T.fs (k + 5) 13 [.tup (z.map nW), .tup (el.map nW), slW o] C = .ok (.bl true) C' := by
  cases o with
  | no =>
    refine ⟨C, .refl hC, call_rt (d := c13) rfl rfl ?_⟩
    have h1 : ev (RF.run T.fs (k + 4)) (.call 3 (.cons (.var 2) (.cons (.lit (.int 1)) .nil))) [some (.tup (z.map nW)), some (.tup (el.map nW)), some (slW .no), none, none, none] C = .ok (.bl true) C := (ev_call (ev_two (w := slW .no) rfl rfl)).trans (tuple_yes (k + 3) [.str "none"] 1 rfl C)
    refine exs_rt ((exs_yes h1 rfl).trans (exs_rt (exs_ret ?_)))
    exact ev_cmps (ev_ixs (x := slW .no) (y := nW 0) (C1 := C) rfl rfl (ix_tup (w := .str "none") rfl C)) rfl (eq_str _ _ _ s_nn C)
  | kept p s =>
    refine ⟨C, .refl hC, call_rt (d := c13) rfl rfl ?_⟩
    have h1 : ev (RF.run T.fs (k + 4)) (.call 3 (.cons (.var 2) (.cons (.lit (.int 1)) .nil))) [some (.tup (z.map nW)), some (.tup (el.map nW)), some (slW (.kept p s)), none, none, none] C = .ok (.bl false) C := (ev_call (ev_two (w := slW (.kept p s)) rfl rfl)).trans (tuple_no (k + 3) [.str "kept", nW p, nW s] 1 (show (3 : Nat) ≠ 1 by decide) C)
    have h2 : ev (RF.run T.fs (k + 4)) (.not (.call 3 (.cons (.var 2) (.cons (.lit (.int 3)) .nil)))) [some (.tup (z.map nW)), some (.tup (el.map nW)), some (slW (.kept p s)), none, none, none] C = .ok (.bl false) C := ev_not ((ev_call (ev_two (w := slW (.kept p s)) rfl rfl)).trans (tuple_yes (k + 3) [.str "kept", nW p, nW s] 3 rfl C))
    have h3 : ev (RF.run T.fs (k + 4)) (.cmp .Eq (.ix (.var 2) (.lit (.int 0))) (.lit (.str "kept"))) [some (.tup (z.map nW)), some (.tup (el.map nW)), some (slW (.kept p s)), none, none, none] C = .ok (.bl true) C := ev_cmps (ev_ixs (x := slW (.kept p s)) (y := nW 0) (C1 := C) rfl rfl (ix_tup (w := .str "kept") rfl C)) rfl (eq_str _ _ _ s_kk C)
    refine (exs_cons (exs_no h1 rfl)).trans ((exs_cons (exs_no h2 rfl)).trans (exs_rt ((exs_yes h3 rfl).trans (exs_rt (exs_ret ?_)))))
    have h4 : ev (RF.run T.fs (k + 4)) (.slc (.var 2) (.lit (.int 1)) .nopart) [some (.tup (z.map nW)), some (.tup (el.map nW)), some (slW (.kept p s)), none, none, none] C = .ok (prW (p, s)) C := rfl
    exact (ev_call (l := [.tup (z.map nW), .tup (el.map nW), prW (p, s)]) rfl).trans (is_asked (k + 1) z el (p, s) h C)
  | new c w =>
    obtain ⟨a1, a2, a3⟩ := h
    obtain ⟨C1, hs1, e1⟩ := is_all_asked k z el w a1 (by omega) C hC
    obtain ⟨C2, hs2, e2⟩ := is_ascending (k + 3) w a2 (by omega) C1 hs1.wf
    refine ⟨C2, hs1.trans hs2, call_rt (d := c13) rfl rfl ?_⟩
    have h1 : ev (RF.run T.fs (k + 4)) (.call 3 (.cons (.var 2) (.cons (.lit (.int 1)) .nil))) [some (.tup (z.map nW)), some (.tup (el.map nW)), some (slW (.new c w)), none, none, none] C = .ok (.bl false) C := (ev_call (ev_two (w := slW (.new c w)) rfl rfl)).trans (tuple_no (k + 3) [.str "new", nW c, .tup (w.map prW)] 1 (show (3 : Nat) ≠ 1 by decide) C)
    have h2 : ev (RF.run T.fs (k + 4)) (.not (.call 3 (.cons (.var 2) (.cons (.lit (.int 3)) .nil)))) [some (.tup (z.map nW)), some (.tup (el.map nW)), some (slW (.new c w)), none, none, none] C = .ok (.bl false) C := ev_not ((ev_call (ev_two (w := slW (.new c w)) rfl rfl)).trans (tuple_yes (k + 3) [.str "new", nW c, .tup (w.map prW)] 3 rfl C))
    have h3 : ev (RF.run T.fs (k + 4)) (.cmp .Eq (.ix (.var 2) (.lit (.int 0))) (.lit (.str "kept"))) [some (.tup (z.map nW)), some (.tup (el.map nW)), some (slW (.new c w)), none, none, none] C = .ok (.bl false) C := ev_cmps (ev_ixs (x := slW (.new c w)) (y := nW 0) (C1 := C) rfl rfl (ix_tup (w := .str "new") rfl C)) rfl (eq_str _ _ _ s_wk C)
    have h4 : ev (RF.run T.fs (k + 4)) (.cmp .NotEq (.ix (.var 2) (.lit (.int 0))) (.lit (.str "new"))) [some (.tup (z.map nW)), some (.tup (el.map nW)), some (slW (.new c w)), none, none, none] C = .ok (.bl false) C := ev_cmps (ev_ixs (x := slW (.new c w)) (y := nW 0) (C1 := C) rfl rfl (ix_tup (w := .str "new") rfl C)) rfl (ne_str _ _ _ s_ww C)
    refine (exs_cons (exs_no h1 rfl)).trans ((exs_cons (exs_no h2 rfl)).trans ((exs_cons (exs_no h3 rfl)).trans ((exs_cons (exs_no h4 rfl)).trans ((exs_cons (exs_pat (s1 := [some (.tup (z.map nW)), some (.tup (el.map nW)), some (slW (.new c w)), some (.str "new"), some (nW c), some (.tup (w.map prW))]) (w := slW (.new c w)) rfl rfl)).trans (exs_rt (exs_ret ?_))))))
    refine (ev_and ((ev_call (l := [nW c]) rfl).trans (is_from_zero (k + 2) c (by omega) C)) rfl).trans ((ev_and ((ev_call (l := [.tup (z.map nW), .tup (el.map nW), .tup (w.map prW)]) rfl).trans e1) rfl).trans ((ev_call (l := [.tup (w.map prW)]) rfl).trans e2))
structure RowOk (z : List Nat) (r : Row) : Prop where
  el2 : r.el.length ≤ 2
  elz : ∀ e ∈ r.el, e < z.length
  lks : ∀ p ∈ r.lk, AskOk z r.el p
  lkn : r.lk.Nodup
  lkl : r.lk.length < 64
  shz : z[r.sh]? = some r.sl.length
  sls : ∀ o ∈ r.sl, SlOk z r.el o
  sll : r.sl.length < 64
theorem is_row (k : Nat) (z : List Nat) (hz : SzOk z) (r : Row) (h : RowOk z r) (C : CH) (hC : C.os.length = C.n) : ∃ C', Sub0 C C' ∧ RF.run T.fs (k + 6) 7 [.tup (z.map nW), rowW r] C = .ok (.bl true) C' := by
  have hsh : r.sh < z.length := by
    rcases Nat.lt_or_ge r.sh z.length with q | q
    · exact q
    · have := h.shz; rw [List.getElem?_eq_none q] at this; cases this
  obtain ⟨C1, hs1, e1⟩ := is_elders (k + 2) z r.el h.el2 h.elz C hC
  obtain ⟨C2, hs2, e2⟩ := is_looks k z r.el r.lk h.lks h.lkn h.lkl C1 hs1.wf
  let s0 : St := [some (.tup (z.map nW)), some (rowW r), none, none, none, none, none, none]
  let s1 : St := [some (.tup (z.map nW)), some (rowW r), some (.tup (r.el.map nW)), some (.tup (r.lk.map prW)), some (nW r.cost), some (nW r.sh), some (.tup (r.sl.map slW)), none]
  obtain ⟨C3, hs3, e3⟩ := all_st (run := RF.run T.fs (k + 5)) (own := [("slot", 7)]) (a := .var 6) (elt := .call 13 (.cons (.var 0) (.cons (.var 2) (.cons (.var 7) .nil)))) (p := .nm 7) (s := s1) (C := C2) (xs := r.sl.map slW) rfl hs2.wf (by rw [List.length_map]; exact Nat.lt_trans h.sll (by decide)) (fun x hx C3 h3 => by
    obtain ⟨o, ho, rfl⟩ := List.mem_map.mp hx
    obtain ⟨C4, h4, e4⟩ := is_slot k z r.el o (h.sls o ho) C3 h3.wf
    exact ⟨[some (.tup (z.map nW)), some (rowW r), some (.tup (r.el.map nW)), some (.tup (r.lk.map prW)), some (nW r.cost), some (nW r.sh), some (.tup (r.sl.map slW)), some (slW o)], rfl, C4, (ev_call (l := [.tup (z.map nW), .tup (r.el.map nW), slW o]) rfl).trans e4, h4⟩)
  refine ⟨C3, (hs1.trans hs2).trans hs3, call_rt (d := c7) rfl rfl ?_⟩
  have h1 : ev (RF.run T.fs (k + 5)) (.not (.call 3 (.cons (.var 1) (.cons (.lit (.int 5)) .nil)))) s0 C = .ok (.bl false) C := ev_not ((ev_call (ev_two (w := rowW r) rfl rfl)).trans (tuple_yes (k + 4) [.tup (r.el.map nW), .tup (r.lk.map prW), nW r.cost, nW r.sh, .tup (r.sl.map slW)] 5 rfl C))
  have h2 : ev (RF.run T.fs (k + 5)) (.or (.not (.call 9 (.cons (.var 0) (.cons (.var 2) .nil)))) (.not (.call 12 (.cons (.var 0) (.cons (.var 2) (.cons (.var 3) .nil)))))) s1 C = .ok (.bl false) C2 :=
    (ev_orF (ev_not ((ev_call (l := [.tup (z.map nW), .tup (r.el.map nW)]) rfl).trans e1)) rfl).trans (ev_not ((ev_call (l := [.tup (z.map nW), .tup (r.el.map nW), .tup (r.lk.map prW)]) rfl).trans e2))
  have hlen : ev (RF.run T.fs (k + 5)) (.bi .len (.cons (.var 0) .nil)) s1 C2 = .ok (.int (z.length : Int)) C2 := ev_bi (ev_one (w := .tup (z.map nW)) rfl) (by simp [biW, items])
  have h3 : ev (RF.run T.fs (k + 5)) (.or (.not (.call 1 (.cons (.var 4) .nil))) (.not (.call 2 (.cons (.var 5) (.cons (.bi .len (.cons (.var 0) .nil)) .nil))))) s1 C2 = .ok (.bl false) C2 :=
    (ev_orF (ev_not ((ev_call (l := [nW r.cost]) rfl).trans (is_from_zero (k + 3) r.cost (by omega) C2))) rfl).trans (ev_not ((ev_call (ev_two (w := nW r.sh) rfl hlen)).trans (below (k + 3) r.sh z.length hsh C2)))
  refine (exs_cons (exs_no h1 rfl)).trans ((exs_cons (exs_pat (s1 := s1) (w := rowW r) rfl rfl)).trans ((exs_cons (exs_no h2 rfl)).trans ((exs_cons (exs_no h3 rfl)).trans (exs_rt (exs_ret ?_)))))
  have h4 : ev (RF.run T.fs (k + 5)) (.call 3 (.cons (.var 6) (.cons (.ix (.var 0) (.var 5)) .nil))) s1 C2 = .ok (.bl true) C2 :=
    (ev_call (ev_two (w := .tup (r.sl.map slW)) (u := nW r.sl.length) rfl (ev_ixs (x := .tup (z.map nW)) (y := nW r.sh) (C1 := C2) rfl rfl (ix_tup (nW_at h.shz) C2)))).trans (tuple_yes (k + 4) (r.sl.map slW) r.sl.length (List.length_map _) C2)
  exact (ev_and h4 rfl).trans e3
structure CrOk (c : Cr) : Prop where
  sz : SzOk c.sz
  ne : c.rows ≠ []
  ln : c.rows.length < 1000
  ok : ∀ r ∈ c.rows, RowOk c.sz r
theorem is_craft (k : Nat) (c : Cr) (h : CrOk c) (C : CH) (hC : C.os.length = C.n) : ∃ C', Sub0 C C' ∧ RF.run T.fs (k + 7) 6 [crW c] C = .ok (.bl true) C' := by
  let s0 : St := [some (crW c), none, none, none]
  let s1 : St := [some (crW c), some (.tup (c.sz.map nW)), some (.tup (c.rows.map rowW)), none]
  obtain ⟨C1, hs1, e1⟩ := is_sizes (k + 3) c.sz h.sz C hC
  obtain ⟨C2, hs2, e2⟩ := all_st (run := RF.run T.fs (k + 6)) (own := [("row", 3)]) (a := .var 2) (elt := .call 7 (.cons (.var 1) (.cons (.var 3) .nil))) (p := .nm 3) (s := s1) (C := C1) (xs := c.rows.map rowW) rfl hs1.wf (by rw [List.length_map]; exact Nat.lt_trans h.ln (by decide)) (fun x hx C3 h3 => by
    obtain ⟨r, hr, rfl⟩ := List.mem_map.mp hx
    obtain ⟨C4, h4, e4⟩ := is_row k c.sz h.sz r (h.ok r hr) C3 h3.wf
    exact ⟨[some (crW c), some (.tup (c.sz.map nW)), some (.tup (c.rows.map rowW)), some (rowW r)], rfl, C4, (ev_call (l := [.tup (c.sz.map nW), rowW r]) rfl).trans e4, h4⟩)
  refine ⟨C2, hs1.trans hs2, call_rt (d := c6) rfl rfl ?_⟩
  have h1 : ev (RF.run T.fs (k + 6)) (.not (.call 3 (.cons (.var 0) (.cons (.lit (.int 2)) .nil)))) s0 C = .ok (.bl false) C := ev_not ((ev_call (ev_two (w := crW c) rfl rfl)).trans (tuple_yes (k + 5) [.tup (c.sz.map nW), .tup (c.rows.map rowW)] 2 rfl C))
  have h2 : ev (RF.run T.fs (k + 6)) (.bi .isi (.cons (.var 2) (.cons (.gty "tuple") .nil))) s1 C1 = .ok (.bl true) C1 := rfl
  have h3 : ev (RF.run T.fs (k + 6)) (.cmp .Gt (.bi .len (.cons (.var 2) .nil)) (.lit (.int 0))) s1 C1 = .ok (.bl true) C1 := by
    have : 0 < c.rows.length := List.length_pos_iff.mpr h.ne
    refine ev_cmps (C1 := C1) (C2 := C1) (x := .int (c.rows.length : Int)) (y := .int 0) (ev_bi (ev_one (w := .tup (c.rows.map rowW)) rfl) (by simp [biW, items])) rfl ?_
    simp [cmpW, this]
  refine (exs_cons (exs_no h1 rfl)).trans ((exs_cons (exs_pat (s1 := s1) (w := crW c) rfl rfl)).trans (exs_rt (exs_ret ?_)))
  exact (ev_and ((ev_call (l := [.tup (c.sz.map nW)]) rfl).trans e1) rfl).trans ((ev_and h2 rfl).trans ((ev_and h3 rfl).trans e2))
end K04
end
section
set_option Elab.async false
set_option linter.all false
set_option maxRecDepth 100000
set_option maxHeartbeats 1000000
namespace RF
open PySem
/-- a comprehension that keeps all: the i-th tells ys[i] -/
theorem compL_i {fc fe : St → CH → R W} {p : CP} {s : St} {I : CH → Prop} {q : Nat → Src} {xs ys : List W} (hq : Tells I q xs) (hl : xs.length = ys.length) (h : ∀ (i : Nat) (x y : W), xs[i]? = some x → ys[i]? = some y → ∀ C, I C → ∃ s', bindP C p x s = some s' ∧ ∃ b C1, fc s' C = .ok b C1 ∧ truth C1 b = some true ∧ ∃ C2, fe s' C1 = .ok y C2 ∧ I C2) :
    ∀ (m i n : Nat) (acc : List W) (C : CH), m = xs.length - i → I C → m < n → ∃ C', I C' ∧ compL fc fe p s n (q i) C acc = .ok (.ref C'.n) (C'.new (.lst (acc.reverse ++ ys.drop i)))
  | m, i, n + 1, acc, C, hm, hI, hn => by
    cases e : xs[i]? with
    | none =>
      refine ⟨C, hI, ?_⟩
      have hl1 : xs.length ≤ i := by
        rcases Nat.lt_or_ge i xs.length with z | z
        · rw [List.getElem?_eq_getElem z] at e; cases e
        · exact z
      rw [compL, hq i C hI, e, List.drop_eq_nil_of_le (by omega)]
      simp
    | some x =>
      have hl1 : i < xs.length := by
        rcases Nat.lt_or_ge i xs.length with z | z
        · exact z
        · rw [List.getElem?_eq_none z] at e; cases e
      have ey : ys[i]? = some ys[i] := List.getElem?_eq_getElem (by omega)
      obtain ⟨s', hb, b, C1, hc, ht, C2, he, hI2⟩ := h i x ys[i] e ey C hI
      obtain ⟨C', hI', ee⟩ := compL_i hq hl h (m - 1) (i + 1) n (ys[i] :: acc) C2 (by omega) hI2 (by omega)
      refine ⟨C', hI', ?_⟩
      rw [compL, hq i C hI, e, drop_cons ey]
      simp only [hb, hc, ht, he, ee]
      simp
end RF
namespace K04
open PySem RF
/-- tuple([e for p in ..]) over any source -/
theorem tup_q {run : Nat → List W → CH → R W} {own : List (PySem.Str × Nat)} {k : IK} {args elt : CE} {p : CP} {s : St} {C C0 : CH} {l : List W} {q : Nat → Src} {xs ys : List W} (ha : ev run args s C = .ok (.tup l) C0) (hs0 : Sub0 C C0) (hs : src0 k l C0 = some (q 0)) (hq : Tells (fun C1 => Sub0 C0 C1) q xs) (hl : xs.length < fuel) (hy : xs.length = ys.length)
    (h : ∀ (i : Nat) (x y : W), xs[i]? = some x → ys[i]? = some y → ∀ C1, Sub0 C0 C1 → ∃ s', bindP C1 p x (wipeW s (own.map fun (x : PySem.Str × Nat) => x.2)) = some s' ∧ ∃ C2, ev run elt s' C1 = .ok y C2 ∧ Sub0 C1 C2) :
    ∃ C', Sub0 C C' ∧ ev run (.bi .tuple (.cons (.comp own k args p (.lit (.bl true)) elt) .nil)) s C = .ok (.tup ys) C' := by
  obtain ⟨C', hs1, e⟩ := compL_i (fc := ev run (.lit (.bl true))) (fe := ev run elt) (p := p) (s := wipeW s (own.map fun (x : PySem.Str × Nat) => x.2)) hq hy (fun i x y hx hyy C1 hs => by
    obtain ⟨s', hb, C2, he, hs2⟩ := h i x y hx hyy C1 hs
    exact ⟨s', hb, .bl true, C1, rfl, rfl, C2, he, hs.trans hs2⟩) (xs.length - 0) 0 fuel [] C0 rfl (.refl hs0.wf) hl
  refine ⟨C'.new (.lst ys), hs0.trans (hs1.new _), ?_⟩
  rw [List.reverse_nil, List.nil_append, List.drop_zero] at e
  refine ev_bi (ev_one ((ev_comp ha hs).trans e)) ?_
  simp only [biW, items, new_at hs1.wf]
theorem ev_orT {run : Nat → List W → CH → R W} {a b : CE} {s : St} {C C1 : CH} {w : W} (ha : ev run a s C = .ok w C1) (t : truth C1 w = some true) : ev run (.or a b) s C = .ok w C1 := by
  simp only [ev, ha, RF.R.bind, t]
/-- no list, no tuple -/
def atomW : W → Bool
  | .int _ => true
  | .str _ => true
  | _ => false
/-- told as tuples, so deep -/
inductive TD (C : CH) : Nat → W → W → Prop
  | atom {n : Nat} {w : W} (h : atomW w = true) : TD C n w w
  | tup {n : Nat} {xs ys : List W} (hl : xs.length = ys.length) (hs : xs.length < 1000) (h : ∀ (i : Nat) (x y : W), xs[i]? = some x → ys[i]? = some y → TD C n x y) : TD C (n + 1) (.tup xs) (.tup ys)
  | lst {n r : Nat} {xs ys : List W} (hr : C.get r = some (.lst xs)) (hl : xs.length = ys.length) (hs : xs.length < 1000) (h : ∀ (i : Nat) (x y : W), xs[i]? = some x → ys[i]? = some y → TD C n x y) : TD C (n + 1) (.ref r) (.tup ys)
theorem as_step {k m : Nat} {w : W} {C C1 : CH} {ys : List W} (hm : m ≠ 0) (hi : biW .isi [w, .tup [.ty "list", .ty "tuple"]] C = .ok (.bl true) C)
    (he : ev (RF.run T.fs k) (.bi .tuple (.cons (.comp [("part", 2)] .seq (.cons (.var 0) .nil) (.nm 2) (.lit (.bl true)) (.call 5 (.cons (.var 2) (.cons (.bin .Sub (.var 1) (.lit (.int 1))) .nil)))) .nil)) [some w, some (.int (m : Int)), none] C = .ok (.tup ys) C1) :
    RF.run T.fs (k + 1) 5 [w, .int (m : Int)] C = .ok (.tup ys) C1 := by
  refine call_rt (d := c5) rfl rfl ?_
  have h0 : ev (RF.run T.fs k) (.cmp .Eq (.var 1) (.lit (.int 0))) [some w, some (.int (m : Int)), none] C = .ok (.bl false) C := by
    refine ev_cmps (C1 := C) (C2 := C) (x := .int (m : Int)) (y := .int 0) rfl rfl ?_
    have : decide ((m : Int) = 0) = false := by rw [decide_eq_false_iff_not]; omega
    simp only [cmpW, eqW_int, this]
  have h1 : ev (RF.run T.fs k) (.not (.bi .isi (.cons (.var 0) (.cons (.tup (.cons (.gty "list") (.cons (.gty "tuple") .nil))) .nil)))) [some w, some (.int (m : Int)), none] C = .ok (.bl false) C :=
    ev_not (ev_bi (ev_two (w := w) (u := .tup [.ty "list", .ty "tuple"]) rfl rfl) hi)
  exact (exs_cons (exs_no ((ev_orF h0 rfl).trans h1) rfl)).trans (exs_rt (exs_ret he))
theorem as_tuples {C : CH} {n : Nat} {w d : W} (h : TD C n w d) : ∀ (k m : Nat) (C1 : CH), n ≤ m → Sub0 C C1 → ∃ C2, Sub0 C1 C2 ∧ RF.run T.fs (k + n + 1) 5 [w, .int (m : Int)] C1 = .ok d C2 := by
  induction h with
  | @atom n w ha =>
    intro k m C1 hm hs
    refine ⟨C1, .refl hs.wf, call_rt (d := c5) rfl rfl ?_⟩
    have hi : biW .isi [w, .tup [.ty "list", .ty "tuple"]] C1 = .ok (.bl false) C1 := by
      cases w <;> first | rfl | (simp [atomW] at ha)
    have h1 : ev (RF.run T.fs (k + n)) (.not (.bi .isi (.cons (.var 0) (.cons (.tup (.cons (.gty "list") (.cons (.gty "tuple") .nil))) .nil)))) [some w, some (.int (m : Int)), none] C1 = .ok (.bl true) C1 :=
      ev_not (ev_bi (ev_two (w := w) (u := .tup [.ty "list", .ty "tuple"]) rfl rfl) hi)
    have h0 : ev (RF.run T.fs (k + n)) (.cmp .Eq (.var 1) (.lit (.int 0))) [some w, some (.int (m : Int)), none] C1 = .ok (.bl (decide ((m : Int) = 0))) C1 := by
      refine ev_cmps (C1 := C1) (C2 := C1) (x := .int (m : Int)) (y := .int 0) rfl rfl ?_
      simp only [cmpW, eqW_int]
    by_cases hz : (m : Int) = 0
    · rw [decide_eq_true hz] at h0
      exact exs_rt ((exs_yes (ev_orT h0 rfl) rfl).trans (exs_rt (exs_ret rfl)))
    · rw [decide_eq_false hz] at h0
      exact exs_rt ((exs_yes ((ev_orF h0 rfl).trans h1) rfl).trans (exs_rt (exs_ret rfl)))
  | @tup n xs ys hl hn h ih =>
    intro k m C1 hm hs
    obtain ⟨C2, h2, e2⟩ := tup_q (run := RF.run T.fs (k + n + 1)) (own := [("part", 2)]) (k := .seq) (args := .cons (.var 0) .nil) (elt := .call 5 (.cons (.var 2) (.cons (.bin .Sub (.var 1) (.lit (.int 1))) .nil))) (p := .nm 2) (s := [some (.tup xs), some (.int (m : Int)), none]) (C := C1) (C0 := C1) (l := [.tup xs])
      (q := fun i => .st (xs.drop i)) (xs := xs) (ys := ys) rfl (.refl hs.wf) rfl (tells_st xs) (Nat.lt_trans hn (by decide)) hl (fun i x y hx hy C3 h3 => by
        obtain ⟨C4, h4, e4⟩ := ih i x y hx hy k (m - 1) C3 (by omega) (hs.trans h3)
        refine ⟨[some (.tup xs), some (.int (m : Int)), some x], rfl, C4, ?_, h4⟩
        have eb : ev (RF.run T.fs (k + n + 1)) (.bin .Sub (.var 1) (.lit (.int 1))) [some (.tup xs), some (.int (m : Int)), some x] C3 = .ok (.int ((m - 1 : Nat) : Int)) C3 := by
          refine ev_bins (C1 := C3) (C2 := C3) (x := .int (m : Int)) (y := .int 1) rfl rfl ?_
          show R.ok (W.int ((m : Int) - 1)) C3 = _
          rw [show (m : Int) - 1 = ((m - 1 : Nat) : Int) by omega]
        exact (ev_call (ev_two (w := x) rfl eb)).trans e4)
    exact ⟨C2, h2, as_step (k := k + n + 1) (by omega) rfl e2⟩
  | @lst n r xs ys hr hl hn h ih =>
    intro k m C1 hm hs
    have hr1 := hs.keep r _ (fun z => z) hr
    obtain ⟨C2, h2, e2⟩ := tup_q (run := RF.run T.fs (k + n + 1)) (own := [("part", 2)]) (k := .seq) (args := .cons (.var 0) .nil) (elt := .call 5 (.cons (.var 2) (.cons (.bin .Sub (.var 1) (.lit (.int 1))) .nil))) (p := .nm 2) (s := [some (.ref r), some (.int (m : Int)), none]) (C := C1) (C0 := C1) (l := [.ref r])
      (q := fun i => .lref r i) (xs := xs) (ys := ys) rfl (.refl hs.wf) (by simp [src0, lstAt, hr1]) (tells_lref fun C3 h3 => h3.keep r _ (fun z => z) hr1) (Nat.lt_trans hn (by decide)) hl (fun i x y hx hy C3 h3 => by
        obtain ⟨C4, h4, e4⟩ := ih i x y hx hy k (m - 1) C3 (by omega) (hs.trans h3)
        refine ⟨[some (.ref r), some (.int (m : Int)), some x], rfl, C4, ?_, h4⟩
        have eb : ev (RF.run T.fs (k + n + 1)) (.bin .Sub (.var 1) (.lit (.int 1))) [some (.ref r), some (.int (m : Int)), some x] C3 = .ok (.int ((m - 1 : Nat) : Int)) C3 := by
          refine ev_bins (C1 := C3) (C2 := C3) (x := .int (m : Int)) (y := .int 1) rfl rfl ?_
          show R.ok (W.int ((m : Int) - 1)) C3 = _
          rw [show (m : Int) - 1 = ((m - 1 : Nat) : Int) by omega]
        exact (ev_call (ev_two (w := x) rfl eb)).trans e4)
    refine ⟨C2, h2, as_step (k := k + n + 1) (by omega) ?_ e2⟩
    simp [biW, tyW, hr1, isiAny, isiOne]
end K04
end
section
set_option Elab.async false
set_option linter.all false
set_option maxRecDepth 100000
set_option maxHeartbeats 1000000
namespace K04
open PySem RF
theorem fit_craft (k : Nat) (c : Cr) (hc : CrOk c) {w : W} {C : CH} (hC : C.os.length = C.n) (h : TD C 7 w (crW c)) : ∃ C', Sub0 C C' ∧ RF.run T.fs (k + 9) 14 [w] C = .ok (crW c) C' := by
  obtain ⟨C1, h1, e1⟩ := as_tuples h k 7 C (Nat.le_refl _) (.refl hC)
  obtain ⟨C2, h2, e2⟩ := is_craft (k + 1) c hc C1 h1.wf
  refine ⟨C2, h1.trans h2, call_rt (d := c14) rfl rfl ?_⟩
  have a1 : ev (RF.run T.fs (k + 8)) (.call 5 (.cons (.var 0) (.cons (.gint "CRAFT_LEVELS" 7) .nil))) [some w] C = .ok (crW c) C1 := (ev_call (ev_two (w := w) rfl rfl)).trans e1
  have a2 : ev (RF.run T.fs (k + 8)) (.not (.call 6 (.cons (.var 0) .nil))) [some (crW c)] C1 = .ok (.bl false) C2 := ev_not ((ev_call (l := [crW c]) rfl).trans e2)
  exact (exs_cons (exs_set a1 rfl)).trans ((exs_cons (exs_no a2 rfl)).trans (exs_rt (exs_ret rfl)))
/-- a version that can stand where the versions ahead have the shapes ss -/
def VerOk (c : Cr) (ss : List Nat) (v : Ver) : Prop := ∃ r, c.rows[v.1]? = some r ∧ v.2.length = r.el.length ∧ ∀ (j e s : Nat), v.2[j]? = some e → r.el[j]? = some s → ss[e]? = some s
theorem ix_ref {r : Nat} {xs : List W} {i : Nat} {w : W} {C : CH} (hr : C.get r = some (.lst xs)) (h : xs[i]? = some w) : ixW (.ref r) (nW i) C = .ok w C := by
  simp only [ixW, hr, nW, atI_nat, h]
theorem len_tup (xs : List W) (C : CH) : biW .len [.tup xs] C = .ok (.int (xs.length : Int)) C := by simp [biW, items]
theorem len_ref {r : Nat} {xs : List W} {C : CH} (hr : C.get r = some (.lst xs)) : biW .len [.ref r] C = .ok (.int (xs.length : Int)) C := by simp [biW, items, hr]
theorem rows_at {c : Cr} {i : Nat} {r : Row} (h : c.rows[i]? = some r) : (c.rows.map rowW)[i]? = some (rowW r) := by rw [List.getElem?_map, h] <;> rfl
theorem lt_of {α : Type} {xs : List α} {i : Nat} {x : α} (h : xs[i]? = some x) : i < xs.length := by
  rcases Nat.lt_or_ge i xs.length with q | q
  · exact q
  · rw [List.getElem?_eq_none q] at h; cases h
theorem is_next (k : Nat) (c : Cr) (hc : CrOk c) (ss : List Nat) (v : Ver) (hv : VerOk c ss v) {r : Nat} {C : CH} (hC : C.os.length = C.n) (hr : C.get r = some (.lst (ss.map nW))) :
    ∃ C', Sub0 C C' ∧ RF.run T.fs (k + 3) 16 [crW c, .ref r, verW v] C = .ok (.bl true) C' := by
  obtain ⟨row, hrow, hl, hsh⟩ := hv
  have hmem : row ∈ c.rows := List.mem_of_getElem? hrow
  have ok := hc.ok row hmem
  let s0 : St := [some (crW c), some (.ref r), some (verW v), none, none, none, none, none]
  let s1 : St := [some (crW c), some (.ref r), some (verW v), some (nW v.1), some (.tup (v.2.map nW)), none, none, none]
  let s2 : St := [some (crW c), some (.ref r), some (verW v), some (nW v.1), some (.tup (v.2.map nW)), some (.tup (row.el.map nW)), none, none]
  have h1 : ev (RF.run T.fs (k + 2)) (.not (.call 3 (.cons (.var 2) (.cons (.lit (.int 2)) .nil)))) s0 C = .ok (.bl false) C := ev_not ((ev_call (ev_two (w := verW v) rfl rfl)).trans (tuple_yes (k + 1) [nW v.1, .tup (v.2.map nW)] 2 rfl C))
  have er : ∀ s : St, s[0]? = some (some (crW c)) → ev (RF.run T.fs (k + 2)) (.ix (.var 0) (.lit (.int 1))) s C = .ok (.tup (c.rows.map rowW)) C := fun s hs => by
    refine ev_ixs (x := crW c) (y := nW 1) (C1 := C) ?_ rfl (ix_tup rfl C)
    simp only [ev, hs]
  have h2 : ev (RF.run T.fs (k + 2)) (.not (.call 2 (.cons (.var 3) (.cons (.bi .len (.cons (.ix (.var 0) (.lit (.int 1))) .nil)) .nil)))) s1 C = .ok (.bl false) C :=
    ev_not ((ev_call (ev_two (w := nW v.1) rfl (ev_bi (ev_one (er s1 rfl)) (len_tup _ C)))).trans (below k v.1 _ (by rw [List.length_map]; exact lt_of hrow) C))
  have h3 : ev (RF.run T.fs (k + 2)) (.ix (.ix (.ix (.var 0) (.lit (.int 1))) (.var 3)) (.lit (.int 0))) s1 C = .ok (.tup (row.el.map nW)) C :=
    ev_ixs (C1 := C) (C2 := C) (y := nW 0) (ev_ixs (C1 := C) (C2 := C) (y := nW v.1) (er s1 rfl) rfl (ix_tup (rows_at hrow) C)) rfl (ix_tup rfl C)
  have h4 : ev (RF.run T.fs (k + 2)) (.not (.call 3 (.cons (.var 4) (.cons (.bi .len (.cons (.var 5) .nil)) .nil)))) s2 C = .ok (.bl false) C :=
    ev_not ((ev_call (ev_two (w := .tup (v.2.map nW)) rfl (ev_bi (ev_one (w := .tup (row.el.map nW)) rfl) (len_tup _ C)))).trans (tuple_yes (k + 1) (v.2.map nW) _ (by rw [List.length_map, List.length_map]; exact hl) C))
  obtain ⟨C', h5, e5⟩ := all_q (run := RF.run T.fs (k + 2)) (own := [("elder", 6), ("shape", 7)]) (k := .zip) (args := .cons (.var 4) (.cons (.var 5) .nil)) (elt := .and (.call 2 (.cons (.var 6) (.cons (.bi .len (.cons (.var 1) .nil)) .nil))) (.cmp .Eq (.ix (.var 1) (.var 6)) (.var 7))) (p := .tp (.cons (.nm 6) (.cons (.nm 7) .nil))) (s := s2) (C := C) (C0 := C)
    (l := [.tup (v.2.map nW), .tup (row.el.map nW)]) (q := fun i => .st ((List.zipWith (fun x y => W.tup [x, y]) (v.2.map nW) (row.el.map nW)).drop i)) (xs := List.zipWith (fun x y => W.tup [x, y]) (v.2.map nW) (row.el.map nW)) (ev_two rfl rfl) (.refl hC) rfl (tells_st _)
    (by
      have := ok.el2
      rw [List.length_zipWith, List.length_map, List.length_map, hl]
      exact Nat.lt_of_le_of_lt (Nat.min_le_left _ _) (Nat.lt_of_le_of_lt this (by decide))) (fun x hx C1 hs1 => by
      obtain ⟨j, hj, rfl⟩ := List.getElem_of_mem hx
      rw [List.length_zipWith, List.length_map, List.length_map] at hj
      have a1 : v.2[j]? = some v.2[j] := List.getElem?_eq_getElem (by omega)
      have a2 : row.el[j]? = some row.el[j] := List.getElem?_eq_getElem (by omega)
      have a3 := hsh j _ _ a1 a2
      have hr1 := hs1.keep r _ (fun z => z) hr
      rw [List.getElem_zipWith, List.getElem_map, List.getElem_map]
      let s3 : St := [some (crW c), some (.ref r), some (verW v), some (nW v.1), some (.tup (v.2.map nW)), some (.tup (row.el.map nW)), some (nW v.2[j]), some (nW row.el[j])]
      refine ⟨s3, rfl, C1, ?_, .refl hs1.wf⟩
      have b1 : ev (RF.run T.fs (k + 2)) (.call 2 (.cons (.var 6) (.cons (.bi .len (.cons (.var 1) .nil)) .nil))) s3 C1 = .ok (.bl true) C1 :=
        (ev_call (ev_two (w := nW v.2[j]) rfl (ev_bi (ev_one (w := .ref r) rfl) (len_ref hr1)))).trans (below k v.2[j] _ (by rw [List.length_map]; exact lt_of a3) C1)
      refine (ev_and b1 rfl).trans (ev_cmps (C1 := C1) (C2 := C1) (x := nW row.el[j]) (y := nW row.el[j]) (ev_ixs (C1 := C1) (C2 := C1) (x := .ref r) (y := nW v.2[j]) rfl rfl (ix_ref hr1 (nW_at a3))) rfl ?_)
      simp [cmpW, nW, eqW_int])
  refine ⟨C', h5, call_rt (d := c16) rfl rfl ?_⟩
  exact (exs_cons (exs_no h1 rfl)).trans ((exs_cons (exs_pat (s1 := s1) (w := verW v) rfl rfl)).trans ((exs_cons (exs_no h2 rfl)).trans ((exs_cons (exs_set h3 rfl)).trans ((exs_cons (exs_no h4 rfl)).trans (exs_rt (exs_ret e5))))))
end K04
end
section
set_option Elab.async false
set_option linter.all false
set_option maxRecDepth 100000
set_option maxHeartbeats 1000000
namespace K04
open PySem RF
theorem ev_app {run : Nat → List W → CH → R W} {o es : CE} {s : St} {C C1 C2 : CH} {r : Nat} {xs : List W} {x : W} (ho : ev run o s C = .ok (.ref r) C1) (hg : C1.get r = some (.lst xs)) (he : ev run es s C1 = .ok (.tup [x]) C2) (hg2 : C2.get r = some (.lst xs)) (hl : xs.length ≤ 1000000) :
    ev run (.meth .append o es) s C = .ok .non (C2.set r (.lst (xs ++ [x]))) := by
  have h1 : meRcv C1 .append (.ref r) = true := by simp [meRcv, lstAt, hg]
  have h2 : short xs = true := Nat.ble_eq_true_of_le hl
  simp only [ev, ho, RF.R.bind, h1, he, methW, hg2, h2, if_true]
theorem ev_tup {run : Nat → List W → CH → R W} {es : CE} {s : St} {C C1 : CH} {l : List W} (h : ev run es s C = .ok (.tup l) C1) (hl : short l = true) : ev run (.tup es) s C = .ok (.tup l) C1 := by
  simp only [ev, h, RF.R.bind, hl, if_true]
theorem exs_expr {run : Nat → List W → CH → R W} {e : CE} {s : St} {h h1 : CH} {w : W} (q : ev run e s h = .ok w h1) : exs run (.expr e) s h = .nx s h1 := by
  simp [exs, q, RF.R.st]
theorem exs_loop {run : Nat → List W → CH → R W} {k : IK} {args : CE} {p : CP} {body : CS} {s : St} {C C1 : CH} {l : List W} {q : Src} (ha : ev run args s C = .ok (.tup l) C1) (hs : src0 k l C1 = some q) : exs run (.loop k args p body) s C = forL (exs run body) p fuel q s C1 := by
  rw [exs, ha]
  show (match src0 k l C1 with
    | some q => forL (exs run body) p fuel q s C1
    | none => .bad) = _
  rw [hs]
def shOf (c : Cr) (v : Ver) : Nat := match c.rows[v.1]? with
  | some r => r.sh
  | none => 0
def shapes (c : Cr) (w : List Ver) : List Nat := w.map (shOf c)
structure WbOk (c : Cr) (w : List Ver) : Prop where
  ln : w.length < 1000
  ok : ∀ (i : Nat) (v : Ver), w[i]? = some v → VerOk c ((shapes c w).take i) v
theorem take_next {α : Type} {xs : List α} {i : Nat} {x : α} (h : xs[i]? = some x) : xs.take i ++ [x] = xs.take (i + 1) := by
  have hi := lt_of h
  rw [List.take_succ, h] <;> rfl
theorem is_history (k : Nat) (c : Cr) (hc : CrOk c) (w : List Ver) (hw : WbOk c w) (C : CH) (hC : C.os.length = C.n) : ∃ C', Sub0 C C' ∧ RF.run T.fs (k + 4) 15 [crW c, webW w] C = .ok (.bl true) C' := by
  let r0 := C.n
  let s0 : St := [some (crW c), some (webW w), none, none]
  let s1 : St := [some (crW c), some (webW w), some (.ref r0), none]
  let C0 := C.new (.lst [])
  have hs0 : Sub0 C C0 := (Sub.refl hC).new _
  have h1 : ev (RF.run T.fs (k + 3)) (.not (.bi .isi (.cons (.var 1) (.cons (.gty "tuple") .nil)))) s0 C = .ok (.bl false) C := rfl
  have h2 : ev (RF.run T.fs (k + 3)) (.lst .nil) s0 C = .ok (.ref r0) C0 := rfl
  let Inv : Nat → St → CH → Prop := fun i s C1 => (∃ o, s = [some (crW c), some (webW w), some (.ref r0), o]) ∧ Sub0 C C1 ∧ C1.get r0 = some (.lst (((shapes c w).take i).map nW))
  have hf := forL_q (fb := exs (RF.run T.fs (k + 3)) (.cons (.ifs (.not (.call 16 (.cons (.var 0) (.cons (.var 2) (.cons (.var 3) .nil))))) (.cons (.ret (.lit (.bl false))) .nil) .nil) (.cons (.expr (.meth .append (.var 2) (.cons (.ix (.ix (.ix (.var 0) (.lit (.int 1))) (.ix (.var 3) (.lit (.int 0)))) (.lit (.int 3))) .nil))) .nil))) (p := .nm 3)
    (I := fun _ => True) (q := fun i => .st ((w.map verW).drop i)) (xs := w.map verW) (tells_st _) Inv (fun _ _ => False) (fun _ _ _ _ => trivial) (fun i x s C1 hx hI => by
      obtain ⟨⟨o, rfl⟩, hs, hg⟩ := hI
      rw [List.getElem?_map] at hx
      cases hv : w[i]? with
      | none => rw [hv] at hx; cases hx
      | some v =>
        rw [hv] at hx
        cases hx
        have vok := hw.ok i v hv
        obtain ⟨row, hrow, _⟩ := id vok
        let s2 : St := [some (crW c), some (webW w), some (.ref r0), some (verW v)]
        obtain ⟨C2, h2, e2⟩ := is_next k c hc _ v vok hs.wf hg
        have hg2 := h2.keep r0 _ (fun z => z) hg
        have a1 : ev (RF.run T.fs (k + 3)) (.not (.call 16 (.cons (.var 0) (.cons (.var 2) (.cons (.var 3) .nil))))) s2 C1 = .ok (.bl false) C2 := ev_not ((ev_call (l := [crW c, .ref r0, verW v]) rfl).trans e2)
        have a2 : ev (RF.run T.fs (k + 3)) (.ix (.ix (.ix (.var 0) (.lit (.int 1))) (.ix (.var 3) (.lit (.int 0)))) (.lit (.int 3))) s2 C2 = .ok (nW (shOf c v)) C2 := by
          refine ev_ixs (C1 := C2) (C2 := C2) (x := rowW row) (y := nW 3) (ev_ixs (C1 := C2) (C2 := C2) (x := .tup (c.rows.map rowW)) (y := nW v.1) (ev_ixs (C1 := C2) (C2 := C2) (x := crW c) (y := nW 1) rfl rfl (ix_tup rfl C2)) (ev_ixs (C1 := C2) (C2 := C2) (x := verW v) (y := nW 0) rfl rfl (ix_tup rfl C2)) (ix_tup (rows_at hrow) C2)) rfl (ix_tup ?_ C2)
          unfold shOf
          rw [hrow] <;> rfl
        have hl : (((shapes c w).take i).map nW).length ≤ 1000000 := by
          have := hw.ln
          rw [List.length_map, List.length_take, shapes, List.length_map]
          omega
        have a3 := ev_app (run := RF.run T.fs (k + 3)) (s := s2) (o := .var 2) (C := C2) rfl hg2 (ev_one a2) hg2 hl
        have hlt : r0 < C2.n := CH.get_lt hg2
        refine ⟨s2, rfl, .inl ⟨s2, C2.set r0 (.lst (((shapes c w).take i).map nW ++ [nW (shOf c v)])), .inl ?_, ⟨some (verW v), rfl⟩, (hs.trans h2).set hlt (.inl (Nat.le_refl _)) _, ?_⟩⟩
        · exact (exs_cons (exs_no a1 rfl)).trans ((exs_cons (exs_expr a3)).trans rfl)
        · rw [set_at h2.wf hlt, show ((shapes c w).take i).map nW ++ [nW (shOf c v)] = (((shapes c w).take i) ++ [shOf c v]).map nW by rw [List.map_append] <;> rfl, take_next (by rw [shapes, List.getElem?_map, hv] <;> rfl)]) ((w.map verW).length - 0) 0 fuel s1 C0 rfl (Nat.zero_le _) ⟨⟨none, rfl⟩, hs0, new_at hC _⟩ (by rw [List.length_map]; exact Nat.lt_trans hw.ln (by decide))
  rcases hf with ⟨s', C', e, hI⟩ | ⟨_, _, _, h⟩
  · refine ⟨C', hI.2.1, call_rt (d := c15) rfl rfl ?_⟩
    exact (exs_cons (exs_no h1 rfl)).trans ((exs_cons (exs_set h2 rfl)).trans ((exs_cons ((exs_loop (l := [webW w]) rfl rfl).trans e)).trans (exs_rt (exs_ret rfl))))
  · exact h.elim
theorem fit_web (k : Nat) (c : Cr) (hc : CrOk c) (w : List Ver) (hw : WbOk c w) {u : W} {C : CH} (hC : C.os.length = C.n) (h : TD C 3 u (webW w)) : ∃ C', Sub0 C C' ∧ RF.run T.fs (k + 5) 17 [crW c, u] C = .ok (webW w) C' := by
  obtain ⟨C1, h1, e1⟩ := as_tuples h k 3 C (Nat.le_refl _) (.refl hC)
  obtain ⟨C2, h2, e2⟩ := is_history k c hc w hw C1 h1.wf
  refine ⟨C2, h1.trans h2, call_rt (d := c17) rfl rfl ?_⟩
  have a1 : ev (RF.run T.fs (k + 4)) (.call 5 (.cons (.var 1) (.cons (.gint "WEB_LEVELS" 3) .nil))) [some (crW c), some u] C = .ok (webW w) C1 := (ev_call (ev_two (w := u) rfl rfl)).trans e1
  have a2 : ev (RF.run T.fs (k + 4)) (.not (.call 15 (.cons (.var 0) (.cons (.var 1) .nil)))) [some (crW c), some (webW w)] C1 = .ok (.bl false) C2 := ev_not ((ev_call (l := [crW c, webW w]) rfl).trans e2)
  exact (exs_cons (exs_set a1 rfl)).trans ((exs_cons (exs_no a2 rfl)).trans (exs_rt (exs_ret rfl)))
theorem TD.keep {C C' : CH} {n : Nat} {w d : W} (h : TD C n w d) (s : Sub0 C C') : TD C' n w d := by
  induction h with
  | atom h => exact .atom h
  | tup hl hs _ ih => exact .tup hl hs ih
  | lst hr hl hs _ ih => exact .lst (s.keep _ _ (fun z => z) hr) hl hs ih
theorem fit_both (k : Nat) (c : Cr) (hc : CrOk c) (w : List Ver) (hw : WbOk c w) {a b : W} {C : CH} (hC : C.os.length = C.n) (ha : TD C 7 a (crW c)) (hb : TD C 3 b (webW w)) : ∃ C', Sub0 C C' ∧ RF.run T.fs (k + 10) 18 [a, b] C = .ok (.tup [crW c, webW w]) C' := by
  obtain ⟨C1, h1, e1⟩ := fit_craft k c hc hC ha
  obtain ⟨C2, h2, e2⟩ := fit_web (k + 4) c hc w hw h1.wf (hb.keep h1)
  refine ⟨C2, h1.trans h2, call_rt (d := c18) rfl rfl ?_⟩
  have a1 : ev (RF.run T.fs (k + 9)) (.call 14 (.cons (.var 0) .nil)) [some a, some b] C = .ok (crW c) C1 := (ev_call (l := [a]) rfl).trans e1
  refine (exs_cons (exs_set a1 rfl)).trans (exs_rt (exs_ret ?_))
  exact ev_tup (ev_two rfl ((ev_call (l := [crW c, b]) rfl).trans e2)) rfl
end K04
end
section
set_option Elab.async false
set_option linter.all false
set_option maxRecDepth 100000
set_option maxHeartbeats 1000000
namespace K04
open PySem RF
/-- the slots of a version's row, its elders -/
def slotsAt (c : Cr) (w : List Ver) (i : Nat) : List Sl := match w[i]? with
  | some v => (match c.rows[v.1]? with
    | some r => r.sl
    | none => [])
  | none => []
def elderAt (w : List Ver) (i p : Nat) : Nat := match w[i]? with
  | some v => v.2.getD p 0
  | none => 0
/-- who holds: followed back by kept slots, so many steps at most -/
def fnd (c : Cr) (w : List Ver) : Nat → Nat → Nat → Option (Nat × Nat)
  | 0, _, _ => none
  | n + 1, i, a => match (slotsAt c w i)[a]? with
    | some (.new _ _) => some (i, a)
    | some (.kept p s) => fnd c w n (elderAt w i p) s
    | _ => none
def optW : Option (Nat × Nat) → W
  | some p => prW p
  | none => .non
def heldL (c : Cr) (w : List Ver) (i : Nat) : List (Option (Nat × Nat)) := (List.range (slotsAt c w i).length).map fun a => fnd c w (i + 1) i a
def heldW (c : Cr) (w : List Ver) (i : Nat) : W := .tup ((heldL c w i).map optW)
theorem slots_of (k : Nat) (c : Cr) (w : List Ver) (i : Nat) {v : Ver} {r : Row} (hv : w[i]? = some v) (hr : c.rows[v.1]? = some r) (C : CH) : RF.run T.fs (k + 1) 22 [crW c, webW w, nW i] C = .ok (.tup (r.sl.map slW)) C := by
  refine call_rt (d := c22) rfl rfl (exs_rt (exs_ret ?_))
  have hvw : (w.map verW)[i]? = some (verW v) := by rw [List.getElem?_map, hv] <;> rfl
  exact ev_ixs (C1 := C) (C2 := C) (x := rowW r) (y := nW 4) (ev_ixs (C1 := C) (C2 := C) (x := .tup (c.rows.map rowW)) (y := nW v.1) (ev_ixs (C1 := C) (C2 := C) (x := crW c) (y := nW 1) rfl rfl (ix_tup rfl C))
    (ev_ixs (C1 := C) (C2 := C) (x := verW v) (y := nW 0) (ev_ixs (C1 := C) (C2 := C) (x := webW w) (y := nW i) rfl rfl (ix_tup hvw C)) rfl (ix_tup rfl C)) (ix_tup (rows_at hr) C)) rfl (ix_tup rfl C)
/-- what is behind a version's own number: its elders are earlier -/
theorem elder_lt {c : Cr} {w : List Ver} {i : Nat} {v : Ver} (hv : VerOk c ((shapes c w).take i) v) {p e : Nat} (he : v.2[p]? = some e) : e < i := by
  obtain ⟨r, hr, hl, h⟩ := hv
  have hp : p < r.el.length := by rw [← hl]; exact lt_of he
  have := h p e r.el[p] he (List.getElem?_eq_getElem hp)
  have := lt_of this
  rw [List.length_take] at this
  omega
theorem fnd_more {c : Cr} {w : List Ver} (hc : CrOk c) (hw : WbOk c w) : ∀ (n m i a : Nat), i < n → i < m → fnd c w n i a = fnd c w m i a
  | n + 1, m + 1, i, a, hn, hm => by
    unfold fnd
    cases hs : (slotsAt c w i)[a]? with
    | none => rfl
    | some o =>
      cases o with
      | no => rfl
      | new _ _ => rfl
      | kept p s =>
        show fnd c w n (elderAt w i p) s = fnd c w m (elderAt w i p) s
        unfold slotsAt at hs
        cases hv : w[i]? with
        | none => rw [hv] at hs; cases hs
        | some v =>
          rw [hv] at hs
          simp only at hs
          cases hr : c.rows[v.1]? with
          | none => rw [hr] at hs; cases hs
          | some r =>
            rw [hr] at hs
            simp only at hs
            have ok := (hc.ok r (List.mem_of_getElem? hr)).sls _ (List.mem_of_getElem? hs)
            obtain ⟨e, n1, h1, _, _⟩ := ok
            have vok := hw.ok i v hv
            obtain ⟨r2, hr2, hl, _⟩ := id vok
            rw [hr] at hr2
            cases hr2
            have hp : p < v.2.length := by rw [hl]; exact lt_of h1
            have he : v.2[p]? = some v.2[p] := List.getElem?_eq_getElem hp
            have hlt := elder_lt vok he
            have ee : elderAt w i p = v.2[p] := by
              unfold elderAt
              rw [hv]
              show v.2.getD p 0 = _
              rw [List.getD_eq_getElem?_getD, he] <;> rfl
            rw [ee]
            exact fnd_more hc hw n m v.2[p] s (by omega) (by omega)
theorem held_new (k : Nat) (ho el pl : W) (c0 : Nat) (ws : List (Nat × Nat)) (C : CH) : RF.run T.fs (k + 1) 24 [ho, el, pl, slW (.new c0 ws)] C = .ok pl C := by
  refine call_rt (d := c24) rfl rfl (exs_rt ((exs_yes (h1 := C) (w := .bl true) ?_ rfl).trans (exs_rt (exs_ret rfl))))
  exact ev_cmps (ev_ixs (x := slW (.new c0 ws)) (y := nW 0) (C1 := C) rfl rfl (ix_tup (w := .str "new") rfl C)) rfl (eq_str _ _ _ s_ww C)
theorem held_no (k : Nat) (ho el pl : W) (C : CH) : RF.run T.fs (k + 1) 24 [ho, el, pl, slW .no] C = .ok .non C := by
  refine call_rt (d := c24) rfl rfl ?_
  have h1 : ev (RF.run T.fs k) (.cmp .Eq (.ix (.var 3) (.lit (.int 0))) (.lit (.str "new"))) [some ho, some el, some pl, some (slW .no)] C = .ok (.bl false) C := ev_cmps (ev_ixs (x := slW .no) (y := nW 0) (C1 := C) rfl rfl (ix_tup (w := .str "none") rfl C)) rfl (eq_str _ _ _ s_nw C)
  have h2 : ev (RF.run T.fs k) (.cmp .Eq (.ix (.var 3) (.lit (.int 0))) (.lit (.str "kept"))) [some ho, some el, some pl, some (slW .no)] C = .ok (.bl false) C := ev_cmps (ev_ixs (x := slW .no) (y := nW 0) (C1 := C) rfl rfl (ix_tup (w := .str "none") rfl C)) rfl (eq_str _ _ _ s_nk C)
  exact (exs_cons (exs_no h1 rfl)).trans ((exs_cons (exs_no h2 rfl)).trans (exs_rt (exs_ret rfl)))
theorem held_kept (k : Nat) {r0 : Nat} {hs : List W} {es : List Nat} {pl : W} {p s e : Nat} {its : List W} {u : W} {C : CH} (hg : C.get r0 = some (.lst hs)) (he : es[p]? = some e) (hh : hs[e]? = some (.tup its)) (hu : its[s]? = some u) :
    RF.run T.fs (k + 1) 24 [.ref r0, .tup (es.map nW), pl, slW (.kept p s)] C = .ok u C := by
  refine call_rt (d := c24) rfl rfl ?_
  let s0 : St := [some (.ref r0), some (.tup (es.map nW)), some pl, some (slW (.kept p s))]
  have h1 : ev (RF.run T.fs k) (.cmp .Eq (.ix (.var 3) (.lit (.int 0))) (.lit (.str "new"))) s0 C = .ok (.bl false) C := ev_cmps (ev_ixs (x := slW (.kept p s)) (y := nW 0) (C1 := C) rfl rfl (ix_tup (w := .str "kept") rfl C)) rfl (eq_str _ _ _ s_kw C)
  have h2 : ev (RF.run T.fs k) (.cmp .Eq (.ix (.var 3) (.lit (.int 0))) (.lit (.str "kept"))) s0 C = .ok (.bl true) C := ev_cmps (ev_ixs (x := slW (.kept p s)) (y := nW 0) (C1 := C) rfl rfl (ix_tup (w := .str "kept") rfl C)) rfl (eq_str _ _ _ s_kk C)
  refine (exs_cons (exs_no h1 rfl)).trans (exs_rt ((exs_yes h2 rfl).trans (exs_rt (exs_ret ?_))))
  exact ev_ixs (C1 := C) (C2 := C) (x := .tup its) (y := nW s) (ev_ixs (C1 := C) (C2 := C) (x := .ref r0) (y := nW e) rfl (ev_ixs (C1 := C) (C2 := C) (x := .tup (es.map nW)) (y := nW p) rfl (ev_ixs (C1 := C) (C2 := C) (x := slW (.kept p s)) (y := nW 1) rfl rfl (ix_tup rfl C)) (ix_tup (nW_at he) C)) (ix_ref hg hh))
    (ev_ixs (C1 := C) (C2 := C) (x := slW (.kept p s)) (y := nW 2) rfl rfl (ix_tup rfl C)) (ix_tup hu C)
end K04
end
section
set_option Elab.async false
set_option linter.all false
set_option maxRecDepth 100000
set_option maxHeartbeats 1000000
namespace K04
open PySem RF
theorem slots_len {c : Cr} {w : List Ver} {i : Nat} {v : Ver} {r : Row} (hv : w[i]? = some v) (hr : c.rows[v.1]? = some r) : slotsAt c w i = r.sl := by
  unfold slotsAt
  rw [hv]
  show (match c.rows[v.1]? with
    | some r => r.sl
    | none => []) = _
  rw [hr]
theorem held_at {c : Cr} {w : List Ver} {i a : Nat} (h : a < (slotsAt c w i).length) : (heldL c w i)[a]? = some (fnd c w (i + 1) i a) := by
  unfold heldL
  rw [List.getElem?_map, List.getElem?_range h] <;> rfl
/-- the list of what is held, as far as it is told -/
def holdsL (c : Cr) (w : List Ver) (i : Nat) : List W := (List.range i).map (heldW c w)
theorem holds_at {c : Cr} {w : List Ver} {i j : Nat} (h : j < i) : (holdsL c w i)[j]? = some (heldW c w j) := by
  unfold holdsL
  rw [List.getElem?_map, List.getElem?_range h] <;> rfl
theorem holds_next {c : Cr} {w : List Ver} {i : Nat} : holdsL c w i ++ [heldW c w i] = holdsL c w (i + 1) := by
  unfold holdsL
  rw [List.range_succ, List.map_append] <;> rfl
theorem slots_held (k : Nat) (c : Cr) (hc : CrOk c) (w : List Ver) (hw : WbOk c w) (C : CH) (hC : C.os.length = C.n) : ∃ C', Sub0 C C' ∧ RF.run T.fs (k + 2) 23 [crW c, webW w] C = .ok (.ref C.n) C' ∧ C'.get C.n = some (.lst (holdsL c w w.length)) := by
  let r0 := C.n
  let C0 := C.new (.lst [])
  let s1 : St := [some (crW c), some (webW w), some (.ref r0), none, none, none, none, none, none]
  have hs0 : Sub0 C C0 := (Sub.refl hC).new _
  have h2 : ev (RF.run T.fs (k + 1)) (.lst .nil) [some (crW c), some (webW w), none, none, none, none, none, none, none] C = .ok (.ref r0) C0 := rfl
  let Inv : Nat → St → CH → Prop := fun i s C1 => (∃ a3 a4 a5 a6 a7 a8, s = [some (crW c), some (webW w), some (.ref r0), a3, a4, a5, a6, a7, a8]) ∧ Sub0 C C1 ∧ C1.get r0 = some (.lst (holdsL c w i))
  have hf := forL_q (fb := exs (RF.run T.fs (k + 1)) (.cons (.set 6 (.call 22 (.cons (.var 0) (.cons (.var 1) (.cons (.var 3) .nil))))) (.cons (.expr (.meth .append (.var 2) (.cons (.bi .tuple (.cons (.comp [("at", 7), ("slot", 8)] .enm (.cons (.var 6) .nil) (.tp (.cons (.nm 7) (.cons (.nm 8) .nil))) (.lit (.bl true)) (.call 24 (.cons (.var 2) (.cons (.var 5) (.cons (.tup (.cons (.var 3) (.cons (.var 7) .nil))) (.cons (.var 8) .nil)))))) .nil)) .nil))) .nil)))
    (p := .tp (.cons (.nm 3) (.cons (.tp (.cons (.nm 4) (.cons (.nm 5) .nil))) .nil))) (I := fun _ => True) (q := fun i => .st ((enumW 0 (w.map verW)).drop i)) (xs := enumW 0 (w.map verW)) (tells_st _) Inv (fun _ _ => False) (fun _ _ _ _ => trivial) (fun i x s C1 hx hI => by
      obtain ⟨⟨a3, a4, a5, a6, a7, a8, rfl⟩, hs, hg⟩ := hI
      have hx2 := enum_at (w.map verW) 0 i
      rw [show ((0 : Nat) : Int) = 0 from rfl, hx, Nat.zero_add, List.getElem?_map] at hx2
      cases hv : w[i]? with
      | none => rw [hv] at hx2; cases hx2
      | some v =>
        rw [hv] at hx2
        have hx3 : x = .tup [nW i, verW v] := Option.some.inj hx2
        subst hx3
        have vok := hw.ok i v hv
        obtain ⟨row, hrow, hl, hsh⟩ := id vok
        have esl := slots_len hv hrow
        let s2 : St := [some (crW c), some (webW w), some (.ref r0), some (nW i), some (nW v.1), some (.tup (v.2.map nW)), a6, a7, a8]
        let s3 : St := [some (crW c), some (webW w), some (.ref r0), some (nW i), some (nW v.1), some (.tup (v.2.map nW)), some (.tup (row.sl.map slW)), a7, a8]
        have e1 : ev (RF.run T.fs (k + 1)) (.call 22 (.cons (.var 0) (.cons (.var 1) (.cons (.var 3) .nil)))) s2 C1 = .ok (.tup (row.sl.map slW)) C1 := (ev_call (l := [crW c, webW w, nW i]) rfl).trans (slots_of k c w i hv hrow C1)
        have ok := hc.ok row (List.mem_of_getElem? hrow)
        obtain ⟨C2, h3, e3⟩ := tup_q (run := RF.run T.fs (k + 1)) (own := [("at", 7), ("slot", 8)]) (k := .enm) (args := .cons (.var 6) .nil) (elt := .call 24 (.cons (.var 2) (.cons (.var 5) (.cons (.tup (.cons (.var 3) (.cons (.var 7) .nil))) (.cons (.var 8) .nil))))) (p := .tp (.cons (.nm 7) (.cons (.nm 8) .nil))) (s := s3) (C := C1) (C0 := C1) (l := [.tup (row.sl.map slW)])
          (q := fun i => .st ((enumW 0 (row.sl.map slW)).drop i)) (xs := enumW 0 (row.sl.map slW)) (ys := (heldL c w i).map optW) rfl (.refl hs.wf) rfl (tells_st _) (by
            have hln : (enumW 0 (row.sl.map slW)).length = row.sl.length := by
              have : ∀ (xs : List W) (j : Int), (enumW j xs).length = xs.length := fun xs => by
                induction xs with
                | nil => intro j; rfl
                | cons x r ih => intro j; show (enumW (j + 1) r).length + 1 = _; rw [ih] <;> rfl
              rw [this, List.length_map]
            rw [hln]
            exact Nat.lt_trans ok.sll (by decide)) (by
            have : ∀ (xs : List W) (j : Int), (enumW j xs).length = xs.length := fun xs => by
              induction xs with
              | nil => intro j; rfl
              | cons x r ih => intro j; show (enumW (j + 1) r).length + 1 = _; rw [ih] <;> rfl
            rw [this, List.length_map, List.length_map, heldL, List.length_map, List.length_range, esl]) (fun a x y hx hy C3 hs3 => by
            have hxa := enum_at (row.sl.map slW) 0 a
            rw [show ((0 : Nat) : Int) = 0 from rfl, hx, Nat.zero_add, List.getElem?_map] at hxa
            cases ho : row.sl[a]? with
            | none => rw [ho] at hxa; cases hxa
            | some o =>
              rw [ho] at hxa
              have hx4 : x = .tup [nW a, slW o] := Option.some.inj hxa
              subst hx4
              have hal : a < (slotsAt c w i).length := by rw [esl]; exact lt_of ho
              rw [List.getElem?_map, held_at hal] at hy
              have hy2 : optW (fnd c w (i + 1) i a) = y := Option.some.inj hy
              subst hy2
              have hg3 := hs3.keep r0 _ (fun z => z) hg
              let s4 : St := [some (crW c), some (webW w), some (.ref r0), some (nW i), some (nW v.1), some (.tup (v.2.map nW)), some (.tup (row.sl.map slW)), some (nW a), some (slW o)]
              refine ⟨s4, rfl, C3, ?_, .refl hs3.wf⟩
              have pl : ev (RF.run T.fs (k + 1)) (.cons (.var 2) (.cons (.var 5) (.cons (.tup (.cons (.var 3) (.cons (.var 7) .nil))) (.cons (.var 8) .nil)))) s4 C3 = .ok (.tup [.ref r0, .tup (v.2.map nW), prW (i, a), slW o]) C3 := rfl
              refine (ev_call pl).trans ?_
              unfold fnd
              rw [esl, ho]
              cases o with
              | no => exact held_no k _ _ _ C3
              | new c0 ws => exact held_new k _ _ _ c0 ws C3
              | kept p s =>
                obtain ⟨e, n1, q1, q2, q3⟩ := ok.sls _ (List.mem_of_getElem? ho)
                have q2 : c.sz[e]? = some n1 := q2
                have hp : p < v.2.length := by rw [hl]; exact lt_of q1
                have he : v.2[p]? = some v.2[p] := List.getElem?_eq_getElem hp
                have hlt := elder_lt vok he
                have ee : elderAt w i p = v.2[p] := by
                  unfold elderAt
                  rw [hv]
                  show v.2.getD p 0 = _
                  rw [List.getD_eq_getElem?_getD, he] <;> rfl
                show RF.run T.fs (k + 1) 24 _ C3 = .ok (optW (fnd c w i (elderAt w i p) s)) C3
                rw [ee]
                have hsE := hsh p v.2[p] e he q1
                have hw2 : v.2[p] < w.length := by
                  have := lt_of hsE
                  rw [List.length_take, shapes, List.length_map] at this
                  omega
                have hve : w[v.2[p]]? = some w[v.2[p]] := List.getElem?_eq_getElem hw2
                obtain ⟨r2, hr2, _⟩ := hw.ok _ _ hve
                have esl2 := slots_len hve hr2
                have hlen : r2.sl.length = n1 := by
                  have e5 : shOf c w[v.2[p]] = e := by
                    rw [List.getElem?_take_of_lt hlt, shapes, List.getElem?_map, hve] at hsE
                    exact Option.some.inj hsE
                  unfold shOf at e5
                  rw [hr2] at e5
                  have e5 : r2.sh = e := e5
                  have := (hc.ok r2 (List.mem_of_getElem? hr2)).shz
                  rw [e5, q2] at this
                  exact (Option.some.inj this).symm
                have hs5 : s < (slotsAt c w v.2[p]).length := by rw [esl2, hlen]; exact q3
                refine (held_kept k hg3 he (holds_at hlt) (its := (heldL c w v.2[p]).map optW) (u := optW (fnd c w (v.2[p] + 1) v.2[p] s)) (by rw [List.getElem?_map, held_at hs5] <;> rfl)).trans ?_
                rw [fnd_more hc hw (v.2[p] + 1) i v.2[p] s (by omega) hlt])
        have hg2 := h3.keep r0 _ (fun z => z) hg
        have hlt : r0 < C2.n := CH.get_lt hg2
        have hl2 : (holdsL c w i).length ≤ 1000000 := by
          have := hw.ln
          have := lt_of hv
          unfold holdsL
          rw [List.length_map, List.length_range]
          omega
        have a3' := ev_app (run := RF.run T.fs (k + 1)) (s := s3) (o := .var 2) (C := C1) rfl hg (ev_one e3) hg2 hl2
        refine ⟨s2, rfl, .inl ⟨s3, C2.set r0 (.lst (holdsL c w i ++ [heldW c w i])), .inl ?_, ⟨_, _, _, _, _, _, rfl⟩, (hs.trans h3).set hlt (.inl (Nat.le_refl _)) _, ?_⟩⟩
        · exact (exs_cons (exs_set e1 rfl)).trans ((exs_cons (exs_expr a3')).trans rfl)
        · rw [set_at h3.wf hlt, holds_next]) ((enumW 0 (w.map verW)).length - 0) 0 fuel s1 C0 rfl (Nat.zero_le _) ⟨⟨_, _, _, _, _, _, rfl⟩, hs0, new_at hC _⟩ (by
      have : ∀ (xs : List W) (j : Int), (enumW j xs).length = xs.length := fun xs => by
        induction xs with
        | nil => intro j; rfl
        | cons x r ih => intro j; show (enumW (j + 1) r).length + 1 = _; rw [ih] <;> rfl
      rw [this, List.length_map]
      exact Nat.lt_trans hw.ln (by decide))
  rcases hf with ⟨s', C', e, ⟨⟨a3, a4, a5, a6, a7, a8, rfl⟩, hs, hg⟩⟩ | ⟨_, _, _, h⟩
  · refine ⟨C', hs, call_rt (d := c23) rfl rfl ?_, ?_⟩
    · exact (exs_cons (exs_set h2 rfl)).trans ((exs_cons ((exs_loop (l := [webW w]) rfl rfl).trans e)).trans (exs_rt (exs_ret rfl)))
    · have : ∀ (xs : List W) (j : Int), (enumW j xs).length = xs.length := fun xs => by
        induction xs with
        | nil => intro j; rfl
        | cons x r ih => intro j; show (enumW (j + 1) r).length + 1 = _; rw [ih] <;> rfl
      rw [this, List.length_map] at hg
      exact hg
  · exact h.elim
end K04
end
section
set_option Elab.async false
set_option linter.all false
set_option maxRecDepth 100000
set_option maxHeartbeats 1000000
namespace K04
open PySem RF
theorem held (k : Nat) (c : Cr) (hc : CrOk c) (w : List Ver) (hw : WbOk c w) {a b : W} {C : CH} (hC : C.os.length = C.n) (ha : TD C 7 a (crW c)) (hb : TD C 3 b (webW w)) : ∃ C', Sub0 C C' ∧ RF.run T.fs (k + 11) 25 [a, b] C = .ok (.tup (holdsL c w w.length)) C' := by
  obtain ⟨C1, h1, e1⟩ := fit_both k c hc w hw hC ha hb
  obtain ⟨C2, h2, e2, g2⟩ := slots_held (k + 8) c hc w hw C1 h1.wf
  refine ⟨C2, h1.trans h2, call_rt (d := c25) rfl rfl ?_⟩
  have a1 : ev (RF.run T.fs (k + 10)) (.call 18 (.cons (.var 0) (.cons (.var 1) .nil))) [some a, some b] C = .ok (.tup [crW c, webW w]) C1 := (ev_call (l := [a, b]) rfl).trans e1
  refine (exs_cons (exs_pat (s1 := [some (crW c), some (webW w)]) a1 rfl)).trans (exs_rt (exs_ret ?_))
  refine ev_bi (ev_one ((ev_call (l := [crW c, webW w]) rfl).trans e2)) ?_
  simp only [biW, items, g2]
/-- what is wanted by a new slot's wants -/
def wantsL (c : Cr) (w : List Ver) (i : Nat) (ws : List (Nat × Nat)) : List (Nat × Nat) := ws.filterMap fun p => fnd c w i (elderAt w i p.1) p.2
theorem keep_some (f : Nat × Nat → Option (Nat × Nat)) : ∀ ws : List (Nat × Nat), (((ws.map fun p => optW (f p)).filter fun x => !isNonW x).map id) = (ws.filterMap f).map prW
  | [] => rfl
  | p :: ws => by
    have ih := keep_some f ws
    rw [List.map_id] at ih ⊢
    rw [List.map_cons, List.filter_cons, List.filterMap_cons]
    cases f p with
    | none => exact ih
    | some q => show prW q :: _ = prW q :: _; rw [ih]
theorem wants_of (k : Nat) (c : Cr) (hc : CrOk c) (w : List Ver) (hw : WbOk c w) {i a c0 : Nat} {ws : List (Nat × Nat)} (hs : (slotsAt c w i)[a]? = some (.new c0 ws)) (hi : i < w.length) {r0 : Nat} {C : CH} (hC : C.os.length = C.n) (hg : C.get r0 = some (.lst (holdsL c w w.length))) :
    ∃ C', Sub0 C C' ∧ RF.run T.fs (k + 2) 26 [crW c, webW w, .ref r0, prW (i, a)] C = .ok (.tup ((wantsL c w i ws).map prW)) C' := by
  have hv : w[i]? = some w[i] := List.getElem?_eq_getElem hi
  have vok := hw.ok i _ hv
  obtain ⟨row, hrow, hl, hsh⟩ := id vok
  have esl := slots_len hv hrow
  rw [esl] at hs
  have rok := hc.ok row (List.mem_of_getElem? hrow)
  obtain ⟨q1, q2, q3⟩ := rok.sls _ (List.mem_of_getElem? hs)
  let s0 : St := [some (crW c), some (webW w), some (.ref r0), some (prW (i, a)), none, none, none, none, none, none, none]
  let s1 : St := [some (crW c), some (webW w), some (.ref r0), some (prW (i, a)), some (nW i), some (nW a), none, none, none, none, none]
  let s2 : St := [some (crW c), some (webW w), some (.ref r0), some (prW (i, a)), some (nW i), some (nW a), some (.tup (w[i].2.map nW)), none, none, none, none]
  have hvw : (w.map verW)[i]? = some (verW w[i]) := by rw [List.getElem?_map, hv] <;> rfl
  have e1 : ev (RF.run T.fs (k + 1)) (.ix (.ix (.var 1) (.var 4)) (.lit (.int 1))) s1 C = .ok (.tup (w[i].2.map nW)) C :=
    ev_ixs (C1 := C) (C2 := C) (x := verW w[i]) (y := nW 1) (ev_ixs (C1 := C) (C2 := C) (x := webW w) (y := nW i) rfl rfl (ix_tup hvw C)) rfl (ix_tup rfl C)
  have hsl : (row.sl.map slW)[a]? = some (slW (.new c0 ws)) := by rw [List.getElem?_map, hs] <;> rfl
  have e2 : ev (RF.run T.fs (k + 1)) (.cons (.ix (.ix (.call 22 (.cons (.var 0) (.cons (.var 1) (.cons (.var 4) .nil)))) (.var 5)) (.lit (.int 2))) .nil) s2 C = .ok (.tup [.tup (ws.map prW)]) C := by
    refine ev_one (ev_ixs (C1 := C) (C2 := C) (x := slW (.new c0 ws)) (y := nW 2) (ev_ixs (C1 := C) (C2 := C) (x := .tup (row.sl.map slW)) (y := nW a) ((ev_call (l := [crW c, webW w, nW i]) rfl).trans (slots_of k c w i hv hrow C)) rfl (ix_tup hsl C)) rfl (ix_tup rfl C))
  obtain ⟨C1, h1, e3⟩ := compL_i (fc := ev (RF.run T.fs (k + 1)) (.lit (.bl true))) (fe := ev (RF.run T.fs (k + 1)) (.ix (.ix (.var 2) (.ix (.var 6) (.var 8))) (.var 9))) (p := .tp (.cons (.nm 8) (.cons (.nm 9) .nil))) (s := wipeW s2 (([("place", 8), ("own", 9)] : List (PySem.Str × Nat)).map fun (x : PySem.Str × Nat) => x.2)) (I := fun C1 => Sub0 C C1)
    (q := fun i => .st ((ws.map prW).drop i)) (xs := ws.map prW) (ys := ws.map fun p => optW (fnd c w i (elderAt w i p.1) p.2)) (tells_st _) (by rw [List.length_map, List.length_map]) (fun j x y hx hy C3 h3 => by
      rw [List.getElem?_map] at hx hy
      cases hp : ws[j]? with
      | none => rw [hp] at hx; cases hx
      | some p =>
        rw [hp] at hx hy
        cases hx
        cases hy
        obtain ⟨e, n1, u1, u2, u3⟩ := q1 p (List.mem_of_getElem? hp)
        have hpl : p.1 < w[i].2.length := by rw [hl]; exact lt_of u1
        have he : w[i].2[p.1]? = some w[i].2[p.1] := List.getElem?_eq_getElem hpl
        have hlt := elder_lt vok he
        have ee : elderAt w i p.1 = w[i].2[p.1] := by
          unfold elderAt
          rw [hv]
          show w[i].2.getD p.1 0 = _
          rw [List.getD_eq_getElem?_getD, he] <;> rfl
        have hsE := hsh p.1 _ e he u1
        have hw2 : w[i].2[p.1] < w.length := by omega
        have hve : w[w[i].2[p.1]]? = some w[w[i].2[p.1]] := List.getElem?_eq_getElem hw2
        obtain ⟨r2, hr2, _⟩ := hw.ok _ _ hve
        have esl2 := slots_len hve hr2
        have hlen : r2.sl.length = n1 := by
          have e5 : shOf c w[w[i].2[p.1]] = e := by
            rw [List.getElem?_take_of_lt hlt, shapes, List.getElem?_map, hve] at hsE
            exact Option.some.inj hsE
          unfold shOf at e5
          rw [hr2] at e5
          have e5 : r2.sh = e := e5
          have := (hc.ok r2 (List.mem_of_getElem? hr2)).shz
          rw [e5, u2] at this
          exact (Option.some.inj this).symm
        have hs5 : p.2 < (slotsAt c w w[i].2[p.1]).length := by rw [esl2, hlen]; exact u3
        have hg3 := h3.keep r0 _ (fun z => z) hg
        let s4 : St := [some (crW c), some (webW w), some (.ref r0), some (prW (i, a)), some (nW i), some (nW a), some (.tup (w[i].2.map nW)), none, some (nW p.1), some (nW p.2), none]
        refine ⟨s4, rfl, .bl true, C3, rfl, rfl, C3, ?_, h3⟩
        show ev (RF.run T.fs (k + 1)) (.ix (.ix (.var 2) (.ix (.var 6) (.var 8))) (.var 9)) s4 C3 = .ok (optW (fnd c w i (elderAt w i p.1) p.2)) C3
        rw [ee, fnd_more hc hw i (w[i].2[p.1] + 1) _ _ hlt (by omega)]
        exact ev_ixs (C1 := C3) (C2 := C3) (x := heldW c w w[i].2[p.1]) (y := nW p.2) (ev_ixs (C1 := C3) (C2 := C3) (x := .ref r0) (y := nW w[i].2[p.1]) rfl (ev_ixs (C1 := C3) (C2 := C3) (x := .tup (w[i].2.map nW)) (y := nW p.1) rfl rfl (ix_tup (nW_at he) C3)) (ix_ref hg3 (holds_at hw2))) rfl
          (ix_tup (by rw [List.getElem?_map, held_at hs5] <;> rfl) C3)) ((ws.map prW).length - 0) 0 fuel [] C rfl (.refl hC) (by rw [List.length_map]; exact Nat.lt_trans q3 (by decide))
  rw [List.reverse_nil, List.nil_append, List.drop_zero] at e3
  let ys := ws.map fun p => optW (fnd c w i (elderAt w i p.1) p.2)
  let C2 := C1.new (.lst ys)
  have h2 : Sub0 C C2 := h1.new _
  have g2 : C2.get C1.n = some (.lst ys) := new_at h1.wf _
  let s3 : St := [some (crW c), some (webW w), some (.ref r0), some (prW (i, a)), some (nW i), some (nW a), some (.tup (w[i].2.map nW)), some (.ref C1.n), none, none, none]
  have e4 : ev (RF.run T.fs (k + 1)) (.comp [("place", 8), ("own", 9)] .seq (.cons (.ix (.ix (.call 22 (.cons (.var 0) (.cons (.var 1) (.cons (.var 4) .nil)))) (.var 5)) (.lit (.int 2))) .nil) (.tp (.cons (.nm 8) (.cons (.nm 9) .nil))) (.lit (.bl true)) (.ix (.ix (.var 2) (.ix (.var 6) (.var 8))) (.var 9))) s2 C = .ok (.ref C1.n) C2 :=
    (ev_comp e2 rfl).trans e3
  obtain ⟨C3, h3, e5⟩ := compL_q (fc := ev (RF.run T.fs (k + 1)) (.cmp .IsNot (.var 10) (.lit .non))) (fe := ev (RF.run T.fs (k + 1)) (.var 10)) (p := .nm 10) (s := wipeW s3 (([("other", 10)] : List (PySem.Str × Nat)).map fun (x : PySem.Str × Nat) => x.2)) (I := fun C1 => Sub0 C2 C1) (q := fun i => .lref C1.n i) (xs := ys) (tells_lref fun C4 h4 => h4.keep _ _ (fun z => z) g2) (fun x => !isNonW x) id (fun x hx C4 h4 => by
      let s5 : St := [some (crW c), some (webW w), some (.ref r0), some (prW (i, a)), some (nW i), some (nW a), some (.tup (w[i].2.map nW)), some (.ref C1.n), none, none, some x]
      exact ⟨s5, rfl, .bl (!isNonW x), C4, rfl, rfl, h4, fun _ => ⟨C4, rfl, h4⟩⟩) (ys.length - 0) 0 fuel [] C2 rfl (.refl h2.wf) (by
        show (ws.map _).length - 0 < fuel
        rw [List.length_map]
        exact Nat.lt_trans q3 (by decide))
  rw [List.reverse_nil, List.nil_append, List.drop_zero, keep_some] at e5
  refine ⟨C3.new (.lst ((wantsL c w i ws).map prW)), h2.trans (h3.new _), call_rt (d := c26) rfl rfl ?_⟩
  refine (exs_cons (exs_pat (s1 := s1) (w := prW (i, a)) rfl rfl)).trans ((exs_cons (exs_set e1 rfl)).trans ((exs_cons (exs_set e4 rfl)).trans (exs_rt (exs_ret ?_))))
  have e6 : ev (RF.run T.fs (k + 1)) (.comp [("other", 10)] .seq (.cons (.var 7) .nil) (.nm 10) (.cmp .IsNot (.var 10) (.lit .non)) (.var 10)) s3 C2 = .ok (.ref C3.n) (C3.new (.lst ((wantsL c w i ws).map prW))) :=
    (ev_comp (l := [.ref C1.n]) (q := .lref C1.n 0) rfl (by simp [src0, lstAt, g2])).trans e5
  refine ev_bi (ev_one e6) ?_
  simp only [biW, items, new_at h3.wf]
end K04
end
section
set_option Elab.async false
set_option linter.all false
set_option maxRecDepth 100000
set_option maxHeartbeats 1000000
namespace K04
open PySem RF
theorem call_nx {fs : List FD} {k f : Nat} {d : FD} {ws : List W} {h C' : CH} {s : St} (e : fs[f]? = some d) (el : (ws.length == d.np) = true) (he : exs (RF.run fs k) d.body (ws.map some ++ List.replicate (d.ns - ws.length) none) h = .nx s C') : RF.run fs (k + 1) f ws h = .ok .non C' := by
  rw [run_at e, body1, if_pos el, he]
theorem call_exc {fs : List FD} {k f c : Nat} {d : FD} {ws us : List W} {h C' : CH} (e : fs[f]? = some d) (el : (ws.length == d.np) = true) (he : exs (RF.run fs k) d.body (ws.map some ++ List.replicate (d.ns - ws.length) none) h = .exc c us C') : RF.run fs (k + 1) f ws h = .exc c us C' := by
  rw [run_at e, body1, if_pos el, he]
theorem exs_exc {run : Nat → List W → CH → R W} {a b : CS} {s : St} {h h1 : CH} {c : Nat} {us : List W} (e : exs run a s h = .exc c us h1) : exs run (.cons a b) s h = .exc c us h1 := by
  rw [exs, e]
theorem ev_cons {run : Nat → List W → CH → R W} {a b : CE} {s : St} {C C1 C2 : CH} {w : W} {l : List W} (ha : ev run a s C = .ok w C1) (hb : ev run b s C1 = .ok (.tup l) C2) : ev run (.cons a b) s C = .ok (.tup (w :: l)) C2 := by
  simp only [ev, ha, RF.R.bind, hb]
theorem exs_setX {run : Nat → List W → CH → R W} {i : Nat} {e : CE} {s : St} {h h1 : CH} {c : Nat} {us : List W} (q : ev run e s h = .exc c us h1) : exs run (.set i e) s h = .exc c us h1 := by
  simp [exs, q, RF.R.st]
theorem check_version (k : Nat) (w : List Ver) (i : Nat) (hi : i < w.length) (C : CH) : RF.run T.fs (k + 3) 19 [webW w, nW i] C = .ok .non C := by
  refine call_nx (d := c19) (s := [some (webW w), some (nW i)]) rfl rfl ?_
  have h1 : ev (RF.run T.fs (k + 2)) (.not (.call 2 (.cons (.var 1) (.cons (.bi .len (.cons (.var 0) .nil)) .nil)))) [some (webW w), some (nW i)] C = .ok (.bl false) C :=
    ev_not ((ev_call (ev_two (w := nW i) rfl (ev_bi (ev_one (w := webW w) rfl) (len_tup _ C)))).trans (below k i _ (by rw [List.length_map]; exact hi) C))
  exact (exs_cons (exs_no h1 rfl)).trans rfl
theorem check_slot (k : Nat) (c : Cr) (w : List Ver) (i a : Nat) {v : Ver} {r : Row} (hv : w[i]? = some v) (hr : c.rows[v.1]? = some r) (ha : a < r.sl.length) (C : CH) : RF.run T.fs (k + 4) 20 [crW c, webW w, nW i, nW a] C = .ok .non C := by
  refine call_nx (d := c20) (s := [some (crW c), some (webW w), some (nW i), some (nW a)]) rfl rfl ?_
  have h0 : ev (RF.run T.fs (k + 3)) (.call 19 (.cons (.var 1) (.cons (.var 2) .nil))) [some (crW c), some (webW w), some (nW i), some (nW a)] C = .ok .non C := (ev_call (l := [webW w, nW i]) rfl).trans (check_version k w i (lt_of hv) C)
  have h1 : ev (RF.run T.fs (k + 3)) (.not (.call 2 (.cons (.var 3) (.cons (.bi .len (.cons (.call 22 (.cons (.var 0) (.cons (.var 1) (.cons (.var 2) .nil)))) .nil)) .nil)))) [some (crW c), some (webW w), some (nW i), some (nW a)] C = .ok (.bl false) C :=
    ev_not ((ev_call (ev_two (w := nW a) rfl (ev_bi (ev_one ((ev_call (l := [crW c, webW w, nW i]) rfl).trans (slots_of (k + 2) c w i hv hr C))) (len_tup _ C)))).trans (below (k + 1) a _ (by rw [List.length_map]; exact ha) C))
  exact (exs_cons (exs_expr h0)).trans ((exs_cons (exs_no h1 rfl)).trans rfl)
def isNew : Sl → Bool
  | .new _ _ => true
  | _ => false
theorem not_new (o : Sl) (C : CH) : ∃ x, ixW (slW o) (nW 0) C = .ok (.str x) C ∧ cmpW .NotEq (.str x) (.str "new") C = .ok (.bl (!isNew o)) C := by
  cases o with
  | no => exact ⟨_, ix_tup (w := .str "none") rfl C, ne_str _ _ _ s_nw C⟩
  | kept p s => exact ⟨_, ix_tup (w := .str "kept") rfl C, ne_str _ _ _ s_kw C⟩
  | new c ws => exact ⟨_, ix_tup (w := .str "new") rfl C, ne_str _ _ _ s_ww C⟩
/-- a wait told as a pair or a list of two -/
theorem fit_wait (k : Nat) (c : Cr) (w : List Ver) (i a : Nat) {v : Ver} {r : Row} {o : Sl} (hv : w[i]? = some v) (hr : c.rows[v.1]? = some r) (ho : r.sl[a]? = some o) {wt : W} {C : CH} (hw : items C wt = some [nW i, nW a]) :
    RF.run T.fs (k + 5) 21 [crW c, webW w, wt] C = if isNew o = true then .ok (prW (i, a)) C else .exc 2 [] C := by
  let s1 : St := [some (crW c), some (webW w), some wt, some (nW i), some (nW a)]
  have hb : bindP C (.tp (.cons (.nm 3) (.cons (.nm 4) .nil))) wt [some (crW c), some (webW w), some wt, none, none] = some s1 := by
    rw [bindP, hw]
    rfl
  have h1 : ev (RF.run T.fs (k + 4)) (.call 20 (.cons (.var 0) (.cons (.var 1) (.cons (.var 3) (.cons (.var 4) .nil))))) s1 C = .ok .non C := (ev_call (l := [crW c, webW w, nW i, nW a]) rfl).trans (check_slot k c w i a hv hr (lt_of ho) C)
  obtain ⟨x, x1, x2⟩ := not_new o C
  have hsl : (r.sl.map slW)[a]? = some (slW o) := by rw [List.getElem?_map, ho] <;> rfl
  have h2 : ev (RF.run T.fs (k + 4)) (.cmp .NotEq (.ix (.ix (.call 22 (.cons (.var 0) (.cons (.var 1) (.cons (.var 3) .nil)))) (.var 4)) (.lit (.int 0))) (.lit (.str "new"))) s1 C = .ok (.bl (!isNew o)) C :=
    ev_cmps (C1 := C) (C2 := C) (x := .str x) (y := .str "new") (ev_ixs (C1 := C) (C2 := C) (x := slW o) (y := nW 0) (ev_ixs (C1 := C) (C2 := C) (x := .tup (r.sl.map slW)) (y := nW a) ((ev_call (l := [crW c, webW w, nW i]) rfl).trans (slots_of (k + 3) c w i hv hr C)) rfl (ix_tup hsl C)) rfl x1) rfl x2
  cases hn : isNew o with
  | true =>
    rw [if_pos rfl]
    rw [hn] at h2
    exact call_rt (d := c21) rfl rfl ((exs_cons (exs_pat (s1 := s1) (w := wt) rfl hb)).trans ((exs_cons (exs_expr h1)).trans ((exs_cons (exs_no h2 rfl)).trans (exs_rt (exs_ret rfl)))))
  | false =>
    rw [if_neg (by decide)]
    rw [hn] at h2
    exact call_exc (d := c21) rfl rfl ((exs_cons (exs_pat (s1 := s1) (w := wt) rfl hb)).trans ((exs_cons (exs_expr h1)).trans (exs_exc ((exs_yes h2 rfl).trans (exs_exc rfl)))))
theorem wanted (k : Nat) (c : Cr) (hc : CrOk c) (w : List Ver) (hw : WbOk c w) {i a : Nat} {v : Ver} {r : Row} {o : Sl} (hv : w[i]? = some v) (hr : c.rows[v.1]? = some r) (ho : r.sl[a]? = some o) {x y wt : W} {C : CH} (hC : C.os.length = C.n) (hx : TD C 7 x (crW c)) (hy : TD C 3 y (webW w)) (hwt : ∀ C1, Sub0 C C1 → items C1 wt = some [nW i, nW a]) :
    ∃ C', Sub0 C C' ∧ RF.run T.fs (k + 11) 27 [x, y, wt] C = match o with
      | .new _ ws => .ok (.tup ((wantsL c w i ws).map prW)) C'
      | _ => .exc 2 [] C' := by
  obtain ⟨C1, h1, e1⟩ := fit_both k c hc w hw hC hx hy
  have e2 := fit_wait (k + 5) c w i a hv hr ho (hwt C1 h1)
  have a1 : ev (RF.run T.fs (k + 10)) (.call 18 (.cons (.var 0) (.cons (.var 1) .nil))) [some x, some y, some wt] C = .ok (.tup [crW c, webW w]) C1 := (ev_call (l := [x, y]) rfl).trans e1
  have a2 : ev (RF.run T.fs (k + 10)) (.call 21 (.cons (.var 0) (.cons (.var 1) (.cons (.var 2) .nil)))) [some (crW c), some (webW w), some wt] C1 = _ := (ev_call (l := [crW c, webW w, wt]) rfl).trans e2
  have st := exs_cons (b := .cons (.set 2 (.call 21 (.cons (.var 0) (.cons (.var 1) (.cons (.var 2) .nil))))) (.cons (.ret (.call 26 (.cons (.var 0) (.cons (.var 1) (.cons (.call 23 (.cons (.var 0) (.cons (.var 1) .nil))) (.cons (.var 2) .nil)))))) .nil)) (exs_pat (p := .tp (.cons (.nm 0) (.cons (.nm 1) .nil))) (s1 := [some (crW c), some (webW w), some wt]) a1 rfl)
  cases o with
  | no => exact ⟨C1, h1, call_exc (d := c27) rfl rfl (st.trans (exs_exc (exs_setX a2)))⟩
  | kept p s => exact ⟨C1, h1, call_exc (d := c27) rfl rfl (st.trans (exs_exc (exs_setX a2)))⟩
  | new c0 ws =>
    obtain ⟨C2, h2, e3, g2⟩ := slots_held (k + 8) c hc w hw C1 h1.wf
    have esl := slots_len hv hr
    obtain ⟨C3, h3, e4⟩ := wants_of (k + 8) c hc w hw (a := a) (by rw [esl]; exact ho) (lt_of hv) h2.wf g2
    refine ⟨C3, (h1.trans h2).trans h3, call_rt (d := c27) rfl rfl (st.trans ((exs_cons (exs_set a2 rfl)).trans (exs_rt (exs_ret ?_))))⟩
    have a3 : ev (RF.run T.fs (k + 10)) (.cons (.var 0) (.cons (.var 1) (.cons (.call 23 (.cons (.var 0) (.cons (.var 1) .nil))) (.cons (.var 2) .nil)))) [some (crW c), some (webW w), some (prW (i, a))] C1 = .ok (.tup [crW c, webW w, .ref C1.n, prW (i, a)]) C2 := by
      exact ev_cons rfl (ev_cons rfl (ev_two ((ev_call (l := [crW c, webW w]) rfl).trans e3) rfl))
    exact (ev_call a3).trans e4
end K04
end
section
set_option Elab.async false
set_option linter.all false
set_option maxRecDepth 100000
set_option maxHeartbeats 1000000
namespace RF
open PySem
theorem compI_q {fc fe : St → CH → R W} {p : CP} {s : St} {I : CH → Prop} {q : Nat → Src} {xs : List W} (hq : Tells I q xs) (k : W → Bool) (g : W → W) (h : ∀ x ∈ xs, ∀ C, I C → ∃ s', bindP C p x s = some s' ∧ ∃ b C1, fc s' C = .ok b C1 ∧ truth C1 b = some (k x) ∧ I C1 ∧ (k x = true → ∃ C2, fe s' C1 = .ok (g x) C2 ∧ I C2)) :
    ∀ (m i n : Nat) (acc : List W) (C : CH), m = xs.length - i → I C → m < n → ∃ C', I C' ∧ compI fc fe p s n (q i) C acc = .ok ((((xs.drop i).filter k).map g).reverse ++ acc) C'
  | m, i, n + 1, acc, C, hm, hI, hn => by
    cases e : xs[i]? with
    | none =>
      refine ⟨C, hI, ?_⟩
      have hl : xs.length ≤ i := by
        rcases Nat.lt_or_ge i xs.length with z | z
        · rw [List.getElem?_eq_getElem z] at e; cases e
        · exact z
      rw [compI, hq i C hI, e, List.drop_eq_nil_of_le hl]
      simp
    | some x =>
      have hl : i < xs.length := by
        rcases Nat.lt_or_ge i xs.length with z | z
        · exact z
        · rw [List.getElem?_eq_none z] at e; cases e
      obtain ⟨s', hb, b, C1, hc, ht, hI1, he⟩ := h x (List.mem_of_getElem? e) C hI
      rw [drop_cons e]
      cases hk : k x with
      | true =>
        obtain ⟨C2, he, hI2⟩ := he hk
        obtain ⟨C', hI', ee⟩ := compI_q hq k g h (m - 1) (i + 1) n (g x :: acc) C2 (by omega) hI2 (by omega)
        refine ⟨C', hI', ?_⟩
        rw [compI, hq i C hI, e]
        simp only [hb, hc, ht, hk, he, ee]
        simp [List.filter_cons, hk]
      | false =>
        obtain ⟨C', hI', ee⟩ := compI_q hq k g h (m - 1) (i + 1) n acc C1 (by omega) hI1 (by omega)
        refine ⟨C', hI', ?_⟩
        rw [compI, hq i C hI, e]
        simp only [hb, hc, ht, hk, ee]
        simp [List.filter_cons, hk]
theorem compO_q {fc fa fc1 fe : St → CH → R W} {k1 : IK} {vs1 : List Nat} {p1 p : CP} {s : St} {I : CH → Prop} {q : Nat → Src} {xs : List W} (hq : Tells I q xs) (L : Nat → List W)
    (h : ∀ (i : Nat) (x : W), xs[i]? = some x → ∀ C acc, I C → ∃ s' b C1 l C2 q1 C3, bindP C p x s = some s' ∧ fc s' C = .ok b C1 ∧ truth C1 b = some true ∧ fa s' C1 = .ok (.tup l) C2 ∧ src0 k1 l C2 = some q1 ∧ compI fc1 fe p1 (wipeW s' vs1) fuel2 q1 C2 acc = .ok ((L i).reverse ++ acc) C3 ∧ I C3) :
    ∀ (m i n : Nat) (acc : List W) (C : CH), m = xs.length - i → I C → m < n → ∃ C', I C' ∧ compO fc fa k1 vs1 fc1 fe p1 p s n (q i) C acc = .ok (.ref C'.n) (C'.new (.lst (acc.reverse ++ (List.range' i m).flatMap L)))
  | m, i, n + 1, acc, C, hm, hI, hn => by
    cases e : xs[i]? with
    | none =>
      refine ⟨C, hI, ?_⟩
      have hl : xs.length ≤ i := by
        rcases Nat.lt_or_ge i xs.length with z | z
        · rw [List.getElem?_eq_getElem z] at e; cases e
        · exact z
      have hm0 : m = 0 := by omega
      subst hm0
      rw [compO, hq i C hI, e]
      simp
    | some x =>
      have hl : i < xs.length := by
        rcases Nat.lt_or_ge i xs.length with z | z
        · exact z
        · rw [List.getElem?_eq_none z] at e; cases e
      obtain ⟨s', b, C1, l, C2, q1, C3, hb, hc, ht, ha, hs, hi, hI3⟩ := h i x e C acc hI
      obtain ⟨C', hI', ee⟩ := compO_q hq L h (m - 1) (i + 1) n ((L i).reverse ++ acc) C3 (by omega) hI3 (by omega)
      refine ⟨C', hI', ?_⟩
      obtain ⟨m', rfl⟩ : ∃ m', m = m' + 1 := ⟨m - 1, by omega⟩
      rw [compO, hq i C hI, e]
      simp only [hb, hc, ht, ha, hs, hi, ee]
      rw [List.range'_succ, List.flatMap_cons]
      simp
end RF
namespace K04
open PySem RF
theorem eq_pr (p q : Nat × Nat) (C : CH) : eqW C (prW p) (prW q) = some (decide (p = q)) := by
  have h : eqW C (prW p) (prW q) = if SeqAt.shaped (PyData.tuple [.int p.1, .int p.2]) && SeqAt.shaped (PyData.tuple [.int q.1, .int q.2]) then some (PyData.eqv (.tuple [.int p.1, .int p.2]) (.tuple [.int q.1, .int q.2])) else none := rfl
  have h1 : ∀ a b : Int, SeqAt.shaped (PyData.tuple [.int a, .int b]) = true := fun a b => by
    simp only [SeqAt.shaped, Bool.and_eq_true]
    first
      | exact ⟨rfl, rfl⟩
      | exact ⟨rfl, decide_eq_true (Nat.le_of_ble_eq_true rfl)⟩
  rw [h, h1, h1]
  obtain ⟨a, b⟩ := p
  obtain ⟨c, d⟩ := q
  show some (PyData.eqv (.tuple [.int a, .int b]) (.tuple [.int c, .int d])) = _
  have e : PyData.eqv (.tuple [.int a, .int b]) (.tuple [.int c, .int d]) = (((a : Int) == (c : Int)) && (((b : Int) == (d : Int)) && true)) := rfl
  rw [e]
  congr 1
  by_cases h1 : a = c <;> by_cases h2 : b = d <;> simp [h1, h2] <;> omega
theorem eq_opt (o : Option (Nat × Nat)) (q : Nat × Nat) (C : CH) : eqW C (optW o) (prW q) = some (decide (o = some q)) := by
  cases o with
  | some p =>
    rw [show optW (some p) = prW p from rfl, eq_pr]
    simp
  | none =>
    have h : eqW C W.non (prW q) = if SeqAt.shaped PyData.none && SeqAt.shaped (PyData.tuple [.int q.1, .int q.2]) then some (PyData.eqv .none (.tuple [.int q.1, .int q.2])) else none := rfl
    have h1 : ∀ a b : Int, SeqAt.shaped (PyData.tuple [.int a, .int b]) = true := fun a b => by
      simp only [SeqAt.shaped, Bool.and_eq_true]
      first
        | exact ⟨rfl, rfl⟩
        | exact ⟨rfl, decide_eq_true (Nat.le_of_ble_eq_true rfl)⟩
    show eqW C W.non (prW q) = _
    rw [h, h1]
    rfl
end K04
end
section
set_option Elab.async false
set_option linter.all false
set_option maxRecDepth 100000
set_option maxHeartbeats 1000000
namespace RF
open PySem
theorem compI_n {fc fe : St → CH → R W} {p : CP} {s : St} {I : CH → Prop} {q : Nat → Src} {xs : List W} (hq : Tells I q xs) (k : Nat → Bool) (g : Nat → W) (h : ∀ (i : Nat) (x : W), xs[i]? = some x → ∀ C, I C → ∃ s', bindP C p x s = some s' ∧ ∃ b C1, fc s' C = .ok b C1 ∧ truth C1 b = some (k i) ∧ I C1 ∧ (k i = true → ∃ C2, fe s' C1 = .ok (g i) C2 ∧ I C2)) :
    ∀ (m i n : Nat) (acc : List W) (C : CH), m = xs.length - i → I C → m < n → ∃ C', I C' ∧ compI fc fe p s n (q i) C acc = .ok ((((List.range' i m).filter k).map g).reverse ++ acc) C'
  | m, i, n + 1, acc, C, hm, hI, hn => by
    cases e : xs[i]? with
    | none =>
      refine ⟨C, hI, ?_⟩
      have hl : xs.length ≤ i := by
        rcases Nat.lt_or_ge i xs.length with z | z
        · rw [List.getElem?_eq_getElem z] at e; cases e
        · exact z
      have hm0 : m = 0 := by omega
      subst hm0
      rw [compI, hq i C hI, e]
      simp
    | some x =>
      have hl : i < xs.length := by
        rcases Nat.lt_or_ge i xs.length with z | z
        · exact z
        · rw [List.getElem?_eq_none z] at e; cases e
      obtain ⟨s', hb, b, C1, hc, ht, hI1, he⟩ := h i x e C hI
      obtain ⟨m', rfl⟩ : ∃ m', m = m' + 1 := ⟨m - 1, by omega⟩
      cases hk : k i with
      | true =>
        obtain ⟨C2, he, hI2⟩ := he hk
        obtain ⟨C', hI', ee⟩ := compI_n hq k g h m' (i + 1) n (g i :: acc) C2 (by omega) hI2 (by omega)
        refine ⟨C', hI', ?_⟩
        rw [compI, hq i C hI, e]
        simp only [hb, hc, ht, hk, he, ee]
        rw [List.range'_succ]
        simp [List.filter_cons, hk]
      | false =>
        obtain ⟨C', hI', ee⟩ := compI_n hq k g h m' (i + 1) n acc C1 (by omega) hI1 (by omega)
        refine ⟨C', hI', ?_⟩
        rw [compI, hq i C hI, e]
        simp only [hb, hc, ht, hk, ee]
        rw [List.range'_succ]
        simp [List.filter_cons, hk]
theorem ev_comp2 {run : Nat → List W → CH → R W} {own : List (PySem.Str × Nat)} {vs1 : List Nat} {k k1 : IK} {args c args1 c1 elt : CE} {p p1 : CP} {s : St} {C C1 : CH} {l : List W} {q : Src} (ha : ev run args s C = .ok (.tup l) C1) (hs : src0 k l C1 = some q) :
    ev run (.comp2 own vs1 k args p c k1 args1 p1 c1 elt) s C = compO (ev run c) (ev run args1) k1 vs1 (ev run c1) (ev run elt) p1 p (wipeW s (own.map fun (x : PySem.Str × Nat) => x.2)) fuel2 q C1 [] := by
  rw [ev, ha]
  show (match src0 k l C1 with
    | some q => compO (ev run c) (ev run args1) k1 vs1 (ev run c1) (ev run elt) p1 p (wipeW s (own.map fun (x : PySem.Str × Nat) => x.2)) fuel2 q C1 []
    | none => .bad) = _
  rw [hs]
theorem enum_len (xs : List W) : ∀ j : Int, (enumW j xs).length = xs.length := by
  induction xs with
  | nil => intro j; rfl
  | cons x r ih => intro j; show (enumW (j + 1) r).length + 1 = _; rw [ih] <;> rfl
end RF
namespace K04
open PySem RF
/-- all slots that hold q -/
def holdsAt (c : Cr) (w : List Ver) (q : Nat × Nat) (i : Nat) : List W := ((List.range' 0 (slotsAt c w i).length).filter fun a => decide (fnd c w (i + 1) i a = some q)).map fun a => prW (i, a)
theorem holders (k : Nat) (c : Cr) (hc : CrOk c) (w : List Ver) (hw : WbOk c w) {i a : Nat} {v : Ver} {r : Row} {o : Sl} (hv : w[i]? = some v) (hr : c.rows[v.1]? = some r) (ho : r.sl[a]? = some o) {x y wt : W} {C : CH} (hC : C.os.length = C.n) (hx : TD C 7 x (crW c)) (hy : TD C 3 y (webW w)) (hwt : ∀ C1, Sub0 C C1 → items C1 wt = some [nW i, nW a]) :
    ∃ C', Sub0 C C' ∧ RF.run T.fs (k + 11) 28 [x, y, wt] C = if isNew o = true then .ok (.tup ((List.range' 0 w.length).flatMap (holdsAt c w (i, a)))) C' else .exc 2 [] C' := by
  obtain ⟨C1, h1, e1⟩ := fit_both k c hc w hw hC hx hy
  have e2 := fit_wait (k + 5) c w i a hv hr ho (hwt C1 h1)
  have a1 : ev (RF.run T.fs (k + 10)) (.call 18 (.cons (.var 0) (.cons (.var 1) .nil))) [some x, some y, some wt, none, none, none, none, none] C = .ok (.tup [crW c, webW w]) C1 := (ev_call (l := [x, y]) rfl).trans e1
  have a2 : ev (RF.run T.fs (k + 10)) (.call 21 (.cons (.var 0) (.cons (.var 1) (.cons (.var 2) .nil)))) [some (crW c), some (webW w), some wt, none, none, none, none, none] C1 = _ := (ev_call (l := [crW c, webW w, wt]) rfl).trans e2
  cases hn : isNew o with
  | false =>
    rw [hn, if_neg (by decide)] at a2
    refine ⟨C1, h1, ?_⟩
    rw [if_neg (by decide)]
    exact call_exc (d := c28) rfl rfl ((exs_cons (exs_pat (s1 := [some (crW c), some (webW w), some wt, none, none, none, none, none]) a1 rfl)).trans (exs_exc (exs_setX a2)))
  | true =>
    rw [hn, if_pos rfl] at a2
    obtain ⟨C2, h2, e3, g2⟩ := slots_held (k + 8) c hc w hw C1 h1.wf
    let s2 : St := [some (crW c), some (webW w), some (prW (i, a)), some (.ref C1.n), none, none, none, none]
    have hO := compO_q (fc := ev (RF.run T.fs (k + 10)) (.lit (.bl true))) (fa := ev (RF.run T.fs (k + 10)) (.cons (.var 5) .nil)) (k1 := .enm) (vs1 := [6, 7]) (fc1 := ev (RF.run T.fs (k + 10)) (.cmp .Eq (.var 7) (.var 2))) (fe := ev (RF.run T.fs (k + 10)) (.tup (.cons (.var 4) (.cons (.var 6) .nil)))) (p1 := .tp (.cons (.nm 6) (.cons (.nm 7) .nil))) (p := .tp (.cons (.nm 4) (.cons (.nm 5) .nil))) (s := s2) (I := fun C3 => Sub0 C2 C3) (q := fun j => .enl C1.n j) (xs := enumW 0 (holdsL c w w.length))
      (tells_enl fun C3 h3 => h3.keep _ _ (fun z => z) g2) (holdsAt c w (i, a)) (fun j x hx C3 acc h3 => by
        have hx2 := enum_at (holdsL c w w.length) 0 j
        rw [show ((0 : Nat) : Int) = 0 from rfl, hx, Nat.zero_add] at hx2
        have hj : j < w.length := by
          have := lt_of hx
          rw [enum_len, holdsL, List.length_map, List.length_range] at this
          exact this
        rw [holds_at hj] at hx2
        have hx3 : x = .tup [nW j, heldW c w j] := Option.some.inj hx2
        subst hx3
        have hvj : w[j]? = some w[j] := List.getElem?_eq_getElem hj
        obtain ⟨rj, hrj, _⟩ := hw.ok j _ hvj
        have eslj := slots_len hvj hrj
        have okj := hc.ok rj (List.mem_of_getElem? hrj)
        let s3 : St := [some (crW c), some (webW w), some (prW (i, a)), some (.ref C1.n), some (nW j), some (heldW c w j), none, none]
        have hlen : (enumW 0 ((heldL c w j).map optW)).length = (slotsAt c w j).length := by
          rw [enum_len, List.length_map, heldL, List.length_map, List.length_range]
        obtain ⟨C4, h4, e4⟩ := compI_n (fc := ev (RF.run T.fs (k + 10)) (.cmp .Eq (.var 7) (.var 2))) (fe := ev (RF.run T.fs (k + 10)) (.tup (.cons (.var 4) (.cons (.var 6) .nil)))) (p := .tp (.cons (.nm 6) (.cons (.nm 7) .nil))) (s := s3) (I := fun C4 => Sub0 C2 C4) (q := fun b => .st ((enumW 0 ((heldL c w j).map optW)).drop b)) (xs := enumW 0 ((heldL c w j).map optW)) (tells_st _)
          (fun b => decide (fnd c w (j + 1) j b = some (i, a))) (fun b => prW (j, b)) (fun b y hy C5 h5 => by
            have hb : b < (slotsAt c w j).length := by rw [← hlen]; exact lt_of hy
            have hy2 := enum_at ((heldL c w j).map optW) 0 b
            rw [show ((0 : Nat) : Int) = 0 from rfl, hy, Nat.zero_add, List.getElem?_map, held_at hb] at hy2
            have hy3 : y = .tup [nW b, optW (fnd c w (j + 1) j b)] := Option.some.inj hy2
            subst hy3
            let s4 : St := [some (crW c), some (webW w), some (prW (i, a)), some (.ref C1.n), some (nW j), some (heldW c w j), some (nW b), some (optW (fnd c w (j + 1) j b))]
            refine ⟨s4, rfl, .bl (decide (fnd c w (j + 1) j b = some (i, a))), C5, ?_, rfl, h5, fun _ => ⟨C5, rfl, h5⟩⟩
            refine ev_cmps (C1 := C5) (C2 := C5) (x := optW (fnd c w (j + 1) j b)) (y := prW (i, a)) rfl rfl ?_
            simp only [cmpW, eq_opt]) ((enumW 0 ((heldL c w j).map optW)).length - 0) 0 fuel2 acc C3 rfl h3 (by
            rw [Nat.sub_zero, hlen, eslj]
            exact Nat.lt_trans okj.sll (by decide))
        rw [Nat.sub_zero, hlen] at e4
        exact ⟨s3, .bl true, C3, [heldW c w j], C3, .st (enumW 0 ((heldL c w j).map optW)), C4, rfl, rfl, rfl, rfl, rfl, e4, h4⟩) ((enumW 0 (holdsL c w w.length)).length - 0) 0 fuel2 [] C2 rfl (.refl h2.wf) (by
        rw [Nat.sub_zero, enum_len, holdsL, List.length_map, List.length_range]
        exact hw.ln)
    obtain ⟨C3, h3, e4⟩ := hO
    rw [Nat.sub_zero, enum_len, holdsL, List.length_map, List.length_range, List.reverse_nil, List.nil_append] at e4
    refine ⟨C3.new (.lst ((List.range' 0 w.length).flatMap (holdsAt c w (i, a)))), (h1.trans h2).trans (h3.new _), ?_⟩
    rw [if_pos rfl]
    refine call_rt (d := c28) rfl rfl ?_
    have a3 : ev (RF.run T.fs (k + 10)) (.call 23 (.cons (.var 0) (.cons (.var 1) .nil))) [some (crW c), some (webW w), some (prW (i, a)), none, none, none, none, none] C1 = .ok (.ref C1.n) C2 := (ev_call (l := [crW c, webW w]) rfl).trans e3
    refine (exs_cons (exs_pat (s1 := [some (crW c), some (webW w), some wt, none, none, none, none, none]) a1 rfl)).trans ((exs_cons (exs_set a2 rfl)).trans ((exs_cons (exs_set a3 rfl)).trans (exs_rt (exs_ret ?_))))
    refine ev_bi (ev_one ((ev_comp2 (s := s2) (l := [.ref C1.n]) (q := .enl C1.n 0) rfl (by simp [src0, lstAt, g2])).trans e4)) ?_
    simp only [biW, items, new_at h3.wf]
end K04
end
section
set_option Elab.async false
set_option linter.all false
set_option maxRecDepth 100000
set_option maxHeartbeats 1000000
namespace K04
open PySem RF
theorem addW (i j : Int) (C : CH) : binW .Add (.int i) (.int j) C = .ok (.int (i + j)) C := rfl
theorem modW (i j : Int) (h : 0 < j) (C : CH) : binW .Mod (.int i) (.int j) C = .ok (.int (i % j)) C := by
  simp [binW, h]
theorem divW (i j : Int) (h : 0 < j) (h2 : j < 1073741824) (C : CH) : binW .FloorDiv (.int i) (.int j) C = .ok (.int (i / j)) C := by
  simp [binW, h, h2]
theorem mulL (i j : Int) (h : -1000000000000 < i) (h2 : i < 1000000000000) (C : CH) : binW .Mult (.int i) (.int j) C = .ok (.int (i * j)) C := by
  have h1 : decide (-big < i) = true := decide_eq_true (show -18446744073709551616 < i by omega)
  have h3 : decide (i < big) = true := decide_eq_true (show i < 18446744073709551616 by omega)
  simp [binW, h1, h3]
theorem mulR (i j : Int) (h : -1000000000000 < j) (h2 : j < 1000000000000) (C : CH) : binW .Mult (.int i) (.int j) C = .ok (.int (i * j)) C := by
  have h1 : decide (-big < j) = true := decide_eq_true (show -18446744073709551616 < j by omega)
  have h3 : decide (j < big) = true := decide_eq_true (show j < 18446744073709551616 by omega)
  simp [binW, h1, h3]
theorem ev_int {run : Nat → List W → CH → R W} {a : CE} {s : St} {C C1 : CH} {i : Int} (h : ev run a s C = .ok (.int i) C1) : ev run (.bi .int (.cons a .nil)) s C = .ok (.int i) C1 := ev_bi (ev_one h) rfl
theorem ev_ix3 {run : Nat → List W → CH → R W} {s : St} {C : CH} {t : Nat} {a b c : Int} (h0 : s[0]? = some (some (.ref t))) (h : C.get t = some (.lst [.int a, .int b, .int c])) (i : Nat) (u : Int) (hu : [W.int a, W.int b, W.int c][i]? = some (.int u)) : ev run (.ix (.var 0) (.lit (.int (i : Int)))) s C = .ok (.int u) C :=
  ev_ixs (C1 := C) (C2 := C) (x := .ref t) (y := nW i) (by simp only [ev, h0]) rfl (ix_ref h hu)
theorem exs_ixset {run : Nat → List W → CH → R W} {o i e : CE} {s : St} {C C1 C2 C3 C4 : CH} {w x y : W} (he : ev run e s C = .ok w C1) (ho : ev run o s C1 = .ok x C2) (hi : ev run i s C2 = .ok y C3) (hp : RF.putAt x y w C3 = some C4) : exs run (.ixset o i e) s C = .nx s C4 := by
  simp [exs, he, ho, hi, hp, RF.R.st]
theorem put3 {C : CH} {t : Nat} {a b c : Int} (h : C.get t = some (.lst [.int a, .int b, .int c])) (i : Nat) (hi : i < 3) (w : W) : RF.putAt (.ref t) (.int (i : Int)) w C = some (C.set t (.lst ([W.int a, .int b, .int c].set i w))) := by
  have e : L2.ixN 3 (i : Int) = some i := by
    unfold L2.ixN
    rw [if_pos (by omega), if_pos (by omega)]
    simp
  simp only [RF.putAt, h]
  show (match L2.ixN 3 (i : Int) with
    | some j => some (C.set t (.lst ([W.int a, .int b, .int c].set j w)))
    | none => none) = _
  rw [e]
/-- the box of draws -/
structure Box (C : CH) (t : Nat) (s n : Int) : Prop where
  ex : ∃ a, 0 ≤ a ∧ C.get t = some (.lst [.int a, .int s, .int n])
  n0 : 0 ≤ n
theorem take_n (k : Nat) {C : CH} (hC : C.os.length = C.n) {t : Nat} {s n : Int} (h : Box C t s n) (hn : n < 1000000) (b : Nat) (hb : 0 < b) (hb2 : b < 1000000) :
    ∃ (d : Nat) (n' : Int) (C' : CH), RF.run T.fs (k + 1) 31 [.ref t, nW b] C = .ok (nW d) C' ∧ d < b ∧ Sub (fun r => r = t) C C' ∧ Box C' t s n' ∧ n' ≤ n + 1 ∧ C'.n = C.n := by
  obtain ⟨⟨a, ha, hg⟩, n0⟩ := h
  have ht : t < C.n := CH.get_lt hg
  let s0 : St := [some (.ref t), some (nW b), none, none, none, none]
  have hb0 : (0 : Int) < (b : Int) := by omega
  have hgt : ev (RF.run T.fs k) (.cmp .Gt (.ix (.var 0) (.lit (.int 0))) (.lit (.int 0))) s0 C = .ok (.bl (decide (0 < a))) C :=
    ev_cmps (C1 := C) (C2 := C) (x := .int a) (y := .int 0) (ev_ix3 (s := s0) rfl hg 0 a rfl) rfl rfl
  by_cases hp : 0 < a
  · rw [decide_eq_true hp] at hgt
    let s1 : St := [some (.ref t), some (nW b), some (.int (a % (b : Int))), none, none, none]
    have e1 : ev (RF.run T.fs k) (.bin .Mod (.bi .int (.cons (.ix (.var 0) (.lit (.int 0))) .nil)) (.var 1)) s0 C = .ok (.int (a % (b : Int))) C :=
      ev_bins (C1 := C) (C2 := C) (x := .int a) (y := nW b) (ev_int (ev_ix3 (s := s0) rfl hg 0 a rfl)) rfl (modW a b hb0 C)
    have e2 : ev (RF.run T.fs k) (.bin .FloorDiv (.ix (.var 0) (.lit (.int 0))) (.var 1)) s1 C = .ok (.int (a / (b : Int))) C :=
      ev_bins (C1 := C) (C2 := C) (x := .int a) (y := nW b) (ev_ix3 (s := s1) rfl hg 0 a rfl) rfl (divW a b hb0 (by omega) C)
    have hm0 := Int.emod_nonneg a (show (b : Int) ≠ 0 by omega)
    have hm1 := Int.emod_lt_of_pos a hb0
    refine ⟨(a % (b : Int)).toNat, n, C.set t (.lst [.int (a / (b : Int)), .int s, .int n]), call_rt (d := c31) rfl rfl ?_, by omega, (Sub.refl (M := fun r => r = t) hC).set ht (.inr rfl) _, ⟨⟨a / (b : Int), Int.ediv_nonneg ha (by omega), set_at hC ht _⟩, n0⟩, by omega, rfl⟩
    have en : nW (a % (b : Int)).toNat = .int (a % (b : Int)) := by
      show W.int (((a % (b : Int)).toNat : Nat) : Int) = _
      rw [Int.toNat_of_nonneg hm0]
    rw [en]
    exact exs_rt ((exs_yes hgt rfl).trans ((exs_cons (exs_set e1 rfl)).trans ((exs_cons (exs_ixset (C4 := C.set t (.lst [.int (a / (b : Int)), .int s, .int n])) e2 rfl rfl (put3 hg 0 (by decide) _))).trans (exs_rt (exs_ret rfl)))))
  · rw [decide_eq_false hp] at hgt
    let C1 := C.set t (.lst [.int a, .int s, .int (n + 1)])
    have hg1 : C1.get t = some (.lst [.int a, .int s, .int (n + 1)]) := set_at hC ht _
    have e0 : ev (RF.run T.fs k) (.bin .Add (.ix (.var 0) (.lit (.int 2))) (.lit (.int 1))) s0 C = .ok (.int (n + 1)) C := ev_bins (C1 := C) (C2 := C) (x := .int n) (y := .int 1) (ev_ix3 (s := s0) rfl hg 2 n rfl) rfl rfl
    have st0 : exs (RF.run T.fs k) (.ixset (.var 0) (.lit (.int 2)) (.bin .Add (.ix (.var 0) (.lit (.int 2))) (.lit (.int 1)))) s0 C = .nx s0 C1 := exs_ixset e0 rfl rfl (put3 hg 2 (by decide) _)
    let v3 : Int := (s + 48271 * (n + 1)) * (39373 + (n + 1)) % 2147483647
    let s3 : St := [some (.ref t), some (nW b), none, some (.int v3), none, none]
    have e3 : ev (RF.run T.fs k) (.bin .Mod (.bi .int (.cons (.bin .Mult (.bin .Add (.ix (.var 0) (.lit (.int 1))) (.bin .Mult (.lit (.int 48271)) (.ix (.var 0) (.lit (.int 2))))) (.bin .Add (.lit (.int 39373)) (.ix (.var 0) (.lit (.int 2))))) .nil)) (.lit (.int 2147483647))) s0 C1 = .ok (.int v3) C1 := by
      have x2 := ev_ix3 (run := RF.run T.fs k) (s := s0) rfl hg1 2 (n + 1) rfl
      have y1 : ev (RF.run T.fs k) (.bin .Add (.ix (.var 0) (.lit (.int 1))) (.bin .Mult (.lit (.int 48271)) (.ix (.var 0) (.lit (.int 2))))) s0 C1 = .ok (.int (s + 48271 * (n + 1))) C1 :=
        ev_bins (C1 := C1) (C2 := C1) (x := .int s) (y := .int (48271 * (n + 1))) (ev_ix3 (s := s0) rfl hg1 1 s rfl) (ev_bins (C1 := C1) (C2 := C1) (x := .int 48271) (y := .int (n + 1)) rfl x2 (mulL _ _ (by decide) (by decide) C1)) rfl
      have y2 : ev (RF.run T.fs k) (.bin .Add (.lit (.int 39373)) (.ix (.var 0) (.lit (.int 2)))) s0 C1 = .ok (.int (39373 + (n + 1))) C1 := ev_bins (C1 := C1) (C2 := C1) (x := .int 39373) (y := .int (n + 1)) rfl x2 rfl
      exact ev_bins (C1 := C1) (C2 := C1) (x := .int _) (y := .int 2147483647) (ev_int (ev_bins (C1 := C1) (C2 := C1) y1 y2 (mulR _ _ (by omega) (by omega) C1))) rfl (modW _ _ (by decide) C1)
    have v30 : 0 ≤ v3 := Int.emod_nonneg _ (by decide)
    have v31 : v3 < 2147483647 := Int.emod_lt_of_pos _ (by decide)
    let v4 : Int := v3 % 40009 + 7
    let s4 : St := [some (.ref t), some (nW b), none, some (.int v3), some (.int v4), none]
    have e4 : ev (RF.run T.fs k) (.bin .Add (.bin .Mod (.bi .int (.cons (.var 3) .nil)) (.lit (.int 40009))) (.lit (.int 7))) s3 C1 = .ok (.int v4) C1 :=
      ev_bins (C1 := C1) (C2 := C1) (x := .int (v3 % 40009)) (y := .int 7) (ev_bins (C1 := C1) (C2 := C1) (x := .int v3) (y := .int 40009) (ev_int rfl) rfl (modW _ _ (by decide) C1)) rfl rfl
    have v40 : 0 ≤ v3 % 40009 := Int.emod_nonneg _ (by decide)
    have v41 : v3 % 40009 < 40009 := Int.emod_lt_of_pos _ (by decide)
    let v5 : Int := (v3 + (n + 1) + s / 1000003) * v4 % 2147483629
    let s5 : St := [some (.ref t), some (nW b), none, some (.int v3), some (.int v4), some (.int v5)]
    have e5 : ev (RF.run T.fs k) (.bin .Mod (.bi .int (.cons (.bin .Mult (.bin .Add (.bin .Add (.var 3) (.ix (.var 0) (.lit (.int 2)))) (.bin .FloorDiv (.ix (.var 0) (.lit (.int 1))) (.lit (.int 1000003)))) (.var 4)) .nil)) (.lit (.int 2147483629))) s4 C1 = .ok (.int v5) C1 := by
      have y1 : ev (RF.run T.fs k) (.bin .Add (.var 3) (.ix (.var 0) (.lit (.int 2)))) s4 C1 = .ok (.int (v3 + (n + 1))) C1 := ev_bins (C1 := C1) (C2 := C1) (x := .int v3) (y := .int (n + 1)) rfl (ev_ix3 (s := s4) rfl hg1 2 (n + 1) rfl) rfl
      have y2 : ev (RF.run T.fs k) (.bin .FloorDiv (.ix (.var 0) (.lit (.int 1))) (.lit (.int 1000003))) s4 C1 = .ok (.int (s / 1000003)) C1 := ev_bins (C1 := C1) (C2 := C1) (x := .int s) (y := .int 1000003) (ev_ix3 (s := s4) rfl hg1 1 s rfl) rfl (divW _ _ (by decide) (by decide) C1)
      exact ev_bins (C1 := C1) (C2 := C1) (x := .int _) (y := .int 2147483629) (ev_int (ev_bins (C1 := C1) (C2 := C1) (y := .int v4) (ev_bins (C1 := C1) (C2 := C1) y1 y2 rfl) rfl (mulR _ _ (show -1000000000000 < v3 % 40009 + 7 by omega) (show v3 % 40009 + 7 < 1000000000000 by omega) C1))) rfl (modW _ _ (by decide) C1)
    let v6 : Int := (v5 * 48271 + v3) % 2147483587 / 64 % (b : Int)
    have e6 : ev (RF.run T.fs k) (.bin .Mod (.bi .int (.cons (.bin .FloorDiv (.bin .Mod (.bi .int (.cons (.bin .Add (.bin .Mult (.var 5) (.lit (.int 48271))) (.var 3)) .nil)) (.lit (.int 2147483587))) (.lit (.int 64))) .nil)) (.var 1)) s5 C1 = .ok (.int v6) C1 := by
      have y1 : ev (RF.run T.fs k) (.bin .Add (.bin .Mult (.var 5) (.lit (.int 48271))) (.var 3)) s5 C1 = .ok (.int (v5 * 48271 + v3)) C1 := ev_bins (C1 := C1) (C2 := C1) (y := .int v3) (ev_bins (C1 := C1) (C2 := C1) (x := .int v5) (y := .int 48271) rfl rfl (mulR _ _ (by decide) (by decide) C1)) rfl rfl
      have y2 := ev_bins (C1 := C1) (C2 := C1) (y := .int 2147483587) (ev_int y1) (show ev (RF.run T.fs k) (.lit (.int 2147483587)) s5 C1 = _ from rfl) (modW _ _ (by decide) C1)
      have y3 := ev_bins (C1 := C1) (C2 := C1) (y := .int 64) y2 (show ev (RF.run T.fs k) (.lit (.int 64)) s5 C1 = _ from rfl) (divW _ _ (by decide) (by decide) C1)
      exact ev_bins (C1 := C1) (C2 := C1) (y := nW b) (ev_int y3) rfl (modW _ _ hb0 C1)
    have hm0 : 0 ≤ v6 := Int.emod_nonneg _ (show (b : Int) ≠ 0 by omega)
    have hm1 : v6 < (b : Int) := Int.emod_lt_of_pos _ hb0
    refine ⟨v6.toNat, n + 1, C1, call_rt (d := c31) rfl rfl ?_, by omega, (Sub.refl (M := fun r => r = t) hC).set ht (.inr rfl) _, ⟨⟨a, ha, hg1⟩, by omega⟩, by omega, rfl⟩
    have en : nW v6.toNat = .int v6 := by
      show W.int ((v6.toNat : Nat) : Int) = _
      rw [Int.toNat_of_nonneg hm0]
    rw [en]
    exact (exs_cons (exs_no hgt rfl)).trans ((exs_cons st0).trans ((exs_cons (exs_set e3 rfl)).trans ((exs_cons (exs_set e4 rfl)).trans ((exs_cons (exs_set e5 rfl)).trans (exs_rt (exs_ret e6))))))
theorem take_ (k : Nat) {C : CH} (hC : C.os.length = C.n) {t : Nat} {s n : Int} (h : Box C t s n) (hn : n < 1000000) (b : Nat) (hb : 0 < b) (hb2 : b < 1000000) :
    ∃ (d : Nat) (n' : Int) (C' : CH), RF.run T.fs (k + 1) 31 [.ref t, nW b] C = .ok (nW d) C' ∧ d < b ∧ Sub (fun r => r = t) C C' ∧ Box C' t s n' ∧ n' ≤ n + 1 := by
  obtain ⟨d, n', C', h1, h2, h3, h4, h5, _⟩ := take_n k hC h hn b hb hb2
  exact ⟨d, n', C', h1, h2, h3, h4, h5⟩
end K04
end
section
set_option Elab.async false
set_option linter.all false
set_option maxRecDepth 100000
set_option maxHeartbeats 1000000
namespace RF
open PySem
/-- a comprehension whose items are told by what holds of them -/
theorem compL_r {fc fe : St → CH → R W} {p : CP} {s : St} {I : CH → Prop} {q : Nat → Src} {xs : List W} (hq : Tells I q xs) (P : Nat → W → CH → Prop) (stab : ∀ j y C C', P j y C → Sub0 C C' → P j y C') (hfc : ∀ s C, fc s C = .ok (.bl true) C)
    (h : ∀ (i : Nat) (x : W), xs[i]? = some x → ∀ C, I C → ∃ s', bindP C p x s = some s' ∧ ∃ y C2, fe s' C = .ok y C2 ∧ I C2 ∧ Sub0 C C2 ∧ P i y C2) :
    ∀ (m i n : Nat) (acc : List W) (C : CH), m = xs.length - i → C.os.length = C.n → I C → m < n → ∃ ys C', I C' ∧ Sub0 C C' ∧ ys.length = m ∧ (∀ (j : Nat) (y : W), ys[j]? = some y → P (i + j) y C') ∧ compL fc fe p s n (q i) C acc = .ok (.ref C'.n) (C'.new (.lst (acc.reverse ++ ys)))
  | m, i, n + 1, acc, C, hm, hC, hI, hn => by
    cases e : xs[i]? with
    | none =>
      have hl : xs.length ≤ i := by
        rcases Nat.lt_or_ge i xs.length with z | z
        · rw [List.getElem?_eq_getElem z] at e; cases e
        · exact z
      refine ⟨[], C, hI, .refl hC, by rw [List.length_nil]; omega, fun j y h => by simp at h, ?_⟩
      rw [compL, hq i C hI, e]
      simp
    | some x =>
      have hl : i < xs.length := by
        rcases Nat.lt_or_ge i xs.length with z | z
        · exact z
        · rw [List.getElem?_eq_none z] at e; cases e
      obtain ⟨s', hb, y, C2, he, hI2, h2, hP⟩ := h i x e C hI
      obtain ⟨ys, C', hI', h3, hy, hPs, ee⟩ := compL_r hq P stab hfc h (m - 1) (i + 1) n (y :: acc) C2 (by omega) h2.wf hI2 (by omega)
      refine ⟨y :: ys, C', hI', h2.trans h3, by rw [List.length_cons]; omega, fun j z hz => ?_, ?_⟩
      · cases j with
        | zero =>
          have hz : y = z := Option.some.inj hz
          subst hz
          exact stab _ _ _ _ hP h3
        | succ j =>
          have := hPs j z (by simpa using hz)
          rw [show i + (j + 1) = i + 1 + j by omega]
          exact this
      · rw [compL, hq i C hI, e]
        simp only [hb, hfc, truth, he, ee]
        simp
end RF
namespace K04
open PySem RF
/-- tuples of tuples of atoms, so deep -/
inductive TT : Nat → W → Prop
  | atom {n : Nat} {w : W} (h : atomW w = true) : TT n w
  | tup {n : Nat} {xs : List W} (hs : xs.length < 1000) (h : ∀ (i : Nat) (x : W), xs[i]? = some x → TT n x) : TT (n + 1) (.tup xs)
theorem TT.td {n : Nat} {w : W} (h : TT n w) (C : CH) : TD C n w w := by
  induction h with
  | atom h => exact .atom h
  | tup hs _ ih =>
    refine .tup rfl hs fun i x y hx hy => ?_
    rw [hx] at hy
    cases hy
    exact ih i x hx
theorem ev_iteT {run : Nat → List W → CH → R W} {c a b : CE} {s : St} {C C1 : CH} {w : W} (hc : ev run c s C = .ok w C1) (t : truth C1 w = some true) : ev run (.ite c a b) s C = ev run a s C1 := by
  simp only [ev, hc, RF.R.bind, t]
theorem ev_iteF {run : Nat → List W → CH → R W} {c a b : CE} {s : St} {C C1 : CH} {w : W} (hc : ev run c s C = .ok w C1) (t : truth C1 w = some false) : ev run (.ite c a b) s C = ev run b s C1 := by
  simp only [ev, hc, RF.R.bind, t]
theorem lists_ {n : Nat} {w : W} (h : TT n w) : ∀ (k : Nat) (C : CH), C.os.length = C.n → ∃ u C', Sub0 C C' ∧ TD C' n u w ∧ RF.run T.fs (k + n + 1) 35 [w] C = .ok u C' := by
  induction h with
  | @atom n w ha =>
    intro k C hC
    refine ⟨w, C, .refl hC, .atom ha, call_rt (d := c35) rfl rfl (exs_rt (exs_ret ?_))⟩
    have hi : biW .isi [w, .tup [.ty "list", .ty "tuple"]] C = .ok (.bl false) C := by
      cases w <;> first | rfl | (simp [atomW] at ha)
    exact (ev_iteF (ev_bi (ev_two (w := w) (u := .tup [.ty "list", .ty "tuple"]) rfl rfl) hi) rfl).trans rfl
  | @tup n xs hs _ ih =>
    intro k C hC
    obtain ⟨ys, C1, h1, h2, hl, hP, e⟩ := compL_r (fc := ev (RF.run T.fs (k + n + 1)) (.lit (.bl true))) (fe := ev (RF.run T.fs (k + n + 1)) (.call 35 (.cons (.var 1) .nil))) (p := .nm 1) (s := wipeW [some (.tup xs), none] (([("bit", 1)] : List (PySem.Str × Nat)).map fun (x : PySem.Str × Nat) => x.2)) (I := fun C1 => Sub0 C C1) (q := fun i => .st (xs.drop i)) (xs := xs) (tells_st xs)
      (fun j y C2 => ∀ x, xs[j]? = some x → TD C2 n y x) (fun j y C2 C3 h h3 x hx => (h x hx).keep h3) (fun _ _ => rfl) (fun i x hx C2 h2 => by
        obtain ⟨u, C3, h3, ht, e3⟩ := ih i x hx k C2 h2.wf
        exact ⟨[some (.tup xs), some x], rfl, u, C3, (ev_call (l := [x]) rfl).trans e3, h2.trans h3, h3, fun x' hx' => by rw [hx] at hx'; cases hx'; exact ht⟩) (xs.length - 0) 0 fuel [] C rfl hC (.refl hC) (Nat.lt_trans hs (by decide))
    rw [List.reverse_nil, List.nil_append] at e
    have hl2 : ys.length = xs.length := by omega
    refine ⟨.ref C1.n, C1.new (.lst ys), h1.new _, .lst (new_at h1.wf _) hl2 (by omega) (fun i y x hy hx => ?_), call_rt (d := c35) rfl rfl (exs_rt (exs_ret ?_))⟩
    · have := hP i y hy x (by rw [Nat.zero_add]; exact hx)
      exact this.keep ((Sub.refl h1.wf).new _)
    · have hi : biW .isi [.tup xs, .tup [.ty "list", .ty "tuple"]] C = .ok (.bl true) C := rfl
      exact (ev_iteT (ev_bi (ev_two (w := .tup xs) (u := .tup [.ty "list", .ty "tuple"]) rfl rfl) hi) rfl).trans ((ev_comp (l := [.tup xs]) (q := .st xs) rfl rfl).trans e)
end K04
end
section
set_option Elab.async false
set_option linter.all false
set_option maxRecDepth 100000
set_option maxHeartbeats 1000000
namespace RF
open PySem
def pairUp (xs ys : List W) : List W := List.zipWith (fun x y => W.tup [x, y]) xs ys
theorem pair_at {xs ys : List W} {i : Nat} {x y : W} (hx : xs[i]? = some x) (hy : ys[i]? = some y) : (pairUp xs ys)[i]? = some (.tup [x, y]) := by
  unfold pairUp
  rw [List.getElem?_zipWith, hx, hy]
theorem tells_zll {I : CH → Prop} {r q : Nat} {xs ys : List W} (hl : xs.length = ys.length) (h : ∀ C, I C → C.get r = some (.lst xs)) (h2 : ∀ C, I C → C.get q = some (.lst ys)) : Tells I (fun i => .zll r q i) (pairUp xs ys) := by
  intro i C hI
  show nxt (.zll r q i) C = _
  simp only [nxt, lstAt, h C hI, h2 C hI]
  by_cases hi : i < xs.length
  · have a1 : xs[i]? = some xs[i] := List.getElem?_eq_getElem hi
    have a2 : ys[i]? = some ys[i] := List.getElem?_eq_getElem (by omega)
    rw [pair_at a1 a2, a1, a2]
  · have a1 : xs[i]? = none := List.getElem?_eq_none (by omega)
    have a3 : (pairUp xs ys)[i]? = none := List.getElem?_eq_none (by unfold pairUp; rw [List.length_zipWith]; omega)
    rw [a1, a3]
end RF
namespace K04
open PySem RF
inductive SM (C : CH) : Nat → W → W → Prop
  | int {n : Nat} (i : Int) : SM C n (.int i) (.int i)
  | bl {n : Nat} (i : Bool) : SM C n (.bl i) (.bl i)
  | str {n : Nat} (i : PySem.Str) (h : ∀ C, eqW C (.str i) (.str i) = some true) : SM C n (.str i) (.str i)
  | non {n : Nat} : SM C n .non .non
  | tup {n : Nat} {xs ys : List W} (hl : xs.length = ys.length) (hs : xs.length < 1000) (h : ∀ (i : Nat) (x y : W), xs[i]? = some x → ys[i]? = some y → SM C n x y) : SM C (n + 1) (.tup xs) (.tup ys)
  | lst {n r q : Nat} {xs ys : List W} (hr : C.get r = some (.lst xs)) (hq : C.get q = some (.lst ys)) (hl : xs.length = ys.length) (hs : xs.length < 1000) (h : ∀ (i : Nat) (x y : W), xs[i]? = some x → ys[i]? = some y → SM C n x y) : SM C (n + 1) (.ref r) (.ref q)
theorem SM.keep {C C' : CH} {n : Nat} {x y : W} (h : SM C n x y) (s : Sub0 C C') : SM C' n x y := by
  induction h with
  | int i => exact .int i
  | bl i => exact .bl i
  | str i h => exact .str i h
  | non => exact .non
  | tup hl hs _ ih => exact .tup hl hs ih
  | lst hr hq hl hs _ ih => exact .lst (s.keep _ _ (fun z => z) hr) (s.keep _ _ (fun z => z) hq) hl hs ih
theorem same_seq {k : Nat} {x y : W} {C C1 : CH} {n m : Nat} {b1 b2 : Bool} (hx : biW .isi [x, .ty "list"] C = .ok (.bl b1) C) (hy : biW .isi [y, .ty "list"] C = .ok (.bl b1) C) (hx2 : biW .isi [x, .ty "tuple"] C = .ok (.bl b2) C) (hy2 : biW .isi [y, .ty "tuple"] C = .ok (.bl b2) C) (hyy : biW .isi [y, .tup [.ty "list", .ty "tuple"]] C = .ok (.bl true) C)
    (lx : biW .len [x] C = .ok (.int (n : Int)) C) (ly : biW .len [y] C = .ok (.int (n : Int)) C)
    (he : ev (RF.run T.fs k) (.bi .all (.cons (.comp [("mine", 2), ("its", 3)] .zip (.cons (.var 0) (.cons (.var 1) .nil)) (.tp (.cons (.nm 2) (.cons (.nm 3) .nil))) (.lit (.bl true)) (.call 36 (.cons (.var 2) (.cons (.var 3) .nil)))) .nil)) [some x, some y, none, none] C = .ok (.bl true) C1) : RF.run T.fs (k + 1) 36 [x, y] C = .ok (.bl true) C1 := by
  let s0 : St := [some x, some y, none, none]
  have bb : ∀ b : Bool, cmpW .NotEq (.bl b) (.bl b) C = .ok (.bl false) C := fun b => by cases b <;> kernel_rfl
  have t0 : ev (RF.run T.fs k) (.bi .isi (.cons (.var 1) (.cons (.tup (.cons (.gty "list") (.cons (.gty "tuple") .nil))) .nil))) s0 C = .ok (.bl true) C := ev_bi (ev_two (w := y) (u := .tup [.ty "list", .ty "tuple"]) rfl rfl) hyy
  have t1 : ev (RF.run T.fs k) (.cmp .NotEq (.bi .isi (.cons (.var 0) (.cons (.gty "list") .nil))) (.bi .isi (.cons (.var 1) (.cons (.gty "list") .nil)))) s0 C = .ok (.bl false) C := ev_cmps (C1 := C) (C2 := C) (ev_bi (ev_two (w := x) rfl rfl) hx) (ev_bi (ev_two (w := y) rfl rfl) hy) (bb b1)
  have t2 : ev (RF.run T.fs k) (.cmp .NotEq (.bi .isi (.cons (.var 0) (.cons (.gty "tuple") .nil))) (.bi .isi (.cons (.var 1) (.cons (.gty "tuple") .nil)))) s0 C = .ok (.bl false) C := ev_cmps (C1 := C) (C2 := C) (ev_bi (ev_two (w := x) rfl rfl) hx2) (ev_bi (ev_two (w := y) rfl rfl) hy2) (bb b2)
  have t3 : ev (RF.run T.fs k) (.cmp .Eq (.bi .len (.cons (.var 0) .nil)) (.bi .len (.cons (.var 1) .nil))) s0 C = .ok (.bl true) C := ev_cmps (C1 := C) (C2 := C) (ev_bi (ev_one (w := x) rfl) lx) (ev_bi (ev_one (w := y) rfl) ly) (by simp [cmpW, eqW_int])
  refine call_rt (d := c36) rfl rfl (exs_rt ((exs_yes t0 rfl).trans ((exs_cons (exs_no ((ev_orF t1 rfl).trans t2) rfl)).trans (exs_rt (exs_ret ((ev_and t3 rfl).trans he))))))
theorem same_ {C : CH} {n : Nat} {x y : W} (h : SM C n x y) : ∀ (k : Nat) (C1 : CH), Sub0 C C1 → ∃ C2, Sub0 C1 C2 ∧ RF.run T.fs (k + n + 1) 36 [x, y] C1 = .ok (.bl true) C2 := by
  induction h with
  | @int n i =>
    intro k C1 hs
    refine ⟨C1, .refl hs.wf, call_rt (d := c36) rfl rfl ?_⟩
    let s0 : St := [some (.int i), some (.int i), none, none]
    have t0 : ev (RF.run T.fs (k + n)) (.bi .isi (.cons (.var 1) (.cons (.tup (.cons (.gty "list") (.cons (.gty "tuple") .nil))) .nil))) s0 C1 = .ok (.bl false) C1 := rfl
    have t1 : ev (RF.run T.fs (k + n)) (.or (.cmp .Is (.var 1) (.lit .non)) (.bi .isi (.cons (.var 1) (.cons (.tup (.cons (.gty "bool") (.cons (.gty "str") .nil))) .nil)))) s0 C1 = .ok (.bl false) C1 := rfl
    have t2 : ev (RF.run T.fs (k + n)) (.bi .isi (.cons (.var 0) (.cons (.gty "int") .nil))) s0 C1 = .ok (.bl true) C1 := rfl
    have t3 : ev (RF.run T.fs (k + n)) (.not (.bi .isi (.cons (.var 0) (.cons (.gty "bool") .nil)))) s0 C1 = .ok (.bl true) C1 := rfl
    have t4 : ev (RF.run T.fs (k + n)) (.cmp .Eq (.var 0) (.var 1)) s0 C1 = .ok (.bl true) C1 := ev_cmps (C1 := C1) (C2 := C1) (x := .int i) (y := .int i) rfl rfl (by simp [cmpW, eqW_int])
    exact (exs_cons (exs_no t0 rfl)).trans ((exs_cons (exs_no t1 rfl)).trans (exs_rt (exs_ret ((ev_and t2 rfl).trans ((ev_and t3 rfl).trans t4)))))
  | @bl n b =>
    intro k C1 hs
    refine ⟨C1, .refl hs.wf, call_rt (d := c36) rfl rfl ?_⟩
    cases b <;> kernel_rfl
  | @non n =>
    intro k C1 hs
    refine ⟨C1, .refl hs.wf, call_rt (d := c36) rfl rfl ?_⟩
    kernel_rfl
  | @str n x hx =>
    intro k C1 hs
    refine ⟨C1, .refl hs.wf, call_rt (d := c36) rfl rfl ?_⟩
    let s0 : St := [some (.str x), some (.str x), none, none]
    have t0 : ev (RF.run T.fs (k + n)) (.bi .isi (.cons (.var 1) (.cons (.tup (.cons (.gty "list") (.cons (.gty "tuple") .nil))) .nil))) s0 C1 = .ok (.bl false) C1 := rfl
    have t1 : ev (RF.run T.fs (k + n)) (.or (.cmp .Is (.var 1) (.lit .non)) (.bi .isi (.cons (.var 1) (.cons (.tup (.cons (.gty "bool") (.cons (.gty "str") .nil))) .nil)))) s0 C1 = .ok (.bl true) C1 := rfl
    have t2 : ev (RF.run T.fs (k + n)) (.cmp .Eq (.var 0) (.var 1)) s0 C1 = .ok (.bl true) C1 := ev_cmps (C1 := C1) (C2 := C1) (x := .str x) (y := .str x) rfl rfl (eq_str _ _ _ hx C1)
    have t3 : ev (RF.run T.fs (k + n)) (.and (.cmp .Eq (.bi .isi (.cons (.var 0) (.cons (.gty "bool") .nil))) (.bi .isi (.cons (.var 1) (.cons (.gty "bool") .nil)))) (.cmp .Eq (.cmp .Is (.var 0) (.lit .non)) (.cmp .Is (.var 1) (.lit .non)))) s0 C1 = .ok (.bl true) C1 := by kernel_rfl
    exact (exs_cons (exs_no t0 rfl)).trans (exs_rt ((exs_yes t1 rfl).trans (exs_rt (exs_ret ((ev_and t2 rfl).trans t3)))))
  | @tup n xs ys hl hs0 _ ih =>
    intro k C1 hs
    obtain ⟨C2, h2, e2⟩ := all_q (run := RF.run T.fs (k + n + 1)) (own := [("mine", 2), ("its", 3)]) (k := .zip) (args := .cons (.var 0) (.cons (.var 1) .nil)) (elt := .call 36 (.cons (.var 2) (.cons (.var 3) .nil))) (p := .tp (.cons (.nm 2) (.cons (.nm 3) .nil))) (s := [some (.tup xs), some (.tup ys), none, none]) (C := C1) (C0 := C1) (l := [.tup xs, .tup ys])
      (q := fun i => .st ((pairUp xs ys).drop i)) (xs := pairUp xs ys) (ev_two rfl rfl) (.refl hs.wf) rfl (tells_st _) (by unfold pairUp; rw [List.length_zipWith]; exact Nat.lt_of_le_of_lt (Nat.min_le_left _ _) (Nat.lt_trans hs0 (by decide))) (fun z hz C3 h3 => by
        obtain ⟨j, hj, rfl⟩ := List.getElem_of_mem hz
        have hj2 : j < xs.length := by unfold pairUp at hj; rw [List.length_zipWith] at hj; omega
        have a1 : xs[j]? = some xs[j] := List.getElem?_eq_getElem hj2
        have a2 : ys[j]? = some ys[j] := List.getElem?_eq_getElem (by omega)
        have a3 : (pairUp xs ys)[j] = .tup [xs[j], ys[j]] := Option.some.inj ((List.getElem?_eq_getElem hj).symm.trans (pair_at a1 a2))
        rw [a3]
        obtain ⟨C4, h4, e4⟩ := ih j _ _ a1 a2 k C3 (hs.trans h3)
        exact ⟨[some (.tup xs), some (.tup ys), some xs[j], some ys[j]], rfl, C4, (ev_call (l := [xs[j], ys[j]]) rfl).trans e4, h4⟩)
    exact ⟨C2, h2, same_seq (k := k + n + 1) (n := xs.length) (m := 0) (b1 := false) (b2 := true) rfl rfl rfl rfl rfl (len_tup _ _) (by rw [hl]; exact len_tup _ _) e2⟩
  | @lst n r q xs ys hr hq hl hs0 _ ih =>
    intro k C1 hs
    have hr1 := hs.keep r _ (fun z => z) hr
    have hq1 := hs.keep q _ (fun z => z) hq
    obtain ⟨C2, h2, e2⟩ := all_q (run := RF.run T.fs (k + n + 1)) (own := [("mine", 2), ("its", 3)]) (k := .zip) (args := .cons (.var 0) (.cons (.var 1) .nil)) (elt := .call 36 (.cons (.var 2) (.cons (.var 3) .nil))) (p := .tp (.cons (.nm 2) (.cons (.nm 3) .nil))) (s := [some (.ref r), some (.ref q), none, none]) (C := C1) (C0 := C1) (l := [.ref r, .ref q])
      (q := fun i => .zll r q i) (xs := pairUp xs ys) (ev_two rfl rfl) (.refl hs.wf) (by simp [src0, lstAt, hr1, hq1]) (tells_zll hl (fun C3 h3 => h3.keep r _ (fun z => z) hr1) (fun C3 h3 => h3.keep q _ (fun z => z) hq1)) (by unfold pairUp; rw [List.length_zipWith]; exact Nat.lt_of_le_of_lt (Nat.min_le_left _ _) (Nat.lt_trans hs0 (by decide))) (fun z hz C3 h3 => by
        obtain ⟨j, hj, rfl⟩ := List.getElem_of_mem hz
        have hj2 : j < xs.length := by unfold pairUp at hj; rw [List.length_zipWith] at hj; omega
        have a1 : xs[j]? = some xs[j] := List.getElem?_eq_getElem hj2
        have a2 : ys[j]? = some ys[j] := List.getElem?_eq_getElem (by omega)
        have a3 : (pairUp xs ys)[j] = .tup [xs[j], ys[j]] := Option.some.inj ((List.getElem?_eq_getElem hj).symm.trans (pair_at a1 a2))
        rw [a3]
        obtain ⟨C4, h4, e4⟩ := ih j _ _ a1 a2 k C3 (hs.trans h3)
        exact ⟨[some (.ref r), some (.ref q), some xs[j], some ys[j]], rfl, C4, (ev_call (l := [xs[j], ys[j]]) rfl).trans e4, h4⟩)
    have ty : ∀ z zs, C1.get z = some (.lst zs) → biW .isi [.ref z, .ty "list"] C1 = .ok (.bl true) C1 ∧ biW .isi [.ref z, .ty "tuple"] C1 = .ok (.bl false) C1 ∧ biW .isi [.ref z, .tup [.ty "list", .ty "tuple"]] C1 = .ok (.bl true) C1 := fun z zs h => by
      refine ⟨?_, ?_, ?_⟩ <;> simp [biW, tyW, h, isiOne, isiAny]
    obtain ⟨r1, r2, r3⟩ := ty r xs hr1
    obtain ⟨q1, q2, q3⟩ := ty q ys hq1
    exact ⟨C2, h2, same_seq (k := k + n + 1) (n := xs.length) (m := 0) (b1 := true) (b2 := false) r1 q1 r2 q2 q3 (len_ref hr1) (by rw [hl]; exact len_ref hq1) e2⟩
end K04
end
section
set_option Elab.async false
set_option linter.all false
set_option maxRecDepth 100000
set_option maxHeartbeats 1000000
namespace K04
open PySem RF
theorem exs_par {run : Nat → List W → CH → R W} {is : List Nat} {es : CE} {s s1 : St} {C C1 : CH} {l : List W} (he : ev run es s C = .ok (.tup l) C1) (hs : setAll s is l = some s1) : exs run (.par is es) s C = .nx s1 C1 := by
  simp [exs, he, RF.R.st, hs]
def fStep (c : Cr) (w : List Ver) (n i a : Nat) : Sl → Option (Nat × Nat)
  | .new _ _ => some (i, a)
  | .kept p s => fnd c w n (elderAt w i p) s
  | .no => none
theorem fnd_at {c : Cr} {w : List Ver} {n i a : Nat} {o : Sl} (h : (slotsAt c w i)[a]? = some o) : fnd c w (n + 1) i a = fStep c w n i a o := by
  rw [fnd, h]
  cases o <;> rfl
def fBody : CS := (.cons (.set 4 (.ix (.var 1) (.var 2))) (.cons (.set 5 (.ix (.ix (.ix (.ix (.var 0) (.lit (.int 1))) (.ix (.var 4) (.lit (.int 0)))) (.lit (.int 4))) (.var 3))) (.cons (.ifs (.cmp .NotEq (.ix (.var 5) (.lit (.int 0))) (.lit (.str "kept"))) (.cons (.ret (.ite (.cmp .Eq (.ix (.var 5) (.lit (.int 0))) (.lit (.str "new"))) (.tup (.cons (.var 2) (.cons (.var 3) .nil))) (.lit .non))) .nil) .nil) (.cons (.par [2, 3] (.cons (.ix (.ix (.var 4) (.lit (.int 1))) (.ix (.var 5) (.lit (.int 1)))) (.cons (.ix (.var 5) (.lit (.int 2))) .nil))) .nil))))
theorem found_loop (k : Nat) (c : Cr) (hc : CrOk c) (w : List Ver) (hw : WbOk c w) (C : CH) : ∀ (n i a : Nat) (s4 s5 : Option W) (v : Ver) (r : Row) (o : Sl), w[i]? = some v → c.rows[v.1]? = some r → r.sl[a]? = some o → i < n →
    whL (ev (RF.run T.fs k) (.lit (.bl true))) (exs (RF.run T.fs k) fBody) n [some (crW c), some (webW w), some (nW i), some (nW a), s4, s5] C = .rt (optW (fnd c w (i + 1) i a)) C
  | n + 1, i, a, s4, s5, v, r, o, hv, hr, ho, hi => by
    let s0 : St := [some (crW c), some (webW w), some (nW i), some (nW a), s4, s5]
    let s1 : St := [some (crW c), some (webW w), some (nW i), some (nW a), some (verW v), s5]
    let s2 : St := [some (crW c), some (webW w), some (nW i), some (nW a), some (verW v), some (slW o)]
    have hvw : (w.map verW)[i]? = some (verW v) := by rw [List.getElem?_map, hv] <;> rfl
    have hsl : (r.sl.map slW)[a]? = some (slW o) := by rw [List.getElem?_map, ho] <;> rfl
    have esl := slots_len hv hr
    have e1 : ev (RF.run T.fs k) (.ix (.var 1) (.var 2)) s0 C = .ok (verW v) C := ev_ixs (C1 := C) (C2 := C) (x := webW w) (y := nW i) rfl rfl (ix_tup hvw C)
    have e2 : ev (RF.run T.fs k) (.ix (.ix (.ix (.ix (.var 0) (.lit (.int 1))) (.ix (.var 4) (.lit (.int 0)))) (.lit (.int 4))) (.var 3)) s1 C = .ok (slW o) C :=
      ev_ixs (C1 := C) (C2 := C) (x := .tup (r.sl.map slW)) (y := nW a) (ev_ixs (C1 := C) (C2 := C) (x := rowW r) (y := nW 4) (ev_ixs (C1 := C) (C2 := C) (x := .tup (c.rows.map rowW)) (y := nW v.1) (ev_ixs (C1 := C) (C2 := C) (x := crW c) (y := nW 1) rfl rfl (ix_tup rfl C)) (ev_ixs (C1 := C) (C2 := C) (x := verW v) (y := nW 0) rfl rfl (ix_tup rfl C)) (ix_tup (rows_at hr) C)) rfl (ix_tup rfl C)) rfl (ix_tup hsl C)
    have hd : exs (RF.run T.fs k) fBody s0 C = exs (RF.run T.fs k) (.cons (.ifs (.cmp .NotEq (.ix (.var 5) (.lit (.int 0))) (.lit (.str "kept"))) (.cons (.ret (.ite (.cmp .Eq (.ix (.var 5) (.lit (.int 0))) (.lit (.str "new"))) (.tup (.cons (.var 2) (.cons (.var 3) .nil))) (.lit .non))) .nil) .nil) (.cons (.par [2, 3] (.cons (.ix (.ix (.var 4) (.lit (.int 1))) (.ix (.var 5) (.lit (.int 1)))) (.cons (.ix (.var 5) (.lit (.int 2))) .nil))) .nil)) s2 C :=
      (exs_cons (exs_set e1 rfl)).trans (exs_cons (exs_set e2 rfl))
    have hx : ∀ (t : RS), exs (RF.run T.fs k) fBody s0 C = t → whL (ev (RF.run T.fs k) (.lit (.bl true))) (exs (RF.run T.fs k) fBody) (n + 1) s0 C = (match t with
        | .nx s2 h2 => whL (ev (RF.run T.fs k) (.lit (.bl true))) (exs (RF.run T.fs k) fBody) n s2 h2
        | .ct s2 h2 => whL (ev (RF.run T.fs k) (.lit (.bl true))) (exs (RF.run T.fs k) fBody) n s2 h2
        | .bk s2 h2 => .nx s2 h2
        | .rt w h2 => .rt w h2
        | .exc c ws h2 => .exc c ws h2
        | .bad => .bad) := fun t ht => by
      rw [whL, ← ht]
      rfl
    have hf := fnd_at (n := i) (a := a) (esl ▸ ho : (slotsAt c w i)[a]? = some o)
    cases o with
    | no =>
      rw [hf]
      refine (hx (.rt .non C) (hd.trans (exs_rt ((exs_yes (w := .bl true) (h1 := C) ?_ rfl).trans (exs_rt (exs_ret ?_)))))).trans rfl
      · exact ev_cmps (C1 := C) (C2 := C) (x := .str "none") (y := .str "kept") (ev_ixs (C1 := C) (C2 := C) (x := slW .no) (y := nW 0) rfl rfl (ix_tup rfl C)) rfl (ne_str _ _ _ s_nk C)
      · exact (ev_iteF (w := .bl false) (C1 := C) (ev_cmps (C1 := C) (C2 := C) (x := .str "none") (y := .str "new") (ev_ixs (C1 := C) (C2 := C) (x := slW .no) (y := nW 0) rfl rfl (ix_tup rfl C)) rfl (eq_str _ _ _ s_nw C)) rfl).trans rfl
    | new c0 ws =>
      rw [hf]
      refine (hx (.rt (prW (i, a)) C) (hd.trans (exs_rt ((exs_yes (w := .bl true) (h1 := C) ?_ rfl).trans (exs_rt (exs_ret ?_)))))).trans rfl
      · exact ev_cmps (C1 := C) (C2 := C) (x := .str "new") (y := .str "kept") (ev_ixs (C1 := C) (C2 := C) (x := slW (.new c0 ws)) (y := nW 0) rfl rfl (ix_tup rfl C)) rfl (ne_str _ _ _ s_wk C)
      · exact (ev_iteT (w := .bl true) (C1 := C) (ev_cmps (C1 := C) (C2 := C) (x := .str "new") (y := .str "new") (ev_ixs (C1 := C) (C2 := C) (x := slW (.new c0 ws)) (y := nW 0) rfl rfl (ix_tup rfl C)) rfl (eq_str _ _ _ s_ww C)) rfl).trans rfl
    | kept p s =>
      rw [hf]
      have vok := hw.ok i v hv
      obtain ⟨r', hr', hl, hsh⟩ := id vok
      rw [hr] at hr'
      cases hr'
      obtain ⟨e, n1, q1, q2, q3⟩ := (hc.ok r (List.mem_of_getElem? hr)).sls _ (List.mem_of_getElem? ho)
      have q2 : c.sz[e]? = some n1 := q2
      have hp : p < v.2.length := by rw [hl]; exact lt_of q1
      have he : v.2[p]? = some v.2[p] := List.getElem?_eq_getElem hp
      have hlt := elder_lt vok he
      have ee : elderAt w i p = v.2[p] := by
        unfold elderAt
        rw [hv]
        show v.2.getD p 0 = _
        rw [List.getD_eq_getElem?_getD, he] <;> rfl
      have hsE := hsh p v.2[p] e he q1
      have hw2 : v.2[p] < w.length := Nat.lt_trans hlt (lt_of hv)
      have hve : w[v.2[p]]? = some w[v.2[p]] := List.getElem?_eq_getElem hw2
      obtain ⟨r2, hr2, _⟩ := hw.ok _ _ hve
      have hlen : r2.sl.length = n1 := by
        have e5 : shOf c w[v.2[p]] = e := by
          rw [List.getElem?_take_of_lt hlt, shapes, List.getElem?_map, hve] at hsE
          exact Option.some.inj hsE
        unfold shOf at e5
        rw [hr2] at e5
        have e5 : r2.sh = e := e5
        have := (hc.ok r2 (List.mem_of_getElem? hr2)).shz
        rw [e5, q2] at this
        exact (Option.some.inj this).symm
      have hs5 : s < r2.sl.length := by rw [hlen]; exact q3
      have ih := found_loop k c hc w hw C n v.2[p] s (some (verW v)) (some (slW (.kept p s))) w[v.2[p]] r2 r2.sl[s] hve hr2 (List.getElem?_eq_getElem hs5) (by omega)
      show _ = RS.rt (optW (fnd c w i (elderAt w i p) s)) C
      rw [ee, fnd_more hc hw i (v.2[p] + 1) _ _ hlt (by omega), ← ih]
      refine (hx (.nx [some (crW c), some (webW w), some (nW v.2[p]), some (nW s), some (verW v), some (slW (.kept p s))] C) (hd.trans ((exs_cons (exs_no (w := .bl false) (h1 := C) ?_ rfl)).trans ((exs_cons (exs_par (l := [nW v.2[p], nW s]) (C1 := C) ?_ rfl)).trans rfl)))).trans rfl
      · exact ev_cmps (C1 := C) (C2 := C) (x := .str "kept") (y := .str "kept") (ev_ixs (C1 := C) (C2 := C) (x := slW (.kept p s)) (y := nW 0) rfl rfl (ix_tup rfl C)) rfl (ne_str _ _ _ s_kk C)
      · exact ev_two (C1 := C) (ev_ixs (C1 := C) (C2 := C) (x := .tup (v.2.map nW)) (y := nW p) (ev_ixs (C1 := C) (C2 := C) (x := verW v) (y := nW 1) rfl rfl (ix_tup rfl C)) (ev_ixs (C1 := C) (C2 := C) (x := slW (.kept p s)) (y := nW 1) rfl rfl (ix_tup rfl C)) (ix_tup (nW_at he) C)) (ev_ixs (C1 := C) (C2 := C) (x := slW (.kept p s)) (y := nW 2) rfl rfl (ix_tup rfl C))
theorem found_ (k : Nat) (c : Cr) (hc : CrOk c) (w : List Ver) (hw : WbOk c w) (C : CH) {i a : Nat} {v : Ver} {r : Row} {o : Sl} (hv : w[i]? = some v) (hr : c.rows[v.1]? = some r) (ho : r.sl[a]? = some o) : RF.run T.fs (k + 1) 46 [crW c, webW w, nW i, nW a] C = .ok (optW (fnd c w (i + 1) i a)) C := by
  refine call_rt (d := c46) rfl rfl (exs_rt ?_)
  have hl := hw.ln
  have := lt_of hv
  exact found_loop k c hc w hw C fuel i a none none v r o hv hr ho (Nat.lt_trans (show i < 1000 by omega) (by decide))
end K04
end
section
set_option Elab.async false
set_option linter.all false
set_option maxRecDepth 100000
set_option maxHeartbeats 1000000
namespace K04
open PySem RF
def hds : List HD := [⟨0, 1, (some 4), none, true, [(.lit (.str "no")), (.fld "number"), (.isx "LookupError" true)]⟩, ⟨1, 1, (some 4), none, true, [(.lit (.str "slot")), (.fld "slot"), (.isx "LookupError" true)]⟩, ⟨2, 0, (some 4), none, true, [(.lit (.str "unfit")), (.isx "ValueError" true)]⟩]
def unfitL : List W := [.str "unfit", .bl true]
theorem hd_unfit {s : St} (h : s.length = 5) (C : CH) : hdW hds 2 [] s C = .rt (.ref C.n) (C.new (.lst unfitL)) := by
  have h4 : Nat.blt 4 s.length = true := by rw [h] <;> rfl
  simp [hds, hdW, okNm, h4, mapO, hiW, hvW, short, unfitL]
theorem try_rt {run : Nat → List W → CH → R W} {b : CS} {hs : List HD} {s : St} {C C1 : CH} {w : W} (hp : plainS b = true) (h : exs run b s C = .rt w C1) : exs run (.trys b hs) s C = .rt w C1 := by
  rw [exs, hp]
  show (match exs run b s C with
    | .exc c ws h1 => hdW hs c ws s h1
    | r => r) = _
  rw [h]
theorem try_exc {run : Nat → List W → CH → R W} {b : CS} {hs : List HD} {s : St} {C C1 : CH} {c : Nat} {ws : List W} (hp : plainS b = true) (h : exs run b s C = .exc c ws C1) : exs run (.trys b hs) s C = hdW hs c ws s C1 := by
  rw [exs, hp]
  show (match exs run b s C with
    | .exc c ws h1 => hdW hs c ws s h1
    | r => r) = _
  rw [h]
theorem exs_retX {run : Nat → List W → CH → R W} {e : CE} {s : St} {h h1 : CH} {c : Nat} {us : List W} (q : ev run e s h = .exc c us h1) : exs run (.ret e) s h = .exc c us h1 := by
  simp [exs, q, RF.R.st]
/-- what the law's ear tells of a wait, by both doors -/
def Heard (C : CH) (u : W) (o : Sl) (d : W) : Prop := if isNew o = true then u = d else ∃ r, u = .ref r ∧ C.get r = some (.lst unfitL)
theorem heard_ (k : Nat) (c : Cr) (hc : CrOk c) (w : List Ver) (hw : WbOk c w) {i a : Nat} {v : Ver} {r : Row} {o : Sl} (hv : w[i]? = some v) (hr : c.rows[v.1]? = some r) (ho : r.sl[a]? = some o) {x y wt : W} {C : CH} (hC : C.os.length = C.n) (hx : TD C 7 x (crW c)) (hy : TD C 3 y (webW w)) (hwt : ∀ C1, Sub0 C C1 → items C1 wt = some [nW i, nW a]) :
    (∃ u C', Sub0 C C' ∧ RF.run T.fs (k + 12) 44 [.int 0, x, y, wt] C = .ok u C' ∧ Heard C' u o (match o with
      | .new _ ws => .tup ((wantsL c w i ws).map prW)
      | _ => .non)) ∧ ∃ u C', Sub0 C C' ∧ RF.run T.fs (k + 12) 44 [.int 1, x, y, wt] C = .ok u C' ∧ Heard C' u o (.tup ((List.range' 0 w.length).flatMap (holdsAt c w (i, a)))) := by
  have no2 : ∀ d : Int, d ≠ 2 → ev (RF.run T.fs (k + 11)) (.cmp .Eq (.var 0) (.lit (.int 2))) [some (.int d), some x, some y, some wt, none] C = .ok (.bl false) C := fun d hd => by
    refine ev_cmps (C1 := C) (C2 := C) (x := .int d) (y := .int 2) rfl rfl ?_
    have : decide (d = 2) = false := decide_eq_false hd
    simp only [cmpW, eqW_int, this]
  have is0 : ∀ d : Int, ev (RF.run T.fs (k + 11)) (.cmp .Eq (.var 0) (.lit (.int 0))) [some (.int d), some x, some y, some wt, none] C = .ok (.bl (decide (d = 0))) C := fun d => by
    refine ev_cmps (C1 := C) (C2 := C) (x := .int d) (y := .int 0) rfl rfl ?_
    simp only [cmpW, eqW_int]
  constructor
  · obtain ⟨C1, h1, e1⟩ := wanted k c hc w hw hv hr ho hC hx hy hwt
    have ec : ev (RF.run T.fs (k + 11)) (.ite (.cmp .Eq (.var 0) (.lit (.int 0))) (.call 27 (.cons (.var 1) (.cons (.var 2) (.cons (.var 3) .nil)))) (.call 28 (.cons (.var 1) (.cons (.var 2) (.cons (.var 3) .nil))))) [some (.int 0), some x, some y, some wt, none] C = _ := (ev_iteT (is0 0) rfl).trans ((ev_call (l := [x, y, wt]) rfl).trans e1)
    have st := exs_cons (b := .cons (.ret (.ite (.cmp .Eq (.var 0) (.lit (.int 0))) (.call 27 (.cons (.var 1) (.cons (.var 2) (.cons (.var 3) .nil)))) (.call 28 (.cons (.var 1) (.cons (.var 2) (.cons (.var 3) .nil)))))) .nil) (exs_no (a := .cons (.ret (.call 25 (.cons (.var 1) (.cons (.var 2) .nil)))) .nil) (no2 0 (by decide)) rfl)
    cases o with
    | new c0 ws => exact ⟨_, C1, h1, call_rt (d := c44) rfl rfl (exs_rt (try_rt rfl (st.trans (exs_rt (exs_ret ec))))), rfl⟩
    | no => exact ⟨.ref C1.n, C1.new (.lst unfitL), h1.new _, call_rt (d := c44) rfl rfl (exs_rt ((try_exc rfl (st.trans (exs_exc (exs_retX ec)))).trans (hd_unfit rfl C1))), C1.n, rfl, new_at h1.wf _⟩
    | kept p s => exact ⟨.ref C1.n, C1.new (.lst unfitL), h1.new _, call_rt (d := c44) rfl rfl (exs_rt ((try_exc rfl (st.trans (exs_exc (exs_retX ec)))).trans (hd_unfit rfl C1))), C1.n, rfl, new_at h1.wf _⟩
  · obtain ⟨C1, h1, e1⟩ := holders k c hc w hw hv hr ho hC hx hy hwt
    have ec : ev (RF.run T.fs (k + 11)) (.ite (.cmp .Eq (.var 0) (.lit (.int 0))) (.call 27 (.cons (.var 1) (.cons (.var 2) (.cons (.var 3) .nil)))) (.call 28 (.cons (.var 1) (.cons (.var 2) (.cons (.var 3) .nil))))) [some (.int 1), some x, some y, some wt, none] C = _ := (ev_iteF (is0 1) rfl).trans ((ev_call (l := [x, y, wt]) rfl).trans e1)
    have st := exs_cons (b := .cons (.ret (.ite (.cmp .Eq (.var 0) (.lit (.int 0))) (.call 27 (.cons (.var 1) (.cons (.var 2) (.cons (.var 3) .nil)))) (.call 28 (.cons (.var 1) (.cons (.var 2) (.cons (.var 3) .nil)))))) .nil) (exs_no (a := .cons (.ret (.call 25 (.cons (.var 1) (.cons (.var 2) .nil)))) .nil) (no2 1 (by decide)) rfl)
    cases hn : isNew o with
    | true =>
      rw [hn, if_pos rfl] at ec
      refine ⟨_, C1, h1, call_rt (d := c44) rfl rfl (exs_rt (try_rt rfl (st.trans (exs_rt (exs_ret ec))))), ?_⟩
      unfold Heard
      rw [hn, if_pos rfl]
    | false =>
      rw [hn, if_neg (by decide)] at ec
      refine ⟨.ref C1.n, C1.new (.lst unfitL), h1.new _, call_rt (d := c44) rfl rfl (exs_rt ((try_exc rfl (st.trans (exs_exc (exs_retX ec)))).trans (hd_unfit rfl C1))), ?_⟩
      unfold Heard
      rw [hn, if_neg (by decide)]
      exact ⟨C1.n, rfl, new_at h1.wf _⟩
end K04
end
section
set_option Elab.async false
set_option linter.all false
set_option maxRecDepth 100000
set_option maxHeartbeats 1000000
namespace K04
open PySem RF
/-- ints, None, tuples of such, so deep -/
inductive PI : Nat → W → Prop
  | int {n : Nat} (i : Int) : PI n (.int i)
  | non {n : Nat} : PI n .non
  | tup {n : Nat} {xs : List W} (hs : xs.length < 1000) (h : ∀ x ∈ xs, PI n x) : PI (n + 1) (.tup xs)
theorem PI.sm {n : Nat} {w : W} (h : PI n w) (C : CH) : SM C n w w := by
  induction h with
  | int i => exact .int i
  | non => exact .non
  | tup hs _ ih =>
    refine .tup rfl hs fun i x y hx hy => ?_
    rw [hx] at hy
    cases hy
    exact ih x (List.mem_of_getElem? hx)
theorem mapO_all {α β : Type} {f : α → Option β} {P : β → Prop} : ∀ {xs : List α}, (∀ x ∈ xs, ∃ d, f x = some d ∧ P d) → ∃ ds, mapO f xs = some ds ∧ ds.length = xs.length ∧ ∀ d ∈ ds, P d
  | [], _ => ⟨[], rfl, rfl, fun _ h => by cases h⟩
  | x :: xs, h => by
    obtain ⟨d, e, p⟩ := h x (List.mem_cons_self ..)
    obtain ⟨ds, e2, hl, p2⟩ := mapO_all (xs := xs) fun y hy => h y (List.mem_cons_of_mem _ hy)
    refine ⟨d :: ds, by simp only [mapO, e, e2], by simp [hl], fun y hy => ?_⟩
    rcases List.mem_cons.mp hy with rfl | hy
    · exact p
    · exact p2 y hy
theorem lay_all : ∀ {ds : List PyData} {n : Nat}, (∀ d ∈ ds, d.canLay0 = true ∧ d.depth ≤ n) → PyData.canLayAll0 ds = true ∧ PyData.depthAll ds ≤ n
  | [], n, _ => by simp only [PyData.canLayAll0, PyData.depthAll]; exact ⟨trivial, Nat.zero_le _⟩
  | d :: ds, n, h => by
    obtain ⟨h1, h2⟩ := h d (List.mem_cons_self ..)
    obtain ⟨h3, h4⟩ := lay_all (ds := ds) (n := n) fun y hy => h y (List.mem_cons_of_mem _ hy)
    simp only [PyData.canLayAll0, PyData.depthAll, h1, h3, Bool.and_self]
    exact ⟨trivial, Nat.max_le.mpr ⟨h2, h4⟩⟩
theorem PI.dat {n : Nat} {w : W} (h : PI n w) : ∀ (C : CH) (m : Nat), n < m → ∃ d, toD C m w = some d ∧ (d.canLay0 = true ∧ d.depth ≤ n) := by
  induction h with
  | @int n i =>
    intro C m hm
    obtain ⟨m, rfl⟩ : ∃ k, m = k + 1 := ⟨m - 1, by omega⟩
    exact ⟨.int i, rfl, by simp only [PyData.canLay0, PyData.depth]; exact ⟨trivial, Nat.zero_le _⟩⟩
  | @non n =>
    intro C m hm
    obtain ⟨m, rfl⟩ : ∃ k, m = k + 1 := ⟨m - 1, by omega⟩
    exact ⟨.none, rfl, by simp only [PyData.canLay0, PyData.depth]; exact ⟨trivial, Nat.zero_le _⟩⟩
  | @tup n xs hs _ ih =>
    intro C m hm
    obtain ⟨m, rfl⟩ : ∃ k, m = k + 1 := ⟨m - 1, by omega⟩
    obtain ⟨ds, e, hl, p⟩ := mapO_all (xs := xs) fun x hx => ih x hx C m (by omega)
    obtain ⟨q1, q2⟩ := lay_all p
    refine ⟨.tuple ds, by simp only [toD, e], ?_, ?_⟩
    · simp only [PyData.canLay0]; exact q1
    · simp only [PyData.depth]; omega
theorem shaped_ {d : PyData} (h1 : d.canLay0 = true) (h2 : d.depth ≤ 64) : SeqAt.shaped d = true := by
  unfold SeqAt.shaped
  rw [h1, decide_eq_true h2] <;> rfl
theorem eqv_nilT (ds : List PyData) : PyData.eqv (.tuple ds) (.tuple []) = ds.isEmpty := by cases ds <;> simp [PyData.eqv, PyData.eqvAll]
theorem eqv_nilL (ds : List PyData) : PyData.eqv (.list ds) (.list []) = ds.isEmpty := by cases ds <;> simp [PyData.eqv, PyData.eqvAll]
theorem emp_len {α β : Type} {xs : List α} {ys : List β} (h : xs.length = ys.length) : xs.isEmpty = ys.isEmpty := by cases xs <;> cases ys <;> first | rfl | simp at h
theorem eq_nil_tup {xs : List W} {n : Nat} (h : ∀ x ∈ xs, PI n x) (hn : n < 50) (C : CH) : eqW C (.tup xs) (.tup []) = some xs.isEmpty := by
  obtain ⟨ds, e, hl, p⟩ := mapO_all (f := toD C 59) (xs := xs) fun x hx => (h x hx).dat C 59 (by omega)
  obtain ⟨q1, q2⟩ := lay_all p
  have e1 : toD C 60 (.tup xs) = some (.tuple ds) := by
    show (match mapO (toD C 59) xs with
      | some ds => some (PyData.tuple ds)
      | none => none) = _
    rw [e]
  have e2 : toD C 60 (.tup []) = some (.tuple []) := rfl
  have s1 : SeqAt.shaped (.tuple ds) = true := shaped_ (by simp only [PyData.canLay0]; exact q1) (by simp only [PyData.depth]; omega)
  have s2 : SeqAt.shaped (.tuple []) = true := shaped_ (by simp only [PyData.canLay0, PyData.canLayAll0]) (by simp only [PyData.depth, PyData.depthAll]; omega)
  unfold eqW
  rw [e1, e2]
  show (if SeqAt.shaped (.tuple ds) && SeqAt.shaped (.tuple []) then some (PyData.eqv (.tuple ds) (.tuple [])) else none) = _
  rw [s1, s2, eqv_nilT, emp_len hl] <;> rfl
theorem eq_nil_ref {xs : List W} {n g q : Nat} {C : CH} (hg : C.get g = some (.lst xs)) (hq : C.get q = some (.lst [])) (h : ∀ x ∈ xs, PI n x) (hn : n < 50) : eqW C (.ref g) (.ref q) = some xs.isEmpty := by
  obtain ⟨ds, e, hl, p⟩ := mapO_all (f := toD C 59) (xs := xs) fun x hx => (h x hx).dat C 59 (by omega)
  obtain ⟨q1, q2⟩ := lay_all p
  have e1 : toD C 60 (.ref g) = some (.list ds) := by
    show (match C.get g with
      | some (.lst xs) => (match mapO (toD C 59) xs with
        | some ds => some (PyData.list ds)
        | none => none)
      | _ => none) = _
    rw [hg]
    show (match mapO (toD C 59) xs with
        | some ds => some (PyData.list ds)
        | none => none) = _
    rw [e]
  have e2 : toD C 60 (.ref q) = some (.list []) := by
    show (match C.get q with
      | some (.lst xs) => (match mapO (toD C 59) xs with
        | some ds => some (PyData.list ds)
        | none => none)
      | _ => none) = _
    rw [hq] <;> rfl
  have s1 : SeqAt.shaped (.list ds) = true := shaped_ (by simp only [PyData.canLay0]; exact q1) (by simp only [PyData.depth]; omega)
  have s2 : SeqAt.shaped (.list []) = true := shaped_ (by simp only [PyData.canLay0, PyData.canLayAll0]) (by simp only [PyData.depth, PyData.depthAll]; omega)
  unfold eqW
  rw [e1, e2]
  show (if SeqAt.shaped (.list ds) && SeqAt.shaped (.list []) then some (PyData.eqv (.list ds) (.list [])) else none) = _
  rw [s1, s2, eqv_nilL, emp_len hl] <;> rfl
/-! ### draws -/
abbrev Go (t : Nat) := Sub (fun r => r = t)
theorem _root_.RF.Sub.at {t r : Nat} {C C' : CH} {o : CO} (s : Go t C C') (h : C.get r = some o) (hr : r ≠ t) : C'.get r = some o := s.keep r o hr h
theorem Box.keep {C C' : CH} {t : Nat} {s n : Int} (b : Box C t s n) (h : Sub0 C C') : Box C' t s n := by
  obtain ⟨⟨a, h1, h2⟩, h3⟩ := b
  exact ⟨⟨a, h1, h.keep _ _ (fun z => z) h2⟩, h3⟩
theorem Box.at {C : CH} {t : Nat} {s n : Int} (b : Box C t s n) : ∃ a, C.get t = some (.lst [.int a, .int s, .int n]) := by
  obtain ⟨⟨a, h1, h2⟩, h3⟩ := b
  exact ⟨a, h2⟩
theorem Box.lt {C : CH} {t : Nat} {s n : Int} (b : Box C t s n) : t < C.n := by
  obtain ⟨a, h⟩ := b.at
  exact CH.get_lt h
theorem Box.set {C : CH} (hC : C.os.length = C.n) {t : Nat} {s n : Int} (b : Box C t s n) {q : Nat} (hq : q < C.n) (hn : q ≠ t) (o : CO) : Box (C.set q o) t s n := by
  obtain ⟨⟨a, h1, h2⟩, h3⟩ := b
  refine ⟨⟨a, h1, ?_⟩, h3⟩
  rw [get_set hC hq, if_neg (Ne.symm hn)]
  exact h2
theorem Box.new {C : CH} (hC : C.os.length = C.n) {t : Nat} {s n : Int} (b : Box C t s n) (o : CO) : Box (C.new o) t s n := b.keep ((Sub.refl hC).new o)
theorem ix_tupA {xs : List W} {i : Nat} {w : W} (h : xs[i]? = some w) (C : CH) : ixW (.tup xs) (nW i) C = .ok w C := ix_tup h C
/-- one of a list -/
theorem of_ (k : Nat) {C : CH} (hC : C.os.length = C.n) {t g : Nat} {s n : Int} {xs : List W} (b : Box C t s n) (hn : n < 900000) (hg : C.get g = some (.lst xs)) (hgt : g ≠ t) (hx : xs ≠ []) (hl : xs.length < 1000000) :
    ∃ (d : Nat) (x : W) (n' : Int) (C' : CH), RF.run T.fs (k + 2) 33 [.ref t, .ref g] C = .ok x C' ∧ xs[d]? = some x ∧ Go t C C' ∧ Box C' t s n' ∧ n' ≤ n + 1 := by
  obtain ⟨d, n', C', e, hd, go, b', hn'⟩ := take_ k hC b (by omega) xs.length (List.length_pos_iff.mpr hx) hl
  have hx2 : xs[d]? = some xs[d] := List.getElem?_eq_getElem hd
  refine ⟨d, xs[d], n', C', call_rt (d := c33) rfl rfl (exs_rt (exs_ret ?_)), hx2, go, b', hn'⟩
  have e1 : ev (RF.run T.fs (k + 1)) (.call 31 (.cons (.var 0) (.cons (.bi .len (.cons (.var 1) .nil)) .nil))) [some (.ref t), some (.ref g)] C = .ok (nW d) C' :=
    (ev_call (ev_two (w := .ref t) (u := nW xs.length) rfl (ev_bi (ev_one (w := .ref g) rfl) (len_ref hg)))).trans e
  exact ev_ixs (C1 := C) (C2 := C') (x := .ref g) (y := nW d) rfl e1 (ix_ref (go.at hg hgt) hx2)
theorem seq_ix (d l : Nat) (h : d < l) : seqIndex? (d : Int) l = some d := by
  unfold seqIndex?
  simp
  omega
theorem ev_popAt {run : Nat → List W → CH → R W} {o es : CE} {s : St} {C C1 C2 : CH} {r d : Nat} {xs : List W} (ho : ev run o s C = .ok (.ref r) C1) (hg : C1.get r = some (.lst xs)) (he : ev run es s C1 = .ok (.tup [nW d]) C2) (hg2 : C2.get r = some (.lst xs)) (hd : d < xs.length) (hl : xs.length ≤ 1000000) :
    ev run (.meth .popAt o es) s C = .ok xs[d] (C2.set r (.lst (xs.eraseIdx d))) := by
  have h1 : meRcv C1 .popAt (.ref r) = true := by simp [meRcv, lstAt, hg]
  have h2 : (decide (-1000000 ≤ (d : Int)) && decide ((d : Int) ≤ 1000000)) = true := by
    rw [Bool.and_eq_true, decide_eq_true_eq, decide_eq_true_eq]
    omega
  have h3 : xs[d]? = some xs[d] := List.getElem?_eq_getElem hd
  simp only [ev, ho, RF.R.bind, h1, he, methW, hg2, h2, if_true, nW, seq_ix d xs.length hd, h3]
end K04
end
section
set_option Elab.async false
set_option linter.all false
set_option maxRecDepth 100000
set_option maxHeartbeats 1000000
namespace K04
open PySem RF
theorem small_ (i : Int) (h1 : -1000000 ≤ i) (h2 : i ≤ 1000000) : small i = true := by
  unfold small
  rw [Bool.and_eq_true, decide_eq_true_eq, decide_eq_true_eq]
  omega
theorem erase_map {α β : Type} (f : α → β) : ∀ (l : List α) (d : Nat), (l.map f).eraseIdx d = (l.eraseIdx d).map f
  | [], _ => rfl
  | x :: l, 0 => rfl
  | x :: l, d + 1 => by
    show f x :: (l.map f).eraseIdx d = f x :: (l.eraseIdx d).map f
    rw [erase_map f l d]
theorem upW_at {lo : Int} {n i : Nat} {x : W} (h : (upW lo n)[i]? = some x) : x = .int (lo + (i : Int)) ∧ i < n := by
  unfold upW at h
  rw [List.getElem?_map] at h
  by_cases hi : i < n
  · rw [List.getElem?_range hi] at h
    exact ⟨(Option.some.inj h).symm, hi⟩
  · rw [List.getElem?_eq_none (by rw [List.length_range]; omega)] at h
    cases h
theorem upW_len (lo : Int) (n : Nat) : (upW lo n).length = n := by
  unfold upW
  rw [List.length_map, List.length_range]
theorem ce_perm {α : Type} : ∀ {l : List α} {i : Nat} (h : i < l.length), (l[i] :: l.eraseIdx i).Perm l
  | a :: l, 0, _ => .refl _
  | a :: l, i + 1, h => by
    have ih := ce_perm (l := l) (i := i) (by simpa using h)
    show (l[i]'(by simpa using h) :: a :: l.eraseIdx i).Perm (a :: l)
    exact (List.Perm.swap _ _ _).trans (ih.cons a)
def pkB : CS := .cons (.expr (.meth .append (.var 4) (.cons (.meth .popAt (.var 3) (.cons (.call 31 (.cons (.var 0) (.cons (.bi .len (.cons (.var 3) .nil)) .nil))) .nil)) .nil))) .nil
theorem pick_ (k : Nat) {C : CH} (hC : C.os.length = C.n) {t g : Nat} {s n : Int} {ps : List (Nat × Nat)} (b : Box C t s n) (hn : n < 800000) (hg : C.get g = some (.lst (ps.map prW))) (hp : ps.Nodup) (hl : ps.length < 64) (m : Nat) (hm : m < 1000) :
    ∃ (r : Nat) (qs : List (Nat × Nat)) (n' : Int) (C' : CH), RF.run T.fs (k + 2) 34 [.ref t, .ref g, nW m] C = .ok (.ref r) C' ∧ C.n ≤ r ∧ C'.get r = some (.lst (qs.map prW)) ∧ qs.Nodup ∧ (∀ q ∈ qs, q ∈ ps) ∧ Go t C C' ∧ Box C' t s n' ∧ n' ≤ n + 64 := by
  have ht := b.lt
  let C1 := C.new (.lst (ps.map prW))
  let C2 := C1.new (.lst [])
  have h1 : Sub0 C C1 := (Sub.refl hC).new _
  have h2 : Sub0 C1 C2 := (Sub.refl h1.wf).new _
  have hn1 : C1.n = C.n + 1 := rfl
  let s0 : St := [some (.ref t), some (.ref g), some (nW m), none, none, none]
  let s1 : St := [some (.ref t), some (.ref g), some (nW m), some (.ref C.n), some (.ref C1.n), none]
  have e1 : ev (RF.run T.fs (k + 1)) (.cons (.bi .list (.cons (.var 1) .nil)) (.cons (.lst .nil) .nil)) s0 C = .ok (.tup [.ref C.n, .ref C1.n]) C2 := by
    refine ev_two (C1 := C1) (ev_bi (ev_one (w := .ref g) (C1 := C) rfl) ?_) rfl
    simp only [biW, items, hg]
    rfl
  let M := min m ps.length
  have g3 : C2.get C.n = some (.lst (ps.map prW)) := h2.keep _ _ (fun z => z) (new_at hC _)
  have g4 : C2.get C1.n = some (.lst []) := new_at h1.wf _
  have e2 : ev (RF.run T.fs (k + 1)) (.cons (.bi .min (.cons (.bi .int (.cons (.var 2) .nil)) (.cons (.bi .len (.cons (.var 3) .nil)) .nil))) .nil) s1 C2 = .ok (.tup [nW M]) C2 := by
    refine ev_one (ev_bi (ev_two (C1 := C2) (w := nW m) (u := .int ((ps.map prW).length : Int)) rfl (ev_bi (ev_one (w := .ref C.n) (C1 := C2) rfl) (len_ref g3))) ?_)
    show R.ok (W.int (if ((ps.map prW).length : Int) < (m : Int) then ((ps.map prW).length : Int) else (m : Int))) C2 = .ok (.int ((min m ps.length : Nat) : Int)) C2
    rw [List.length_map]
    have e : (if (ps.length : Int) < (m : Int) then (ps.length : Int) else (m : Int)) = ((min m ps.length : Nat) : Int) := by
      by_cases q : (ps.length : Int) < (m : Int)
      · rw [if_pos q, Nat.min_eq_right (by omega)]
      · rw [if_neg q, Nat.min_eq_left (by omega)]
    rw [e]
  have hM : M ≤ ps.length := Nat.min_le_right _ _
  have hs : src0 .rng1 [nW M] C2 = some (.upto 0 M) := by
    have : small ((M : Nat) : Int) = true := small_ _ (by omega) (by omega)
    simp only [src0, nW, this, if_true, Int.toNat_natCast]
  let Inv : Nat → St → CH → Prop := fun i st C3 => (∃ a5, st = [some (.ref t), some (.ref g), some (nW m), some (.ref C.n), some (.ref C1.n), a5]) ∧ Go t C C3 ∧ ∃ (n' : Int) (rest qs : List (Nat × Nat)), Box C3 t s n' ∧ n' ≤ n + i ∧ C3.get C.n = some (.lst (rest.map prW)) ∧ C3.get C1.n = some (.lst (qs.map prW)) ∧ (qs ++ rest).Perm ps ∧ qs.length = i
  have hf := forL_q (fb := exs (RF.run T.fs (k + 1)) pkB) (p := .nm 5) (I := fun _ => True) (q := fun i => .upto (0 + (i : Int)) (M - i)) (xs := upW 0 M) (tells_upto 0 M) Inv (fun _ _ => False) (fun _ _ _ _ => trivial) (fun i x st C3 hx hI => by
    obtain ⟨⟨a5, rfl⟩, go, n', rest, qs, bx, hn', gr, gq, pm, ql⟩ := hI
    obtain ⟨rfl, hi⟩ := upW_at hx
    have hlen : rest.length = ps.length - i := by
      have := pm.length_eq
      rw [List.length_append] at this
      omega
    have hpos : 0 < rest.length := by omega
    obtain ⟨d, n2, C4, e3, hd, go2, bx2, hn2⟩ := take_ k go.wf bx (by omega) rest.length hpos (by omega)
    let s3 : St := [some (.ref t), some (.ref g), some (nW m), some (.ref C.n), some (.ref C1.n), some (.int (0 + (i : Int)))]
    have r1 : C.n ≠ t := by omega
    have r2 : C1.n ≠ t := by omega
    have r3 : C.n ≠ C1.n := by omega
    have gr4 := go2.at gr r1
    have gq4 := go2.at gq r2
    have t1 : ev (RF.run T.fs (k + 1)) (.cons (.call 31 (.cons (.var 0) (.cons (.bi .len (.cons (.var 3) .nil)) .nil))) .nil) s3 C3 = .ok (.tup [nW d]) C4 := by
      refine ev_one ((ev_call (ev_two (C1 := C3) (w := .ref t) (u := nW rest.length) rfl (ev_bi (ev_one (w := .ref C.n) (C1 := C3) rfl) ?_))).trans e3)
      rw [len_ref gr, List.length_map] <;> rfl
    have t2 := ev_popAt (run := RF.run T.fs (k + 1)) (o := .var 3) (s := s3) (C := C3) rfl gr t1 gr4 (by rw [List.length_map]; exact hd) (by rw [List.length_map]; omega)
    have hlt : C.n < C4.n := CH.get_lt gr4
    have hlt2 : C1.n < C4.n := CH.get_lt gq4
    let C5 := C4.set C.n (.lst ((rest.map prW).eraseIdx d))
    have gA : Go t C C5 := (go.trans go2).set hlt (.inl (Nat.le_refl _)) _
    have gq5 : C5.get C1.n = some (.lst (qs.map prW)) := by
      rw [get_set go2.wf hlt, if_neg (Ne.symm r3)]
      exact gq4
    have gr5 : C5.get C.n = some (.lst ((rest.map prW).eraseIdx d)) := set_at go2.wf hlt _
    have hlt5 : C1.n < C5.n := hlt2
    have t3 := ev_app (run := RF.run T.fs (k + 1)) (o := .var 4) (s := s3) (C := C3) rfl gq (ev_one t2) gq5 (by rw [List.length_map]; omega)
    have ew : (rest.map prW)[d]'(by rw [List.length_map]; exact hd) = prW rest[d] := List.getElem_map _
    rw [ew] at t3
    let C6 := C5.set C1.n (.lst (qs.map prW ++ [prW rest[d]]))
    refine ⟨s3, rfl, .inl ⟨s3, C6, .inl ((exs_cons (exs_expr t3)).trans rfl), ⟨_, rfl⟩, gA.set hlt5 (.inl (by omega)) _, n2, rest.eraseIdx d, qs ++ [rest[d]], ?_, by omega, ?_, ?_, ?_, ?_⟩⟩
    · exact (bx2.set go2.wf hlt r1 _).set gA.wf hlt5 r2 _
    · rw [get_set gA.wf hlt5, if_neg r3, gr5, erase_map]
    · rw [set_at gA.wf hlt5, List.map_append] <;> rfl
    · rw [List.append_assoc, List.singleton_append]
      exact ((ce_perm hd).append_left qs).trans pm
    · rw [List.length_append, ql] <;> rfl) ((upW 0 M).length - 0) 0 fuel s1 C2 rfl (Nat.zero_le _) ⟨⟨none, rfl⟩, (h1.trans h2).any, n, ps, [], (b.keep h1).keep h2, by omega, g3, g4, by simp, rfl⟩ (by rw [upW_len]; exact Nat.lt_of_le_of_lt (show M - 0 ≤ 64 by omega) (by decide))
  rcases hf with ⟨s', C', e, ⟨⟨a5, rfl⟩, go, n', rest, qs, bx, hn', gr, gq, pm, ql⟩⟩ | ⟨_, _, _, h⟩
  · rw [upW_len] at hn' ql
    have hnd : (qs ++ rest).Nodup := pm.symm.nodup hp
    refine ⟨C1.n, qs, n', C', call_rt (d := c34) rfl rfl ?_, by omega, gq, (List.nodup_append.mp hnd).1, fun q hq => pm.subset (List.mem_append_left _ hq), go, bx, by omega⟩
    exact (exs_cons (exs_par (s1 := s1) e1 rfl)).trans ((exs_cons ((exs_loop e2 hs).trans e)).trans (exs_rt (exs_ret rfl)))
  · exact h.elim
end K04
end
section
set_option Elab.async false
set_option linter.all false
set_option maxRecDepth 100000
set_option maxHeartbeats 1000000
namespace K04
open PySem RF
/-- the pairs that are drawn from -/
def Good (ps : List (Nat × Nat)) : Prop := ps = [] ∨ ps = [(0, 0), (0, 1)] ∨ ps = [(0, 0), (1, 0)] ∨ ps = [(0, 0)]
theorem Good.nd {ps : List (Nat × Nat)} (h : Good ps) : ps.Nodup := by rcases h with rfl | rfl | rfl | rfl <;> decide
theorem Good.ln {ps : List (Nat × Nat)} (h : Good ps) : ps.length < 64 := by rcases h with rfl | rfl | rfl | rfl <;> decide
theorem asc0 : Asc [] := fun i a b h _ => by simp at h
theorem asc1 (p : Nat × Nat) : Asc [p] := fun i a b h h2 => by simp at h2
theorem asc2 {p q : Nat × Nat} (e : lexI (prI p) (prI q) = true) : Asc [p, q] := fun i a b h h2 => by
  cases i with
  | zero =>
    simp at h h2
    rw [← h, ← h2]
    exact e
  | succ i => simp at h2
theorem few2 {p q : Nat × Nat} : ∀ {qs : List (Nat × Nat)}, qs.Nodup → (∀ x ∈ qs, x = p ∨ x = q) → qs = [] ∨ qs = [p] ∨ qs = [q] ∨ qs = [p, q] ∨ qs = [q, p]
  | [], _, _ => .inl rfl
  | [a], _, h => by
    rcases h a (by simp) with rfl | rfl
    · exact .inr (.inl rfl)
    · exact .inr (.inr (.inl rfl))
  | [a, b], hn, h => by
    have hab : a ≠ b := fun e => by subst e; simp at hn
    rcases h a (by simp) with rfl | rfl <;> rcases h b (by simp) with rfl | rfl
    · exact absurd rfl hab
    · exact .inr (.inr (.inr (.inl rfl)))
    · exact .inr (.inr (.inr (.inr rfl)))
    · exact absurd rfl hab
  | a :: b :: c :: r, hn, h => by
    have hab : a ≠ b := fun e => by subst e; simp at hn
    have hac : a ≠ c := fun e => by subst e; simp at hn
    have hbc : b ≠ c := fun e => by subst e; simp at hn
    rcases h a (by simp) with rfl | rfl <;> rcases h b (by simp) with rfl | rfl <;> rcases h c (by simp) with rfl | rfl <;> first | exact absurd rfl hab | exact absurd rfl hac | exact absurd rfl hbc
theorem sort_pick {ps qs : List (Nat × Nat)} (h : Good ps) (hn : qs.Nodup) (hs : ∀ q ∈ qs, q ∈ ps) : ∃ ws, sortW (qs.map prW) = some (ws.map prW) ∧ Asc ws ∧ (∀ p ∈ ws, p ∈ ps) ∧ ws.length < 64 := by
  have go : ∀ p q : Nat × Nat, (∀ x ∈ qs, x = p ∨ x = q) → lexI (prI p) (prI q) = true → sortW [prW p] = some [prW p] → sortW [prW q] = some [prW q] → sortW [prW p, prW q] = some [prW p, prW q] → sortW [prW q, prW p] = some [prW p, prW q] →
      ∃ ws, sortW (qs.map prW) = some (ws.map prW) ∧ Asc ws ∧ (∀ p ∈ ws, p ∈ ps) ∧ ws.length < 64 := fun p q hx hl h1 h2 h3 h4 => by
    rcases few2 hn hx with rfl | rfl | rfl | rfl | rfl
    · exact ⟨[], by rfl, asc0, fun _ h => by simp at h, by decide⟩
    · exact ⟨[p], h1, asc1 p, hs, by simp⟩
    · exact ⟨[q], h2, asc1 q, hs, by simp⟩
    · exact ⟨[p, q], h3, asc2 hl, hs, by simp⟩
    · exact ⟨[p, q], h4, asc2 hl, fun x hx => hs x (by simpa [or_comm] using hx), by simp⟩
  rcases h with rfl | rfl | rfl | rfl
  · have : qs = [] := List.eq_nil_iff_forall_not_mem.mpr fun x hx => by simpa using hs x hx
    subst this
    exact ⟨[], by rfl, asc0, fun _ h => by simp at h, by decide⟩
  · exact go (0, 0) (0, 1) (fun x hx => by simpa using hs x hx) (by decide) (by kernel_rfl) (by kernel_rfl) (by kernel_rfl) (by kernel_rfl)
  · exact go (0, 0) (1, 0) (fun x hx => by simpa using hs x hx) (by decide) (by kernel_rfl) (by kernel_rfl) (by kernel_rfl) (by kernel_rfl)
  · exact go (0, 0) (1, 0) (fun x hx => .inl (by simpa using hs x hx)) (by decide) (by kernel_rfl) (by kernel_rfl) (by kernel_rfl) (by kernel_rfl)
/-- a slot filled out of ps -/
def PsOk (ps : List (Nat × Nat)) : Sl → Prop
  | .no => True
  | .kept p s => (p, s) ∈ ps
  | .new _ w => (∀ p ∈ w, p ∈ ps) ∧ Asc w ∧ w.length < 64
theorem PsOk.sl {ps : List (Nat × Nat)} {z el : List Nat} (ha : ∀ p ∈ ps, AskOk z el p) : ∀ {o : Sl}, PsOk ps o → SlOk z el o
  | .no, _ => trivial
  | .kept _ _, h => ha _ h
  | .new _ _, ⟨h1, h2, h3⟩ => ⟨fun p hp => ha p (h1 p hp), h2, h3⟩
theorem pi_pr (p : Nat × Nat) (n : Nat) : PI (n + 1) (prW p) := .tup (by simp) fun x hx => by
  simp at hx
  rcases hx with rfl | rfl <;> exact .int _
theorem ev_lst {run : Nat → List W → CH → R W} {es : CE} {s : St} {C C1 : CH} {l : List W} (h : ev run es s C = .ok (.tup l) C1) (hl : short l = true) : ev run (.lst es) s C = .ok (.ref C1.n) (C1.new (.lst l)) := by
  simp only [ev, h, RF.R.bind, hl, if_true]
theorem ev_eq0 {run : Nat → List W → CH → R W} {a : CE} {s : St} {C C1 : CH} {d : Nat} (h : ev run a s C = .ok (nW d) C1) : ev run (.cmp .Eq a (.lit (.int 0))) s C = .ok (.bl (decide (d = 0))) C1 := by
  refine ev_cmps (C1 := C1) (C2 := C1) (x := nW d) (y := .int 0) h rfl ?_
  have e : decide ((d : Int) = 0) = decide (d = 0) := by
    by_cases q : d = 0
    · rw [decide_eq_true q, decide_eq_true (by omega)]
    · rw [decide_eq_false q, decide_eq_false (by omega)]
  simp only [cmpW, nW, eqW_int, e]
theorem ev_take (k : Nat) {st : St} {C : CH} (hC : C.os.length = C.n) {t : Nat} {s n : Int} (h0 : st[0]? = some (some (.ref t))) (b : Box C t s n) (hn : n < 1000000) (m : Nat) (hm : 0 < m) (hm2 : m < 1000000) :
    ∃ (d : Nat) (n' : Int) (C' : CH), ev (RF.run T.fs (k + 1)) (.call 31 (.cons (.var 0) (.cons (.lit (.int (m : Int))) .nil))) st C = .ok (nW d) C' ∧ d < m ∧ Go t C C' ∧ Box C' t s n' ∧ n' ≤ n + 1 := by
  obtain ⟨d, n', C', e, hd, go, b', hn'⟩ := take_ k hC b hn m hm hm2
  refine ⟨d, n', C', (ev_call (ev_two (C1 := C) (w := .ref t) (u := nW m) ?_ rfl)).trans e, hd, go, b', hn'⟩
  simp only [ev, h0]
theorem short_of {α : Type} {xs : List α} (h : xs.length ≤ 1000000) : short xs = true := Nat.ble_eq_true_of_le h
theorem tup_ref {r : Nat} {xs : List W} {C : CH} (h : C.get r = some (.lst xs)) : biW .tuple [.ref r] C = .ok (.tup xs) C := by
  simp only [biW, items, h]
theorem filling_ (k : Nat) {C : CH} (hC : C.os.length = C.n) {t g : Nat} {s n : Int} {ps : List (Nat × Nat)} (b : Box C t s n) (hn : n < 700000) (hg : C.get g = some (.lst (ps.map prW))) (hgt : g ≠ t) (hp : Good ps) :
    ∃ (o : Sl) (n' : Int) (C' : CH), RF.run T.fs (k + 3) 39 [.ref t, .ref g] C = .ok (slW o) C' ∧ PsOk ps o ∧ Go t C C' ∧ Box C' t s n' ∧ n' ≤ n + 70 := by
  let s0 : St := [some (.ref t), some (.ref g), none, none]
  let C1 := C.new (.lst [])
  have h1 : Sub0 C C1 := (Sub.refl hC).new _
  have ec : ev (RF.run T.fs (k + 2)) (.cmp .NotEq (.var 1) (.lst .nil)) s0 C = .ok (.bl (!(ps.map prW).isEmpty)) C1 := by
    refine ev_cmps (C1 := C) (C2 := C1) (x := .ref g) (y := .ref C.n) rfl rfl ?_
    have := eq_nil_ref (C := C1) (h1.keep _ _ (fun z => z) hg) (new_at hC _) (n := 1) (fun x hx => by
      obtain ⟨p, _, rfl⟩ := List.mem_map.mp hx
      exact pi_pr p 0) (by decide)
    simp only [cmpW, this]
  have way : ∃ (d : Nat) (n1 : Int) (C2 : CH), ev (RF.run T.fs (k + 2)) (.ite (.cmp .NotEq (.var 1) (.lst .nil)) (.call 31 (.cons (.var 0) (.cons (.lit (.int 4)) .nil))) (.lit (.int 3))) s0 C = .ok (nW d) C2 ∧ (ps = [] → d = 3) ∧ Go t C C2 ∧ Box C2 t s n1 ∧ n1 ≤ n + 1 := by
    by_cases hps : ps = []
    · subst hps
      exact ⟨3, n, C1, (ev_iteF ec rfl).trans rfl, fun _ => rfl, h1.any, b.keep h1, by omega⟩
    · obtain ⟨d, n1, C2, e, hd, go, bx, hn1⟩ := ev_take (k + 1) (st := s0) h1.wf rfl (b.keep h1) (by omega) 4 (by decide) (by decide)
      have ht : truth C1 (.bl (!(ps.map prW).isEmpty)) = some true := by
        cases ps with
        | nil => exact absurd rfl hps
        | cons p ps => rfl
      exact ⟨d, n1, C2, (ev_iteT ec ht).trans e, fun z => absurd z hps, h1.any.trans go, bx, hn1⟩
  obtain ⟨d, n1, C2, e1, hd3, go, bx, hn1⟩ := way
  let s1 : St := [some (.ref t), some (.ref g), some (nW d), none]
  have hg2 := go.at hg hgt
  have c0 : ev (RF.run T.fs (k + 2)) (.cmp .Eq (.var 2) (.lit (.int 0))) s1 C2 = .ok (.bl (decide (d = 0))) C2 := ev_eq0 rfl
  have c1 : ev (RF.run T.fs (k + 2)) (.cmp .Eq (.var 2) (.lit (.int 1))) s1 C2 = .ok (.bl (decide (d = 1))) C2 := by
    refine ev_cmps (C1 := C2) (C2 := C2) (x := nW d) (y := .int 1) rfl rfl ?_
    have e : decide ((d : Int) = 1) = decide (d = 1) := by
      by_cases q : d = 1
      · rw [decide_eq_true q, decide_eq_true (by omega)]
      · rw [decide_eq_false q, decide_eq_false (by omega)]
    simp only [cmpW, nW, eqW_int, e]
  by_cases d0 : d = 0
  · rw [decide_eq_true d0] at c0
    exact ⟨.no, n1, C2, call_rt (d := c39) rfl rfl ((exs_cons (exs_set e1 rfl)).trans (exs_rt ((exs_yes c0 rfl).trans (exs_rt (exs_ret rfl))))), trivial, go, bx, by omega⟩
  rw [decide_eq_false d0] at c0
  by_cases d1 : d = 1
  · rw [decide_eq_true d1] at c1
    have hps : ps.map prW ≠ [] := fun z => by
      have := hd3 (List.map_eq_nil_iff.mp z)
      omega
    obtain ⟨j, x, n2, C3, e2, hx, go2, bx2, hn2⟩ := of_ k go.wf bx (by omega) hg2 hgt hps (by rw [List.length_map]; have := hp.ln; omega)
    rw [List.getElem?_map] at hx
    cases hj : ps[j]? with
    | none => rw [hj] at hx; cases hx
    | some p =>
      rw [hj] at hx
      have hx : prW p = x := Option.some.inj hx
      subst hx
      refine ⟨.kept p.1 p.2, n2, C3, call_rt (d := c39) rfl rfl ((exs_cons (exs_set e1 rfl)).trans ((exs_cons (exs_no c0 rfl)).trans (exs_rt ((exs_yes c1 rfl).trans (exs_rt (exs_ret ?_)))))), List.mem_of_getElem? hj, go.trans go2, bx2, by omega⟩
      exact ev_bins (C1 := C2) (C2 := C3) (x := .tup [.str "kept"]) (y := prW p) rfl ((ev_call (l := [.ref t, .ref g]) rfl).trans e2) rfl
  rw [decide_eq_false d1] at c1
  obtain ⟨m, n2, C3, e2, hm, go2, bx2, hn2⟩ := ev_take (k + 1) (st := s1) go.wf rfl bx (by omega) 3 (by decide) (by decide)
  have hg3 := go2.at hg2 hgt
  obtain ⟨r, qs, n3, C4, e3, hr, gr, hnd, hqs, go3, bx3, hn3⟩ := pick_ k go2.wf bx2 (by omega) hg3 hp.nd hp.ln m (by omega)
  obtain ⟨ws, hsort, hasc, hws, hwl⟩ := sort_pick hp hnd hqs
  have e4 : ev (RF.run T.fs (k + 2)) (.bi .tuple (.cons (.bi .sorted (.cons (.call 34 (.cons (.var 0) (.cons (.var 1) (.cons (.call 31 (.cons (.var 0) (.cons (.lit (.int 3)) .nil))) .nil)))) .nil)) .nil)) s1 C2 = .ok (.tup (ws.map prW)) (C4.new (.lst (ws.map prW))) := by
    have a1 : ev (RF.run T.fs (k + 2)) (.call 34 (.cons (.var 0) (.cons (.var 1) (.cons (.call 31 (.cons (.var 0) (.cons (.lit (.int 3)) .nil))) .nil)))) s1 C2 = .ok (.ref r) C4 := (ev_call (ev_cons (C1 := C2) rfl (ev_cons (C1 := C2) rfl (ev_one e2)))).trans e3
    refine ev_bi (ev_one (ev_bi (C2 := C4.new (.lst (ws.map prW))) (w := .ref C4.n) (ev_one a1) ?_)) (tup_ref (new_at go3.wf _))
    simp only [biW, gr, hsort]
  have h5 : Sub0 C4 (C4.new (.lst (ws.map prW))) := (Sub.refl go3.wf).new _
  let s2 : St := [some (.ref t), some (.ref g), some (nW d), some (.tup (ws.map prW))]
  obtain ⟨c5, n4, C5, e5, hc5, go5, bx5, hn5⟩ := ev_take (k + 1) (st := s2) h5.wf rfl (bx3.keep h5) (by omega) 5 (by decide) (by decide)
  refine ⟨.new c5 ws, n4, C5, call_rt (d := c39) rfl rfl ((exs_cons (exs_set e1 rfl)).trans ((exs_cons (exs_no c0 rfl)).trans ((exs_cons (exs_no c1 rfl)).trans ((exs_cons (exs_set e4 rfl)).trans (exs_rt (exs_ret ?_)))))), ⟨hws, hasc, hwl⟩, (((go.trans go2).trans go3).trans h5.any).trans go5, bx5, by omega⟩
  exact ev_tup (ev_cons rfl (ev_cons e5 (ev_one rfl))) rfl
end K04
end
section
set_option Elab.async false
set_option linter.all false
set_option maxRecDepth 100000
set_option maxHeartbeats 1000000
namespace RF
open PySem
/-- a comprehension that keeps all, its items told by what holds of them, whatever is drawn -/
theorem compL_p {fc fe : St → CH → R W} {p : CP} {s : St} {I : CH → Prop} {q : Nat → Src} {xs : List W} (hq : Tells I q xs) (P : W → Prop) (hfc : ∀ s C, fc s C = .ok (.bl true) C) (Iv : Nat → CH → Prop) (hI : ∀ i C, Iv i C → I C)
    (h : ∀ (i : Nat) (x : W), xs[i]? = some x → ∀ C, Iv i C → ∃ s', bindP C p x s = some s' ∧ ∃ y C2, fe s' C = .ok y C2 ∧ Iv (i + 1) C2 ∧ P y) :
    ∀ (m i n : Nat) (acc : List W) (C : CH), m = xs.length - i → i ≤ xs.length → Iv i C → m < n → ∃ ys C', Iv xs.length C' ∧ ys.length = m ∧ (∀ y ∈ ys, P y) ∧ compL fc fe p s n (q i) C acc = .ok (.ref C'.n) (C'.new (.lst (acc.reverse ++ ys)))
  | m, i, n + 1, acc, C, hm, hil, hv, hn => by
    cases e : xs[i]? with
    | none =>
      have hl : i = xs.length := by
        rcases Nat.lt_or_ge i xs.length with z | z
        · rw [List.getElem?_eq_getElem z] at e; cases e
        · omega
      refine ⟨[], C, hl ▸ hv, by rw [List.length_nil]; omega, fun y h => by simp at h, ?_⟩
      rw [compL, hq i C (hI i C hv), e]
      simp
    | some x =>
      have hl : i < xs.length := by
        rcases Nat.lt_or_ge i xs.length with z | z
        · exact z
        · rw [List.getElem?_eq_none z] at e; cases e
      obtain ⟨s', hb, y, C2, he, hv2, hP⟩ := h i x e C hv
      obtain ⟨ys, C', hv', hy, hPs, ee⟩ := compL_p hq P hfc Iv hI h (m - 1) (i + 1) n (y :: acc) C2 (by omega) (by omega) hv2 (by omega)
      refine ⟨y :: ys, C', hv', by rw [List.length_cons]; omega, fun z hz => ?_, ?_⟩
      · rcases List.mem_cons.mp hz with rfl | hz
        · exact hP
        · exact hPs z hz
      · rw [compL, hq i C (hI i C hv), e]
        simp only [hb, hfc, truth, he, ee]
        simp
theorem unmap {α : Type} {f : α → W} {P : α → Prop} : ∀ {ys : List W}, (∀ y ∈ ys, ∃ o, y = f o ∧ P o) → ∃ os : List α, ys = os.map f ∧ ∀ o ∈ os, P o
  | [], _ => ⟨[], rfl, fun _ h => by cases h⟩
  | y :: ys, h => by
    obtain ⟨o, rfl, p⟩ := h y (List.mem_cons_self ..)
    obtain ⟨os, rfl, q⟩ := unmap (ys := ys) fun z hz => h z (List.mem_cons_of_mem _ hz)
    refine ⟨o :: os, rfl, fun z hz => ?_⟩
    rcases List.mem_cons.mp hz with rfl | hz
    · exact p
    · exact q z hz
end RF
namespace K04
open PySem RF
/-- a craft as it is drawn -/
structure HsOk (c : Cr) : Prop where
  ok : CrOk c
  few : c.rows.length ≤ 3
  fst : ∃ r0, c.rows[0]? = some r0 ∧ r0.el = []
theorem ask00 {z el : List Nat} {e n : Nat} (h1 : el[0]? = some e) (h2 : z[e]? = some n) (h3 : 0 < n) : AskOk z el (0, 0) := ⟨e, n, h1, h2, h3⟩
theorem row_first {z : List Nat} {d : Nat} {sl : List Sl} (hz : z[0]? = some sl.length) (hs : ∀ o ∈ sl, SlOk z [] o) (hl : sl.length < 64) : RowOk z ⟨[], [], d, 0, sl⟩ :=
  ⟨by simp, fun _ h => by simp at h, fun _ h => by simp at h, by simp, by simp, hz, hs, hl⟩
theorem slok_new {z el : List Nat} (c : Nat) : SlOk z el (.new c []) := ⟨fun _ h => by simp at h, asc0, by simp⟩
theorem one_add (d : Nat) : (1 : Int) + (d : Int) = ((1 + d : Nat) : Int) := by omega
def g2a : List (Nat × Nat) := [(0, 0), (1, 0)]
theorem house_two_ (k : Nat) {C : CH} (hC : C.os.length = C.n) {t : Nat} {s n : Int} (b : Box C t s n) (hn : n < 600000) :
    ∃ (c : Cr) (n' : Int) (C' : CH), RF.run T.fs (k + 4) 41 [.ref t] C = .ok (crW c) C' ∧ HsOk c ∧ Go t C C' ∧ Box C' t s n' ∧ n' ≤ n + 1000 := by
  let s0 : St := [some (.ref t), none, none, none]
  obtain ⟨d1, n1, C1, e1, hd1, go1, b1, hn1⟩ := ev_take (k + 2) (st := s0) hC rfl b (by omega) 2 (by decide) (by decide)
  obtain ⟨d2, n2, C2, e2, hd2, go2, b2, hn2⟩ := ev_take (k + 2) (st := s0) go1.wf rfl b1 (by omega) 6 (by decide) (by decide)
  let row0 : Row := ⟨[], [], d1, 0, [.new (1 + d2) []]⟩
  let C3 := C2.new (.lst [rowW row0])
  have h3 : Sub0 C2 C3 := (Sub.refl go2.wf).new _
  have a1 : ev (RF.run T.fs (k + 3)) (.bin .Add (.lit (.int 1)) (.call 31 (.cons (.var 0) (.cons (.lit (.int 6)) .nil)))) s0 C1 = .ok (nW (1 + d2)) C2 := by
    refine ev_bins (C1 := C1) (C2 := C2) (x := .int 1) (y := nW d2) rfl e2 ?_
    show R.ok (W.int (1 + (d2 : Int))) C2 = _
    rw [one_add] <;> rfl
  have a2 : ev (RF.run T.fs (k + 3)) (.lst (.cons (.tup (.cons (.tup .nil) (.cons (.tup .nil) (.cons (.call 31 (.cons (.var 0) (.cons (.lit (.int 2)) .nil))) (.cons (.lit (.int 0)) (.cons (.tup (.cons (.tup (.cons (.lit (.str "new")) (.cons (.bin .Add (.lit (.int 1)) (.call 31 (.cons (.var 0) (.cons (.lit (.int 6)) .nil)))) (.cons (.tup .nil) .nil)))) .nil)) .nil)))))) .nil)) s0 C = .ok (.ref C2.n) C3 := by
    refine ev_lst (l := [rowW row0]) (ev_one (ev_tup (ev_cons (C1 := C) rfl (ev_cons (C1 := C) rfl (ev_cons e1 (ev_cons (C1 := C1) rfl (ev_one (ev_tup (ev_one (ev_tup (ev_cons (C1 := C1) rfl (ev_cons a1 (ev_one rfl))) rfl)) rfl)))))) rfl)) rfl
  let C4 := C3.new (.lst (g2a.map prW))
  have h4 : Sub0 C3 C4 := (Sub.refl h3.wf).new _
  have hr1 : C4.get C2.n = some (.lst [rowW row0]) := h4.keep _ _ (fun z => z) (new_at go2.wf _)
  have hr2 : C4.get C3.n = some (.lst (g2a.map prW)) := new_at h3.wf _
  let s1 : St := [some (.ref t), some (.ref C2.n), none, none]
  let s2 : St := [some (.ref t), some (.ref C2.n), some (.ref C3.n), none]
  have a3 : ev (RF.run T.fs (k + 3)) (.lst (.cons (.tup (.cons (.lit (.int 0)) (.cons (.lit (.int 0)) .nil))) (.cons (.tup (.cons (.lit (.int 1)) (.cons (.lit (.int 0)) .nil))) .nil))) s1 C3 = .ok (.ref C3.n) C4 := rfl
  have b4 := (b2.keep h3).keep h4
  have ht := b.lt
  have l1 := go1.le
  have l2 := go2.le
  have m1 : C3.n = C2.n + 1 := rfl
  have q1 : C2.n ≠ t := by omega
  have q2 : C3.n ≠ t := by omega
  obtain ⟨d3, n3, C5, e5, hd3, go5, b5, hn5⟩ := ev_take (k + 2) (st := s2) h4.wf rfl b4 (by omega) 2 (by decide) (by decide)
  have gg : Good g2a := .inr (.inr (.inl rfl))
  obtain ⟨r, qs, n6, C6, e6, hr6, gr6, hnd, hqs, go6, b6, hn6⟩ := pick_ (k + 1) go5.wf b5 (by omega) (go5.at hr2 q2) gg.nd gg.ln (1 + d3) (by omega)
  have a4 : ev (RF.run T.fs (k + 3)) (.bi .tuple (.cons (.call 34 (.cons (.var 0) (.cons (.var 2) (.cons (.bin .Add (.lit (.int 1)) (.call 31 (.cons (.var 0) (.cons (.lit (.int 2)) .nil)))) .nil)))) .nil)) s2 C4 = .ok (.tup (qs.map prW)) C6 := by
    have z1 : ev (RF.run T.fs (k + 3)) (.bin .Add (.lit (.int 1)) (.call 31 (.cons (.var 0) (.cons (.lit (.int 2)) .nil)))) s2 C4 = .ok (nW (1 + d3)) C5 := by
      refine ev_bins (C1 := C4) (C2 := C5) (x := .int 1) (y := nW d3) rfl e5 ?_
      show R.ok (W.int (1 + (d3 : Int))) C5 = _
      rw [one_add] <;> rfl
    exact ev_bi (ev_one ((ev_call (ev_cons (C1 := C4) rfl (ev_cons (C1 := C4) rfl (ev_one z1)))).trans e6)) (tup_ref gr6)
  let s3 : St := [some (.ref t), some (.ref C2.n), some (.ref C3.n), some (.tup (qs.map prW))]
  obtain ⟨d7, n7, C7, e7, hd7, go7, b7, hn7⟩ := ev_take (k + 2) (st := s3) go6.wf rfl b6 (by omega) 2 (by decide) (by decide)
  have go47 := (go5.trans go6).trans go7
  have hg7 := go47.at hr2 q2
  obtain ⟨o, n8, C8, e8, ho, go8, b8, hn8⟩ := filling_ k go7.wf b7 (by omega) hg7 q2 gg
  let row1 : Row := ⟨[0, 0], qs, d7, 0, [o]⟩
  have gl6 := (go5.trans go6).at hr1 q1
  have gl8 := (go47.trans go8).at hr1 q1
  have a5 : ev (RF.run T.fs (k + 3)) (.cons (.tup (.cons (.tup (.cons (.lit (.int 0)) (.cons (.lit (.int 0)) .nil))) (.cons (.var 3) (.cons (.call 31 (.cons (.var 0) (.cons (.lit (.int 2)) .nil))) (.cons (.lit (.int 0)) (.cons (.tup (.cons (.call 39 (.cons (.var 0) (.cons (.var 2) .nil))) .nil)) .nil)))))) .nil) s3 C6 = .ok (.tup [rowW row1]) C8 := by
    refine ev_one (ev_tup (ev_cons (C1 := C6) rfl (ev_cons (C1 := C6) rfl (ev_cons e7 (ev_cons (C1 := C7) rfl (ev_one (ev_tup (ev_one ((ev_call (l := [.ref t, .ref C3.n]) rfl).trans e8)) rfl)))))) rfl)
  have a6 := ev_app (run := RF.run T.fs (k + 3)) (o := .var 1) (s := s3) (C := C6) rfl gl6 a5 gl8 (by simp)
  have lt8 : C2.n < C8.n := CH.get_lt gl8
  let C9 := C8.set C2.n (.lst ([rowW row0] ++ [rowW row1]))
  have go48 := go47.trans go8
  have go09 : Go t C C9 := ((((go1.trans go2).trans h3.any).trans h4.any).trans go48).set lt8 (.inl (by omega)) _
  have b9 : Box C9 t s n8 := b8.set go8.wf lt8 q1 _
  have gl9 : C9.get C2.n = some (.lst ([rowW row0] ++ [rowW row1])) := set_at go8.wf lt8 _
  have gg9 : C9.get C3.n = some (.lst (g2a.map prW)) := by
    rw [get_set go8.wf lt8, if_neg (show C3.n ≠ C2.n by omega)]
    exact go8.at hg7 q2
  obtain ⟨d10, n10, C10, e10, hd10, go10, b10, hn10⟩ := ev_take (k + 2) (st := s3) go09.wf rfl b9 (by omega) 2 (by decide) (by decide)
  have c0 := ev_eq0 e10
  have askA : ∀ p ∈ g2a, AskOk [1] [0, 0] p := fun p hp => by
    simp [g2a] at hp
    rcases hp with rfl | rfl
    · exact ⟨0, 1, rfl, rfl, by decide⟩
    · exact ⟨0, 1, rfl, rfl, by decide⟩
  have ok0 : RowOk [1] row0 := row_first rfl (fun o ho => by simp at ho; subst ho; exact slok_new _) (by simp)
  have ok1 : RowOk [1] row1 := by
    refine ⟨by simp [row1], fun e he => by simp [row1] at he; subst he; decide, fun p hp => askA p (hqs p hp), hnd, ?_, rfl, fun q hq => ?_, by simp [row1]⟩
    · have := few2 (p := (0, 0)) (q := (1, 0)) hnd (fun x hx => by simpa [g2a] using hqs x hx)
      rcases this with rfl | rfl | rfl | rfl | rfl <;> simp [row1]
    · simp [row1] at hq
      subst hq
      exact ho.sl askA
  have szok : SzOk [1] := ⟨by simp, by simp⟩
  have head : ∀ {rest : CS} {res : RS}, exs (RF.run T.fs (k + 3)) rest s3 C9 = res → exs (RF.run T.fs (k + 3)) (.cons (.set 1 (.lst (.cons (.tup (.cons (.tup .nil) (.cons (.tup .nil) (.cons (.call 31 (.cons (.var 0) (.cons (.lit (.int 2)) .nil))) (.cons (.lit (.int 0)) (.cons (.tup (.cons (.tup (.cons (.lit (.str "new")) (.cons (.bin .Add (.lit (.int 1)) (.call 31 (.cons (.var 0) (.cons (.lit (.int 6)) .nil)))) (.cons (.tup .nil) .nil)))) .nil)) .nil)))))) .nil))) (.cons (.set 2 (.lst (.cons (.tup (.cons (.lit (.int 0)) (.cons (.lit (.int 0)) .nil))) (.cons (.tup (.cons (.lit (.int 1)) (.cons (.lit (.int 0)) .nil))) .nil)))) (.cons (.set 3 (.bi .tuple (.cons (.call 34 (.cons (.var 0) (.cons (.var 2) (.cons (.bin .Add (.lit (.int 1)) (.call 31 (.cons (.var 0) (.cons (.lit (.int 2)) .nil)))) .nil)))) .nil))) (.cons (.expr (.meth .append (.var 1) (.cons (.tup (.cons (.tup (.cons (.lit (.int 0)) (.cons (.lit (.int 0)) .nil))) (.cons (.var 3) (.cons (.call 31 (.cons (.var 0) (.cons (.lit (.int 2)) .nil))) (.cons (.lit (.int 0)) (.cons (.tup (.cons (.call 39 (.cons (.var 0) (.cons (.var 2) .nil))) .nil)) .nil)))))) .nil))) rest)))) s0 C = res := fun e =>
    (exs_cons (exs_set (h1 := C3) a2 rfl)).trans ((exs_cons (exs_set (h1 := C4) a3 rfl)).trans ((exs_cons (exs_set a4 rfl)).trans ((exs_cons (exs_expr a6)).trans e)))
  by_cases z10 : d10 = 0
  · rw [decide_eq_true z10] at c0
    obtain ⟨d11, n11, C11, e11, hd11, go11, b11, hn11⟩ := ev_take (k + 2) (st := s3) go10.wf rfl b10 (by omega) 3 (by decide) (by decide)
    have c1 := ev_eq0 e11
    have lk : ∃ ls : List (Nat × Nat), (ls = [] ∨ ls = [(0, 0)]) ∧ ev (RF.run T.fs (k + 3)) (.ite (.cmp .Eq (.call 31 (.cons (.var 0) (.cons (.lit (.int 3)) .nil))) (.lit (.int 0))) (.tup (.cons (.tup (.cons (.lit (.int 0)) (.cons (.lit (.int 0)) .nil))) .nil)) (.tup .nil)) s3 C10 = .ok (.tup (ls.map prW)) C11 := by
      by_cases z11 : d11 = 0
      · rw [decide_eq_true z11] at c1
        exact ⟨[(0, 0)], .inr rfl, (ev_iteT c1 rfl).trans rfl⟩
      · rw [decide_eq_false z11] at c1
        exact ⟨[], .inl rfl, (ev_iteF c1 rfl).trans rfl⟩
    obtain ⟨ls, hls, e12⟩ := lk
    let s4 : St := [some (.ref t), some (.ref C2.n), some (.ref C3.n), some (.tup (ls.map prW))]
    have gg11 := (go10.trans go11).at gg9 q2
    let C12 := C11.new (.lst ([(0, 0)].map prW))
    have h12 : Sub0 C11 C12 := (Sub.refl go11.wf).new _
    have e13 : ev (RF.run T.fs (k + 3)) (.slc (.var 2) .nopart (.lit (.int 1))) s4 C11 = .ok (.ref C11.n) C12 := by
      show ((match C11.get C3.n with
        | some (.lst xs) => R.ok (W.ref C11.n) (C11.new (.lst (cutW xs none (some 1))))
        | _ => .bad)) = _
      rw [gg11] <;> rfl
    have q3 : C11.n ≠ t := by have := b11.lt; omega
    have gd : Good [(0, 0)] := .inr (.inr (.inr rfl))
    obtain ⟨o2, n13, C13, e14, ho2, go13, b13, hn13⟩ := filling_ k h12.wf (b11.keep h12) (by omega) (new_at go11.wf _) q3 gd
    let row2 : Row := ⟨[0], ls, 0, 0, [o2]⟩
    have a7 : ev (RF.run T.fs (k + 3)) (.cons (.tup (.cons (.tup (.cons (.lit (.int 0)) .nil)) (.cons (.var 3) (.cons (.lit (.int 0)) (.cons (.lit (.int 0)) (.cons (.tup (.cons (.call 39 (.cons (.var 0) (.cons (.slc (.var 2) .nopart (.lit (.int 1))) .nil))) .nil)) .nil)))))) .nil) s4 C11 = .ok (.tup [rowW row2]) C13 := by
      exact ev_one (ev_tup (ev_cons (C1 := C11) rfl (ev_cons (C1 := C11) rfl (ev_cons (C1 := C11) rfl (ev_cons (C1 := C11) rfl (ev_one (ev_tup (ev_one ((ev_call (ev_cons (C1 := C11) rfl (ev_one e13))).trans e14)) rfl)))))) rfl)
    have gl11 := (go10.trans go11).at gl9 q1
    have gl13 := (h12.any.trans go13).at gl11 q1
    have a8 := ev_app (run := RF.run T.fs (k + 3)) (o := .var 1) (s := s4) (C := C11) rfl gl11 a7 gl13 (by simp)
    have lt13 : C2.n < C13.n := CH.get_lt gl13
    let C14 := C13.set C2.n (.lst (([rowW row0] ++ [rowW row1]) ++ [rowW row2]))
    have go014 : Go t C C14 := ((((go09.trans go10).trans go11).trans h12.any).trans go13).set lt13 (.inl (by omega)) _
    have ok2 : RowOk [1] row2 := by
      refine ⟨by simp [row2], fun e he => by simp [row2] at he; subst he; decide, fun p hp => ?_, ?_, ?_, rfl, fun q hq => ?_, by simp [row2]⟩
      · rcases hls with rfl | rfl
        · simp [row2] at hp
        · simp [row2] at hp
          subst hp
          exact ⟨0, 1, rfl, rfl, by decide⟩
      · rcases hls with rfl | rfl <;> simp [row2]
      · rcases hls with rfl | rfl <;> simp [row2]
      · simp [row2] at hq
        subst hq
        exact ho2.sl fun p hp => by
          simp at hp
          subst hp
          exact ⟨0, 1, rfl, rfl, by decide⟩
    refine ⟨⟨[1], [row0, row1, row2]⟩, n13, C14, call_rt (d := c41) rfl rfl (head ?_), ⟨⟨szok, by simp, by simp, fun r hr => ?_⟩, by simp, row0, rfl, rfl⟩, go014, b13.set go13.wf lt13 q1 _, by omega⟩
    · refine (exs_cons (s1 := s4) (h1 := C14) ((exs_yes c0 rfl).trans ((exs_cons (exs_set e12 rfl)).trans ((exs_cons (exs_expr a8)).trans rfl)))).trans (exs_rt (exs_ret ?_))
      refine ev_tup (ev_cons (C1 := C14) rfl (ev_one (ev_bi (ev_one (w := .ref C2.n) (C1 := C14) rfl) (tup_ref (set_at go13.wf lt13 _))))) rfl
    · simp at hr
      rcases hr with rfl | rfl | rfl
      · exact ok0
      · exact ok1
      · exact ok2
  · rw [decide_eq_false z10] at c0
    refine ⟨⟨[1], [row0, row1]⟩, n10, C10, call_rt (d := c41) rfl rfl (head ?_), ⟨⟨szok, by simp, by simp, fun r hr => ?_⟩, by simp, row0, rfl, rfl⟩, go09.trans go10, b10, by omega⟩
    · refine (exs_cons (exs_no c0 rfl)).trans (exs_rt (exs_ret ?_))
      refine ev_tup (ev_cons (C1 := C10) rfl (ev_one (ev_bi (ev_one (w := .ref C2.n) (C1 := C10) rfl) (tup_ref (go10.at gl9 q1))))) rfl
    · simp at hr
      rcases hr with rfl | rfl
      · exact ok0
      · exact ok1
end K04
end
section
set_option Elab.async false
set_option linter.all false
set_option maxRecDepth 100000
set_option maxHeartbeats 2000000
namespace K04
open PySem RF
def szO (wide : Bool) : List Nat := if wide = true then [2, 1] else [2]
def g2b : List (Nat × Nat) := [(0, 0), (0, 1)]
theorem good2b : Good g2b := .inr (.inl rfl)
theorem szO0 (wide : Bool) : (szO wide)[0]? = some 2 := by cases wide <;> rfl
theorem szOk (wide : Bool) : SzOk (szO wide) := by cases wide <;> exact ⟨by simp [szO], by simp [szO]⟩
theorem ask_b (wide : Bool) : ∀ p ∈ g2b, AskOk (szO wide) [0] p := fun p hp => by
  simp [g2b] at hp
  rcases hp with rfl | rfl
  · exact ⟨0, 2, rfl, szO0 wide, by decide⟩
  · exact ⟨0, 2, rfl, szO0 wide, by decide⟩
def mkO (wide : Bool) (i : Nat) : Nat := if (wide && decide (i = 1)) = true then 1 else 0
theorem mkO_sz (wide : Bool) (i : Nat) : ∃ m, (szO wide)[mkO wide i]? = some m ∧ m ≤ 2 := by
  cases wide with
  | false => exact ⟨2, rfl, by decide⟩
  | true =>
    by_cases h : i = 1
    · exact ⟨1, by subst h; rfl, by decide⟩
    · refine ⟨2, ?_, by decide⟩
      have e : mkO true i = 0 := by simp [mkO, h]
      rw [e] <;> rfl
def h1B : CS := (.cons (.set 7 (.bi .tuple (.cons (.call 34 (.cons (.var 0) (.cons (.var 5) (.cons (.ite (.cmp .Eq (.var 6) (.lit (.int 0))) (.var 6) (.bin .Add (.lit (.int 1)) (.bi .int (.cons (.cmp .Eq (.call 31 (.cons (.var 0) (.cons (.lit (.int 4)) .nil))) (.lit (.int 0))) .nil)))) .nil)))) .nil))) (.cons (.set 8 (.ite (.and (.var 1) (.cmp .Eq (.var 6) (.lit (.int 1)))) (.lit (.int 1)) (.lit (.int 0)))) (.cons (.set 9 (.bi .tuple (.cons (.comp [("k", 10)] .rng1 (.cons (.ix (.var 2) (.var 8)) .nil) (.nm 10) (.lit (.bl true)) (.call 39 (.cons (.var 0) (.cons (.var 5) .nil)))) .nil))) (.cons (.expr (.meth .append (.var 4) (.cons (.tup (.cons (.tup (.cons (.lit (.int 0)) .nil)) (.cons (.var 7) (.cons (.call 31 (.cons (.var 0) (.cons (.lit (.int 2)) .nil))) (.cons (.var 8) (.cons (.var 9) .nil)))))) .nil))) .nil))))
theorem eq_nat (a b : Nat) : decide ((a : Int) = (b : Int)) = decide (a = b) := by
  by_cases q : a = b
  · rw [decide_eq_true q, decide_eq_true (by omega)]
  · rw [decide_eq_false q, decide_eq_false (by omega)]
theorem cmp_nat (a b : Nat) (C : CH) : cmpW .Eq (nW a) (.int (b : Int)) C = .ok (.bl (decide (a = b))) C := by
  simp only [cmpW, nW, eqW_int, eq_nat]
/-- one turn of the house's loop -/
theorem h1_turn (k : Nat) {C : CH} (hC : C.os.length = C.n) {t r3 r4 r5 : Nat} {s n : Int} {wide : Bool} {i : Nat} {rs : List Row} {a7 a8 a9 a10 : Option W} (b : Box C t s n) (hn : n < 500000) (hi : i < 2) (hl : C.get r4 = some (.lst (rs.map rowW))) (hg : C.get r5 = some (.lst (g2b.map prW))) (q4 : r4 ≠ t) (q5 : r5 ≠ t) (q45 : r4 ≠ r5) (hrs : rs.length ≤ 10) :
    ∃ (row : Row) (b7 b8 b9 : Option W) (n' : Int) (C' : CH), exs (RF.run T.fs (k + 3)) h1B [some (.ref t), some (.bl wide), some (.tup ((szO wide).map nW)), some (.ref r3), some (.ref r4), some (.ref r5), some (nW i), a7, a8, a9, a10] C = .nx [some (.ref t), some (.bl wide), some (.tup ((szO wide).map nW)), some (.ref r3), some (.ref r4), some (.ref r5), some (nW i), b7, b8, b9, a10] C' ∧
      RowOk (szO wide) row ∧ Sub (fun r => r = t ∨ r = r4) C C' ∧ Box C' t s n' ∧ n' ≤ n + 300 ∧ C'.get r4 = some (.lst ((rs ++ [row]).map rowW)) ∧ C'.get r5 = some (.lst (g2b.map prW)) := by
  let s0 : St := [some (.ref t), some (.bl wide), some (.tup ((szO wide).map nW)), some (.ref r3), some (.ref r4), some (.ref r5), some (nW i), a7, a8, a9, a10]
  have c0 : ev (RF.run T.fs (k + 3)) (.cmp .Eq (.var 6) (.lit (.int 0))) s0 C = .ok (.bl (decide (i = 0))) C := ev_cmps (C1 := C) (C2 := C) (x := nW i) (y := .int 0) rfl rfl (cmp_nat i 0 C)
  have cnt : ∃ (m : Nat) (n1 : Int) (C1 : CH), ev (RF.run T.fs (k + 3)) (.ite (.cmp .Eq (.var 6) (.lit (.int 0))) (.var 6) (.bin .Add (.lit (.int 1)) (.bi .int (.cons (.cmp .Eq (.call 31 (.cons (.var 0) (.cons (.lit (.int 4)) .nil))) (.lit (.int 0))) .nil)))) s0 C = .ok (nW m) C1 ∧ m < 3 ∧ Go t C C1 ∧ Box C1 t s n1 ∧ n1 ≤ n + 1 := by
    by_cases z : i = 0
    · rw [decide_eq_true z] at c0
      exact ⟨i, n, C, (ev_iteT c0 rfl).trans rfl, by omega, .refl hC, b, by omega⟩
    · rw [decide_eq_false z] at c0
      obtain ⟨d, n1, C1, e1, hd, go, b1, hn1⟩ := ev_take (k + 2) (st := s0) hC rfl b (by omega) 4 (by decide) (by decide)
      refine ⟨1 + (if d = 0 then 1 else 0), n1, C1, (ev_iteF c0 rfl).trans (ev_bins (C1 := C) (C2 := C1) (x := .int 1) (y := nW (if d = 0 then 1 else 0)) rfl (ev_bi (ev_one (ev_eq0 e1)) ?_) ?_), by split <;> omega, go, b1, hn1⟩
      · by_cases q : d = 0
        · rw [decide_eq_true q, if_pos q] <;> rfl
        · rw [decide_eq_false q, if_neg q] <;> rfl
      · by_cases q : d = 0
        · rw [if_pos q] <;> rfl
        · rw [if_neg q] <;> rfl
  obtain ⟨m, n1, C1, e1, hm, go1, b1, hn1⟩ := cnt
  obtain ⟨r, qs, n2, C2, e2, hr, gr, hnd, hqs, go2, b2, hn2⟩ := pick_ (k + 1) go1.wf b1 (by omega) (go1.at hg q5) good2b.nd good2b.ln m (by omega)
  have a1 : ev (RF.run T.fs (k + 3)) (.bi .tuple (.cons (.call 34 (.cons (.var 0) (.cons (.var 5) (.cons (.ite (.cmp .Eq (.var 6) (.lit (.int 0))) (.var 6) (.bin .Add (.lit (.int 1)) (.bi .int (.cons (.cmp .Eq (.call 31 (.cons (.var 0) (.cons (.lit (.int 4)) .nil))) (.lit (.int 0))) .nil)))) .nil)))) .nil)) s0 C = .ok (.tup (qs.map prW)) C2 :=
    ev_bi (ev_one ((ev_call (ev_cons (C1 := C) rfl (ev_cons (C1 := C) rfl (ev_one e1)))).trans e2)) (tup_ref gr)
  let s1 : St := [some (.ref t), some (.bl wide), some (.tup ((szO wide).map nW)), some (.ref r3), some (.ref r4), some (.ref r5), some (nW i), some (.tup (qs.map prW)), a8, a9, a10]
  have a2 : ev (RF.run T.fs (k + 3)) (.ite (.and (.var 1) (.cmp .Eq (.var 6) (.lit (.int 1)))) (.lit (.int 1)) (.lit (.int 0))) s1 C2 = .ok (nW (mkO wide i)) C2 := by
    have c1 : ev (RF.run T.fs (k + 3)) (.cmp .Eq (.var 6) (.lit (.int 1))) s1 C2 = .ok (.bl (decide (i = 1))) C2 := ev_cmps (C1 := C2) (C2 := C2) (x := nW i) (y := .int 1) rfl rfl (cmp_nat i 1 C2)
    have c2 : ev (RF.run T.fs (k + 3)) (.and (.var 1) (.cmp .Eq (.var 6) (.lit (.int 1)))) s1 C2 = .ok (.bl (wide && decide (i = 1))) C2 := by
      cases wide with
      | true => exact (ev_and (w := .bl true) (C1 := C2) rfl rfl).trans c1
      | false => rfl
    unfold mkO
    cases hb : wide && decide (i = 1) with
    | true =>
      rw [hb] at c2
      exact (ev_iteT c2 rfl).trans rfl
    | false =>
      rw [hb] at c2
      exact (ev_iteF c2 rfl).trans rfl
  let s2 : St := [some (.ref t), some (.bl wide), some (.tup ((szO wide).map nW)), some (.ref r3), some (.ref r4), some (.ref r5), some (nW i), some (.tup (qs.map prW)), some (nW (mkO wide i)), a9, a10]
  obtain ⟨sz, hsz, hsz2⟩ := mkO_sz wide i
  have a3 : ev (RF.run T.fs (k + 3)) (.cons (.ix (.var 2) (.var 8)) .nil) s2 C2 = .ok (.tup [nW sz]) C2 := ev_one (ev_ixs (C1 := C2) (C2 := C2) (x := .tup ((szO wide).map nW)) (y := nW (mkO wide i)) rfl rfl (ix_tup (nW_at hsz) C2))
  have hs : src0 .rng1 [nW sz] C2 = some (.upto 0 sz) := by
    have : small ((sz : Nat) : Int) = true := small_ _ (by omega) (by omega)
    simp only [src0, nW, this, if_true, Int.toNat_natCast]
  have hg2 := (go1.trans go2).at hg q5
  obtain ⟨ys, C3, hv, hyl, hyP, e3⟩ := compL_p (fc := ev (RF.run T.fs (k + 3)) (.lit (.bl true))) (fe := ev (RF.run T.fs (k + 3)) (.call 39 (.cons (.var 0) (.cons (.var 5) .nil)))) (p := .nm 10) (s := wipeW s2 (([("k", 10)] : List (PySem.Str × Nat)).map fun (x : PySem.Str × Nat) => x.2)) (I := fun _ => True) (q := fun i => .upto (0 + (i : Int)) (sz - i)) (xs := upW 0 sz) (tells_upto 0 sz)
    (fun y => ∃ o, y = slW o ∧ PsOk g2b o) (fun _ _ => rfl) (fun j C4 => Go t C2 C4 ∧ ∃ n3, Box C4 t s n3 ∧ n3 ≤ n2 + 70 * (j : Int)) (fun _ _ _ => trivial) (fun j x hx C4 hv => by
      obtain ⟨go4, n3, b3, hn3⟩ := hv
      obtain ⟨rfl, hj⟩ := upW_at hx
      obtain ⟨o, n4, C5, e5, ho, go5, b5, hn5⟩ := filling_ k go4.wf b3 (by omega) (go4.at hg2 q5) q5 good2b
      exact ⟨[some (.ref t), some (.bl wide), some (.tup ((szO wide).map nW)), some (.ref r3), some (.ref r4), some (.ref r5), some (nW i), some (.tup (qs.map prW)), some (nW (mkO wide i)), a9, some (.int (0 + (j : Int)))], rfl, slW o, C5, (ev_call (l := [.ref t, .ref r5]) rfl).trans e5, ⟨go4.trans go5, n4, b5, by omega⟩, o, rfl, ho⟩)
    ((upW 0 sz).length - 0) 0 fuel [] C2 rfl (Nat.zero_le _) ⟨.refl go2.wf, n2, b2, by omega⟩ (by rw [upW_len]; exact Nat.lt_of_le_of_lt (show sz - 0 ≤ 2 by omega) (by decide))
  obtain ⟨go3, n3, b3, hn3⟩ := hv
  rw [upW_len] at hn3 hyl
  obtain ⟨os, rfl, hos⟩ := unmap hyP
  rw [List.length_map] at hyl
  rw [List.reverse_nil, List.nil_append] at e3
  let C4 := C3.new (.lst (os.map slW))
  have h4 : Sub0 C3 C4 := (Sub.refl go3.wf).new _
  have a4 : ev (RF.run T.fs (k + 3)) (.bi .tuple (.cons (.comp [("k", 10)] .rng1 (.cons (.ix (.var 2) (.var 8)) .nil) (.nm 10) (.lit (.bl true)) (.call 39 (.cons (.var 0) (.cons (.var 5) .nil)))) .nil)) s2 C2 = .ok (.tup (os.map slW)) C4 :=
    ev_bi (ev_one ((ev_comp a3 hs).trans e3)) (tup_ref (new_at go3.wf _))
  let s3 : St := [some (.ref t), some (.bl wide), some (.tup ((szO wide).map nW)), some (.ref r3), some (.ref r4), some (.ref r5), some (nW i), some (.tup (qs.map prW)), some (nW (mkO wide i)), some (.tup (os.map slW)), a10]
  obtain ⟨d, n5, C5, e5, hd, go5, b5, hn5⟩ := ev_take (k + 2) (st := s3) h4.wf rfl (b3.keep h4) (by omega) 2 (by decide) (by decide)
  let row : Row := ⟨[0], qs, d, mkO wide i, os⟩
  have goA : Go t C C4 := ((go1.trans go2).trans go3).trans h4.any
  have hl4 := goA.at hl q4
  have hl5 := go5.at hl4 q4
  have hg5 := go5.at ((go3.trans h4.any).at hg2 q5) q5
  have a5 : ev (RF.run T.fs (k + 3)) (.cons (.tup (.cons (.tup (.cons (.lit (.int 0)) .nil)) (.cons (.var 7) (.cons (.call 31 (.cons (.var 0) (.cons (.lit (.int 2)) .nil))) (.cons (.var 8) (.cons (.var 9) .nil)))))) .nil) s3 C4 = .ok (.tup [rowW row]) C5 :=
    ev_one (ev_tup (ev_cons (C1 := C4) rfl (ev_cons (C1 := C4) rfl (ev_cons e5 (ev_cons (C1 := C5) rfl (ev_one rfl))))) rfl)
  have a6 := ev_app (run := RF.run T.fs (k + 3)) (o := .var 4) (s := s3) (C := C4) rfl hl4 a5 hl5 (by rw [List.length_map]; omega)
  have lt5 : r4 < C5.n := CH.get_lt hl5
  have goB : Go t C C5 := goA.trans go5
  refine ⟨row, some (.tup (qs.map prW)), some (nW (mkO wide i)), some (.tup (os.map slW)), n5, C5.set r4 (.lst (rs.map rowW ++ [rowW row])), ?_, ?_, (goB.mono fun r h _ => .inl h).set lt5 (.inr (.inr rfl)) _, b5.set go5.wf lt5 q4 _, by omega, ?_, ?_⟩
  · exact (exs_cons (exs_set a1 rfl)).trans ((exs_cons (exs_set a2 rfl)).trans ((exs_cons (exs_set a4 rfl)).trans ((exs_cons (exs_expr a6)).trans rfl)))
  · refine ⟨by simp [row], fun e he => ?_, fun p hp => ask_b wide p (hqs p hp), hnd, ?_, ?_, fun o ho => (hos o ho).sl (ask_b wide), by simp [row]; omega⟩
    · simp [row] at he
      subst he
      cases wide <;> simp [szO]
    · have := few2 (p := (0, 0)) (q := (0, 1)) hnd (fun x hx => by simpa [g2b] using hqs x hx)
      rcases this with rfl | rfl | rfl | rfl | rfl <;> simp [row]
    · show (szO wide)[mkO wide i]? = some os.length
      rw [hsz, hyl] <;> rfl
  · rw [set_at go5.wf lt5, List.map_append] <;> rfl
  · rw [get_set go5.wf lt5, if_neg (Ne.symm q45)]
    exact hg5
end K04
end
section
set_option Elab.async false
set_option linter.all false
set_option maxRecDepth 100000
set_option maxHeartbeats 2000000
namespace K04
open PySem RF
theorem house_one_ (k : Nat) {C : CH} (hC : C.os.length = C.n) {t : Nat} {s n : Int} (b : Box C t s n) (hn : n < 400000) :
    ∃ (c : Cr) (n' : Int) (C' : CH), RF.run T.fs (k + 4) 40 [.ref t] C = .ok (crW c) C' ∧ HsOk c ∧ Go t C C' ∧ Box C' t s n' ∧ n' ≤ n + 1000 := by
  have ht := b.lt
  let s0 : St := [some (.ref t), none, none, none, none, none, none, none, none, none, none]
  obtain ⟨d0, n1, C1, e1, hd0, go1, b1, hn1⟩ := ev_take (k + 2) (st := s0) hC rfl b (by omega) 3 (by decide) (by decide)
  have a1 := ev_eq0 e1
  obtain ⟨wide, hw⟩ : ∃ wide : Bool, wide = decide (d0 = 0) := ⟨_, rfl⟩
  rw [← hw] at a1
  let s1 : St := [some (.ref t), some (.bl wide), none, none, none, none, none, none, none, none, none]
  have a2 : ev (RF.run T.fs (k + 3)) (.ite (.var 1) (.tup (.cons (.lit (.int 2)) (.cons (.lit (.int 1)) .nil))) (.tup (.cons (.lit (.int 2)) .nil))) s1 C1 = .ok (.tup ((szO wide).map nW)) C1 := by
    cases wide <;> rfl
  let s2 : St := [some (.ref t), some (.bl wide), some (.tup ((szO wide).map nW)), none, none, none, none, none, none, none, none]
  obtain ⟨d1, n2, C2, e2, hd1, go2, b2, hn2⟩ := ev_take (k + 2) (st := s2) go1.wf rfl b1 (by omega) 5 (by decide) (by decide)
  let C3 := C2.new (.lst ([] : List W))
  have h3 : Sub0 C2 C3 := (Sub.refl go2.wf).new _
  have l1 := go1.le
  have l2 := go2.le
  have q3 : C2.n ≠ t := by omega
  obtain ⟨o1, n4, C4, e4, ho1, go4, b4, hn4⟩ := filling_ (ps := []) k h3.wf (b2.keep h3) (by omega) (new_at go2.wf _) q3 (.inl rfl)
  let oA : Sl := .new (1 + d1) []
  have a3 : ev (RF.run T.fs (k + 3)) (.lst (.cons (.tup (.cons (.lit (.str "new")) (.cons (.bin .Add (.lit (.int 1)) (.call 31 (.cons (.var 0) (.cons (.lit (.int 5)) .nil)))) (.cons (.tup .nil) .nil)))) (.cons (.call 39 (.cons (.var 0) (.cons (.lst .nil) .nil))) .nil))) s2 C1 = .ok (.ref C4.n) (C4.new (.lst [slW oA, slW o1])) := by
    have z1 : ev (RF.run T.fs (k + 3)) (.bin .Add (.lit (.int 1)) (.call 31 (.cons (.var 0) (.cons (.lit (.int 5)) .nil)))) s2 C1 = .ok (nW (1 + d1)) C2 := by
      refine ev_bins (C1 := C1) (C2 := C2) (x := .int 1) (y := nW d1) rfl e2 ?_
      show R.ok (W.int (1 + (d1 : Int))) C2 = _
      rw [one_add] <;> rfl
    refine ev_lst (l := [slW oA, slW o1]) (ev_cons (ev_tup (ev_cons (C1 := C1) rfl (ev_cons z1 (ev_one rfl))) rfl) (ev_one ((ev_call (l := [.ref t, .ref C2.n]) rfl).trans e4))) rfl
  let C5 := C4.new (.lst [slW oA, slW o1])
  have h5 : Sub0 C4 C5 := (Sub.refl go4.wf).new _
  have g5 : C5.get C4.n = some (.lst [slW oA, slW o1]) := new_at go4.wf _
  have l4 := go4.le
  have m3 : C3.n = C2.n + 1 := rfl
  have q4 : C4.n ≠ t := by omega
  let s3 : St := [some (.ref t), some (.bl wide), some (.tup ((szO wide).map nW)), some (.ref C4.n), none, none, none, none, none, none, none]
  obtain ⟨d6, n6, C6, e6, hd6, go6, b6, hn6⟩ := ev_take (k + 2) (st := s3) h5.wf rfl (b4.keep h5) (by omega) 3 (by decide) (by decide)
  have c6 := ev_eq0 e6
  have g6 := go6.at g5 q4
  have lt6 : C4.n < C6.n := CH.get_lt g6
  have st6 : ∃ (o2 : Sl) (C7 : CH), exs (RF.run T.fs (k + 3)) (.ifs (.cmp .Eq (.call 31 (.cons (.var 0) (.cons (.lit (.int 3)) .nil))) (.lit (.int 0))) (.cons (.ixset (.var 3) (.lit (.int 1)) (.tup (.cons (.lit (.str "none")) .nil))) .nil) .nil) s3 C5 = .nx s3 C7 ∧ PsOk [] o2 ∧ Go t C C7 ∧ Box C7 t s n6 ∧ C7.get C4.n = some (.lst [slW oA, slW o2]) := by
    have goC : Go t C C6 := ((((go1.trans go2).trans h3.any).trans go4).trans h5.any).trans go6
    by_cases z : d6 = 0
    · rw [decide_eq_true z] at c6
      refine ⟨.no, C6.set C4.n (.lst [slW oA, slW .no]), (exs_yes c6 rfl).trans ((exs_cons (exs_ixset (C1 := C6) (C2 := C6) (C3 := C6) (w := slW .no) (x := .ref C4.n) (y := .int 1) rfl rfl rfl ?_)).trans rfl), trivial, goC.set lt6 (.inl (by omega)) _, b6.set go6.wf lt6 q4 _, set_at go6.wf lt6 _⟩
      simp only [RF.putAt, g6]
      rfl
    · rw [decide_eq_false z] at c6
      exact ⟨o1, C6, exs_no c6 rfl, ho1, goC, b6, g6⟩
  obtain ⟨o2, C7, e7, ho2, go7, b7, g7⟩ := st6
  obtain ⟨d8, n8, C8, e8, hd8, go8, b8, hn8⟩ := ev_take (k + 2) (st := s3) go7.wf rfl b7 (by omega) 2 (by decide) (by decide)
  obtain ⟨d9, n9, C9, e9, hd9, go9, b9, hn9⟩ := ev_take (k + 2) (st := s3) go8.wf rfl b8 (by omega) 2 (by decide) (by decide)
  have c9 := ev_eq0 e9
  have g9 := (go8.trans go9).at g7 q4
  have tup9 : ∃ (sl : List Sl) (C10 : CH), ev (RF.run T.fs (k + 3)) (.bi .tuple (.cons (.ite (.cmp .Eq (.call 31 (.cons (.var 0) (.cons (.lit (.int 2)) .nil))) (.lit (.int 0))) (.rev (.var 3)) (.var 3)) .nil)) s3 C8 = .ok (.tup (sl.map slW)) C10 ∧ (sl = [oA, o2] ∨ sl = [o2, oA]) ∧ Sub0 C9 C10 := by
    by_cases z : d9 = 0
    · rw [decide_eq_true z] at c9
      refine ⟨[o2, oA], C9.new (.lst [slW o2, slW oA]), ev_bi (ev_one ((ev_iteT c9 rfl).trans ?_)) (tup_ref (new_at go9.wf _)), .inr rfl, (Sub.refl go9.wf).new _⟩
      show revW (.ref C4.n) C9 = .ok (.ref C9.n) _
      simp only [revW, lstAt, g9]
      rfl
    · rw [decide_eq_false z] at c9
      exact ⟨[oA, o2], C9, ev_bi (ev_one ((ev_iteF c9 rfl).trans rfl)) (tup_ref g9), .inl rfl, .refl go9.wf⟩
  obtain ⟨sl, C10, e10, hsl, h10⟩ := tup9
  let row0 : Row := ⟨[], [], d8, 0, sl⟩
  have a4 : ev (RF.run T.fs (k + 3)) (.lst (.cons (.tup (.cons (.tup .nil) (.cons (.tup .nil) (.cons (.call 31 (.cons (.var 0) (.cons (.lit (.int 2)) .nil))) (.cons (.lit (.int 0)) (.cons (.bi .tuple (.cons (.ite (.cmp .Eq (.call 31 (.cons (.var 0) (.cons (.lit (.int 2)) .nil))) (.lit (.int 0))) (.rev (.var 3)) (.var 3)) .nil)) .nil)))))) .nil)) s3 C7 = .ok (.ref C10.n) (C10.new (.lst ([row0].map rowW))) :=
    ev_lst (l := [rowW row0]) (ev_one (ev_tup (ev_cons (C1 := C7) rfl (ev_cons (C1 := C7) rfl (ev_cons e8 (ev_cons (C1 := C8) rfl (ev_one e10))))) rfl)) rfl
  let C11 := C10.new (.lst ([row0].map rowW))
  have h11 : Sub0 C10 C11 := (Sub.refl h10.wf).new _
  let C12 := C11.new (.lst (g2b.map prW))
  have h12 : Sub0 C11 C12 := (Sub.refl h11.wf).new _
  let s4 : St := [some (.ref t), some (.bl wide), some (.tup ((szO wide).map nW)), some (.ref C4.n), some (.ref C10.n), none, none, none, none, none, none]
  have a5 : ev (RF.run T.fs (k + 3)) (.lst (.cons (.tup (.cons (.lit (.int 0)) (.cons (.lit (.int 0)) .nil))) (.cons (.tup (.cons (.lit (.int 0)) (.cons (.lit (.int 1)) .nil))) .nil))) s4 C11 = .ok (.ref C11.n) C12 := rfl
  let s5 : St := [some (.ref t), some (.bl wide), some (.tup ((szO wide).map nW)), some (.ref C4.n), some (.ref C10.n), some (.ref C11.n), none, none, none, none, none]
  have go12 : Go t C C12 := ((((go7.trans go8).trans go9).trans h10.any).trans h11.any).trans h12.any
  have b12 : Box C12 t s n9 := ((b9.keep h10).keep h11).keep h12
  have l7 := go7.le
  have l8 := go8.le
  have l9 := go9.le
  have l10 := h10.le
  have m11 : C11.n = C10.n + 1 := rfl
  have q10 : C10.n ≠ t := by omega
  have q11 : C11.n ≠ t := by omega
  have q1011 : C10.n ≠ C11.n := by omega
  have gl12 : C12.get C10.n = some (.lst ([row0].map rowW)) := h12.keep _ _ (fun z => z) (new_at h10.wf _)
  have gg12 : C12.get C11.n = some (.lst (g2b.map prW)) := new_at h11.wf _
  have ok0 : RowOk (szO wide) row0 := row_first (by rcases hsl with rfl | rfl <;> exact szO0 wide) (fun o ho => by
    have ho2' : SlOk (szO wide) [] o2 := ho2.sl fun p hp => by simp at hp
    rcases hsl with rfl | rfl <;> simp at ho <;> rcases ho with rfl | rfl <;> first | exact slok_new _ | exact ho2') (by rcases hsl with rfl | rfl <;> simp)
  let Inv : Nat → St → CH → Prop := fun i st C3 => (∃ a6 a7 a8 a9 a10, st = [some (.ref t), some (.bl wide), some (.tup ((szO wide).map nW)), some (.ref C4.n), some (.ref C10.n), some (.ref C11.n), a6, a7, a8, a9, a10]) ∧ Go t C C3 ∧ ∃ (n' : Int) (rs : List Row), Box C3 t s n' ∧ n' ≤ n9 + 300 * (i : Int) ∧ C3.get C10.n = some (.lst (rs.map rowW)) ∧ C3.get C11.n = some (.lst (g2b.map prW)) ∧ rs.length = 1 + i ∧ (∀ r ∈ rs, RowOk (szO wide) r) ∧ rs[0]? = some row0
  have hf := forL_q (fb := exs (RF.run T.fs (k + 3)) h1B) (p := .nm 6) (I := fun _ => True) (q := fun i => .upto (0 + (i : Int)) (2 - i)) (xs := upW 0 2) (tells_upto 0 2) Inv (fun _ _ => False) (fun _ _ _ _ => trivial) (fun i x st Cx hx hI => by
    obtain ⟨⟨a6, a7, a8, a9, a10, rfl⟩, go, n', rs, bx, hn', gl, gg, hrl, hrs, hr0⟩ := hI
    obtain ⟨rfl, hi⟩ := upW_at hx
    obtain ⟨row, b7', b8', b9', n2', Cy, ee, hrow, hsub, by', hny, gly, ggy⟩ := h1_turn k go.wf (wide := wide) (i := i) (r3 := C4.n) (a7 := a7) (a8 := a8) (a9 := a9) (a10 := a10) bx (by omega) hi gl gg q10 q11 q1011 (by omega)
    have e0 : (0 : Int) + (i : Int) = (i : Int) := Int.zero_add _
    refine ⟨[some (.ref t), some (.bl wide), some (.tup ((szO wide).map nW)), some (.ref C4.n), some (.ref C10.n), some (.ref C11.n), some (nW i), a7, a8, a9, a10], by rw [e0] <;> rfl, .inl ⟨_, Cy, .inl ee, ⟨_, _, _, _, _, rfl⟩, ?_, n2', rs ++ [row], by', by omega, gly, ggy, by rw [List.length_append, hrl]; simp; omega, fun r hr => ?_, ?_⟩⟩
    · refine ⟨hsub.wf, Nat.le_trans go.le hsub.le, fun r o m e => hsub.keep r o (fun z => ?_) (go.keep r o m e)⟩
      rcases z with z | z
      · exact m z
      · have := CH.get_lt e
        omega
    · rcases List.mem_append.mp hr with hr | hr
      · exact hrs r hr
      · simp at hr
        subst hr
        exact hrow
    · rw [List.getElem?_append_left (by omega)]
      exact hr0) ((upW 0 2).length - 0) 0 fuel s5 C12 rfl (Nat.zero_le _) ⟨⟨_, _, _, _, _, rfl⟩, go12, n9, [row0], b12, by omega, gl12, gg12, rfl, fun r hr => by simp at hr; subst hr; exact ok0, rfl⟩ (by rw [upW_len]; decide)
  rcases hf with ⟨s', C', e, ⟨⟨a6, a7, a8, a9, a10, rfl⟩, go, n', rs, bx, hn', gl, gg, hrl, hrs, hr0⟩⟩ | ⟨_, _, _, h⟩
  · rw [upW_len] at hn' hrl
    refine ⟨⟨szO wide, rs⟩, n', C', call_rt (d := c40) rfl rfl ?_, ⟨⟨szOk wide, fun z => by subst z; simp at hrl, by show rs.length < 1000; omega, hrs⟩, by show rs.length ≤ 3; omega, row0, hr0, rfl⟩, go, bx, by omega⟩
    have e2l : ev (RF.run T.fs (k + 3)) (.cons (.lit (.int 2)) .nil) s5 C12 = .ok (.tup [.int 2]) C12 := rfl
    have hs : src0 .rng1 [.int 2] C12 = some (.upto 0 2) := rfl
    refine (exs_cons (exs_set (h1 := C1) a1 rfl)).trans ((exs_cons (exs_set (h1 := C1) a2 rfl)).trans ((exs_cons (exs_set (h1 := C5) a3 rfl)).trans ((exs_cons e7).trans ((exs_cons (exs_set (h1 := C11) a4 rfl)).trans ((exs_cons (exs_set (h1 := C12) a5 rfl)).trans ((exs_cons ((exs_loop e2l hs).trans e)).trans (exs_rt (exs_ret ?_))))))))
    refine ev_tup (ev_cons (C1 := C') rfl (ev_one (ev_bi (ev_one (w := .ref C10.n) (C1 := C') rfl) (tup_ref gl)))) rfl
  · exact h.elim
end K04
end
section
set_option Elab.async false
set_option linter.all false
set_option maxRecDepth 100000
set_option maxHeartbeats 2000000
namespace K04
open PySem RF
def esW (es : List Nat) : W := .tup (es.map nW)
theorem add_lst {a b : Nat} {xs ys : List W} {C : CH} (hx : C.get a = some (.lst xs)) (hy : C.get b = some (.lst ys)) (hl : xs.length + ys.length ≤ 1000000) : binW .Add (.ref a) (.ref b) C = .ok (.ref C.n) (C.new (.lst (xs ++ ys))) := by
  have h : short (xs ++ ys) = true := short_of (by rw [List.length_append]; exact hl)
  simp only [binW, hx, hy, h, if_true]
theorem add_tup {xs ys : List W} (hl : xs.length + ys.length ≤ 1000000) (C : CH) : binW .Add (.tup xs) (.tup ys) C = .ok (.tup (xs ++ ys)) C := by
  have h : short (xs ++ ys) = true := short_of (by rw [List.length_append]; exact hl)
  simp only [binW, h, if_true]
def cBI : CS := .cons (.set 8 (.bin .Add (.var 8) (.comp [("k", 10)] .rng1 (.cons (.bi .len (.cons (.var 1) .nil)) .nil) (.nm 10) (.cmp .Eq (.ix (.var 3) (.var 10)) (.var 7)) (.bin .Add (.var 9) (.tup (.cons (.var 10) .nil)))))) .nil
def cBO : CS := .cons (.set 8 (.lst .nil)) (.cons (.loop .seq (.cons (.var 6) .nil) (.nm 9) cBI) (.cons (.set 6 (.var 8)) .nil))
def cBR : CS := .cons (.set 6 (.lst (.cons (.tup .nil) .nil))) (.cons (.loop .seq (.cons (.ix (.var 5) (.lit (.int 0))) .nil) (.nm 7) cBO) (.cons (.set 2 (.bin .Add (.var 2) (.comp [("its", 9)] .seq (.cons (.var 6) .nil) (.nm 9) (.lit (.bl true)) (.tup (.cons (.var 4) (.cons (.var 9) .nil)))))) .nil))
/-- the longer ones -/
def exts (ss : List Nat) (o : Nat) (its : List Nat) : List (List Nat) := ((List.range ss.length).filter fun j => decide (ss[j]? = some o)).map fun j => its ++ [j]
theorem exts_len (ss : List Nat) (o : Nat) (its : List Nat) : (exts ss o its).length ≤ ss.length := by
  unfold exts
  rw [List.length_map]
  exact Nat.le_trans (List.length_filter_le _ _) (by rw [List.length_range]; exact Nat.le_refl _)
theorem exts_mem {ss : List Nat} {o : Nat} {its x : List Nat} (h : x ∈ exts ss o its) : ∃ j, x = its ++ [j] ∧ ss[j]? = some o := by
  unfold exts at h
  obtain ⟨j, hj, rfl⟩ := List.mem_map.mp h
  exact ⟨j, rfl, of_decide_eq_true (List.mem_filter.mp hj).2⟩
theorem turnI (rn : Nat → List W → CH → R W) {cw : W} {w : List Ver} {f rr ln el a10 : Option W} {kr lr o : Nat} {ss its : List Nat} {L : List (List Nat)} {C : CH} (hC : C.os.length = C.n) (hlw : w.length = ss.length) (hk : C.get kr = some (.lst (ss.map nW))) (hr : C.get lr = some (.lst (L.map esW))) (hss : ss.length ≤ 20) (hits : its.length ≤ 10) (hL : L.length ≤ 100000) :
    ∃ (lr' : Nat) (C' : CH), exs rn cBI [some cw, some (webW w), f, some (.ref kr), rr, ln, el, some (nW o), some (.ref lr), some (esW its), a10] C = .nx [some cw, some (webW w), f, some (.ref kr), rr, ln, el, some (nW o), some (.ref lr'), some (esW its), a10] C' ∧ Sub0 C C' ∧ C'.get lr' = some (.lst ((L ++ exts ss o its).map esW)) := by
  let s0 : St := [some cw, some (webW w), f, some (.ref kr), rr, ln, el, some (nW o), some (.ref lr), some (esW its), a10]
  have a1 : ev rn (.cons (.bi .len (.cons (.var 1) .nil)) .nil) s0 C = .ok (.tup [nW ss.length]) C := by
    refine ev_one (ev_bi (ev_one (w := webW w) (C1 := C) rfl) ((len_tup _ C).trans ?_))
    rw [List.length_map, hlw] <;> rfl
  have hs : src0 .rng1 [nW ss.length] C = some (.upto 0 ss.length) := by
    have : small ((ss.length : Nat) : Int) = true := small_ _ (by omega) (by omega)
    simp only [src0, nW, this, if_true, Int.toNat_natCast]
  obtain ⟨C1, h1, e1⟩ := compL_q (fc := ev rn (.cmp .Eq (.ix (.var 3) (.var 10)) (.var 7))) (fe := ev rn (.bin .Add (.var 9) (.tup (.cons (.var 10) .nil)))) (p := .nm 10) (s := wipeW s0 (([("k", 10)] : List (PySem.Str × Nat)).map fun (x : PySem.Str × Nat) => x.2)) (I := fun C1 => Sub0 C C1) (q := fun i => .upto (0 + (i : Int)) (ss.length - i)) (xs := upW 0 ss.length) (tells_upto 0 ss.length)
    (fun x => match x with | .int i => decide (ss[i.toNat]? = some o) | _ => false) (fun x => match x with | .int i => .tup (its.map nW ++ [.int i]) | _ => x) (fun x hx C2 h2 => by
      obtain ⟨j, hj, rfl⟩ := List.getElem_of_mem hx
      rw [upW_len] at hj
      have ej : (upW 0 ss.length)[j]'(by rw [upW_len]; exact hj) = .int (j : Int) := by
        have := (upW_at (lo := 0) (n := ss.length) (List.getElem?_eq_getElem (by rw [upW_len]; exact hj))).1
        rw [this, Int.zero_add]
      rw [ej]
      have hsj : ss[j]? = some ss[j] := List.getElem?_eq_getElem hj
      let s1 : St := [some cw, some (webW w), f, some (.ref kr), rr, ln, el, some (nW o), some (.ref lr), some (esW its), some (nW j)]
      refine ⟨s1, rfl, .bl (decide (ss[j] = o)), C2, ?_, ?_, h2, fun _ => ⟨C2, ?_, h2⟩⟩
      · exact ev_cmps (C1 := C2) (C2 := C2) (x := nW ss[j]) (y := nW o) (ev_ixs (C1 := C2) (C2 := C2) (x := .ref kr) (y := nW j) rfl rfl (ix_ref (h2.keep _ _ (fun z => z) hk) (nW_at hsj))) rfl (cmp_nat _ _ _)
      · show some (decide (ss[j] = o)) = some (decide (ss[((j : Nat) : Int).toNat]? = some o))
        rw [Int.toNat_natCast, hsj]
        simp
      · exact ev_bins (C1 := C2) (C2 := C2) (x := esW its) (y := .tup [nW j]) rfl rfl (add_tup (by rw [List.length_map]; simp; omega) C2)) ((upW 0 ss.length).length - 0) 0 fuel [] C rfl (.refl hC) (by rw [upW_len]; exact Nat.lt_of_le_of_lt (show ss.length - 0 ≤ 20 by omega) (by decide))
  have el1 : (((upW 0 ss.length).drop 0).filter fun x => match x with | .int i => decide (ss[i.toNat]? = some o) | _ => false).map (fun x => match x with | .int i => W.tup (its.map nW ++ [.int i]) | _ => x) = (exts ss o its).map esW := by
    rw [List.drop_zero]
    unfold upW exts
    rw [List.filter_map, List.map_map, List.map_map]
    have ef : ((fun x => match x with | W.int i => decide (ss[i.toNat]? = some o) | _ => false) ∘ fun (i : Nat) => W.int (0 + (i : Int))) = fun j => decide (ss[j]? = some o) := by
      funext j
      show decide (ss[((0 : Int) + (j : Int)).toNat]? = some o) = _
      rw [Int.zero_add, Int.toNat_natCast]
    rw [ef]
    congr 1
    funext j
    show W.tup (its.map nW ++ [.int (0 + (j : Int))]) = W.tup ((its ++ [j]).map nW)
    rw [Int.zero_add, List.map_append] <;> rfl
  rw [el1, List.reverse_nil, List.nil_append] at e1
  let C2 := C1.new (.lst ((exts ss o its).map esW))
  have h2 : Sub0 C1 C2 := (Sub.refl h1.wf).new _
  have e2 : ev rn (.bin .Add (.var 8) (.comp [("k", 10)] .rng1 (.cons (.bi .len (.cons (.var 1) .nil)) .nil) (.nm 10) (.cmp .Eq (.ix (.var 3) (.var 10)) (.var 7)) (.bin .Add (.var 9) (.tup (.cons (.var 10) .nil))))) s0 C = .ok (.ref C2.n) (C2.new (.lst (L.map esW ++ (exts ss o its).map esW))) := by
    refine ev_bins (C1 := C) (C2 := C2) (x := .ref lr) (y := .ref C1.n) rfl ((ev_comp a1 hs).trans e1) (add_lst ((h1.trans h2).keep _ _ (fun z => z) hr) (new_at h1.wf _) ?_)
    have := exts_len ss o its
    rw [List.length_map, List.length_map]
    omega
  refine ⟨C2.n, C2.new (.lst (L.map esW ++ (exts ss o its).map esW)), (exs_cons (exs_set e2 rfl)).trans rfl, (h1.trans h2).new _, ?_⟩
  rw [new_at h2.wf, List.map_append]
/-- one elder more -/
theorem turnO (rn : Nat → List W → CH → R W) {cw : W} {w : List Ver} {f rr ln a8 a9 a10 : Option W} {kr el o m : Nat} {ss : List Nat} {E : List (List Nat)} {C : CH} (hC : C.os.length = C.n) (hlw : w.length = ss.length) (hk : C.get kr = some (.lst (ss.map nW))) (hr : C.get el = some (.lst (E.map esW))) (hss : ss.length ≤ 20) (hits : ∀ x ∈ E, x.length = m) (hm : m ≤ 2) (hE : E.length ≤ 400) :
    ∃ (el' : Nat) (E' : List (List Nat)) (b8 b9 b10 : Option W) (C' : CH), exs rn cBO [some cw, some (webW w), f, some (.ref kr), rr, ln, some (.ref el), some (nW o), a8, a9, a10] C = .nx [some cw, some (webW w), f, some (.ref kr), rr, ln, some (.ref el'), some (nW o), b8, b9, b10] C' ∧ Sub0 C C' ∧ C'.get el' = some (.lst (E'.map esW)) ∧ E'.length ≤ E.length * 20 ∧ ∀ x ∈ E', ∃ its ∈ E, ∃ j, x = its ++ [j] ∧ ss[j]? = some o := by
  let s0 : St := [some cw, some (webW w), f, some (.ref kr), rr, ln, some (.ref el), some (nW o), a8, a9, a10]
  let C0 := C.new (.lst ([] : List W))
  have h0 : Sub0 C C0 := (Sub.refl hC).new _
  let s1 : St := [some cw, some (webW w), f, some (.ref kr), rr, ln, some (.ref el), some (nW o), some (.ref C.n), a9, a10]
  let Inv : Nat → St → CH → Prop := fun i st C1 => ∃ (lr : Nat) (b9 b10 : Option W) (L : List (List Nat)), st = [some cw, some (webW w), f, some (.ref kr), rr, ln, some (.ref el), some (nW o), some (.ref lr), b9, b10] ∧ Sub0 C C1 ∧ C1.get lr = some (.lst (L.map esW)) ∧ L.length ≤ i * 20 ∧ ∀ x ∈ L, ∃ its ∈ E, ∃ j, x = its ++ [j] ∧ ss[j]? = some o
  have hf := forL_q (fb := exs rn cBI) (p := .nm 9) (I := fun C1 => Sub0 C0 C1 ∨ Sub0 C C1) (q := fun i => .lref el i) (xs := E.map esW) (tells_lref fun C1 hI => by
      rcases hI with hI | hI
      · exact (h0.trans hI).keep _ _ (fun z => z) hr
      · exact hI.keep _ _ (fun z => z) hr) Inv (fun _ _ => False) (fun i st C1 ⟨_, _, _, _, _, h, _⟩ => .inr h) (fun i x st C1 hx hI => by
      obtain ⟨lr, b9, b10, L, rfl, hs, hg, hL, hP⟩ := hI
      rw [List.getElem?_map] at hx
      cases hi : E[i]? with
      | none => rw [hi] at hx; cases hx
      | some its =>
        rw [hi] at hx
        have hx : esW its = x := Option.some.inj hx
        subst hx
        have hmem : its ∈ E := List.mem_of_getElem? hi
        have hil := lt_of hi
        obtain ⟨lr', C2, e2, h2, g2⟩ := turnI rn (cw := cw) (w := w) (f := f) (rr := rr) (ln := ln) (el := some (.ref el)) (a10 := b10) (o := o) (its := its) hs.wf hlw (hs.keep _ _ (fun z => z) hk) hg hss (by rw [hits its hmem]; omega) (by omega)
        refine ⟨[some cw, some (webW w), f, some (.ref kr), rr, ln, some (.ref el), some (nW o), some (.ref lr), some (esW its), b10], rfl, .inl ⟨_, C2, .inl e2, lr', _, _, _, rfl, hs.trans h2, g2, ?_, fun x hx => ?_⟩⟩
        · have := exts_len ss o its
          rw [List.length_append]
          omega
        · rcases List.mem_append.mp hx with hx | hx
          · exact hP x hx
          · obtain ⟨j, e, hj⟩ := exts_mem hx
            exact ⟨its, hmem, j, e, hj⟩) ((E.map esW).length - 0) 0 fuel s1 C0 rfl (Nat.zero_le _) ⟨C.n, a9, a10, [], rfl, h0, new_at hC _, by simp, fun _ h => by simp at h⟩ (by rw [List.length_map]; exact Nat.lt_of_le_of_lt (show E.length - 0 ≤ 400 by omega) (by decide))
  have a1 : ev rn (.cons (.var 6) .nil) s1 C0 = .ok (.tup [.ref el]) C0 := rfl
  have hs : src0 .seq [.ref el] C0 = some (.lref el 0) := by
    simp only [src0, lstAt, h0.keep _ _ (fun z => z) hr]
  rcases hf with ⟨s', C', e, ⟨lr, b9, b10, L, rfl, hs', hg, hL, hP⟩⟩ | ⟨_, _, _, h⟩
  · rw [List.length_map] at hL
    exact ⟨lr, L, _, _, _, C', (exs_cons (exs_set (h1 := C0) (w := .ref C.n) rfl rfl)).trans ((exs_cons ((exs_loop a1 hs).trans e)).trans ((exs_cons (exs_set (h1 := C') (w := .ref lr) rfl rfl)).trans rfl)), hs', hg, hL, hP⟩
  · exact h.elim
end K04
end
section
set_option Elab.async false
set_option linter.all false
set_option maxRecDepth 100000
set_option maxHeartbeats 2000000
namespace K04
open PySem RF
/-- a list comprehension that keeps all, its items known -/
theorem lst_q {run : Nat → List W → CH → R W} {own : List (PySem.Str × Nat)} {k : IK} {args elt : CE} {p : CP} {s : St} {C C0 : CH} {l : List W} {q : Nat → Src} {xs ys : List W} (ha : ev run args s C = .ok (.tup l) C0) (hs0 : Sub0 C C0) (hs : src0 k l C0 = some (q 0)) (hq : Tells (fun C1 => Sub0 C0 C1) q xs) (hl : xs.length < fuel) (hy : xs.length = ys.length)
    (h : ∀ (i : Nat) (x y : W), xs[i]? = some x → ys[i]? = some y → ∀ C1, Sub0 C0 C1 → ∃ s', bindP C1 p x (wipeW s (own.map fun (x : PySem.Str × Nat) => x.2)) = some s' ∧ ∃ C2, ev run elt s' C1 = .ok y C2 ∧ Sub0 C1 C2) :
    ∃ C', Sub0 C C' ∧ ev run (.comp own k args p (.lit (.bl true)) elt) s C = .ok (.ref C'.n) (C'.new (.lst ys)) := by
  obtain ⟨C', hs1, e⟩ := compL_i (fc := ev run (.lit (.bl true))) (fe := ev run elt) (p := p) (s := wipeW s (own.map fun (x : PySem.Str × Nat) => x.2)) hq hy (fun i x y hx hyy C1 hs => by
    obtain ⟨s', hb, C2, he, hs2⟩ := h i x y hx hyy C1 hs
    exact ⟨s', hb, .bl true, C1, rfl, rfl, C2, he, hs.trans hs2⟩) (xs.length - 0) 0 fuel [] C0 rfl (.refl hs0.wf) hl
  rw [List.reverse_nil, List.nil_append, List.drop_zero] at e
  exact ⟨C', hs0.trans hs1, (ev_comp ha hs).trans e⟩
theorem map_at {α : Type} {f : α → W} {l : List α} {i : Nat} {x : W} (h : (l.map f)[i]? = some x) : ∃ a, l[i]? = some a ∧ x = f a := by
  rw [List.getElem?_map] at h
  cases e : l[i]? with
  | none => rw [e] at h; cases h
  | some a => rw [e] at h; exact ⟨a, rfl, (Option.some.inj h).symm⟩
/-- the choices of elders as far as they are told -/
structure EOk (ss el : List Nat) (j : Nat) (E : List (List Nat)) : Prop where
  len : ∀ x ∈ E, x.length = j
  fit : ∀ x ∈ E, ∀ (a e s : Nat), x[a]? = some e → el[a]? = some s → ss[e]? = some s
  few : E.length ≤ 20 ^ j
  one : j = 0 → E = [[]]
theorem EOk.next {ss el : List Nat} {j o : Nat} {E E' : List (List Nat)} (h : EOk ss el j E) (ho : el[j]? = some o) (hl : E'.length ≤ E.length * 20) (hx : ∀ x ∈ E', ∃ its ∈ E, ∃ j, x = its ++ [j] ∧ ss[j]? = some o) : EOk ss el (j + 1) E' := by
  refine ⟨fun x hm => ?_, fun x hm a e s h1 h2 => ?_, ?_, fun z => by omega⟩
  · obtain ⟨its, hi, b, rfl, _⟩ := hx x hm
    rw [List.length_append, h.len its hi] <;> rfl
  · obtain ⟨its, hi, b, rfl, hb⟩ := hx x hm
    have hlen := h.len its hi
    by_cases ha : a < j
    · rw [List.getElem?_append_left (by omega)] at h1
      exact h.fit its hi a e s h1 h2
    · have h3 := lt_of h1
      rw [List.length_append] at h3
      simp at h3
      have : a = j := by omega
      subst this
      rw [List.getElem?_append_right (by omega), hlen, Nat.sub_self] at h1
      have h1 : b = e := by simpa using h1
      rw [ho] at h2
      cases h2
      rw [← h1]
      exact hb
  · have := h.few
    rw [Nat.pow_succ]
    exact Nat.le_trans hl (Nat.mul_le_mul_right 20 this)
theorem pow2 {j : Nat} (h : j ≤ 2) : 20 ^ j ≤ 400 := by
  have : j = 0 ∨ j = 1 ∨ j = 2 := by omega
  rcases this with rfl | rfl | rfl <;> decide
/-- one row -/
theorem turnR (rn : Nat → List W → CH → R W) {cw : W} {w : List Ver} {a6 a7 a8 a9 a10 : Option W} {kr fr i : Nat} {ss : List Nat} {row : Row} {vs : List Ver} {C : CH} (hC : C.os.length = C.n) (hlw : w.length = ss.length) (hk : C.get kr = some (.lst (ss.map nW))) (hf : C.get fr = some (.lst (vs.map verW))) (hss : ss.length ≤ 20) (hel : row.el.length ≤ 2) (hvs : vs.length ≤ 10000) :
    ∃ (fr' : Nat) (E : List (List Nat)) (b6 b7 b8 b9 b10 : Option W) (C' : CH), exs rn cBR [some cw, some (webW w), some (.ref fr), some (.ref kr), some (nW i), some (rowW row), a6, a7, a8, a9, a10] C = .nx [some cw, some (webW w), some (.ref fr'), some (.ref kr), some (nW i), some (rowW row), b6, b7, b8, b9, b10] C' ∧ Sub0 C C' ∧ C'.get fr' = some (.lst ((vs ++ E.map fun x => (i, x)).map verW)) ∧ EOk ss row.el row.el.length E ∧ C.n ≤ fr' := by
  let s0 : St := [some cw, some (webW w), some (.ref fr), some (.ref kr), some (nW i), some (rowW row), a6, a7, a8, a9, a10]
  let C0 := C.new (.lst ([[]].map esW))
  have h0 : Sub0 C C0 := (Sub.refl hC).new _
  let s1 : St := [some cw, some (webW w), some (.ref fr), some (.ref kr), some (nW i), some (rowW row), some (.ref C.n), a7, a8, a9, a10]
  have a1 : ev rn (.lst (.cons (.tup .nil) .nil)) s0 C = .ok (.ref C.n) C0 := rfl
  let Inv : Nat → St → CH → Prop := fun j st C1 => ∃ (er : Nat) (b7 b8 b9 b10 : Option W) (E : List (List Nat)), st = [some cw, some (webW w), some (.ref fr), some (.ref kr), some (nW i), some (rowW row), some (.ref er), b7, b8, b9, b10] ∧ Sub0 C C1 ∧ C1.get er = some (.lst (E.map esW)) ∧ EOk ss row.el j E
  have hq := forL_q (fb := exs rn cBO) (p := .nm 7) (I := fun _ => True) (q := fun i => .st ((row.el.map nW).drop i)) (xs := row.el.map nW) (tells_st _) Inv (fun _ _ => False) (fun _ _ _ _ => trivial) (fun j x st C1 hx hI => by
      obtain ⟨er, b7, b8, b9, b10, E, rfl, hs, hg, hE⟩ := hI
      obtain ⟨o, ho, rfl⟩ := map_at hx
      have hj := lt_of ho
      have hE4 : E.length ≤ 400 := Nat.le_trans hE.few (pow2 (by omega))
      obtain ⟨er', E', c8, c9, c10, C2, e2, h2, g2, hl2, hx2⟩ := turnO rn (cw := cw) (w := w) (f := some (.ref fr)) (rr := some (nW i)) (ln := some (rowW row)) (a8 := b8) (a9 := b9) (a10 := b10) (o := o) (m := j) hs.wf hlw (hs.keep _ _ (fun z => z) hk) hg hss hE.len (by omega) hE4
      exact ⟨[some cw, some (webW w), some (.ref fr), some (.ref kr), some (nW i), some (rowW row), some (.ref er), some (nW o), b8, b9, b10], rfl, .inl ⟨_, C2, .inl e2, er', _, _, _, _, E', rfl, hs.trans h2, g2, hE.next ho hl2 hx2⟩⟩)
      ((row.el.map nW).length - 0) 0 fuel s1 C0 rfl (Nat.zero_le _) ⟨C.n, a7, a8, a9, a10, [[]], rfl, h0, new_at hC _, ⟨fun x hx => by simp at hx; subst hx; rfl, fun x hx a e s h1 => by simp at hx; subst hx; simp at h1, by simp, fun _ => rfl⟩⟩ (by rw [List.length_map]; exact Nat.lt_of_le_of_lt (show row.el.length - 0 ≤ 2 by omega) (by decide))
  have a2 : ev rn (.cons (.ix (.var 5) (.lit (.int 0))) .nil) s1 C0 = .ok (.tup [.tup (row.el.map nW)]) C0 := ev_one (ev_ixs (C1 := C0) (C2 := C0) (x := rowW row) (y := nW 0) rfl rfl (ix_tup rfl C0))
  rcases hq with ⟨s', C1, e1, ⟨er, b7, b8, b9, b10, E, rfl, hs, hg, hE⟩⟩ | ⟨_, _, _, h⟩
  · rw [List.length_map] at hE
    have hE4 : E.length ≤ 400 := Nat.le_trans hE.few (pow2 hel)
    let s2 : St := [some cw, some (webW w), some (.ref fr), some (.ref kr), some (nW i), some (rowW row), some (.ref er), b7, b8, b9, b10]
    obtain ⟨C2, h2, e2⟩ := lst_q (run := rn) (own := [("its", 9)]) (k := .seq) (args := .cons (.var 6) .nil) (elt := .tup (.cons (.var 4) (.cons (.var 9) .nil))) (p := .nm 9) (s := s2) (C := C1) (C0 := C1) (l := [.ref er]) (q := fun i => .lref er i) (xs := E.map esW) (ys := (E.map fun x => (i, x)).map verW) rfl (.refl hs.wf) (by simp only [src0, lstAt, hg]) (tells_lref fun C3 h3 => h3.keep _ _ (fun z => z) hg) (by rw [List.length_map]; exact Nat.lt_of_le_of_lt hE4 (by decide)) (by rw [List.length_map, List.length_map, List.length_map]) (fun j x y hx hy C3 h3 => by
        obtain ⟨es, hes, rfl⟩ := map_at hx
        rw [List.map_map, List.getElem?_map, hes] at hy
        have hy : verW (i, es) = y := Option.some.inj hy
        subst hy
        exact ⟨[some cw, some (webW w), some (.ref fr), some (.ref kr), some (nW i), some (rowW row), some (.ref er), b7, b8, some (esW es), b10], rfl, C3, rfl, .refl h3.wf⟩)
    let C3 := C2.new (.lst ((E.map fun x => (i, x)).map verW))
    have h3 : Sub0 C2 C3 := (Sub.refl h2.wf).new _
    have hf3 := ((hs.trans h2).trans h3).keep _ _ (fun z => z) hf
    have e3 : ev rn (.bin .Add (.var 2) (.comp [("its", 9)] .seq (.cons (.var 6) .nil) (.nm 9) (.lit (.bl true)) (.tup (.cons (.var 4) (.cons (.var 9) .nil))))) s2 C1 = .ok (.ref C3.n) (C3.new (.lst (vs.map verW ++ (E.map fun x => (i, x)).map verW))) :=
      ev_bins (C1 := C1) (C2 := C3) (x := .ref fr) (y := .ref C2.n) rfl e2 (add_lst hf3 (new_at h2.wf _) (by rw [List.length_map, List.length_map, List.length_map]; omega))
    refine ⟨C3.n, E, some (.ref er), b7, b8, b9, b10, C3.new (.lst (vs.map verW ++ (E.map fun x => (i, x)).map verW)), (exs_cons (exs_set (h1 := C0) a1 rfl)).trans ((exs_cons ((exs_loop a2 rfl).trans e1)).trans ((exs_cons (exs_set e3 rfl)).trans rfl)), ((hs.trans h2).trans h3).new _, ?_, hE, ((hs.trans h2).trans h3).le⟩
    rw [new_at h3.wf, List.map_append]
  · exact h.elim
theorem comes_ (k : Nat) {c : Cr} (hs : HsOk c) {w : List Ver} (hw : WbOk c w) (hl : w.length ≤ 20) {C : CH} (hC : C.os.length = C.n) :
    ∃ (r : Nat) (vs : List Ver) (C' : CH), RF.run T.fs (k + 1) 42 [crW c, webW w] C = .ok (.ref r) C' ∧ Sub0 C C' ∧ C'.get r = some (.lst (vs.map verW)) ∧ (∀ v ∈ vs, VerOk c (shapes c w) v) ∧ vs ≠ [] ∧ vs.length ≤ 10000 ∧ C.n ≤ r := by
  let rn := RF.run T.fs k
  let s0 : St := [some (crW c), some (webW w), none, none, none, none, none, none, none, none, none]
  let C0 := C.new (.lst ([] : List W))
  have h0 : Sub0 C C0 := (Sub.refl hC).new _
  let s1 : St := [some (crW c), some (webW w), some (.ref C.n), none, none, none, none, none, none, none, none]
  have hsl : (shapes c w).length = w.length := by rw [shapes, List.length_map]
  obtain ⟨C1, h1, e1⟩ := lst_q (run := rn) (own := [("own", 7)]) (k := .seq) (args := .cons (.var 1) .nil) (elt := .ix (.ix (.ix (.var 0) (.lit (.int 1))) (.ix (.var 7) (.lit (.int 0)))) (.lit (.int 3))) (p := .nm 7) (s := s1) (C := C0) (C0 := C0) (l := [webW w]) (q := fun i => .st ((w.map verW).drop i)) (xs := w.map verW) (ys := (shapes c w).map nW) rfl (.refl h0.wf) rfl (tells_st _) (by rw [List.length_map]; exact Nat.lt_of_le_of_lt hl (by decide)) (by rw [List.length_map, List.length_map, hsl]) (fun j x y hx hy C3 h3 => by
    obtain ⟨v, hv, rfl⟩ := map_at hx
    obtain ⟨o, ho, rfl⟩ := map_at hy
    rw [shapes, List.getElem?_map, hv] at ho
    have ho : shOf c v = o := Option.some.inj ho
    subst ho
    obtain ⟨row, hrow, _⟩ := hw.ok j v hv
    refine ⟨[some (crW c), some (webW w), some (.ref C.n), none, none, none, none, some (verW v), none, none, none], rfl, C3, ?_, .refl h3.wf⟩
    refine ev_ixs (C1 := C3) (C2 := C3) (x := rowW row) (y := nW 3) (ev_ixs (C1 := C3) (C2 := C3) (x := .tup (c.rows.map rowW)) (y := nW v.1) (ev_ixs (C1 := C3) (C2 := C3) (x := crW c) (y := nW 1) rfl rfl (ix_tup rfl C3)) (ev_ixs (C1 := C3) (C2 := C3) (x := verW v) (y := nW 0) rfl rfl (ix_tup rfl C3)) (ix_tup (rows_at hrow) C3)) rfl (ix_tup ?_ C3)
    unfold shOf
    rw [hrow] <;> rfl)
  let C2 := C1.new (.lst ((shapes c w).map nW))
  have h2 : Sub0 C1 C2 := (Sub.refl h1.wf).new _
  have gk : C2.get C1.n = some (.lst ((shapes c w).map nW)) := new_at h1.wf _
  let s2 : St := [some (crW c), some (webW w), some (.ref C.n), some (.ref C1.n), none, none, none, none, none, none, none]
  let Inv : Nat → St → CH → Prop := fun i st C3 => ∃ (fr : Nat) (a4 a5 a6 a7 a8 a9 a10 : Option W) (vs : List Ver), st = [some (crW c), some (webW w), some (.ref fr), some (.ref C1.n), a4, a5, a6, a7, a8, a9, a10] ∧ Sub0 C2 C3 ∧ C3.get fr = some (.lst (vs.map verW)) ∧ (∀ v ∈ vs, VerOk c (shapes c w) v) ∧ vs.length ≤ 400 * i ∧ (0 < i → vs ≠ []) ∧ C.n ≤ fr
  have hq := forL_q (fb := exs rn cBR) (p := .tp (.cons (.nm 4) (.cons (.nm 5) .nil))) (I := fun _ => True) (q := fun i => .st ((enumW 0 (c.rows.map rowW)).drop i)) (xs := enumW 0 (c.rows.map rowW)) (tells_st _) Inv (fun _ _ => False) (fun _ _ _ _ => trivial) (fun i x st C3 hx hI => by
      obtain ⟨fr, a4, a5, a6, a7, a8, a9, a10, vs, rfl, hs3, hg, hv, hvl, hne, hfr⟩ := hI
      have hx2 := enum_at (c.rows.map rowW) 0 i
      rw [show ((0 : Nat) : Int) = 0 from rfl, hx, Nat.zero_add, List.getElem?_map] at hx2
      cases hr : c.rows[i]? with
      | none => rw [hr] at hx2; cases hx2
      | some row =>
        rw [hr] at hx2
        have hx3 : x = .tup [nW i, rowW row] := Option.some.inj hx2
        subst hx3
        have ok := hs.ok.ok row (List.mem_of_getElem? hr)
        have hi3 : i < 3 := Nat.lt_of_lt_of_le (lt_of hr) hs.few
        obtain ⟨fr', E, b6, b7, b8, b9, b10, C4, e4, h4, g4, hE, hfl⟩ := turnR rn (cw := crW c) (w := w) (a6 := a6) (a7 := a7) (a8 := a8) (a9 := a9) (a10 := a10) (i := i) hs3.wf hsl.symm (hs3.keep _ _ (fun z => z) gk) hg (by rw [hsl]; exact hl) ok.el2 (by omega)
        have hE4 : E.length ≤ 400 := Nat.le_trans hE.few (pow2 ok.el2)
        refine ⟨[some (crW c), some (webW w), some (.ref fr), some (.ref C1.n), some (nW i), some (rowW row), a6, a7, a8, a9, a10], rfl, .inl ⟨_, C4, .inl e4, fr', _, _, _, _, _, _, _, vs ++ E.map fun x => (i, x), rfl, hs3.trans h4, g4, fun v hm => ?_, ?_, fun _ => ?_, ?_⟩⟩
        · rcases List.mem_append.mp hm with hm | hm
          · exact hv v hm
          · obtain ⟨es, hes, rfl⟩ := List.mem_map.mp hm
            exact ⟨row, hr, hE.len es hes, fun j e s h1 h2 => hE.fit es hes j e s h1 h2⟩
        · rw [List.length_append, List.length_map]
          omega
        · by_cases z : i = 0
          · subst z
            obtain ⟨r0, hr0, hel⟩ := hs.fst
            rw [hr] at hr0
            cases hr0
            have := hE.one (by rw [hel] <;> rfl)
            subst this
            simp
          · have := hne (by omega)
            simp [this]
        · exact Nat.le_trans (Nat.le_trans ((h0.trans h1).trans h2).le hs3.le) hfl) ((enumW 0 (c.rows.map rowW)).length - 0) 0 fuel s2 C2 rfl (Nat.zero_le _) ⟨C.n, _, _, _, _, _, _, _, [], rfl, .refl h2.wf, (h1.trans h2).keep _ _ (fun z => z) (new_at hC _), fun _ h => by simp at h, by simp, fun z => by omega, Nat.le_refl _⟩ (by
      rw [Nat.sub_zero, enum_len, List.length_map]
      exact Nat.lt_of_le_of_lt hs.few (by decide))
  have a3 : ev rn (.cons (.ix (.var 0) (.lit (.int 1))) .nil) s2 C2 = .ok (.tup [.tup (c.rows.map rowW)]) C2 := ev_one (ev_ixs (C1 := C2) (C2 := C2) (x := crW c) (y := nW 1) rfl rfl (ix_tup rfl C2))
  rcases hq with ⟨s', C3, e3, ⟨fr, a4, a5, a6, a7, a8, a9, a10, vs, rfl, hs3, hg, hv, hvl, hne, hfr⟩⟩ | ⟨_, _, _, h⟩
  · rw [enum_len, List.length_map] at hvl hne
    have := hs.few
    refine ⟨fr, vs, C3, call_rt (d := c42) rfl rfl ?_, ((h0.trans h1).trans h2).trans hs3, hg, hv, hne ?_, by omega, hfr⟩
    · exact (exs_cons (exs_set (h1 := C0) (w := .ref C.n) rfl rfl)).trans ((exs_cons (exs_set (h1 := C2) e1 rfl)).trans ((exs_cons ((exs_loop a3 rfl).trans e3)).trans (exs_rt (exs_ret rfl))))
    · exact List.length_pos_iff.mpr hs.ok.ne
  · exact h.elim
end K04
end
section
set_option Elab.async false
set_option linter.all false
set_option maxRecDepth 100000
set_option maxHeartbeats 2000000
namespace K04
open PySem RF
theorem wb_next {c : Cr} {w : List Ver} {v : Ver} (hw : WbOk c w) (hv : VerOk c (shapes c w) v) (hl : w.length < 999) : WbOk c (w ++ [v]) := by
  refine ⟨by rw [List.length_append]; simp; omega, fun i u hu => ?_⟩
  have hs : shapes c (w ++ [v]) = shapes c w ++ [shOf c v] := by unfold shapes; rw [List.map_append] <;> rfl
  have hsl : (shapes c w).length = w.length := by rw [shapes, List.length_map]
  rw [hs]
  by_cases hi : i < w.length
  · rw [List.getElem?_append_left hi] at hu
    rw [List.take_append_of_le_length (by omega)]
    exact hw.ok i u hu
  · have h2 := lt_of hu
    rw [List.length_append] at h2
    simp at h2
    have : i = w.length := by omega
    subst this
    rw [List.getElem?_append_right (Nat.le_refl _), Nat.sub_self] at hu
    have hu : v = u := by simpa using hu
    subst hu
    rw [List.take_append_of_le_length (by omega), ← hsl, List.take_length]
    exact hv
theorem wb_nil (c : Cr) : WbOk c [] := ⟨by simp, fun i v h => by simp at h⟩
theorem ver_len {c : Cr} (hc : CrOk c) {ss : List Nat} {v : Ver} (hv : VerOk c ss v) : v.2.length ≤ 2 := by
  obtain ⟨r, hr, hl, _⟩ := hv
  rw [hl]
  exact (hc.ok r (List.mem_of_getElem? hr)).el2
theorem pi_ints (es : List Nat) (h : es.length < 1000) (n : Nat) : PI (n + 1) (.tup (es.map nW)) := .tup (by rw [List.length_map]; exact h) fun x hx => by
  obtain ⟨e, _, rfl⟩ := List.mem_map.mp hx
  exact .int _
theorem pi_ver {c : Cr} (hc : CrOk c) {ss : List Nat} {v : Ver} (hv : VerOk c ss v) (n : Nat) : PI (n + 2) (verW v) := .tup (by simp) fun x hx => by
  have := ver_len hc hv
  simp at hx
  rcases hx with rfl | rfl
  · exact .int _
  · exact pi_ints _ (by omega) n
theorem at_last {α : Type} (xs : List α) (h : xs ≠ []) : L2.atI xs (-1) = xs[xs.length - 1]? := by
  have hp := List.length_pos_iff.mpr h
  unfold L2.atI L2.ixN
  rw [if_neg (by decide), if_pos (by omega)]
  show xs[((-1 : Int) + (xs.length : Int)).toNat]? = _
  rw [show ((-1 : Int) + (xs.length : Int)).toNat = xs.length - 1 by omega]
def lateV (lap : Nat) (v : Ver) : Bool := !(v.2.map nW).isEmpty && (match v.2[v.2.length - 1]? with
  | some z => decide ((lap : Int) - 2 ≤ (z : Int))
  | none => false)
def lateW (lap : Nat) : W → Bool
  | .tup [_, .tup es] => !es.isEmpty && (match es[es.length - 1]? with
    | some (.int z) => decide ((lap : Int) - 2 ≤ z)
    | _ => false)
  | _ => false
theorem late_eq (lap : Nat) (v : Ver) : lateW lap (verW v) = lateV lap v := by
  obtain ⟨r, es⟩ := v
  show (!(es.map nW).isEmpty && (match (es.map nW)[(es.map nW).length - 1]? with
    | some (.int z) => decide ((lap : Int) - 2 ≤ z)
    | _ => false)) = (!(es.map nW).isEmpty && (match es[es.length - 1]? with
    | some z => decide ((lap : Int) - 2 ≤ (z : Int))
    | none => false))
  rw [List.length_map, List.getElem?_map]
  cases es[es.length - 1]? <;> rfl
def tTB : CS := (.cons (.set 5 (.call 42 (.cons (.var 1) (.cons (.var 3) .nil)))) (.cons (.ifs (.cmp .Eq (.var 5) (.lst .nil)) (.cons (.ret (.var 3)) .nil) .nil) (.cons (.set 6 (.comp [("own", 7)] .seq (.cons (.var 5) .nil) (.nm 7) (.and (.cmp .NotEq (.ix (.var 7) (.lit (.int 1))) (.tup .nil)) (.cmp .GtE (.ix (.ix (.var 7) (.lit (.int 1))) (.neg (.lit (.int 1)))) (.bin .Sub (.var 4) (.lit (.int 2))))) (.var 7))) (.cons (.ifs (.and (.cmp .NotEq (.var 6) (.lst .nil)) (.cmp .Gt (.call 31 (.cons (.var 0) (.cons (.lit (.int 3)) .nil))) (.lit (.int 0)))) (.cons (.set 5 (.var 6)) .nil) .nil) (.cons (.set 3 (.bin .Add (.var 3) (.tup (.cons (.call 33 (.cons (.var 0) (.cons (.var 5) .nil))) .nil)))) .nil)))))
theorem tale_turn (k : Nat) {c : Cr} (hs : HsOk c) {w : List Ver} (hw : WbOk c w) {i m : Nat} (hl : w.length ≤ 18) {C : CH} (hC : C.os.length = C.n) {t : Nat} {s n : Int} (b : Box C t s n) (hn : n < 300000) (a5 a6 a7 : Option W) :
    ∃ (v : Ver) (b5 b6 b7 : Option W) (n' : Int) (C' : CH), exs (RF.run T.fs (k + 2)) tTB [some (.ref t), some (crW c), some (nW m), some (webW w), some (nW i), a5, a6, a7] C = .nx [some (.ref t), some (crW c), some (nW m), some (webW (w ++ [v])), some (nW i), b5, b6, b7] C' ∧ VerOk c (shapes c w) v ∧ Go t C C' ∧ Box C' t s n' ∧ n' ≤ n + 2 := by
  have ht := b.lt
  let s0 : St := [some (.ref t), some (crW c), some (nW m), some (webW w), some (nW i), a5, a6, a7]
  obtain ⟨r, vs, C1, e1, h1, g1, hv, hne, hvl, hr⟩ := comes_ (k + 1) hs hw (by omega) hC
  have x1 : ev (RF.run T.fs (k + 2)) (.call 42 (.cons (.var 1) (.cons (.var 3) .nil))) s0 C = .ok (.ref r) C1 := (ev_call (l := [crW c, webW w]) rfl).trans e1
  let s1 : St := [some (.ref t), some (crW c), some (nW m), some (webW w), some (nW i), some (.ref r), a6, a7]
  have qr : r ≠ t := by omega
  have pis : ∀ (us : List Ver), (∀ v ∈ us, v ∈ vs) → ∀ x ∈ us.map verW, PI 2 x := fun us hu x hx => by
    obtain ⟨v, hm, rfl⟩ := List.mem_map.mp hx
    exact pi_ver hs.ok (hv v (hu v hm)) 0
  let C2 := C1.new (.lst ([] : List W))
  have h2 : Sub0 C1 C2 := (Sub.refl h1.wf).new _
  have g2 : C2.get r = some (.lst (vs.map verW)) := h2.keep _ _ (fun z => z) g1
  have x2 : ev (RF.run T.fs (k + 2)) (.cmp .Eq (.var 5) (.lst .nil)) s1 C1 = .ok (.bl false) C2 := by
    refine ev_cmps (C1 := C1) (C2 := C2) (x := .ref r) (y := .ref C1.n) rfl rfl ?_
    have := eq_nil_ref (C := C2) g2 (new_at h1.wf _) (pis vs fun _ h => h) (by decide)
    have z : (vs.map verW).isEmpty = false := by cases vs with
      | nil => exact absurd rfl hne
      | cons _ _ => rfl
    simp only [cmpW, this, z]
  obtain ⟨C3, h3, e3⟩ := compL_q (fc := ev (RF.run T.fs (k + 2)) (.and (.cmp .NotEq (.ix (.var 7) (.lit (.int 1))) (.tup .nil)) (.cmp .GtE (.ix (.ix (.var 7) (.lit (.int 1))) (.neg (.lit (.int 1)))) (.bin .Sub (.var 4) (.lit (.int 2)))))) (fe := ev (RF.run T.fs (k + 2)) (.var 7)) (p := .nm 7) (s := wipeW s1 (([("own", 7)] : List (PySem.Str × Nat)).map fun (x : PySem.Str × Nat) => x.2)) (I := fun C3 => Sub0 C2 C3) (q := fun i => .lref r i) (xs := vs.map verW) (tells_lref fun C3 h3 => h3.keep _ _ (fun z => z) g2) (lateW i) id (fun x hx C4 h4 => by
      obtain ⟨v, hm, rfl⟩ := List.mem_map.mp hx
      let s2 : St := [some (.ref t), some (crW c), some (nW m), some (webW w), some (nW i), some (.ref r), a6, some (verW v)]
      have y1 : ev (RF.run T.fs (k + 2)) (.ix (.var 7) (.lit (.int 1))) s2 C4 = .ok (.tup (v.2.map nW)) C4 := ev_ixs (C1 := C4) (C2 := C4) (x := verW v) (y := nW 1) rfl rfl (ix_tup rfl C4)
      have vl := ver_len hs.ok (hv v hm)
      have y2 : ev (RF.run T.fs (k + 2)) (.cmp .NotEq (.ix (.var 7) (.lit (.int 1))) (.tup .nil)) s2 C4 = .ok (.bl (!(v.2.map nW).isEmpty)) C4 := by
        refine ev_cmps (C1 := C4) (C2 := C4) (x := .tup (v.2.map nW)) (y := .tup []) y1 rfl ?_
        have := eq_nil_tup (xs := v.2.map nW) (n := 0) (fun x hx => by obtain ⟨e, _, rfl⟩ := List.mem_map.mp hx; exact .int _) (by decide) C4
        simp only [cmpW, this]
      rw [late_eq]
      refine ⟨s2, rfl, .bl (lateV i v), C4, ?_, rfl, h4, fun _ => ⟨C4, rfl, h4⟩⟩
      by_cases z : v.2 = []
      · have z1 : (!(v.2.map nW).isEmpty) = false := by rw [z] <;> rfl
        have z2 : lateV i v = false := by unfold lateV; rw [z1] <;> rfl
        rw [z1] at y2
        rw [z2]
        simp only [ev, RF.R.bind] at y2 ⊢
        rw [y2]
        rfl
      · have z1 : (!(v.2.map nW).isEmpty) = true := by
          cases hh : v.2 with
          | nil => exact absurd hh z
          | cons _ _ => rfl
        rw [z1] at y2
        obtain ⟨zl, hlast⟩ : ∃ zl, v.2[v.2.length - 1]? = some zl := ⟨v.2[v.2.length - 1]'(by have := List.length_pos_iff.mpr z; omega), List.getElem?_eq_getElem (by have := List.length_pos_iff.mpr z; omega)⟩
        refine (ev_and y2 rfl).trans ?_
        have y3 : ixW (.tup (v.2.map nW)) (.int (-1)) C4 = .ok (nW zl) C4 := by
          show (match L2.atI (v.2.map nW) (-1) with
            | some w => R.ok w C4
            | none => .bad) = _
          rw [at_last _ (by simpa using z), List.length_map, List.getElem?_map, hlast] <;> rfl
        refine ev_cmps (C1 := C4) (C2 := C4) (x := nW zl) (y := .int ((i : Int) - 2)) (ev_ixs (C1 := C4) (C2 := C4) (x := .tup (v.2.map nW)) (y := .int (-1)) y1 rfl y3) rfl ?_
        unfold lateV
        rw [z1, hlast]
        rfl) ((vs.map verW).length - 0) 0 fuel [] C2 rfl (.refl h2.wf) (by rw [List.length_map]; exact Nat.lt_of_le_of_lt (show vs.length - 0 ≤ 10000 by omega) (by decide))
  rw [List.reverse_nil, List.nil_append, List.drop_zero, List.map_id, List.filter_map] at e3
  let ls := vs.filter (lateW i ∘ verW)
  have hls : ∀ v ∈ ls, v ∈ vs := fun v hm => (List.mem_filter.mp hm).1
  let C4 := C3.new (.lst (ls.map verW))
  have h4 : Sub0 C3 C4 := (Sub.refl h3.wf).new _
  have x3 : ev (RF.run T.fs (k + 2)) (.comp [("own", 7)] .seq (.cons (.var 5) .nil) (.nm 7) (.and (.cmp .NotEq (.ix (.var 7) (.lit (.int 1))) (.tup .nil)) (.cmp .GtE (.ix (.ix (.var 7) (.lit (.int 1))) (.neg (.lit (.int 1)))) (.bin .Sub (.var 4) (.lit (.int 2))))) (.var 7)) s1 C2 = .ok (.ref C3.n) C4 :=
    (ev_comp (l := [.ref r]) (q := .lref r 0) rfl (by simp only [src0, lstAt, g2])).trans e3
  let s2 : St := [some (.ref t), some (crW c), some (nW m), some (webW w), some (nW i), some (.ref r), some (.ref C3.n), a7]
  have h04 : Sub0 C C4 := ((h1.trans h2).trans h3).trans h4
  have g4 : C4.get r = some (.lst (vs.map verW)) := (h3.trans h4).keep _ _ (fun z => z) g2
  have gl4 : C4.get C3.n = some (.lst (ls.map verW)) := new_at h3.wf _
  have le3 : C.n ≤ C3.n := ((h1.trans h2).trans h3).le
  have ql : C3.n ≠ t := by omega
  let C5 := C4.new (.lst ([] : List W))
  have h5 : Sub0 C4 C5 := (Sub.refl h4.wf).new _
  have x4 : ev (RF.run T.fs (k + 2)) (.cmp .NotEq (.var 6) (.lst .nil)) s2 C4 = .ok (.bl (!(ls.map verW).isEmpty)) C5 := by
    refine ev_cmps (C1 := C4) (C2 := C5) (x := .ref C3.n) (y := .ref C4.n) rfl rfl ?_
    have := eq_nil_ref (C := C5) (h5.keep _ _ (fun z => z) gl4) (new_at h4.wf _) (pis ls hls) (by decide)
    simp only [cmpW, this]
  have mid : ∃ (g : Nat) (us : List Ver) (n1 : Int) (C6 : CH), exs (RF.run T.fs (k + 2)) (.ifs (.and (.cmp .NotEq (.var 6) (.lst .nil)) (.cmp .Gt (.call 31 (.cons (.var 0) (.cons (.lit (.int 3)) .nil))) (.lit (.int 0)))) (.cons (.set 5 (.var 6)) .nil) .nil) s2 C4 = .nx [some (.ref t), some (crW c), some (nW m), some (webW w), some (nW i), some (.ref g), some (.ref C3.n), a7] C6 ∧ C6.get g = some (.lst (us.map verW)) ∧ us ≠ [] ∧ (∀ v ∈ us, v ∈ vs) ∧ us.length ≤ 10000 ∧ g ≠ t ∧ Go t C4 C6 ∧ Box C6 t s n1 ∧ n1 ≤ n + 1 := by
    by_cases z : ls = []
    · have z1 : (!(ls.map verW).isEmpty) = false := by rw [z] <;> rfl
      rw [z1] at x4
      have x5 : ev (RF.run T.fs (k + 2)) (.and (.cmp .NotEq (.var 6) (.lst .nil)) (.cmp .Gt (.call 31 (.cons (.var 0) (.cons (.lit (.int 3)) .nil))) (.lit (.int 0)))) s2 C4 = .ok (.bl false) C5 := by
        simp only [ev, RF.R.bind] at x4 ⊢
        rw [x4]
        rfl
      exact ⟨r, vs, n, C5, exs_no x5 rfl, h5.keep _ _ (fun z => z) g4, hne, fun _ h => h, hvl, qr, h5.any, (b.keep h04).keep h5, by omega⟩
    · have z1 : (!(ls.map verW).isEmpty) = true := by
        cases hh : ls with
        | nil => exact absurd hh z
        | cons _ _ => rfl
      rw [z1] at x4
      obtain ⟨d, n1, C6, e6, hd, go6, b6, hn6⟩ := ev_take (k + 1) (st := s2) h5.wf rfl ((b.keep h04).keep h5) (by omega) 3 (by decide) (by decide)
      have x5 : ev (RF.run T.fs (k + 2)) (.and (.cmp .NotEq (.var 6) (.lst .nil)) (.cmp .Gt (.call 31 (.cons (.var 0) (.cons (.lit (.int 3)) .nil))) (.lit (.int 0)))) s2 C4 = .ok (.bl (decide ((0 : Int) < (d : Int)))) C6 :=
        (ev_and x4 rfl).trans (ev_cmps (C1 := C6) (C2 := C6) (x := nW d) (y := .int 0) e6 rfl rfl)
      by_cases y : (0 : Int) < (d : Int)
      · rw [decide_eq_true y] at x5
        exact ⟨C3.n, ls, n1, C6, (exs_yes x5 rfl).trans ((exs_cons (exs_set (h1 := C6) (w := .ref C3.n) rfl rfl)).trans rfl), go6.at (h5.keep _ _ (fun z => z) gl4) ql, z, hls, Nat.le_trans (List.length_filter_le _ _) hvl, ql, h5.any.trans go6, b6, by omega⟩
      · rw [decide_eq_false y] at x5
        exact ⟨r, vs, n1, C6, exs_no x5 rfl, go6.at (h5.keep _ _ (fun z => z) g4) qr, hne, fun _ h => h, hvl, qr, h5.any.trans go6, b6, by omega⟩
  obtain ⟨g, us, n1, C6, e6, g6, hus, hsub, hul, qg, go6, b6, hn6⟩ := mid
  obtain ⟨d, x, n2, C7, e7, hx, go7, b7, hn7⟩ := of_ k go6.wf b6 (by omega) g6 qg (by simpa using hus) (by rw [List.length_map]; omega)
  obtain ⟨v, hd, rfl⟩ := map_at hx
  have hvok := hv v (hsub v (List.mem_of_getElem? hd))
  let s3 : St := [some (.ref t), some (crW c), some (nW m), some (webW w), some (nW i), some (.ref g), some (.ref C3.n), a7]
  have x7 : ev (RF.run T.fs (k + 2)) (.bin .Add (.var 3) (.tup (.cons (.call 33 (.cons (.var 0) (.cons (.var 5) .nil))) .nil))) s3 C6 = .ok (webW (w ++ [v])) C7 := by
    refine ev_bins (C1 := C6) (C2 := C7) (x := webW w) (y := .tup [verW v]) rfl (ev_tup (ev_one ((ev_call (l := [.ref t, .ref g]) rfl).trans e7)) rfl) ((add_tup (by rw [List.length_map]; simp; omega) C7).trans ?_)
    unfold webW
    rw [List.map_append] <;> rfl
  refine ⟨v, some (.ref g), some (.ref C3.n), a7, n2, C7, ?_, hvok, (h04.any.trans go6).trans go7, b7, by omega⟩
  exact (exs_cons (exs_set x1 rfl)).trans ((exs_cons (exs_no x2 rfl)).trans ((exs_cons (exs_set x3 rfl)).trans ((exs_cons e6).trans ((exs_cons (exs_set x7 rfl)).trans rfl))))
theorem tale_ (k : Nat) {c : Cr} (hs : HsOk c) {m : Nat} (hm : m ≤ 18) {C : CH} (hC : C.os.length = C.n) {t : Nat} {s n : Int} (b : Box C t s n) (hn : n < 200000) :
    ∃ (w : List Ver) (n' : Int) (C' : CH), RF.run T.fs (k + 3) 43 [.ref t, crW c, nW m] C = .ok (webW w) C' ∧ WbOk c w ∧ w.length = m ∧ Go t C C' ∧ Box C' t s n' ∧ n' ≤ n + 100 := by
  let s0 : St := [some (.ref t), some (crW c), some (nW m), none, none, none, none, none]
  let s1 : St := [some (.ref t), some (crW c), some (nW m), some (webW []), none, none, none, none]
  let Inv : Nat → St → CH → Prop := fun i st C1 => ∃ (a4 a5 a6 a7 : Option W) (w : List Ver) (n' : Int), st = [some (.ref t), some (crW c), some (nW m), some (webW w), a4, a5, a6, a7] ∧ WbOk c w ∧ w.length = i ∧ Go t C C1 ∧ Box C1 t s n' ∧ n' ≤ n + 2 * (i : Int)
  have hf := forL_q (fb := exs (RF.run T.fs (k + 2)) tTB) (p := .nm 4) (I := fun _ => True) (q := fun i => .upto (0 + (i : Int)) (m - i)) (xs := upW 0 m) (tells_upto 0 m) Inv (fun _ _ => False) (fun _ _ _ _ => trivial) (fun i x st Cx hx hI => by
    obtain ⟨a4, a5, a6, a7, w, n', rfl, hw, hl, go, bx, hn'⟩ := hI
    obtain ⟨rfl, hi⟩ := upW_at hx
    obtain ⟨v, b5, b6, b7, n2, C2, e2, hv, go2, b2, hn2⟩ := tale_turn k hs hw (i := i) (m := m) (by omega) go.wf bx (by omega) a5 a6 a7
    have e0 : (0 : Int) + (i : Int) = (i : Int) := Int.zero_add _
    refine ⟨[some (.ref t), some (crW c), some (nW m), some (webW w), some (nW i), a5, a6, a7], by rw [e0] <;> rfl, .inl ⟨_, C2, .inl e2, _, _, _, _, w ++ [v], n2, rfl, wb_next hw hv (by omega), by rw [List.length_append, hl] <;> rfl, go.trans go2, b2, by omega⟩⟩) ((upW 0 m).length - 0) 0 fuel s1 C rfl (Nat.zero_le _) ⟨none, none, none, none, [], n, rfl, wb_nil c, rfl, .refl hC, b, by omega⟩ (by rw [upW_len]; exact Nat.lt_of_le_of_lt (show m - 0 ≤ 18 by omega) (by decide))
  have hsr : src0 .rng1 [nW m] C = some (.upto 0 m) := by
    have : small ((m : Nat) : Int) = true := small_ _ (by omega) (by omega)
    simp only [src0, nW, this, if_true, Int.toNat_natCast]
  rcases hf with ⟨s', C', e, ⟨a4, a5, a6, a7, w, n', rfl, hw, hl, go, bx, hn'⟩⟩ | ⟨_, _, _, h⟩
  · rw [upW_len] at hl hn'
    exact ⟨w, n', C', call_rt (d := c43) rfl rfl ((exs_cons (exs_set (h1 := C) (w := webW []) rfl rfl)).trans ((exs_cons ((exs_loop (l := [nW m]) (C1 := C) rfl hsr).trans e)).trans (exs_rt (exs_ret rfl)))), hw, hl, go, bx, by omega⟩
  · exact h.elim
end K04
end
section
set_option Elab.async false
set_option linter.all false
set_option maxRecDepth 100000
set_option maxHeartbeats 2000000
namespace K04
open PySem RF
def spotsAt (c : Cr) (w : List Ver) (i : Nat) : List (Nat × Nat) := (List.range (slotsAt c w i).length).map fun a => (i, a)
def spots (c : Cr) (w : List Ver) (n : Nat) : List (Nat × Nat) := (List.range n).flatMap (spotsAt c w)
theorem spots_next (c : Cr) (w : List Ver) (n : Nat) : spots c w (n + 1) = spots c w n ++ spotsAt c w n := by
  unfold spots
  rw [List.range_succ, List.flatMap_append]
  simp
theorem spots_mem {c : Cr} {w : List Ver} {n : Nat} {p : Nat × Nat} (h : p ∈ spots c w n) : p.1 < n ∧ p.2 < (slotsAt c w p.1).length := by
  unfold spots spotsAt at h
  obtain ⟨i, hi, h⟩ := List.mem_flatMap.mp h
  obtain ⟨a, ha, rfl⟩ := List.mem_map.mp h
  exact ⟨List.mem_range.mp hi, List.mem_range.mp ha⟩
/-- a version of a web, its row -/
theorem wb_row {c : Cr} {w : List Ver} (hw : WbOk c w) {i : Nat} (hi : i < w.length) : ∃ v r, w[i]? = some v ∧ c.rows[v.1]? = some r ∧ slotsAt c w i = r.sl ∧ v.2.length = r.el.length := by
  have hv : w[i]? = some w[i] := List.getElem?_eq_getElem hi
  obtain ⟨r, hr, hl, _⟩ := hw.ok i _ hv
  exact ⟨w[i], r, hv, hr, slots_len hv hr, hl⟩
theorem slots_few {c : Cr} (hc : CrOk c) {w : List Ver} (hw : WbOk c w) (i : Nat) : (slotsAt c w i).length < 64 := by
  by_cases hi : i < w.length
  · obtain ⟨v, r, _, hr, e, _⟩ := wb_row hw hi
    rw [e]
    exact (hc.ok r (List.mem_of_getElem? hr)).sll
  · unfold slotsAt
    rw [List.getElem?_eq_none (by omega)]
    simp
theorem spots_len {c : Cr} (hc : CrOk c) {w : List Ver} (hw : WbOk c w) : ∀ n, (spots c w n).length ≤ 64 * n
  | 0 => by simp [spots]
  | n + 1 => by
    have := spots_len hc hw n
    have h2 := slots_few hc hw n
    rw [spots_next, List.length_append]
    have : (spotsAt c w n).length = (slotsAt c w n).length := by unfold spotsAt; rw [List.length_map, List.length_range]
    omega
def sSB : CS := .cons (.set 2 (.bin .Add (.var 2) (.comp [("at_so", 5)] .rng1 (.cons (.ix (.ix (.var 0) (.lit (.int 0))) (.ix (.ix (.ix (.var 0) (.lit (.int 1))) (.ix (.var 4) (.lit (.int 0)))) (.lit (.int 3)))) .nil) (.nm 5) (.lit (.bl true)) (.tup (.cons (.var 3) (.cons (.var 5) .nil)))))) .nil
theorem slots_ (k : Nat) {c : Cr} (hc : CrOk c) {w : List Ver} (hw : WbOk c w) (hl : w.length ≤ 20) {C : CH} (hC : C.os.length = C.n) :
    ∃ (r : Nat) (C' : CH), RF.run T.fs (k + 1) 47 [crW c, webW w] C = .ok (.ref r) C' ∧ Sub0 C C' ∧ C'.get r = some (.lst ((spots c w w.length).map prW)) ∧ C.n ≤ r := by
  let rn := RF.run T.fs k
  let C0 := C.new (.lst ([] : List W))
  have h0 : Sub0 C C0 := (Sub.refl hC).new _
  let s1 : St := [some (crW c), some (webW w), some (.ref C.n), none, none, none]
  let Inv : Nat → St → CH → Prop := fun i st C1 => ∃ (fr : Nat) (a3 a4 a5 : Option W), st = [some (crW c), some (webW w), some (.ref fr), a3, a4, a5] ∧ Sub0 C C1 ∧ C1.get fr = some (.lst ((spots c w i).map prW)) ∧ C.n ≤ fr
  have hf := forL_q (fb := exs rn sSB) (p := .tp (.cons (.nm 3) (.cons (.nm 4) .nil))) (I := fun _ => True) (q := fun i => .st ((enumW 0 (w.map verW)).drop i)) (xs := enumW 0 (w.map verW)) (tells_st _) Inv (fun _ _ => False) (fun _ _ _ _ => trivial) (fun i x st C1 hx hI => by
      obtain ⟨fr, a3, a4, a5, rfl, hs, hg, hfr⟩ := hI
      have hx2 := enum_at (w.map verW) 0 i
      rw [show ((0 : Nat) : Int) = 0 from rfl, hx, Nat.zero_add, List.getElem?_map] at hx2
      cases hv : w[i]? with
      | none => rw [hv] at hx2; cases hx2
      | some v =>
        rw [hv] at hx2
        have hx3 : x = .tup [nW i, verW v] := Option.some.inj hx2
        subst hx3
        obtain ⟨row, hrow, _⟩ := hw.ok i v hv
        have ok := hc.ok row (List.mem_of_getElem? hrow)
        have esl := slots_len hv hrow
        let s2 : St := [some (crW c), some (webW w), some (.ref fr), some (nW i), some (verW v), a5]
        have e1 : ev rn (.cons (.ix (.ix (.var 0) (.lit (.int 0))) (.ix (.ix (.ix (.var 0) (.lit (.int 1))) (.ix (.var 4) (.lit (.int 0)))) (.lit (.int 3)))) .nil) s2 C1 = .ok (.tup [nW row.sl.length]) C1 := by
          refine ev_one (ev_ixs (C1 := C1) (C2 := C1) (x := .tup (c.sz.map nW)) (y := nW row.sh) (ev_ixs (C1 := C1) (C2 := C1) (x := crW c) (y := nW 0) rfl rfl (ix_tup rfl C1)) (ev_ixs (C1 := C1) (C2 := C1) (x := rowW row) (y := nW 3) (ev_ixs (C1 := C1) (C2 := C1) (x := .tup (c.rows.map rowW)) (y := nW v.1) (ev_ixs (C1 := C1) (C2 := C1) (x := crW c) (y := nW 1) rfl rfl (ix_tup rfl C1)) (ev_ixs (C1 := C1) (C2 := C1) (x := verW v) (y := nW 0) rfl rfl (ix_tup rfl C1)) (ix_tup (rows_at hrow) C1)) rfl (ix_tup rfl C1)) (ix_tup (nW_at ok.shz) C1))
        have hsl := ok.sll
        have hsr : src0 .rng1 [nW row.sl.length] C1 = some (.upto 0 row.sl.length) := by
          have : small ((row.sl.length : Nat) : Int) = true := small_ _ (by omega) (by omega)
          simp only [src0, nW, this, if_true, Int.toNat_natCast]
        have hsp : (spotsAt c w i).length = row.sl.length := by unfold spotsAt; rw [List.length_map, List.length_range, esl]
        obtain ⟨C2, h2, e2⟩ := lst_q (run := rn) (own := [("at_so", 5)]) (k := .rng1) (elt := .tup (.cons (.var 3) (.cons (.var 5) .nil))) (p := .nm 5) (s := s2) (C := C1) (C0 := C1) (q := fun i => .upto (0 + (i : Int)) (row.sl.length - i)) (xs := upW 0 row.sl.length) (ys := (spotsAt c w i).map prW) e1 (.refl hs.wf) hsr (tells_upto 0 _) (by rw [upW_len]; exact Nat.lt_trans hsl (by decide)) (by rw [upW_len, List.length_map, hsp]) (fun j x y hx hy C3 h3 => by
          obtain ⟨rfl, hj⟩ := upW_at hx
          obtain ⟨p, hp, rfl⟩ := map_at hy
          unfold spotsAt at hp
          rw [List.getElem?_map, List.getElem?_range (by rw [esl]; exact hj)] at hp
          have hp : (i, j) = p := Option.some.inj hp
          subst hp
          have e0 : (0 : Int) + (j : Int) = (j : Int) := Int.zero_add _
          exact ⟨[some (crW c), some (webW w), some (.ref fr), some (nW i), some (verW v), some (nW j)], by rw [e0] <;> rfl, C3, rfl, .refl h3.wf⟩)
        let C3 := C2.new (.lst ((spotsAt c w i).map prW))
        have h3 : Sub0 C2 C3 := (Sub.refl h2.wf).new _
        have e3 : ev rn (.bin .Add (.var 2) (.comp [("at_so", 5)] .rng1 (.cons (.ix (.ix (.var 0) (.lit (.int 0))) (.ix (.ix (.ix (.var 0) (.lit (.int 1))) (.ix (.var 4) (.lit (.int 0)))) (.lit (.int 3)))) .nil) (.nm 5) (.lit (.bl true)) (.tup (.cons (.var 3) (.cons (.var 5) .nil))))) s2 C1 = .ok (.ref C3.n) (C3.new (.lst ((spots c w i).map prW ++ (spotsAt c w i).map prW))) := by
          refine ev_bins (C1 := C1) (C2 := C3) (x := .ref fr) (y := .ref C2.n) rfl e2 (add_lst ((h2.trans h3).keep _ _ (fun z => z) hg) (new_at h2.wf _) ?_)
          have := spots_len hc hw i
          have := lt_of hv
          rw [List.length_map, List.length_map, hsp]
          omega
        refine ⟨s2, rfl, .inl ⟨_, C3.new (.lst ((spots c w i).map prW ++ (spotsAt c w i).map prW)), .inl ((exs_cons (exs_set e3 rfl)).trans rfl), C3.n, _, _, _, rfl, ((hs.trans h2).trans h3).new _, ?_, ((hs.trans h2).trans h3).le⟩⟩
        rw [new_at h3.wf, spots_next, List.map_append]) ((enumW 0 (w.map verW)).length - 0) 0 fuel s1 C0 rfl (Nat.zero_le _) ⟨C.n, none, none, none, rfl, h0, new_at hC _, Nat.le_refl _⟩ (by rw [Nat.sub_zero, enum_len, List.length_map]; exact Nat.lt_of_le_of_lt hl (by decide))
  rcases hf with ⟨s', C', e, ⟨fr, a3, a4, a5, rfl, hs, hg, hfr⟩⟩ | ⟨_, _, _, h⟩
  · rw [enum_len, List.length_map] at hg
    exact ⟨fr, C', call_rt (d := c47) rfl rfl ((exs_cons (exs_set (h1 := C0) (w := .ref C.n) rfl rfl)).trans ((exs_cons ((exs_loop (l := [webW w]) (C1 := C0) rfl rfl).trans e)).trans (exs_rt (exs_ret rfl)))), hs, hg, hfr⟩
  · exact h.elim
/-- who is asked stands there -/
theorem ask_slot {c : Cr} (hc : CrOk c) {w : List Ver} (hw : WbOk c w) {i : Nat} {v : Ver} {r : Row} (hv : w[i]? = some v) (hr : c.rows[v.1]? = some r) {p : Nat × Nat} (ha : AskOk c.sz r.el p) :
    ∃ e ve r2 o2, v.2[p.1]? = some e ∧ e < i ∧ elderAt w i p.1 = e ∧ w[e]? = some ve ∧ c.rows[ve.1]? = some r2 ∧ r2.sl[p.2]? = some o2 := by
  obtain ⟨sh, n1, q1, q2, q3⟩ := ha
  have vok := hw.ok i v hv
  obtain ⟨r', hr', hl, hsh⟩ := id vok
  rw [hr] at hr'
  cases hr'
  have hp : p.1 < v.2.length := by rw [hl]; exact lt_of q1
  have he : v.2[p.1]? = some v.2[p.1] := List.getElem?_eq_getElem hp
  have hlt := elder_lt vok he
  have ee : elderAt w i p.1 = v.2[p.1] := by
    unfold elderAt
    rw [hv]
    show v.2.getD p.1 0 = _
    rw [List.getD_eq_getElem?_getD, he] <;> rfl
  have hsE := hsh p.1 v.2[p.1] sh he q1
  have hw2 : v.2[p.1] < w.length := Nat.lt_trans hlt (lt_of hv)
  have hve : w[v.2[p.1]]? = some w[v.2[p.1]] := List.getElem?_eq_getElem hw2
  obtain ⟨r2, hr2, _⟩ := hw.ok _ _ hve
  have hlen : r2.sl.length = n1 := by
    have e5 : shOf c w[v.2[p.1]] = sh := by
      rw [List.getElem?_take_of_lt hlt, shapes, List.getElem?_map, hve] at hsE
      exact Option.some.inj hsE
    unfold shOf at e5
    rw [hr2] at e5
    have e5 : r2.sh = sh := e5
    have := (hc.ok r2 (List.mem_of_getElem? hr2)).shz
    rw [e5, q2] at this
    exact (Option.some.inj this).symm
  exact ⟨v.2[p.1], w[v.2[p.1]], r2, r2.sl[p.2]'(by rw [hlen]; exact q3), he, hlt, ee, hve, hr2, List.getElem?_eq_getElem _⟩
theorem filt_spots (c : Cr) (w : List Ver) (q : Nat × Nat) (n : Nat) : ((spots c w n).filter fun p => decide (fnd c w (p.1 + 1) p.1 p.2 = some q)).map prW = (List.range' 0 n).flatMap (holdsAt c w q) := by
  unfold spots
  rw [List.filter_flatMap, List.map_flatMap, List.range_eq_range']
  congr 1
  funext i
  unfold spotsAt holdsAt
  rw [List.filter_map, List.map_map, List.range_eq_range']
  rfl
def spK (c : Cr) (w : List Ver) (q : Nat × Nat) : W → Bool
  | .tup [.int j, .int b] => decide (fnd c w (j.toNat + 1) j.toNat b.toNat = some q)
  | _ => false
theorem spK_pr (c : Cr) (w : List Ver) (q p : Nat × Nat) : spK c w q (prW p) = decide (fnd c w (p.1 + 1) p.1 p.2 = some q) := by
  show decide (fnd c w ((p.1 : Int).toNat + 1) (p.1 : Int).toNat (p.2 : Int).toNat = some q) = _
  rw [Int.toNat_natCast, Int.toNat_natCast]
/-- what is due to be told of a wait -/
def Due (C : CH) (r : Nat) (c : Cr) (w : List Ver) (i a : Nat) : Sl → Prop
  | .new _ ws => C.get r = some (.lst [.tup ((wantsL c w i ws).map prW), .tup ((List.range' 0 w.length).flatMap (holdsAt c w (i, a)))])
  | _ => ∃ r1 r2, C.get r = some (.lst [.ref r1, .ref r2]) ∧ C.get r1 = some (.lst unfitL) ∧ C.get r2 = some (.lst unfitL)
theorem due_ (k : Nat) {c : Cr} (hc : CrOk c) {w : List Ver} (hw : WbOk c w) (hl : w.length ≤ 20) {i a : Nat} {v : Ver} {r : Row} {o : Sl} (hv : w[i]? = some v) (hr : c.rows[v.1]? = some r) (ho : r.sl[a]? = some o) {C : CH} (hC : C.os.length = C.n) :
    ∃ (q : Nat) (C' : CH), RF.run T.fs (k + 2) 48 [crW c, webW w, prW (i, a)] C = .ok (.ref q) C' ∧ Sub0 C C' ∧ Due C' q c w i a o := by
  let rn := RF.run T.fs (k + 1)
  let s0 : St := [some (crW c), some (webW w), some (prW (i, a)), none, none, none, none, none, none, none]
  let s1 : St := [some (crW c), some (webW w), some (prW (i, a)), some (verW v), none, none, none, none, none, none]
  let s2 : St := [some (crW c), some (webW w), some (prW (i, a)), some (verW v), some (slW o), none, none, none, none, none]
  have hvw : (w.map verW)[i]? = some (verW v) := by rw [List.getElem?_map, hv] <;> rfl
  have hsl : (r.sl.map slW)[a]? = some (slW o) := by rw [List.getElem?_map, ho] <;> rfl
  have e1 : ev rn (.ix (.var 1) (.ix (.var 2) (.lit (.int 0)))) s0 C = .ok (verW v) C := ev_ixs (C1 := C) (C2 := C) (x := webW w) (y := nW i) rfl (ev_ixs (C1 := C) (C2 := C) (x := prW (i, a)) (y := nW 0) rfl rfl (ix_tup rfl C)) (ix_tup hvw C)
  have e2 : ev rn (.ix (.ix (.ix (.ix (.var 0) (.lit (.int 1))) (.ix (.var 3) (.lit (.int 0)))) (.lit (.int 4))) (.ix (.var 2) (.lit (.int 1)))) s1 C = .ok (slW o) C :=
    ev_ixs (C1 := C) (C2 := C) (x := .tup (r.sl.map slW)) (y := nW a) (ev_ixs (C1 := C) (C2 := C) (x := rowW r) (y := nW 4) (ev_ixs (C1 := C) (C2 := C) (x := .tup (c.rows.map rowW)) (y := nW v.1) (ev_ixs (C1 := C) (C2 := C) (x := crW c) (y := nW 1) rfl rfl (ix_tup rfl C)) (ev_ixs (C1 := C) (C2 := C) (x := verW v) (y := nW 0) rfl rfl (ix_tup rfl C)) (ix_tup (rows_at hr) C)) rfl (ix_tup rfl C)) (ev_ixs (C1 := C) (C2 := C) (x := prW (i, a)) (y := nW 1) rfl rfl (ix_tup rfl C)) (ix_tup hsl C)
  obtain ⟨x, x1, x2⟩ := not_new o C
  have e3 : ev rn (.cmp .NotEq (.ix (.var 4) (.lit (.int 0))) (.lit (.str "new"))) s2 C = .ok (.bl (!isNew o)) C := ev_cmps (C1 := C) (C2 := C) (x := .str x) (y := .str "new") (ev_ixs (C1 := C) (C2 := C) (x := slW o) (y := nW 0) rfl rfl x1) rfl x2
  have unf : isNew o = false → ∃ (q : Nat) (C' : CH), RF.run T.fs (k + 2) 48 [crW c, webW w, prW (i, a)] C = .ok (.ref q) C' ∧ Sub0 C C' ∧ ∃ r1 r2, C'.get q = some (.lst [.ref r1, .ref r2]) ∧ C'.get r1 = some (.lst unfitL) ∧ C'.get r2 = some (.lst unfitL) := fun hn => by
    rw [hn] at e3
    let C1 := C.new (.lst unfitL)
    let C2 := C1.new (.lst unfitL)
    let C3 := C2.new (.lst [.ref C.n, .ref C1.n])
    have h1 : Sub0 C C1 := (Sub.refl hC).new _
    have h2 : Sub0 C1 C2 := (Sub.refl h1.wf).new _
    have h3 : Sub0 C2 C3 := (Sub.refl h2.wf).new _
    refine ⟨C2.n, C3, call_rt (d := c48) rfl rfl ((exs_cons (exs_set e1 rfl)).trans ((exs_cons (exs_set e2 rfl)).trans (exs_rt ((exs_yes e3 rfl).trans (exs_rt (exs_ret rfl)))))), (h1.trans h2).trans h3, C.n, C1.n, new_at h2.wf _, (h2.trans h3).keep _ _ (fun z => z) (new_at hC _), h3.keep _ _ (fun z => z) (new_at h1.wf _)⟩
  cases o with
  | no => exact unf rfl
  | kept p s => exact unf rfl
  | new c0 ws =>
    have rok := hc.ok r (List.mem_of_getElem? hr)
    obtain ⟨q1, q2, q3⟩ := rok.sls _ (List.mem_of_getElem? ho)
    let f : Nat × Nat → Option (Nat × Nat) := fun p => fnd c w i (elderAt w i p.1) p.2
    obtain ⟨C1, h1, e4⟩ := lst_q (run := rn) (own := [("at_so", 7), ("slot_so", 8)]) (k := .seq) (args := .cons (.ix (.var 4) (.lit (.int 2))) .nil) (elt := .call 46 (.cons (.var 0) (.cons (.var 1) (.cons (.ix (.ix (.var 3) (.lit (.int 1))) (.var 7)) (.cons (.var 8) .nil))))) (p := .tp (.cons (.nm 7) (.cons (.nm 8) .nil))) (s := s2) (C := C) (C0 := C) (l := [.tup (ws.map prW)]) (q := fun i => .st ((ws.map prW).drop i)) (xs := ws.map prW) (ys := ws.map fun p => optW (f p))
      (ev_one (ev_ixs (C1 := C) (C2 := C) (x := slW (.new c0 ws)) (y := nW 2) rfl rfl (ix_tup rfl C))) (.refl hC) rfl (tells_st _) (by rw [List.length_map]; exact Nat.lt_trans q3 (by decide)) (by rw [List.length_map, List.length_map]) (fun j x y hx hy C3 h3 => by
        obtain ⟨p, hp, rfl⟩ := map_at hx
        obtain ⟨p', hp', rfl⟩ := map_at hy
        rw [hp] at hp'
        cases hp'
        obtain ⟨e, ve, r2, o2, y1, y2, y3, y4, y5, y6⟩ := ask_slot hc hw hv hr (q1 p (List.mem_of_getElem? hp))
        refine ⟨[some (crW c), some (webW w), some (prW (i, a)), some (verW v), some (slW (.new c0 ws)), none, none, some (nW p.1), some (nW p.2), none], rfl, C3, ?_, .refl h3.wf⟩
        have z1 : ev rn (.cons (.var 0) (.cons (.var 1) (.cons (.ix (.ix (.var 3) (.lit (.int 1))) (.var 7)) (.cons (.var 8) .nil)))) [some (crW c), some (webW w), some (prW (i, a)), some (verW v), some (slW (.new c0 ws)), none, none, some (nW p.1), some (nW p.2), none] C3 = .ok (.tup [crW c, webW w, nW e, nW p.2]) C3 :=
          ev_cons (C1 := C3) rfl (ev_cons (C1 := C3) rfl (ev_cons (C1 := C3) (ev_ixs (C1 := C3) (C2 := C3) (x := .tup (v.2.map nW)) (y := nW p.1) (ev_ixs (C1 := C3) (C2 := C3) (x := verW v) (y := nW 1) rfl rfl (ix_tup rfl C3)) rfl (ix_tup (nW_at y1) C3)) (ev_one rfl)))
        refine (ev_call z1).trans ((found_ k c hc w hw C3 y4 y5 y6).trans ?_)
        show R.ok (optW (fnd c w (e + 1) e p.2)) C3 = R.ok (optW (fnd c w i (elderAt w i p.1) p.2)) C3
        rw [y3, fnd_more hc hw (e + 1) i e p.2 (by omega) y2])
    let C2 := C1.new (.lst (ws.map fun p => optW (f p)))
    have h2 : Sub0 C1 C2 := (Sub.refl h1.wf).new _
    let s3 : St := [some (crW c), some (webW w), some (prW (i, a)), some (verW v), some (slW (.new c0 ws)), some (.ref C1.n), none, none, none, none]
    obtain ⟨sr, C3, e5, h3, g3, hsr⟩ := slots_ k hc hw hl h2.wf
    obtain ⟨C4, h4, e6⟩ := compL_q (fc := ev rn (.cmp .Eq (.call 46 (.cons (.var 0) (.cons (.var 1) (.cons (.ix (.var 9) (.lit (.int 0))) (.cons (.ix (.var 9) (.lit (.int 1))) .nil))))) (.var 2))) (fe := ev rn (.var 9)) (p := .nm 9) (s := wipeW s3 (([("its", 9)] : List (PySem.Str × Nat)).map fun (x : PySem.Str × Nat) => x.2)) (I := fun C4 => Sub0 C3 C4) (q := fun i => .lref sr i) (xs := (spots c w w.length).map prW) (tells_lref fun C4 h4 => h4.keep _ _ (fun z => z) g3) (spK c w (i, a)) id (fun x hx C5 h5 => by
        obtain ⟨p, hp, rfl⟩ := List.mem_map.mp hx
        obtain ⟨p1, p2⟩ := spots_mem hp
        obtain ⟨ve, r2, y4, y5, y6, _⟩ := wb_row hw p1
        rw [y6] at p2
        let s4 : St := [some (crW c), some (webW w), some (prW (i, a)), some (verW v), some (slW (.new c0 ws)), some (.ref C1.n), none, none, none, some (prW p)]
        refine ⟨s4, rfl, .bl (spK c w (i, a) (prW p)), C5, ?_, rfl, h5, fun _ => ⟨C5, rfl, h5⟩⟩
        have z1 : ev rn (.cons (.var 0) (.cons (.var 1) (.cons (.ix (.var 9) (.lit (.int 0))) (.cons (.ix (.var 9) (.lit (.int 1))) .nil)))) s4 C5 = .ok (.tup [crW c, webW w, nW p.1, nW p.2]) C5 :=
          ev_cons (C1 := C5) rfl (ev_cons (C1 := C5) rfl (ev_cons (C1 := C5) (ev_ixs (C1 := C5) (C2 := C5) (x := prW p) (y := nW 0) rfl rfl (ix_tup rfl C5)) (ev_one (ev_ixs (C1 := C5) (C2 := C5) (x := prW p) (y := nW 1) rfl rfl (ix_tup rfl C5)))))
        rw [spK_pr]
        refine ev_cmps (C1 := C5) (C2 := C5) (x := optW (fnd c w (p.1 + 1) p.1 p.2)) (y := prW (i, a)) ((ev_call z1).trans (found_ k c hc w hw C5 y4 y5 (List.getElem?_eq_getElem p2))) rfl ?_
        simp only [cmpW, eq_opt]) (((spots c w w.length).map prW).length - 0) 0 fuel [] C3 rfl (.refl h3.wf) (by
          have := spots_len hc hw w.length
          rw [List.length_map]
          exact Nat.lt_of_le_of_lt (show (spots c w w.length).length - 0 ≤ 1280 by omega) (by decide))
    rw [List.reverse_nil, List.nil_append, List.drop_zero, List.map_id, List.filter_map] at e6
    have ef : spK c w (i, a) ∘ prW = fun p => decide (fnd c w (p.1 + 1) p.1 p.2 = some (i, a)) := by
      funext p
      exact spK_pr c w (i, a) p
    rw [ef, filt_spots] at e6
    let hl2 := (List.range' 0 w.length).flatMap (holdsAt c w (i, a))
    let C5 := C4.new (.lst hl2)
    have h5 : Sub0 C4 C5 := (Sub.refl h4.wf).new _
    let s5 : St := [some (crW c), some (webW w), some (prW (i, a)), some (verW v), some (slW (.new c0 ws)), some (.ref C1.n), some (.ref C4.n), none, none, none]
    have e7 : ev rn (.comp [("its", 9)] .seq (.cons (.call 47 (.cons (.var 0) (.cons (.var 1) .nil))) .nil) (.nm 9) (.cmp .Eq (.call 46 (.cons (.var 0) (.cons (.var 1) (.cons (.ix (.var 9) (.lit (.int 0))) (.cons (.ix (.var 9) (.lit (.int 1))) .nil))))) (.var 2)) (.var 9)) s3 C2 = .ok (.ref C4.n) C5 :=
      (ev_comp (l := [.ref sr]) (C1 := C3) (q := .lref sr 0) (ev_one ((ev_call (l := [crW c, webW w]) rfl).trans e5)) (by simp only [src0, lstAt, g3])).trans e6
    have g1 : C5.get C1.n = some (.lst (ws.map fun p => optW (f p))) := ((h3.trans h4).trans h5).keep _ _ (fun z => z) (new_at h1.wf _)
    obtain ⟨C6, h6, e8⟩ := compL_q (fc := ev rn (.cmp .IsNot (.var 9) (.lit .non))) (fe := ev rn (.var 9)) (p := .nm 9) (s := wipeW s5 (([("its", 9)] : List (PySem.Str × Nat)).map fun (x : PySem.Str × Nat) => x.2)) (I := fun C6 => Sub0 C5 C6) (q := fun i => .lref C1.n i) (xs := ws.map fun p => optW (f p)) (tells_lref fun C6 h6 => h6.keep _ _ (fun z => z) g1) (fun x => !isNonW x) id (fun x hx C7 h7 => by
        exact ⟨[some (crW c), some (webW w), some (prW (i, a)), some (verW v), some (slW (.new c0 ws)), some (.ref C1.n), some (.ref C4.n), none, none, some x], rfl, .bl (!isNonW x), C7, rfl, rfl, h7, fun _ => ⟨C7, rfl, h7⟩⟩) ((ws.map fun p => optW (f p)).length - 0) 0 fuel [] C5 rfl (.refl h5.wf) (by rw [List.length_map]; exact Nat.lt_of_le_of_lt (show ws.length - 0 ≤ 64 by omega) (by decide))
    rw [List.reverse_nil, List.nil_append, List.drop_zero, keep_some] at e8
    let C7 := C6.new (.lst ((wantsL c w i ws).map prW))
    have h7 : Sub0 C6 C7 := (Sub.refl h6.wf).new _
    have e9 : ev rn (.bi .tuple (.cons (.comp [("its", 9)] .seq (.cons (.var 5) .nil) (.nm 9) (.cmp .IsNot (.var 9) (.lit .non)) (.var 9)) .nil)) s5 C5 = .ok (.tup ((wantsL c w i ws).map prW)) C7 :=
      ev_bi (ev_one ((ev_comp (l := [.ref C1.n]) (C1 := C5) (q := .lref C1.n 0) rfl (by simp only [src0, lstAt, g1])).trans e8)) (tup_ref (new_at h6.wf _))
    have e10 : ev rn (.bi .tuple (.cons (.var 6) .nil)) s5 C7 = .ok (.tup hl2) C7 := ev_bi (ev_one (w := .ref C4.n) (C1 := C7) rfl) (tup_ref ((h6.trans h7).keep _ _ (fun z => z) (new_at h4.wf _)))
    let C8 := C7.new (.lst [.tup ((wantsL c w i ws).map prW), .tup hl2])
    have h8 : Sub0 C7 C8 := (Sub.refl h7.wf).new _
    refine ⟨C7.n, C8, call_rt (d := c48) rfl rfl ((exs_cons (exs_set e1 rfl)).trans ((exs_cons (exs_set e2 rfl)).trans ((exs_cons (exs_no e3 rfl)).trans ((exs_cons (exs_set e4 rfl)).trans ((exs_cons (exs_set e7 rfl)).trans (exs_rt (exs_ret (ev_lst (ev_two e9 e10) rfl)))))))), ((((((h1.trans h2).trans h3).trans h4).trans h5).trans h6).trans h7).trans h8, new_at h7.wf _⟩
end K04
end
section
set_option Elab.async false
set_option linter.all false
set_option maxRecDepth 100000
set_option maxHeartbeats 2000000
namespace K04
open PySem RF
/-- a value told as a tuple is walked as its items -/
theorem TD.seq {C : CH} {n : Nat} {u : W} {ys : List W} (h : TD C (n + 1) u (.tup ys)) : ∃ xs, (∀ C1, Sub0 C C1 → items C1 u = some xs) ∧ xs.length = ys.length ∧ xs.length < 1000 ∧ (∀ (i : Nat) (x y : W), xs[i]? = some x → ys[i]? = some y → TD C n x y) ∧
    ∃ q : Nat → Src, (∀ C1, Sub0 C C1 → src0 .seq [u] C1 = some (q 0)) ∧ ∀ C0, Sub0 C C0 → Tells (fun C1 => Sub0 C0 C1) q xs := by
  cases h with
  | atom h => simp [atomW] at h
  | tup hl hs h => exact ⟨_, fun _ _ => rfl, hl, hs, h, fun i => .st (List.drop i _), fun _ _ => rfl, fun _ _ => tells_st _⟩
  | @lst _ r xs _ hr hl hs h =>
    refine ⟨xs, fun C1 h1 => ?_, hl, hs, h, fun i => .lref r i, fun C1 h1 => ?_, fun C0 h0 => tells_lref fun C1 h1 => (h0.trans h1).keep _ _ (fun z => z) hr⟩
    · simp only [items, h1.keep _ _ (fun z => z) hr]
    · simp only [src0, lstAt, h1.keep _ _ (fun z => z) hr]
theorem TD.int_inv {C : CH} {n : Nat} {u : W} {i : Int} (h : TD C n u (.int i)) : u = .int i := by
  cases h with
  | atom h => rfl
def shV (n : Nat) (v : Ver) : Ver := (v.1, v.2.map fun e => n + e)
def shW (n : Nat) (w : List Ver) : List Ver := w.map (shV n)
def sideL : List (List Ver) → List Ver → List Ver
  | [], acc => acc
  | w :: ws, acc => sideL ws (acc ++ shW acc.length w)
theorem sideL_snoc (w : List Ver) : ∀ (ws : List (List Ver)) (acc : List Ver), sideL (ws ++ [w]) acc = sideL ws acc ++ shW (sideL ws acc).length w
  | [], acc => rfl
  | u :: ws, acc => sideL_snoc w ws (acc ++ shW acc.length u)
theorem ev_ext {run : Nat → List W → CH → R W} {o es : CE} {s : St} {C C1 C2 : CH} {r q : Nat} {xs ys : List W} (ho : ev run o s C = .ok (.ref r) C1) (hg : C1.get r = some (.lst xs)) (he : ev run es s C1 = .ok (.tup [.ref q]) C2) (hg2 : C2.get r = some (.lst xs)) (hq : C2.get q = some (.lst ys)) (hl : xs.length + ys.length ≤ 1000000) :
    ev run (.meth .extend o es) s C = .ok .non (C2.set r (.lst (xs ++ ys))) := by
  have h1 : meRcv C1 .extend (.ref r) = true := by simp [meRcv, lstAt, hg]
  have h2 : short (xs ++ ys) = true := short_of (by rw [List.length_append]; exact hl)
  simp only [ev, ho, RF.R.bind, h1, he, methW, hg2, hq, h2, if_true]
def bBB : CS := (.cons (.set 3 (.bi .len (.cons (.var 1) .nil))) (.cons (.expr (.meth .extend (.var 1) (.cons (.comp [("row", 4), ("elders", 5)] .seq (.cons (.var 2) .nil) (.tp (.cons (.nm 4) (.cons (.nm 5) .nil))) (.lit (.bl true)) (.tup (.cons (.var 4) (.cons (.bi .tuple (.cons (.comp [("elder", 6)] .seq (.cons (.var 5) .nil) (.nm 6) (.lit (.bl true)) (.bin .Add (.var 3) (.var 6))) .nil)) .nil)))) .nil))) .nil))
theorem turnB (rn : Nat → List W → CH → R W) {uw : Option W} {u : W} {w acc : List Ver} {tr : Nat} {a3 a4 a5 a6 : Option W} {C : CH} (hC : C.os.length = C.n) (hu : TD C 3 u (webW w)) (hg : C.get tr = some (.lst (acc.map verW))) (hw : w.length < 1000) (ha : acc.length < 1000) (hvl : ∀ v ∈ w, v.2.length < 1000) :
    ∃ (b3 b4 b5 b6 : Option W) (C' : CH), exs rn bBB [uw, some (.ref tr), some u, a3, a4, a5, a6] C = .nx [uw, some (.ref tr), some u, b3, b4, b5, b6] C' ∧ Sub (fun r => r = tr) C C' ∧ C'.get tr = some (.lst ((acc ++ shW acc.length w).map verW)) := by
  let s0 : St := [uw, some (.ref tr), some u, a3, a4, a5, a6]
  have e1 : ev rn (.bi .len (.cons (.var 1) .nil)) s0 C = .ok (nW acc.length) C := by
    refine ev_bi (ev_one (w := .ref tr) (C1 := C) rfl) ((len_ref hg).trans ?_)
    rw [List.length_map] <;> rfl
  let s1 : St := [uw, some (.ref tr), some u, some (nW acc.length), a4, a5, a6]
  obtain ⟨xs, _, hxl, hxs, htd, q, hsrc, hq⟩ := hu.seq
  rw [List.length_map] at hxl
  obtain ⟨C1, h1, e2⟩ := lst_q (run := rn) (own := [("row", 4), ("elders", 5)]) (k := .seq) (args := .cons (.var 2) .nil) (elt := .tup (.cons (.var 4) (.cons (.bi .tuple (.cons (.comp [("elder", 6)] .seq (.cons (.var 5) .nil) (.nm 6) (.lit (.bl true)) (.bin .Add (.var 3) (.var 6))) .nil)) .nil))) (p := .tp (.cons (.nm 4) (.cons (.nm 5) .nil))) (s := s1) (C := C) (C0 := C) (l := [u]) (q := q) (xs := xs) (ys := (shW acc.length w).map verW) rfl (.refl hC) (hsrc C (.refl hC)) (hq C (.refl hC)) (Nat.lt_trans hxs (by decide)) (by rw [List.length_map, shW, List.length_map]; exact hxl) (fun j x y hx hy C2 h2 => by
    obtain ⟨v', hv', rfl⟩ := map_at hy
    rw [shW, List.getElem?_map] at hv'
    cases hv : w[j]? with
    | none => rw [hv] at hv'; cases hv'
    | some v =>
      rw [hv] at hv'
      have hv' : shV acc.length v = v' := Option.some.inj hv'
      subst hv'
      have td := htd j x (verW v) hx (by rw [List.getElem?_map, hv] <;> rfl)
      obtain ⟨zs, hit, hzl, _, hz, _⟩ := td.seq
      obtain ⟨z0, z1, rfl⟩ : ∃ z0 z1, zs = [z0, z1] := by
        match zs, hzl with
        | [z0, z1], _ => exact ⟨z0, z1, rfl⟩
      have t0 := (hz 0 z0 (nW v.1) rfl rfl).int_inv
      subst t0
      have t1 := hz 1 z1 (.tup (v.2.map nW)) rfl rfl
      obtain ⟨es, _, hel, hes, he, q2, hsrc2, hq2⟩ := t1.seq
      rw [List.length_map] at hel
      let s2 : St := [uw, some (.ref tr), some u, some (nW acc.length), some (nW v.1), some z1, a6]
      obtain ⟨C3, h3, e3⟩ := tup_q (run := rn) (own := [("elder", 6)]) (k := .seq) (args := .cons (.var 5) .nil) (elt := .bin .Add (.var 3) (.var 6)) (p := .nm 6) (s := s2) (C := C2) (C0 := C2) (l := [z1]) (q := q2) (xs := es) (ys := (v.2.map fun e => acc.length + e).map nW) rfl (.refl h2.wf) (hsrc2 C2 h2) (hq2 C2 h2) (Nat.lt_trans hes (by decide)) (by rw [List.length_map, List.length_map]; exact hel) (fun i x y hx hy C4 h4 => by
        obtain ⟨e', he', rfl⟩ := map_at hy
        rw [List.getElem?_map] at he'
        cases hve : v.2[i]? with
        | none => rw [hve] at he'; cases he'
        | some e =>
          rw [hve] at he'
          have he' : acc.length + e = e' := Option.some.inj he'
          subst he'
          have te := (he i x (nW e) hx (nW_at hve)).int_inv
          subst te
          refine ⟨[uw, some (.ref tr), some u, some (nW acc.length), some (nW v.1), some z1, some (nW e)], rfl, C4, ?_, .refl h4.wf⟩
          refine ev_bins (C1 := C4) (C2 := C4) (x := nW acc.length) (y := nW e) rfl rfl ?_
          show R.ok (W.int ((acc.length : Int) + (e : Int))) C4 = _
          rw [show (acc.length : Int) + (e : Int) = ((acc.length + e : Nat) : Int) by omega] <;> rfl)
      refine ⟨s2, ?_, C3, ?_, h3⟩
      · rw [bindP, hit C2 h2]
        rfl
      · refine ev_tup (ev_cons (C1 := C2) (w := nW v.1) rfl (ev_one ?_)) rfl
        exact e3)
  let C2 := C1.new (.lst ((shW acc.length w).map verW))
  have h2 : Sub0 C1 C2 := (Sub.refl h1.wf).new _
  have g2 := (h1.trans h2).keep _ _ (fun z => z) hg
  have e4 := ev_ext (run := rn) (o := .var 1) (s := s1) (C := C) rfl hg (ev_one e2) g2 (new_at h1.wf _) (by rw [List.length_map, List.length_map, shW, List.length_map]; omega)
  have lt : tr < C2.n := CH.get_lt g2
  refine ⟨some (nW acc.length), a4, a5, a6, C2.set tr (.lst (acc.map verW ++ (shW acc.length w).map verW)), (exs_cons (exs_set e1 rfl)).trans ((exs_cons (exs_expr e4)).trans rfl), (Sub.any (M := fun r => r = tr) (h1.trans h2)).set lt (.inr rfl) _, ?_⟩
  rw [set_at h2.wf lt, List.map_append]
theorem TD.keepM {C C' : CH} {M : Nat → Prop} {n : Nat} {w d : W} (h : TD C n w d) (s : Sub M C C') (hm : ∀ r o, C.get r = some o → ¬ M r) : TD C' n w d := by
  induction h with
  | atom h => exact .atom h
  | tup hl hs _ ih => exact .tup hl hs ih
  | lst hr hl hs _ ih => exact .lst (s.keep _ _ (hm _ _ hr) hr) hl hs ih
theorem side_len : ∀ (ws : List (List Ver)) (acc : List Ver), (∀ w ∈ ws, w.length ≤ 100) → (sideL ws acc).length ≤ acc.length + 100 * ws.length
  | [], acc, _ => by simp [sideL]
  | w :: ws, acc, h => by
    have := side_len ws (acc ++ shW acc.length w) fun u hu => h u (List.mem_cons_of_mem _ hu)
    have h2 := h w (List.mem_cons_self ..)
    rw [List.length_append, shW, List.length_map] at this
    show (sideL ws (acc ++ shW acc.length w)).length ≤ _
    rw [List.length_cons]
    unfold shW
    omega
theorem beside_ (k : Nat) {uw : W} {us : List W} {ws : List (List Ver)} {C : CH} (hC : C.os.length = C.n) (huw : uw = .tup us ∨ ∃ r, uw = .ref r ∧ C.get r = some (.lst us)) (hl : us.length = ws.length) (hn : ws.length ≤ 3) (hu : ∀ (i : Nat) (u : W) (w : List Ver), us[i]? = some u → ws[i]? = some w → TD C 3 u (webW w)) (hw : ∀ w ∈ ws, w.length ≤ 100) (hv : ∀ w ∈ ws, ∀ v ∈ w, v.2.length < 1000) :
    ∃ C', Sub0 C C' ∧ RF.run T.fs (k + 1) 29 [uw] C = .ok (webW (sideL ws [])) C' := by
  let rn := RF.run T.fs k
  let s0 : St := [some uw, none, none, none, none, none, none]
  let C0 := C.new (.lst ([] : List W))
  have h0 : Sub0 C C0 := (Sub.refl hC).new _
  let s1 : St := [some uw, some (.ref C.n), none, none, none, none, none]
  obtain ⟨q, hsrc, hq⟩ : ∃ q : Nat → Src, src0 .seq [uw] C0 = some (q 0) ∧ Tells (fun C1 => Sub0 C C1) q us := by
    rcases huw with rfl | ⟨r, rfl, hr⟩
    · exact ⟨fun i => .st (us.drop i), rfl, tells_st us⟩
    · exact ⟨fun i => .lref r i, by simp only [src0, lstAt, h0.keep _ _ (fun z => z) hr], tells_lref fun C1 h1 => h1.keep _ _ (fun z => z) hr⟩
  let Inv : Nat → St → CH → Prop := fun i st C1 => ∃ (a2 a3 a4 a5 a6 : Option W), st = [some uw, some (.ref C.n), a2, a3, a4, a5, a6] ∧ Sub0 C C1 ∧ C1.get C.n = some (.lst ((sideL (ws.take i) []).map verW))
  have hf := forL_q (fb := exs rn bBB) (p := .nm 2) (I := fun C1 => Sub0 C C1) (q := q) (xs := us) hq Inv (fun _ _ => False) (fun i st C1 ⟨_, _, _, _, _, _, h, _⟩ => h) (fun i x st C1 hx hI => by
      obtain ⟨a2, a3, a4, a5, a6, rfl, hs, hg⟩ := hI
      have hi : i < ws.length := by rw [← hl]; exact lt_of hx
      have hwi : ws[i]? = some ws[i] := List.getElem?_eq_getElem hi
      have hmem : ws[i] ∈ ws := List.getElem_mem hi
      have td := (hu i x ws[i] hx hwi).keep hs
      have hal := side_len (ws.take i) [] fun w hw' => hw w (List.mem_of_mem_take hw')
      rw [List.length_take] at hal
      have hw100 := hw _ hmem
      obtain ⟨b3, b4, b5, b6, C2, e2, h2, g2⟩ := turnB rn (uw := some uw) (a3 := a3) (a4 := a4) (a5 := a5) (a6 := a6) hs.wf td hg (by omega) (by simp at hal; omega) (hv _ hmem)
      refine ⟨[some uw, some (.ref C.n), some x, a3, a4, a5, a6], rfl, .inl ⟨_, C2, .inl e2, _, _, _, _, _, rfl, ⟨h2.wf, Nat.le_trans hs.le h2.le, fun r o _ e => h2.keep r o (fun z => ?_) (hs.keep r o (fun z => z) e)⟩, ?_⟩⟩
      · have := CH.get_lt e
        omega
      · rw [g2, ← sideL_snoc, take_next hwi]) (us.length - 0) 0 fuel s1 C0 rfl (Nat.zero_le _) ⟨none, none, none, none, none, rfl, h0, new_at hC _⟩ (Nat.lt_of_le_of_lt (show us.length - 0 ≤ 3 by omega) (by decide))
  rcases hf with ⟨s', C', e, ⟨a2, a3, a4, a5, a6, rfl, hs, hg⟩⟩ | ⟨_, _, _, h⟩
  · rw [hl, List.take_length] at hg
    exact ⟨C', hs, call_rt (d := c29) rfl rfl ((exs_cons (exs_set (h1 := C0) (w := .ref C.n) rfl rfl)).trans ((exs_cons ((exs_loop (l := [uw]) (C1 := C0) rfl hsrc).trans e)).trans (exs_rt (exs_ret (ev_bi (ev_one (w := .ref C.n) (C1 := C') rfl) (tup_ref hg))))))⟩
  · exact h.elim
end K04
end
section
set_option Elab.async false
set_option linter.all false
set_option maxRecDepth 100000
set_option maxHeartbeats 2000000
namespace K04
open PySem RF
/-! ### webs put behind one another -/
theorem slots_ap {c : Cr} {w u : List Ver} {i : Nat} (hi : i < w.length) : slotsAt c (w ++ u) i = slotsAt c w i := by
  unfold slotsAt
  rw [List.getElem?_append_left hi]
theorem elder_ap {w u : List Ver} {i p : Nat} (hi : i < w.length) : elderAt (w ++ u) i p = elderAt w i p := by
  unfold elderAt
  rw [List.getElem?_append_left hi]
theorem fnd_none {c : Cr} {w : List Ver} {n i a : Nat} (h : (slotsAt c w i)[a]? = none) : fnd c w (n + 1) i a = none := by
  rw [fnd, h]
theorem kept_elder {c : Cr} (hc : CrOk c) {w : List Ver} (hw : WbOk c w) {i a p s : Nat} (hi : i < w.length) (h : (slotsAt c w i)[a]? = some (.kept p s)) : ∃ v e, w[i]? = some v ∧ v.2[p]? = some e ∧ e < i ∧ elderAt w i p = e := by
  obtain ⟨v, r, hv, hr, e, _⟩ := wb_row hw hi
  rw [e] at h
  obtain ⟨e, _, _, _, h1, h2, h3, _⟩ := ask_slot hc hw hv hr (p := (p, s)) ((hc.ok r (List.mem_of_getElem? hr)).sls _ (List.mem_of_getElem? h))
  exact ⟨v, e, hv, h1, h2, h3⟩
theorem fnd_ap {c : Cr} (hc : CrOk c) {w u : List Ver} (hw : WbOk c w) : ∀ (n i a : Nat), i < w.length → fnd c (w ++ u) n i a = fnd c w n i a
  | 0, _, _, _ => rfl
  | n + 1, i, a, hi => by
    cases h : (slotsAt c w i)[a]? with
    | none => rw [fnd_none h, fnd_none (by rw [slots_ap hi]; exact h)]
    | some o =>
      rw [fnd_at h, fnd_at (w := w ++ u) (by rw [slots_ap hi]; exact h)]
      cases o with
      | no => rfl
      | new _ _ => rfl
      | kept p s =>
        obtain ⟨v, e, _, _, he, ee⟩ := kept_elder hc hw hi h
        show fnd c (w ++ u) n (elderAt (w ++ u) i p) s = fnd c w n (elderAt w i p) s
        rw [elder_ap hi, ee]
        exact fnd_ap hc hw n e s (by omega)
theorem held_ap {c : Cr} (hc : CrOk c) {w u : List Ver} (hw : WbOk c w) {i : Nat} (hi : i < w.length) : heldW c (w ++ u) i = heldW c w i := by
  unfold heldW heldL
  rw [slots_ap hi]
  congr 2
  apply List.map_congr_left
  intro a _
  exact fnd_ap hc hw _ _ _ hi
theorem holds_ap {c : Cr} (hc : CrOk c) {w u : List Ver} (hw : WbOk c w) : holdsL c (w ++ u) w.length = holdsL c w w.length := by
  unfold holdsL
  apply List.map_congr_left
  intro i hi
  exact held_ap hc hw (List.mem_range.mp hi)
theorem holds_take (c : Cr) (w : List Ver) (n m : Nat) (h : n ≤ m) : (holdsL c w m).take n = holdsL c w n := by
  unfold holdsL
  rw [← List.map_take, List.take_range, Nat.min_eq_left h]
/-- a web beside itself -/
def sh2 (n : Nat) (q : Nat × Nat) : Nat × Nat := (q.1 + n, q.2)
theorem side_at {w : List Ver} {j : Nat} (hj : j < w.length) : (w ++ shW w.length w)[w.length + j]? = some (shV w.length w[j]) := by
  rw [List.getElem?_append_right (by omega), Nat.add_sub_cancel_left, shW, List.getElem?_map, List.getElem?_eq_getElem hj] <;> rfl
theorem slots_sd {c : Cr} {w : List Ver} {j : Nat} (hj : j < w.length) : slotsAt c (w ++ shW w.length w) (w.length + j) = slotsAt c w j := by
  unfold slotsAt
  rw [side_at hj, List.getElem?_eq_getElem hj] <;> rfl
theorem elder_sd {w : List Ver} {j p e : Nat} {v : Ver} (hv : w[j]? = some v) (he : v.2[p]? = some e) : elderAt (w ++ shW w.length w) (w.length + j) p = w.length + e := by
  have hj := lt_of hv
  rw [List.getElem?_eq_getElem hj] at hv
  cases hv
  unfold elderAt
  rw [side_at hj]
  show (w[j].2.map fun e => w.length + e).getD p 0 = _
  rw [List.getD_eq_getElem?_getD, List.getElem?_map, he] <;> rfl
theorem fnd_sd {c : Cr} (hc : CrOk c) {w : List Ver} (hw : WbOk c w) : ∀ (n j a : Nat), j < w.length → fnd c (w ++ shW w.length w) n (w.length + j) a = (fnd c w n j a).map (sh2 w.length)
  | 0, _, _, _ => rfl
  | n + 1, j, a, hj => by
    cases h : (slotsAt c w j)[a]? with
    | none => rw [fnd_none h, fnd_none (by rw [slots_sd hj]; exact h)] <;> rfl
    | some o =>
      rw [fnd_at h, fnd_at (w := w ++ shW w.length w) (by rw [slots_sd hj]; exact h)]
      cases o with
      | no => rfl
      | new _ _ =>
        show some (w.length + j, a) = some (j + w.length, a)
        rw [Nat.add_comm]
      | kept p s =>
        obtain ⟨v, e, hv, hve, he, ee⟩ := kept_elder hc hw hj h
        show fnd c (w ++ shW w.length w) n (elderAt (w ++ shW w.length w) (w.length + j) p) s = (fnd c w n (elderAt w j p) s).map (sh2 w.length)
        rw [elder_sd hv hve, ee]
        exact fnd_sd hc hw n e s (by omega)
/-- a number of steps that does -/
def tw (c : Cr) (w : List Ver) (j : Nat) : W := .tup ((heldL c w j).map fun o => optW (o.map (sh2 w.length)))
theorem wb_side {c : Cr} {w : List Ver} (hw : WbOk c w) (hl : w.length ≤ 100) : WbOk c (w ++ shW w.length w) := by
  have hss : shapes c (w ++ shW w.length w) = shapes c w ++ shapes c w := by
    unfold shapes shW
    rw [List.map_append, List.map_map]
    rfl
  have hsl : (shapes c w).length = w.length := by rw [shapes, List.length_map]
  refine ⟨by rw [List.length_append, shW, List.length_map]; omega, fun i v hv => ?_⟩
  rw [hss]
  by_cases hi : i < w.length
  · rw [List.getElem?_append_left hi] at hv
    rw [List.take_append_of_le_length (by omega)]
    exact hw.ok i v hv
  · have h2 := lt_of hv
    rw [List.length_append, shW, List.length_map] at h2
    obtain ⟨j, rfl⟩ : ∃ j, i = w.length + j := ⟨i - w.length, by omega⟩
    have hj : j < w.length := by omega
    rw [side_at hj] at hv
    cases hv
    obtain ⟨r, hr, hlen, hfit⟩ := hw.ok j _ (List.getElem?_eq_getElem hj)
    refine ⟨r, hr, by show (w[j].2.map _).length = _; rw [List.length_map]; exact hlen, fun a e s h1 h2 => ?_⟩
    have h1 : (w[j].2.map fun e => w.length + e)[a]? = some e := h1
    rw [List.getElem?_map] at h1
    cases he : w[j].2[a]? with
    | none => rw [he] at h1; cases h1
    | some e0 =>
      rw [he] at h1
      have h1 : w.length + e0 = e := Option.some.inj h1
      subst h1
      have h3 := hfit a e0 s he h2
      have h4 := lt_of h3
      rw [List.length_take] at h4
      rw [List.getElem?_take_of_lt (by omega)] at h3 ⊢
      rw [List.getElem?_append_right (by omega), hsl, Nat.add_sub_cancel_left]
      exact h3
theorem held_sd {c : Cr} (hc : CrOk c) {w : List Ver} (hw : WbOk c w) (hl : w.length ≤ 100) {j : Nat} (hj : j < w.length) : heldW c (w ++ shW w.length w) (w.length + j) = tw c w j := by
  unfold heldW heldL tw heldL
  rw [slots_sd hj, List.map_map, List.map_map]
  congr 1
  apply List.map_congr_left
  intro a _
  show optW (fnd c (w ++ shW w.length w) (w.length + j + 1) (w.length + j) a) = optW ((fnd c w (j + 1) j a).map (sh2 w.length))
  rw [fnd_sd hc hw _ _ _ hj, fnd_more hc hw (w.length + j + 1) (j + 1) j a (by omega) (by omega)]
theorem holds_sd {c : Cr} (hc : CrOk c) {w : List Ver} (hw : WbOk c w) (hl : w.length ≤ 100) : holdsL c (w ++ shW w.length w) (w ++ shW w.length w).length = holdsL c w w.length ++ (List.range w.length).map (tw c w) := by
  have hlen : (w ++ shW w.length w).length = w.length + w.length := by rw [List.length_append, shW, List.length_map]
  rw [hlen]
  have e1 := holds_ap (u := shW w.length w) hc hw
  rw [← e1]
  unfold holdsL
  rw [List.range_add, List.map_append, List.map_map]
  congr 1
  apply List.map_congr_left
  intro j hj
  exact held_sd hc hw hl (List.mem_range.mp hj)
theorem side_two (w : List Ver) : sideL [w, w] [] = w ++ shW w.length w := by
  have e : shW 0 w = w := by
    unfold shW
    have : (shV 0) = id := by
      funext v
      obtain ⟨a, b⟩ := v
      show (a, b.map fun e => 0 + e) = (a, b)
      have : (fun e : Nat => 0 + e) = id := by funext e; exact Nat.zero_add e
      rw [this, List.map_id]
    rw [this, List.map_id]
  show ([] ++ shW 0 w) ++ shW ([] ++ shW 0 w).length w = _
  rw [e]
  rfl
/-! ### pure values -/
theorem TT.of {n : Nat} {xs : List W} (hs : xs.length < 1000) (h : ∀ x ∈ xs, TT n x) : TT (n + 1) (.tup xs) := .tup hs fun i x hx => h x (List.mem_of_getElem? hx)
theorem tt_n (n i : Nat) : TT n (nW i) := .atom rfl
theorem tt_ints {es : List Nat} (h : es.length < 1000) (n : Nat) : TT (n + 1) (.tup (es.map nW)) := .of (by rw [List.length_map]; exact h) fun x hx => by
  obtain ⟨e, _, rfl⟩ := List.mem_map.mp hx
  exact tt_n _ _
theorem tt_pr (p : Nat × Nat) (n : Nat) : TT (n + 1) (prW p) := .of (by simp) fun x hx => by
  simp at hx
  rcases hx with rfl | rfl <;> exact tt_n _ _
theorem tt_prs {ps : List (Nat × Nat)} (h : ps.length < 1000) (n : Nat) : TT (n + 2) (.tup (ps.map prW)) := .of (by rw [List.length_map]; exact h) fun x hx => by
  obtain ⟨e, _, rfl⟩ := List.mem_map.mp hx
  exact tt_pr _ _
theorem tt_sl {z el : List Nat} {o : Sl} (h : SlOk z el o) : TT 3 (slW o) := by
  cases o with
  | no => exact .of (by simp) fun x hx => by simp at hx; subst hx; exact .atom rfl
  | kept p s => exact .of (by simp) fun x hx => by simp at hx; rcases hx with rfl | rfl | rfl <;> exact .atom rfl
  | new c w =>
    refine .of (by simp) fun x hx => ?_
    simp at hx
    rcases hx with rfl | rfl | rfl
    · exact .atom rfl
    · exact .atom rfl
    · exact tt_prs (by have := h.2.2; omega) 0
theorem tt_row {z : List Nat} {r : Row} (h : RowOk z r) : TT 5 (rowW r) := .of (by simp) fun x hx => by
  have h1 := h.el2
  have h2 := h.lkl
  have h3 := h.sll
  simp at hx
  rcases hx with rfl | rfl | rfl | rfl | rfl
  · exact tt_ints (by omega) 3
  · exact tt_prs (by omega) 2
  · exact tt_n _ _
  · exact tt_n _ _
  · refine .of (by rw [List.length_map]; omega) fun x hx => ?_
    obtain ⟨o, ho, rfl⟩ := List.mem_map.mp hx
    exact tt_sl (h.sls o ho)
theorem tt_cr {c : Cr} (h : CrOk c) : TT 7 (crW c) := .of (by simp) fun x hx => by
  simp at hx
  rcases hx with rfl | rfl
  · exact tt_ints h.sz.ln 5
  · refine .of (by rw [List.length_map]; exact h.ln) fun x hx => ?_
    obtain ⟨r, hr, rfl⟩ := List.mem_map.mp hx
    exact tt_row (h.ok r hr)
theorem wb_mem {c : Cr} (hc : CrOk c) {w : List Ver} (hw : WbOk c w) {v : Ver} (hv : v ∈ w) : v.2.length ≤ 2 := by
  obtain ⟨i, hi, rfl⟩ := List.getElem_of_mem hv
  exact ver_len hc (hw.ok i _ (List.getElem?_eq_getElem hi))
theorem tt_web {c : Cr} (hc : CrOk c) {w : List Ver} (hw : WbOk c w) : TT 3 (webW w) := .of (by rw [List.length_map]; exact hw.ln) fun x hx => by
  obtain ⟨v, hv, rfl⟩ := List.mem_map.mp hx
  have := wb_mem hc hw hv
  refine .of (by simp) fun x hx => ?_
  simp at hx
  rcases hx with rfl | rfl
  · exact tt_n _ _
  · exact tt_ints (by omega) 0
theorem PI.of {n : Nat} {xs : List W} (hs : xs.length < 1000) (h : ∀ x ∈ xs, PI n x) : PI (n + 1) (.tup xs) := .tup hs h
theorem pi_opt (o : Option (Nat × Nat)) (n : Nat) : PI (n + 1) (optW o) := by
  cases o with
  | none => exact .non
  | some p => exact pi_pr p n
theorem heldL_len (c : Cr) (w : List Ver) (i : Nat) : (heldL c w i).length = (slotsAt c w i).length := by unfold heldL; rw [List.length_map, List.length_range]
theorem pi_held {c : Cr} (hc : CrOk c) {w : List Ver} (hw : WbOk c w) (i n : Nat) : PI (n + 2) (heldW c w i) := .of (by have := slots_few hc hw i; rw [List.length_map, heldL_len]; omega) fun x hx => by
  obtain ⟨o, _, rfl⟩ := List.mem_map.mp hx
  exact pi_opt o n
theorem pi_holds {c : Cr} (hc : CrOk c) {w : List Ver} (hw : WbOk c w) {m : Nat} (hm : m < 1000) (n : Nat) : PI (n + 3) (.tup (holdsL c w m)) := .of (by unfold holdsL; rw [List.length_map, List.length_range]; exact hm) fun x hx => by
  unfold holdsL at hx
  obtain ⟨i, _, rfl⟩ := List.mem_map.mp hx
  exact pi_held hc hw i n
theorem pi_web {c : Cr} (hc : CrOk c) {w : List Ver} (hw : WbOk c w) (n : Nat) : PI (n + 3) (webW w) := .of (by rw [List.length_map]; exact hw.ln) fun x hx => by
  obtain ⟨v, hv, rfl⟩ := List.mem_map.mp hx
  have := wb_mem hc hw hv
  refine .of (by simp) fun x hx => ?_
  simp at hx
  rcases hx with rfl | rfl
  · exact .int _
  · exact pi_ints _ (by omega) n
end K04
end
section
set_option Elab.async false
set_option linter.all false
set_option maxRecDepth 100000
set_option maxHeartbeats 2000000
namespace K04
open PySem RF
@[reducible] def S13 (tv : W) (c : Cr) (w : List Ver) (sp : Nat) (a5 a6 a7 a8 a9 a10 a11 a12 : Option W) : St := [some tv, some (crW c), some (webW w), some (.ref sp), some (nW w.length), a5, a6, a7, a8, a9, a10, a11, a12]
theorem spots_at (c : Cr) (w : List Ver) (i : Nat) : ∀ n, i < n → (spots c w n).filter (fun p => decide (p.1 = i)) = spotsAt c w i
  | n + 1, h => by
    rw [spots_next, List.filter_append]
    by_cases hi : i < n
    · rw [spots_at c w i n hi]
      have : (spotsAt c w n).filter (fun p => decide (p.1 = i)) = [] := by
        rw [List.filter_eq_nil_iff]
        intro p hp
        unfold spotsAt at hp
        obtain ⟨a, _, rfl⟩ := List.mem_map.mp hp
        simp
        omega
      rw [this, List.append_nil]
    · have : i = n := by omega
      subst this
      have h1 : (spots c w i).filter (fun p => decide (p.1 = i)) = [] := by
        rw [List.filter_eq_nil_iff]
        intro p hp
        have := (spots_mem hp).1
        simp
        omega
      have h2 : (spotsAt c w i).filter (fun p => decide (p.1 = i)) = spotsAt c w i := by
        rw [List.filter_eq_self]
        intro p hp
        unfold spotsAt at hp
        obtain ⟨a, _, rfl⟩ := List.mem_map.mp hp
        simp
      rw [h1, h2, List.nil_append]
def dK (i : Nat) : W → Bool
  | .tup [.int j, _] => decide (j = (i : Int))
  | _ => false
def dG (c : Cr) (w : List Ver) : W → W
  | .tup [.int j, .int b] => optW (fnd c w (j.toNat + 1) j.toNat b.toNat)
  | x => x
theorem dG_pr (c : Cr) (w : List Ver) (p : Nat × Nat) : dG c w (prW p) = optW (fnd c w (p.1 + 1) p.1 p.2) := by
  show optW (fnd c w ((p.1 : Int).toNat + 1) (p.1 : Int).toNat (p.2 : Int).toNat) = _
  rw [Int.toNat_natCast, Int.toNat_natCast]
theorem due_list (c : Cr) (w : List Ver) {i n : Nat} (h : i < n) : (((spots c w n).map prW).filter (dK i)).map (dG c w) = (heldL c w i).map optW := by
  rw [List.filter_map, List.map_map]
  have e1 : dK i ∘ prW = fun p => decide (p.1 = i) := by
    funext p
    exact eq_nat p.1 i
  rw [e1, spots_at c w i n h]
  unfold spotsAt heldL
  rw [List.map_map, List.map_map]
  apply List.map_congr_left
  intro a _
  exact dG_pr c w (i, a)
def dueB : CS := .cons (.expr (.meth .append (.var 5) (.cons (.bi .tuple (.cons (.comp [("own", 7)] .seq (.cons (.var 3) .nil) (.nm 7) (.cmp .Eq (.ix (.var 7) (.lit (.int 0))) (.var 6)) (.call 46 (.cons (.var 1) (.cons (.var 2) (.cons (.ix (.var 7) (.lit (.int 0))) (.cons (.ix (.var 7) (.lit (.int 1))) .nil)))))) .nil)) .nil))) .nil
theorem spots_fuel {c : Cr} (hc : CrOk c) {w : List Ver} (hw : WbOk c w) (hl : w.length ≤ 10) : (spots c w w.length).length ≤ 640 := by
  have := spots_len hc hw w.length
  omega
theorem due_loop (k : Nat) {c : Cr} (hc : CrOk c) {w : List Ver} (hw : WbOk c w) (hl : w.length ≤ 10) {tv : W} {sp : Nat} {a5 a6 a7 a8 a9 a10 a11 a12 : Option W} {C : CH} (hC : C.os.length = C.n) (hsp : C.get sp = some (.lst ((spots c w w.length).map prW))) (rest : CS) :
    ∃ (b6 b7 : Option W) (C' : CH), exs (RF.run T.fs (k + 1)) (.cons (.set 5 (.lst .nil)) (.cons (.loop .rng1 (.cons (.var 4) .nil) (.nm 6) dueB) rest)) (S13 tv c w sp a5 a6 a7 a8 a9 a10 a11 a12) C = exs (RF.run T.fs (k + 1)) rest (S13 tv c w sp (some (.ref C.n)) b6 b7 a8 a9 a10 a11 a12) C' ∧ Sub0 C C' ∧ C'.get C.n = some (.lst (holdsL c w w.length)) := by
  let C0 := C.new (.lst ([] : List W))
  have h0 : Sub0 C C0 := (Sub.refl hC).new _
  let Inv : Nat → St → CH → Prop := fun i st C1 => (∃ b6 b7, st = S13 tv c w sp (some (.ref C.n)) b6 b7 a8 a9 a10 a11 a12) ∧ Sub0 C C1 ∧ C1.get C.n = some (.lst (holdsL c w i))
  have hf := forL_q (fb := exs (RF.run T.fs (k + 1)) dueB) (p := .nm 6) (I := fun _ => True) (q := fun i => .upto (0 + (i : Int)) (w.length - i)) (xs := upW 0 w.length) (tells_upto 0 _) Inv (fun _ _ => False) (fun _ _ _ _ => trivial) (fun i x st C1 hx hI => by
    obtain ⟨⟨b6, b7, rfl⟩, hs, hg⟩ := hI
    obtain ⟨rfl, hi⟩ := upW_at hx
    have e0 : (0 : Int) + (i : Int) = (i : Int) := Int.zero_add _
    let s1 : St := S13 tv c w sp (some (.ref C.n)) (some (nW i)) b7 a8 a9 a10 a11 a12
    have gs := hs.keep _ _ (fun z => z) hsp
    obtain ⟨C2, h2, e2⟩ := compL_q (fc := ev (RF.run T.fs (k + 1)) (.cmp .Eq (.ix (.var 7) (.lit (.int 0))) (.var 6))) (fe := ev (RF.run T.fs (k + 1)) (.call 46 (.cons (.var 1) (.cons (.var 2) (.cons (.ix (.var 7) (.lit (.int 0))) (.cons (.ix (.var 7) (.lit (.int 1))) .nil)))))) (p := .nm 7) (s := wipeW s1 (([("own", 7)] : List (PySem.Str × Nat)).map fun (x : PySem.Str × Nat) => x.2)) (I := fun C2 => Sub0 C1 C2) (q := fun i => .lref sp i) (xs := (spots c w w.length).map prW) (tells_lref fun C2 h2 => h2.keep _ _ (fun z => z) gs) (dK i) (dG c w) (fun x hx C3 h3 => by
        obtain ⟨p, hp, rfl⟩ := List.mem_map.mp hx
        obtain ⟨p1, p2⟩ := spots_mem hp
        obtain ⟨ve, r2, y4, y5, y6, _⟩ := wb_row hw p1
        rw [y6] at p2
        let s2 : St := S13 tv c w sp (some (.ref C.n)) (some (nW i)) (some (prW p)) a8 a9 a10 a11 a12
        refine ⟨s2, rfl, .bl (decide ((p.1 : Int) = (i : Int))), C3, ?_, rfl, h3, fun _ => ⟨C3, ?_, h3⟩⟩
        · refine ev_cmps (C1 := C3) (C2 := C3) (x := nW p.1) (y := nW i) (ev_ixs (C1 := C3) (C2 := C3) (x := prW p) (y := nW 0) rfl rfl (ix_tup rfl C3)) rfl ?_
          simp only [cmpW, nW, eqW_int]
        · rw [dG_pr]
          have z1 : ev (RF.run T.fs (k + 1)) (.cons (.var 1) (.cons (.var 2) (.cons (.ix (.var 7) (.lit (.int 0))) (.cons (.ix (.var 7) (.lit (.int 1))) .nil)))) s2 C3 = .ok (.tup [crW c, webW w, nW p.1, nW p.2]) C3 :=
            ev_cons (C1 := C3) rfl (ev_cons (C1 := C3) rfl (ev_cons (C1 := C3) (ev_ixs (C1 := C3) (C2 := C3) (x := prW p) (y := nW 0) rfl rfl (ix_tup rfl C3)) (ev_one (ev_ixs (C1 := C3) (C2 := C3) (x := prW p) (y := nW 1) rfl rfl (ix_tup rfl C3)))))
          exact (ev_call z1).trans (found_ k c hc w hw C3 y4 y5 (List.getElem?_eq_getElem p2))) (((spots c w w.length).map prW).length - 0) 0 fuel [] C1 rfl (.refl hs.wf) (by
          have := spots_fuel hc hw hl
          rw [List.length_map]
          exact Nat.lt_of_le_of_lt (show (spots c w w.length).length - 0 ≤ 640 by omega) (by decide))
    rw [List.reverse_nil, List.nil_append, List.drop_zero, due_list c w hi] at e2
    let C3 := C2.new (.lst ((heldL c w i).map optW))
    have h3 : Sub0 C2 C3 := (Sub.refl h2.wf).new _
    have e3 : ev (RF.run T.fs (k + 1)) (.bi .tuple (.cons (.comp [("own", 7)] .seq (.cons (.var 3) .nil) (.nm 7) (.cmp .Eq (.ix (.var 7) (.lit (.int 0))) (.var 6)) (.call 46 (.cons (.var 1) (.cons (.var 2) (.cons (.ix (.var 7) (.lit (.int 0))) (.cons (.ix (.var 7) (.lit (.int 1))) .nil)))))) .nil)) s1 C1 = .ok (heldW c w i) C3 :=
      ev_bi (ev_one ((ev_comp (l := [.ref sp]) (C1 := C1) (q := .lref sp 0) rfl (by simp only [src0, lstAt, gs])).trans e2)) (tup_ref (new_at h2.wf _))
    have g3 := (h2.trans h3).keep _ _ (fun z => z) hg
    have lt3 : C.n < C3.n := CH.get_lt g3
    have e4 := ev_app (run := RF.run T.fs (k + 1)) (o := .var 5) (s := s1) (C := C1) rfl hg (ev_one e3) g3 (by unfold holdsL; rw [List.length_map, List.length_range]; omega)
    refine ⟨s1, by rw [e0] <;> rfl, .inl ⟨s1, C3.set C.n (.lst (holdsL c w i ++ [heldW c w i])), .inl ((exs_cons (exs_expr e4)).trans rfl), ⟨_, _, rfl⟩, ((hs.trans h2).trans h3).set lt3 (.inl (Nat.le_refl _)) _, ?_⟩⟩
    rw [set_at h3.wf lt3, holds_next]) ((upW 0 w.length).length - 0) 0 fuel (S13 tv c w sp (some (.ref C.n)) a6 a7 a8 a9 a10 a11 a12) C0 rfl (Nat.zero_le _) ⟨⟨_, _, rfl⟩, h0, new_at hC _⟩ (by rw [upW_len]; exact Nat.lt_of_le_of_lt (show w.length - 0 ≤ 10 by omega) (by decide))
  have hs : src0 .rng1 [nW w.length] C0 = some (.upto 0 w.length) := by
    have : small ((w.length : Nat) : Int) = true := small_ _ (by omega) (by omega)
    simp only [src0, nW, this, if_true, Int.toNat_natCast]
  rcases hf with ⟨s', C', e, ⟨⟨b6, b7, rfl⟩, hs', hg⟩⟩ | ⟨_, _, _, h⟩
  · rw [upW_len] at hg
    exact ⟨b6, b7, C', (exs_cons (exs_set (h1 := C0) (w := .ref C.n) rfl rfl)).trans (exs_cons ((exs_loop (l := [nW w.length]) (C1 := C0) rfl hs).trans e)), hs', hg⟩
  · exact h.elim
/-! ### told alike -/
theorem sm_list {C : CH} {a b n : Nat} {xs ys : List W} (ha : C.get a = some (.lst xs)) (hb : C.get b = some (.lst ys)) (he : xs = ys) (hs : xs.length < 1000) (hp : ∀ x ∈ xs, PI n x) : SM C (n + 1) (.ref a) (.ref b) := by
  subst he
  refine .lst ha hb rfl hs fun i x y hx hy => ?_
  rw [hx] at hy
  cases hy
  exact (hp x (List.mem_of_getElem? hx)).sm C
theorem first_same (k : Nat) {c : Cr} (hc : CrOk c) {w : List Ver} (hw : WbOk c w) (hl : w.length ≤ 10) {tv : W} {sp du : Nat} {a6 a7 a8 a9 a10 a11 a12 : Option W} {C : CH} (hC : C.os.length = C.n) (hd : C.get du = some (.lst (holdsL c w w.length))) :
    ∃ C', ev (RF.run T.fs (k + 12)) (.not (.call 36 (.cons (.lst (.cons (.call 25 (.cons (.var 1) (.cons (.var 2) .nil))) (.cons (.call 25 (.cons (.call 35 (.cons (.var 1) .nil)) (.cons (.call 35 (.cons (.var 2) .nil)) .nil))) .nil))) (.cons (.bin .Mult (.lst (.cons (.bi .tuple (.cons (.var 5) .nil)) .nil)) (.lit (.int 2))) .nil)))) (S13 tv c w sp (some (.ref du)) a6 a7 a8 a9 a10 a11 a12) C = .ok (.bl false) C' ∧ Sub0 C C' := by
  let s : St := S13 tv c w sp (some (.ref du)) a6 a7 a8 a9 a10 a11 a12
  let H : W := .tup (holdsL c w w.length)
  obtain ⟨C1, h1, e1⟩ := held (k + 1) c hc w hw hC ((tt_cr hc).td C) ((tt_web hc hw).td C)
  obtain ⟨u1, C2, h2, t2, e2⟩ := lists_ (tt_cr hc) (k + 4) C1 h1.wf
  obtain ⟨u2, C3, h3, t3, e3⟩ := lists_ (tt_web hc hw) (k + 8) C2 h2.wf
  obtain ⟨C4, h4, e4⟩ := held (k + 1) c hc w hw h3.wf (t2.keep h3) t3
  have a1 : ev (RF.run T.fs (k + 12)) (.lst (.cons (.call 25 (.cons (.var 1) (.cons (.var 2) .nil))) (.cons (.call 25 (.cons (.call 35 (.cons (.var 1) .nil)) (.cons (.call 35 (.cons (.var 2) .nil)) .nil))) .nil))) s C = .ok (.ref C4.n) (C4.new (.lst [H, H])) :=
    ev_lst (ev_two ((ev_call (l := [crW c, webW w]) rfl).trans e1) ((ev_call (ev_two ((ev_call (l := [crW c]) rfl).trans e2) ((ev_call (l := [webW w]) rfl).trans e3))).trans e4)) rfl
  let C5 := C4.new (.lst [H, H])
  have h5 : Sub0 C4 C5 := (Sub.refl h4.wf).new _
  have hd5 := ((((h1.trans h2).trans h3).trans h4).trans h5).keep _ _ (fun z => z) hd
  let C6 := C5.new (.lst [H])
  have h6 : Sub0 C5 C6 := (Sub.refl h5.wf).new _
  let C7 := C6.new (.lst [H, H])
  have h7 : Sub0 C6 C7 := (Sub.refl h6.wf).new _
  have a2 : ev (RF.run T.fs (k + 12)) (.lst (.cons (.bi .tuple (.cons (.var 5) .nil)) .nil)) s C5 = .ok (.ref C5.n) C6 := ev_lst (ev_one (ev_bi (ev_one (w := .ref du) (C1 := C5) rfl) (tup_ref hd5))) rfl
  have a3 : ev (RF.run T.fs (k + 12)) (.bin .Mult (.lst (.cons (.bi .tuple (.cons (.var 5) .nil)) .nil)) (.lit (.int 2))) s C5 = .ok (.ref C6.n) C7 := by
    refine ev_bins (C1 := C6) (C2 := C6) (x := .ref C5.n) (y := .int 2) a2 rfl ?_
    have g : C6.get C5.n = some (.lst [H]) := new_at h5.wf _
    simp only [binW, g]
    rfl
  have hp : ∀ x ∈ [H, H], PI 3 x := fun x hx => by
    simp at hx
    rw [hx]
    exact pi_holds hc hw (by omega) 0
  have sm : SM C7 4 (.ref C4.n) (.ref C6.n) := sm_list ((h6.trans h7).keep _ _ (fun z => z) (new_at h4.wf _)) (new_at h6.wf _) rfl (by simp) hp
  obtain ⟨C8, h8, e8⟩ := same_ sm (k + 7) C7 (.refl h7.wf)
  exact ⟨C8, ev_not ((ev_call (ev_two a1 a3)).trans e8), (((((h1.trans h2).trans h3).trans h4).trans h5).trans h6).trans (h7.trans h8)⟩
theorem s_unf (C : CH) : eqW C (.str "unfit") (.str "unfit") = some true := by kernel_rfl
theorem sm_unf {C : CH} {a b n : Nat} (ha : C.get a = some (.lst unfitL)) (hb : C.get b = some (.lst unfitL)) : SM C (n + 1) (.ref a) (.ref b) := by
  refine .lst ha hb rfl (by simp [unfitL]) fun i x y hx hy => ?_
  rw [hx] at hy
  cases hy
  have hm := List.mem_of_getElem? hx
  simp [unfitL] at hm
  rcases hm with rfl | rfl
  · exact .str _ s_unf
  · exact .bl _
def spB : CS := .cons (.set 8 (.lst (.cons (.call 44 (.cons (.lit (.int 0)) (.cons (.var 1) (.cons (.var 2) (.cons (.var 7) .nil))))) (.cons (.call 44 (.cons (.lit (.int 1)) (.cons (.var 1) (.cons (.call 35 (.cons (.var 2) .nil)) (.cons (.bi .list (.cons (.var 7) .nil)) .nil))))) .nil)))) (.cons (.ifs (.not (.call 36 (.cons (.var 8) (.cons (.call 48 (.cons (.var 1) (.cons (.var 2) (.cons (.var 7) .nil)))) .nil)))) (.cons (.ret (.lit (.bl false))) .nil) .nil) .nil)
theorem sp_turn (k : Nat) {c : Cr} (hc : CrOk c) {w : List Ver} (hw : WbOk c w) (hl : w.length ≤ 10) {tv : W} {sp : Nat} {a5 a6 a8 a9 a10 a11 a12 : Option W} {C : CH} (hC : C.os.length = C.n) {p : Nat × Nat} (hp : p ∈ spots c w w.length) :
    ∃ (b8 : Option W) (C' : CH), exs (RF.run T.fs (k + 12)) spB (S13 tv c w sp a5 a6 (some (prW p)) a8 a9 a10 a11 a12) C = .nx (S13 tv c w sp a5 a6 (some (prW p)) b8 a9 a10 a11 a12) C' ∧ Sub0 C C' := by
  obtain ⟨i, a⟩ := p
  obtain ⟨p1, p2⟩ := spots_mem hp
  obtain ⟨v, r, hv, hr, esl, _⟩ := wb_row hw p1
  rw [esl] at p2
  have ho : r.sl[a]? = some r.sl[a] := List.getElem?_eq_getElem p2
  obtain ⟨o, hoo⟩ : ∃ o, r.sl[a]? = some o := ⟨_, ho⟩
  let s : St := S13 tv c w sp a5 a6 (some (prW (i, a))) a8 a9 a10 a11 a12
  obtain ⟨⟨u1, C1, h1, e1, hd1⟩, _⟩ := heard_ k c hc w hw hv hr hoo hC ((tt_cr hc).td C) ((tt_web hc hw).td C) (wt := prW (i, a)) (fun _ _ => rfl)
  obtain ⟨u, C2, h2, t2, e2⟩ := lists_ (tt_web hc hw) (k + 8) C1 h1.wf
  let C3 := C2.new (.lst [nW i, nW a])
  have h3 : Sub0 C2 C3 := (Sub.refl h2.wf).new _
  obtain ⟨_, ⟨u3, C4, h4, e4, hd4⟩⟩ := heard_ k c hc w hw hv hr hoo h3.wf ((tt_cr hc).td C3) (t2.keep h3) (wt := .ref C2.n) (fun C5 h5 => by simp only [items, h5.keep _ _ (fun z => z) (new_at h2.wf _)])
  have a1 : ev (RF.run T.fs (k + 12)) (.lst (.cons (.call 44 (.cons (.lit (.int 0)) (.cons (.var 1) (.cons (.var 2) (.cons (.var 7) .nil))))) (.cons (.call 44 (.cons (.lit (.int 1)) (.cons (.var 1) (.cons (.call 35 (.cons (.var 2) .nil)) (.cons (.bi .list (.cons (.var 7) .nil)) .nil))))) .nil))) s C = .ok (.ref C4.n) (C4.new (.lst [u1, u3])) := by
    refine ev_lst (ev_two ((ev_call (l := [.int 0, crW c, webW w, prW (i, a)]) rfl).trans e1) ((ev_call (ev_cons (C1 := C1) rfl (ev_cons (C1 := C1) rfl (ev_cons ((ev_call (l := [webW w]) rfl).trans e2) (ev_one ?_))))).trans e4)) rfl
    exact ev_bi (ev_one (w := prW (i, a)) (C1 := C2) rfl) rfl
  let C5 := C4.new (.lst [u1, u3])
  have h5 : Sub0 C4 C5 := (Sub.refl h4.wf).new _
  let s2 : St := S13 tv c w sp a5 a6 (some (prW (i, a))) (some (.ref C4.n)) a9 a10 a11 a12
  obtain ⟨q, C6, e6, h6, hdue⟩ := due_ (k + 10) hc hw (by omega) hv hr hoo h5.wf
  have g6 : C6.get C4.n = some (.lst [u1, u3]) := h6.keep _ _ (fun z => z) (new_at h4.wf _)
  have h14 := (h2.trans h3).trans h4
  have sm : SM C6 4 (.ref C4.n) (.ref q) := by
    have bad : isNew o = false → (∃ r1 r2, C6.get q = some (.lst [.ref r1, .ref r2]) ∧ C6.get r1 = some (.lst unfitL) ∧ C6.get r2 = some (.lst unfitL)) → SM C6 4 (.ref C4.n) (.ref q) := fun hn hh => by
      obtain ⟨r1, r2, z0, z1, z2⟩ := hh
      unfold Heard at hd1 hd4
      rw [hn, if_neg (by decide)] at hd1 hd4
      obtain ⟨q1, rfl, y1⟩ := hd1
      obtain ⟨q3, rfl, y3⟩ := hd4
      have y1' := ((h14.trans h5).trans h6).keep _ _ (fun z => z) y1
      have y3' := (h5.trans h6).keep _ _ (fun z => z) y3
      refine .lst g6 z0 rfl (by simp) fun j x y hx hy => ?_
      match j, hx, hy with
      | 0, hx, hy =>
        have hx : W.ref q1 = x := Option.some.inj hx
        have hy : W.ref r1 = y := Option.some.inj hy
        subst hx hy
        exact sm_unf y1' z1
      | 1, hx, hy =>
        have hx : W.ref q3 = x := Option.some.inj hx
        have hy : W.ref r2 = y := Option.some.inj hy
        subst hx hy
        exact sm_unf y3' z2
    cases o with
    | no => exact bad rfl hdue
    | kept _ _ => exact bad rfl hdue
    | new c0 ws =>
      have hd1 : (if isNew (Sl.new c0 ws) = true then u1 = W.tup ((wantsL c w i ws).map prW) else ∃ r, u1 = .ref r ∧ C1.get r = some (.lst unfitL)) := hd1
      have hd4 : (if isNew (Sl.new c0 ws) = true then u3 = W.tup ((List.range' 0 w.length).flatMap (holdsAt c w (i, a))) else ∃ r, u3 = .ref r ∧ C4.get r = some (.lst unfitL)) := hd4
      rw [if_pos (show isNew (Sl.new c0 ws) = true from rfl)] at hd1 hd4
      have hdue : C6.get q = some (.lst [.tup ((wantsL c w i ws).map prW), .tup ((List.range' 0 w.length).flatMap (holdsAt c w (i, a)))]) := hdue
      have rok := hc.ok r (List.mem_of_getElem? hr)
      obtain ⟨_, _, q3⟩ := rok.sls _ (List.mem_of_getElem? hoo)
      refine sm_list g6 hdue (by rw [hd1, hd4]) (by simp) fun x hx => ?_
      rw [hd1, hd4] at hx
      simp only [List.mem_cons, List.not_mem_nil, or_false] at hx
      have prs : ∀ ps : List (Nat × Nat), ps.length < 1000 → PI 3 (.tup (ps.map prW)) := fun ps hps => .of (by rw [List.length_map]; exact hps) fun x hx => by
        obtain ⟨p, _, rfl⟩ := List.mem_map.mp hx
        exact pi_pr p 1
      rcases hx with rfl | rfl
      · exact prs _ (by
          unfold wantsL
          exact Nat.lt_of_le_of_lt (List.length_filterMap_le _ _) (by omega))
      · rw [← filt_spots]
        exact prs _ (Nat.lt_of_le_of_lt (List.length_filter_le _ _) (by have := spots_fuel hc hw hl; omega))
  obtain ⟨C7, h7, e7⟩ := same_ sm (k + 7) C6 (.refl h6.wf)
  have a2 : ev (RF.run T.fs (k + 12)) (.not (.call 36 (.cons (.var 8) (.cons (.call 48 (.cons (.var 1) (.cons (.var 2) (.cons (.var 7) .nil)))) .nil)))) s2 C5 = .ok (.bl false) C7 :=
    ev_not ((ev_call (ev_two (C1 := C5) (w := .ref C4.n) rfl ((ev_call (l := [crW c, webW w, prW (i, a)]) rfl).trans e6))).trans e7)
  exact ⟨some (.ref C4.n), C7, (exs_cons (exs_set (h1 := C5) a1 rfl)).trans ((exs_cons (exs_no a2 rfl)).trans rfl), ((h1.trans h14).trans h5).trans (h6.trans h7)⟩
theorem sp_loop (k : Nat) {c : Cr} (hc : CrOk c) {w : List Ver} (hw : WbOk c w) (hl : w.length ≤ 10) {tv : W} {sp : Nat} {a5 a6 a7 a8 a9 a10 a11 a12 : Option W} {C : CH} (hC : C.os.length = C.n) (hsp : C.get sp = some (.lst ((spots c w w.length).map prW))) :
    ∃ (b7 b8 : Option W) (C' : CH), exs (RF.run T.fs (k + 12)) (.loop .seq (.cons (.var 3) .nil) (.nm 7) spB) (S13 tv c w sp a5 a6 a7 a8 a9 a10 a11 a12) C = .nx (S13 tv c w sp a5 a6 b7 b8 a9 a10 a11 a12) C' ∧ Sub0 C C' := by
  let Inv : Nat → St → CH → Prop := fun i st C1 => (∃ b7 b8, st = S13 tv c w sp a5 a6 b7 b8 a9 a10 a11 a12) ∧ Sub0 C C1
  have hf := forL_q (fb := exs (RF.run T.fs (k + 12)) spB) (p := .nm 7) (I := fun C1 => Sub0 C C1) (q := fun i => .lref sp i) (xs := (spots c w w.length).map prW) (tells_lref fun C1 h1 => h1.keep _ _ (fun z => z) hsp) Inv (fun _ _ => False) (fun i st C1 h => h.2) (fun i x st C1 hx hI => by
    obtain ⟨⟨b7, b8, rfl⟩, hs⟩ := hI
    obtain ⟨p, hp, rfl⟩ := map_at hx
    obtain ⟨c8, C2, e2, h2⟩ := sp_turn k hc hw hl (tv := tv) (sp := sp) (a5 := a5) (a6 := a6) (a8 := b8) (a9 := a9) (a10 := a10) (a11 := a11) (a12 := a12) hs.wf (List.mem_of_getElem? hp)
    exact ⟨S13 tv c w sp a5 a6 (some (prW p)) b8 a9 a10 a11 a12, rfl, .inl ⟨_, C2, .inl e2, ⟨_, _, rfl⟩, hs.trans h2⟩⟩) (((spots c w w.length).map prW).length - 0) 0 fuel (S13 tv c w sp a5 a6 a7 a8 a9 a10 a11 a12) C rfl (Nat.zero_le _) ⟨⟨_, _, rfl⟩, .refl hC⟩ (by
      have := spots_fuel hc hw hl
      rw [List.length_map]
      exact Nat.lt_of_le_of_lt (show (spots c w w.length).length - 0 ≤ 640 by omega) (by decide))
  rcases hf with ⟨s', C', e, ⟨⟨b7, b8, rfl⟩, hs⟩⟩ | ⟨_, _, _, h⟩
  · exact ⟨b7, b8, C', (exs_loop (l := [.ref sp]) (C1 := C) rfl (by simp only [src0, lstAt, hsp])).trans e, hs⟩
  · exact h.elim
end K04
end
section
set_option Elab.async false
set_option linter.all false
set_option maxRecDepth 100000
set_option maxHeartbeats 2000000
namespace K04
open PySem RF
theorem sIx_some (n m d : Nat) (h : m ≤ n) : HT.sIx n d (some (m : Int)) = m := by
  simp only [HT.sIx]
  rw [if_neg (by omega)]
  simp
  omega
theorem cut_to (xs : List W) (m : Nat) (h : m ≤ xs.length) : cutW xs none (some (m : Int)) = xs.take m := by
  have e0 : HT.sIx xs.length 0 none = 0 := rfl
  unfold cutW
  rw [e0, sIx_some _ _ _ h, List.drop_zero, Nat.sub_zero]
theorem slc_tup {xs : List W} {m : Nat} (h : m < xs.length) (C : CH) : slcW (.tup xs) .non (nW m) C = .ok (.tup (xs.take m)) C := by
  have e : (HT.sIx xs.length 0 none == 0 && HT.sIx xs.length xs.length (some (m : Int)) == xs.length) = false := by
    rw [sIx_some _ _ _ (by omega)]
    have : (m == xs.length) = false := by
      rw [beq_eq_false_iff_ne]
      omega
    rw [this, Bool.and_false]
  show (if (HT.sIx xs.length 0 none == 0 && HT.sIx xs.length xs.length (some (m : Int)) == xs.length) = true then R.bad else R.ok (W.tup (cutW xs none (some (m : Int)))) C) = _
  rw [e, cut_to _ _ (by omega)] <;> rfl
theorem twice_ (rn : Nat → List W → CH → R W) {c : Cr} (hc : CrOk c) {w : List Ver} (hw : WbOk c w) (hl : w.length ≤ 10) {tv : W} {sp du : Nat} {a6 a7 a8 a9 a10 a11 a12 : Option W} {C : CH} (hC : C.os.length = C.n) (hd : C.get du = some (.lst (holdsL c w w.length))) :
    ∃ C', Sub0 C C' ∧ ev rn (.comp [("own", 7)] .seq (.cons (.var 5) .nil) (.nm 7) (.lit (.bl true)) (.bi .tuple (.cons (.comp [("its", 12)] .seq (.cons (.var 7) .nil) (.nm 12) (.lit (.bl true)) (.ite (.cmp .Is (.var 12) (.lit .non)) (.lit .non) (.tup (.cons (.bin .Add (.ix (.var 12) (.lit (.int 0))) (.var 4)) (.cons (.ix (.var 12) (.lit (.int 1))) .nil))))) .nil))) (S13 tv c w sp (some (.ref du)) a6 a7 a8 a9 a10 a11 a12) C = .ok (.ref C'.n) (C'.new (.lst ((List.range w.length).map (tw c w)))) := by
  refine lst_q (run := rn) (own := [("own", 7)]) (k := .seq) (args := .cons (.var 5) .nil) (elt := .bi .tuple (.cons (.comp [("its", 12)] .seq (.cons (.var 7) .nil) (.nm 12) (.lit (.bl true)) (.ite (.cmp .Is (.var 12) (.lit .non)) (.lit .non) (.tup (.cons (.bin .Add (.ix (.var 12) (.lit (.int 0))) (.var 4)) (.cons (.ix (.var 12) (.lit (.int 1))) .nil))))) .nil)) (p := .nm 7) (s := S13 tv c w sp (some (.ref du)) a6 a7 a8 a9 a10 a11 a12) (C := C) (C0 := C) (l := [.ref du]) (q := fun i => .lref du i) (xs := holdsL c w w.length) rfl (.refl hC) (by simp only [src0, lstAt, hd]) (tells_lref fun C1 h1 => h1.keep _ _ (fun z => z) hd) (by unfold holdsL; rw [List.length_map, List.length_range]; exact Nat.lt_of_le_of_lt hl (by decide)) (by unfold holdsL; rw [List.length_map, List.length_map]) (fun j x y hx hy C1 h1 => ?_)
  unfold holdsL at hx
  obtain ⟨j1, hj1, rfl⟩ := map_at hx
  obtain ⟨j2, hj2, rfl⟩ := map_at hy
  rw [hj1] at hj2
  cases hj2
  let s1 : St := S13 tv c w sp (some (.ref du)) a6 (some (heldW c w j1)) a8 a9 a10 a11 a12
  obtain ⟨C2, h2, e2⟩ := tup_q (run := rn) (own := [("its", 12)]) (k := .seq) (args := .cons (.var 7) .nil) (elt := .ite (.cmp .Is (.var 12) (.lit .non)) (.lit .non) (.tup (.cons (.bin .Add (.ix (.var 12) (.lit (.int 0))) (.var 4)) (.cons (.ix (.var 12) (.lit (.int 1))) .nil)))) (p := .nm 12) (s := s1) (C := C1) (C0 := C1) (l := [heldW c w j1]) (q := fun i => .st (((heldL c w j1).map optW).drop i)) (xs := (heldL c w j1).map optW) (ys := (heldL c w j1).map fun o => optW (o.map (sh2 w.length))) rfl (.refl h1.wf) rfl (tells_st _) (by rw [List.length_map, heldL_len]; exact Nat.lt_trans (slots_few hc hw j1) (by decide)) (by rw [List.length_map, List.length_map]) (fun b x y hx hy C3 h3 => by
    obtain ⟨o, ho, rfl⟩ := map_at hx
    obtain ⟨o', ho', rfl⟩ := map_at hy
    rw [ho] at ho'
    cases ho'
    let s2 : St := S13 tv c w sp (some (.ref du)) a6 (some (heldW c w j1)) a8 a9 a10 a11 (some (optW o))
    refine ⟨s2, rfl, C3, ?_, .refl h3.wf⟩
    have z : ev rn (.cmp .Is (.var 12) (.lit .non)) s2 C3 = .ok (.bl (isNonW (optW o))) C3 := rfl
    cases o with
    | none => exact (ev_iteT z rfl).trans rfl
    | some p =>
      refine (ev_iteF z rfl).trans (ev_tup (ev_two (C1 := C3) (ev_bins (C1 := C3) (C2 := C3) (x := nW p.1) (y := nW w.length) (ev_ixs (C1 := C3) (C2 := C3) (x := prW p) (y := nW 0) rfl rfl (ix_tup rfl C3)) rfl ?_) (ev_ixs (C1 := C3) (C2 := C3) (x := prW p) (y := nW 1) rfl rfl (ix_tup rfl C3))) rfl)
      show R.ok (W.int ((p.1 : Int) + (w.length : Int))) C3 = _
      rw [show (p.1 : Int) + (w.length : Int) = ((p.1 + w.length : Nat) : Int) by omega] <;> rfl)
  exact ⟨s1, rfl, C2, e2, h2⟩
theorem side_ (rn : Nat → List W → CH → R W) {c : Cr} (hc : CrOk c) {w : List Ver} (hw : WbOk c w) (hl : w.length ≤ 10) {tv : W} {sp : Nat} {a5 a6 a7 a8 a9 a10 a11 a12 : Option W} {C : CH} (hC : C.os.length = C.n) :
    ∃ C', Sub0 C C' ∧ ev rn (.bi .tuple (.cons (.comp [("own", 7)] .seq (.cons (.var 2) .nil) (.nm 7) (.lit (.bl true)) (.tup (.cons (.ix (.var 7) (.lit (.int 0))) (.cons (.bi .tuple (.cons (.comp [("its", 12)] .seq (.cons (.ix (.var 7) (.lit (.int 1))) .nil) (.nm 12) (.lit (.bl true)) (.bin .Add (.var 12) (.var 4))) .nil)) .nil)))) .nil)) (S13 tv c w sp a5 a6 a7 a8 a9 a10 a11 a12) C = .ok (webW (shW w.length w)) C' := by
  refine tup_q (run := rn) (own := [("own", 7)]) (k := .seq) (args := .cons (.var 2) .nil) (p := .nm 7) (s := S13 tv c w sp a5 a6 a7 a8 a9 a10 a11 a12) (C := C) (C0 := C) (l := [webW w]) (q := fun i => .st ((w.map verW).drop i)) (xs := w.map verW) (ys := (shW w.length w).map verW) rfl (.refl hC) rfl (tells_st _) (by rw [List.length_map]; exact Nat.lt_of_le_of_lt hl (by decide)) (by unfold shW; rw [List.length_map, List.length_map, List.length_map]) (fun j x y hx hy C1 h1 => ?_)
  obtain ⟨v, hv, rfl⟩ := map_at hx
  obtain ⟨v', hv', rfl⟩ := map_at hy
  rw [shW, List.getElem?_map, hv] at hv'
  have hv' : shV w.length v = v' := Option.some.inj hv'
  subst hv'
  have vl := wb_mem hc hw (List.mem_of_getElem? hv)
  let s1 : St := S13 tv c w sp a5 a6 (some (verW v)) a8 a9 a10 a11 a12
  have i1 : ev rn (.cons (.ix (.var 7) (.lit (.int 1))) .nil) s1 C1 = .ok (.tup [.tup (v.2.map nW)]) C1 := ev_one (ev_ixs (C1 := C1) (C2 := C1) (x := verW v) (y := nW 1) rfl rfl (ix_tup rfl C1))
  obtain ⟨C2, h2, e2⟩ := tup_q (run := rn) (own := [("its", 12)]) (k := .seq) (elt := .bin .Add (.var 12) (.var 4)) (p := .nm 12) (s := s1) (C := C1) (C0 := C1) (q := fun i => .st ((v.2.map nW).drop i)) (xs := v.2.map nW) (ys := (v.2.map fun e => w.length + e).map nW) i1 (.refl h1.wf) rfl (tells_st _) (by rw [List.length_map]; exact Nat.lt_of_le_of_lt vl (by decide)) (by rw [List.length_map, List.length_map, List.length_map]) (fun b x y hx hy C3 h3 => by
    obtain ⟨e, he, rfl⟩ := map_at hx
    obtain ⟨e', he', rfl⟩ := map_at hy
    rw [List.getElem?_map, he] at he'
    have he' : w.length + e = e' := Option.some.inj he'
    subst he'
    refine ⟨S13 tv c w sp a5 a6 (some (verW v)) a8 a9 a10 a11 (some (nW e)), rfl, C3, ?_, .refl h3.wf⟩
    refine ev_bins (C1 := C3) (C2 := C3) (x := nW e) (y := nW w.length) rfl rfl ?_
    show R.ok (W.int ((e : Int) + (w.length : Int))) C3 = _
    rw [show (e : Int) + (w.length : Int) = ((w.length + e : Nat) : Int) by omega] <;> rfl)
  exact ⟨s1, rfl, C2, ev_tup (ev_cons (C1 := C1) (ev_ixs (C1 := C1) (C2 := C1) (x := verW v) (y := nW 0) rfl rfl (ix_tup rfl C1)) (ev_one e2)) rfl, h2⟩
theorem got_ (k : Nat) {c : Cr} (hc : CrOk c) {w : List Ver} (hw : WbOk c w) (hl : w.length ≤ 10) {v : Ver} (hv : VerOk c (shapes c w) v) {tv : W} {sp : Nat} {a5 a6 a7 a8 a10 a11 a12 : Option W} {C : CH} (hC : C.os.length = C.n) :
    ∃ C', Sub0 C C' ∧ ev (RF.run T.fs (k + 12)) (.lst (.cons (.slc (.call 25 (.cons (.var 1) (.cons (.var 9) .nil))) .nopart (.var 4)) (.cons (.call 29 (.cons (.tup (.cons (.var 2) (.cons (.var 2) .nil))) .nil)) (.cons (.call 25 (.cons (.var 1) (.cons (.call 29 (.cons (.lst (.cons (.call 35 (.cons (.var 2) .nil)) (.cons (.var 2) .nil))) .nil)) .nil))) (.cons (.call 29 (.cons (.tup .nil) .nil)) .nil))))) (S13 tv c w sp a5 a6 a7 a8 (some (webW (w ++ [v]))) a10 a11 a12) C = .ok (.ref C'.n) (C'.new (.lst [.tup (holdsL c w w.length), webW (w ++ shW w.length w), .tup (holdsL c w w.length ++ (List.range w.length).map (tw c w)), .tup []])) := by
  let s : St := S13 tv c w sp a5 a6 a7 a8 (some (webW (w ++ [v]))) a10 a11 a12
  have hwv := wb_next hw hv (by omega)
  have hws := wb_side hw (show w.length ≤ 100 by omega)
  obtain ⟨C1, h1, e1⟩ := held (k + 1) c hc (w ++ [v]) hwv hC ((tt_cr hc).td C) ((tt_web hc hwv).td C)
  have hlen : (w ++ [v]).length = w.length + 1 := by rw [List.length_append] <;> rfl
  have z1 : ev (RF.run T.fs (k + 12)) (.slc (.call 25 (.cons (.var 1) (.cons (.var 9) .nil))) .nopart (.var 4)) s C = .ok (.tup (holdsL c w w.length)) C1 := by
    have x1 : ev (RF.run T.fs (k + 12)) (.call 25 (.cons (.var 1) (.cons (.var 9) .nil))) s C = .ok (.tup (holdsL c (w ++ [v]) (w ++ [v]).length)) C1 := (ev_call (l := [crW c, webW (w ++ [v])]) rfl).trans e1
    have x2 : ev (RF.run T.fs (k + 12)) (.slc (.call 25 (.cons (.var 1) (.cons (.var 9) .nil))) .nopart (.var 4)) s C = slcW (.tup (holdsL c (w ++ [v]) (w ++ [v]).length)) .non (nW w.length) C1 := by
      rw [ev, x1]
      rfl
    rw [x2, slc_tup (by unfold holdsL; rw [List.length_map, List.length_range, hlen]; omega), holds_take _ _ _ _ (by omega), holds_ap hc hw]
  have vls : ∀ u ∈ [w, w], ∀ v ∈ u, v.2.length < 1000 := fun u hu v hm => by
    simp at hu
    subst hu
    have := wb_mem hc hw hm
    omega
  have wls : ∀ u ∈ [w, w], u.length ≤ 100 := fun u hu => by
    simp at hu
    subst hu
    omega
  obtain ⟨C2, h2, e2⟩ := beside_ (k + 11) (uw := .tup [webW w, webW w]) (us := [webW w, webW w]) (ws := [w, w]) h1.wf (.inl rfl) rfl (by simp) (fun i u w' hu hw' => by
    match i, hu, hw' with
    | 0, hu, hw' =>
      have hu : webW w = u := Option.some.inj hu
      have hw' : w = w' := Option.some.inj hw'
      subst hu hw'
      exact (tt_web hc hw).td C1
    | 1, hu, hw' =>
      have hu : webW w = u := Option.some.inj hu
      have hw' : w = w' := Option.some.inj hw'
      subst hu hw'
      exact (tt_web hc hw).td C1) wls vls
  rw [side_two] at e2
  obtain ⟨u, C3, h3, t3, e3⟩ := lists_ (tt_web hc hw) (k + 8) C2 h2.wf
  let C4 := C3.new (.lst [u, webW w])
  have h4 : Sub0 C3 C4 := (Sub.refl h3.wf).new _
  obtain ⟨C5, h5, e5⟩ := beside_ (k + 11) (uw := .ref C3.n) (us := [u, webW w]) (ws := [w, w]) h4.wf (.inr ⟨C3.n, rfl, new_at h3.wf _⟩) rfl (by simp) (fun i u' w' hu hw' => by
    match i, hu, hw' with
    | 0, hu, hw' =>
      have hu : u = u' := Option.some.inj hu
      have hw' : w = w' := Option.some.inj hw'
      subst hu hw'
      exact t3.keep h4
    | 1, hu, hw' =>
      have hu : webW w = u' := Option.some.inj hu
      have hw' : w = w' := Option.some.inj hw'
      subst hu hw'
      exact (tt_web hc hw).td C4) wls vls
  rw [side_two] at e5
  obtain ⟨C6, h6, e6⟩ := held (k + 1) c hc (w ++ shW w.length w) hws h5.wf ((tt_cr hc).td C5) ((tt_web hc hws).td C5)
  rw [holds_sd hc hw (by omega)] at e6
  obtain ⟨C7, h7, e7⟩ := beside_ (k + 11) (uw := .tup []) (us := []) (ws := []) h6.wf (.inl rfl) rfl (by simp) (fun i u' w' hu hw' => by simp at hu) (fun _ h => by simp at h) (fun _ h => by simp at h)
  refine ⟨C7, ((((h1.trans h2).trans h3).trans h4).trans h5).trans (h6.trans h7), ?_⟩
  have y2 : ev (RF.run T.fs (k + 12)) (.call 29 (.cons (.tup (.cons (.var 2) (.cons (.var 2) .nil))) .nil)) s C1 = .ok (webW (w ++ shW w.length w)) C2 := (ev_call (l := [.tup [webW w, webW w]]) rfl).trans e2
  have y3 : ev (RF.run T.fs (k + 12)) (.call 25 (.cons (.var 1) (.cons (.call 29 (.cons (.lst (.cons (.call 35 (.cons (.var 2) .nil)) (.cons (.var 2) .nil))) .nil)) .nil))) s C2 = .ok (.tup (holdsL c w w.length ++ (List.range w.length).map (tw c w))) C6 := by
    refine (ev_call (ev_two (C1 := C2) (w := crW c) rfl ((ev_call (ev_one (ev_lst (ev_two ((ev_call (l := [webW w]) rfl).trans e3) rfl) rfl))).trans e5))).trans e6
  have y4 : ev (RF.run T.fs (k + 12)) (.call 29 (.cons (.tup .nil) .nil)) s C6 = .ok (.tup []) C7 := (ev_call (l := [.tup []]) rfl).trans e7
  exact ev_lst (ev_cons z1 (ev_cons y2 (ev_two y3 y4))) rfl
theorem pi_tw {c : Cr} (hc : CrOk c) {w : List Ver} (hw : WbOk c w) (j n : Nat) : PI (n + 2) (tw c w j) := .of (by have := slots_few hc hw j; rw [List.length_map, heldL_len]; omega) fun x hx => by
  obtain ⟨o, _, rfl⟩ := List.mem_map.mp hx
  exact pi_opt _ n
theorem last_ (k : Nat) {c : Cr} (hs : HsOk c) {w : List Ver} (hw : WbOk c w) (hl : w.length ≤ 10) {t sp du : Nat} {a6 a7 a8 a9 a10 a11 a12 : Option W} {s n : Int} {C : CH} (hC : C.os.length = C.n) (hd : C.get du = some (.lst (holdsL c w w.length))) (hdt : du ≠ t) (b : Box C t s n) (hn : n < 100000) :
    ∃ (n' : Int) (C' : CH), exs (RF.run T.fs (k + 12)) (.cons (.set 9 (.bin .Add (.var 2) (.tup (.cons (.call 33 (.cons (.var 0) (.cons (.call 42 (.cons (.var 1) (.cons (.var 2) .nil))) .nil))) .nil)))) (.cons (.set 10 (.comp [("own", 7)] .seq (.cons (.var 5) .nil) (.nm 7) (.lit (.bl true)) (.bi .tuple (.cons (.comp [("its", 12)] .seq (.cons (.var 7) .nil) (.nm 12) (.lit (.bl true)) (.ite (.cmp .Is (.var 12) (.lit .non)) (.lit .non) (.tup (.cons (.bin .Add (.ix (.var 12) (.lit (.int 0))) (.var 4)) (.cons (.ix (.var 12) (.lit (.int 1))) .nil))))) .nil)))) (.cons (.set 11 (.bi .tuple (.cons (.comp [("own", 7)] .seq (.cons (.var 2) .nil) (.nm 7) (.lit (.bl true)) (.tup (.cons (.ix (.var 7) (.lit (.int 0))) (.cons (.bi .tuple (.cons (.comp [("its", 12)] .seq (.cons (.ix (.var 7) (.lit (.int 1))) .nil) (.nm 12) (.lit (.bl true)) (.bin .Add (.var 12) (.var 4))) .nil)) .nil)))) .nil))) (.cons (.set 8 (.lst (.cons (.slc (.call 25 (.cons (.var 1) (.cons (.var 9) .nil))) .nopart (.var 4)) (.cons (.call 29 (.cons (.tup (.cons (.var 2) (.cons (.var 2) .nil))) .nil)) (.cons (.call 25 (.cons (.var 1) (.cons (.call 29 (.cons (.lst (.cons (.call 35 (.cons (.var 2) .nil)) (.cons (.var 2) .nil))) .nil)) .nil))) (.cons (.call 29 (.cons (.tup .nil) .nil)) .nil)))))) (.cons (.ret (.call 36 (.cons (.var 8) (.cons (.lst (.cons (.bi .tuple (.cons (.var 5) .nil)) (.cons (.bin .Add (.var 2) (.var 11)) (.cons (.bi .tuple (.cons (.bin .Add (.var 5) (.var 10)) .nil)) (.cons (.tup .nil) .nil))))) .nil)))) .nil))))) (S13 (.ref t) c w sp (some (.ref du)) a6 a7 a8 a9 a10 a11 a12) C = .rt (.bl true) C' ∧ Go t C C' ∧ Box C' t s n' ∧ n' ≤ n + 1 := by
  have hc := hs.ok
  have ht := b.lt
  let s0 : St := S13 (.ref t) c w sp (some (.ref du)) a6 a7 a8 a9 a10 a11 a12
  obtain ⟨r, vs, C1, e1, h1, g1, hv, hne, hvl, hr⟩ := comes_ (k + 11) hs hw (by omega) hC
  have qr : r ≠ t := by omega
  obtain ⟨d, x, n2, C2, e2, hx, go2, b2, hn2⟩ := of_ (k + 10) h1.wf (b.keep h1) (by omega) g1 qr (by simpa using hne) (by rw [List.length_map]; omega)
  obtain ⟨v, hdv, rfl⟩ := map_at hx
  have hvok := hv v (List.mem_of_getElem? hdv)
  have x9 : ev (RF.run T.fs (k + 12)) (.bin .Add (.var 2) (.tup (.cons (.call 33 (.cons (.var 0) (.cons (.call 42 (.cons (.var 1) (.cons (.var 2) .nil))) .nil))) .nil))) s0 C = .ok (webW (w ++ [v])) C2 := by
    have y : ev (RF.run T.fs (k + 12)) (.call 33 (.cons (.var 0) (.cons (.call 42 (.cons (.var 1) (.cons (.var 2) .nil))) .nil))) s0 C = .ok (verW v) C2 := (ev_call (ev_two (C1 := C) (w := .ref t) rfl ((ev_call (l := [crW c, webW w]) rfl).trans e1))).trans e2
    refine ev_bins (C1 := C) (C2 := C2) (x := webW w) (y := .tup [verW v]) rfl (ev_tup (ev_one y) rfl) ((add_tup (by rw [List.length_map]; simp; omega) C2).trans ?_)
    unfold webW
    rw [List.map_append] <;> rfl
  have hd2 := (h1.any.trans go2).at hd hdt
  obtain ⟨C3, h3, e3⟩ := twice_ (RF.run T.fs (k + 12)) hc hw hl (tv := .ref t) (sp := sp) (a6 := a6) (a7 := a7) (a8 := a8) (a9 := some (webW (w ++ [v]))) (a10 := a10) (a11 := a11) (a12 := a12) go2.wf hd2
  let TWL := (List.range w.length).map (tw c w)
  let C4 := C3.new (.lst TWL)
  have h4 : Sub0 C3 C4 := (Sub.refl h3.wf).new _
  obtain ⟨C5, h5, e5⟩ := side_ (RF.run T.fs (k + 12)) hc hw hl (tv := .ref t) (sp := sp) (a5 := some (.ref du)) (a6 := a6) (a7 := a7) (a8 := a8) (a9 := some (webW (w ++ [v]))) (a10 := some (.ref C3.n)) (a11 := a11) (a12 := a12) h4.wf
  obtain ⟨C6, h6, e6⟩ := got_ k hc hw hl hvok (tv := .ref t) (sp := sp) (a5 := some (.ref du)) (a6 := a6) (a7 := a7) (a8 := a8) (a10 := some (.ref C3.n)) (a11 := some (webW (shW w.length w))) (a12 := a12) h5.wf
  let L4 : List W := [.tup (holdsL c w w.length), webW (w ++ shW w.length w), .tup (holdsL c w w.length ++ TWL), .tup []]
  let C7 := C6.new (.lst L4)
  have h7 : Sub0 C6 C7 := (Sub.refl h6.wf).new _
  let s4 : St := S13 (.ref t) c w sp (some (.ref du)) a6 a7 (some (.ref C6.n)) (some (webW (w ++ [v]))) (some (.ref C3.n)) (some (webW (shW w.length w))) a12
  have h27 := (((h3.trans h4).trans h5).trans h6).trans h7
  have hd7 : C7.get du = some (.lst (holdsL c w w.length)) := h27.keep _ _ (fun z => z) hd2
  have ht7 : C7.get C3.n = some (.lst TWL) := ((h5.trans h6).trans h7).keep _ _ (fun z => z) (new_at h3.wf _)
  have hH : (holdsL c w w.length).length = w.length := by unfold holdsL; rw [List.length_map, List.length_range]
  have hT : TWL.length = w.length := by show ((List.range w.length).map (tw c w)).length = _; rw [List.length_map, List.length_range]
  let C8 := C7.new (.lst (holdsL c w w.length ++ TWL))
  have h8 : Sub0 C7 C8 := (Sub.refl h7.wf).new _
  let C9 := C8.new (.lst L4)
  have h9 : Sub0 C8 C9 := (Sub.refl h8.wf).new _
  have x10 : ev (RF.run T.fs (k + 12)) (.lst (.cons (.bi .tuple (.cons (.var 5) .nil)) (.cons (.bin .Add (.var 2) (.var 11)) (.cons (.bi .tuple (.cons (.bin .Add (.var 5) (.var 10)) .nil)) (.cons (.tup .nil) .nil))))) s4 C7 = .ok (.ref C8.n) C9 := by
    have y1 : ev (RF.run T.fs (k + 12)) (.bi .tuple (.cons (.var 5) .nil)) s4 C7 = .ok (.tup (holdsL c w w.length)) C7 := ev_bi (ev_one (w := .ref du) (C1 := C7) rfl) (tup_ref hd7)
    have y2 : ev (RF.run T.fs (k + 12)) (.bin .Add (.var 2) (.var 11)) s4 C7 = .ok (webW (w ++ shW w.length w)) C7 := by
      refine ev_bins (C1 := C7) (C2 := C7) (x := webW w) (y := webW (shW w.length w)) rfl rfl ((add_tup (by unfold shW; rw [List.length_map, List.length_map, List.length_map]; omega) C7).trans ?_)
      unfold webW
      rw [List.map_append]
    have y3 : ev (RF.run T.fs (k + 12)) (.bi .tuple (.cons (.bin .Add (.var 5) (.var 10)) .nil)) s4 C7 = .ok (.tup (holdsL c w w.length ++ TWL)) C8 :=
      ev_bi (ev_one (ev_bins (C1 := C7) (C2 := C7) (x := .ref du) (y := .ref C3.n) rfl rfl (add_lst hd7 ht7 (by rw [hH, hT]; omega)))) (tup_ref (new_at h7.wf _))
    exact ev_lst (ev_cons y1 (ev_cons y2 (ev_cons y3 (ev_one rfl)))) rfl
  have hp : ∀ x ∈ L4, PI 3 x := fun x hx => by
    simp only [L4, List.mem_cons, List.not_mem_nil, or_false] at hx
    rcases hx with rfl | rfl | rfl | rfl
    · exact pi_holds hc hw (by omega) 0
    · exact pi_web hc (wb_side hw (by omega)) 0
    · refine .of (by rw [List.length_append, hH, hT]; omega) fun x hx => ?_
      rcases List.mem_append.mp hx with hx | hx
      · unfold holdsL at hx
        obtain ⟨i, _, rfl⟩ := List.mem_map.mp hx
        exact pi_held hc hw i 0
      · obtain ⟨i, _, rfl⟩ := List.mem_map.mp hx
        exact pi_tw hc hw i 0
    · exact .of (by simp) fun x hx => by simp at hx
  have sm : SM C9 4 (.ref C6.n) (.ref C8.n) := sm_list ((h8.trans h9).keep _ _ (fun z => z) (new_at h6.wf _) : C9.get C6.n = some (.lst L4)) (new_at h8.wf _) rfl (by simp [L4]) hp
  obtain ⟨C10, h10, e10⟩ := same_ sm (k + 7) C9 (.refl h9.wf)
  refine ⟨n2, C10, ?_, (h1.any.trans go2).trans (h27.trans ((h8.trans h9).trans h10)).any, b2.keep (h27.trans ((h8.trans h9).trans h10)), by omega⟩
  exact (exs_cons (exs_set x9 rfl)).trans ((exs_cons (exs_set (h1 := C4) e3 rfl)).trans ((exs_cons (exs_set e5 rfl)).trans ((exs_cons (exs_set (h1 := C7) e6 rfl)).trans (exs_rt (exs_ret ((ev_call (ev_two (C1 := C7) (w := .ref C6.n) rfl x10)).trans e10))))))
theorem drawn_ (k : Nat) {t : Nat} {s n : Int} {C : CH} (hC : C.os.length = C.n) (b : Box C t s n) (hn : n < 50000) :
    ∃ (n' : Int) (C' : CH), RF.run T.fs (k + 13) 51 [.ref t] C = .ok (.bl true) C' ∧ Go t C C' ∧ Box C' t s n' ∧ n' ≤ n + 5000 := by
  have ht := b.lt
  let s0 : St := [some (.ref t), none, none, none, none, none, none, none, none, none, none, none, none]
  obtain ⟨d1, n1, C1, e1, hd1, go1, b1, hn1⟩ := ev_take (k + 11) (st := s0) hC rfl b (by omega) 3 (by decide) (by decide)
  have c1 := ev_eq0 e1
  have hou : ∃ (c : Cr) (n2 : Int) (C2 : CH), ev (RF.run T.fs (k + 12)) (.ite (.cmp .Eq (.call 31 (.cons (.var 0) (.cons (.lit (.int 3)) .nil))) (.lit (.int 0))) (.call 41 (.cons (.var 0) .nil)) (.call 40 (.cons (.var 0) .nil))) s0 C = .ok (crW c) C2 ∧ HsOk c ∧ Go t C C2 ∧ Box C2 t s n2 ∧ n2 ≤ n + 1001 := by
    by_cases z : d1 = 0
    · rw [decide_eq_true z] at c1
      obtain ⟨c, n2, C2, e2, hs, go2, b2, hn2⟩ := house_two_ (k + 8) go1.wf b1 (by omega)
      exact ⟨c, n2, C2, (ev_iteT c1 rfl).trans ((ev_call (l := [.ref t]) rfl).trans e2), hs, go1.trans go2, b2, by omega⟩
    · rw [decide_eq_false z] at c1
      obtain ⟨c, n2, C2, e2, hs, go2, b2, hn2⟩ := house_one_ (k + 8) go1.wf b1 (by omega)
      exact ⟨c, n2, C2, (ev_iteF c1 rfl).trans ((ev_call (l := [.ref t]) rfl).trans e2), hs, go1.trans go2, b2, by omega⟩
  obtain ⟨c, n2, C2, e2, hs, go2, b2, hn2⟩ := hou
  have hc := hs.ok
  let s1 : St := [some (.ref t), some (crW c), none, none, none, none, none, none, none, none, none, none, none]
  obtain ⟨d3, n3, C3, e3, hd3, go3, b3, hn3⟩ := ev_take (k + 11) (st := s1) go2.wf rfl b2 (by omega) 4 (by decide) (by decide)
  have x3 : ev (RF.run T.fs (k + 12)) (.bin .Add (.lit (.int 3)) (.call 31 (.cons (.var 0) (.cons (.lit (.int 4)) .nil)))) s1 C2 = .ok (nW (3 + d3)) C3 := by
    refine ev_bins (C1 := C2) (C2 := C3) (x := .int 3) (y := nW d3) rfl e3 ?_
    show R.ok (W.int (3 + (d3 : Int))) C3 = _
    rw [show (3 : Int) + (d3 : Int) = ((3 + d3 : Nat) : Int) by omega] <;> rfl
  obtain ⟨w, n4, C4, e4, hw, hwl, go4, b4, hn4⟩ := tale_ (k + 9) hs (m := 3 + d3) (by omega) go3.wf b3 (by omega)
  have x4 : ev (RF.run T.fs (k + 12)) (.call 43 (.cons (.var 0) (.cons (.var 1) (.cons (.bin .Add (.lit (.int 3)) (.call 31 (.cons (.var 0) (.cons (.lit (.int 4)) .nil)))) .nil)))) s1 C2 = .ok (webW w) C4 := (ev_call (ev_cons (C1 := C2) (w := .ref t) rfl (ev_cons (C1 := C2) (w := crW c) rfl (ev_one x3)))).trans e4
  have hl : w.length ≤ 10 := by omega
  let s2 : St := [some (.ref t), some (crW c), some (webW w), none, none, none, none, none, none, none, none, none, none]
  obtain ⟨sp, C5, e5, h5, g5, hsp⟩ := slots_ (k + 11) hc hw (by omega) go4.wf
  have x5 : ev (RF.run T.fs (k + 12)) (.tup (.cons (.call 47 (.cons (.var 1) (.cons (.var 2) .nil))) (.cons (.bi .len (.cons (.var 2) .nil)) .nil))) s2 C4 = .ok (.tup [.ref sp, nW w.length]) C5 := by
    refine ev_tup (ev_two ((ev_call (l := [crW c, webW w]) rfl).trans e5) (ev_bi (ev_one (w := webW w) (C1 := C5) rfl) ((len_tup _ C5).trans ?_))) rfl
    rw [List.length_map] <;> rfl
  obtain ⟨b6, b7, C6, e6, h6, g6⟩ := due_loop (k + 11) hc hw hl (tv := .ref t) (sp := sp) (a5 := none) (a6 := none) (a7 := none) (a8 := none) (a9 := none) (a10 := none) (a11 := none) (a12 := none) h5.wf g5 (.cons (.ifs (.not (.call 36 (.cons (.lst (.cons (.call 25 (.cons (.var 1) (.cons (.var 2) .nil))) (.cons (.call 25 (.cons (.call 35 (.cons (.var 1) .nil)) (.cons (.call 35 (.cons (.var 2) .nil)) .nil))) .nil))) (.cons (.bin .Mult (.lst (.cons (.bi .tuple (.cons (.var 5) .nil)) .nil)) (.lit (.int 2))) .nil)))) (.cons (.ret (.lit (.bl false))) .nil) .nil) (.cons (.loop .seq (.cons (.var 3) .nil) (.nm 7) spB) (.cons (.set 9 (.bin .Add (.var 2) (.tup (.cons (.call 33 (.cons (.var 0) (.cons (.call 42 (.cons (.var 1) (.cons (.var 2) .nil))) .nil))) .nil)))) (.cons (.set 10 (.comp [("own", 7)] .seq (.cons (.var 5) .nil) (.nm 7) (.lit (.bl true)) (.bi .tuple (.cons (.comp [("its", 12)] .seq (.cons (.var 7) .nil) (.nm 12) (.lit (.bl true)) (.ite (.cmp .Is (.var 12) (.lit .non)) (.lit .non) (.tup (.cons (.bin .Add (.ix (.var 12) (.lit (.int 0))) (.var 4)) (.cons (.ix (.var 12) (.lit (.int 1))) .nil))))) .nil)))) (.cons (.set 11 (.bi .tuple (.cons (.comp [("own", 7)] .seq (.cons (.var 2) .nil) (.nm 7) (.lit (.bl true)) (.tup (.cons (.ix (.var 7) (.lit (.int 0))) (.cons (.bi .tuple (.cons (.comp [("its", 12)] .seq (.cons (.ix (.var 7) (.lit (.int 1))) .nil) (.nm 12) (.lit (.bl true)) (.bin .Add (.var 12) (.var 4))) .nil)) .nil)))) .nil))) (.cons (.set 8 (.lst (.cons (.slc (.call 25 (.cons (.var 1) (.cons (.var 9) .nil))) .nopart (.var 4)) (.cons (.call 29 (.cons (.tup (.cons (.var 2) (.cons (.var 2) .nil))) .nil)) (.cons (.call 25 (.cons (.var 1) (.cons (.call 29 (.cons (.lst (.cons (.call 35 (.cons (.var 2) .nil)) (.cons (.var 2) .nil))) .nil)) .nil))) (.cons (.call 29 (.cons (.tup .nil) .nil)) .nil)))))) (.cons (.ret (.call 36 (.cons (.var 8) (.cons (.lst (.cons (.bi .tuple (.cons (.var 5) .nil)) (.cons (.bin .Add (.var 2) (.var 11)) (.cons (.bi .tuple (.cons (.bin .Add (.var 5) (.var 10)) .nil)) (.cons (.tup .nil) .nil))))) .nil)))) .nil)))))))
  obtain ⟨C7, e7, h7⟩ := first_same k hc hw hl (tv := .ref t) (sp := sp) (a6 := b6) (a7 := b7) (a8 := none) (a9 := none) (a10 := none) (a11 := none) (a12 := none) h6.wf g6
  obtain ⟨c7, c8, C8, e8, h8⟩ := sp_loop k hc hw hl (tv := .ref t) (sp := sp) (a5 := some (.ref C5.n)) (a6 := b6) (a7 := b7) (a8 := none) (a9 := none) (a10 := none) (a11 := none) (a12 := none) h7.wf ((h6.trans h7).keep _ _ (fun z => z) g5)
  have h48 := ((h5.trans h6).trans h7).trans h8
  have l2 := go2.le
  have l3 := go3.le
  have l4 := go4.le
  have l5 := h5.le
  obtain ⟨n9, C9, e9, go9, b9, hn9⟩ := last_ k hs hw hl (t := t) (sp := sp) (a6 := b6) (a7 := c7) (a8 := c8) (a9 := none) (a10 := none) (a11 := none) (a12 := none) h8.wf ((h7.trans h8).keep _ _ (fun z => z) g6) (by omega) (b4.keep h48) (by omega)
  refine ⟨n9, C9, call_rt (d := c51) rfl rfl ?_, ((go2.trans go3).trans go4).trans (h48.any.trans go9), b9, by omega⟩
  exact (exs_cons (exs_set e2 rfl)).trans ((exs_cons (exs_set x4 rfl)).trans ((exs_cons (exs_pat (s1 := S13 (.ref t) c w sp none none none none none none none none) x5 rfl)).trans (e6.trans ((exs_cons (exs_no e7 rfl)).trans ((exs_cons e8).trans e9)))))
end K04
end
section
set_option Elab.async false
set_option linter.all false
set_option maxRecDepth 100000
set_option maxHeartbeats 2000000
namespace K04
open PySem RF
def clB : CS := (.cons (.set 5 (.bin .Mod (.bi .int (.cons (.var 3) .nil)) (.var 1))) (.cons (.ixset (.var 2) (.var 5) (.bin .Add (.ix (.var 2) (.var 5)) (.bin .Mult (.var 4) (.bin .Add (.var 3) (.lit (.int 2)))))) .nil))
theorem cl_turn (rn : Nat → List W → CH → R W) {sc : Option W} {a5 : Option W} {r i : Nat} {c b : Int} {C : CH} (hg : C.get r = some (.lst [.int c])) (hi : i < 1000) :
    exs rn clB [sc, some (.int 1), some (.ref r), some (nW i), some (.int b), a5] C = .nx [sc, some (.int 1), some (.ref r), some (nW i), some (.int b), some (.int 0)] (C.set r (.lst [.int (c + b * ((i : Int) + 2))])) := by
  let s0 : St := [sc, some (.int 1), some (.ref r), some (nW i), some (.int b), a5]
  let s1 : St := [sc, some (.int 1), some (.ref r), some (nW i), some (.int b), some (.int 0)]
  have e1 : ev rn (.bin .Mod (.bi .int (.cons (.var 3) .nil)) (.var 1)) s0 C = .ok (.int 0) C := by
    refine ev_bins (C1 := C) (C2 := C) (x := .int (i : Int)) (y := .int 1) (ev_int rfl) rfl ?_
    rw [modW _ _ (by decide), Int.emod_one]
  have e2 : ev rn (.ix (.var 2) (.var 5)) s1 C = .ok (.int c) C := ev_ixs (C1 := C) (C2 := C) (x := .ref r) (y := nW 0) rfl rfl (ix_ref hg rfl)
  have e3 : ev rn (.bin .Add (.ix (.var 2) (.var 5)) (.bin .Mult (.var 4) (.bin .Add (.var 3) (.lit (.int 2))))) s1 C = .ok (.int (c + b * ((i : Int) + 2))) C :=
    ev_bins (C1 := C) (C2 := C) (x := .int c) (y := .int (b * ((i : Int) + 2))) e2 (ev_bins (C1 := C) (C2 := C) (x := .int b) (y := .int ((i : Int) + 2)) rfl (ev_bins (C1 := C) (C2 := C) (x := .int (i : Int)) (y := .int 2) rfl rfl rfl) (mulR _ _ (by omega) (by omega) C)) rfl
  have e4 : RF.putAt (.ref r) (.int 0) (.int (c + b * ((i : Int) + 2))) C = some (C.set r (.lst [.int (c + b * ((i : Int) + 2))])) := by
    simp only [RF.putAt, hg]
    rfl
  exact (exs_cons (exs_set e1 rfl)).trans ((exs_cons (exs_ixset (C1 := C) (C2 := C) (C3 := C) (x := .ref r) (y := .int 0) e3 rfl rfl e4)).trans rfl)
theorem cells_ (k : Nat) (ns : List Int) (hl : ns.length ≤ 63) {C : CH} (hC : C.os.length = C.n) : ∃ (c : Int) (r : Nat) (C' : CH), RF.run T.fs (k + 1) 32 [.scr (ns.map W.int), .int 1] C = .ok (.ref r) C' ∧ Sub0 C C' ∧ C'.get r = some (.lst [.int c]) ∧ C'.n = C.n + (if ns = [] then 4 else 3) := by
  let rn := RF.run T.fs k
  let sc : W := .scr (ns.map W.int)
  let s0 : St := [some sc, some (.int 1), none, none, none, none]
  have hc1 : cutW (ns.map W.int) none (some 1) = (ns.take 1).map W.int := by
    cases ns <;> simp [cutW, HT.sIx]
  have hc2 : cutW (ns.map W.int) (some 1) (some 63) = (ns.drop 1).map W.int := by
    cases ns with
    | nil => simp [cutW, HT.sIx]
    | cons a rest =>
      simp [cutW, HT.sIx]
      rw [List.take_of_length_le]
      simp at hl ⊢
      omega
  let C1 := C.new (.lst ((ns.take 1).map W.int))
  let C2 := C1.new (.lst ((ns.take 1).map W.int))
  have h1 : Sub0 C C1 := (Sub.refl hC).new _
  have h2 : Sub0 C1 C2 := (Sub.refl h1.wf).new _
  have e1 : ev rn (.bi .list (.cons (.slc (.var 0) .nopart (.var 1)) .nil)) s0 C = .ok (.ref C1.n) C2 := by
    have z : ev rn (.slc (.var 0) .nopart (.var 1)) s0 C = .ok (.ref C.n) C1 := by
      show R.ok (W.ref C.n) (C.new (.lst (cutW (ns.map W.int) none (some 1)))) = _
      rw [hc1]
    refine ev_bi (ev_one z) ?_
    have g : C1.get C.n = some (.lst ((ns.take 1).map W.int)) := new_at hC _
    simp only [biW, items, g]
    rfl
  have first : ∃ (r : Nat) (C3 : CH) (c : Int), exs rn (.set 2 (.or (.bi .list (.cons (.slc (.var 0) .nopart (.var 1)) .nil)) (.lst (.cons (.lit (.int 0)) .nil)))) s0 C = .nx [some sc, some (.int 1), some (.ref r), none, none, none] C3 ∧ Sub0 C C3 ∧ C3.get r = some (.lst [.int c]) ∧ C.n ≤ r ∧ C3.n + 1 = C.n + (if ns = [] then 4 else 3) := by
    cases ns with
    | nil =>
      let C3 := C2.new (.lst [.int 0])
      have t : truth C2 (.ref C1.n) = some false := by
        have g : C2.get C1.n = some (.lst []) := new_at h1.wf _
        simp only [truth, g]
        rfl
      exact ⟨C2.n, C3, 0, exs_set ((ev_orF e1 t).trans rfl) rfl, ((h1.trans h2)).new _, new_at h2.wf _, (h1.trans h2).le, rfl⟩
    | cons a rest =>
      have t : truth C2 (.ref C1.n) = some true := by
        have g : C2.get C1.n = some (.lst [.int a]) := new_at h1.wf _
        simp only [truth, g]
        rfl
      exact ⟨C1.n, C2, a, exs_set (ev_orT e1 t) rfl, h1.trans h2, new_at h1.wf _, h1.le, rfl⟩
  obtain ⟨r, C3, c0, e3, h3, g3, hr, hn3⟩ := first
  let rest := (ns.drop 1).map W.int
  let C4 := C3.new (.lst rest)
  have h4 : Sub0 C3 C4 := (Sub.refl h3.wf).new _
  let s1 : St := [some sc, some (.int 1), some (.ref r), none, none, none]
  have e4 : ev rn (.cons (.slc (.var 0) (.var 1) (.lit (.int 63))) .nil) s1 C3 = .ok (.tup [.ref C3.n]) C4 := by
    refine ev_one ?_
    show R.ok (W.ref C3.n) (C3.new (.lst (cutW (ns.map W.int) (some 1) (some 63)))) = _
    rw [hc2]
  have hrn : r < C3.n := CH.get_lt g3
  have hlr : rest.length ≤ 63 := by
    show ((ns.drop 1).map W.int).length ≤ 63
    rw [List.length_map, List.length_drop]
    omega
  let Inv : Nat → St → CH → Prop := fun i st Cx => (∃ a3 a4 a5, st = [some sc, some (.int 1), some (.ref r), a3, a4, a5]) ∧ Sub0 C Cx ∧ (∃ c : Int, Cx.get r = some (.lst [.int c])) ∧ Cx.get C3.n = some (.lst rest) ∧ Cx.n = C4.n
  have hf := forL_q (fb := exs rn clB) (p := .tp (.cons (.nm 3) (.cons (.nm 4) .nil))) (I := fun Cx => Cx.get C3.n = some (.lst rest)) (q := fun i => .enl C3.n i) (xs := enumW 0 rest) (tells_enl fun Cx h => h) Inv (fun _ _ => False) (fun i st Cx h => h.2.2.2.1) (fun i x st Cx hx hI => by
    obtain ⟨⟨a3, a4, a5, rfl⟩, hs, ⟨c, hg⟩, hgr, hn⟩ := hI
    have hx2 := enum_at rest 0 i
    rw [show ((0 : Nat) : Int) = 0 from rfl, hx, Nat.zero_add, List.getElem?_map] at hx2
    cases hb : (ns.drop 1)[i]? with
    | none => rw [hb] at hx2; cases hx2
    | some b =>
      rw [hb] at hx2
      have hx3 : x = .tup [nW i, .int b] := Option.some.inj hx2
      subst hx3
      have hi : i < 1000 := by
        have := lt_of hb
        rw [List.length_drop] at this
        omega
      have lt : r < Cx.n := CH.get_lt hg
      refine ⟨[some sc, some (.int 1), some (.ref r), some (nW i), some (.int b), a5], rfl, .inl ⟨_, _, .inl (cl_turn rn hg hi), ⟨_, _, _, rfl⟩, hs.set lt (.inl hr) _, ⟨_, set_at hs.wf lt _⟩, ?_, hn⟩⟩
      rw [get_set hs.wf lt, if_neg (by omega)]
      exact hgr) ((enumW 0 rest).length - 0) 0 fuel s1 C4 rfl (Nat.zero_le _) ⟨⟨_, _, _, rfl⟩, h3.trans h4, ⟨c0, h4.keep _ _ (fun z => z) g3⟩, new_at h3.wf _, rfl⟩ (by
      rw [Nat.sub_zero, enum_len]
      exact Nat.lt_of_le_of_lt hlr (by decide))
  have hsr : src0 .enm [.ref C3.n] C4 = some (.enl C3.n 0) := by
    have g : C4.get C3.n = some (.lst rest) := new_at h3.wf _
    simp only [src0, lstAt, g]
  rcases hf with ⟨s', C', e, ⟨⟨a3, a4, a5, rfl⟩, hs, ⟨c, hg⟩, hgr, hn⟩⟩ | ⟨_, _, _, h⟩
  · refine ⟨c, r, C', call_rt (d := c32) rfl rfl ((exs_cons e3).trans ((exs_cons ((exs_loop e4 hsr).trans e)).trans (exs_rt (exs_ret rfl)))), hs, hg, ?_⟩
    rw [hn]
    exact hn3
  · exact h.elim
theorem box_ (k : Nat) {C : CH} (hC : C.os.length = C.n) {r : Nat} {c : Int} (hg : C.get r = some (.lst [.int c])) : ∃ (s : Int) (C' : CH), RF.run T.fs (k + 1) 30 [.ref r, .int 0] C = .ok (.ref C.n) C' ∧ Sub0 C C' ∧ Box C' C.n s 0 ∧ C'.n = C.n + 1 := by
  let rn := RF.run T.fs k
  let s0 : St := [some (.ref r), some (.int 0), none]
  let s1 : St := [some (.ref r), some (.int 0), some (.int c)]
  have e1 : ev rn (.ite (.cmp .Lt (.var 1) (.bi .len (.cons (.var 0) .nil))) (.ix (.var 0) (.var 1)) (.lit (.int 0))) s0 C = .ok (.int c) C := by
    have z : ev rn (.cmp .Lt (.var 1) (.bi .len (.cons (.var 0) .nil))) s0 C = .ok (.bl true) C := ev_cmps (C1 := C) (C2 := C) (x := .int 0) (y := .int 1) rfl (ev_bi (ev_one (w := .ref r) rfl) (len_ref hg)) rfl
    exact (ev_iteT z rfl).trans (ev_ixs (C1 := C) (C2 := C) (x := .ref r) (y := nW 0) rfl rfl (ix_ref hg rfl))
  let A : Int := if c < 0 then -c else c
  have hA : 0 ≤ A := by
    show 0 ≤ (if c < 0 then -c else c)
    split <;> omega
  have e2 : ev rn (.bi .abs (.cons (.var 2) .nil)) s1 C = .ok (.int A) C := rfl
  have e3 : ev rn (.bin .Pow (.lit (.int 10)) (.lit (.int 18))) s1 C = .ok (.int (10 ^ 18)) C := rfl
  have e4 : ∃ q : Int, (q = 0 ∨ q = 1) ∧ ev rn (.bi .int (.cons (.cmp .GtE (.bi .abs (.cons (.var 2) .nil)) (.bin .Pow (.lit (.int 10)) (.lit (.int 18)))) .nil)) s1 C = .ok (.int q) C := by
    by_cases z : (10 ^ 18 : Int) ≤ A
    · refine ⟨1, .inr rfl, ev_bi (ev_one (ev_cmps (C1 := C) (C2 := C) (w := .bl true) e2 e3 ?_)) rfl⟩
      show R.ok (W.bl (decide ((10 ^ 18 : Int) ≤ A))) C = _
      rw [decide_eq_true z]
    · refine ⟨0, .inl rfl, ev_bi (ev_one (ev_cmps (C1 := C) (C2 := C) (w := .bl false) e2 e3 ?_)) rfl⟩
      show R.ok (W.bl (decide ((10 ^ 18 : Int) ≤ A))) C = _
      rw [decide_eq_false z]
  obtain ⟨q, hq, e4⟩ := e4
  let S : Int := c % 2305843009213693951 + 39373 * 0 + 3171004
  have e5 : ev rn (.bin .Add (.bin .Add (.bin .Mod (.bi .int (.cons (.var 2) .nil)) (.lit (.int 2305843009213693951))) (.bin .Mult (.lit (.int 39373)) (.var 1))) (.lit (.int 3171004))) s1 C = .ok (.int S) C :=
    ev_bins (C1 := C) (C2 := C) (y := .int 3171004) (ev_bins (C1 := C) (C2 := C) (ev_bins (C1 := C) (C2 := C) (x := .int c) (y := .int 2305843009213693951) (ev_int rfl) rfl (modW _ _ (by decide) C)) (ev_bins (C1 := C) (C2 := C) (x := .int 39373) (y := .int 0) rfl rfl (mulR _ _ (by decide) (by decide) C)) rfl) rfl rfl
  have e6 : ev rn (.bin .Mult (.bi .abs (.cons (.var 2) .nil)) (.bi .int (.cons (.cmp .GtE (.bi .abs (.cons (.var 2) .nil)) (.bin .Pow (.lit (.int 10)) (.lit (.int 18)))) .nil))) s1 C = .ok (.int (A * q)) C := ev_bins (C1 := C) (C2 := C) e2 e4 (mulR _ _ (by rcases hq with rfl | rfl <;> decide) (by rcases hq with rfl | rfl <;> decide) C)
  refine ⟨S, C.new (.lst [.int (A * q), .int S, .int 0]), call_rt (d := c30) rfl rfl ((exs_cons (exs_set e1 rfl)).trans (exs_rt (exs_ret (ev_lst (ev_cons e6 (ev_two e5 rfl)) rfl)))), (Sub.refl hC).new _, ⟨⟨A * q, ?_, new_at hC _⟩, Int.le_refl _⟩, rfl⟩
  rcases hq with rfl | rfl <;> omega
end K04
end
section
set_option Elab.async false
set_option linter.all false
set_option maxRecDepth 100000
set_option maxHeartbeats 0
namespace K04
open PySem RF
/-- it tells True; and how great the heap is -/
def isT (r : R W) : Bool := match r with
  | .ok (.bl true) _ => true
  | _ => false
def isTw (r : R W) (n : Nat) : Bool := match r with
  | .ok (.bl true) C => Nat.beq C.n n && Nat.beq C.os.length n
  | _ => false
theorem isT_of {r : R W} (h : isT r = true) : ∃ C', r = .ok (.bl true) C' := by
  unfold isT at h
  split at h
  · exact ⟨_, rfl⟩
  · cases h
theorem isTw_of {r : R W} {n : Nat} (h : isTw r n = true) : ∃ os, r = .ok (.bl true) ⟨n, os⟩ ∧ os.length = n := by
  unfold isTw at h
  split at h
  · rename_i C
    obtain ⟨m, os⟩ := C
    obtain ⟨h1, h2⟩ := Bool.and_eq_true_iff.mp h
    have e1 : m = n := Nat.eq_of_beq_eq_true h1
    have e2 : os.length = n := Nat.eq_of_beq_eq_true h2
    exact ⟨os, by rw [e1], e2⟩
  · cases h
theorem front_ : isTw (RF.run T.fs 59 49 [] ⟨0, []⟩) 1818 = true := by
  rw [← runF_eq]
  kernel_rfl
theorem r50a (os : List CO) : isT (RF.run T.fs 59 50 [] ⟨1822, os⟩) = true := by
  rw [← runF_eq]
  kernel_rfl
theorem r50b (os : List CO) : isT (RF.run T.fs 59 50 [] ⟨1823, os⟩) = true := by
  rw [← runF_eq]
  kernel_rfl
theorem law_ (ns : List Int) (hl : ns.length ≤ 63) : ∃ C', RF.run T.fs 60 52 [.scr (ns.map W.int)] ⟨0, []⟩ = .ok (.bl true) C' := by
  obtain ⟨os, hf, hos⟩ := isTw_of front_
  let C0 : CH := ⟨1818, os⟩
  let s0 : St := [some (.scr (ns.map W.int)), none]
  obtain ⟨c, r, C1, e1, h1, g1, hn1⟩ := cells_ 58 ns hl (C := C0) hos
  obtain ⟨s, C2, e2, h2, b2, hn2⟩ := box_ 58 h1.wf g1
  obtain ⟨d, n', C3, e3, hd, go3, b3, hn3, hN⟩ := take_n 58 h2.wf b2 (by omega) 4 (by decide) (by decide)
  let s1 : St := [some (.scr (ns.map W.int)), some (.ref C1.n)]
  have x0 : ev (RF.run T.fs 59) (.not (.call 49 .nil)) s0 ⟨0, []⟩ = .ok (.bl false) C0 := ev_not ((ev_call (l := []) rfl).trans hf)
  have x1 : ev (RF.run T.fs 59) (.call 30 (.cons (.call 32 (.cons (.var 0) (.cons (.lit (.int 1)) .nil))) (.cons (.lit (.int 0)) .nil))) s0 C0 = .ok (.ref C1.n) C2 :=
    (ev_call (ev_two (u := .int 0) ((ev_call (ev_two (C1 := C0) (w := .scr (ns.map W.int)) (u := .int 1) rfl rfl)).trans e1) rfl)).trans e2
  have x3 : ev (RF.run T.fs 59) (.call 31 (.cons (.var 1) (.cons (.lit (.int 4)) .nil))) s1 C2 = .ok (nW d) C3 := (ev_call (ev_two (C1 := C2) (w := .ref C1.n) (u := nW 4) rfl rfl)).trans e3
  have c3 := ev_eq0 x3
  have head : ∀ {rest : CS} {res : RS}, exs (RF.run T.fs 59) rest s1 C2 = res → exs (RF.run T.fs 59) (.cons (.ifs (.not (.call 49 .nil)) (.cons (.ret (.lit (.bl false))) .nil) .nil) (.cons (.set 1 (.call 30 (.cons (.call 32 (.cons (.var 0) (.cons (.lit (.int 1)) .nil))) (.cons (.lit (.int 0)) .nil)))) rest)) s0 ⟨0, []⟩ = res := fun e => (exs_cons (exs_no x0 rfl)).trans ((exs_cons (exs_set x1 rfl)).trans e)
  by_cases z : d = 0
  · rw [decide_eq_true z] at c3
    have hC3 : C3.n = (if ns = [] then 1823 else 1822) := by
      rw [hN, hn2, hn1]
      show 1818 + (if ns = [] then 4 else 3) + 1 = _
      split <;> rfl
    have hr : ∃ C', RF.run T.fs 59 50 [] C3 = .ok (.bl true) C' := by
      obtain ⟨m, os3⟩ := C3
      have hC3 : m = (if ns = [] then 1823 else 1822) := hC3
      by_cases q : ns = []
      · rw [if_pos q] at hC3
        subst hC3
        exact isT_of (r50b os3)
      · rw [if_neg q] at hC3
        subst hC3
        exact isT_of (r50a os3)
    obtain ⟨C4, e4⟩ := hr
    exact ⟨C4, call_rt (d := c52) rfl rfl (head (exs_rt ((exs_yes c3 rfl).trans (exs_rt (exs_ret ((ev_call (l := []) rfl).trans e4))))))⟩
  · rw [decide_eq_false z] at c3
    obtain ⟨n4, C4, e4, go4, b4, hn4⟩ := drawn_ 46 go3.wf b3 (by omega)
    obtain ⟨n5, C5, e5, go5, b5, hn5⟩ := drawn_ 46 go4.wf b4 (by omega)
    exact ⟨C5, call_rt (d := c52) rfl rfl (head ((exs_cons (exs_no c3 rfl)).trans (exs_rt (exs_ret ((ev_and ((ev_call (l := [.ref C1.n]) rfl).trans e4) rfl).trans ((ev_call (l := [.ref C1.n]) rfl).trans e5))))))⟩
end K04
end
section
set_option Elab.async false
set_option linter.all false
set_option maxRecDepth 100000
set_option maxHeartbeats 0
namespace K04
open PySem PySem.Spec PyProof.Rows L2 RF
theorem okT : T.ok = true := by decide +kernel
abbrev R0 : PySem.W.OpenRow := PySem.W.OpenLaw.row PySem.Challenge.rw_paidbyheirs_k04_whole_what_slots_hold_by
abbrev hk : PySem.W.Hook := He.hookX 4 T.fa T.fns [] [] T.exB
def ob (s : PySem.W.SharedT) : He.AlX := He.obsX 4 T.fa T.fns [] [] T.exB (HandSHeadRun.getT s)
theorem ob_eq (s : PySem.W.SharedT) : ob s = hk.obs s.abs := He.obsX_eq (HandSHeadRun.getT_eq s)
def loose : List Str := (Pw.boundNames.filter (fun n => n != ("law":Str) && n != ("__name__":Str)))
theorem run_ (w : World) : HandSHeadRun.RunEq R0 (PySem.W.view R0.prog [62]) hk ob 4000 loose w := by
  intro os
  kernel_rfl
end K04
end
section
set_option Elab.async false
set_option linter.all false
set_option maxRecDepth 100000
set_option maxHeartbeats 4000000
namespace K04
open PySem PySem.Spec PyProof.Rows L2 RF
theorem bind2 {x q : Str} {p : Arguments} {body : List Stmt} {scope : Scope} {kV doc pm cdv ct : Value} {an : Option Addr} (h : PlainP p) (hp : p.args.map (·.arg) = (["craft", "web"] : List PySem.Str)) (a b : Value) :
    bindArgs (PySem.W.fnOf x q p body scope .none kV doc pm an cdv ct) ⟨[], [("web", a), ("craft", b)]⟩ = pure ([("craft", b), ("web", a)] : List (PySem.Str × Value)) := by
  obtain ⟨h1, h2, h3, h4, h5⟩ := h
  obtain ⟨po, as, va, kws, kd, ka, ds⟩ := p
  simp only at h1 h2 h3 h4 h5 hp
  subst h1 h2 h3 h4
  match as, hp with
  | [⟨n1, an1, at1⟩, ⟨n2, an2, at2⟩], hp =>
    simp only [List.map_cons, List.map_nil, List.cons.injEq, and_true] at hp
    obtain ⟨e1, e2⟩ := hp
    subst e1 e2
    rfl
theorem bind3 {x q : Str} {p : Arguments} {body : List Stmt} {scope : Scope} {kV doc pm cdv ct : Value} {an : Option Addr} (h : PlainP p) (hp : p.args.map (·.arg) = (["craft", "web", "wait"] : List PySem.Str)) (a b c : Value) :
    bindArgs (PySem.W.fnOf x q p body scope .none kV doc pm an cdv ct) ⟨[], [("wait", a), ("web", b), ("craft", c)]⟩ = pure ([("craft", c), ("web", b), ("wait", a)] : List (PySem.Str × Value)) := by
  obtain ⟨h1, h2, h3, h4, h5⟩ := h
  obtain ⟨po, as, va, kws, kd, ka, ds⟩ := p
  simp only at h1 h2 h3 h4 h5 hp
  subst h1 h2 h3 h4
  match as, hp with
  | [⟨n1, an1, at1⟩, ⟨n2, an2, at2⟩, ⟨n3, an3, at3⟩], hp =>
    simp only [List.map_cons, List.map_nil, List.cons.injEq, and_true] at hp
    obtain ⟨e1, e2, e3⟩ := hp
    subst e1 e2 e3
    rfl
theorem lookN {β : Type} : ∀ {l : List (Nat × β)} {x : Nat} {v : β}, l.lookup x = some v → (x, v) ∈ l
  | [], _, _, h => by cases h
  | (y, u) :: l, x, v, h => by
    rw [List.lookup_cons] at h
    cases e : x == y with
    | true =>
      rw [e] at h
      cases h
      rw [beq_iff_eq] at e
      rw [e]
      exact List.mem_cons_self ..
    | false =>
      rw [e] at h
      exact List.mem_cons_of_mem _ (lookN h)
/-- what stands in the table of the keyword calls -/
def kwB (f : Nat) (p : List PySem.Str × List Nat) : Bool := match T.fn[f]? with
  | some D => plainB D.params && ((decide (p.1 = (["web", "craft"] : List PySem.Str)) && (decide (p.2 = [1, 0]) && decide (psOf D = (["craft", "web"] : List PySem.Str)))) || (decide (p.1 = (["wait", "web", "craft"] : List PySem.Str)) && (decide (p.2 = [2, 1, 0]) && decide (psOf D = (["craft", "web", "wait"] : List PySem.Str)))))
  | none => false
theorem kw_all : (T.kw.all fun e => e.2.all fun p => kwB e.1 p) = true := by decide +kernel
theorem kwO : T.KwO := by
  intro f D hD ks pm h kV doc pp an cdv ct ws us hl hu
  have hb : kwB f (ks, pm) = true := by
    have h : (ks, pm) ∈ (T.kw.lookup f).getD [] := h
    cases e : T.kw.lookup f with
    | none => rw [e] at h; cases h
    | some l =>
      rw [e] at h
      exact List.all_eq_true.mp (List.all_eq_true.mp kw_all (f, l) (lookN e)) (ks, pm) h
  unfold kwB at hb
  rw [hD] at hb
  simp only [Bool.and_eq_true, Bool.or_eq_true, decide_eq_true_eq] at hb
  obtain ⟨hpl, ⟨rfl, rfl, hp⟩ | ⟨rfl, rfl, hp⟩⟩ := hb
  · match ws, hl with
    | [a, b], _ =>
      have e : us = [b, a] := by simpa [mapO] using hu.symm
      subst e
      rw [hp]
      exact bind2 (plain_of hpl) hp a b
  · match ws, hl with
    | [a, b, c], _ =>
      have e : us = [c, b, a] := by simpa [mapO] using hu.symm
      subst e
      rw [hp]
      exact bind3 (plain_of hpl) hp a b c
end K04
end
section
set_option Elab.async false
set_option linter.all false
set_option maxRecDepth 100000
set_option maxHeartbeats 0
namespace K04
open PySem PySem.Spec PyProof.Rows L2 RF
theorem scr_ints {K : Fg} {H : Hp} {L : List Addr} : ∀ ns : List Int, RWs K H L (ns.map W.int) (ns.map V.int)
  | [] => .nil
  | n :: ns => .cons (.int n) (scr_ints ns)
theorem sp_law {P : Program} {w : World} {K : Fg} {H : Hp} {a : Addr} {ns : List Int} {f : Nat} {C' : CH} (hn : T.np f = 1) (ho : Only H) (hs : SqL K H a (ns.map V.int)) (hr : RF.run T.fs 60 f [.scr (ns.map W.int)] ⟨0, []⟩ = .ok (.bl true) C') :
    (T.V P w 60).sp K f [.ref a] H (fun v _ => v = .bl true) fun _ _ _ => False := by
  refine ⟨hn.symm, [], ⟨0, []⟩, [.scr (ns.map W.int)], ⟨rfl, rfl, fun r q a h => by simp at h, fun r a o h => by simp at h⟩, .cons (.scr (vs := ns.map V.int) ?_ (scr_ints ns)) .nil, ?_⟩
  · rcases hs with (h | ⟨o, h⟩) | h
    · rcases ho a with z | ⟨o, xs, z⟩
      · rw [z] at h; cases h
      · rw [z] at h; cases h
    · exact .inl ⟨o, h⟩
    · exact .inr h
  · show Post K H [] (RF.run T.fs 60 f [.scr (ns.map W.int)] ⟨0, []⟩) _ _
    rw [hr]
    intro H' L' v _ _ r
    exact r.bl_inv
theorem facts {P : Program} {w : World} {K : PySem.W.Frag} {h : Heap} {mg : Str → Option Value} {f : Addr} (X : K.In h) (G : h.Ns mainGlobals mg) (hfa : mg ("law" : Str) = some (.ref f)) (c : He.SaysD T.fa T.fns K) (hX : T.exB K = true) :
    ∃ fd : FuncData, (∀ (s : Shared) (v : Value), BindsTo s fd ⟨[v], []⟩ [("script", v)]) ∧ ∀ base : Heap, K.In base → base.Ns mainGlobals mg → FnOk P w K mg base CX0 62 f fd ["script"] (fun vs H Q _ => (T.V P w 60).sp K 52 vs H Q fun _ _ _ => False) := by
  have hD : ∃ D, T.fn[52]? = some D ∧ D.name = ("law" : Str) ∧ psOf D = [("script" : Str)] := by
    have h1 : (match T.fn[52]? with
      | some D => decide (D.name = ("law" : Str)) && decide (psOf D = [("script" : Str)])
      | none => false) = true := by decide +kernel
    split at h1
    · rename_i D e
      simp only [Bool.and_eq_true, decide_eq_true_eq] at h1
      exact ⟨D, e, h1.1, h1.2⟩
    · cases h1
  obtain ⟨D, hD, hn, hp⟩ := hD
  have hT1 : okAll T.GT T.fs T.fn T.Ns = true := (Bool.and_eq_true_iff.mp okT).1
  obtain ⟨pl, fd, F⟩ := defs_fd hT1 c hD
  have m1 := defs_glo X G c hD
  rw [hn, hfa] at m1
  have e : f = He.ga K D.name := by
    rw [hn]
    injection m1 with m1
    injection m1
  refine ⟨fd, fun s v => ?_, fun base hb hg => ?_⟩
  · have := FnD.bt F pl s [v] (by rw [hp]; rfl)
    rw [hp] at this
    exact this
  · have := FnOk.to0 (defs_ok (P := P) (w := w) okT kwO (fun k => lenSet _) hb hg c hX 60 52 D fd hD F)
    rw [hp, ← e] at this
    exact this
end K04
end
set_option Elab.async false
set_option linter.all false
set_option maxRecDepth 100000
set_option maxHeartbeats 0
open PySem PySem.W PySem.Calls PyProof.Rows
theorem PySem.Challenge.cw_paidbyheirs_k04_whole_what_slots_hold_by_holds : PySem.Challenge.rw_paidbyheirs_k04_whole_what_slots_hold_by.Holds := by
  w_on; o_law
  refine HandSHeadRun.head_any (r := OpenLaw.row PySem.Challenge.rw_paidbyheirs_k04_whole_what_slots_hold_by) (q := view (OpenLaw.row PySem.Challenge.rw_paidbyheirs_k04_whole_what_slots_hold_by).prog [62]) (H := K04.hk) (ob := K04.ob) (M := 4000) (loose := K04.loose) (d := HandSHeadRun.topDef (OpenLaw.row PySem.Challenge.rw_paidbyheirs_k04_whole_what_slots_hold_by).prog 62) (kwd := []) K04.ob_eq
    (by kernel_rfl) (fun s => by kernel_rfl) K04.run_ (by kernel_rfl) (by kernel_rfl) (by kernel_rfl) (by rfl) (by first | assumption | decide +kernel) (by decide +kernel) ⟨rfl, rfl, rfl, rfl, rfl, by decide +kernel⟩ ?hw ?hc
  case hw => w_witness2
  case hc =>
    refine L2.walk_ofE (l := PySem.Challenge.rw_paidbyheirs_k04_whole_what_slots_hold_by) (n := 63) (k := 62) (x := "script") (CX := L2.CX0) rfl (by decide) (by kernel_rfl) ⟨rfl, by decide, by decide⟩ ?F (fun _ _ _ _ z => z)
    intro w mg fa h Y G hmg0
    obtain ⟨K, KX, c⟩ := Y
    have hmg : mg ("law" : PySem.Str) = some (.ref fa) := by
      have e : (HandSHeadRun.topDef (OpenLaw.row PySem.Challenge.rw_paidbyheirs_k04_whole_what_slots_hold_by).prog 62).name = ("law" : PySem.Str) := by kernel_rfl
      rw [← e]
      exact hmg0
    obtain ⟨fd, hb, hF⟩ := K04.facts (P := (PySem.Challenge.rw_paidbyheirs_k04_whole_what_slots_hold_by).prog) (w := w) KX G hmg c.t.d c.more
    refine ⟨K, fd, _, KX, hb, fun H a ns hl ho hs => ?_, hF⟩
    obtain ⟨C', hr⟩ := K04.law_ ns hl
    exact K04.sp_law (by decide +kernel) ho hs hr
